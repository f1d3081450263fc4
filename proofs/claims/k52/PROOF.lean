import PyProof.Rows.All
import Wide.All
import OpenK.AllK
import Wide.FinOn
import Lean
import PyProof.EqAt
import PyProof.EqKinds
import PyProof.TupleCall
import PySem.Challenge.RW_stonelay_k52_steps_that_hold
set_option Elab.async false
set_option linter.all false
set_option maxRecDepth 100000
namespace QZ
open PySem PySem.W
noncomputable def sel:List Nat->Nat->List Stmt->List Stmt
 | _,_,[]=>[]
 | ns,i,x::xs=>match ns.contains i with
  | true=>sel ns (i+1) xs
  | false=>x::sel ns (i+1) xs
theorem zfN {r:OpenRow}{q:Program}{H:Hook}{d:DefRec}{kwd:List (PySem.Str×Expr)}{N:Nat}(left:LeftO r.prog q [] (fun s=>xlAt q [] s&&recOk (RowW.records r.toRowW) s) (Hook.obs H) (Hook.val H) N)
  (hdef:defOf q r.name=some (d,kwd)) (hp:r.prog.theDef r.name=some (d.params,d.body,d.scope)) (hk:kwWritten? d.params.kwonlyargs d.params.kw_defaults=some kwd) (hwr:(!r.writes || r.records.isEmpty)=true)
  (k1:r.wellSaid=true) (ok:(chainsOk q&&opensWell r.prog&&(frees r.toRowW&&r.within.isEmpty))=true) (hb:r.prog.bare) (hw:r.toRowW.promised)
  (call:WalkO q [] (XL q []) (Hook.says H) r.toRowW d kwd fun f vs=>PySem.call f vs):r.Holds :=
 holds_open (q:=q) (loose:=[]) (Xt:=fun s=>xlAt q [] s&&recOk (RowW.records r.toRowW) s) (XP:=XL q []) (Yf:=Hook.obs H) (Ya:=Hook.val H) (YP:=Hook.says H) (N:=N) left (Hook.of H) (Hook.keeps H) (fun s e=>xl_of s (Bool.and_eq_true_iff.mp e).1) XL.keeps hdef hp hk
  (fun s e=>recFacts_of (Bool.and_eq_true_iff.mp e).2) hwr k1 ok hb hw call
noncomputable def top (i:Nat):Stmt:=PySem.Challenge.pw_stonelay_k52_steps_that_hold.main.body.getD i (.Pass ⟨0,0,0,0⟩)
noncomputable def xY (s:Stmt):Arguments:=match s with
 | .FunctionDef _ a _ _ _ _ _ _ _ _=>a
 | _=>{ posonlyargs:=[],args:=[],vararg:=none,kwonlyargs:=[],kw_defaults:=[],kwarg:=none,defaults:=[] }
noncomputable def yp (s:Stmt):List Stmt:=match s with
 | .FunctionDef _ _ b _ _ _ _ _ _ _=>b
 | _=>[]
noncomputable def zk (s:Stmt):Scope:=match s with
 | .FunctionDef _ _ _ _ _ _ sc _ _ _=>sc
 | _=>{ kind:=.function,names:=[],isGenerator:=false,isCoroutine:=false }
def HD (K:PySem.W.Frag)(x:Str)(i:Nat):Prop:=∃(f:Addr) (oc:Value) (od an:Option Addr) (sl:Array (Option Value)) (kV dc pm cd ct:Value),PySem.W.nsIn K mainGlobals x=some (some (.ref f))/\K.lookup f=some ⟨oc,od,.func (PySem.W.fnOf x x (xY (top i)) (yp (top i)) (zk (top i)) .none kV dc pm an cd ct),sl⟩/\PySem.W.codeIn K cd x=true/\PySem.W.keepIn K (.ref f)=true
def zfO:List Value:=[.type "ValueError",.type "Exception",.type "BaseException",.type "object"]
structure Facts (K:PySem.W.Frag):Prop where
 Yp:HD K "closed" 6
 yS:HD K "open_cells" 7
 Yq:HD K "around" 8
 xZ:HD K "number_at" 9
 JQ:HD K "cells_of" 10
 ZL:HD K "sign_at" 11
 jE:HD K "closed_around" 13
 ZM:HD K "follows" 16
 JR:HD K "asked_by" 17
 JS:HD K "known_of" 18
 yq:HD K "still_asked" 19
 Yr:HD K "gained" 20
 ZN:HD K "settled" 21
 QK:HD K "holds" 22
 Ys:HD K "picked" 23
 yT:HD K "are_things" 24
 x8:HD K "are_cells" 25
 ZO:HD K "is_cell" 26
 yr:HD K "_law_cell_at" 28
 x9:HD K "_law_mixed" 29
 JT:HD K "_law_mark" 30
 Ja:HD K "_law_drawn" 31
 Jb:HD K "_law_cells" 32
 JU:HD K "_law_near" 33
 Jc:HD K "_law_board" 34
 JV:HD K "_law_bent" 35
 yt:HD K "_law_finding" 36
 yU:HD K "_law_looked" 37
 yV:HD K "_law_things" 39
 JW:HD K "_law_told" 40
 yu:HD K "_law_spoiled" 41
 ZP:HD K "_law_due" 42
 zeQ:HD K "law" 43
 zeR:PySem.W.nsIn K mainGlobals "abs"=some none
 zeS:PySem.W.nsIn K mainGlobals "all"=some none
 zbW:PySem.W.nsIn K mainGlobals "bool"=some none
 zbX:PySem.W.nsIn K mainGlobals "dict"=some none
 Jd:PySem.W.nsIn K mainGlobals "enumerate"=some none
 zeT:PySem.W.nsIn K mainGlobals "int"=some none
 yW:PySem.W.nsIn K mainGlobals "isinstance"=some none
 zeU:PySem.W.nsIn K mainGlobals "len"=some none
 zbY:PySem.W.nsIn K mainGlobals "list"=some none
 zeV:PySem.W.nsIn K mainGlobals "max"=some none
 zeW:PySem.W.nsIn K mainGlobals "min"=some none
 QL:PySem.W.nsIn K mainGlobals "range"=some none
 zeX:PySem.W.nsIn K mainGlobals "set"=some none
 Yt:PySem.W.nsIn K mainGlobals "sorted"=some none
 zeY:PySem.W.nsIn K mainGlobals "str"=some none
 zeZ:PySem.W.nsIn K mainGlobals "sum"=some none
 QM:PySem.W.nsIn K mainGlobals "tuple"=some none
 ze0:∃t,PySem.W.nsIn K mainGlobals "ALL"=some (some (.str "all" t))
 yv:∃t,PySem.W.nsIn K mainGlobals "CLOSED_SIGN"=some (some (.str "?" t))
 jQ:∃t,PySem.W.nsIn K mainGlobals "NO_CELL_SIGN"=some (some (.str "#" t))
 c_NoLaying:∃C_NoLaying:Addr,PySem.W.nsIn K mainGlobals "NoLaying"=some (some (.ref C_NoLaying))/\PySem.W.excIn K C_NoLaying zfO "ValueError.__new__"=true/\PySem.W.mroIn K C_NoLaying (.ref C_NoLaying)=some true
end QZ
noncomputable def QZ.view:PySem.Program:={ PySem.Challenge.rw_stonelay_k52_steps_that_hold.prog with main:={ PySem.Challenge.rw_stonelay_k52_steps_that_hold.prog.main with body:=QZ.sel [0,3,12,14,27] 0 PySem.Challenge.rw_stonelay_k52_steps_that_hold.prog.main.body } }
local macro_rules | `(tactic| o_head $H)=>`(tactic| (refine' QZ.zfN (q:=QZ.view) (H:=$H) (N:=3114) (fun _=>by kernel_rfl) (by rfl) (by rfl) (by rfl) (by rfl) (by first | assumption | decide +kernel) (by decide +kernel) ⟨rfl,rfl,rfl,rfl,rfl,by decide +kernel⟩ ?_ ?_))
open PySem PySem.W PyProof.Rows in
set_option maxRecDepth 100000 in
set_option maxHeartbeats 0 in
theorem QZ.look:PySem.Challenge.rw_stonelay_k52_steps_that_hold.wellSaid=true:=by kernel_rfl
open PySem PySem.W PyProof.Rows in
set_option maxRecDepth 100000 in
set_option maxHeartbeats 0 in
theorem QZ.early (h:∀{q:Program} {XP:(Str->Option Value)->Heap->Prop} {YP:World->Heap->Prop} {d:DefRec} {K:Params->PySem.W.Frag},d.params.defaults=[]->(∀(w:World) (h:Heap),YP w h->(K w.params).In h)->d.name="law"->(∀w:World,QZ.Facts (K w.params))->PySem.W.WalkO q [] XP YP PySem.Challenge.rw_stonelay_k52_steps_that_hold.row.toRowW d [] (fun f vs=>PySem.call f vs)):PySem.Challenge.rw_stonelay_k52_steps_that_hold.Holds:=by
 w_on;refine holds_law QZ.look fun said=>?_
 k_head;w_witness2
 k_fill
 refine h rfl (fun w h Y=>PySem.W.kIn_of Y) rfl fun w=>?_
 constructor
 all_goals first | k_is | exact⟨_,_,_,_,_,_,_,_,_,_,by k_is,by k_is,by k_is,by k_is⟩ | exact⟨_,by k_is⟩ | exact⟨_,by k_is,by k_exc,by first | k_is | kit_is⟩
open Array (length_toList getElem?_toList toList_append getElem?_eq_none size_map toList_map getElem_toList toList_reverse size_reverse size_extract toList_push)
open Nat (le_refl le_trans ne_of_lt zero_le lt_of_le_of_lt lt_of_lt_of_le lt_irrefl le_succ zero_add lt_succ_of_lt succ_pos lt_or_ge succ_ne_self le_add_right sub_self mod_lt)
open List (length_map getElem?_eq_getElem mem_of_getElem? length_append map_cons mem_cons_self length_take mem_cons_of_mem size_toArray length_cons append_nil take_length getElem?_map take_add_one map_append mem_append_right append_assoc take_of_length_le getD_eq_getElem?_getD take_append_drop mem_of_mem_take length_drop foldl_cons map_map filter_append length_filter_le getElem?_append_left drop_eq_getElem_cons filter_sublist map_congr_left length_nil countP_cons mem_append_left replicate length_range find?_cons filter_cons all_eq_true any_cons lookup_cons getElem_mem map_nil any_map)
open Bool (and_eq_true false_eq_true not_eq_true')
open Int (le_of_lt toNat_natCast emod_nonneg)
open Option (map_some getD_some)
noncomputable section
namespace L2
open PySem PySem.Spec PyProof.Rows
abbrev Key:=Sum Int Str
noncomputable def zbh:Key->Value->Bool
 | .inl k,v=>Value.isInt k v
 | .inr x,v=>Value.isStrOf x v
noncomputable def zjG (w:World):Key->Int
 | .inl k=>hashInt k
 | .inr x=>hashStr w x
theorem qM:∀{k:Key} {v:Value},zbh k v=true->(∃i t,k=Sum.inl i/\v=Value.int i t)\/(∃x t,k=Sum.inr x/\v=Value.str x t)
 | .inl i,v,h=>by
  obtain⟨t,e⟩:=Value.isInt_shape (k:=i) (v:=v) h
  exact .inl ⟨i,t,rfl,e⟩
 | .inr x,v,h=>by
  obtain⟨t,e⟩:=Value.isStrOf_shape (x:=x) (v:=v) h
  exact .inr ⟨x,t,rfl,e⟩
theorem Y5 (i:Int)(t:Tok):zbh (.inl i) (.int i t)=true:=by simp [zbh,Value.isInt]
theorem zfP (x:Str)(t:Tok):zbh (.inr x) (.str x t)=true:=by simp [zbh,Value.isStrOf]
theorem zjH (a b:Int):decide ((Sum.inl a:Key)=Sum.inl b)=(a==b):=by
 by_cases e:a=b
 ·subst e;simp
 ·have h:¬ (Sum.inl a:Key)=Sum.inl b:=fun q=>e (Sum.inl.inj q)
  rw [decide_eq_false h]
  exact(beq_eq_false_iff_ne.mpr e).symm
theorem zjI (a b:Str):decide ((Sum.inr a:Key)=Sum.inr b)=decide (a=b):=by
 by_cases e:a=b
 ·subst e;simp
 ·have h:¬ (Sum.inr a:Key)=Sum.inr b:=fun q=>e (Sum.inr.inj q)
  rw [decide_eq_false h,decide_eq_false e]
theorem zjJ (a:Int)(b:Str):decide ((Sum.inl a:Key)=Sum.inr b)=false:=decide_eq_false (fun q=>nomatch q)
theorem zjK (a:Str)(b:Int):decide ((Sum.inr a:Key)=Sum.inl b)=false:=decide_eq_false (fun q=>nomatch q)
noncomputable def zR (prog:Program)(w:World):PySem.KeyKind prog w Key where
 is:=zbh
 hash:=zjG w
 inj:=fun v a b ha hb=>by
  rcases qM ha with ⟨i,t,rfl,rfl⟩ | ⟨x,t,rfl,rfl⟩
  ·rcases qM hb with ⟨j,u,rfl,e⟩ | ⟨y,u,rfl,e⟩
   ·injection e with e1 _;rw [e1]
   ·exact nomatch e
  ·rcases qM hb with ⟨j,u,rfl,e⟩ | ⟨y,u,rfl,e⟩
   ·exact nomatch e
   ·injection e with e1 _;rw [e1]
 byValue:=fun k v h=>by
  rcases qM h with ⟨i,t,rfl,rfl⟩ | ⟨x,t,rfl,rfl⟩<;>rfl
 pyHash:=fun hv h=>by
  rcases qM hv with ⟨i,t,rfl,rfl⟩ | ⟨x,t,rfl,rfl⟩
  ·exact wpAny_pyHash_int h
  ·exact wpAny_pyHash_str h
 eqBool:=fun hu hv h=>by
  rcases qM hu with ⟨i,t,rfl,rfl⟩ | ⟨x,t,rfl,rfl⟩
  ·rcases qM hv with ⟨j,u,rfl,rfl⟩ | ⟨y,u,rfl,rfl⟩
   ·rw [zjH] at h;exact wpAny_eqBool_int h
   ·rw [zjJ] at h;exact SeqAt.EqAt.int_str i t y u _ _ _ _ h
  ·rcases qM hv with ⟨j,u,rfl,rfl⟩ | ⟨y,u,rfl,rfl⟩
   ·rw [zjK] at h;exact SeqAt.EqAt.str_int x t j u _ _ _ _ h
   ·rw [zjI] at h;exact wpAny_eqBool_str h
 «strs»:=fun k x t v h=>by
  rcases qM h with ⟨i,u,rfl,e⟩ | ⟨y,u,rfl,e⟩
  ·exact nomatch e
  ·injection e with e1 _
   subst e1
   cases v<;>rfl
theorem zcK (prog:Program)(w:World)(i:Int)(t:Tok):(zR prog w).is (.inl i) (.int i t)=true:=Y5 i t
theorem zcL (prog:Program)(w:World)(x:Str)(t:Tok):(zR prog w).is (.inr x) (.str x t)=true:=zfP x t
inductive V where
 | non | bl (b:Bool) | int (i:Int) | str (x:Str) | byt (b:Array UInt8) | flt (b:UInt64) | ref (a:Addr) | ty (n:String)
 deriving DecidableEq
def RelV:V->Value->Prop
 | .non,u=>u=Value.none
 | .bl b,u=>u=Value.bool b
 | .int i,u=>∃t,u=Value.int i t
 | .str x,u=>∃t,u=Value.str x t
 | .byt b,u=>∃t,u=Value.bytes b t
 | .flt b,u=>∃t,u=Value.float b t
 | .ref a,u=>u=Value.ref a
 | .ty n,u=>u=Value.type n
abbrev Vals:List V->List Value->Prop:=Paired RelV
theorem Vals.length {xs:List V}{us:List Value}(r:Vals xs us):xs.length=us.length:=Paired.length r
theorem Vals.get:∀{xs:List V} {us:List Value} {i:Nat} {x:V},Vals xs us->xs[i]?=some x->∃u,us[i]?=some u/\RelV x u
 | _,_,_,_,.nil,e=>by simp at e
 | _,_,0,_,.cons r _,e=>by simp at e;subst e;exact⟨_,rfl,r⟩
 | _,_,i+1,x,.cons _ t,e=>by
  obtain⟨u,h1,h2⟩:=Vals.get (i:=i) (x:=x) t (by simpa using e)
  exact⟨u,by simpa using h1,h2⟩
theorem Vals.append:∀{xs ys:List V} {us ws:List Value},Vals xs us->Vals ys ws->Vals (xs++ys) (us++ws)
 | _,_,_,_,.nil,s=>s
 | _,_,_,_,.cons r t,s=>.cons r (Vals.append t s)
theorem Vals.take:∀{xs:List V} {us:List Value} (n:Nat),Vals xs us->Vals (xs.take n) (us.take n)
 | _,_,0,_=>.nil
 | _,_,_+1,.nil=>.nil
 | _,_,n+1,.cons r t=>.cons r (Vals.take n t)
theorem Vals.drop:∀{xs:List V} {us:List Value} (n:Nat),Vals xs us->Vals (xs.drop n) (us.drop n)
 | _,_,0,r=>r
 | _,_,_+1,.nil=>.nil
 | _,_,n+1,.cons _ t=>Vals.drop n t
def zbZ:Option V->Option Value->Prop
 | some v,some u=>RelV v u
 | none,none=>True
 | _,_=>False
def KV {κ:Type}:List (κ × V)->List (κ × Value)->Prop:=Paired fun (p:κ × V) (q:κ × Value)=>p.1=q.1/\RelV p.2 q.2
noncomputable def kV:Key->V
 | .inl i=>.int i
 | .inr x=>.str x
inductive HO where
  | lst (xs:List V)
  | tup (xs:List V)
  | dK (kvs:List (Key×V)) | dT (kvs:List (List Key×V))
  | set (S:Int->Bool) (n:Nat)
  | ins (C dx:Addr) (fs:List (Str×V))
  | own (x:Addr)
  | xd (fs:List (Str×V))
  | met (f x:Addr)
  | rng (lo hi:Int)
  | frz (o:Obj) (u:HO)
  | tbl (ps:Array Value)
  | ext (φ:Heap->Prop)
abbrev Hp:=Addr->Option HO
noncomputable def upd (H:Hp)(a:Addr)(o:HO):Hp:=fun b=>if b=a then some o else H b
theorem zb {H:Hp}{a:Addr}{o:HO}:upd H a o a=some o:=by unfold upd;rw [if_pos rfl]
theorem zo {H:Hp}{a b:Addr}{o:HO}(h:b≠a):upd H a o b=H b:=by unfold upd;rw [if_neg h]
theorem Q0 {H:Hp}{a b:Addr}{o u:HO}(h:H a=some o)(h':H b=some u)(d:o≠u):a≠b:=by
 intro e;subst e;rw [h] at h';exact d (Option.some.inj h')
theorem zj {H:Hp}{a b:Addr}{o:HO}(h:H a=some o)(h':H b=none):a≠b:=by
 intro e;subst e;rw [h] at h';cases h'
section
variable (P:Program)(w:World)
def qB (H:Hp)(h:Heap)(a:Addr):HO->Prop
 | .lst xs=>xs.length<=sizeLine/\∃(its:List Value) (n:Nat),Vals xs its/\h.get? a=some { cls:=.type "list",data:=.seq its.toArray n }
 | .tup xs=>xs.length<=sizeLine/\∃its:List Value,Vals xs its/\IsTup h a its.toArray
 | .dK kvs=>kvs.length<=sizeLine/\(a==sysModules)=false/\∃vs,KV kvs vs/\h.DictOf (zR P w) a vs
 | .dT kvs=>kvs.length<=sizeLine/\(a==sysModules)=false/\∃xs:List (List Key×Addr×Value),
   Paired (fun (p:List Key×V) (q:List Key×Addr×Value)=>p.1=q.1/\H q.2.1=some (.tup (p.1.map kV))/\RelV p.2 q.2.2) kvs xs /\
   ∃o es ep,h.get? a=some o/\o.ExactDict/\o.data=.dict es ep/\es.toList=xs.map (entryOfKey (tupleKind (zR P w)))/\(xs.map (·.1)).Nodup
 | .set S n=>h.SetOf (intKind P w) a S n
 | .ins C dx fs=>H dx=some (.own a)/\fs.length<=1000/\dx≠a/\h.get? a=some (PySem.W.instObj C dx) /\
   ∃mA,h.Ns1 dx mA/\(∀f,zbZ (fs.lookup f) (mA f))/\PySem.Within mA (fs.map (·.1))
 | .own _=>∃o,h.get? a=some o
 | .xd fs=>∃mA,h.Ns1 a mA/\∀f,zbZ (fs.lookup f) (mA f)
 | .rng lo hi=>∃t u v,h.get? a=some { cls:=.type "range",data:=.fields #[.int lo t,.int hi u,.int 1 v] }
 | .frz o u=>h.get? a=some o/\qB H h a u
 | .tbl ps=>h.get? a=some { cls:=.none,data:=.fields ps }
 | .met f x=>h.get? a=some (PySem.W.methodObj (.ref f) (.ref x))
 | .ext φ=>φ h/\(∃o,h.get? a=some o)/\∀h1 h2:Heap,φ h1->(∀o,h1.get? a=some o->h2.get? a=some o)->φ h2
def HOk (H:Hp)(h:Heap):Prop:=∀a o,H a=some o->qB P w H h a o
end
section
variable {P:Program}{w:World}{H H':Hp}{h h':Heap}{a:Addr}{o:HO}
theorem qB.lt (x:qB P w H h a o):a<h.objs.size:=by
 cases o with
 | lst xs=>obtain⟨_,_,_,_,e⟩:=x;exact Heap.lt_size e
 | tup xs=>obtain⟨_,_,_,p⟩:=x;exact p.lt
 | dK kvs=>obtain⟨_,_,_,_,o,_,_,e,_⟩:=x;exact Heap.lt_size e
 | dT kvs=>obtain⟨_,_,_,_,o,_,_,e,_⟩:=x;exact Heap.lt_size e
 | set S n=>obtain⟨o,_,_,_,e,_⟩:=x;exact Heap.lt_size e
 | ins C dx fs=>obtain⟨_,_,_,e,_⟩:=x;exact Heap.lt_size e
 | own y=>obtain⟨_,e⟩:=x;exact Heap.lt_size e
 | xd fs=>obtain⟨_,⟨_,_,_,e,_⟩,_⟩:=x;exact Heap.lt_size e
 | rng lo hi=>obtain⟨_,_,_,e⟩:=x;exact Heap.lt_size e
 | frz ob u=>obtain⟨e,_⟩:=x;exact Heap.lt_size e
 | tbl ps=>exact Heap.lt_size (show h.get? a=some _ from x)
 | met f y=>exact Heap.lt_size (show h.get? a=some _ from x)
 | ext φ=>obtain⟨_,⟨_,e⟩,_⟩:=x;exact Heap.lt_size e
theorem Paired.mapP {α β:Type}{F G:α->β->Prop}:∀{l₁:List α} {l₂:List β},Paired F l₁ l₂->(∀a b,F a b->G a b)->Paired G l₁ l₂
 | _,_,.nil,_=>.nil
 | _,_,.cons r t,f=>.cons (f _ _ r) (Paired.mapP t f)
theorem Paired.imp' {α β:Type}{F G:α->β->Prop}(f:∀a b,F a b->G a b){l₁:List α}{l₂:List β}(r:Paired F l₁ l₂):Paired G l₁ l₂:=Paired.mapP r f
theorem qB.stay (x:qB P w H h a o)(k:∀b u,(b=a\/H b=some (.own a))->h.get? b=some u->h'.get? b=some u)
  (ho:∀b,H b=some (.own a)->H' b=some (.own a)) (ht:∀b xs,H b=some (.tup xs)->H' b=some (.tup xs)):qB P w H' h' a o:=by
 induction o with
 | lst xs=>obtain⟨z,its,n,r,e⟩:=x;exact⟨z,its,n,r,k _ _ (.inl rfl) e⟩
 | tup xs=>obtain⟨z,its,r,ob,e,c⟩:=x;exact⟨z,its,r,ob,k _ _ (.inl rfl) e,c⟩
 | dK kvs=>obtain⟨z,y,vs,r,ob,es,ep,e,c⟩:=x;exact⟨z,y,vs,r,ob,es,ep,k _ _ (.inl rfl) e,c⟩
 | dT kvs =>
  obtain⟨z,y,xs,r,ob,es,ep,e,c⟩:=x
  exact⟨z,y,xs,Paired.mapP r fun p q z=>⟨z.1,ht _ _ z.2.1,z.2.2⟩,ob,es,ep,k _ _ (.inl rfl) e,c⟩
 | set S n=>obtain⟨ob,es,ep,t,e,c⟩:=x;exact⟨ob,es,ep,t,k _ _ (.inl rfl) e,c⟩
 | ins C dx fs =>
  obtain⟨d,z,ne,e,mA,⟨od,es,ep,e2,c⟩,r⟩:=x
  exact⟨ho _ d,z,ne,k _ _ (.inl rfl) e,mA,⟨od,es,ep,k _ _ (.inr d) e2,c⟩,r⟩
 | own y=>obtain⟨ob,e⟩:=x;exact⟨ob,k _ _ (.inl rfl) e⟩
 | xd fs=>obtain⟨mA,⟨od,es,ep,e,c⟩,r⟩:=x;exact⟨mA,⟨od,es,ep,k _ _ (.inl rfl) e,c⟩,r⟩
 | rng lo hi=>obtain⟨t,u,v,e⟩:=x;exact⟨t,u,v,k _ _ (.inl rfl) e⟩
 | frz ob u ih=>obtain⟨e,q⟩:=x;exact⟨k _ _ (.inl rfl) e,ih q⟩
 | tbl ps =>
  have e:h.get? a=some { cls:=.none,data:=.fields ps }:=x
  show h'.get? a=some { cls:=.none,data:=.fields ps }
  exact k a _ (.inl rfl) e
 | met f y =>
  have e:h.get? a=some (PySem.W.methodObj (.ref f) (.ref y)):=x
  show h'.get? a=some (PySem.W.methodObj (.ref f) (.ref y))
  exact k a _ (.inl rfl) e
 | ext φ=>obtain⟨p,⟨o,e⟩,st⟩:=x;exact⟨st _ _ p fun o q=>k _ _ (.inl rfl) q,⟨o,k _ _ (.inl rfl) e⟩,st⟩
theorem HOk.lt (x:HOk P w H h)(e:H a=some o):a<h.objs.size:=(x a o e).lt
theorem HOk.fresh (x:HOk P w H h)(e:h.objs.size<=a):H a=none:=by
 cases q:H a with
 | none=>rfl
 | some u=>exact absurd (lt_of_lt_of_le (x.lt q) e) (lt_irrefl _)
theorem HOk.kept (x:HOk P w H h)(k:∀b u,h.get? b=some u->h'.get? b=some u):HOk P w H h':=fun a o e =>
 (x a o e).stay (fun b u _ q=>k b u q) (fun _ q=>q) fun _ _ q=>q
theorem HOk.laid (x:HOk P w H h)(k:∀b u,h.get? b=some u->h'.get? b=some u)(hp:h.objs.size<=a)(new:qB P w (upd H a o) h' a o):HOk P w (upd H a o) h':=fun b u e=>by
 have hn:=x.fresh hp
 by_cases hb:b=a
 ·subst hb;rw [zb] at e;cases e;exact new
 ·rw [zo hb] at e
  exact(x b u e).stay (fun c v _ q=>k c v q) (fun c q=>by rw [zo (zj q hn)];exact q) fun c xs q=>by rw [zo (zj q hn)];exact q
end
def Rd (H:Hp)(a:Addr)(u:HO):Prop:=H a=some u\/∃o,H a=some (.frz o u)
theorem Rd.ok {P:Program}{w:World}{H:Hp}{h:Heap}{a:Addr}{u:HO}(r:Rd H a u)(x:HOk P w H h):qB P w H h a u:=by
 rcases r with r | ⟨o,r⟩
 ·exact x a u r
 ·obtain⟨_,q⟩:=x a _ r
  exact q
def Mut:Option HO->Prop
 | some (.lst _)=>True
 | some (.dK _)=>True
 | some (.dT _)=>True
 | some (.set _ _)=>True
 | some (.ins _ _ _)=>True
 | some (.ext _)=>True
 | _=>False
section
variable {P:Program}{w:World}{H:Hp}{h h':Heap}{x e:Addr}{o':HO}
theorem HOk.write (ok:HOk P w H h)(mu:Mut (H x))(he:e=x\/H e=some (.own x))(k:∀b u,b≠e->h.get? b=some u->h'.get? b=some u)(heo:∃u,h'.get? e=some u)
  (new:qB P w (upd H x o') h' x o'):HOk P w (upd H x o') h':=fun b u q=>by
 have nown:∀c y,H c=some (.own y)->c≠x:=fun c y r z=>by subst z;rw [r] at mu;exact mu
 have ntup:∀c xs,H c=some (.tup xs)->c≠x:=fun c xs r z=>by subst z;rw [r] at mu;exact mu
 by_cases hb:b=x
 ·subst hb;rw [zb] at q;cases q;exact new
 ·rw [zo hb] at q
  by_cases hbe:b=e
  ·have q':H b=some (.own x):=by
    rcases he with z | z
    ·exact absurd (hbe.trans z) hb
    ·rw [hbe];exact z
   rw [q] at q';cases q'
   obtain⟨v,hv⟩:=heo
   exact⟨v,by rw [hbe];exact hv⟩
  ·refine(ok b u q).stay (fun c v hc r=>k c v ?_ r) (fun c r=>by rw [zo (nown c b r)];exact r) fun c xs r=>by rw [zo (ntup c xs r)];exact r
   rcases hc with rfl | hc
   ·exact hbe
   ·rintro rfl
    rcases he with z | z
    ·exact nown c b hc z
    ·rw [hc] at z;cases z;exact hb rfl
end
structure Un (fs ex:List Addr)(H H':Hp)(h h':Heap):Prop where
 keep:∀b o,h.get? b=some o->H b=none->b ∉ fs->b ∉ ex->h'.get? b=some o
 slot:∀b o,h.get? b=some o->H b=none->b∈fs->b ∉ ex->∃sl,h'.get? b=some { o with slots:=sl }
 free:∀b o,h.get? b=some o->H b=none->b ∉ ex->H' b=none
 there:∀b o,h.get? b=some o->b ∉ ex->∃o',h'.get? b=some o'
 tups:∀b xs,H b=some (.tup xs)->H' b=some (.tup xs)
 frzs:∀b o u,H b=some (.frz o u)->H' b=some (.frz o u)
 tbls:∀b ps,H b=some (.tbl ps)->∃more,H' b=some (.tbl (ps++more))
section
variable {fs fs' ex ex':List Addr}{H H1 H2:Hp}{h h1 h2 h':Heap}{a x e:Addr}{o:HO}
theorem Un.any (u:Un fs ex H H1 h h1){b:Addr}{ob:Obj}(q:h.get? b=some ob)(n:H b=none)(hx:b ∉ ex):∃sl,h1.get? b=some { ob with slots:=sl }:=by
 by_cases hb:b∈fs
 ·exact u.slot b ob q n hb hx
 ·exact⟨ob.slots,u.keep b ob q n hb hx⟩
theorem Un.kept (k:∀b u,h.get? b=some u->h'.get? b=some u):Un fs ex H H h h' :=
 ⟨fun b ob q _ _ _=>k b ob q,fun b ob q _ _ _=>⟨ob.slots,k b ob q⟩,fun _ _ _ n _=>n,fun b ob q _=>⟨ob,k b ob q⟩,fun _ _ q=>q,fun _ _ _ q=>q,fun _ ps q=>⟨#[],by rw [q];simp⟩⟩
theorem Un.refl:Un fs ex H H h h:=Un.kept fun _ _ q=>q
theorem Un.laid (k:∀b u,h.get? b=some u->h'.get? b=some u)(hp:h.objs.size<=a)(hn:H a=none):Un fs ex H (upd H a o) h h' where
 keep:=fun b u q _ _ _=>k b u q
 slot:=fun b u q _ _ _=>⟨u.slots,k b u q⟩
 free:=fun b u q n _=>by rw [zo (ne_of_lt (lt_of_lt_of_le (Heap.lt_size q) hp))];exact n
 there:=fun b u q _=>⟨u,k b u q⟩
 tups:=fun b xs q=>by rw [zo (zj q hn)];exact q
 frzs:=fun b u xs q=>by rw [zo (zj q hn)];exact q
 tbls:=fun b ps q=>⟨#[],by rw [zo (zj q hn),q];simp⟩
theorem Un.write (mu:Mut (H x))(he:e=x\/H e=some (.own x))(k:∀b u,b≠e->h.get? b=some u->h'.get? b=some u)(heo:∃u,h'.get? e=some u):Un fs ex H (upd H x o) h h':=by
 have hx:∀b,H b=none->b≠x:=fun b n z=>by subst z;rw [n] at mu;exact mu
 have hb:∀b,H b=none->b≠e:=fun b n z=>by
  subst z
  rcases he with r | r
  ·exact hx b n r
  ·rw [n] at r;cases r
 have hm:∀b u,H b=some u->¬ Mut (some u)->b≠x:=fun b u q nm z=>by subst z;rw [q] at mu;exact nm mu
 refine⟨fun b u q n _ _=>k b u (hb b n) q,fun b u q n _ _=>⟨u.slots,k b u (hb b n) q⟩,fun b u q n _=>by rw [zo (hx b n)];exact n,fun b u q _=>?_,
  fun b xs q=>by rw [zo (hm b _ q fun z=>z)];exact q,fun b u xs q=>by rw [zo (hm b _ q fun z=>z)];exact q,fun b ps q=>⟨#[],by rw [zo (hm b _ q fun z=>z),q];simp⟩⟩
 by_cases hbe:b=e
 ·subst hbe;exact heo
 ·exact⟨u,k b u hbe q⟩
end
noncomputable def trk (h:Heap)(H:Hp):List Addr:=(List.range h.objs.size).filter fun a=>(H a).isSome
noncomputable def zb0 (h:Heap)(H:Hp):Heap:=PySem.W.hideAll h (trk h H)
theorem zfQ (h:Heap)(H:Hp):(zb0 h H).objs.size=h.objs.size:=PySem.W.hideAll_size _ _
theorem zgR {h:Heap}{H:Hp}{b:Addr}{o:Obj}(e:h.get? b=some o)(n:H b=none):(zb0 h H).get? b=some o :=
 PySem.W.hideAll_get _ e fun hm=>by
  have q:(H b).isSome=true:=(List.mem_filter.mp hm).2
  rw [n] at q;simp at q
theorem zim {h:Heap}{H:Hp}{b:Addr}{o:Obj}(e:(zb0 h H).get? b=some o):h.get? b=some o/\H b=none:=by
 have e':h.get? b=some o:=PySem.W.of_hideAll (trk h H) e
 refine⟨e',?_⟩
 cases q:H b with
 | none=>rfl
 | some x =>
  have hm:b∈trk h H:=List.mem_filter.mpr ⟨List.mem_range.mpr (Heap.lt_size e'),by simp [q]⟩
  have z:(zb0 h H).get? b=none:=PySem.W.hideAll_none (trk h H) hm
  rw [z] at e;cases e
structure Mod (K:PySem.W.Frag)(mg:Str->Option Value)(base:Heap):Prop where
 kin:K.In base
 glob:base.Ns mainGlobals mg
 blt:∃mb,base.Ns builtinsNs mb/\∀x:Str,x ≠ "__name__"->mb x=bootBuiltins x
 nolimit:base.NoLimit
structure Cx where
 prog:Program
 w:World
 K:PySem.W.Frag
 mg:Str->Option Value
 base:Heap
 A:Around
 N:List Str
 s₀:Shared
 H₀:Hp
 env:Env
 outer:List Env
 stack:List Env
 ex:List Addr
 fn:Str->Bool
 calm:Bool
 pn:List (Addr×Obj)
 xe:Value->Shared->Prop
noncomputable def frs (l:List Env):List Addr:=l.filterMap (·.frame)
abbrev Cx.fs (X:Cx):List Addr:=frs X.outer
def Vis (sc:Scope)(x:Str):Prop:=sc.names.lookup x=some .local\/sc.names.lookup x=some .cell\/sc.names.lookup x=some .free
def Loc (sc:Scope)(x:Str):Prop:=sc.names.lookup x=some .local\/sc.names.lookup x=some .cell
def Look (env:Env)(h:Heap)(m:Str->Option Value)(x:Str)(u:Value):Prop :=
 (env.kindOf x=some .local/\m x=some u)\/((env.kindOf x=some .cell\/env.kindOf x=some .free)/\∃c,env.cells.lookup x=some c/\h.IsCell c (some u))
structure Cx.Ok (X:Cx):Prop where
 mod:Mod X.K X.mg X.base
 kind:X.env.scope.kind=.function
 glob:X.env.globals=mainGlobals
 blt:X.env.builtins=builtinsNs
 above:X.s₀.heap.objs.size<=X.env.locals
 inj:∀x y c,X.env.cells.lookup x=some c->X.env.cells.lookup y=some c->x=y
 has:∀x,(X.env.kindOf x=some .cell\/X.env.kindOf x=some .free)->∃c,X.env.cells.lookup x=some c
 cab:∀x c,X.fn x=true->X.env.cells.lookup x=some c->X.s₀.heap.objs.size<=c
 hd:X.calm=true->X.A.handled=none
 frames:X.A.frames=some X.stack
 stk:X.stack=X.outer\/(X.stack=X.env::X.outer/\X.env.frame=some X.env.locals)
 exf:∀b∈X.ex,b≠X.env.locals/\∀x c,X.env.cells.lookup x=some c->c≠b
 bs:∀b o,X.base.get? b=some o->X.s₀.heap.get? b=some o/\X.H₀ b=none
 bsz:X.base.objs.size<=X.s₀.heap.objs.size
 noex:∀b o,X.base.get? b=some o->b ∉ X.ex
 exfs:∀b∈X.ex,b ∉ X.fs
 funs:X.s₀.heap.FunFrames X.base X.outer
 frf:∀b∈X.fs,X.H₀ b=none
structure Inv (X:Cx)(pins:List (Addr×Obj))(σ:List (Option V))(H:Hp)(s:Shared):Prop where
 ok:X.Ok
 os:s.os=X.s₀.os
 bare:AllBare s.gens
 base:Un X.fs X.ex X.H₀ H X.s₀.heap s.heap
 loc:∃m,s.heap.Ns X.env.locals m/\∀(i:Nat) (x:Str) (v:V),X.N[i]?=some x->σ[i]?=some (some v)->Vis X.env.scope x->∃u,RelV v u/\Look X.env s.heap m x u
 cell:∀x c,X.env.cells.lookup x=some c->∃v,s.heap.IsCell c v
 free:H X.env.locals=none
 yR:∀x c,X.env.cells.lookup x=some c->H c=none
 pin:∀p∈X.pn++pins,s.heap.get? p.1=some p.2/\H p.1=none/\p.1≠X.env.locals/\p.1 ∉ X.fs/\∀v,p.2.data ≠ .cell v
 hok:HOk X.prog X.w H s.heap
 len:σ.length=X.N.length
section
variable {X:Cx}{pins:List (Addr×Obj)}{σ:List (Option V)}{H H':Hp}{s:Shared}{h':Heap}
theorem Cx.Ok.nofr (ok:X.Ok){b:Addr}{o:Obj}(e:X.base.get? b=some o):b ∉ X.fs:=fun hb=>by
 have:=(ok.funs.mem hb).1
 rw [e] at this;cases this
theorem Inv.bs (I:Inv X pins σ H s):∀b o,X.base.get? b=some o->s.heap.get? b=some o/\H b=none:=fun b o e =>
 ⟨I.base.keep b o (I.ok.bs b o e).1 (I.ok.bs b o e).2 (I.ok.nofr e) (I.ok.noex b o e),I.base.free b o (I.ok.bs b o e).1 (I.ok.bs b o e).2 (I.ok.noex b o e)⟩
theorem Inv.bk (I:Inv X pins σ H s):∀b o,X.base.get? b=some o->s.heap.get? b=some o:=fun b o e=>(I.bs b o e).1
theorem Inv.mod (I:Inv X pins σ H s):Mod X.K X.mg X.base:=I.ok.mod
theorem Inv.kIn (I:Inv X pins σ H s):X.K.In s.heap:=I.ok.mod.kin.keeps I.bk
theorem Inv.lt (I:Inv X pins σ H s):X.env.locals<s.heap.objs.size:=let ⟨_,hn,_⟩:=I.loc;hn.lt
theorem Inv.sz (I:Inv X pins σ H s):X.s₀.heap.objs.size<=s.heap.objs.size:=le_trans I.ok.above (Nat.le_of_lt I.lt)
theorem Inv.nofs (I:Inv X pins σ H s){a:Addr}(h:s.heap.objs.size<=a):a ∉ X.fs:=fun hb=>by
 obtain⟨_,o,ho,_⟩:=I.ok.funs.mem hb
 exact absurd (lt_of_lt_of_le (Heap.lt_size ho) (le_trans I.sz h)) (lt_irrefl _)
theorem Inv.cne (I:Inv X pins σ H s):∀x c,X.env.cells.lookup x=some c->c≠X.env.locals:=fun x c e z=>by
 obtain⟨v,o,ho,hd⟩:=I.cell x c e
 obtain⟨m,⟨o',es,ep,ho',hd',_⟩,_⟩:=I.loc
 rw [z,ho'] at ho;cases ho;rw [hd'] at hd;cases hd
theorem Inv.funs (I:Inv X pins σ H s):s.heap.FunFrames X.base X.outer:=by
 have all:∀(l:List Env),(∀b∈frs l,b∈X.fs)->X.s₀.heap.FunFrames X.base l->s.heap.FunFrames X.base l:=by
  intro l
  induction l with
  | nil=>intro _ _;trivial
  | cons env r ih =>
   intro hs hl
   obtain⟨hk,⟨L,o,hf,hn,ho,hd⟩,hr⟩:=hl
   have hL:L∈X.fs:=hs L (by unfold frs;rw [List.filterMap_cons,hf];exact mem_cons_self)
   obtain⟨sl,e⟩:=I.base.slot L o ho (I.ok.frf L hL) hL fun z=>I.ok.exfs L z hL
   exact⟨hk,⟨L,_,hf,hn,e,hd⟩,ih (fun b hb=>hs b (by unfold frs;rw [List.filterMap_cons,hf];exact mem_cons_of_mem _ hb)) hr⟩
 exact all X.outer (fun _ hb=>hb) I.ok.funs
theorem Inv.stack (I:Inv X pins σ H s):s.heap.FunFrames X.base X.stack:=by
 rcases I.ok.stk with e | ⟨e,hf⟩
 ·rw [e];exact I.funs
 ·rw [e]
  obtain⟨m,hn,_⟩:=I.loc
  refine .cons (by rw [I.ok.kind];decide) hf hn ?_ I.funs
  exact Heap.get?_none_of_le (le_trans I.ok.bsz I.ok.above)
theorem Inv.stkSub (I:Inv X pins σ H s):∀b∈frs X.stack,b∈X.env.locals::X.fs:=fun b hb=>by
 rcases I.ok.stk with e | ⟨e,hf⟩
 ·rw [e] at hb;exact mem_cons_of_mem _ hb
 ·rw [e] at hb
  unfold frs at hb
  rw [List.filterMap_cons,hf] at hb
  exact hb
theorem Inv.stkFree (I:Inv X pins σ H s):∀b∈frs X.stack,H b=none:=fun b hb=>by
 rcases List.mem_cons.mp (I.stkSub b hb) with e | hb
 ·rw [e];exact I.free
 ·obtain⟨_,o,ho,_⟩:=I.ok.funs.mem hb
  exact I.base.free b o ho (I.ok.frf b hb) fun z=>I.ok.exfs b z hb
theorem Inv.step {g':Array GenState}{t':Nat}{d':Drawn}{ch:List Addr}(I:Inv X pins σ H s)
  (hch:∀b∈ch,(b∈X.ex\/X.s₀.heap.objs.size<=b)/\b≠X.env.locals/\(∀x c,X.env.cells.lookup x=some c->c≠b)/\∀p∈X.pn++pins,p.1≠b)
  (keep:∀b o,b≠X.env.locals->b ∉ X.fs->b ∉ ch->s.heap.get? b=some o->H b=none->h'.get? b=some o)
  (slot:∀b o,b≠X.env.locals->b∈X.fs->b ∉ ch->s.heap.get? b=some o->H b=none->∃sl,h'.get? b=some { o with slots:=sl }) (free:∀b o,b ∉ ch->s.heap.get? b=some o->H b=none->H' b=none)
  (there:∀b o,b ∉ ch->s.heap.get? b=some o->∃o',h'.get? b=some o')
  (tups:∀b xs,H b=some (.tup xs)->H' b=some (.tup xs)) (frzs:∀b o u,H b=some (.frz o u)->H' b=some (.frz o u)) (tbls:∀b ps,H b=some (.tbl ps)->∃more,H' b=some (.tbl (ps++more)))
  (ns:∀m,s.heap.Ns X.env.locals m->h'.Ns X.env.locals m) (hok:HOk X.prog X.w H' h') (hg:AllBare g') :
  Inv X pins σ H' { s with heap:=h',gens:=g',drawn:=d',toks:=t' }:=by
 have neL:∀b o,X.s₀.heap.get? b=some o->b≠X.env.locals:=fun b o e=>ne_of_lt (lt_of_lt_of_le (Heap.lt_size e) I.ok.above)
 have neC:∀b o,X.s₀.heap.get? b=some o->b ∉ X.ex->b ∉ ch:=fun b o e hx hb=>by
  rcases(hch b hb).1 with z | z
  ·exact hx z
  ·exact absurd (lt_of_lt_of_le (Heap.lt_size e) z) (lt_irrefl _)
 have cellK:∀x c,X.env.cells.lookup x=some c->∀v,s.heap.IsCell c v->h'.IsCell c v:=fun x c e v ⟨o,ho,hd⟩=>by
  have nch:c ∉ ch:=fun z=>(hch c z).2.2.1 x c e rfl
  by_cases hc:c∈X.fs
  ·obtain⟨sl,q⟩:=slot c o (I.cne x c e) hc nch ho (I.yR x c e)
   exact⟨_,q,hd⟩
  ·exact⟨o,keep c o (I.cne x c e) hc nch ho (I.yR x c e),hd⟩
 refine⟨I.ok,I.os,hg,⟨fun b o e n hb hx=>?_,fun b o e n hb hx=>?_,fun b o e n hx=>?_,fun b o e hx=>?_,fun b xs e=>tups b xs (I.base.tups b xs e),fun b o xs e=>frzs b o xs (I.base.frzs b o xs e),fun b ps e=>?_⟩,?_,fun x c e=>?_,?_,fun x c e=>?_,fun p hp=>?_,hok,I.len⟩
 ·exact keep b o (neL b o e) hb (neC b o e hx) (I.base.keep b o e n hb hx) (I.base.free b o e n hx)
 ·obtain⟨sl,e1⟩:=I.base.slot b o e n hb hx
  obtain⟨sl',e2⟩:=slot b _ (neL b o e) hb (neC b o e hx) e1 (I.base.free b o e n hx)
  exact⟨sl',e2⟩
 ·obtain⟨o',e1⟩:=I.base.there b o e hx
  exact free b o' (neC b o e hx) e1 (I.base.free b o e n hx)
 ·obtain⟨o',e1⟩:=I.base.there b o e hx
  exact there b o' (neC b o e hx) e1
 ·obtain⟨m1,e1⟩:=I.base.tbls b ps e
  obtain⟨m2,e2⟩:=tbls b _ e1
  exact⟨m1++m2,by rw [e2,Array.append_assoc]⟩
 ·obtain⟨m,hn,hl⟩:=I.loc
  refine⟨m,ns m hn,fun i x v e1 e2 e3=>?_⟩
  obtain⟨u,r,l⟩:=hl i x v e1 e2 e3
  refine⟨u,r,?_⟩
  rcases l with l | ⟨k,c,e,z⟩
  ·exact .inl l
  ·exact .inr ⟨k,c,e,cellK x c e _ z⟩
 ·obtain⟨v,z⟩:=I.cell x c e
  exact⟨v,cellK x c e v z⟩
 ·obtain⟨m,⟨o,_,_,ho,_⟩,_⟩:=I.loc
  exact free _ o (fun z=>(hch _ z).2.1 rfl) ho I.free
 ·obtain⟨v,o,ho,hd⟩:=I.cell x c e
  exact free c o (fun z=>(hch c z).2.2.1 x c e rfl) ho (I.yR x c e)
 ·obtain⟨e,n,ne,nf,d⟩:=I.pin p hp
  have nch:p.1 ∉ ch:=fun z=>(hch p.1 z).2.2.2 p hp rfl
  exact⟨keep p.1 p.2 ne nf nch e n,free p.1 p.2 nch e n,ne,nf,d⟩
theorem Inv.un {t':Nat}(I:Inv X pins σ H s)(u:Un X.fs [] H H' s.heap h')(hok:HOk X.prog X.w H' h'):Inv X pins σ H' { s with heap:=h',toks:=t' }:=by
 obtain⟨m,⟨o,es,ep,ho,r⟩,_⟩:=id I.loc
 obtain⟨sl,hL⟩:=u.any ho I.free (by simp)
 exact I.step (g':=s.gens) (d':=s.drawn) (ch:=[]) (fun _ z=>nomatch z) (fun b o _ hb _ e n=>u.keep b o e n hb (by simp)) (fun b o _ hb _ e n=>u.slot b o e n hb (by simp)) (fun b o _ e n=>u.free b o e n (by simp)) (fun b o _ e=>u.there b o e (by simp)) u.tups u.frzs u.tbls (fun m' hm=>by
  obtain⟨o',es',ep',ho',r'⟩:=hm
  rw [ho] at ho';cases ho'
  exact⟨_,es',ep',hL,r'⟩) hok I.bare
theorem Inv.call {g':Array GenState}{t':Nat}{d':Drawn}{ch:List Addr}(I:Inv X pins σ H s)(u:Un (frs X.stack) ch H H' s.heap h')(hok:HOk X.prog X.w H' h')(hg:AllBare g')
  (hch:∀b∈ch,(b∈X.ex\/X.s₀.heap.objs.size<=b)/\b≠X.env.locals/\(∀x c,X.env.cells.lookup x=some c->c≠b)/\∀p∈X.pn++pins,p.1≠b) :
  Inv X pins σ H' { s with heap:=h',gens:=g',drawn:=d',toks:=t' }:=by
 obtain⟨m,⟨o,es,ep,ho,r⟩,_⟩:=id I.loc
 obtain⟨sl,hL⟩:=u.any ho I.free fun z=>(hch _ z).2.1 rfl
 exact I.step (ch:=ch) hch (fun b o hL hb hc e n=>u.keep b o e n (fun z=>(List.mem_cons.mp (I.stkSub b z)).elim hL hb) hc) (fun b o _ _ hc e n=>u.any e n hc) (fun b o hc e n=>u.free b o e n hc) (fun b o hc e=>u.there b o e hc) u.tups u.frzs u.tbls (fun m' hm=>by
  obtain⟨o',es',ep',ho',r'⟩:=hm
  rw [ho] at ho';cases ho'
  exact⟨_,es',ep',hL,r'⟩) hok hg
theorem Inv.turned {t':Nat}{it:Addr}(I:Inv X pins σ H s)(k:∀b o,b≠it->s.heap.get? b=some o->h'.get? b=some o)(hn:H it=none)(hL:it≠X.env.locals)
  (h1:it∈X.ex\/X.s₀.heap.objs.size<=it) (h2:∀x c,X.env.cells.lookup x=some c->c≠it) (h3:∀p∈X.pn++pins,p.1≠it):Inv X pins σ H { s with heap:=h',toks:=t' }:=by
 have nit:∀b u,H b=some u->b≠it:=fun b u e z=>by rw [z,hn] at e;cases e
 refine I.step (g':=s.gens) (d':=s.drawn) (ch:=[it]) (fun b hb=>?_) (fun b o _ _ hc e _=>k b o (fun z=>hc (by simp [z])) e) (fun b o _ _ hc e _=>⟨o.slots,k b o (fun z=>hc (by simp [z])) e⟩) (fun _ _ _ _ n=>n)
  (fun b o hc e=>⟨o,k b o (fun z=>hc (by simp [z])) e⟩) (fun _ _ e=>e) (fun _ _ _ e=>e) (fun b ps e=>⟨#[],by rw [e];simp⟩) (fun m hm=>?_) (fun b u e=>?_) I.bare
 ·have e:b=it:=by simpa using hb
  subst e
  exact⟨h1,hL,h2,h3⟩
 ·obtain⟨o,es,ep,ho,r⟩:=hm
  exact⟨o,es,ep,k _ o (Ne.symm hL) ho,r⟩
 ·refine(I.hok b u e).stay (fun c v hc q=>k c v ?_ q) (fun _ q=>q) fun _ _ q=>q
  rcases hc with z | z
  ·rw [z];exact nit b u e
  ·exact nit c _ z
theorem Inv.tok (I:Inv X pins σ H s)(t:Nat):Inv X pins σ H { s with toks:=t }:=I.un (h':=s.heap) (t':=t) Un.refl I.hok
theorem Inv.kept {t':Nat}(I:Inv X pins σ H s)(k:∀b u,s.heap.get? b=some u->h'.get? b=some u):Inv X pins σ H { s with heap:=h',toks:=t' }:=I.un (Un.kept k) (I.hok.kept k)
theorem Inv.laid {a:Addr}{o:HO}{t':Nat}(I:Inv X pins σ H s)(k:∀b u,s.heap.get? b=some u->h'.get? b=some u)(hp:s.heap.objs.size<=a)(new:qB X.prog X.w (upd H a o) h' a o) :
  Inv X pins σ (upd H a o) { s with heap:=h',toks:=t' }:=I.un (Un.laid k hp (I.hok.fresh hp)) (I.hok.laid k hp new)
theorem Inv.write {x e:Addr}{o:HO}{t':Nat}(I:Inv X pins σ H s)(mu:Mut (H x))(he:e=x\/H e=some (.own x))(k:∀b u,b≠e->s.heap.get? b=some u->h'.get? b=some u)(heo:∃u,h'.get? e=some u)
  (new:qB X.prog X.w (upd H x o) h' x o):Inv X pins σ (upd H x o) { s with heap:=h',toks:=t' }:=I.un (Un.write mu he k heo) (I.hok.write mu he k heo new)
theorem Inv.pins_of {pins':List (Addr×Obj)}(I:Inv X pins σ H s)(h:∀p∈pins',s.heap.get? p.1=some p.2/\H p.1=none/\p.1≠X.env.locals/\p.1 ∉ X.fs/\∀v,p.2.data ≠ .cell v):Inv X pins' σ H s :=
 ⟨I.ok,I.os,I.bare,I.base,I.loc,I.cell,I.free,I.yR,fun p hp=>(List.mem_append.mp hp).elim (fun z=>I.pin p (mem_append_left _ z)) (h p),I.hok,I.len⟩
theorem zcM {N:List Str}(hN:N.Nodup){i j:Nat}{x:Str}(a:N[i]?=some x)(b:N[j]?=some x):i=j:=by
 obtain⟨h1,e1⟩:=List.getElem?_eq_some_iff.mp a
 obtain⟨h2,e2⟩:=List.getElem?_eq_some_iff.mp b
 exact(List.getElem_inj hN).mp (e1.trans e2.symm)
theorem zbi {M:Model}{A:Around}{E:Value->Shared->Prop}{i:Nat}{x:Str}{v:V}{u:Value}{Q:Unit->Shared->Prop}(I:Inv X pins σ H s)(hN:X.N.Nodup)(hi:X.N[i]?=some x)(hx:Loc X.env.scope x)(r:RelV v u)
  (h:∀s',Inv X pins (σ.set i (some v)) H s'->(∃a,Heap.SameBut a s.heap s'.heap/\(a=X.env.locals\/X.env.cells.lookup x=some a))->Q () s') (hf:X.fn x=true\/X.env.scope.names.lookup x=some .local:=by first | exact .inl rfl | exact .inr rfl | assumption):wpAny M A (storeName X.env x u) Q E s:=by
 obtain⟨m,hn,hl⟩:=id I.loc
 have hcls:(X.env.scope.kind == .class || (X.env.scope.kind == .module&&X.env.locals != X.env.globals))=false:=by rw [I.ok.kind];rfl
 have hiσ:i < σ.length:=by rw [I.len];exact(List.getElem?_eq_some_iff.mp hi).1
 have cne:=I.cne
 have tracked:∀{a:Addr} {h':Heap},(∃o,s.heap.get? a=some o/\H a=none)->Heap.SameBut a s.heap h'->HOk X.prog X.w H h':=fun {a h'} ha hs b ob e=>by
  obtain⟨_,_,hfree⟩:=ha
  refine(I.hok b ob e).stay (fun c w' hc q=>(hs.2 c ?_).trans q) (fun _ q=>q) fun _ _ q=>q
  rintro rfl
  rcases hc with rfl | hc
  ·rw [hfree] at e;cases e
  ·rw [hfree] at hc;cases hc
 rcases hx with hk | hk
 ·refine wpAny_storeName_local hk hn (fun h' hn' hs=>?_) hcls
  obtain⟨oL,_,_,hoL,_⟩:=id hn
  refine h _ ⟨I.ok,I.os,I.bare,⟨fun b o e n hb hx=>?_,fun b o e n hb hx=>?_,I.base.free,fun b o e hx=>?_,I.base.tups,I.base.frzs,I.base.tbls⟩,⟨_,hn',fun j y v' e1 e2 e3=>?_⟩,fun y c e=>?_,I.free,I.yR,fun p hp=>?_,tracked ⟨oL,hoL,I.free⟩ hs,by simpa using I.len⟩ ⟨_,hs,.inl rfl⟩
  ·exact(hs.2 b (ne_of_lt (lt_of_lt_of_le (Heap.lt_size e) I.ok.above))).trans (I.base.keep b o e n hb hx)
  ·obtain⟨sl,e1⟩:=I.base.slot b o e n hb hx
   exact⟨sl,(hs.2 b (ne_of_lt (lt_of_lt_of_le (Heap.lt_size e) I.ok.above))).trans e1⟩
  ·obtain⟨o',e1⟩:=I.base.there b o e hx
   exact⟨o',(hs.2 b (ne_of_lt (lt_of_lt_of_le (Heap.lt_size e) I.ok.above))).trans e1⟩
  ·by_cases hj:j=i
   ·subst hj
    rw [hi] at e1;cases e1
    rw [List.getElem?_set_self hiσ] at e2
    cases e2
    exact⟨u,r,.inl ⟨hk,by simp⟩⟩
   ·rw [List.getElem?_set_ne (Ne.symm hj)] at e2
    obtain⟨u',r',q⟩:=hl j y v' e1 e2 e3
    refine⟨u',r',?_⟩
    rcases q with ⟨k,e⟩ | ⟨k,c,e,z⟩
    ·refine .inl ⟨k,?_⟩
     have:y≠x:=fun e=>hj (zcM hN e1 (e ▸ hi))
     simp [this,e]
    ·exact .inr ⟨k,c,e,z.sameBut hs (cne y c e)⟩
  ·obtain⟨w',z⟩:=I.cell y c e
   exact⟨w',z.sameBut hs (cne y c e)⟩
  ·obtain⟨e,n,ne,nf,d⟩:=I.pin p hp
   exact⟨(hs.2 p.1 ne).trans e,n,ne,nf,d⟩
 ·have hfn:X.fn x=true:=by
   rcases hf with z | z
   ·exact z
   ·rw [z] at hk;cases hk
  obtain⟨c,hc⟩:=I.ok.has x (.inl hk)
  obtain⟨w',z⟩:=I.cell x c hc
  refine wpAny_storeName_cell I.ok.kind hk hc z (fun h' hc' hs=>?_)
  obtain⟨oc,hoc,hocd⟩:=id z
  refine h { s with heap:=h' } ⟨I.ok,I.os,I.bare,⟨fun b o e n hb hx=>?_,fun b o e n hb hx=>?_,I.base.free,fun b o e hx=>?_,I.base.tups,I.base.frzs,I.base.tbls⟩,⟨m,hn.sameBut hs (Ne.symm (cne x c hc)),fun j y v' e1 e2 e3=>?_⟩,fun y c' e=>?_,I.free,I.yR,fun p hp=>?_,tracked ⟨oc,hoc,I.yR x c hc⟩ hs,by simpa using I.len⟩ ⟨c,hs,.inr hc⟩
  ·exact(hs.2 b (ne_of_lt (lt_of_lt_of_le (Heap.lt_size e) (I.ok.cab x c hfn hc)))).trans (I.base.keep b o e n hb hx)
  ·obtain⟨sl,e1⟩:=I.base.slot b o e n hb hx
   exact⟨sl,(hs.2 b (ne_of_lt (lt_of_lt_of_le (Heap.lt_size e) (I.ok.cab x c hfn hc)))).trans e1⟩
  ·obtain⟨o',e1⟩:=I.base.there b o e hx
   exact⟨o',(hs.2 b (ne_of_lt (lt_of_lt_of_le (Heap.lt_size e) (I.ok.cab x c hfn hc)))).trans e1⟩
  ·by_cases hj:j=i
   ·subst hj
    rw [hi] at e1;cases e1
    rw [List.getElem?_set_self hiσ] at e2
    cases e2
    exact⟨u,r,.inr ⟨.inl hk,c,hc,hc'⟩⟩
   ·rw [List.getElem?_set_ne (Ne.symm hj)] at e2
    obtain⟨u',r',q⟩:=hl j y v' e1 e2 e3
    refine⟨u',r',?_⟩
    rcases q with q | ⟨k,c',e,z'⟩
    ·exact .inl q
    ·refine .inr ⟨k,c',e,z'.sameBut hs ?_⟩
     rintro rfl
     exact hj (zcM hN e1 (I.ok.inj _ _ _ e hc ▸ hi))
  ·by_cases hcc:c'=c
   ·subst hcc;exact⟨_,hc'⟩
   ·obtain⟨w2,z2⟩:=I.cell y c' e
    exact⟨w2,z2.sameBut hs hcc⟩
  ·obtain⟨e,n,ne,nf,d⟩:=I.pin p hp
   refine⟨(hs.2 p.1 ?_).trans e,n,ne,nf,d⟩
   intro q
   rw [q,hoc] at e
   have q':oc=p.2:=Option.some.inj e
   exact d w' (by rw [<- q'];exact hocd)
theorem Q2 {M:Model}{A:Around}{E:Value->Shared->Prop}{i:Nat}{x:Str}{v:V}{u:Value}{Q:Unit->Shared->Prop}(I:Inv X pins σ H s)(hN:X.N.Nodup)(hi:X.N[i]?=some x)(hx:Loc X.env.scope x)(r:RelV v u)
  (h:∀s',Inv X pins (σ.set i (some v)) H s'->Q () s') (hf:X.fn x=true\/X.env.scope.names.lookup x=some .local:=by first | exact .inl rfl | exact .inr rfl | assumption):wpAny M A (storeName X.env x u) Q E s :=
 zbi I hN hi hx r (fun s' I' _=>h s' I') hf
theorem Inv.call' {s':Shared}{ch:List Addr}(I:Inv X pins σ H s)(ho:s'.os=s.os)(u:Un (frs X.stack) ch H H' s.heap s'.heap)(hok:HOk X.prog X.w H' s'.heap)(hg:AllBare s'.gens)
  (hch:∀b∈ch,(b∈X.ex\/X.s₀.heap.objs.size<=b)/\b≠X.env.locals/\(∀x c,X.env.cells.lookup x=some c->c≠b)/\∀p∈X.pn++pins,p.1≠b):Inv X pins σ H' s':=by
 obtain⟨h',g',d',t',o'⟩:=s'
 have e:o'=s.os:=ho
 subst e
 exact I.call (g':=g') (t':=t') (d':=d') u hok hg hch
end
abbrev XK:=Value->Option Addr->Hp->Prop
abbrev St:=List (Option V)
abbrev VK:=V->Hp->Prop
abbrev TE:=St->Hp->VK->Prop
abbrev TT:=St->Hp->(Bool->Hp->Prop)->Prop
abbrev TA:=St->Hp->(List V->Hp->Prop)->Prop
structure Ends where
 nx:St->Hp->Prop
 rt:VK
 bk:St->Hp->Prop:=fun _ _=>False
 ct:St->Hp->Prop:=fun _ _=>False
abbrev TS:=Ends->St->Hp->Prop
def EP (X:Cx)(pins:List (Addr×Obj))(σ:St)(Q:VK)(u:Value)(s':Shared):Prop:=∃v H',Inv X pins σ H' s'/\RelV v u/\Q v H'
def TP (X:Cx)(pins:List (Addr×Obj))(σ:St)(Q:Bool->Hp->Prop)(b:Bool)(s':Shared):Prop:=∃H',Inv X pins σ H' s'/\Q b H'
def AP (X:Cx)(pins:List (Addr×Obj))(σ:St)(Q:List V->Hp->Prop)(us:List Value)(s':Shared):Prop:=∃vs H',Inv X pins σ H' s'/\Vals vs us/\Q vs H'
def SP (X:Cx)(pins:List (Addr×Obj))(D:Ends)(f:Flow)(s':Shared):Prop :=
 match f with
 | .next=>∃ σ' H',Inv X pins σ' H' s'/\D.nx σ' H'
 | .brk=>∃ σ' H',Inv X pins σ' H' s'/\D.bk σ' H'
 | .cont=>∃ σ' H',Inv X pins σ' H' s'/\D.ct σ' H'
 | .ret u=>∃v σ' H',Inv X pins σ' H' s'/\RelV v u/\D.rt v H'
def PE (X:Cx)(e:Expr)(t:TE):Prop :=
 ∀(pins:List (Addr×Obj)) (s:Shared) (σ:St) (H:Hp) (Q:VK),Inv X pins σ H s->t σ H Q->wpAny (model X.prog X.w) X.A (eval e X.env) (EP X pins σ Q) X.xe s
def PT (X:Cx)(e:Expr)(t:TT):Prop :=
 ∀(pins:List (Addr×Obj)) (s:Shared) (σ:St) (H:Hp) (Q:Bool->Hp->Prop),Inv X pins σ H s->t σ H Q->wpAny (model X.prog X.w) X.A (isTrue e X.env (eval e X.env)) (TP X pins σ Q) X.xe s
def PW (X:Cx)(e:Expr)(t:TT):Prop :=
 ∀(whole:Sem Value) (pins:List (Addr×Obj)) (s:Shared) (σ:St) (H:Hp) (Q:Bool->Hp->Prop),Inv X pins σ H s->t σ H Q->wpAny (model X.prog X.w) X.A (isTrue e X.env whole) (TP X pins σ Q) X.xe s
theorem PW.pt {X:Cx}{e:Expr}{t:TT}(h:PW X e t):PT X e t:=h _
def PA (X:Cx)(es:List Expr)(t:TA):Prop :=
 ∀(pos:Pos) (pins:List (Addr×Obj)) (s:Shared) (σ:St) (H:Hp) (Q:List V->Hp->Prop),Inv X pins σ H s->t σ H Q->wpAny (model X.prog X.w) X.A (spliced (backTo pos (starEach es X.env))) (AP X pins σ Q) X.xe s
def PS (X:Cx)(st:Stmt)(t:TS):Prop :=
 ∀(pins:List (Addr×Obj)) (s:Shared) (σ:St) (H:Hp) (D:Ends),Inv X pins σ H s->t D σ H->wpAny (model X.prog X.w) X.A (exec st X.env) (SP X pins D) X.xe s
def PSs (X:Cx)(st:List Stmt)(t:TS):Prop :=
 ∀(pins:List (Addr×Obj)) (s:Shared) (σ:St) (H:Hp) (D:Ends),Inv X pins σ H s->t D σ H->wpAny (model X.prog X.w) X.A (execs st X.env) (SP X pins D) X.xe s
theorem thn {α:Type}{t:Sem α}{Q Q':α->Shared->Prop}{M:Model}{A:Around}{E:Value->Shared->Prop}{s:Shared}(h:wpAny M A t Q E s)(hQ:∀a s,Q a s->Q' a s):wpAny M A t Q' E s:=wpAny_mono h hQ fun _ _ x=>x
section
variable {X:Cx}
def zkE (i:Nat):TE:=fun σ H Q=>∃v,σ[i]?=some (some v)/\Q v H
def tC (v:V):TE:=fun _ H Q=>Q v H
theorem zjL {i:Nat}{x:Str}{pos:Pos}(hN:X.N[i]?=some x)(hv:Vis X.env.scope x)(hd:(x==("__debug__":Str))=false:=by decide)(hcd:(x==("__classdict__":Str))=false:=by decide):PE X (.Name x pos) (zkE i):=by
 intro pins s σ H Q I h
 obtain⟨v,e,h⟩:=h
 obtain⟨m,hn,hl⟩:=I.loc
 obtain⟨u,r,l⟩:=hl i x v hN e hv
 have fin:EP X pins σ Q u s:=⟨v,H,I,r,h⟩
 rcases l with ⟨hk,hm⟩ | ⟨hk,c,hc,hcell⟩
 ·exact wpAny_Name (wpAny_loadName_local I.ok.kind hk hn hm fin) hd
 ·rcases hk with hk | hk
  ·exact wpAny_Name (wpAny_loadName_cell I.ok.kind hk hc hcell fin) hd
  ·exact wpAny_Name (wpAny_loadName_free I.ok.kind hk hc hcell fin hcd) hd
theorem ze {i j pos}:PE X (.Constant (.int i) j pos) (tC (.int i)):=fun _ _ _ H _ I h=>wpAny_Constant_int ⟨.int i,H,I.tok _,⟨_,rfl⟩,h⟩
theorem Zn {b j pos}:PE X (.Constant (.bool b) j pos) (tC (.bl b)):=fun _ _ _ H _ I h=>Constant_bool ⟨.bl b,H,I,rfl,h⟩
theorem qx {x j pos}:PE X (.Constant (.str x) j pos) (tC (.str x)):=fun _ _ _ H _ I h=>Calls.Constant_str ⟨.str x,H,I.tok _,⟨_,rfl⟩,h⟩
def Gl (X:Cx)(x:Str):Prop:=X.env.kindOf x=some .globalImplicit
theorem JX {E:Value->Shared->Prop}{pins:List (Addr×Obj)}{s:Shared}{σ:St}{H:Hp}{x:Str}{u:Value}{pos:Pos}{Q:Value->Shared->Prop}(I:Inv X pins σ H s)(hg:Gl X x)(hm:X.mg x=some u)(h:Q u s)
  (hd:(x==("__debug__":Str))=false:=by decide):wpAny (model X.prog X.w) X.A (eval (.Name x pos) X.env) Q E s :=
 Calls.Name_function_global I.ok.kind hg (Calls.loadGlobal_global (by rw [I.ok.glob];exact I.mod.glob.keeps I.bk) hm h) hd
theorem Z7 {E:Value->Shared->Prop}{pins:List (Addr×Obj)}{s:Shared}{σ:St}{H:Hp}{x:Str}{u:Value}{pos:Pos}{Q:Value->Shared->Prop}(I:Inv X pins σ H s)(hg:Gl X x)(hm:X.mg x=none)(hv:bootBuiltins x=some u)(h:Q u s)
  (hn:x ≠ "__name__":=by decide) (hd:(x==("__debug__":Str))=false:=by decide):wpAny (model X.prog X.w) X.A (eval (.Name x pos) X.env) Q E s:=by
 obtain⟨mb,h1,h2⟩:=I.mod.blt
 exact Calls.Name_function_global I.ok.kind hg (Calls.loadGlobal_builtin (by rw [I.ok.glob];exact I.mod.glob.keeps I.bk) hm (by rw [I.ok.blt];exact h1.keeps I.bk) ((h2 x hn).trans hv) h) hd
theorem JY {x:Str}{v:V}{u:Value}{pos:Pos}(hg:Gl X x)(hm:X.mg x=some u)(r:RelV v u)(hd:(x==("__debug__":Str))=false:=by decide):PE X (.Name x pos) (tC v) :=
 fun _ _ _ H _ I h=>JX I hg hm ⟨v,H,I,r,h⟩ hd
theorem ZQ {x:Str}{v:V}{u:Value}{pos:Pos}(hg:Gl X x)(hm:X.mg x=none)(hv:bootBuiltins x=some u)(r:RelV v u)(hn:x ≠ "__name__":=by decide)(hd:(x==("__debug__":Str))=false:=by decide):PE X (.Name x pos) (tC v) :=
 fun _ _ _ H _ I h=>Z7 I hg hm hv ⟨v,H,I,r,h⟩ hn hd
variable {a b:Expr}{ta tb:TE}{pos:Pos}
def PC (X:Cx)(op:CmpOp)(a b:Expr)(t:TE):Prop :=
 ∀(pins:List (Addr×Obj)) (s:Shared) (σ:St) (H:Hp) (Q:VK),Inv X pins σ H s->t σ H Q ->
  wpAny (model X.prog X.w) X.A (eval a X.env) (fun v s₁=>wpAny (model X.prog X.w) X.A (eval b X.env) (fun u s₂=>wpAny (model X.prog X.w) X.A (compareOp op v u) (EP X pins σ Q) X.xe s₂) X.xe s₁) X.xe s
def tB (t:TE):TT:=fun σ H Q=>t σ H fun x H1=>∃c,x=.bl c/\Q c H1
theorem zjM {op:CmpOp}{t:TE}(h:PC X op a b t)(h1:behindInMarks op b=false:=by first | exact nobehind _ (by decide) (by decide) | rfl):PT X (.Compare a [op] [b] pos) (tB t):=by
 intro pins s σ H Q I hw
 refine wpAny_isTrue_Compare1 (thn (h pins s σ H _ I hw) fun v s1 h1=>thn h1 fun u s2 h2=>thn h2 fun c s3 ⟨x,H1,I1,r1,q1⟩=>?_) h1
 obtain⟨d,rfl,q⟩:=q1
 cases r1
 exact wpAny_truthy_bool ⟨H1,I1,q⟩
variable {tA tB':TT}{rest:List Expr}
def zlv (t u:TT):TT:=fun σ H Q=>t σ H fun c H1=>if c=true then u σ H1 Q else Q false H1
def tOr (t u:TT):TT:=fun σ H Q=>t σ H fun c H1=>if c=true then Q true H1 else u σ H1 Q
def zlw (t:TT):TT:=fun σ H Q=>t σ H fun c H1=>Q (!c) H1
theorem jR (ha:PT X a tA):PW X (.BoolOp .And [a] pos) tA:=by
 intro wh pins s σ H Q I h
 refine isTrue_and (thn (ha pins s σ H Q I h) fun c s1 e=>?_)
 cases c with
 | true=>exact isTrue_and_nil e
 | false=>exact e
theorem Z8 (ha:PT X a tA):PW X (.BoolOp .Or [a] pos) tA:=by
 intro wh pins s σ H Q I h
 refine isTrue_or (thn (ha pins s σ H Q I h) fun c s1 e=>?_)
 cases c with
 | false=>exact isTrue_or_nil e
 | true=>exact e
theorem xB (ha:PT X a tA)(hb:PW X (.BoolOp .And (b::rest) pos) tB'):PW X (.BoolOp .And (a::b::rest) pos) (zlv tA tB'):=by
 intro wh pins s σ H Q I h
 refine isTrue_and (thn (ha pins s σ H _ I h) fun c s1 ⟨H1,I1,q1⟩=>?_)
 cases c with
 | true=>exact hb wh pins s1 σ H1 Q I1 q1
 | false=>exact⟨H1,I1,q1⟩
theorem ZZ (ha:PT X a tA)(hb:PW X (.BoolOp .Or (b::rest) pos) tB'):PW X (.BoolOp .Or (a::b::rest) pos) (tOr tA tB'):=by
 intro wh pins s σ H Q I h
 refine isTrue_or (thn (ha pins s σ H _ I h) fun c s1 ⟨H1,I1,q1⟩=>?_)
 cases c with
 | true=>exact⟨H1,I1,q1⟩
 | false=>exact hb wh pins s1 σ H1 Q I1 q1
theorem Q3 (ha:PT X a tA):PT X (.UnaryOp .Not a pos) (zlw tA):=by
 intro pins s σ H Q I h
 exact isTrue_not (ha pins s σ H (fun c H1=>Q (!c) H1) I h)
def zkF (ta tb:TE):TE:=fun σ H Q=>ta σ H fun x H1=>∃c,x=.bl c/\if c=true then tb σ H1 Q else Q (.bl false) H1
def zlx (ta tb:TE):TE:=fun σ H Q=>ta σ H fun x H1=>∃c,x=.bl c/\if c=true then Q (.bl true) H1 else tb σ H1 Q
def zkG (ta:TE):TE:=fun σ H Q=>ta σ H fun x H1=>∃c,x=.bl c/\Q (.bl (!c)) H1
theorem Zr {op}{t:TE}(h:PE X a t):PE X (.BoolOp op [a] pos) t:=fun pins s σ H Q I hw=>BoolOp_one (h pins s σ H Q I hw)
theorem JZ (ha:PE X a ta)(hb:PE X (.BoolOp .And (b::rest) pos) tb):PE X (.BoolOp .And (a::b::rest) pos) (zkF ta tb):=by
 intro pins s σ H Q I h
 refine BoolOp_and (thn (ha pins s σ H _ I h) fun v s1 ⟨x,H1,I1,r1,q1⟩=>?_)
 obtain⟨c,rfl,q1⟩:=q1
 cases r1
 refine wpAny_truthy_bool ?_
 cases c with
 | true=>exact hb pins s1 σ H1 Q I1 q1
 | false=>exact⟨.bl false,H1,I1,rfl,q1⟩
theorem zkH (ha:PE X a ta)(hb:PE X (.BoolOp .Or (b::rest) pos) tb):PE X (.BoolOp .Or (a::b::rest) pos) (zlx ta tb):=by
 intro pins s σ H Q I h
 refine BoolOp_or (thn (ha pins s σ H _ I h) fun v s1 ⟨x,H1,I1,r1,q1⟩=>?_)
 obtain⟨c,rfl,q1⟩:=q1
 cases r1
 refine wpAny_truthy_bool ?_
 cases c with
 | false=>exact hb pins s1 σ H1 Q I1 q1
 | true=>exact⟨.bl true,H1,I1,rfl,q1⟩
theorem zjN (ha:PE X a ta):PE X (.UnaryOp .Not a pos) (zkG ta):=by
 intro pins s σ H Q I h
 refine UnaryOp_ (thn (ha pins s σ H _ I h) fun v s1 ⟨x,H1,I1,r1,q1⟩=>?_)
 obtain⟨c,rfl,q1⟩:=q1
 cases r1
 exact not_of (wpAny_truthy_bool ⟨.bl (!c),H1,I1,rfl,q1⟩)
def tIf (t:TT)(ta tb:TE):TE:=fun σ H Q=>t σ H fun c H1=>if c=true then ta σ H1 Q else tb σ H1 Q
theorem zgS {c:Expr}(hc:PT X c tA)(ha:PE X a ta)(hb:PE X b tb):PE X (.IfExp c a b pos) (tIf tA ta tb):=by
 intro pins s σ H Q I h
 refine wpAny_IfExp (thn (hc pins s σ H _ I h) fun d s1 ⟨H1,I1,q1⟩=>?_)
 cases d with
 | true=>exact ha pins s1 σ H1 Q I1 q1
 | false=>exact hb pins s1 σ H1 Q I1 q1
end
def SqL (K:PySem.W.Frag)(H:Hp)(a:Addr)(xs:List V):Prop :=
 Rd H a (.lst xs) \/
  ∃(o:Obj) (its:Array Value) (n:Nat),K.lookup a=some o/\o.cls=.type "list"/\o.dict=none/\o.data=.seq its n/\its.size<=sizeLine/\Vals xs its.toList
def SqT (K:PySem.W.Frag)(H:Hp)(a:Addr)(xs:List V):Prop :=
 Rd H a (.tup xs) \/
  ∃(o:Obj) (its:Array Value) (n:Nat),K.lookup a=some o/\o.cls=.type "tuple"/\o.data=.seq its n/\its.size<=sizeLine/\Vals xs its.toList
noncomputable def zly:Value->Option V
 | .none=>some .non
 | .bool b=>some (.bl b)
 | .int i _=>some (.int i)
 | .str x _=>some (.str x)
 | .bytes b _=>some (.byt b)
 | .float b _=>some (.flt b)
 | .ref a=>some (.ref a)
 | .type n=>some (.ty n)
 | _=>none
theorem RelV.abs {x:V}{u:Value}(r:RelV x u):zly u=some x:=by
 cases x with
 | non=>cases r;rfl
 | bl _=>cases r;rfl
 | int _=>obtain⟨t,rfl⟩:=r;rfl
 | str _=>obtain⟨t,rfl⟩:=r;rfl
 | byt _=>obtain⟨t,rfl⟩:=r;rfl
 | flt _=>obtain⟨t,rfl⟩:=r;rfl
 | ref _=>cases r;rfl
 | ty _=>cases r;rfl
theorem RelV.inj {x y:V}{u:Value}(r:RelV x u)(q:RelV y u):x=y:=Option.some.inj (r.abs.symm.trans q.abs)
theorem Vals.inj:∀{xs ys:List V} {us:List Value},Vals xs us->Vals ys us->xs=ys
 | _,_,_,.nil,.nil=>rfl
 | _,_,_,.cons r t,.cons r' t'=>by rw [r.inj r',Vals.inj t t']
section
variable {X:Cx}{pins:List (Addr×Obj)}{σ:St}{H:Hp}{s:Shared}{a:Addr}{xs ys:List V}
theorem SqL.of {K:PySem.W.Frag}(h:H a=some (.lst xs)):SqL K H a xs:=.inl (.inl h)
theorem SqT.of {K:PySem.W.Frag}(h:H a=some (.tup xs)):SqT K H a xs:=.inl (.inl h)
theorem Inv.list (I:Inv X pins σ H s)(h:SqL X.K H a xs):∃its:List Value,Vals xs its/\PlainL s.heap a its.toArray/\xs.length<=sizeLine:=by
 rcases h with h | ⟨o,its,n,hk,hc,hd,hs,hz,r⟩
 ·obtain⟨z,its,n,r,e⟩:=h.ok I.hok
  exact⟨its,r,⟨_,n,e,rfl,rfl,rfl⟩,z⟩
 ·refine⟨its.toList,r,⟨o,n,I.kIn a o hk,hc,hd,by simpa using hs⟩,?_⟩
  have e:=r.length
  simp only [length_toList] at e
  omega
theorem Inv.tuple (I:Inv X pins σ H s)(h:SqT X.K H a xs):∃its:List Value,Vals xs its/\IsTup s.heap a its.toArray/\xs.length<=sizeLine:=by
 rcases h with h | ⟨o,its,n,hk,hc,hs,hz,r⟩
 ·obtain⟨z,its,r,p⟩:=h.ok I.hok
  exact⟨its,r,p,z⟩
 ·refine⟨its.toList,r,⟨o,I.kIn a o hk,hc,n,by simpa using hs⟩,?_⟩
  have e:=r.length
  simp only [length_toList] at e
  omega
theorem Inv.list_inj (I:Inv X pins σ H s)(h:SqL X.K H a xs)(h':SqL X.K H a ys):xs=ys:=by
 obtain⟨its,r,⟨o,n,e,_,_,d⟩,_⟩:=I.list h
 obtain⟨its',r',⟨o',n',e',_,_,d'⟩,_⟩:=I.list h'
 rw [e] at e';cases e'
 rw [d] at d'
 injection d' with d1 _
 have:its=its':=by simpa using congrArg Array.toList d1
 subst this
 exact r.inj r'
theorem Inv.tuple_inj (I:Inv X pins σ H s)(h:SqT X.K H a xs)(h':SqT X.K H a ys):xs=ys:=by
 obtain⟨its,r,⟨o,e,_,n,d⟩,_⟩:=I.tuple h
 obtain⟨its',r',⟨o',e',_,n',d'⟩,_⟩:=I.tuple h'
 rw [e] at e';cases e'
 rw [d] at d'
 injection d' with d1 _
 have:its=its':=by simpa using congrArg Array.toList d1
 subst this
 exact r.inj r'
end
abbrev Cx.wish (X:Cx)(E:Value->Shared->Prop):Cx:={ X with xe:=E }
abbrev Cx.nox (X:Cx):Cx:=X.wish fun _ _=>False
theorem Cx.Ok.wish {X:Cx}(ok:X.Ok)(E:Value->Shared->Prop):(X.wish E).Ok :=
 ⟨ok.mod,ok.kind,ok.glob,ok.blt,ok.above,ok.inj,ok.has,ok.cab,ok.hd,ok.frames,ok.stk,ok.exf,ok.bs,ok.bsz,ok.noex,ok.exfs,ok.funs,ok.frf⟩
theorem Cx.Ok.unwish {X:Cx}{E:Value->Shared->Prop}(ok:(X.wish E).Ok):X.Ok :=
 ⟨ok.mod,ok.kind,ok.glob,ok.blt,ok.above,ok.inj,ok.has,ok.cab,ok.hd,ok.frames,ok.stk,ok.exf,ok.bs,ok.bsz,ok.noex,ok.exfs,ok.funs,ok.frf⟩
section
variable {X:Cx}{pins:List (Addr×Obj)}{σ:St}{H:Hp}{s:Shared}{E:Value->Shared->Prop}
theorem Inv.wish (I:Inv X pins σ H s)(E:Value->Shared->Prop):Inv (X.wish E) pins σ H s:=⟨I.ok.wish E,I.os,I.bare,I.base,I.loc,I.cell,I.free,I.yR,I.pin,I.hok,I.len⟩
theorem Inv.unwish (I:Inv (X.wish E) pins σ H s):Inv X pins σ H s:=⟨I.ok.unwish,I.os,I.bare,I.base,I.loc,I.cell,I.free,I.yR,I.pin,I.hok,I.len⟩
theorem SP.unwish {D:Ends}{f:Flow}{s':Shared}(h:SP (X.wish E) pins D f s'):SP X pins D f s':=by
 cases f with
 | next=>obtain⟨σ',H',I,q⟩:=h;exact⟨σ',H',I.unwish,q⟩
 | brk=>obtain⟨σ',H',I,q⟩:=h;exact⟨σ',H',I.unwish,q⟩
 | cont=>obtain⟨σ',H',I,q⟩:=h;exact⟨σ',H',I.unwish,q⟩
 | ret u=>obtain⟨v,σ',H',I,r,q⟩:=h;exact⟨v,σ',H',I.unwish,r,q⟩
theorem PSs.nox {st:List Stmt}{t:TS}(h:PSs X.nox st t):PSs X st t:=fun pins s σ H D I hw =>
 wpAny_mono (h pins s σ H D (I.wish _) hw) (fun _ _ q=>q.unwish) fun _ _ z=>False.elim z
end
section
variable {X:Cx}{st:Stmt}{rest:List Stmt}{t u:TS}{e:Expr}{te:TE}{pos:Pos}
def zkI:TS:=fun D σ H=>D.nx σ H
def zlz (t u:TS):TS:=fun D σ H=>t { D with nx:=u D } σ H
theorem zM:PSs X [] zkI:=fun _ _ σ H _ I h=>wpAny_execs_nil ⟨σ,H,I,h⟩
theorem zf (h1:PS X st t)(h2:PSs X rest u):PSs X (st::rest) (zlz t u):=by
 intro pins s σ H D I h
 refine wpAny_execs_cons (thn (h1 pins s σ H { D with nx:=u D } I h) fun f s1 q=>?_)
 cases f with
 | next =>
  obtain⟨σ',H',I',q⟩:=q
  exact h2 pins s1 σ' H' D I' q
 | ret v=>exact q
 | brk=>exact q
 | cont=>exact q
theorem zg (h1:PS X st t):PSs X [st] t:=by
 intro pins s σ H D I h
 refine wpAny_execs_cons (thn (h1 pins s σ H D I h) fun f s1 q=>?_)
 cases f with
 | next=>exact wpAny_execs_nil q
 | ret v=>exact q
 | brk=>exact q
 | cont=>exact q
theorem Inv.quiet {pins:List (Addr×Obj)}{σ:St}{H:Hp}{s:Shared}(I:Inv X pins σ H s):interactive X.env=false:=by simp [interactive,I.ok.kind]
def zkJ (te:TE):TS:=fun D σ H=>te σ H fun _ H1=>D.nx σ H1
theorem jF (he:PE X e te)(hs:swapsWith e none pos.line X.env=pure false:=by rfl):PS X (.Expr e pos) (zkJ te):=by
 intro pins s σ H D I h
 exact wpAny_Expr_any (thn (he pins s σ H _ I h) fun v s1 ⟨x,H1,I1,r1,q1⟩=>⟨σ,H1,I1,q1⟩) I.quiet hs
def zlA (te:TE):TS:=fun D σ H=>te σ H D.rt
theorem zG (he:PE X e te):PS X (.Return (some e) pos) (zlA te):=by
 intro pins s σ H D I h
 exact wpAny_Return_some (thn (he pins s σ H _ I h) fun v s1 ⟨x,H1,I1,r1,q1⟩=>⟨x,σ,H1,I1,r1,q1⟩)
def zlB (c:TT)(t u:TS):TS:=fun D σ H=>c σ H fun b H1=>if b=true then t D σ H1 else u D σ H1
theorem qo {c:Expr}{a b:List Stmt}{tc:TT}(hc:PT X c tc)(ha:PSs X a t)(hb:PSs X b u):PS X (.If c a b pos) (zlB tc t u):=by
 intro pins s σ H D I h
 refine wpAny_If (thn (hc pins s σ H _ I h) fun d s1 ⟨H1,I1,q1⟩=>?_)
 cases d with
 | true=>exact ha pins s1 σ H1 D I1 q1
 | false=>exact hb pins s1 σ H1 D I1 q1
end
abbrev TG:=V->St->Hp->(St->Hp->Prop)->Prop
abbrev TGs:=List V->St->Hp->(St->Hp->Prop)->Prop
def PG (X:Cx)(target:Expr)(t:TG):Prop :=
 ∀(pins:List (Addr×Obj)) (s:Shared) (σ:St) (H:Hp) (v:V) (u:Value) (Q:St->Hp->Prop),Inv X pins σ H s->RelV v u->t v σ H Q ->
  wpAny (model X.prog X.w) X.A (assign target X.env u) (fun _ s'=>∃ σ' H',Inv X pins σ' H' s'/\Q σ' H') X.xe s
def PGs (X:Cx)(ts:List Expr)(t:TGs):Prop :=
 ∀(pins:List (Addr×Obj)) (s:Shared) (σ:St) (H:Hp) (vs:List V) (us:List Value) (Q:St->Hp->Prop),Inv X pins σ H s->Vals vs us->t vs σ H Q ->
  wpAny (model X.prog X.w) X.A (assignInOrder ((assignEach ts X.env).map (·.2)) us) (fun _ s'=>∃ σ' H',Inv X pins σ' H' s'/\Q σ' H') X.xe s
section
variable {X:Cx}{pos:Pos}
def ze1 (i:Nat):TG:=fun v σ H Q=>Q (σ.set i (some v)) H
theorem zF {i:Nat}{x:Str}(hN:X.N.Nodup)(hi:X.N[i]?=some x)(hx:Loc X.env.scope x)(hf:X.fn x=true\/X.env.scope.names.lookup x=some .local:=by first | exact .inl rfl | exact .inr rfl | assumption):PG X (.Name x pos) (ze1 i):=by
 intro pins s σ H v u Q I r h
 exact wpAny_assign_Name (Q2 I hN hi hx r (fun s' I'=>⟨_,H,I',h⟩) hf)
def zlC:TGs:=fun vs σ H Q=>vs=[]/\Q σ H
def zkK (t:TG)(u:TGs):TGs:=fun vs σ H Q=>∃v r,vs=v::r/\t v σ H fun σ' H'=>u r σ' H' Q
theorem yX:PGs X [] zlC:=by
 intro pins s σ H vs us Q I r h
 obtain⟨e,h⟩:=h
 subst e
 cases r
 exact assignInOrder_nil ⟨σ,H,I,h⟩
theorem qg {e:Expr}{es:List Expr}{t:TG}{u:TGs}(h1:PG X e t)(h2:PGs X es u)
  (hs:(assignEach (e::es) X.env).map (·.2)=assign e X.env::(assignEach es X.env).map (·.2):=by rfl):PGs X (e::es) (zkK t u):=by
 intro pins s σ H vs us Q I r h
 obtain⟨v,vr,e1,h⟩:=h
 subst e1
 cases r with
 | cons r rr =>
  rw [hs]
  refine assignInOrder_cons (thn (h1 pins s σ H _ _ _ I r h) fun _ s1 ⟨σ1,H1,I1,q1⟩=>?_)
  exact h2 pins s1 σ1 H1 _ _ Q I1 rr q1
def zkL (K:PySem.W.Frag)(n:Nat)(t:TGs):TG:=fun v σ H Q=>∃a xs,v=.ref a/\SqT K H a xs/\xs.length=n/\t xs σ H Q
theorem J0 {es:List Expr}{k:Nat}{t:TGs}{n:Nat}(hc:X.calm=true)(h:PGs X es t)
  (hn:(assignEach es X.env).length=n:=by rfl) (hst:(assignEach es X.env).findIdx? (·.1)=none:=by rfl):PG X (.Tuple es k pos) (zkL X.K n t):=by
 intro pins s σ H v u Q I r hw
 obtain⟨a,xs,e1,hq,hl,hw⟩:=hw
 subst e1
 cases r
 obtain⟨its,rv,ht,hz⟩:=I.tuple hq
 refine assign_Tuple_tuple (I.ok.hd hc) ht (by simp [hn,<- hl,rv.length]) hst fun h' hx=>?_
 have I1:Inv X pins σ H { s with heap:=h' }:=I.kept (t':=s.toks) fun b o e=>hx b o (ne_of_lt (Heap.lt_size e)) e
 exact h pins _ σ H xs _ Q I1 (by simpa using rv) hw
def zjO (te:TE)(g:TG):TS:=fun D σ H=>te σ H fun x H1=>g x σ H1 D.nx
theorem Q4 {tg e:Expr}{te:TE}{g:TG}(he:PE X e te)(hg:PG X tg g)(hs:swapsWithSole [tg] e pos.line X.env=pure false:=by rfl)(hw:swappedStores [tg] e X.env=pure none:=by rfl)
  (h1:(assignEach [tg] X.env).map (·.2)=[assign tg X.env]:=by rfl):PS X (.Assign [tg] e pos) (zjO te g):=by
 intro pins s σ H D I h
 refine wpAny_Assign_stores (thn (he pins s σ H _ I h) fun v s1 ⟨x,H1,I1,r1,q1⟩=>?_) hs hw
 rw [h1]
 exact thn (hg pins s1 σ H1 x v _ I1 r1 q1) fun _ s2 q=>q
theorem zH {i:Nat}{x:Str}{e:Expr}{te:TE}{pos':Pos}(hN:X.N.Nodup)(hi:X.N[i]?=some x)(hx:Loc X.env.scope x)(he:PE X e te)(hs:swapsWith e (some (.Name x pos')) pos.line X.env=pure false:=by rfl)(hf:X.fn x=true\/X.env.scope.names.lookup x=some .local:=by first | exact .inl rfl | exact .inr rfl | assumption) :
  PS X (.Assign [.Name x pos'] e pos) (zjO te (ze1 i)):=by
 intro pins s σ H D I h
 refine wpAny_Assign_Name (thn (he pins s σ H _ I h) fun v s1 ⟨y,H1,I1,r1,q1⟩=>?_) hs
 exact Q2 I1 hN hi hx r1 (fun s2 I2=>⟨_,H1,I2,q1⟩) hf
end
section
variable {X:Cx}{pos:Pos}
end
structure It where
 go:Nat->Hp->Prop
 yld:Nat->Hp->V->Hp->Prop
 stop:Nat->Hp->Prop
def QF (X:Cx)(pins:List (Addr×Obj))(H:Hp)(b:Addr):Prop :=
 H b=none/\b≠X.env.locals/\b ∉ X.fs/\(b∈X.ex\/X.s₀.heap.objs.size<=b)/\(∀x c,X.env.cells.lookup x=some c->c≠b)/\∀p∈X.pn++pins,p.1≠b
theorem Inv.fpOk {X:Cx}{pins:List (Addr×Obj)}{σ:St}{H H':Hp}{s:Shared}{b:Addr}(I:Inv X pins σ H s)(hb:s.heap.objs.size<=b)(hn:H' b=none):QF X pins H' b:=by
 refine⟨hn,Nat.ne_of_gt (lt_of_lt_of_le I.lt hb),I.nofs hb,.inr (le_trans I.sz hb),fun x c e z=>?_,fun p hp z=>?_⟩
 ·obtain⟨v,q⟩:=I.cell x c e
  exact absurd (lt_of_lt_of_le q.lt (by rw [z];exact hb)) (lt_irrefl _)
 ·exact absurd (lt_of_lt_of_le (Heap.lt_size (I.pin p hp).1) (by rw [z];exact hb)) (lt_irrefl _)
structure Turn (P:Program)(w:World)(K:PySem.W.Frag)(tg:Expr)(J:It)(fp:List Addr)(it:Addr)(tn:Nat->Heap->Prop):Prop where
 mem:it∈fp
 obj:∀i h,tn i h->∀b∈fp,∃o,h.get? b=some o/\∀v,o.data ≠ .cell v
 keep:∀i h h',tn i h->(∀b∈fp,∀o,h.get? b=some o->h'.get? b=some o)->tn i h'
 item:∀(X:Cx),X.prog=P->X.w=w->X.K=K->X.calm=true->∀(i:Nat) (pins:List (Addr×Obj)) (s:Shared) (σ:St) (H:Hp) (E:Value->Shared->Prop),Inv X pins σ H s->(∀b∈fp,QF X pins H b)->tn i s.heap->J.go i H ->
  wpAny (model P w) X.A (pyNext (.ref it)) (fun r s1=>∃u,r=some u /\
   wpAny (model P w) X.A (letOwnedTupleGo tg (.ref it) u) (fun _ s2=>∃x H',Inv X pins σ H' s2/\RelV x u/\J.yld i H x H'/\tn (i+1) s2.heap/\∀b∈fp,H' b=none) E s1) E s
 done:∀(X:Cx),X.prog=P->X.w=w->X.K=K->X.calm=true->∀(i:Nat) (pins:List (Addr×Obj)) (s:Shared) (σ:St) (H:Hp) (E:Value->Shared->Prop),Inv X pins σ H s->(∀b∈fp,QF X pins H b)->tn i s.heap->J.stop i H ->
  wpAny (model P w) X.A (pyNext (.ref it)) (fun r s1=>r=none/\Inv X pins σ H s1) E s
 self:∀(A:Around) (i:Nat) (s:Shared) (Q:Value->Shared->Prop) (E:Value->Shared->Prop),tn i s.heap->Q (.ref it) s->wpAny (model P w) A (pyIter (.ref it)) Q E s
abbrev TI:=St->Hp->(It->Hp->Prop)->Prop
def PIE (X:Cx)(pins:List (Addr×Obj))(σ:St)(tg:Expr)(R:It->Hp->Prop)(itv:Value)(s2:Shared):Prop :=
 ∃(it:Addr) (fp:List Addr) (tn:Nat->Heap->Prop) (J:It) (H':Hp),itv=.ref it/\Inv X pins σ H' s2/\Turn X.prog X.w X.K tg J fp it tn/\tn 0 s2.heap/\(∀b∈fp,QF X pins H' b)/\R J H'
def PI (X:Cx)(tg iter:Expr)(wi:TI):Prop :=
 ∀(pins:List (Addr×Obj)) (s:Shared) (σ:St) (H:Hp) (R:It->Hp->Prop),Inv X pins σ H s->wi σ H R ->
  wpAny (model X.prog X.w) X.A (eval iter X.env) (fun v s1=>wpAny (model X.prog X.w) X.A (pyIter v) (PIE X pins σ tg R) X.xe s1) X.xe s
theorem zgT {M:Model}{A:Around}{E:Value->Shared->Prop}{s:Shared}{tg:Expr}{it:Addr}{u:Value}{o:Obj}{n:String}{vs:Array Value}{Q:Unit->Shared->Prop}(ho:s.heap.get? it=some o)(hc:o.cls=.type n)(hd:o.data=.fields vs)
    (hn:["enumerate","zip","dict_itemiterator","dict_reverseitemiterator","odict_iterator","itertools.zip_longest","itertools.pairwise"].contains n=false) (hQ:Q () s):wpAny M A (letOwnedTupleGo tg (.ref it) u) Q E s:=by
  unfold letOwnedTupleGo
  cases tg<;>first
    | exact wpAny_pure hQ
    | (cases u<;>first
        | exact wpAny_pure hQ
        | (refine wpAny_bind (wpAny_load ho ?_)
           rw [hc,hd]
           show wpAny M A (if (["enumerate","zip","dict_itemiterator","dict_reverseitemiterator","odict_iterator","itertools.zip_longest","itertools.pairwise"].contains n&&vs[0]?==some (rawInt _))=true then _ else _) Q E s
           rw [if_neg (by intro h;rw [hn,Bool.false_and] at h;cases h)]
           exact wpAny_pure hQ))
noncomputable def Itl (K:PySem.W.Frag)(a:Addr):It :=
 ⟨fun i H=>∃xs x,SqL K H a xs/\xs[i]?=some x,fun i H x H'=>H'=H/\∀xs,SqL K H a xs->xs[i]?=some x,fun i H=>∃xs,SqL K H a xs/\xs.length<=i⟩
noncomputable def Itt (K:PySem.W.Frag)(a:Addr):It :=
 ⟨fun i H=>∃xs x,SqT K H a xs/\xs[i]?=some x,fun i H x H'=>H'=H/\∀xs,SqT K H a xs->xs[i]?=some x,fun i H=>∃xs,SqT K H a xs/\xs.length<=i⟩
noncomputable def Itr (lo:Int)(n:Nat):It:=⟨fun i _=>i<n,fun i H x H'=>H'=H/\x=.int (lo+i),fun i _=>n<=i⟩
theorem zfR {P:Program}{w:World}{K:PySem.W.Frag}{tg:Expr}(a it:Addr):Turn P w K tg (Itl K a) [it] it (fun i h=>h.IsListIter it a i) where
 mem:=by simp
 obj:=fun i h st b hb=>by
  have e:b=it:=by simpa using hb
  subst e
  obtain⟨o,e,c,d⟩:=st
  exact⟨o,e,fun v z=>by rw [d] at z;cases z⟩
 keep:=fun i h h' st k=>st.at fun o e=>k it (by simp) o e
 item:=by
  intro X hP hw hK hc i pins s σ H E I hf st hg
  subst hP hw hK
  obtain⟨xs,x,hq,hx⟩:=hg
  obtain⟨its,rv,p,hz⟩:=I.list hq
  obtain⟨u,hu,ru⟩:=rv.get hx
  obtain⟨f0,f1,f2,f3,f4,f5⟩:=hf it (by simp)
  refine wpAny_pyNext_list_item st p.isList (x:=u) (by simpa using hu) fun h' st' sb=>?_
  have I1:Inv X pins σ H { s with heap:=h' }:=I.turned (t':=s.toks) (fun b o hb e=>(sb.2 b hb).trans e) f0 f1 f3 f4 f5
  obtain⟨o,e,c,d⟩:=id st'
  exact⟨u,rfl,zgT (s:={ s with heap:=h' }) e c d (by decide) ⟨x,H,I1,ru,⟨rfl,fun ys hy=>by rw [I.list_inj hy hq];exact hx⟩,st',fun b hb=>(hf b hb).1⟩⟩
 done:=by
  intro X hP hw hK hc i pins s σ H E I hf st hg
  subst hP hw hK
  obtain⟨xs,hq,hx⟩:=hg
  obtain⟨its,rv,p,hz⟩:=I.list hq
  obtain⟨f0,f1,f2,f3,f4,f5⟩:=hf it (by simp)
  have hl:=rv.length
  exact wpAny_pyNext_list_end (I.ok.hd hc) st p.isList (by simp;omega) fun h' eb=>⟨rfl,I.turned (t':=s.toks) (fun b o hb e=>eb b o hb e) f0 f1 f3 f4 f5⟩
 self:=fun _ _ _ _ _ st h=>wpAny_pyIter_listiter st h
theorem zd4 {P:Program}{w:World}{K:PySem.W.Frag}{tg:Expr}(a it:Addr):Turn P w K tg (Itt K a) [it] it (fun i h=>h.IsTupleIter it a i) where
 mem:=by simp
 obj:=fun i h st b hb=>by
  have e:b=it:=by simpa using hb
  subst e
  obtain⟨o,e,c,d⟩:=st
  exact⟨o,e,fun v z=>by rw [d] at z;cases z⟩
 keep:=fun i h h' st k=>st.at fun o e=>k it (by simp) o e
 item:=by
  intro X hP hw hK hc i pins s σ H E I hf st hg
  subst hP hw hK
  obtain⟨xs,x,hq,hx⟩:=hg
  obtain⟨its,rv,p,hz⟩:=I.tuple hq
  obtain⟨u,hu,ru⟩:=rv.get hx
  obtain⟨f0,f1,f2,f3,f4,f5⟩:=hf it (by simp)
  refine wpAny_pyNext_tuple_item st (show s.heap.IsTuple a its.toArray from p) (x:=u) (by simpa using hu) fun h' st' sb=>?_
  have I1:Inv X pins σ H { s with heap:=h' }:=I.turned (t':=s.toks) (fun b o hb e=>(sb.2 b hb).trans e) f0 f1 f3 f4 f5
  obtain⟨o,e,c,d⟩:=id st'
  exact⟨u,rfl,zgT (s:={ s with heap:=h' }) e c d (by decide) ⟨x,H,I1,ru,⟨rfl,fun ys hy=>by rw [I.tuple_inj hy hq];exact hx⟩,st',fun b hb=>(hf b hb).1⟩⟩
 done:=by
  intro X hP hw hK hc i pins s σ H E I hf st hg
  subst hP hw hK
  obtain⟨xs,hq,hx⟩:=hg
  obtain⟨its,rv,p,hz⟩:=I.tuple hq
  obtain⟨f0,f1,f2,f3,f4,f5⟩:=hf it (by simp)
  have hl:=rv.length
  exact wpAny_pyNext_tuple_end (I.ok.hd hc) st (show s.heap.IsTuple a its.toArray from p) (by simp;omega) fun h' eb=>⟨rfl,I.turned (t':=s.toks) (fun b o hb e=>eb b o hb e) f0 f1 f3 f4 f5⟩
 self:=fun _ _ _ _ _ st h=>wpAny_pyIter_tupleiter st h
theorem zd5 {P:Program}{w:World}{K:PySem.W.Frag}{tg:Expr}(it:Addr)(lo:Int)(n:Nat):Turn P w K tg (Itr lo n) [it] it (fun i h=>IsRangeIter h it (lo+(i:Nat)*1) ((n:Int)-(i:Nat)) 1) where
 mem:=by simp
 obj:=fun i h st b hb=>by
  have e:b=it:=by simpa using hb
  subst e
  exact⟨_,st,fun v z=>by
   have z':Data.fields _=Data.cell v:=z
   cases z'⟩
 keep:=fun i h h' st k=>k it (by simp) _ st
 item:=by
  intro X hP hw hK hc i pins s σ H E I hf st hg
  subst hP hw hK
  obtain⟨f0,f1,f2,f3,f4,f5⟩:=hf it (by simp)
  have W:=Walks.range (prog:=X.prog) (w:=X.w) (I.ok.hd hc) it lo 1 n
  refine W.item i s _ _ hg st fun v h' tk hv st' kk=>?_
  obtain⟨t,rfl⟩:=hv
  have I1:Inv X pins σ H { s with heap:=h',toks:=tk }:=I.turned (fun b o hb e=>kk b o (by simpa using hb) e) f0 f1 f3 f4 f5
  refine⟨_,rfl,zgT (s:={ s with heap:=h',toks:=tk }) (n:="range_iterator") st' rfl rfl (by decide) ⟨.int (lo+i),H,I1,⟨t,?_⟩,⟨rfl,rfl⟩,st',fun b hb=>(hf b hb).1⟩⟩
  rw [Int.mul_one]
 done:=by
  intro X hP hw hK hc i pins s σ H E I hf st hg
  subst hP hw hK
  obtain⟨f0,f1,f2,f3,f4,f5⟩:=hf it (by simp)
  exact wpAny_pyNext_range_end (I.ok.hd hc) st (by have:n<=i:=hg;omega) fun h' eb=>⟨rfl,I.turned (t':=s.toks) (fun b o hb e=>eb b o hb e) f0 f1 f3 f4 f5⟩
 self:=fun _ _ _ _ _ st h=>wpAny_pyIter_rangeiter st h
section
variable {X:Cx}{tg:Expr}
def zkM (K:PySem.W.Frag)(tl:TE):TI:=fun σ H R=>tl σ H fun x H1=>∃a,x=.ref a/\(∃xs,SqL K H1 a xs)/\R (Itl K a) H1
def zlD (K:PySem.W.Frag)(tl:TE):TI:=fun σ H R=>tl σ H fun x H1=>∃a,x=.ref a/\(∃xs,SqT K H1 a xs)/\R (Itt K a) H1
theorem qt {l:Expr}{tl:TE}(hl:PE X l tl):PI X tg l (zkM X.K tl):=by
 intro pins s σ H R I h
 refine thn (hl pins s σ H _ I h) fun v s1 ⟨x,H1,I1,r1,q1⟩=>?_
 obtain⟨a,e,⟨xs,hq⟩,q⟩:=q1
 subst e
 cases r1
 obtain⟨its,rv,p,hz⟩:=I1.list hq
 refine wpAny_pyIter_list p.isList ?_
 refine⟨s1.heap.objs.size,[s1.heap.objs.size],_,_,H1,rfl,I1.kept (t':=s1.toks) fun b o e=>Heap.get?_push_of_some _ e,zfR a _,⟨_,Heap.get?_push_size _ rfl,rfl,rfl⟩,fun b hb=>?_,q⟩
 have e:b=s1.heap.objs.size:=by simpa using hb
 subst e
 exact I1.fpOk (le_refl _) (I1.hok.fresh (le_refl _))
theorem zjP {l:Expr}{tl:TE}(hl:PE X l tl):PI X tg l (zlD X.K tl):=by
 intro pins s σ H R I h
 refine thn (hl pins s σ H _ I h) fun v s1 ⟨x,H1,I1,r1,q1⟩=>?_
 obtain⟨a,e,⟨xs,hq⟩,q⟩:=q1
 subst e
 cases r1
 obtain⟨its,rv,p,hz⟩:=I1.tuple hq
 refine wpAny_pyIter_tuple (show s1.heap.IsTuple a its.toArray from p) ?_
 refine⟨s1.heap.objs.size,[s1.heap.objs.size],_,_,H1,rfl,I1.kept (t':=s1.toks) fun b o e=>Heap.get?_push_of_some _ e,zd4 a _,⟨_,Heap.get?_push_size _ rfl,rfl,rfl⟩,fun b hb=>?_,q⟩
 have e:b=s1.heap.objs.size:=by simpa using hb
 subst e
 exact I1.fpOk (le_refl _) (I1.hok.fresh (le_refl _))
theorem zcN {pins:List (Addr×Obj)}{σ:St}{H:Hp}{s:Shared}{R:It->Hp->Prop}{E:Value->Shared->Prop}{lo hi:Int}{t u v:Tok}{tk:Nat}(I:Inv X pins σ H s)(h1:-(2^62)<=lo)(h2:lo<2^62)(h3:-(2^62)<=hi)(h4:hi<2^62)
  (q:R (Itr lo (hi-lo).toNat) H):wpAny (model X.prog X.w) X.A (pyIter (.ref s.heap.objs.size)) (PIE X pins σ tg R) E { s with heap:=s.heap.push { cls:=.type "range",data:=.fields #[.int lo t,.int hi u,.int 1 v] },toks:=tk }:=by
 refine wpAny_pyIter_range (IsRange.new ..) (small_one h1 h2 h3 h4) ?_
 have I1:Inv X pins σ H { s with heap:=s.heap.push { cls:=.type "range",data:=.fields #[.int lo t,.int hi u,.int 1 v] },toks:=tk }:=I.kept fun b o e=>Heap.get?_push_of_some _ e
 refine⟨(s.heap.push { cls:=.type "range",data:=.fields #[.int lo t,.int hi u,.int 1 v] }).objs.size,[(s.heap.push { cls:=.type "range",data:=.fields #[.int lo t,.int hi u,.int 1 v] }).objs.size],_,_,H,rfl,
  I1.kept (t':=tk) fun b o e=>Heap.get?_push_of_some _ e,zd5 _ lo (hi-lo).toNat,?_,fun b hb=>?_,q⟩
 ·have e1:lo+((0:Nat):Int)*1=lo:=by simp
  have e2:(((hi-lo).toNat:Nat):Int)-((0:Nat):Int)=Builtin.Range.rangeSize lo hi 1:=by rw [rangeSize_one];split<;>omega
  show IsRangeIter _ _ (lo+((0:Nat):Int)*1) ((((hi-lo).toNat:Nat):Int)-((0:Nat):Int)) 1
  rw [e1,e2]
  exact Heap.get?_push_size _ rfl
 ·have e:b=(s.heap.push { cls:=.type "range",data:=.fields #[.int lo t,.int hi u,.int 1 v] }).objs.size:=by simpa using hb
  subst e
  exact I1.fpOk (le_refl _) (I1.hok.fresh (le_refl _))
def zkN (ta:TA):TI:=fun σ H R=>ta σ H fun vs H1=>∃j:Int,vs=[.int j]/\-(2^62)<=j/\j<2^62/\R (Itr 0 j.toNat) H1
def zkO (ta:TA):TI:=fun σ H R=>ta σ H fun vs H1=>∃i j:Int,vs=[.int i,.int j]/\(-(2^62)<=i/\i<2^62/\-(2^62)<=j/\j<2^62)/\R (Itr i (j-i).toNat) H1
theorem xw {a:Expr}{ta:TA}{p pos:Pos}(hg:Gl X "range")(hm:X.mg "range"=none)(ha:PA X [a] ta)(hs:starEach [a] X.env=[(false,eval a X.env)]:=by rfl):PI X tg (.Call (.Name "range" p) [a] [] pos) (zkN ta):=by
 intro pins s σ H R I h
 refine Call_ (Z7 I hg hm boot_range (PyProof.Rows.callWith_type1 (thn (ha pos pins s σ H _ I h) fun us s1 ⟨vs,H1,I1,r1,q1⟩=>?_) hs rfl))
 obtain⟨j,e,q1,q2,q⟩:=q1
 subst e
 cases r1 with
 | cons r rr =>
  cases rr
  obtain⟨t,rfl⟩:=r
  exact call_range_1 (zcN I1 (by omega) (by omega) q1 q2 (by simpa using q))
theorem Y6 {a b:Expr}{ta:TA}{p pos:Pos}(hg:Gl X "range")(hm:X.mg "range"=none)(ha:PA X [a,b] ta)(hs:starEach [a,b] X.env=[(false,eval a X.env),(false,eval b X.env)]:=by rfl)(hs2:starEach [b] X.env=[(false,eval b X.env)]:=by rfl) :
  PI X tg (.Call (.Name "range" p) [a,b] [] pos) (zkO ta):=by
 intro pins s σ H R I h
 refine Call_ (Z7 I hg hm boot_range (PyProof.Rows.callWith_type1 (thn (ha pos pins s σ H _ I h) fun us s1 ⟨vs,H1,I1,r1,q1⟩=>?_) (by rw [hs,hs2]) (by rw [hs2];rfl)))
 obtain⟨i,j,e,⟨q1,q2,q3,q4⟩,q⟩:=q1
 subst e
 cases r1 with
 | cons r rr =>
  cases rr with
  | cons r' rr =>
   cases rr
   obtain⟨t,rfl⟩:=r
   obtain⟨t',rfl⟩:=r'
   exact call_range_2 (zcN I1 q1 q2 q3 q4 q)
def zlE (wi:TI)(g:TG)(tb:TS):TS:=fun D σ H=>wi σ H fun J H1=>∃W:Nat->Nat->St->Hp->Prop,(∃m,W 0 m σ H1)/\∀i m σ H,W i m σ H ->
 (J.stop i H/\D.nx σ H)\/(J.go i H/\∃N:St->Hp->Prop,(∀ σ' H',N σ' H'->∃m',m'<m/\W (i+1) m' σ' H')/\∀x H',J.yld i H x H'->g x σ H' fun σ2 H2=>tb { D with nx:=N,ct:=N,bk:=D.nx } σ2 H2)
noncomputable def Y7 (fp:List Addr)(h:Heap):List (Addr×Obj):=fp.filterMap fun b=>(h.get? b).map fun o=>(b,o)
theorem j8 {fp:List Addr}{h:Heap}{b:Addr}{o:Obj}(hb:b∈fp)(e:h.get? b=some o):(b,o)∈Y7 fp h:=List.mem_filterMap.mpr ⟨b,hb,by rw [e];rfl⟩
theorem zfS {fp:List Addr}{h:Heap}{p:Addr×Obj}(hp:p∈Y7 fp h):p.1∈fp/\h.get? p.1=some p.2:=by
 obtain⟨b,hb,e⟩:=List.mem_filterMap.mp hp
 cases q:h.get? b with
 | none=>rw [q] at e;cases e
 | some o =>
  rw [q] at e
  have e':(b,o)=p:=Option.some.inj e
  subst e'
  exact⟨hb,q⟩
theorem Inv.pinned {pins:List (Addr×Obj)}{σ:St}{H:Hp}{s:Shared}{fp:List Addr}(I:Inv X pins σ H s)(hf:∀b∈fp,QF X pins H b)(ho:∀b∈fp,∃o,s.heap.get? b=some o/\∀v,o.data ≠ .cell v):Inv X (pins++Y7 fp s.heap) σ H s :=
 I.pins_of fun p hp=>(List.mem_append.mp hp).elim (fun z=>I.pin p (mem_append_right _ z)) fun z=>by
  obtain⟨hb,e⟩:=zfS z
  obtain⟨f0,f1,f2,_⟩:=hf p.1 hb
  obtain⟨o,e',d⟩:=ho p.1 hb
  rw [e] at e';cases e'
  exact⟨e,f0,f1,f2,d⟩
theorem Inv.unpinned {pins pl:List (Addr×Obj)}{σ:St}{H:Hp}{s:Shared}(I:Inv X (pins++pl) σ H s):Inv X pins σ H s:=I.pins_of fun p hp=>I.pin p (mem_append_right _ (mem_append_left _ hp))
theorem yL {iter:Expr}{body:List Stmt}{wi:TI}{g:TG}{tb:TS}{pos:Pos}(hp:PassesOwn (model X.prog X.w) X.A X.env X.xe)(hc:X.calm=true)(hi:PI X tg iter wi)(hg:PG X tg g)(hb:PSs X body tb)
  (hs:∀x,foldedSetIterable iter X.env x=pure x:=by intro _;rfl):PS X (.For tg iter body [] pos) (zlE wi g tb):=by
 intro pins s σ H D I h
 refine wpAny_For (thn (hi pins s σ H _ I h) fun v s1 h1=>thn h1 fun itv s2 h2=>?_) hs
 obtain⟨it,fp,tn,J,H2,e,I2,T,st2,f2,W,⟨m0,w0⟩,turn⟩:=h2
 subst e
 have stat:∀{H':Hp},(∀b∈fp,H' b=none)->∀b∈fp,QF X pins H' b:=fun hn b hb=>⟨hn b hb,(f2 b hb).2⟩
 refine codeAny_forLoop_any (fun n s'=>∃i σ' H',Inv X pins σ' H' s'/\tn i s'.heap/\(∀b∈fp,H' b=none)/\W i n σ' H') ?_ m0 ⟨0,σ,H2,I2,st2,fun b hb=>(f2 b hb).1,w0⟩
 rintro n s3 ⟨i,σ3,H3,I3,st3,fr3,w3⟩
 rcases turn i n σ3 H3 w3 with ⟨stop,qn⟩ | ⟨go,N,hN,step⟩
 ·refine wpAny_passesOwn hp (thn (T.done X rfl rfl rfl hc i pins s3 σ3 H3 X.xe I3 (stat fr3) st3 stop) fun r s4 ⟨hr,I4⟩=>?_)
  subst hr
  exact wpAny_execs_nil ⟨σ3,H3,I4,qn⟩
 ·refine wpAny_passesOwn hp (thn (T.item X rfl rfl rfl hc i pins s3 σ3 H3 X.xe I3 (stat fr3) st3 go) fun r s4 ⟨u,hr,h4⟩=>?_)
  subst hr
  refine wpAny_passesOwn hp (thn h4 fun _ s5 ⟨x,H5,I5,r5,y5,st5,fr5⟩=>?_)
  have I5':=I5.pinned (stat fr5) (T.obj _ _ st5)
  refine wpAny_passesOwn hp (thn (hg _ s5 σ3 H5 x u _ I5' r5 (step x H5 y5)) fun _ s6 ⟨σ6,H6,I6,q6⟩=>?_)
  refine wpAny_passesOwn hp (thn (hb _ s6 σ6 H6 _ I6 q6) fun f s7 q7=>?_)
  have again:∀{σ7:St} {H7:Hp},Inv X (pins++Y7 fp s5.heap) σ7 H7 s7->N σ7 H7->∃m,m<n/\∃i σ' H',Inv X pins σ' H' s7/\tn i s7.heap/\(∀b∈fp,H' b=none)/\W i m σ' H':=fun {σ7 H7} I7 n7=>by
   obtain⟨m',hm,w7⟩:=hN σ7 H7 n7
   refine⟨m',hm,i+1,σ7,H7,I7.unpinned,T.keep _ _ _ st5 fun b hb o e=>(I7.pin (b,o) (mem_append_right _ (mem_append_right _ (j8 hb e)))).1,fun b hb=>?_,w7⟩
   obtain⟨o,e,d⟩:=T.obj _ _ st5 b hb
   exact(I7.pin (b,o) (mem_append_right _ (mem_append_right _ (j8 hb e)))).2.1
  cases f with
  | next=>obtain⟨σ7,H7,I7,n7⟩:=q7;exact again I7 n7
  | cont=>obtain⟨σ7,H7,I7,n7⟩:=q7;exact again I7 n7
  | brk=>obtain⟨σ7,H7,I7,q7⟩:=q7;exact⟨σ7,H7,I7.unpinned,q7⟩
  | ret v=>obtain⟨x7,σ7,H7,I7,r7,q7⟩:=q7;exact⟨x7,σ7,H7,I7.unpinned,r7,q7⟩
end
theorem zgU {K:PySem.W.Frag}{a:Addr}{xs:List V}{g:TG}{tb:TS}{D:Ends}{σ:St}{H:Hp}(Pv:Nat->St->Hp->Prop)(h0:Pv 0 σ H)(hl:∀i σ H,i<=xs.length->Pv i σ H->SqL K H a xs)
  (hs:∀i x σ H,xs[i]?=some x->Pv i σ H->g x σ H fun σ2 H2=>tb { D with nx:=Pv (i+1),ct:=Pv (i+1),bk:=D.nx } σ2 H2) (hd:∀ σ H,Pv xs.length σ H->D.nx σ H) :
  ∃W:Nat->Nat->St->Hp->Prop,(∃m,W 0 m σ H)/\∀i m σ H,W i m σ H ->
   ((Itl K a).stop i H/\D.nx σ H)\/((Itl K a).go i H/\∃N:St->Hp->Prop,(∀ σ' H',N σ' H'->∃m',m'<m/\W (i+1) m' σ' H')/\∀x H',(Itl K a).yld i H x H'->g x σ H' fun σ2 H2=>tb { D with nx:=N,ct:=N,bk:=D.nx } σ2 H2):=by
 refine⟨fun i m σ H=>m=xs.length-i/\i<=xs.length/\Pv i σ H,⟨xs.length,by simp,zero_le _,h0⟩,?_⟩
 rintro i m σ H ⟨rfl,hi,p⟩
 have q:=hl i σ H hi p
 by_cases hlt:i<xs.length
 ·refine .inr ⟨⟨xs,xs[i],q,by simp [hlt]⟩,Pv (i+1),fun σ' H' p'=>⟨xs.length-(i+1),by omega,rfl,hlt,p'⟩,fun x H' y=>?_⟩
  obtain⟨e,y⟩:=y
  subst e
  exact hs i x σ _ (y xs q) p
 ·have e:i=xs.length:=by omega
  subst e
  exact .inl ⟨⟨xs,q,le_refl _⟩,hd σ H p⟩
theorem ji {lo:Int}{n:Nat}{g:TG}{tb:TS}{D:Ends}{σ:St}{H:Hp}(Pv:Nat->St->Hp->Prop)(h0:Pv 0 σ H)
  (hs:∀i σ H,i<n->Pv i σ H->g (.int (lo+i)) σ H fun σ2 H2=>tb { D with nx:=Pv (i+1),ct:=Pv (i+1),bk:=D.nx } σ2 H2) (hd:∀ σ H,Pv n σ H->D.nx σ H) :
  ∃W:Nat->Nat->St->Hp->Prop,(∃m,W 0 m σ H)/\∀i m σ H,W i m σ H ->
   ((Itr lo n).stop i H/\D.nx σ H)\/((Itr lo n).go i H/\∃N:St->Hp->Prop,(∀ σ' H',N σ' H'->∃m',m'<m/\W (i+1) m' σ' H')/\∀x H',(Itr lo n).yld i H x H'->g x σ H' fun σ2 H2=>tb { D with nx:=N,ct:=N,bk:=D.nx } σ2 H2):=by
 refine⟨fun i m σ H=>m=n-i/\i<=n/\Pv i σ H,⟨n,by simp,zero_le _,h0⟩,?_⟩
 rintro i m σ H ⟨rfl,hi,p⟩
 by_cases hlt:i<n
 ·refine .inr ⟨hlt,Pv (i+1),fun σ' H' p'=>⟨n-(i+1),by omega,rfl,hlt,p'⟩,fun x H' y=>?_⟩
  obtain⟨e,y⟩:=y
  subst e y
  exact hs i σ _ hlt p
 ·have e:i=n:=by omega
  subst e
  exact .inl ⟨le_refl _,hd σ H p⟩
abbrev R2:=V->V->Hp->VK->Prop
def OpR (X:Cx)(f:Value->Value->Sem Value)(r:R2):Prop :=
 ∀(pins:List (Addr×Obj)) (s:Shared) (σ:St) (H:Hp) (x y:V) (v u:Value) (Q:VK),Inv X pins σ H s->RelV x v->RelV y u->r x y H Q ->
  wpAny (model X.prog X.w) X.A (f v u) (EP X pins σ Q) X.xe s
def UnR (X:Cx)(f:Value->Sem Value)(r:V->Hp->VK->Prop):Prop :=
 ∀(pins:List (Addr×Obj)) (s:Shared) (σ:St) (H:Hp) (x:V) (v:Value) (Q:VK),Inv X pins σ H s->RelV x v->r x H Q ->
  wpAny (model X.prog X.w) X.A (f v) (EP X pins σ Q) X.xe s
def jn (X:Cx)(f:Value)(r:List V->Hp->VK->Prop):Prop :=
 ∀(pins:List (Addr×Obj)) (s:Shared) (σ:St) (H:Hp) (xs:List V) (us:List Value) (Q:VK),Inv X pins σ H s->Vals xs us->r xs H Q ->
  wpAny (model X.prog X.w) X.A (call f us) (EP X pins σ Q) X.xe s
def zlF (X:Cx)(r:V->Hp->(Bool->Hp->Prop)->Prop):Prop :=
 ∀(pins:List (Addr×Obj)) (s:Shared) (σ:St) (H:Hp) (x:V) (v:Value) (Q:Bool->Hp->Prop),Inv X pins σ H s->RelV x v->r x H Q ->
  wpAny (model X.prog X.w) X.A (truthy v) (TP X pins σ Q) X.xe s
def tOp (r:R2)(ta tb:TE):TE:=fun σ H Q=>ta σ H fun x H1=>tb σ H1 fun y H2=>r x y H2 Q
def tUn (r:V->Hp->VK->Prop)(ta:TE):TE:=fun σ H Q=>ta σ H fun x H1=>r x H1 Q
def rI (C:Int->Int->Prop)(g:Int->Int->V):R2:=fun x y H Q=>∃i j,x=.int i/\y=.int j/\C i j/\Q (g i j) H
def rI0 (g:Int->Int->V):R2:=fun x y H Q=>∃i j,x=.int i/\y=.int j/\Q (g i j) H
def rU (g:Int->V):V->Hp->VK->Prop:=fun x H Q=>∃i,x=.int i/\Q (g i) H
section
variable {X:Cx}{a b c:Expr}{ta tb tc:TE}{pos:Pos}
theorem zjQ (ha:PE X a ta)(hb:PE X b tb){pins:List (Addr×Obj)}{s:Shared}{σ:St}{H:Hp}{R:V->V->Hp->Prop}(I:Inv X pins σ H s)
  (h:ta σ H fun x H1=>tb σ H1 fun y H2=>R x y H2) {Q:Value->Shared->Prop} {f:Value->Value->Sem Value}
  (hf:∀v u s2 x y H2,Inv X pins σ H2 s2->RelV x v->RelV y u->R x y H2->wpAny (model X.prog X.w) X.A (f v u) Q X.xe s2) :
  wpAny (model X.prog X.w) X.A (eval a X.env) (fun v s₁=>wpAny (model X.prog X.w) X.A (eval b X.env) (fun u s₂=>wpAny (model X.prog X.w) X.A (f v u) Q X.xe s₂) X.xe s₁) X.xe s:=by
 refine thn (ha pins s σ H _ I h) fun v s1 ⟨x,H1,I1,r1,q1⟩=>?_
 refine thn (hb pins s1 σ H1 _ I1 q1) fun u s2 ⟨y,H2,I2,r2,q2⟩=>?_
 exact hf v u s2 x y H2 I2 r1 r2 q2
theorem zv {op:Operator}{r:R2}(ho:OpR X (binaryOp op) r)(ha:PE X a ta)(hb:PE X b tb):PE X (.BinOp a op b pos) (tOp r ta tb):=by
 intro pins s σ H Q I h
 exact wpAny_BinOp (zjQ ha hb I h fun v u s2 x y H2 I2 rx ry q=>ho pins s2 σ H2 x y v u Q I2 rx ry q)
theorem zcO {op:UnaryOp}{r:V->Hp->VK->Prop}(ho:UnR X (unaryOp op) r)(ha:PE X a ta):PE X (.UnaryOp op a pos) (tUn r ta):=by
 intro pins s σ H Q I h
 exact UnaryOp_ (thn (ha pins s σ H _ I h) fun v s1 ⟨x,H1,I1,r1,q1⟩=>ho pins s1 σ H1 x v Q I1 r1 q1)
theorem opI {f:Value->Value->Sem Value}{C:Int->Int->Prop}{g:Int->Int->Int}
  (rule:∀(i j:Int) (t u:Tok) (s:Shared) (Q:Value->Shared->Prop) (E:Value->Shared->Prop),C i j->Q (.int (g i j) s.toks) { s with toks:=s.toks+1 }->wpAny (model X.prog X.w) X.A (f (.int i t) (.int j u)) Q E s) :
  OpR X f (rI C fun i j=>.int (g i j)):=by
 intro pins s σ H x y v u Q I rx ry h
 obtain⟨i,j,rfl,rfl,hc,q⟩:=h
 obtain⟨t,rfl⟩:=rx
 obtain⟨t',rfl⟩:=ry
 exact rule i j t t' s _ _ hc ⟨.int (g i j),H,I.tok _,⟨_,rfl⟩,q⟩
theorem zkP {f:Value->Value->Sem Value}{g:Int->Int->Int}
  (rule:∀(i j:Int) (t u:Tok) (s:Shared) (Q:Value->Shared->Prop) (E:Value->Shared->Prop),Q (.int (g i j) s.toks) { s with toks:=s.toks+1 }->wpAny (model X.prog X.w) X.A (f (.int i t) (.int j u)) Q E s) :
  OpR X f (rI0 fun i j=>.int (g i j)):=by
 intro pins s σ H x y v u Q I rx ry h
 obtain⟨i,j,rfl,rfl,q⟩:=h
 obtain⟨t,rfl⟩:=rx
 obtain⟨t',rfl⟩:=ry
 exact rule i j t t' s _ _ ⟨.int (g i j),H,I.tok _,⟨_,rfl⟩,q⟩
theorem zkQ {f:Value->Value->Sem Value}{g:Int->Int->Bool}
  (rule:∀(i j:Int) (t u:Tok) (s:Shared) (Q:Value->Shared->Prop) (E:Value->Shared->Prop),Q (.bool (g i j)) s->wpAny (model X.prog X.w) X.A (f (.int i t) (.int j u)) Q E s) :
  OpR X f (rI0 fun i j=>.bl (g i j)):=by
 intro pins s σ H x y v u Q I rx ry h
 obtain⟨i,j,rfl,rfl,q⟩:=h
 obtain⟨t,rfl⟩:=rx
 obtain⟨t',rfl⟩:=ry
 exact rule i j t t' s _ _ ⟨.bl (g i j),H,I,rfl,q⟩
theorem jS:OpR X (binaryOp .Add) (rI0 fun i j=>.int (i+j)):=zkP fun _ _ _ _ _ _ _ q=>add_int q
theorem yM:OpR X (binaryOp .Sub) (rI0 fun i j=>.int (i-j)):=zkP fun _ _ _ _ _ _ _ q=>sub_int q
theorem zY:OpR X (binaryOp .Mod) (rI (fun _ j=>0<j) fun i j=>.int (i%j)):=opI fun i j _ _ _ _ _ hc q=>by
 have h1:(0:Int)<j:=hc
 exact mod_int' (by omega) (by rw [Int.fmod_eq_emod_of_nonneg i (by omega)];exact q)
theorem unI {f:Value->Sem Value}{g:Int->Int}
  (rule:∀(i:Int) (t:Tok) (s:Shared) (Q:Value->Shared->Prop) (E:Value->Shared->Prop),Q (.int (g i) s.toks) { s with toks:=s.toks+1 }->wpAny (model X.prog X.w) X.A (f (.int i t)) Q E s) :
  UnR X f (rU fun i=>.int (g i)):=by
 intro pins s σ H x v Q I rx h
 obtain⟨i,rfl,q⟩:=h
 obtain⟨t,rfl⟩:=rx
 exact rule i t s _ _ ⟨.int (g i),H,I.tok _,⟨_,rfl⟩,q⟩
theorem Q5:UnR X (unaryOp .USub) (rU fun i=>.int (-i)):=unI fun _ _ _ _ _ q=>neg_int q
end
noncomputable def zkR:V->V->Bool
 | .non,.non=>true | .non,.int _=>true | .int _,.non=>true | .non,.bl _=>true | .bl _,.non=>true | .non,.str _=>true | .str _,.non=>true
 | .int _,.int _=>true | .bl _,.bl _=>true | .str _,.str _=>true | .byt _,.byt _=>true
 | .int _,.str _=>true | .str _,.int _=>true | .bl _,.str _=>true | .str _,.bl _=>true
 | _,_=>false
def rEq:R2:=fun x y H Q=>zkR x y=true/\Q (.bl (decide (x=y))) H
def rNe:R2:=fun x y H Q=>zkR x y=true/\Q (.bl (!decide (x=y))) H
theorem ze2 {i j:Int}:decide (V.int i=V.int j)=(i==j):=by
 rw [Bool.eq_iff_iff]
 simp
theorem zgV {i j:Bool}:decide (V.bl i=V.bl j)=(i==j):=by
 rw [Bool.eq_iff_iff]
 simp
theorem ze3 {i j:Str}:decide (V.str i=V.str j)=(i==j):=by
 rw [Bool.eq_iff_iff]
 simp
theorem ze4 {i j:Array UInt8}:decide (V.byt i=V.byt j)=(i.toList==j.toList):=by
 rw [Bool.eq_iff_iff]
 cases i
 cases j
 simp
section
variable {X:Cx}{a b c:Expr}{ta tb tc:TE}{pos:Pos}
theorem qi {pins:List (Addr×Obj)}{σ:St}{H:Hp}{s:Shared}{Q:VK}{k k':Bool}(I:Inv X pins σ H s)(q:Q (.bl k) H)(e:k=k'):EP X pins σ Q (.bool k') s:=by
 subst e
 exact⟨.bl k,H,I,rfl,q⟩
theorem qU:OpR X (compareOp .Eq) rEq:=by
 intro pins s σ H x y v u Q I rx ry h
 obtain⟨hs,q⟩:=h
 cases x with
 | non =>
  cases rx
  cases y with
  | non=>cases ry;exact PySem.EqNone.eq_none_none (qi I q (by simp))
  | bl j=>cases ry;exact PySem.EqNone.eq_none_bool (qi I q (by simp))
  | int j=>obtain⟨t',rfl⟩:=ry;exact PySem.EqNone.eq_none_int (qi I q (by simp))
  | str j=>obtain⟨t',rfl⟩:=ry;exact PySem.EqNone.eq_none_str (qi I q (by simp))
  | _=>exact absurd (show false=true from hs) Bool.false_ne_true
 | bl i =>
  cases rx
  cases y with
  | non=>cases ry;exact PySem.EqNone.eq_bool_none (qi I q (by simp))
  | bl j=>cases ry;exact eq_bool (qi I q zgV)
  | str j=>obtain⟨t',rfl⟩:=ry;exact PySem.EqMixed.eq_bool_str (qi I q (by simp))
  | _=>exact absurd (show false=true from hs) Bool.false_ne_true
 | int i =>
  obtain⟨t,rfl⟩:=rx
  cases y with
  | non=>cases ry;exact PySem.EqNone.eq_int_none (qi I q (by simp))
  | int j=>obtain⟨t',rfl⟩:=ry;exact eq_int (qi I q ze2)
  | str j=>obtain⟨t',rfl⟩:=ry;exact PySem.EqMixed.eq_int_str (qi I q (by simp))
  | _=>exact absurd (show false=true from hs) Bool.false_ne_true
 | str i =>
  obtain⟨t,rfl⟩:=rx
  cases y with
  | non=>cases ry;exact PySem.EqNone.eq_str_none (qi I q (by simp))
  | bl j=>cases ry;exact PySem.EqMixed.eq_str_bool (qi I q (by simp))
  | int j=>obtain⟨t',rfl⟩:=ry;exact PySem.EqMixed.eq_str_int (qi I q (by simp))
  | str j=>obtain⟨t',rfl⟩:=ry;exact eq_str (qi I q ze3)
  | _=>exact absurd (show false=true from hs) Bool.false_ne_true
 | byt i =>
  obtain⟨t,rfl⟩:=rx
  cases y with
  | byt j=>obtain⟨t',rfl⟩:=ry;exact PySem.W.eq_bytes (qi I q ze4)
  | _=>exact absurd (show false=true from hs) Bool.false_ne_true
 | _=>cases y<;>exact absurd (show false=true from hs) Bool.false_ne_true
theorem zbj:OpR X (compareOp .NotEq) rNe:=by
 intro pins s σ H x y v u Q I rx ry h
 obtain⟨hs,q⟩:=h
 cases x with
 | non =>
  cases rx
  cases y with
  | non=>cases ry;exact PySem.EqNone.ne_none_none (qi I q (by simp))
  | bl j=>cases ry;exact PySem.EqNone.ne_none_bool (qi I q (by simp))
  | int j=>obtain⟨t',rfl⟩:=ry;exact PySem.EqNone.ne_none_int (qi I q (by simp))
  | str j=>obtain⟨t',rfl⟩:=ry;exact PySem.EqNone.ne_none_str (qi I q (by simp))
  | _=>exact absurd (show false=true from hs) Bool.false_ne_true
 | bl i =>
  cases rx
  cases y with
  | non=>cases ry;exact PySem.EqNone.ne_bool_none (qi I q (by simp))
  | bl j=>cases ry;exact ne_bool (qi I q (congrArg not zgV))
  | str j=>obtain⟨t',rfl⟩:=ry;exact PySem.EqMixed.ne_bool_str (qi I q (by simp))
  | _=>exact absurd (show false=true from hs) Bool.false_ne_true
 | int i =>
  obtain⟨t,rfl⟩:=rx
  cases y with
  | non=>cases ry;exact PySem.EqNone.ne_int_none (qi I q (by simp))
  | int j=>obtain⟨t',rfl⟩:=ry;exact ne_int (qi I q (congrArg not ze2))
  | str j=>obtain⟨t',rfl⟩:=ry;exact PySem.EqMixed.ne_int_str (qi I q (by simp))
  | _=>exact absurd (show false=true from hs) Bool.false_ne_true
 | str i =>
  obtain⟨t,rfl⟩:=rx
  cases y with
  | non=>cases ry;exact PySem.EqNone.ne_str_none (qi I q (by simp))
  | bl j=>cases ry;exact PySem.EqMixed.ne_str_bool (qi I q (by simp))
  | int j=>obtain⟨t',rfl⟩:=ry;exact PySem.EqMixed.ne_str_int (qi I q (by simp))
  | str j=>obtain⟨t',rfl⟩:=ry;exact ne_str (qi I q (congrArg not ze3))
  | _=>exact absurd (show false=true from hs) Bool.false_ne_true
 | byt i =>
  obtain⟨t,rfl⟩:=rx
  cases y with
  | byt j=>obtain⟨t',rfl⟩:=ry;exact PySem.W.ne_bytes (qi I q (congrArg not ze4))
  | _=>exact absurd (show false=true from hs) Bool.false_ne_true
 | _=>cases y<;>exact absurd (show false=true from hs) Bool.false_ne_true
theorem Q6:OpR X (compareOp .Lt) (rI0 fun i j=>.bl (decide (i<j))):=zkQ fun _ _ _ _ _ _ _ q=>lt_int q
theorem ze5:OpR X (compareOp .Gt) (rI0 fun i j=>.bl (decide (j<i))):=zkQ fun _ _ _ _ _ _ _ q=>gt_int q
theorem zD (b:Expr){op:CmpOp}(h:op ≠ .In:=by decide)(h2:op ≠ .NotIn:=by decide):behindInMarks op b=false:=by
 have e1:(op==CmpOp.In)=false:=by cases op<;>first | rfl | exact absurd rfl h
 have e2:(op==CmpOp.NotIn)=false:=by cases op<;>first | rfl | exact absurd rfl h2
 cases b<;>simp [behindInMarks,e1,e2]
theorem qN {op:CmpOp}{r:R2}(ho:OpR X (compareOp op) r)(ha:PE X a ta)(hb:PE X b tb)(hm:behindInMarks op b=false):PE X (.Compare a [op] [b] pos) (tOp r ta tb):=by
 intro pins s σ H Q I h
 exact wpAny_Compare1 (zjQ ha hb I h fun v u s2 x y H2 I2 rx ry q=>ho pins s2 σ H2 x y v u Q I2 rx ry q) hm
def zkS (t:TE):TT:=fun σ H Q=>t σ H fun x H'=>∃k,x=.bl k/\Q k H'
theorem zq {op:CmpOp}{r:R2}(ho:OpR X (compareOp op) r)(ha:PE X a ta)(hb:PE X b tb)(hm:behindInMarks op b=false):PT X (.Compare a [op] [b] pos) (zkS (tOp r ta tb)):=by
 intro pins s σ H Q I h
 refine wpAny_isTrue_Compare1 (thn (ha pins s σ H _ I h) fun v s1 ⟨x,H1,I1,r1,q1⟩=>thn (hb pins s1 σ H1 _ I1 q1) fun u s2 ⟨y,H2,I2,r2,q2⟩ =>
  thn (ho pins s2 σ H2 x y v u _ I2 r1 r2 q2) fun c s3 ⟨z,H3,I3,r3,k,e,q3⟩=>?_) hm
 subst e
 cases r3
 exact wpAny_truthy_bool ⟨H3,I3,q3⟩
def zjR (K:PySem.W.Frag)(x:V)(H:Hp)(k:Bool):Prop :=
 match x with
 | .non=>k=false
 | .bl b=>k=b
 | .int i=>k=(i != 0)
 | .str y=>y.length<=sizeLine/\k=((y.length:Int) != 0)
 | .byt y=>y.size<=sizeLine/\k=((y.size:Int) != 0)
 | .ref p=>(∃xs,SqL K H p xs/\k=!xs.isEmpty)\/(∃xs,SqT K H p xs/\k=!xs.isEmpty)\/∃kvs,H p=some (.dK kvs)/\k=!kvs.isEmpty
 | _=>False
theorem zd6 {κ:Type}{kvs:List (κ × V)}{vs:List (κ × Value)}(r:KV kvs vs):(!vs.isEmpty)=!kvs.isEmpty:=by
 cases r<;>rfl
theorem Q7 {xs:List V}{its:List Value}(r:Vals xs its):(!its.toArray.isEmpty)=!xs.isEmpty:=by
 cases r<;>simp
theorem Y8:(sizeLine:Nat)<2^63:=by rw [sizeLine_eq];decide
theorem zjS:zlF X (fun x H Q=>∃k,zjR X.K x H k/\Q k H):=by
 intro pins s σ H x v Q I rx h
 obtain⟨k,e,q⟩:=h
 have hl:=Y8
 have hs:sizeLine=16777216:=sizeLine_eq
 cases x with
 | non =>
  cases rx
  have e':k=false:=e
  subst e'
  exact truthy_none ⟨H,I,q⟩
 | bl b =>
  cases rx
  have e':k=b:=e
  subst e'
  exact wpAny_truthy_bool ⟨H,I,q⟩
 | int i =>
  obtain⟨t,rfl⟩:=rx
  have e':k=(i != 0):=e
  subst e'
  exact PySem.P.truthy_int ⟨H,I,q⟩
 | str y =>
  obtain⟨t,rfl⟩:=rx
  obtain⟨hy,e'⟩:y.length<=sizeLine/\k=((y.length:Int) != 0):=e
  subst e'
  exact PySem.P.truthy_str (by omega) ⟨H,I.tok _,q⟩
 | byt y =>
  obtain⟨t,rfl⟩:=rx
  obtain⟨hy,e'⟩:y.size<=sizeLine/\k=((y.size:Int) != 0):=e
  subst e'
  exact PySem.W.truthy_bytes (by omega) ⟨H,I.tok _,q⟩
 | ref p =>
  cases rx
  have e':(∃xs,SqL X.K H p xs/\k=!xs.isEmpty)\/(∃xs,SqT X.K H p xs/\k=!xs.isEmpty)\/∃kvs,H p=some (.dK kvs)/\k=!kvs.isEmpty:=e
  rcases e' with ⟨xs,hx,e'⟩ | ⟨xs,hx,e'⟩ | ⟨kvs,hx,e'⟩
  ·subst e'
   obtain⟨its,r,pl,hz⟩:=I.list hx
   have hlen:=r.length
   exact wpAny_truthy_list pl.isList (by simp only [size_toArray];omega) ⟨H,I.tok _,by rw [Q7 r];exact q⟩
  ·subst e'
   obtain⟨its,r,pl,hz⟩:=I.tuple hx
   have hlen:=r.length
   exact truthy_tuple pl (by simp only [size_toArray];omega) ⟨H,I.tok _,by rw [Q7 r];exact q⟩
  ·subst e'
   obtain⟨hz,hS,vs,r,m⟩:kvs.length<=sizeLine/\(p==sysModules)=false/\∃vs,KV kvs vs/\s.heap.DictOf (zR X.prog X.w) p vs:=I.hok p _ hx
   have hlen:kvs.length=vs.length:=Paired.length r
   exact wpAny_truthy_dict hS m (by omega) ⟨H,I.tok _,by rw [zd6 r];exact q⟩
 | _=>exact(show False from e).elim
theorem jo (ha:PE X a ta)(he:∀whole,isTrue a X.env whole=(do let v <- whole;standAt a.pos;holding [v] (truthy v))) :
  PT X a (fun σ H Q=>ta σ H fun x H'=>∃k,zjR X.K x H' k/\Q k H'):=by
 intro pins s σ H Q I h
 exact isTrue_plain (thn (ha pins s σ H _ I h) fun v s1 ⟨x,H1,I1,r1,q1⟩=>zjS pins s1 σ H1 x v Q I1 r1 q1) (he _)
theorem Z9:OpR X (binaryOp .Add) (fun x y H Q=>∃i j,x=.str i/\y=.str j/\i.length+j.length<=sizeLine/\Q (.str (i++j)) H):=by
 intro pins s σ H x y v u Q I rx ry h
 obtain⟨i,j,rfl,rfl,hz,q⟩:=h
 obtain⟨t,rfl⟩:=rx
 obtain⟨t',rfl⟩:=ry
 exact add_str (fun t' tk=>⟨.str (i++j),H,I.tok _,⟨_,rfl⟩,q⟩) hz
theorem vals1 {x:V}{us:List Value}(r:Vals [x] us):∃u,us=[u]/\RelV x u:=by
 cases r with
 | cons r1 r2=>cases r2;exact⟨_,rfl,r1⟩
theorem vals2 {x y:V}{us:List Value}(r:Vals [x,y] us):∃u w',us=[u,w']/\RelV x u/\RelV y w':=by
 cases r with
 | cons r1 r2 =>
  cases r2 with
  | cons r3 r4=>cases r4;exact⟨_,_,rfl,r1,r3⟩
theorem zcP:jn X (.builtin "abs") (fun xs H Q=>∃i,xs=[.int i]/\Q (.int (if i<0 then -i else i)) H):=by
 intro pins s σ H xs us Q I r h
 obtain⟨i,rfl,q⟩:=h
 obtain⟨u,rfl,t,rfl⟩:=vals1 r
 exact call_abs_int fun u tk=>⟨.int (if i<0 then -i else i),H,I.tok _,⟨_,rfl⟩,q⟩
theorem Ju (hc:X.calm=true):jn X (.builtin "max") (fun xs H Q=>∃i j,xs=[.int i,.int j]/\Q (.int (if j>i then j else i)) H):=by
 intro pins s σ H xs us Q I r h
 obtain⟨i,j,rfl,q⟩:=h
 obtain⟨u,w',rfl,⟨t,rfl⟩,⟨t',rfl⟩⟩:=vals2 r
 refine max_two_ints (I.ok.hd hc) fun h' tk k=>⟨_,H,I.kept k,?_,q⟩
 by_cases hj:j>i
 ·rw [if_pos hj,if_pos hj];exact⟨_,rfl⟩
 ·rw [if_neg hj,if_neg hj];exact⟨_,rfl⟩
theorem xx (hc:X.calm=true):jn X (.builtin "min") (fun xs H Q=>∃i j,xs=[.int i,.int j]/\Q (.int (if j<i then j else i)) H):=by
 intro pins s σ H xs us Q I r h
 obtain⟨i,j,rfl,q⟩:=h
 obtain⟨u,w',rfl,⟨t,rfl⟩,⟨t',rfl⟩⟩:=vals2 r
 refine min_two_ints (I.ok.hd hc) fun h' tk k=>⟨_,H,I.kept k,?_,q⟩
 by_cases hj:j<i
 ·rw [if_pos hj,if_pos hj];exact⟨_,rfl⟩
 ·rw [if_neg hj,if_neg hj];exact⟨_,rfl⟩
theorem zfT:jn X (.type "int") (fun xs H Q=>(∃i,xs=[.int i]/\Q (.int i) H)\/∃k,xs=[.bl k]/\Q (.int (if k then 1 else 0)) H):=by
 intro pins s σ H xs us Q I r h
 rcases h with ⟨i,rfl,q⟩ | ⟨k,rfl,q⟩
 ·obtain⟨u,rfl,t,rfl⟩:=vals1 r
  exact call_int_int ⟨.int i,H,I,⟨_,rfl⟩,q⟩
 ·obtain⟨u,rfl,r1⟩:=vals1 r
  cases r1
  exact call_int_bool ⟨.int (if k then 1 else 0),H,I.tok _,⟨_,rfl⟩,q⟩
theorem Yu:jn X (.type "str") (fun xs H Q=>∃i,xs=[.int i]/\i.natAbs.log2<1920/\Q (.str (toString i)) H):=by
 intro pins s σ H xs us Q I r h
 obtain⟨i,rfl,hz,q⟩:=h
 obtain⟨u,rfl,t,rfl⟩:=vals1 r
 exact PySem.P.str_of_int hz ⟨.str _,H,I.tok _,⟨_,rfl⟩,q⟩
end
structure zjT (h:Heap)(x dx C:Addr)(mA:Str->Option Value):Prop where
 obj:h.get? x=some (PySem.W.instObj C dx)
 ns:h.Ns1 dx mA
 ne:dx≠x
theorem zfU {h:Heap}{dx:Addr}{mA:Str->Option Value}(n:h.Ns1 dx mA):∃od,h.get? dx=some od/\∀name,PySem.W.lookIn name od=some (mA name):=by
 obtain⟨o,es,ep,ho,hd,hk,_,hm⟩:=n
 refine⟨o,ho,fun name=>?_⟩
 have e:=hm name
 unfold nsFind findBy at e
 rw [<- Array.find?_toList] at e
 unfold PySem.W.lookIn
 rw [hd]
 dsimp only
 split
 ·rename_i y q
  rw [q] at e
  exact congrArg some e
 ·rename_i q
  rw [q] at e
  have a:es.toList.any (·.refKey)=false:=by
   rw [List.any_eq_false]
   intro y hy
   obtain⟨z,t,hkey⟩:=hk y (Array.mem_toList_iff.mp hy)
   simp [DictEntry.refKey,hkey]
  have a':¬ es.toList.any (·.refKey)=true:=by rw [a];exact Bool.false_ne_true
  rw [if_neg a']
  exact congrArg some e
theorem zjT.look {h:Heap}{x dx C:Addr}{mA:Str->Option Value}(I:zjT h x dx C mA):∃od,PySem.W.InstAt h x (PySem.W.instObj C dx) C (some od)/\∀name,PySem.W.lookIn name od=some (mA name) :=
 let ⟨od,ho,hl⟩:=zfU I.ns
 ⟨od,⟨I.obj,rfl,rfl,ho⟩,hl⟩
section
variable {prog:Program}{w:World}{A:Around}{E:Value->Shared->Prop}{s:Shared}{K:PySem.W.Frag}{x dx C f:Addr}{mA:Str->Option Value}{name:Str}{v:Value}
end
section
variable {P:Program}{w:World}{H H':Hp}{h h':Heap}{a C dx:Addr}{fs fs':List (Str×V)}
theorem zin (hok:HOk P w H h)(e:H a=some (.ins C dx fs)):∃mA,zjT h a dx C mA/\(∀f,zbZ (fs.lookup f) (mA f))/\PySem.Within mA (fs.map (·.1))/\fs.length<=1000/\H dx=some (.own a):=by
 obtain⟨d,z,ne,ob,mA,n,r,q⟩:=(show qB P w H h a (.ins C dx fs) from hok a _ e)
 exact⟨mA,⟨ob,n,ne⟩,r,q,z,d⟩
end
structure Cls (K:PySem.W.Frag)(C:Addr):Prop where
 pg:PySem.W.plainGet K C Str.empty=true
 hd:PySem.W.hasDictIn K C=true
 po:PySem.W.plainOver K C=true
 sa:PySem.W.findIn K (.ref C) "__setattr__"=some (some (.builtin "object.__setattr__"))
theorem Cls.get {K:PySem.W.Frag}{C:Addr}(c:Cls K C)(f:Str):PySem.W.plainGet K C f=true:=c.pg
section
variable {X:Cx}{pins:List (Addr×Obj)}{σ:St}{H:Hp}{s:Shared}{a C dx:Addr}{fs:List (Str×V)}{f:Str}{v:V}{A:Around}{E:Value->Shared->Prop}
end
section
variable {X:Cx}{o e value:Expr}{f:Str}{pos pos' tpos:Pos}{ta tv:TE}
end
section
variable {X:Cx}{pins:List (Addr×Obj)}{σ:St}{H:Hp}{s:Shared}{A:Around}{E:Value->Shared->Prop}{Q:Value->Shared->Prop}{c:Value}{b:Bool}
inductive Yv (K:PySem.W.Frag)(H:Hp):V->Value->Prop where
 | non:Yv K H .non (.type "NoneType")
 | bl (x:Bool):Yv K H (.bl x) (.type "bool")
 | int (i:Int):Yv K H (.int i) (.type "int")
 | str (x:Str):Yv K H (.str x) (.type "str")
 | flt (x:UInt64):Yv K H (.flt x) (.type "float")
 | lst {a:Addr} {xs:List V} (e:H a=some (.lst xs)):Yv K H (.ref a) (.type "list")
 | frz {a:Addr} {o:Obj} {xs:List V} (e:H a=some (.frz o (.lst xs))):Yv K H (.ref a) (.type "list")
 | tup {a:Addr} {xs:List V} (e:H a=some (.tup xs)):Yv K H (.ref a) (.type "tuple")
 | dK {a:Addr} {kvs:List (Key×V)} (e:H a=some (.dK kvs)):Yv K H (.ref a) (.type "dict")
 | dT {a:Addr} {kvs:List (List Key×V)} (e:H a=some (.dT kvs)):Yv K H (.ref a) (.type "dict")
 | ins {a C dx:Addr} {fs:List (Str×V)} (e:H a=some (.ins C dx fs)) (cl:Cls K C) (ha:PySem.W.findIn K (.ref C) "__class__"=some (some (.builtin "object.__class__")))
   (hn:PySem.W.specialIn K (.builtin "object.__class__") "__get__"=some (some (.builtin "getset_descriptor.__get__"))) (htk:PySem.W.takesIn K (.builtin "object.__class__")=some true)
   (hm:PySem.W.mroIn K C (.type "object")=some true):Yv K H (.ref a) (.ref C)
theorem zfV {x:V}{u t:Value}(I:Inv X pins σ H s)(rx:RelV x u)(ty:Yv X.K H x t)(e:PySem.W.kitOne X.K t c=some b)(h:∀tk,Q (.bool b) { s with toks:=tk }) :
  wpAny (model X.prog X.w) A (call (.builtin "isinstance") [u,c]) Q E s:=by
 cases ty with
 | non=>cases (show u=Value.none from rx);exact PySem.W.kia_one PySem.W.kitx_none I.kIn True.intro e (fun z=>nomatch z) h
 | bl y=>cases (show u=Value.bool y from rx);exact PySem.W.kia_one PySem.W.kitx_bool I.kIn True.intro e (fun z=>nomatch z) h
 | int i=>obtain⟨t,q⟩:=(show ∃t,u=Value.int i t from rx);cases q;exact PySem.W.kia_one PySem.W.kitx_int I.kIn True.intro e (fun z=>nomatch z) h
 | str y=>obtain⟨t,q⟩:=(show ∃t,u=Value.str y t from rx);cases q;exact PySem.W.kia_one PySem.W.kitx_str I.kIn True.intro e (fun z=>nomatch z) h
 | flt y=>obtain⟨t,q⟩:=(show ∃t,u=Value.float y t from rx);cases q;exact PySem.W.kia_one PySem.W.kitx_float I.kIn True.intro e (fun z=>nomatch z) h
 | @lst a xs ea =>
  cases (show u=Value.ref a from rx)
  obtain⟨_,_,n,_,h1⟩:=(show qB X.prog X.w H s.heap a (.lst xs) from I.hok a _ ea)
  exact PySem.W.kia_one PySem.W.kitx_list I.kIn ⟨_,h1,rfl⟩ e (fun z=>nomatch z) h
 | @frz a ob xs ea =>
  cases (show u=Value.ref a from rx)
  obtain⟨_,_,_,n,_,h1⟩:=(show qB X.prog X.w H s.heap a (.frz ob (.lst xs)) from I.hok a _ ea)
  exact PySem.W.kia_one PySem.W.kitx_list I.kIn ⟨_,h1,rfl⟩ e (fun z=>nomatch z) h
 | @tup a xs ea =>
  cases (show u=Value.ref a from rx)
  obtain⟨_,_,_,p⟩:=(show qB X.prog X.w H s.heap a (.tup xs) from I.hok a _ ea)
  obtain⟨o,h1,h2,_⟩:=p
  exact PySem.W.kia_one PySem.W.kitx_tuple I.kIn ⟨o,h1,h2⟩ e (fun z=>nomatch z) h
 | @dK a kvs ea =>
  cases (show u=Value.ref a from rx)
  obtain⟨_,_,vs,_,p⟩:=(show qB X.prog X.w H s.heap a (.dK kvs) from I.hok a _ ea)
  obtain⟨o,es,ep,h1,h2,_⟩:=p
  exact PySem.W.kia_one PySem.W.kitx_dict I.kIn ⟨o,h1,h2.1⟩ e (fun z=>nomatch z) h
 | @dT a kvs ea =>
  cases (show u=Value.ref a from rx)
  obtain⟨_,_,xs,_,o,es,ep,h1,h2,_⟩:=(show qB X.prog X.w H s.heap a (.dT kvs) from I.hok a _ ea)
  exact PySem.W.kia_one PySem.W.kitx_dict I.kIn ⟨o,h1,h2.1⟩ e (fun z=>nomatch z) h
 | @ins a C dx fs ea cl ha hn htk hm =>
  cases (show u=Value.ref a from rx)
  obtain⟨mA,O,_⟩:=zin I.hok ea
  obtain⟨od,J,_⟩:=O.look
  exact PySem.W.kia_one (PySem.W.kitx_own (cl.get _) cl.hd ha hn htk hm) I.kIn J e (fun z=>nomatch z) h
end
structure Jv (k:Nat)(A:Around):Prop where
 hd:A.handled=none
 dp:A.depth+3*k+5<recursionLimit
 un:A.units+16*k+200<cLine
theorem Jv.mono {j k:Nat}{A:Around}(r:Jv k A)(h:j<=k):Jv j A:=⟨r.hd,by have:=r.dp;omega,by have:=r.un;omega⟩
theorem Jv.deeper {k:Nat}{A:Around}(r:Jv (k+1) A)(env:Env):Jv k (A.deeper env) :=
 ⟨r.hd,by have:=r.dp;show A.depth+1+3*k+5<_;omega,by have:=r.un;show A.units+3+16*k+200<_;omega⟩
theorem Jv.depth {k:Nat}{A:Around}(r:Jv k A):A.depth<recursionLimit:=by have:=r.dp;omega
theorem Jv.units {k:Nat}{A:Around}(r:Jv k A):A.units+64<cLine:=by have:=r.un;omega
def zlG:TA:=fun _ H Q=>Q [] H
def zkT (ta:TE)(tr:TA):TA:=fun σ H Q=>ta σ H fun x H1=>tr σ H1 fun xs H2=>Q (x::xs) H2
section
variable {X:Cx}{e:Expr}{es:List Expr}{te:TE}{t:TA}{pos:Pos}
theorem zc:PA X [] zlG:=fun _ _ _ _ H Q I h=>Calls.spliced_nil ⟨[],H,I,.nil,h⟩
theorem za (ha:PE X e te)(hr:PA X es t)(hs:starEach (e::es) X.env=(false,eval e X.env)::starEach es X.env:=by rfl):PA X (e::es) (zkT te t):=by
 intro pos pins s σ H Q I h
 rw [hs]
 show wpAny _ _ (spliced ((false,eval e X.env)::backTo pos (starEach es X.env))) _ _ s
 refine Calls.spliced_cons (thn (ha pins s σ H _ I h) fun u s1 ⟨x,H1,I1,r1,q1⟩=>?_)
 exact thn (hr pos pins s1 σ H1 _ I1 q1) fun us s2 ⟨xs,H2,I2,r2,q2⟩=>⟨x::xs,H2,I2,.cons r1 r2,q2⟩
def zlH (t:TA):TE:=fun σ H Q=>t σ H fun xs H1=>xs.length<=sizeLine/\∀p,H1 p=none->Q (.ref p) (upd H1 p (.tup xs))
def zlI (t:TA):TE:=fun σ H Q=>t σ H fun xs H1=>xs.length<=sizeLine/\∀p,H1 p=none->Q (.ref p) (upd H1 p (.lst xs))
theorem zW {x1}(h:PA X es t):PE X (.Tuple es x1 pos) (zlH t):=by
 intro pins s σ H Q I hq
 refine wpAny_Tuple_spliced (thn (h pos pins s σ H _ I hq) fun us s1 ⟨xs,H1,I1,r,z,q⟩=>⟨by rw [<- r.length];exact z,?_⟩)
 have hf:H1 s1.heap.objs.size=none:=I1.hok.fresh (le_refl _)
 refine⟨.ref s1.heap.objs.size,upd H1 s1.heap.objs.size (.tup xs),I1.laid (t':=s1.toks) (fun b u e=>Heap.get?_push_of_some _ e) (le_refl _) ?_,rfl,q _ hf⟩
 exact⟨z,us,r,⟨_,Heap.get?_push_size _ rfl,rfl,_,rfl⟩⟩
theorem zU (h:PA X es t):PE X (.List es pos) (zlI t):=by
 intro pins s σ H Q I hq
 refine wpAny_List_spliced (thn (h pos pins s σ H _ I hq) fun us s1 ⟨xs,H1,I1,r,z,q⟩=>⟨by rw [<- r.length];exact z,?_⟩)
 have hf:H1 s1.heap.objs.size=none:=I1.hok.fresh (le_refl _)
 refine⟨.ref s1.heap.objs.size,upd H1 s1.heap.objs.size (.lst xs),I1.laid (t':=s1.toks) (fun b u e=>Heap.get?_push_of_some _ e) (le_refl _) ?_,rfl,q _ hf⟩
 exact⟨z,us,0,r,Heap.get?_push_size _ rfl⟩
end
abbrev Sp:=List V->Hp->VK->XK->Prop
abbrev CXT:=List Env->Hp->Shared->XK->Value->Shared->Prop
structure zio (P:Program)(w:World)(K:PySem.W.Frag)(mg:Str->Option Value)(base:Heap)(A:Around)(outer:List Env)(s:Shared)(H:Hp):Prop where
 frames:A.frames=some outer
 mod:Mod K mg base
 bs:∀b o,base.get? b=some o->s.heap.get? b=some o/\H b=none
 bsz:base.objs.size<=s.heap.objs.size
 funs:s.heap.FunFrames base outer
 frf:∀b∈frs outer,H b=none
 hok:HOk P w H s.heap
 bare:AllBare s.gens
def CE (outer:List Env)(P:Program)(w:World)(H:Hp)(s:Shared)(Q:VK)(u:Value)(s':Shared):Prop :=
 ∃v H',s'.os=s.os/\AllBare s'.gens/\Un (frs outer) [] H H' s.heap s'.heap/\HOk P w H' s'.heap/\RelV v u/\Q v H'
def CR (CX:CXT)(outer:List Env)(P:Program)(w:World)(H:Hp)(s:Shared)(Q:VK)(E:XK)(r:Result)(s':Shared):Prop :=
 match r with
 | .ok (.ret u)=>CE outer P w H s Q u s'
 | .ok _=>False
 | .error e=>CX outer H s E e s'
structure zQ (P:Program)(w:World)(K:PySem.W.Frag)(mg:Str->Option Value)(base:Heap)(CX:CXT)(k:Nat)(f:Addr)(fd:FuncData)(ps:List Str)(sp:Sp):Prop where
 len:∀vs H Q E,sp vs H Q E->vs.length=ps.length
 run:∀(A:Around) (outer:List Env) (s:Shared) (H:Hp) (args:Args) (us:List Value) (vs:List V) (Q:VK) (E:XK),Jv k A->zio P w K mg base A outer s H->BindsTo s fd args (ps.zip us)->Vals vs us->sp vs H Q E ->
  codeAny (model P w) A (.call (.ref f) args) (CR CX outer P w H s Q E) s
section
variable {X:Cx}{pins:List (Addr×Obj)}{σ:St}{H:Hp}{s s':Shared}
theorem Inv.env0 (I:Inv X pins σ H s):zio X.prog X.w X.K X.mg X.base X.A X.stack s H :=
 ⟨I.ok.frames,I.ok.mod,I.bs,le_trans I.ok.bsz I.sz,I.stack,I.stkFree,I.hok,I.bare⟩
theorem Inv.after {Q:VK}{u:Value}(I:Inv X pins σ H s)(h:CE X.stack X.prog X.w H s Q u s'):EP X pins σ Q u s':=by
 obtain⟨v,H',os,bare,un,hok,r,q⟩:=h
 obtain⟨hh,g,d,t,os'⟩:=s'
 obtain rfl:os'=s.os:=os
 exact⟨v,H',I.call (h':=hh) (g':=g) (d':=d) (t':=t) (ch:=[]) un hok bare (fun b z=>absurd z (by simp)),r,q⟩
end
def zkU (sp:Sp)(dvs:List V)(E:XK)(t:TA):TE:=fun σ H Q=>t σ H fun vs H1=>sp (vs++dvs) H1 Q E
def Binds (K:PySem.W.Frag)(fd:FuncData)(ps:List Str)(ds:List Value):Prop :=
 ∀(s:Shared) (us:List Value),K.In s.heap->(us++ds).length=ps.length->BindsTo s fd ⟨us,[]⟩ (ps.zip (us++ds))
theorem Binds.all {K:PySem.W.Frag}{fd:FuncData}{ps:List Str}(h:∀us:List Value,us.length=ps.length->bindArgs fd ⟨us,[]⟩=pure (ps.zip us)):Binds K fd ps []:=fun s us _ hl=>by
 rw [append_nil] at hl ⊢
 exact .of_eq (h us hl)
def Passes (CX:CXT)(X:Cx)(E:XK):Prop:=∀(pins:List (Addr×Obj)) (σ:St) (H:Hp) (s:Shared) (e:Value) (s':Shared),Inv X pins σ H s->CX X.stack H s E e s'->X.xe e s'
section
variable {X:Cx}{CX:CXT}{k:Nat}{f C:Addr}{fd:FuncData}{ps:List Str}{sp:Sp}{dvs:List V}{ds:List Value}{E:XK}{x m:Str}{p pos apos:Pos}{e o:Expr}{es:List Expr}{ta:TE}{t:TA}
theorem zjU {pins:List (Addr×Obj)}{σ:St}{H:Hp}{s:Shared}{Q:VK}{us:List Value}{vs:List V}(F:zQ X.prog X.w X.K X.mg X.base CX k f fd ps sp)(hr:Jv k X.A)(hb:Binds X.K fd ps ds)(hd:Vals dvs ds)(hx:Passes CX X E)
  (I:Inv X pins σ H s) (r:Vals vs us) (h:sp (vs++dvs) H Q E):wpAny (model X.prog X.w) X.A (call (.ref f) us) (EP X pins σ Q) X.xe s:=by
 have r2:Vals (vs++dvs) (us++ds):=r.append hd
 have hl:(us++ds).length=ps.length:=by rw [<- r2.length];exact F.len _ _ _ _ h
 refine wpAny_call (codeAny_mono (F.run X.A X.stack s H ⟨us,[]⟩ (us++ds) (vs++dvs) Q E hr I.env0 (hb s us I.kIn hl) r2 h) fun r s' hq=>?_)
 cases r with
 | error e=>exact hx pins σ H s e s' I hq
 | ok fl =>
  cases fl with
  | ret u=>exact I.after hq
  | next=>exact False.elim hq
  | brk=>exact False.elim hq
  | cont=>exact False.elim hq
theorem zB (F:zQ X.prog X.w X.K X.mg X.base CX k f fd ps sp)(hr:Jv k X.A)(hg:Gl X x)(hm:X.mg x=some (.ref f))(hk:PySem.W.keepIn X.K (.ref f)=true)(hb:Binds X.K fd ps ds)(hd:Vals dvs ds)(hx:Passes CX X E)
  (ha:PA X (e::es) t) (hdb:(x==("__debug__":Str))=false:=by decide) (he:starEach (e::es) X.env=(false,eval e X.env)::starEach es X.env:=by rfl) (hpl:(backTo pos (starEach es X.env)).any (·.1)=false:=by rfl) :
  PE X (.Call (.Name x p) (e::es) [] pos) (zkU sp dvs E t):=by
 intro pins s σ H Q I h
 refine wpAny_Call_Name_kw (JX I hg hm ?_ hdb)
 refine PySem.W.callWith_K (h₀:=X.base) I.ok.mod.kin hk (thn (ha pos pins s σ H _ I h) fun us s1 ⟨vs,H1,I1,r,q⟩=>⟨I1.kIn,?_⟩) he hpl
 exact zjU F hr hb hd hx I1 r q
end
section
variable {X:Cx}{CX:CXT}{k:Nat}{f C:Addr}{fd:FuncData}{ps ks:List Str}{sp:Sp}{E:XK}{x m:Str}{p pos apos kpos:Pos}{e o:Expr}{es:List Expr}{kws:List Keyword}{te ta:TE}{t tk:TA}{nm:Option Str}
variable {g:List Value->List Value->List Value}{gV:List V->List V->List V}
end
structure zO (N P:List Str)(sc:Scope):Prop where
 kind:sc.kind=.function
 co:sc.isCoroutine=false
 gen:sc.isGenerator=false
 nd:N.Nodup
 pre:N.take P.length=P
 par:∀x∈P,sc.names.lookup x=some .local\/sc.names.lookup x=some .cell
 nofree:∀y∈sc.names,y.2 ≠ .free
theorem zbk {kindOf:Str->Option NameKind}{x:Str}:∀{binds:List (Str×Value)} {m:Str->Option Value},(∀v,(x,v) ∉ binds)->bindL kindOf binds m x=m x
 | [],_,_=>rfl
 | (n,v)::r,m,h=>by
  unfold bindL
  rw [zbk fun w hw=>h w (mem_cons_of_mem _ hw)]
  split
  ·have:x≠n:=by rintro rfl;exact h v mem_cons_self
   simp [this]
  ·rfl
theorem zbl {kindOf:Str->Option NameKind}{x:Str}:∀{binds:List (Str×Value)} {m:Str->Option Value},(∀v,(x,v) ∉ binds)->bindC kindOf binds m x=m x
 | [],_,_=>rfl
 | (n,v)::r,m,h=>by
  unfold bindC
  rw [zbl fun w hw=>h w (mem_cons_of_mem _ hw)]
  split
  ·rfl
  ·have:x≠n:=by rintro rfl;exact h v mem_cons_self
   simp [this]
theorem zbm {kindOf:Str->Option NameKind}{x:Str}{v:Value}:∀{P:List Str} {vs:List Value} {i:Nat} {m:Str->Option Value},P.Nodup->P[i]?=some x->vs[i]?=some v->kindOf x=some .local ->
  bindL kindOf (P.zip vs) m x=some v
 | [],_,_,_,_,h,_,_=>by simp at h
 | _::_,[],_,_,_,_,h,_=>by simp at h
 | p::P,w::vs,0,m,nd,h1,h2,hk=>by
  simp at h1 h2;subst h1;subst h2
  show bindL kindOf ((p,w)::P.zip vs) m p=_
  unfold bindL
  rw [zbk fun v hv=>(List.nodup_cons.mp nd).1 (List.of_mem_zip hv).1,if_pos hk]
  simp
 | p::P,w::vs,i+1,m,nd,h1,h2,hk=>by
  show bindL kindOf ((p,w)::P.zip vs) m x=_
  unfold bindL
  exact zbm (i:=i) (List.nodup_cons.mp nd).2 (by simpa using h1) (by simpa using h2) hk
theorem zbn {kindOf:Str->Option NameKind}{x:Str}{v:Value}:∀{P:List Str} {vs:List Value} {i:Nat} {m:Str->Option Value},P.Nodup->P[i]?=some x->vs[i]?=some v->kindOf x≠some .local ->
  bindC kindOf (P.zip vs) m x=some v
 | [],_,_,_,_,h,_,_=>by simp at h
 | _::_,[],_,_,_,_,h,_=>by simp at h
 | p::P,w::vs,0,m,nd,h1,h2,hk=>by
  simp at h1 h2;subst h1;subst h2
  show bindC kindOf ((p,w)::P.zip vs) m p=_
  unfold bindC
  rw [zbl fun v hv=>(List.nodup_cons.mp nd).1 (List.of_mem_zip hv).1,if_neg hk]
  simp
 | p::P,w::vs,i+1,m,nd,h1,h2,hk=>by
  show bindC kindOf ((p,w)::P.zip vs) m x=_
  unfold bindC
  exact zbn (i:=i) (List.nodup_cons.mp nd).2 (by simpa using h1) (by simpa using h2) hk
noncomputable def start (N:List Str)(vs:List V):St:=vs.map some++replicate (N.length-vs.length) none
noncomputable def zcQ (CX:CXT)(P:Program)(w:World)(K:PySem.W.Frag)(mg:Str->Option Value)(base:Heap)(N:List Str)(qual:Str)(scope:Scope)(f:Addr)(cd:Value)(A:Around)(outer:List Env)(s:Shared)(H:Hp)(E:XK):Cx where
 prog:=P
 w:=w
 K:=K
 mg:=mg
 base:=base
 A:=A.deeper (envOfC qual scope s.heap.objs.size f cd)
 N:=N
 s₀:=s
 H₀:=H
 env:=envOfC qual scope s.heap.objs.size f cd
 outer:=outer
 stack:=envOfC qual scope s.heap.objs.size f cd::outer
 ex:=[]
 calm:=true
 fn:=fun _=>true
 pn:=[]
 xe:=fun e s'=>wpAny (model P w) (A.deeper (envOfC qual scope s.heap.objs.size f cd)) (leaving (envOfC qual scope s.heap.objs.size f cd) e) (fun _ s''=>CX outer H s E e s'') (fun e' s''=>CX outer H s E e' s'') s'
theorem zcR {sc:Scope}{n:Nat}{x:Str}(h:sc.names.lookup x=some .cell):∃c,(cellsFrom n sc.names []).lookup x=some c:=by
 have q:=PySem.W.cellsFrom_some sc.names n [] (.inl h)
 exact Option.isSome_iff_exists.mp q
theorem zfW {CX:CXT}{P:Program}{w:World}{K:PySem.W.Frag}{mg:Str->Option Value}{base:Heap}{N ps:List Str}{qual:Str}{scope:Scope}{f:Addr}{cd:Value}{A:Around}{outer:List Env}{s s1:Shared}{H:Hp}{E:XK}{us:List Value}{vs:List V}
  (S:zO N ps scope) (hd:A.handled=none) (e0:zio P w K mg base A outer s H) (hl:vs.length=ps.length) (r:Vals vs us)
  (x:InCallC s s.heap.objs.size (bindL (envOfC qual scope s.heap.objs.size f cd).kindOf (ps.zip us) fun _=>none) (cellsFrom (s.heap.objs.size+1) scope.names []) (bindC (envOfC qual scope s.heap.objs.size f cd).kindOf (ps.zip us) fun _=>none) s1) :
  Inv (zcQ CX P w K mg base N qual scope f cd A outer s H E) [] (start N vs) H s1:=by
 have hpl:ps.length<=N.length:=by have:=congrArg List.length S.pre;rw [length_take] at this;omega
 obtain⟨h1,tk,rfl,hk⟩:=x.done
 have noA:∀b:Addr,b ∉ (zcQ CX P w K mg base N qual scope f cd A outer s H E).ex:=fun b z=>absurd (show b∈([]:List Addr) from z) (by simp)
 refine⟨⟨e0.mod,S.kind,rfl,rfl,le_refl _,fun y z c h1 h2=>?_,fun y hy=>?_,fun y c _ h=>?_,fun _=>hd,Around.frames_deeper e0.frames,.inr ⟨rfl,rfl⟩,fun b z=>absurd z (noA b),e0.bs,e0.bsz,fun b _ _=>noA b,fun b z=>absurd z (noA b),e0.funs,e0.frf⟩,
  rfl,e0.bare,Un.kept hk,⟨_,x.toInCall.ns,fun i y v h1 h2 h3=>?_⟩,fun y c h=>⟨_,x.cell y c h⟩,e0.hok.fresh (le_refl _),fun y c h=>?_,fun p hp=>absurd (show p∈([]:List (Addr×Obj)) from hp) (by simp),e0.hok.kept hk,?_⟩
 ·exact name_of_addr x.apart (PySem.mem_of_lookup h1) (PySem.mem_of_lookup h2)
 ·have hy:scope.names.lookup y=some .cell\/scope.names.lookup y=some .free:=hy
  rcases hy with hy | hy
  ·exact zcR hy
  ·exact absurd rfl (S.nofree _ (PySem.mem_of_lookup hy))
 ·exact Nat.le_of_lt (x.above y c (PySem.mem_of_lookup h))
 ·have hi:i<vs.length:=by
   unfold start at h2
   by_cases hi:i<vs.length
   ·exact hi
   ·rw [List.getElem?_append_right (by simpa using hi)] at h2
    rw [List.getElem?_replicate] at h2
    split at h2<;>cases h2
  have ha:vs[i]?=some v:=by
   unfold start at h2
   rw [getElem?_append_left (by simpa using hi),getElem?_map] at h2
   cases e:vs[i]? with
   | none=>rw [e] at h2;cases h2
   | some a=>rw [e] at h2;cases h2;rfl
  obtain⟨u,hu,rv⟩:=r.get ha
  have hp:ps[i]?=some y:=by
   rw [<- S.pre,List.getElem?_take_of_lt (by omega)];exact h1
  have ndP:ps.Nodup:=by rw [<- S.pre];exact S.nd.sublist (List.take_sublist _ _)
  refine⟨u,rv,?_⟩
  rcases S.par y (mem_of_getElem? hp) with k | k
  ·exact .inl ⟨k,zbm ndP hp hu k⟩
  ·obtain⟨c,e⟩:=zcR (n:=s.heap.objs.size+1) k
   refine .inr ⟨.inl k,c,e,?_⟩
   have q:=x.cell y c e
   rw [zbn ndP hp hu (by show scope.names.lookup y≠_;rw [k];decide)] at q
   exact q
 ·exact e0.hok.fresh (Nat.le_of_lt (x.above y c (PySem.mem_of_lookup h)))
 ·unfold start
  show _=N.length
  rw [length_append,length_map,List.length_replicate]
  omega
theorem zjj {CX:CXT}{P:Program}{w:World}{K:PySem.W.Frag}{mg:Str->Option Value}{base:Heap}{k:Nat}{f:Addr}{name qual:Str}{params:Arguments}{body:List Stmt}{scope:Scope}{dV kV doc pm cdv ct oc:Value}{an od:Option Addr}
  {osl:Array (Option Value)} {N ps:List Str} {sp:Sp} (lk:K.lookup f=some ⟨oc,od,.func (PySem.W.fnOf name qual params body scope dV kV doc pm an cdv ct),osl⟩) (hcd:PySem.W.codeIn K cdv qual=true) (S:zO N ps scope)
  (len:∀vs H Q E,sp vs H Q E->vs.length=ps.length)
  (hbody:∀(A:Around) (outer:List Env) (s:Shared) (H:Hp) (vs:List V) (Q:VK) (E:XK),Jv k (A.deeper (envOfC qual scope s.heap.objs.size f cdv))->sp vs H Q E ->
   ∃t,PSs (zcQ CX P w K mg base N qual scope f cdv A outer s H E) body t/\t { nx:=fun _ H'=>Q .non H',rt:=Q } (start N vs) H) :
  zQ P w K mg base CX (k+1) f (PySem.W.fnOf name qual params body scope dV kV doc pm an cdv ct) ps sp:=by
 refine⟨len,fun A outer s H args us vs Q E hr e0 hb r hsp=>?_⟩
 have hl:=len _ _ _ _ hsp
 have KX:K.In s.heap:=e0.mod.kin.keeps fun b o e=>(e0.bs b o e).1
 have lim:s.heap.NoLimit:=e0.mod.nolimit.keeps fun b o e=>(e0.bs b o e).1
 have hkind:∀y∈ps.zip us,scope.names.lookup y.1=some .local\/(scope.names.lookup y.1=some .cell/\((cellsFrom (s.heap.objs.size+1) scope.names []).lookup y.1).isSome=true):=fun ⟨n,v⟩ hy=>by
  rcases S.par n (List.of_mem_zip hy).1 with q | q
  ·exact .inl q
  ·exact .inr ⟨q,PySem.W.cellsFrom_some _ _ _ (.inl q)⟩
 refine codeAny_call_function hr.depth (KX _ _ lk) rfl S.co S.gen rfl (PySem.W.codeRec_of KX hcd) (hb _ _ _ _ ?_)
 refine wpAny_newFunctionEnv_cells S.kind hkind fun env he s1 x=>?_
 subst he
 refine⟨lim.keeps x.toInCall.keep,codeAny_func ?_⟩
 obtain⟨t,ht,hq⟩:=hbody A outer s H vs Q E (hr.deeper _) hsp
 have I:Inv (zcQ CX P w K mg base N qual scope f cdv A outer s H E) [] (start N vs) H s1:=zfW S hr.hd e0 hl r x
 refine wpAny_mono (ht [] s1 (start N vs) H _ I hq) (fun fl s' hs=>?_) fun e s' hs=>hs
 have fin:∀{σ':St} {H':Hp} {v:V} {u:Value},Inv (zcQ CX P w K mg base N qual scope f cdv A outer s H E) [] σ' H' s'->RelV v u->Q v H'->CE outer P w H s Q u s' :=
  fun {σ' H' v u} J rv q=>⟨v,H',J.os,J.bare,J.base,J.hok,rv,q⟩
 cases fl with
 | ret u =>
  obtain⟨v,σ',H',J,rv,q⟩:=hs
  exact fin J rv q
 | next =>
  obtain⟨σ',H',J,q⟩:=hs
  exact fin (v:=V.non) (u:=Value.none) J rfl q
 | brk =>
  obtain⟨_,_,_,q⟩:=hs
  exact False.elim q
 | cont =>
  obtain⟨_,_,_,q⟩:=hs
  exact False.elim q
section
variable {X:Cx}{x:Str}{p pos:Pos}{e:Expr}{es:List Expr}{t:TA}{id T:String}{r:List V->Hp->VK->Prop}
def tCB (r:List V->Hp->VK->Prop)(t:TA):TE:=fun σ H Q=>t σ H fun vs H1=>r vs H1 Q
theorem zm (hc:jn X (.builtin id) r)(hg:Gl X x)(hm:X.mg x=none)(hv:bootBuiltins x=some (.builtin id))(ha:PA X (e::es) t)(hn:x ≠ "__name__":=by decide)(hdb:(x==("__debug__":Str))=false:=by decide)
  (he:starEach (e::es) X.env=(false,eval e X.env)::starEach es X.env:=by rfl) (hpl:(backTo pos (starEach es X.env)).any (·.1)=false:=by rfl):PE X (.Call (.Name x p) (e::es) [] pos) (tCB r t):=by
 intro pins s σ H Q I h
 refine wpAny_Call_Name_kw (Z7 I hg hm hv ?_ hn hdb)
 exact PyProof.Rows.callWith_builtin1 (thn (ha pos pins s σ H _ I h) fun us s1 ⟨vs,H1,I1,r1,q1⟩=>hc pins s1 σ H1 vs us Q I1 r1 q1) he hpl
theorem qc (hc:jn X (.type T) r)(hg:Gl X x)(hm:X.mg x=none)(hv:bootBuiltins x=some (.type T))(ha:PA X (e::es) t)(hn:x ≠ "__name__":=by decide)(hdb:(x==("__debug__":Str))=false:=by decide)
  (he:starEach (e::es) X.env=(false,eval e X.env)::starEach es X.env:=by rfl) (hpl:(backTo pos (starEach es X.env)).any (·.1)=false:=by rfl):PE X (.Call (.Name x p) (e::es) [] pos) (tCB r t):=by
 intro pins s σ H Q I h
 refine wpAny_Call_Name_kw (Z7 I hg hm hv ?_ hn hdb)
 exact PyProof.Rows.callWith_type1 (thn (ha pos pins s σ H _ I h) fun us s1 ⟨vs,H1,I1,r1,q1⟩=>hc pins s1 σ H1 vs us Q I1 r1 q1) he hpl
end
end L2
namespace HT
open PySem PyProof.Rows
section
open PySem.SeqAt
open PySem.AutoSeq1 (wpAny_loadPart')
open PySem.MeetsSeq PySem.MeetsSeq2 PySem.MeetsSeq3
end
section
variable {prog:Program}{w:World}{A:Around}{E:Value->Shared->Prop}{s:Shared}
noncomputable def sIx (n d:Nat):Option Int->Nat
 | none=>d
 | some v=>if v<0 then (v+(n:Int)).toNat else min v.toNat n
theorem Yw (n d k:Nat):sIx n d (some (k:Int))=min k n:=by
 show (if (k:Int)<0 then ((k:Int)+(n:Int)).toNat else min (k:Int).toNat n)=min k n
 rw [if_neg (by omega),toNat_natCast]
theorem zjV (n d:Nat)(hd:d<=n)(o:Option Int):sIx n d o<=n:=by
 cases o with
 | none=>exact hd
 | some v =>
  show (if v<0 then (v+(n:Int)).toNat else min v.toNat n)<=n
  by_cases hv:v<0
  ·rw [if_pos hv];omega
  ·rw [if_neg hv];exact Nat.min_le_right _ _
end
end HT
namespace L2
open PySem PySem.Spec PyProof.Rows
abbrev TO:=St->Hp->(Option Int->Hp->Prop)->Prop
def PO (X:Cx)(e:Option Expr)(t:TO):Prop :=
 ∀(pins:List (Addr×Obj)) (s:Shared) (σ:St) (H:Hp) (Q:Option Int->Hp->Prop),Inv X pins σ H s->t σ H Q ->
  wpAny (model X.prog X.w) X.A (evalPart e X.env) (fun u s'=>∃o H',Inv X pins σ H' s'/\IsPart u o/\Q o H') X.xe s
def ziq:TO:=fun _ H Q=>Q none H
def zjk (t:TE):TO:=fun σ H Q=>t σ H fun x H1=>∃i,x=.int i/\Q (some i) H1
section
variable {X:Cx}{e:Expr}{te:TE}{lo hi:Option Expr}{tl th:TO}{pos p2:Pos}
theorem yY:PO X none ziq:=by
 intro pins s σ H Q I h
 rw [evalPart_none]
 exact wpAny_pure ⟨none,H,I,.none,h⟩
theorem Je (h:PE X e te):PO X (some e) (zjk te):=by
 intro pins s σ H Q I hw
 rw [evalPart_some]
 refine thn (h pins s σ H _ I hw) fun u s1 ⟨x,H1,I1,r1,q1⟩=>?_
 obtain⟨i,rfl,q⟩:=q1
 obtain⟨t,rfl⟩:=r1
 exact⟨some i,H1,I1,.int i t,q⟩
def SlR (X:Cx)(r:V->Option Int->Option Int->Hp->VK->Prop):Prop :=
 ∀(pins:List (Addr×Obj)) (s:Shared) (σ:St) (H:Hp) (x:V) (v vl vu:Value) (lo hi:Option Int) (sl:Addr) (Q:VK),Inv X pins σ H s->RelV x v->s.heap.IsSliceOf sl vl vu .none->IsPart vl lo->IsPart vu hi->r x lo hi H Q ->
  ∃T id,typeLookup (.type T) "__getitem__"=pure (some (.builtin id))/\s.TypeIs v T/\wpAny (model X.prog X.w) X.A (getItem v (.ref sl)) (EP X pins σ Q) X.xe s
def tSl (r:V->Option Int->Option Int->Hp->VK->Prop)(te:TE)(tl th:TO):TE:=fun σ H Q=>te σ H fun x H1=>tl σ H1 fun l H2=>th σ H2 fun u H3=>r x l u H3 Q
theorem xC {r:V->Option Int->Option Int->Hp->VK->Prop}(hr:SlR X r)(he:PE X e te)(hl:PO X lo tl)(hu:PO X hi th):PE X (.Subscript e (.Slice lo hi none p2) pos) (tSl r te tl th):=by
 intro pins s σ H Q I h
 refine Subscript_ (thn (he pins s σ H _ I h) fun v s1 ⟨x,H1,I1,r1,q1⟩=>?_)
 refine wpAny_Slice (thn (hl pins s1 σ H1 _ I1 q1) fun vl s2 ⟨l,H2,I2,pl,q2⟩=>thn (hu pins s2 σ H2 _ I2 q2) fun vu s3 ⟨u,H3,I3,pu,q3⟩=>?_)
 rw [evalPart_none]
 refine wpAny_pure ?_
 have I4:Inv X pins σ H3 { s3 with heap:=s3.heap.push { cls:=.type "slice",data:=.fields #[vl,vu,.none] } }:=I3.kept (t':=s3.toks) fun b ob q=>Heap.get?_push_of_some _ q
 obtain⟨T,id,hT,ht,hg⟩:=hr pins { s3 with heap:=s3.heap.push { cls:=.type "slice",data:=.fields #[vl,vu,.none] } } σ H3 x v vl vu l u s3.heap.objs.size Q I4 r1 (Heap.IsSliceOf.new ..) pl pu q3
 show wpAny (model X.prog X.w) X.A (subscriptTail e (.Slice lo hi none p2) v (.ref s3.heap.objs.size)) (EP X pins σ Q) X.xe { s3 with heap:=s3.heap.push { cls:=.type "slice",data:=.fields #[vl,vu,.none] } }
 exact tail_any (ops:=[.ref s3.heap.objs.size,v]) ht hT hg (by with_unfolding_all rfl)
noncomputable def yN (xs:List V)(lo hi:Option Int):List V:=(xs.drop (HT.sIx xs.length 0 lo)).take (HT.sIx xs.length xs.length hi-HT.sIx xs.length 0 lo)
theorem Zs (xs:List V)(lo hi:Option Int):(yN xs lo hi).length<=xs.length:=by
 unfold yN
 rw [length_take,length_drop]
 omega
end
noncomputable def ixN (n:Nat)(i:Int):Option Nat:=if 0<=i then (if i<n then some i.toNat else none) else if -(n:Int)<=i then some (i+n).toNat else none
noncomputable def atI {α:Type}(xs:List α)(i:Int):Option α:=(ixN xs.length i).bind fun j=>xs[j]?
theorem zir {n:Nat}{i:Int}{j:Nat}(h:ixN n i=some j):seqIndex? i n=some j/\j<n/\-(n:Int)<=i/\i<n:=by
 unfold ixN at h
 by_cases h0:0<=i
 ·rw [if_pos h0] at h
  by_cases h1:i<n
  ·rw [if_pos h1] at h
   have e:i.toNat=j:=Option.some.inj h
   exact⟨by rw [seqIndex_of h0 h1,e],by omega,by omega,h1⟩
  ·rw [if_neg h1] at h;cases h
 ·rw [if_neg h0] at h
  by_cases h1:-(n:Int)<=i
  ·rw [if_pos h1] at h
   have e:(i+n).toNat=j:=Option.some.inj h
   exact⟨by rw [seqIndex_neg (by omega) h1,e],by omega,h1,by omega⟩
  ·rw [if_neg h1] at h;cases h
theorem zb1 {α:Type}{xs:List α}{i:Int}{v:α}(h:atI xs i=some v):∃j,seqIndex? i xs.length=some j/\xs[j]?=some v/\j<xs.length/\-(xs.length:Int)<=i/\i<xs.length:=by
 unfold atI at h
 cases e:ixN xs.length i with
 | none=>rw [e] at h;cases h
 | some j =>
  rw [e] at h
  obtain⟨h1,h2,h3,h4⟩:=zir e
  exact⟨j,h1,h,h2,h3,h4⟩
theorem ja {α:Type}{xs:List α}{j:Nat}{v:α}(h:xs[j]?=some v):atI xs (j:Int)=some v:=by
 have hj:j<xs.length:=(List.getElem?_eq_some_iff.mp h).1
 have e:ixN xs.length (j:Int)=some j:=by
  unfold ixN
  rw [if_pos (by omega),if_pos (by omega)];simp
 unfold atI;rw [e];exact h
def zis (b:Expr):Prop:=∀o i,subscripted b false o i=operate [o,i] (getItem o i)
def IxR (X:Cx)(r:R2):Prop :=
 ∀(value slice:Expr) (pins:List (Addr×Obj)) (s:Shared) (σ:St) (H:Hp) (x y:V) (v u:Value) (Q:VK),Inv X pins σ H s->RelV x v->RelV y u->r x y H Q ->
  subscripted slice false v u=operate [v,u] (getItem v u)->wpAny (model X.prog X.w) X.A (subscriptTail value slice v u) (EP X pins σ Q) X.xe s
def MtR (X:Cx)(id:String)(r:V->List V->Hp->VK->Prop):Prop :=
 ∀(pins:List (Addr×Obj)) (s:Shared) (σ:St) (H:Hp) (x:V) (xs:List V) (v:Value) (us:List Value) (Q:VK),Inv X pins σ H s->RelV x v->Vals xs us->r x xs H Q ->
  wpAny (model X.prog X.w) X.A (call (.builtin id) (v::us)) (EP X pins σ Q) X.xe s
section
variable {X:Cx}{a b:Expr}{ta tb:TE}{pos:Pos}
theorem zw {r:R2}(hr:IxR X r)(ha:PE X a ta)(hb:PE X b tb)(hs:zis b):PE X (.Subscript a b pos) (tOp r ta tb):=by
 intro pins s σ H Q I h
 exact Subscript_ (zjQ ha hb I h fun v u s2 x y H2 I2 rx ry q=>hr a b pins s2 σ H2 x y v u Q I2 rx ry q (hs _ _))
def zkV (K:PySem.W.Frag):R2:=fun x y H Q=>∃p xs i v,x=.ref p/\y=.int i/\SqL K H p xs/\atI xs i=some v/\Q v H
def zkW (K:PySem.W.Frag):R2:=fun x y H Q=>∃p xs i v,x=.ref p/\y=.int i/\SqT K H p xs/\atI xs i=some v/\Q v H
def zkX:R2:=fun x y H Q=>∃z i c,x=.str z/\y=.int i/\z.length<=sizeLine/\atI z.cps.toList i=some c/\Q (.str ⟨#[c]⟩) H
theorem zT:IxR X (zkV X.K):=by
 intro value slice pins s σ H x y v u Q I rx ry h hs
 obtain⟨p,xs,i,z,rfl,rfl,hq,he,q⟩:=h
 cases rx
 obtain⟨t,rfl⟩:=ry
 obtain⟨its,r,pl,hz⟩:=I.list hq
 obtain⟨j,h1,h2,h3,h4,h5⟩:=zb1 he
 obtain⟨w,ew,rw'⟩:=r.get h2
 have hl:=r.length
 have hn:=Y8
 have fin:EP X pins σ Q w s:=⟨z,H,I,rw',q⟩
 by_cases h0:0<=i
 ·have hj:i.toNat=j:=by
   rw [seqIndex_of h0 h5] at h1
   exact Option.some.inj h1
  exact item_listR pl.isList h0 (by omega) (by rw [hj];simpa using ew) fin hs
 ·have hj:(i+(its.toArray.size:Int)).toNat=j:=by
   rw [seqIndex_neg (by omega) h4] at h1
   rw [size_toArray,<- hl]
   exact Option.some.inj h1
  exact subscriptTail_builtinR (x:=w) pl.isList.typeIs slot_list_getitem.lookup
   (wpAny_getItem_list_neg (Q:=fun r s'=>r=w/\EP X pins σ Q r s') pl.isList (by omega) (by rw [size_toArray]<;>omega) (by omega) (by rw [hj];simpa using ew) ⟨rfl,fin⟩) hs
theorem zI:IxR X (zkW X.K):=by
 intro value slice pins s σ H x y v u Q I rx ry h hs
 obtain⟨p,xs,i,z,rfl,rfl,hq,he,q⟩:=h
 cases rx
 obtain⟨t,rfl⟩:=ry
 obtain⟨its,r,pl,hz⟩:=I.tuple hq
 obtain⟨j,h1,h2,h3,h4,h5⟩:=zb1 he
 obtain⟨w,ew,rw'⟩:=r.get h2
 have hl:=r.length
 have hn:=Y8
 have fin:EP X pins σ Q w s:=⟨z,H,I,rw',q⟩
 exact subscriptTail_builtinR (x:=w) pl.typeIs slot_tuple_getitem.lookup
  (getItem_tuple (j:=j) (Q:=fun r s'=>r=w/\EP X pins σ Q r s') pl (by omega) (by omega) (by rw [size_toArray,<- hl];exact h1) (by simpa using ew) ⟨rfl,fin⟩) hs
theorem zb2:IxR X zkX:=by
 intro value slice pins s σ H x y v u Q I rx ry h hs
 obtain⟨z,i,c,rfl,rfl,hz,he,q⟩:=h
 obtain⟨t,rfl⟩:=rx
 obtain⟨t',rfl⟩:=ry
 obtain⟨j,h1,h2,h3,h4,h5⟩:=zb1 he
 have hl:z.cps.toList.length=z.length:=by simp [Str.length]
 rw [hl] at h1 h4 h5
 have hn:=Y8
 exact tail_any (typeIs_str s z t) slot_str_getitem.lookup (getItem_str (c:=c) (by
  have e1:decide (i < -(2^63:Int))=false:=decide_eq_false (by omega)
  have e2:decide (i >= 2^63)=false:=decide_eq_false (by omega)
  rw [e1,e2,Bool.or_false]) (by rw [h1];simpa using h2) ⟨.str ⟨#[c]⟩,H,I.tok _,⟨_,rfl⟩,q⟩) hs
theorem zb3 (lo hi:Option Int)(n:Nat):(sliceBounds lo hi none n).1=((HT.sIx n 0 lo:Nat):Int)/\(sliceBounds lo hi none n).2.1=((HT.sIx n n hi:Nat):Int)/\(sliceBounds lo hi none n).2.2=1:=by
 refine⟨?_,?_,rfl⟩
 ·cases lo with
  | none=>simp [sliceBounds,HT.sIx]
  | some i =>
   simp only [sliceBounds,HT.sIx,Option.getD_none,show (1:Int)>0 by decide,if_true]
   by_cases h:i<0
   ·simp only [h,if_true]<;>omega
   ·simp only [h,if_false]<;>omega
 ·cases hi with
  | none=>simp [sliceBounds,HT.sIx]
  | some i =>
   simp only [sliceBounds,HT.sIx,Option.getD_none,show (1:Int)>0 by decide,if_true]
   by_cases h:i<0
   ·simp only [h,if_true]<;>omega
   ·simp only [h,if_false]<;>omega
theorem zaV (its:List Value)(lo hi:Option Int):slicePick its.toArray lo hi none=((its.drop (HT.sIx its.length 0 lo)).take (HT.sIx its.length its.length hi-HT.sIx its.length 0 lo)).toArray:=by
 obtain⟨h1,h2,h3⟩:=zb3 lo hi its.toArray.size
 unfold slicePick
 rw [h1,h2,h3]
 simp only [sliceRange_one,pick_run,size_toArray]<;>rfl
def zlJ (K:PySem.W.Frag):V->Option Int->Option Int->Hp->VK->Prop:=fun x lo hi H Q=>∃a xs,x=.ref a/\SqL K H a xs/\∀p,H p=none->Q (.ref p) (upd H p (.lst (yN xs lo hi)))
theorem Yx:SlR X (zlJ X.K):=by
 intro pins s σ H x v vl vu lo hi sl Q I rx hs pl pu h
 obtain⟨a,xs,rfl,hx,q⟩:=h
 cases rx
 obtain⟨its,r,ht,hz⟩:=I.list hx
 have hlen:=r.length
 refine⟨"list",_,slot_list_getitem.lookup,ht.isList.typeIs,?_⟩
 refine wpAny_getItem_list_slice ht.isList hs pl pu .none (by simp) ?_ (by rw [size_toArray]<;>omega)
 rw [zaV,<- hlen]
 refine⟨.ref s.heap.objs.size,_,I.laid (t':=s.toks) (o:=.lst (yN xs lo hi)) (fun b ob q=>Heap.get?_push_of_some _ q) (le_refl _) ?_,rfl,q _ (I.hok.fresh (le_refl _))⟩
 exact⟨le_trans (Zs xs lo hi) hz,_,0,(r.drop (HT.sIx xs.length 0 lo)).take (HT.sIx xs.length xs.length hi-HT.sIx xs.length 0 lo),Heap.get?_push_size _ rfl⟩
noncomputable def Yy:V->Bool
 | .non=>true
 | .bl _=>true
 | .int _=>true
 | .str _=>true
 | _=>false
noncomputable def eqV:V->V->Bool
 | .non,.non=>true
 | .bl a,.bl b=>a==b
 | .bl a,.int b=>(if a then 1 else 0)==b
 | .int a,.bl b=>a==(if b then 1 else 0)
 | .int a,.int b=>a==b
 | .str a,.str b=>a==b
 | _,_=>false
theorem zjW {A:Around}{s:Shared}{y x:V}{u v:Value}(ry:RelV y u)(rx:RelV x v)(fy:Yy y=true)(fx:Yy x=true):SeqAt.EqAt A s u v (eqV y x):=by
 cases y with
 | non =>
  cases ry
  cases x with
  | non=>cases rx;exact SeqAt.EqAt.same _
  | bl b=>cases rx;exact SeqAt.EqAt.none_bool b
  | int b=>obtain⟨t,rfl⟩:=rx;exact SeqAt.EqAt.none_int b t
  | str b=>obtain⟨t,rfl⟩:=rx;exact SeqAt.EqAt.none_str b t
  | _=>exact absurd (show false=true from fx) Bool.false_ne_true
 | bl a =>
  cases ry
  cases x with
  | non=>cases rx;exact SeqAt.EqAt.bool_none a
  | bl b=>cases rx;exact SeqAt.EqAt.bool_bool a b
  | int b=>obtain⟨t,rfl⟩:=rx;exact SeqAt.EqAt.bool_int a b t
  | str b=>obtain⟨t,rfl⟩:=rx;exact SeqAt.EqAt.bool_str a b t
  | _=>exact absurd (show false=true from fx) Bool.false_ne_true
 | int a =>
  obtain⟨t',rfl⟩:=ry
  cases x with
  | non=>cases rx;exact SeqAt.EqAt.int_none a t'
  | bl b=>cases rx;exact SeqAt.EqAt.int_bool a t' b
  | int b=>obtain⟨t,rfl⟩:=rx;exact SeqAt.EqAt.int_int a t' b t
  | str b=>obtain⟨t,rfl⟩:=rx;exact SeqAt.EqAt.int_str a t' b t
  | _=>exact absurd (show false=true from fx) Bool.false_ne_true
 | str a =>
  obtain⟨t',rfl⟩:=ry
  cases x with
  | non=>cases rx;exact SeqAt.EqAt.str_none a t'
  | bl b=>cases rx;exact SeqAt.EqAt.str_bool a t' b
  | int b=>obtain⟨t,rfl⟩:=rx;exact SeqAt.EqAt.str_int a t' b t
  | str b=>obtain⟨t,rfl⟩:=rx;exact SeqAt.EqAt.str_str a t' b t
  | _=>exact absurd (show false=true from fx) Bool.false_ne_true
 | _=>exact absurd (show false=true from fy) Bool.false_ne_true
def eqU (x:V)(u:Value):Bool:=match u with
 | .none=>eqV .non x
 | .bool b=>eqV (.bl b) x
 | .int i _=>eqV (.int i) x
 | .str z _=>eqV (.str z) x
 | _=>false
theorem zgW {x y:V}{u:Value}(r:RelV y u)(f:Yy y=true):eqU x u=eqV y x:=by
 cases y with
 | non=>cases r;rfl
 | bl b=>cases r;rfl
 | int i=>obtain⟨t,rfl⟩:=r;rfl
 | str z=>obtain⟨t,rfl⟩:=r;rfl
 | _=>exact absurd (show false=true from f) Bool.false_ne_true
theorem Yz {x:V}:∀{xs:List V} {us:List Value},Vals xs us->xs.all Yy=true->us.any (eqU x)=xs.any fun y=>eqV y x
 | _,_,.nil,_=>rfl
 | y::xs,u::us,.cons r t,f=>by
  rw [List.all_cons,and_eq_true] at f
  rw [any_cons,any_cons,zgW r f.1,Yz t f.2]
theorem Zt {A:Around}{s:Shared}{x:V}{v:Value}(rx:RelV x v)(fx:Yy x=true):∀{xs:List V} {us:List Value},Vals xs us->xs.all Yy=true->∀u∈us,SeqAt.EqAt A s u v (eqU x u)
 | _,_,.nil,_=>fun u hu=>by cases hu
 | y::xs,u::us,.cons r t,f=>fun u' hu=>by
  rw [List.all_cons,and_eq_true] at f
  rcases List.mem_cons.mp hu with rfl | hu
  ·rw [zgW r f.1];exact zjW r rx f.1 fx
  ·exact Zt rx fx t f.2 u' hu
def inV (x:V)(xs:List V):Bool:=xs.any fun y=>eqV y x
def rIn (K:PySem.W.Frag)(neg:Bool):R2:=fun x y H Q=>∃p xs,y=.ref p/\(SqL K H p xs\/SqT K H p xs)/\Yy x=true/\xs.all Yy=true/\Q (.bl (if neg then !inV x xs else inV x xs)) H
theorem zfX:OpR X (compareOp .In) (rIn X.K false):=by
 intro pins s σ H x y v u Q I rx ry h
 obtain⟨p,xs,rfl,hq,fx,fs,q⟩:=h
 cases ry
 rcases hq with hq | hq
 ·obtain⟨its,r,pl,hz⟩:=I.list hq
  refine SeqAt.in_listAt (eqU x) pl.isList (fun w hw=>Zt rx fx r fs w (by simpa using hw)) ⟨.bl _,H,I,rfl,?_⟩
  rw [show its.toArray.any (eqU x)=its.any (eqU x) by simp,Yz r fs]
  exact q
 ·obtain⟨its,r,pl,hz⟩:=I.tuple hq
  refine SeqAt.in_tupleAt (eqU x) pl (fun w hw=>Zt rx fx r fs w (by simpa using hw)) ⟨.bl _,H,I,rfl,?_⟩
  rw [show its.toArray.any (eqU x)=its.any (eqU x) by simp,Yz r fs]
  exact q
theorem zb4:OpR X (compareOp .NotIn) (rIn X.K true):=by
 intro pins s σ H x y v u Q I rx ry h
 obtain⟨p,xs,rfl,hq,fx,fs,q⟩:=h
 cases ry
 rcases hq with hq | hq
 ·obtain⟨its,r,pl,hz⟩:=I.list hq
  refine SeqAt.notIn_listAt (eqU x) pl.isList (fun w hw=>Zt rx fx r fs w (by simpa using hw)) ⟨.bl _,H,I,rfl,?_⟩
  rw [show its.toArray.any (eqU x)=its.any (eqU x) by simp,Yz r fs]
  exact q
 ·obtain⟨its,r,pl,hz⟩:=I.tuple hq
  refine SeqAt.notIn_tupleAt (eqU x) pl (fun w hw=>Zt rx fx r fs w (by simpa using hw)) ⟨.bl _,H,I,rfl,?_⟩
  rw [show its.toArray.any (eqU x)=its.any (eqU x) by simp,Yz r fs]
  exact q
theorem zx:jn X (.builtin "len") (fun xs H Q=>∃p ys,xs=[.ref p]/\(SqL X.K H p ys\/SqT X.K H p ys)/\Q (.int ys.length) H):=by
 intro pins s σ H xs us Q I r h
 obtain⟨p,ys,rfl,hq,q⟩:=h
 obtain⟨u,rfl,rx⟩:=vals1 r
 cases rx
 have hn:=Y8
 rcases hq with hq | hq
 ·obtain⟨its,r',pl,hz⟩:=I.list hq
  have hlen:=r'.length
  exact Calls.call_len_list pl.isList (by simp only [size_toArray]<;>omega) ⟨.int ys.length,H,I.tok _,⟨s.toks+1,by rw [size_toArray,hlen]⟩,q⟩
 ·obtain⟨its,r',pl,hz⟩:=I.tuple hq
  have hlen:=r'.length
  exact len_tuple pl (by simp only [size_toArray]<;>omega) ⟨.int ys.length,H,I.tok _,⟨s.toks+1,by rw [size_toArray,hlen]⟩,q⟩
theorem YA:jn X (.builtin "len") (fun xs H Q=>∃z,xs=[.str z]/\z.length<=sizeLine/\Q (.int z.length) H):=by
 intro pins s σ H xs us Q I r h
 obtain⟨z,rfl,hz,q⟩:=h
 obtain⟨u,rfl,t,rfl⟩:=vals1 r
 have hn:=Y8
 exact len_str (by omega) ⟨.int z.length,H,I.tok _,⟨_,rfl⟩,q⟩
theorem qO:jn X (.type "list") (fun xs H Q=>∃p ys,xs=[.ref p]/\(SqL X.K H p ys\/SqT X.K H p ys)/\∀l,H l=none->Q (.ref l) (upd H l (.lst ys))):=by
 intro pins s σ H xs us Q I r h
 obtain⟨p,ys,rfl,hq,q⟩:=h
 obtain⟨u,rfl,rx⟩:=vals1 r
 cases rx
 have fin:∀(its:List Value),Vals ys its->ys.length<=sizeLine->∀(h':Heap) (c':Nat),(∀b o',s.heap.get? b=some o'->h'.get? b=some o') ->
   h'.get? s.heap.objs.size=some { cls:=.type "list",dict:=none,data:=.seq its.toArray c',slots:=#[] }->EP X pins σ Q (.ref s.heap.objs.size) { s with heap:=h' }:=fun its r' hz h' c' kp e =>
  ⟨.ref s.heap.objs.size,_,I.laid (t':=s.toks) kp (le_refl _) (show qB X.prog X.w _ h' _ (.lst ys) from ⟨hz,its,c',r',e⟩),rfl,q _ (I.hok.fresh (le_refl _))⟩
 rcases hq with hq | hq
 ·obtain⟨its,r',pl,hz⟩:=I.list hq
  have hlen:=r'.length
  obtain⟨o,ho,hc,n,hd⟩:=pl.isList
  exact call_list_seq p (.inl rfl) ho hc hd (fun h' c' kp e=>fin its r' hz h' c' kp e) (by simp only [size_toArray]<;>omega)
 ·obtain⟨its,r',pl,hz⟩:=I.tuple hq
  have hlen:=r'.length
  obtain⟨o,ho,hc,n,hd⟩:=pl
  exact call_list_seq p (.inr rfl) ho hc hd (fun h' c' kp e=>fin its r' hz h' c' kp e) (by simp only [size_toArray]<;>omega)
def tyV (K:PySem.W.Frag)(T:String)(x:V)(H:Hp):Prop:=match x with
 | .str _=>T="str"
 | .int _=>T="int"
 | .ref p=>(T="list"/\∃xs,SqL K H p xs)\/(T="tuple"/\∃o,K.lookup p=some o/\o.cls=.type "tuple"/\o.dict=none) \/
   (T="dict"/\((∃kvs,H p=some (.dK kvs))\/∃kvs,H p=some (.dT kvs)))\/(T="set"/\∃S n,H p=some (.set S n))
 | _=>False
theorem zjX {pins:List (Addr×Obj)}{σ:St}{H:Hp}{s:Shared}{T:String}{x:V}{v:Value}(I:Inv X pins σ H s)(r:RelV x v)(ty:tyV X.K T x H) :
  s.TypeIs v T/\∀a,v=.ref a->∃ob,s.heap.get? a=some ob/\ob.dict=none:=by
 cases x with
 | str z =>
  obtain⟨t,rfl⟩:=r
  cases (show T="str" from ty)
  exact⟨typeIs_str s z t,fun _ e=>nomatch e⟩
 | int i =>
  obtain⟨t,rfl⟩:=r
  cases (show T="int" from ty)
  exact⟨typeIs_int s i t,fun _ e=>nomatch e⟩
 | ref p =>
  cases r
  rcases ty with ⟨rfl,xs,hq⟩ | ⟨rfl,o,hk,hc,hd⟩ | ⟨rfl,hk⟩ | ⟨rfl,S,n,hk⟩
  ·obtain⟨its,_,pl,_⟩:=I.list hq
   refine⟨pl.isList.typeIs,fun a e=>?_⟩
   cases e
   obtain⟨o,n,e,c,hd,_⟩:=pl
   exact⟨o,e,hd⟩
  ·refine⟨⟨o,I.kIn p o hk,hc⟩,fun a e=>?_⟩
   cases e
   exact⟨o,I.kIn _ o hk,hd⟩
  ·have z:∃o,s.heap.get? p=some o/\o.ExactDict:=by
    rcases hk with ⟨kvs,hk⟩ | ⟨kvs,hk⟩
    ·obtain⟨_,_,_,_,o,_,_,e,ex,_⟩:=I.hok p _ hk
     exact⟨o,e,ex⟩
    ·obtain⟨_,_,_,_,o,_,_,e,ex,_⟩:=I.hok p _ hk
     exact⟨o,e,ex⟩
   obtain⟨o,e,ex⟩:=z
   refine⟨⟨o,e,ex.1⟩,fun a e2=>?_⟩
   cases e2
   exact⟨o,e,ex.2.1⟩
  ·obtain⟨o,_,_,_,e,ex,_⟩:=I.hok p _ hk
   refine⟨⟨o,e,ex.1⟩,fun a e2=>?_⟩
   cases e2
   exact⟨o,e,ex.2.1⟩
 | _=>exact False.elim ty
def tBM (K:PySem.W.Frag)(T:String)(r:V->List V->Hp->VK->Prop)(to:TE)(t:TA):TE:=fun σ H Q=>to σ H fun x H1=>tyV K T x H1/\t σ H1 fun xs H2=>r x xs H2 Q
variable {o e:Expr}{es:List Expr}{to:TE}{t:TA}{name:Str}{apos cpos:Pos}{T id:String}{r:V->List V->Hp->VK->Prop}
theorem Zo (pa:PlainAttrs T)(slot:Slot T name id)(hty:typeOf (.builtin id)=pure (.type "method_descriptor"))(hm:MtR X id r)(ho:PE X o to)(ha:PA X (e::es) t)
  (hbase:attributeBase o name X.env (eval o X.env)=eval o X.env:=by rfl)
  (hfew:((backTo cpos (starEach (e::es) X.env)).all (fun x=>!x.1)&&(backToKw cpos (keywordEach [] X.env)).all (fun x=>x.1.isSome)
   && decide ((e::es).length+([]:List Keyword).length+(if ([]:List Keyword).isEmpty then 0 else 1)<30))=true:=by rfl)
  (hline:(apos.endLine==cpos.line)=true:=by rfl) (hs:starEach (e::es) X.env=(false,eval e X.env)::starEach es X.env:=by rfl) (hplain:(backTo cpos (starEach es X.env)).any (·.1)=false:=by rfl) :
  PE X (.Call (.Attribute o name apos) (e::es) [] cpos) (tBM X.K T r to t):=by
 intro pins s σ H Q I h
 refine wpAny_Call_method_late hbase hfew hline rfl (thn (ho pins s σ H _ I h) fun v s1 ⟨x,H1,I1,r1,ty,q1⟩=>?_)
 obtain⟨h1,h2⟩:=zjX I1 r1 ty
 refine⟨T,id,pa,slot,hty,h1,h2,?_⟩
 have hA:=ha cpos pins s1 σ H1 _ I1 q1
 rw [hs] at hA ⊢
 refine Calls.callWith_builtin (by show (false || (backTo cpos (starEach es X.env)).any (·.1))=false;rw [hplain]<;>rfl) (Calls.evalArgs_plain ?_)
 exact thn hA fun us s2 ⟨vs,H2,I2,r2,q2⟩=>hm pins s2 σ H2 x vs v us Q I2 r1 r2 q2
/- xs.append(e),list.index on a module's tuple .. are MtR facts of 06m -/
end
def MtM (X:Cx)(id:String)(r:V->List V->Hp->VK->Prop):Prop :=
 ∀(pins:List (Addr×Obj)) (s:Shared) (σ:St) (H:Hp) (x:V) (xs:List V) (v:Value) (us:List Value) (Q:VK),Inv X pins σ H s->RelV x v->Vals xs us->r x xs H Q ->
  wpAny (model X.prog X.w) X.A (call (.builtin id) (v::us)) (EP X pins σ Q) X.xe s
theorem Vals.one:∀{x:V} {us:List Value},Vals [x] us->∃u,us=[u]/\RelV x u
 | _,_,.cons r .nil=>⟨_,rfl,r⟩
theorem Vals.reverse {xs:List V}{us:List Value}(h:Vals xs us):Vals xs.reverse us.reverse:=by
 induction h with
 | nil=>exact .nil
 | cons r t ih=>rw [List.reverse_cons,List.reverse_cons];exact Vals.append ih (.cons r .nil)
section
variable {X:Cx}{pins:List (Addr×Obj)}{σ:St}{H:Hp}{s:Shared}{l b:Addr}{xs ys zs:List V}
theorem Inv.lset {its its':List Value}{n:Nat}{f:Array Value->Array Value}{t':Nat}(I:Inv X pins σ H s)(hH:H l=some (.lst xs))
  (e:s.heap.get? l=some { cls:=.type "list",data:=.seq its.toArray n }) (hf:f its.toArray=its'.toArray) (hv:Vals ys its') (hz:ys.length<=sizeLine) :
  Inv X pins σ (upd H l (.lst ys)) { s with heap:=s.heap.update l (Obj.mapSeq f),toks:=t' }:=by
 have q:=PySem.IsL.update e f
 rw [hf] at q
 refine I.write (x:=l) (e:=l) (by rw [hH];exact trivial) (.inl rfl) (fun b' u hb hu=>(Heap.get?_update_other s.heap (Obj.mapSeq f) (Ne.symm hb)).trans hu) ⟨_,q⟩ ?_
 exact⟨hz,its',_,hv,q⟩
theorem Inv.lnew {its:List Value}{t':Nat}(I:Inv X pins σ H s)(hv:Vals ys its)(hz:ys.length<=sizeLine) :
  Inv X pins σ (upd H s.heap.objs.size (.lst ys)) { s with heap:=s.heap.push { cls:=.type "list",data:=.seq its.toArray },toks:=t' } :=
 I.laid (fun _ _ q=>Heap.get?_push_of_some _ q) (le_refl _) ⟨hz,its,0,hv,Heap.get?_push_size _ rfl⟩
theorem Inv.fresh (I:Inv X pins σ H s):H s.heap.objs.size=none:=I.hok.fresh (le_refl _)
theorem Inv.lstM (I:Inv X pins σ H s)(hH:H l=some (.lst xs)):xs.length<=sizeLine/\∃(its:List Value) (n:Nat),Vals xs its/\xs.length=its.length/\s.heap.get? l=some { cls:=.type "list",data:=.seq its.toArray n }:=by
 obtain⟨z,its,n,r,e⟩:=I.hok l _ hH
 exact⟨z,its,n,r,r.length,e⟩
theorem zgX {n:Nat}(h:n<=sizeLine):Builtin.List.listTooLong n=false:=by
 unfold Builtin.List.listTooLong
 exact decide_eq_false (by omega)
end
section
variable {X:Cx}
def zit:V->List V->Hp->VK->Prop:=fun x vs H Q=>∃l xs y,x=.ref l/\vs=[y]/\H l=some (.lst xs)/\xs.length<sizeLine/\Q .non (upd H l (.lst (xs++[y])))
theorem jj:MtM X "list.append" zit:=by
 intro pins s σ H x vs v us Q I rx rv h
 obtain⟨l,xs,y,rfl,rfl,hH,hz,q⟩:=h
 cases rx
 obtain⟨u,rfl,ru⟩:=rv.one
 obtain⟨z,its,n,r,hl,e⟩:=I.lstM hH
 refine call_meets F.slot_list_append ⟨_,e,rfl⟩ F.entry_list_append (F.args_list_append_2 _ _) (PySem.list_append l its.toArray n u (by rw [size_toArray];omega)) ⟨e,?_⟩
 refine⟨.non,_,I.lset (its':=its++[u]) hH e (by simp) (r.append (.cons ru .nil)) ?_,rfl,q⟩
 rw [length_append,List.length_singleton]
 omega
def ziu:V->List V->Hp->VK->Prop:=fun x vs H Q=>∃l b xs zs,x=.ref l/\vs=[.ref b]/\H l=some (.lst xs)/\H b=some (.lst zs)/\xs.length+zs.length<=sizeLine/\Q .non (upd H l (.lst (xs++zs)))
theorem Y9:MtM X "list.extend" ziu:=by
 intro pins s σ H x vs v us Q I rx rv h
 obtain⟨l,b,xs,zs,rfl,rfl,hH,hB,hz,q⟩:=h
 cases rx
 obtain⟨u,rfl,ru⟩:=rv.one
 cases ru
 obtain⟨z,its,n,r,hl,e⟩:=I.lstM hH
 obtain⟨z2,its2,n2,r2,hl2,e2⟩:=I.lstM hB
 have hsz:its.toArray.size+its2.toArray.size<=sizeLine:=by rw [size_toArray,size_toArray];omega
 have hlong:¬ (!its.toArray.isEmpty&&Builtin.List.listTooLong (its.toArray.size+its2.toArray.size))=true:=by
  rw [zgX hsz,Bool.and_false]
  exact Bool.false_ne_true
 refine call_meets F.slot_list_extend ⟨_,e,rfl⟩ F.entry_list_extend (F.args_list_extend_2 _ _)
  (AutoSeq1.list_extend_list_list_0 l its.toArray n b its2.toArray n2 hlong (by rw [size_toArray];omega) (by omega)) ⟨e,e2,?_⟩
 refine⟨.non,_,I.lset (its':=its++its2) hH e (by simp) (r.append r2) ?_,rfl,q⟩
 rw [length_append]
 omega
def zlK:R2:=fun x y H Q=>∃l b xs zs,x=.ref l/\y=.ref b/\H l=some (.lst xs)/\H b=some (.lst zs)/\xs.length+zs.length<=sizeLine/\∀p,H p=none->Q (.ref p) (upd H p (.lst (xs++zs)))
theorem j9:OpR X (binaryOp .Add) zlK:=by
 intro pins s σ H x y v u Q I rx ry h
 obtain⟨l,b,xs,zs,rfl,rfl,hH,hB,hz,q⟩:=h
 cases rx
 cases ry
 obtain⟨z,its,n,r,hl,e⟩:=I.lstM hH
 obtain⟨z2,its2,n2,r2,hl2,e2⟩:=I.lstM hB
 refine PySem.P.add_list e e2 ?_ (by rw [size_toArray,size_toArray];omega)
 have ea:its.toArray++its2.toArray=(its++its2).toArray:=by simp
 rw [ea]
 exact⟨.ref _,_,I.lnew (t':=s.toks) (r.append r2) (by rw [length_append];omega),rfl,q _ I.fresh⟩
end
section
variable {prog:Program}{w:World}{A:Around}{E:Value->Shared->Prop}{s:Shared}
end
section
variable {X:Cx}
end
end L2
namespace Att
open PySem PySem.W PySem.Calls PyProof.Rows
theorem QG {P:Params}{h:Heap}:∀(ns:List Int) (vs:List Value),WellAll P h vs (ns.map WData.int)->IntsAre vs ns:=by
 intro ns
 induction ns with
 | nil =>
  intro vs w
  rw [map_nil] at w
  cases w
  exact .nil
 | cons n ns ih =>
  intro vs w
  rw [map_cons] at w
  cases w with
  | cons a b =>
   cases a
   exact .cons _ _ (ih _ b)
theorem zfY {l:OpenLaw}{n:Nat}(hn:l.most=some n){P:Params}{h:Heap}{args:List WData}{vals:List Value}
  (hpre:l.row.toRowW.claim.pre args=true) (hwl:WellAll P h vals args) :
  ∃a vs ns,vals=[Value.ref a]/\args=[WData.list (ns.map WData.int)]/\h.get? a=some { cls:=.type "list",data:=.seq vs.toArray }/\IntsAre vs ns/\ns.length<=n:=by
 have hsh:WShape.hasAll [] args [.list .int]=true:=(pre_splitW hpre).1
 have hc:l.pre.holds [] { args:=args }=true:=(pre_splitW hpre).2
 obtain⟨d,r,rfl,h1,h2⟩:=hasAllW_cons hsh
 obtain rfl:=hasAllW_nil h2
 obtain⟨xs,rfl,h3⟩:=hasW_list h1
 obtain⟨ns,rfl⟩:=items_int h3
 have hlen:ns.length<=n:=by
  unfold OpenLaw.pre at hc
  have h4:(WTm.not (.lt (.lit (.int (n:Int))) (.len (.arg 0)))).holds [] { args:=[.list (ns.map .int)] }=true:=by
   have h4:=(holds_andW hc).1
   rw [hn] at h4
   exact h4
  have h5:=condW_of h4 (w_not (w_lt w_lit (w_len_list (w_arg rfl))))
  rw [length_map] at h5
  refine Nat.le_of_not_lt fun q=>?_
  have q':(n:Int)<((ns.length:Nat):Int):=by omega
  first
   | (rw [decide_eq_true q'] at h5;exact absurd h5 (by decide))
   | (simp at h5;omega)
 cases hwl with
 | cons w1 w2 =>
  cases w2
  cases w1 with
  | list ho hall=>exact⟨_,_,ns,rfl,rfl,ho,QG ns _ hall,hlen⟩
theorem zfZ (l:OpenLaw)(args:List WData):l.row.toRowW.claim.post args (.bool true) args=true :=
 postW_of (r:=l.row.toRowW) (X:=(true==true))
  (show WShape.has [] (.bool true) .bool=true by first | rfl | decide | simp [WShape.has,WShape.arms,WShape.armsAll])
  (show (WTm.eq .res (.lit (.bool true))).value [] { args:=args,res:=some (.bool true),after:=args }=some (.bool (true==true)) from w_eq_bool (w_res rfl) w_lit) rfl
theorem zcS {l:OpenLaw}{n:Nat}{q:Program}{loose:List Str}{XP:(Str->Option Value)->Heap->Prop}{YP:World->Heap->Prop}{d:DefRec}
  (hn:l.most=some n) (hdf:d.params.defaults=[])
  (call:∀(w:World) (s₀ s₁:Shared) (mg mb:Str->Option Value) (fa:Addr) (o:Obj) (pm cd doc:Value) (a:Addr) (vs:List Value) (ns:List Int),
   Ground q loose [] XP w s₀ mg mb s₁.heap->YP w s₁.heap ->
   s₁.heap.get? fa=some o->o.data=.func (docDef d.name d.params d.body d.scope pm cd doc)->s₁.heap.CodeRec cd d.name->mg d.name=some (.ref fa) ->
   s₁.heap.get? a=some { cls:=.type "list",data:=.seq vs.toArray }->IntsAre vs ns->ns.length<=n->s₁.gens=#[] ->
   codeAny (model l.prog w) callerA (.call (.ref fa) ⟨[.ref a],[]⟩) (fun r s'=>r=.ok (.ret (.bool true))/\OldK s₁.heap s'.heap/\s'.os=s₁.os/\AllBare s'.gens) s₁) :
  WalkO q loose XP YP l.row.toRowW d [] (fun f vs=>PySem.call f vs):=by
 intro w s₀ s₁ mg mb G Y fa o pm cd doc dV kV ho hd hcd hD hmg hg args vals as hpre hlay hrd hwl hlo
 obtain rfl:dV=.none:=Dflts.none hD hdf
 obtain rfl:kV=.none:=Dflts.noKw hD
 obtain⟨a,vs,ns,rfl,rfl,hobj,hints,hlen⟩:=zfY hn hpre hwl
 refine enter_call (codeAny_mono (call w s₀ s₁ mg mb fa o pm cd doc a vs ns G Y ho (fd_plain hd) hcd hmg hobj hints hlen hg) fun r s' hq=>?_)
 obtain⟨rfl,h2,h3,h4⟩:=hq
 exact⟨.inl ⟨.bool true,.bool true,[],rfl,fun _=>rfl,.bool true,zfZ l _,fun _=>⟨List.Pairwise.nil,fun _ hm=>(nomatch hm)⟩⟩,h2,h3,h4⟩
section
variable {prog:Program}{w:World}{A:Around}{E:Value->Shared->Prop}{s:Shared}{K:Frag}
end
end Att
namespace L2
open PySem PySem.Spec PyProof.Rows
theorem zbo:∀{vs:List Value} {ns:List Int},IntsAre vs ns->Vals (ns.map V.int) vs
 | _,_,.nil=>.nil
 | _,_,.cons n t h=>.cons ⟨t,rfl⟩ (zbo h)
def zjY (H:Hp):Prop:=∀b,H b=none\/∃o xs,H b=some (.frz o (.lst xs))
theorem zgY {P:Program}{w:World}{K:PySem.W.Frag}{mg mb:Str->Option Value}{CX:CXT}{k:Nat}{fa a:Addr}{fd:FuncData}{x:Str}{sp:Sp}{s₁:Shared}{vs:List Value}{ns:List Int}
  (KX:K.In s₁.heap) (hns:s₁.heap.Ns mainGlobals mg) (hb:s₁.heap.Ns builtinsNs mb) (hbb:∀x:Str,x ≠ "__name__"->mb x=bootBuiltins x) (hlim:s₁.heap.NoLimit) (hg:s₁.gens=#[])
  (ha:s₁.heap.get? a=some { cls:=.type "list",data:=.seq vs.toArray }) (hi:IntsAre vs ns) (hl:ns.length<=sizeLine) (hr:Jv k callerA)
  (F:∀base:Heap,K.In base->base.Ns mainGlobals mg->zQ P w K mg base CX k fa fd [x] sp) (hbind:∀(s:Shared) (u:Value),BindsTo s fd ⟨[u],[]⟩ [(x,u)])
  (hsp:∀H:Hp,zjY H->SqL K H a (ns.map V.int)->sp [.ref a] H (fun v _=>v=.bl true) fun _ _ _=>False)
  (hCX:∀H e s',CX [] H s₁ (fun _ _ _=>False) e s'->False) :
  codeAny (model P w) callerA (.call (.ref fa) ⟨[.ref a],[]⟩) (fun r s'=>r=.ok (.ret (.bool true))/\OldK s₁.heap s'.heap/\s'.os=s₁.os/\AllBare s'.gens) s₁:=by
 have rv:=zbo hi
 have lenV:=hi.length
 have core:∀H:Hp,zjY H->SqL K H a (ns.map V.int)->HOk P w H s₁.heap->(∀b,H b≠none->b=a)->(H a≠none->K.lookup a=none) ->
   codeAny (model P w) callerA (.call (.ref fa) ⟨[.ref a],[]⟩) (fun r s'=>r=.ok (.ret (.bool true))/\OldK s₁.heap s'.heap/\s'.os=s₁.os/\AllBare s'.gens) s₁:=by
  intro H hO hS hok hA hK
  have base_of:∀{b:Addr} {o:Obj},s₁.heap.get? b=some o->H b=none->(zb0 s₁.heap H).get? b=some o:=fun e n=>zgR e n
  have noA:∀{b:Addr} {o:Obj} {es:Array DictEntry} {ep:Nat},s₁.heap.get? b=some o->o.data=.dict es ep->H b=none:=fun {b o es ep} e d=>by
   cases q:H b with
   | none=>rfl
   | some u =>
    have e':b=a:=hA b (by rw [q];simp)
    subst e'
    rw [ha] at e;cases e
    have d':Data.seq vs.toArray _=Data.dict es ep:=d
    cases d'
  have nsK:∀{b:Addr} {m:Str->Option Value},s₁.heap.Ns b m->(zb0 s₁.heap H).Ns b m:=fun {b m} ⟨o,es,ep,e,d,r⟩=>⟨o,es,ep,base_of e (noA e d),d,r⟩
  have hKb:K.In (zb0 s₁.heap H):=fun b o e=>base_of (KX b o e) (by
   cases q:H b with
   | none=>rfl
   | some u =>
    have e':b=a:=hA b (by rw [q];simp)
    subst e'
    rw [hK (by rw [q];simp)] at e;cases e)
  have hM:Mod K mg (zb0 s₁.heap H):=⟨hKb,nsK hns,⟨mb,nsK hb,hbb⟩,let ⟨mc,h1,h2⟩:=hlim;⟨mc,nsK h1,h2⟩⟩
  have e0:zio P w K mg (zb0 s₁.heap H) callerA [] s₁ H:=⟨rfl,hM,fun b o e=>zim e,Nat.le_of_eq (zfQ _ _),trivial,fun b hb=>absurd (show b∈([]:List Addr) from hb) (by simp),hok,.of_eq hg⟩
  refine codeAny_mono ((F _ hKb (nsK hns)).run callerA [] s₁ H ⟨[.ref a],[]⟩ [.ref a] [.ref a] _ _ hr e0 (hbind s₁ (.ref a)) (.cons rfl .nil) (hsp H hO hS)) fun r s' h=>?_
  cases r with
  | error e=>exact(hCX H e s' h).elim
  | ok fl =>
   cases fl with
   | next=>exact False.elim h
   | brk=>exact False.elim h
   | cont=>exact False.elim h
   | ret u =>
    obtain⟨v,H',os,bare,un,hok',r',q⟩:=h
    have q':v=.bl true:=q
    subst q'
    obtain rfl:u=Value.bool true:=r'
    refine⟨rfl,OldK.of_keep fun b o e=>?_,os,bare⟩
    cases q:H b with
    | none=>exact un.keep b o e q (by intro z;exact absurd (show b∈([]:List Addr) from z) (by simp)) (by simp)
    | some u =>
     rcases hO b with z | ⟨ob,xs,z⟩
     ·rw [q] at z;cases z
     ·have z2:=un.frzs b ob _ z
      obtain⟨e1,_⟩:=hok b _ z
      obtain⟨e2,_⟩:=hok' b _ z2
      rw [e] at e1;cases e1
      exact e2
 cases hk:K.lookup a with
 | some o =>
  have e:=KX a o hk
  rw [ha] at e
  cases e
  refine core (fun _=>none) (fun _=>.inl rfl) (.inr ⟨_,vs.toArray,_,hk,rfl,rfl,rfl,by rw [size_toArray,lenV];exact hl,by simpa using rv⟩) (fun b u z=>by have z':(none:Option HO)=some u:=z;cases z') (fun b z=>absurd rfl z) fun z=>absurd rfl z
 | none =>
  refine core (fun b=>if b=a then some (.frz { cls:=.type "list",data:=.seq vs.toArray } (.lst (ns.map V.int))) else none) (fun b=>?_) (.inl (.inr ⟨{ cls:=.type "list",data:=.seq vs.toArray },if_pos rfl⟩)) (fun b u z=>?_) (fun b z=>?_) fun _=>hk
  ·by_cases hb:b=a
   ·exact .inr ⟨_,_,if_pos hb⟩
   ·exact .inl (if_neg hb)
  ·by_cases hb:b=a
   ·have z':=(if_pos hb).symm.trans z
    cases z'
    subst hb
    exact⟨ha,by rw [length_map];exact hl,vs,_,rv,ha⟩
   ·have z':=(if_neg hb).symm.trans z
    cases z'
  ·by_cases hb:b=a
   ·exact hb
   ·exact absurd (if_neg hb) z
theorem ze6 {l:PySem.W.OpenLaw}{n k:Nat}{q:Program}{loose:List Str}{XP:(Str->Option Value)->Heap->Prop}{YP:World->Heap->Prop}{d:DefRec}{K:Params->PySem.W.Frag}{CX:World->CXT}{sp:World->Sp}{x:Str}
  (hn:l.most=some n) (hn2:n<=sizeLine) (hdf:d.params.defaults=[]) (hr:Jv k callerA)
  (hY:∀(w:World) (h:Heap),YP w h->(K w.params).In h)
  (F:∀(w:World) (mg:Str->Option Value) (fa:Addr) (h:Heap),(K w.params).In h->h.Ns mainGlobals mg->mg d.name=some (.ref fa) ->
   ∃fd:FuncData,(∀(s:Shared) (u:Value),BindsTo s fd ⟨[u],[]⟩ [(x,u)]) /\
    ∀base:Heap,(K w.params).In base->base.Ns mainGlobals mg->zQ l.prog w (K w.params) mg base (CX w) k fa fd [x] (sp w))
  (hsp:∀(w:World) (H:Hp) (a:Addr) (ns:List Int),ns.length<=n->zjY H->SqL (K w.params) H a (ns.map V.int)->sp w [.ref a] H (fun v _=>v=.bl true) fun _ _ _=>False)
  (hCX:∀(w:World) (H:Hp) (s:Shared) (e:Value) (s':Shared),CX w [] H s (fun _ _ _=>False) e s'->False) :
  PySem.W.WalkO q loose XP YP l.row.toRowW d [] (fun f vs=>PySem.call f vs):=by
 refine Att.zcS hn hdf fun w s₀ s₁ mg mb fa o pm cd doc a vs ns G Y ho hd hcd hmg hobj hints hlen hg=>?_
 have KX:=hY w _ Y
 obtain⟨fd,hb,hF⟩:=F w mg fa _ KX G.T.g hmg
 exact zgY KX G.T.g G.T.b G.T.builtins G.T.nolimit hg hobj hints (le_trans hlen hn2) hr hF hb (fun H hO hS=>hsp w H a ns hlen hO hS) fun H e s'=>hCX w H s₁ e s'
end L2
/- THE LAST THEOREM (shape;LID,My.* are yours):
   My.Adr: a structure of the addresses that your layer names (classes,functions);My.Txt K t: a structure (Prop) of the equations over K;
   My.txt_mk:{K} {implicit addresses ..} (e1:nsIn K mainGlobals "law"=some (some (.ref f))) (e2:K.lookup f=some ⟨oc,od,.func (fnOf "law" "law" params body scope dV kV doc pm an cdv ct),sl⟩) (e3:codeIn K cdv "law"=true) ..:∃t,My.Txt K t
set_option maxRecDepth 100000 in
set_option maxHeartbeats 0 in
theorem PySem.Challenge.cw_LID_holds : PySem.Challenge.rw_LID.Holds := by
 w_on;o_law;k_head;(case hw=>w_witness2)
 k_fill
 refine L2.ze6 (l:=PySem.Challenge.rw_LID) (n:=63) (k:=40) (x:="script") (CX:=fun w=>..) (sp:=fun _=>My.zlL) rfl (by decide) rfl ⟨rfl,by decide,by decide⟩ (fun w h Y=>PySem.W.kIn_of Y) ?F ?S ?C
 case F =>
  intro w mg fa h KX G hmg
  have T:∃t,My.Txt (L2.KOf KX) t:=by
   dsimp only [L2.KOf]                          -- K must stand as «<heap const> w.params» for k_is
   refine' My.txt_mk ?e1 ?e2 ?e3 ..
   (case e1=>PySem.W.k_is)                    -- in the order: a name->its address->its object->its parts
   (case e2=>PySem.W.k_is)
   ..
  obtain⟨t,T⟩:=T
  have e0:=hmg.symm.trans (PySem.W.mg_of KX G T.law)
  cases e0                                       -- fa is the law's own address
  exact⟨_,fun s u=>.of_eq rfl,fun base kb nb=>My.law_fn T kb nb⟩     -- if «.of_eq rfl» comes too early: refine' ⟨_,?b,fun base kb nb=>My.law_fn T kb nb⟩;exact fun s u=>.of_eq rfl
 case S=>exact fun w H a ns hl hO hS=>..
 case C=>exact ..
(the tactic k_is has no namespace: write k_is) -/
namespace L2
open PySem PySem.Spec PyProof.Rows
noncomputable def xY (s:Stmt):Arguments:=match s with
 | .FunctionDef _ a _ _ _ _ _ _ _ _=>a
 | _=>{ posonlyargs:=[],args:=[],vararg:=none,kwonlyargs:=[],kw_defaults:=[],kwarg:=none,defaults:=[] }
noncomputable def yp (s:Stmt):List Stmt:=match s with
 | .FunctionDef _ _ b _ _ _ _ _ _ _=>b
 | _=>[]
noncomputable def zk (s:Stmt):Scope:=match s with
 | .FunctionDef _ _ _ _ _ _ sc _ _ _=>sc
 | _=>{ kind:=.function,names:=[],isGenerator:=false,isCoroutine:=false }
abbrev CX0:CXT:=fun _ _ _ _ _ _=>False
abbrev E0:XK:=fun _ _ _=>False
theorem zV {X:Cx}:Passes CX0 X E0:=fun _ _ _ _ _ _ _ h=>h.elim
structure Fun (K:PySem.W.Frag)(x qual:Str)(st:Stmt)(f:Addr)(fd:FuncData):Prop where
 ex:∃(oc:Value) (od:Option Addr) (kV doc pm:Value) (an:Option Addr) (cdv ct:Value) (osl:Array (Option Value)),
  fd=PySem.W.fnOf x qual (xY st) (yp st) (zk st) .none kV doc pm an cdv ct/\K.lookup f=some ⟨oc,od,.func fd,osl⟩/\PySem.W.codeIn K cdv qual=true
 kp:PySem.W.keepIn K (.ref f)=true
section
variable {P:Program}{w:World}{K:PySem.W.Frag}{mg:Str->Option Value}{base:Heap}
theorem Fun.ok {x qual:Str}{st:Stmt}{f:Addr}{fd:FuncData}{N ps:List Str}{k:Nat}{sp:Sp}(F:Fun K x qual st f fd)(S:zO N ps (zk st))(len:∀vs H Q E,sp vs H Q E->vs.length=ps.length)
  (hbody:∀(cdv:Value) (A:Around) (outer:List Env) (s:Shared) (H:Hp) (vs:List V) (Q:VK) (E:XK),Jv k (A.deeper (envOfC qual (zk st) s.heap.objs.size f cdv))->sp vs H Q E ->
   ∃t,PSs (zcQ CX0 P w K mg base N qual (zk st) f cdv A outer s H E).nox (yp st) t/\t { nx:=fun _ H'=>Q .non H',rt:=Q } (start N vs) H):zQ P w K mg base CX0 (k+1) f fd ps sp:=by
 obtain⟨oc,od,kV,doc,pm,an,cdv,ct,osl,rfl,lk,hcd⟩:=F.ex
 refine zjj lk hcd S len fun A outer s H vs Q E hr hsp=>?_
 obtain⟨t,h,q⟩:=hbody cdv A outer s H vs Q E hr hsp
 exact⟨t,h.nox,q⟩
theorem Fun.binds {x qual:Str}{st:Stmt}{f:Addr}{fd:FuncData}{ps:List Str}(F:Fun K x qual st f fd)
  (h:∀(kV doc pm:Value) (an:Option Addr) (cdv ct:Value) (us:List Value),us.length=ps.length->bindArgs (PySem.W.fnOf x qual (xY st) (yp st) (zk st) .none kV doc pm an cdv ct) ⟨us,[]⟩=pure (ps.zip us)):Binds K fd ps []:=by
 obtain⟨oc,od,kV,doc,pm,an,cdv,ct,osl,rfl,lk,hcd⟩:=F.ex
 exact .all (h kV doc pm an cdv ct)
theorem zgZ {x qual:Str}{st:Stmt}{f:Addr}{oc:Value}{od an:Option Addr}{osl:Array (Option Value)}{kV doc pm cdv ct:Value}(l:K.lookup f=some ⟨oc,od,.func (PySem.W.fnOf x qual (xY st) (yp st) (zk st) .none kV doc pm an cdv ct),osl⟩)
  (c:PySem.W.codeIn K cdv qual=true) (k:PySem.W.keepIn K (.ref f)=true):Fun K x qual st f (PySem.W.fnOf x qual (xY st) (yp st) (zk st) .none kV doc pm an cdv ct):=⟨⟨oc,od,kV,doc,pm,an,cdv,ct,osl,rfl,l,c⟩,k⟩
end
section
variable {X:Cx}
theorem pv (i:Nat){x:Str}{pos:Pos}(hN:X.N[i]?=some x:=by rfl)(hv:Vis X.env.scope x:=by first | exact Or.inl rfl | exact Or.inr (Or.inl rfl) | exact Or.inr (Or.inr rfl))(hd:(x==("__debug__":Str))=false:=by decide)
  (hcd:(x==("__classdict__":Str))=false:=by decide):PE X (.Name x pos) (zkE i):=zjL hN hv hd hcd
end
theorem xD {A B:Prop}(h:B):if false=true then A else B:=by
 rw [if_neg Bool.false_ne_true]
 exact h
theorem ZY {A B:Prop}(h:A):if true=true then A else B:=by
 rw [if_pos rfl]
 exact h
theorem yc {c A B:Prop} [Decidable c](h1:c->A)(h2:¬ c->B):if c then A else B:=by
 by_cases h:c
 ·rw [if_pos h]
  exact h1 h
 ·rw [if_neg h]
  exact h2 h
def zy (H H':Hp):Prop:=∀b o,H b=some o->H' b=some o
theorem zy.refl (H:Hp):zy H H:=fun _ _ h=>h
theorem zy.trans {H H1 H2:Hp}(a:zy H H1)(b:zy H1 H2):zy H H2:=fun c o h=>b c o (a c o h)
theorem zy.free {H H':Hp}(e:zy H H'){l:Addr}(h:H' l=Option.none):H l=Option.none:=by
 cases q:H l with
 | none=>rfl
 | some o =>
  rw [e l o q] at h
  cases h
theorem zy.seq {K:PySem.W.Frag}{H H':Hp}{a:Addr}{xs:List V}(e:zy H H')(h:SqL K H a xs):SqL K H' a xs:=by
 rcases h with (h | ⟨o,h⟩) | h
 ·exact .inl (.inl (e _ _ h))
 ·exact .inl (.inr ⟨o,e _ _ h⟩)
 ·exact .inr h
end L2
set_option maxHeartbeats 4000000
namespace L2
open PySem PySem.Spec PyProof.Rows
section
variable {X:Cx}
theorem QN:OpR X (binaryOp .Mult) (rI IntMulOk fun i j=>.int (i*j)):=opI fun _ _ _ _ _ _ _ hc q=>mul_int q hc
def jq (_ j:Int):Prop:=0<j/\j.natAbs.log2<9000
theorem qk:OpR X (binaryOp .FloorDiv) (rI jq fun i j=>.int (i/j)):=opI fun i j _ _ _ _ _ hc q=>by
 have h1:(0:Int)<j:=hc.1
 exact floordiv_int (by omega) (by rw [Int.fdiv_eq_ediv_of_nonneg i (by omega)];exact q) (.inl (PyProof.noPylong_of_log2 hc.2))
theorem jq.small {i j:Int}(h:0<j)(h':j<1073741824):jq i j:=by
 refine⟨h,?_⟩
 have h0:j.natAbs≠0:=by omega
 have:j.natAbs.log2<30:=(Nat.log2_lt h0).mpr (by omega)
 omega
theorem zlM {i j:Int}(h1:-(2^64)<j)(h2:j<2^64):IntMulOk i j:=IntMulOk.of_right (intBits_le_64 h1 h2)
theorem mulL {i j:Int}(h1:-(2^64)<i)(h2:i<2^64):IntMulOk i j:=IntMulOk.of_left (intBits_le_64 h1 h2)
noncomputable def zjZ (T U:String):Option Bool:=if (Value.type T==Value.type U)=true then some true else if PySem.W.kitMeta U=true then (fastBuiltinMro T).map (·.contains (.type U)) else none
theorem zj0 (K:PySem.W.Frag){T U:String}{b:Bool}(e:zjZ T U=some b):PySem.W.kitOne K (.type T) (.type U)=some b:=e
theorem yE:jn X (.builtin "isinstance") (fun xs H Q=>∃x T U b,xs=[x,.ty U]/\Yv X.K H x (.type T)/\zjZ T U=some b/\Q (.bl b) H):=by
 intro pins s σ H xs us Q I r h
 obtain⟨x,T,U,b,rfl,ty,e,q⟩:=h
 obtain⟨u,w',rfl,rx,ru⟩:=vals2 r
 cases ru
 exact zfV I rx ty (zj0 X.K e) fun tk=>⟨.bl b,H,I.tok tk,rfl,q⟩
end
theorem qP {b:Bool}{A B:Prop}(e:b=true)(h:A):if b=true then A else B:=by
 rw [if_pos e]
 exact h
theorem qH {b:Bool}{A B:Prop}(e:b=false)(h:B):if b=true then A else B:=by
 subst e
 exact xD h
structure zC (K:PySem.W.Frag)(mg:Str->Option Value)(x:Str)(st:Stmt)(ps:List Str)(f:Addr)(fd:FuncData):Prop where
 F:Fun K x x st f fd
 g:mg x=some (.ref f)
 b:Binds K fd ps []
theorem Jq {α:Type}{xs:List α}{i:Int}{v:α}(h:0<=i)(e:xs[i.toNat]?=some v):atI xs i=some v:=by
 have:=ja e
 rwa [Int.toNat_of_nonneg h] at this
def zlN (t u:TS):TS:=fun D σ H=>∃M:St->Hp->Prop,t { D with nx:=M } σ H/\∀ σ' H',M σ' H'->u D σ' H'
theorem QO {X:Cx}{st:Stmt}{rest:List Stmt}{t u:TS}(h1:PS X st t)(h2:PSs X rest u):PSs X (st::rest) (zlN t u):=by
 intro pins s σ H D I h
 obtain⟨M,h3,h4⟩:=h
 refine wpAny_execs_cons (thn (h1 pins s σ H _ I h3) fun f s1 q=>?_)
 cases f with
 | next =>
  obtain⟨σ1,H1,I1,q1⟩:=q
  exact h2 pins s1 σ1 H1 D I1 (h4 σ1 H1 q1)
 | brk=>exact q
 | cont=>exact q
 | ret v=>exact q
theorem zd {H:Hp}{l:Addr}{o:HO}(h:H l=none):zy H (upd H l o):=fun b u e=>by rw [zo (zj e h)];exact e
section
variable {X:Cx}{tg:Expr}
end
mutual
inductive Rdv (K:PySem.W.Frag)(H:Hp):V->PyData->Prop
 | non:Rdv K H .non .none
 | bl (b:Bool):Rdv K H (.bl b) (.bool b)
 | int (i:Int):Rdv K H (.int i) (.int i)
 | str (x:Str):Rdv K H (.str x) (.str x)
 | lst {a:Addr} {xs:List V} {ds:List PyData}:SqL K H a xs->jG K H xs ds->Rdv K H (.ref a) (.list ds)
 | tup {a:Addr} {xs:List V} {ds:List PyData}:SqT K H a xs->jG K H xs ds->Rdv K H (.ref a) (.tuple ds)
inductive jG (K:PySem.W.Frag)(H:Hp):List V->List PyData->Prop
 | nil:jG K H [] []
 | cons {x:V} {d:PyData} {xs:List V} {ds:List PyData}:Rdv K H x d->jG K H xs ds->jG K H (x::xs) (d::ds)
end
section
variable {X:Cx}{pins:List (Addr×Obj)}{σ:St}{H:Hp}{s:Shared}
theorem zf0 {a:Addr}{xs:List V}{ds:List PyData}(I:Inv X pins σ H s)(hq:SqL X.K H a xs)(h:∀us,Vals xs us->∃as,ReadsAll s.heap us ds as):∀u,RelV (.ref a) u->∃as,Reads s.heap u (.list ds) as:=by
 intro u r
 cases r
 obtain⟨its,rv,p,hz⟩:=I.list hq
 obtain⟨as,ra⟩:=h _ rv
 obtain⟨o,ho,hc,n,hd⟩:=p.isList
 exact⟨_,.list ho hc hd (by simpa using ra)⟩
theorem zf1 {a:Addr}{xs:List V}{ds:List PyData}(I:Inv X pins σ H s)(hq:SqT X.K H a xs)(h:∀us,Vals xs us->∃as,ReadsAll s.heap us ds as):∀u,RelV (.ref a) u->∃as,Reads s.heap u (.tuple ds) as:=by
 intro u r
 cases r
 obtain⟨its,rv,p,hz⟩:=I.tuple hq
 obtain⟨as,ra⟩:=h _ rv
 obtain⟨o,ho,hc,n,hd⟩:=p
 exact⟨_,.tuple ho hc hd (by simpa using ra)⟩
theorem zd7 {v:V}{vs:List V}{d:PyData}{ds:List PyData}(h:∀u,RelV v u->∃as,Reads s.heap u d as)(t:∀us,Vals vs us->∃as,ReadsAll s.heap us ds as):∀us,Vals (v::vs) us->∃as,ReadsAll s.heap us (d::ds) as:=by
 intro us r
 cases r with
 | cons r1 r2 =>
  obtain⟨as,ra⟩:=h _ r1
  obtain⟨bs,rb⟩:=t _ r2
  exact⟨_,.cons ra rb⟩
theorem Rdv.reads (I:Inv X pins σ H s){v:V}{d:PyData}{u:Value}(h:Rdv X.K H v d):RelV v u->∃as,Reads s.heap u d as :=
 Rdv.rec (motive_1:=fun v d _=>∀u,RelV v u->∃as,Reads s.heap u d as) (motive_2:=fun vs ds _=>∀us,Vals vs us->∃as,ReadsAll s.heap us ds as)
  (fun u r=>by cases r;exact⟨_,.none⟩) (fun b u r=>by cases r;exact⟨_,.bool b⟩) (fun i u r=>by obtain⟨t,rfl⟩:=r;exact⟨_,.int i t⟩) (fun x u r=>by obtain⟨t,rfl⟩:=r;exact⟨_,.str x t⟩)
  (fun hq _ h=>zf0 I hq h) (fun hq _ h=>zf1 I hq h) (fun us r=>by cases r;exact⟨_,.nil⟩) (fun _ _ h t=>zd7 h t) h u
structure zf2 (x y:PyData):Prop where
 l1:x.canLay0=true
 l2:y.canLay0=true
 dp:x.depth<=64
def zj1 (K:PySem.W.Frag)(neg:Bool):R2:=fun x y H Q=>∃dx dy,Rdv K H x dx/\Rdv K H y dy/\zf2 dx dy/\Q (.bl (if neg then !PyData.eqv dx dy else PyData.eqv dx dy)) H
theorem jr (hu:X.A.units+64<cLine):OpR X (compareOp .Eq) (zj1 X.K false):=by
 intro pins s σ H x y v u Q I rx ry h
 obtain⟨dx,dy,hx,hy,c,q⟩:=h
 obtain⟨as,ra⟩:=hx.reads I rx
 obtain⟨bs,rb⟩:=hy.reads I ry
 have:=c.dp
 exact SeqAt.compareEq_reads ra rb c.l1 c.l2 (by omega) ⟨.bl _,H,I,rfl,q⟩
theorem qp (hu:X.A.units+64<cLine):OpR X (compareOp .NotEq) (zj1 X.K true):=by
 intro pins s σ H x y v u Q I rx ry h
 obtain⟨dx,dy,hx,hy,c,q⟩:=h
 obtain⟨as,ra⟩:=hx.reads I rx
 obtain⟨bs,rb⟩:=hy.reads I ry
 have:=c.dp
 exact SeqAt.compareNe_reads ra rb c.l1 c.l2 (by omega) ⟨.bl _,H,I,rfl,q⟩
def ziv (K:PySem.W.Frag)(neg:Bool):R2:=fun x y H Q=>∃d ds,Rdv K H x d/\Rdv K H y (.list ds)/\d.canLay0=true/\PyData.canLayAll0 ds=true/\d.depth<=60/\Q (.bl (if neg then !ds.any (fun z=>PyData.eqv z d) else ds.any fun z=>PyData.eqv z d)) H
theorem zd8 (hu:X.A.units+64<cLine):OpR X (compareOp .In) (ziv X.K false):=by
 intro pins s σ H x y v u Q I rx ry h
 obtain⟨d,ds,hx,hy,c1,c2,c3,q⟩:=h
 obtain⟨as,ra⟩:=hx.reads I rx
 obtain⟨bs,rb⟩:=hy.reads I ry
 exact SeqAt.in_list_reads rb ra c2 c1 (by omega) ⟨.bl _,H,I,rfl,q⟩
theorem zaW (hu:X.A.units+64<cLine):OpR X (compareOp .NotIn) (ziv X.K true):=by
 intro pins s σ H x y v u Q I rx ry h
 obtain⟨d,ds,hx,hy,c1,c2,c3,q⟩:=h
 obtain⟨as,ra⟩:=hx.reads I rx
 obtain⟨bs,rb⟩:=hy.reads I ry
 exact SeqAt.notIn_list_reads rb ra c2 c1 (by omega) ⟨.bl _,H,I,rfl,q⟩
end
noncomputable def qI (X:Cx)(N:List Str)(scope:Scope)(cl:List (Str×Addr))(C:Addr)(fp:List Addr)(pins:List (Addr×Obj))(s:Shared)(H:Hp):Cx where
 prog:=X.prog
 w:=X.w
 K:=X.K
 mg:=X.mg
 base:=X.base
 A:=X.A
 N:=N
 s₀:=s
 H₀:=H
 env:=compEnvC scope cl C X.env
 outer:=X.stack
 stack:=X.stack
 ex:=fp
 fn:=fun _=>false
 calm:=X.calm
 pn:=X.pn++pins
 xe:=fun _ _=>False
noncomputable def pull (src:List (Option Nat))(σ:St):St:=src.map fun o=>match o with
 | some j=>(σ[j]?).getD none
 | none=>none
structure ql (X:Cx)(N:List Str)(src:List (Option Nat))(scope:Scope)(cl:List (Str×Addr)):Prop where
 kind:scope.kind=.function
 nocell:∀y∈scope.names,y.2 ≠ .cell
 names:∀y∈scope.names,y.2=.local->scope.names.lookup y.1=some .local
 clos:closureFor scope X.env=pure cl
 sub:∀x c,cl.lookup x=some c->X.env.cells.lookup x=some c
 has:∀x,((relabel scope X.env).names.lookup x=some .cell\/(relabel scope X.env).names.lookup x=some .free)->∃c,cl.lookup x=some c
 len:src.length=N.length
 pulls:∀(i j:Nat) (x:Str),N[i]?=some x->src[i]?=some (some j)->X.N[j]?=some x/\(X.env.kindOf x=some .cell\/X.env.kindOf x=some .free)/\((relabel scope X.env).names.lookup x=some .cell\/(relabel scope X.env).names.lookup x=some .free)
theorem zaX {scope:Scope}{env:Env}(nf:∀y∈scope.names,y.2 ≠ .free):(relabel scope env).names=scope.names:=by
 show scope.names.map _=scope.names
 refine map_eq_self fun x hx=>?_
 obtain⟨n,k⟩:=x
 have:(k==NameKind.free)=false:=by simpa using nf _ hx
 simp [this]
theorem ql.plain {X:Cx}{N:List Str}{src:List (Option Nat)}{scope:Scope}(kind:scope.kind=.function)(nocell:∀y∈scope.names,y.2 ≠ .cell)(nofree:∀y∈scope.names,y.2 ≠ .free)
  (names:∀y∈scope.names,y.2=.local->scope.names.lookup y.1=some .local) (len:src.length=N.length) (none:∀o∈src,o=none):ql X N src scope [] where
 kind:=kind
 nocell:=nocell
 names:=names
 clos:=closureFor_none nofree
 sub:=fun x c h=>nomatch h
 has:=fun x h=>by
  rw [zaX nofree] at h
  rcases h with h | h
  ·exact absurd rfl (nocell _ (PySem.mem_of_lookup h))
  ·exact absurd rfl (nofree _ (PySem.mem_of_lookup h))
 len:=len
 pulls:=fun i j x _ h=>by
  have:=none _ (mem_of_getElem? h)
  cases this
def ziw (X:Cx)(ifs:List Expr)(t:TT):Prop :=
 ∀(pins:List (Addr×Obj)) (s:Shared) (σ:St) (H:Hp) (Q:Bool->Hp->Prop),Inv X pins σ H s->t σ H Q ->
  wpAny (model X.prog X.w) X.A (forIn ifs true fun c r=>if r=true then do let ok <- isTrue c X.env (eval c X.env);pure (ForInStep.yield ok) else pure (ForInStep.yield r)) (TP X pins σ Q) X.xe s
def zkY:TT:=fun _ H Q=>Q true H
theorem xE {X:Cx}:ziw X [] zkY:=fun _ _ _ H _ I h=>wpAny_tests_nil ⟨H,I,h⟩
theorem qE {X:Cx}{c:Expr}{t:TT}(h:PT X c t):ziw X [c] t:=fun pins s σ H Q I hq=>wpAny_tests_one (h pins s σ H Q I hq)
def Zu (J:It)(g:TG)(tc:TT)(te:TE)(Q:VK)(D:Addr)(σ0:St)(H0:Hp):Prop :=
 ∃W:Nat->Nat->St->Hp->Prop,(∃m,W 0 m σ0 H0)/\∀i m σ' H',W i m σ' H' ->
  (J.stop i H'/\Q (.ref D) H')\/(J.go i H'/\∃N:St->Hp->Prop,(∀ σ'' H'',N σ'' H''->∃m',m'<m/\W (i+1) m' σ'' H'') /\
   ∀x H2,J.yld i H' x H2->g x σ' H2 fun σ2 H3=>tc σ2 H3 fun b H4=>if b=true then te σ2 H4 fun y H5=>∃ys,H5 D=some (.lst ys)/\ys.length<sizeLine/\N σ2 (upd H5 D (.lst (ys++[y]))) else N σ2 H4)
def zjl (wi:TI)(src:List (Option Nat))(g:TG)(tc:TT)(te:TE):TE:=fun σ H Q=>wi σ H fun J H1=>∀D,H1 D=none->Zu J g tc te Q D (pull src σ) (upd H1 D (.lst []))
theorem Un.but {fs ex:List Addr}{H H1:Hp}{h h1 h2:Heap}{C:Addr}(u:Un fs ex H H1 h h1)(hC:h.objs.size<=C)(sb:Heap.SameBut C h1 h2):Un fs ex H H1 h h2:=by
 have ne:∀b o,h.get? b=some o->b≠C:=fun b o e=>ne_of_lt (lt_of_lt_of_le (Heap.lt_size e) hC)
 refine⟨fun b o e n hb hx=>(sb.2 b (ne b o e)).trans (u.keep b o e n hb hx),fun b o e n hb hx=>?_,u.free,fun b o e hx=>?_,u.tups,u.frzs,u.tbls⟩
 ·obtain⟨sl,q⟩:=u.slot b o e n hb hx
  exact⟨sl,(sb.2 b (ne b o e)).trans q⟩
 ·obtain⟨o',q⟩:=u.there b o e hx
  exact⟨o',(sb.2 b (ne b o e)).trans q⟩
theorem HOk.but {P:Program}{w:World}{H:Hp}{h h':Heap}{C:Addr}(ok:HOk P w H h)(hn:H C=none)(sb:Heap.SameBut C h h'):HOk P w H h':=fun b ob e=>by
 refine(ok b ob e).stay (fun c w' hc q=>(sb.2 c ?_).trans q) (fun _ q=>q) fun _ _ q=>q
 rintro rfl
 rcases hc with rfl | hc
 ·rw [hn] at e;cases e
 ·rw [hn] at hc;cases hc
section
variable {X:Cx}{tg iter elt:Expr}{ifs:List Expr}{scope:Scope}{pos:Pos}{N:List Str}{src:List (Option Nat)}{cl:List (Str×Addr)}{wi:TI}{g:TG}{tc:TT}{te:TE}
theorem Q8 {pins:List (Addr×Obj)}{σ:St}{H:Hp}{s:Shared}{fp:List Addr}{h1:Heap}{C:Addr}{tk:Nat}(ok:ql X N src scope cl)(I:Inv X pins σ H s)(hf:∀b∈fp,QF X pins H b)(ho:∀b∈fp,∃o,s.heap.get? b=some o)
  (hC:C=s.heap.objs.size+1) (k:∀b u,s.heap.get? b=some u->h1.get? b=some u) (hD:h1.get? s.heap.objs.size=some { cls:=.type "list",data:=.seq #[] }) {m:Str->Option Value} (hn:h1.Ns C m) :
  Inv (qI X N scope cl C fp pins s H) [] (pull src σ) (upd H s.heap.objs.size (.lst [])) { s with heap:=h1,toks:=tk }:=by
 have lt:∀b o,s.heap.get? b=some o->b<s.heap.objs.size:=fun b o e=>Heap.lt_size e
 have nC:∀b o,s.heap.get? b=some o->b≠C:=fun b o e=>by rw [hC];exact ne_of_lt (lt_succ_of_lt (lt b o e))
 have nD:∀b o,s.heap.get? b=some o->b≠s.heap.objs.size:=fun b o e=>ne_of_lt (lt b o e)
 have fr:∀b,s.heap.objs.size<=b->H b=none:=fun b hb=>I.hok.fresh hb
 have nst:∀b,b≠X.env.locals->b ∉ X.fs->b ∉ frs X.stack:=fun b h1 h2 z=>(List.mem_cons.mp (I.stkSub b z)).elim h1 h2
 have sub:=ok.sub
 refine⟨⟨I.ok.mod,ok.kind,I.ok.glob,I.ok.blt,by rw [show (qI X N scope cl C fp pins s H).env.locals=C from rfl,hC];exact le_succ _,fun x y c e1 e2=>I.ok.inj x y c (sub x c e1) (sub y c e2),ok.has,(fun x c z _=>nomatch z),I.ok.hd,I.ok.frames,.inl rfl,fun b hb=>?_,I.bs,le_trans I.ok.bsz I.sz,fun b o e hb=>?_,fun b hb hz=>?_,I.stack,I.stkFree⟩,
  rfl,I.bare,Un.laid k (le_refl _) (fr _ (le_refl _)),⟨m,hn,fun i x v e1 e2 e3=>?_⟩,fun x c e=>?_,?_,fun x c e=>?_,fun p hp=>?_,I.hok.laid k (le_refl _) ⟨zero_le _,[],0,.nil,hD⟩,?_⟩
 ·obtain⟨o,e⟩:=ho b hb
  exact⟨nC b o e,fun x c z=>(hf b hb).2.2.2.2.1 x c (sub x c z)⟩
 ·rcases(hf b hb).2.2.2.1 with z | z
  ·exact I.ok.noex b o e z
  ·exact absurd (lt_of_lt_of_le (Heap.lt_size (I.ok.bs b o e).1) z) (lt_irrefl _)
 ·exact nst b (hf b hb).2.1 (hf b hb).2.2.1 hz
 ·have hi:i<src.length:=by
   have:=(List.getElem?_eq_some_iff.mp e2).1
   unfold pull at this
   rw [length_map] at this
   exact this
  unfold pull at e2
  rw [getElem?_map,getElem?_eq_getElem hi] at e2
  cases q:src[i] with
  | none=>rw [q] at e2;cases e2
  | some j =>
   rw [q] at e2
   have e2':(σ[j]?).getD none=some v:=Option.some.inj e2
   have e4:σ[j]?=some (some v):=by
    cases z:σ[j]? with
    | none=>rw [z] at e2';cases e2'
    | some o=>rw [z] at e2';exact congrArg some e2'
   obtain⟨p1,p2,p3⟩:=ok.pulls i j x e1 (by rw [getElem?_eq_getElem hi,q])
   obtain⟨m',hn',hl⟩:=I.loc
   obtain⟨u,r,l⟩:=hl j x v p1 e4 (by
    rcases p2 with z | z
    ·exact .inr (.inl z)
    ·exact .inr (.inr z))
   refine⟨u,r,.inr ⟨p3,?_⟩⟩
   obtain⟨c,hc⟩:=ok.has x p3
   refine⟨c,hc,?_⟩
   rcases l with ⟨z,_⟩ | ⟨_,c',hc',o,ho',hd'⟩
   ·rcases p2 with y | y<;>rw [z] at y<;>cases y
   ·rw [sub x c hc] at hc'
    cases hc'
    exact⟨o,k _ o ho',hd'⟩
 ·obtain⟨v,o,e1,e2⟩:=I.cell x c (sub x c e)
  exact⟨v,o,k c o e1,e2⟩
 ·show upd H s.heap.objs.size (.lst []) C=none
  rw [hC,zo (succ_ne_self _)]
  exact fr _ (le_succ _)
 ·show upd H s.heap.objs.size (.lst []) c=none
  obtain⟨v,o,e1,e2⟩:=I.cell x c (sub x c e)
  rw [zo (nD c o e1)]
  exact I.yR x c (sub x c e)
 ·have hp':p∈X.pn++pins:=by
   have:p∈(X.pn++pins)++[]:=hp
   simpa using this
  obtain⟨e1,e2,e3,e4,e5⟩:=I.pin p hp'
  refine⟨k _ _ e1,?_,nC _ _ e1,nst _ e3 e4,e5⟩
  show upd H s.heap.objs.size (.lst []) p.1=none
  rw [zo (nD _ _ e1)]
  exact e2
 ·unfold pull
  rw [length_map]
  exact ok.len
theorem qw (ok:ql X N src scope cl)(hcalm:X.calm=true)(hi:PI X tg iter wi)
  (hg:∀C fp pins s H,PG (qI X N scope cl C fp pins s H) tg g) (hc:∀C fp pins s H,ziw (qI X N scope cl C fp pins s H) ifs tc) (he:∀C fp pins s H,PE (qI X N scope cl C fp pins s H) elt te)
  (hs:∀x,foldedSetIterable iter X.env x=pure x:=by intro _;rfl):PE X (.ListComp elt [⟨tg,iter,ifs,0⟩] scope pos) (zjl wi src g tc te):=by
 intro pins s σ H Q I h
 rw [eval_ListComp]
 refine wpAny_comprehension_free (use:=none) rfl hs ok.clos ok.kind ok.names (thn (hi pins s σ H _ I h) fun xv s1 h1=>thn h1 fun itv s2 h2=>?_)
 obtain⟨it,fp,tn,J,H2,e,I2,T,st2,f2,q2⟩:=h2
 subst e
 refine wpAny_newObj_type (wpAny_newFunctionEnv ok.nocell (by intro y hy;simp at hy) (fun h₁ hns₁ hsb₁=>?_) ok.kind)
 dsimp only at hns₁ hsb₁ ⊢
 generalize hP:s2.heap.push { cls:=.type "list",dict:=none,data:=.seq ([]:List Value).toArray }=P2 at hns₁ hsb₁ ⊢
 have hC:P2.objs.size=s2.heap.objs.size+1:=by rw [<- hP,Heap.size_push]
 have k:∀b u,s2.heap.get? b=some u->h₁.get? b=some u:=fun b u e=>by
  have lt:=Heap.lt_size e
  exact(hsb₁.2 b (by rw [hC];exact ne_of_lt (lt_succ_of_lt lt))).trans (Heap.get?_push_of_some _ (hP ▸ Heap.get?_push_of_some _ e))
 have hD:h₁.get? s2.heap.objs.size=some { cls:=.type "list",data:=.seq #[] }:=(hsb₁.2 _ (by rw [hC];exact(succ_ne_self _).symm)).trans (Heap.get?_push_of_some _ (hP ▸ Heap.get?_push_size _ rfl))
 have ho:∀b∈fp,∃o,s2.heap.get? b=some o:=fun b hb=>let ⟨o,e,_⟩:=T.obj 0 _ st2 b hb;⟨o,e⟩
 obtain⟨W,⟨m0,w0⟩,turn⟩:=q2 s2.heap.objs.size (I2.hok.fresh (le_refl _))
 have I0:=Q8 (tk:=s2.toks+([]:List (Str×Value)).length) ok I2 f2 ho hC k hD hns₁
 have st0:tn 0 h₁:=T.keep 0 _ _ st2 fun b _ o e=>k b o e
 have fr0:∀b∈fp,upd H2 s2.heap.objs.size (.lst []) b=none:=fun b hb=>by
  obtain⟨o,e⟩:=ho b hb
  rw [zo (ne_of_lt (Heap.lt_size e))]
  exact(f2 b hb).1
 have stat:∀{H':Hp},(∀b∈fp,H' b=none)->∀b∈fp,QF (qI X N scope cl P2.objs.size fp pins s2 H2) [] H' b:=fun {H'} hn b hb=>by
  obtain⟨o,e⟩:=ho b hb
  have lt:=Heap.lt_size e
  refine⟨hn b hb,?_,fun z=>(List.mem_cons.mp (I2.stkSub b z)).elim (f2 b hb).2.1 (f2 b hb).2.2.1,.inl hb,fun x c z=>(f2 b hb).2.2.2.2.1 x c (ok.sub x c z),fun p hp=>?_⟩
  ·show b≠P2.objs.size
   rw [hC]
   exact ne_of_lt (lt_succ_of_lt lt)
  ·have hp':p∈X.pn++pins:=by
    have:p∈(X.pn++pins)++[]:=hp
    simpa using this
   exact(f2 b hb).2.2.2.2.2 p hp'
 have loop:∀s₃:Shared,s₃={ s2 with heap:=h₁,toks:=s2.toks+([]:List (Str×Value)).length } ->
   codeAny (model X.prog X.w) X.A (.compLoop (.ListComp elt [⟨tg,iter,ifs,0⟩] scope pos) 0 (.ref it) (.ref s2.heap.objs.size) (compEnvC scope cl P2.objs.size X.env))
    (compPost (model X.prog X.w) X.A X.xe none (EP X pins σ Q) (.ref s2.heap.objs.size) P2.objs.size) s₃:=by
  rintro s₃ rfl
  refine codeAny_loop rfl (fun n s'=>∃i σ' H',Inv (qI X N scope cl P2.objs.size fp pins s2 H2) [] σ' H' s'/\tn i s'.heap/\(∀b∈fp,H' b=none)/\W i n σ' H') ?_ m0 ⟨0,_,_,I0,st0,fr0,w0⟩
  rintro n s3 ⟨i,σ3,H3,I3,st3,fr3,w3⟩
  show wpAny _ X.A ((compTurn (.ListComp elt [⟨tg,iter,ifs,0⟩] scope pos) 0 (.ref it) (.ref s2.heap.objs.size) (compEnvC scope cl P2.objs.size X.env)).onRaise (fun x=>do noteFrame x (compEnvC scope cl P2.objs.size X.env);theTreesLotGoes x)) _ _ s3
  refine wpAny_noted ?_
  rw [compTurn_list]
  rcases turn i n σ3 H3 w3 with ⟨stop,qn⟩ | ⟨go,N',hN,step⟩
  ·refine wpAny_bind (wpAny_standAt (wpAny_bind (thn (T.done (qI X N scope cl P2.objs.size fp pins s2 H2) rfl rfl rfl hcalm i [] s3 σ3 H3 _ I3 (stat fr3) st3 stop) fun r s4 ⟨hr,I4⟩=>?_)))
   subst hr
   refine wpAny_pure ?_
   obtain⟨m,hm,_⟩:=I4.loc
   refine⟨m,hm,fun h' sb=>⟨.ref s2.heap.objs.size,H3,?_,rfl,qn⟩⟩
   have un:Un (frs X.stack) fp H2 H3 s2.heap h':=Un.but I4.base (by show s2.heap.objs.size<=P2.objs.size;rw [hC];exact le_succ _) sb
   have hok:HOk X.prog X.w H3 h':=HOk.but I4.hok I4.free sb
   exact I2.call' (s':={ s4 with heap:=h' }) (ch:=fp) I4.os un hok I4.bare fun b hb=>⟨(f2 b hb).2.2.2.1,(f2 b hb).2.1,(f2 b hb).2.2.2.2.1,(f2 b hb).2.2.2.2.2⟩
  ·refine wpAny_bind (wpAny_standAt (wpAny_bind (thn (T.item (qI X N scope cl P2.objs.size fp pins s2 H2) rfl rfl rfl hcalm i [] s3 σ3 H3 _ I3 (stat fr3) st3 go) fun r s4 ⟨u,hr,h4⟩=>?_)))
   subst hr
   dsimp only
   refine wpAny_bind (thn h4 fun _ s5 ⟨x,H5,I5,r5,y5,st5,fr5⟩=>?_)
   have I5':=I5.pinned (stat fr5) (T.obj _ _ st5)
   refine wpAny_bind (wpAny_mono (hg P2.objs.size fp pins s2 H2 _ s5 σ3 H5 x u _ I5' r5 (step x H5 y5)) (fun _ s6 ⟨σ6,H6,I6,q6⟩=>?_) fun _ _ z=>False.elim z)
   have again:∀{s7:Shared} {σ7:St} {H7:Hp},Inv (qI X N scope cl P2.objs.size fp pins s2 H2) ([]++Y7 fp s5.heap) σ7 H7 s7->N' σ7 H7->∃m,m<n/\∃i σ' H',Inv (qI X N scope cl P2.objs.size fp pins s2 H2) [] σ' H' s7/\tn i s7.heap/\(∀b∈fp,H' b=none)/\W i m σ' H':=fun {s7 σ7 H7} I7 n7=>by
    obtain⟨m',hm,w7⟩:=hN σ7 H7 n7
    refine⟨m',hm,i+1,σ7,H7,I7.unpinned,T.keep _ _ _ st5 fun b hb o e=>(I7.pin (b,o) (mem_append_right _ (mem_append_right _ (j8 hb e)))).1,fun b hb=>?_,w7⟩
    obtain⟨o,e,d⟩:=T.obj _ _ st5 b hb
    exact(I7.pin (b,o) (mem_append_right _ (mem_append_right _ (j8 hb e)))).2.1
   refine wpAny_bind (wpAny_mono (hc P2.objs.size fp pins s2 H2 _ s6 σ6 H6 _ I6 q6) (fun b s7 ⟨H7,I7,q7⟩=>?_) fun _ _ z=>False.elim z)
   cases b with
   | false =>
    rw [if_neg Bool.false_ne_true] at q7
    exact wpAny_pure ⟨rfl,again I7 q7⟩
   | true =>
    rw [if_pos rfl] at q7
    refine wpAny_bind (wpAny_bind (wpAny_mono (he P2.objs.size fp pins s2 H2 _ s7 σ6 H7 _ I7 q7) (fun y s8 ⟨v8,H8,I8,r8,ys,hys,hlen,q8⟩=>?_) fun _ _ z=>False.elim z))
    refine wpAny_bind (wpAny_mono (jj (X:=qI X N scope cl P2.objs.size fp pins s2 H2) _ s8 σ6 H8 (.ref s2.heap.objs.size) [v8] (.ref s2.heap.objs.size) [y] (fun _ H9=>N' σ6 H9) I8 rfl (.cons r8 .nil) ⟨_,ys,v8,rfl,rfl,hys,hlen,q8⟩) (fun _ s9 ⟨v9,H9,I9,_,q9⟩=>?_) fun _ _ z=>False.elim z)
    exact wpAny_pure (wpAny_pure ⟨rfl,again I9 q9⟩)
 exact codeAny_compStart_list (loop _ rfl) (T.self _ 0 _ _ _ st0 (loop _ rfl))
end
section
variable {K:PySem.W.Frag}{src:List (Option Nat)}{g:TG}{tc:TT}{te:TE}{Q:VK}{σ:St}{H:Hp}{D:Addr}
theorem jx {a:Addr}{xs:List V}(Pv:Nat->St->Hp->Prop)(h0:Pv 0 σ H)(hl:∀i σ H,i<=xs.length->Pv i σ H->SqL K H a xs)
  (hs:∀i x σ H,xs[i]?=some x->Pv i σ H->g x σ H fun σ2 H3=>tc σ2 H3 fun b H4=>if b=true then te σ2 H4 fun y H5=>∃ys,H5 D=some (.lst ys)/\ys.length<sizeLine/\Pv (i+1) σ2 (upd H5 D (.lst (ys++[y]))) else Pv (i+1) σ2 H4)
  (hd:∀ σ H,Pv xs.length σ H->Q (.ref D) H):Zu (Itl K a) g tc te Q D σ H:=by
 refine⟨fun i m σ H=>m=xs.length-i/\i<=xs.length/\Pv i σ H,⟨xs.length,by simp,zero_le _,h0⟩,?_⟩
 rintro i m σ H ⟨rfl,hi,p⟩
 have q:=hl i σ H hi p
 by_cases hlt:i<xs.length
 ·refine .inr ⟨⟨xs,xs[i],q,by simp [hlt]⟩,Pv (i+1),fun σ' H' p'=>⟨xs.length-(i+1),by omega,rfl,hlt,p'⟩,fun x H' y=>?_⟩
  obtain⟨e,y⟩:=y
  subst e
  exact hs i x σ _ (y xs q) p
 ·have e:i=xs.length:=by omega
  subst e
  exact .inl ⟨⟨xs,q,le_refl _⟩,hd σ H p⟩
end
section
variable {X:Cx}{K:PySem.W.Frag}
theorem zbp {a:Expr}{ta:TE}(hK:X.K=K)(ha:PE X a ta)(he:∀whole,isTrue a X.env whole=(do let v <- whole;standAt a.pos;holding [v] (truthy v))) :
  PT X a (fun σ H Q=>ta σ H fun x H'=>∃k,zjR K x H' k/\Q k H'):=by
 subst hK
 exact jo ha he
theorem YB (hK:X.K=K):IxR X (zkW K):=by
 subst hK
 exact zI
theorem YC (hK:X.K=K):jn X (.builtin "isinstance") (fun xs H Q=>∃x T U b,xs=[x,.ty U]/\Yv K H x (.type T)/\zjZ T U=some b/\Q (.bl b) H):=by
 subst hK
 exact yE
theorem zcT (hK:X.K=K)(hu:X.A.units+64<cLine):OpR X (compareOp .Eq) (zj1 K false):=by
 subst hK
 exact jr hu
theorem yF (hK:X.K=K)(hu:X.A.units+64<cLine):OpR X (compareOp .In) (ziv K false):=by
 subst hK
 exact zd8 hu
theorem jt (hK:X.K=K)(hu:X.A.units+64<cLine):OpR X (compareOp .NotIn) (ziv K true):=by
 subst hK
 exact zaW hu
theorem zix {es:List Expr}{k:Nat}{t:TGs}{n:Nat}{pos:Pos}(hK:X.K=K)(hc:X.calm=true)(h:PGs X es t)
  (hn:(assignEach es X.env).length=n:=by rfl) (hst:(assignEach es X.env).findIdx? (·.1)=none:=by rfl):PG X (.Tuple es k pos) (zkL K n t):=by
 subst hK
 exact J0 hc h hn hst
end
section
variable {fs ch:List Addr}{H:Hp}{h h':Heap}{a:Addr}{o:HO}
theorem Un.laidX (k:∀b u,b ∉ ch->h.get? b=some u->h'.get? b=some u)(hp:h.objs.size<=a)(hn:H a=none):Un fs ch H (upd H a o) h h' where
 keep:=fun b u q _ _ hx=>k b u hx q
 slot:=fun b u q _ _ hx=>⟨u.slots,k b u hx q⟩
 free:=fun b u q n _=>by rw [zo (ne_of_lt (lt_of_lt_of_le (Heap.lt_size q) hp))];exact n
 there:=fun b u q hx=>⟨u,k b u hx q⟩
 tups:=fun b xs q=>by rw [zo (zj q hn)];exact q
 frzs:=fun b u xs q=>by rw [zo (zj q hn)];exact q
 tbls:=fun b ps q=>⟨#[],by rw [zo (zj q hn),q];simp⟩
theorem Un.keptX (k:∀b u,b ∉ ch->h.get? b=some u->h'.get? b=some u):Un fs ch H H h h' :=
 ⟨fun b ob q _ _ hx=>k b ob hx q,fun b ob q _ _ hx=>⟨ob.slots,k b ob hx q⟩,fun _ _ _ n _=>n,fun b ob q hx=>⟨ob,k b ob hx q⟩,fun _ _ q=>q,fun _ _ _ q=>q,fun _ ps q=>⟨#[],by rw [q];simp⟩⟩
theorem HOk.keptX {P:Program}{w:World}(x:HOk P w H h)(k:∀b u,b ∉ ch->h.get? b=some u->h'.get? b=some u)(hch:∀b∈ch,H b=none):HOk P w H h':=fun b u e=>by
 refine(x b u e).stay (fun c v hc q=>k c v (fun z=>?_) q) (fun _ q=>q) fun _ _ q=>q
 have n:=hch c z
 rcases hc with rfl | hc
 ·rw [n] at e;cases e
 ·rw [n] at hc;cases hc
theorem HOk.laidX {P:Program}{w:World}(x:HOk P w H h)(k:∀b u,b ∉ ch->h.get? b=some u->h'.get? b=some u)(hch:∀b∈ch,H b=none)(hp:h.objs.size<=a)(new:qB P w (upd H a o) h' a o):HOk P w (upd H a o) h':=fun b u e=>by
 have hn:=x.fresh hp
 by_cases hb:b=a
 ·subst hb;rw [zb] at e;cases e;exact new
 ·rw [zo hb] at e
  refine(x b u e).stay (fun c v hc q=>k c v (fun z=>?_) q) (fun c q=>by rw [zo (zj q hn)];exact q) fun c xs q=>by rw [zo (zj q hn)];exact q
  have n:=hch c z
  rcases hc with rfl | hc
  ·rw [n] at e;cases e
  ·rw [n] at hc;cases hc
end
section
variable {X:Cx}{pins:List (Addr×Obj)}{s:Shared}{σ:St}{H:Hp}{E:Value->Shared->Prop}{fp wr FP:List Addr}{elts:List Expr}{k:Nat}{pos:Pos}{e:Addr}{n i:Nat}{Pt:Nat->Array Value->Prop}{Sn:Nat->Heap->Prop}{Mid:Nat->Addr->Heap->Prop}{J:It}{tn:Nat->Heap->Prop}
theorem zg0 (I:Inv X pins σ H s)(hf:∀b∈fp,QF X pins H b)(ho:∀b∈fp,∃o,s.heap.get? b=some o)(hwr:∀b∈wr,b∈fp)(W:WalksT X.prog X.w X.A e FP wr n Pt Sn Mid)(hi:i<n)(st:Sn i s.heap)
  (y:∀T vals,H T=none->Pt i vals->∃vs,Vals vs vals.toList/\vs.length<=sizeLine/\J.yld i H (.ref T) (upd H T (.tup vs))) (nx:∀h'',Sn (i+1) h''->tn (i+1) h'') :
  wpAny (model X.prog X.w) X.A (pyNext (.ref e)) (fun r s1=>∃u,r=some u /\
   wpAny (model X.prog X.w) X.A (letOwnedTupleGo (.Tuple elts k pos) (.ref e) u) (fun _ s2=>∃x H',Inv X pins σ H' s2/\RelV x u/\J.yld i H x H'/\tn (i+1) s2.heap/\∀b∈fp,H' b=none) E s1) E s:=by
 refine W.item i s _ E hi st fun T vals h' tk hP hT0 hT hm kk=>⟨.ref T,rfl,?_⟩
 have hn:H T=none:=I.hok.fresh hT0
 obtain⟨vs,hv,hl,hy⟩:=y T vals hn hP
 refine W.go elts k pos i T { s with heap:=h',toks:=tk } _ E hm fun h'' st'' kk2=>?_
 have k2:∀b o,b ∉ wr->s.heap.get? b=some o->h''.get? b=some o:=fun b o hb e=>kk2 b o hb (kk b o hb e)
 have hTup:IsTup h'' T vals:=by
  obtain⟨o,e1,c,m,d⟩:=hT
  exact⟨o,kk2 T o (W.apart i T _ hm) e1,c,m,d⟩
 have hch:∀b∈wr,H b=none:=fun b hb=>(hf b (hwr b hb)).1
 refine⟨.ref T,upd H T (.tup vs),?_,rfl,hy,nx _ st'',fun b hb=>?_⟩
 ·exact I.call' (s':={ s with heap:=h'',toks:=tk }) (ch:=wr) rfl (Un.laidX k2 hT0 hn) (HOk.laidX I.hok k2 hch hT0 ⟨hl,vals.toList,hv,by simpa using hTup⟩) I.bare fun b hb=>let f:=hf b (hwr b hb);⟨f.2.2.2.1,f.2.1,f.2.2.2.2.1,f.2.2.2.2.2⟩
 ·obtain⟨o,e1⟩:=ho b hb
  rw [zo (ne_of_lt (lt_of_lt_of_le (Heap.lt_size e1) hT0))]
  exact(hf b hb).1
theorem zg1 (I:Inv X pins σ H s)(hf:∀b∈fp,QF X pins H b)(hwr:∀b∈wr,b∈fp)(W:WalksT X.prog X.w X.A e FP wr n Pt Sn Mid)(st:Sn n s.heap) :
  wpAny (model X.prog X.w) X.A (pyNext (.ref e)) (fun r s1=>r=none/\Inv X pins σ H s1) E s :=
 W.done s _ E st fun h' tk kk=>⟨rfl,I.call' (s':={ s with heap:=h',toks:=tk }) (ch:=wr) rfl (Un.keptX kk) (HOk.keptX I.hok kk fun b hb=>(hf b (hwr b hb)).1) I.bare fun b hb=>let f:=hf b (hwr b hb);⟨f.2.2.2.1,f.2.1,f.2.2.2.2.1,f.2.2.2.2.2⟩⟩
end
theorem YD {h:Heap}{b:Addr}{o:Obj}{vs:Array Value}(e:h.get? b=some o)(d:o.data=.fields vs):∃o,h.get? b=some o/\∀v,o.data ≠ .cell v:=⟨o,e,fun v z=>by rw [d] at z;cases z⟩
noncomputable def Ite (K:PySem.W.Frag)(l:Addr):It:=⟨fun i H=>∃xs,SqL K H l xs/\i<xs.length,fun i H x H'=>∃T,x=.ref T/\H T=none/\∀xs,SqL K H l xs->∃v,xs[i]?=some v/\H'=upd H T (.tup [.int i,v]),fun i H=>∃xs,SqL K H l xs/\i=xs.length⟩
theorem zf3 {P:Program}{w:World}{K:PySem.W.Frag}{elts:List Expr}{k:Nat}{pos:Pos}(e it l:Addr)(hei:e≠it)(hle:l≠e)(hli:l≠it) :
  Turn P w K (.Tuple elts k pos) (Ite K l) [e,it] e (fun i h=>(∃old,IsEnum h e it i old)/\h.IsListIter it l i) where
 mem:=by simp
 obj:=fun i h st b hb=>by
  obtain⟨⟨old,he⟩,o,e2,c,d⟩:=st
  rcases List.mem_cons.mp hb with rfl | hb
  ·exact YD he rfl
  ·have z:b=it:=by simpa using hb
   subst z
   exact YD e2 d
 keep:=fun i h h' st kk=>by
  obtain⟨⟨old,he⟩,o,e2,r⟩:=st
  exact⟨⟨old,kk e (by simp) _ he⟩,o,kk it (by simp) o e2,r⟩
 item:=by
  intro X hP hw hK hc i pins s σ H E I hf st hg
  subst hP hw hK
  obtain⟨xs,hq,hlt⟩:=hg
  obtain⟨its,rv,p,hz⟩:=I.list hq
  have hl:=rv.length
  obtain⟨⟨old,he⟩,o2,e2,c2,d2⟩:=id st
  refine zg0 (wr:=[e,it]) (J:=Ite X.K l) (tn:=fun i h=>(∃old,IsEnum h e it i old)/\h.IsListIter it l i) I hf (fun b hb=>?_) (fun b hb=>hb) (WalksT.enumerate (I.ok.hd hc) e it l hei hle hli its.toArray) (by simp;omega) ⟨st.1,st.2,p.isList⟩ (fun T vals hn hp=>?_) fun h'' q=>⟨q.1,q.2.1⟩
  ·rcases List.mem_cons.mp hb with rfl | hb
   ·exact⟨_,he⟩
   ·have z:b=it:=by simpa using hb
    subst z
    exact⟨_,e2⟩
  ·obtain⟨t,x,hx,rfl⟩:=hp
   have hx':its[i]?=some x:=by simpa using hx
   obtain⟨u,hu,ru⟩:=rv.get (i:=i) (x:=xs[i]) (by rw [getElem?_eq_getElem hlt])
   rw [hu] at hx'
   cases hx'
   exact⟨[.int i,xs[i]],.cons ⟨t,rfl⟩ (.cons ru .nil),(by show 2<=sizeLine;decide),T,rfl,hn,fun ys hy=>⟨xs[i],by rw [I.list_inj hy hq,getElem?_eq_getElem hlt],rfl⟩⟩
 done:=by
  intro X hP hw hK hc i pins s σ H E I hf st hg
  subst hP hw hK
  obtain⟨xs,hq,rfl⟩:=hg
  obtain⟨its,rv,p,hz⟩:=I.list hq
  have hl:its.toArray.size=xs.length:=by simp [rv.length]
  refine zg1 (fp:=[e,it]) (wr:=[e,it]) I hf (fun b hb=>hb) (WalksT.enumerate (I.ok.hd hc) e it l hei hle hli its.toArray) ?_
  rw [hl]
  exact⟨st.1,st.2,p.isList⟩
 self:=fun A i s Q E st h=>by
  obtain⟨⟨old,he⟩,_⟩:=st
  exact wpAny_pyIter_enum he h
noncomputable def ziy (x:Str):It:=⟨fun i _=>i<x.cps.size,fun i H v H'=>∃T c,v=.ref T/\H T=none/\x.cps[i]?=some c/\H'=upd H T (.tup [.int i,.str ⟨#[c]⟩]),fun i _=>i=x.cps.size⟩
theorem Q9 {P:Program}{w:World}{K:PySem.W.Frag}{elts:List Expr}{k:Nat}{pos:Pos}(e it:Addr)(x:Str)(t:Tok)(n:String)(hei:e≠it)
  (D:∀A:Around,A.handled=none->Draws P w A it [it] x.cps.size (fun i v=>∃c u,x.cps[i]?=some c/\v=.str ⟨#[c]⟩ u) (fun i h=>h.IsStrIter it n x t i)) :
  Turn P w K (.Tuple elts k pos) (ziy x) [e,it] e (fun i h=>(∃old,IsEnum h e it i old)/\h.IsStrIter it n x t i) where
 mem:=by simp
 obj:=fun i h st b hb=>by
  obtain⟨⟨old,he⟩,o,e2,c,d⟩:=st
  rcases List.mem_cons.mp hb with rfl | hb
  ·exact YD he rfl
  ·have z:b=it:=by simpa using hb
   subst z
   exact YD e2 d
 keep:=fun i h h' st kk=>by
  obtain⟨⟨old,he⟩,o,e2,r⟩:=st
  exact⟨⟨old,kk e (by simp) _ he⟩,o,kk it (by simp) o e2,r⟩
 item:=by
  intro X hP hw hK hc i pins s σ H E I hf st hg
  subst hP hw hK
  obtain⟨⟨old,he⟩,o2,e2,c2,d2⟩:=id st
  refine zg0 (wr:=[e,it]) (J:=ziy x) (tn:=fun i h=>(∃old,IsEnum h e it i old)/\h.IsStrIter it n x t i) I hf (fun b hb=>?_) (fun b hb=>hb) (WalksT.enumerateD (D X.A.in1 (I.ok.hd hc)) e hei (by simpa using hei) (by simp)) hg st (fun T vals hn hp=>?_) fun h'' q=>q
  ·rcases List.mem_cons.mp hb with rfl | hb
   ·exact⟨_,he⟩
   ·have z:b=it:=by simpa using hb
    subst z
    exact⟨_,e2⟩
  ·obtain⟨t',v,⟨c,u,hx,rfl⟩,rfl⟩:=hp
   exact⟨[.int i,.str ⟨#[c]⟩],.cons ⟨t',rfl⟩ (.cons ⟨u,rfl⟩ .nil),(by show 2<=sizeLine;decide),T,c,rfl,hn,hx,rfl⟩
 done:=by
  intro X hP hw hK hc i pins s σ H E I hf st hg
  subst hP hw hK
  have z:i=x.cps.size:=hg
  subst z
  exact zg1 (fp:=[e,it]) (wr:=[e,it]) I hf (fun b hb=>hb) (WalksT.enumerateD (D X.A.in1 (I.ok.hd hc)) e hei (by simpa using hei) (by simp)) st
 self:=fun A i s Q E st h=>by
  obtain⟨⟨old,he⟩,_⟩:=st
  exact wpAny_pyIter_enum he h
section
variable {X:Cx}{elts:List Expr}{k:Nat}{tpos:Pos}
def zj2 (K:PySem.W.Frag)(ta:TA):TI:=fun σ H R=>ta σ H fun vs H1=>∃l,vs=[.ref l]/\(∃xs,SqL K H1 l xs)/\R (Ite K l) H1
theorem zcU {a:Expr}{ta:TA}{p pos:Pos}(hg:Gl X "enumerate")(hm:X.mg "enumerate"=none)(ha:PA X [a] ta)(hs:starEach [a] X.env=[(false,eval a X.env)]:=by rfl):PI X (.Tuple elts k tpos) (.Call (.Name "enumerate" p) [a] [] pos) (zj2 X.K ta):=by
 intro pins s σ H R I h
 refine Call_ (Z7 I hg hm boot_enumerate (PyProof.Rows.callWith_type1 (thn (ha pos pins s σ H _ I h) fun us s1 ⟨vs,H1,I1,r1,q1⟩=>?_) hs rfl))
 obtain⟨l,rfl,⟨xs,hq⟩,q⟩:=q1
 obtain⟨u,rfl,ru⟩:=vals1 r1
 cases ru
 obtain⟨its,rv,pl,hz⟩:=I1.list hq
 obtain⟨ol,hol,_⟩:=pl.isList
 have hlt:=Heap.lt_size hol
 refine call_enumerate_list pl.isList fun h' he hit hsz kk=>?_
 have I2:Inv X pins σ H1 { s1 with heap:=h' }:=I1.kept (t':=s1.toks) kk
 refine wpAny_pyIter_enum he ?_
 refine⟨s1.heap.objs.size+1,[s1.heap.objs.size+1,s1.heap.objs.size],_,_,H1,rfl,I2,zf3 (s1.heap.objs.size+1) s1.heap.objs.size l (succ_ne_self _) (ne_of_lt (lt_succ_of_lt hlt)) (ne_of_lt hlt),⟨⟨_,he⟩,hit⟩,fun b hb=>?_,q⟩
 have hb':s1.heap.objs.size<=b:=by
  rcases List.mem_cons.mp hb with e | hb
  ·rw [e];exact le_succ _
  ·have e:b=s1.heap.objs.size:=by simpa using hb
   rw [e];exact le_refl _
 exact I1.fpOk hb' (I1.hok.fresh hb')
def zj3 (ta:TA):TI:=fun σ H R=>ta σ H fun vs H1=>∃z,vs=[.str z]/\R (ziy z) H1
theorem zg2 {a:Expr}{ta:TA}{p pos:Pos}(hg:Gl X "enumerate")(hm:X.mg "enumerate"=none)(ha:PA X [a] ta)(hs:starEach [a] X.env=[(false,eval a X.env)]:=by rfl):PI X (.Tuple elts k tpos) (.Call (.Name "enumerate" p) [a] [] pos) (zj3 ta):=by
 intro pins s σ H R I h
 refine Call_ (Z7 I hg hm boot_enumerate (PyProof.Rows.callWith_type1 (thn (ha pos pins s σ H _ I h) fun us s1 ⟨vs,H1,I1,r1,q1⟩=>?_) hs rfl))
 obtain⟨z,rfl,q⟩:=q1
 obtain⟨u,rfl,t,rfl⟩:=vals1 r1
 refine call_enumerate_str fun h' he hit hsz kk=>?_
 have I2:Inv X pins σ H1 { s1 with heap:=h' }:=I1.kept (t':=s1.toks) kk
 refine wpAny_pyIter_enum he ?_
 have fpk:∀b ∈ [s1.heap.objs.size+1,s1.heap.objs.size],QF X pins H1 b:=fun b hb=>by
  have hb':s1.heap.objs.size<=b:=by
   rcases List.mem_cons.mp hb with e | hb
   ·rw [e];exact le_succ _
   ·have e:b=s1.heap.objs.size:=by simpa using hb
    rw [e];exact le_refl _
  exact I1.fpOk hb' (I1.hok.fresh hb')
 unfold strIterType at hit
 by_cases ha:z.cps.all (· < 128)=true
 ·rw [if_pos ha] at hit
  exact⟨s1.heap.objs.size+1,[s1.heap.objs.size+1,s1.heap.objs.size],_,_,H1,rfl,I2,Q9 (s1.heap.objs.size+1) s1.heap.objs.size z t "str_ascii_iterator" (succ_ne_self _) (fun A hA=>Draws.strAscii hA _ z t),⟨⟨_,he⟩,hit⟩,fpk,q⟩
 ·rw [if_neg ha] at hit
  exact⟨s1.heap.objs.size+1,[s1.heap.objs.size+1,s1.heap.objs.size],_,_,H1,rfl,I2,Q9 (s1.heap.objs.size+1) s1.heap.objs.size z t "str_iterator" (succ_ne_self _) (fun A hA=>Draws.strWide hA _ z t),⟨⟨_,he⟩,hit⟩,fpk,q⟩
theorem YE:jn X (.type "int") (fun xs H Q=>∃x n,xs=[.str x]/\PySem.intText? x=some n/\x.length<=640/\Q (.int n) H):=by
 intro pins s σ H xs us Q I r h
 obtain⟨x,n,rfl,hn,hl,q⟩:=h
 obtain⟨u,rfl,t,rfl⟩:=vals1 r
 exact PySem.W.KIN.call_text hn hl ⟨.int n,H,I.tok _,⟨_,rfl⟩,q⟩
end
theorem zbq {K:PySem.W.Frag}{l:Addr}{xs:List V}{g:TG}{tb:TS}{D:Ends}{σ:St}{H:Hp}(Pv:Nat->St->Hp->Prop)(h0:Pv 0 σ H)(hl:∀i σ H,i<=xs.length->Pv i σ H->SqL K H l xs)
  (hs:∀i x T σ H,xs[i]?=some x->H T=none->Pv i σ H->g (.ref T) σ (upd H T (.tup [.int i,x])) fun σ2 H2=>tb { D with nx:=Pv (i+1),ct:=Pv (i+1),bk:=D.nx } σ2 H2) (hd:∀ σ H,Pv xs.length σ H->D.nx σ H) :
  ∃W:Nat->Nat->St->Hp->Prop,(∃m,W 0 m σ H)/\∀i m σ H,W i m σ H ->
   ((Ite K l).stop i H/\D.nx σ H)\/((Ite K l).go i H/\∃N:St->Hp->Prop,(∀ σ' H',N σ' H'->∃m',m'<m/\W (i+1) m' σ' H')/\∀x H',(Ite K l).yld i H x H'->g x σ H' fun σ2 H2=>tb { D with nx:=N,ct:=N,bk:=D.nx } σ2 H2):=by
 refine⟨fun i m σ H=>m=xs.length-i/\i<=xs.length/\Pv i σ H,⟨xs.length,by simp,zero_le _,h0⟩,?_⟩
 rintro i m σ H ⟨rfl,hi,p⟩
 have q:=hl i σ H hi p
 by_cases hlt:i<xs.length
 ·refine .inr ⟨⟨xs,q,hlt⟩,Pv (i+1),fun σ' H' p'=>⟨xs.length-(i+1),by omega,rfl,hlt,p'⟩,fun x H' y=>?_⟩
  obtain⟨T,rfl,hT,y⟩:=y
  obtain⟨v,hv,rfl⟩:=y xs q
  exact hs i v T σ H hv hT p
 ·have e:i=xs.length:=by omega
  subst e
  exact .inl ⟨⟨xs,q,rfl⟩,hd σ H p⟩
theorem zd9 {g:TG}{tc:TT}{te:TE}{Q:VK}{σ:St}{H:Hp}{D:Addr}{x:Str}(Pv:Nat->St->Hp->Prop)(h0:Pv 0 σ H)
  (hs:∀i c T σ H,x.cps[i]?=some c->H T=none->Pv i σ H->g (.ref T) σ (upd H T (.tup [.int i,.str ⟨#[c]⟩])) fun σ2 H3=>tc σ2 H3 fun b H4=>if b=true then te σ2 H4 fun y H5=>∃ys,H5 D=some (.lst ys)/\ys.length<sizeLine/\Pv (i+1) σ2 (upd H5 D (.lst (ys++[y]))) else Pv (i+1) σ2 H4)
  (hd:∀ σ H,Pv x.cps.size σ H->Q (.ref D) H):Zu (ziy x) g tc te Q D σ H:=by
 refine⟨fun i m σ H=>m=x.cps.size-i/\i<=x.cps.size/\Pv i σ H,⟨x.cps.size,by simp,zero_le _,h0⟩,?_⟩
 rintro i m σ H ⟨rfl,hi,p⟩
 by_cases hlt:i<x.cps.size
 ·refine .inr ⟨hlt,Pv (i+1),fun σ' H' p'=>⟨x.cps.size-(i+1),by omega,rfl,hlt,p'⟩,fun v H' y=>?_⟩
  obtain⟨T,c,rfl,hT,hc,rfl⟩:=y
  exact hs i c T σ H hc hT p
 ·have e:i=x.cps.size:=by omega
  subst e
  exact .inl ⟨rfl,hd σ H p⟩
noncomputable def zaa (look:Str->Option Addr):List (Str×NameKind)->List (Str×Addr)->List (Str×Addr)
 | [],acc=>acc
 | (n,k)::r,acc=>if k == .free then (match look n with
  | some c=>zaa look r ((n,c)::acc)
  | none=>zaa look r acc) else zaa look r acc
theorem YF {look:Str->Option Addr}:∀(names:List (Str×NameKind)) (acc:List (Str×Addr)) (p:Str×Addr),p∈zaa look names acc->p∈acc\/look p.1=some p.2
 | [],acc,p,h=>.inl h
 | (n,k)::r,acc,p,h=>by
  unfold zaa at h
  split at h
  ·cases e:look n with
   | none =>
    rw [e] at h
    exact YF r acc p h
   | some c =>
    rw [e] at h
    rcases YF r _ p h with h | h
    ·rcases List.mem_cons.mp h with h | h
     ·subst h
      exact .inr e
     ·exact .inl h
    ·exact .inr h
  ·exact YF r acc p h
theorem Jw {x n:Str}{c:Addr}{acc:List (Str×Addr)}(h:(acc.lookup x).isSome=true\/x=n):(List.lookup x ((n,c)::acc)).isSome=true:=by
 rw [lookup_cons]
 cases e:x==n with
 | true=>rfl
 | false =>
  rcases h with h | h
  ·exact h
  ·subst h
   simp at e
theorem zg3 {look:Str->Option Addr}{x:Str}(names:List (Str×NameKind))(acc:List (Str×Addr))(h:(acc.lookup x).isSome=true\/((x,NameKind.free)∈names/\(look x).isSome=true)):((zaa look names acc).lookup x).isSome=true:=by
 induction names generalizing acc with
 | nil =>
  rcases h with h | h
  ·exact h
  ·cases h.1
 | cons y r ih =>
  obtain⟨n,k⟩:=y
  unfold zaa
  split
  ·rename_i hk
   cases e:look n with
   | none =>
    refine ih acc ?_
    rcases h with h | ⟨h,h2⟩
    ·exact .inl h
    ·rcases List.mem_cons.mp h with h | h
     ·cases h
      rw [e] at h2
      cases h2
     ·exact .inr ⟨h,h2⟩
   | some c =>
    refine ih _ ?_
    rcases h with h | ⟨h,h2⟩
    ·exact .inl (Jw (.inl h))
    ·rcases List.mem_cons.mp h with h | h
     ·cases h
      exact .inl (Jw (.inr rfl))
     ·exact .inr ⟨h,h2⟩
  ·rename_i hk
   refine ih acc ?_
   rcases h with h | ⟨h,h2⟩
   ·exact .inl h
   ·rcases List.mem_cons.mp h with h | h
    ·cases h
     exact absurd rfl hk
    ·exact .inr ⟨h,h2⟩
theorem QH {scope:Scope}{env:Env}(h:∀y∈scope.names,y.2=.free->(env.cells.lookup y.1).isSome=true):closureFor scope env=pure (zaa (fun x=>env.cells.lookup x) scope.names []):=by
 have go:∀(names:List (Str×NameKind)) (acc:List (Str×Addr)),(∀y∈names,y.2=.free->(env.cells.lookup y.1).isSome=true) ->
   (forIn names acc fun x cs=>(match x with
    | (name,kind)=>if (kind == .free)=true then do let a <- cellOf env name;pure (ForInStep.yield ((name,a)::cs)) else pure (ForInStep.yield cs):Sem (ForInStep (List (Str×Addr)))))=(pure (zaa (fun x=>env.cells.lookup x) names acc):Sem _):=by
  intro names
  induction names with
  | nil=>intro acc _;rfl
  | cons y r ih =>
   intro acc hy
   obtain⟨n,k⟩:=y
   have hr:∀y∈r,y.2=.free->(env.cells.lookup y.1).isSome=true:=fun y hm=>hy y (mem_cons_of_mem _ hm)
   rw [List.forIn_cons]
   unfold zaa
   by_cases hk:(k==NameKind.free)=true
   ·have hk':k=.free:=by simpa using hk
    have hs:=hy (n,k) mem_cons_self hk'
    obtain⟨c,hc⟩:=Option.isSome_iff_exists.mp hs
    have hc':List.lookup n env.cells=some c:=hc
    have e1:cellOf env n=pure c:=by
     unfold cellOf
     rw [hc']
    simp only [hk,if_true,e1,hc',pure_bind]
    exact ih _ hr
   ·simp only [hk,false_eq_true,if_false,pure_bind]
    exact ih _ hr
 simp only [closureFor]
 exact Eq.trans (congrArg (fun m:Sem (List (Str×Addr))=>m >>= fun cs=>pure cs) (go scope.names [] h)) rfl
theorem Qs {scope:Scope}{env:Env}{x:Str}{k:NameKind}(h:(x,k)∈(relabel scope env).names)(hk:k=.cell\/k=.free):(x,NameKind.cell)∈scope.names\/(x,NameKind.free)∈scope.names:=by
 obtain⟨y,hy,e⟩:=List.mem_map.mp h
 obtain⟨n,k0⟩:=y
 by_cases c:(k0==NameKind.free&&env.scope.kind == .function&&env.kindOf n==some .cell)=true
 ·have e':(if (k0==NameKind.free&&env.scope.kind == .function&&env.kindOf n==some .cell)=true then (n,NameKind.cell) else (n,k0))=(x,k):=e
  rw [if_pos c] at e'
  cases e'
  have c1:k0=.free:=by
   have:=(Bool.and_eq_true_iff.mp (Bool.and_eq_true_iff.mp c).1).1
   simpa using this
  subst c1
  exact .inr hy
 ·have e':(if (k0==NameKind.free&&env.scope.kind == .function&&env.kindOf n==some .cell)=true then (n,NameKind.cell) else (n,k0))=(x,k):=e
  rw [if_neg c] at e'
  cases e'
  rcases hk with rfl | rfl
  ·exact .inl hy
  ·exact .inr hy
theorem zb5 {scope:Scope}{env:Env}{x:Str}(hk:env.scope.kind=.function)(ho:env.kindOf x=some .cell)(h:scope.names.lookup x=some .free):(relabel scope env).names.lookup x=some .cell:=by
 have go:∀names:List (Str×NameKind),names.lookup x=some .free->(names.map fun (n,k)=>if (k==NameKind.free&&env.scope.kind == .function&&env.kindOf n==some .cell)=true then (n,NameKind.cell) else (n,k)).lookup x=some .cell:=by
  intro names
  induction names with
  | nil=>intro h;cases h
  | cons y r ih =>
   obtain⟨n,k⟩:=y
   intro h
   show List.lookup x ((if (k==NameKind.free&&env.scope.kind == .function&&env.kindOf n==some .cell)=true then (n,NameKind.cell) else (n,k))::_)=_
   rw [lookup_cons] at h
   cases e:x==n with
   | true =>
    rw [e] at h
    have hk':k=.free:=Option.some.inj h
    have hn:x=n:=by simpa using e
    subst hk' hn
    rw [if_pos (by rw [hk,ho];rfl),lookup_cons,beq_self_eq_true]
   | false =>
    rw [e] at h
    by_cases c:(k==NameKind.free&&env.scope.kind == .function&&env.kindOf n==some .cell)=true
    ·rw [if_pos c,lookup_cons,e]
     exact ih h
    ·rw [if_neg c,lookup_cons,e]
     exact ih h
 exact go scope.names h
theorem ql.free {X:Cx}{N:List Str}{src:List (Option Nat)}{scope:Scope}{O:List (Str×NameKind)}{XN:List Str}(hO:X.env.scope.names=O)(hK:X.env.scope.kind=.function)(hC:∃n,X.env.cells=cellsFrom n O [])(hX:X.N=XN)
  (kind:scope.kind=.function) (nocell:∀y∈scope.names,y.2 ≠ .cell) (names:∀y∈scope.names,y.2=.local->scope.names.lookup y.1=some .local) (fr:∀y∈scope.names,y.2=.free->O.lookup y.1=some .cell) (len:src.length=N.length)
  (pc:∀q∈N.zip src,q.2=none\/(∃j∈List.range XN.length,q.2=some j/\XN[j]?=some q.1/\O.lookup q.1=some .cell/\scope.names.lookup q.1=some .free)):ql X N src scope (zaa (fun x=>X.env.cells.lookup x) scope.names []):=by
 have hs:∀y∈scope.names,y.2=.free->(X.env.cells.lookup y.1).isSome=true:=fun y hy e=>by
  obtain⟨n,hn⟩:=hC
  rw [hn]
  exact PySem.W.cellsFrom_some O n [] (.inl (fr y hy e))
 refine⟨kind,nocell,names,QH hs,fun x c h=>?_,fun x h=>?_,len,fun i j x h1 h2=>?_⟩
 ·rcases YF _ _ _ (PySem.mem_of_lookup h) with z | z
  ·cases z
  ·exact z
 ·refine Option.isSome_iff_exists.mp (zg3 _ _ (.inr ?_))
  have hm:(x,NameKind.cell)∈scope.names\/(x,NameKind.free)∈scope.names:=by
   rcases h with h | h
   ·exact Qs (PySem.mem_of_lookup h) (.inl rfl)
   ·exact Qs (PySem.mem_of_lookup h) (.inr rfl)
  rcases hm with hm | hm
  ·exact absurd rfl (nocell _ hm)
  ·exact⟨hm,hs _ hm rfl⟩
 ·have hm:(x,some j)∈N.zip src:=by
   refine mem_of_getElem? (i:=i) ?_
   rw [List.getElem?_zip_eq_some]
   exact⟨h1,h2⟩
  rcases pc _ hm with z | ⟨j',_,e,e1,e2,e3⟩
  ·cases z
  ·cases e
   have ko:X.env.kindOf x=some .cell:=by
    show X.env.scope.names.lookup x=some .cell
    rw [hO]
    exact e2
   exact⟨by rw [hX];exact e1,.inl ko,.inl (zb5 hK ko e3)⟩
open PySem PySem.Spec PyProof.Rows PySem.W
section
variable {prog:Program}{w:World}{A:Around}{E:Value->Shared->Prop}{s:Shared}
theorem zg4 {a:Addr}{vs:List Value}{n:Nat}{P:PySem.Fin->Shared->Prop}(ho:s.heap.get? a=some (seqObj "list" vs.toArray n))(h64:vs.length<64)(Good:Array Nat->Prop)(h1:vs.length<2->Good (List.toArray (List.range vs.length)))
  (hk:2<=vs.length->∀s':Shared,(∀b o,b≠a->s.heap.get? b=some o->s'.heap.get? b=some o)->wpAny (model prog w) A (keyKind' vs.toArray) (fun κ s2=>s2=s'/\(kas_sort vs.length).kasWp (kas_cmp prog w A κ (pairsOf vs)) (fun p s3=>s3=s'/\Good p) s') (fun _ _=>False) s')
  (h:∀(p:Array Nat) (h':Heap) (c:Nat),p.size=vs.length->Good p->(∀b o,b≠a->s.heap.get? b=some o->h'.get? b=some o)->h'.get? a=some (seqObj "list" (List.toArray (p.toList.map fun i=>vs.getD i Value.none)) c)->P (.done (.ret .none)) { s with heap:=h' }) :
  wpAny (model prog w) A (Builtin.«list.sort» ⟨[.ref a],[]⟩) P E s:=by
 have lta:a<s.heap.objs.size:=Heap.lt_size ho
 have small:vs.length<=sizeLine:=by rw [sizeLine_eq];omega
 have hu1:=get?_update_seq ho fun _=>(#[]:Array Value)
 generalize hX:s.heap.update a (Obj.mapSeq fun _=>(#[]:Array Value))=X1 at hu1
 have zX:X1.objs.size=s.heap.objs.size:=by rw [<- hX,Heap.size_update]
 have kX:∀b o,b≠a->s.heap.get? b=some o->X1.get? b=some o:=fun b o hb e=>by
  rw [<- hX,Heap.get?_update_ne _ _ _ _ hb]
  exact e
 obtain⟨e1,hu⟩:∃e1,X1.get? a=some (seqObj "list" #[] e1):=⟨_,hu1⟩
 generalize hY:(X1.push (seqObj "tuple" vs.toArray 0)).push (seqObj "list" #[] 0)=Y
 have hYa:Y.get? a=some (seqObj "list" #[] e1):=by
  rw [<- hY]
  exact Heap.get?_push_of_some _ (Heap.get?_push_of_some _ hu)
 have kY:∀b o,b≠a->s.heap.get? b=some o->Y.get? b=some o:=fun b o hb e=>by
  rw [<- hY]
  exact Heap.get?_push_of_some _ (Heap.get?_push_of_some _ (kX b o hb e))
 have last:∀(p:Array Nat) (st:SortSt),p.size=vs.length->Good p->arrOf st=p.map (kas_item (pairsOf vs))->failedOf st=none ->
   wpAny (model prog w) A (do
    let touched:=(<- seqEpoch a) != e1
    Builtin.List.listUpdate (.ref a) fun _=>(arrOf st).map (·.2)
    if let some e:=failedOf st then rule "list.sort.comparison-raised";throw e
    if touched then rule "list.sort.modified";raiseError "ValueError" "list modified during sort"
    ret .none) P E { s with heap:=Y }:=by
  intro p st hp hg har hf
  have hout:(arrOf st).map (·.2)=List.toArray (p.toList.map fun i=>vs.getD i Value.none):=by
   apply Array.toList_inj.mp
   rw [har,Array.map_map,toList_map]
   refine map_congr_left fun i _=>?_
   show (kas_item (pairsOf vs) i).2=_
   rw [kas_item_eq]
  have hlen:(List.toArray (p.toList.map fun i=>vs.getD i Value.none)).size=vs.length:=by rw [size_toArray,length_map,length_toList,hp]
  rw [hout,hf]
  have hu2:=get?_update_seq hYa fun _=>List.toArray (p.toList.map fun i=>vs.getD i Value.none)
  refine wpAny_bind (seqEpoch_at hYa rfl (wpAny_bind (listUpdate_at hYa rfl ?_ (zero_le _) (by rw [hlen];omega))))
  simp only [bne_self_eq_false,false_eq_true,if_false]
  refine wpAny_pure (h p _ _ hp hg (fun b o hb e=>?_) hu2)
  rw [Heap.get?_update_ne _ _ _ _ hb]
  exact kY b o hb e
 rw [list_sort_plain]
 refine wpAny_bind (listItems_at ho rfl (wpAny_bind (listUpdate_at ho rfl ?_ (by rw [size_toArray];exact small) (zero_le _))))
 rw [hX]
 refine wpAny_bind (seqEpoch_at hu rfl (wpAny_bind (wpAny_newTuple (wpAny_bind (wpAny_newList ?_ (zero_le _))) small)))
 show wpAny (model prog w) A _ P E { s with heap:=(X1.push (seqObj "tuple" vs.toArray 0)).push (seqObj "list" #[] 0) }
 rw [hY]
 refine wpAny_holding ?_
 dsimp only
 by_cases c2:vs.toArray.size<2
 ·have c2':vs.length<2:=by rw [size_toArray] at c2;exact c2
  rw [if_pos c2,if_pos c2]
  refine wpAny_bind (wpAny_pure ?_)
  rw [StateT.run_pure]
  refine wpAny_bind (wpAny_pure ?_)
  refine last (List.toArray (List.range vs.length)) _ (by simp) (h1 c2') ?_ rfl
  have e:=kas_range (pairsOf vs)
  rw [pairsOf_size] at e
  rw [e]
  rfl
 ·have c2':2<=vs.length:=by rw [size_toArray] at c2;omega
  rw [if_neg c2,if_neg c2]
  refine wpAny_bind (wpAny_mono (hk c2' { s with heap:=Y } kY) (fun κ s2 ⟨e2,hw⟩=>?_) fun _ _ x=>x.elim)
  subst e2
  have run:=kas_runs (E:=E) (Q:=fun _ st' s'=>∃p:Array Nat,s'={ s with heap:=Y }/\p.size=vs.length/\Good p/\arrOf st'=p.map (kas_item (pairsOf vs))/\failedOf st'=none) c2' h64 (fun p' st' s' x1 x2 x3 x4=>⟨p',x4.1,x1,x4.2,x2,x3⟩) hw
  have est:SortSt.mk' κ (vs.toArray.zip vs.toArray) #[] 7 none=kas_st κ (pairsOf vs) (List.toArray (List.range vs.length)):=by
   have e:=kas_range (pairsOf vs)
   rw [pairsOf_size] at e
   unfold kas_st
   rw [e]
   rfl
  rw [<- est] at run
  refine wpAny_bind (wpAny_mono run ?_ fun _ _ z=>z)
  rintro⟨⟨⟩,st'⟩ s' ⟨p,rfl,hp,hg,har,hf⟩
  exact last p st' hp hg har hf
theorem zg5 {l:Addr}{vs:List Value}{Q:Value->Shared->Prop}(hl:s.heap.IsList l vs.toArray)(h64:vs.length<64)(Good:Array Nat->Prop)(h1:vs.length<2->Good (List.toArray (List.range vs.length)))
  (hk:2<=vs.length->∀s':Shared,(∀b o,s.heap.get? b=some o->s'.heap.get? b=some o)->wpAny (model prog w) A.in1.in1 (keyKind' vs.toArray) (fun κ s2=>s2=s'/\(kas_sort vs.length).kasWp (kas_cmp prog w A.in1.in1 κ (pairsOf vs)) (fun p s3=>s3=s'/\Good p) s') (fun _ _=>False) s')
  (h:∀(p:Array Nat) (h':Heap) (c:Nat),p.size=vs.length->Good p->(∀b o,s.heap.get? b=some o->h'.get? b=some o)->h'.get? (s.heap.objs.size+1)=some (seqObj "list" (List.toArray (p.toList.map fun i=>vs.getD i Value.none)) c)->Q (.ref (s.heap.objs.size+1)) { s with heap:=h' }) :
  wpAny (model prog w) A (call (.builtin "sorted") [.ref l]) Q E s:=by
 have small:vs.length<=sizeLine:=by rw [sizeLine_eq];omega
 generalize hX:(s.heap.push (seqObj "list" #[] 0)).update s.heap.objs.size (Obj.mapSeq (·++vs.toArray))=X1
 have zX:X1.objs.size=s.heap.objs.size+1:=by rw [<- hX,Heap.size_update,Heap.size_push]
 have kX:∀b o,s.heap.get? b=some o->X1.get? b=some o:=fun b o e=>by
  have lt:=Heap.lt_size e
  rw [<- hX,Heap.get?_update_ne _ _ _ _ (ne_of_lt lt)]
  exact Heap.get?_push_of_some _ e
 apply Calls.call_function_entry kind_sorted plain_sorted entry_sorted (args_sorted1 _)
 unfold Builtin.«sorted»
 refine wpAny_bind (m:=checkCount "sorted" 1 1 _) (wpAny_pure (wpAny_bind (collect_list hl ?_ small)))
 rw [hX]
 refine wpAny_bind (wpAny_newList ?_ small)
 show wpAny _ _ _ _ _ { s with heap:=X1.push (seqObj "list" vs.toArray 0) }
 have hoL:(X1.push (seqObj "list" vs.toArray 0)).get? (s.heap.objs.size+1)=some (seqObj "list" vs.toArray 0):=by
  rw [<- zX]
  exact Heap.get?_push_size _ rfl
 have kL:∀b o,s.heap.get? b=some o->(X1.push (seqObj "list" vs.toArray 0)).get? b=some o:=fun b o e=>Heap.get?_push_of_some _ (kX b o e)
 have ne:∀b o,s.heap.get? b=some o->b≠s.heap.objs.size+1:=fun b o e=>ne_of_lt (lt_succ_of_lt (Heap.lt_size e))
 rw [zX]
 refine wpAny_bind (wpAny_holding (wpAny_call_entry slot_list_sort ⟨_,hoL,rfl⟩ entry_list_sort (zg4 (s:={ s with heap:=X1.push (seqObj "list" vs.toArray 0) }) hoL h64 Good h1 (fun c s' k=>hk c s' fun b o e=>k b o (ne b o e) (kL b o e)) ?_) (args_list_sort _)))
 intro p h' c hp hg kk ha
 exact⟨_,rfl,wpAny_pure ⟨_,rfl,h p h' c hp hg (fun b o e=>kk b o (ne b o e) (kL b o e)) ha⟩⟩
end
section
variable {α β:Type}{R:α->β->Prop}{us us':List α}{cs cs':List β}{i:Nat}{v:α}{c:β}
theorem zb6 (h:Paired R us cs)(k:Paired R us' cs'):Paired R (us++us') (cs++cs'):=by
 induction h with
 | nil=>exact k
 | cons q _ ih=>exact .cons q ih
theorem zg6 (h:Paired R us cs)(e:us[i]?=some v):∃c,cs[i]?=some c/\R v c:=by
 induction h generalizing i with
 | nil=>cases e
 | cons q _ ih =>
  cases i with
  | zero =>
   cases e
   exact⟨_,rfl,q⟩
  | succ i=>exact ih (i:=i) e
theorem zcV (h:Paired R us cs)(e:cs[i]?=some c):∃v,us[i]?=some v/\R v c:=by
 induction h generalizing i with
 | nil=>cases e
 | cons q _ ih =>
  cases i with
  | zero =>
   cases e
   exact⟨_,rfl,q⟩
  | succ i=>exact ih (i:=i) e
end
def Jx (H:Hp):List V->List (Int×Int)->Prop:=Paired fun v p=>∃a,v=V.ref a/\H a=some (.tup [.int p.1,.int p.2])
def lt2 (p q:Int×Int):Bool:=if p.1=q.1 then decide (p.2<q.2) else decide (p.1<q.1)
structure zK (h:Heap)(v:Value)(p:Int×Int):Prop where
 ex:∃a o n t u,v=.ref a/\h.get? a=some o/\o.cls=.type "tuple"/\o.data=.seq #[.int p.1 t,.int p.2 u] n
section
variable {X:Cx}{pins:List (Addr×Obj)}{σ:St}{H:Hp}{s:Shared}
theorem Jx.pairs (I:Inv X pins σ H s){us:List V}{ps:List (Int×Int)}{its:List Value}(hp:Jx H us ps)(r:Vals us its):Paired (zK s.heap) its ps:=by
 induction hp generalizing its with
 | nil =>
  cases r
  exact .nil
 | cons q _ ih =>
  obtain⟨a,e,h⟩:=q
  subst e
  cases r with
  | cons r1 r2 =>
   cases r1
   refine .cons ?_ (ih r2)
   obtain⟨items,rv,tp,_⟩:=I.tuple (SqT.of h)
   obtain⟨u1,u2,rfl,⟨t1,rfl⟩,⟨t2,rfl⟩⟩:=vals2 rv
   obtain⟨ob,e1,c1,n,d1⟩:=tp
   exact⟨a,ob,n,t1,t2,rfl,e1,c1,d1⟩
end
theorem Yb {h h':Heap}(k:∀b o,h.get? b=some o->h'.get? b=some o):∀{its:List Value} {ps:List (Int×Int)},Paired (zK h) its ps->Paired (zK h') its ps
 | _,_,.nil=>.nil
 | _,_,.cons ⟨a,o,n,t,u,e,e1,r⟩ tl=>.cons ⟨a,o,n,t,u,e,k _ _ e1,r⟩ (Yb k tl)
theorem yZ {h:Heap}:∀{its:List Value} {ps:List (Int×Int)},Paired (zK h) its ps->∃fs:List Value,KatTups h its fs/\fs.length=its.length/\∀v∈fs,∃x t,v=Value.int x t
 | _,_,.nil=>⟨[],.nil,rfl,fun _ z=>nomatch z⟩
 | _,_,.cons ⟨a,o,n,t,u,e,e1,c,d⟩ tl=>by
  obtain⟨fs,k,l,q⟩:=yZ tl
  subst e
  refine⟨.int _ t::fs,KatTups.cons e1 c d rfl k,by simp [l],fun v hv=>?_⟩
  rcases List.mem_cons.mp hv with rfl | hv
  ·exact⟨_,t,rfl⟩
  ·exact q v hv
theorem Qa {h:Heap}:∀{its:List Value} {ps:List (Int×Int)} {i:Nat} {p:Int×Int},Paired (zK h) its ps->ps[i]?=some p->zK h (its.getD i Value.none) p
 | _,_,_,_,.nil,e=>by simp at e
 | _,_,0,_,.cons r _,e=>by
  simp at e
  subst e
  exact r
 | _,_,i+1,p,.cons _ t,e=>by
  have:=Qa (i:=i) (p:=p) t (by simpa using e)
  simpa using this
section
variable {prog:Program}{w:World}{A:Around}{E:Value->Shared->Prop}{s:Shared}
theorem zb7 {v v':Value}{p q:Int×Int}{C:Bool->Shared->Prop}(hv:zK s.heap v p)(hv':zK s.heap v' q)(h:C (lt2 p q) s):wpAny (model prog w) A (keyLt' (tuples' true) v v') C E s:=by
 obtain⟨a,o,n,t,u,rfl,e1,c1,d1⟩:=hv
 obtain⟨a',o',n',t',u',rfl,e1',c1',d1'⟩:=hv'
 refine kat_lt e1 d1 e1' d1' ?_
 show KatLex prog w A true _ C [(Value.int p.1 t,Value.int q.1 t'),(Value.int p.2 u,Value.int q.2 u')] 0 s
 unfold lt2 at h
 refine kat_cons (SeqAt.EqAt.int_int _ _ _ _ prog w _ _ (kat_go (fun ee=>kat_yes ?_) fun ee=>kat_no ?_))
 ·have e:p.1=q.1:=by simpa using ee
  rw [if_pos e] at h
  refine kat_cons (SeqAt.EqAt.int_int _ _ _ _ prog w _ _ (kat_go (fun e2=>kat_yes (kat_nil ?_)) fun e2=>kat_no ?_))
  ·have e3:p.2=q.2:=by simpa using e2
   have e4:decide (p.2<q.2)=false:=decide_eq_false (by omega)
   rw [e4] at h
   exact h
  ·exact kat_one _ _ (lt_int h)
 ·have e:¬ p.1=q.1:=by simpa using ee
  rw [if_neg e] at h
  exact oneLt_int h
end
section
variable {X:Cx}
end
section
variable {X:Cx}
theorem zcW:∀{ns:List Int} {its:List Value},Vals (ns.map V.int) its->IntsAre its ns
 | [],_,r=>by cases r;exact .nil
 | n::ns,_,r=>by
  cases r with
  | cons r1 r2 =>
   obtain⟨t,rfl⟩:=r1
   exact .cons n t (zcW r2)
theorem zg7 (hc:X.calm=true):jn X (.builtin "sum") (fun xs H Q=>∃(l:Addr) (ns:List Int),xs=[.ref l]/\SqL X.K H l (ns.map V.int)/\Q (.int ns.sum) H):=by
 intro pins s σ H xs us Q I r h
 obtain⟨l,ns,rfl,hq,q⟩:=h
 obtain⟨u,rfl,ru⟩:=vals1 r
 cases ru
 obtain⟨its,rv,pl,hz⟩:=I.list hq
 have hi:IntsAre its ns:=zcW rv
 obtain⟨ys,ey⟩:=hi.allInts.items
 refine sum_intListG (I.ok.hd hc) (xs:=ys) (ey ▸ pl.isList) fun h' tk t' hk=>?_
 have f1:ns=ys.toList.map (·.1):=by
  rw [<- nums_intItems,<- ey]
  exact(show numsOf its.toArray.toList=ns from hi.numsOf).symm
 have f2:preSum (numAt ys) ys.size=ns.sum:=by
  rw [f1,preSum_eq,take_of_length_le (by simp)]
 rw [f2]
 exact⟨.int _,H,I.kept hk,⟨_,rfl⟩,q⟩
theorem zf4 {bs:List Bool}{its:List Value}(r:Vals (bs.map V.bl) its){i:Nat}{v:Value}(e:its[i]?=some v):∃b,bs[i]?=some b/\v=.bool b:=by
 have hl:=r.length
 rw [length_map] at hl
 have hi:i<bs.length:=by
  have:=(List.getElem?_eq_some_iff.mp e).1
  omega
 obtain⟨u,hu,ru⟩:=r.get (i:=i) (x:=.bl bs[i]) (by rw [getElem?_map,getElem?_eq_getElem hi];rfl)
 rw [hu] at e
 cases e
 exact⟨bs[i],getElem?_eq_getElem hi,ru⟩
theorem zab (hc:X.calm=true):jn X (.builtin "all") (fun xs H Q=>∃(l:Addr) (bs:List Bool),xs=[.ref l]/\SqL X.K H l (bs.map V.bl)/\Q (.bl (bs.all id)) H):=by
 intro pins s σ H xs us Q I r h
 obtain⟨l,bs,rfl,hq,q⟩:=h
 obtain⟨u,rfl,ru⟩:=vals1 r
 cases ru
 obtain⟨its,rv,pl,hz⟩:=I.list hq
 have hl:=pl.isList
 have hlt:l<s.heap.objs.size:=let ⟨_,he,_⟩:=hl;Heap.lt_size he
 have hln:=rv.length
 rw [length_map] at hln
 refine call_all_walk (wpAny_pyIter_list hl ?_)
 refine⟨s.heap.objs.size,[s.heap.objs.size,l],[s.heap.objs.size],its.toArray.size,_,_,fun i=>(bs[i]?).getD true,rfl,Walks.list (A:=X.A.in1) (I.ok.hd hc) _ l (ne_of_lt hlt) its.toArray,
  ⟨⟨_,Heap.get?_push_size _ rfl,rfl,rfl⟩,hl.push _⟩,fun i v s' Q' E' hP hQ=>?_,fun h' tk hk=>?_⟩
 ·obtain⟨b,eb,rfl⟩:=zf4 rv (i:=i) (v:=v) (by simpa using hP)
  simp only [eb,getD_some] at hQ
  exact wpAny_truthy_bool hQ
 ·have e:((List.range its.toArray.size).all fun i=>(bs[i]?).getD true)=bs.all id:=by
   rw [size_toArray,<- hln];exact LSm.range_all bs
  rw [e]
  exact⟨.bl _,H,I.kept (LSm.kept_iter hk),rfl,q⟩
end
mutual
inductive Rdn (N:Addr->Prop)(H:Hp):V->PyData->Prop
 | non:Rdn N H .non .none
 | bl (b:Bool):Rdn N H (.bl b) (.bool b)
 | int (i:Int):Rdn N H (.int i) (.int i)
 | str (x:Str):Rdn N H (.str x) (.str x)
 | lst {a:Addr} {xs:List V} {ds:List PyData}:N a->H a=some (.lst xs)->zJ N H xs ds->Rdn N H (.ref a) (.list ds)
 | tup {a:Addr} {xs:List V} {ds:List PyData}:H a=some (.tup xs)->zJ N H xs ds->Rdn N H (.ref a) (.tuple ds)
inductive zJ (N:Addr->Prop)(H:Hp):List V->List PyData->Prop
 | nil:zJ N H [] []
 | cons {x:V} {d:PyData} {xs:List V} {ds:List PyData}:Rdn N H x d->zJ N H xs ds->zJ N H (x::xs) (d::ds)
end
section
variable {K:PySem.W.Frag}{N N':Addr->Prop}{H H':Hp}
theorem zJ.rdv {vs:List V}{ds:List PyData}(h:zJ N H vs ds):jG K H vs ds :=
 zJ.rec (motive_1:=fun v d _=>Rdv K H v d) (motive_2:=fun vs ds _=>jG K H vs ds) .non .bl .int .str (fun _ h _ t=>.lst (SqL.of h) t) (fun h _ t=>.tup (SqT.of h) t) .nil (fun _ _ a t=>.cons a t) h
theorem zJ.mono (s:zy H H')(i:∀a,N a->N' a){vs:List V}{ds:List PyData}(h:zJ N H vs ds):zJ N' H' vs ds :=
 zJ.rec (motive_1:=fun v d _=>Rdn N' H' v d) (motive_2:=fun vs ds _=>zJ N' H' vs ds) .non .bl .int .str (fun n h _ t=>.lst (i _ n) (s _ _ h) t) (fun h _ t=>.tup (s _ _ h) t) .nil (fun _ _ a t=>.cons a t) h
theorem zJ.into {D:Addr}{o:HO}{old:List V}(hD:H D=some (.lst old))(i:∀a,N a->a≠D){vs:List V}{ds:List PyData}(h:zJ N H vs ds):zJ N (upd H D o) vs ds :=
 zJ.rec (motive_1:=fun v d _=>Rdn N (upd H D o) v d) (motive_2:=fun vs ds _=>zJ N (upd H D o) vs ds) .non .bl .int .str (fun n h _ t=>.lst n (by rw [zo (i _ n)];exact h) t) (fun h _ t=>.tup (by rw [zo (Q0 h hD (by intro z;cases z))];exact h) t) .nil (fun _ _ a t=>.cons a t) h
theorem zJ.keep (s:zy H H'){vs:List V}{ds:List PyData}(h:zJ N H vs ds):zJ N H' vs ds:=h.mono s fun _ n=>n
theorem zJ.append {vs ws:List V}{ds es:List PyData}(h:zJ N H vs ds)(k:zJ N H ws es):zJ N H (vs++ws) (ds++es) :=
 zJ.rec (motive_1:=fun _ _ _=>True) (motive_2:=fun vs ds _=>zJ N H (vs++ws) (ds++es))
  trivial (fun _=>trivial) (fun _=>trivial) (fun _=>trivial) (fun _ _ _ _=>trivial) (fun _ _ _=>trivial) k (fun a _ _ t=>.cons a t) h
theorem zJ.snoc {vs:List V}{ds:List PyData}{v:V}{d:PyData}(h:zJ N H vs ds)(k:Rdn N H v d):zJ N H (vs++[v]) (ds++[d]):=h.append (.cons k .nil)
end
section
variable {K:PySem.W.Frag}{g:TG}{tc:TT}{te:TE}{Q:VK}{σ0:St}{H1:Hp}{D:Addr}
def ziz (N:Addr->Prop)(inv:St->Prop)(H:Hp)(o:Option PyData)(Y:St->V->Hp->Prop):Prop:=∀d y σ2 H5,o=some d->inv σ2->zy H H5->Rdn N H5 y d->Y σ2 y H5
def zj4 (inv:St->Prop)(H:Hp)(o:Option PyData)(Z:St->Hp->Prop):Prop:=∀ σ2 H4,o=none->inv σ2->zy H H4->Z σ2 H4
theorem qJ {a:Addr}{xs:List V}(N:Addr->Prop)(outs:List (Option PyData))(inv:St->Prop)(hD:H1 D=none)(hN:∀a,N a->a≠D)(h0:inv σ0)(hlen:outs.length=xs.length)(hz:xs.length<=100000)
  (hl:SqL K H1 a xs)
  (hs:∀(i:Nat) (x:V) (o:Option PyData) (σ:St) (H:Hp),xs[i]?=some x->outs[i]?=some o->zy H1 H->H D≠none->inv σ->∀Y Z,ziz N inv H o Y->zj4 inv H o Z ->
   g x σ H fun σ2 H3=>tc σ2 H3 fun b H4=>if b=true then te σ2 H4 fun y H5=>Y σ2 y H5 else Z σ2 H4)
  (hd:∀ys H',zy H1 H'->H' D=some (.lst ys)->zJ N H' ys (outs.filterMap id)->Q (.ref D) H'):Zu (Itl K a) g tc te Q D σ0 (upd H1 D (.lst [])):=by
 refine jx (K:=K) (a:=a) (xs:=xs) (fun i σ H'=>inv σ/\zy H1 H'/\∃ys,H' D=some (.lst ys)/\ys.length<=i/\zJ N H' ys ((outs.take i).filterMap id)) ⟨h0,zd hD,[],zb,le_refl _,.nil⟩ (fun i σ H' _ ⟨_,s,_⟩=>s.seq hl) ?_ ?_
 ·rintro i x σ H hx ⟨hi,s,ys,hy,yl,hr⟩
  have hil:i<xs.length:=(List.getElem?_eq_some_iff.mp hx).1
  obtain⟨o,ho⟩:∃o,outs[i]?=some o:=⟨outs[i]'(by omega),getElem?_eq_getElem (by omega)⟩
  have step:(outs.take (i+1)).filterMap id=(outs.take i).filterMap id++o.toList:=by
   rw [take_add_one,ho,List.filterMap_append]
   cases o<;>rfl
  refine hs i x o σ H hx ho s (by rw [hy];exact fun z=>nomatch z) hi _ _ (fun d y σ2 H5 e hi2 s5 hr5=>?_) (fun σ2 H4 e hi2 s4=>?_)
  ·subst e
   refine⟨ys,s5 _ _ hy,lt_of_le_of_lt yl (lt_of_lt_of_le hil (le_trans hz (by decide))),hi2,fun b ob e=>?_,ys++[y],zb,?_,?_⟩
   ·rw [zo (zj e hD)]
    exact s5 _ _ (s _ _ e)
   ·rw [length_append]
    exact Nat.add_le_add_right yl 1
   ·rw [step]
    exact zJ.into (s5 _ _ hy) hN (zJ.snoc (hr.keep s5) hr5)
  ·subst e
   refine⟨hi2,s.trans s4,ys,s4 _ _ hy,Nat.le_succ_of_le yl,?_⟩
   rw [step]
   simpa using hr.keep s4
 ·rintro σ H ⟨_,s,ys,hy,_,hr⟩
  rw [<- hlen,take_length] at hr
  exact hd ys H s hy hr
theorem J1 {i:Nat}{v:V}{σ:St}{H:Hp}{A B:St->Hp->Prop}(h:A (σ.set i (some v)) H):ze1 i v σ H fun σ2 H3=>zkY σ2 H3 fun b H4=>if b=true then A σ2 H4 else B σ2 H4:=by
 show if true=true then A (σ.set i (some v)) H else B (σ.set i (some v)) H
 exact ZY h
end
noncomputable def Jy (z:Str)(lo hi:Option Int):Str:=⟨((z.cps.toList.drop (HT.sIx z.length 0 lo)).take (HT.sIx z.length z.length hi-HT.sIx z.length 0 lo)).toArray⟩
theorem zg8 (lo hi:Option Int)(n:Nat):Builtin.Str.strSliceIndices lo hi 1 n=(List.range (HT.sIx n n hi-HT.sIx n 0 lo)).map (HT.sIx n 0 lo + ·):=by
 rw [<- sliceRange_one]
 unfold Builtin.Str.strSliceIndices
 simp only [show (1:Int)>0 by decide,if_true]
 have clip:∀(v:Option Int) (d:Nat),(match v with | none=>(d:Int) | some i=>max 0 (min (if i<0 then i+(n:Int) else i) (n:Int)))=((HT.sIx n d v:Nat):Int):=fun v d=>by
  cases v with
  | none=>rfl
  | some i =>
   simp only [HT.sIx]
   by_cases h:i<0
   ·simp only [h,if_true]
    omega
   ·simp only [h,if_false]
    omega
 have e1:=clip lo 0
 have e2:=clip hi n
 rw [<- e1,<- e2]
 rfl
theorem ziA (n:Nat)(hi:Option Int):HT.sIx n n hi<=n:=HT.zjV n n (le_refl _) hi
theorem zg9 (z:Str)(lo hi:Option Int):Txt.slice z lo hi=Jy z lo hi:=by
 unfold Txt.slice Jy
 rw [zg8,pick_run]
 by_cases c:((1:Int)==1&&((List.range (HT.sIx z.length z.length hi-HT.sIx z.length 0 lo)).map (HT.sIx z.length 0 lo + ·)).length==z.length)=true
 ·rw [if_pos c]
  have c2:HT.sIx z.length z.length hi-HT.sIx z.length 0 lo=z.length:=by
   simp only [length_map,length_range] at c
   simpa using c
  have h1:=ziA z.length hi
  have e1:HT.sIx z.length z.length hi=z.length:=by omega
  have e0:HT.sIx z.length 0 lo=0\/z.length=0:=by omega
  have el:z.cps.toList.length=z.length:=length_toList
  rw [c2]
  rcases e0 with e0 | e0
  ·rw [e0,List.drop_zero,take_of_length_le (by omega)]
  ·have e2:z.cps.toList=[]:=List.length_eq_zero_iff.mp (by omega)
   rw [e2]
   simp only [List.drop_nil,List.take_nil]
   cases z with
   | mk cps =>
    have e3:cps=#[]:=by simpa using e2
    rw [e3]
 ·rw [if_neg c]
section
variable {X:Cx}
def zlO:V->Option Int->Option Int->Hp->VK->Prop:=fun x lo hi H Q=>∃z,x=.str z/\z.length<=sizeLine/\Q (.str (Jy z lo hi)) H
theorem zcX {v:Value}{o:Option Int}(h:IsPart v o):∃p:Option (Int×Tok),v=partValue p/\p.map (·.1)=o:=by
 cases h with
 | none=>exact⟨none,rfl,rfl⟩
 | int i t=>exact⟨some (i,t),rfl,rfl⟩
theorem zha:SlR X zlO:=by
 intro pins s σ H x v vl vu lo hi sl Q I rx hs pl pu h
 obtain⟨z,rfl,hz,q⟩:=h
 obtain⟨t,rfl⟩:=rx
 obtain⟨p1,rfl,e1⟩:=zcX pl
 obtain⟨p2,rfl,e2⟩:=zcX pu
 refine⟨"str",_,F.slot_str_getitem.lookup,typeIs_str _ _ _,wpAny_getItem_str_slice (l:=p1) (u:=p2) (st:=none) hs rfl ?_⟩
 have e:sliceMade z t p1 p2 none=if ((1:Int)==1&&(Builtin.Str.strSliceIndices lo hi 1 z.length).length==z.length)=true then Made.val (.str z t) else Made.str ⟨((Builtin.Str.strSliceIndices lo hi 1 z.length).filterMap (z.cps[·]?)).toArray⟩:=by
  rw [<- e1,<- e2]
  rfl
 rw [e]
 refine post_val_or_str ⟨le_trans (Txt.slice_le z lo hi) hz,fun t' k=>?_⟩
 rw [<- zg9] at q
 exact⟨.str (Txt.slice z lo hi),H,I.tok k,⟨_,rfl⟩,q⟩
end
def zfO:List Value:=[.type "ValueError",.type "Exception",.type "BaseException",.type "object"]
structure Fly (P:Program)(w:World)(outer:List Env)(H:Hp)(s:Shared)(e C:Addr)(a0:Value)(B:Heap)(H':Hp)(s':Shared):Prop where
 fly:Heap.FlyingW B outer e (.ref C) a0 s'.heap
 os:s'.os=s.os
 bare:AllBare s'.gens
 un:Un (frs outer) [] H H' s.heap s'.heap
 ok:HOk P w H' B
 kB:∀b o,s.heap.get? b=some o->H b=none->b ∉ frs outer->B.get? b=some o
 tB:∀b o,s.heap.get? b=some o->b ∉ frs outer->∃o',B.get? b=some o'
 new:s.heap.get? e=none
 free:H' e=none
noncomputable def CXE (P:Program)(w:World):CXT:=fun outer H s E x s'=>∃(e C:Addr) (a0:Value) (B:Heap) (H':Hp),x=.ref e/\Fly P w outer H s e C a0 B H' s'/\E (.ref C) none H'
theorem zhb {P:Program}{w:World}{H:Hp}{h:Heap}{a:Addr}:∀{o:HO},qB P w H h a o->∃ob,h.get? a=some ob
 | .lst _,x=>by obtain⟨_,_,_,_,q⟩:=x;exact⟨_,q⟩
 | .tup _,x=>by obtain⟨_,_,_,ob,q,_⟩:=x;exact⟨ob,q⟩
 | .dK _,x=>by obtain⟨_,_,_,_,ob,_,_,q,_⟩:=x;exact⟨ob,q⟩
 | .dT _,x=>by obtain⟨_,_,_,_,ob,_,_,q,_⟩:=x;exact⟨ob,q⟩
 | .set _ _,x=>by obtain⟨ob,_,_,_,q,_⟩:=x;exact⟨ob,q⟩
 | .ins _ _ _,x=>by obtain⟨_,_,_,q,_⟩:=x;exact⟨_,q⟩
 | .own _,x=>x
 | .xd _,x=>by obtain⟨_,⟨ob,_,_,q,_⟩,_⟩:=x;exact⟨ob,q⟩
 | .met _ _,x=>⟨_,x⟩
 | .rng _ _,x=>by obtain⟨_,_,_,q⟩:=x;exact⟨_,q⟩
 | .frz _ _,x=>⟨_,x.1⟩
 | .tbl _,x=>⟨_,x⟩
 | .ext _,x=>x.2.1
section
variable {X:Cx}{pins:List (Addr×Obj)}{σ:St}{H H':Hp}{s s':Shared}{e C:Addr}{a0:Value}{B h2:Heap}
theorem Inv.notLoc (I:Inv X pins σ H s){b:Addr}{o:Obj}(q:X.s₀.heap.get? b=some o):b≠X.env.locals:=fun z=>lt_irrefl _ (lt_of_lt_of_le (z ▸ Heap.lt_size q) I.ok.above)
theorem Inv.notStk (I:Inv X pins σ H s){b:Addr}{o:Obj}(q:X.s₀.heap.get? b=some o)(hb:b ∉ X.fs):b ∉ frs X.stack:=fun z=>by
 rcases List.mem_cons.mp (I.stkSub b z) with r | r
 ·exact I.notLoc q r
 ·exact hb r
theorem Inv.flies (I:Inv X pins σ H s)(hex:X.ex=[])(F:Heap.FlyingW B X.outer e (.ref C) a0 h2)(up:s'.heap.UpToSlots h2)(os:s'.os=s.os)(bare:AllBare s'.gens)(un:Un (frs X.stack) [] H H' s.heap s'.heap)(ok:HOk X.prog X.w H' B)
  (kB:∀b o,s.heap.get? b=some o->H b=none->b ∉ frs X.stack->B.get? b=some o) (tB:∀b o,s.heap.get? b=some o->b ∉ frs X.stack->∃o',B.get? b=some o') (new:s.heap.get? e=none) (free:H' e=none) :
  Fly X.prog X.w X.outer X.H₀ X.s₀ e C a0 B H' { s' with heap:=h2 }:=by
 have nx:∀b,b ∉ X.ex:=fun b z=>by rw [hex] at z;cases z
 have keep:∀b o,X.s₀.heap.get? b=some o->X.H₀ b=none->b ∉ X.fs->B.get? b=some o:=fun b o q n hb =>
  kB b o (I.base.keep b o q n hb (nx b)) (I.base.free b o q n (nx b)) (I.notStk q hb)
 have there:∀b o,X.s₀.heap.get? b=some o->b ∉ X.fs->∃o',B.get? b=some o':=fun b o q hb=>by
  obtain⟨o',q'⟩:=I.base.there b o q (nx b)
  exact tB b o' q' (I.notStk q hb)
 have slot:∀b o,X.s₀.heap.get? b=some o->b∈X.fs->∃sl,h2.get? b=some { o with slots:=sl }:=fun b o q hb=>by
  obtain⟨_,o1,q1,nf⟩:=I.ok.funs.mem hb
  rw [q] at q1
  cases q1
  obtain⟨sl,q2⟩:=I.base.slot b o q (I.ok.frf b hb) hb (nx b)
  obtain⟨sl2,q3⟩:=un.any q2 (I.base.free b o q (I.ok.frf b hb) (nx b)) (fun z=>nomatch z)
  obtain⟨sl3,q4⟩:=up b _ q3 nf
  exact⟨sl3,q4⟩
 refine⟨F,os.trans I.os,bare,⟨fun b o q n hb _=>F.1 b o (keep b o q n hb),fun b o q _ hb _=>slot b o q hb,fun b o q n _=>?_,fun b o q _=>?_,fun b xs q=>un.tups b xs (I.base.tups b xs q),fun b o u q=>un.frzs b o u (I.base.frzs b o u q),fun b ps q=>?_⟩,ok,keep,there,?_,free⟩
 ·obtain⟨o',q'⟩:=I.base.there b o q (nx b)
  exact un.free b o' q' (I.base.free b o q n (nx b)) fun z=>nomatch z
 ·by_cases hb:b∈X.fs
  ·obtain⟨sl,r⟩:=slot b o q hb
   exact⟨_,r⟩
  ·obtain⟨o',r⟩:=there b o q hb
   exact⟨o',F.1 b o' r⟩
 ·obtain⟨m1,r1⟩:=I.base.tbls b ps q
  obtain⟨m2,r2⟩:=un.tbls b _ r1
  exact⟨m1++m2,by rw [r2,Array.append_assoc]⟩
 ·cases q:X.s₀.heap.get? e with
  | none=>rfl
  | some o =>
   obtain⟨o',q'⟩:=I.base.there e o q (nx e)
   rw [new] at q'
   cases q'
structure Yc (X:Cx)(E:XK):Prop where
 stk:X.stack=X.env::X.outer
 fr:X.env.frame=some X.env.locals
 ex:X.ex=[]
 xe:X.xe=fun x s'=>wpAny (model X.prog X.w) X.A (leaving X.env x) (fun _ s''=>CXE X.prog X.w X.outer X.H₀ X.s₀ E x s'') (fun x' s''=>CXE X.prog X.w X.outer X.H₀ X.s₀ E x' s'') s'
theorem zbr {P:Program}{w:World}{K:PySem.W.Frag}{mg:Str->Option Value}{base:Heap}{N:List Str}{qual:Str}{scope:Scope}{f:Addr}{cd:Value}{A:Around}{outer:List Env}{s:Shared}{H:Hp}{E:XK} :
  Yc (zcQ (CXE P w) P w K mg base N qual scope f cd A outer s H E) E:=⟨rfl,rfl,rfl,rfl⟩
theorem zj5 {l:List Env}:∀env∈l,∀a,env.frame=some a->a∈frs l:=fun env he a hf=>List.mem_filterMap.mpr ⟨env,he,hf⟩
theorem Yc.made {E:XK}(L:Yc X E)(I:Inv X pins σ H s){h1:Heap}{vs:List Value}(hx:Heap.MadeExcOf s.heap h1 e (.ref C) vs)(hE:E (.ref C) none H):X.xe (.ref e) { s with heap:=h1 }:=by
 rw [L.xe]
 have hs:=I.stack
 have nb:∀a o,H a=some o->a ∉ frs X.stack:=fun a o q z=>by
  rw [I.stkFree a z] at q
  cases q
 have own:∀a b,H b=some (.own a)->b ∉ frs X.stack:=fun a b q=>nb b _ q
 have fresh:H e=none:=by
  cases q:H e with
  | none=>rfl
  | some o =>
   obtain⟨o',q'⟩:∃o',s.heap.get? e=some o':=by
    exact zhb (I.hok e o q)
   rw [hx.new] at q'
   cases q'
 refine wpAny_leaves_madeW (base:=PySem.W.hideAll s.heap (frs X.stack)) (L:=X.env.locals) (by rw [I.ok.frames,L.stk]) L.fr (fun b o q=>PySem.W.of_hideAll _ q) (PySem.W.funFrames_hide (by rw [<- L.stk];exact hs) (by rw [<- L.stk];exact zj5)) hx fun h' t x1 x2 x3 x4=>?_
 refine⟨e,C,_,_,H,rfl,I.flies (s':={ s with heap:=h1 }) L.ex x1 x4 rfl I.bare (Un.kept hx.keeps) ?_ (fun b o q _ hb=>PySem.W.hideAll_get _ q hb) (fun b o q hb=>⟨o,PySem.W.hideAll_get _ q hb⟩) hx.new fresh,hE⟩
 exact fun a o q=>(I.hok a o q).stay (fun b u hb r=>PySem.W.hideAll_get _ r (by
  rcases hb with hb | hb
  ·rw [hb]
   exact nb a o q
  ·exact own a b hb)) (fun _ r=>r) fun _ _ r=>r
theorem Yc.passes {E:XK}(L:Yc X E):Passes (CXE X.prog X.w) X E:=by
 intro pins σ H s x s' I h
 obtain⟨e,C,a0,B,H',rfl,F,hE⟩:=h
 rw [L.xe]
 have ff:=F.fly
 rw [L.stk] at ff
 refine wpAny_leaves_onW (by rw [I.ok.frames,L.stk]) L.fr ff fun h2 x1 x2=>?_
 exact⟨e,C,a0,B,H',rfl,I.flies L.ex x1 x2 F.os F.bare F.un F.ok F.kB F.tB F.new F.free,hE⟩
end
structure Z0 (K:PySem.W.Frag)(mg:Str->Option Value)(x:Str)(C:Addr):Prop where
 g:mg x=some (.ref C)
 q:PySem.W.excIn K C zfO "ValueError.__new__"=true
structure zjm (h:Heap)(C:Addr)(bm:List Value):Prop where
 ex:∃N nm qn bs hdct sn sub ab col dd k0 k1 k2 k3 k5 mN,h.get? C=some (excClassObj nm qn C N bs bm hdct sn sub ab col dd k0 k1 k2 k3 k5 "ValueError.__new__")/\h.Ns N mN/\mN "__init__"=none
 tl:OwnTail h zfO bm
theorem zhc {K:PySem.W.Frag}{h:Heap}{C:Addr}(kin:K.In h)(hq:PySem.W.excIn K C zfO "ValueError.__new__"=true):∃bm,zjm h C bm:=by
 unfold PySem.W.excIn at hq
 split at hq
 ·rename_i dd cd sl look
  split at hq
  ·rename_i C' bm k0 k1 k2 k3 n k5 em es
   simp only [and_eq_true,beq_iff_eq,not_eq_true'] at hq
   obtain⟨⟨⟨⟨⟨rfl,rfl⟩,nodel⟩,tailok⟩,nsok⟩,noinit⟩:=hq
   obtain⟨nm,bs,mro,ns,qn,hd,sn,sub,ab,col,del⟩:=cd
   dsimp only at em nodel nsok noinit
   subst em nodel
   have esl:sl=#[k0,k1,k2,k3,some (.builtin "ValueError.__new__"),k5]:=by
    obtain⟨l⟩:=sl
    simp only at es
    rw [es]
   subst esl
   exact⟨bm,⟨ns,nm,qn,bs,hd,sn,sub,ab,col,dd,k0,k1,k2,k3,k5,_,kin _ _ look,.of_isNs (PySem.W.isNs_of_in kin nsok),PySem.W.nsMap_none_of_in kin nsok noinit⟩,PySem.W.tail_of_in kin tailok⟩
  ·cases hq
 ·cases hq
section
variable {X:Cx}
def zj6 (E:XK)(C:Addr)(t:TA):TS:=fun _ σ H=>t σ H fun vs H1=>vs.length<=sizeLine/\E (.ref C) none H1
theorem zhd {x:Str}{C:Addr}{np cpos pos:Pos}{e0:Expr}{rest:List Expr}{t:TA}{E:XK}(L:Yc X E)(O:Z0 X.K X.mg x C)(hg:Gl X x)(hc:X.calm=true)(ha:PA X (e0::rest) t)
  (he:starEach (e0::rest) X.env=(false,eval e0 X.env)::starEach rest X.env:=by rfl) (hp:(backTo cpos (starEach rest X.env)).any (·.1)=false:=by rfl) (hdb:(x==("__debug__":Str))=false:=by decide) :
  PS X (.Raise (some (.Call (.Name x np) (e0::rest) [] cpos)) none pos) (zj6 E C t):=by
 intro pins s σ H D I h
 obtain⟨bm,⟨N,nm,qn,bs,hdct,sn,sub,ab,col,dd,k0,k1,k2,k3,k5,mN,hC,hN,hni⟩,T⟩:=zhc I.ok.mod.kin O.q
 refine wpAny_Raise_call_subU (C:=C) (nm:=nm) (q:=qn) (N:=N) (bs:=bs) (bm:=bm) (hdct:=hdct) (sn:=sn) (sub:=sub) (ab:=ab) (col:=col) (dd:=dd) (k0:=k0) (k1:=k1) (k2:=k2) (k3:=k3) (k5:=k5)
  PySem.F.excBase_ValueError (by decide) PySem.F.excBase_ValueError (mN:=mN) (T.hasType PySem.F.excBase_ValueError.hasBase) (I.ok.hd hc) (by rw [he];show (false || (backTo cpos (starEach rest X.env)).any (·.1))=false;rw [hp];rfl) hni (JX I hg O.g ⟨rfl,?_⟩ hdb)
 have a:=ha cpos pins s σ H _ I h
 rw [he] at a ⊢
 refine Calls.evalArgs_plain (thn a fun us s2 ⟨vs,H1,I1,r,hz,q⟩=>?_)
 exact⟨rfl,by rw [<- r.length];exact hz,I1.bk _ _ hC,hN.keeps I1.bk,T.keeps I1.bk,fun h' e hx=>L.made I1 hx q⟩
noncomputable def markX (X:Cx)(e:Addr):Cx:={ X with A:=X.A.mark (some (.ref e)),calm:=false,xe:=fun _ _=>False }
variable {pins:List (Addr×Obj)}{σ:St}{H:Hp}{s:Shared}
theorem Cx.Ok.mark (ok:X.Ok)(e:Addr):(markX X e).Ok :=
 ⟨ok.mod,ok.kind,ok.glob,ok.blt,ok.above,ok.inj,ok.has,ok.cab,(fun z=>nomatch z),ok.frames,ok.stk,ok.exf,ok.bs,ok.bsz,ok.noex,ok.exfs,ok.funs,ok.frf⟩
theorem Inv.mark (I:Inv X pins σ H s)(e:Addr):Inv (markX X e) pins σ H s:=⟨I.ok.mark e,I.os,I.bare,I.base,I.loc,I.cell,I.free,I.yR,I.pin,I.hok,I.len⟩
theorem Inv.unmark {e:Addr}(I:Inv (markX X e) pins σ H s)(ok:X.Ok):Inv X pins σ H s:=⟨ok,I.os,I.bare,I.base,I.loc,I.cell,I.free,I.yR,I.pin,I.hok,I.len⟩
def zlP (e C:Addr)(h:Heap):Prop:=∃ob vs,h.get? e=some ob/\ob.cls=.ref C/\ob.data=.fields vs
noncomputable def exO (e C:Addr):HO:=.ext (zlP e C)
theorem Fly.caught {H1 H':Hp}{s1 s':Shared}{e C:Addr}{a0:Value}{B h:Heap}(I:Inv X pins σ H1 s1)(F:Fly X.prog X.w X.stack H1 s1 e C a0 B H' s')(fl:Heap.FlyingW B X.stack e (.ref C) a0 h)(up:s'.heap.UpToSlots h) :
  Inv X pins σ (upd H' e (exO e C)) { s' with heap:=h }:=by
 have ne:∀b o,s1.heap.get? b=some o->b≠e:=fun b o q z=>by
  rw [z,F.new] at q
  cases q
 have nt:∀b u,H' b=some u->b≠e:=fun b u q=>zj q F.free
 have slot:∀b o,s1.heap.get? b=some o->H1 b=none->b∈frs X.stack->∃sl,h.get? b=some { o with slots:=sl }:=fun b o q n hb=>by
  obtain⟨_,o1,q1,nf⟩:=I.stack.mem hb
  rw [q] at q1
  cases q1
  obtain⟨sl,q2⟩:=F.un.slot b o q n hb (fun z=>nomatch z)
  obtain⟨sl2,q3⟩:=up b _ q2 nf
  exact⟨sl2,q3⟩
 refine I.call' (ch:=[]) F.os ⟨fun b o q n hb _=>fl.1 b o (F.kB b o q n hb),fun b o q n hb _=>slot b o q n hb,fun b o q n _=>?_,fun b o q _=>?_,fun b xs q=>?_,fun b o u q=>?_,fun b ps q=>?_⟩ (fun b ob q=>?_) F.bare fun b z=>nomatch z
 ·rw [zo (ne b o q)]
  exact F.un.free b o q n fun z=>nomatch z
 ·by_cases hb:b∈frs X.stack
  ·obtain⟨sl,r⟩:=slot b o q (I.stkFree b hb) hb
   exact⟨_,r⟩
  ·obtain⟨o',r⟩:=F.tB b o q hb
   exact⟨o',fl.1 b o' r⟩
 ·have r:=F.un.tups b xs q
  rw [zo (nt b _ r)]
  exact r
 ·have r:=F.un.frzs b o u q
  rw [zo (nt b _ r)]
  exact r
 ·obtain⟨m,r⟩:=F.un.tbls b ps q
  exact⟨m,by rw [zo (nt b _ r)];exact r⟩
 ·by_cases hb:b=e
  ·subst hb
   rw [zb] at q
   cases q
   obtain⟨oe,vs,q1,q2,q3,_⟩:=fl.first
   exact⟨⟨oe,vs,q1,q2,q3⟩,⟨oe,q1⟩,fun g1 g2 ⟨o1,v1,r1,r2,r3⟩ k=>⟨o1,v1,k _ r1,r2,r3⟩⟩
  ·rw [zo hb] at q
   refine(F.ok b ob q).stay (fun c u _ r=>fl.1 c u r) (fun c r=>?_) fun c xs r=>?_
   ·rw [zo (nt c _ r)]
    exact r
   ·rw [zo (nt c _ r)]
    exact r
theorem ze7 {M:Model}{A:Around}{E:Value->Shared->Prop}{s:Shared}{S e C:Addr}{bm:List Value}{oe:Obj}{Q:Bool->Shared->Prop}(O:zjm s.heap S bm)(he:s.heap.get? e=some oe)(hcls:oe.cls=.ref C)
  (hL:PySem.W.Looks M s.heap (isSubtype (.ref C) (.ref S)) true) (hq:Q true s):wpAny M A (excMatches (.ref e) (.ref S)) Q E s:=by
 obtain⟨⟨N,nm,qn,bs,hdct,sn,sub,ab,col,dd,k0,k1,k2,k3,k5,mN,hS,hN,hni⟩,T⟩:=O
 have hb:=T.hasType PySem.F.excBase_ValueError.hasBase
 obtain⟨h,g,d,t,os⟩:=s
 have hcB:(Value.ref S::bm).contains (.type "BaseException")=true:=by rw [List.contains_cons,hb,Bool.or_true]
 have f:=tc_notTuple
 unfold excMatches
 repeat (first | (with_reducible refine wpAny_loadPart_at he ?_;rw [hcls]) | with_reducible refine wpAny_loadPart_at hS ?_ | (with_reducible refine wpAny_isSubtype_exc hS ?_;rw [hcB]) | wp_step)
 refine hL A _ E _ (fun _ _ q=>q) ?_
 rw [if_pos rfl]
 exact wpAny_pure (wpAny_pure (wpAny_pure hq))
end
theorem Fun.okX {P:Program}{w:World}{K:PySem.W.Frag}{mg:Str->Option Value}{base:Heap}{x qual:Str}{st:Stmt}{f:Addr}{fd:FuncData}{N ps:List Str}{k:Nat}{sp:Sp}(F:Fun K x qual st f fd)(S:zO N ps (zk st))(len:∀vs H Q E,sp vs H Q E->vs.length=ps.length)
  (hbody:∀(cdv:Value) (A:Around) (outer:List Env) (s:Shared) (H:Hp) (vs:List V) (Q:VK) (E:XK),Jv k (A.deeper (envOfC qual (zk st) s.heap.objs.size f cdv))->sp vs H Q E ->
   ∃t,PSs (zcQ (CXE P w) P w K mg base N qual (zk st) f cdv A outer s H E) (yp st) t/\t { nx:=fun _ H'=>Q .non H',rt:=Q } (start N vs) H):zQ P w K mg base (CXE P w) (k+1) f fd ps sp:=by
 obtain⟨oc,od,kV,doc,pm,an,cdv,ct,osl,rfl,lk,hcd⟩:=F.ex
 exact zjj lk hcd S len fun A outer s H vs Q E hr hsp=>hbody cdv A outer s H vs Q E hr hsp
section
variable {prog:Program}{w:World}{A:Around}{E:Value->Shared->Prop}{K:PySem.W.Frag}{e C:Addr}
end
section
variable {X:Cx}{tg iter elt:Expr}{ifs:List Expr}{scope:Scope}{pos:Pos}{N:List Str}{src:List (Option Nat)}{cl:List (Str×Addr)}{wi:TI}{g:TG}{tc:TT}{te:TE}
theorem ze8 {i:Nat}{x:Str}{xpos spos:Pos}(hN:X.N.Nodup)(hix:X.N[i]?=some x)(hlx:X.env.scope.names.lookup x=some .local)(ok:ql X N src scope cl)(hcalm:X.calm=true)(hi:PI X tg iter wi)
  (hg:∀C fp pins s H,PG (qI X N scope cl C fp pins s H) tg g) (hc:∀C fp pins s H,ziw (qI X N scope cl C fp pins s H) ifs tc) (he:∀C fp pins s H,PE (qI X N scope cl C fp pins s H) elt te)
  (hs:∀x,foldedSetIterable iter X.env x=pure x:=by intro _;rfl) (hsw:swapsWith (.ListComp elt [⟨tg,iter,ifs,0⟩] scope pos) (some (.Name x xpos)) spos.line X.env=pure true:=by rfl) :
  PS X (.Assign [.Name x xpos] (.ListComp elt [⟨tg,iter,ifs,0⟩] scope pos) spos) (zjO (zjl wi src g tc te) (ze1 i)):=by
 intro pins s σ H D I h
 rw [exec_Assign_Name_used _ _ _ _ hsw]
 refine wpAny_bind (wpAny_standAt (wpAny_bind ?_))
 unfold evalThenUse
 refine wpAny_bind (wpAny_mono (Q:=fun _ s''=>∃ σ' H',Inv X pins σ' H' s''/\D.nx σ' H') ?_ (fun _ s'' ⟨σ',H',I',q'⟩=>wpAny_pure (wpAny_pure ⟨σ',H',I',q'⟩)) fun _ _ z=>z)
 refine wpAny_comprehension_free (use:=some (assign (.Name x xpos) X.env)) rfl hs ok.clos ok.kind ok.names (thn (hi pins s σ H _ I h) fun xv s1 h1=>thn h1 fun itv s2 h2=>?_)
 obtain⟨it,fp,tn,J,H2,e,I2,T,st2,f2,q2⟩:=h2
 subst e
 refine wpAny_newObj_type (wpAny_newFunctionEnv ok.nocell (by intro y hy;simp at hy) (fun h₁ hns₁ hsb₁=>?_) ok.kind)
 dsimp only at hns₁ hsb₁ ⊢
 generalize hP:s2.heap.push { cls:=.type "list",dict:=none,data:=.seq ([]:List Value).toArray }=P2 at hns₁ hsb₁ ⊢
 have hC:P2.objs.size=s2.heap.objs.size+1:=by rw [<- hP,Heap.size_push]
 have k:∀b u,s2.heap.get? b=some u->h₁.get? b=some u:=fun b u e=>by
  have lt:=Heap.lt_size e
  exact(hsb₁.2 b (by rw [hC];exact ne_of_lt (lt_succ_of_lt lt))).trans (Heap.get?_push_of_some _ (hP ▸ Heap.get?_push_of_some _ e))
 have hD:h₁.get? s2.heap.objs.size=some { cls:=.type "list",data:=.seq #[] }:=(hsb₁.2 _ (by rw [hC];exact(succ_ne_self _).symm)).trans (Heap.get?_push_of_some _ (hP ▸ Heap.get?_push_size _ rfl))
 have ho:∀b∈fp,∃o,s2.heap.get? b=some o:=fun b hb=>let ⟨o,e,_⟩:=T.obj 0 _ st2 b hb;⟨o,e⟩
 obtain⟨W,⟨m0,w0⟩,turn⟩:=q2 s2.heap.objs.size (I2.hok.fresh (le_refl _))
 have I0:=Q8 (tk:=s2.toks+([]:List (Str×Value)).length) ok I2 f2 ho hC k hD hns₁
 have st0:tn 0 h₁:=T.keep 0 _ _ st2 fun b _ o e=>k b o e
 have fr0:∀b∈fp,upd H2 s2.heap.objs.size (.lst []) b=none:=fun b hb=>by
  obtain⟨o,e⟩:=ho b hb
  rw [zo (ne_of_lt (Heap.lt_size e))]
  exact(f2 b hb).1
 have stat:∀{H':Hp},(∀b∈fp,H' b=none)->∀b∈fp,QF (qI X N scope cl P2.objs.size fp pins s2 H2) [] H' b:=fun {H'} hn b hb=>by
  obtain⟨o,e⟩:=ho b hb
  have lt:=Heap.lt_size e
  refine⟨hn b hb,?_,fun z=>(List.mem_cons.mp (I2.stkSub b z)).elim (f2 b hb).2.1 (f2 b hb).2.2.1,.inl hb,fun x c z=>(f2 b hb).2.2.2.2.1 x c (ok.sub x c z),fun p hp=>?_⟩
  ·show b≠P2.objs.size
   rw [hC]
   exact ne_of_lt (lt_succ_of_lt lt)
  ·have hp':p∈X.pn++pins:=by
    have:p∈(X.pn++pins)++[]:=hp
    simpa using this
   exact(f2 b hb).2.2.2.2.2 p hp'
 have loop:∀s₃:Shared,s₃={ s2 with heap:=h₁,toks:=s2.toks+([]:List (Str×Value)).length } ->
   codeAny (model X.prog X.w) X.A (.compLoop (.ListComp elt [⟨tg,iter,ifs,0⟩] scope pos) 0 (.ref it) (.ref s2.heap.objs.size) (compEnvC scope cl P2.objs.size X.env))
    (compPost (model X.prog X.w) X.A X.xe (some (assign (.Name x xpos) X.env)) (fun _ s''=>∃ σ' H',Inv X pins σ' H' s''/\D.nx σ' H') (.ref s2.heap.objs.size) P2.objs.size) s₃:=by
  rintro s₃ rfl
  refine codeAny_loop rfl (fun n s'=>∃i σ' H',Inv (qI X N scope cl P2.objs.size fp pins s2 H2) [] σ' H' s'/\tn i s'.heap/\(∀b∈fp,H' b=none)/\W i n σ' H') ?_ m0 ⟨0,_,_,I0,st0,fr0,w0⟩
  rintro n s3 ⟨i,σ3,H3,I3,st3,fr3,w3⟩
  show wpAny _ X.A ((compTurn (.ListComp elt [⟨tg,iter,ifs,0⟩] scope pos) 0 (.ref it) (.ref s2.heap.objs.size) (compEnvC scope cl P2.objs.size X.env)).onRaise (fun x=>do noteFrame x (compEnvC scope cl P2.objs.size X.env);theTreesLotGoes x)) _ _ s3
  refine wpAny_noted ?_
  rw [compTurn_list]
  rcases turn i n σ3 H3 w3 with ⟨stop,qn⟩ | ⟨go,N',hN,step⟩
  ·refine wpAny_bind (wpAny_standAt (wpAny_bind (thn (T.done (qI X N scope cl P2.objs.size fp pins s2 H2) rfl rfl rfl hcalm i [] s3 σ3 H3 _ I3 (stat fr3) st3 stop) fun r s4 ⟨hr,I4⟩=>?_)))
   subst hr
   refine wpAny_pure ?_
   obtain⟨m,hm,_⟩:=I4.loc
   have leC:s2.heap.objs.size<=P2.objs.size:=by rw [hC];exact le_succ _
   have IX:Inv X pins σ H3 s4:=I2.call' (s':=s4) (ch:=fp) I4.os I4.base I4.hok I4.bare fun b hb=>⟨(f2 b hb).2.2.2.1,(f2 b hb).2.1,(f2 b hb).2.2.2.2.1,(f2 b hb).2.2.2.2.2⟩
   have cellLt:∀y c,X.env.cells.lookup y=some c->c≠P2.objs.size:=fun y c e z=>by
    obtain⟨_,o,e1,_⟩:=I2.cell y c e
    have:=Heap.lt_size e1
    rw [z] at this
    exact lt_irrefl _ (lt_of_lt_of_le this leC)
   have locNe:X.env.locals≠P2.objs.size:=fun z=>by
    have:=I2.lt
    rw [z] at this
    exact lt_irrefl _ (lt_of_lt_of_le this leC)
   refine wpAny_assign_Name (zbi IX hN hix (.inl hlx) (v:=.ref s2.heap.objs.size) rfl (fun s5 I5 ⟨a5,sb5,ha5⟩=>?_) (.inr hlx))
   have na:a5≠P2.objs.size:=by
    rcases ha5 with z | z
    ·rw [z]
     exact locNe
    ·exact cellLt _ _ z
   refine⟨m,hm.sameBut sb5 (Ne.symm na),fun h' sb=>⟨_,H3,?_,qn⟩⟩
   exact I5.turned (t':=s5.toks) (it:=P2.objs.size) (fun b o hb e=>(sb.2 b hb).trans e) I4.free (Ne.symm locNe) (.inr (le_trans I2.sz leC)) cellLt fun p hp z=>by
    obtain⟨e1,_⟩:=I2.pin p hp
    have:=Heap.lt_size e1
    rw [z] at this
    exact lt_irrefl _ (lt_of_lt_of_le this leC)
  ·refine wpAny_bind (wpAny_standAt (wpAny_bind (thn (T.item (qI X N scope cl P2.objs.size fp pins s2 H2) rfl rfl rfl hcalm i [] s3 σ3 H3 _ I3 (stat fr3) st3 go) fun r s4 ⟨u,hr,h4⟩=>?_)))
   subst hr
   dsimp only
   refine wpAny_bind (thn h4 fun _ s5 ⟨x,H5,I5,r5,y5,st5,fr5⟩=>?_)
   have I5':=I5.pinned (stat fr5) (T.obj _ _ st5)
   refine wpAny_bind (wpAny_mono (hg P2.objs.size fp pins s2 H2 _ s5 σ3 H5 x u _ I5' r5 (step x H5 y5)) (fun _ s6 ⟨σ6,H6,I6,q6⟩=>?_) fun _ _ z=>False.elim z)
   have again:∀{s7:Shared} {σ7:St} {H7:Hp},Inv (qI X N scope cl P2.objs.size fp pins s2 H2) ([]++Y7 fp s5.heap) σ7 H7 s7->N' σ7 H7->∃m,m<n/\∃i σ' H',Inv (qI X N scope cl P2.objs.size fp pins s2 H2) [] σ' H' s7/\tn i s7.heap/\(∀b∈fp,H' b=none)/\W i m σ' H':=fun {s7 σ7 H7} I7 n7=>by
    obtain⟨m',hm,w7⟩:=hN σ7 H7 n7
    refine⟨m',hm,i+1,σ7,H7,I7.unpinned,T.keep _ _ _ st5 fun b hb o e=>(I7.pin (b,o) (mem_append_right _ (mem_append_right _ (j8 hb e)))).1,fun b hb=>?_,w7⟩
    obtain⟨o,e,d⟩:=T.obj _ _ st5 b hb
    exact(I7.pin (b,o) (mem_append_right _ (mem_append_right _ (j8 hb e)))).2.1
   refine wpAny_bind (wpAny_mono (hc P2.objs.size fp pins s2 H2 _ s6 σ6 H6 _ I6 q6) (fun b s7 ⟨H7,I7,q7⟩=>?_) fun _ _ z=>False.elim z)
   cases b with
   | false =>
    rw [if_neg Bool.false_ne_true] at q7
    exact wpAny_pure ⟨rfl,again I7 q7⟩
   | true =>
    rw [if_pos rfl] at q7
    refine wpAny_bind (wpAny_bind (wpAny_mono (he P2.objs.size fp pins s2 H2 _ s7 σ6 H7 _ I7 q7) (fun y s8 ⟨v8,H8,I8,r8,ys,hys,hlen,q8⟩=>?_) fun _ _ z=>False.elim z))
    refine wpAny_bind (wpAny_mono (jj (X:=qI X N scope cl P2.objs.size fp pins s2 H2) _ s8 σ6 H8 (.ref s2.heap.objs.size) [v8] (.ref s2.heap.objs.size) [y] (fun _ H9=>N' σ6 H9) I8 rfl (.cons r8 .nil) ⟨_,ys,v8,rfl,rfl,hys,hlen,q8⟩) (fun _ s9 ⟨v9,H9,I9,_,q9⟩=>?_) fun _ _ z=>False.elim z)
    exact wpAny_pure (wpAny_pure ⟨rfl,again I9 q9⟩)
 exact codeAny_compStart_list (loop _ rfl) (T.self _ 0 _ _ _ st0 (loop _ rfl))
end
open PySem PyProof.Rows PySem.W
section
variable {n:Nat}{lt:Nat->Nat->Bool}{cmp:Nat->Nat->(Bool->Shared->Prop)->Shared->Prop}{s:Shared}
structure Ord (n:Nat)(lt:Nat->Nat->Bool):Prop where
 tot:∀i j,i<n->j<n->i≠j->lt j i=!lt i j
 tr:∀i j k,i<n->j<n->k<n->lt i j=true->lt j k=true->lt i k=true
def Mix (n:Nat)(p:Array Nat):Prop:=p.toList.Perm (List.range n)
theorem Mix.size {p:Array Nat}(h:Mix n p):p.size=n:=by
 have:=h.length_eq
 rwa [length_range,length_toList] at this
theorem getD_at {p:Array Nat}{i:Nat}(h:i<p.size):p[i]?=some (p.getD i 0):=by
 rw [Array.getElem?_eq_getElem h]
 simp [Array.getD,h]
theorem Mix.below {p:Array Nat}(h:Mix n p){i:Nat}(hi:i<n):p.getD i 0<n:=by
 have e:=getD_at (p:=p) (i:=i) (by rw [h.size];exact hi)
 have m:p.getD i 0∈p.toList:=mem_of_getElem? (by rw [getElem?_toList];exact e)
 exact List.mem_range.mp (h.mem_iff.mp m)
theorem Mix.ne {p:Array Nat}(h:Mix n p){i j:Nat}(hi:i<n)(hj:j<n)(hij:i≠j):p.getD i 0≠p.getD j 0:=by
 intro e
 have nd:p.toList.Nodup:=h.nodup_iff.mpr List.nodup_range
 have hz:=h.size
 have e1:p.toList[i]'(by rw [length_toList];omega)=p.getD i 0:=by
  have:=getD_at (p:=p) (i:=i) (by omega)
  rw [<- getElem?_toList,getElem?_eq_getElem (by rw [length_toList];omega)] at this
  exact Option.some.inj this
 have e2:p.toList[j]'(by rw [length_toList];omega)=p.getD j 0:=by
  have:=getD_at (p:=p) (i:=j) (by omega)
  rw [<- getElem?_toList,getElem?_eq_getElem (by rw [length_toList];omega)] at this
  exact Option.some.inj this
 exact hij ((List.getElem_inj nd).mp (by rw [e1,e2,e]))
def Asc (lt:Nat->Nat->Bool)(p:Array Nat)(m:Nat):Prop:=∀i j,i<j->j<m->lt (p.getD i 0) (p.getD j 0)=true
theorem zea (O:Ord n lt){p:Array Nat}(M:Mix n p):∀{m:Nat},m<=n->(∀i,1<=i->i<m->lt (p.getD (i-1) 0) (p.getD i 0)=true)->Asc lt p m
 | 0,_,_=>fun _ _ _ h=>absurd h (by omega)
 | m+1,hm,h=>by
  have ih:=zea O M (m:=m) (by omega) fun i h1 h2=>h i h1 (by omega)
  intro i j hij hj
  by_cases e:j=m
  ·subst e
   by_cases e2:i=j-1
   ·subst e2
    exact h j (by omega) (by omega)
   ·exact O.tr _ _ _ (M.below (by omega)) (M.below (i:=j-1) (by omega)) (M.below (by omega)) (ih i (j-1) (by omega) (by omega)) (h j (by omega) (by omega))
  ·exact ih i j hij (by omega)
def zeb (n:Nat)(lt:Nat->Nat->Bool)(cmp:Nat->Nat->(Bool->Shared->Prop)->Shared->Prop)(s:Shared):Prop:=∀i j,i<n->j<n->i≠j->∀C:Bool->Shared->Prop,C (lt i j) s->cmp i j C s
theorem zec (S:zeb n lt cmp s){p:Array Nat}(M:Mix n p){G:Nat->Shared->Prop}:∀(f m:Nat),1<=m->m+f<=n ->
  (∀k,m<=k->k<=m+f->(∀i,m<=i->i<k->lt (p.getD i 0) (p.getD (i-1) 0)=false)->(k<m+f->lt (p.getD k 0) (p.getD (k-1) 0)=true)->G k s)->(kas_asc p f m).kasWp cmp G s
 | 0,m,_,_,h=>h m (le_refl _) (le_refl _) (fun i h1 h2=>absurd h2 (by omega)) (fun z=>absurd z (by omega))
 | f+1,m,h1,hm,h=>by
  refine S _ _ (M.below (by omega)) (M.below (by omega)) (M.ne (by omega) (by omega) (by omega)) _ ?_
  cases e:lt (p.getD m 0) (p.getD (m-1) 0) with
  | true=>exact h m (le_refl _) (by omega) (fun i a b=>absurd b (by omega)) fun _=>e
  | false =>
   refine zec S M f (m+1) (by omega) (by omega) fun k a b c d=>h k (by omega) (by omega) (fun i x y=>?_) fun z=>d (by omega)
   by_cases ei:i=m
   ·subst ei
    exact e
   ·exact c i (by omega) y
theorem ze9 (O:Ord n lt)(S:zeb n lt cmp s){p:Array Nat}(M:Mix n p){G:Array Nat×Nat×Nat->Shared->Prop}:∀(f m:Nat),1<=m->m+f<=n ->
  (∀k,m<=k->k<=m+f->(∀i,m<=i->i<k->lt (p.getD i 0) (p.getD (i-1) 0)=true)->G (p,k,0) s)->(kas_desc f p m 0).kasWp cmp G s
 | 0,m,_,_,h=>h m (le_refl _) (le_refl _) fun i a b=>absurd b (by omega)
 | f+1,m,h1,hm,h=>by
  refine S _ _ (M.below (by omega)) (M.below (by omega)) (M.ne (by omega) (by omega) (by omega)) _ ?_
  cases e:lt (p.getD m 0) (p.getD (m-1) 0) with
  | true =>
   show (if 0>0 then kas_desc f (kas_rev p (m-(0+1)) m) (m+1) 0 else kas_desc f p (m+1) 0).kasWp cmp G s
   rw [if_neg (by decide)]
   refine ze9 O S M f (m+1) (by omega) (by omega) fun k a b c=>h k (by omega) (by omega) fun i x y=>?_
   by_cases ei:i=m
   ·subst ei
    exact e
   ·exact c i (by omega) y
  | false =>
   have e2:lt (p.getD (m-1) 0) (p.getD m 0)=true:=by
    rw [O.tot _ _ (M.below (i:=m) (by omega)) (M.below (i:=m-1) (by omega)) (M.ne (by omega) (by omega) (by omega)),e]
    rfl
   refine S _ _ (M.below (i:=m-1) (by omega)) (M.below (by omega)) (M.ne (by omega) (by omega) (by omega)) _ ?_
   rw [e2]
   exact h m (le_refl _) (by omega) fun i a b=>absurd b (by omega)
theorem Mix.rev {p:Array Nat}(M:Mix n p)(i j:Nat):Mix n (kas_rev p i j):=(Array.perm_iff_toList_perm.mp (mirror_perm p i j _)).trans M
theorem zhe {p:Array Nat}{m i:Nat}(hm:m<=p.size)(hi:i<m):(kas_rev p 0 m).getD i 0=p.getD (m-1-i) 0:=by
 have e:=getElem?_mirror_all (xs:=p) (i:=0) (j:=m) hm i
 rw [if_pos ⟨zero_le _,hi⟩,zero_add,getD_at (p:=p) (i:=m-1-i) (by omega)] at e
 have e2:=getD_at (p:=kas_rev p 0 m) (i:=i) (by show i<(mirror p 0 m _).size;rw [mirror_size];omega)
 exact Option.some.inj (e2.symm.trans e)
theorem zhf (O:Ord n lt)(S:zeb n lt cmp s){p:Array Nat}(M:Mix n p){m:Nat}(h1:1<=m)(hm:m<=n)(hd:∀i,1<=i->i<m->lt (p.getD i 0) (p.getD (i-1) 0)=true){G:Nat×Array Nat->Shared->Prop}
  (h:∀k p',1<=k->k<=n->Mix n p'->Asc lt p' k->G (k,p') s):(kas_tail3 m n p).kasWp cmp G s:=by
 have hz:=M.size
 have M':=M.rev 0 m
 unfold kas_tail3
 rw [KasT.kasWp_bind]
 refine zec S M' (n-m) m h1 (by omega) fun k a b c _=>h k _ (by omega) (by omega) M' (zea O M' (by omega) fun i x y=>?_)
 by_cases ei:i<m
 ·rw [zhe (by omega) (show i-1<m by omega),zhe (by omega) ei]
  have:=hd (m-i) (by omega) (by omega)
  rw [show m-1-(i-1)=m-i by omega,show m-1-i=m-i-1 by omega]
  exact this
 ·have:=c i (by omega) y
  rw [O.tot _ _ (M'.below (i:=i) (by omega)) (M'.below (i:=i-1) (by omega)) (M'.ne (by omega) (by omega) (by omega)),this]
  rfl
theorem zhg (O:Ord n lt)(S:zeb n lt cmp s){p:Array Nat}(M:Mix n p)(h2:2<=n){G:Nat×Array Nat->Shared->Prop}(h:∀k p',1<=k->k<=n->Mix n p'->Asc lt p' k->G (k,p') s):(kas_count n p).kasWp cmp G s:=by
 unfold kas_count
 rw [KasT.kasWp_bind]
 refine zec S M (n-1) 1 (le_refl _) (by omega) fun k a b c d=>?_
 have hA:Asc lt p k:=zea O M (by omega) fun i x y=>by
  have:=c i x y
  rw [O.tot _ _ (M.below (i:=i) (by omega)) (M.below (i:=i-1) (by omega)) (M.ne (by omega) (by omega) (by omega)),this]
  rfl
 by_cases e:k=n
 ·subst e
  rw [if_pos (by simp)]
  exact h k p a (by omega) M hA
 ·rw [if_neg (by simpa using e)]
  by_cases k1:k>1
  ·rw [if_pos k1]
   refine S _ _ (M.below (by omega)) (M.below (by omega)) (M.ne (by omega) (by omega) (by omega)) _ ?_
   rw [hA 0 (k-1) (by omega) (by omega)]
   exact h k p a (by omega) M hA
  ·rw [if_neg k1]
   have ek:k=1:=by omega
   subst ek
   unfold kas_descPart
   rw [KasT.kasWp_bind]
   refine ze9 O S M (n-(1+1)) (1+1) (by omega) (by omega) fun k a b c=>?_
   show (if 0>0 then kas_tail3 k n (kas_rev p (k-(0+1)) k) else kas_tail3 k n p).kasWp cmp G s
   rw [if_neg (by decide)]
   refine zhf O S M (by omega) (by omega) (fun i x y=>?_) h
   by_cases ei:i=1
   ·subst ei
    exact d (by omega)
   ·exact c i (by omega) y
theorem zac (O:Ord n lt)(S:zeb n lt cmp s){p:Array Nat}(M:Mix n p){k:Nat}(hk:k<n)(hA:Asc lt p k){G:Nat->Shared->Prop}
  (h:∀l,l<=k->(∀i,i<l->lt (p.getD i 0) (p.getD k 0)=true)->(∀i,l<=i->i<k->lt (p.getD k 0) (p.getD i 0)=true)->G l s) :
  ∀(f l r:Nat),l<=r->r<=k->r-l<=f->(∀i,i<l->lt (p.getD i 0) (p.getD k 0)=true)->(∀i,r<=i->i<k->lt (p.getD k 0) (p.getD i 0)=true)->(kas_place p k f l r).kasWp cmp G s
 | 0,l,r,hlr,hr,hf,a,b=>h l (by omega) a fun i x y=>b i (by omega) y
 | f+1,l,r,hlr,hr,hf,a,b=>by
  unfold kas_place
  by_cases c:l >= r
  ·rw [if_pos c]
   exact h l (by omega) a fun i x y=>b i (by omega) y
  ·rw [if_neg c]
   refine S _ _ (M.below (by omega)) (M.below (by omega)) (M.ne (by omega) (by omega) (by omega)) _ ?_
   cases e:lt (p.getD k 0) (p.getD ((l+r)/2) 0) with
   | true =>
    refine zac O S M hk hA h f l ((l+r)/2) (by omega) (by omega) (by omega) a fun i x y=>?_
    by_cases ei:i=(l+r)/2
    ·subst ei
     exact e
    ·exact O.tr _ _ _ (M.below (by omega)) (M.below (i:=(l+r)/2) (by omega)) (M.below (by omega)) e (hA _ _ (by omega) y)
   | false =>
    have e2:lt (p.getD ((l+r)/2) 0) (p.getD k 0)=true:=by
     rw [O.tot _ _ (M.below (i:=k) (by omega)) (M.below (i:=(l+r)/2) (by omega)) (M.ne (by omega) (by omega) (by omega)),e]
     rfl
    refine zac O S M hk hA h f ((l+r)/2+1) r (by omega) hr (by omega) (fun i x=>?_) b
    by_cases ei:i=(l+r)/2
    ·subst ei
     exact e2
    ·exact O.tr _ _ _ (M.below (by omega)) (M.below (i:=(l+r)/2) (by omega)) (M.below (by omega)) (hA _ _ (by omega) (by omega)) e2
theorem zhh {p:Array Nat}{k l i:Nat}(hk:k<p.size)(hl:l<=k)(hi:i<p.size):(bubble p k (k-l)).getD i 0=if i=l then p.getD k 0 else if l<i/\i<=k then p.getD (i-1) 0 else p.getD i 0:=by
 have e:=getElem?_bubble hk (k-l) (by omega) i
 rw [show k-(k-l)=l by omega,getD_at (p:=bubble p k (k-l)) (i:=i) (by rw [bubble_size];exact hi),getD_at hk,getD_at hi] at e
 by_cases c1:i=l
 ·rw [if_pos c1] at e ⊢
  exact Option.some.inj e
 ·rw [if_neg c1] at e ⊢
  by_cases c2:l<i/\i<=k
  ·rw [if_pos c2,getD_at (p:=p) (i:=i-1) (by omega)] at e
   rw [if_pos c2]
   exact Option.some.inj e
  ·rw [if_neg c2] at e ⊢
   exact Option.some.inj e
theorem Mix.bub {p:Array Nat}(M:Mix n p)(k d:Nat):Mix n (bubble p k d):=(Array.perm_iff_toList_perm.mp (bubble_perm p k d)).trans M
theorem zhi (O:Ord n lt)(S:zeb n lt cmp s){G:Array Nat->Shared->Prop}(h:∀p',Mix n p'->Asc lt p' n->G p' s):∀(f:Nat) (p:Array Nat) (k:Nat),Mix n p->k+f=n->Asc lt p k->(kas_bin f p k).kasWp cmp G s
 | 0,p,k,M,hk,hA=>h p M (by rw [show n=k by omega];exact hA)
 | f+1,p,k,M,hk,hA=>by
  have hz:=M.size
  unfold kas_bin
  rw [KasT.kasWp_bind]
  refine zac O S M (by omega) hA (fun l hl a b=>?_) k 0 k (zero_le _) (le_refl _) (by omega) (fun i x=>absurd x (by omega)) (fun i x y=>absurd y (by omega))
  refine zhi O S h f _ (k+1) (M.bub k (k-l)) (by omega) fun i j hij hj=>?_
  rw [zhh (by omega) hl (by omega),zhh (by omega) hl (by omega)]
  by_cases ci:i=l
  ·rw [if_pos ci,if_neg (by omega),if_pos ⟨by omega,by omega⟩]
   exact b (j-1) (by omega) (by omega)
  ·rw [if_neg ci]
   by_cases cj:j=l
   ·rw [if_pos cj,if_neg (by omega)]
    exact a i (by omega)
   ·rw [if_neg cj]
    by_cases c2:l<j/\j<=k
    ·rw [if_pos c2]
     by_cases c3:l<i/\i<=k
     ·rw [if_pos c3]
      exact hA _ _ (by omega) (by omega)
     ·rw [if_neg c3]
      exact hA _ _ (by omega) (by omega)
    ·rw [if_neg c2]
     by_cases c3:l<i/\i<=k
     ·omega
     ·rw [if_neg c3]
      exact hA _ _ hij (by omega)
theorem ziB (O:Ord n lt)(S:zeb n lt cmp s)(h2:2<=n){G:Array Nat->Shared->Prop}(h:∀p',Mix n p'->Asc lt p' n->G p' s):(kas_sort n).kasWp cmp G s:=by
 unfold kas_sort
 rw [KasT.kasWp_bind]
 have M0:Mix n (List.toArray (List.range n)):=by
  show (List.toArray (List.range n)).toList.Perm _
  rw [List.toList_toArray]
 refine zhg O S M0 h2 fun k p' a b M hA=>?_
 by_cases c:k<n
 ·show (if k<n then kas_bin (n-max k 1) p' (max k 1) else KasT.ret p').kasWp cmp G s
  rw [if_pos c]
  rw [show max k 1=k by omega]
  exact zhi O S h _ _ _ M (by omega) hA
 ·show (if k<n then kas_bin (n-max k 1) p' (max k 1) else KasT.ret p').kasWp cmp G s
  rw [if_neg c]
  exact h p' M (by rw [show n=k by omega];exact hA)
end
theorem Zv {α β:Type}{R:α->β->Prop}(da:α)(db:β){xs:List α}{ys:List β}(h:Paired R xs ys):∀(q:List Nat),(∀i∈q,i<xs.length)->Paired R (q.map fun i=>xs.getD i da) (q.map fun i=>ys.getD i db)
 | [],_=>.nil
 | i::q,hq=>by
  refine .cons ?_ (Zv da db h q fun j hj=>hq j (mem_cons_of_mem _ hj))
  have hi:=hq i mem_cons_self
  clear hq
  induction h generalizing i with
  | nil=>exact absurd hi (by simp)
  | cons r t ih =>
   cases i with
   | zero=>exact r
   | succ i =>
    have:=ih i (by simpa using hi)
    simpa using this
theorem zad {α:Type}(d:α)(xs:List α):((List.range xs.length).map fun i=>xs.getD i d)=xs:=by
 refine List.ext_getElem (by simp) fun i h1 h2=>?_
 simp [h2]
theorem ziC (p:Int×Int):lt2 p p=false:=by
 unfold lt2
 rw [if_pos rfl,decide_eq_false (by omega)]
theorem zb8 {p q:Int×Int}(h:p≠q):lt2 q p=!lt2 p q:=by
 unfold lt2
 obtain⟨a,b⟩:=p
 obtain⟨c,d⟩:=q
 simp only
 by_cases e:a=c
 ·subst e
  rw [if_pos rfl,if_pos rfl]
  have hb:b≠d:=fun z=>h (by rw [z])
  by_cases l:b<d
  ·rw [decide_eq_true l,decide_eq_false (by omega)]
   rfl
  ·rw [decide_eq_false l,decide_eq_true (by omega)]
   rfl
 ·rw [if_neg e,if_neg (fun z=>e z.symm)]
  by_cases l:a<c
  ·rw [decide_eq_true l,decide_eq_false (by omega)]
   rfl
  ·rw [decide_eq_false l,decide_eq_true (by omega)]
   rfl
theorem zed {p q r:Int×Int}(h1:lt2 p q=true)(h2:lt2 q r=true):lt2 p r=true:=by
 unfold lt2 at *
 obtain⟨a,b⟩:=p
 obtain⟨c,d⟩:=q
 obtain⟨e,f⟩:=r
 simp only at *
 by_cases e1:a=c
 ·subst e1
  rw [if_pos rfl,decide_eq_true_eq] at h1
  by_cases e2:a=e
  ·subst e2
   rw [if_pos rfl,decide_eq_true_eq] at h2 ⊢
   omega
  ·rw [if_neg e2] at h2 ⊢
   exact h2
 ·rw [if_neg e1,decide_eq_true_eq] at h1
  by_cases e2:c=e
  ·subst e2
   rw [if_neg e1,decide_eq_true_eq]
   exact h1
  ·rw [if_neg e2,decide_eq_true_eq] at h2
   rw [if_neg (by omega),decide_eq_true_eq]
   omega
def Up2 (ps:List (Int×Int)):Prop:=ps.Pairwise fun p q=>lt2 p q=true
section
variable {X:Cx}
theorem YG:jn X (.builtin "sorted") (fun xs H Q=>∃l us ps,xs=[.ref l]/\SqL X.K H l us/\Jx H us ps/\ps.Nodup/\us.length<64 /\
  ∀d us' ps',H d=none->Jx H us' ps'->ps'.Perm ps->Up2 ps'->Q (.ref d) (upd H d (.lst us'))):=by
 intro pins s σ H xs us' Q I r h
 obtain⟨l,us,ps,rfl,hq,ht,hnd,h64,q⟩:=h
 obtain⟨u,rfl,ru⟩:=vals1 r
 cases ru
 obtain⟨its,rv,pl,hz⟩:=I.list hq
 have hl:=rv.length
 have hp:=Jx.pairs I ht rv
 have hlp:its.length=ps.length:=Paired.length hp
 have at_:∀{i:Nat},i<its.length->ps[i]?=some (ps.getD i (0,0)):=fun {i} hi=>by
  rw [getElem?_eq_getElem (by omega)]
  simp [List.getD,getElem?_eq_getElem (show i<ps.length by omega)]
 have O:Ord its.length (fun i j=>lt2 (ps.getD i (0,0)) (ps.getD j (0,0))):=by
  refine⟨fun i j hi hj hij=>zb8 fun e=>hij ?_,fun i j k _ _ _ a b=>zed a b⟩
  have e1:=at_ hi
  have e2:=at_ hj
  rw [getElem?_eq_getElem (by omega)] at e1 e2
  exact(List.getElem_inj hnd).mp ((Option.some.inj e1).trans (e.trans (Option.some.inj e2).symm))
 refine zg5 (vs:=its) pl.isList (by omega) (fun p=>Mix its.length p/\Asc (fun i j=>lt2 (ps.getD i (0,0)) (ps.getD j (0,0))) p its.length) (fun h2=>⟨?_,fun i j hij hj=>absurd hij (by omega)⟩) (fun h2 s' kk=>?_) fun p h' c hps hg kk ha=>?_
 ·show (List.toArray (List.range its.length)).toList.Perm _
  rw [List.toList_toArray]
 ·have hp':=Yb kk hp
  obtain⟨fs,hk,hfl,hint⟩:=yZ hp'
  refine kat_kind (T:=.type "int") hk (by omega) (fun v hv=>?_) (by decide) ⟨rfl,ziB O (fun i j hi hj _ C hC=>?_) h2 fun p' M hA=>⟨rfl,M,hA⟩⟩
  ·obtain⟨x,t,rfl⟩:=hint v hv
   exact Looks.of_pure rfl
  ·unfold kas_cmp
   rw [kas_item_eq,kas_item_eq]
   show wpAny _ _ (keyLt' (tuples' true) (its.getD i Value.none) (its.getD j Value.none)) C _ _
   exact zb7 (Qa hp' (at_ hi)) (Qa hp' (at_ hj)) hC
 ·obtain⟨M,hA⟩:=hg
  have hm:∀i∈p.toList,i<its.length:=fun i hi=>List.mem_range.mp (M.mem_iff.mp hi)
  have hD:H (s.heap.objs.size+1)=none:=I.hok.fresh (le_succ _)
  have rv':Vals (p.toList.map fun i=>us.getD i V.non) (p.toList.map fun i=>its.getD i Value.none):=Zv V.non Value.none rv p.toList fun i hi=>by rw [hl];exact hm i hi
  have ht':Jx H (p.toList.map fun i=>us.getD i V.non) (p.toList.map fun i=>ps.getD i (0,0)):=Zv V.non (0,0) ht p.toList fun i hi=>by rw [hl];exact hm i hi
  have zcY:(p.toList.map fun i=>ps.getD i (0,0)).Perm ps:=by
   have:=List.Perm.map (fun i=>ps.getD i (0,0)) M
   rw [hlp,zad] at this
   exact this
  have hup:Up2 (p.toList.map fun i=>ps.getD i (0,0)):=by
   unfold Up2
   rw [List.pairwise_iff_getElem]
   intro i j hi hj hij
   rw [length_map,length_toList] at hi hj
   have:=hA i j hij (by omega)
   simp only [List.getElem_map,getElem_toList]
   simpa [Array.getD,hi,hj] using this
  refine⟨.ref (s.heap.objs.size+1),upd H (s.heap.objs.size+1) (.lst (p.toList.map fun i=>us.getD i V.non)),I.laid (t':=s.toks) kk (le_succ _) ⟨?_,_,c,rv',ha⟩,rfl,q _ _ _ hD ht' zcY hup⟩
  rw [length_map,length_toList,hps]
  exact le_trans (show its.length<=64 by omega) (by decide)
end
section
variable {κ:Type} [DecidableEq κ]
noncomputable def qV (kvs:List (κ × V))(k:κ):Option V:=(kvs.find? fun kv=>decide (kv.1=k)).map (·.2)
noncomputable def putK (kvs:List (κ × V))(k:κ)(v:V):List (κ × V) :=
 if (kvs.any fun kv=>decide (kv.1=k))=true then kvs.map (fun kv=>if kv.1=k then (kv.1,v) else kv) else kvs++[(k,v)]
theorem jd {p:κ × V}{r:List (κ × V)}{k:κ}(e:p.1=k):qV (p::r) k=some p.2:=by simp [qV,find?_cons,e]
theorem je {p:κ × V}{r:List (κ × V)}{k:κ}(e:¬ p.1=k):qV (p::r) k=qV r k:=by simp [qV,find?_cons,e]
theorem YH (k:κ):∀kvs:List (κ × V),(kvs.any fun kv=>decide (kv.1=k))=(qV kvs k).isSome
 | []=>rfl
 | p::r=>by
  rw [any_cons]
  by_cases e:p.1=k
  ·simp only [jd e,decide_eq_true e,Bool.true_or,Option.isSome_some]
  ·rw [je e,decide_eq_false e,Bool.false_or];exact YH k r
theorem zcZ (k j:κ)(y:V):∀kvs:List (κ × V),qV (kvs.map fun kv=>if kv.1=k then (kv.1,y) else kv) j=(qV kvs j).map fun x=>if j=k then y else x
 | []=>rfl
 | p::r=>by
  have ih:=zcZ k j y r
  rw [map_cons]
  by_cases h:p.1=k
  ·rw [if_pos h]
   by_cases e:p.1=j
   ·rw [jd (p:=(p.1,y)) e,jd e,map_some,if_pos (e.symm.trans h)]
   ·rw [je (p:=(p.1,y)) e,je e,ih]
  ·rw [if_neg h]
   by_cases e:p.1=j
   ·rw [jd (p:=p) e,jd e,map_some,if_neg (fun z=>h (e.trans z))]
   ·rw [je (p:=p) e,je e,ih]
theorem zbs (k j:κ)(y:V):∀kvs:List (κ × V),qV kvs k=none->qV (kvs++[(k,y)]) j=if j=k then some y else qV kvs j
 | [],_=>by
  by_cases e:k=j
  ·rw [if_pos e.symm];exact jd (p:=(k,y)) e
  ·rw [if_neg (fun z=>e z.symm)];exact je (p:=(k,y)) e
 | p::r,hn=>by
  rw [List.cons_append]
  have hk:¬ p.1=k:=fun z=>by rw [jd z] at hn;cases hn
  rw [je hk] at hn
  have ih:=zbs k j y r hn
  by_cases e:p.1=j
  ·rw [jd e,jd e,if_neg (fun z=>hk (e.trans z))]
  ·rw [je e,je e,ih]
theorem zc0 (kvs:List (κ × V))(k j:κ)(y:V):qV (putK kvs k y) j=if j=k then some y else qV kvs j:=by
 unfold putK
 by_cases a:(kvs.any fun kv=>decide (kv.1=k))=true
 ·rw [if_pos a,zcZ]
  rw [YH] at a
  by_cases e:j=k
  ·obtain⟨x,hx⟩:=Option.isSome_iff_exists.mp a
   rw [if_pos e,e,hx,map_some,if_pos rfl]
  ·rw [if_neg e]
   cases qV kvs j with
   | none=>rfl
   | some x=>rw [map_some,if_neg e]
 ·rw [if_neg a]
  refine zbs k j y kvs ?_
  rw [YH] at a
  cases q:qV kvs k with
  | none=>rfl
  | some x=>rw [q] at a;exact(a rfl).elim
theorem Zw (kvs:List (κ × V))(k:κ)(v:V):(putK kvs k v).length<=kvs.length+1:=by
 unfold putK
 split
 ·rw [length_map];omega
 ·rw [length_append,length_cons,length_nil];omega
theorem zbZ.isSome_eq {o:Option V}{u:Option Value}(r:zbZ o u):o.isSome=u.isSome:=by
 cases o with
 | none=>cases u with
  | none=>rfl
  | some _=>exact(show False from r).elim
 | some _=>cases u with
  | none=>exact(show False from r).elim
  | some _=>rfl
theorem zbZ.getD {o:Option V}{u:Option Value}{d:V}{d':Value}(r:zbZ o u)(rd:RelV d d'):RelV (o.getD d) (u.getD d'):=by
 cases o with
 | none=>cases u with
  | none=>exact rd
  | some _=>exact(show False from r).elim
 | some _=>cases u with
  | none=>exact(show False from r).elim
  | some _=>exact r
theorem KV.val {kvs:List (κ × V)}{vs:List (κ × Value)}(r:KV kvs vs)(k:κ):zbZ (qV kvs k) (valueAt vs k):=by
 unfold KV at r
 induction r with
 | nil=>exact True.intro
 | @cons p q ps qs h t ih =>
  obtain⟨h1,h2⟩:=h
  by_cases e:p.1=k
  ·have e':q.1=k:=h1.symm.trans e
   have b:valueAt (q::qs) k=some q.2:=by simp [valueAt,find?_cons,e']
   rw [jd e,b];exact h2
  ·have e':¬ q.1=k:=fun z=>e (h1.trans z)
   have b:valueAt (q::qs) k=valueAt qs k:=by simp [valueAt,find?_cons,e']
   rw [je e,b];exact ih
theorem KV.any {kvs:List (κ × V)}{vs:List (κ × Value)}(r:KV kvs vs)(k:κ):(kvs.any fun kv=>decide (kv.1=k))=vs.any fun kv=>decide (kv.1=k):=by
 unfold KV at r
 induction r with
 | nil=>rfl
 | cons h t ih=>rw [any_cons,any_cons,ih,h.1]
theorem KV.repl {kvs:List (κ × V)}{vs:List (κ × Value)}(r:KV kvs vs)(k:κ){y:V}{u:Value}(ry:RelV y u) :
  KV (kvs.map fun kv=>if kv.1=k then (kv.1,y) else kv) (vs.map fun kv=>if kv.1=k then (kv.1,u) else kv):=by
 unfold KV at r ⊢
 induction r with
 | nil=>exact .nil
 | @cons p q ps qs h t ih =>
  rw [map_cons,map_cons]
  refine .cons ?_ ih
  obtain⟨h1,h2⟩:=h
  by_cases e:p.1=k
  ·rw [if_pos e,if_pos (h1.symm.trans e)];exact⟨h1,ry⟩
  ·rw [if_neg e,if_neg (fun z=>e (h1.trans z))];exact⟨h1,h2⟩
theorem KV.put {kvs:List (κ × V)}{vs:List (κ × Value)}(r:KV kvs vs)(k:κ){y:V}{u:Value}(ry:RelV y u):KV (putK kvs k y) (stored vs k u):=by
 unfold putK stored
 rw [r.any k]
 by_cases e:(vs.any fun kv=>decide (kv.1=k))=true
 ·rw [if_pos e,if_pos e];exact r.repl k ry
 ·rw [if_neg e,if_neg e];exact Paired.snoc r ⟨rfl,ry⟩
end
theorem zfa {P:Program}{w:World}{k:Key}{u:Value}(r:RelV (kV k) u):(zR P w).is k u=true:=by
 cases k with
 | inl i=>obtain⟨t,e⟩:=(show ∃t,u=Value.int i t from r);subst e;exact zcK P w i t
 | inr x=>obtain⟨t,e⟩:=(show ∃t,u=Value.str x t from r);subst e;exact zcL P w x t
theorem zbt {P:Program}{w:World}:∀{ks:List Key} {us:List Value},Vals (ks.map kV) us->ItemsAre (zR P w) ks us
 | [],_,r=>by rw [map_nil] at r;cases r;exact .nil
 | k::ks,_,r=>by
  rw [map_cons] at r
  cases r with
  | cons h t=>exact .cons (zfa h) (zbt t)
abbrev KT (H:Hp):List (List Key×V)->List (List Key×Addr×Value)->Prop:=Paired fun p q=>p.1=q.1/\H q.2.1=some (.tup (p.1.map kV))/\RelV p.2 q.2.2
theorem KT.val {H:Hp}{kvs:List (List Key×V)}{xs:List (List Key×Addr×Value)}(r:KT H kvs xs)(k:List Key):zbZ (qV kvs k) ((atKey xs k).map (·.2)):=by
 induction r with
 | nil=>exact True.intro
 | @cons p q ps qs h t ih =>
  obtain⟨h1,_,h2⟩:=h
  by_cases e:p.1=k
  ·have e':q.1=k:=h1.symm.trans e
   have b:atKey (q::qs) k=some q.2:=by simp [atKey,find?_cons,e']
   rw [jd e,b];exact h2
  ·have e':¬ q.1=k:=fun z=>e (h1.trans z)
   have b:atKey (q::qs) k=atKey qs k:=by simp [atKey,find?_cons,e']
   rw [je e,b];exact ih
theorem KT.repl {H:Hp}{kvs:List (List Key×V)}{xs:List (List Key×Addr×Value)}(r:KT H kvs xs)(k:List Key){y:V}{u:Value}(ry:RelV y u) :
  KT H (kvs.map fun kv=>if kv.1=k then (kv.1,y) else kv) (xs.map (putAt k u)):=by
 induction r with
 | nil=>exact .nil
 | @cons p q ps qs h t ih =>
  rw [map_cons,map_cons]
  refine .cons ?_ ih
  obtain⟨h1,h2,h3⟩:=h
  unfold putAt
  by_cases e:p.1=k
  ·rw [if_pos e,if_pos (h1.symm.trans e)];exact⟨h1,h2,ry⟩
  ·rw [if_neg e,if_neg (fun z=>e (h1.trans z))];exact⟨h1,h2,h3⟩
theorem KT.put {H:Hp}{kvs:List (List Key×V)}{xs:List (List Key×Addr×Value)}(r:KT H kvs xs)(k:List Key){b:Addr}{y:V}{u:Value}(hb:H b=some (.tup (k.map kV)))(ry:RelV y u) :
  KT H (putK kvs k y) (storedH xs k b u):=by
 have e:(kvs.any fun kv=>decide (kv.1=k))=(atKey xs k).isSome:=by
  rw [YH,(r.val k).isSome_eq,Option.isSome_map]
 unfold putK storedH
 rw [e]
 by_cases q:(atKey xs k).isSome=true
 ·rw [if_pos q,if_pos q];exact r.repl k ry
 ·rw [if_neg q,if_neg q];exact Paired.snoc r ⟨rfl,hb,ry⟩
theorem KT.keeps {H H':Hp}{kvs:List (List Key×V)}{xs:List (List Key×Addr×Value)}(r:KT H kvs xs)(ht:∀b ys,H b=some (.tup ys)->H' b=some (.tup ys)):KT H' kvs xs :=
 Paired.mapP r fun _ _ z=>⟨z.1,ht _ _ z.2.1,z.2.2⟩
section
variable {P:Program}{w:World}{H:Hp}{h:Heap}{a:Addr}
theorem zjn {u:HO}(ok:HOk P w H h)(e:Rd H a u):qB P w H h a u:=e.ok ok
theorem zfb {kvs:List (Key×V)}(ok:HOk P w H h)(e:Rd H a (.dK kvs)):kvs.length<=sizeLine/\(a==sysModules)=false/\∃vs,KV kvs vs/\h.DictOf (zR P w) a vs :=
 show qB P w H h a (.dK kvs) from zjn ok e
theorem zkZ {kvs:List (Key×V)}(ok:HOk P w H h)(e:H a=some (.dK kvs)):kvs.length<=sizeLine/\(a==sysModules)=false/\∃vs,KV kvs vs/\h.DictOf (zR P w) a vs:=zfb ok (.inl e)
theorem zb9 {ks:List Key}(ok:HOk P w H h)(e:H a=some (.tup (ks.map kV))):(tupleKind (zR P w)).is h ks a:=by
 obtain⟨_,its,r,o,h1,h2,n,h3⟩:=(show qB P w H h a (.tup (ks.map kV)) from ok a _ e)
 exact⟨o,its.toArray,n,h1,h2,h3,by simpa using zbt r⟩
theorem zfc {kvs:List (List Key×V)}(ok:HOk P w H h)(e:Rd H a (.dT kvs)):kvs.length<=sizeLine/\(a==sysModules)=false /\
  ∃xs,KT H kvs xs/\h.DictOfH (tupleKind (zR P w)) a xs:=by
 obtain⟨z,y,xs,r,o,es,ep,h1,h2,h3,h4,h5⟩:=(show qB P w H h a (.dT kvs) from zjn ok e)
 refine⟨z,y,xs,r,o,es,ep,h1,h2,h3,h4,fun x hx=>?_,h5⟩
 have all:∀{l:List (List Key×V)} {m:List (List Key×Addr×Value)},KT H l m->∀x∈m,(tupleKind (zR P w)).is h x.1 x.2.1:=by
  intro l m q
  induction q with
  | nil=>intro x hx;exact nomatch hx
  | @cons p q ps qs hq t ih =>
   intro x hx
   rcases List.mem_cons.mp hx with e | hx
   ·subst e
    exact zb9 ok (by rw [<- hq.1];exact hq.2.1)
   ·exact ih x hx
 exact all r x hx
theorem zjo {kvs:List (List Key×V)}(ok:HOk P w H h)(e:H a=some (.dT kvs)):kvs.length<=sizeLine/\(a==sysModules)=false /\
  ∃xs,KT H kvs xs/\h.DictOfH (tupleKind (zR P w)) a xs:=zfc ok (.inl e)
end
def zae (H:Hp)(a:Addr)(y:V)(r:Option V):Prop :=
 (∃kvs k,Rd H a (.dK kvs)/\y=kV k/\r=qV kvs k)\/∃kvs k b,Rd H a (.dT kvs)/\y=.ref b/\H b=some (.tup (k.map kV))/\r=qV kvs k
theorem zae.k {H:Hp}{a:Addr}{kvs:List (Key×V)}{k:Key}(e:H a=some (.dK kvs)):zae H a (kV k) (qV kvs k):=.inl ⟨kvs,k,.inl e,rfl,rfl⟩
theorem zae.t {H:Hp}{a b:Addr}{kvs:List (List Key×V)}{k:List Key}(e:H a=some (.dT kvs))(eb:H b=some (.tup (k.map kV))):zae H a (.ref b) (qV kvs k):=.inr ⟨kvs,k,b,.inl e,rfl,eb,rfl⟩
section
variable {X:Cx}{pins:List (Addr×Obj)}{σ:St}{H:Hp}{s:Shared}{a:Addr}{y v:V}{u r:Value}{o:Option V}{A:Around}{E:Value->Shared->Prop}
theorem Inv.big (I:Inv X pins σ H s):sysModules<s.heap.objs.size:=by
 have h:mainGlobals<s.heap.objs.size:=(I.mod.glob.keeps I.bk).lt
 exact Nat.lt_trans (by decide) h
theorem ziD {Q:Value->Shared->Prop}(hu:A.units+1<cLine)(I:Inv X pins σ H s)(g:zae H a y o)(ry:RelV y u)(h:∀s',Inv X pins σ H s'->Q (.bool (!o.isSome)) s') :
  wpAny (model X.prog X.w) A (compareOp .NotIn u (.ref a)) Q E s:=by
 rcases g with ⟨kvs,k,e,ey,l⟩ | ⟨kvs,k,b,e,ey,eb,l⟩
 ·subst ey
  obtain⟨z,hd,vs,rel,dd⟩:=zfb I.hok e
  refine wpAny_notIn_of (zfa ry) hd dd.mapOf ?_
  rw [<- (rel.val k).isSome_eq,<- l]
  exact h _ (I.tok _)
 ·subst ey
  cases (show u=Value.ref b from ry)
  obtain⟨z,hd,xs,rel,dd⟩:=zfc I.hok e
  refine wpAny_notIn_heap (tupleKind_room_in1 hu) (zb9 I.hok eb) hd dd ?_
  have q:=(rel.val k).isSome_eq
  rw [Option.isSome_map] at q
  rw [<- q,<- l]
  exact h _ (I.tok _)
theorem zfd {h':Heap}{t':Nat}{ob:HO}(I:Inv X pins σ H s)(mu:Mut (H a))(hs:Heap.SameBut a s.heap h')(he:∃q,h'.get? a=some q)(new:qB X.prog X.w (upd H a ob) h' a ob) :
  Inv X pins σ (upd H a ob) { s with heap:=h',toks:=t' } :=
 I.write (x:=a) (e:=a) mu (.inl rfl) (fun b q hb z=>(hs.2 b hb).trans z) he new
theorem zj7 {P:Program}{w:World}{H':Hp}{h':Heap}{kvs:List (Key×V)}{vs:List (Key×Value)}(z:kvs.length<=sizeLine)(hd:(a==sysModules)=false)(rel:KV kvs vs)(dd:h'.DictOf (zR P w) a vs) :
  qB P w H' h' a (.dK kvs):=⟨z,hd,vs,rel,dd⟩
end
section
variable {X:Cx}{pins:List (Addr×Obj)}{σ:St}{H:Hp}{s:Shared}{a:Addr}{kvs:List (Key×V)}{k:Key}{u:Value}{A:Around}{E:Value->Shared->Prop}
end
def ziE (ty td:TE):TE:=fun σ H Q=>ty σ H fun y H1=>td σ H1 fun x H2=>∃a o,x=.ref a/\zae H2 a y o/\Q (.bl (!o.isSome)) H2
section
variable {X:Cx}{o i e value:Expr}{pos pos' tpos:Pos}{td ty tv:TE}
theorem zf5 (hu:X.A.units+1<cLine)(hi:PE X i ty)(ho:PE X o td):PC X .NotIn i o (ziE ty td):=by
 intro pins s σ H Q I h
 refine thn (hi pins s σ H _ I h) fun iv s1 ⟨y,H1,I1,ry,q1⟩=>thn (ho pins s1 σ H1 _ I1 q1) fun u s2 ⟨x,H2,I2,rx,a,ov,ex,g,q2⟩=>?_
 subst ex
 obtain rfl:u=Value.ref a:=rx
 exact ziD hu I2 g ry fun s3 I3=>⟨.bl (!ov.isSome),H2,I3,rfl,q2⟩
end
theorem zhj {P:Program}{w:World}{H:Hp}(h:Heap)(hb:sysModules<h.objs.size):qB P w H (h.push { cls:=.type "dict",data:=.dict #[] }) h.objs.size (.dK []) :=
 ⟨zero_le _,beq_eq_false_iff_ne.mpr (Ne.symm (ne_of_lt hb)),[],.nil,Heap.DictOf.new h⟩
section
variable {X:Cx}{pos:Pos}
end
def zee:List (TE×TE)->St->Hp->(List (V×V)->Hp->Prop)->Prop
 | [],_,H,Q=>Q [] H
 | (tk,tv)::r,σ,H,Q=>tk σ H fun x H1=>tv σ H1 fun y H2=>zee r σ H2 fun ps H3=>Q ((x,y)::ps) H3
abbrev VV:List (V×V)->List (Value×Value)->Prop:=Paired fun p q=>RelV p.1 q.1/\RelV p.2 q.2
def PPs (X:Cx)(pos:Pos)(keys:List (Option Expr))(values:List Expr)(trs:List (TE×TE)):Prop :=
 ∀(pins:List (Addr×Obj)) (s:Shared) (σ:St) (H:Hp) (Q:List (V×V)->Hp->Prop),Inv X pins σ H s->zee trs σ H Q ->
  wpAny (model X.prog X.w) X.A (evalPairs (pairTrees keys values X.env pos)) (fun vs s'=>∃ps H',Inv X pins σ H' s'/\VV ps vs/\Q ps H') X.xe s
theorem ziF {X:Cx}{pos:Pos}:PPs X pos [] [] []:=fun pins s σ H Q I h=>pairTrees_nil_walk ⟨[],H,I,.nil,h⟩
theorem zc1 {X:Cx}{pos:Pos}{k v:Expr}{ks:List (Option Expr)}{vs:List Expr}{tk tv:TE}{trs:List (TE×TE)}(hk:PE X k tk)(hv:PE X v tv)(hr:PPs X pos ks vs trs) :
  PPs X pos (some k::ks) (v::vs) ((tk,tv)::trs):=fun pins s σ H Q I h =>
 pairTrees_cons_walk (thn (hk pins s σ H _ I h) fun u s1 ⟨x,H1,I1,rx,q1⟩=>thn (hv pins s1 σ H1 _ I1 q1) fun w2 s2 ⟨y,H2,I2,ry,q2⟩ =>
  thn (hr pins s2 σ H2 _ I2 q2) fun ws s3 ⟨ps,H3,I3,rel,q3⟩=>⟨(x,y)::ps,H3,I3,.cons ⟨rx,ry⟩ rel,q3⟩)
noncomputable def J2 (kvs more:List (Key×V)):List (Key×V):=more.foldl (fun acc kv=>putK acc kv.1 kv.2) kvs
theorem KV.merge:∀{more:List (Key×V)} {rs:List (Key×Value)} {kvs:List (Key×V)} {vs:List (Key×Value)},KV more rs->KV kvs vs->KV (J2 kvs more) (merged vs rs):=by
 intro more rs kvs vs r
 unfold KV at r
 induction r generalizing kvs vs with
 | nil=>intro q;exact q
 | @cons p q ps qs h t ih =>
  intro r0
  have e:KV (putK kvs p.1 p.2) (stored vs q.1 q.2):=by
   have:=r0.put p.1 h.2
   rw [<- h.1];exact this
  exact ih e
theorem Z1:∀(more kvs:List (Key×V)),(J2 kvs more).length<=kvs.length+more.length
 | [],kvs=>by show kvs.length<=kvs.length+0;omega
 | p::r,kvs=>by
  have h1:=Z1 r (putK kvs p.1 p.2)
  have h2:=Zw kvs p.1 p.2
  show (J2 (putK kvs p.1 p.2) r).length<=_
  rw [length_cons];omega
theorem zaf {P:Program}{w:World}:∀{kvs:List (Key×V)} {ws:List (Value×Value)},VV (kvs.map fun kv=>(kV kv.1,kv.2)) ws->∃rs,Carries (zR P w) ws rs/\KV kvs rs
 | [],_,r=>by rw [map_nil] at r;cases r;exact⟨[],True.intro,.nil⟩
 | p::kvs,_,r=>by
  rw [map_cons] at r
  cases r with
  | @cons a b as bs h t =>
   obtain⟨rs,c,q⟩:=zaf (P:=P) (w:=w) t
   obtain⟨b1,b2⟩:=b
   exact⟨(p.1,b2)::rs,⟨zfa h.1,rfl,c⟩,.cons ⟨rfl,h.2⟩ q⟩
def zk0 (trs:List (TE×TE)):TE:=fun σ H Q=>∀p,H p=none->zee trs σ (upd H p (.dK [])) fun ps H2=>H2 p=some (.dK [])/\∃kvs:List (Key×V),ps=kvs.map (fun kv=>(kV kv.1,kv.2))/\kvs.length<=15/\Q (.ref p) (upd H2 p (.dK (J2 [] kvs)))
theorem ziG {X:Cx}{pos:Pos}{keys:List (Option Expr)}{values:List Expr}{trs:List (TE×TE)}(h:PPs X pos keys values trs)(hall:keys.all (·.isSome)=true)(hl:keys.length=values.length)(h0:keys ≠ [])
  (h15:keys.length<=15):PE X (.Dict keys values pos) (zk0 trs):=by
 intro pins s σ H Q I q
 have hn:=I.hok.fresh (le_refl s.heap.objs.size)
 have I1:=I.laid (a:=s.heap.objs.size) (o:=.dK []) (h':=s.heap.push { cls:=.type "dict",data:=.dict #[] }) (t':=s.toks) (fun _ _ q=>Heap.get?_push_of_some _ q) (le_refl _) (zhj s.heap I.big)
 refine wpAny_Dict_walk (knd:=zR X.prog X.w) hall hl h0 h15 (thn (h pins _ σ _ _ I1 (q _ hn)) fun ws s2 ⟨ps,H2,I2,rel,e,kvs,ep,lk,q2⟩=>?_)
 subst ep
 obtain⟨rs,c,rk⟩:=zaf (P:=X.prog) (w:=X.w) rel
 obtain⟨z,hd,vs0,r0,dd⟩:=zkZ I2.hok e
 cases r0
 refine⟨rs,c,dd,fun h' dd' hs=>⟨.ref s.heap.objs.size,_,?_,rfl,q2⟩⟩
 have hz:(J2 [] kvs).length<=sizeLine:=by
  have h1:=Z1 kvs []
  rw [length_nil] at h1
  rw [sizeLine_eq];omega
 have he:∃q,h'.get? s.heap.objs.size=some q:=let ⟨q,_,_,hq,_⟩:=dd';⟨q,hq⟩
 exact zfd I2 (by rw [e];exact True.intro) hs he (zj7 hz hd (rk.merge .nil) dd')
structure M2 (X:Cx)(o:Expr)(m:Str)(apos:Pos)(e f:Expr)(cpos:Pos):Prop where
 base:attributeBase o m X.env (eval o X.env)=eval o X.env
 few:((backTo cpos (starEach [e,f] X.env)).all (fun x=>!x.1)&&(backToKw cpos (keywordEach [] X.env)).all (fun x=>x.1.isSome)
  && decide (([e,f]:List Expr).length+([]:List Keyword).length+(if ([]:List Keyword).isEmpty then 0 else 1)<30))=true
 line:(apos.endLine==cpos.line)=true
 trees:backTo cpos (starEach [e,f] X.env)=[(false,eval e X.env),(false,eval f X.env)]
def IsD (H:Hp)(a:Addr):Prop:=(∃kvs,Rd H a (.dK kvs))\/∃kvs,Rd H a (.dT kvs)
theorem zj8 {X:Cx}{pins:List (Addr×Obj)}{σ:St}{H:Hp}{s:Shared}{a:Addr}(I:Inv X pins σ H s)(d:IsD H a) :
  s.TypeIs (.ref a) "dict"/\(∀b,Value.ref a=.ref b->∃ob,s.heap.get? b=some ob/\ob.dict=none)/\(a==sysModules)=false:=by
 rcases d with ⟨kvs,e⟩ | ⟨kvs,e⟩
 ·obtain⟨_,hd,vs,_,dd⟩:=zfb I.hok e
  refine⟨dd.typeIs,fun b q=>?_,hd⟩
  cases q
  obtain⟨ob,_,_,h1,h2,_⟩:=dd
  exact⟨ob,h1,h2.2.1⟩
 ·obtain⟨_,hd,xs,_,dd⟩:=zfc I.hok e
  refine⟨dd.typeIs,fun b q=>?_,hd⟩
  cases q
  obtain⟨ob,_,_,h1,h2,_⟩:=dd
  exact⟨ob,h1,h2.2.1⟩
section
variable {X:Cx}{pins:List (Addr×Obj)}{σ:St}{H:Hp}{s:Shared}{a:Addr}{y d:V}{u r:Value}{o:Option V}{A:Around}{E:Value->Shared->Prop}
theorem zj9 {Q:Value->Shared->Prop}(hu:A.units+1<cLine)(I:Inv X pins σ H s)(g:zae H a y o)(ry:RelV y u)(rd:RelV d r)(h:∀w' s',Inv X pins σ H s'->RelV (o.getD d) w'->Q w' s') :
  wpAny (model X.prog X.w) A (call (.builtin "dict.get") [.ref a,u,r]) Q E s:=by
 rcases g with ⟨kvs,k,e,ey,l⟩ | ⟨kvs,k,b,e,ey,eb,l⟩
 ·subst ey
  obtain⟨z,hd,vs,rel,dd⟩:=zfb I.hok e
  refine call_meetsIn PySem.F.slot_dict_get dd.typeIs PySem.F.entry_dict_get (PySem.F.args_dict_get_3 _ _ _) (meets_dict_get_default (zR X.prog X.w) a (zfa ry) hd r) ⟨_,dd.mapOf,h _ _ (I.tok _) ?_⟩
  rw [l]
  exact(rel.val k).getD rd
 ·subst ey
  cases (show u=Value.ref b from ry)
  obtain⟨z,hd,xs,rel,dd⟩:=zfc I.hok e
  refine call_meetsIn PySem.F.slot_dict_get dd.typeIs PySem.F.entry_dict_get (PySem.F.args_dict_get_3 _ _ _) (meetsH_dict_get_default (tupleKind (zR X.prog X.w)) a b hd r) ⟨tupleKind_room_in1 hu,k,xs,zb9 I.hok eb,dd,h _ _ (I.tok _) ?_⟩
  rw [l]
  exact(rel.val k).getD rd
end
def zka (td ty tx:TE):TE:=fun σ H Q=>td σ H fun x H1=>∃a,x=.ref a/\IsD H1 a/\ty σ H1 fun y H2=>tx σ H2 fun z H3=>∃o,zae H3 a y o/\Q (o.getD z) H3
section
variable {X:Cx}{o e f:Expr}{apos cpos:Pos}{td ty tx:TE}
theorem zc2 (hu:X.A.units+1<cLine)(ho:PE X o td)(he:PE X e ty)(hf:PE X f tx)(m:M2 X o "get" apos e f cpos):PE X (.Call (.Attribute o "get" apos) [e,f] [] cpos) (zka td ty tx):=by
 intro pins s σ H Q I h
 refine wpAny_Call_method m.base m.few m.line PySem.F.plainAttrs_dict PySem.F.slot_dict_get PySem.F.type_dict_get (thn (ho pins s σ H _ I h) fun u s1 ⟨x,H1,I1,rx,a,ex,d,q1⟩=>?_)
 subst ex
 obtain rfl:u=Value.ref a:=rx
 obtain⟨t1,t2,_⟩:=zj8 I1 d
 refine⟨t1,t2,?_⟩
 rw [m.trees]
 refine Calls.callWith_builtin rfl (Calls.evalArgs_plain (Calls.spliced_cons (thn (he pins s1 σ H1 _ I1 q1) fun iv s2 ⟨y,H2,I2,ry,q2⟩ =>
  Calls.spliced_cons (thn (hf pins s2 σ H2 _ I2 q2) fun fv s3 ⟨z,H3,I3,rz,ov,g,q3⟩=>Calls.spliced_nil ?_))))
 exact zj9 hu I3 g ry rz fun w' s4 I4 rw'=>⟨_,H3,I4,rw',q3⟩
end
section
variable {X:Cx}{pins:List (Addr×Obj)}{σ:St}{H:Hp}{s:Shared}{a:Addr}{kvs:List (Key×V)}{A:Around}{E:Value->Shared->Prop}
end
section
variable {X:Cx}{pins:List (Addr×Obj)}{σ:St}{H:Hp}{s:Shared}{a:Addr}{y:V}{u:Value}{A:Around}{E:Value->Shared->Prop}
end
theorem zf6:typeLookup (.type "list") "keys"=pure none:=by rw [typeLookup_type,builtinLookup_eq_fast];kernel_rfl
theorem zf7:typeLookup (.type "list") "__getattr__"=pure none:=by rw [typeLookup_type,builtinLookup_eq_fast];kernel_rfl
theorem zag:isSubtype (.type "AttributeError") (.type "AttributeError")=pure true:=by rw [isSubtype_type];kernel_rfl
theorem zhk (args:List Value):ownMembersOf (.type "AttributeError") args=#[unsetMember,unsetMember]:=rfl
theorem zef:((Manifest.find? "AttributeError").elim false fun t=>t.mro.contains "StopIteration" || t.mro.contains "SystemExit")=false:=by decide +kernel
section
variable {prog:Program}{w:World}{A:Around}{E:Value->Shared->Prop}{h:Heap}{g:Array GenState}{d:Drawn}{t:Nat}{os:OsState}{a:Addr}{its:Array Value}{n:Nat}
theorem zhl {tk:Tok}{Q:Fin->Shared->Prop}(hx:h.get? a=some { cls:=.type "list",dict:=none,data:=.seq its n,slots:=#[] })(hh:A.handled=none)
  (he:∀h' t' e,(∀b o',h.get? b=some o'->h'.get? b=some o')->(⟨h',g,d,t',os⟩:Shared).TypeIs (.ref e) "AttributeError"->E (.ref e) ⟨h',g,d,t',os⟩) :
  wpAny (model prog w) A (Builtin.«object.__getattribute__» ⟨[.ref a,.str "keys" tk],[]⟩) Q E ⟨h,g,d,t,os⟩:=by
 have hT:(⟨h,g,d,t,os⟩:Shared).TypeIs (.ref a) "list":=⟨_,hx,rfl⟩
 have f4:=zf6
 have f5:=zag
 repeat (any_goals (first | assumption | wp_step))
 unfold raiseAttrError
 refine wpAny_bind (wpAny_mkStr (wpAny_bind ?_) (by decide +kernel))
 unfold newExc newTuple
 refine wpAny_bind (wpAny_newObj_type ?_)
 refine wpAny_bind (m:=firstArgMember _ _) (wpAny_of_eq (a:=Value.none) (by simp only [firstArgMember,zef];rfl) ?_)
 rw [zhk]
 refine wpAny_newObj_type ?_
 refine wpAny_bind (wpAny_mkText ?_)
 refine wpAny_bind ?_
 unfold noteAttr lacksNameAndObj
 repeat (any_goals (first | assumption | wp_step))
 unfold raiseNew
 refine wpAny_bind (wpAny_handled ?_)
 rw [hh]
 refine wpAny_bind (wpAny_pure (wpAny_throw ?_))
 dsimp only
 refine he _ _ _ (fun b o' hb=>?_) ?_
 ·rw [(Heap.SameBut.update ..).2 b (ne_of_lt ?_)]
  ·exact Heap.get?_push_of_some _ (Heap.get?_push_of_some _ hb)
  ·rw [Heap.size_push]
   exact lt_succ_of_lt (Heap.lt_size hb)
 ·refine⟨_,Heap.get?_update_self _ (Heap.get?_push_size _ rfl) rfl,rfl⟩
theorem ziH {tk:Tok}{R:Result->Shared->Prop}(hx:h.get? a=some { cls:=.type "list",dict:=none,data:=.seq its n,slots:=#[] })(hh:A.handled=none)
  (he:∀h' t' e,(∀b o',h.get? b=some o'->h'.get? b=some o')->(⟨h',g,d,t',os⟩:Shared).TypeIs (.ref e) "AttributeError"->R (.error (.ref e)) ⟨h',g,d,t',os⟩) :
  codeAny (model prog w) A (.call (.builtin "list.__getattribute__") ⟨[.ref a,.str "keys" tk],[]⟩) R ⟨h,g,d,t,os⟩ :=
 codeAny_call_builtin PySem.F.slot_list_getattribute.plain PySem.F.entry_list_ga (PySem.F.slot_list_getattribute.check _ _ _ _ _ _ _ _ (show (⟨h,g,d,t,os⟩:Shared).TypeIs (.ref a) "list" from ⟨_,hx,rfl⟩) (PySem.F.args_list_getattribute_2 _ _) (zhl hx (by simp [hh]) he))
theorem zk1 {tk:Tok}{Q:Value->Shared->Prop}(hx:h.get? a=some { cls:=.type "list",dict:=none,data:=.seq its n,slots:=#[] })(hh:A.handled=none)
  (he:∀h' t' e,(∀b o',h.get? b=some o'->h'.get? b=some o')->(⟨h',g,d,t',os⟩:Shared).TypeIs (.ref e) "AttributeError"->E (.ref e) ⟨h',g,d,t',os⟩) :
  wpAny (model prog w) A (getAttrBy (.ref a) (.str "keys" tk) false) Q E ⟨h,g,d,t,os⟩:=by
 have hT:(⟨h,g,d,t,os⟩:Shared).TypeIs (.ref a) "list":=⟨_,hx,rfl⟩
 have f2:=PySem.F.slot_list_getattribute.lookup
 have f3:=PySem.F.slot_list_getattribute.bind (.ref a)
 have f4:=zf7
 have f5:=zag
 repeat (any_goals (first | assumption | wp_step))
 refine ziH hx (by simp [hh]) fun h' t' e kp hE=>?_
 repeat (any_goals (first | assumption | wp_step))
 exact he _ _ _ kp hE
theorem ziI {Q:Option Value->Shared->Prop}(hx:h.get? a=some { cls:=.type "list",dict:=none,data:=.seq its n,slots:=#[] })(hh:A.handled=none)
  (hq:∀h' t',(∀b o',h.get? b=some o'->h'.get? b=some o')->Q none ⟨h',g,d,t',os⟩) :
  wpAny (model prog w) A (getAttr? (.ref a) "keys") Q E ⟨h,g,d,t,os⟩:=by
 have f5:=zag
 unfold getAttr? getAttrBy?
 refine wpAny_bind (wpAny_mkText (wpAny_bind (wpAny_attempt ?_)))
 refine zk1 (t:=t+1) hx hh fun h' t' e kp hE=>?_
 repeat (any_goals (first | assumption | wp_step))
 exact hq _ _ kp
theorem YI:entryFor table "dict.update.loop"=some Builtin.«dict.update.loop»:=entryFor_of_tree (by kernel_rfl)
theorem xg:plainId "dict.update.loop"=true:=by decide +kernel
end
section
variable {prog:Program}{w:World}{A:Around}{R:Result->Shared->Prop}{I:Addr}{fp wr:List Addr}{G:Array GenState->Array GenState->Prop}{n:Nat}{P:Nat->Value->Prop}{St:Nat->Shared->Prop}
abbrev KQ:=List Key×Addr×Value
noncomputable def putAll (ks:List KQ):List KQ:=ks.foldl (fun acc q=>storedH acc q.1 q.2.1 q.2.2) []
theorem putAll_snoc (ks:List KQ)(q:KQ):putAll (ks++[q])=storedH (putAll ks) q.1 q.2.1 q.2.2:=by
 unfold putAll
 rw [List.foldl_append]
 rfl
theorem Qt (xs:List KQ)(k:List Key)(a:Addr)(v:Value):(storedH xs k a v).length<=xs.length+1:=by
 unfold storedH
 split
 ·rw [length_map]
  omega
 ·rw [length_append]
  exact le_refl _
theorem zah (ks:List KQ):(putAll ks).length<=ks.length:=by
 suffices h:∀(ks acc:List KQ),(ks.foldl (fun acc q=>storedH acc q.1 q.2.1 q.2.2) acc).length<=acc.length+ks.length by
  have:=h ks []
  simpa [putAll] using this
 intro ks
 induction ks with
 | nil=>intro acc;exact le_refl _
 | cons q r ih =>
  intro acc
  have h1:=ih (storedH acc q.1 q.2.1 q.2.2)
  have h2:=Qt acc q.1 q.2.1 q.2.2
  rw [foldl_cons,length_cons]
  omega
theorem zca {A:Around}{E:Value->Shared->Prop}{s:Shared}{ta:Addr}{x y:Value}{Q:List Value->Shared->Prop}(h:IsTup s.heap ta #[x,y])(q:Q [x,y] s):wpAny (model prog w) A (Builtin.Dict.pairItems (.ref ta)) Q E s:=by
 obtain⟨o,h1,h2,n,h3⟩:=h
 have hT:s.TypeIs (.ref ta) "tuple":=⟨o,h1,h2⟩
 unfold Builtin.Dict.pairItems
 repeat (any_goals (first | assumption | wp_step))
 rw [h3]
 exact wpAny_pure (wpAny_pure q)
end
section
variable {prog:Program}{w:World}{A:Around}{R:Result->Shared->Prop}{I:Addr}{fp wr:List Addr}{G:Array GenState->Array GenState->Prop}{n:Nat}{P:Nat->Value->Prop}{St:Nat->Shared->Prop}
theorem Qu (T:List Key->Addr->Prop):∀(js acc:List KQ),(∀x∈acc,T x.1 x.2.1)->(∀x∈js,T x.1 x.2.1)->∀x∈js.foldl (fun acc q=>storedH acc q.1 q.2.1 q.2.2) acc,T x.1 x.2.1
 | [],_,ha,_=>ha
 | q::r,acc,ha,hj=>by
  rw [foldl_cons]
  refine Qu T r _ (fun x hx=>?_) fun x hx=>hj x (mem_cons_of_mem _ hx)
  unfold storedH at hx
  split at hx
  ·obtain⟨y,hy,rfl⟩:=List.mem_map.mp hx
   have:=ha y hy
   unfold putAt
   split
   ·exact this
   ·exact this
  ·rcases List.mem_append.mp hx with hx | hx
   ·exact ha x hx
   ·have e:x=(q.1,q.2.1,q.2.2):=by simpa using hx
    subst e
    exact hj q mem_cons_self
theorem zeg {h0:Heap}(W:WalksS prog w A.in1 I fp wr G n P St)(D:Addr)(hDf:D ∉ fp)(hD0:h0.get? D=none)(hw0:∀b∈wr,h0.get? b=none)(ks:List KQ)(hlen:ks.length=n)(hb:n<=sizeLine)(hu:A.units+1<cLine)
  (hks:∀q∈ks,(tupleKind (zR prog w)).is h0 q.1 q.2.1) (hP:∀i v,P i v->∃ta q,v=.ref ta/\ks[i]?=some q/\IsTup h0 ta #[.ref q.2.1,q.2.2]) :
  ∀(k i:Nat) (s:Shared),n-i=k->i<=n->St i s->(∀b o,h0.get? b=some o->s.heap.get? b=some o)->s.heap.DictOfH (tupleKind (zR prog w)) D (putAll (ks.take i)) ->
   (∀s',Moved (D::wr) G s s'->s'.heap.DictOfH (tupleKind (zR prog w)) D (putAll ks)->R (.ok (.ret .none)) s') ->
   codeAny (model prog w) A (.builtin "dict.update.loop" ⟨[.ref D,.ref I,rawInt (i:Int),.none],[]⟩) R s:=by
 have hDw:D ∉ wr:=fun h=>hDf (W.sub _ h)
 have more:∀b∈wr,b∈D::wr:=fun b hb=>mem_cons_of_mem _ hb
 have tup_up:∀{h:Heap} {ta:Addr} {xs:Array Value},(∀b o,h0.get? b=some o->h.get? b=some o)->IsTup h0 ta xs->IsTup h ta xs:=fun kp ⟨o,h1,h2,m,h3⟩=>⟨o,kp _ _ h1,h2,m,h3⟩
 have key_up:∀{h:Heap} {ka:Addr} {q:List Key},(∀b o,h0.get? b=some o->h.get? b=some o)->(tupleKind (zR prog w)).is h0 q ka->(tupleKind (zR prog w)).is h q ka:=fun kp ⟨o,xs,m,h1,h2⟩=>⟨o,xs,m,kp _ _ h1,h2⟩
 have dict_to:∀{s s':Shared} {xs:List KQ},Moved wr G s s'->(∀b o,h0.get? b=some o->s'.heap.get? b=some o)->(∀x∈xs,(tupleKind (zR prog w)).is h0 x.1 x.2.1)->s.heap.DictOfH (tupleKind (zR prog w)) D xs->s'.heap.DictOfH (tupleKind (zR prog w)) D xs :=
  fun hm kp hk ⟨o,es,ep,e1,e2,e3,e4,_,e6⟩=>⟨o,es,ep,hm.heap D _ hDw e1,e2,e3,e4,fun x hx=>key_up kp (hk x hx),e6⟩
 have keep_to:∀{s s':Shared},Moved wr G s s'->(∀b o,h0.get? b=some o->s.heap.get? b=some o)->∀b o,h0.get? b=some o->s'.heap.get? b=some o:=fun hm kp b o e =>
  hm.heap b o (fun hb=>by
   rw [hw0 b hb] at e
   cases e) (kp b o e)
 have keys0:∀i,∀x∈putAll (ks.take i),(tupleKind (zR prog w)).is h0 x.1 x.2.1:=fun i=>Qu (fun a b=>(tupleKind (zR prog w)).is h0 a b) _ [] (fun x hx=>nomatch hx) fun x hx=>hks x (mem_of_mem_take hx)
 intro k
 induction k with
 | zero =>
  intro i s hk hi hst kp hS hR
  have hin:i=n:=by omega
  subst hin
  refine codeAny_builtin YI ?_
  rw [Around.under_plainId xg _]
  show wpAny _ A.in1 (pyNext (.ref I) >>= _) _ _ s
  refine wpAny_bind (W.done s _ _ hst fun s' hm=>?_)
  show wpAny _ A.in1 (Builtin.Dict.addKeywords D [] >>= fun _=>ret Value.none) _ _ s'
  refine wpAny_bind (wpAny_pure (wpAny_pure (hR s' (hm.mono more) ?_)))
  have:=dict_to hm (keep_to hm kp) (keys0 _) hS
  rw [<- hlen,take_length] at this
  exact this
 | succ k ih =>
  intro i s hk hi hst kp hS hR
  have hlt:i<n:=by omega
  refine codeAny_builtin YI ?_
  rw [Around.under_plainId xg _]
  show wpAny _ A.in1 (pyNext (.ref I) >>= _) _ _ s
  refine wpAny_bind (W.item i s _ _ hlt hst fun v s' hPv hst' hm=>?_)
  obtain⟨ta,q,rfl,hq,ht⟩:=hP i v hPv
  have kp':=keep_to hm kp
  have hS':=dict_to hm kp' (keys0 _) hS
  have l1:=zah (ks.take i)
  have l2:(ks.take i).length<=n:=by
   rw [length_take]
   omega
  have tk:ks.take (i+1)=ks.take i++[q]:=by
   rw [take_add_one,hq]
   rfl
  refine wpAny_bind (wpAny_holding (wpAny_bind (wpAny_tryCatch (zca (tup_up kp' ht) ?_))))
  refine wpAny_holding (wpAny_dictSet_heap (show A.in1.units<cLine from hu) (key_up kp' (hks q (mem_of_getElem? hq))) hS' (fun h' hd' hs'=>?_) (by omega))
  have kp2:∀b o,h0.get? b=some o->h'.get? b=some o:=fun b o e=>by
   rw [hs'.2 b (fun z=>by
    rw [z,hD0] at e
    cases e)]
   exact kp' b o e
  have d2:h'.DictOfH (tupleKind (zR prog w)) D (putAll (ks.take (i+1))):=by
   rw [tk,putAll_snoc]
   exact hd'
  refine wpAny_pure ⟨plainId_quiet xg _,?_⟩
  show codeAny _ A (.builtin "dict.update.loop" ⟨[.ref D,.ref I,rawInt ((i:Int)+1),.none],[]⟩) R _
  rw [show ((i:Int)+1)=((i+1:Nat):Int) by omega]
  refine ih (i+1) _ (by omega) hlt (W.frame _ s' _ _ hst' (le_add_right _ _) fun b hb o e=>?_) kp2 d2 fun s'' hm'' hS''=>?_
  ·rw [hs'.2 b (fun z=>hDf (by rw [<- z];exact hb))]
   exact e
  ·refine hR s'' (Moved.trans W.gtrans ((hm.mono more).then_heap (le_add_right _ _) fun b o hb e=>?_) hm'') hS''
   rw [hs'.2 b (fun z=>hb (by rw [z];exact mem_cons_self))]
   exact e
end
def zk2 (H:Hp)(v:V)(kv:List Key×V):Prop:=∃a b,v=V.ref a/\H a=some (.tup [.ref b,kv.2])/\H b=some (.tup (kv.1.map kV))
def jI (H:Hp):List V->List (List Key×V)->Prop:=Paired (zk2 H)
theorem jI.mono {H H':Hp}(s:zy H H'){vs:List V}{kvs:List (List Key×V)}(hp:jI H vs kvs):jI H' vs kvs:=by
 induction hp with
 | nil=>exact .nil
 | cons q _ ih =>
  obtain⟨a,b,e,h1,h2⟩:=q
  exact .cons ⟨a,b,e,s _ _ h1,s _ _ h2⟩ ih
noncomputable def zc3 (kvs:List (List Key×V)):List (List Key×V):=kvs.foldl (fun acc kv=>putK acc kv.1 kv.2) []
theorem KT.puts {H:Hp}{kvs:List (List Key×V)}{ks:List KQ}{acc:List (List Key×V)}{xs:List KQ}(hp:KT H kvs ks)(r:KT H acc xs):KT H (kvs.foldl (fun acc kv=>putK acc kv.1 kv.2) acc) (ks.foldl (fun acc q=>storedH acc q.1 q.2.1 q.2.2) xs):=by
 induction hp generalizing acc xs with
 | nil=>exact r
 | cons q _ ih =>
  obtain⟨h1,h2,h3⟩:=q
  rw [foldl_cons,foldl_cons]
  refine ih ?_
  rw [<- h1]
  exact r.put _ h2 h3
theorem ziJ {P:Program}{w:World}{H:Hp}{h:Heap}(ok:HOk P w H h){kvs:List (List Key×V)}{ks:List KQ}(hp:KT H kvs ks):∀x∈ks,(tupleKind (zR P w)).is h x.1 x.2.1:=by
 induction hp with
 | nil=>exact fun x hx=>nomatch hx
 | cons q _ ih =>
  intro x hx
  rcases List.mem_cons.mp hx with e | hx
  ·subst e
   exact zb9 ok (by rw [<- q.1];exact q.2.1)
  ·exact ih x hx
theorem ziK {P:Program}{w:World}{H:Hp}{h:Heap}(ok:HOk P w H h){vs:List V}{kvs:List (List Key×V)}{its:List Value}(hp:jI H vs kvs)(hv:Vals vs its):∃ks:List KQ,KT H kvs ks/\ks.length=its.length/\(∀(i:Nat) (v:Value),its[i]?=some v->∃(ta:Addr) (q:KQ),v=Value.ref ta/\ks[i]?=some q/\IsTup h ta #[.ref q.2.1,q.2.2]):=by
 induction hp generalizing its with
 | nil =>
  cases hv
  exact⟨[],.nil,rfl,fun i v e=>by simp at e⟩
 | @cons x kv xs ys q _ ih =>
  obtain⟨a,b,e,h1,h2⟩:=q
  cases hv with
  | cons rv rs =>
  obtain⟨ks,k1,k2,k3⟩:=ih rs
  subst e
  cases rv
  obtain⟨_,xs,r,tp⟩:=(show qB P w H h a (.tup [.ref b,kv.2]) from ok a _ h1)
  obtain⟨u,u2,rfl,ru,ru2⟩:=vals2 r
  cases ru
  refine⟨(kv.1,b,u2)::ks,.cons ⟨rfl,h2,ru2⟩ k1,by rw [length_cons,length_cons,k2],fun i v e=>?_⟩
  cases i with
  | zero =>
   have e':Value.ref a=v:=by simpa using e
   exact⟨a,_,e'.symm,rfl,tp⟩
  | succ i =>
   obtain⟨ta,q,h1,h2,h3⟩:=k3 i v (by simpa using e)
   exact⟨ta,q,h1,by simpa using h2,h3⟩
section
variable {X:Cx}
set_option maxHeartbeats 8000000 in
theorem Zp (hu:X.A.units+64<cLine)(hh:X.A.handled=none):jn X (.type "dict") (fun xs H Q=>∃l us kvs,xs=[.ref l]/\H l=some (.lst us)/\jI H us kvs/\∀d,H d=none->Q (.ref d) (upd H d (.dT (zc3 kvs)))):=by
 intro pins s σ H xs us' Q I r h
 obtain⟨l,us,kvs,rfl,hl,hp,q⟩:=h
 obtain⟨u,rfl,ru⟩:=vals1 r
 cases ru
 obtain⟨hz,its,n,rv,e⟩:=(show qB X.prog X.w H s.heap l (.lst us) from I.hok l _ hl)
 obtain⟨ks,hkt,hkl,hraw⟩:=ziK I.hok hp rv
 have big:=I.big
 have hil:its.length<=sizeLine:=by
  rw [<- rv.length]
  exact hz
 have hks:=ziJ I.hok hkt
 refine callType_codes (Q₁:=fun obj s₁=>obj=.ref s.heap.objs.size/\s₁={ s with heap:=s.heap.push { cls:=.type "dict",data:=.dict #[] } }) PySem.F.kt_called_dict (PySem.F.kt_typeCall_dict_1 _) PySem.F.entry_dict_init (kt_code_dict_new _ ⟨rfl,rfl⟩) ?_
 rintro obj s₁ ⟨rfl,rfl⟩
 have hnew:(s.heap.push { cls:=.type "dict",data:=.dict #[] }).DictOfH (tupleKind (zR X.prog X.w)) s.heap.objs.size []:=Heap.DictOfH.new s.heap
 have e1:(s.heap.push { cls:=.type "dict",data:=.dict #[] }).get? l=some { cls:=.type "list",dict:=none,data:=.seq its.toArray n,slots:=#[] }:=Heap.get?_push_of_some _ e
 refine⟨hnew.typeIs,PySem.F.args_dict_init_2 _ _,?_⟩
 unfold Builtin.«dict.__init__»
 refine wpAny_bind ?_
 unfold Builtin.Dict.selfAndRest
 refine wpAny_bind (wpAny_notOrdered_dict hnew.typeIs ?_)
 show wpAny _ _ (pure (s.heap.objs.size,[Value.ref l])) _ _ _
 refine wpAny_pure ?_
 show wpAny _ _ (Builtin.Dict.updateFrom "dict.__init__" s.heap.objs.size (.ref l) [] .none) _ _ _
 unfold Builtin.Dict.updateFrom
 have hT:Shared.TypeIs { s with heap:=s.heap.push { cls:=.type "dict",data:=.dict #[] } } (.ref l) "list":=⟨_,e1,rfl⟩
 refine wpAny_bind (wpAny_typeOf hT ?_)
 rw [if_pos (by decide)]
 refine wpAny_bind (ziI e1 (by simp [hh]) fun h2 t2 kp=>?_)
 rw [if_pos (show (none:Option Value).isNone=true from rfl)]
 have kp0:∀b o',s.heap.get? b=some o'->h2.get? b=some o':=fun b o' z=>kp b o' (Heap.get?_push_of_some _ z)
 have hl2:h2.IsList l its.toArray:=⟨_,kp _ _ e1,rfl,n,rfl⟩
 refine wpAny_bind (wpAny_rule (wpAny_bind (wpAny_pyIter_list hl2 ?_)))
 have hls:l<s.heap.objs.size:=Heap.lt_size e
 have hDl:s.heap.objs.size<h2.objs.size:=by
  obtain⟨o,_,_,ho,_⟩:=hnew
  exact Heap.lt_size (kp _ _ ho)
 have hneI:l≠h2.objs.size:=ne_of_lt (Nat.lt_trans hls hDl)
 have hDf:s.heap.objs.size ∉ [h2.objs.size,l]:=by
  simp only [List.mem_cons,List.not_mem_nil,or_false,not_or]
  exact⟨ne_of_lt hDl,Nat.ne_of_gt hls⟩
 refine wpAny_pure ⟨plainId_quiet xg _,?_⟩
 have hd2:(h2.push { cls:=.type "list_iterator",data:=.fields #[.ref l,.int 0 0] }).DictOfH (tupleKind (zR X.prog X.w)) s.heap.objs.size []:=by
  obtain⟨o,es,ep,ho,h3,h4,h5,_,h6⟩:=hnew
  exact⟨o,es,ep,Heap.get?_push_of_some _ (kp _ _ ho),h3,h4,h5,(fun x hx=>nomatch hx),h6⟩
 refine zeg (h0:=s.heap) ((Walks.list (by simp [hh]) h2.objs.size l hneI its.toArray).toS) s.heap.objs.size hDf (Heap.get?_none_of_le (le_refl _)) (fun b hb=>?_) ks (by rw [hkl];simp) (by simpa using hil) (by show X.A.units+1+1<cLine;omega) hks (fun i v hv=>hraw i v (by rw [<- hv];simp)) _ 0 _ rfl (zero_le _)
  ⟨⟨_,Heap.get?_push_size _ rfl,rfl,rfl⟩,hl2.push _⟩ (fun b o z=>Heap.get?_push_of_some _ (kp0 b o z)) hd2 ?_
 ·have e:b=h2.objs.size:=by simpa using hb
  rw [e]
  exact Heap.get?_none_of_le (Nat.le_of_lt hDl)
 ·intro s' hm hS'
  obtain⟨h',g',d',tk',os'⟩:=s'
  have eg:g'=s.gens:=hm.gens
  have ed:d'=s.drawn:=hm.drawn
  have eo:os'=s.os:=hm.os
  subst eg
  subst ed
  subst eo
  have kp3:∀b o',s.heap.get? b=some o'->h'.get? b=some o':=fun b o' z=>by
   have lt:=Heap.lt_size z
   refine hm.heap b o' (fun hb=>?_) (Heap.get?_push_of_some _ (kp0 b o' z))
   rcases List.mem_cons.mp hb with e | hb
   ·exact lt_irrefl _ (e ▸ lt)
   ·have e:b=h2.objs.size:=by simpa using hb
    rw [e] at lt
    exact lt_irrefl _ (Nat.lt_trans lt hDl)
  obtain⟨o,es,ep,ho,h3,h4,h5,_,h6⟩:=hS'
  have hkk:KT H (zc3 kvs) (putAll ks):=KT.puts hkt .nil
  have hfresh:H s.heap.objs.size=none:=I.hok.fresh (le_refl _)
  refine⟨rfl,.ref s.heap.objs.size,_,I.laid (a:=s.heap.objs.size) (o:=.dT (zc3 kvs)) (t':=tk') kp3 (le_refl _) ⟨?_,beq_eq_false_iff_ne.mpr (Ne.symm (ne_of_lt big)),_,KT.keeps hkk fun b ys hb=>?_,o,es,ep,ho,h3,h4,h5,h6⟩,rfl,q _ hfresh⟩
  ·rw [Paired.length hkk]
   exact le_trans (zah ks) (by rw [hkl];exact hil)
  ·rw [zo (zj hb hfresh)]
   exact hb
end
theorem u1 {A:PySem.Around}(h:A.units+64<PySem.cLine):A.units+1<PySem.cLine:=by omega
section
variable {K:PySem.W.Frag}{g:TG}{tc:TT}{te:TE}{Q:VK}{σ0:St}{D:Addr}
end
theorem jI.into {H:Hp}(z:Addr)(o:HO){old:List V}(hz:H z=some (.lst old)):∀{vs:List V} {kvs:List (List Key×V)},jI H vs kvs->jI (upd H z o) vs kvs
 | _,_,.nil=>.nil
 | _,_,.cons ⟨a,b,e,h1,h2⟩ t=>.cons ⟨a,b,e,by rw [zo (Q0 h1 hz (by intro y;cases y))];exact h1,by rw [zo (Q0 h2 hz (by intro y;cases y))];exact h2⟩ (jI.into z o hz t)
theorem jI.snoc {H:Hp}{vs:List V}{kvs:List (List Key×V)}{v:V}{kv:List Key×V}(h:jI H vs kvs)(x:zk2 H v kv):jI H (vs++[v]) (kvs++[kv]):=Paired.snoc h x
theorem jI.length {H:Hp}{vs:List V}{kvs:List (List Key×V)}(h:jI H vs kvs):vs.length=kvs.length:=Paired.length h
section
variable {prog:Program}{w:World}{A:Around}{E:Value->Shared->Prop}{s:Shared}{d o a:Addr}{xs ys:List KQ}{k:List Key}{v:Value}
abbrev tk2 (prog:Program)(w:World):HeapKind prog w (List Key):=tupleKind (zR prog w)
theorem zeh {Q:Unit->Shared->Prop}(hu:A.units<cLine)(hkey:(tk2 prog w).is s.heap k a)(hm:s.heap.DictOfH (tk2 prog w) d xs)(hsz:xs.length<=sizeLine)
  (hQ:∀h',h'.DictOfH (tk2 prog w) d (storedH xs k a v)->Heap.SameBut d s.heap h'->Q () { s with heap:=h' }):wpAny (model prog w) A (dictSetHashed d (.ref a) ((tk2 prog w).hash k) v) Q E s:=by
 obtain⟨ob,es,ep,ho,hc,hd,he,his,hn⟩:=hm
 unfold dictSetHashed
 refine wpAny_holding (wpAny_bind (wpAny_dictFind_heap (knd:=tk2 prog w) hu hkey ho hd he his hn (fun hno=>?_) fun j p hj=>?_))
 ·have hnot:=not_mem_keys_of_get hno
  have en:=atKey_none_of_get hno
  refine wpAny_bind (wpAny_rule (wpAny_updateDictKeys (hz:=by have e:=size_of_entries he;omega) ho hd (hQ _ ⟨_,_,ep+1,Heap.get?_update_self _ ho (Obj.isFreed_of_dict (Obj.data_mapDictKeys hd _)),hc.mapDictKeys _,Obj.data_mapDictKeys hd _,?_,?_,?_⟩ (Heap.SameBut.update ..))))
  ·rw [storedH_new en]
   simp [he,entryOfKey]
  ·rw [storedH_new en]
   intro x hx
   rcases List.mem_append.mp hx with hx | hx
   ·exact(tk2 prog w).keeps (his x hx) ho hd (Heap.SameBut.update ..)
   ·have e:x=(k,a,v):=by simpa using hx
    subst e
    exact(tk2 prog w).keeps hkey ho hd (Heap.SameBut.update ..)
  ·rw [storedH_new en,map_append,List.nodup_append]
   refine⟨hn,by simp,fun x hx y hy e=>hnot ?_⟩
   have e2:y=k:=by simpa using hy
   rw [<- e2,<- e]
   exact hx
 ·have es1:=storedH_old (atKey_of_get hn hj) a v
  refine wpAny_bind (wpAny_rule (wpAny_bind (wpAny_updateDict ho hd (wpAny_point (hQ _ ⟨_,_,ep,Heap.get?_update_self _ ho (Obj.isFreed_of_dict (Obj.data_mapDict hd _)),hc.mapDict _,Obj.data_mapDict hd _,?_,?_,?_⟩ (Heap.SameBut.update ..))))))
  ·rw [es1]
   have z:=modify_map_putAt (entryOfKey (tk2 prog w)) (fun e:DictEntry=>{ e with val:=v }) k v (fun _ _=>rfl) hn hj
   rw [<- he] at z
   obtain⟨l⟩:=es
   simpa using z
  ·rw [es1]
   intro x hx
   obtain⟨y,hy,rfl⟩:=List.mem_map.mp hx
   unfold putAt
   split<;>exact(tk2 prog w).keeps (his y hy) ho hd (Heap.SameBut.update ..)
  ·rw [es1,keys_map_putAt]
   exact hn
def HN (prog:Program)(w:World)(ys:List KQ):Prop:=(ys.map fun q=>(tk2 prog w).hash q.1).Nodup
theorem zei:typeLookup (.type "tuple") "__eq__"=pure (some (.builtin "tuple.__eq__")):=by rw [typeLookup_type,builtinLookup_eq_fast];kernel_rfl
theorem zc4 {Q:Bool->Shared->Prop}(hkey:(tk2 prog w).is s.heap k a)(q:Q false s):wpAny (model prog w) A (Builtin.Dict.quietEq (.ref a)) Q E s:=by
 obtain⟨ob,its,n,h1,h2,_⟩:=hkey
 have hT:s.TypeIs (.ref a) "tuple":=⟨ob,h1,h2⟩
 unfold Builtin.Dict.quietEq
 refine wpAny_bind (wpAny_specialOf hT zei (wpAny_pure ?_))
 rw [show (some (Value.builtin "tuple.__eq__")==some (Value.builtin "object.__eq__"))=false by decide +kernel]
 exact q
theorem zf8 {ys:List KQ}{es:Array DictEntry}(he:es.toList=ys.map (entryOfKey (tk2 prog w)))(hN:HN prog w ys)(x:Int):¬ (es.filter (fun e=>e.hash==x)).size>1:=by
 have h1:(es.filter (fun e=>e.hash==x)).size=(es.toList.filter (fun e=>e.hash==x)).length:=by
  rw [<- Array.toList_filter,length_toList]
 rw [h1,he]
 unfold HN at hN
 clear h1 he
 induction ys with
 | nil=>simp
 | cons q r ih =>
  rw [map_cons,List.nodup_cons] at hN
  rw [map_cons,filter_cons]
  split
  ·rename_i hq
   have e1:(tk2 prog w).hash q.1=x:=by simpa [entryOfKey] using hq
   have:(r.map (entryOfKey (tk2 prog w))).filter (fun e=>e.hash==x)=[]:=by
    rw [List.filter_eq_nil_iff]
    intro e hm hx
    obtain⟨y,hy,rfl⟩:=List.mem_map.mp hm
    have e2:(tk2 prog w).hash y.1=x:=by simpa [entryOfKey] using hx
    exact hN.1 (List.mem_map.mpr ⟨y,hy,by rw [e1,e2]⟩)
   rw [this]
   simp
  ·exact ih hN.2
theorem zf9 {id:String}{ob:Obj}{es:Array DictEntry}{ep:Nat}{Q:Array DictEntry->Shared->Prop}(ho:s.heap.get? d=some ob)(hd:ob.data=.dict es ep)(he:es.toList=ys.map (entryOfKey (tk2 prog w)))(hk:∀x∈ys,(tk2 prog w).is s.heap x.1 x.2.1)(hN:HN prog w ys)(h:Q es s) :
  wpAny (model prog w) A (Builtin.Dict.entriesForEmpty id d) Q E s:=by
 unfold Builtin.Dict.entriesForEmpty
 refine wpAny_bind (wpAny_dictEntries ho hd (wpAny_bind ?_))
 rw [<- Array.forIn_toList]
 refine wpAny_forIn_list _ (fun rest _ s'=>s'=s/\∀e∈rest,e∈es.toList) _ ?_ ?_ _ _ ⟨rfl,fun e he=>he⟩
 ·rintro x rest b s' ⟨rfl,hr⟩
  have hx:=hr x mem_cons_self
  rw [he] at hx
  obtain⟨y,hy,rfl⟩:=List.mem_map.mp hx
  refine wpAny_bind (zc4 (hk y hy) ?_)
  rw [if_pos (show (!false)=true from rfl),if_neg (zf8 he hN _)]
  exact wpAny_pure ⟨rfl,fun e he=>hr e (mem_cons_of_mem _ he)⟩
 ·rintro b s' ⟨rfl,_⟩
  exact wpAny_pure h
noncomputable def xF (xs ys:List KQ):List KQ:=ys.foldl (fun acc q=>storedH acc q.1 q.2.1 q.2.2) xs
theorem zc5 (xs ys:List KQ)(q:KQ):xF xs (ys++[q])=storedH (xF xs ys) q.1 q.2.1 q.2.2:=by
 unfold xF
 rw [List.foldl_append]
 rfl
theorem zai (xs:List KQ):∀ys:List KQ,∀acc:List KQ,(xF acc ys).length<=acc.length+ys.length
 | [],acc=>le_refl _
 | q::r,acc=>by
  have h1:=zai xs r (storedH acc q.1 q.2.1 q.2.2)
  have h2:=Qt acc q.1 q.2.1 q.2.2
  rw [length_cons]
  show (xF (storedH acc q.1 q.2.1 q.2.2) r).length<=_
  omega
theorem YJ:∀(ys acc:List KQ),((acc++ys).map (·.1)).Nodup->xF acc ys=acc++ys
 | [],acc,_=>(append_nil acc).symm
 | q::r,acc,h=>by
  have hno:atKey acc q.1=none:=by
   unfold atKey
   rw [List.find?_eq_none.mpr]
   ·rfl
   ·intro x hx hk
    rw [map_append,map_cons,List.nodup_append] at h
    exact h.2.2 x.1 (List.mem_map.mpr ⟨x,hx,rfl⟩) q.1 mem_cons_self (of_decide_eq_true hk)
  show xF (storedH acc q.1 q.2.1 q.2.2) r=_
  rw [storedH_new hno,show ((q.1,q.2.1,q.2.2):KQ)=q from rfl,YJ r (acc++[q]) (by simpa using h)]
  simp
theorem ziL {nm:String}{Q:Unit->Shared->Prop}(hu:A.units<cLine)(hdo:d≠o)(hoS:(o==sysModules)=false)(hd:s.heap.DictOfH (tk2 prog w) d xs)(ho:s.heap.DictOfH (tk2 prog w) o ys)(hN:HN prog w ys)(hsz:xs.length+ys.length<=sizeLine)
  (hQ:∀h',h'.DictOfH (tk2 prog w) d (xF xs ys)->Heap.SameBut d s.heap h'->Q () { s with heap:=h' }):wpAny (model prog w) A (Builtin.Dict.mergeDict nm d o) Q E s:=by
 obtain⟨od,esd,epd,hod,hcd,hdd,hed,hkd,hnd⟩:=id hd
 obtain⟨oo,eso,epo,hoo,hco,hdo',heo,hko,hno⟩:=id ho
 have hlen:ys.length=eso.size:=(size_of_entries heo).symm
 unfold Builtin.Dict.mergeDict
 rw [if_neg (show ¬ (d==o)=true by simpa using hdo)]
 unfold Builtin.Dict.showsAll
 rw [if_neg (show ¬ (o==sysModules)=true by rw [hoS];exact Bool.false_ne_true)]
 refine wpAny_bind (wpAny_pure (wpAny_bind (wpAny_dictEntries hoo hdo' ?_)))
 have loop:wpAny (model prog w) A (do
   let epoch <- dictEpoch o
   let l <- dictEntries o
   forIn [:l.size] PUnit.unit fun i (_:PUnit)=>(do
     let l' <- dictEntries o
     match l'[i]? with
      | some e=>do
       holding [e.key,e.val] (dictSetHashed d e.key e.hash e.val)
       let ep' <- dictEpoch o
       if (ep' != epoch)=true then do
         (unsupported (toString nm++toString ":source-changed-during-callback"):Sem PUnit)
         pure (ForInStep.yield PUnit.unit)
        else pure (ForInStep.yield PUnit.unit)
      | _=>do
       (unsupported "internal:dict-merge":Sem PUnit)
       pure (ForInStep.yield PUnit.unit):Sem (ForInStep PUnit))
   pure ()) Q E s:=by
  refine wpAny_bind (wpAny_dictEpoch hoo hdo' (wpAny_bind (wpAny_dictEntries hoo hdo' (wpAny_bind ?_))))
  rw [Std.Legacy.Range.forIn_eq_forIn_range']
  simp only [Std.Legacy.Range.size,Nat.sub_zero,Nat.add_sub_cancel,Nat.div_one]
  refine wpAny_forIn_list _ (fun rest _ s'=>∃h' i,s'={ s with heap:=h' }/\rest=List.range' i (eso.size-i)/\i<=eso.size/\h'.DictOfH (tk2 prog w) d (xF xs (ys.take i))/\Heap.SameBut d s.heap h') _ ?_ ?_ _ _ ⟨s.heap,0,rfl,by simp,zero_le _,hd,Heap.SameBut.refl _ _⟩
  ·rintro x rest b s' ⟨h',i,rfl,hr,hi,hd',hs'⟩
   have hlt:i<eso.size:=by
    rcases lt_or_ge i eso.size with h | h
    ·exact h
    ·rw [Nat.sub_eq_zero_of_le h] at hr
     simp at hr
   obtain⟨rfl,hrest⟩:x=i/\rest=List.range' (i+1) (eso.size-(i+1)):=by
    rw [show eso.size-i=(eso.size-(i+1))+1 by omega,List.range'_succ] at hr
    injection hr with h1 h2
    exact⟨h1,h2⟩
   have hoo':h'.get? o=some oo:=(hs'.2 o (Ne.symm hdo)).trans hoo
   obtain⟨q,hq⟩:∃q,ys[x]?=some q:=⟨_,getElem?_eq_getElem (by omega)⟩
   refine wpAny_bind (wpAny_dictEntries hoo' hdo' ?_)
   rw [entry_at heo x,hq]
   have hkq:=hko q (mem_of_getElem? hq)
   have hkq':(tk2 prog w).is h' q.1 q.2.1:=(tk2 prog w).keeps hkq hod hdd hs'
   have l1:=zai xs (ys.take x) xs
   have l2:(ys.take x).length<=ys.length:=by
    rw [length_take]
    omega
   refine wpAny_bind (wpAny_holding (zeh (s:={ s with heap:=h' }) hu hkq' hd' (by omega) fun h'' hd'' hs''=>?_))
   have hoo'':h''.get? o=some oo:=(hs''.2 o (Ne.symm hdo)).trans hoo'
   refine wpAny_bind (wpAny_dictEpoch hoo'' hdo' ?_)
   rw [if_neg (by simp)]
   refine wpAny_pure ⟨h'',x+1,rfl,hrest,hlt,?_,hs'.trans hs''⟩
   rw [take_add_one,hq]
   show h''.DictOfH (tk2 prog w) d (xF xs (ys.take x++[q]))
   rw [zc5]
   exact hd''
  ·rintro b s' ⟨h',i,rfl,hr,hi,hd',hs'⟩
   have hin:i=eso.size:=by
    rcases lt_or_ge i eso.size with h | h
    ·rw [show eso.size-i=(eso.size-(i+1))+1 by omega,List.range'_succ] at hr
     exact nomatch hr
    ·exact Nat.le_antisymm hi h
   rw [hin,<- hlen,take_length] at hd'
   exact wpAny_pure (hQ h' hd' hs')
 dsimp only
 split
 ·refine wpAny_bind (wpAny_dictEntries hod hdd ?_)
  split
  ·rename_i hemp
   have hx0:xs=[]:=by
    have h0:esd=#[]:=Array.isEmpty_iff.mp hemp
    rw [h0] at hed
    exact List.map_eq_nil_iff.mp hed.symm
   subst hx0
   rw [YJ ys [] (by simpa using hno)] at hQ
   refine wpAny_bind (zf9 hoo hdo' heo hko hN ?_)
   split
   ·refine wpAny_bind (wpAny_updateDictKeysTo hod hdd (wpAny_pure (hQ _ ⟨_,_,epd+1,Heap.get?_update_self _ hod (Obj.isFreed_of_dict (Obj.data_mapDictKeys hdd _)),hcd.mapDictKeys _,Obj.data_mapDictKeys hdd _,heo,fun x hx=>(tk2 prog w).keeps (hko x hx) hod hdd (Heap.SameBut.update ..),hno⟩ (Heap.SameBut.update ..))) (by
     simp only [length_nil,zero_add] at hsz
     omega))
   ·rename_i hne
    have h0:eso=#[]:=Array.isEmpty_iff.mp (by simpa using hne)
    have hy0:ys=[]:=by
     rw [h0] at heo
     exact List.map_eq_nil_iff.mp heo.symm
    subst hy0
    exact wpAny_pure (hQ _ hd (Heap.SameBut.refl _ _))
  ·exact loop
 ·exact loop
end
def HH (i j:Nat):Int:=reduceHash (Builtin.Tuple.tupleHashOf [hashInt (i:Int),hashInt (j:Int)])
theorem Jf (prog:Program)(w:World)(i j:Nat):(tk2 prog w).hash [.inl ((i:Nat):Int),.inl ((j:Nat):Int)]=HH i j:=by
 show tupleKeyHash (zR prog w) [.inl ((i:Nat):Int),.inl ((j:Nat):Int)]=HH i j
 unfold tupleKeyHash HH
 rw [map_cons,map_cons,map_nil]
 have e:∀n:Nat,(zR prog w).hash (.inl ((n:Nat):Int))=hashInt ((n:Nat):Int):=fun n=>by
  show zjG w (.inl ((n:Nat):Int))=_
  unfold zjG
  with_reducible rfl
 rw [e,e]
theorem zkb:(List.range 64).all fun n=>(List.range 64).all fun m=>decide (HH (n/8) (n%8)=HH (m/8) (m%8))==decide (n=m):=by decide +kernel
theorem zc6 {i j i' j':Nat}(h1:i<8)(h2:j<8)(h3:i'<8)(h4:j'<8)(e:HH i j=HH i' j'):i=i'/\j=j':=by
 have h:=zkb
 rw [all_eq_true] at h
 have a:=h (8*i+j) (List.mem_range.mpr (by omega))
 rw [all_eq_true] at a
 have b:=a (8*i'+j') (List.mem_range.mpr (by omega))
 rw [show (8*i+j)/8=i by omega,show (8*i+j)%8=j by omega,show (8*i'+j')/8=i' by omega,show (8*i'+j')%8=j' by omega,decide_eq_true e] at b
 have c:decide (8*i+j=8*i'+j')=true:=by simpa using b
 have d:=of_decide_eq_true c
 omega
def Small (ks:List (List Key)):Prop:=∀k∈ks,∃i j:Nat,i<8/\j<8/\k=[.inl ((i:Nat):Int),.inl ((j:Nat):Int)]
theorem zjp {prog:Program}{w:World}:∀{ys:List KQ},Small (ys.map (·.1))->(ys.map (·.1)).Nodup->HN prog w ys
 | [],_,_=>List.nodup_nil
 | q::r,hs,hn=>by
  rw [map_cons,List.nodup_cons] at hn
  unfold HN
  rw [map_cons,List.nodup_cons]
  refine⟨fun hm=>?_,zjp (fun k hk=>hs k (mem_cons_of_mem _ hk)) hn.2⟩
  obtain⟨y,hy,e⟩:=List.mem_map.mp hm
  obtain⟨i,j,h1,h2,e1⟩:=hs q.1 mem_cons_self
  obtain⟨i',j',h3,h4,e2⟩:=hs y.1 (mem_cons_of_mem _ (List.mem_map.mpr ⟨y,hy,rfl⟩))
  rw [e1,e2,Jf,Jf] at e
  obtain⟨a,b⟩:=zc6 h3 h4 h1 h2 e
  refine hn.1 (List.mem_map.mpr ⟨y,hy,?_⟩)
  rw [e1,e2,a,b]
theorem KT.keys {H:Hp}:∀{kvs:List (List Key×V)} {xs:List KQ},KT H kvs xs->xs.map (·.1)=kvs.map (·.1)
 | _,_,.nil=>rfl
 | _,_,.cons ⟨h1,_,_⟩ t=>by rw [map_cons,map_cons,KT.keys t,h1]
theorem zhm {P:Program}{w:World}{H:Hp}{kvs:List (List Key×V)}{xs:List KQ}(r:KT H kvs xs)(hs:Small (kvs.map (·.1)))(hn:(xs.map (·.1)).Nodup):HN P w xs:=zjp (by rw [r.keys];exact hs) hn
noncomputable def Yd (kvs more:List (List Key×V)):List (List Key×V):=more.foldl (fun acc kv=>putK acc kv.1 kv.2) kvs
theorem zaj:∀(more kvs:List (List Key×V)),(Yd kvs more).length<=kvs.length+more.length
 | [],kvs=>le_refl _
 | kv::r,kvs=>by
  have h1:=zaj r (putK kvs kv.1 kv.2)
  have h2:=Zw kvs kv.1 kv.2
  show (Yd (putK kvs kv.1 kv.2) r).length<=_
  rw [length_cons]
  omega
section
variable {X:Cx}
end
section
variable {X:Cx}
theorem zej (hu:X.A.units+64<cLine):MtR X "dict.update" (fun x vs H Q=>∃d o kvs more,x=.ref d/\vs=[.ref o]/\d≠o/\H d=some (.dT kvs)/\H o=some (.dT more)/\Small (more.map (·.1))/\kvs.length+more.length<=sizeLine/\Q .non (upd H d (.dT (Yd kvs more)))):=by
 intro pins s σ H x vs v us Q I rx rv h
 obtain⟨d,o,kvs,more,rfl,rfl,hdo,hd,ho,hsm,hsz,q⟩:=h
 cases rx
 obtain⟨u,rfl,ru⟩:=vals1 rv
 cases ru
 obtain⟨hz,hS,ks,hkt,dd⟩:=zjo I.hok hd
 obtain⟨hz2,hS2,ks2,hkt2,dd2⟩:=zjo I.hok ho
 have hN:HN X.prog X.w ks2:=by
  obtain⟨_,_,_,_,_,_,_,_,hn⟩:=dd2
  exact zhm hkt2 hsm hn
 refine wpAny_call_entry PySem.F.slot_dict_update dd.typeIs PySem.F.entry_dict_update ?_ (PySem.F.args_dict_update_2 _ _)
 unfold Builtin.«dict.update»
 refine wpAny_bind ?_
 unfold Builtin.Dict.selfAndRest
 refine wpAny_bind (wpAny_notOrdered_dict dd.typeIs ?_)
 show wpAny _ _ (pure (d,[Value.ref o])) _ _ s
 refine wpAny_pure ?_
 show wpAny _ _ (Builtin.Dict.updateFrom "dict.update" d (.ref o) [] .none) _ _ s
 unfold Builtin.Dict.updateFrom
 refine wpAny_bind (wpAny_typeOf dd2.typeIs ?_)
 rw [if_neg (by decide)]
 refine wpAny_bind ?_
 unfold Builtin.Dict.merge
 refine wpAny_bind ?_
 unfold Builtin.Dict.readDirectly
 refine wpAny_bind (wpAny_isInstance dd2.typeIs isSubtype_dict_dict ?_)
 simp only [Bool.not_true,false_eq_true,if_false]
 refine wpAny_bind (wpAny_specialOf dd2.typeIs PySem.F.slot_dict_iter.lookup (wpAny_pure ?_))
 simp only [beq_self_eq_true,if_true]
 refine wpAny_bind (wpAny_pure ?_)
 have l1:ks.length=kvs.length:=(Paired.length hkt).symm
 have l2:ks2.length=more.length:=(Paired.length hkt2).symm
 refine ziL (by show X.A.units+1<cLine;omega) hdo hS2 dd dd2 hN (by omega) fun h' hd' hs'=>?_
 show wpAny _ _ (Builtin.Dict.addKeywords d [] >>= _) _ _ _
 refine wpAny_bind (wpAny_pure (wpAny_pure ⟨_,rfl,?_⟩))
 obtain⟨ob,es,ep,hob,h3,h4,h5,_,h6⟩:=hd'
 have hkk:KT H (Yd kvs more) (xF ks ks2):=KT.puts hkt2 hkt
 have hl:=zaj more kvs
 refine⟨.non,_,zfd (t':=s.toks) (ob:=.dT (Yd kvs more)) I (by rw [hd];exact True.intro) hs' ⟨ob,hob⟩ ⟨by omega,hS,_,hkk.keeps fun c ys ec=>?_,ob,es,ep,hob,h3,h4,h5,h6⟩,rfl,q⟩
 rw [zo (Q0 ec hd (fun z=>nomatch z))]
 exact ec
end
section
variable {prog:Program}{w:World}{A:Around}{E:Value->Shared->Prop}{s:Shared}{a b:Addr}{H:Hp}{kvs:List (List Key×V)}{ka kb:List KQ}
end
section
variable {X:Cx}
end
section
variable {prog:Program}{w:World}{A:Around}{E:Value->Shared->Prop}{s:Shared}{d it:Addr}{od:Obj}{es:Array DictEntry}{ep i:Nat}
end
section
variable {X:Cx}{tg:Expr}
end
section
variable {X:Cx}
theorem vals3 {x y z:V}{us:List Value}(r:Vals [x,y,z] us):∃u v w',us=[u,v,w']/\RelV x u/\RelV y v/\RelV z w':=by
 cases r with
 | cons r1 r2 =>
  obtain⟨v,w',rfl,h1,h2⟩:=vals2 r2
  exact⟨_,v,w',rfl,r1,h1,h2⟩
def mx3 (i j k:Int):Int:=if j>i then (if k>j then k else j) else (if k>i then k else i)
def mn3 (i j k:Int):Int:=if j<i then (if k<j then k else j) else (if k<i then k else i)
theorem zga (hc:X.calm=true):jn X (.builtin "max") (fun xs H Q=>∃i j k,xs=[.int i,.int j,.int k]/\Q (.int (mx3 i j k)) H):=by
 intro pins s σ H xs us Q I r h
 obtain⟨i,j,k,rfl,q⟩:=h
 obtain⟨u,v,w',rfl,⟨t,rfl⟩,⟨t',rfl⟩,⟨t'',rfl⟩⟩:=vals3 r
 refine max_three_ints (I.ok.hd hc) fun h' tk kp=>⟨_,H,I.kept kp,?_,q⟩
 unfold mx3
 split<;>split<;>exact⟨_,rfl⟩
theorem zgb (hc:X.calm=true):jn X (.builtin "min") (fun xs H Q=>∃i j k,xs=[.int i,.int j,.int k]/\Q (.int (mn3 i j k)) H):=by
 intro pins s σ H xs us Q I r h
 obtain⟨i,j,k,rfl,q⟩:=h
 obtain⟨u,v,w',rfl,⟨t,rfl⟩,⟨t',rfl⟩,⟨t'',rfl⟩⟩:=vals3 r
 refine min_three_ints (I.ok.hd hc) fun h' tk kp=>⟨_,H,I.kept kp,?_,q⟩
 unfold mn3
 split<;>split<;>exact⟨_,rfl⟩
theorem zek (x:Str):∀(acc:List Value),(∀j v,acc[j]?=some v->SignAt x j v)->∀(n:Nat),acc.length=n->n<=x.cps.size->Vals ((x.cps.toList.take n).map fun c=>V.str ⟨#[c]⟩) acc:=by
 intro acc h n
 induction n generalizing acc with
 | zero =>
  intro hl _
  have:acc=[]:=List.length_eq_zero_iff.mp hl
  subst this
  exact .nil
 | succ n ih =>
  intro hl hn
  obtain⟨c,u,hc,hv⟩:=h n (acc[n]'(by omega)) (getElem?_eq_getElem (by omega))
  have e1:acc=acc.take n++[acc[n]'(by omega)]:=by
   have:=List.take_append_getElem (l:=acc) (i:=n) (by omega)
   rw [this,<- hl,take_length]
  have hc':x.cps.toList[n]?=some c:=by rw [getElem?_toList];exact hc
  rw [take_add_one,hc',map_append,e1]
  refine Vals.append (ih (acc.take n) (fun j v hj=>?_) (by rw [length_take];omega) (by omega)) (.cons ?_ .nil)
  ·have hjn:j<n:=by
    have:=(List.getElem?_eq_some_iff.mp hj).1
    rw [length_take] at this
    omega
   rw [List.getElem?_take_of_lt hjn] at hj
   exact h j v hj
  ·rw [hv]
   exact⟨u,rfl⟩
theorem Zx (hc:X.calm=true):jn X (.type "list") (fun xs H Q=>∃x:Str,xs=[.str x]/\x.length<=sizeLine/\∀l,H l=none->Q (.ref l) (upd H l (.lst (x.cps.toList.map fun c=>V.str ⟨#[c]⟩)))):=by
 intro pins s σ H xs us Q I r h
 obtain⟨x,rfl,hz,q⟩:=h
 obtain⟨u,rfl,t,rfl⟩:=vals1 r
 refine call_list_str (I.ok.hd hc) x t (fun h' tk acc c kp e it=>?_) hz
 obtain⟨hs,ha⟩:=it
 have rv:=zek x acc.toList (fun j v hj=>ha j v (by rw [<- getElem?_toList];exact hj)) x.cps.size (by rw [length_toList];exact hs) (le_refl _)
 rw [take_of_length_le (by rw [length_toList];exact le_refl _)] at rv
 refine⟨.ref s.heap.objs.size,_,I.laid (t':=tk) kp (le_refl _) (show qB X.prog X.w _ h' _ (.lst (x.cps.toList.map fun c=>V.str ⟨#[c]⟩)) from ⟨?_,acc.toList,c,rv,e⟩),rfl,q _ (I.hok.fresh (le_refl _))⟩
 rw [length_map,length_toList]
 exact hz
end
section
variable {X:Cx}
theorem zgc (hu:X.A.units+64<cLine):OpR X (compareOp .In) (fun x y H Q=>∃d ds,Rdv X.K H x d/\Rdv X.K H y (.tuple ds)/\d.canLay0=true/\PyData.canLayAll0 ds=true/\d.depth<=60/\Q (.bl (ds.any fun z=>PyData.eqv z d)) H):=by
 intro pins s σ H x y v u Q I rx ry h
 obtain⟨d,ds,hx,hy,c1,c2,c3,q⟩:=h
 obtain⟨as,ra⟩:=hx.reads I rx
 obtain⟨bs,rb⟩:=hy.reads I ry
 exact SeqAt.in_tuple_reads rb ra c2 c1 (by omega) ⟨.bl _,H,I,rfl,q⟩
end
section
variable {X:Cx}
def zk3 (K:PySem.W.Frag)(S:Addr)(sp:Sp)(ta:TA)(ts:TS):TS:=fun D σ H=>ta σ H fun vs H1=>sp vs H1 (fun v H2=>D.rt v H2)
 (fun c _ H2=>∃C,c=.ref C/\PySem.W.mroIn K C (.ref S)=some true/\∀e,H2 e=none->ts D σ (upd H2 e (exO e C)))
theorem ziM {k:Nat}{f xS:Str}{fA S:Addr}{fd:FuncData}{ps:List Str}{sp:Sp}{ta:TA}{ts:TS}{e0:Expr}{es:List Expr}{fp cp ap sp0 hp pos:Pos}{b0:Stmt}{suite:List Stmt}
  (hst:X.stack=X.env::X.outer) (hfr:X.env.frame=some X.env.locals) (F:zQ X.prog X.w X.K X.mg X.base (CXE X.prog X.w) k fA fd ps sp) (hr:Jv k X.A) (hg:Gl X f) (hm:X.mg f=some (.ref fA)) (hk:PySem.W.keepIn X.K (.ref fA)=true) (hb:Binds X.K fd ps [])
  (gS:Gl X xS) (O:Z0 X.K X.mg xS S) (ha:PA X.nox (e0::es) ta) (hs:∀e,PSs (markX X e) (b0::suite) ts)
  (he:starEach (e0::es) X.env=(false,eval e0 X.env)::starEach es X.env:=by rfl) (hpl:(backTo cp (starEach es X.env)).any (·.1)=false:=by rfl) (hdb:(f==("__debug__":Str))=false:=by decide) (hdS:(xS==("__debug__":Str))=false:=by decide) :
  PS X (.Try [.Return (some (.Call (.Name f fp) (e0::es) [] cp)) ap] [.ExceptHandler (some (.Name xS sp0)) none (b0::suite) hp] [] [] pos) (zk3 X.K S sp ta ts):=by
 intro pins s σ H D I h
 refine wpAny_Try_except (wpAny_execs_cons ?_)
 refine wpAny_Return_some (wpAny_Call_Name_kw (JX I hg hm ?_ hdb))
 refine PySem.W.callWith_K (h₀:=X.base) I.ok.mod.kin hk (wpAny_mono (ha cp pins s σ H _ (I.wish _) h) (fun us s1 ⟨vs,H1,I1',r,q⟩=>⟨I1'.kIn,?_⟩) fun _ _ z=>False.elim z) he hpl
 have I1:Inv X pins σ H1 s1:=I1'.unwish
 have hlen:us.length=ps.length:=by rw [<- r.length];exact F.len _ _ _ _ q
 have bt:=hb s1 us I1.kIn (by rw [append_nil];exact hlen)
 rw [append_nil] at bt
 refine wpAny_call (codeAny_mono (F.run X.A X.stack s1 H1 ⟨us,[]⟩ us vs _ _ hr I1.env0 bt r q) fun res s' hq=>?_)
 cases res with
 | ok fl =>
  cases fl with
  | ret u =>
   obtain⟨v,H2,I2,rv,q2⟩:=I1.after hq
   exact⟨v,σ,H2,I2,rv,q2⟩
  | next=>exact False.elim hq
  | brk=>exact False.elim hq
  | cont=>exact False.elim hq
 | error y =>
  obtain⟨e,C,a0,B,H',rfl,Fl,C',ec,hmr,hsu⟩:=hq
  cases ec
  have ff:=Fl.fly
  rw [hst] at ff
  refine wpAny_looks_onW (by rw [I1.ok.frames,hst]) hfr ff fun h4 zhn up4=>?_
  refine wpAny_landsW zhn fun h5 zel up5=>?_
  have up:=up4.trans up5
  have I5:=Fl.caught I1 (h:=h5) (by rw [hst];exact zel) up
  refine wpAny_handleBy_cons (codeAny_handlers_test (JX (X:=markX X e) (I5.mark e) gS O.g ?_ hdS)) (by intro z;cases z)
  obtain⟨bm,OS⟩:=zhc I5.kIn O.q
  obtain⟨oe,vs5,q1,q2,q3,_⟩:=zel.first
  refine ze7 OS q1 q2 (PySem.W.looks_mroIn I5.kIn hmr) (codeAny_handlers_suite ?_)
  refine lands_againW zel fun h6 zkc up6=>?_
  have I6:=Fl.caught I1 (h:=h6) (by rw [hst];exact zkc) (up.trans up6)
  refine wpAny_mono (hs e pins _ _ _ _ (I6.mark e) (hsu e Fl.free)) (fun fl s8 q8=>?_) fun _ _ z=>z.elim
  cases fl with
  | next =>
   obtain⟨σ8,H8,I8,q8⟩:=q8
   exact⟨_,H8,I8.unmark I.ok,q8⟩
  | brk =>
   obtain⟨σ8,H8,I8,q8⟩:=q8
   exact⟨_,H8,I8.unmark I.ok,q8⟩
  | cont =>
   obtain⟨σ8,H8,I8,q8⟩:=q8
   exact⟨_,H8,I8.unmark I.ok,q8⟩
  | ret u =>
   obtain⟨v8,σ8,H8,I8,r8,q8⟩:=q8
   exact⟨v8,_,H8,I8.unmark I.ok,r8,q8⟩
end
section
variable {X:Cx}
theorem zc7:jn X (.builtin "len") (fun xs H Q=>(∃p ys,xs=[.ref p]/\(SqL X.K H p ys\/SqT X.K H p ys)/\Q (.int ys.length) H)\/∃z:Str,xs=[.str z]/\z.length<=sizeLine/\Q (.int z.length) H):=by
 intro pins s σ H xs us Q I r h
 rcases h with h | h
 ·exact zx pins s σ H xs us Q I r h
 ·exact YA pins s σ H xs us Q I r h
theorem zk4:IxR X (fun x y H Q=>zkV X.K x y H Q\/zkX x y H Q):=by
 intro value slice pins s σ H x y v u Q I rx ry h hs
 rcases h with h | h
 ·exact zT value slice pins s σ H x y v u Q I rx ry h hs
 ·exact zb2 value slice pins s σ H x y v u Q I rx ry h hs
end
section
variable {X:Cx}{e k:Expr}{te tk:TE}{pos p2:Pos}
def zlQ (K:PySem.W.Frag)(te tk:TE):TE:=fun σ H Q=>te σ H fun x H1=>zjk tk σ H1 fun o H2=>o=some (-1)/\∃a xs,x=.ref a/\SqL K H2 a xs/\∀p,H2 p=none->Q (.ref p) (upd H2 p (.lst xs.reverse))
theorem zho (he:PE X e te)(hk:PE X k tk):PE X (.Subscript e (.Slice none none (some k) p2) pos) (zlQ X.K te tk):=by
 intro pins s σ H Q I h
 refine Subscript_ (thn (he pins s σ H _ I h) fun v s1 ⟨x,H1,I1,r1,q1⟩=>?_)
 refine wpAny_Slice (thn (yY pins s1 σ H1 (fun o H'=>o=none/\H'=H1) I1 ⟨rfl,rfl⟩) fun vl s2 ⟨l,H2,I2,pl,q2⟩=>?_)
 obtain⟨rfl,rfl⟩:=q2
 refine thn (yY pins s2 σ H2 (fun o H'=>o=none/\H'=H2) I2 ⟨rfl,rfl⟩) fun vu s3 ⟨u,H3,I3,pu,q3⟩=>?_
 obtain⟨rfl,rfl⟩:=q3
 refine thn (Je hk pins s3 σ H3 _ I3 q1) fun vs s4 ⟨o,H4,I4,ps,q4⟩=>?_
 obtain⟨rfl,a,xs,rfl,hx,q⟩:=q4
 cases r1
 have I5:Inv X pins σ H4 { s4 with heap:=s4.heap.push { cls:=.type "slice",data:=.fields #[vl,vu,vs] } }:=I4.kept (t':=s4.toks) fun b ob q=>Heap.get?_push_of_some _ q
 obtain⟨its,r,ht,hz⟩:=I5.list hx
 have hlen:=r.length
 show wpAny (model X.prog X.w) X.A (subscriptTail e (.Slice none none (some k) p2) (.ref a) (.ref s4.heap.objs.size)) (EP X pins σ Q) X.xe { s4 with heap:=s4.heap.push { cls:=.type "slice",data:=.fields #[vl,vu,vs] } }
 refine tail_any (ops:=[.ref a,.ref s4.heap.objs.size]) ht.isList.typeIs slot_list_getitem.lookup ?_ (by with_unfolding_all rfl)
 refine wpAny_getItem_list_slice ht.isList (Heap.IsSliceOf.new ..) pl pu ps (by simp) ?_ (by rw [size_toArray];omega)
 rw [PySem.W.krv_pick,List.toList_toArray]
 refine⟨.ref (s4.heap.push { cls:=.type "slice",data:=.fields #[vl,vu,vs] }).objs.size,_,I5.laid (t':=s4.toks) (o:=.lst xs.reverse) (fun b ob q=>Heap.get?_push_of_some _ q) (le_refl _) ?_,rfl,q _ (I5.hok.fresh (le_refl _))⟩
 exact⟨by rw [List.length_reverse];exact hz,_,0,r.reverse,Heap.get?_push_size _ rfl⟩
end
open PySem
namespace ST
noncomputable def run (mask i:Nat):List Nat:=(List.range (SetTable.runEnd mask i+1-i)).map (i + ·)
noncomputable def walk (mask:Nat):Nat->Nat->Nat->List Nat
 | 0,_,_=>[]
 | f+1,i,p=>run mask i++walk mask f (SetTable.leap mask i p).1 (SetTable.leap mask i p).2
theorem ziN (mask i:Nat):1<=(run mask i).length/\(run mask i).length<=10:=by
 unfold run SetTable.runEnd
 rw [length_map,length_range]
 split<;>omega
theorem zak (mask:Nat):∀f i p,(walk mask f i p).length<=10*f
 | 0,_,_=>le_refl _
 | f+1,i,p=>by
  rw [walk,length_append]
  have:=(ziN mask i).2
  have:=zak mask f (SetTable.leap mask i p).1 (SetTable.leap mask i p).2
  omega
noncomputable def steps (t:SetTable):Nat->SetTable.Probe->SetTable.Probe
 | 0,p=>p
 | n+1,p=>steps t n (t.advance p)
theorem Qc (t:SetTable):∀n m p,steps t (n+m) p=steps t m (steps t n p)
 | 0,m,p=>by rw [zero_add];rfl
 | n+1,m,p=>by
  rw [show n+1+m=(n+m)+1 from by omega]
  exact Qc t n m (t.advance p)
theorem Qd (t:SetTable)(i pt:Nat)(dm:Option Nat):∀(d r j:Nat),d<=r->steps t d { j:=j,more:=r,i:=i,perturb:=pt,dummy:=dm }={ j:=j+d,more:=r-d,i:=i,perturb:=pt,dummy:=dm }
 | 0,r,j,_=>rfl
 | d+1,r,j,h=>by
  have e:t.advance { j:=j,more:=r,i:=i,perturb:=pt,dummy:=dm }={ j:=j+1,more:=r-1,i:=i,perturb:=pt,dummy:=dm }:=by
   unfold SetTable.advance
   rw [if_pos (by show r>0;omega)]
  show steps t d (t.advance _)=_
  rw [e,Qd t i pt dm d (r-1) (j+1) (by omega)]
  congr 1<;>omega
noncomputable def ZR (mask i pt:Nat)(dm:Option Nat):SetTable.Probe:={ j:=i,more:=SetTable.runEnd mask i-i,i:=i,perturb:=pt,dummy:=dm }
theorem Qe (mask i:Nat):i<=SetTable.runEnd mask i:=by
 unfold SetTable.runEnd
 split<;>omega
theorem zem (t:SetTable)(i pt:Nat)(dm:Option Nat):steps t (run t.mask i).length (ZR t.mask i pt dm)=ZR t.mask (SetTable.leap t.mask i pt).1 (SetTable.leap t.mask i pt).2 dm:=by
 have hl:(run t.mask i).length=(SetTable.runEnd t.mask i-i)+1:=by
  unfold run
  rw [length_map,length_range]
  have:=Qe t.mask i
  omega
 rw [hl,Qc]
 unfold ZR
 rw [Qd t i pt dm _ _ _ (le_refl _),sub_self]
 rw [steps,steps]
 unfold SetTable.advance
 rw [if_neg (by show ¬ 0>0;omega)]
theorem xG (t:SetTable):∀(f i pt:Nat) (dm:Option Nat) (n:Nat) (j:Nat),(walk t.mask f i pt)[n]?=some j->(steps t n (ZR t.mask i pt dm)).j=j
 | 0,_,_,_,_,_,h=>by simp [walk] at h
 | f+1,i,pt,dm,n,j,h=>by
  rw [walk] at h
  by_cases hn:n<(run t.mask i).length
  ·rw [getElem?_append_left hn] at h
   unfold run at h
   rw [getElem?_map,List.getElem?_range (by unfold run at hn;simpa using hn)] at h
   have hl:(run t.mask i).length=(SetTable.runEnd t.mask i-i)+1:=by
    unfold run
    rw [length_map,length_range]
    have:=Qe t.mask i
    omega
   unfold ZR
   rw [Qd t i pt dm n _ _ (by omega)]
   exact Option.some.inj h
  ·rw [List.getElem?_append_right (by omega)] at h
   have e:n=(run t.mask i).length+(n-(run t.mask i).length):=by omega
   rw [e,Qc,zem]
   exact xG t f _ _ dm _ j h
theorem zcb (t:SetTable)(hashAt:Nat->Int)(h:Int):∀(n F:Nat) (p:SetTable.Probe),(∀k,k<n->∃i,t.slot (steps t k p).j=.live i/\(hashAt i==h)=false)->n<=F->SetTable.probe.go t hashAt h F p=SetTable.probe.go t hashAt h (F-n) (steps t n p)
 | 0,F,p,_,_=>rfl
 | n+1,F,p,hk,hF=>by
  obtain⟨F',rfl⟩:∃F',F=F'+1:=⟨F-1,by omega⟩
  obtain⟨i,h1,h2⟩:=hk 0 (by omega)
  have h1':t.slot p.j=.live i:=h1
  rw [SetTable.probe.go,h1']
  show (if (hashAt i==h)=true then _ else _)=_
  rw [if_neg (by rw [h2];decide),zcb t hashAt h n F' (t.advance p) (fun k hk'=>hk (k+1) (by omega)) (by omega),Nat.add_sub_add_right]
  rfl
def Up (xs:Array Nat):Prop:=∀i j,i<j->j<xs.size->xs.getD i 0<xs.getD j 0
theorem zhp {xs:Array Nat}(U:Up xs)(j:Nat):∀(f lo hi:Nat),hi-lo<=f->lo<=hi->hi<=xs.size->(∀i,i<lo->xs.getD i 0<j)->(∀i,hi<=i->i<xs.size->j<=xs.getD i 0) ->
  SetTable.below.go xs j f lo hi<=xs.size/\(∀i,i<SetTable.below.go xs j f lo hi->xs.getD i 0<j)/\(∀i,SetTable.below.go xs j f lo hi<=i->i<xs.size->j<=xs.getD i 0):=by
 intro f
 induction f with
 | zero =>
  intro lo hi hf hl hs h1 h2
  have:lo=hi:=by omega
  subst this
  exact⟨hs,h1,h2⟩
 | succ f ih =>
  intro lo hi hf hl hs h1 h2
  by_cases hlt:lo<hi
  ·have hm:(lo+hi)/2<hi:=by omega
   have hm2:lo<=(lo+hi)/2:=by omega
   have hms:(lo+hi)/2<xs.size:=by omega
   have e:xs.getD ((lo+hi)/2) j=xs.getD ((lo+hi)/2) 0:=by
    simp [Array.getD,hms]
   have e2:SetTable.below.go xs j (f+1) lo hi=if xs.getD ((lo+hi)/2) 0<j then SetTable.below.go xs j f ((lo+hi)/2+1) hi else SetTable.below.go xs j f lo ((lo+hi)/2):=by
    rw [SetTable.below.go,if_pos hlt]
    show (if xs.getD ((lo+hi)/2) j<j then _ else _)=_
    rw [e]
   by_cases hx:xs.getD ((lo+hi)/2) 0<j
   ·rw [e2,if_pos hx]
    refine ih ((lo+hi)/2+1) hi (by omega) (by omega) hs (fun i hi'=>?_) h2
    by_cases he:i=(lo+hi)/2
    ·rw [he]
     exact hx
    ·exact Nat.lt_trans (U i ((lo+hi)/2) (by omega) hms) hx
   ·rw [e2,if_neg hx]
    refine ih lo ((lo+hi)/2) (by omega) (by omega) (by omega) h1 (fun i hi' hi2=>?_)
    by_cases he:i=(lo+hi)/2
    ·rw [he]
     omega
    ·have:=U ((lo+hi)/2) i (by omega) hi2
     omega
  ·rw [SetTable.below.go,if_neg hlt]
   have:lo=hi:=by omega
   subst this
   exact⟨hs,h1,h2⟩
theorem Jz {xs:Array Nat}(U:Up xs)(j:Nat):SetTable.below xs j<=xs.size/\(∀i,i<SetTable.below xs j->xs.getD i 0<j)/\(∀i,SetTable.below xs j<=i->i<xs.size->j<=xs.getD i 0) :=
 zhp U j xs.size 0 xs.size (by omega) (zero_le _) (le_refl _) (fun _ h=>absurd h (Nat.not_lt_zero _)) (fun i h1 h2=>absurd h2 (by omega))
theorem xH {xs:Array Nat}{i:Nat}(h:i<xs.size):xs[i]?=some (xs.getD i 0):=by
 simp [Array.getD,h]
theorem JA {t:SetTable}(U:Up t.place){i:Nat}(hi:i<t.place.size):t.slot (t.place.getD i 0)=.live i:=by
 have b:=Jz U (t.place.getD i 0)
 have e:SetTable.below t.place (t.place.getD i 0)=i:=by
  rcases Nat.lt_trichotomy (SetTable.below t.place (t.place.getD i 0)) i with h | h | h
  ·have h1:=b.2.2 _ (le_refl _) (by omega)
   have h2:=U _ i h hi
   omega
  ·exact h
  ·have:=b.2.1 i h
   omega
 unfold SetTable.slot
 simp only [e,xH hi]
 rw [if_pos (by simp)]
theorem slot_of {t:SetTable}(U:Up t.place)(hd:t.dummies=#[])(j:Nat):(∃i,i<t.place.size/\t.place.getD i 0=j/\t.slot j=.live i)\/(t.slot j=.empty/\∀i,i<t.place.size->t.place.getD i 0≠j):=by
 by_cases h:∃i,i<t.place.size/\t.place.getD i 0=j
 ·obtain⟨i,hi,rfl⟩:=h
  exact .inl ⟨i,hi,rfl,JA U hi⟩
 ·have hn:∀i,i<t.place.size->t.place.getD i 0≠j:=fun i hi e=>h ⟨i,hi,e⟩
  refine .inr ⟨?_,hn⟩
  unfold SetTable.slot
  have h1:¬ ((t.place[SetTable.below t.place j]?==some j)=true):=fun z=>by
   have z':t.place[SetTable.below t.place j]?=some j:=by simpa using z
   have hl:SetTable.below t.place j<t.place.size:=by
    rcases lt_or_ge (SetTable.below t.place j) t.place.size with q | q
    ·exact q
    ·rw [getElem?_eq_none q] at z'
     cases z'
   rw [xH hl] at z'
   exact hn _ hl (Option.some.inj z')
  simp only []
  rw [if_neg h1,hd]
  rfl
def Reach (t:SetTable)(h:Int)(j:Nat):Prop:=∃n:Nat,(walk t.mask (SetTable.turns t.mask) (SetTable.bits h%(t.mask+1)) (SetTable.bits h))[n]?=some j/\∀k:Nat,k<n->∀j',(walk t.mask (SetTable.turns t.mask) (SetTable.bits h%(t.mask+1)) (SetTable.bits h))[k]?=some j'->∃i,i<t.place.size/\t.place.getD i 0=j'
theorem YK (t:SetTable)(h:Int):t.probeStart h=ZR t.mask (SetTable.bits h%(t.mask+1)) (SetTable.bits h) none:=rfl
theorem zc8 (t:SetTable):∀n p,(steps t n p).dummy=p.dummy
 | 0,_=>rfl
 | n+1,p=>by
  rw [steps,zc8 t n]
  unfold SetTable.advance
  split<;>rfl
theorem zc9 {t:SetTable}(U:Up t.place)(hashAt:Nat->Int){h:Int}{i:Nat}(hi:i<t.place.size)(eh:hashAt i=h)(one:∀i',i'<t.place.size->hashAt i'=h->i'=i)(R:Reach t h (t.place.getD i 0)):∃nx,t.probe hashAt h (t.probeStart h)=some (.candidate (t.place.getD i 0) i nx):=by
 obtain⟨n,hn,hk⟩:=R
 have hlen:=(List.getElem?_eq_some_iff.mp hn).1
 have wl:=zak t.mask (SetTable.turns t.mask) (SetTable.bits h%(t.mask+1)) (SetTable.bits h)
 have key:∀m:Nat,m<=n->(∀k,k<m->∃i',t.slot (steps t k (t.probeStart h)).j=.live i'/\(hashAt i'==h)=false)\/∃m',m'<m/\(∀k,k<m'->∃i',t.slot (steps t k (t.probeStart h)).j=.live i'/\(hashAt i'==h)=false)/\t.slot (steps t m' (t.probeStart h)).j=.live i/\(steps t m' (t.probeStart h)).j=t.place.getD i 0:=fun m=>by
  induction m with
  | zero=>exact fun _=>.inl fun k hk=>absurd hk (Nat.not_lt_zero _)
  | succ m ih =>
   intro hm
   rcases ih (by omega) with h1 | ⟨m',a,b⟩
   ·have hw:∃j',(walk t.mask (SetTable.turns t.mask) (SetTable.bits h%(t.mask+1)) (SetTable.bits h))[m]?=some j':=⟨_,getElem?_eq_getElem (by omega)⟩
    obtain⟨j',hj'⟩:=hw
    obtain⟨i',hi',ei'⟩:=hk m (by omega) j' hj'
    have ej:(steps t m (t.probeStart h)).j=j':=by
     rw [YK]
     exact xG t _ _ _ none m j' hj'
    have sl:t.slot (steps t m (t.probeStart h)).j=.live i':=by
     rw [ej,<- ei']
     exact JA U hi'
    by_cases he:hashAt i'=h
    ·have:=one i' hi' he
     subst this
     exact .inr ⟨m,by omega,h1,sl,by rw [ej,ei']⟩
    ·refine .inl fun k hk'=>?_
     by_cases hkm:k=m
     ·subst hkm
      exact⟨i',sl,by simpa using he⟩
     ·exact h1 k (by omega)
   ·exact .inr ⟨m',by omega,b⟩
 have fin:∀m:Nat,m<10*SetTable.turns t.mask->(∀k,k<m->∃i',t.slot (steps t k (t.probeStart h)).j=.live i'/\(hashAt i'==h)=false)->t.slot (steps t m (t.probeStart h)).j=.live i->(steps t m (t.probeStart h)).j=t.place.getD i 0->∃nx,t.probe hashAt h (t.probeStart h)=some (.candidate (t.place.getD i 0) i nx):=fun m hm hp sl ej=>by
  unfold SetTable.probe
  rw [zcb t hashAt h m _ _ hp (by omega)]
  obtain⟨F',hF⟩:∃F',10*SetTable.turns t.mask-m=F'+1:=⟨10*SetTable.turns t.mask-m-1,by omega⟩
  rw [hF,SetTable.probe.go,sl]
  simp only []
  rw [if_pos (by simpa using eh),ej]
  exact⟨_,rfl⟩
 rcases key n (le_refl _) with h1 | ⟨m',a,b,c,d⟩
 ·have ej:(steps t n (t.probeStart h)).j=t.place.getD i 0:=by
   rw [YK]
   exact xG t _ _ _ none n _ hn
  exact fin n (by omega) h1 (by rw [ej];exact JA U hi) ej
 ·exact fin m' (by omega) b c d
theorem zcc {t:SetTable}(U:Up t.place)(hd:t.dummies=#[])(hashAt:Nat->Int){h:Int}(no:∀i,i<t.place.size->hashAt i≠h){e:Nat}(he:∀i,i<t.place.size->t.place.getD i 0≠e)(hw:e∈walk t.mask (SetTable.turns t.mask) (SetTable.bits h%(t.mask+1)) (SetTable.bits h)) :
  ∃j,t.probe hashAt h (t.probeStart h)=some (.empty j none)/\t.slot j=.empty/\Reach t h j/\j∈walk t.mask (SetTable.turns t.mask) (SetTable.bits h%(t.mask+1)) (SetTable.bits h):=by
 obtain⟨N,hN⟩:=List.mem_iff_getElem?.mp hw
 have hlen:=(List.getElem?_eq_some_iff.mp hN).1
 have wl:=zak t.mask (SetTable.turns t.mask) (SetTable.bits h%(t.mask+1)) (SetTable.bits h)
 have key:∀m:Nat,m<=N+1->(∀k:Nat,k<m->∀j',(walk t.mask (SetTable.turns t.mask) (SetTable.bits h%(t.mask+1)) (SetTable.bits h))[k]?=some j'->∃i,i<t.place.size/\t.place.getD i 0=j')\/∃m' j:Nat,m'<m/\(walk t.mask (SetTable.turns t.mask) (SetTable.bits h%(t.mask+1)) (SetTable.bits h))[m']?=some j/\t.slot j=.empty/\(∀k:Nat,k<m'->∀j',(walk t.mask (SetTable.turns t.mask) (SetTable.bits h%(t.mask+1)) (SetTable.bits h))[k]?=some j'->∃i,i<t.place.size/\t.place.getD i 0=j'):=fun m=>by
  induction m with
  | zero=>exact fun _=>.inl fun k hk=>absurd hk (Nat.not_lt_zero _)
  | succ m ih =>
   intro hm
   rcases ih (by omega) with h1 | ⟨m',j,a,b⟩
   ·obtain⟨j',hj'⟩:∃j',(walk t.mask (SetTable.turns t.mask) (SetTable.bits h%(t.mask+1)) (SetTable.bits h))[m]?=some j':=⟨_,getElem?_eq_getElem (by omega)⟩
    rcases slot_of U hd j' with ⟨i,hi,ei,_⟩ | ⟨se,_⟩
    ·refine .inl fun k hk' j2 hj2=>?_
     by_cases hkm:k=m
     ·subst hkm
      rw [hj'] at hj2
      exact⟨i,hi,by rw [ei];exact Option.some.inj hj2⟩
     ·exact h1 k (by omega) j2 hj2
    ·exact .inr ⟨m,j',by omega,hj',se,h1⟩
   ·exact .inr ⟨m',j,by omega,b⟩
 rcases key (N+1) (le_refl _) with h1 | ⟨m',j,a,b,c,d⟩
 ·obtain⟨i,hi,ei⟩:=h1 N (by omega) e hN
  exact absurd ei (he i hi)
 ·refine⟨j,?_,c,⟨m',b,d⟩,mem_of_getElem? b⟩
  have ej:(steps t m' (t.probeStart h)).j=j:=by
   rw [YK]
   exact xG t _ _ _ none m' j b
  have hp:∀k,k<m'->∃i',t.slot (steps t k (t.probeStart h)).j=.live i'/\(hashAt i'==h)=false:=fun k hk=>by
   obtain⟨j',hj'⟩:∃j',(walk t.mask (SetTable.turns t.mask) (SetTable.bits h%(t.mask+1)) (SetTable.bits h))[k]?=some j':=⟨_,getElem?_eq_getElem (by omega)⟩
   obtain⟨i,hi,ei⟩:=d k hk j' hj'
   refine⟨i,?_,by simpa using no i hi⟩
   have:(steps t k (t.probeStart h)).j=j':=by
    rw [YK]
    exact xG t _ _ _ none k j' hj'
   rw [this,<- ei]
   exact JA U hi
  unfold SetTable.probe
  rw [zcb t hashAt h m' _ _ hp (by omega)]
  obtain⟨F',hF⟩:∃F',10*SetTable.turns t.mask-m'=F'+1:=⟨10*SetTable.turns t.mask-m'-1,by omega⟩
  rw [hF,SetTable.probe.go,ej,c]
  simp only [zc8]
  rfl
noncomputable def orb (m:Nat):Nat->Nat->Nat
 | 0,i=>i
 | n+1,i=>orb m n ((i*5+1)%m)
noncomputable def zgd (m:Nat):Nat->Nat->List Nat
 | 0,_=>[]
 | n+1,i=>i::zgd m n ((i*5+1)%m)
theorem zal (m:Nat):∀(n i e:Nat),e∈zgd m n i->∃k,k<n/\orb m k i=e
 | 0,_,_,h=>nomatch h
 | n+1,i,e,h=>by
  rcases List.mem_cons.mp h with rfl | h
  ·exact⟨0,succ_pos _,rfl⟩
  ·obtain⟨k,hk,q⟩:=zal m n _ e h
   exact⟨k+1,by omega,q⟩
theorem QS (m:Nat):∀a b i,orb m (a+b) i=orb m b (orb m a i)
 | 0,b,i=>by rw [zero_add];rfl
 | a+1,b,i=>by
  rw [show a+1+b=(a+b)+1 from by omega]
  exact QS m a b _
theorem full {m:Nat}(h1:∀e,e<m->e∈zgd m m 0)(h2:orb m m 0=0){i e:Nat}(hi:i<m)(he:e<m):∃k,k<m+1/\orb m k i=e:=by
 obtain⟨a,ha,ea⟩:=zal m m 0 i (h1 i hi)
 obtain⟨b,hb,eb⟩:=zal m m 0 e (h1 e he)
 rcases lt_or_ge b a with q | q
 ·refine⟨m-a+b,by omega,?_⟩
  rw [<- ea,<- QS,show a+(m-a+b)=m+b from by omega,QS,h2,eb]
 ·refine⟨b-a,by omega,?_⟩
  rw [<- ea,<- QS,show a+(b-a)=b from by omega,eb]
theorem zjq:(∀e,e<8->e∈zgd 8 8 0)/\orb 8 8 0=0:=by decide +kernel
theorem zhq:(∀e,e<32->e∈zgd 32 32 0)/\orb 32 32 0=0:=by decide +kernel
theorem zfe:(∀e,e<128->e∈zgd 128 128 0)/\orb 128 128 0=0:=by decide +kernel
noncomputable def JB (mask:Nat):Nat->Nat->Nat->Nat×Nat
 | 0,i,p=>(i,p)
 | n+1,i,p=>JB mask n (SetTable.leap mask i p).1 (SetTable.leap mask i p).2
theorem zbu (mask:Nat):∀a b i p,JB mask (a+b) i p=JB mask b (JB mask a i p).1 (JB mask a i p).2
 | 0,b,i,p=>by rw [zero_add];rfl
 | a+1,b,i,p=>by
  rw [show a+1+b=(a+b)+1 from by omega]
  exact zbu mask a b _ _
theorem zff (mask:Nat):∀n i p,(JB mask n i p).2=p/32^n
 | 0,i,p=>by rw [Nat.pow_zero,Nat.div_one];rfl
 | n+1,i,p=>by
  rw [JB,zff mask n]
  show p/32/32^n=_
  rw [Nat.div_div_eq_div_mul,Nat.pow_succ,Nat.mul_comm]
theorem zda (mask:Nat):∀n i p,i<mask+1->(JB mask n i p).1<mask+1
 | 0,i,p,h=>h
 | n+1,i,p,h=>zda mask n _ _ (mod_lt _ (succ_pos _))
theorem zbv (mask:Nat):∀n i,(JB mask n i 0).1=orb (mask+1) n i
 | 0,_=>rfl
 | n+1,i=>by
  have e1:(SetTable.leap mask i 0).1=(i*5+1)%(mask+1):=rfl
  have e2:(SetTable.leap mask i 0).2=0:=rfl
  rw [JB,e1,e2]
  exact zbv mask n _
theorem head_mem (mask:Nat):∀(f n i p:Nat),n<f->(JB mask n i p).1∈walk mask f i p
 | 0,_,_,_,h=>absurd h (Nat.not_lt_zero _)
 | f+1,0,i,p,_=>by
  rw [walk]
  refine mem_append_left _ ?_
  unfold run
  refine List.mem_map.mpr ⟨0,List.mem_range.mpr ?_,by rfl⟩
  have:=Qe mask i
  omega
 | f+1,n+1,i,p,h=>by
  rw [walk]
  exact mem_append_right _ (head_mem mask f n _ _ (by omega))
theorem zdb {mask:Nat}(hm:mask=7\/mask=31\/mask=127)(h:Int){e:Nat}(he:e<mask+1):e∈walk mask (SetTable.turns mask) (SetTable.bits h%(mask+1)) (SetTable.bits h):=by
 have hb:SetTable.bits h<2^64:=by
  unfold SetTable.bits
  have h1:=emod_nonneg h (show (2^64:Int)≠0 by decide)
  have h2:=Int.emod_lt_of_pos h (show (0:Int)<2^64 by decide)
  omega
 have hp:(JB mask 13 (SetTable.bits h%(mask+1)) (SetTable.bits h)).2=0:=by
  rw [zff]
  exact Nat.div_eq_of_lt (Nat.lt_trans hb (by decide))
 have hi:=zda mask 13 (SetTable.bits h%(mask+1)) (SetTable.bits h) (mod_lt _ (succ_pos _))
 obtain⟨k,hk,ek⟩:∃k,k<mask+1+1/\orb (mask+1) k (JB mask 13 (SetTable.bits h%(mask+1)) (SetTable.bits h)).1=e:=by
  rcases hm with rfl | rfl | rfl
  ·exact full zjq.1 zjq.2 hi he
  ·exact full zhq.1 zhq.2 hi he
  ·exact full zfe.1 zfe.2 hi he
 have hh:=head_mem mask (SetTable.turns mask) (13+k) (SetTable.bits h%(mask+1)) (SetTable.bits h) (by unfold SetTable.turns;omega)
 rw [zbu,hp,zbv,ek] at hh
 exact hh
theorem Zy {α:Type}(xs:Array α){p:Nat}(x:α):(SetTable.insertAt xs p x).toList=xs.toList.take p++x::xs.toList.drop p:=by
 unfold SetTable.insertAt
 simp
 rw [take_of_length_le (by rw [length_drop,length_toList];omega)]
theorem zhr {α:Type}(xs:Array α){p:Nat}(hp:p<=xs.size)(x:α)(i:Nat):(SetTable.insertAt xs p x)[i]?=if i<p then xs[i]? else if i=p then some x else xs[i-1]?:=by
 have hl:(xs.toList.take p).length=p:=by
  rw [length_take,length_toList]
  omega
 rw [<- getElem?_toList,Zy]
 by_cases h1:i<p
 ·rw [if_pos h1,getElem?_append_left (by omega),List.getElem?_take_of_lt h1,getElem?_toList]
 ·rw [if_neg h1,List.getElem?_append_right (by omega),hl]
  by_cases h2:i=p
  ·rw [if_pos h2,h2,sub_self]
   rfl
  ·rw [if_neg h2,show i-p=(i-p-1)+1 from by omega,List.getElem?_cons_succ,List.getElem?_drop,getElem?_toList]
   congr 1
   omega
theorem jf {α:Type}(xs:Array α){p:Nat}(hp:p<=xs.size)(x:α):(SetTable.insertAt xs p x).size=xs.size+1:=by
 rw [<- length_toList,Zy,length_append,length_cons,length_take,length_drop,length_toList]
 omega
theorem JC (xs:Array Nat){p:Nat}(hp:p<=xs.size)(x i:Nat)(hi:i<xs.size+1):(SetTable.insertAt xs p x).getD i 0=if i<p then xs.getD i 0 else if i=p then x else xs.getD (i-1) 0:=by
 have h:=zhr xs hp x i
 rw [xH (by rw [jf xs hp x];exact hi)] at h
 by_cases h1:i<p
 ·rw [if_pos h1] at h ⊢
  rw [xH (by omega)] at h
  exact Option.some.inj h
 ·rw [if_neg h1] at h ⊢
  by_cases h2:i=p
  ·rw [if_pos h2] at h ⊢
   exact Option.some.inj h
  ·rw [if_neg h2] at h ⊢
   rw [xH (by omega)] at h
   exact Option.some.inj h
theorem zhs {t:SetTable}(U:Up t.place)(hd:t.dummies=#[]){j:Nat}(he:∀i,i<t.place.size->t.place.getD i 0≠j):(t.put j).2=SetTable.below t.place j/\(t.put j).1={ t with place:=SetTable.insertAt t.place (SetTable.below t.place j) j }/\Up (SetTable.insertAt t.place (SetTable.below t.place j) j):=by
 have b:=Jz U j
 refine⟨rfl,?_,fun a c hac hc=>?_⟩
 ·unfold SetTable.put
  simp only [hd]
  rfl
 ·rw [jf _ b.1] at hc
  rw [JC _ b.1 _ _ (by omega),JC _ b.1 _ _ hc]
  have lo:∀i,i<SetTable.below t.place j->t.place.getD i 0<j:=b.2.1
  have hi:∀i,SetTable.below t.place j<=i->i<t.place.size->j<t.place.getD i 0:=fun i h1 h2=>by
   have:=b.2.2 i h1 h2
   have:=he i h2
   omega
  by_cases a1:a<SetTable.below t.place j
  ·rw [if_pos a1]
   by_cases c1:c<SetTable.below t.place j
   ·rw [if_pos c1]
    exact U a c hac (by omega)
   ·rw [if_neg c1]
    by_cases c2:c=SetTable.below t.place j
    ·rw [if_pos c2]
     exact lo a a1
    ·rw [if_neg c2]
     have h1:=lo a a1
     have h2:=hi (c-1) (by omega) (by omega)
     omega
  ·have c1:¬ c<SetTable.below t.place j:=by omega
   have c2:¬ c=SetTable.below t.place j:=by omega
   rw [if_neg a1,if_neg c1,if_neg c2]
   by_cases a2:a=SetTable.below t.place j
   ·rw [if_pos a2]
    exact hi (c-1) (by omega) (by omega)
   ·rw [if_neg a2]
    exact U (a-1) (c-1) (by omega) (by omega)
theorem Reach.more {t t':SetTable}(hm:t'.mask=t.mask)(hp:∀i,i<t.place.size->∃i',i'<t'.place.size/\t'.place.getD i' 0=t.place.getD i 0){h:Int}{j:Nat}(R:Reach t h j):Reach t' h j:=by
 obtain⟨n,h1,h2⟩:=R
 unfold Reach
 rw [hm]
 refine⟨n,h1,fun k hk j' hj'=>?_⟩
 obtain⟨i,hi,ei⟩:=h2 k hk j' hj'
 obtain⟨i',hi',ei'⟩:=hp i hi
 exact⟨i',hi',ei'.trans ei⟩
theorem zht {t:SetTable}(U:Up t.place)(j:Nat):∀i,i<t.place.size->∃i',i'<(SetTable.insertAt t.place (SetTable.below t.place j) j).size/\(SetTable.insertAt t.place (SetTable.below t.place j) j).getD i' 0=t.place.getD i 0:=fun i hi=>by
 have b:=Jz U j
 by_cases h:i<SetTable.below t.place j
 ·refine⟨i,by rw [jf _ b.1];omega,?_⟩
  rw [JC _ b.1 _ _ (by omega),if_pos h]
 ·refine⟨i+1,by rw [jf _ b.1];omega,?_⟩
  rw [JC _ b.1 _ _ (by omega),if_neg (by omega),if_neg (by omega),Nat.add_sub_cancel]
theorem zfg (mask:Nat)(owner:Array (Option Nat)):∀(f i p:Nat),SetTable.layClean.free mask owner f i p=(walk mask f i p).find? fun j=>(owner.getD j (some 0)).isNone
 | 0,_,_=>rfl
 | f+1,i,p=>by
  rw [SetTable.layClean.free,walk,List.find?_append]
  unfold run
  rw [List.find?_map]
  have e:((fun j=>(owner.getD j (some 0)).isNone)∘fun x=>i+x)=fun k=>(owner.getD (i+k) (some 0)).isNone:=rfl
  rw [e]
  cases h:(List.range (SetTable.runEnd mask i+1-i)).find? fun k=>(owner.getD (i+k) (some 0)).isNone with
  | some k=>rfl
  | none =>
   simp only [Option.map_none,Option.none_or]
   exact zfg mask owner f _ _
structure Own (mask:Nat)(hs:List Int)(owner:Array (Option Nat))(k:Nat):Prop where
 sz:owner.size=mask+1
 few:(owner.toList.countP fun o=>o.isNone)+k=mask+1
 at_:∀i,i<k->∃j:Nat,owner[j]?=some (some i)/\∃n:Nat,(walk mask (SetTable.turns mask) (SetTable.bits (hs.getD i 0)%(mask+1)) (SetTable.bits (hs.getD i 0)))[n]?=some j/\∀m:Nat,m<n->∀j':Nat,(walk mask (SetTable.turns mask) (SetTable.bits (hs.getD i 0)%(mask+1)) (SetTable.bits (hs.getD i 0)))[m]?=some j'->∃o,owner[j']?=some (some o)
 lt:∀j i:Nat,owner[j]?=some (some i)->i<k
 inj:∀j j' i:Nat,owner[j]?=some (some i)->owner[j']?=some (some i)->j=j'
theorem Own.nil (mask:Nat)(hs:List Int):Own mask hs (Array.replicate (mask+1) none) 0:=by
 refine⟨by simp,by rw [Array.toList_replicate,List.countP_replicate];rfl,fun i h=>absurd h (Nat.not_lt_zero _),fun j i h=>?_,fun j j' i h=>?_⟩
 ·rw [Array.getElem?_replicate] at h
  split at h<;>cases h
 ·rw [Array.getElem?_replicate] at h
  split at h<;>cases h
theorem count_set {l:List (Option Nat)}:∀{j:Nat} (k:Nat),l[j]?=some none->(l.set j (some k)).countP (fun o=>o.isNone)+1=l.countP fun o=>o.isNone:=by
 induction l with
 | nil=>exact fun _ h=>by simp at h
 | cons o r ih =>
  intro j k h
  cases j with
  | zero =>
   have:o=none:=by simpa using h
   subst this
   simp [countP_cons]
  | succ j =>
   have:=ih k (by simpa using h)
   rw [List.set_cons_succ,countP_cons,countP_cons]
   omega
theorem zge {l:List (Option Nat)}(h:0<l.countP fun o=>o.isNone):∃j:Nat,l[j]?=some none:=by
 obtain⟨o,ho,hn⟩:=List.countP_pos_iff.mp h
 obtain⟨j,hj⟩:=List.mem_iff_getElem?.mp ho
 refine⟨j,?_⟩
 rw [hj]
 cases o with
 | none=>rfl
 | some _=>cases hn
theorem getD_none {owner:Array (Option Nat)}{j:Nat}:(owner.getD j (some 0)).isNone=true↔owner[j]?=some none:=by
 by_cases h:j<owner.size
 ·have e:owner[j]?=some (owner.getD j (some 0)):=by simp [Array.getD,h]
  rw [e]
  cases owner.getD j (some 0)<;>simp
 ·have e:owner.getD j (some 0)=some 0:=by simp [Array.getD,h]
  rw [e,getElem?_eq_none (by omega)]
  simp
theorem zcd (mask:Nat):∀(f i p:Nat),i<mask+1->∀j∈walk mask f i p,j<mask+1
 | 0,_,_,_,_,h=>nomatch h
 | f+1,i,p,hi,j,h=>by
  rw [walk] at h
  rcases List.mem_append.mp h with h | h
  ·unfold run at h
   obtain⟨k,hk,rfl⟩:=List.mem_map.mp h
   have hk':=List.mem_range.mp hk
   have:SetTable.runEnd mask i<=mask:=by
    unfold SetTable.runEnd
    split<;>omega
   omega
  ·exact zcd mask f _ _ (mod_lt _ (succ_pos _)) j h
theorem Own.step {mask:Nat}(hm:mask=7\/mask=31\/mask=127){hs:List Int}{owner:Array (Option Nat)}{k:Nat}(O:Own mask hs owner k)(hk:k<mask+1):∃j,SetTable.layClean.free mask owner (SetTable.turns mask) (SetTable.bits (hs.getD k 0)%(mask+1)) (SetTable.bits (hs.getD k 0))=some j/\Own mask hs (owner.setIfInBounds j (some k)) (k+1):=by
 obtain⟨e,he⟩:=zge (l:=owner.toList) (by have:=O.few;omega)
 rw [getElem?_toList] at he
 have hel:e<owner.size:=by
  rcases lt_or_ge e owner.size with q | q
  ·exact q
  ·rw [getElem?_eq_none q] at he
   cases he
 have hw:=zdb hm (hs.getD k 0) (e:=e) (by have:=O.sz;omega)
 rw [zfg]
 cases hf:(walk mask (SetTable.turns mask) (SetTable.bits (hs.getD k 0)%(mask+1)) (SetTable.bits (hs.getD k 0))).find? fun j=>(owner.getD j (some 0)).isNone with
 | none =>
  have:=List.find?_eq_none.mp hf e hw
  exact absurd (getD_none.mpr he) this
 | some j =>
  refine⟨j,rfl,?_⟩
  have hj:owner[j]?=some none:=getD_none.mp (List.find?_some (p:=fun j=>(owner.getD j (some 0)).isNone) hf)
  have hjl:j<owner.size:=by
   rcases lt_or_ge j owner.size with q | q
   ·exact q
   ·rw [getElem?_eq_none q] at hj
    cases hj
  have get:∀i:Nat,(owner.setIfInBounds j (some k))[i]?=if j=i then some (some k) else owner[i]?:=fun i=>by
   rw [Array.getElem?_setIfInBounds]
   by_cases h:j=i
   ·rw [if_pos h,if_pos h]
    simp [hjl]
   ·rw [if_neg h,if_neg h]
  have keep:∀(i o:Nat),owner[i]?=some (some o)->(owner.setIfInBounds j (some k))[i]?=some (some o):=fun i o h=>by
   rw [get,if_neg (fun z=>by rw [<- z,hj] at h;cases h)]
   exact h
  refine⟨by rw [Array.size_setIfInBounds];exact O.sz,?_,fun i hi=>?_,fun j' i h=>?_,fun j1 j2 i h1 h2=>?_⟩
  ·rw [Array.toList_setIfInBounds]
   have:=count_set (l:=owner.toList) (j:=j) k (by rw [getElem?_toList];exact hj)
   have:=O.few
   omega
  ·by_cases hik:i=k
   ·subst hik
    refine⟨j,by rw [get,if_pos rfl],?_⟩
    obtain⟨_,as,bs,hab,hn⟩:=List.find?_eq_some_iff_append.mp hf
    refine⟨as.length,by rw [hab];simp,fun m hm' j' hj'=>?_⟩
    rw [hab,getElem?_append_left hm'] at hj'
    have hmem:=mem_of_getElem? hj'
    have hnn:=hn j' hmem
    have hjw:j'∈walk mask (SetTable.turns mask) (SetTable.bits (hs.getD i 0)%(mask+1)) (SetTable.bits (hs.getD i 0)):=by
     rw [hab]
     exact mem_append_left _ hmem
    cases ho:owner[j']? with
    | none =>
     have:=zcd mask (SetTable.turns mask) _ _ (mod_lt _ (succ_pos _)) j' hjw
     rw [Array.getElem?_eq_some_iff.mpr ⟨by rw [O.sz];exact this,rfl⟩] at ho
     cases ho
    | some o =>
     cases o with
     | none =>
      rw [getD_none.mpr ho] at hnn
      cases hnn
     | some o=>exact⟨o,keep j' o ho⟩
   ·obtain⟨j0,a,n,b,c⟩:=O.at_ i (by omega)
    refine⟨j0,keep _ _ a,n,b,fun m hm' j' hj'=>?_⟩
    obtain⟨o,ho⟩:=c m hm' j' hj'
    exact⟨o,keep _ _ ho⟩
  ·rw [get] at h
   split at h
   ·have:k=i:=by simpa using h
    omega
   ·have:=O.lt j' i h
    omega
  ·rw [get] at h1 h2
   split at h1<;>split at h2
   ·omega
   ·have:k=i:=by simpa using h1
    have:=O.lt j2 i h2
    omega
   ·have:k=i:=by simpa using h2
    have:=O.lt j1 i h1
    omega
   ·exact O.inj j1 j2 i h1 h2
theorem zdc {mask:Nat}(hm:mask=7\/mask=31\/mask=127)(hs:List Int)(hl:hs.length<=mask+1):∀(l done:List Int) (owner:Array (Option Nat)),hs=done++l->Own mask hs owner done.length ->
  ∃owner',l.foldl (fun (acc:Option (Array (Option Nat)×Nat)) h=>do
   let (owner,k) <- acc
   let j <- SetTable.layClean.free mask owner (SetTable.turns mask) (SetTable.bits h%(mask+1)) (SetTable.bits h)
   pure (owner.setIfInBounds j (some k),k+1)) (some (owner,done.length))=some (owner',hs.length)/\Own mask hs owner' hs.length
 | [],done,owner,e,O=>by
  rw [append_nil] at e
  subst e
  exact⟨owner,rfl,O⟩
 | h::r,done,owner,e,O=>by
  have hd:hs.getD done.length 0=h:=by
   rw [e]
   simp [List.getD]
  have hlen:done.length<mask+1:=by
   have:hs.length=done.length+(r.length+1):=by rw [e,length_append,length_cons]
   omega
  obtain⟨j,hj,O'⟩:=O.step hm hlen
  rw [hd] at hj
  obtain⟨owner',h1,h2⟩:=zdc hm hs hl r (done++[h]) (owner.setIfInBounds j (some done.length)) (by rw [e,append_assoc];rfl) (by rw [length_append];exact O')
  refine⟨owner',?_,h2⟩
  rw [length_append] at h1
  rw [foldl_cons]
  have e1:(do
   let (owner,k) <- (some (owner,done.length):Option (Array (Option Nat)×Nat))
   let j <- SetTable.layClean.free mask owner (SetTable.turns mask) (SetTable.bits h%(mask+1)) (SetTable.bits h)
   pure (owner.setIfInBounds j (some k),k+1))=some (owner.setIfInBounds j (some done.length),done.length+1):=by
   show (SetTable.layClean.free mask owner (SetTable.turns mask) (SetTable.bits h%(mask+1)) (SetTable.bits h)).bind _=_
   rw [hj]
   rfl
  rw [e1]
  exact h1
theorem zkd {mask:Nat}(hm:mask=7\/mask=31\/mask=127)(hashes:Array Int)(hl:hashes.size<=mask+1):∃owner,SetTable.layClean mask hashes=some owner/\Own mask hashes.toList owner hashes.size:=by
 obtain⟨owner,h1,h2⟩:=zdc hm hashes.toList (by rw [length_toList];exact hl) hashes.toList [] _ rfl (Own.nil mask _)
 rw [length_toList] at h1 h2
 refine⟨owner,?_,h2⟩
 unfold SetTable.layClean
 rw [<- Array.foldl_toList]
 exact congrArg (Option.map (·.1)) h1
noncomputable def qy (mask:Nat)(owner:Array (Option Nat)):List (Nat×Nat):=(List.range (mask+1)).filterMap fun j=>(owner.getD j none).map (j,·)
theorem xJ {mask:Nat}{owner:Array (Option Nat)}(sz:owner.size=mask+1){j i:Nat}:(j,i)∈qy mask owner↔owner[j]?=some (some i):=by
 unfold qy
 rw [List.mem_filterMap]
 constructor
 ·rintro⟨a,ha,h⟩
  have hl:a<owner.size:=by rw [sz];exact List.mem_range.mp ha
  have e:owner[a]?=some (owner.getD a none):=by simp [Array.getD,hl]
  cases ho:owner.getD a none with
  | none =>
   rw [ho] at h
   cases h
  | some b =>
   rw [ho] at h
   have hb:(a,b)=(j,i):=Option.some.inj h
   cases hb
   rw [e,ho]
 ·intro h
  have hl:j<owner.size:=by
   rcases lt_or_ge j owner.size with q | q
   ·exact q
   ·rw [getElem?_eq_none q] at h
    cases h
  have e:owner[j]?=some (owner.getD j none):=by simp [Array.getD,hl]
  refine⟨j,List.mem_range.mpr (by rw [<- sz];exact hl),?_⟩
  rw [e] at h
  rw [Option.some.inj h]
  rfl
theorem zfh (mask:Nat)(owner:Array (Option Nat)):(qy mask owner).Pairwise fun a b=>a.1<b.1:=by
 unfold qy
 rw [List.pairwise_filterMap]
 refine List.pairwise_lt_range.imp fun {a b} hab x hx y hy=>?_
 cases h1:owner.getD a none with
 | none=>rw [h1] at hx;cases hx
 | some p =>
  cases h2:owner.getD b none with
  | none=>rw [h2] at hy;cases hy
  | some q =>
   rw [h1] at hx
   rw [h2] at hy
   have e1:(a,p)=x:=Option.some.inj hx
   have e2:(b,q)=y:=Option.some.inj hy
   rw [<- e1,<- e2]
   exact hab
theorem zgf {mask:Nat}{hs:List Int}{owner:Array (Option Nat)}{k:Nat}(O:Own mask hs owner k):((qy mask owner).map (·.2)).Perm (List.range k):=by
 have nd:((qy mask owner).map (·.2)).Nodup:=by
  refine List.pairwise_map.mpr ((zfh mask owner).imp_of_mem fun {a b} ha hb hab e=>?_)
  obtain⟨a1,a2⟩:=a
  obtain⟨b1,b2⟩:=b
  have e':a2=b2:=e
  subst e'
  have:=O.inj a1 b1 a2 ((xJ O.sz).mp ha) ((xJ O.sz).mp hb)
  have hab':a1<b1:=hab
  omega
 refine(List.perm_ext_iff_of_nodup nd List.nodup_range).mpr fun i=>?_
 rw [List.mem_range,List.mem_map]
 constructor
 ·rintro⟨⟨j,i'⟩,hm,rfl⟩
  exact O.lt j _ ((xJ O.sz).mp hm)
 ·intro hi
  obtain⟨j,hj,_⟩:=O.at_ i hi
  exact⟨(j,i),(xJ O.sz).mpr hj,rfl⟩
theorem ziO {mask:Nat}(hm:mask=7\/mask=31\/mask=127)(finger moves:Nat)(led plain:Bool)(hashes:Array Int)(hl:hashes.size<=mask+1):∃place order,SetTable.laid mask finger moves led plain hashes=some ({ mask:=mask,place:=place,dummies:=#[],finger:=finger,led:=led,moves:=moves,plain:=plain },order) /\
  Up place/\place.size=hashes.size/\order.size=hashes.size/\order.toList.Perm (List.range hashes.size)/\(∀i,i<place.size->place.getD i 0<mask+1) /\
  ∀i,i<place.size->Reach { mask:=mask,place:=place,dummies:=#[],finger:=finger,led:=led,moves:=moves,plain:=plain } (hashes.toList.getD (order.getD i 0) 0) (place.getD i 0):=by
 obtain⟨owner,h1,O⟩:=zkd hm hashes hl
 have perm:=zgf O
 have up:=zfh mask owner
 have ll:(qy mask owner).length=hashes.size:=by
  have:=perm.length_eq
  rw [length_map,length_range] at this
  exact this
 have pg:∀i (h:i<(qy mask owner).length),((qy mask owner).map (·.1)).toArray.getD i 0=((qy mask owner)[i]).1:=fun i h=>by
  simp [Array.getD,h]
 have og:∀i (h:i<(qy mask owner).length),((qy mask owner).map (·.2)).toArray.getD i 0=((qy mask owner)[i]).2:=fun i h=>by
  simp [Array.getD,h]
 refine⟨((qy mask owner).map (·.1)).toArray,((qy mask owner).map (·.2)).toArray,?_,fun i j hij hj=>?_,by simp [ll],by simp [ll],perm,fun i hi=>?_,fun i hi=>?_⟩
 ·unfold SetTable.laid
  rw [h1]
  rfl
 ·have hj':j<(qy mask owner).length:=by simpa using hj
  rw [pg i (by omega),pg j hj']
  exact List.pairwise_iff_getElem.mp up i j (by omega) hj' hij
 ·have hi':i<(qy mask owner).length:=by simpa using hi
  rw [pg i hi']
  have hmem:=getElem_mem hi'
  have:=(xJ O.sz (j:=(qy mask owner)[i].1) (i:=(qy mask owner)[i].2)).mp hmem
  rw [<- O.sz]
  rcases lt_or_ge (qy mask owner)[i].1 owner.size with q | q
  ·exact q
  ·rw [getElem?_eq_none q] at this
   cases this
 ·have hi':i<(qy mask owner).length:=by simpa using hi
  rw [pg i hi',og i hi']
  have hmem:=getElem_mem hi'
  have ho:=(xJ O.sz (j:=(qy mask owner)[i].1) (i:=(qy mask owner)[i].2)).mp hmem
  obtain⟨j0,a,n,b,c⟩:=O.at_ _ (O.lt _ _ ho)
  have ej:=O.inj _ _ _ a ho
  rw [ej] at b
  refine⟨n,b,fun k hk j' hj'=>?_⟩
  obtain⟨o,hoo⟩:=c k hk j' hj'
  obtain⟨x,hx,ex⟩:=List.getElem_of_mem ((xJ O.sz).mpr hoo)
  refine⟨x,by simpa using hx,?_⟩
  show ((qy mask owner).map (·.1)).toArray.getD x 0=j'
  rw [pg x hx,ex]
structure Good (t:SetTable)(hs:Array Int):Prop where
 mask:t.mask=7\/t.mask=31\/t.mask=127
 sz:t.place.size=hs.size
 dum:t.dummies=#[]
 up:Up t.place
 le:∀i,i<t.place.size->t.place.getD i 0<t.mask+1
 room:t.place.size*5<t.mask*3
 reach:∀i,i<t.place.size->Reach t (hs.toList.getD i 0) (t.place.getD i 0)
theorem Good.free {t:SetTable}{hs:Array Int}(G:Good t hs):∃e,e<t.mask+1/\∀i,i<t.place.size->t.place.getD i 0≠e:=by
 refine Classical.byContradiction fun hn=>?_
 have all:∀e,e<t.mask+1->∃i,i<t.place.size/\t.place.getD i 0=e:=fun e he=>Classical.byContradiction fun h2=>hn ⟨e,he,fun i hi z=>h2 ⟨i,hi,z⟩⟩
 have hr:=G.room
 have id_:∀e,e<t.mask+1->∃i,i<t.place.size/\e<=i:=fun e=>by
  induction e with
  | zero=>exact fun h=>let ⟨i,hi,_⟩:=all 0 h;⟨i,hi,zero_le _⟩
  | succ e ih =>
   intro h
   obtain⟨i,hi,hei⟩:=all (e+1) h
   obtain⟨i0,hi0,hei0⟩:=all e (by omega)
   have cnt:∀d,d<=e+1->∃i,i<t.place.size/\t.place.getD i 0=d/\d<=i:=fun d=>by
    induction d with
    | zero=>exact fun _=>let ⟨i,hi,he⟩:=all 0 (by omega);⟨i,hi,he,zero_le _⟩
    | succ d ihd =>
     intro hd
     obtain⟨a,ha,ea,la⟩:=ihd (by omega)
     obtain⟨b,hb,eb⟩:=all (d+1) (by omega)
     have:a<b:=by
      rcases Nat.lt_trichotomy a b with q | q | q
      ·exact q
      ·subst q
       omega
      ·have:=G.up b a q ha
       omega
     exact⟨b,hb,eb,by omega⟩
   obtain⟨x,hx,_,lx⟩:=cnt (e+1) (le_refl _)
   exact⟨x,hx,lx⟩
 obtain⟨i,hi,le⟩:=id_ t.mask (by omega)
 omega
theorem Good.found {t:SetTable}{hs:Array Int}(G:Good t hs)(hashAt:Nat->Int)(hh:∀i,i<hs.size->hashAt i=hs.toList.getD i 0)(nd:hs.toList.Nodup){i:Nat}(hi:i<hs.size):∃nx,t.probe hashAt (hs.toList.getD i 0) (t.probeStart (hs.toList.getD i 0))=some (.candidate (t.place.getD i 0) i nx):=by
 have gd:∀k (h:k<hs.size),hs.toList.getD k 0=hs.toList[k]'(by rw [length_toList];exact h):=fun k h=>by
  rw [getD_eq_getElem?_getD,getElem?_eq_getElem (by rw [length_toList];exact h)]
  rfl
 refine zc9 G.up hashAt (by rw [G.sz];exact hi) (hh i hi) (fun i' hi' e=>?_) (G.reach i (by rw [G.sz];exact hi))
 rw [G.sz] at hi'
 rw [hh i' hi',gd i' hi',gd i hi] at e
 exact(List.getElem_inj nd).mp e
theorem Good.missed {t:SetTable}{hs:Array Int}(G:Good t hs)(hashAt:Nat->Int)(hh:∀i,i<hs.size->hashAt i=hs.toList.getD i 0){h:Int}(no:h ∉ hs.toList):∃j,t.probe hashAt h (t.probeStart h)=some (.empty j none)/\j<t.mask+1/\(∀i,i<t.place.size->t.place.getD i 0≠j)/\Reach t h j:=by
 obtain⟨e,he,hn⟩:=G.free
 have no':∀i,i<t.place.size->hashAt i≠h:=fun i hi z=>by
  rw [G.sz] at hi
  rw [hh i hi,getD_eq_getElem?_getD,getElem?_eq_getElem (by rw [length_toList];exact hi)] at z
  have z':hs.toList[i]'(by rw [length_toList];exact hi)=h:=z
  exact no (z' ▸ getElem_mem _)
 obtain⟨j,h1,h2,h3,h4⟩:=zcc G.up G.dum hashAt (h:=h) no' hn (zdb G.mask h he)
 refine⟨j,h1,zcd _ _ _ _ (mod_lt _ (succ_pos _)) j h4,fun i hi z=>?_,h3⟩
 rw [<- z,JA G.up hi] at h2
 cases h2
theorem Good.put {t:SetTable}{hs:Array Int}(G:Good t hs){h:Int}{j:Nat}(hj:j<t.mask+1)(he:∀i,i<t.place.size->t.place.getD i 0≠j)(R:Reach t h j)(room:(t.place.size+1)*5<t.mask*3):Good (t.put j).1 (SetTable.insertAt hs (t.put j).2 h):=by
 obtain⟨e2,e1,U⟩:=zhs G.up G.dum he
 have b:=Jz G.up j
 rw [e2,e1]
 have bs:SetTable.below t.place j<=hs.size:=by rw [<- G.sz];exact b.1
 have hget:∀i,(SetTable.insertAt hs (SetTable.below t.place j) h).toList.getD i 0=if i<SetTable.below t.place j then hs.toList.getD i 0 else if i=SetTable.below t.place j then h else hs.toList.getD (i-1) 0:=fun i=>by
  rw [getD_eq_getElem?_getD,getElem?_toList,zhr hs bs]
  split
  ·rw [getD_eq_getElem?_getD,getElem?_toList]
  ·split
   ·rfl
   ·rw [getD_eq_getElem?_getD,getElem?_toList]
 have more:∀{h':Int} {j':Nat},Reach t h' j'->Reach { t with place:=SetTable.insertAt t.place (SetTable.below t.place j) j } h' j':=fun R'=>Reach.more (t:=t) (t':={ t with place:=SetTable.insertAt t.place (SetTable.below t.place j) j }) rfl (zht G.up j) R'
 refine⟨G.mask,?_,G.dum,U,fun i hi=>?_,?_,fun i hi=>?_⟩
 ·show (SetTable.insertAt t.place _ j).size=_
  rw [jf _ b.1,jf _ bs,G.sz]
 ·have hi':i<t.place.size+1:=by
   have:=hi
   rw [show ({ t with place:=SetTable.insertAt t.place (SetTable.below t.place j) j }:SetTable).place=SetTable.insertAt t.place (SetTable.below t.place j) j from rfl,jf _ b.1] at this
   exact this
  show (SetTable.insertAt t.place _ j).getD i 0<t.mask+1
  rw [JC _ b.1 _ _ hi']
  split
  ·exact G.le i (by omega)
  ·split
   ·exact hj
   ·exact G.le (i-1) (by omega)
 ·show (SetTable.insertAt t.place _ j).size*5<t.mask*3
  rw [jf _ b.1]
  exact room
 ·have hi':i<t.place.size+1:=by
   have:=hi
   rw [show ({ t with place:=SetTable.insertAt t.place (SetTable.below t.place j) j }:SetTable).place=SetTable.insertAt t.place (SetTable.below t.place j) j from rfl,jf _ b.1] at this
   exact this
  show Reach _ _ ((SetTable.insertAt t.place _ j).getD i 0)
  rw [hget,JC _ b.1 _ _ hi']
  by_cases h1:i<SetTable.below t.place j
  ·rw [if_pos h1,if_pos h1]
   exact more (G.reach i (by omega))
  ·rw [if_neg h1,if_neg h1]
   by_cases h2:i=SetTable.below t.place j
   ·rw [if_pos h2,if_pos h2]
    exact more R
   ·rw [if_neg h2,if_neg h2]
    exact more (G.reach (i-1) (by omega))
theorem zen (t:SetTable)(hs:Array Int)(hn:hs.size=5\/hs.size=19):∃t' order,t.relaid hs (SetTable.grown hs.size)=some (t',order)/\order.size=hs.size/\order.toList.Perm (List.range hs.size)/\t'.led=t.led/\t'.plain=t.plain/\t'.place.size=hs.size/\Good t' (order.map fun i=>hs.toList.getD i 0):=by
 have key:∀mask,(mask=7\/mask=31\/mask=127)->hs.size<=mask+1->hs.size*5<mask*3->SetTable.sizeAbove (SetTable.grown hs.size)-1=mask->∃t' order,t.relaid hs (SetTable.grown hs.size)=some (t',order)/\order.size=hs.size/\order.toList.Perm (List.range hs.size)/\t'.led=t.led/\t'.plain=t.plain/\t'.place.size=hs.size/\Good t' (order.map fun i=>hs.toList.getD i 0):=fun mask hm hl hr em=>by
  obtain⟨place,order,h1,h2,h3,h4,h5,h6,h7⟩:=ziO hm t.finger (t.movedTo mask) t.led t.plain hs hl
  refine⟨{ mask:=mask,place:=place,dummies:=#[],finger:=t.finger,led:=t.led,moves:=t.movedTo mask,plain:=t.plain },order,?_,h4,h5,rfl,rfl,h3,hm,?_,rfl,h2,h6,?_,fun i hi=>?_⟩
  ·unfold SetTable.relaid
   rw [em]
   exact h1
  ·show place.size=_
   rw [size_map,h3,h4]
  ·show place.size*5<mask*3
   rw [h3]
   exact hr
  ·have hi':i<order.size:=by
    have:i<place.size:=hi
    omega
   have e:(order.map fun i=>hs.toList.getD i 0).toList.getD i 0=hs.toList.getD (order.getD i 0) 0:=by
    rw [getD_eq_getElem?_getD,getElem?_toList,Array.getElem?_map,xH hi']
    rfl
   rw [e]
   exact h7 i hi
 rcases hn with e | e
 ·exact key 31 (.inr (.inl rfl)) (by omega) (by omega) (by rw [e];decide +kernel)
 ·exact key 127 (.inr (.inr rfl)) (by omega) (by omega) (by rw [e];decide +kernel)
end ST
namespace ST
noncomputable def qj (es:Array (Int×Value))(ep:Nat)(t:SetTable):Obj:={ cls:=.type "set",dict:=none,data:=.set es ep t }
noncomputable def kP (p:Int×Int):List Key:=[.inl p.1,.inl p.2]
def InB (p:Int×Int):Prop:=(0<=p.1/\p.1<8)/\(0<=p.2/\p.2<8)
def hP (prog:Program)(w:World)(p:Int×Int):Int:=(tk2 prog w).hash (kP p)
section
variable {prog:Program}{w:World}{A:Around}{E:Value->Shared->Prop}{s:Shared}{a:Addr}{es:Array (Int×Value)}{ep:Nat}{t:SetTable}
theorem zke {p q:Int×Int}(hp:InB p)(hq:InB q)(e:hP prog w p=hP prog w q):p=q:=by
 obtain⟨p1,p2⟩:=p
 obtain⟨q1,q2⟩:=q
 obtain⟨⟨a1,a2⟩,a3,a4⟩:=hp
 obtain⟨⟨b1,b2⟩,b3,b4⟩:=hq
 simp only at a1 a2 a3 a4 b1 b2 b3 b4
 obtain⟨i,rfl⟩:∃i:Nat,p1=i:=⟨p1.toNat,by omega⟩
 obtain⟨j,rfl⟩:∃i:Nat,p2=i:=⟨p2.toNat,by omega⟩
 obtain⟨k,rfl⟩:∃i:Nat,q1=i:=⟨q1.toNat,by omega⟩
 obtain⟨l,rfl⟩:∃i:Nat,q2=i:=⟨q2.toNat,by omega⟩
 unfold hP kP at e
 rw [Jf,Jf] at e
 obtain⟨c,d⟩:=zc6 (by omega) (by omega) (by omega) (by omega) e
 rw [c,d]
theorem xK {h:Heap}{x:Addr}{p:Int×Int}(h1:zK h (.ref x) p):(tk2 prog w).is h (kP p) x:=by
 obtain⟨b,o,n,t,u,e,e1,e2,e3⟩:=h1
 cases e
 exact⟨o,#[.int p.1 t,.int p.2 u],n,e1,e2,e3,.cons (Y5 p.1 t) (.cons (Y5 p.2 u) .nil)⟩
theorem Good.fits {hs:Array Int}(G:Good t hs):t.fits hs.size=true:=by
 have h1:=G.sz
 have h2:=G.room
 unfold SetTable.fits SetTable.fill
 rw [G.dum,h1]
 simp
 omega
theorem Good.odd {hs:Array Int}(G:Good t hs):t.gaveWay=false:=by
 unfold SetTable.gaveWay
 rcases G.mask with e | e | e<;>rw [e]<;>rfl
theorem yG {Q:Array (Int×Value)×Nat×SetTable->Shared->Prop}(ho:s.heap.get? a=some (qj es ep t))(G:Good t (es.map (·.1)))(q:Q (es,ep,t) s):wpAny (model prog w) A (setState a) Q E s:=by
 refine wpAny_setState_of ho rfl ?_ q
 have:=G.fits
 rwa [size_map] at this
theorem zce (i:Nat)(hi:i<(es.map (·.1)).size):(es[i]?.map (·.1)).getD 0=(es.map (·.1)).toList.getD i 0:=by
 rw [getD_eq_getElem?_getD,getElem?_toList,Array.getElem?_map]
theorem zaY {n:Nat}{h:Int}{x:Value}{Q:SetFound->Shared->Prop}(ho:s.heap.get? a=some (qj es ep t))(G:Good t (es.map (·.1)))(no:h ∉ (es.map (·.1)).toList)
  (hQ:∀j,j<t.mask+1->(∀i,i<t.place.size->t.place.getD i 0≠j)->Reach t h j->Q (.free j false) s):wpAny (model prog w) A (setSearchFrom a x h true (n+1) none) Q E s:=by
 obtain⟨j,e,h1,h2,h3⟩:=G.missed (fun i=>(es[i]?.map (·.1)).getD 0) zce no
 rw [setSearchFrom]
 refine wpAny_bind (yG ho G ?_)
 dsimp only
 rw [G.odd,if_neg Bool.false_ne_true]
 generalize hm:t.probe _ h _=m
 have em:m=some (.empty j none):=hm.symm.trans e
 subst em
 exact wpAny_pure (hQ j h1 h2 h3)
theorem zbw {d:Nat}{x:Addr}{p:Int×Int}{Q:Bool->Shared->Prop}(hx:zK s.heap (.ref x) p)(q:Q false s):wpAny (model prog w) A (ofAClassStatement 8 (.ref x)) Q E s:=by
 obtain⟨b,o,n,t,u,e,e1,e2,e3⟩:=hx
 cases e
 have hT:s.TypeIs (.ref x) "tuple":=⟨o,e1,e2⟩
 unfold ofAClassStatement
 refine wpAny_bind (wpAny_typeOf hT ?_)
 dsimp only
 rw [if_pos (by decide)]
 refine wpAny_bind (wpAny_pure ?_)
 rw [if_neg (by decide)]
 refine wpAny_bind (wpAny_seqItems e1 e3 ?_)
 dsimp only
 refine wpAny_bind ?_
 rw [<- Array.forIn_toList]
 refine wpAny_forIn_list _ (fun rest r s'=>r.1=none/\s'=s/\∀v∈rest,∃i t,v=Value.int i t) _ ?_ ?_ _ _ ⟨rfl,rfl,fun v hv=>?_⟩
 ·rintro v rest r s' ⟨hr,rfl,hall⟩
  obtain⟨i,t,rfl⟩:=hall v mem_cons_self
  rw [show ofAClassStatement 7 (Value.int i t)=pure false by unfold ofAClassStatement;rfl]
  refine wpAny_bind (wpAny_pure ?_)
  rw [if_neg Bool.false_ne_true]
  exact wpAny_pure ⟨rfl,rfl,fun u hu'=>hall u (mem_cons_of_mem _ hu')⟩
 ·rintro⟨r1,r2⟩ s' ⟨hr,rfl,_⟩
  simp only at hr
  subst hr
  exact wpAny_pure q
 ·simp at hv
  rcases hv with rfl | rfl
  ·exact⟨_,_,rfl⟩
  ·exact⟨_,_,rfl⟩
theorem zhu {x:Addr}{p:Int×Int}{l:List Value}{Q:Bool->Shared->Prop}(hx:zK s.heap (.ref x) p)(hl:∀v∈l,∃b q,v=.ref b/\zK s.heap (.ref b) q)(q:Q false s):wpAny (model prog w) A (searchCouldBeSeen (.ref x) l) Q E s:=by
 unfold searchCouldBeSeen
 refine wpAny_bind ?_
 refine wpAny_forIn_list _ (fun rest r s'=>r.1=none/\s'=s/\∀v∈rest,∃b q,v=.ref b/\zK s.heap (.ref b) q) _ ?_ ?_ _ _ ⟨rfl,rfl,hl⟩
 ·rintro v rest r s' ⟨hr,rfl,hall⟩
  obtain⟨b,q',rfl,hb⟩:=hall v mem_cons_self
  dsimp only
  split
  ·exact wpAny_pure ⟨rfl,rfl,fun u hu'=>hall u (mem_cons_of_mem _ hu')⟩
  ·refine wpAny_bind ((tk2 prog w).quiet (xK hx) ?_)
   rw [if_neg (by decide)]
   refine wpAny_bind ((tk2 prog w).quiet (xK hb) ?_)
   rw [if_neg (by decide)]
   refine wpAny_bind (zbw (d:=0) hx ?_)
   rw [if_neg Bool.false_ne_true]
   refine wpAny_bind (zbw (d:=0) hb ?_)
   rw [if_neg Bool.false_ne_true]
   exact wpAny_pure ⟨rfl,rfl,fun u hu'=>hall u (mem_cons_of_mem _ hu')⟩
 ·rintro⟨r1,r2⟩ s' ⟨hr,rfl,_⟩
  simp only at hr
  subst hr
  exact wpAny_pure q
theorem zhv {x:Addr}{p:Int×Int}{Q:Bool->Shared->Prop}(hx:zK s.heap (.ref x) p)(q:Q true s):wpAny (model prog w) A (hashByValue 8 (.ref x)) Q E s:=by
 obtain⟨b,o,n,t,u,e,e1,e2,e3⟩:=hx
 cases e
 have hT:s.TypeIs (.ref x) "tuple":=⟨o,e1,e2⟩
 unfold hashByValue
 refine wpAny_bind (wpAny_specialOf hT PySem.F.slot_tuple_hash.lookup ?_)
 dsimp only
 refine wpAny_bind (wpAny_seqItems e1 e3 ?_)
 dsimp only [Option.getD]
 refine wpAny_bind ?_
 rw [<- Array.forIn_toList]
 refine wpAny_forIn_list _ (fun rest r s'=>r.1=none/\s'=s/\∀v∈rest,∃i t,v=Value.int i t) _ ?_ ?_ _ _ ⟨rfl,rfl,fun v hv=>?_⟩
 ·rintro v rest r s' ⟨hr,rfl,hall⟩
  obtain⟨i,t,rfl⟩:=hall v mem_cons_self
  rw [show hashByValue 7 (Value.int i t)=pure true by unfold hashByValue;rfl]
  refine wpAny_bind (wpAny_pure ?_)
  rw [if_neg (by decide)]
  exact wpAny_pure ⟨rfl,rfl,fun u hu'=>hall u (mem_cons_of_mem _ hu')⟩
 ·rintro⟨r1,r2⟩ s' ⟨hr,rfl,_⟩
  simp only at hr
  subst hr
  exact wpAny_pure q
 ·simp at hv
  rcases hv with rfl | rfl
  ·exact⟨_,_,rfl⟩
  ·exact⟨_,_,rfl⟩
theorem zcf {n:Nat}{h:Int}{x b:Addr}{p:Int×Int}{i:Nat}{Q:SetFound->Shared->Prop}(hu:A.units<cLine)(ho:s.heap.get? a=some (qj es ep t))(G:Good t (es.map (·.1)))(nd:(es.map (·.1)).toList.Nodup)
  (all:∀e∈es.toList,∃b q,e.2=Value.ref b/\zK s.heap (.ref b) q) (hi:es[i]?=some (h,.ref b)) (hx:zK s.heap (.ref x) p) (hb:zK s.heap (.ref b) p)
  (hQ:Q (.there none) s):wpAny (model prog w) A (setSearchFrom a (.ref x) h true (n+1) none) Q E s:=by
 have hlt:i<(es.map (·.1)).size:=by
  rw [size_map]
  exact(Array.getElem?_eq_some_iff.mp hi).1
 have eh:(es.map (·.1)).toList.getD i 0=h:=by
  rw [<- zce i hlt,hi]
  rfl
 obtain⟨nx,e⟩:=G.found (fun i=>(es[i]?.map (·.1)).getD 0) zce nd hlt
 rw [eh] at e
 rw [setSearchFrom]
 refine wpAny_bind (yG ho G ?_)
 dsimp only
 rw [G.odd,if_neg Bool.false_ne_true]
 generalize hm:t.probe _ h _=m
 have em:m=some (.candidate (t.place.getD i 0) i nx):=hm.symm.trans e
 subst em
 dsimp only
 have seen:∀v∈(es.filter (·.1==h)).toList.map (·.2),∃b q,v=Value.ref b/\zK s.heap (.ref b) q:=fun v hv=>by
  obtain⟨e,he,rfl⟩:=List.mem_map.mp hv
  rw [Array.toList_filter] at he
  exact all e (List.mem_filter.mp he).1
 rw [hi]
 cases hl:t.led with
 | true =>
  rw [if_neg (by decide)]
  refine wpAny_bind (wpAny_holding ((tk2 prog w).eqBool hu (xK hb) (xK hx) ?_))
  refine wpAny_bind (yG ho G ?_)
  dsimp only
  rw [decide_eq_true rfl,if_pos (by decide)]
  exact wpAny_pure hQ
 | false =>
  rw [if_pos (by decide)]
  refine wpAny_bind (zhu hx seen ?_)
  rw [if_neg Bool.false_ne_true]
  refine wpAny_bind (wpAny_holding ((tk2 prog w).eqBool hu (xK hb) (xK hx) ?_))
  refine wpAny_bind (yG ho G ?_)
  dsimp only
  rw [decide_eq_true rfl,if_pos (by decide)]
  exact wpAny_pure hQ
end
end ST
namespace ST
noncomputable def zam (f:Int×Int->Int)(q:Addr×(Int×Int)):Int×Value:=(f q.2,Value.ref q.1)
structure zaZ (f:Int×Int->Int)(led:Bool)(h:Heap)(a:Addr)(ks:List (Addr×(Int×Int))):Prop where
 ex:∃es ep t,h.get? a=some (qj es ep t)/\es.toList=ks.map (zam f)/\Good t (es.map (·.1))/\t.led=led/\t.plain=true
 nd:(ks.map (·.2)).Nodup
 cells:∀q∈ks,zK h (.ref q.1) q.2
 inb:∀q∈ks,InB q.2
theorem zK.up {h h':Heap}{x:Addr}{p:Int×Int}(H:zK h (.ref x) p){a:Addr}(hs:Heap.SameBut a h h'){o:Obj}(ho:h.get? a=some o)(hc:o.cls=.type "set"):zK h' (.ref x) p:=by
 obtain⟨b,o',n,t,u,e,e1,e2,e3⟩:=H
 cases e
 refine⟨x,o',n,t,u,rfl,?_,e2,e3⟩
 rw [hs.2 x fun z=>?_]
 ·exact e1
 ·subst z
  rw [ho] at e1
  cases e1
  rw [hc] at e2
  exact absurd e2 (by decide)
section
variable {prog:Program}{w:World}{A:Around}{E:Value->Shared->Prop}{s:Shared}{a:Addr}{es:Array (Int×Value)}{ep:Nat}{t:SetTable}{ks:List (Addr×(Int×Int))}{f:Int×Int->Int}{led:Bool}
theorem J3 (he:es.toList=ks.map (zam f)):(es.map (·.1)).toList=ks.map fun q=>f q.2:=by
 rw [toList_map,he,map_map]
 rfl
theorem zgg (inj:∀p q,InB p->InB q->f p=f q->p=q)(nd:(ks.map (·.2)).Nodup)(inb:∀q∈ks,InB q.2):(ks.map fun q=>f q.2).Nodup:=by
 rw [List.Nodup,List.pairwise_map] at nd ⊢
 refine nd.imp_of_mem fun {x y} hx hy h e=>h (inj _ _ (inb x hx) (inb y hy) e)
theorem zdd {es':Array (Int×Value)}{t':SetTable}{Q:Unit->Shared->Prop}(ho:s.heap.get? a=some (qj es ep t))(hz:es'.size<=64)
  (q:∀h',Heap.SameBut a s.heap h'->h'.get? a=some (qj es' (ep+1) t')->Q () { s with heap:=h' }):wpAny (model prog w) A (storeSet a es' t') Q E s:=by
 refine wpAny_storeSet_of (o:=qj es ep t) ho rfl (q _ (Heap.SameBut.update ..) ?_) (le_trans hz (by rw [sizeLine_eq];decide))
 have:=Heap.get?_update_self (Obj.putSet es' t') ho (by rw [putSet_of es' t' (o:=qj es ep t) rfl];rfl)
 rw [putSet_of es' t' (o:=qj es ep t) rfl] at this
 exact this
theorem zde {α:Type}(d:α)(xs:Array α):∀(l:List Nat),(∀i∈l,i<xs.size)->l.filterMap (fun i=>xs[i]?)=l.map fun i=>xs.toList.getD i d
 | [],_=>rfl
 | i::l,h=>by
  have hi:=h i mem_cons_self
  rw [List.filterMap_cons,map_cons,Array.getElem?_eq_getElem hi]
  dsimp only
  rw [zde d xs l fun j hj=>h j (mem_cons_of_mem _ hj)]
  congr 1
  rw [getD_eq_getElem?_getD,getElem?_toList,Array.getElem?_eq_getElem hi]
  rfl
theorem zcg {n:Nat}(hn:n=5\/n=19):¬ SetTable.sizeAbove (SetTable.grown n)>sizeLine:=by
 rw [sizeLine_eq]
 rcases hn with rfl | rfl
 ·rw [show SetTable.sizeAbove (SetTable.grown 5)=32 by decide +kernel]
  omega
 ·rw [show SetTable.sizeAbove (SetTable.grown 19)=128 by decide +kernel]
  omega
theorem zhw {Q:Unit->Shared->Prop}(ho:s.heap.get? a=some (qj es ep t))(hf:t.fits es.size=true)(hn:es.size=5\/es.size=19)(he:es.toList=ks.map (zam f))
  (q:∀(h':Heap) (es':Array (Int×Value)) (t':SetTable) (ks':List (Addr×(Int×Int))),Heap.SameBut a s.heap h'->h'.get? a=some (qj es' (ep+1) t')->es'.toList=ks'.map (zam f)->ks'.Perm ks->Good t' (es'.map (·.1))->t'.led=t.led->t'.plain=t.plain->Q () { s with heap:=h' }):wpAny (model prog w) A (setRelay a (SetTable.grown es.size)) Q E s:=by
 have hsz:(es.map (·.1)).size=es.size:=size_map ..
 obtain⟨t',order,e1,e2,e3,e4,e5,e6,e7⟩:=zen t (es.map (·.1)) (by rw [hsz];exact hn)
 rw [hsz] at e1 e2 e3 e6
 have hlt:∀i∈order.toList,i<es.size:=fun i hi=>List.mem_range.mp (e3.mem_iff.mp hi)
 have hkl:ks.length=es.size:=by
  rw [<- length_toList,he,length_map]
 have d0:Addr×(Int×Int):=(0,(0,0))
 have el:(order.filterMap (es[·]?)).toList=(order.toList.map fun i=>ks.getD i d0).map (zam f):=by
  rw [Array.toList_filterMap,zde (zam f d0) es order.toList hlt,map_map]
  refine map_congr_left fun i hi=>?_
  have h1:=hlt i hi
  show es.toList.getD i _=zam f (ks.getD i d0)
  rw [he,getD_eq_getElem?_getD,getElem?_map,getD_eq_getElem?_getD,getElem?_eq_getElem (by omega),map_some,getD_some,getD_some]
 have es_:(order.filterMap (es[·]?)).size=es.size:=by
  rw [<- length_toList,el,length_map,length_map,length_toList,e2]
 unfold setRelay
 refine wpAny_bind (wpAny_setState_of (o:=qj es ep t) ho rfl hf ?_)
 dsimp only
 rw [if_neg (zcg hn),e1]
 refine wpAny_bind ?_
 show wpAny (model prog w) A (do
  let es':=order.filterMap (es[·]?)
  if es'.size != es.size then unsupported "internal:set-table-lost-an-element"
  pure (es',t')) _ _ _
 dsimp only
 rw [es_,if_neg (by simp)]
 refine wpAny_pure ?_
 dsimp only
 refine zdd ho (by rw [es_];omega) fun h' h1 h2=>q h' _ t' _ h1 h2 el ?_ ?_ e4 e5
 ·have:=e3.map fun i=>ks.getD i d0
  rw [<- hkl,zad] at this
  exact this
 ·have eh:(order.filterMap (es[·]?)).map (·.1)=order.map fun i=>(es.map (·.1)).toList.getD i 0:=by
   apply Array.toList_inj.mp
   rw [J3 el,toList_map,map_map]
   refine map_congr_left fun i hi=>?_
   have h1:=hlt i hi
   show f (ks.getD i d0).2=_
   rw [J3 he,getD_eq_getElem?_getD,getD_eq_getElem?_getD,getElem?_map,getElem?_eq_getElem (by omega),map_some,getD_some,getD_some]
  rw [eh]
  exact e7
theorem zhx {n:Nat}{x:Addr}{p:Int×Int}{Q:Bool->Shared->Prop}(inj:∀p q,InB p->InB q->f p=f q->p=q)(hu:A.units<cLine)(S:zaZ f led s.heap a ks)(hx:zK s.heap (.ref x) p)(hb:InB p)(hn:p ∉ ks.map (·.2)->ks.length<63)
  (q:∀(b:Bool) (h':Heap) (ks':List (Addr×(Int×Int))),Heap.SameBut a s.heap h'->zaZ f led h' a ks'->(∀c,c∈ks'.map (·.2)↔c∈ks.map (·.2)\/c=p)->(∀c∈ks',c∈ks\/c=(x,p))->Q b { s with heap:=h' }) :
  wpAny (model prog w) A (setAddHashedIn a (.ref x) (f p) (n+1)) Q E s:=by
 obtain⟨⟨es,ep,t,ho,he,G,hl,hp⟩,nd,hc,inb⟩:=S
 have hkl:ks.length=es.size:=by
  rw [<- length_toList,he,length_map]
 generalize hh:f p=h
 rw [setAddHashedIn]
 refine wpAny_bind (yG ho G ?_)
 dsimp only
 rw [show byScan (.ref x) es=false by simp [byScan,Value.scannable],if_neg Bool.false_ne_true]
 by_cases hm:p∈ks.map (·.2)
 ·obtain⟨⟨b,p'⟩,hk,e⟩:=List.mem_map.mp hm
  simp only at e
  subst e
  obtain⟨i,hi,ei⟩:=List.getElem_of_mem hk
  have eg:es[i]?=some (h,.ref b):=by
   rw [<- getElem?_toList,he,getElem?_map,getElem?_eq_getElem hi,ei,<- hh]
   rfl
  unfold setSearch
  refine wpAny_bind (zcf (n:=99999) hu ho G (by rw [J3 he];exact zgg inj nd inb) (fun e hm'=>?_) eg hx (hc _ hk) ?_)
  ·rw [he] at hm'
   obtain⟨c,h1,rfl⟩:=List.mem_map.mp hm'
   exact⟨c.1,c.2,rfl,hc c h1⟩
  ·refine wpAny_pure (q false s.heap ks (Heap.SameBut.refl _ _) ⟨⟨es,ep,t,ho,he,G,hl,hp⟩,nd,hc,inb⟩ (fun c=>⟨.inl,fun z=>z.elim id fun z=>z ▸ hm⟩) fun c h1=>.inl h1)
 ·have hlen:=hn hm
  have no:h ∉ (es.map (·.1)).toList:=fun z=>by
   rw [J3 he,<- hh] at z
   obtain⟨c,h1,h2⟩:=List.mem_map.mp z
   exact hm (List.mem_map.mpr ⟨c,h1,inj _ _ (inb c h1) hb h2⟩)
  unfold setSearch
  refine wpAny_bind (zaY (n:=99999) ho G no fun j h1 h2 h3=>?_)
  dsimp only
  refine wpAny_bind (yG ho G ?_)
  obtain⟨f1,f2,f3⟩:=zhs G.up G.dum h2
  have hsz:t.place.size=es.size:=by rw [G.sz,size_map]
  have bs:SetTable.below t.place j<=es.size:=by
   rw [<- hsz]
   exact(Jz G.up j).1
  generalize hpos:SetTable.below t.place j=pos at f1 f2 f3 bs
  have ep1:(t.put j).1.plain=true:=by rw [f2];exact hp
  have el1:(t.put j).1.led=led:=by rw [f2];exact hl
  have hks:∃ks1,ks1=ks.take pos++(x,p)::ks.drop pos:=⟨_,rfl⟩
  obtain⟨ks1,hks⟩:=hks
  have he1:(SetTable.insertAt es pos (h,Value.ref x)).toList=ks1.map (zam f):=by
   rw [Zy,he,hks,map_append,map_cons,List.map_take,List.map_drop]
   simp only [zam,hh]
  have hsz1:(SetTable.insertAt es pos (h,Value.ref x)).size=es.size+1:=jf _ bs _
  have pm:ks1.Perm ((x,p)::ks):=by
   rw [hks]
   refine List.perm_middle.trans (List.Perm.cons _ ?_)
   rw [take_append_drop]
  have fits1:(t.put j).1.fits (SetTable.insertAt es pos (h,Value.ref x)).size=true:=by
   have hr:=G.room
   have bp:pos<=t.place.size:=by rw [hsz];exact bs
   rw [hsz1,f2]
   unfold SetTable.fits SetTable.fill
   simp only [G.dum,jf _ bp,hsz]
   rcases G.mask with e | e | e<;>simp [e]<;>rw [hsz,e] at hr<;>omega
  have fin:∀(h':Heap) (ks':List (Addr×(Int×Int))) (es':Array (Int×Value)) (ep':Nat) (t':SetTable),Heap.SameBut a s.heap h'->h'.get? a=some (qj es' ep' t')->es'.toList=ks'.map (zam f)->ks'.Perm ((x,p)::ks)->Good t' (es'.map (·.1))->t'.led=led->t'.plain=true->Q true { s with heap:=h' }:=by
   intro h' ks' es' ep' t' hs hg hel hpm hG hle hpl
   have mem:∀c,c∈ks'↔c=(x,p)\/c∈ks:=fun c=>by rw [hpm.mem_iff,List.mem_cons]
   refine q true h' ks' hs ⟨⟨es',ep',t',hg,hel,hG,hle,hpl⟩,?_,fun c hc'=>?_,fun c hc'=>?_⟩ (fun c=>?_) fun c hc'=>(mem c).mp hc' |>.symm
   ·rw [(hpm.map (·.2)).nodup_iff,map_cons,List.nodup_cons]
    exact⟨hm,nd⟩
   ·rcases(mem c).mp hc' with rfl | z
    ·exact zK.up hx hs ho rfl
    ·exact zK.up (hc c z) hs ho rfl
   ·rcases(mem c).mp hc' with rfl | z
    ·exact hb
    ·exact inb c z
   ·rw [(hpm.map (·.2)).mem_iff,map_cons,List.mem_cons]
    exact Or.comm
  have eT:t.put j=((t.put j).1,pos):=by rw [<- f1]
  have fl:(t.put j).1.tooFull=decide ((es.size+1)*5 >= t.mask*3):=by
   have bp:pos<=t.place.size:=by rw [hsz];exact bs
   rw [f2]
   unfold SetTable.tooFull SetTable.fill
   simp only [G.dum,jf _ bp,hsz]
   rfl
  have gd:¬ (es.size+1)*5 >= t.mask*3->Good (t.put j).1 ((SetTable.insertAt es pos (h,Value.ref x)).map (·.1)):=fun hr=>by
   have:=G.put (h:=h) h1 h2 h3 (by rw [hsz];omega)
   rw [f1] at this
   have e:(SetTable.insertAt es pos (h,Value.ref x)).map (·.1)=SetTable.insertAt (es.map (·.1)) pos h:=by
    apply Array.toList_inj.mp
    rw [toList_map,Zy,Zy,toList_map,map_append,map_cons,List.map_take,List.map_drop]
   rw [e]
   exact this
  have hroom:=G.room
  have hmask:=G.mask
  rw [hsz] at hroom
  dsimp only
  rw [eT]
  dsimp only
  generalize t.put j=T at ep1 el1 fits1 fl gd
  obtain⟨t1,p1⟩:=T
  dsimp only at ep1 el1 fits1 fl gd ⊢
  rw [ep1,if_pos rfl]
  refine wpAny_bind (zhv hx ?_)
  rw [if_pos rfl]
  refine wpAny_bind (zdd ho (by rw [hsz1];omega) fun h' hs hg=>?_)
  by_cases full:(es.size+1)*5 >= t.mask*3
  ·rw [fl,decide_eq_true full,if_pos (by decide)]
   rw [<- hsz1]
   refine wpAny_bind (zhw (s:={ s with heap:=h' }) hg fits1 (by rw [hsz1];rcases hmask with e | e | e<;>rw [e] at full hroom<;>omega) he1 fun h2' es' t' ks' hs' hg' hel hpm hG hle hpl=>?_)
   exact wpAny_pure (fin h2' ks' es' _ t' (hs.trans hs') hg' hel (hpm.trans pm) hG (hle.trans el1) (hpl.trans ep1))
  ·rw [fl,decide_eq_false full,if_neg (by decide)]
   exact wpAny_pure (fin h' ks1 _ _ t1 hs hg he1 pm (gd full) el1 ep1)
theorem zhy {x:Addr}{p:Int×Int}{Q:Bool->Shared->Prop}(hu:A.units<cLine)(S:zaZ (hP prog w) led s.heap a ks)(hx:zK s.heap (.ref x) p)(hb:InB p)(hn:p ∉ ks.map (·.2)->ks.length<63)
  (q:∀(b:Bool) (h':Heap) (ks':List (Addr×(Int×Int))),Heap.SameBut a s.heap h'->zaZ (hP prog w) led h' a ks'->(∀c,c∈ks'.map (·.2)↔c∈ks.map (·.2)\/c=p)->(∀c∈ks',c∈ks\/c=(x,p))->Q b { s with heap:=h',toks:=s.toks+3 }) :
  wpAny (model prog w) A (setAdd a (.ref x)) Q E s:=by
 unfold setAdd
 refine wpAny_holding (wpAny_bind ((tk2 prog w).pyHash hu (xK hx) ?_))
 show wpAny (model prog w) A (setAddHashed a (.ref x) (hP prog w p)) Q E { s with toks:=s.toks+3 }
 unfold setAddHashed
 refine wpAny_holding ?_
 exact zhx (n:=99999) (s:={ s with toks:=s.toks+3 }) (fun p q h1 h2 h3=>zke h1 h2 h3) hu S hx hb hn q
end
end ST
namespace ST
theorem zfi {α:Type}(next:Nat->Nat):∀(fuel k:Nat) (left:List α) (out:Array α),left.length=fuel->(pickOrder.go next fuel k left out).toList.Perm (out.toList++left)
 | 0,k,left,out,h=>by
  rw [List.length_eq_zero_iff.mp h,append_nil]
  exact List.Perm.refl _
 | fuel+1,k,left,out,h=>by
  have hl:next k%left.length<left.length:=mod_lt _ (by omega)
  rw [pickOrder.go,getElem?_eq_getElem hl]
  dsimp only
  refine(zfi next fuel (k+1) _ _ (by rw [List.length_eraseIdx_of_lt hl];omega)).trans ?_
  rw [toList_push,append_assoc]
  refine List.Perm.append_left _ ?_
  have e:left=left.take (next k%left.length)++left[next k%left.length]::left.drop (next k%left.length+1):=by
   rw [<- drop_eq_getElem_cons hl,take_append_drop]
  rw [List.eraseIdx_eq_take_drop_succ]
  have e2:=@List.perm_middle _ left[next k%left.length] (left.take (next k%left.length)) (left.drop (next k%left.length+1))
  rw [<- e] at e2
  exact e2.symm
theorem zgh {α:Type}(next:Nat->Nat)(xs:Array α):(pickOrder next xs).toList.Perm xs.toList:=by
 have h:=zfi next xs.size 0 xs.toList #[] (by simp)
 rw [show (#[]:Array α).toList++xs.toList=xs.toList from rfl] at h
 exact h
theorem jJ:Slot "set_iterator" "__next__" "set_iterator.__next__" :=
 .of (owner:="set_iterator") (n:="__next__") (by rw [typeLookup_type,builtinLookup_eq_fast];kernel_rfl) (by decide +kernel) (by decide +kernel) (by decide +kernel) (.inl (by decide +kernel)) (by rw [isSubtype_type];kernel_rfl)
theorem YL:entryFor table "set_iterator.__next__"=some Builtin.«set_iterator.__next__»:=entryFor_of_tree (by kernel_rfl)
theorem zan:Manifest.owners.lookup (String.ofList ['r','o','t','a','r','e','t','i','_','t','e','s'].reverse)=some Manifest.sig_set_iterator:=by kernel_rfl
theorem Qv (a:Value):argsOk "set_iterator.__next__" ⟨[a],[]⟩:=by
 unfold argsOk
 rw [signature?_of (id:="set_iterator.__next__") (n:=['_','_','t','x','e','n','_','_']) (o:=['r','o','t','a','r','e','t','i','_','t','e','s']) (by kernel_rfl) zan]
 kernel_rfl
theorem zch:entryFor table "set.__iter__"=some Builtin.«frozenset.__iter__»:=entryFor_alias (id':="frozenset.__iter__") (by kernel_rfl) rfl (by decide +kernel) (by kernel_rfl)
noncomputable def zao (slot i:Nat)(a:Addr)(n ep:Nat):Obj:={ cls:=.type "set_iterator",data:=.fields #[rawInt slot,rawInt i,.ref a,rawInt n,rawInt ep] }
noncomputable def slotAt (byText:Bool)(t:SetTable)(i:Nat):Nat:=if byText then 0 else if i=0 then 0 else t.place.getD (i-1) 0+1
noncomputable def JD (w:World)(a:Addr)(ep:Nat)(es:Array (Int×Value)):Array (Int×Value):=if w.params.followText "set-order" then pickOrder (w.params.setOrder a ep) es else es
theorem YM (w:World)(a:Addr)(ep:Nat)(es:Array (Int×Value)):(JD w a ep es).toList.Perm es.toList:=by
 unfold JD
 split
 ·exact zgh _ _
 ·exact List.Perm.refl _
section
variable {prog:Program}{w:World}{A:Around}{E:Value->Shared->Prop}{s:Shared}{a:Addr}{es:Array (Int×Value)}{ep:Nat}{t:SetTable}
theorem zci {Q:Bool->Shared->Prop}(q:Q (w.params.followText "set-order") s):wpAny (model prog w) A setsByText Q E s:=by
 unfold setsByText
 exact wpAny_bind (wpAny_askSetting (wpAny_pure q))
theorem below_at {t:SetTable}(U:Up t.place){i:Nat}(hi:i<=t.place.size):SetTable.below t.place (slotAt false t i)=i:=by
 obtain⟨b1,b2,b3⟩:=Jz U (slotAt false t i)
 unfold slotAt at *
 simp only [false_eq_true,if_false] at *
 by_cases h0:i=0
 ·subst h0
  rw [if_pos rfl] at *
  rcases Nat.eq_zero_or_pos (SetTable.below t.place 0) with e | e
  ·exact e
  ·have:=b2 0 e
   omega
 ·rw [if_neg h0] at *
  rcases Nat.lt_trichotomy (SetTable.below t.place (t.place.getD (i-1) 0+1)) i with e | e | e
  ·have:=b3 (i-1) (by omega) (by omega)
   omega
  ·exact e
  ·have h1:=b2 i e
   have h2:=U (i-1) i (by omega) (by omega)
   omega
theorem zfj {i:Nat}{Q:Option (Value×Nat)->Shared->Prop}(ho:s.heap.get? a=some (qj es ep t))(G:Good t (es.map (·.1)))(hl:t.led=!w.params.followText "set-order")(hp:t.plain=true)(hi:i<=es.size)
  (q1:∀v,(JD w a ep es)[i]?.map (·.2)=some v->Q (some (v,slotAt (w.params.followText "set-order") t (i+1))) s) (q2:i=es.size->Q none s) :
  wpAny (model prog w) A (setNext a (slotAt (w.params.followText "set-order") t i) i ep) Q E s:=by
 have hsz:t.place.size=es.size:=by rw [G.sz,size_map]
 have hos:(JD w a ep es).size=es.size:=by
  rw [<- length_toList,(YM w a ep es).length_eq,length_toList]
 unfold setNext
 refine wpAny_bind (yG ho G ?_)
 dsimp only
 refine wpAny_bind (zci ?_)
 cases hb:w.params.followText "set-order" with
 | true =>
  rw [if_pos rfl]
  rw [hb] at q1
  rw [if_neg (by simp)]
  unfold setWalk
  refine wpAny_bind (wpAny_bind (yG ho G ?_))
  dsimp only
  refine wpAny_bind (zci ?_)
  rw [hb,if_pos rfl]
  refine wpAny_bind (wpAny_askSetting (wpAny_pure (wpAny_pure ?_)))
  have eo:JD w a ep es=pickOrder (w.params.setOrder a ep) es:=by
   unfold JD
   rw [hb,if_pos rfl]
  rw [eo] at q1 hos
  show Q (Option.map _ (pickOrder (w.params.setOrder a ep) es)[i]?) s
  by_cases h:i<es.size
  ·have e:(pickOrder (w.params.setOrder a ep) es)[i]?=some (pickOrder (w.params.setOrder a ep) es)[i]:=Array.getElem?_eq_getElem (by omega)
   rw [e] at q1 ⊢
   exact q1 _ rfl
  ·rw [getElem?_eq_none (by omega)]
   exact q2 (by omega)
 | false =>
  rw [if_neg Bool.false_ne_true]
  rw [hb] at q1 hl
  have eo:JD w a ep es=es:=by
   unfold JD
   rw [hb,if_neg Bool.false_ne_true]
  rw [eo] at q1
  split
  ·rename_i h
   exact absurd h (by show ¬ ((!t.plain&&decide (es.size>1))=true);rw [hp];exact Bool.false_ne_true)
  refine wpAny_bind ?_
  show wpAny _ _ (if (!t.led && !es.isEmpty)=true then unsupported "set:maker-not-led" else pure ()) _ _ _
  rw [hl,if_neg (by simp)]
  refine wpAny_pure ?_
  rw [below_at G.up (by omega)]
  by_cases h:i<es.size
  ·have e:es[i]?=some es[i]:=Array.getElem?_eq_getElem h
   have e2:t.place[i]?=some (t.place.getD i 0):=xH (by omega)
   rw [e] at q1 ⊢
   rw [e2]
   refine wpAny_pure (q1 _ rfl)
  ·rw [getElem?_eq_none (by omega)]
   exact wpAny_pure (q2 (by omega))
end
end ST
namespace ST
theorem zbx:Slot "set_iterator" "__iter__" "set_iterator.__iter__" :=
 .of (owner:="set_iterator") (n:="__iter__") (by rw [typeLookup_type,builtinLookup_eq_fast];kernel_rfl) (by decide +kernel) (by decide +kernel) (by decide +kernel) (.inl (by decide +kernel)) (by rw [isSubtype_type];kernel_rfl)
theorem zeo:entryFor table "set_iterator.__iter__"=some Builtin.«dict_keyiterator.__iter__»:=entryFor_alias (id':="dict_keyiterator.__iter__") (by kernel_rfl) rfl (by decide +kernel) (by kernel_rfl)
theorem zgi (a:Value):argsOk "set_iterator.__iter__" ⟨[a],[]⟩:=by
 unfold argsOk
 rw [signature?_of (id:="set_iterator.__iter__") (n:=['_','_','r','e','t','i','_','_']) (o:=['r','o','t','a','r','e','t','i','_','t','e','s']) (by kernel_rfl) zan]
 kernel_rfl
section
variable {prog:Program}{w:World}{A:Around}{E:Value->Shared->Prop}{s:Shared}{a I:Addr}{es:Array (Int×Value)}{ep:Nat}{t:SetTable}
theorem zep {slot i a n ep:Nat}(x y:Nat):Obj.mapFields (·.setIfInBounds 1 (rawInt y)) (Obj.mapFields (·.setIfInBounds 0 (rawInt x)) (zao slot i a n ep))=zao x y a n ep:=rfl
theorem ziP {i:Nat}{Q:Option Value->Shared->Prop}(hI:s.heap.get? I=some (zao (slotAt (w.params.followText "set-order") t i) i a es.size ep))(ho:s.heap.get? a=some (qj es ep t))(G:Good t (es.map (·.1)))(hl:t.led=!w.params.followText "set-order")(hp:t.plain=true)(hi:i<es.size)
  (q:∀v h',(JD w a ep es)[i]?.map (·.2)=some v->h'.get? I=some (zao (slotAt (w.params.followText "set-order") t (i+1)) (i+1) a es.size ep)->Heap.SameBut I s.heap h'->Q (some v) { s with heap:=h' }) :
  wpAny (model prog w) A (pyNext (.ref I)) Q E s:=by
 have hT:s.TypeIs (.ref I) "set_iterator":=⟨_,hI,rfl⟩
 unfold pyNext
 refine wpAny_bind (wpAny_attempt (wpAny_callSpecial?_slot (name:=Str.ofString "__next__") hT jJ (wpAny_call_entry jJ hT YL ?_ (Qv _))))
 unfold Builtin.«set_iterator.__next__»
 refine wpAny_bind (wpAny_pure ?_)
 refine wpAny_bind (wpAny_fieldsOf hI rfl ?_)
 dsimp only [rawInt]
 refine wpAny_bind (wpAny_setEntries_of (o:=qj es ep t) ho rfl ?_ ?_)
 ·have:=G.fits
  rwa [size_map] at this
 rw [if_neg (by simp)]
 show wpAny _ _ (setNext a (slotAt (w.params.followText "set-order") t i) i ep >>= _) _ _ _
 refine wpAny_bind (zfj ho G hl hp (Nat.le_of_lt hi) (fun v hv=>?_) fun z=>absurd z (by omega))
 dsimp only
 refine wpAny_bind (wpAny_setField hI rfl (by simp [zao]) ?_)
 have h1:=Heap.get?_update_self (Obj.mapFields (·.setIfInBounds 0 (rawInt ((slotAt (w.params.followText "set-order") t (i+1):Nat):Int)))) hI rfl
 refine wpAny_bind (wpAny_setField h1 rfl (by simp [zao,Obj.mapFields]) ?_)
 have h2:=Heap.get?_update_self (Obj.mapFields (·.setIfInBounds 1 (rawInt ((i:Int)+1)))) h1 rfl
 refine wpAny_pure ⟨_,rfl,wpAny_pure (q v _ hv ?_ ((Heap.SameBut.update ..).trans (Heap.SameBut.update ..)))⟩
 rw [show ((i:Int)+1)=((i+1:Nat):Int) by omega] at h2 ⊢
 rw [zep] at h2
 exact h2
theorem zkf {Q:Option Value->Shared->Prop}(hh:A.handled=none)(hI:s.heap.get? I=some (zao (slotAt (w.params.followText "set-order") t es.size) es.size a es.size ep))(ho:s.heap.get? a=some (qj es ep t))(G:Good t (es.map (·.1)))(hl:t.led=!w.params.followText "set-order")(hp:t.plain=true)
  (q:∀h',Heap.ExtBut I s.heap h'->Q none { s with heap:=h' }):wpAny (model prog w) A (pyNext (.ref I)) Q E s:=by
 have hT:s.TypeIs (.ref I) "set_iterator":=⟨_,hI,rfl⟩
 unfold pyNext
 refine wpAny_bind (wpAny_attempt (wpAny_callSpecial?_slot (name:=Str.ofString "__next__") hT jJ (wpAny_call_entry jJ hT YL ?_ (Qv _))))
 unfold Builtin.«set_iterator.__next__»
 refine wpAny_bind (wpAny_pure ?_)
 refine wpAny_bind (wpAny_fieldsOf hI rfl ?_)
 dsimp only [rawInt]
 refine wpAny_bind (wpAny_setEntries_of (o:=qj es ep t) ho rfl ?_ ?_)
 ·have:=G.fits
  rwa [size_map] at this
 rw [if_neg (by simp)]
 show wpAny _ _ (setNext a (slotAt (w.params.followText "set-order") t es.size) es.size ep >>= _) _ _ _
 refine wpAny_bind (zfj ho G hl hp (le_refl _) (fun v hv=>?_) fun _=>?_)
 ·have hos:(JD w a ep es).size=es.size:=by
   rw [<- length_toList,(YM w a ep es).length_eq,length_toList]
  rw [getElem?_eq_none (by omega)] at hv
  cases hv
 dsimp only
 refine wpAny_bind (wpAny_setField hI rfl (by simp [zao]) ?_)
 refine wpAny_bind ?_
 simp only [newExc,newTuple]
 refine wpAny_bind (wpAny_newObj_type ?_ (by size_fits))
 refine wpAny_bind (m:=firstArgMember _ _) (wpAny_of_eq (a:=Value.none) (by first | rfl | (simp only [firstArgMember];rfl)) ?_)
 refine wpAny_newObj_type ?_ (by size_fits)
 simp only [raiseNew]
 refine wpAny_bind (wpAny_handled ?_)
 rw [show A.in1.handled=none from hh]
 refine wpAny_bind (wpAny_pure (wpAny_throw ?_))
 refine wpAny_bind (wpAny_isInstance (T:="StopIteration") (b:=true) ⟨_,Heap.get?_push_size _ rfl,rfl⟩ isSubtype_stop ?_)
 exact wpAny_pure (q _ (((Heap.SameBut.update ..).extBut.push _).push _))
theorem ziQ {slot i n:Nat}{Q:Value->Shared->Prop}(hI:s.heap.get? I=some (zao slot i a n ep))(q:Q (.ref I) s):wpAny (model prog w) A (pyIter (.ref I)) Q E s:=by
 have hT:s.TypeIs (.ref I) "set_iterator":=⟨_,hI,rfl⟩
 refine wpAny_pyIter_slot hT zbx (wpAny_call_entry zbx hT zeo ?_ (zgi _))
 exact wpAny_pure ⟨_,rfl,"set_iterator",_,hT,jJ.lookup,q⟩
theorem walks (hh:A.handled=none)(hne:a≠I)(G:Good t (es.map (·.1)))(hl:t.led=!w.params.followText "set-order")(hp:t.plain=true) :
  Walks prog w A I [I,a] [I] es.size (fun i v=>(JD w a ep es)[i]?.map (·.2)=some v) (fun i h=>h.get? I=some (zao (slotAt (w.params.followText "set-order") t i) i a es.size ep)/\h.get? a=some (qj es ep t)) where
 sub:=fun b hb=>by simp at hb;simp [hb]
 frame:=fun _ _ _ st hk=>⟨hk I (by simp) _ st.1,hk a (by simp) _ st.2⟩
 item:=fun i s Q E hi st hQ=>ziP st.1 st.2 G hl hp hi fun v h' hv h1 hs=>hQ v h' s.toks hv ⟨h1,(hs.2 a hne).trans st.2⟩ fun b o hb e=>(hs.2 b fun z=>hb (by simp [z])).trans e
 done:=fun s Q E st hQ=>zkf hh st.1 st.2 G hl hp fun h' he=>hQ h' s.toks fun b o hb e=>he b o (fun z=>hb (by simp [z])) e
 self:=fun _ _ _ _ st hQ=>ziQ st.1 hQ
theorem zdf:splitId "set.__len__"=some ("set","__len__"):=by decide +kernel
theorem zdg {Q:List Value->Shared->Prop}(hh:A.handled=none)(ho:s.heap.get? a=some (qj es ep t))(G:Good t (es.map (·.1)))(hl:t.led=!w.params.followText "set-order")(hp:t.plain=true)(hn:es.size<=64)
  (q:∀vs h' tk,vs.Perm (es.toList.map (·.2))->(∀b o,s.heap.get? b=some o->h'.get? b=some o)->s.heap.objs.size<=h'.objs.size->Q vs { s with heap:=h',toks:=tk }):wpAny (model prog w) A (collect (.ref a)) Q E s:=by
 have hlt:a<s.heap.objs.size:=Heap.lt_size ho
 unfold collect
 refine wpAny_bind (wpAny_runValue (codeAny_builtin PySem.F.entry_proto_collect ?_))
 rw [Around.under_plainId PySem.F.plain_proto_collect _]
 show wpAny _ A.in1 (newList [] >>= fun l=>again (.builtin "list.__iadd__" ⟨[l,.ref a],[]⟩)) _ _ s
 refine wpAny_bind (wpAny_newObj_type ?_)
 refine wpAny_pure ⟨plainId_quiet PySem.F.plain_list_iadd _,codeAny_builtin PySem.F.entry_list_iadd ?_⟩
 rw [Around.under_plainId PySem.F.plain_list_iadd _]
 show wpAny _ A.in1 (Builtin.List.listExtendWith (.ref s.heap.objs.size) (.ref a) (.ref s.heap.objs.size)) _ _ _
 generalize hL:(s.heap.push { cls:=.type "list",data:=.seq ([]:List Value).toArray })=h1
 have ho1:h1.get? a=some (qj es ep t):=by rw [<- hL];exact Heap.get?_push_of_some _ ho
 have hS1:h1.get? s.heap.objs.size=some { cls:=.type "list",data:=.seq #[] }:=by rw [<- hL];exact Heap.get?_push_size _ rfl
 have kp1:∀b o,s.heap.get? b=some o->h1.get? b=some o:=fun b o e=>by rw [<- hL];exact Heap.get?_push_of_some _ e
 have z1:h1.objs.size=s.heap.objs.size+1:=by rw [<- hL];exact Heap.size_push ..
 have hT:Shared.TypeIs { s with heap:=h1 } (.ref a) "set":=⟨_,ho1,rfl⟩
 have h1':Builtin.List.listSameRef (.ref s.heap.objs.size) (.ref a)=false:=by
  simp [Builtin.List.listSameRef]
  exact Nat.ne_of_gt hlt
 unfold Builtin.List.listExtendWith
 refine wpAny_bind (wpAny_typeOf hT ?_)
 rw [if_neg (by rw [h1'];decide)]
 have hf:t.fits es.size=true:=by
  have:=G.fits
  rwa [size_map] at this
 refine wpAny_bind (wpAny_pyIter_slot hT PySem.F.slot_set_iter (wpAny_call_entry PySem.F.slot_set_iter hT zch ?_ (PySem.F.args_set_iter_1 _)))
 unfold Builtin.«frozenset.__iter__» Builtin.Frozenset.slot0 slotArgs
 simp only [List.isEmpty_nil,Bool.not_true,false_eq_true,↓reduceIte,bind_assoc,length_nil,bne_self_eq_false]
 unfold Builtin.Frozenset.addrOf Builtin.Frozenset.sizeOf
 refine wpAny_bind (wpAny_pure ?_)
 dsimp only
 refine wpAny_bind (wpAny_pure ?_)
 refine wpAny_bind (wpAny_bind (wpAny_setEntries_of (s:={ s with heap:=h1 }) (o:=qj es ep t) ho1 rfl hf (wpAny_pure ?_)))
 unfold setDrawn
 refine wpAny_bind (wpAny_bind (wpAny_setState_of (s:={ s with heap:=h1 }) (o:=qj es ep t) ho1 rfl hf ?_))
 dsimp only
 refine wpAny_bind (zci (wpAny_pure ?_))
 split
 ·rename_i h
  exact absurd h (by show ¬ ((!w.params.followText "set-order" && (!t.plain&&decide (es.size>1)))=true);rw [hp];simp)
 refine wpAny_bind (wpAny_pure ?_)
 unfold setEpoch
 refine wpAny_bind (wpAny_bind (wpAny_setState_of (s:={ s with heap:=h1 }) (o:=qj es ep t) ho1 rfl hf (wpAny_pure ?_)))
 unfold newFields
 refine wpAny_bind (wpAny_newObj_type ?_)
 generalize hI:h1.push { cls:=.type "set_iterator",data:=.fields (List.toArray [rawInt 0,rawInt 0,Value.ref a,rawInt ((es.size:Nat):Int),rawInt ((ep:Nat):Int)]) }=h2
 have ho2:h2.get? a=some (qj es ep t):=by rw [<- hI];exact Heap.get?_push_of_some _ ho1
 have hS2:h2.get? s.heap.objs.size=some { cls:=.type "list",data:=.seq #[] }:=by rw [<- hI];exact Heap.get?_push_of_some _ hS1
 have kp2:∀b o,s.heap.get? b=some o->h2.get? b=some o:=fun b o e=>by rw [<- hI];exact Heap.get?_push_of_some _ (kp1 b o e)
 have hI2:h2.get? h1.objs.size=some (zao 0 0 a es.size ep):=by rw [<- hI];exact Heap.get?_push_size _ rfl
 have hTI:Shared.TypeIs { s with heap:=h2 } (.ref h1.objs.size) "set_iterator":=⟨_,hI2,rfl⟩
 have hT2:Shared.TypeIs { s with heap:=h2 } (.ref a) "set":=⟨_,ho2,rfl⟩
 refine wpAny_pure ⟨_,rfl,"set_iterator",_,hTI,jJ.lookup,?_⟩
 refine wpAny_bind (wpAny_holding ?_)
 unfold Builtin.List.listLengthHint
 refine wpAny_bind (wpAny_specialOf hT2 PySem.F.slot_set_len.lookup ?_)
 dsimp only
 rw [zdf]
 dsimp only
 refine wpAny_bind (wpAny_isInstance (b:=true) hT2 sub_set_self ?_)
 rw [if_neg (by decide)]
 show wpAny _ _ (typeOf (Value.ref a) >>= _) _ _ _
 refine wpAny_bind (wpAny_typeOf hT2 ?_)
 show wpAny _ _ (pure false) _ _ _
 refine wpAny_pure ?_
 show wpAny _ A.in1 (rule "list.extend.makes-room" >>= fun _=>Builtin.List.listTouch (.ref s.heap.objs.size) >>= fun _=>again (.builtin "list.extend.loop" ⟨[.ref s.heap.objs.size,.ref h1.objs.size,.ref s.heap.objs.size],[]⟩)) _ _ _
 refine wpAny_bind (wpAny_rule (wpAny_bind ?_))
 show wpAny _ A.in1 (updateSeq s.heap.objs.size (·.push .none) >>= fun _=>updateSeq s.heap.objs.size (·.pop)) _ _ _
 refine wpAny_bind (wpAny_updateSeq hS2 rfl ?_)
 have hS3:=Heap.get?_update_self (Obj.mapSeq (·.push Value.none)) hS2 rfl
 refine wpAny_updateSeq hS3 rfl ?_
 have hS4:=Heap.get?_update_self (Obj.mapSeq (·.pop)) hS3 rfl
 have oth:∀b o,b≠s.heap.objs.size->h2.get? b=some o->((h2.update s.heap.objs.size (Obj.mapSeq (·.push Value.none))).update s.heap.objs.size (Obj.mapSeq (·.pop))).get? b=some o :=
  fun b o hb e=>(Heap.get?_update_other _ _ (Ne.symm hb)).trans ((Heap.get?_update_other _ _ (Ne.symm hb)).trans e)
 generalize (h2.update s.heap.objs.size (Obj.mapSeq (·.push Value.none))).update s.heap.objs.size (Obj.mapSeq (·.pop))=h4 at hS4 oth
 have hne:a≠h1.objs.size:=by
  rw [z1]
  exact ne_of_lt (lt_succ_of_lt hlt)
 have hSf:s.heap.objs.size ∉ [h1.objs.size,a]:=by
  rw [z1]
  simp only [List.mem_cons,List.not_mem_nil,or_false,not_or]
  exact⟨ne_of_lt (Nat.lt_succ_self _),Nat.ne_of_gt hlt⟩
 have sl0:slotAt (w.params.followText "set-order") t 0=0:=by
  unfold slotAt
  split<;>rfl
 have hos:(JD w a ep es).size=es.size:=by
  rw [<- length_toList,(YM w a ep es).length_eq,length_toList]
 refine wpAny_pure ⟨plainId_quiet PySem.F.plain_extend_loop _,codeAny_extend_loopS ((walks (A:=A.in1) (prog:=prog) (ep:=ep) hh hne G hl hp).toS) (le_trans hn (by rw [sizeLine_eq];decide)) _ hSf _ es.size 0 _ _ _ rfl (zero_le _)
  ⟨by rw [sl0];exact oth _ _ (by rw [z1];exact succ_ne_self _) hI2,oth _ _ (ne_of_lt hlt) ho2⟩ hS4 (ItemsOf.nil _) fun s' acc' c' hm hS' hacc=>?_⟩
 show wpAny _ A (load s.heap.objs.size >>= _) _ _ s'
 refine wpAny_bind (wpAny_load hS' ?_)
 obtain⟨h',g',d',tk',os'⟩:=s'
 have eg:g'=s.gens:=hm.gens
 have ed:d'=s.drawn:=hm.drawn
 have eo:os'=s.os:=hm.os
 subst eg
 subst ed
 subst eo
 refine wpAny_pure (q _ _ _ ?_ (fun b o e=>?_) (Nat.le_of_lt (Heap.lt_size hS')))
 ·have e:acc'.toList=(JD w a ep es).toList.map (·.2):=by
   refine List.ext_getElem? fun i=>?_
   rw [getElem?_toList,getElem?_map,getElem?_toList]
   by_cases hi:i<es.size
   ·have hi':i<acc'.size:=by rw [hacc.1];exact hi
    have e1:acc'[i]?=some acc'[i]:=Array.getElem?_eq_getElem hi'
    rw [e1]
    exact(hacc.2 i _ e1).symm
   ·rw [getElem?_eq_none (by rw [hacc.1];omega),getElem?_eq_none (by omega)]
    rfl
  rw [e]
  exact(YM w a ep es).map _
 ·have hb:b<s.heap.objs.size:=Heap.lt_size e
  refine hm.heap b o (fun z=>?_) (oth b o (ne_of_lt hb) (kp2 b o e))
  rcases List.mem_cons.mp z with z | z
  ·exact lt_irrefl _ (z ▸ hb)
  ·have z':b=h1.objs.size:=by simpa using z
   rw [z',z1] at hb
   exact absurd hb (Nat.not_lt.mpr (le_succ _))
end
end ST
namespace ST
noncomputable def zgj (prog:Program)(w:World)(d:Addr)(ks:List (Addr×(Int×Int))):HO:=.ext fun h=>∃es ep t,h.get? d=some (qj es ep t)/\es.toList=ks.map (zam (hP prog w))/\Good t (es.map (·.1))/\t.led=(!w.params.followText "set-order")/\t.plain=true
section
variable {prog:Program}{w:World}{A:Around}{R:Result->Shared->Prop}{I:Addr}{fp wr:List Addr}{G:Array GenState->Array GenState->Prop}{n:Nat}{P:Nat->Value->Prop}{St:Nat->Shared->Prop}{led:Bool}
theorem zhz {h0:Heap}(W:WalksS prog w A.in1 I fp wr G n P St)(D:Addr)(hDf:D ∉ fp)(hD0:h0.get? D=none)(hw0:∀b∈wr,h0.get? b=none)(ps:List (Int×Int))(hlen:ps.length=n)(hu:A.units+1<cLine)
  (T:Addr->Int×Int->Prop) (hT:∀x p,T x p->zK h0 (.ref x) p) (hP':∀i v,P i v->∃x p,v=.ref x/\ps[i]?=some p/\T x p) (hb:∀p∈ps,InB p) (few:∀l:List (Int×Int),l.Nodup->(∀c∈l,c∈ps)->l.length<=63) :
  ∀(k i:Nat) (s:Shared) (ks:List (Addr×(Int×Int))),n-i=k->i<=n->St i s->(∀b o,h0.get? b=some o->s.heap.get? b=some o)->zaZ (hP prog w) led s.heap D ks->(∀c,c∈ks.map (·.2)↔c∈ps.take i)->(∀q∈ks,T q.1 q.2) ->
   (∀s' ks',Moved (D::wr) G s s'->zaZ (hP prog w) led s'.heap D ks'->(∀c,c∈ks'.map (·.2)↔c∈ps)->(∀q∈ks',T q.1 q.2)->R (.ok (.ret .none)) s') ->
   codeAny (model prog w) A (.builtin "set.update.loop" ⟨[.ref D,.ref I],[]⟩) R s:=by
 have hDw:D ∉ wr:=fun h=>hDf (W.sub _ h)
 have more:∀b∈wr,b∈D::wr:=fun b hb=>mem_cons_of_mem _ hb
 have pair_up:∀{h:Heap} {x:Addr} {p:Int×Int},(∀b o,h0.get? b=some o->h.get? b=some o)->T x p->zK h (.ref x) p:=fun kp hx=>by
  obtain⟨b,o,m,t,u,e,e1,e2,e3⟩:=hT _ _ hx
  exact⟨b,o,m,t,u,e,kp _ _ e1,e2,e3⟩
 have keep_to:∀{s s':Shared},Moved wr G s s'->(∀b o,h0.get? b=some o->s.heap.get? b=some o)->∀b o,h0.get? b=some o->s'.heap.get? b=some o:=fun hm kp b o e =>
  hm.heap b o (fun hb=>by
   rw [hw0 b hb] at e
   cases e) (kp b o e)
 have set_to:∀{s s':Shared} {ks:List (Addr×(Int×Int))},Moved wr G s s'->(∀b o,h0.get? b=some o->s'.heap.get? b=some o)->(∀q∈ks,T q.1 q.2)->zaZ (hP prog w) led s.heap D ks->zaZ (hP prog w) led s'.heap D ks :=
  fun hm kp hk ⟨⟨es,ep,t,e1,e2⟩,e3,_,e5⟩=>⟨⟨es,ep,t,hm.heap D _ hDw e1,e2⟩,e3,fun q hq=>pair_up kp (hk q hq),e5⟩
 intro k
 induction k with
 | zero =>
  intro i s ks hk hi hst kp hS hm' hTk hR
  have hin:i=n:=by omega
  subst hin
  refine codeAny_builtin PyProof.Rows.F.entry_set_update_loop ?_
  rw [Around.under_plainId PyProof.Rows.F.plain_set_update_loop _]
  show wpAny _ A.in1 (pyNext (.ref I) >>= _) _ _ s
  refine wpAny_bind (W.done s _ _ hst fun s' hm=>?_)
  refine wpAny_pure (hR s' ks (hm.mono more) (set_to hm (keep_to hm kp) hTk hS) (fun c=>?_) hTk)
  rw [hm' c,<- hlen,take_length]
 | succ k ih =>
  intro i s ks hk hi hst kp hS hm' hTk hR
  have hlt:i<n:=by omega
  refine codeAny_builtin PyProof.Rows.F.entry_set_update_loop ?_
  rw [Around.under_plainId PyProof.Rows.F.plain_set_update_loop _]
  show wpAny _ A.in1 (pyNext (.ref I) >>= _) _ _ s
  refine wpAny_bind (W.item i s _ _ hlt hst fun v s' hPv hst' hm=>?_)
  obtain⟨x,p,rfl,hq,hx⟩:=hP' i v hPv
  have kp':=keep_to hm kp
  have hS':=set_to hm kp' hTk hS
  have hpm:p∈ps:=mem_of_getElem? hq
  have tk:ps.take (i+1)=ps.take i++[p]:=by
   rw [take_add_one,hq]
   rfl
  refine wpAny_bind (wpAny_holding (zhy (show A.in1.units<cLine from hu) hS' (pair_up kp' hx) (hb p hpm) (fun hno=>?_) fun b h' ks' hs' hS2 hmem zk5=>?_))
  ·have:=few (p::ks.map (·.2)) (List.nodup_cons.mpr ⟨hno,hS'.nd⟩) fun c hc=>by
    rcases List.mem_cons.mp hc with rfl | hc
    ·exact hpm
    ·exact mem_of_mem_take ((hm' c).mp hc)
   rw [length_cons,length_map] at this
   omega
  have kp2:∀b o,h0.get? b=some o->h'.get? b=some o:=fun b o e=>by
   rw [hs'.2 b (fun z=>by
    rw [z,hD0] at e
    cases e)]
   exact kp' b o e
  refine wpAny_pure ⟨plainId_quiet PyProof.Rows.F.plain_set_update_loop _,?_⟩
  refine ih (i+1) _ ks' (by omega) hlt (W.frame _ s' _ _ hst' (le_add_right _ _) fun b hb o e=>?_) kp2 hS2 (fun c=>?_) (fun q hq'=>?_) fun s'' ks'' hm'' hS'' hc'' hT''=>?_
  ·rw [hs'.2 b (fun z=>hDf (by rw [<- z];exact hb))]
   exact e
  ·rw [hmem c,hm' c,tk,List.mem_append,List.mem_singleton]
  ·rcases zk5 q hq' with z | z
   ·exact hTk q z
   ·rw [z]
    exact hx
  ·refine hR s'' ks'' (Moved.trans W.gtrans ((hm.mono more).then_heap (le_add_right _ _) fun b o hb e=>?_) hm'') hS'' hc'' hT''
   rw [hs'.2 b (fun z=>hb (by rw [z];exact mem_cons_self))]
   exact e
end
section
variable {prog:Program}{w:World}{A:Around}{E:Value->Shared->Prop}{s:Shared}
theorem ziR (a:Value){Q₁:Value->Shared->Prop}(h:Q₁ (.ref s.heap.objs.size) { s with heap:=s.heap.push (qj #[] 0 (.fresh 0 0 (!w.params.followText "set-order"))) }) :
  codeAny (model prog w) A (.call (.builtin "set.__new__") ⟨[.type "set",a],[]⟩) (wants Q₁ E) s:=by
 refine codeAny_of_tree ?_
 show wpAny _ A.in1 (do checkBuiltinCall "set.__new__" ⟨[.type "set",a],[]⟩;again (.builtin "set.__new__" ⟨[.type "set",a],[]⟩)) _ _ s
 refine wpAny_bind (wpAny_of_eq (PySem.F.newCall_set_1 a) (wpAny_pure ⟨plainId_quiet PySem.F.plain_set_new _,codeAny_builtin PySem.F.entry_set_new ?_⟩))
 rw [Around.under_plainId PySem.F.plain_set_new _]
 unfold Builtin.«set.__new__» Builtin.Frozenset.newClass
 have hsub:=sub_set_self
 obtain⟨hp,g,d,tk,os⟩:=s
 dsimp only
 wp_walk
 refine wpAny_askSetting (wpAny_pure ?_)
 dsimp only
 simp only [newObj]
 refine wpAny_bind (wpAny_alloc (wpAny_pure ?_))
 exact wpAny_pure h
theorem zeq (led:Bool):Good (.fresh 0 0 led) #[]:=⟨.inl rfl,rfl,rfl,fun i j _ h=>absurd h (by simp [SetTable.fresh]),fun i h=>absurd h (by simp [SetTable.fresh]),by simp [SetTable.fresh],fun i h=>absurd h (by simp [SetTable.fresh])⟩
end
end ST
namespace ST
section
variable {prog:Program}{w:World}{A:Around}{E:Value->Shared->Prop}{s:Shared}
set_option maxHeartbeats 8000000 in
theorem zhA {l:Addr}{its:Array Value}{ps:List (Int×Int)}{T:Addr->Int×Int->Prop}{Q:Value->Shared->Prop}(hh:A.handled=none)(hu:A.units+64<cLine)(hl:s.heap.IsList l its)(hlen:ps.length=its.size)
  (hT:∀x p,T x p->zK s.heap (.ref x) p) (hP':∀(i:Nat) (v:Value),its[i]?=some v->∃x p,v=Value.ref x/\ps[i]?=some p/\T x p) (hb:∀p∈ps,InB p) (few:∀l:List (Int×Int),l.Nodup->(∀c∈l,c∈ps)->l.length<=63)
  (h:∀(h':Heap) (tk:Nat) (ks:List (Addr×(Int×Int))),(∀b o,s.heap.get? b=some o->h'.get? b=some o)->zaZ (hP prog w) (!w.params.followText "set-order") h' s.heap.objs.size ks->(∀c,c∈ks.map (·.2)↔c∈ps)->(∀q∈ks,T q.1 q.2)->Q (.ref s.heap.objs.size) { s with heap:=h',toks:=tk }) :
  wpAny (model prog w) A (call (.type "set") [.ref l]) Q E s:=by
 obtain⟨c,tl,hmro⟩:=PySem.F.called_set.mro
 have hmade:=PySem.F.called_set.made
 have hsub:=PySem.F.called_set.sub
 refine wpAny_call (codeAny_of_tree ?_)
 show wpAny _ _ (callAny (.type "set") _) _ _ _
 refine wpAny_pure ⟨Code.quiet_builtin _ (by decide +kernel),codeAny_builtin PySem.F.entry_type_call ?_⟩
 rw [Around.under_plain (weight_type_call_type "set" [.ref l] []) rfl]
 have h1:=PySem.F.called_set.notType
 have h2:=PySem.F.called_set.canCreate
 have hct:=PySem.F.typeCall_set_1 (.ref l)
 repeat (any_goals (first | assumption | wp_step))
 refine codeAny_mono (ziR (.ref l) (E:=E) (Q₁:=fun obj s₁=>obj=.ref s.heap.objs.size/\s₁={ s with heap:=s.heap.push (qj #[] 0 (.fresh 0 0 (!w.params.followText "set-order"))) }) ⟨rfl,rfl⟩) fun r s₁ hr=>?_
 cases r with
 | error e=>exact hr
 | ok fl =>
  cases fl with
  | ret obj =>
   obtain⟨rfl,rfl⟩:=hr
   generalize hled:(!w.params.followText "set-order")=led at h ⊢
   have hS:(s.heap.push (qj #[] 0 (.fresh 0 0 led))).get? s.heap.objs.size=some (qj #[] 0 (.fresh 0 0 led)):=Heap.get?_push_size _ rfl
   have hTy:Shared.TypeIs { s with heap:=s.heap.push (qj #[] 0 (.fresh 0 0 led)) } (.ref s.heap.objs.size) "set":=⟨_,hS,rfl⟩
   have hli:=PySem.F.called_set.init.lookup
   have hbi:=PySem.F.called_set.init.bind (.ref s.heap.objs.size)
   repeat (any_goals (first | assumption | wp_step))
   refine codeAny_mono (codeAny_call_builtin (R:=wants (fun r s₂=>r=.none/\∃h' tk ks,s₂={ s with heap:=h',toks:=tk }/\zaZ (hP prog w) led h' s.heap.objs.size ks/\(∀c,c∈ks.map (·.2)↔c∈ps)/\(∀q∈ks,T q.1 q.2) /\
     (∀b o,s.heap.get? b=some o->h'.get? b=some o)) E) PySem.F.called_set.init.plain PySem.F.entry_set_init (check_set_init_1 hTy ?_)) fun r₂ s₂ hr₂=>?_
   ·obtain⟨ol,hol,hcl,nl,hdl⟩:=hl
    obtain⟨ocls,odict,odata,oslots⟩:=ol
    simp only at hcl hdl
    subst hcl
    subst hdl
    have hol':(s.heap.push (qj #[] 0 (.fresh 0 0 led))).get? l=some { cls:=.type "list",dict:=odict,data:=.seq its nl,slots:=oslots }:=Heap.get?_push_of_some _ hol
    have hsls:=PySem.F.sub_list_set
    have hslf:=PySem.F.sub_list_frozenset
    have hne:(Value.type "list" == Value.type "dict")=false:=by decide
    have hl1:(s.heap.push (qj #[] 0 (.fresh 0 0 led))).IsList l its:=⟨_,hol',rfl,nl,rfl⟩
    unfold Builtin.«set.__init__» noKeywords Builtin.Frozenset.updateFrom
    unfold qj at hS hTy hol' hl1 ⊢
    generalize hPI:pyIter=PI
    wp_walk
    subst hPI
    refine wpAny_pyIter_list hl1 ?_
    refine wpAny_bind (wpAny_runValue ?_)
    have hlS:l<s.heap.objs.size:=Heap.lt_size hol
    have zS:(s.heap.push (qj #[] 0 (.fresh 0 0 led))).objs.size=s.heap.objs.size+1:=Heap.size_push ..
    have hneI:l≠(s.heap.push (qj #[] 0 (.fresh 0 0 led))).objs.size:=by
     rw [zS]
     exact ne_of_lt (lt_succ_of_lt hlS)
    have hSf:s.heap.objs.size ∉ [(s.heap.push (qj #[] 0 (.fresh 0 0 led))).objs.size,l]:=by
     rw [zS]
     simp only [List.mem_cons,List.not_mem_nil,or_false,not_or]
     exact⟨ne_of_lt (Nat.lt_succ_self _),Nat.ne_of_gt hlS⟩
    refine zhz (h0:=s.heap) (led:=led) ((Walks.list (by simp [hh]) (s.heap.push (qj #[] 0 (.fresh 0 0 led))).objs.size l hneI its).toS) s.heap.objs.size hSf (Heap.get?_none_of_le (le_refl _)) (fun b hb=>?_) ps hlen (by show A.units+1+1+1<cLine;omega) T hT hP' hb few (its.size-0) 0 _ [] rfl (zero_le _)
     ⟨⟨_,Heap.get?_push_size _ rfl,rfl,rfl⟩,(hl1.push _)⟩ (fun b o z=>Heap.get?_push_of_some _ (Heap.get?_push_of_some _ z)) ⟨⟨#[],0,.fresh 0 0 led,Heap.get?_push_of_some _ hS,rfl,(by rw [Array.map_empty];exact zeq led),rfl,rfl⟩,List.nodup_nil,(fun q z=>nomatch z),(fun q z=>nomatch z)⟩ (fun c=>by simp) (fun q z=>nomatch z) ?_
    ·have e:b=(s.heap.push (qj #[] 0 (.fresh 0 0 led))).objs.size:=by simpa using hb
     rw [e,zS]
     exact Heap.get?_none_of_le (le_succ _)
    ·intro s' ks hm hS' hm' hT'
     obtain⟨h',g',d',tk',os'⟩:=s'
     have eg:g'=s.gens:=hm.gens
     have ed:d'=s.drawn:=hm.drawn
     have eo:os'=s.os:=hm.os
     subst eg
     subst ed
     subst eo
     show wpAny _ _ _ _ _ _
     refine wpAny_pure ?_
     show wpAny _ _ (ret Value.none) _ _ _
     refine wpAny_pure ⟨rfl,h',tk',ks,rfl,hS',hm',hT',fun b o e=>?_⟩
     have lt:=Heap.lt_size e
     refine hm.heap b o (fun z=>?_) (Heap.get?_push_of_some _ (Heap.get?_push_of_some _ e))
     rcases List.mem_cons.mp z with z | z
     ·exact lt_irrefl _ (z ▸ lt)
     ·have z':b=(s.heap.push (qj #[] 0 (.fresh 0 0 led))).objs.size:=by simpa using z
      rw [z',zS] at lt
      exact absurd lt (Nat.not_lt.mpr (le_succ _))
   ·cases r₂ with
    | error e=>exact hr₂
    | ok fl₂ =>
     cases fl₂ with
     | ret r =>
      obtain⟨rfl,h',tk,ks,rfl,hS',hm',hT',hk'⟩:=hr₂
      repeat (any_goals (first | assumption | wp_step))
      exact h _ _ _ hk' hS' hm' hT'
     | _=>exact hr₂.elim
  | _=>exact hr.elim
end
end ST
namespace ST
theorem zap {α β:Type}(f:α->β){l l':List β}(h:l.Perm l'):∀ks:List α,l'=ks.map f->∃js:List α,js.Perm ks/\l=js.map f:=by
 induction h with
 | nil=>exact fun ks e=>⟨ks,List.Perm.refl _,e⟩
 | cons x h ih =>
  intro ks e
  cases ks with
  | nil=>simp at e
  | cons k ks =>
   rw [map_cons] at e
   injection e with e1 e2
   obtain⟨js,h1,h2⟩:=ih ks e2
   exact⟨k::js,h1.cons k,by rw [map_cons,e1,h2]⟩
 | swap x y l =>
  intro ks e
  match ks,e with
  | [],e=>simp at e
  | [k],e=>simp at e
  | k1::k2::ks,e =>
   rw [map_cons,map_cons] at e
   injection e with e1 e2
   injection e2 with e2 e3
   exact⟨k2::k1::ks,List.Perm.swap k1 k2 ks,by rw [map_cons,map_cons,e1,e2,e3]⟩
 | trans h1 h2 ih1 ih2 =>
  intro ks e
  obtain⟨js,a,b⟩:=ih2 ks e
  obtain⟨is,c,d⟩:=ih1 js b
  exact⟨is,c.trans a,d⟩
section
variable {X:Cx}
theorem zby (hu:X.A.units+64<cLine)(hh:X.A.handled=none):jn X (.type "set") (fun xs H Q=>∃l us ps,xs=[.ref l]/\SqL X.K H l us/\Jx H us ps/\(∀p∈ps,InB p)/\(∀l:List (Int×Int),l.Nodup->(∀c∈l,c∈ps)->l.length<=63) /\
  ∀d ks,H d=none->(∀q∈ks,H q.1=some (.tup [.int q.2.1,.int q.2.2]))->(ks.map (·.2)).Nodup->(∀c,c∈ks.map (·.2)↔c∈ps)->Q (.ref d) (upd H d (zgj X.prog X.w d ks))):=by
 intro pins s σ H xs us' Q I r h
 obtain⟨l,us,ps,rfl,hq,ht,hb,few,q⟩:=h
 obtain⟨u,rfl,ru⟩:=vals1 r
 cases ru
 obtain⟨its,rv,pl,hz⟩:=I.list hq
 have hp:=Jx.pairs I ht rv
 have hlp:its.length=ps.length:=Paired.length hp
 have tw:∀{us:List V} {ps:List (Int×Int)} {its:List Value},Jx H us ps->Vals us its->∀(i:Nat) (v:Value),its[i]?=some v->∃x p,v=Value.ref x/\ps[i]?=some p/\H x=some (.tup [.int p.1,.int p.2]):=by
  intro us ps its h1
  induction h1 generalizing its with
  | nil =>
   intro r i v e
   cases r
   simp at e
  | cons a t ih =>
   intro r i v e
   obtain⟨x,rfl,hx⟩:=a
   cases r with
   | cons r1 r2 =>
    cases r1
    cases i with
    | zero =>
     simp at e
     exact⟨x,_,e.symm,rfl,hx⟩
    | succ i =>
     obtain⟨y,p,h1,h2,h3⟩:=ih r2 i v (by simpa using e)
     exact⟨y,p,h1,by simpa using h2,h3⟩
 refine zhA (T:=fun x p=>H x=some (.tup [.int p.1,.int p.2])) hh hu pl.isList (by simp [hlp]) (fun x p hx=>?_) (fun i v e=>tw ht rv i v (by simpa using e)) hb few fun h' tk ks kk hS hm hT=>?_
 ·obtain⟨items,rv',tp,_⟩:=I.tuple (SqT.of hx)
  obtain⟨u1,u2,rfl,⟨t1,rfl⟩,⟨t2,rfl⟩⟩:=vals2 rv'
  obtain⟨ob,e1,c1,n,d1⟩:=tp
  exact⟨x,ob,n,t1,t2,rfl,e1,c1,d1⟩
 ·have hD:H s.heap.objs.size=none:=I.hok.fresh (le_refl _)
  obtain⟨es,ep,t,ho,rest⟩:=hS.ex
  refine⟨.ref s.heap.objs.size,upd H s.heap.objs.size (zgj X.prog X.w s.heap.objs.size ks),I.laid (t':=tk) kk (le_refl _) ⟨⟨es,ep,t,ho,rest⟩,⟨_,ho⟩,fun h1 h2 ⟨es,ep,t,ho,rest⟩ k=>⟨es,ep,t,k _ ho,rest⟩⟩,rfl,q _ _ hD hT hS.nd hm⟩
end
end ST
namespace GS
section
variable {prog:Program}{w:World}{A:Around}{E:Value->Shared->Prop}{s:Shared}{rk:Keyed->Int}{κ:SortKind}{a0:Array Keyed}
def Rk (rk:Keyed->Int)(xs:Array Keyed)(i:Nat):Int:=match xs[i]? with
 | some p=>rk p
 | none=>0
theorem xM {xs ys:Array Keyed}{i j:Nat}(h:xs[i]?=ys[j]?):Rk rk xs i=Rk rk ys j:=by
 unfold Rk
 rw [h]
def Up (rk:Keyed->Int)(xs:Array Keyed)(lo hi:Nat):Prop:=∀i j,lo<=i->i<=j->j<hi->Rk rk xs i<=Rk rk xs j
def Tells (prog:Program)(w:World)(A:Around)(s:Shared)(κ:SortKind)(rk:Keyed->Int)(a0:Array Keyed):Prop :=
 ∀x∈a0.toList,∀y∈a0.toList,∀C:Bool->Shared->Prop,C (decide (rk x<rk y)) s->wpAny (model prog w) A (keyLt' κ x.1 y.1) C (fun _ _=>False) s
structure Ok (κ:SortKind)(a0:Array Keyed)(st:SortSt):Prop where
 perm:(arrOf st).Perm a0
 kind:kindOf st=κ
 good:failedOf st=none
theorem Ok.size {st:SortSt}(h:Ok κ a0 st):(arrOf st).size=a0.size:=h.perm.size_eq
theorem Ok.at {st:SortSt}(h:Ok κ a0 st){i:Nat}(hi:i<a0.size):∃x,(arrOf st)[i]?=some x/\x∈a0.toList/\Rk rk (arrOf st) i=rk x:=by
 have hi':i<(arrOf st).size:=by rw [h.size];exact hi
 have e:(arrOf st)[i]?=some (arrOf st)[i]:=getElem?_pos _ i hi'
 refine⟨(arrOf st)[i],e,(Array.perm_iff_toList_perm.mp h.perm).mem_iff.mp (by simp),?_⟩
 unfold Rk
 rw [e]
theorem zhB {st:SortSt}{x y:Keyed}{Q:Option Bool->SortSt->Prop}(T:Tells prog w A s κ rk a0)(hk:kindOf st=κ)(hx:x∈a0.toList)(hy:y∈a0.toList)(h:Q (some (decide (rk x<rk y))) st):wpS (model prog w) A E s (lt' x y) Q st:=by
 rw [lt'_eq]
 refine wpS_bind (wpS_get ?_)
 rw [hk]
 refine wpS_bind (wpS_lift (wpAny_attempt (wpAny_mono (T x hx y hy (fun b s'=>s'=s/\b=decide (rk x<rk y)) ⟨rfl,rfl⟩) (fun b s' hb=>⟨hb.1,?_⟩) fun _ _ hF=>hF.elim)))
 rw [hb.2]
 exact wpS_pure h
theorem qF {st:SortSt}{xs:Array Keyed}{i:Nat}{x:Keyed}{Q:Keyed->SortSt->Prop}(e:xs[i]?=some x)(h:Q x st):wpS (model prog w) A E s (elem' xs i) Q st:=by
 rw [elem'_eq,e]
 exact wpS_pure h
theorem zaq {st:SortSt}{i j:Nat}{Q:Option Bool->SortSt->Prop}(T:Tells prog w A s κ rk a0)(O:Ok κ a0 st)(hi:i<a0.size)(hj:j<a0.size)(h:Q (some (decide (Rk rk (arrOf st) i<Rk rk (arrOf st) j))) st):wpS (model prog w) A E s (ltAt' i j) Q st:=by
 obtain⟨x,e1,m1,r1⟩:=O.at (rk:=rk) hi
 obtain⟨y,e2,m2,r2⟩:=O.at (rk:=rk) hj
 rw [r1,r2] at h
 rw [ltAt'_eq]
 refine wpS_bind (wpS_get ?_)
 exact wpS_bind (qF e1 (wpS_bind (qF e2 (zhB T O.kind m1 m2 h))))
structure Step (κ:SortKind)(a0:Array Keyed)(lo:Nat)(st st':SortSt):Prop where
 ok:Ok κ a0 st'
 pend:pendingOf st'=pendingOf st
 low:∀i:Nat,i<lo->(arrOf st')[i]?=(arrOf st)[i]?
theorem Step.refl {lo:Nat}{st:SortSt}(O:Ok κ a0 st):Step κ a0 lo st st:=⟨O,rfl,fun _ _=>rfl⟩
theorem Qf {xs:Array Keyed}{i j:Nat}(hj:j<=xs.size)(k:Nat):Rk rk (mirror xs i j ((j-i)/2)) k=if i<=k/\k<j then Rk rk xs (i+j-1-k) else Rk rk xs k:=by
 have e:=getElem?_mirror_all (i:=i) hj k
 by_cases h1:i<=k/\k<j
 ·rw [if_pos h1] at e ⊢
  exact xM e
 ·rw [if_neg h1] at e ⊢
  exact xM e
theorem ju {xs:Array Keyed}{i j:Nat}(hj:j<=xs.size)(heq:∀k,i<=k->k<j->Rk rk xs k=Rk rk xs (j-1))(k:Nat):Rk rk (mirror xs i j ((j-i)/2)) k=Rk rk xs k:=by
 rw [Qf hj]
 split
 ·rw [heq _ (by omega) (by omega),heq k (by omega) (by omega)]
 ·rfl
theorem Step.mirror {lo i j:Nat}{st st':SortSt}(x:Step κ a0 lo st st')(hi:lo<=i)(hj:j<=a0.size):Step κ a0 lo st (setArr st' (mirror (arrOf st') i j ((j-i)/2))):=by
 refine⟨⟨(mirror_perm _ _ _ _).trans x.ok.perm,x.ok.kind,x.ok.good⟩,x.pend,fun k hk=>?_⟩
 show (PyProof.Rows.mirror (arrOf st') i j ((j-i)/2))[k]?=_
 rw [getElem?_mirror_all (by rw [x.ok.size];exact hj),if_neg (by omega)]
 exact x.low k hk
theorem zfk {st:SortSt}{i j:Nat}{Q:Unit->SortSt->Prop}(h:Q () (setArr st (mirror (arrOf st) i j ((j-i)/2)))):wpS (model prog w) A E s (reverseSlice' i j) Q st:=by
 rw [reverseSlice'_eq]
 exact wpS_modify h
noncomputable def up1 (lo a nrem:Nat):StateT SortSt Sem AscSt :=
 forIn [a:nrem] ((none,a):AscSt) fun _ c=>do
  let x <- ltAt' (lo+c.snd) (lo+c.snd-1)
  match x with
  | some b=>if b=true then pure (ForInStep.done (none,c.snd)) else pure (ForInStep.yield (none,c.snd+1))
  | _=>pure (ForInStep.done (some none,c.snd))
noncomputable def zhC (lo n nrem:Nat):StateT SortSt Sem (Option Nat):=do
 reverseSlice' lo (lo+n)
 let c <- up1 lo n nrem
 match c.fst with
 | some r=>pure r
 | none=>pure (some c.snd)
noncomputable def zfl (lo n nrem:Nat):StateT SortSt Sem DescSt :=
 forIn [n:nrem] ((none,n,0):DescSt) fun _ c=>do
  let x <- ltAt' (lo+c.snd.fst) (lo+c.snd.fst-1)
  match x with
  | some b =>
   if b=true then
    if c.snd.snd>0 then do
     reverseSlice' (lo+c.snd.fst-(c.snd.snd+1)) (lo+c.snd.fst)
     pure (ForInStep.yield (none,c.snd.fst+1,0))
    else pure (ForInStep.yield (none,c.snd.fst+1,0))
   else do
    let x <- ltAt' (lo+c.snd.fst-1) (lo+c.snd.fst)
    match x with
    | some b =>
     if b=true then pure (ForInStep.done (none,c.snd.fst,c.snd.snd))
     else pure (ForInStep.yield (none,c.snd.fst+1,c.snd.snd+1))
    | _=>pure (ForInStep.done (some none,c.snd.fst,c.snd.snd))
  | _=>pure (ForInStep.done (some none,c.snd.fst,c.snd.snd))
noncomputable def part2 (lo n nrem:Nat):StateT SortSt Sem (Option Nat):=do
 liftM (rule "list.sort.descending-run")
 let c <- zfl lo (n+1) nrem
 match c.fst with
 | some r=>pure r
 | none =>
  if c.snd.snd>0 then do
   reverseSlice' (lo+c.snd.fst-(c.snd.snd+1)) (lo+c.snd.fst)
   zhC lo c.snd.fst nrem
  else zhC lo c.snd.fst nrem
theorem run_eq (lo nrem:Nat):countRun' lo nrem=(do
  let c <- up1 lo 1 nrem
  match c.fst with
  | some r=>pure r
  | none =>
   if (c.snd==nrem)=true then pure (some c.snd)
   else if c.snd>1 then do
    let x <- ltAt' lo (lo+c.snd-1)
    match x with
    | some b=>if b=true then pure (some c.snd) else do
      reverseSlice' lo (lo+c.snd)
      part2 lo c.snd nrem
    | _=>pure none
   else part2 lo c.snd nrem):=by
 rw [countRun'_eq]
 unfold part2 zhC zfl up1
 refine bind_congr fun c=>?_
 obtain⟨r,n⟩:=c
 cases r with
 | some r=>rfl
 | none =>
  dsimp only
  split
  ·rfl
  ·split
   ·refine bind_congr fun x=>?_
    cases x with
    | none=>rfl
    | some b =>
     dsimp only
     split
     ·rfl
     ·refine bind_congr fun _=>bind_congr fun _=>bind_congr fun c2=>?_
      obtain⟨r2,n2,q2⟩:=c2
      cases r2 with
      | some r2=>rfl
      | none =>
       dsimp only
       split
       ·refine bind_congr fun _=>bind_congr fun _=>bind_congr fun c3=>?_
        obtain⟨r3,n3⟩:=c3
        cases r3<;>rfl
       ·refine bind_congr fun _=>bind_congr fun c3=>?_
        obtain⟨r3,n3⟩:=c3
        cases r3<;>rfl
   ·refine bind_congr fun _=>bind_congr fun c2=>?_
    obtain⟨r2,n2,q2⟩:=c2
    cases r2 with
    | some r2=>rfl
    | none =>
     dsimp only
     split
     ·refine bind_congr fun _=>bind_congr fun _=>bind_congr fun c3=>?_
      obtain⟨r3,n3⟩:=c3
      cases r3<;>rfl
     ·refine bind_congr fun _=>bind_congr fun c3=>?_
      obtain⟨r3,n3⟩:=c3
      cases r3<;>rfl
end
end GS
namespace GS
section
variable {prog:Program}{w:World}{A:Around}{E:Value->Shared->Prop}{s:Shared}{rk:Keyed->Int}{κ:SortKind}{a0:Array Keyed}
def Down (rk:Keyed->Int)(xs:Array Keyed)(lo n:Nat):Prop:=∀i j,i<=j->j<n->Rk rk xs (lo+j)<=Rk rk xs (lo+i)
theorem zjr {st:SortSt}{lo a nrem:Nat}{Q:AscSt->SortSt->Prop}(T:Tells prog w A s κ rk a0)(O:Ok κ a0 st)(hn:lo+nrem<=a0.size)(ha:1<=a)(han:a<=nrem)(hs:Up rk (arrOf st) lo (lo+a))
  (h:∀n,a<=n->n<=nrem->Up rk (arrOf st) lo (lo+n)->(n=nrem\/Rk rk (arrOf st) (lo+n)<Rk rk (arrOf st) (lo+n-1))->Q (none,n) st):wpS (model prog w) A E s (up1 lo a nrem) Q st:=by
 unfold up1
 refine wpS_forRange (I:=fun x c st'=>st'=st/\c=(none,x)/\Up rk (arrOf st) lo (lo+x)) ?step ?fin ⟨rfl,rfl,hs⟩
 case fin =>
  rintro c st' ⟨rfl,rfl,hs'⟩
  rw [show max a nrem=nrem by omega] at hs' ⊢
  exact h nrem han (le_refl _) hs' (.inl rfl)
 case step =>
  rintro x c st' hax hxn ⟨rfl,rfl,hs'⟩
  dsimp only
  refine wpS_bind (zaq T O (by omega) (by omega) ?_)
  by_cases hless:Rk rk (arrOf st') (lo+x)<Rk rk (arrOf st') (lo+x-1)
  ·simp only [hless,decide_true,if_true]
   exact wpS_pure (h x hax (by omega) hs' (.inr hless))
  ·simp only [hless,decide_false,false_eq_true,if_false]
   refine wpS_pure ⟨rfl,rfl,fun i j hi hij hj=>?_⟩
   by_cases hjx:j<lo+x
   ·exact hs' i j hi hij hjx
   ·obtain rfl:j=lo+x:=by omega
    by_cases hi':i=lo+x
    ·subst hi'
     exact Int.le_refl _
    ·exact Int.le_trans (hs' i (lo+x-1) hi (by omega) (by omega)) (Int.not_lt.mp hless)
theorem zhD {st0 st:SortSt}{lo n nrem:Nat}{Q:Option Nat->SortSt->Prop}(T:Tells prog w A s κ rk a0)(S:Step κ a0 lo st0 st)(hn:lo+nrem<=a0.size)(h1:1<=n)(hnn:n<=nrem)(hs:Down rk (arrOf st) lo n)
  (h:∀m st',Step κ a0 lo st0 st'->1<=m->m<=nrem->Up rk (arrOf st') lo (lo+m)->Q (some m) st'):wpS (model prog w) A E s (zhC lo n nrem) Q st:=by
 unfold zhC
 refine wpS_bind (zfk ?_)
 have S':=S.mirror (i:=lo) (j:=lo+n) (le_refl _) (by omega)
 refine wpS_bind (zjr T S'.ok hn h1 hnn ?_ fun m hm1 hm2 hsm _=>wpS_pure (h m _ S' (by omega) hm2 hsm))
 intro i j hi hij hj
 have hsz:lo+n<=(arrOf st).size:=by
  rw [S.ok.size]
  omega
 show Rk rk (mirror (arrOf st) lo (lo+n) ((lo+n-lo)/2)) i<=Rk rk (mirror (arrOf st) lo (lo+n) ((lo+n-lo)/2)) j
 rw [Qf hsz,Qf hsz,if_pos (by omega),if_pos (by omega)]
 have:=hs (lo+n-1-j) (lo+n-1-i) (by omega) (by omega)
 rw [show lo+(lo+n-1-j)=lo+(lo+n)-1-j by omega,show lo+(lo+n-1-i)=lo+(lo+n)-1-i by omega] at this
 exact this
theorem ziS {st0 st:SortSt}{lo n nrem:Nat}{Q:DescSt->SortSt->Prop}(T:Tells prog w A s κ rk a0)(S:Step κ a0 lo st0 st)(hn:lo+nrem<=a0.size)(h1:1<=n)(hnn:n<=nrem)(hs:Down rk (arrOf st) lo n)
  (h:∀m q st',Step κ a0 lo st0 st'->n<=m->m<=nrem->Down rk (arrOf st') lo m->q+1<=m->(∀i,m-(q+1)<=i->i<m->Rk rk (arrOf st') (lo+i)=Rk rk (arrOf st') (lo+(m-1)))->Q (none,m,q) st'):wpS (model prog w) A E s (zfl lo n nrem) Q st:=by
 unfold zfl
 refine wpS_forRange (I:=fun x c st'=>∃q,c=(none,x,q)/\Step κ a0 lo st0 st'/\Down rk (arrOf st') lo x/\q+1<=x /\
   (∀i,x-(q+1)<=i->i<x->Rk rk (arrOf st') (lo+i)=Rk rk (arrOf st') (lo+(x-1)))) ?step ?fin ⟨0,rfl,S,hs,by omega,fun i h1 h2=>by congr 1;omega⟩
 case fin =>
  rintro c st' ⟨q,rfl,S',hs',hq,he⟩
  rw [show max n nrem=nrem by omega] at hs' hq he ⊢
  exact h nrem q st' S' hnn (le_refl _) hs' hq he
 case step =>
  rintro x c st' hax hxn ⟨q,rfl,S',hs',hq,he⟩
  dsimp only
  have hsz:lo+x<=(arrOf st').size:=by
   rw [S'.ok.size]
   omega
  refine wpS_bind (zaq T S'.ok (by omega) (by omega) ?_)
  by_cases hless:Rk rk (arrOf st') (lo+x)<Rk rk (arrOf st') (lo+x-1)
  ·simp only [hless,decide_true,if_true]
   have step1:∀xs:Array Keyed,(∀k,Rk rk xs k=Rk rk (arrOf st') k)->Down rk xs lo (x+1):=by
    intro xs hk i j hij hj
    rw [hk,hk]
    by_cases hjx:j<x
    ·exact hs' i j hij hjx
    ·obtain rfl:j=x:=by omega
     by_cases hi':i=j
     ·subst hi'
      exact Int.le_refl _
     ·have a1:=hs' i (j-1) (by omega) (by omega)
      rw [show lo+(j-1)=lo+j-1 by omega] at a1
      exact Int.le_trans (le_of_lt hless) a1
   by_cases hq0:q>0
   ·rw [if_pos hq0]
    refine wpS_bind (zfk (wpS_pure ⟨0,rfl,S'.mirror (by omega) (by omega),step1 _ (ju hsz fun k k1 k2=>?_),by omega,fun i h1 h2=>by congr 1;omega⟩))
    have a1:=he (k-lo) (by omega) (by omega)
    rw [show lo+(k-lo)=k by omega,show lo+(x-1)=lo+x-1 by omega] at a1
    exact a1
   ·rw [if_neg hq0]
    exact wpS_pure ⟨0,rfl,S',step1 _ (fun _=>rfl),by omega,fun i h1 h2=>by congr 1;omega⟩
  ·simp only [hless,decide_false,false_eq_true,if_false]
   refine wpS_bind (zaq T S'.ok (by omega) (by omega) ?_)
   by_cases hmore:Rk rk (arrOf st') (lo+x-1)<Rk rk (arrOf st') (lo+x)
   ·simp only [hmore,decide_true,if_true]
    exact wpS_pure (h x q st' S' hax (by omega) hs' hq he)
   ·simp only [hmore,decide_false,false_eq_true,if_false]
    have heqx:Rk rk (arrOf st') (lo+x)=Rk rk (arrOf st') (lo+(x-1)):=by
     rw [show lo+(x-1)=lo+x-1 by omega]
     omega
    refine wpS_pure ⟨q+1,rfl,S',fun i j hij hj=>?_,by omega,fun i h1 h2=>?_⟩
    ·by_cases hjx:j<x
     ·exact hs' i j hij hjx
     ·obtain rfl:j=x:=by omega
      by_cases hi':i=j
      ·subst hi'
       exact Int.le_refl _
      ·rw [heqx]
       exact hs' i (j-1) (by omega) (by omega)
    ·rw [show x+1-1=x by omega]
     by_cases hix:i=x
     ·subst hix
      rfl
     ·rw [heqx]
      exact he i (by omega) (by omega)
theorem zfm {st0 st:SortSt}{lo n nrem:Nat}{Q:Option Nat->SortSt->Prop}(T:Tells prog w A s κ rk a0)(S:Step κ a0 lo st0 st)(hn:lo+nrem<=a0.size)(hnn:n+1<=nrem)(hs:Down rk (arrOf st) lo (n+1))
  (h:∀m st',Step κ a0 lo st0 st'->1<=m->m<=nrem->Up rk (arrOf st') lo (lo+m)->Q (some m) st'):wpS (model prog w) A E s (part2 lo n nrem) Q st:=by
 unfold part2
 refine wpS_bind (wpS_lift (wpAny_rule ⟨rfl,?_⟩))
 refine wpS_bind (ziS T S hn (by omega) hnn hs fun m q st' S' hm1 hm2 hs' hq he=>?_)
 dsimp only
 have hsz:lo+m<=(arrOf st').size:=by
  rw [S'.ok.size]
  omega
 by_cases hq0:q>0
 ·rw [if_pos hq0]
  refine wpS_bind (zfk (zhD T (S'.mirror (by omega) (by omega)) hn (by omega) hm2 ?_ h))
  intro i j hij hj
  show Rk rk (mirror (arrOf st') _ _ _) (lo+j)<=Rk rk (mirror (arrOf st') _ _ _) (lo+i)
  have same:∀k,lo+m-(q+1)<=k->k<lo+m->Rk rk (arrOf st') k=Rk rk (arrOf st') (lo+m-1):=fun k k1 k2=>by
   have a1:=he (k-lo) (by omega) (by omega)
   rw [show lo+(k-lo)=k by omega,show lo+(m-1)=lo+m-1 by omega] at a1
   exact a1
  rw [ju hsz same,ju hsz same]
  exact hs' i j hij hj
 ·rw [if_neg hq0]
  exact zhD T S' hn (by omega) hm2 hs' h
theorem zk6 {st:SortSt}{lo nrem:Nat}{Q:Option Nat->SortSt->Prop}(T:Tells prog w A s κ rk a0)(O:Ok κ a0 st)(hn:lo+nrem<=a0.size)(h1:1<=nrem)
  (h:∀m st',Step κ a0 lo st st'->1<=m->m<=nrem->Up rk (arrOf st') lo (lo+m)->Q (some m) st'):wpS (model prog w) A E s (countRun' lo nrem) Q st:=by
 have S:=Step.refl (lo:=lo) O
 rw [run_eq]
 refine wpS_bind (zjr T O hn (le_refl 1) h1 (fun i j hi hij hj=>by
  obtain rfl:i=j:=by omega
  exact Int.le_refl _) fun n hn1 hn2 hsn hor=>?_)
 dsimp only
 by_cases hnn:n=nrem
 ·rw [if_pos (by simpa using hnn)]
  exact wpS_pure (h n st S hn1 hn2 hsn)
 ·rw [if_neg (by simpa using hnn)]
  have hlt:Rk rk (arrOf st) (lo+n)<Rk rk (arrOf st) (lo+n-1):=hor.resolve_left hnn
  have hsz:lo+n<=(arrOf st).size:=by
   rw [O.size]
   omega
  by_cases hgt:n>1
  ·rw [if_pos hgt]
   refine wpS_bind (zaq T O (by omega) (by omega) ?_)
   by_cases hrose:Rk rk (arrOf st) lo<Rk rk (arrOf st) (lo+n-1)
   ·simp only [hrose,decide_true,if_true]
    exact wpS_pure (h n st S hn1 hn2 hsn)
   ·simp only [hrose,decide_false,false_eq_true,if_false]
    have hall:∀k,lo<=k->k<lo+n->Rk rk (arrOf st) k=Rk rk (arrOf st) (lo+n-1):=by
     intro k k1 k2
     have a1:=hsn lo k (le_refl _) k1 k2
     have a2:=hsn k (lo+n-1) k1 (by omega) (by omega)
     omega
    refine wpS_bind (zfk (zfm T (S.mirror (le_refl _) (by omega)) hn (by omega) ?_ h))
    intro i j hij hj
    show Rk rk (mirror (arrOf st) _ _ _) (lo+j)<=Rk rk (mirror (arrOf st) _ _ _) (lo+i)
    rw [ju hsz hall,ju hsz hall]
    by_cases hjn:j<n
    ·rw [hall (lo+i) (by omega) (by omega),hall (lo+j) (by omega) (by omega)]
     exact Int.le_refl _
    ·obtain rfl:j=n:=by omega
     by_cases hi':i=j
     ·subst hi'
      exact Int.le_refl _
     ·rw [hall (lo+i) (by omega) (by omega)]
      exact le_of_lt hlt
  ·rw [if_neg hgt]
   obtain rfl:n=1:=by omega
   refine zfm T S hn (by omega) ?_ h
   intro i j hij hj
   by_cases hi':i=j
   ·subst hi'
    exact Int.le_refl _
   ·obtain rfl:i=0:=by omega
    obtain rfl:j=1:=by omega
    rw [Nat.add_sub_cancel] at hlt
    exact le_of_lt hlt
theorem zbz {xs:Array Keyed}{src d:Nat}(hs:src<xs.size)(hd:d<=src)(k:Nat):Rk rk (bubble xs src d) k=if k=src-d then Rk rk xs src else if src-d<k/\k<=src then Rk rk xs (k-1) else Rk rk xs k:=by
 have e:=getElem?_bubble hs d hd k
 by_cases h1:k=src-d
 ·rw [if_pos h1] at e ⊢
  exact xM e
 ·rw [if_neg h1] at e ⊢
  by_cases h2:src-d<k/\k<=src
  ·rw [if_pos h2] at e ⊢
   exact xM e
  ·rw [if_neg h2] at e ⊢
   exact xM e
theorem zk7 {st:SortSt}{lo n ok:Nat}{Q:Bool->SortSt->Prop}(T:Tells prog w A s κ rk a0)(O:Ok κ a0 st)(hn:lo+n<=a0.size)(hok:ok<=n)(hs:Up rk (arrOf st) lo (lo+ok))
  (h:∀st',Step κ a0 lo st st'->Up rk (arrOf st') lo (lo+n)->Q true st'):wpS (model prog w) A E s (binarySort' lo n ok) Q st:=by
 rw [binarySort'_eq]
 refine wpS_bind (wpS_mono (wpS_forRange (I:=fun k c st'=>c=(none,())/\Step κ a0 lo st st'/\Up rk (arrOf st') lo (lo+min k n))
  (Q:=fun c st'=>c=(none,())/\Step κ a0 lo st st'/\Up rk (arrOf st') lo (lo+n)) ?step ?fin ?init) ?post)
 case post =>
  rintro c st' ⟨rfl,S',hs'⟩
  exact wpS_pure (h st' S' hs')
 case init =>
  refine⟨rfl,Step.refl O,fun i j hi hij hj=>?_⟩
  by_cases h1:ok=0
  ·obtain rfl:i=j:=by omega
   exact Int.le_refl _
  ·exact hs i j hi hij (by omega)
 case fin =>
  rintro c st' ⟨hc,S',hs'⟩
  refine⟨hc,S',?_⟩
  rwa [show min (max (max ok 1) n) n=n by omega] at hs'
 case step =>
  rintro k c st' hak hkn ⟨rfl,S',hs'⟩
  rw [show min k n=k by omega] at hs'
  have O':=S'.ok
  have hk:lo+k<a0.size:=by omega
  refine wpS_bind (wpS_mono (wpS_forRange (I:=fun x c st''=>st''=st'/\∃l r,c=(none,l,r)/\l<=r/\r<=k/\r-l<=k-x /\
    (∀i,i<l->Rk rk (arrOf st') (lo+i)<=Rk rk (arrOf st') (lo+k))/\(∀i,r<=i->i<k->Rk rk (arrOf st') (lo+k)<Rk rk (arrOf st') (lo+i)))
   (Q:=fun c st''=>st''=st'/\∃l r,c=(none,l,r)/\l<=k /\
    (∀i,i<l->Rk rk (arrOf st') (lo+i)<=Rk rk (arrOf st') (lo+k))/\(∀i,l<=i->i<k->Rk rk (arrOf st') (lo+k)<Rk rk (arrOf st') (lo+i))) ?istep ?ifin ?iinit) ?ipost)
  case iinit=>exact⟨rfl,0,k,rfl,by omega,by omega,by omega,fun i hi=>by omega,fun i h1 h2=>by omega⟩
  case ifin =>
   rintro c st'' ⟨rfl,l,r,rfl,hlr,hrk,hm,hlo,hhi⟩
   obtain rfl:l=r:=by omega
   exact⟨rfl,l,l,rfl,hrk,hlo,hhi⟩
  case istep =>
   rintro x c st'' _ hxk ⟨rfl,l,r,rfl,hlr,hrk,hm,hlo,hhi⟩
   dsimp only
   by_cases hge:l >= r
   ·rw [if_pos hge]
    obtain rfl:l=r:=by omega
    exact wpS_pure ⟨rfl,l,l,rfl,hrk,hlo,hhi⟩
   ·rw [if_neg hge]
    refine wpS_bind (zaq T O' hk (by omega) ?_)
    by_cases hless:Rk rk (arrOf st'') (lo+k)<Rk rk (arrOf st'') (lo+(l+r)/2)
    ·simp only [hless,decide_true,if_true]
     refine wpS_pure ⟨rfl,l,(l+r)/2,rfl,by omega,by omega,by omega,hlo,fun i h1 h2=>?_⟩
     exact Int.lt_of_lt_of_le hless (hs' _ _ (by omega) (by omega) (by omega))
    ·simp only [hless,decide_false,false_eq_true,if_false]
     refine wpS_pure ⟨rfl,(l+r)/2+1,r,rfl,by omega,by omega,by omega,fun i h1=>?_,hhi⟩
     exact Int.le_trans (hs' (lo+i) (lo+(l+r)/2) (by omega) (by omega) (by omega)) (Int.not_lt.mp hless)
  case ipost =>
   rintro c st'' ⟨rfl,l,r,rfl,hlk,hlo,hhi⟩
   show wpS _ _ _ _ (do moveDown' (lo+k) (lo+l);pure (ForInStep.yield (none,()))) _ _
   rw [moveDown'_eq]
   have hks:lo+k<(arrOf st'').size:=by
    rw [O'.size]
    exact hk
   refine wpS_bind (wpS_modify (wpS_pure ⟨rfl,⟨⟨(bubble_perm _ _ _).trans O'.perm,O'.kind,O'.good⟩,S'.pend,fun i hi=>?_⟩,?_⟩))
   ·show (bubble (arrOf st'') (lo+k) (lo+k-(lo+l)))[i]?=_
    rw [getElem?_bubble hks _ (by omega),if_neg (by omega),if_neg (by omega)]
    exact S'.low i hi
   ·rw [show min (k+1) n=k+1 by omega]
    intro i j hi hij hj
    show Rk rk (bubble (arrOf st'') (lo+k) (lo+k-(lo+l))) i<=Rk rk (bubble (arrOf st'') (lo+k) (lo+k-(lo+l))) j
    rw [zbz hks (by omega),zbz hks (by omega),show lo+k-(lo+k-(lo+l))=lo+l by omega]
    have up:∀a b,lo<=a->a<=b->b<lo+k->Rk rk (arrOf st'') a<=Rk rk (arrOf st'') b:=hs'
    have low:∀a,lo<=a->a<lo+l->Rk rk (arrOf st'') a<=Rk rk (arrOf st'') (lo+k):=fun a a1 a2=>by
     have:=hlo (a-lo) (by omega)
     rwa [show lo+(a-lo)=a by omega] at this
    have high:∀a,lo+l<=a->a<lo+k->Rk rk (arrOf st'') (lo+k)<Rk rk (arrOf st'') a:=fun a a1 a2=>by
     have:=hhi (a-lo) (by omega) (by omega)
     rwa [show lo+(a-lo)=a by omega] at this
    repeat' split
    all_goals first
     | (exfalso;omega)
     | exact Int.le_refl _
     | exact low _ (by omega) (by omega)
     | exact le_of_lt (high _ (by omega) (by omega))
     | exact up _ _ (by omega) (by omega) (by omega)
end
end GS
namespace GS
noncomputable def gallop':Bool->Keyed->Array Keyed->Nat->Nat->Nat->StateT SortSt Sem (Option Nat):=sortPriv% PySem.Builtin.gallop
noncomputable def mergeLo':Array Keyed->Array Keyed->StateT SortSt Sem (Array Keyed):=sortPriv% PySem.Builtin.mergeLo
noncomputable def mergeHi':Array Keyed->Array Keyed->StateT SortSt Sem (Array Keyed):=sortPriv% PySem.Builtin.mergeHi
section
variable {prog:Program}{w:World}{A:Around}{E:Value->Shared->Prop}{s:Shared}{rk:Keyed->Int}{κ:SortKind}{a0:Array Keyed}
def bey (rk:Keyed->Int)(left:Bool)(key x:Keyed):Bool:=if left then decide (rk x<rk key) else !decide (rk key<rk x)
theorem zdh {st:SortSt}{left:Bool}{key:Keyed}{arr:Array Keyed}{base n hint:Nat}{Q:Option Nat->SortSt->Prop}(T:Tells prog w A s κ rk a0)(hk:kindOf st=κ)(hkey:key∈a0.toList)(b:Nat->Bool)
  (he:∀i,i<n->∃x,arr[base+i]?=some x/\x∈a0.toList/\b i=bey rk left key x) (mono:∀i j,i<=j->j<n->b j=true->b i=true) (hh:hint<n)
  (h:∀k,k<=n->(∀i,i<k->b i=true)->(∀i,k<=i->i<n->b i=false)->Q (some k) st):wpS (model prog w) A E s (gallop' left key arr base n hint) Q st:=by
 have one:∀{i:Nat} {Q':Option Bool->SortSt->Prop},i<n->Q' (some (b i)) st->wpS (model prog w) A E s (do
   let x <- elem' arr (base+i)
   if left=true then lt' x key
    else do
     let r <- lt' key x
     pure (Option.map (fun x=>!x) r)) Q' st:=by
  intro i Q' hi hq
  obtain⟨x,e1,e2,e3⟩:=he i hi
  refine wpS_bind (qF e1 ?_)
  unfold bey at e3
  cases left with
  | true =>
   rw [if_pos rfl] at e3 ⊢
   rw [e3] at hq
   exact zhB T hk e2 hkey hq
  | false =>
   rw [if_neg Bool.false_ne_true] at e3 ⊢
   rw [e3] at hq
   exact wpS_bind (zhB T hk hkey e2 (wpS_pure hq))
 have last:∀{f:Nat->Option (Option Nat)×Nat×Nat->StateT SortSt Sem (ForInStep (Option (Option Nat)×Nat×Nat))} {g:Option (Option Nat)×Nat×Nat->StateT SortSt Sem (Option Nat)},
   (∀x l r (R:ForInStep (Option (Option Nat)×Nat×Nat)->SortSt->Prop),l >= r->R (.done (none,l,r)) st->wpS (model prog w) A E s (f x (none,l,r)) R st) ->
   (∀x l r (R:ForInStep (Option (Option Nat)×Nat×Nat)->SortSt->Prop),l<r->r<=n->R (.yield (if b (l+(r-l)/2)=true then (none,l+(r-l)/2+1,r) else (none,l,l+(r-l)/2))) st->wpS (model prog w) A E s (f x (none,l,r)) R st) ->
   (∀l r,Q (some r) st->wpS (model prog w) A E s (g (none,l,r)) Q st) ->
   ∀(lo hi:Nat),lo<=hi->hi<=n->(∀i,i<lo->b i=true)->(∀i,hi<=i->i<n->b i=false)->wpS (model prog w) A E s (forIn [:n] ((none,lo,hi):Option (Option Nat)×Nat×Nat) f >>= g) Q st:=by
  intro f g f1 f2 g1 lo hi h1 h2 h3 h4
  refine wpS_bind (wpS_mono (wpS_forRange (I:=fun x c st'=>st'=st/\∃l r,c=(none,l,r)/\l<=r/\r<=n/\r-l<=n-x/\(∀i,i<l->b i=true)/\(∀i,r<=i->i<n->b i=false))
   (Q:=fun c st'=>st'=st/\∃l,c=(none,l,l)/\l<=n/\(∀i,i<l->b i=true)/\(∀i,l<=i->i<n->b i=false)) ?step ?fin ⟨rfl,lo,hi,rfl,h1,h2,by omega,h3,h4⟩) ?post)
  case fin =>
   rintro c st' ⟨rfl,l,r,rfl,a1,a2,a3,a4,a5⟩
   obtain rfl:l=r:=by omega
   exact⟨rfl,l,rfl,a2,a4,a5⟩
  case post =>
   rintro c st' ⟨rfl,l,rfl,a2,a4,a5⟩
   exact g1 l l (h l a2 a4 a5)
  case step =>
   rintro x c st' _ hx ⟨rfl,l,r,rfl,a1,a2,a3,a4,a5⟩
   by_cases hge:l >= r
   ·obtain rfl:l=r:=by omega
    exact f1 x l l _ hge ⟨rfl,l,rfl,a2,a4,a5⟩
   ·refine f2 x l r _ (by omega) a2 ?_
    cases hb:b (l+(r-l)/2) with
    | true =>
     rw [if_pos rfl]
     exact⟨rfl,l+(r-l)/2+1,r,rfl,by omega,a2,by omega,fun i hi=>mono i _ (by omega) (by omega) hb,a5⟩
    | false =>
     rw [if_neg Bool.false_ne_true]
     refine⟨rfl,l,l+(r-l)/2,rfl,by omega,by omega,by omega,a4,fun i i1 i2=>?_⟩
     cases hbi:b i with
     | false=>rfl
     | true =>
      have:=mono _ i i1 i2 hbi
      rw [hb] at this
      cases this
 refine wpS_bind (one hh ?_)
 dsimp only
 cases hb:b hint with
 | true =>
  rw [if_pos rfl]
  refine wpS_bind (wpS_mono (wpS_forRange (I:=fun x c st'=>st'=st/\∃l o,c=(none,l,o)/\l<o/\hint+l<n/\b (hint+l)=true/\x+1<=o)
   (Q:=fun c st'=>st'=st/\∃l o,c=(none,l,o)/\l<o/\hint+l<n/\b (hint+l)=true/\(o >= n-hint\/(hint+o<n/\b (hint+o)=false))) ?step ?fin ⟨rfl,0,1,rfl,by omega,hh,hb,by omega⟩) ?post)
  case fin =>
   rintro c st' ⟨rfl,l,o,rfl,a1,a2,a3,a4⟩
   exact⟨rfl,l,o,rfl,a1,a2,a3,.inl (by omega)⟩
  case step =>
   rintro x c st' _ hx ⟨rfl,l,o,rfl,a1,a2,a3,a4⟩
   dsimp only
   by_cases hge:o >= n-hint
   ·rw [if_pos hge]
    exact wpS_pure ⟨rfl,l,o,rfl,a1,a2,a3,.inl hge⟩
   ·rw [if_neg hge]
    refine wpS_bind (one (by omega) ?_)
    dsimp only
    cases hbo:b (hint+o) with
    | false =>
     rw [if_pos (by decide)]
     exact wpS_pure ⟨rfl,l,o,rfl,a1,a2,a3,.inr ⟨by omega,hbo⟩⟩
    | true =>
     rw [if_neg (by decide)]
     exact wpS_pure ⟨rfl,o,2*o+1,rfl,by omega,by omega,hbo,by omega⟩
  case post =>
   rintro c st' ⟨rfl,l,o,rfl,a1,a2,a3,a4⟩
   refine last (fun x l r R hge hR=>?_) (fun x l r R hlt hr hR=>?_) (fun l r hq=>wpS_pure hq) (hint+l+1) (hint+min o (n-hint)) (by omega) (by omega) (fun i hi=>mono i (hint+l) (by omega) a2 a3) fun i i1 i2=>?_
   ·dsimp only
    rw [if_pos hge]
    exact wpS_pure hR
   ·dsimp only
    rw [if_neg (by omega)]
    refine wpS_bind (one (by omega) ?_)
    dsimp only
    cases hbm:b (l+(r-l)/2) with
    | true =>
     rw [hbm,if_pos rfl] at hR
     rw [if_pos rfl]
     exact wpS_pure hR
    | false =>
     rw [hbm,if_neg Bool.false_ne_true] at hR
     rw [if_neg Bool.false_ne_true]
     exact wpS_pure hR
   ·rcases a4 with a4 | ⟨a4,a5⟩
    ·omega
    ·cases hbi:b i with
     | false=>rfl
     | true =>
      have:=mono _ i (show hint+o<=i by omega) i2 hbi
      rw [a5] at this
      cases this
 | false =>
  rw [if_neg Bool.false_ne_true]
  refine wpS_bind (wpS_mono (wpS_forRange (I:=fun x c st'=>st'=st/\∃l o,c=(none,l,o)/\l<o/\l<=hint/\b (hint-l)=false/\x+1<=o)
   (Q:=fun c st'=>st'=st/\∃l o,c=(none,l,o)/\l<o/\l<=hint/\b (hint-l)=false/\(o >= hint+1\/(o<=hint/\b (hint-o)=true))) ?step ?fin ⟨rfl,0,1,rfl,by omega,by omega,hb,by omega⟩) ?post)
  case fin =>
   rintro c st' ⟨rfl,l,o,rfl,a1,a2,a3,a4⟩
   exact⟨rfl,l,o,rfl,a1,a2,a3,.inl (by omega)⟩
  case step =>
   rintro x c st' _ hx ⟨rfl,l,o,rfl,a1,a2,a3,a4⟩
   dsimp only
   by_cases hge:o >= hint+1
   ·rw [if_pos hge]
    exact wpS_pure ⟨rfl,l,o,rfl,a1,a2,a3,.inl hge⟩
   ·rw [if_neg hge]
    refine wpS_bind (one (by omega) ?_)
    dsimp only
    cases hbo:b (hint-o) with
    | true =>
     rw [if_pos rfl]
     exact wpS_pure ⟨rfl,l,o,rfl,a1,a2,a3,.inr ⟨by omega,hbo⟩⟩
    | false =>
     rw [if_neg (by decide)]
     exact wpS_pure ⟨rfl,o,2*o+1,rfl,by omega,by omega,hbo,by omega⟩
  case post =>
   rintro c st' ⟨rfl,l,o,rfl,a1,a2,a3,a4⟩
   refine last (fun x l r R hge hR=>?_) (fun x l r R hlt hr hR=>?_) (fun l r hq=>wpS_pure hq) (hint+1-min o (hint+1)) (hint-l) (by omega) (by omega) (fun i hi=>?_) fun i i1 i2=>?_
   ·dsimp only
    rw [if_pos hge]
    exact wpS_pure hR
   ·dsimp only
    rw [if_neg (by omega)]
    refine wpS_bind (one (by omega) ?_)
    dsimp only
    cases hbm:b (l+(r-l)/2) with
    | true =>
     rw [hbm,if_pos rfl] at hR
     rw [if_pos rfl]
     exact wpS_pure hR
    | false =>
     rw [hbm,if_neg Bool.false_ne_true] at hR
     rw [if_neg Bool.false_ne_true]
     exact wpS_pure hR
   ·rcases a4 with a4 | ⟨a4,a5⟩
    ·omega
    ·exact mono i (hint-o) (by omega) (by omega) a5
   ·cases hbi:b i with
    | false=>rfl
    | true =>
     have:=mono _ i i1 i2 hbi
     rw [a3] at this
     cases this
end
end GS
namespace GS
structure MI (rk:Keyed->Int)(aL bL:List Keyed)(ia ib:Nat)(oL:List Keyed):Prop where
 perm:oL.Perm (aL.take ia++bL.take ib)
 srt:oL.Pairwise fun x y=>rk x<=rk y
 la:∀x∈oL,∀y∈aL.drop ia,rk x<=rk y
 lb:∀x∈oL,∀y∈bL.drop ib,rk x<=rk y
section
variable {rk:Keyed->Int}{aL bL oL:List Keyed}{ia ib:Nat}
theorem MI.swap (M:MI rk aL bL ia ib oL):MI rk bL aL ib ia oL:=⟨M.perm.trans List.perm_append_comm,M.srt,M.lb,M.la⟩
theorem zgk (l:List Keyed)(i k:Nat):l.take (i+k)=l.take i++(l.drop i).take k:=by
 rw [List.take_add]
theorem MI.takeA (M:MI rk aL bL ia ib oL)(sa:aL.Pairwise fun x y=>rk x<=rk y)(k:Nat)(h:∀x∈(aL.drop ia).take k,∀y∈bL.drop ib,rk x<=rk y):MI rk aL bL (ia+k) ib (oL++(aL.drop ia).take k):=by
 have sd:(aL.drop ia).Pairwise fun x y=>rk x<=rk y:=sa.sublist (List.drop_sublist _ _)
 have e2:(aL.drop ia).drop k=aL.drop (ia+k):=List.drop_drop
 refine⟨?_,?_,fun x hx y hy=>?_,fun x hx y hy=>?_⟩
 ·rw [zgk,append_assoc]
  refine(M.perm.append_right _).trans ?_
  rw [append_assoc]
  exact List.Perm.append_left _ List.perm_append_comm
 ·rw [List.pairwise_append]
  exact⟨M.srt,sd.sublist (List.take_sublist _ _),fun x hx y hy=>M.la x hx y (mem_of_mem_take hy)⟩
 ·rw [<- e2] at hy
  rcases List.mem_append.mp hx with hx | hx
  ·exact M.la x hx y (List.mem_of_mem_drop hy)
  ·have:=sd
   rw [<- take_append_drop k (aL.drop ia),List.pairwise_append] at this
   exact this.2.2 x hx y hy
 ·rcases List.mem_append.mp hx with hx | hx
  ·exact M.lb x hx y hy
  ·exact h x hx y hy
theorem MI.takeB (M:MI rk aL bL ia ib oL)(sb:bL.Pairwise fun x y=>rk x<=rk y)(k:Nat)(h:∀x∈(bL.drop ib).take k,∀y∈aL.drop ia,rk x<=rk y):MI rk aL bL ia (ib+k) (oL++(bL.drop ib).take k):=(M.swap.takeA sb k h).swap
def Mg (rk:Keyed->Int)(aL bL oL:List Keyed):Prop:=oL.Perm (aL++bL)/\oL.Pairwise fun x y=>rk x<=rk y
theorem MI.all (M:MI rk aL bL ia ib oL)(ha:aL.length<=ia)(hb:bL.length<=ib):Mg rk aL bL oL:=by
 have:=M.perm
 rw [take_of_length_le ha,take_of_length_le hb] at this
 exact⟨this,M.srt⟩
theorem MI.doneB (M:MI rk aL bL ia ib oL)(sa:aL.Pairwise fun x y=>rk x<=rk y)(hb:bL.length<=ib):Mg rk aL bL (oL++aL.drop ia):=by
 have:=M.takeA sa (aL.drop ia).length (fun x _ y hy=>by
  rw [List.drop_eq_nil_of_le hb] at hy
  cases hy)
 rw [take_length] at this
 exact this.all (by rw [length_drop];omega) hb
theorem MI.lastA (M:MI rk aL bL ia ib oL)(sa:aL.Pairwise fun x y=>rk x<=rk y)(sb:bL.Pairwise fun x y=>rk x<=rk y)(h:∀x∈bL,∀y∈aL.drop ia,rk x<=rk y):Mg rk aL bL (oL++bL.drop ib++aL.drop ia):=by
 have M2:=M.takeB sb (bL.drop ib).length (fun x hx y hy=>h x (List.mem_of_mem_drop (mem_of_mem_take hx)) y hy)
 rw [take_length] at M2
 exact M2.doneB sa (by rw [length_drop];omega)
theorem ext_toList (a:Array Keyed)(i j:Nat)(hj:i<=j):(a.extract i j).toList=(a.toList.drop i).take (j-i):=by
 rw [Array.toList_extract,List.extract_eq_take_drop]
theorem YN (a:Array Keyed)(i:Nat):(a.extract i a.size).toList=a.toList.drop i:=by
 rw [Array.toList_extract,List.extract_eq_take_drop,take_of_length_le]
 rw [length_drop,length_toList]
 exact le_refl _
theorem zhE {a:Array Keyed}{i:Nat}{x:Keyed}(h:a[i]?=some x):(a.toList.drop i).take 1=[x]:=by
 have hi:i<a.toList.length:=by
  rw [length_toList]
  exact(Array.getElem?_eq_some_iff.mp h).1
 rw [drop_eq_getElem_cons hi,List.take_succ_cons,List.take_zero]
 have:a.toList[i]?=some x:=by rw [getElem?_toList];exact h
 rw [getElem?_eq_getElem hi] at this
 rw [Option.some.inj this]
end
section
variable {prog:Program}{w:World}{A:Around}{E:Value->Shared->Prop}{s:Shared}{rk:Keyed->Int}{κ:SortKind}{a0:Array Keyed}
structure Kept (st st':SortSt):Prop where
 arr:arrOf st'=arrOf st
 kind:kindOf st'=kindOf st
 pend:pendingOf st'=pendingOf st
 bad:failedOf st'=failedOf st
noncomputable def setG':Nat->StateT SortSt Sem Unit:=sortPriv% PySem.Builtin.setMinGallop
theorem Kept.refl (st:SortSt):Kept st st:=⟨rfl,rfl,rfl,rfl⟩
theorem zcj {st0 st:SortSt}{g:Nat}{Q:Unit->SortSt->Prop}(k:Kept st0 st)(h:∀st',Kept st0 st'->Q () st'):wpS (model prog w) A E s (setG' g) Q st:=by
 have e:setG' g=modify fun c=>SortSt.mk' (kindOf c) (arrOf c) (pendingOf c) g (failedOf c):=rfl
 rw [e]
 exact wpS_modify (h _ ⟨k.arr,k.kind,k.pend,k.bad⟩)
theorem qm {α:Type}{c:Prop} [Decidable c]{x y:StateT SortSt Sem α}{Q:α->SortSt->Prop}{st:SortSt}(h1:c->wpS (model prog w) A E s x Q st)(h2:¬ c->wpS (model prog w) A E s y Q st):wpS (model prog w) A E s (if c then x else y) Q st:=by
 by_cases hc:c
 ·rw [if_pos hc]
  exact h1 hc
 ·rw [if_neg hc]
  exact h2 hc
theorem qT {a:Array Keyed}{i:Nat}(h:i<a.size):∃x,a[i]?=some x/\x∈a.toList:=⟨a[i],getElem?_pos a i h,by simp⟩
theorem Jg {a:Array Keyed}(sa:a.toList.Pairwise fun x y=>rk x<=rk y){i:Nat}{x:Keyed}(e:a[i]?=some x):∀y∈a.toList.drop i,rk x<=rk y:=by
 have hi:i<a.toList.length:=by
  rw [length_toList]
  exact(Array.getElem?_eq_some_iff.mp e).1
 have e':a.toList[i]?=some x:=by rw [getElem?_toList];exact e
 rw [getElem?_eq_getElem hi] at e'
 have ex:=Option.some.inj e'
 have sd:=sa.sublist (List.drop_sublist i a.toList)
 rw [drop_eq_getElem_cons hi,ex,List.pairwise_cons] at sd
 rw [drop_eq_getElem_cons hi,ex]
 intro y hy
 rcases List.mem_cons.mp hy with rfl | hy
 ·exact Int.le_refl _
 ·exact sd.1 y hy
theorem Zz {a b out:Array Keyed}{ia ib:Nat}(M:MI rk a.toList b.toList ia ib out.toList)(sa:a.toList.Pairwise fun x y=>rk x<=rk y)(hb:b.size<=ib):Mg rk a.toList b.toList (out++a.extract ia a.size++b.extract ib b.size).toList:=by
 rw [toList_append,toList_append,YN,YN,List.drop_eq_nil_of_le (as:=b.toList) (by rw [length_toList];exact hb),append_nil]
 exact M.doneB sa (by rw [length_toList];exact hb)
theorem ZA {a b out:Array Keyed}{ia ib:Nat}(M:MI rk a.toList b.toList ia ib out.toList)(sa:a.toList.Pairwise fun x y=>rk x<=rk y)(sb:b.toList.Pairwise fun x y=>rk x<=rk y)(hl:∀x∈b.toList,∀y,a[a.size-1]?=some y->rk x<=rk y)(ha:ia+1=a.size):Mg rk a.toList b.toList (out++b.extract ib b.size++a.extract ia a.size).toList:=by
 rw [toList_append,toList_append,YN,YN]
 refine M.lastA sa sb fun x hx y hy=>?_
 have hi:ia<a.toList.length:=by rw [length_toList];omega
 rw [drop_eq_getElem_cons hi,List.drop_eq_nil_of_le (by rw [length_toList];omega)] at hy
 have ey:y=a.toList[ia]:=by simpa using hy
 refine hl x hx y ?_
 rw [show a.size-1=ia by omega,<- getElem?_toList,getElem?_eq_getElem hi,ey]
theorem zgl (out:Array Keyed)(x:Keyed):(out.push x).toList=out.toList++[x]:=toList_push ..
theorem MI.oneB {a b out:Array Keyed}{ia ib:Nat}{x:Keyed}(M:MI rk a.toList b.toList ia ib out.toList)(sb:b.toList.Pairwise fun x y=>rk x<=rk y)(e:b[ib]?=some x)(h:∀y∈a.toList.drop ia,rk x<=rk y):MI rk a.toList b.toList ia (ib+1) (out.push x).toList:=by
 rw [zgl,<- zhE e]
 refine M.takeB sb 1 fun z hz y hy=>?_
 rw [zhE e] at hz
 have ez:z=x:=by simpa using hz
 rw [ez]
 exact h y hy
theorem MI.oneA {a b out:Array Keyed}{ia ib:Nat}{x:Keyed}(M:MI rk a.toList b.toList ia ib out.toList)(sa:a.toList.Pairwise fun x y=>rk x<=rk y)(e:a[ia]?=some x)(h:∀y∈b.toList.drop ib,rk x<=rk y):MI rk a.toList b.toList (ia+1) ib (out.push x).toList:=(MI.oneB M.swap sa e h).swap
theorem MI.someA {a b out:Array Keyed}{ia ib k:Nat}{y:Keyed}(M:MI rk a.toList b.toList ia ib out.toList)(sa:a.toList.Pairwise fun x y=>rk x<=rk y)(sb:b.toList.Pairwise fun x y=>rk x<=rk y)(e:b[ib]?=some y)(h:∀i x,i<k->a[ia+i]?=some x->rk x<=rk y):MI rk a.toList b.toList (ia+k) ib (out++a.extract ia (ia+k)).toList:=by
 rw [toList_append,ext_toList _ _ _ (le_add_right _ _),Nat.add_sub_cancel_left]
 refine M.takeA sa k fun x hx z hz=>Int.le_trans ?_ (Jg sb e z hz)
 obtain⟨i,hi,ex⟩:=List.getElem_of_mem hx
 have hik:i<k:=by
  rw [length_take] at hi
  omega
 refine h i x hik ?_
 have:((a.toList.drop ia).take k)[i]?=some x:=by rw [getElem?_eq_getElem hi,ex]
 rw [List.getElem?_take,if_pos hik,List.getElem?_drop,getElem?_toList] at this
 exact this
theorem MI.someB {a b out:Array Keyed}{ia ib k:Nat}{y:Keyed}(M:MI rk a.toList b.toList ia ib out.toList)(sa:a.toList.Pairwise fun x y=>rk x<=rk y)(sb:b.toList.Pairwise fun x y=>rk x<=rk y)(e:a[ia]?=some y)(h:∀i x,i<k->b[ib+i]?=some x->rk x<=rk y):MI rk a.toList b.toList ia (ib+k) (out++b.extract ib (ib+k)).toList:=(MI.someA M.swap sb sa e h).swap
end
end GS
namespace GS
section
variable {prog:Program}{w:World}{A:Around}{E:Value->Shared->Prop}{s:Shared}{rk:Keyed->Int}{κ:SortKind}{a0:Array Keyed}
theorem Qg {st:SortSt}{key:Keyed}{a:Array Keyed}{base n hint:Nat}{Q:Option Nat->SortSt->Prop}(T:Tells prog w A s κ rk a0)(hk:kindOf st=κ)(hkey:key∈a0.toList)(ma:∀x∈a.toList,x∈a0.toList)(up:∀i j x y,base<=i->i<=j->j<base+n->a[i]?=some x->a[j]?=some y->rk x<=rk y)(hn:base+n<=a.size)(hh:hint<n)
  (h:∀k,k<=n->(∀i x,i<k->a[base+i]?=some x->rk x<=rk key)->(∀i x,k<=i->i<n->a[base+i]?=some x->rk key<rk x)->Q (some k) st):wpS (model prog w) A E s (gallop' false key a base n hint) Q st:=by
 have he:∀i,i<n->∃x,a[base+i]?=some x/\x∈a.toList:=fun i hi=>qT (by omega)
 refine zdh T hk hkey (fun i=>match a[base+i]? with | some x=>bey rk false key x | none=>false) (fun i hi=>?_) (fun i j hij hj hb=>?_) hh fun k hk1 h1 h2=>h k hk1 (fun i x hi e=>?_) fun i x hi1 hi2 e=>?_
 ·obtain⟨x,e,m⟩:=he i hi
  refine⟨x,e,ma x m,?_⟩
  try dsimp only
  rw [e]
 ·obtain⟨x,ex,_⟩:=he i (by omega)
  obtain⟨y,ey,_⟩:=he j hj
  try dsimp only at hb ⊢
  rw [ey] at hb
  rw [ex]
  have:=up (base+i) (base+j) x y (by omega) (by omega) (by omega) ex ey
  unfold bey at hb ⊢
  simp only [false_eq_true,if_false,not_eq_true',decide_eq_false_iff_not] at hb ⊢
  omega
 ·have:=h1 i hi
  try dsimp only at this
  rw [e] at this
  unfold bey at this
  simp only [false_eq_true,if_false,not_eq_true',decide_eq_false_iff_not] at this
  omega
 ·have:=h2 i hi1 hi2
  try dsimp only at this
  rw [e] at this
  unfold bey at this
  simp only [false_eq_true,if_false,Bool.not_eq_false',decide_eq_true_eq] at this
  exact this
theorem Qh {st:SortSt}{key:Keyed}{a:Array Keyed}{base n hint:Nat}{Q:Option Nat->SortSt->Prop}(T:Tells prog w A s κ rk a0)(hk:kindOf st=κ)(hkey:key∈a0.toList)(ma:∀x∈a.toList,x∈a0.toList)(up:∀i j x y,base<=i->i<=j->j<base+n->a[i]?=some x->a[j]?=some y->rk x<=rk y)(hn:base+n<=a.size)(hh:hint<n)
  (h:∀k,k<=n->(∀i x,i<k->a[base+i]?=some x->rk x<rk key)->(∀i x,k<=i->i<n->a[base+i]?=some x->rk key<=rk x)->Q (some k) st):wpS (model prog w) A E s (gallop' true key a base n hint) Q st:=by
 have he:∀i,i<n->∃x,a[base+i]?=some x/\x∈a.toList:=fun i hi=>qT (by omega)
 refine zdh T hk hkey (fun i=>match a[base+i]? with | some x=>bey rk true key x | none=>false) (fun i hi=>?_) (fun i j hij hj hb=>?_) hh fun k hk1 h1 h2=>h k hk1 (fun i x hi e=>?_) fun i x hi1 hi2 e=>?_
 ·obtain⟨x,e,m⟩:=he i hi
  refine⟨x,e,ma x m,?_⟩
  try dsimp only
  rw [e]
 ·obtain⟨x,ex,_⟩:=he i (by omega)
  obtain⟨y,ey,_⟩:=he j hj
  try dsimp only at hb ⊢
  rw [ey] at hb
  rw [ex]
  have:=up (base+i) (base+j) x y (by omega) (by omega) (by omega) ex ey
  unfold bey at hb ⊢
  simp only [if_true,decide_eq_true_eq] at hb ⊢
  omega
 ·have:=h1 i hi
  try dsimp only at this
  rw [e] at this
  unfold bey at this
  simp only [if_true,decide_eq_true_eq] at this
  exact this
 ·have:=h2 i hi1 hi2
  try dsimp only at this
  rw [e] at this
  unfold bey at this
  simp only [if_true,decide_eq_false_iff_not] at this
  omega
theorem zfn {a:Array Keyed}(sa:a.toList.Pairwise fun x y=>rk x<=rk y){i j:Nat}{x y:Keyed}(hij:i<=j)(ex:a[i]?=some x)(ey:a[j]?=some y):rk x<=rk y:=by
 refine Jg sa ex y ?_
 have hj:j<a.toList.length:=by
  rw [length_toList]
  exact(Array.getElem?_eq_some_iff.mp ey).1
 refine mem_of_getElem? (i:=j-i) ?_
 rw [List.getElem?_drop,getElem?_toList,show i+(j-i)=j by omega]
 exact ey
set_option maxHeartbeats 8000000 in
theorem via {P:Prop}(h:∀G:Prop,(P->G)->G):P:=h P id
structure Key (P:Prop):Prop where
 get:P
theorem cut {P R:Prop}(k:P)(h:Key P->R):R:=h ⟨k⟩
theorem zgm {st0:SortSt}{a b:Array Keyed}{Q:Array Keyed->SortSt->Prop}(T:Tells prog w A s κ rk a0)(hk:kindOf st0=κ)(ma:∀x∈a.toList,x∈a0.toList)(mb:∀x∈b.toList,x∈a0.toList)(sa:a.toList.Pairwise fun x y=>rk x<=rk y)(sb:b.toList.Pairwise fun x y=>rk x<=rk y)
  (ha:0<a.size) (hb:0<b.size) (h0:∀x y,b[0]?=some x->y∈a.toList->rk x<=rk y) (hl':∀x∈b.toList,∀y,a[a.size-1]?=some y->rk x<rk y)
  (h:∀out st',Kept st0 st'->Mg rk a.toList b.toList out.toList->Q out st'):wpS (model prog w) A E s (mergeLo' a b) Q st0:=by
 have hl:∀x∈b.toList,∀y,a[a.size-1]?=some y->rk x<=rk y:=fun x hx y hy=>le_of_lt (hl' x hx y hy)
 refine wpS_bind (wpS_lift (wpAny_rule ⟨rfl,?_⟩))
 obtain⟨b0,eb0,_⟩:=qT hb
 refine wpS_bind (qF eb0 ?_)
 have M0:MI rk a.toList b.toList 0 0 (#[]:Array Keyed).toList:=⟨by simp,List.Pairwise.nil,(fun x hx=>nomatch hx),(fun x hx=>nomatch hx)⟩
 have M1:MI rk a.toList b.toList 0 1 (#[b0]:Array Keyed).toList:=MI.oneB M0 sb eb0 fun y hy=>h0 b0 y eb0 (by simpa using hy)
 dsimp -zeta only
 refine qm (fun hc=>wpS_pure (h _ _ (Kept.refl _) (Zz M1 sa (by rw [show 1=b.size by simpa using hc];exact le_refl _)))) fun hc=>?_
 refine qm (fun hc2=>wpS_pure (h _ _ (Kept.refl _) (ZA M1 sa sb hl (by simpa using hc2)))) fun hc2=>?_
 have hb2:1<b.size:=by
  have:¬ 1=b.size:=by simpa using hc
  omega
 have ha2:0+1<a.size:=by
  have:¬ 0+1=a.size:=by simpa using hc2
  omega
 refine wpS_bind (wpS_get ?_)
 refine wpS_bind (wpS_mono (wpS_forRange (I:=fun x c st'=>∃out ia ib mg,c=(none,out,ia,ib,mg)/\MI rk a.toList b.toList ia ib out.toList/\ia+1<a.size/\ib<b.size/\x+1<=ia+ib/\Kept st0 st')
  (Q:=fun c st'=>∃res,c.1=some res/\Mg rk a.toList b.toList res.toList/\Kept st0 st') ?step ?fin ⟨_,0,1,_,rfl,M1,ha2,hb2,by omega,Kept.refl _⟩) ?post)
 case fin =>
  rintro c st' ⟨out,ia,ib,mg,rfl,M,h1,h2,h3,k⟩
  omega
 case post =>
  rintro⟨c1,c2⟩ st' ⟨res,e,hM,k⟩
  dsimp only at e ⊢
  subst e
  exact wpS_pure (h _ _ k hM)
 case step =>
  intro x0 c st1 _ hx0 hI
  refine via fun G hG=>?_
  obtain⟨out,ia,ib,mg,rfl,M,h1,h2,h3,k1⟩:=hI
  refine hG ?_
  clear hG
  have hk1:kindOf st1=κ:=k1.kind.trans hk
  dsimp -zeta only
  refine wpS_bind (wpS_mono (wpS_forRange (I:=fun x c st'=>st'=st1/\∃out ia ib ac bc,c=(none,out,ia,ib,ac,bc)/\MI rk a.toList b.toList ia ib out.toList/\ia+1<a.size/\ib<b.size/\x0+1+x<=ia+ib)
   (Q:=fun c st'=>st'=st1/\((∃res,c.1=some res/\Mg rk a.toList b.toList res.toList)\/∃out ia ib ac bc,c=(none,out,ia,ib,ac,bc)/\MI rk a.toList b.toList ia ib out.toList/\ia+1<a.size/\ib<b.size/\x0+2<=ia+ib)) ?step1 ?fin1 ⟨rfl,_,_,_,_,_,rfl,M,h1,h2,by omega⟩) ?post1)
  case fin1 =>
   rintro c st' ⟨rfl,out,ia,ib,ac,bc,rfl,M,h1,h2,h3⟩
   exact⟨rfl,.inr ⟨out,ia,ib,ac,bc,rfl,M,h1,h2,by omega⟩⟩
  case step1 =>
   intro x c st' _ hx hI
   refine via fun G hG=>?_
   obtain⟨rfl,out,ia,ib,ac,bc,rfl,M,h1,h2,h3⟩:=hI
   obtain⟨y,ey,my⟩:=qT h2
   obtain⟨z,ez,mz⟩:=qT (a:=a) (i:=ia) (by omega)
   refine hG ?_
   clear hG
   dsimp -zeta only
   refine wpS_bind (qF ey (wpS_bind (qF ez (wpS_bind (zhB T hk1 (mb y my) (ma z mz) ?_)))))
   dsimp -zeta only
   refine qm (fun hlt=>?_) fun hlt=>?_
   ·have hlt':rk y<rk z:=of_decide_eq_true hlt
    have M2:=MI.oneB M sb ey fun v hv=>Int.le_trans (le_of_lt hlt') (Jg sa ez v hv)
    refine wpS_bind (qF ey ?_)
    refine qm (fun he=>wpS_pure ⟨rfl,.inl ⟨_,rfl,Zz M2 sa (by rw [show ib+1=b.size by simpa using he];exact le_refl _)⟩⟩) fun he=>?_
    have hb3:ib+1<b.size:=by
     have:¬ ib+1=b.size:=by simpa using he
     omega
    exact qm (fun _=>wpS_pure ⟨rfl,.inr ⟨_,_,_,_,_,rfl,M2,h1,hb3,by omega⟩⟩) fun _=>wpS_pure ⟨rfl,_,_,_,_,_,rfl,M2,h1,hb3,by omega⟩
   ·have hlt':¬ rk y<rk z:=fun q=>hlt (decide_eq_true q)
    have M2:=MI.oneA M sa ez fun v hv=>Int.le_trans (Int.not_lt.mp hlt') (Jg sb ey v hv)
    refine wpS_bind (qF ez ?_)
    refine qm (fun he=>wpS_pure ⟨rfl,.inl ⟨_,rfl,ZA M2 sa sb hl (by simpa using he)⟩⟩) fun he=>?_
    have ha3:ia+1+1<a.size:=by
     have:¬ ia+1+1=a.size:=by simpa using he
     omega
    exact qm (fun _=>wpS_pure ⟨rfl,.inr ⟨_,_,_,_,_,rfl,M2,ha3,h2,by omega⟩⟩) fun _=>wpS_pure ⟨rfl,_,_,_,_,_,rfl,M2,ha3,h2,by omega⟩
  case post1 =>
   intro c st' hI
   refine via fun G hG=>?_
   rcases hI with ⟨rfl,hc1 | ⟨out,ia,ib,ac,bc,rfl,M,h1,h2,h3⟩⟩
   all_goals (refine hG ?_;clear hG)
   ·obtain⟨res,e,hM⟩:=hc1
    obtain⟨c1,c2⟩:=c
    dsimp only at e ⊢
    subst e
    exact wpS_pure ⟨res,rfl,hM,k1⟩
   dsimp -zeta only
   refine wpS_bind (wpS_lift (wpAny_rule ⟨rfl,?_⟩))
   refine wpS_bind (wpS_mono (wpS_forRange (I:=fun x c st2=>∃out ia ib mg ac bc,c=(none,out,ia,ib,mg,ac,bc)/\MI rk a.toList b.toList ia ib out.toList/\ia+1<a.size/\ib<b.size/\x0+2<=ia+ib/\Kept st0 st2)
    (Q:=fun c st2=>(∃res,c.1=some res/\Mg rk a.toList b.toList res.toList/\Kept st0 st2)\/∃out ia ib mg ac bc,c=(none,out,ia,ib,mg,ac,bc)/\MI rk a.toList b.toList ia ib out.toList/\ia+1<a.size/\ib<b.size/\x0+2<=ia+ib/\Kept st0 st2) ?step2 ?fin2 ⟨_,_,_,_,_,_,rfl,M,h1,h2,h3,k1⟩) ?post2)
   case fin2 =>
    rintro c st2 hc
    exact .inr hc
   case post2 =>
    rintro c st2 (⟨res,e,hM,k2⟩ | ⟨out,ia,ib,mg,ac,bc,rfl,M,h1,h2,h3,k2⟩)
    ·obtain⟨c1,c2⟩:=c
     dsimp only at e ⊢
     subst e
     exact wpS_pure ⟨res,rfl,hM,k2⟩
    ·dsimp -zeta only
     exact wpS_bind (zcj k2 fun st3 k3=>wpS_pure ⟨_,_,_,_,rfl,M,h1,h2,by omega,k3⟩)
   case step2 =>
    intro x c st2 _ hx hI
    refine via fun G hG=>?_
    obtain⟨out,ia,ib,mg,ac,bc,rfl,M,h1,h2,h3,k2⟩:=hI
    obtain⟨y,ey,my⟩:=qT h2
    refine hG ?_
    clear hG
    dsimp -zeta only
    refine' cut ?ziT fun key=>qm (fun hmg=>?a1) fun hmg=>?b1
    case a1 =>
     generalize mg-1=mg1
     revert mg1
     exact key.get
    case b1=>exact key.get mg
    intro mg1
    dsimp -zeta only
    refine wpS_bind (zcj k2 fun st3 k3=>?_)
    have hk3:kindOf st3=κ:=k3.kind.trans hk
    refine wpS_bind (qF ey (wpS_bind (Qg T hk3 (mb y my) ma (fun i j u v _ hij _ eu ev=>zfn sa hij eu ev) (by omega) (by omega) fun k hk4 g1 g2=>?_)))
    dsimp -zeta only
    refine' cut ?ziU fun key=>qm (fun hk0=>?a2) fun hk0=>?b2
    case a2 =>
     have M2:=MI.someA M sa sb ey g1
     refine qm (fun he=>wpS_pure (.inl ⟨_,rfl,ZA M2 sa sb hl (by simpa using he),k3⟩)) fun he=>?_
     have ne1:¬ ia+k+1=a.size:=by simpa using he
     have kl:ia+k<a.size:=by
      refine Nat.lt_of_not_le fun hge=>?_
      obtain⟨v,ev,mv⟩:=qT (a:=a) (i:=a.size-1) (by omega)
      have q1:=g1 (a.size-1-ia) v (by omega) (by rw [show ia+(a.size-1-ia)=a.size-1 by omega];exact ev)
      have q2:=hl' y my v ev
      omega
     refine qm (fun he2=>absurd (show ia+k=a.size by simpa using he2) (by omega)) fun he2=>?_
     have h1':ia+k+1<a.size:=by omega
     have h3':x0+2<=ia+k+ib:=by omega
     have g2':∀z,a[ia+k]?=some z->rk y<=rk z:=fun z ez=>le_of_lt (g2 k z (le_refl _) (by omega) ez)
     generalize out++a.extract ia (ia+k)=zck at M2 ⊢
     generalize ia+k=ia1 at M2 h1' h3' g2' ⊢
     revert g2';revert h3';revert h1';revert M2;revert ia1;revert zck
     exact key.get
    case b2=>exact key.get out ia M h1 h3 fun z ez=>le_of_lt (g2 0 z (by omega) (by omega) (by simpa using ez))
    intro zck ia1 M2 h1' h3' g2'
    refine via fun G hG=>?_
    obtain⟨z,ez,mz⟩:=qT (a:=a) (i:=ia1) (by omega)
    refine hG ?_
    clear hG
    have M3:=MI.oneB M2 sb ey fun v hv=>Int.le_trans (g2' z ez) (Jg sa ez v hv)
    refine wpS_bind (qF ey ?_)
    refine qm (fun he=>wpS_pure (.inl ⟨_,rfl,Zz M3 sa (by rw [show ib+1=b.size by simpa using he];exact le_refl _),k3⟩)) fun he=>?_
    have hb3:ib+1<b.size:=by
     have:¬ ib+1=b.size:=by simpa using he
     omega
    refine wpS_bind (qF ez (wpS_bind (Qh T hk3 (ma z mz) mb (fun i j u v _ hij _ eu ev=>zfn sb hij eu ev) (by omega) (by omega) fun k' hk5 g3 g4=>?_)))
    dsimp -zeta only
    refine' cut ?key3 fun key=>qm (fun hk0'=>?a3) fun hk0'=>?b3
    case a3 =>
     have M4:=MI.someB M3 sa sb ez fun i u hi eu=>le_of_lt (g3 i u hi eu)
     refine qm (fun he=>wpS_pure (.inl ⟨_,rfl,Zz M4 sa (by rw [show ib+1+k'=b.size by simpa using he];exact le_refl _),k3⟩)) fun he=>?_
     have hb4:ib+1+k'<b.size:=by
      have:¬ ib+1+k'=b.size:=by simpa using he
      omega
     have g4':∀v,b[ib+1+k']?=some v->rk z<=rk v:=fun v ev=>g4 k' v (le_refl _) (by omega) ev
     have h3'':x0+2<=ia1+(ib+1+k'):=by omega
     generalize zck.push y++b.extract (ib+1) (ib+1+k')=zhF at M4 ⊢
     generalize ib+1+k'=ib1 at M4 hb4 g4' h3'' ⊢
     revert h3'';revert g4';revert hb4;revert M4;revert ib1;revert zhF
     exact key.get
    case b3=>exact key.get (zck.push y) (ib+1) M3 hb3 (fun v ev=>g4 0 v (by omega) (by omega) (by simpa using ev)) (by omega)
    intro zhF ib1 M4 hb4 g4' h3''
    refine via fun G hG=>?_
    obtain⟨v,ev,mv⟩:=qT (a:=b) (i:=ib1) hb4
    refine hG ?_
    clear hG
    have M5:=MI.oneA M4 sa ez fun u hu=>Int.le_trans (g4' v ev) (Jg sb ev u hu)
    refine wpS_bind (qF ez ?_)
    refine qm (fun he=>wpS_pure (.inl ⟨_,rfl,ZA M5 sa sb hl (by simpa using he),k3⟩)) fun he=>?_
    have ha3:ia1+1+1<a.size:=by
     have:¬ ia1+1+1=a.size:=by simpa using he
     omega
    exact qm (fun _=>wpS_pure (.inr ⟨_,_,_,_,_,_,rfl,M5,ha3,hb4,by omega,k3⟩)) fun _=>wpS_pure ⟨_,_,_,_,_,_,rfl,M5,ha3,hb4,by omega,k3⟩
end
end GS
namespace GS
noncomputable def neg (rk:Keyed->Int):Keyed->Int:=fun x=>- rk x
theorem QT {a:Array Keyed}{j:Nat}(h:j<a.size):a.reverse[j]?=a[a.size-1-j]?:=by
 rw [Array.getElem?_reverse h]
def Hi (rk:Keyed->Int)(a b:Array Keyed)(na nb:Nat)(out:Array Keyed):Prop:=MI (neg rk) a.reverse.toList b.reverse.toList (a.size-na) (b.size-nb) out.toList
section
variable {rk:Keyed->Int}{a b out:Array Keyed}{na nb:Nat}
theorem J4 (sa:a.toList.Pairwise fun x y=>rk x<=rk y):a.reverse.toList.Pairwise fun x y=>neg rk x<=neg rk y:=by
 rw [toList_reverse,List.pairwise_reverse]
 exact sa.imp fun h=>Int.neg_le_neg h
theorem zar {i:Nat}{x:Keyed}(h1:1<=i)(h2:i<=a.size)(e:a[i-1]?=some x):a.reverse[a.size-i]?=some x:=by
 rw [QT (by omega),show a.size-1-(a.size-i)=i-1 by omega]
 exact e
theorem Hi.oneA {x y:Keyed}(M:Hi rk a b na nb out)(sa:a.toList.Pairwise fun x y=>rk x<=rk y)(sb:b.toList.Pairwise fun x y=>rk x<=rk y)(h1:1<=na)(h2:na<=a.size)(h3:1<=nb)(h4:nb<=b.size)(ex:a[na-1]?=some x)(ey:b[nb-1]?=some y)(h:rk y<=rk x):Hi rk a b (na-1) nb (out.push x):=by
 have:=MI.oneA (rk:=neg rk) M (J4 sa) (zar h1 h2 ex) fun v hv=>Int.le_trans (Int.neg_le_neg h) (Jg (J4 sb) (zar h3 h4 ey) v hv)
 unfold Hi
 rw [show a.size-(na-1)=a.size-na+1 by omega]
 exact this
theorem Hi.oneB {x y:Keyed}(M:Hi rk a b na nb out)(sa:a.toList.Pairwise fun x y=>rk x<=rk y)(sb:b.toList.Pairwise fun x y=>rk x<=rk y)(h1:1<=na)(h2:na<=a.size)(h3:1<=nb)(h4:nb<=b.size)(ex:a[na-1]?=some x)(ey:b[nb-1]?=some y)(h:rk x<=rk y):Hi rk a b na (nb-1) (out.push y):=by
 have:=MI.oneB (rk:=neg rk) M (J4 sb) (zar h3 h4 ey) fun v hv=>Int.le_trans (Int.neg_le_neg h) (Jg (J4 sa) (zar h1 h2 ex) v hv)
 unfold Hi
 rw [show b.size-(nb-1)=b.size-nb+1 by omega]
 exact this
theorem ziV {i j:Nat}(h1:i<=j)(h2:j<=a.size):(a.extract i j).reverse=a.reverse.extract (a.size-j) (a.size-j+(j-i)):=by
 apply Array.ext_getElem?
 intro k
 by_cases hk:k<j-i
 ·rw [Array.getElem?_reverse (by rw [size_extract];omega),Array.getElem?_extract,Array.getElem?_extract,size_extract]
  rw [if_pos (by omega),if_pos (by rw [size_reverse];omega),QT (by omega)]
  congr 1
  omega
 ·rw [getElem?_eq_none (by rw [size_reverse,size_extract];omega),getElem?_eq_none (by rw [size_extract,size_reverse];omega)]
theorem Hi.someA {i:Nat}{y:Keyed}(M:Hi rk a b na nb out)(sa:a.toList.Pairwise fun x y=>rk x<=rk y)(sb:b.toList.Pairwise fun x y=>rk x<=rk y)(h1:i<=na)(h2:na<=a.size)(h3:1<=nb)(h4:nb<=b.size)(ey:b[nb-1]?=some y)(h:∀j x,i<=j->j<na->a[j]?=some x->rk y<=rk x):Hi rk a b i nb (out++(a.extract i na).reverse):=by
 have:=MI.someA (rk:=neg rk) (k:=na-i) M (J4 sa) (J4 sb) (zar h3 h4 ey) fun j x hj ex=>Int.neg_le_neg (h (na-1-j) x (by omega) (by omega) (by
  rw [QT (by omega)] at ex
  rw [<- ex]
  congr 1
  omega))
 unfold Hi
 rw [ziV h1 h2,show a.size-i=a.size-na+(na-i) by omega]
 exact this
theorem Hi.someB {i:Nat}{y:Keyed}(M:Hi rk a b na nb out)(sa:a.toList.Pairwise fun x y=>rk x<=rk y)(sb:b.toList.Pairwise fun x y=>rk x<=rk y)(h1:i<=nb)(h2:nb<=b.size)(h3:1<=na)(h4:na<=a.size)(ey:a[na-1]?=some y)(h:∀j x,i<=j->j<nb->b[j]?=some x->rk y<=rk x):Hi rk a b na i (out++(b.extract i nb).reverse):=(Hi.someA (a:=b) (b:=a) M.swap sb sa h1 h2 h3 h4 ey h).swap
theorem zhG {oL:List Keyed}(h:Mg (neg rk) b.reverse.toList a.reverse.toList oL):Mg rk a.toList b.toList oL.reverse:=by
 obtain⟨p,q⟩:=h
 rw [toList_reverse,toList_reverse] at p
 refine⟨?_,?_⟩
 ·refine(List.reverse_perm _).trans (p.trans (List.perm_append_comm.trans ?_))
  exact List.Perm.append (List.reverse_perm _) (List.reverse_perm _)
 ·rw [List.pairwise_reverse]
  refine q.imp fun {x y} h=>?_
  have h':- rk x<=- rk y:=h
  omega
theorem QU {i:Nat}(h:i<=a.size):(a.reverse.extract (a.size-i) a.reverse.size).toList.reverse=(a.extract 0 i).toList:=by
 rw [YN,toList_reverse,ext_toList _ _ _ (zero_le _),List.drop_zero,Nat.sub_zero]
 have:=List.reverse_take (l:=a.toList) (i:=i)
 rw [length_toList] at this
 rw [<- this,List.reverse_reverse]
theorem Hi.done (M:Hi rk a b 0 nb out)(sb:b.toList.Pairwise fun x y=>rk x<=rk y)(h:nb<=b.size):Mg rk a.toList b.toList (a.extract 0 0++b.extract 0 nb++out.reverse).toList:=by
 have h1:=Zz (rk:=neg rk) (a:=b.reverse) (b:=a.reverse) M.swap (J4 sb) (by rw [size_reverse];omega)
 have h2:=zhG h1
 rw [toList_append,toList_append,List.reverse_append,List.reverse_append,QU h] at h2
 have e0:=QU (a:=a) (i:=0) (zero_le _)
 rw [e0] at h2
 rw [toList_append,toList_append,toList_reverse,append_assoc]
 exact h2
theorem Hi.first (M:Hi rk a b na 1 out)(sa:a.toList.Pairwise fun x y=>rk x<=rk y)(sb:b.toList.Pairwise fun x y=>rk x<=rk y)(hb:0<b.size)(h:na<=a.size)(h0:∀x y,b[0]?=some x->y∈a.toList->rk x<rk y):Mg rk a.toList b.toList (b.extract 0 1++a.extract 0 na++out.reverse).toList:=by
 have h1:=ZA (rk:=neg rk) (a:=b.reverse) (b:=a.reverse) M.swap (J4 sb) (J4 sa) (fun x hx y ey=>by
  rw [size_reverse,QT (by omega),show b.size-1-(b.size-1)=0 by omega] at ey
  have hx':x∈a.toList:=by simpa using hx
  exact Int.neg_le_neg (le_of_lt (h0 y x ey hx'))) (by rw [size_reverse];omega)
 have h2:=zhG h1
 rw [toList_append,toList_append,List.reverse_append,List.reverse_append,QU h,QU (by omega)] at h2
 rw [toList_append,toList_append,toList_reverse,append_assoc]
 exact h2
end
section
variable {prog:Program}{w:World}{A:Around}{E:Value->Shared->Prop}{s:Shared}{rk:Keyed->Int}{κ:SortKind}{a0:Array Keyed}
set_option maxHeartbeats 8000000 in
theorem zgn {st0:SortSt}{a b:Array Keyed}{Q:Array Keyed->SortSt->Prop}(T:Tells prog w A s κ rk a0)(hk:kindOf st0=κ)(ma:∀x∈a.toList,x∈a0.toList)(mb:∀x∈b.toList,x∈a0.toList)(sa:a.toList.Pairwise fun x y=>rk x<=rk y)(sb:b.toList.Pairwise fun x y=>rk x<=rk y)
  (ha:0<a.size) (hb:0<b.size) (h0:∀x y,b[0]?=some x->y∈a.toList->rk x<rk y) (hl:∀x∈b.toList,∀y,a[a.size-1]?=some y->rk x<rk y)
  (h:∀out st',Kept st0 st'->Mg rk a.toList b.toList out.toList->Q out st'):wpS (model prog w) A E s (mergeHi' a b) Q st0:=by
 refine wpS_bind (wpS_lift (wpAny_rule ⟨rfl,?_⟩))
 obtain⟨z0,ez0,_⟩:=qT (a:=a) (i:=a.size-1) (by omega)
 obtain⟨y0,ey0,my0⟩:=qT (a:=b) (i:=b.size-1) (by omega)
 refine wpS_bind (qF ez0 ?_)
 have M0:Hi rk a b a.size b.size #[]:=by
  unfold Hi
  rw [sub_self,sub_self]
  exact⟨by simp,List.Pairwise.nil,(fun x hx=>nomatch hx),(fun x hx=>nomatch hx)⟩
 have M1:Hi rk a b (a.size-1) b.size #[z0]:=M0.oneA sa sb (by omega) (le_refl _) (by omega) (le_refl _) ez0 ey0 (le_of_lt (hl y0 my0 z0 ez0))
 dsimp -zeta only
 refine qm (fun hc=>wpS_pure (h _ _ (Kept.refl _) ?_)) fun hc=>?_
 ·have e:a.size-1=0:=by simpa using hc
  rw [e] at M1 ⊢
  exact M1.done sb (le_refl _)
 refine qm (fun hc2=>wpS_pure (h _ _ (Kept.refl _) ?_)) fun hc2=>?_
 ·have e:b.size=1:=by simpa using hc2
  rw [e] at M1 ⊢
  exact M1.first sa sb hb (by omega) h0
 have ha2:1<=a.size-1:=by
  have:¬ a.size-1=0:=by simpa using hc
  omega
 have hb2:1<b.size:=by
  have:¬ b.size=1:=by simpa using hc2
  omega
 refine wpS_bind (wpS_get ?_)
 refine wpS_bind (wpS_mono (wpS_forRange (I:=fun x c st'=>∃na nb out mg,c=(none,na,nb,out,mg)/\Hi rk a b na nb out/\1<=na/\na<a.size/\1<nb/\nb<=b.size/\na+nb+x+1<=a.size+b.size/\Kept st0 st')
  (Q:=fun c st'=>∃res,c.1=some res/\Mg rk a.toList b.toList res.toList/\Kept st0 st') ?step ?fin ⟨_,_,_,_,rfl,M1,ha2,by omega,hb2,le_refl _,by omega,Kept.refl _⟩) ?post)
 case fin =>
  rintro c st' ⟨na,nb,out,mg,rfl,M,h1,h2,h3,h4,h5,k⟩
  omega
 case post =>
  rintro⟨c1,c2⟩ st' ⟨res,e,hM,k⟩
  dsimp only at e ⊢
  subst e
  exact wpS_pure (h _ _ k hM)
 case step =>
  intro x0 c st1 _ hx0 hI
  refine via fun G hG=>?_
  obtain⟨na,nb,out,mg,rfl,M,h1,h2,h3,h4,h5,k1⟩:=hI
  refine hG ?_
  clear hG
  have hk1:kindOf st1=κ:=k1.kind.trans hk
  dsimp -zeta only
  refine wpS_bind (wpS_mono (wpS_forRange (I:=fun x c st'=>st'=st1/\∃na nb out ac bc,c=(none,na,nb,out,ac,bc)/\Hi rk a b na nb out/\1<=na/\na<a.size/\1<nb/\nb<=b.size/\na+nb+x0+1+x<=a.size+b.size)
   (Q:=fun c st'=>st'=st1/\((∃res,c.1=some res/\Mg rk a.toList b.toList res.toList)\/∃na nb out ac bc,c=(none,na,nb,out,ac,bc)/\Hi rk a b na nb out/\1<=na/\na<a.size/\1<nb/\nb<=b.size/\na+nb+x0+2<=a.size+b.size)) ?step1 ?fin1 ⟨rfl,_,_,_,_,_,rfl,M,h1,h2,h3,h4,by omega⟩) ?post1)
  case fin1 =>
   rintro c st' ⟨rfl,na,nb,out,ac,bc,rfl,M,h1,h2,h3,h4,h5⟩
   exact⟨rfl,.inr ⟨na,nb,out,ac,bc,rfl,M,h1,h2,h3,h4,by omega⟩⟩
  case step1 =>
   intro x c st' _ hx hI
   refine via fun G hG=>?_
   obtain⟨rfl,na,nb,out,ac,bc,rfl,M,h1,h2,h3,h4,h5⟩:=hI
   obtain⟨y,ey,my⟩:=qT (a:=b) (i:=nb-1) (by omega)
   obtain⟨z,ez,mz⟩:=qT (a:=a) (i:=na-1) (by omega)
   refine hG ?_
   clear hG
   dsimp -zeta only
   refine wpS_bind (qF ey (wpS_bind (qF ez (wpS_bind (zhB T hk1 (mb y my) (ma z mz) ?_)))))
   dsimp -zeta only
   refine qm (fun hlt=>?_) fun hlt=>?_
   ·have hlt':rk y<rk z:=of_decide_eq_true hlt
    have M2:=M.oneA sa sb h1 (by omega) (by omega) h4 ez ey (le_of_lt hlt')
    refine wpS_bind (qF ez ?_)
    refine qm (fun he=>wpS_pure ⟨rfl,.inl ⟨_,rfl,?_⟩⟩) fun he=>?_
    ·have e:na-1=0:=by simpa using he
     rw [e] at M2 ⊢
     exact M2.done sb h4
    have hn:1<=na-1:=by
     have:¬ na-1=0:=by simpa using he
     omega
    exact qm (fun _=>wpS_pure ⟨rfl,.inr ⟨_,_,_,_,_,rfl,M2,hn,by omega,h3,h4,by omega⟩⟩) fun _=>wpS_pure ⟨rfl,_,_,_,_,_,rfl,M2,hn,by omega,h3,h4,by omega⟩
   ·have hlt':¬ rk y<rk z:=fun q=>hlt (decide_eq_true q)
    have M2:=M.oneB sa sb h1 (by omega) (by omega) h4 ez ey (Int.not_lt.mp hlt')
    refine wpS_bind (qF ey ?_)
    refine qm (fun he=>wpS_pure ⟨rfl,.inl ⟨_,rfl,?_⟩⟩) fun he=>?_
    ·have e:nb-1=1:=by simpa using he
     rw [e] at M2 ⊢
     exact M2.first sa sb hb (by omega) h0
    have hn:1<nb-1:=by
     have:¬ nb-1=1:=by simpa using he
     omega
    exact qm (fun _=>wpS_pure ⟨rfl,.inr ⟨_,_,_,_,_,rfl,M2,h1,h2,hn,by omega,by omega⟩⟩) fun _=>wpS_pure ⟨rfl,_,_,_,_,_,rfl,M2,h1,h2,hn,by omega,by omega⟩
  case post1 =>
   intro c st' hI
   refine via fun G hG=>?_
   rcases hI with ⟨rfl,hc1 | ⟨na,nb,out,ac,bc,rfl,M,h1,h2,h3,h4,h5⟩⟩
   all_goals (refine hG ?_;clear hG)
   ·obtain⟨res,e,hM⟩:=hc1
    obtain⟨c1,c2⟩:=c
    dsimp only at e ⊢
    subst e
    exact wpS_pure ⟨res,rfl,hM,k1⟩
   dsimp -zeta only
   refine wpS_bind (wpS_lift (wpAny_rule ⟨rfl,?_⟩))
   refine wpS_bind (wpS_mono (wpS_forRange (I:=fun x c st2=>∃na nb out mg ac bc,c=(none,na,nb,out,mg,ac,bc)/\Hi rk a b na nb out/\1<=na/\na<a.size/\1<nb/\nb<=b.size/\na+nb+x0+2<=a.size+b.size/\Kept st0 st2)
    (Q:=fun c st2=>(∃res,c.1=some res/\Mg rk a.toList b.toList res.toList/\Kept st0 st2)\/∃na nb out mg ac bc,c=(none,na,nb,out,mg,ac,bc)/\Hi rk a b na nb out/\1<=na/\na<a.size/\1<nb/\nb<=b.size/\na+nb+x0+2<=a.size+b.size/\Kept st0 st2) ?step2 ?fin2 ⟨_,_,_,_,_,_,rfl,M,h1,h2,h3,h4,h5,k1⟩) ?post2)
   case fin2 =>
    rintro c st2 hc
    exact .inr hc
   case post2 =>
    rintro c st2 (⟨res,e,hM,k2⟩ | ⟨na,nb,out,mg,ac,bc,rfl,M,h1,h2,h3,h4,h5,k2⟩)
    ·obtain⟨c1,c2⟩:=c
     dsimp only at e ⊢
     subst e
     exact wpS_pure ⟨res,rfl,hM,k2⟩
    ·dsimp -zeta only
     exact wpS_bind (zcj k2 fun st3 k3=>wpS_pure ⟨_,_,_,_,rfl,M,h1,h2,h3,h4,by omega,k3⟩)
   case step2 =>
    intro x c st2 _ hx hI
    refine via fun G hG=>?_
    obtain⟨na,nb,out,mg,ac,bc,rfl,M,h1,h2,h3,h4,h5,k2⟩:=hI
    obtain⟨y,ey,my⟩:=qT (a:=b) (i:=nb-1) (by omega)
    refine hG ?_
    clear hG
    dsimp -zeta only
    refine' cut ?ziT fun key=>qm (fun hmg=>?a1) fun hmg=>?b1
    case a1 =>
     generalize mg-1=mg1
     revert mg1
     exact key.get
    case b1=>exact key.get mg
    intro mg1
    dsimp -zeta only
    refine wpS_bind (zcj k2 fun st3 k3=>?_)
    have hk3:kindOf st3=κ:=k3.kind.trans hk
    refine wpS_bind (qF ey (wpS_bind (Qg T hk3 (mb y my) ma (fun i j u v _ hij _ eu ev=>zfn sa hij eu ev) (by omega) (by omega) fun k hk4 g1 g2=>?_)))
    dsimp -zeta only
    refine' cut ?ziU fun key=>qm (fun hk0=>?a2) fun hk0=>?b2
    case a2 =>
     have M2:=M.someA sa sb (i:=k) (by omega) (by omega) (by omega) h4 ey fun j u hj1 hj2 eu=>le_of_lt (g2 j u hj1 hj2 (by simpa using eu))
     refine qm (fun he=>wpS_pure (.inl ⟨_,rfl,(by
      have e:k=0:=by simpa using he
      rw [e] at M2 ⊢
      exact M2.done sb h4),k3⟩)) fun he=>?_
     have h1':1<=k:=by
      have:¬ k=0:=by simpa using he
      omega
     have h2':k<a.size:=by omega
     have h5':k+nb+x0+2<=a.size+b.size:=by omega
     have g1':∀z,a[k-1]?=some z->rk z<=rk y:=fun z ez=>g1 (k-1) z (by omega) (by simpa using ez)
     generalize out++(a.extract k na).reverse=zck at M2 ⊢
     generalize na-k=kk
     generalize k=na1 at M2 h1' h2' h5' g1' ⊢
     revert g1';revert h5';revert h2';revert h1';revert M2;revert na1;revert kk;revert zck
     exact key.get
    case b2=>exact key.get out (na-k) na M h1 h2 h5 fun z ez=>g1 (na-1) z (by omega) (by simpa using ez)
    intro zck kk na1 M2 h1' h2' h5' g1'
    refine via fun G hG=>?_
    obtain⟨z,ez,mz⟩:=qT (a:=a) (i:=na1-1) (by omega)
    refine hG ?_
    clear hG
    have M3:=M2.oneB sa sb h1' (by omega) (by omega) h4 ez ey (g1' z ez)
    refine wpS_bind (qF ey ?_)
    refine qm (fun he=>wpS_pure (.inl ⟨_,rfl,(by
     have e:nb-1=1:=by simpa using he
     rw [e] at M3 ⊢
     exact M3.first sa sb hb (by omega) h0),k3⟩)) fun he=>?_
    have hn:1<nb-1:=by
     have:¬ nb-1=1:=by simpa using he
     omega
    refine wpS_bind (qF ez (wpS_bind (Qh T hk3 (ma z mz) mb (fun i j u v _ hij _ eu ev=>zfn sb hij eu ev) (by omega) (by omega) fun k' hk5 g3 g4=>?_)))
    dsimp -zeta only
    refine' cut ?key3 fun key=>qm (fun hk0'=>?a3) fun hk0'=>?b3
    case a3 =>
     have M4:=M3.someB sa sb (i:=k') (by omega) (by omega) h1' (by omega) ez fun j u hj1 hj2 eu=>g4 j u hj1 hj2 (by simpa using eu)
     refine qm (fun he=>wpS_pure (.inl ⟨_,rfl,(by
      have e:k'=1:=by simpa using he
      rw [e] at M4 ⊢
      exact M4.first sa sb hb (by omega) h0),k3⟩)) fun he=>?_
     have k1':1<=k':=by
      refine Nat.one_le_iff_ne_zero.mpr fun hz=>?_
      obtain⟨v,ev,mv⟩:=qT (a:=b) (i:=0) hb
      have q1:=g4 0 v (by omega) (by omega) (by simpa using ev)
      have q2:=h0 v z ev mz
      omega
     refine qm (fun he2=>absurd (show k'=0 by simpa using he2) (by omega)) fun he2=>?_
     have hn':1<k':=by
      have:¬ k'=1:=by simpa using he
      omega
     have hb':k'<=b.size:=by omega
     have h5'':na1+k'+x0+2<=a.size+b.size:=by omega
     have g3':∀v,b[k'-1]?=some v->rk v<=rk z:=fun v ev=>le_of_lt (g3 (k'-1) v (by omega) (by simpa using ev))
     generalize zck.push y++(b.extract k' (nb-1)).reverse=zhF at M4 ⊢
     generalize nb-1-k'=kk'
     generalize k'=nb1 at M4 hn' hb' h5'' g3' ⊢
     revert g3';revert h5'';revert hb';revert hn';revert M4;revert nb1;revert kk';revert zhF
     exact key.get
    case b3=>exact key.get (zck.push y) (nb-1-k') (nb-1) M3 hn (by omega) (by omega) fun v ev=>le_of_lt (g3 (nb-1-1) v (by omega) (by simpa using ev))
    intro zhF kk' nb1 M4 hn' hb' h5'' g3'
    obtain⟨v,ev,mv⟩:=qT (a:=b) (i:=nb1-1) (by omega)
    have M5:=M4.oneA sa sb h1' (by omega) (by omega) hb' ez ev (g3' v ev)
    refine wpS_bind (qF ez ?_)
    refine qm (fun he=>wpS_pure (.inl ⟨_,rfl,(by
     have e:na1-1=0:=by simpa using he
     rw [e] at M5 ⊢
     exact M5.done sb hb'),k3⟩)) fun he=>?_
    have hn2:1<=na1-1:=by
     have:¬ na1-1=0:=by simpa using he
     omega
    exact qm (fun _=>wpS_pure (.inr ⟨_,_,_,_,_,_,rfl,M5,hn2,by omega,hn',hb',by omega,k3⟩)) fun _=>wpS_pure ⟨_,_,_,_,_,_,rfl,M5,hn2,by omega,hn',hb',by omega,k3⟩
end
end GS
namespace GS
theorem zbA (sa:Nat):∀(l:List Keyed) (j:Nat) (arr:Array Keyed),((l.zipIdx j).foldl (fun a (p:Keyed×Nat)=>a.setIfInBounds (sa+p.2) p.1) arr).size=arr.size
 | [],_,_=>rfl
 | x::l,j,arr=>by
  rw [List.zipIdx_cons,foldl_cons,zbA sa l (j+1)]
  exact Array.size_setIfInBounds
theorem ziW (sa:Nat):∀(l:List Keyed) (j:Nat) (arr:Array Keyed) (i:Nat),sa+j+l.length<=arr.size->((l.zipIdx j).foldl (fun a (p:Keyed×Nat)=>a.setIfInBounds (sa+p.2) p.1) arr)[i]?=if sa+j<=i/\i<sa+j+l.length then l[i-(sa+j)]? else arr[i]?:=by
 intro l
 induction l with
 | nil =>
  intro j arr i h
  rw [if_neg (by simp only [length_nil];omega)]
  rfl
 | cons x l ih =>
  intro j arr i h
  rw [length_cons] at h
  rw [List.zipIdx_cons,foldl_cons,ih (j+1) _ i (by rw [Array.size_setIfInBounds];omega),length_cons]
  by_cases h1:sa+(j+1)<=i/\i<sa+(j+1)+l.length
  ·rw [if_pos h1,if_pos (by omega),show i-(sa+j)=(i-(sa+(j+1)))+1 by omega,List.getElem?_cons_succ]
  ·rw [if_neg h1]
   by_cases h2:i=sa+j
   ·subst h2
    rw [if_pos (by omega),sub_self,List.getElem?_cons_zero]
    show (arr.setIfInBounds (sa+j) x)[sa+j]?=some x
    rw [Array.getElem?_setIfInBounds,if_pos rfl,if_pos (by omega)]
   ·rw [if_neg (by omega)]
    show (arr.setIfInBounds (sa+j) x)[i]?=arr[i]?
    rw [Array.getElem?_setIfInBounds,if_neg (fun e=>h2 e.symm)]
section
variable {prog:Program}{w:World}{A:Around}{E:Value->Shared->Prop}{s:Shared}{rk:Keyed->Int}{κ:SortKind}{a0:Array Keyed}
theorem yd {xs:Array Keyed}{lo hi:Nat}(u:Up rk xs lo hi){i j:Nat}{x y:Keyed}(h1:lo<=i)(h2:i<=j)(h3:j<hi)(ex:xs[i]?=some x)(ey:xs[j]?=some y):rk x<=rk y:=by
 have:=u i j h1 h2 h3
 unfold Rk at this
 rw [ex,ey] at this
 exact this
theorem zjs {xs:Array Keyed}{lo hi:Nat}(hz:hi<=xs.size)(h:∀i j x y,lo<=i->i<=j->j<hi->xs[i]?=some x->xs[j]?=some y->rk x<=rk y):Up rk xs lo hi:=fun i j h1 h2 h3=>by
 obtain⟨x,ex,_⟩:=qT (a:=xs) (i:=i) (by omega)
 obtain⟨y,ey,_⟩:=qT (a:=xs) (i:=j) (by omega)
 unfold Rk
 rw [ex,ey]
 exact h i j x y h1 h2 h3 ex ey
theorem zfo {xs:Array Keyed}{i:Nat}{x:Keyed}(e:xs[i]?=some x):x∈xs.toList:=mem_of_getElem? (by rw [getElem?_toList];exact e)
theorem ext_get {xs:Array Keyed}{i j k:Nat}(h1:i<=j)(h2:j<=xs.size)(hk:k<j-i):(xs.extract i j)[k]?=xs[i+k]?:=by
 rw [Array.getElem?_extract,if_pos (by omega)]
theorem YO {xs:Array Keyed}{i j:Nat}(h2:j<=xs.size):(xs.extract i j).size=j-i:=by
 rw [size_extract]
 omega
theorem zhH {xs:Array Keyed}{lo hi i j:Nat}(u:Up rk xs lo hi)(h1:lo<=i)(h2:j<=hi)(h3:j<=xs.size):(xs.extract i j).toList.Pairwise fun x y=>rk x<=rk y:=by
 rw [List.pairwise_iff_getElem]
 intro m n hm hn hmn
 rw [length_toList,YO h3] at hm hn
 have em:=ext_get (xs:=xs) (i:=i) (j:=j) (k:=m) (by omega) h3 hm
 have en:=ext_get (xs:=xs) (i:=i) (j:=j) (k:=n) (by omega) h3 hn
 refine yd u (i:=i+m) (j:=i+n) (by omega) (by omega) (by omega) ?_ ?_
 ·rw [<- em,getElem_toList]
  exact getElem?_pos _ _ _
 ·rw [<- en,getElem_toList]
  exact getElem?_pos _ _ _
theorem ext_mem {xs:Array Keyed}{i j:Nat}{x:Keyed}(h3:j<=xs.size)(h:x∈(xs.extract i j).toList):∃k,i<=k/\k<j/\xs[k]?=some x:=by
 obtain⟨k,hk,e⟩:=List.getElem_of_mem h
 rw [length_toList,YO h3] at hk
 refine⟨i+k,by omega,by omega,?_⟩
 rw [<- ext_get (xs:=xs) (i:=i) (j:=j) (by omega) h3 hk,<- e,getElem_toList]
 exact getElem?_pos _ _ _
theorem zk8 {st st1:SortSt}{Q:PUnit->SortSt->Prop}(h:∀st2,st2=st1->Q ⟨⟩ st2):wpS (model prog w) A E s (set st1:StateT SortSt Sem PUnit) Q st:=by
 unfold wpS
 rw [StateT.run_set]
 exact wpAny_pure ⟨rfl,h _ rfl⟩
set_option maxHeartbeats 8000000 in
theorem zgo {st:SortSt}{i sa na p1 nb p2:Nat}{Q:Bool->SortSt->Prop}(T:Tells prog w A s κ rk a0)(O:Ok κ a0 st)(e1:(pendingOf st)[i]?=some (sa,na,p1))(e2:(pendingOf st)[i+1]?=some (sa+na,nb,p2))(hna:1<=na)(hnb:1<=nb)(hz:sa+na+nb<=a0.size)(u1:Up rk (arrOf st) sa (sa+na))(u2:Up rk (arrOf st) (sa+na) (sa+na+nb))
  (h:∀st',Ok κ a0 st'->pendingOf st'=((pendingOf st).setIfInBounds i (sa,na+nb,p1)).eraseIdxIfInBounds (i+1)->Up rk (arrOf st') sa (sa+na+nb)->(∀j:Nat,(j<sa\/sa+na+nb<=j)->(arrOf st')[j]?=(arrOf st)[j]?)->Q true st'):wpS (model prog w) A E s (mergeAt' i) Q st:=by
 have hsz:=O.size
 have mX:∀x∈(arrOf st).toList,x∈a0.toList:=fun x hx=>(Array.perm_iff_toList_perm.mp O.perm).mem_iff.mp hx
 obtain⟨b0,eb0,mb0⟩:=qT (a:=arrOf st) (i:=sa+na) (by omega)
 refine wpS_bind (wpS_get ?_)
 rw [e1,e2]
 dsimp only
 refine wpS_bind (zk8 fun st1 hst=>?_)
 have k1:kindOf st1=κ:=by rw [hst];exact O.kind
 have ea:arrOf st1=arrOf st:=by rw [hst]
 have ep:pendingOf st1=((pendingOf st).setIfInBounds i (sa,na+nb,p1)).eraseIdxIfInBounds (i+1):=by rw [hst]
 have ef:failedOf st1=none:=by rw [hst];exact O.good
 have O1:Ok κ a0 st1:=⟨by rw [ea];exact O.perm,k1,ef⟩
 refine wpS_bind (qF eb0 (wpS_bind (Qg T k1 (mX b0 mb0) mX (fun p q u v h1 h2 h3 eu ev=>yd u1 h1 h2 h3 eu ev) (by show sa+na<=(arrOf st).size;omega) (by omega) fun k hk g1 g2=>?_)))
 dsimp only
 refine qm (fun hc=>wpS_pure (h st1 O1 ep (zjs (by rw [ea];omega) fun p q u v h1 h2 h3 eu ev=>?_) fun j _=>by rw [ea])) fun hc=>?_
 ·have ek:k=na:=by
   have:na-k=0:=by simpa using hc
   omega
  rw [ea] at eu ev
  by_cases c1:q<sa+na
  ·exact yd u1 h1 h2 c1 eu ev
  ·by_cases c2:p<sa+na
   ·have q1:=g1 (p-sa) u (by omega) (by rw [show sa+(p-sa)=p by omega];exact eu)
    have q2:=yd u2 (le_refl _) (by omega) h3 eb0 ev
    omega
   ·exact yd u2 (by omega) h2 h3 eu ev
 have hkn:k<na:=by
  have:¬ na-k=0:=by simpa using hc
  omega
 obtain⟨al,eal,mal⟩:=qT (a:=arrOf st) (i:=sa+k+(na-k)-1) (by omega)
 have eal':(arrOf st)[sa+na-1]?=some al:=by
  rw [<- eal]
  congr 1
  omega
 refine wpS_bind (qF eal (wpS_bind (Qh T k1 (mX al mal) mX (fun p q u v h1 h2 h3 eu ev=>yd u2 h1 h2 h3 eu ev) (by show sa+na+nb<=(arrOf st).size;omega) (by omega) fun k' hk' g3 g4=>?_)))
 dsimp only
 have b0a:rk b0<rk al:=g2 (na-1) al (by omega) (by omega) (by rw [show sa+(na-1)=sa+na-1 by omega];exact eal')
 have k'1:1<=k':=by
  refine Nat.one_le_iff_ne_zero.mpr fun hz0=>?_
  have:=g4 0 b0 (by omega) (by omega) (by simpa using eb0)
  omega
 refine qm (fun hc=>absurd (show k'=0 by simpa using hc) (by omega)) fun _=>?_
 have X3:sa+na<=(arrOf st).size:=by omega
 have Y3:sa+na+k'<=(arrOf st).size:=by omega
 have xs:=zhH (i:=sa+k) (j:=sa+na) u1 (by omega) (le_refl _) X3
 have ys:=zhH (i:=sa+na) (j:=sa+na+k') u2 (le_refl _) (by omega) Y3
 have xm:∀x∈((arrOf st).extract (sa+k) (sa+na)).toList,x∈a0.toList:=fun x hx=>by
  obtain⟨j,_,_,ej⟩:=ext_mem X3 hx
  exact mX x (zfo ej)
 have ym:∀x∈((arrOf st).extract (sa+na) (sa+na+k')).toList,x∈a0.toList:=fun x hx=>by
  obtain⟨j,_,_,ej⟩:=ext_mem Y3 hx
  exact mX x (zfo ej)
 have xz:((arrOf st).extract (sa+k) (sa+na)).size=na-k:=by
  rw [YO X3]
  omega
 have yz:((arrOf st).extract (sa+na) (sa+na+k')).size=k':=by
  rw [YO Y3]
  omega
 have first:∀x y,((arrOf st).extract (sa+na) (sa+na+k'))[0]?=some x->y∈((arrOf st).extract (sa+k) (sa+na)).toList->rk x<rk y:=fun x y ex my=>by
  rw [ext_get (by omega) Y3 (by omega),Nat.add_zero,eb0] at ex
  cases ex
  obtain⟨j,j1,j2,ej⟩:=ext_mem X3 my
  exact g2 (j-sa) y (by omega) (by omega) (by rw [show sa+(j-sa)=j by omega];exact ej)
 have last:∀x∈((arrOf st).extract (sa+na) (sa+na+k')).toList,∀y,((arrOf st).extract (sa+k) (sa+na))[((arrOf st).extract (sa+k) (sa+na)).size-1]?=some y->rk x<rk y:=fun x mx y ey=>by
  rw [xz,ext_get (by omega) X3 (by omega),show sa+k+(na-k-1)=sa+na-1 by omega,eal'] at ey
  cases ey
  obtain⟨j,j1,j2,ej⟩:=ext_mem Y3 mx
  exact g3 (j-(sa+na)) x (by omega) (by rw [show sa+na+(j-(sa+na))=j by omega];exact ej)
 have tail:∀(merged:Array Keyed) (st2:SortSt),Kept st1 st2->Mg rk ((arrOf st).extract (sa+k) (sa+na)).toList ((arrOf st).extract (sa+na) (sa+na+k')).toList merged.toList ->
   Q true (setArr st2 (merged.toList.zipIdx.foldl (fun a (p:Keyed×Nat)=>a.setIfInBounds (sa+k+p.2) p.1) (arrOf st2))):=fun merged st2 K2 hM=>by
  have ea2:arrOf st2=arrOf st:=K2.arr.trans ea
  have ml:merged.toList.length=na-k+k':=by
   rw [hM.1.length_eq,length_append,length_toList,length_toList,xz,yz]
  have at_:∀j:Nat,(merged.toList.zipIdx.foldl (fun a (p:Keyed×Nat)=>a.setIfInBounds (sa+k+p.2) p.1) (arrOf st2))[j]?=if sa+k<=j/\j<sa+na+k' then merged.toList[j-(sa+k)]? else (arrOf st)[j]?:=fun j=>by
   have:=ziW (sa+k) merged.toList 0 (arrOf st2) j (by rw [ea2,ml];omega)
   rw [this,ea2,Nat.add_zero,ml]
   by_cases c:sa+k<=j/\j<sa+na+k'
   ·rw [if_pos c,if_pos (by omega)]
   ·rw [if_neg c,if_neg (by omega)]
  have zA:=zbA (sa+k) merged.toList 0 (arrOf st2)
  generalize hN:merged.toList.zipIdx.foldl (fun a (p:Keyed×Nat)=>a.setIfInBounds (sa+k+p.2) p.1) (arrOf st2)=N at at_ zA ⊢
  have zN:N.size=a0.size:=by
   rw [zA,ea2,hsz]
  have nl:N.toList=(arrOf st).toList.take (sa+k)++merged.toList++(arrOf st).toList.drop (sa+na+k'):=by
   refine List.ext_getElem? fun j=>?_
   rw [getElem?_toList,at_ j]
   by_cases c1:j<sa+k
   ·rw [if_neg (by omega),append_assoc,getElem?_append_left (by rw [length_take,length_toList];omega),List.getElem?_take,if_pos c1,getElem?_toList]
   ·rw [append_assoc,List.getElem?_append_right (by rw [length_take,length_toList];omega),length_take,length_toList,show min (sa+k) (arrOf st).size=sa+k by omega]
    by_cases c2:j<sa+na+k'
    ·rw [if_pos ⟨by omega,c2⟩,getElem?_append_left (by rw [ml];omega)]
    ·rw [if_neg (by omega),List.getElem?_append_right (by rw [ml];omega),List.getElem?_drop,getElem?_toList,ml]
     congr 1
     omega
  have ol:(arrOf st).toList=(arrOf st).toList.take (sa+k)++(((arrOf st).extract (sa+k) (sa+na)).toList++((arrOf st).extract (sa+na) (sa+na+k')).toList)++(arrOf st).toList.drop (sa+na+k'):=by
   rw [ext_toList _ _ _ (by omega),ext_toList _ _ _ (by omega)]
   have d1:(arrOf st).toList.drop (sa+na)=((arrOf st).toList.drop (sa+k)).drop (na-k):=by
    rw [List.drop_drop]
    congr 1
    omega
   have d2:(arrOf st).toList.drop (sa+na+k')=((arrOf st).toList.drop (sa+na)).drop k':=by
    rw [List.drop_drop]
   rw [d2,show sa+na+k'-(sa+na)=k' by omega,append_assoc,append_assoc,take_append_drop,d1,show sa+na-(sa+k)=na-k by omega,take_append_drop,take_append_drop]
  refine h _ ⟨?_,K2.kind.trans k1,K2.bad.trans ef⟩ (K2.pend.trans ep) (zjs (by show _<=N.size;omega) fun p q u v h1 h2 h3 eu ev=>?_) fun j hj=>?_
  ·refine Array.Perm.trans ?_ O.perm
   rw [Array.perm_iff_toList_perm]
   show N.toList.Perm _
   have pm:=List.Perm.append_right ((arrOf st).toList.drop (sa+na+k')) (List.Perm.append_left ((arrOf st).toList.take (sa+k)) hM.1)
   rw [<- ol,<- nl] at pm
   exact pm
  ·have eu':N[p]?=some u:=eu
   have ev':N[q]?=some v:=ev
   rw [at_] at eu' ev'
   have mid:∀{j:Nat} {x:Keyed},sa+k<=j->j<sa+na+k'->merged.toList[j-(sa+k)]?=some x->(∃m,sa+k<=m/\m<sa+na/\(arrOf st)[m]?=some x)\/∃m,sa+na<=m/\m<sa+na+k'/\(arrOf st)[m]?=some x:=fun _ _ e=>by
    rcases List.mem_append.mp (hM.1.mem_iff.mp (mem_of_getElem? e)) with z | z
    ·exact .inl (ext_mem X3 z)
    ·exact .inr (ext_mem Y3 z)
   by_cases c1:p<sa+k
   ·rw [if_neg (by omega)] at eu'
    by_cases c2:q<sa+k
    ·rw [if_neg (by omega)] at ev'
     exact yd u1 h1 h2 (by omega) eu' ev'
    ·have low:∀{m:Nat} {x:Keyed},sa+na<=m->m<sa+na+nb->(arrOf st)[m]?=some x->rk u<=rk x:=fun m1 m2 em=>by
      have q1:=g1 (p-sa) u (by omega) (by rw [show sa+(p-sa)=p by omega];exact eu')
      exact Int.le_trans q1 (yd u2 (le_refl _) m1 m2 eb0 em)
     by_cases c3:q<sa+na+k'
     ·rw [if_pos ⟨by omega,c3⟩] at ev'
      rcases mid (by omega) c3 ev' with ⟨m,m1,m2,em⟩ | ⟨m,m1,m2,em⟩
      ·exact yd u1 h1 (by omega) m2 eu' em
      ·exact low m1 (by omega) em
     ·rw [if_neg (by omega)] at ev'
      exact low (by omega) h3 ev'
   ·by_cases c4:p<sa+na+k'
    ·rw [if_pos ⟨by omega,c4⟩] at eu'
     by_cases c3:q<sa+na+k'
     ·rw [if_pos ⟨by omega,c3⟩] at ev'
      by_cases epq:p=q
      ·subst epq
       rw [eu'] at ev'
       cases ev'
       exact Int.le_refl _
      ·have sp:=hM.2
       rw [List.pairwise_iff_getElem] at sp
       obtain⟨a1,a2⟩:=List.getElem?_eq_some_iff.mp eu'
       obtain⟨b1,b2⟩:=List.getElem?_eq_some_iff.mp ev'
       have:=sp _ _ a1 b1 (by omega)
       rw [a2,b2] at this
       exact this
     ·rw [if_neg (by omega)] at ev'
      have q4:=g4 (q-(sa+na)) v (by omega) (by omega) (by rw [show sa+na+(q-(sa+na))=q by omega];exact ev')
      rcases mid (by omega) c4 eu' with ⟨m,m1,m2,em⟩ | ⟨m,m1,m2,em⟩
      ·exact Int.le_trans (yd u1 (by omega) (by omega) (by omega) em eal') q4
      ·exact yd u2 m1 (by omega) h3 em ev'
    ·rw [if_neg (by omega)] at eu' ev'
     exact yd u2 (by omega) h2 h3 eu' ev'
  ·show N[j]?=_
   rw [at_,if_neg (by omega)]
 refine qm (fun _=>?_) fun _=>?_
 ·refine wpS_bind (zgm T k1 xm ym xs ys (Nat.lt_of_lt_of_eq (show 0<na-k by omega) xz.symm) (Nat.lt_of_lt_of_eq (show 0<k' by omega) yz.symm) (fun x y ex my=>le_of_lt (first x y ex my)) last fun out st2 K2 hM=>?_)
  refine wpS_bind (wpS_modify (wpS_bind (wpS_get ?_)))
  rw [show (failedOf st2).isNone=true by rw [K2.bad,ef];rfl]
  exact wpS_pure (tail out st2 K2 hM)
 ·refine wpS_bind (zgn T k1 xm ym xs ys (Nat.lt_of_lt_of_eq (show 0<na-k by omega) xz.symm) (Nat.lt_of_lt_of_eq (show 0<k' by omega) yz.symm) first last fun out st2 K2 hM=>?_)
  refine wpS_bind (wpS_modify (wpS_bind (wpS_get ?_)))
  rw [show (failedOf st2).isNone=true by rw [K2.bad,ef];rfl]
  exact wpS_pure (tail out st2 K2 hM)
end
end GS
namespace GS
def Z2:List (Nat×Nat×Nat)->Nat->Nat->Prop
 | [],s,e=>s=e
 | r::l,s,e=>r.1=s/\1<=r.2.1/\Z2 l (s+r.2.1) e
theorem jT:∀{l1 l2:List (Nat×Nat×Nat)} {s e:Nat},Z2 (l1++l2) s e ↔ ∃m,Z2 l1 s m/\Z2 l2 m e
 | [],l2,s,e=>⟨fun h=>⟨s,rfl,h⟩,fun ⟨m,h1,h2⟩=>by
  have e:s=m:=h1
  subst e
  exact h2⟩
 | r::l1,l2,s,e=>by
  constructor
  ·rintro⟨h1,h2,h3⟩
   obtain⟨m,h4,h5⟩:=jT.mp h3
   exact⟨m,⟨h1,h2,h4⟩,h5⟩
  ·rintro⟨m,⟨h1,h2,h3⟩,h4⟩
   exact⟨h1,h2,jT.mpr ⟨m,h3,h4⟩⟩
theorem ZC:∀{l:List (Nat×Nat×Nat)} {s e:Nat},Z2 l s e->s<=e/\l.length+s<=e/\∀r∈l,s<=r.1/\r.1+r.2.1<=e
 | [],s,e,h=>by
  have e':s=e:=h
  subst e'
  exact⟨le_refl _,by simp,fun r hr=>nomatch hr⟩
 | r::l,s,e,⟨h1,h2,h3⟩=>by
  obtain⟨a1,a2,a3⟩:=ZC h3
  refine⟨by omega,by rw [length_cons];omega,fun q hq=>?_⟩
  rcases List.mem_cons.mp hq with rfl | hq
  ·omega
  ·have:=a3 q hq
   omega
section
variable {prog:Program}{w:World}{A:Around}{E:Value->Shared->Prop}{s:Shared}{rk:Keyed->Int}{κ:SortKind}{a0:Array Keyed}
structure PI (rk:Keyed->Int)(κ:SortKind)(a0:Array Keyed)(lo:Nat)(st:SortSt):Prop where
 ok:Ok κ a0 st
 til:Z2 (pendingOf st).toList 0 lo
 up:∀r∈(pendingOf st).toList,Up rk (arrOf st) r.1 (r.1+r.2.1)
theorem QV {xs ys:Array Keyed}{lo hi:Nat}(u:Up rk xs lo hi)(h:∀j:Nat,lo<=j->j<hi->ys[j]?=xs[j]?):Up rk ys lo hi:=fun i j h1 h2 h3=>by
 rw [xM (h i h1 (by omega)),xM (h j (by omega) h3)]
 exact u i j h1 h2 h3
theorem zkg {p:List (Nat×Nat×Nat)}{i:Nat}(h:i+1<p.length):∃l1 r1 r2 l2,p=l1++r1::r2::l2/\l1.length=i/\p[i]?=some r1/\p[i+1]?=some r2:=by
 refine⟨p.take i,p[i],p[i+1],p.drop (i+2),?_,by rw [length_take];omega,getElem?_eq_getElem (by omega),getElem?_eq_getElem h⟩
 rw [<- drop_eq_getElem_cons h,<- drop_eq_getElem_cons (by omega),take_append_drop]
theorem zdi {st:SortSt}{lo i:Nat}{Q:Bool->SortSt->Prop}(T:Tells prog w A s κ rk a0)(P:PI rk κ a0 lo st)(hi:i+1<(pendingOf st).size)(hlo:lo<=a0.size)
  (h:∀st',PI rk κ a0 lo st'->(pendingOf st').size+1=(pendingOf st).size->(∀j:Nat,lo<=j->(arrOf st')[j]?=(arrOf st)[j]?)->Q true st'):wpS (model prog w) A E s (mergeAt' i) Q st:=by
 obtain⟨l1,⟨sa,na,p1⟩,⟨sb,nb,p2⟩,l2,ep,el,e1,e2⟩:=zkg (p:=(pendingOf st).toList) (i:=i) (by rw [length_toList];exact hi)
 have til:=P.til
 rw [ep] at til
 obtain⟨m,t1,⟨a1,a2,a3,a4,a5⟩⟩:=jT.mp til
 dsimp only at a1 a2 a3 a4 a5
 subst a1
 subst a3
 rw [getElem?_toList] at e1 e2
 have u1:=P.up (sa,na,p1) (by rw [ep];simp)
 have u2:=P.up (sa+na,nb,p2) (by rw [ep];simp)
 dsimp only at u1 u2
 obtain⟨b1,b2,b3⟩:=ZC a5
 obtain⟨c1,c2,c3⟩:=ZC t1
 refine zgo T P.ok e1 e2 a2 a4 (by omega) u1 u2 fun st' O' ep' up' out'=>?_
 have el':(pendingOf st').toList=l1++(sa,na+nb,p1)::l2:=by
  rw [ep',Array.toList_eraseIdxIfInBounds,Array.toList_setIfInBounds,ep,<- el]
  rw [List.set_append_right _ _ (le_refl _),sub_self,List.set_cons_zero,List.eraseIdx_append_of_length_le (by omega),show l1.length+1-l1.length=1 by omega]
  rfl
 refine h st' ⟨O',?_,fun r hr=>?_⟩ ?_ fun j hj=>out' j (by omega)
 ·rw [el']
  exact jT.mpr ⟨sa,t1,rfl,by show 1<=na+nb;omega,by rw [show sa+(na+nb)=sa+na+nb by omega];exact a5⟩
 ·rw [el'] at hr
  rcases List.mem_append.mp hr with hr | hr
  ·have:=c3 r hr
   exact QV (P.up r (by rw [ep];exact mem_append_left _ hr)) fun j h1 h2=>out' j (by omega)
  ·rcases List.mem_cons.mp hr with rfl | hr
   ·show Up rk (arrOf st') sa (sa+(na+nb))
    rw [show sa+(na+nb)=sa+na+nb by omega]
    exact up'
   ·have:=b3 r hr
    exact QV (P.up r (by rw [ep];simp [hr])) fun j h1 h2=>out' j (by omega)
 ·rw [<- length_toList,el',<- length_toList,ep]
  simp only [length_append,length_cons]
  omega
theorem PI.step {lo lo':Nat}{st st':SortSt}(P:PI rk κ a0 lo st)(S:Step κ a0 lo' st st')(h:lo<=lo'):PI rk κ a0 lo st':=by
 refine⟨S.ok,by rw [S.pend];exact P.til,fun r hr=>?_⟩
 rw [S.pend] at hr
 have:=(ZC P.til).2.2 r hr
 exact QV (P.up r hr) fun j h1 h2=>S.low j (by omega)
theorem Qw (pw:Nat):∀{l:List (Nat×Nat×Nat)} {k s e:Nat},Z2 l s e->Z2 (l.modify k fun r=>(r.1,r.2.1,pw)) s e
 | [],k,s,e,h=>by
  cases k<;>exact h
 | r::l,0,s,e,⟨h1,h2,h3⟩=>⟨h1,h2,h3⟩
 | r::l,k+1,s,e,⟨h1,h2,h3⟩=>⟨h1,h2,Qw pw h3⟩
theorem zbB {pw:Nat}:∀{l:List (Nat×Nat×Nat)} {k:Nat} {r:Nat×Nat×Nat},r∈l.modify k (fun r=>(r.1,r.2.1,pw))->∃q∈l,q.1=r.1/\q.2.1=r.2.1
 | [],k,r,h=>by
  cases k<;>cases h
 | q::l,0,r,h=>by
  rcases List.mem_cons.mp h with rfl | h
  ·exact⟨q,mem_cons_self,rfl,rfl⟩
  ·exact⟨r,mem_cons_of_mem _ h,rfl,rfl⟩
 | q::l,k+1,r,h=>by
  rcases List.mem_cons.mp h with rfl | h
  ·exact⟨r,mem_cons_self,rfl,rfl⟩
  ·obtain⟨q',h1,h2⟩:=zbB h
   exact⟨q',mem_cons_of_mem _ h1,h2⟩
theorem ite_le (c:Prop) [Decidable c](n:Nat):(if c then n-1 else n)<=n:=by
 split<;>omega
theorem zkh {st:SortSt}{Q:Unit->SortSt->Prop}(T:Tells prog w A s κ rk a0)(O:Ok κ a0 st)(hp:pendingOf st=#[])(h:∀st',Ok κ a0 st'->Up rk (arrOf st') 0 a0.size->Q () st'):wpS (model prog w) A E s sortRuns' Q st:=by
 rw [sortRuns'_eq]
 refine wpS_bind (wpS_get ?_)
 dsimp only
 rw [O.size]
 generalize minRun' a0.size a0.size 0=mr
 refine wpS_bind (wpS_mono (wpS_forRange (I:=fun x c st'=>∃lo,c=(none,lo)/\PI rk κ a0 lo st'/\lo<=a0.size/\x<=lo)
  (Q:=fun c st'=>c=(none,a0.size)/\PI rk κ a0 a0.size st') ?step ?fin ⟨0,rfl,⟨O,by rw [hp];rfl,fun r hr=>by rw [hp] at hr;cases hr⟩,zero_le _,le_refl _⟩) ?post)
 case fin =>
  rintro c st' ⟨lo,rfl,P,h1,h2⟩
  obtain rfl:lo=a0.size:=by omega
  exact⟨rfl,P⟩
 case step =>
  rintro x c st1 _ hx ⟨lo,rfl,P,h1,h2⟩
  dsimp only
  refine qm (fun hge=>?_) fun hge=>?_
  ·obtain rfl:lo=a0.size:=by omega
   exact wpS_pure ⟨rfl,P⟩
  refine wpS_bind (zk6 T P.ok (by omega) (by omega) fun m st2 S m1 m2 hu=>?_)
  dsimp only
  have P2:=P.step S (le_refl _)
  refine qm (fun hmr=>?_) fun hmr=>?_
  refine wpS_bind (wpS_lift (wpAny_rule ⟨rfl,?_⟩))
  refine wpS_bind (zk7 T S.ok (by omega) (by omega) hu fun st3 S3 hu3=>?_)
  rw [if_neg (by decide)]
  have P3:=P2.step S3 (le_refl _)
  have n1:1<=min (a0.size-lo) mr:=by omega
  have n2:lo+min (a0.size-lo) mr<=a0.size:=by omega
  clear P2 S3
  generalize min (a0.size-lo) mr=n at hu3 n1 n2 ⊢
  rotate_left
  have P3:=P2
  have hu3:=hu
  have n1:=m1
  have n2:lo+m<=a0.size:=by omega
  clear P2
  generalize m=n at hu3 n1 n2 ⊢
  generalize st2=st3 at P3 hu3 ⊢
  rotate_left
  all_goals
   refine wpS_bind (wpS_get ?_)
   have fin:∀st4,PI rk κ a0 lo st4->Up rk (arrOf st4) lo (lo+n)->PI rk κ a0 (lo+n) (setPending st4 ((pendingOf st4).push (lo,n,0))):=fun st4 P4 u4=>by
    refine⟨⟨P4.ok.perm,P4.ok.kind,P4.ok.good⟩,?_,fun r hr=>?_⟩
    ·show Z2 ((pendingOf st4).push (lo,n,0)).toList 0 (lo+n)
     rw [toList_push]
     exact jT.mpr ⟨lo,P4.til,rfl,n1,rfl⟩
    ·have hr':r∈((pendingOf st4).push (lo,n,0)).toList:=hr
     rw [toList_push] at hr'
     rcases List.mem_append.mp hr' with hr' | hr'
     ·exact P4.up r hr'
     ·have er:r=(lo,n,0):=by simpa using hr'
      subst er
      exact u4
   cases hbk:(pendingOf st3).back? with
   | none =>
    dsimp only
    exact wpS_bind (wpS_modify (wpS_pure ⟨lo+n,rfl,fin st3 P3 hu3,n2,by omega⟩))
   | some r =>
    obtain⟨s1,k1,q1⟩:=r
    dsimp only
    generalize power' a0.size (2*s1+k1) (2*s1+k1+k1+n) a0.size=pw
    refine wpS_bind (wpS_mono (wpS_forRange (I:=fun _ c st4=>c=(none,())/\PI rk κ a0 lo st4/\Up rk (arrOf st4) lo (lo+n)) (Q:=fun c st4=>c=(none,())/\PI rk κ a0 lo st4/\Up rk (arrOf st4) lo (lo+n)) ?_ (fun _ _ hh=>hh) ⟨rfl,P3,hu3⟩) ?_)
    ·rintro y c st4 _ _ ⟨rfl,P4,u4⟩
     refine wpS_bind (wpS_get ?_)
     by_cases hz:(pendingOf st4).size>1
     ·rw [if_pos hz,getElem?_pos (pendingOf st4) ((pendingOf st4).size-2) (by omega)]
      generalize (pendingOf st4)[(pendingOf st4).size-2]'(by omega)=r2
      obtain⟨r2a,r2b,r2c⟩:=r2
      dsimp only
      refine qm (fun _=>wpS_pure ⟨rfl,P4,u4⟩) fun _=>?_
      refine wpS_bind (zdi T P4 (by omega) h1 fun st5 P5 _ zlR=>?_)
      rw [if_neg (by decide)]
      exact wpS_pure ⟨rfl,P5,QV u4 fun j j1 _=>zlR j j1⟩
     ·rw [if_neg hz]
      exact wpS_pure ⟨rfl,P4,u4⟩
    ·rintro c st4 ⟨rfl,P4,u4⟩
     dsimp only
     refine wpS_bind (wpS_modify (wpS_bind (wpS_modify (wpS_pure ⟨lo+n,rfl,fin _ ⟨⟨P4.ok.perm,P4.ok.kind,P4.ok.good⟩,?_,fun r hr=>?_⟩ u4,n2,by omega⟩))))
     ·show Z2 ((pendingOf st4).modify ((pendingOf st4).size-1) fun r=>(r.1,r.2.1,pw)).toList 0 lo
      rw [Array.toList_modify]
      exact Qw pw P4.til
     ·have hr':r∈((pendingOf st4).modify ((pendingOf st4).size-1) fun r=>(r.1,r.2.1,pw)).toList:=hr
      rw [Array.toList_modify] at hr'
      obtain⟨q,hq,e1,e2⟩:=zbB hr'
      have:=P4.up q hq
      rw [e1,e2] at this
      exact this
 case post =>
  rintro c st1 ⟨rfl,P⟩
  dsimp only
  have len0:=(ZC P.til).2.1
  rw [length_toList] at len0
  refine wpS_bind (wpS_mono (wpS_forRange (I:=fun x c st2=>c=(none,())/\PI rk κ a0 a0.size st2/\((pendingOf st2).size+x<=a0.size\/(pendingOf st2).size<=1)) (Q:=fun c st2=>c=(none,())/\PI rk κ a0 a0.size st2/\(pendingOf st2).size<=1) ?step2 ?fin2 ⟨rfl,P,.inl (by omega)⟩) ?post2)
  case fin2 =>
   rintro c st2 ⟨rfl,P2,hz⟩
   exact⟨rfl,P2,by omega⟩
  case step2 =>
   rintro x c st2 _ hx ⟨rfl,P2,hz⟩
   refine wpS_bind (wpS_get ?_)
   refine qm (fun h1=>wpS_pure ⟨rfl,P2,h1⟩) fun h1=>?_
   refine wpS_bind (zdi T P2 ?_ (le_refl _) fun st3 P3 z3 _=>?_)
   ·exact lt_of_le_of_lt (Nat.add_le_add_right (ite_le _ _) 1) (show (pendingOf st2).size-2+1<(pendingOf st2).size by omega)
   ·rw [if_neg (by decide)]
    exact wpS_pure ⟨rfl,P3,by omega⟩
  case post2 =>
   rintro c st2 ⟨rfl,P2,hz⟩
   dsimp only
   refine wpS_pure (h st2 P2.ok ?_)
   have til:=P2.til
   have up:=P2.up
   have zl:(pendingOf st2).toList.length<=1:=by rw [length_toList];exact hz
   cases hl:(pendingOf st2).toList with
   | nil =>
    rw [hl] at til
    have e:0=a0.size:=til
    exact fun i j _ _ h3=>absurd h3 (by omega)
   | cons r l =>
    rw [hl] at til zl up
    obtain rfl:l=[]:=List.length_eq_zero_iff.mp (by rw [length_cons] at zl;omega)
    obtain⟨t1,t2,t3⟩:=til
    have t3':0+r.2.1=a0.size:=t3
    have u:=up r mem_cons_self
    rw [t1,t3'] at u
    exact u
end
end GS
namespace GS
structure Wk {K:Type}(lt:K->K->Bool):Prop where
 tot:∀x y,lt x y=true->lt y x=false
 tr:∀x y z,lt y x=false->lt z y=false->lt z x=false
def rkK {K:Type}(lt:K->K->Bool)(ks:List K)(k:K):Int:=((ks.countP fun q=>lt q k:Nat):Int)
theorem count_le {K:Type}{p q:K->Bool}:∀{ks:List K},(∀x∈ks,p x=true->q x=true)->ks.countP p<=ks.countP q
 | [],_=>le_refl _
 | x::ks,h=>by
  have ih:=count_le (ks:=ks) fun y hy=>h y (mem_cons_of_mem _ hy)
  rw [countP_cons,countP_cons]
  have hx:=h x mem_cons_self
  by_cases c:p x=true
  ·rw [if_pos c,if_pos (hx c)]
   omega
  ·rw [if_neg c]
   omega
theorem zhI {K:Type}{p q:K->Bool}{ks:List K}(h:∀x∈ks,p x=true->q x=true)(hq:∃x∈ks,p x=false/\q x=true):ks.countP p<ks.countP q:=by
 obtain⟨y,hy,h1,h2⟩:=hq
 induction ks with
 | nil=>cases hy
 | cons x ks ih =>
  rw [countP_cons,countP_cons]
  have hx:=h x mem_cons_self
  rcases List.mem_cons.mp hy with rfl | hy
  ·have ih:=count_le (ks:=ks) fun y hy=>h y (mem_cons_of_mem _ hy)
   rw [h1,h2,if_neg Bool.false_ne_true,if_pos rfl]
   omega
  ·have ih:=ih (fun y hy=>h y (mem_cons_of_mem _ hy)) hy
   by_cases c:p x=true
   ·rw [if_pos c,if_pos (hx c)]
    omega
   ·rw [if_neg c]
    omega
theorem Wk.rank {K:Type}{lt:K->K->Bool}(W:Wk lt){ks:List K}{x y:K}(hx:x∈ks):lt x y=decide (rkK lt ks x<rkK lt ks y):=by
 unfold rkK
 cases h:lt x y with
 | true =>
  refine(decide_eq_true ?_).symm
  have:=zhI (ks:=ks) (p:=fun q=>lt q x) (q:=fun q=>lt q y) (fun q _ hq=>?_) ⟨x,hx,?_,h⟩
  ·omega
  ·cases hc:lt q y with
   | true=>rfl
   | false =>
    have:=W.tr x y q (W.tot x y h) hc
    have hq':lt q x=true:=hq
    rw [this] at hq'
    cases hq'
  ·cases hc:lt x x with
   | false=>rfl
   | true=>exact hc.symm.trans (W.tot x x hc)
 | false =>
  refine(decide_eq_false ?_).symm
  have:=count_le (ks:=ks) (p:=fun q=>lt q y) (q:=fun q=>lt q x) fun q _ hq=>by
   cases hc:lt q x with
   | true=>rfl
   | false =>
    have:=W.tr y x q h hc
    have hq':lt q y=true:=hq
    rw [this] at hq'
    cases hq'
  omega
section
variable {prog:Program}{w:World}{A:Around}{E:Value->Shared->Prop}{s:Shared}
theorem zbC {a:Addr}{vs:List Value}{n:Nat}{P:PySem.Fin->Shared->Prop}(ho:s.heap.get? a=some (seqObj "list" vs.toArray n))(hz:vs.length<=sizeLine)(r:Value->Int)
  (hk:2<=vs.length->∀s':Shared,(∀b o,b≠a->s.heap.get? b=some o->s'.heap.get? b=some o)->wpAny (model prog w) A (keyKind' vs.toArray) (fun κ s2=>s2=s'/\Tells prog w A s' κ (fun p=>r p.1) (pairsOf vs)) (fun _ _=>False) s')
  (h:∀(ws:List Value) (h':Heap) (c:Nat),ws.Perm vs->ws.Pairwise (fun x y=>r x<=r y)->(∀b o,b≠a->s.heap.get? b=some o->h'.get? b=some o)->h'.get? a=some (seqObj "list" ws.toArray c)->P (.done (.ret .none)) { s with heap:=h' }) :
  wpAny (model prog w) A (Builtin.«list.sort» ⟨[.ref a],[]⟩) P E s:=by
 have lta:a<s.heap.objs.size:=Heap.lt_size ho
 have hu1:=get?_update_seq ho fun _=>(#[]:Array Value)
 generalize hX:s.heap.update a (Obj.mapSeq fun _=>(#[]:Array Value))=X1 at hu1
 have zX:X1.objs.size=s.heap.objs.size:=by rw [<- hX,Heap.size_update]
 have kX:∀b o,b≠a->s.heap.get? b=some o->X1.get? b=some o:=fun b o hb e=>by
  rw [<- hX,Heap.get?_update_ne _ _ _ _ hb]
  exact e
 obtain⟨e1,hu⟩:∃e1,X1.get? a=some (seqObj "list" #[] e1):=⟨_,hu1⟩
 generalize hY:(X1.push (seqObj "tuple" vs.toArray 0)).push (seqObj "list" #[] 0)=Y
 have hYa:Y.get? a=some (seqObj "list" #[] e1):=by
  rw [<- hY]
  exact Heap.get?_push_of_some _ (Heap.get?_push_of_some _ hu)
 have kY:∀b o,b≠a->s.heap.get? b=some o->Y.get? b=some o:=fun b o hb e=>by
  rw [<- hY]
  exact Heap.get?_push_of_some _ (Heap.get?_push_of_some _ (kX b o hb e))
 have last:∀(st:SortSt),(((arrOf st).map (·.2)).toList.Perm vs)->(((arrOf st).map (·.2)).toList.Pairwise fun x y=>r x<=r y)->failedOf st=none ->
   wpAny (model prog w) A (do
    let touched:=(<- seqEpoch a) != e1
    Builtin.List.listUpdate (.ref a) fun _=>(arrOf st).map (·.2)
    if let some e:=failedOf st then rule "list.sort.comparison-raised";throw e
    if touched then rule "list.sort.modified";raiseError "ValueError" "list modified during sort"
    ret .none) P E { s with heap:=Y }:=by
  intro st hp hs hf
  generalize ew:(arrOf st).map (·.2)=wsA at hp hs
  rw [hf]
  have hlen:wsA.size=vs.length:=by rw [<- length_toList,hp.length_eq]
  have hu2:=get?_update_seq hYa fun _=>wsA
  refine wpAny_bind (seqEpoch_at hYa rfl (wpAny_bind (listUpdate_at hYa rfl ?_ (zero_le _) (by rw [hlen];omega))))
  simp only [bne_self_eq_false,false_eq_true,if_false]
  refine wpAny_pure (h wsA.toList _ _ hp hs (fun b o hb e=>?_) hu2)
  rw [Heap.get?_update_ne _ _ _ _ hb]
  exact kY b o hb e
 rw [list_sort_plain]
 refine wpAny_bind (listItems_at ho rfl (wpAny_bind (listUpdate_at ho rfl ?_ (by rw [size_toArray];exact hz) (zero_le _))))
 rw [hX]
 refine wpAny_bind (seqEpoch_at hu rfl (wpAny_bind (wpAny_newTuple (wpAny_bind (wpAny_newList ?_ (zero_le _))) hz)))
 show wpAny (model prog w) A _ P E { s with heap:=(X1.push (seqObj "tuple" vs.toArray 0)).push (seqObj "list" #[] 0) }
 rw [hY]
 refine wpAny_holding ?_
 dsimp only
 have e2:((pairsOf vs).map (·.2)).toList=vs:=by
  rw [toList_map,pairsOf_toList]
  exact List.map_snd_zip (le_refl _)
 by_cases c2:vs.toArray.size<2
 ·have c2':vs.length<2:=by rw [size_toArray] at c2;exact c2
  rw [if_pos c2,if_pos c2]
  refine wpAny_bind (wpAny_pure ?_)
  rw [StateT.run_pure]
  refine wpAny_bind (wpAny_pure ?_)
  refine last (SortSt.mk' general' (pairsOf vs) #[] 7 none) (by show ((pairsOf vs).map (·.2)).toList.Perm vs;rw [e2]) (by
   show ((pairsOf vs).map (·.2)).toList.Pairwise _
   rw [e2,List.pairwise_iff_getElem]
   intro i j hi hj hij
   omega) rfl
 ·have c2':2<=vs.length:=by rw [size_toArray] at c2;omega
  rw [if_neg c2,if_neg c2]
  refine wpAny_bind (wpAny_mono (hk c2' { s with heap:=Y } kY) (fun κ s2 ⟨e3,T⟩=>?_) fun _ _ x=>x.elim)
  subst e3
  have run:=zkh (E:=E) (st:=SortSt.mk' κ (pairsOf vs) #[] 7 none) (Q:=fun _ st'=>(((arrOf st').map (·.2)).toList.Perm vs)/\(((arrOf st').map (·.2)).toList.Pairwise fun x y=>r x<=r y)/\failedOf st'=none) T ⟨Array.Perm.refl _,rfl,rfl⟩ rfl fun st' O hu=>?_
  ·unfold wpS at run
   refine wpAny_bind (wpAny_mono run ?_ fun _ _ z=>z)
   rintro⟨⟨⟩,st'⟩ s' ⟨rfl,hp,hs,hf⟩
   exact last st' hp hs hf
  ·have pm:=Array.perm_iff_toList_perm.mp O.perm
   have same:∀p∈(arrOf st').toList,p.1=p.2:=fun p hp=>by
    have:=pm.mem_iff.mp hp
    rw [pairsOf_toList] at this
    exact(mem_zip_self this).1
   refine⟨?_,?_,O.good⟩
   ·have:=pm.map (·.2)
    rw [toList_map]
    rw [pairsOf_toList,List.map_snd_zip (le_refl _)] at this
    exact this
   ·rw [toList_map,List.pairwise_map,List.pairwise_iff_getElem]
    intro i j hi hj hij
    have zs:=O.size
    rw [length_toList] at hi hj
    have u:=yd hu (i:=i) (j:=j) (zero_le _) (by omega) (by omega) (getElem?_pos _ i hi) (getElem?_pos _ j hj)
    have s1:=same (arrOf st')[i] (by simp)
    have s2:=same (arrOf st')[j] (by simp)
    rw [getElem_toList,getElem_toList,<- s1,<- s2]
    exact u
theorem zgp {l:Addr}{vs:List Value}{Q:Value->Shared->Prop}(hl:s.heap.IsList l vs.toArray)(hz:vs.length<=sizeLine)(r:Value->Int)
  (hk:2<=vs.length->∀s':Shared,(∀b o,s.heap.get? b=some o->s'.heap.get? b=some o)->wpAny (model prog w) A.in1.in1 (keyKind' vs.toArray) (fun κ s2=>s2=s'/\Tells prog w A.in1.in1 s' κ (fun p=>r p.1) (pairsOf vs)) (fun _ _=>False) s')
  (h:∀(ws:List Value) (h':Heap) (c:Nat),ws.Perm vs->ws.Pairwise (fun x y=>r x<=r y)->(∀b o,s.heap.get? b=some o->h'.get? b=some o)->h'.get? (s.heap.objs.size+1)=some (seqObj "list" ws.toArray c)->Q (.ref (s.heap.objs.size+1)) { s with heap:=h' }) :
  wpAny (model prog w) A (call (.builtin "sorted") [.ref l]) Q E s:=by
 generalize hX:(s.heap.push (seqObj "list" #[] 0)).update s.heap.objs.size (Obj.mapSeq (·++vs.toArray))=X1
 have zX:X1.objs.size=s.heap.objs.size+1:=by rw [<- hX,Heap.size_update,Heap.size_push]
 have kX:∀b o,s.heap.get? b=some o->X1.get? b=some o:=fun b o e=>by
  have lt:=Heap.lt_size e
  rw [<- hX,Heap.get?_update_ne _ _ _ _ (ne_of_lt lt)]
  exact Heap.get?_push_of_some _ e
 apply Calls.call_function_entry kind_sorted plain_sorted entry_sorted (args_sorted1 _)
 unfold Builtin.«sorted»
 refine wpAny_bind (m:=checkCount "sorted" 1 1 _) (wpAny_pure (wpAny_bind (collect_list hl ?_ hz)))
 rw [hX]
 refine wpAny_bind (wpAny_newList ?_ hz)
 show wpAny _ _ _ _ _ { s with heap:=X1.push (seqObj "list" vs.toArray 0) }
 have hoL:(X1.push (seqObj "list" vs.toArray 0)).get? (s.heap.objs.size+1)=some (seqObj "list" vs.toArray 0):=by
  rw [<- zX]
  exact Heap.get?_push_size _ rfl
 have kL:∀b o,s.heap.get? b=some o->(X1.push (seqObj "list" vs.toArray 0)).get? b=some o:=fun b o e=>Heap.get?_push_of_some _ (kX b o e)
 have ne:∀b o,s.heap.get? b=some o->b≠s.heap.objs.size+1:=fun b o e=>ne_of_lt (lt_succ_of_lt (Heap.lt_size e))
 rw [zX]
 refine wpAny_bind (wpAny_holding (wpAny_call_entry slot_list_sort ⟨_,hoL,rfl⟩ entry_list_sort (zbC (s:={ s with heap:=X1.push (seqObj "list" vs.toArray 0) }) hoL hz r (fun c s' k=>hk c s' fun b o e=>k b o (ne b o e) (kL b o e)) ?_) (args_list_sort _)))
 intro ws h' c hp hs kk ha
 exact⟨_,rfl,wpAny_pure ⟨_,rfl,h ws h' c hp hs (fun b o e=>kk b o (ne b o e) (kL b o e)) ha⟩⟩
end
theorem zer {α β:Type}{R:α->β->Prop}{xs:List α}{ys:List β}(hp:Paired R xs ys):(∀p∈xs.zip ys,R p.1 p.2)/\(xs.zip ys).map (·.1)=xs/\(xs.zip ys).map (·.2)=ys:=by
 induction hp with
 | nil=>exact⟨(fun p h=>nomatch h),rfl,rfl⟩
 | cons h _ ih =>
  obtain⟨a,b,c⟩:=ih
  refine⟨fun p hp=>?_,by rw [List.zip_cons_cons,map_cons,b],by rw [List.zip_cons_cons,map_cons,c]⟩
  rcases List.mem_cons.mp hp with rfl | hp
  ·exact h
  ·exact a p hp
theorem zbD {α β:Type}{R:α->β->Prop}:∀{zs:List (α × β)},(∀p∈zs,R p.1 p.2)->Paired R (zs.map (·.1)) (zs.map (·.2))
 | [],_=>.nil
 | p::zs,h=>.cons (h p mem_cons_self) (zbD fun q hq=>h q (mem_cons_of_mem _ hq))
end GS
namespace GS
theorem xN {α β:Type}{R:α->β->Prop}:∀{xs:List α} {ys:List β},Paired R xs ys->∀x∈xs,∃y∈ys,R x y
 | _,_,.nil,x,h=>nomatch h
 | _,_,.cons h t,x,hx=>by
  rcases List.mem_cons.mp hx with rfl | hx
  ·exact⟨_,mem_cons_self,h⟩
  ·obtain⟨y,h1,h2⟩:=xN t x hx
   exact⟨y,mem_cons_of_mem _ h1,h2⟩
def Tri {K:Type}(RV:V->K->Prop)(RH:Value->K->Prop)(t:V×Value×K):Prop:=RelV t.1 t.2.1/\RV t.1 t.2.2/\RH t.2.1 t.2.2
theorem zki {K:Type}{RV:V->K->Prop}{RH:Value->K->Prop}{us:List V}{its:List Value}{ks:List K}(h1:Vals us its):Paired RV us ks->Paired RH its ks->∃T:List (V×Value×K),(∀t∈T,Tri RV RH t)/\T.map (·.1)=us/\T.map (·.2.1)=its/\T.map (·.2.2)=ks:=by
 induction h1 generalizing ks with
 | nil =>
  intro h2 h3
  cases h2
  exact⟨[],(fun t h=>nomatch h),rfl,rfl,rfl⟩
 | @cons u i us its r1 t1 ih =>
  intro h2 h3
  cases h2 with
  | @cons _ k _ ks r2 t2 =>
   cases h3 with
   | cons r3 t3 =>
    obtain⟨T,h1,h2,h3,h4⟩:=ih t2 t3
    refine⟨(u,i,k)::T,fun t ht=>?_,by rw [map_cons,h2],by rw [map_cons,h3],by rw [map_cons,h4]⟩
    rcases List.mem_cons.mp ht with rfl | ht
    ·exact⟨r1,r2,r3⟩
    ·exact h1 t ht
theorem zdj {K:Type}{RV:V->K->Prop}{RH:Value->K->Prop}:∀{T:List (V×Value×K)},(∀t∈T,Tri RV RH t)->Vals (T.map (·.1)) (T.map (·.2.1))/\Paired RV (T.map (·.1)) (T.map (·.2.2))
 | [],_=>⟨.nil,.nil⟩
 | t::T,h=>by
  obtain⟨h1,h2⟩:=zdj fun x hx=>h x (mem_cons_of_mem _ hx)
  obtain⟨a,b,c⟩:=h t mem_cons_self
  exact⟨.cons a h1,.cons b h2⟩
section
variable {X:Cx}{pins:List (Addr×Obj)}{σ:St}{H:Hp}{s:Shared}{K:Type}
theorem zgq {lt:K->K->Bool}(W:Wk lt){RV:V->K->Prop}{RH:Heap->Value->K->Prop}(fn:∀h v k k',RH h v k->RH h v k'->k=k')(kp:∀h h' v k,(∀b o,h.get? b=some o->h'.get? b=some o)->RH h v k->RH h' v k)
  {l:Addr} {us:List V} {its:List Value} {ks:List K} {Q:VK} (I:Inv X pins σ H s) (hl:s.heap.IsList l its.toArray) (hz:us.length<=1000000) (rv:Vals us its) (hv:Paired RV us ks) (hp:Paired (RH s.heap) its ks)
  (kind:∀s':Shared,Paired (RH s'.heap) its ks->2<=its.length->wpAny (model X.prog X.w) X.A.in1.in1 (keyKind' its.toArray) (fun κ s2=>s2=s'/\∀v v' k k',RH s'.heap v k->RH s'.heap v' k'->∀C:Bool->Shared->Prop,C (lt k k') s'->wpAny (model X.prog X.w) X.A.in1.in1 (keyLt' κ v v') C (fun _ _=>False) s') (fun _ _=>False) s')
  (q:∀d us' ks',H d=none->Paired RV us' ks'->ks'.Perm ks->ks'.Pairwise (fun x y=>lt y x=false)->(us'.Perm us)->Q (.ref d) (upd H d (.lst us'))) :
  wpAny (model X.prog X.w) X.A (call (.builtin "sorted") [.ref l]) (EP X pins σ Q) X.xe s:=by
 classical
 have hil:=rv.length
 obtain⟨T,hT,e1,e2,e3⟩:=zki rv hv hp
 let r:Value->Int:=fun v=>if h:∃k,RH s.heap v k then rkK lt ks h.choose else 0
 have rk_:∀{v:Value} {k:K},RH s.heap v k->r v=rkK lt ks k:=fun {v k} h=>by
  have hx:∃k,RH s.heap v k:=⟨k,h⟩
  show (if h:∃k,RH s.heap v k then rkK lt ks h.choose else 0)=_
  rw [dif_pos hx,fn _ _ _ _ hx.choose_spec h]
 have z1:its.length<=sizeLine:=by
  rw [<- hil,sizeLine_eq]
  omega
 refine zgp (vs:=its) hl z1 r (fun h2 s' kk=>?_) fun ws h' c hpm hs kk ha=>?_
 ·have hp':Paired (RH s'.heap) its ks:=by
   obtain⟨a,b,c⟩:=zer hp
   have:=zbD (R:=RH s'.heap) (zs:=its.zip ks) fun p hp=>kp _ _ _ _ kk (a p hp)
   rw [b,c] at this
   exact this
  refine wpAny_mono (kind s' hp' h2) (fun κ s2 ⟨e,hc⟩=>⟨e,fun x hx y hy C hC=>?_⟩) fun _ _ z=>z
  have mx:x.1∈its:=by
   rw [pairsOf_toList] at hx
   exact(mem_zip_self hx).2
  have my:y.1∈its:=by
   rw [pairsOf_toList] at hy
   exact(mem_zip_self hy).2
  obtain⟨k,k1,k2⟩:=xN hp x.1 mx
  obtain⟨k',k1',k2'⟩:=xN hp y.1 my
  refine hc x.1 y.1 k k' (kp _ _ _ _ kk k2) (kp _ _ _ _ kk k2') C ?_
  have hC':C (decide (r x.1<r y.1)) s':=hC
  rw [rk_ k2,rk_ k2',<- W.rank k1] at hC'
  exact hC'
 ·obtain⟨T',hT',eT⟩:=ST.zap (fun t:V×Value×K=>t.2.1) hpm T e2.symm
  have hTr:∀t∈T',Tri RV (RH s.heap) t:=fun t ht=>hT t (hT'.mem_iff.mp ht)
  obtain⟨rv',hv'⟩:=zdj hTr
  rw [<- eT] at rv'
  have hD:H (s.heap.objs.size+1)=none:=I.hok.fresh (le_succ _)
  refine⟨.ref (s.heap.objs.size+1),upd H (s.heap.objs.size+1) (.lst (T'.map (·.1))),I.laid (t':=s.toks) kk (le_succ _) ⟨?_,ws,c,rv',ha⟩,rfl,q _ _ _ hD hv' (by rw [<- e3];exact hT'.map _) ?_ (by rw [<- e1];exact hT'.map _)⟩
  ·rw [rv'.length,hpm.length_eq]
   exact z1
  ·rw [eT,List.pairwise_map] at hs
   rw [List.pairwise_map]
   refine hs.imp_of_mem fun {x y} hx hy h=>?_
   obtain⟨_,_,h1⟩:=hTr x hx
   obtain⟨_,_,h2⟩:=hTr y hy
   rw [rk_ h1,rk_ h2] at h
   have my:y.2.2∈ks:=by
    rw [<- e3]
    exact List.mem_map.mpr ⟨y,hT'.mem_iff.mp hy,rfl⟩
   rw [W.rank my]
   exact decide_eq_false (by omega)
end
theorem zhJ:Wk lt2:=by
 refine⟨fun x y h=>?_,fun x y z h1 h2=>?_⟩
 ·cases e:lt2 y x with
  | false=>rfl
  | true =>
   have:=zed h e
   rw [ziC] at this
   cases this
 ·cases e:lt2 z x with
  | false=>rfl
  | true =>
   by_cases exy:x=y
   ·subst exy
    rw [e] at h2
    exact h2
   ·have h3:lt2 x y=true:=by
     have:=zb8 (p:=x) (q:=y) exy
     rw [h1] at this
     cases hh:lt2 x y with
     | true=>rfl
     | false =>
      rw [hh] at this
      cases this
    have:=zed e h3
    rw [this] at h2
    exact h2
theorem zfp {h:Heap}{v:Value}{p q:Int×Int}(h1:zK h v p)(h2:zK h v q):p=q:=by
 obtain⟨a,o,n,t,u,e,e1,c1,d1⟩:=h1
 obtain⟨a',o',n',t',u',e',e1',c1',d1'⟩:=h2
 subst e
 cases e'
 rw [e1] at e1'
 cases e1'
 rw [d1] at d1'
 obtain⟨p1,p2⟩:=p
 obtain⟨q1,q2⟩:=q
 injection d1' with d1' _
 have e2:[Value.int p1 t,Value.int p2 u]=[Value.int q1 t',Value.int q2 u']:=congrArg Array.toList d1'
 injection e2 with e3 e4
 injection e4 with e4 _
 injection e3 with e3 _
 injection e4 with e4 _
 rw [e3,e4]
section
variable {X:Cx}
theorem Jr:jn X (.builtin "sorted") (fun xs H Q=>∃l us ps,xs=[.ref l]/\SqL X.K H l us/\Jx H us ps/\us.length<=1000000 /\
  ∀d us' ps',H d=none->Jx H us' ps'->ps'.Perm ps->ps'.Pairwise (fun p q=>lt2 q p=false)->Q (.ref d) (upd H d (.lst us'))):=by
 intro pins s σ H xs us' Q I r h
 obtain⟨l,us,ps,rfl,hq,ht,hz,q⟩:=h
 obtain⟨u,rfl,ru⟩:=vals1 r
 cases ru
 obtain⟨its,rv,pl,_⟩:=I.list hq
 have hp:=Jx.pairs I ht rv
 refine zgq zhJ (RH:=zK) (fun h v k k'=>zfp) (fun h h' v k kk ⟨a,o,n,t,u,e,e1,r⟩=>⟨a,o,n,t,u,e,kk _ _ e1,r⟩) I pl.isList hz rv ht hp (fun s' hp' h2=>?_) fun d us' ks' hd h1 h2 h3 _=>q d us' ks' hd h1 h2 h3
 obtain⟨fs,hk,hfl,hint⟩:=yZ hp'
 refine kat_kind (T:=.type "int") hk (by omega) (fun v hv=>?_) (by decide) ⟨rfl,fun v v' k k' h1 h2 C hC=>?_⟩
 ·obtain⟨x,t,rfl⟩:=hint v hv
  exact Looks.of_pure rfl
 ·exact zb7 h1 h2 hC
end
end GS
end L2
namespace PySem.SeqAt
open L2 AutoSeq1 MeetsSeq MeetsSeq2 MeetsSeq3
end PySem.SeqAt
namespace L2
open PySem PySem.Spec PyProof.Rows PySem.W PySem.SeqAt
section
variable {X:Cx}
end
open PySem PySem.Spec PyProof.Rows
section
variable {X:Cx}{K:PySem.W.Frag}
end
def HasDef (K:PySem.W.Frag)(x:Str)(st:Stmt):Prop:=∃(f:Addr) (oc:Value) (od an:Option Addr) (sl:Array (Option Value)) (kV dc pm cd ct:Value),PySem.W.nsIn K mainGlobals x=some (some (.ref f))/\K.lookup f=some ⟨oc,od,.func (PySem.W.fnOf x x (xY st) (yp st) (zk st) .none kV dc pm an cd ct),sl⟩/\PySem.W.codeIn K cd x=true/\PySem.W.keepIn K (.ref f)=true
theorem HasDef.at {K:PySem.W.Frag}{h:Heap}{mg:Str->Option Value}{x:Str}{st:Stmt}{ps:List Str}(H:HasDef K x st)(X:K.In h)(G:h.Ns mainGlobals mg)
  (hb:∀(kV doc pm:Value) (an:Option Addr) (cdv ct:Value) (us:List Value),us.length=ps.length->bindArgs (PySem.W.fnOf x x (xY st) (yp st) (zk st) .none kV doc pm an cdv ct) ⟨us,[]⟩=pure (ps.zip us)):∃f fd,zC K mg x st ps f fd:=by
 obtain⟨f,oc,od,an,sl,kV,dc,pm,cd,ct,a,l,c,k⟩:=H
 have F:=zgZ (st:=st) l c k
 exact⟨f,_,F,PySem.W.mg_of X G a,F.binds hb⟩
open PySem PySem.W
theorem us0 {P:List Value->Prop}(h:P []):∀us:List Value,us.length=0->P us:=by
 intro us e
 cases us with
 | nil=>exact h
 | cons a t=>cases e
theorem usS {n:Nat}{P:List Value->Prop}(h:∀a t,t.length=n->P (a::t)):∀us:List Value,us.length=n+1->P us:=by
 intro us e
 cases us with
 | nil=>cases e
 | cons a t=>exact h a t (Nat.succ.inj e)
theorem us1 {P:List Value->Prop}(h:∀a,P [a]):∀us:List Value,us.length=1->P us:=usS fun a=>us0 (h a)
theorem us2 {P:List Value->Prop}(h:∀a b,P [a,b]):∀us:List Value,us.length=2->P us:=usS fun a=>us1 (h a)
theorem us3 {P:List Value->Prop}(h:∀a b c,P [a,b,c]):∀us:List Value,us.length=3->P us:=usS fun a=>us2 (h a)
theorem us4 {P:List Value->Prop}(h:∀a b c d,P [a,b,c,d]):∀us:List Value,us.length=4->P us:=usS fun a=>us3 (h a)
theorem us5 {P:List Value->Prop}(h:∀a b c d e,P [a,b,c,d,e]):∀us:List Value,us.length=5->P us:=usS fun a=>us4 (h a)
open PySem PySem.Spec PyProof.Rows PySem.W
namespace ST
variable {X:Cx}
theorem Z3 (hh:X.A.handled=none):jn X (.builtin "sorted") (fun xs H Q=>∃l ks,xs=[.ref l]/\H l=some (zgj X.prog X.w l ks)/\(∀q∈ks,H q.1=some (.tup [.int q.2.1,.int q.2.2]))/\(ks.map (·.2)).Nodup/\ks.length<64 /\
  ∀d us' ps',H d=none->Jx H us' ps'->ps'.Perm (ks.map (·.2))->Up2 ps'->Q (.ref d) (upd H d (.lst us'))):=by
 intro pins s σ H xs us' Q I r h
 obtain⟨l,ks,rfl,hl,hT,hnd,h64,q⟩:=h
 obtain⟨u,rfl,ru⟩:=vals1 r
 cases ru
 obtain⟨⟨es,ep,t,ho,he,G,hled,hpl⟩,_,_⟩:=(show qB X.prog X.w H s.heap l (zgj X.prog X.w l ks) from I.hok l _ hl)
 have hkl:ks.length=es.size:=by
  rw [<- length_toList,he,length_map]
 apply Calls.call_function_entry kind_sorted plain_sorted entry_sorted (args_sorted1 _)
 unfold Builtin.«sorted»
 refine wpAny_bind (m:=checkCount "sorted" 1 1 _) (wpAny_pure (wpAny_bind (zdg (by simp [hh]) ho G hled hpl (by omega) fun its h1 tk hpm kk1 zle=>?_)))
 have hvs:es.toList.map (·.2)=ks.map fun q=>Value.ref q.1:=by
  rw [he,map_map]
  rfl
 rw [hvs] at hpm
 obtain⟨js,hjp,hj⟩:=zap (fun q:Addr×(Int×Int)=>Value.ref q.1) hpm ks rfl
 have hTj:∀q∈js,H q.1=some (.tup [.int q.2.1,.int q.2.2]):=fun q hq=>hT q (hjp.mem_iff.mp hq)
 have hndj:(js.map (·.2)).Nodup:=(hjp.map (·.2)).nodup_iff.mpr hnd
 have hjl:js.length=ks.length:=hjp.length_eq
 have hil:its.length=js.length:=by rw [hj,length_map]
 have rv:∀{js:List (Addr×(Int×Int))},Vals (js.map fun q=>V.ref q.1) (js.map fun q=>Value.ref q.1):=fun {js}=>by
  induction js with
  | nil=>exact .nil
  | cons a t ih=>exact .cons rfl ih
 have ht:∀{js:List (Addr×(Int×Int))},(∀q∈js,H q.1=some (.tup [.int q.2.1,.int q.2.2]))->Jx H (js.map fun q=>V.ref q.1) (js.map (·.2)):=fun {js}=>by
  induction js with
  | nil=>exact fun _=>.nil
  | cons a t ih=>exact fun h=>.cons ⟨a.1,rfl,h a mem_cons_self⟩ (ih fun q hq=>h q (mem_cons_of_mem _ hq))
 have hp0:Paired (zK s.heap) its (js.map (·.2)):=by
  rw [hj]
  exact Jx.pairs I (ht hTj) rv
 generalize hps:js.map (·.2)=ps at hp0 hndj
 have hlp:its.length=ps.length:=Paired.length hp0
 have W:=GS.zhJ
 have ip:∀q:Addr×(Int×Int),H q.1=some (.tup [.int q.2.1,.int q.2.2])->zK s.heap (.ref q.1) q.2:=fun q hq=>by
  have:=Jx.pairs I (.cons ⟨q.1,rfl,hq⟩ .nil:Jx H [V.ref q.1] [q.2]) (.cons rfl .nil:Vals [V.ref q.1] [Value.ref q.1])
  cases this with
  | cons h _=>exact h
 classical
 let r:Value->Int:=fun v=>if h:∃k,zK s.heap v k then GS.rkK lt2 ps h.choose else 0
 have rk_:∀{v:Value} {k:Int×Int},zK s.heap v k->r v=GS.rkK lt2 ps k:=fun {v k} h=>by
  have hx:∃k,zK s.heap v k:=⟨k,h⟩
  show (if h:∃k,zK s.heap v k then GS.rkK lt2 ps h.choose else 0)=_
  rw [dif_pos hx,GS.zfp hx.choose_spec h]
 have small:its.length<=sizeLine:=by rw [sizeLine_eq];omega
 refine wpAny_bind (wpAny_newList ?_ small)
 have hoL:(h1.push (seqObj "list" its.toArray 0)).get? h1.objs.size=some (seqObj "list" its.toArray 0):=Heap.get?_push_size _ rfl
 have kL:∀b o,s.heap.get? b=some o->(h1.push (seqObj "list" its.toArray 0)).get? b=some o:=fun b o e=>Heap.get?_push_of_some _ (kk1 b o e)
 have ne:∀b o,s.heap.get? b=some o->b≠h1.objs.size:=fun b o e=>ne_of_lt (Heap.lt_size (kk1 b o e))
 show wpAny _ _ _ _ _ { s with heap:=h1.push (seqObj "list" its.toArray 0),toks:=tk }
 refine wpAny_bind (wpAny_holding (wpAny_call_entry slot_list_sort ⟨_,hoL,rfl⟩ entry_list_sort (GS.zbC (s:={ s with heap:=h1.push (seqObj "list" its.toArray 0),toks:=tk }) hoL small r (fun h2 s' kk=>?_) ?_) (args_list_sort _)))
 ·have hp':=Yb (fun b o e=>kk b o (ne b o e) (kL b o e)) hp0
  obtain⟨fs,hk,hfl,hint⟩:=yZ hp'
  refine kat_kind (T:=.type "int") hk (by omega) (fun v hv=>?_) (by decide) ⟨rfl,fun x hx y hy C hC=>?_⟩
  ·obtain⟨x,t,rfl⟩:=hint v hv
   exact Looks.of_pure rfl
  ·have mx:x.1∈its:=by
    rw [pairsOf_toList] at hx
    exact(mem_zip_self hx).2
   have my:y.1∈its:=by
    rw [pairsOf_toList] at hy
    exact(mem_zip_self hy).2
   obtain⟨k,k1,k2⟩:=GS.xN hp0 x.1 mx
   obtain⟨k',k1',k2'⟩:=GS.xN hp0 y.1 my
   have kp:∀{v:Value} {k:Int×Int},zK s.heap v k->zK s'.heap v k:=fun {v k} ⟨a,o,n,t,u,e,e1,r⟩=>⟨a,o,n,t,u,e,kk _ _ (ne _ _ e1) (kL _ _ e1),r⟩
   have hC':C (decide (r x.1<r y.1)) s':=hC
   rw [rk_ k2,rk_ k2',<- W.rank k1] at hC'
   exact zb7 (kp k2) (kp k2') hC'
 ·intro ws h' c hpm' hs kk ha
  obtain⟨js',hjp',ej⟩:=zap (fun q:Addr×(Int×Int)=>Value.ref q.1) hpm' js hj
  have hD:H h1.objs.size=none:=I.hok.fresh zle
  have hT':∀q∈js',H q.1=some (.tup [.int q.2.1,.int q.2.2]):=fun q hq=>hTj q (hjp'.mem_iff.mp hq)
  have rv':Vals (js'.map fun q=>V.ref q.1) ws:=by
   rw [ej]
   exact rv
  have nd':(js'.map (·.2)).Nodup:=(hjp'.map (·.2)).nodup_iff.mpr (by rw [hps];exact hndj)
  have hup:Up2 (js'.map (·.2)):=by
   unfold Up2
   unfold List.Nodup at nd'
   rw [List.pairwise_map] at nd' ⊢
   rw [ej,List.pairwise_map] at hs
   refine(hs.and nd').imp_of_mem fun {x y} hx hy ⟨h1,h2⟩=>?_
   rw [rk_ (ip x (hT' x hx)),rk_ (ip y (hT' y hy))] at h1
   have my:y.2∈ps:=by
    rw [<- hps]
    exact List.mem_map.mpr ⟨y,hjp'.mem_iff.mp hy,rfl⟩
   have e1:lt2 y.2 x.2=false:=by
    rw [W.rank my]
    exact decide_eq_false (by omega)
   have e2:=zb8 h2
   rw [e1] at e2
   cases hh:lt2 x.2 y.2 with
   | true=>rfl
   | false =>
    rw [hh] at e2
    cases e2
  refine⟨_,rfl,wpAny_pure ⟨_,rfl,.ref h1.objs.size,upd H h1.objs.size (.lst (js'.map fun q=>V.ref q.1)),I.laid (t':=tk) (fun b o e=>kk b o (ne b o e) (kL b o e)) zle ⟨?_,_,c,rv',ha⟩,rfl,q _ _ _ hD (ht hT') ((hjp'.trans hjp).map _) hup⟩⟩
  rw [rv'.length,hpm'.length_eq]
  exact small
end ST
section
variable {K:PySem.W.Frag}{g:TG}{tc:TT}{te:TE}{Q:VK}{σ:St}{H:Hp}{D:Addr}
theorem zhK {a:Addr}{xs:List V}(Pv:Nat->St->Hp->Prop)(h0:Pv 0 σ H)(hl:∀i σ H,i<=xs.length->Pv i σ H->SqT K H a xs)
  (hs:∀i x σ H,xs[i]?=some x->Pv i σ H->g x σ H fun σ2 H3=>tc σ2 H3 fun b H4=>if b=true then te σ2 H4 fun y H5=>∃ys,H5 D=some (.lst ys)/\ys.length<sizeLine/\Pv (i+1) σ2 (upd H5 D (.lst (ys++[y]))) else Pv (i+1) σ2 H4)
  (hd:∀ σ H,Pv xs.length σ H->Q (.ref D) H):Zu (Itt K a) g tc te Q D σ H:=by
 refine⟨fun i m σ H=>m=xs.length-i/\i<=xs.length/\Pv i σ H,⟨xs.length,by simp,zero_le _,h0⟩,?_⟩
 rintro i m σ H ⟨rfl,hi,p⟩
 have q:=hl i σ H hi p
 by_cases hlt:i<xs.length
 ·refine .inr ⟨⟨xs,xs[i],q,by simp [hlt]⟩,Pv (i+1),fun σ' H' p'=>⟨xs.length-(i+1),by omega,rfl,hlt,p'⟩,fun x H' y=>?_⟩
  obtain⟨e,y⟩:=y
  subst e
  exact hs i x σ _ (y xs q) p
 ·have e:i=xs.length:=by omega
  subst e
  exact .inl ⟨⟨xs,q,le_refl _⟩,hd σ H p⟩
end
section
variable {X:Cx}
def zk9 (K:PySem.W.Frag)(S:Addr)(i:Nat)(sp:Sp)(ta:TA)(ts:TS):TS:=fun D σ H=>ta σ H fun vs H1=>sp vs H1 (fun v H2=>D.nx (σ.set i (some v)) H2)
 (fun c _ H2=>∃C,c=.ref C/\PySem.W.mroIn K C (.ref S)=some true/\∀e,H2 e=none->ts D σ (upd H2 e (exO e C)))
theorem ziX {k i:Nat}{x f xS:Str}{fA S:Addr}{fd:FuncData}{ps:List Str}{sp:Sp}{ta:TA}{ts:TS}{e0:Expr}{es:List Expr}{xp fp cp ap sp0 hp pos:Pos}{b0:Stmt}{suite:List Stmt}
  (hst:X.stack=X.env::X.outer) (hfr:X.env.frame=some X.env.locals) (F:zQ X.prog X.w X.K X.mg X.base (CXE X.prog X.w) k fA fd ps sp) (hr:Jv k X.A) (hg:Gl X f) (hm:X.mg f=some (.ref fA)) (hk:PySem.W.keepIn X.K (.ref fA)=true) (hb:Binds X.K fd ps [])
  (hN:X.N.Nodup) (hi:X.N[i]?=some x) (hx:Loc X.env.scope x) (hf:X.fn x=true\/X.env.scope.names.lookup x=some .local) (gS:Gl X xS) (O:Z0 X.K X.mg xS S)
  (ha:PA X.nox (e0::es) ta) (hs:∀e,PSs (markX X e) (b0::suite) ts)
  (he:starEach (e0::es) X.env=(false,eval e0 X.env)::starEach es X.env:=by rfl) (hpl:(backTo cp (starEach es X.env)).any (·.1)=false:=by rfl) (hdb:(f==("__debug__":Str))=false:=by decide) (hdS:(xS==("__debug__":Str))=false:=by decide)
  (hsw:swapsWith (.Call (.Name f fp) (e0::es) [] cp) (some (.Name x xp)) ap.line X.env=pure false:=by rfl) :
  PS X (.Try [.Assign [.Name x xp] (.Call (.Name f fp) (e0::es) [] cp) ap] [.ExceptHandler (some (.Name xS sp0)) none (b0::suite) hp] [] [] pos) (zk9 X.K S i sp ta ts):=by
 intro pins s σ H D I h
 refine wpAny_Try_except (wpAny_execs_cons ?_)
 refine wpAny_Assign_Name (wpAny_Call_Name_kw (JX I hg hm ?_ hdb)) hsw
 refine PySem.W.callWith_K (h₀:=X.base) I.ok.mod.kin hk (wpAny_mono (ha cp pins s σ H _ (I.wish _) h) (fun us s1 ⟨vs,H1,I1',r,q⟩=>⟨I1'.kIn,?_⟩) fun _ _ z=>False.elim z) he hpl
 have I1:Inv X pins σ H1 s1:=I1'.unwish
 have hlen:us.length=ps.length:=by rw [<- r.length];exact F.len _ _ _ _ q
 have bt:=hb s1 us I1.kIn (by rw [append_nil];exact hlen)
 rw [append_nil] at bt
 refine wpAny_call (codeAny_mono (F.run X.A X.stack s1 H1 ⟨us,[]⟩ us vs _ _ hr I1.env0 bt r q) fun res s' hq=>?_)
 cases res with
 | ok fl =>
  cases fl with
  | ret u =>
   obtain⟨v,H2,I2,rv,q2⟩:=I1.after hq
   exact Q2 I2 hN hi hx rv (fun s3 I3=>wpAny_execs_nil (wpAny_execs_nil ⟨_,H2,I3,q2⟩)) hf
  | next=>exact False.elim hq
  | brk=>exact False.elim hq
  | cont=>exact False.elim hq
 | error y =>
  obtain⟨e,C,a0,B,H',rfl,Fl,C',ec,hmr,hsu⟩:=hq
  cases ec
  have ff:=Fl.fly
  rw [hst] at ff
  refine wpAny_looks_onW (by rw [I1.ok.frames,hst]) hfr ff fun h4 zhn up4=>?_
  refine wpAny_landsW zhn fun h5 zel up5=>?_
  have up:=up4.trans up5
  have I5:=Fl.caught I1 (h:=h5) (by rw [hst];exact zel) up
  refine wpAny_handleBy_cons (codeAny_handlers_test (JX (X:=markX X e) (I5.mark e) gS O.g ?_ hdS)) (by intro z;cases z)
  obtain⟨bm,OS⟩:=zhc I5.kIn O.q
  obtain⟨oe,vs5,q1,q2,q3,_⟩:=zel.first
  refine ze7 OS q1 q2 (PySem.W.looks_mroIn I5.kIn hmr) (codeAny_handlers_suite ?_)
  refine lands_againW zel fun h6 zkc up6=>?_
  have I6:=Fl.caught I1 (h:=h6) (by rw [hst];exact zkc) (up.trans up6)
  refine wpAny_mono (hs e pins _ _ _ _ (I6.mark e) (hsu e Fl.free)) (fun fl s8 q8=>?_) fun _ _ z=>z.elim
  cases fl with
  | next =>
   obtain⟨σ8,H8,I8,q8⟩:=q8
   exact⟨_,H8,I8.unmark I.ok,q8⟩
  | brk =>
   obtain⟨σ8,H8,I8,q8⟩:=q8
   exact⟨_,H8,I8.unmark I.ok,q8⟩
  | cont =>
   obtain⟨σ8,H8,I8,q8⟩:=q8
   exact⟨_,H8,I8.unmark I.ok,q8⟩
  | ret u =>
   obtain⟨v8,σ8,H8,I8,r8,q8⟩:=q8
   exact⟨v8,_,H8,I8.unmark I.ok,r8,q8⟩
end
end L2
namespace Cells
noncomputable def zP (p:Nat->Bool)(i:Nat):Nat->List Nat->List (Nat×Nat)
 | _,[]=>[]
 | j,c::r=>(if p c=true then [(i,j)] else [])++zP p i (j+1) r
noncomputable def zE (p:Nat->Bool):Nat->List (List Nat)->List (Nat×Nat)
 | _,[]=>[]
 | i,t::r=>zP p i 0 t++zE p (i+1) r
theorem J5 (p:Nat->Bool)(i:Nat):∀(j:Nat) (a b:List Nat),zP p i j (a++b)=zP p i j a++zP p i (j+a.length) b
 | j,[],b=>by simp [zP]
 | j,c::a,b=>by
  simp only [List.cons_append,zP,J5 p i (j+1) a b,length_cons,append_assoc]
  rw [show j+1+a.length=j+(a.length+1) by omega]
theorem J6 (p:Nat->Bool):∀(i:Nat) (a b:List (List Nat)),zE p i (a++b)=zE p i a++zE p (i+a.length) b
 | i,[],b=>by simp [zE]
 | i,t::a,b=>by
  simp only [List.cons_append,zE,J6 p (i+1) a b,length_cons,append_assoc]
  rw [show i+1+a.length=i+(a.length+1) by omega]
theorem J7 {p:Nat->Bool}{i j c:Nat}{t:List Nat}(h:t[j]?=some c):zP p i 0 (t.take (j+1))=zP p i 0 (t.take j)++(if p c=true then [(i,j)] else []):=by
 rw [take_add_one,h,J5]
 have hl:(t.take j).length=j:=by
  have:=(List.getElem?_eq_some_iff.mp h).1
  rw [length_take];omega
 simp [zP,hl]
theorem J8 {p:Nat->Bool}{i:Nat}{t:List Nat}{rs:List (List Nat)}(h:rs[i]?=some t):zE p 0 (rs.take (i+1))=zE p 0 (rs.take i)++zP p i 0 t:=by
 rw [take_add_one,h,J6]
 have hl:(rs.take i).length=i:=by
  have:=(List.getElem?_eq_some_iff.mp h).1
  rw [length_take];omega
 simp [zE,hl]
theorem jb (p:Nat->Bool)(i:Nat):∀(j:Nat) (t:List Nat),(zP p i j t).length<=t.length
 | j,[]=>by simp [zP]
 | j,c::r=>by
  have:=jb p i (j+1) r
  simp only [zP,length_append,length_cons]
  split<;>simp<;>omega
theorem qu (p:Nat->Bool):∀(i:Nat) (rs:List (List Nat)),(∀t∈rs,t.length<=8)->(zE p i rs).length<=8*rs.length
 | i,[],_=>by simp [zE]
 | i,t::r,h=>by
  have h1:=jb p i 0 t
  have h2:=qu p (i+1) r fun u hu=>h u (mem_cons_of_mem _ hu)
  have h3:=h t mem_cons_self
  simp only [zE,length_append,length_cons]
  omega
theorem xy {p:Nat->Bool}{i:Nat}:∀{j:Nat} {t:List Nat} {x:Nat×Nat},x∈zP p i j t->∃m c,x=(i,j+m)/\t[m]?=some c/\p c=true
 | j,[],x,h=>by simp [zP] at h
 | j,c::r,x,h=>by
  simp only [zP,List.mem_append] at h
  rcases h with h | h
  ·split at h
   ·rename_i hp
    have:x=(i,j):=by simpa using h
    exact⟨0,c,this,rfl,hp⟩
   ·cases h
  ·obtain⟨m,c',e,h1,h2⟩:=xy h
   exact⟨m+1,c',by rw [e,show j+1+m=j+(m+1) by omega],by simpa using h1,h2⟩
theorem qW {p:Nat->Bool}:∀{i:Nat} {rs:List (List Nat)} {x:Nat×Nat},x∈zE p i rs->∃k j t c,x=(i+k,j)/\rs[k]?=some t/\t[j]?=some c/\p c=true
 | i,[],x,h=>by simp [zE] at h
 | i,t::r,x,h=>by
  simp only [zE,List.mem_append] at h
  rcases h with h | h
  ·obtain⟨m,c,e,h1,h2⟩:=xy h
   exact⟨0,m,t,c,by simpa using e,rfl,h1,h2⟩
  ·obtain⟨k,j,u,c,e,h1,h2,h3⟩:=qW h
   exact⟨k+1,j,u,c,by rw [e,show i+1+k=i+(k+1) by omega],by simpa using h1,h2,h3⟩
noncomputable def sgn (rs:List (List Nat))(x:Nat×Nat):Nat:=(rs.getD x.1 []).getD x.2 0
theorem YQ {p q:Nat->Bool}{i:Nat}(f:Nat×Nat->Bool):∀(j:Nat) (t:List Nat),(∀m c,t[m]?=some c->f (i,j+m)=q c)->(zP p i j t).filter f=zP (fun c=>p c&&q c) i j t
 | j,[],_=>by simp [zP]
 | j,c::r,h=>by
  have ih:=YQ (p:=p) (q:=q) (i:=i) f (j+1) r fun m c' hm=>by
   have:=h (m+1) c' (by simpa using hm)
   rw [show j+1+m=j+(m+1) by omega];exact this
  have h0:=h 0 c rfl
  simp only [zP,filter_append,ih]
  congr 1
  simp only [Nat.add_zero] at h0
  by_cases hp:p c=true
  ·by_cases hq:q c=true
   ·simp [hp,hq,h0]
   ·simp [hp,hq,h0]
  ·simp [hp]
theorem YR {p q:Nat->Bool}(f:Nat×Nat->Bool):∀(i:Nat) (rs:List (List Nat)),(∀k t m c,rs[k]?=some t->t[m]?=some c->f (i+k,m)=q c)->(zE p i rs).filter f=zE (fun c=>p c&&q c) i rs
 | i,[],_=>by simp [zE]
 | i,t::r,h=>by
  have ih:=YR (p:=p) (q:=q) f (i+1) r fun k u m c hk hm=>by
   have:=h (k+1) u m c (by simpa using hk) hm
   rw [show i+1+k=i+(k+1) by omega];exact this
  simp only [zE,filter_append,ih]
  rw [YQ (p:=p) (q:=q) f 0 t fun m c hm=>by simpa using h 0 t m c rfl hm]
theorem zas {rs:List (List Nat)}{i j:Nat}{t:List Nat}{c:Nat}(h:rs[i]?=some t)(h2:t[j]?=some c):sgn rs (i,j)=c:=by
 unfold sgn
 simp [List.getD,h,h2]
theorem all_filter {p q:Nat->Bool}(rs:List (List Nat)):(zE p 0 rs).filter (fun x=>q (sgn rs x))=zE (fun c=>p c&&q c) 0 rs :=
 YR _ 0 rs fun k t m c hk hm=>by rw [show 0+k=k by omega,zas hk hm]
theorem Jh {p q:Nat->Bool}(h:∀c,p c=q c)(i:Nat)(rs:List (List Nat)):zE p i rs=zE q i rs:=by
 rw [show p=q from funext h]
def near (x y:Nat×Nat):Bool:=decide ((if (x.1:Int)-(y.1:Int)<0 then -((x.1:Int)-(y.1:Int)) else (x.1:Int)-(y.1:Int))<2)&&(decide ((if (x.2:Int)-(y.2:Int)<0 then -((x.2:Int)-(y.2:Int)) else (x.2:Int)-(y.2:Int))<2) && !decide (x=y))
theorem xO (x y:Nat×Nat):near x y=true↔(x.1<=y.1+1/\y.1<=x.1+1)/\(x.2<=y.2+1/\y.2<=x.2+1)/\¬ x=y:=by
 unfold near
 rw [and_eq_true,and_eq_true,decide_eq_true_iff,decide_eq_true_iff,not_eq_true',decide_eq_false_iff_not]
 constructor
 ·rintro⟨h1,h2,h3⟩
  refine⟨?_,?_,h3⟩
  ·split at h1<;>omega
  ·split at h2<;>omega
 ·rintro⟨h1,h2,h3⟩
  refine⟨?_,?_,h3⟩
  ·split<;>omega
  ·split<;>omega
def lex (a b:Nat×Nat):Prop:=a.1<b.1\/(a.1=b.1/\a.2<b.2)
theorem zbE (p:Nat->Bool)(i:Nat):∀(j:Nat) (t:List Nat),(zP p i j t).Pairwise lex
 | j,[]=>by simp [zP]
 | j,c::r=>by
  simp only [zP]
  rw [List.pairwise_append]
  refine⟨?_,zbE p i (j+1) r,fun a ha b hb=>?_⟩
  ·split<;>simp
  ·split at ha
   ·have e:a=(i,j):=by simpa using ha
    obtain⟨m,c',e',_,_⟩:=xy hb
    subst e e'
    exact .inr ⟨rfl,by show j<j+1+m;omega⟩
   ·cases ha
theorem ZS (p:Nat->Bool):∀(i:Nat) (rs:List (List Nat)),(zE p i rs).Pairwise lex
 | i,[]=>by simp [zE]
 | i,t::r=>by
  simp only [zE]
  rw [List.pairwise_append]
  refine⟨zbE p i 0 t,ZS p (i+1) r,fun a ha b hb=>?_⟩
  obtain⟨m,c,e,_,_⟩:=xy ha
  obtain⟨k,j,u,c',e',_,_,_⟩:=qW hb
  subst e e'
  exact .inl (by show i<i+1+k;omega)
theorem zhL {p:Nat->Bool}{f:Nat×Nat->Bool}{n:Nat}{rs:List (List Nat)}(h:∀r c,r<n->f (r,c)=false):(zE p 0 (rs.take n)).filter f=[]:=by
 rw [List.filter_eq_nil_iff]
 intro x hx
 obtain⟨k,j,t,c,e,hk,_,_⟩:=qW hx
 have hkl:k<n:=by
  have:=(List.getElem?_eq_some_iff.mp hk).1
  rw [length_take] at this
  omega
 subst e
 rw [h _ _ (by omega)]
 exact Bool.false_ne_true
theorem zgr {p:Nat->Bool}{f:Nat×Nat->Bool}{n:Nat}{rs:List (List Nat)}(h:∀r c,n<=r->f (r,c)=false):(zE p 0 (rs.take n)).filter f=(zE p 0 rs).filter f:=by
 by_cases hn:n<=rs.length
 ·have e:=take_append_drop n rs
  have e2:zE p 0 rs=zE p 0 (rs.take n)++zE p (0+(rs.take n).length) (rs.drop n):=by rw [<- J6,e]
  rw [e2,filter_append]
  have z:(zE p (0+(rs.take n).length) (rs.drop n)).filter f=[]:=by
   rw [List.filter_eq_nil_iff]
   intro x hx
   obtain⟨k,j,t,c,e,hk,_,_⟩:=qW hx
   subst e
   rw [length_take,h _ _ (by omega)]
   exact Bool.false_ne_true
  rw [z,append_nil]
 ·rw [take_of_length_le (by omega)]
theorem zhM {p:Nat->Bool}{f:Nat×Nat->Bool}{i n:Nat}{t:List Nat}(h:∀c,c<n->f (i,c)=false):(zP p i 0 (t.take n)).filter f=[]:=by
 rw [List.filter_eq_nil_iff]
 intro x hx
 obtain⟨m,c,e,hm,_⟩:=xy hx
 have hml:m<n:=by
  have:=(List.getElem?_eq_some_iff.mp hm).1
  rw [length_take] at this
  omega
 subst e
 rw [h _ (by omega)]
 exact Bool.false_ne_true
theorem zgs {p:Nat->Bool}{f:Nat×Nat->Bool}{i n:Nat}{t:List Nat}(h:∀c,n<=c->f (i,c)=false):(zP p i 0 (t.take n)).filter f=(zP p i 0 t).filter f:=by
 by_cases hn:n<=t.length
 ·have e:=take_append_drop n t
  have e2:zP p i 0 t=zP p i 0 (t.take n)++zP p i (0+(t.take n).length) (t.drop n):=by rw [<- J5,e]
  rw [e2,filter_append]
  have z:(zP p i (0+(t.take n).length) (t.drop n)).filter f=[]:=by
   rw [List.filter_eq_nil_iff]
   intro x hx
   obtain⟨m,c,e,hm,_⟩:=xy hx
   subst e
   rw [length_take,h _ (by omega)]
   exact Bool.false_ne_true
  rw [z,append_nil]
 ·rw [take_of_length_le (by omega)]
end Cells
namespace Choose
end Choose
namespace Two
noncomputable def both (A B:List (Nat×Nat)):List (Nat×Nat):=A.filter fun c=>decide (c∈B)
noncomputable def alone (A B:List (Nat×Nat)):List (Nat×Nat):=A.filter fun c=>!decide (c∈B)
theorem J9 {A:List (Nat×Nat)}(p:Nat×Nat->Bool)(h:A.Nodup):(A.filter p).Nodup:=List.Pairwise.filter _ h
end Two
namespace K52
open PySem L2
abbrev top (i:Nat):Stmt:=QZ.top i
abbrev JE:Stmt:=top 6
abbrev jU:Stmt:=top 7
abbrev JF:Stmt:=top 8
abbrev yH:Stmt:=top 9
abbrev jv:Stmt:=top 10
abbrev jy:Stmt:=top 11
abbrev qK:Stmt:=top 13
abbrev JG:Stmt:=top 16
abbrev Za:Stmt:=top 17
abbrev Zb:Stmt:=top 18
abbrev jk:Stmt:=top 19
abbrev xP:Stmt:=top 20
abbrev JH:Stmt:=top 21
abbrev QW:Stmt:=top 22
abbrev ZD:Stmt:=top 23
abbrev jV:Stmt:=top 24
abbrev Ji:Stmt:=top 25
abbrev ZT:Stmt:=top 26
abbrev jC:Stmt:=top 28
abbrev jK:Stmt:=top 29
abbrev xQ:Stmt:=top 30
abbrev Jj:Stmt:=top 31
abbrev qQ:Stmt:=top 32
abbrev ye:Stmt:=top 33
abbrev yI:Stmt:=top 34
abbrev Zc:Stmt:=top 35
abbrev yw:Stmt:=top 36
abbrev jW:Stmt:=top 37
abbrev xh:Stmt:=top 39
abbrev Zd:Stmt:=top 40
abbrev yx:Stmt:=top 41
abbrev jL:Stmt:=top 42
abbrev zdk:Stmt:=top 43
structure Txt (mg:Str->Option Value):Prop where
 zjt:mg "abs"=none
 zhN:mg "all"=none
 zhO:mg "bool"=none
 zhP:mg "dict"=none
 ZE:mg "enumerate"=none
 zfq:mg "int"=none
 jz:mg "isinstance"=none
 qR:mg "len"=none
 yO:mg "list"=none
 zbF:mg "max"=none
 zat:mg "min"=none
 xj:mg "range"=none
 zju:mg "set"=none
 xR:mg "sorted"=none
 zjv:mg "str"=none
 zla:mg "sum"=none
 ziY:mg "tuple"=none
 zjw:∃t,mg "ALL"=some (.str "all" t)
 Js:∃t,mg "CLOSED_SIGN"=some (.str "?" t)
 ZF:∃t,mg "NO_CELL_SIGN"=some (.str "#" t)
structure Prog (K:PySem.W.Frag)(mg:Str->Option Value):Prop where
 closed:∃(f:Addr) (fd:FuncData),zC K mg "closed" JE ["board"] f fd
 open_cells:∃(f:Addr) (fd:FuncData),zC K mg "open_cells" jU ["board"] f fd
 around:∃(f:Addr) (fd:FuncData),zC K mg "around" JF ["board","cell"] f fd
 number_at:∃(f:Addr) (fd:FuncData),zC K mg "number_at" yH ["board","cell"] f fd
 cells_of:∃(f:Addr) (fd:FuncData),zC K mg "cells_of" jv ["board"] f fd
 sign_at:∃(f:Addr) (fd:FuncData),zC K mg "sign_at" jy ["board","cell"] f fd
 closed_around:∃(f:Addr) (fd:FuncData),zC K mg "closed_around" qK ["board","cell"] f fd
 follows:∃(f:Addr) (fd:FuncData),zC K mg "follows" JG ["board","things","finding"] f fd
 asked_by:∃(f:Addr) (fd:FuncData),zC K mg "asked_by" Za ["board","thing"] f fd
 known_of:∃(f:Addr) (fd:FuncData),zC K mg "known_of" Zb ["finding"] f fd
 still_asked:∃(f:Addr) (fd:FuncData),zC K mg "still_asked" jk ["asked","known"] f fd
 gained:∃(f:Addr) (fd:FuncData),zC K mg "gained" xP ["asked"] f fd
 settled:∃(f:Addr) (fd:FuncData),zC K mg "settled" JH ["regions"] f fd
 holds:∃(f:Addr) (fd:FuncData),zC K mg "holds" QW ["board","finding","step"] f fd
 picked:∃(f:Addr) (fd:FuncData),zC K mg "picked" ZD ["cells","some"] f fd
 are_things:∃(f:Addr) (fd:FuncData),zC K mg "are_things" jV ["board","things"] f fd
 are_cells:∃(f:Addr) (fd:FuncData),zC K mg "are_cells" Ji ["cells"] f fd
 is_cell:∃(f:Addr) (fd:FuncData),zC K mg "is_cell" ZT ["thing"] f fd
 law_cell_at:∃(f:Addr) (fd:FuncData),zC K mg "_law_cell_at" jC ["_law_script","_law_k"] f fd
 law_mixed:∃(f:Addr) (fd:FuncData),zC K mg "_law_mixed" jK ["_law_cell","_law_k"] f fd
 law_mark:∃(f:Addr) (fd:FuncData),zC K mg "_law_mark" xQ ["_law_drawn_here","_law_often","_law_many","_law_room"] f fd
 law_drawn:∃(f:Addr) (fd:FuncData),zC K mg "_law_drawn" Jj ["_law_script","_law_most","_law_limit"] f fd
 law_cells:∃(f:Addr) (fd:FuncData),zC K mg "_law_cells" qQ ["_law_rows","_law_signs"] f fd
 law_near:∃(f:Addr) (fd:FuncData),zC K mg "_law_near" ye ["_law_one","_law_other"] f fd
 law_board:∃(f:Addr) (fd:FuncData),zC K mg "_law_board" yI ["_law_marks"] f fd
 law_bent:∃(f:Addr) (fd:FuncData),zC K mg "_law_bent" Zc ["_law_board_here","_law_cell"] f fd
 law_finding:∃(f:Addr) (fd:FuncData),zC K mg "_law_finding" yw ["_law_marks","_law_cell"] f fd
 law_looked:∃(f:Addr) (fd:FuncData),zC K mg "_law_looked" jW ["_law_board_here","_law_thing"] f fd
 law_things:∃(f:Addr) (fd:FuncData),zC K mg "_law_things" xh ["_law_board_here"] f fd
 law_told:∃(f:Addr) (fd:FuncData),zC K mg "_law_told" Zd ["_law_board_here","_law_things_here","_law_finding_here"] f fd
 law_spoiled:∃(f:Addr) (fd:FuncData),zC K mg "_law_spoiled" yx ["_law_board_here","_law_step","_law_finding_here","_law_way","_law_cell"] f fd
 law_due:∃(f:Addr) (fd:FuncData),zC K mg "_law_due" jL ["_law_board_here","_law_step","_law_finding_here"] f fd
def zes (K:PySem.W.Frag):Sp:=fun vs H Q _=>∃(a:Addr) (ns:List Int) (k:Int),vs=[.ref a,.int k]/\SqL K H a (ns.map V.int)/\0<=k/\∀z:Int,Q (.int z) H
structure Row (signs:List Nat)(n:Nat)(t:Str):Prop where
 len:t.cps.size=n
 mem:∀c∈t.cps.toList,c∈signs
structure Rows (signs:List Nat)(rs:List Str):Prop where
 lo:1<=rs.length
 hi:rs.length<=8
 ex:∃n,1<=n/\n<=8/\∀t∈rs,Row signs n t
noncomputable def bd:Str:="?012345678#"
section
variable {P:Program}{w:World}{K:PySem.W.Frag}{mg:Str->Option Value}{base:Heap}{f:Addr}{fd:FuncData}
theorem zau:zO ["_law_script","_law_k"] ["_law_script","_law_k"] (zk jC):=⟨rfl,rfl,rfl,by decide +kernel,rfl,by decide +kernel,by decide +kernel⟩
theorem ZG (T:Txt mg)(D:zC K mg "_law_cell_at" jC ["_law_script","_law_k"] f fd):zQ P w K mg base CX0 1 f fd ["_law_script","_law_k"] (zes K):=by
 refine D.F.ok zau (fun vs H Q E h=>?_) (fun cdv A outer s H vs Q E hr h=>?_)
 ·obtain⟨a,ns,i,rfl,_⟩:=h
  rfl
 ·obtain⟨a,ns,i,rfl,hS,hi,k⟩:=h
  refine⟨_,(zf (qo (zq Q6 (pv 1) (zm zx (by rfl) T.qR PySem.boot_len (za (pv 0) zc)) (zD _)) (zg (zG (zw zT (pv 0) (pv 1) (fun _ _=>rfl)))) zM)
   (zg (zG ze))),?_⟩
  refine⟨_,rfl,_,rfl,a,_,rfl,.inl hS,_,_,rfl,rfl,_,rfl,?_⟩
  refine yc (fun c=>?_) (fun c=>?_)
  ·have c':i<((ns.map V.int).length:Nat):=of_decide_eq_true c
   rw [length_map] at c'
   have hl:i.toNat<ns.length:=by omega
   refine⟨_,rfl,_,rfl,a,_,i,.int ns[i.toNat],rfl,rfl,hS,Jq hi (by rw [getElem?_map,getElem?_eq_getElem hl];rfl),?_⟩
   exact k _
  ·exact k 0
end
structure qz (H:Hp)(p l:Addr)(rs:List Str)(n:Int):Prop where
 tp:H p=some (.tup [.ref l,.int n])
 rw:H l=some (.lst (rs.map V.str))
theorem qz.mono {H H':Hp}{p l:Addr}{rs:List Str}{n:Int}(b:qz H p l rs n)(s:zy H H'):qz H' p l rs n:=⟨s _ _ b.tp,s _ _ b.rw⟩
noncomputable def codes (rs:List Str):List (List Nat):=rs.map fun t=>t.cps.toList
theorem yf {rs:List Str}{i:Nat}{t:Str}(h:rs[i]?=some t):(codes rs)[i]?=some t.cps.toList:=by
 unfold codes
 rw [getElem?_map,h]
 rfl
theorem ZU {rs:List Str}{i:Nat}{u:List Nat}(h:(codes rs)[i]?=some u):∃t,rs[i]?=some t/\u=t.cps.toList:=by
 unfold codes at h
 rw [getElem?_map] at h
 cases e:rs[i]? with
 | none =>
  rw [e] at h
  cases h
 | some t =>
  rw [e] at h
  cases h
  exact⟨t,rfl,rfl⟩
theorem qD (rs:List Str):(codes rs).length=rs.length:=by
 unfold codes
 rw [length_map]
theorem Rows.short {s:List Nat}{rs:List Str}(R:Rows s rs):∀u∈codes rs,u.length<=8:=fun u hu=>by
 obtain⟨t,ht,rfl⟩:=List.mem_map.mp hu
 obtain⟨n,_,h8,q⟩:=R.ex
 have:=(q t ht).len
 rw [length_toList]
 omega
theorem Rows.tlen {s:List Nat}{rs:List Str}{i:Nat}{t:Str}(R:Rows s rs)(h:rs[i]?=some t):t.length<=sizeLine:=by
 obtain⟨n,_,h8,q⟩:=R.ex
 have e:t.length=n:=(q t (mem_of_getElem? h)).len
 rw [e]
 exact le_trans h8 (by decide)
def j5 (H:Hp)(v:V)(c:Nat×Nat):Prop:=∃a,v=V.ref a/\H a=some (.tup [.int (c.1:Nat),.int (c.2:Nat)])
def Cel (H:Hp):List V->List (Nat×Nat)->Prop:=Paired (j5 H)
theorem Cel.mono {H H':Hp}(s:zy H H'){vs:List V}{cs:List (Nat×Nat)}(hp:Cel H vs cs):Cel H' vs cs:=by
 induction hp with
 | nil=>exact .nil
 | cons q _ ih =>
  obtain⟨a,e,h⟩:=q
  exact .cons ⟨a,e,s _ _ h⟩ ih
theorem Cel.snoc {H:Hp}{vs:List V}{cs:List (Nat×Nat)}{v:V}{c:Nat×Nat}(h:Cel H vs cs)(x:j5 H v c):Cel H (vs++[v]) (cs++[c]):=Paired.snoc h x
theorem Cel.append {H:Hp}{vs ws:List V}{cs ds:List (Nat×Nat)}(h:Cel H vs cs)(k:Cel H ws ds):Cel H (vs++ws) (cs++ds):=zb6 h k
theorem Cel.into {H:Hp}(z:Addr)(o:HO){old:List V}(hz:H z=some (.lst old)){vs:List V}{cs:List (Nat×Nat)}(hp:Cel H vs cs):Cel (upd H z o) vs cs:=by
 induction hp with
 | nil=>exact .nil
 | cons q _ ih =>
  obtain⟨a,e,h⟩:=q
  exact .cons ⟨a,e,by rw [zo (Q0 h hz (by intro y;cases y))];exact h⟩ ih
theorem Cel.length {H:Hp}{vs:List V}{cs:List (Nat×Nat)}(h:Cel H vs cs):vs.length=cs.length:=Paired.length h
theorem Cel.get {H:Hp}:∀{vs:List V} {cs:List (Nat×Nat)} {i:Nat} {v:V},Cel H vs cs->vs[i]?=some v->∃c,cs[i]?=some c/\j5 H v c
 | _,_,_,_,.nil,e=>by simp at e
 | _,_,0,_,.cons r _,e=>by
  simp at e
  subst e
  exact⟨_,rfl,r⟩
 | _,_,i+1,v,.cons _ t,e=>by
  obtain⟨c,h1,h2⟩:=Cel.get (i:=i) (v:=v) t (by simpa using e)
  exact⟨c,by simpa using h1,h2⟩
noncomputable def zh (c:Nat×Nat):PyData:=.tuple [.int (c.1:Nat),.int (c.2:Nat)]
theorem j5.rdv {K:PySem.W.Frag}{H:Hp}{v:V}{c:Nat×Nat}(h:j5 H v c):Rdv K H v (zh c):=by
 obtain⟨a,rfl,h⟩:=h
 exact .tup (SqT.of h) (.cons (.int _) (.cons (.int _) .nil))
theorem zbG (c d:Nat×Nat):zf2 (zh c) (zh d):=⟨rfl,rfl,by show max 0 (max 0 0)+1<=64;decide⟩
theorem ZV (c d:Nat×Nat):PyData.eqv (zh c) (zh d)=decide (c=d):=by
 obtain⟨a,b⟩:=c
 obtain⟨x,y⟩:=d
 show ((((a:Nat):Int)==((x:Nat):Int))&&((((b:Nat):Int)==((y:Nat):Int))&&true))=decide ((a,b)=(x,y))
 by_cases h1:a=x
 ·by_cases h2:b=y
  ·subst h1 h2
   simp
  ·have:¬ ((b:Int)=(y:Int)):=by omega
   simp [h2,this]
 ·have:¬ ((a:Int)=(x:Int)):=by omega
  simp [h1,this]
theorem zav (c k:Nat):(V.str ⟨#[c]⟩=V.str ⟨#[k]⟩)=(c=k):=by
 apply propext
 constructor
 ·intro h
  have h2:(⟨#[c]⟩:Str)=⟨#[k]⟩:=V.str.inj h
  have h3:(#[c]:Array Nat)=#[k]:=congrArg Str.cps h2
  simpa using h3
 ·rintro rfl
  rfl
theorem Jf:("#":Str)=⟨#[35]⟩:=by decide +kernel
theorem zcl:("?":Str)=⟨#[63]⟩:=by decide +kernel
def qe (c:Nat):Bool:=!decide (c=35)
def JI (c:Nat):Bool:=decide (c=63)
def Qx (c:Nat):Bool:=qe c && !decide (c=63)
def zaw:Sp:=fun vs H Q _=>∃(p l c:Addr) (rs:List Str) (n:Int) (i j:Nat) (t:Str) (k:Nat),vs=[.ref p,.ref c]/\qz H p l rs n/\H c=some (.tup [.int (i:Nat),.int (j:Nat)])/\rs[i]?=some t/\t.cps.toList[j]?=some k/\t.length<=sizeLine/\Q (.str ⟨#[k]⟩) H
def Ye (p:Nat->Bool):Sp:=fun vs H Q _=>∃(a l:Addr) (rs:List Str) (n:Int),vs=[.ref a]/\qz H a l rs n/\Rows bd.cps.toList rs /\
 ∀(d:Addr) (ws:List V) (H':Hp),H d=none->H' d=some (.lst ws)->Cel H' ws (Cells.zE p 0 (codes rs))->zy H H'->Q (.ref d) H'
def zdl:Sp:=fun vs H Q _=>∃(p l c:Addr) (rs:List Str) (n:Int) (i j:Nat) (t:Str) (k:Nat),vs=[.ref p,.ref c]/\qz H p l rs n/\H c=some (.tup [.int (i:Nat),.int (j:Nat)])/\rs[i]?=some t/\t.cps.toList[j]?=some k/\t.length<=sizeLine/\48<=k/\k<=56/\Q (.int ((k:Int)-48)) H
theorem int_sign {k:Nat}(h1:48<=k)(h2:k<=56):PySem.intText? ⟨#[k]⟩=some ((k:Int)-48):=by
 have:∀k∈List.range 57,48<=k->PySem.intText? ⟨#[k]⟩=some ((k:Int)-48):=by decide +kernel
 exact this k (List.mem_range.mpr (by omega)) h1
section
variable {P:Program}{w:World}{K:PySem.W.Frag}{mg:Str->Option Value}{base:Heap}{f:Addr}{fd:FuncData}
theorem zet:zO ["board","cell"] ["board","cell"] (zk jy):=⟨rfl,rfl,rfl,by decide +kernel,rfl,by decide +kernel,by decide +kernel⟩
theorem Ze (D:zC K mg "sign_at" jy ["board","cell"] f fd):zQ P w K mg base CX0 1 f fd ["board","cell"] zaw:=by
 refine D.F.ok zet (fun vs H Q E h=>?_) (fun cdv A outer s H vs Q E hr h=>?_)
 ·obtain⟨p,l,c,rs,n,i,j,t,k,rfl,_⟩:=h
  rfl
 ·obtain⟨p,l,c,rs,n,i,j,t,k,rfl,b,hc,hi,hj,hl,q⟩:=h
  refine⟨_,(zg (zG (zw zb2 (zw zT (zw zI (pv 0) ze (fun _ _=>rfl)) (zw zI (pv 1) ze (fun _ _=>rfl)) (fun _ _=>rfl)) (zw zI (pv 1) ze (fun _ _=>rfl)) (fun _ _=>rfl)))),?_⟩
  exact⟨_,rfl,p,_,0,_,rfl,rfl,SqT.of b.tp,rfl,_,rfl,c,_,0,_,rfl,rfl,SqT.of hc,rfl,l,_,_,_,rfl,rfl,SqL.of b.rw,ja (v:=V.str t) (by rw [getElem?_map,hi];rfl),_,rfl,c,_,1,_,rfl,rfl,SqT.of hc,rfl,t,_,k,rfl,rfl,hl,ja hj,q⟩
theorem Jk:zO ["board","found","row","text"] ["board"] (zk jv):=⟨rfl,rfl,rfl,by decide +kernel,rfl,by decide +kernel,by decide +kernel⟩
theorem Qy (T:Txt mg)(D:zC K mg "cells_of" jv ["board"] f fd):zQ P w K mg base CX0 1 f fd ["board"] (Ye qe):=by
 refine D.F.ok Jk (fun vs H Q E h=>?_) (fun cdv A outer s H vs Q E hr h=>?_)
 ·obtain⟨a,l,rs,n,rfl,_⟩:=h
  rfl
 ·obtain⟨a,l,rs,n,rfl,b,R,q⟩:=h
  refine⟨_,(zf (zH (i:=1) Jk.nd rfl (Or.inl rfl) (zU zc))
   (zf (yL PassesOwn.never rfl (zcU (by rfl) T.ZE (za (zw zI (pv 0) ze (fun _ _=>rfl)) zc)) (J0 rfl (qg (zF (i:=2) Jk.nd rfl (Or.inr rfl)) (qg (zF (i:=3) Jk.nd rfl (Or.inl rfl)) yX))) (zg (jF (Zo PySem.F.plainAttrs_list PySem.F.slot_list_extend PySem.F.type_list_extend Y9 (pv 1) (za (qw (N:=["column","sign","row"]) (src:=[none,none,some 2]) (ql.free (O:=(zk jv).names) (XN:=["board","found","row","text"]) rfl rfl ⟨_,rfl⟩ rfl rfl (by decide +kernel) (by decide +kernel) (by decide +kernel) rfl (by decide +kernel)) rfl (zg2 (by rfl) T.ZE (za (pv 3) zc)) (fun _ _ _ _ _=>(zix (n:=2) (K:=K) (by rfl) rfl (qg (zF (i:=0) (by show List.Nodup (["column","sign","row"]:List Str);decide +kernel) rfl (Or.inl rfl)) (qg (zF (i:=1) (by show List.Nodup (["column","sign","row"]:List Str);decide +kernel) rfl (Or.inl rfl)) yX)))) (fun _ _ _ _ _=>(qE (zq zbj (pv 1) (JY (v:=.str "#") (by rfl) T.ZF.choose_spec (by exact⟨_,rfl⟩)) (zD _)))) (fun _ _ _ _ _=>(zW (za (pv 2) (za (pv 0) zc))))) zc)))))
   (zg (zG (pv 1))))),?_⟩
  refine⟨(by show 0<=sizeLine;decide),fun d hd=>?_⟩
  have s0:zy H (upd H d (.lst [])):=zd hd
  refine⟨_,rfl,a,_,0,_,rfl,rfl,SqT.of (b.mono s0).tp,rfl,l,rfl,⟨_,SqL.of (b.mono s0).rw⟩,?_⟩
  refine zbq (K:=K) (l:=l) (xs:=rs.map V.str) (fun i σ H'=>∃(v2 v3:Option V) (ws:List V),σ=[some (.ref a),some (.ref d),v2,v3]/\zy H H'/\H' d=some (.lst ws)/\Cel H' ws (Cells.zE qe 0 ((codes rs).take i)))
   ⟨_,_,[],rfl,s0,zb,.nil⟩ (fun i σ H' _ ⟨_,_,_,_,s1,_⟩=>SqL.of (b.mono s1).rw) ?_ ?_
  ·rintro i x tt σ H1 hx htt ⟨v2,v3,ws,rfl,s1,hd1,hc1⟩
   rw [getElem?_map] at hx
   cases e:rs[i]? with
   | none =>
    rw [e] at hx
    cases hx
   | some t =>
    rw [e] at hx
    cases hx
    have hil:i<rs.length:=(List.getElem?_eq_some_iff.mp e).1
    have st:zy H1 (upd H1 tt (.tup [.int (i:Nat),.str t])):=zd htt
    refine⟨tt,_,rfl,SqT.of zb,rfl,_,_,rfl,_,_,rfl,rfl,?_⟩
    have hd2:upd H1 tt (.tup [.int (i:Nat),.str t]) d=some (.lst ws):=st _ _ hd1
    refine⟨_,rfl,.inl ⟨rfl,_,SqL.of hd2⟩,_,rfl,t,rfl,fun z hz=>?_⟩
    refine zd9 (x:=t) (fun j σ H'=>∃(u0 u1:Option V) (ys:List V),σ=[u0,u1,some (.int (i:Nat))]/\zy (upd H1 tt (.tup [.int (i:Nat),.str t])) H'/\H' z=some (.lst ys)/\Cel H' ys (Cells.zP qe i 0 (t.cps.toList.take j)))
     ⟨_,_,[],rfl,zd hz,zb,.nil⟩ ?_ ?_
    ·rintro j c t2 σ H2 hc ht2 ⟨u0,u1,ys,rfl,s2,hz2,hc2⟩
     refine⟨t2,_,rfl,SqT.of zb,rfl,_,_,rfl,_,_,rfl,rfl,?_⟩
     refine⟨_,rfl,rfl,_,rfl,?_⟩
     have hc':t.cps.toList[j]?=some c:=by rw [getElem?_toList];exact hc
     have s3:zy H2 (upd H2 t2 (.tup [.int (j:Nat),.str ⟨#[c]⟩])):=zd ht2
     have step:=Cells.J7 (p:=qe) (i:=i) hc'
     have ed:(!decide (V.str ⟨#[c]⟩=V.str "#"))=qe c:=by
      rw [Jf]
      simp only [zav]
      rfl
     rw [ed]
     by_cases hp:qe c=true
     ·rw [hp] at step
      refine qP hp ?_
      refine⟨_,rfl,_,rfl,(by show 2<=sizeLine;decide),fun t3 ht3=>?_⟩
      have nz3:z≠t3:=zj (s3 _ _ hz2) ht3
      have s4:zy (upd H2 t2 (.tup [.int (j:Nat),.str ⟨#[c]⟩])) (upd (upd H2 t2 (.tup [.int (j:Nat),.str ⟨#[c]⟩])) t3 (.tup [.int (i:Nat),.int (j:Nat)])):=zd ht3
      have hlen:ys.length<=8:=by
       rw [hc2.length]
       refine le_trans (Cells.jb _ _ _ _) ?_
       have:=R.short _ (mem_of_getElem? (yf e))
       rw [length_take]
       omega
      refine⟨ys,s4 _ _ (s3 _ _ hz2),lt_of_le_of_lt hlen (by decide),some (.int (j:Nat)),some (.str ⟨#[c]⟩),ys++[.ref t3],rfl,fun b' o e'=>?_,zb,?_⟩
      ·have hb:b'≠z:=fun y=>by
        subst y
        rw [hz] at e'
        cases e'
       rw [zo hb]
       exact s4 _ _ (s3 _ _ (s2 _ _ e'))
      ·rw [step]
       have keep:∀x o,x≠z->upd (upd H2 t2 (.tup [.int (j:Nat),.str ⟨#[c]⟩])) t3 (.tup [.int (i:Nat),.int (j:Nat)]) x=some o->upd (upd (upd H2 t2 (.tup [.int (j:Nat),.str ⟨#[c]⟩])) t3 (.tup [.int (i:Nat),.int (j:Nat)])) z (.lst (ys++[.ref t3])) x=some o:=fun x o hx e'=>by
        rw [zo hx]
        exact e'
       refine Cel.snoc ?_ ⟨t3,rfl,keep _ _ nz3.symm zb⟩
       exact Cel.into z (.lst (ys++[.ref t3])) (s4 _ _ (s3 _ _ hz2)) (Cel.mono s4 (Cel.mono s3 hc2))
     ·have hp':qe c=false:=by simpa using hp
      rw [hp'] at step
      refine qH hp' ?_
      refine⟨some (.int (j:Nat)),some (.str ⟨#[c]⟩),ys,rfl,s2.trans s3,s3 _ _ hz2,?_⟩
      rw [step]
      simpa using Cel.mono s3 hc2
    ·rintro σ H2 ⟨u0,u1,ys,rfl,s2,hz2,hc2⟩
     have hne:d≠z:=zj hd2 hz
     have hd3:H2 d=some (.lst ws):=s2 _ _ hd2
     have full:t.cps.toList.take t.cps.size=t.cps.toList:=by
      rw [<- length_toList,take_length]
     rw [full] at hc2
     have step:=Cells.J8 (p:=qe) (yf e)
     have l1:ws.length<=64:=by
      rw [hc1.length]
      refine le_trans (Cells.qu _ _ _ fun u hu=>R.short u (mem_of_mem_take hu)) ?_
      have:=R.hi
      rw [length_take,qD]
      omega
     have l2:ys.length<=8:=by
      rw [hc2.length]
      exact le_trans (Cells.jb _ _ _ _) (R.short _ (mem_of_getElem? (yf e)))
     refine⟨d,z,ws,ys,rfl,rfl,hd3,hz2,le_trans (Nat.add_le_add l1 l2) (by decide),?_⟩
     refine⟨_,_,ws++ys,rfl,fun b' o e'=>?_,zb,?_⟩
     ·have hb:b'≠d:=fun y=>by
       subst y
       rw [hd] at e'
       cases e'
      rw [zo hb]
      exact s2 _ _ (st _ _ (s1 _ _ e'))
     ·rw [step]
      exact Cel.into d _ hd3 (Cel.append (Cel.mono s2 (Cel.mono st hc1)) hc2)
  ·rintro σ H1 ⟨v2,v3,ws,rfl,s1,hd1,hc1⟩
   rw [length_map,<- qD,take_length] at hc1
   exact⟨_,rfl,q d ws H1 hd hd1 hc1 s1⟩
end
theorem zcm (c:Nat):(qe c&&decide (c=63))=JI c:=by
 unfold qe JI
 by_cases h:c=63
 ·subst h
  rfl
 ·simp [h]
section
variable {P:Program}{w:World}{K:PySem.W.Frag}{mg:Str->Option Value}{base:Heap}{f:Addr}{fd:FuncData}
theorem zgt:zO ["board"] ["board"] (zk JE):=⟨rfl,rfl,rfl,by decide +kernel,rfl,by decide +kernel,by decide +kernel⟩
theorem zgu {f1 f2:Addr}{fd1 fd2:FuncData}(T:Txt mg)(D:zC K mg "closed" JE ["board"] f fd)(qh:zC K mg "cells_of" jv ["board"] f1 fd1)(zL:zC K mg "sign_at" jy ["board","cell"] f2 fd2) :
  zQ P w K mg base CX0 2 f fd ["board"] (Ye JI):=by
 have Yg:zQ P w K mg base CX0 1 f1 fd1 ["board"] (Ye qe):=Qy T qh
 have yg:zQ P w K mg base CX0 1 f2 fd2 ["board","cell"] zaw:=Ze zL
 refine D.F.ok zgt (fun vs H Q E h=>?_) (fun cdv A outer s H vs Q E hr h=>?_)
 ·obtain⟨a,l,rs,n,rfl,_⟩:=h
  rfl
 ·obtain⟨a,l,rs,n,rfl,b,R,q⟩:=h
  refine⟨_,(zg (zG (qw (N:=["cell","board"]) (src:=[none,some 0]) (ql.free (O:=(zk JE).names) (XN:=["board"]) rfl rfl ⟨_,rfl⟩ rfl rfl (by decide +kernel) (by decide +kernel) (by decide +kernel) rfl (by decide +kernel)) rfl (qt (zB Yg (hr.mono (by decide)) (by rfl) qh.g qh.F.kp qh.b .nil zV (za (pv 0) zc))) (fun _ _ _ _ _=>(zF (i:=0) (by show List.Nodup (["cell","board"]:List Str);decide +kernel) rfl (Or.inl rfl))) (fun _ _ _ _ _=>(qE (zq qU (zB yg (hr.mono (by decide)) (by rfl) zL.g zL.F.kp zL.b .nil zV (za (pv 1) (za (pv 0) zc))) (JY (v:=.str "?") (by rfl) T.Js.choose_spec (by exact⟨_,rfl⟩)) (zD _)))) (fun _ _ _ _ _=>(pv 0))))),?_⟩
  refine⟨_,rfl,a,l,rs,n,rfl,b,R,fun d ws H1 hd hd1 hc1 s1=>⟨d,rfl,⟨_,SqL.of hd1⟩,fun z hz=>?_⟩⟩
  have nz:d≠z:=zj hd1 hz
  refine jx (K:=K) (a:=d) (xs:=ws) (fun i σ H'=>∃(u0:Option V) (ys:List V),σ=[u0,some (.ref a)]/\zy H1 H'/\H' z=some (.lst ys)/\Cel H' ys (((Cells.zE qe 0 (codes rs)).take i).filter fun x=>decide (Cells.sgn (codes rs) x=63)))
   ⟨_,[],rfl,zd hz,zb,.nil⟩ (fun i σ H' _ ⟨_,_,_,s2,_⟩=>SqL.of (s2 _ _ hd1)) ?_ ?_
  ·rintro i x σ H2 hx ⟨u0,ys,rfl,s2,hz2,hc2⟩
   obtain⟨c,hci,ca,rfl,hca⟩:=Cel.get (Cel.mono s2 hc1) hx
   obtain⟨k0,j,u,k,ec,hk0,hj,hpc⟩:=Cells.qW (mem_of_getElem? hci)
   obtain⟨t,ht,rfl⟩:=ZU hk0
   rw [zero_add] at ec
   subst ec
   refine⟨_,rfl,_,rfl,a,l,ca,rs,n,k0,j,t,k,rfl,(b.mono s1).mono s2,hca,ht,hj,R.tlen ht,rfl,_,rfl,?_⟩
   have es:Cells.sgn (codes rs) (k0,j)=k:=Cells.zas hk0 hj
   have step:((Cells.zE qe 0 (codes rs)).take (i+1)).filter (fun x=>decide (Cells.sgn (codes rs) x=63))=((Cells.zE qe 0 (codes rs)).take i).filter (fun x=>decide (Cells.sgn (codes rs) x=63))++(if decide (k=63)=true then [(k0,j)] else []):=by
    rw [take_add_one,hci,filter_append]
    congr 1
    show List.filter _ [(k0,j)]=_
    rw [filter_cons]
    try dsimp only
    rw [es]
    split<;>rfl
   have ed:decide (V.str ⟨#[k]⟩=V.str "?")=decide (k=63):=by
    rw [zcl]
    simp only [zav]
   rw [ed]
   by_cases hp:decide (k=63)=true
   ·rw [if_pos hp] at step
    refine qP hp ?_
    have hlen:ys.length<=64:=by
     rw [hc2.length]
     refine le_trans (length_filter_le _ _) ?_
     rw [length_take]
     have h1:=Cells.qu qe 0 (codes rs) R.short
     have h2:=R.hi
     rw [qD] at h1
     omega
    refine⟨_,rfl,ys,hz2,lt_of_le_of_lt hlen (by decide),_,ys++[.ref ca],rfl,fun b' o e'=>?_,zb,?_⟩
    ·have hb:b'≠z:=fun y=>by
      subst y
      rw [hz] at e'
      cases e'
     rw [zo hb]
     exact s2 _ _ e'
    ·rw [step]
     exact Cel.into z _ hz2 (Cel.snoc hc2 ⟨ca,rfl,hca⟩)
   ·rw [if_neg hp] at step
    refine qH (by simpa using hp) ?_
    refine⟨_,ys,rfl,s2,hz2,?_⟩
    rw [step]
    simpa using hc2
  ·rintro σ H2 ⟨u0,ys,rfl,s2,hz2,hc2⟩
   rw [hc1.length,take_length,Cells.all_filter (p:=qe) (q:=fun k=>decide (k=63)) (codes rs)] at hc2
   have hz0:H z=none:=s1.free hz
   exact q z ys H2 hz0 hz2 (by rw [Cells.Jh (q:=JI) zcm] at hc2;exact hc2) (s1.trans s2)
end
section
variable {P:Program}{w:World}{K:PySem.W.Frag}{mg:Str->Option Value}{base:Heap}{f:Addr}{fd:FuncData}
theorem za0:zO ["board"] ["board"] (zk jU):=⟨rfl,rfl,rfl,by decide +kernel,rfl,by decide +kernel,by decide +kernel⟩
theorem za1 {f1 f2:Addr}{fd1 fd2:FuncData}(T:Txt mg)(D:zC K mg "open_cells" jU ["board"] f fd)(qh:zC K mg "cells_of" jv ["board"] f1 fd1)(zL:zC K mg "sign_at" jy ["board","cell"] f2 fd2) :
  zQ P w K mg base CX0 2 f fd ["board"] (Ye Qx):=by
 have Yg:zQ P w K mg base CX0 1 f1 fd1 ["board"] (Ye qe):=Qy T qh
 have yg:zQ P w K mg base CX0 1 f2 fd2 ["board","cell"] zaw:=Ze zL
 refine D.F.ok za0 (fun vs H Q E h=>?_) (fun cdv A outer s H vs Q E hr h=>?_)
 ·obtain⟨a,l,rs,n,rfl,_⟩:=h
  rfl
 ·obtain⟨a,l,rs,n,rfl,b,R,q⟩:=h
  refine⟨_,(zg (zG (qw (N:=["cell","board"]) (src:=[none,some 0]) (ql.free (O:=(zk jU).names) (XN:=["board"]) rfl rfl ⟨_,rfl⟩ rfl rfl (by decide +kernel) (by decide +kernel) (by decide +kernel) rfl (by decide +kernel)) rfl (qt (zB Yg (hr.mono (by decide)) (by rfl) qh.g qh.F.kp qh.b .nil zV (za (pv 0) zc))) (fun _ _ _ _ _=>(zF (i:=0) (by show List.Nodup (["cell","board"]:List Str);decide +kernel) rfl (Or.inl rfl))) (fun _ _ _ _ _=>(qE (zq zbj (zB yg (hr.mono (by decide)) (by rfl) zL.g zL.F.kp zL.b .nil zV (za (pv 1) (za (pv 0) zc))) (JY (v:=.str "?") (by rfl) T.Js.choose_spec (by exact⟨_,rfl⟩)) (zD _)))) (fun _ _ _ _ _=>(pv 0))))),?_⟩
  refine⟨_,rfl,a,l,rs,n,rfl,b,R,fun d ws H1 hd hd1 hc1 s1=>⟨d,rfl,⟨_,SqL.of hd1⟩,fun z hz=>?_⟩⟩
  have nz:d≠z:=zj hd1 hz
  refine jx (K:=K) (a:=d) (xs:=ws) (fun i σ H'=>∃(u0:Option V) (ys:List V),σ=[u0,some (.ref a)]/\zy H1 H'/\H' z=some (.lst ys)/\Cel H' ys (((Cells.zE qe 0 (codes rs)).take i).filter fun x=>!decide (Cells.sgn (codes rs) x=63)))
   ⟨_,[],rfl,zd hz,zb,.nil⟩ (fun i σ H' _ ⟨_,_,_,s2,_⟩=>SqL.of (s2 _ _ hd1)) ?_ ?_
  ·rintro i x σ H2 hx ⟨u0,ys,rfl,s2,hz2,hc2⟩
   obtain⟨c,hci,ca,rfl,hca⟩:=Cel.get (Cel.mono s2 hc1) hx
   obtain⟨k0,j,u,k,ec,hk0,hj,hpc⟩:=Cells.qW (mem_of_getElem? hci)
   obtain⟨t,ht,rfl⟩:=ZU hk0
   rw [zero_add] at ec
   subst ec
   refine⟨_,rfl,_,rfl,a,l,ca,rs,n,k0,j,t,k,rfl,(b.mono s1).mono s2,hca,ht,hj,R.tlen ht,rfl,_,rfl,?_⟩
   have es:Cells.sgn (codes rs) (k0,j)=k:=Cells.zas hk0 hj
   have step:((Cells.zE qe 0 (codes rs)).take (i+1)).filter (fun x=>!decide (Cells.sgn (codes rs) x=63))=((Cells.zE qe 0 (codes rs)).take i).filter (fun x=>!decide (Cells.sgn (codes rs) x=63))++(if (!decide (k=63))=true then [(k0,j)] else []):=by
    rw [take_add_one,hci,filter_append]
    congr 1
    show List.filter _ [(k0,j)]=_
    rw [filter_cons]
    try dsimp only
    rw [es]
    split<;>rfl
   have ed:(!decide (V.str ⟨#[k]⟩=V.str "?"))=(!decide (k=63)):=by
    rw [zcl]
    simp only [zav]
   rw [ed]
   by_cases hp:(!decide (k=63))=true
   ·rw [if_pos hp] at step
    refine qP hp ?_
    have hlen:ys.length<=64:=by
     rw [hc2.length]
     refine le_trans (length_filter_le _ _) ?_
     rw [length_take]
     have h1:=Cells.qu qe 0 (codes rs) R.short
     have h2:=R.hi
     rw [qD] at h1
     omega
    refine⟨_,rfl,ys,hz2,lt_of_le_of_lt hlen (by decide),_,ys++[.ref ca],rfl,fun b' o e'=>?_,zb,?_⟩
    ·have hb:b'≠z:=fun y=>by
      subst y
      rw [hz] at e'
      cases e'
     rw [zo hb]
     exact s2 _ _ e'
    ·rw [step]
     exact Cel.into z _ hz2 (Cel.snoc hc2 ⟨ca,rfl,hca⟩)
   ·rw [if_neg hp] at step
    refine qH (by simpa using hp) ?_
    refine⟨_,ys,rfl,s2,hz2,?_⟩
    rw [step]
    simpa using hc2
  ·rintro σ H2 ⟨u0,ys,rfl,s2,hz2,hc2⟩
   rw [hc1.length,take_length,Cells.all_filter (p:=qe) (q:=fun k=>(!decide (k=63))) (codes rs)] at hc2
   have hz0:H z=none:=s1.free hz
   exact q z ys H2 hz0 hz2 hc2 (s1.trans s2)
end
section
variable {P:Program}{w:World}{K:PySem.W.Frag}{mg:Str->Option Value}{base:Heap}{f:Addr}{fd:FuncData}
theorem zcn:zO ["board","cell"] ["board","cell"] (zk yH):=⟨rfl,rfl,rfl,by decide +kernel,rfl,by decide +kernel,by decide +kernel⟩
theorem zco {f1:Addr}{fd1:FuncData}(T:Txt mg)(D:zC K mg "number_at" yH ["board","cell"] f fd)(zL:zC K mg "sign_at" jy ["board","cell"] f1 fd1):zQ P w K mg base CX0 2 f fd ["board","cell"] zdl:=by
 have yg:zQ P w K mg base CX0 1 f1 fd1 ["board","cell"] zaw:=Ze zL
 refine D.F.ok zcn (fun vs H Q E h=>?_) (fun cdv A outer s H vs Q E hr h=>?_)
 ·obtain⟨p,l,c,rs,n,i,j,t,k,rfl,_⟩:=h
  rfl
 ·obtain⟨p,l,c,rs,n,i,j,t,k,rfl,b,hc,hi,hj,hl,k1,k2,q⟩:=h
  refine⟨_,(zg (zG (qc YE (by rfl) T.zfq PyProof.Rows.boot_int (za (zB yg (hr.mono (by decide)) (by rfl) zL.g zL.F.kp zL.b .nil zV (za (pv 0) (za (pv 1) zc))) zc)))),?_⟩
  exact⟨_,rfl,_,rfl,p,l,c,rs,n,i,j,t,k,rfl,b,hc,hi,hj,hl,⟨#[k]⟩,_,rfl,int_sign k1 k2,(by show 1<=640;decide),q⟩
end
theorem zgv {k:Nat}(h:k∈bd.cps.toList)(hp:Qx k=true):48<=k/\k<=56:=by
 have:∀k∈bd.cps.toList,Qx k=true->48<=k/\k<=56:=by decide +kernel
 exact this k h hp
theorem Rows.openAt {rs:List Str}(R:Rows bd.cps.toList rs){p:Nat->Bool}{c:Nat×Nat}(h:c∈Cells.zE p 0 (codes rs)):∃t k,rs[c.1]?=some t/\t.cps.toList[c.2]?=some k/\p k=true/\k∈bd.cps.toList/\t.length<=sizeLine:=by
 obtain⟨k0,j,u,k,ec,hk0,hj,hpc⟩:=Cells.qW h
 obtain⟨t,ht,rfl⟩:=ZU hk0
 rw [zero_add] at ec
 subst ec
 obtain⟨n,_,_,q⟩:=R.ex
 exact⟨t,k,ht,hj,hpc,(q t (mem_of_getElem? ht)).mem k (mem_of_getElem? hj),R.tlen ht⟩
noncomputable def Zf (rs:List Str)(y:Nat×Nat):List (Nat×Nat):=(Cells.zE qe 0 (codes rs)).filter fun x=>Cells.near x y
def zdm:Sp:=fun vs H Q _=>∃(p l ca:Addr) (rs:List Str) (n:Int) (i j:Nat),vs=[.ref p,.ref ca]/\qz H p l rs n/\Rows bd.cps.toList rs/\H ca=some (.tup [.int (i:Nat),.int (j:Nat)])/\i<64/\j<64 /\
 ∀(d:Addr) (ws:List V) (H':Hp),H d=none->H' d=some (.lst ws)->Cel H' ws (Zf rs (i,j))->zy H H'->Q (.ref d) H'
theorem zdn (i:Nat):(if (0:Int)>(i:Int)-1 then (0:Int) else (i:Int)-1)=((i-1:Nat):Int):=by
 split<;>omega
theorem zdo (i m:Nat):(if ((m:Nat):Int)<(i:Int)+2 then ((m:Nat):Int) else (i:Int)+2)=((min (i+2) m:Nat):Int):=by
 split<;>omega
theorem zdp {f:Nat×Nat->Bool}{l:List (Nat×Nat)}{x:Nat×Nat}(a:Bool):(l++(if a=true then [x] else [])).filter f=l.filter f++(if (a&&f x)=true then [x] else []):=by
 rw [filter_append]
 congr 1
 by_cases h:a=true
 ·by_cases h2:f x=true
  ·simp [h,h2]
  ·simp [h,h2]
 ·simp [h]
section
variable {P:Program}{w:World}{K:PySem.W.Frag}{mg:Str->Option Value}{base:Heap}{f:Addr}{fd:FuncData}
theorem JJ:zO ["board","cell","rows","found","row","column"] ["board","cell"] (zk JF):=⟨rfl,rfl,rfl,by decide +kernel,rfl,by decide +kernel,by decide +kernel⟩
theorem zgw (T:Txt mg)(D:zC K mg "around" JF ["board","cell"] f fd):zQ P w K mg base CX0 1 f fd ["board","cell"] zdm:=by
 refine D.F.ok JJ (fun vs H Q E h=>?_) (fun cdv A outer s H vs Q E hr h=>?_)
 ·obtain⟨p,l,ca,rs,n,i,j,rfl,_⟩:=h
  rfl
 ·obtain⟨p,l,ca,rs,n,i,j,rfl,b,R,hca,hi64,hj64,q⟩:=h
  refine⟨_,(zf (zH (i:=2) JJ.nd rfl (Or.inl rfl) (zw zI (pv 0) ze (fun _ _=>rfl)))
   (zf (zH (i:=3) JJ.nd rfl (Or.inl rfl) (zU zc))
   (zf (yL PassesOwn.never rfl (Y6 (by rfl) T.xj (za (zm (Ju rfl) (by rfl) T.zbF PyProof.Rows.boot_max (za (zv yM (zw zI (pv 1) ze (fun _ _=>rfl)) ze) (za ze zc))) (za (zm (xx rfl) (by rfl) T.zat PyProof.Rows.boot_min (za (zv jS (zw zI (pv 1) ze (fun _ _=>rfl)) ze) (za (zm zx (by rfl) T.qR PySem.boot_len (za (pv 2) zc)) zc))) zc))) (zF (i:=4) JJ.nd rfl (Or.inl rfl)) (zg (yL PassesOwn.never rfl (Y6 (by rfl) T.xj (za (zm (Ju rfl) (by rfl) T.zbF PyProof.Rows.boot_max (za (zv yM (zw zI (pv 1) ze (fun _ _=>rfl)) ze) (za ze zc))) (za (zm (xx rfl) (by rfl) T.zat PyProof.Rows.boot_min (za (zv jS (zw zI (pv 1) ze (fun _ _=>rfl)) ze) (za (zm YA (by rfl) T.qR PySem.boot_len (za (zw zT (pv 2) (pv 4) (fun _ _=>rfl)) zc)) zc))) zc))) (zF (i:=5) JJ.nd rfl (Or.inl rfl)) (zg (qo (PW.pt (xB (zq zbj (zw zb2 (zw zT (pv 2) (pv 4) (fun _ _=>rfl)) (pv 5) (fun _ _=>rfl)) (JY (v:=.str "#") (by rfl) T.ZF.choose_spec (by exact⟨_,rfl⟩)) (zD _)) (jR (zq (qp hr.units) (zW (za (pv 4) (za (pv 5) zc))) (pv 1) (zD _))))) (zg (jF (Zo PySem.F.plainAttrs_list PySem.F.slot_list_append PySem.F.type_list_append jj (pv 3) (za (zW (za (pv 4) (za (pv 5) zc))) zc)))) zM)))))
   (zg (zG (pv 3)))))),?_⟩
  refine⟨_,rfl,p,_,0,_,rfl,rfl,SqT.of b.tp,rfl,?_⟩
  refine⟨(by show 0<=sizeLine;decide),fun d hd=>?_⟩
  have s0:zy H (upd H d (.lst [])):=zd hd
  have r8:=R.hi
  refine⟨_,rfl,ca,_,0,_,rfl,rfl,SqT.of (s0 _ _ hca),rfl,_,_,rfl,rfl,_,_,rfl,_,rfl,ca,_,0,_,rfl,rfl,SqT.of (s0 _ _ hca),rfl,_,_,rfl,rfl,_,rfl,l,_,rfl,.inl (SqL.of (b.mono s0).rw),_,_,rfl,((i-1:Nat):Int),((min (i+2) rs.length:Nat):Int),?_,⟨by omega,by omega,by omega,by omega⟩,?_⟩
  ·show [V.int (if (0:Int)>(i:Int)-1 then (0:Int) else (i:Int)-1),V.int (if (((rs.map V.str).length:Nat):Int)<(i:Int)+2 then (((rs.map V.str).length:Nat):Int) else (i:Int)+2)]=_
   rw [length_map,zdn,zdo]
  refine ji (lo:=((i-1:Nat):Int)) (fun k σ H'=>∃(v4 v5:Option V) (ws:List V),σ=[some (.ref p),some (.ref ca),some (.ref l),some (.ref d),v4,v5]/\zy H H'/\H' d=some (.lst ws)/\Cel H' ws ((Cells.zE qe 0 ((codes rs).take (i-1+k))).filter fun x=>Cells.near x (i,j)))
   ⟨_,_,[],rfl,s0,zb,?_⟩ ?_ ?_
  ·rw [Cells.zhL]
   ·exact .nil
   ·intro r c hr'
    rw [Bool.eq_false_iff,ne_eq,Cells.xO]
    rintro⟨⟨_,h2⟩,_⟩
    dsimp only at h2
    omega
  ·rintro k σ H1 hk ⟨v4,v5,ws,rfl,s1,hd1,hc1⟩
   have hrl:i-1+k<rs.length:=by omega
   have ecast:((i-1:Nat):Int)+(k:Nat)=((i-1+k:Nat):Int):=by omega
   rw [ecast]
   generalize hr0:i-1+k=r at *
   obtain⟨t,ht⟩:∃t,rs[r]?=some t:=⟨_,getElem?_eq_getElem hrl⟩
   have htl:t.length<=sizeLine:=R.tlen ht
   have ht8:t.cps.toList.length<=8:=R.short _ (mem_of_getElem? (yf ht))
   have hat:atI (rs.map V.str) ((r:Nat):Int)=some (V.str t):=ja (by rw [getElem?_map,ht];rfl)
   refine⟨_,rfl,ca,_,1,_,rfl,rfl,SqT.of (s1 _ _ hca),rfl,_,_,rfl,rfl,_,_,rfl,_,rfl,ca,_,1,_,rfl,rfl,SqT.of (s1 _ _ hca),rfl,_,_,rfl,rfl,_,rfl,_,rfl,l,_,_,_,rfl,rfl,SqL.of (b.mono s1).rw,hat,t,rfl,htl,_,_,rfl,((j-1:Nat):Int),((min (j+2) t.cps.size:Nat):Int),?_,⟨by omega,by omega,by omega,?_⟩,?_⟩
   ·show [V.int (if (0:Int)>(j:Int)-1 then (0:Int) else (j:Int)-1),V.int (if ((t.cps.size:Nat):Int)<(j:Int)+2 then ((t.cps.size:Nat):Int) else (j:Int)+2)]=_
    rw [zdn,zdo]
   ·omega
   have hsz:t.cps.toList.length=t.cps.size:=length_toList
   refine ji (lo:=((j-1:Nat):Int)) (fun m σ H'=>∃(v5:Option V) (ws:List V),σ=[some (.ref p),some (.ref ca),some (.ref l),some (.ref d),some (.int (r:Nat)),v5]/\zy H H'/\H' d=some (.lst ws)/\Cel H' ws ((Cells.zE qe 0 ((codes rs).take r)).filter (fun x=>Cells.near x (i,j))++(Cells.zP qe r 0 (t.cps.toList.take (j-1+m))).filter fun x=>Cells.near x (i,j)))
    ⟨_,ws,rfl,s1,hd1,?_⟩ ?_ ?_
   ·rw [Cells.zhM (t:=t.cps.toList),append_nil]
    ·exact hc1
    ·intro c hc'
     rw [Bool.eq_false_iff,ne_eq,Cells.xO]
     rintro⟨_,⟨_,h2⟩,_⟩
     dsimp only at h2
     omega
   ·rintro m σ H2 hm ⟨v5,ws2,rfl,s2,hd2,hc2⟩
    have hcl:j-1+m<t.cps.size:=by omega
    have ecast2:((j-1:Nat):Int)+(m:Nat)=((j-1+m:Nat):Int):=by omega
    rw [ecast2]
    generalize hc0:j-1+m=c at *
    have hc0':j-1+(m+1)=c+1:=by omega
    obtain⟨k0,hk0⟩:∃k0,t.cps.toList[c]?=some k0:=⟨_,getElem?_eq_getElem (by omega)⟩
    have step:=Cells.J7 (p:=qe) (i:=r) hk0
    have step2:(Cells.zP qe r 0 (t.cps.toList.take (c+1))).filter (fun x=>Cells.near x (i,j))=(Cells.zP qe r 0 (t.cps.toList.take c)).filter (fun x=>Cells.near x (i,j))++(if (qe k0&&Cells.near (r,c) (i,j))=true then [(r,c)] else []):=by
     rw [step,zdp]
    have nr:Cells.near (r,c) (i,j)=!decide ((r,c)=(i,j)):=by
     rw [Bool.eq_iff_iff,Cells.xO]
     simp only [not_eq_true',decide_eq_false_iff_not]
     constructor
     ·exact fun h=>h.2.2
     ·intro h
      refine⟨⟨?_,?_⟩,⟨?_,?_⟩,h⟩<;>(try dsimp only)<;>omega
    refine⟨_,rfl,_,rfl,l,_,_,_,rfl,rfl,SqL.of (b.mono s2).rw,hat,_,rfl,t,_,k0,rfl,rfl,htl,ja hk0,rfl,_,rfl,?_⟩
    have ed:(!decide (V.str ⟨#[k0]⟩=V.str "#"))=qe k0:=by
     rw [Jf]
     simp only [zav]
     rfl
    rw [ed]
    by_cases hp:qe k0=true
    ·refine qP hp ?_
     refine⟨_,rfl,_,rfl,(by show 2<=sizeLine;decide),fun tp htp=>?_⟩
     have s3:zy H2 (upd H2 tp (.tup [.int (r:Nat),.int (c:Nat)])):=zd htp
     have hca3:=s3 _ _ (s2 _ _ hca)
     refine⟨_,rfl,_,_,j5.rdv (c:=(r,c)) ⟨tp,rfl,zb⟩,j5.rdv (c:=(i,j)) ⟨ca,rfl,hca3⟩,zbG _ _,_,rfl,?_⟩
     have ee:(if true=true then !PyData.eqv (zh (r,c)) (zh (i,j)) else PyData.eqv (zh (r,c)) (zh (i,j)))=Cells.near (r,c) (i,j):=by
      rw [ZV,nr]
      rfl
     rw [ee]
     rw [hp,Bool.true_and] at step2
     by_cases hn:Cells.near (r,c) (i,j)=true
     ·refine qP hn ?_
      rw [if_pos hn] at step2
      have hd3:=s3 _ _ hd2
      refine⟨_,rfl,.inl ⟨rfl,_,SqL.of hd3⟩,_,rfl,_,rfl,(by show 2<=sizeLine;decide),fun tq htq=>?_⟩
      have s4:zy (upd H2 tp (.tup [.int (r:Nat),.int (c:Nat)])) (upd (upd H2 tp (.tup [.int (r:Nat),.int (c:Nat)])) tq (.tup [.int (r:Nat),.int (c:Nat)])):=zd htq
      have hlen:ws2.length<=128:=by
       rw [hc2.length,length_append]
       have h1:=length_filter_le (fun x=>Cells.near x (i,j)) (Cells.zE qe 0 ((codes rs).take r))
       have h2:=length_filter_le (fun x=>Cells.near x (i,j)) (Cells.zP qe r 0 (t.cps.toList.take c))
       have h3:=Cells.qu qe 0 ((codes rs).take r) fun u hu=>R.short u (mem_of_mem_take hu)
       have h4:=Cells.jb qe r 0 (t.cps.toList.take c)
       rw [length_take,qD] at h3
       rw [length_take] at h4
       omega
      refine⟨d,_,_,rfl,rfl,s4 _ _ hd3,lt_of_le_of_lt hlen (by decide),?_⟩
      refine⟨_,ws2++[.ref tq],rfl,fun b' o e'=>?_,zb,?_⟩
      ·rw [zo (zj e' hd)]
       exact s4 _ _ (s3 _ _ (s2 _ _ e'))
      ·rw [hc0',step2,<- append_assoc]
       exact Cel.into d _ (s4 _ _ hd3) (Cel.snoc (Cel.mono s4 (Cel.mono s3 hc2)) ⟨tq,rfl,zb⟩)
     ·have hn':Cells.near (r,c) (i,j)=false:=by simpa using hn
      refine qH hn' ?_
      rw [if_neg hn,append_nil] at step2
      refine⟨_,ws2,rfl,s2.trans s3,s3 _ _ hd2,?_⟩
      rw [hc0',step2]
      exact Cel.mono s3 hc2
    ·have hp':qe k0=false:=by simpa using hp
     refine qH hp' ?_
     refine xD ?_
     rw [hp',Bool.false_and,if_neg Bool.false_ne_true,append_nil] at step2
     refine⟨_,ws2,rfl,s2,hd2,?_⟩
     rw [hc0',step2]
     exact hc2
   ·rintro σ H2 ⟨v5,ws2,rfl,s2,hd2,hc2⟩
    refine⟨_,_,ws2,rfl,s2,hd2,?_⟩
    have full:(Cells.zP qe r 0 (t.cps.toList.take (j-1+(((min (j+2) t.cps.size:Nat):Int)-((j-1:Nat):Int)).toNat))).filter (fun x=>Cells.near x (i,j))=(Cells.zP qe r 0 t.cps.toList).filter fun x=>Cells.near x (i,j):=by
     by_cases hbig:t.cps.size<=j-1+(((min (j+2) t.cps.size:Nat):Int)-((j-1:Nat):Int)).toNat
     ·rw [take_of_length_le (by omega)]
     ·refine Cells.zgs fun c hc'=>?_
      rw [Bool.eq_false_iff,ne_eq,Cells.xO]
      rintro⟨_,⟨h2,_⟩,_⟩
      dsimp only at h2
      omega
    rw [full] at hc2
    have e1:i-1+(k+1)=r+1:=by omega
    rw [e1,Cells.J8 (yf ht),filter_append]
    exact hc2
  ·rintro σ H1 ⟨v4,v5,ws,rfl,s1,hd1,hc1⟩
   have full:(Cells.zE qe 0 ((codes rs).take (i-1+(((min (i+2) rs.length:Nat):Int)-((i-1:Nat):Int)).toNat))).filter (fun x=>Cells.near x (i,j))=Zf rs (i,j):=by
    by_cases hbig:rs.length<=i-1+(((min (i+2) rs.length:Nat):Int)-((i-1:Nat):Int)).toNat
    ·rw [take_of_length_le (by rw [qD];omega)]
     rfl
    ·refine Cells.zgr fun r c hr'=>?_
     rw [Bool.eq_false_iff,ne_eq,Cells.xO]
     rintro⟨⟨h2,_⟩,_⟩
     dsimp only at h2
     omega
   rw [full] at hc1
   exact⟨_,rfl,q d ws H1 hd hd1 hc1 s1⟩
end
theorem j5.rdn {N:Addr->Prop}{H:Hp}{v:V}{c:Nat×Nat}(h:j5 H v c):Rdn N H v (zh c):=by
 obtain⟨a,rfl,h⟩:=h
 exact .tup h (.cons (.int _) (.cons (.int _) .nil))
theorem Rdn.celR {N:Addr->Prop}{H:Hp}{v:V}{c:Nat×Nat}(h:Rdn N H v (zh c)):j5 H v c:=by
 cases h with
 | tup h t =>
  cases t with
  | cons a t =>
   cases a
   cases t with
   | cons b t =>
    cases b
    cases t
    exact⟨_,rfl,h⟩
theorem zJ.cel {N:Addr->Prop}{H:Hp}:∀{cs:List (Nat×Nat)} {vs:List V},zJ N H vs (cs.map zh)->Cel H vs cs
 | [],_,h=>by cases h;exact .nil
 | c::r,_,h=>by
  cases h with
  | cons a t=>exact .cons (Rdn.celR a) (zJ.cel t)
theorem qf {α:Type}(p:α->Bool)(g:α->PyData):∀cs:List α,(cs.map fun x=>if p x=true then some (g x) else none).filterMap id=(cs.filter p).map g
 | []=>rfl
 | c::r=>by
  rw [map_cons,List.filterMap_cons,filter_cons]
  by_cases h:p c=true
  ·rw [if_pos h,if_pos h]
   show g c::_=g c::_
   rw [qf p g r]
  ·rw [if_neg h,if_neg h]
   exact qf p g r
theorem yP {α β:Type}{g:α->β}{cs:List α}{i:Nat}{c:α}{o:β}(h:cs[i]?=some c)(ho:(cs.map g)[i]?=some o):o=g c:=by
 rw [getElem?_map,h] at ho
 exact(Option.some.inj ho).symm
noncomputable def clA (rs:List Str)(c:Nat×Nat):List (Nat×Nat):=(Zf rs c).filter fun x=>decide (Cells.sgn (codes rs) x=63)
noncomputable def qC (rs:List Str):List (Nat×Nat):=Cells.zE JI 0 (codes rs)
noncomputable def jg (rs:List Str):List (Nat×Nat):=Cells.zE Qx 0 (codes rs)
theorem Qi {p:Nat->Bool}{rs:List Str}(R:Rows bd.cps.toList rs):(Cells.zE p 0 (codes rs)).length<=64:=by
 have h1:=Cells.qu p 0 (codes rs) R.short
 have h2:=R.hi
 rw [qD] at h1
 omega
theorem za2 {rs:List Str}(R:Rows bd.cps.toList rs)(c:Nat×Nat):(Zf rs c).length<=64:=le_trans (length_filter_le _ _) (Qi R)
theorem za3 {p:Nat->Bool}{rs:List Str}{c:Nat×Nat}(h:c∈Cells.zE p 0 (codes rs)):∃t k,rs[c.1]?=some t/\t.cps.toList[c.2]?=some k/\p k=true/\Cells.sgn (codes rs) c=k:=by
 obtain⟨k0,j,u,k,ec,hk0,hj,hpc⟩:=Cells.qW h
 obtain⟨t,ht,rfl⟩:=ZU hk0
 rw [zero_add] at ec
 subst ec
 exact⟨t,k,ht,hj,hpc,Cells.zas hk0 hj⟩
theorem zeu {rs:List Str}{c:Nat×Nat}{t:Str}{k:Nat}(R:Rows bd.cps.toList rs)(h1:rs[c.1]?=some t)(h2:t.cps.toList[c.2]?=some k):c.1<64/\c.2<64:=by
 have a:=(List.getElem?_eq_some_iff.mp h1).1
 have b:=(List.getElem?_eq_some_iff.mp h2).1
 have e:=R.hi
 have f:=R.short _ (mem_of_getElem? (yf h1))
 omega
def zjx:Sp:=fun vs H Q _=>∃(p l ca:Addr) (rs:List Str) (n:Int) (c:Nat×Nat),vs=[.ref p,.ref ca]/\qz H p l rs n/\Rows bd.cps.toList rs/\H ca=some (.tup [.int (c.1:Nat),.int (c.2:Nat)])/\c.1<64/\c.2<64 /\
 ∀(d:Addr) (ws:List V) (H':Hp),H d=none->H' d=some (.lst ws)->Cel H' ws (clA rs c)->zy H H'->Q (.ref d) H'
theorem Yh (cs:List (Nat×Nat)):PyData.canLayAll0 (cs.map zh)=true:=by
 induction cs with
 | nil=>rfl
 | cons c r ih =>
  show (PyData.canLay0 (zh c)&&PyData.canLayAll0 (r.map zh))=true
  rw [ih]
  rfl
theorem zax (cs:List (Nat×Nat)):PyData.depthAll (cs.map zh)<=1:=by
 induction cs with
 | nil=>exact zero_le _
 | cons c r ih =>
  show max (PyData.depth (zh c)) (PyData.depthAll (r.map zh))<=1
  have:PyData.depth (zh c)=1:=rfl
  omega
theorem xT (cs ds:List (Nat×Nat)):zf2 (.list (cs.map zh)) (.list (ds.map zh)):=⟨Yh cs,Yh ds,by
 show PyData.depthAll (cs.map zh)+1<=64
 have:=zax cs
 omega⟩
theorem zdq (cs:List (Nat×Nat))(c:Nat×Nat):(cs.map zh).any (fun z=>PyData.eqv z (zh c))=cs.any fun z=>decide (z=c):=by
 rw [any_map]
 congr 1
 funext z
 exact ZV z c
section
variable {P:Program}{w:World}{K:PySem.W.Frag}{mg:Str->Option Value}{base:Heap}{f:Addr}{fd:FuncData}
theorem Qj:zO ["board","cell"] ["board","cell"] (zk qK):=⟨rfl,rfl,rfl,by decide +kernel,rfl,by decide +kernel,by decide +kernel⟩
theorem Qk {f1 f2:Addr}{fd1 fd2:FuncData}(T:Txt mg)(D:zC K mg "closed_around" qK ["board","cell"] f fd)(yJ:zC K mg "around" JF ["board","cell"] f1 fd1)(zL:zC K mg "sign_at" jy ["board","cell"] f2 fd2) :
  zQ P w K mg base CX0 2 f fd ["board","cell"] zjx:=by
 have zhQ:zQ P w K mg base CX0 1 f1 fd1 ["board","cell"] zdm:=zgw T yJ
 have yg:zQ P w K mg base CX0 1 f2 fd2 ["board","cell"] zaw:=Ze zL
 refine D.F.ok Qj (fun vs H Q E h=>?_) (fun cdv A outer s H vs Q E hr h=>?_)
 ·obtain⟨p,l,ca,rs,n,c,rfl,_⟩:=h
  rfl
 ·obtain⟨p,l,ca,rs,n,c,rfl,b,R,hca,ci,cj,q⟩:=h
  refine⟨_,(zg (zG (qw (N:=["place","board"]) (src:=[none,some 0]) (ql.free (O:=(zk qK).names) (XN:=["board","cell"]) rfl rfl ⟨_,rfl⟩ rfl rfl (by decide +kernel) (by decide +kernel) (by decide +kernel) rfl (by decide +kernel)) rfl (qt (zB zhQ (hr.mono (by decide)) (by rfl) yJ.g yJ.F.kp yJ.b .nil zV (za (pv 0) (za (pv 1) zc)))) (fun _ _ _ _ _=>(zF (i:=0) (by show List.Nodup (["place","board"]:List Str);decide +kernel) rfl (Or.inl rfl))) (fun _ _ _ _ _=>(qE (zq qU (zB yg (hr.mono (by decide)) (by rfl) zL.g zL.F.kp zL.b .nil zV (za (pv 1) (za (pv 0) zc))) (JY (v:=.str "?") (by rfl) T.Js.choose_spec (by exact⟨_,rfl⟩)) (zD _)))) (fun _ _ _ _ _=>(pv 0))))),?_⟩
  refine⟨_,rfl,_,rfl,p,l,ca,rs,n,c.1,c.2,rfl,b,R,hca,ci,cj,fun d ws H1 hd hd1 hc1 s1=>⟨d,rfl,⟨_,SqL.of hd1⟩,fun z hz=>?_⟩⟩
  refine qJ (K:=K) (a:=d) (xs:=ws) (fun a=>a≠z) ((Zf rs c).map fun x=>if decide (Cells.sgn (codes rs) x=63)=true then some (zh x) else none) (fun σ=>∃u0,σ=[u0,some (.ref p)]) hz (fun _ h=>h) ⟨_,rfl⟩ (by rw [length_map];exact hc1.length.symm) (by rw [hc1.length];exact le_trans (za2 R c) (by decide)) (SqL.of hd1) ?_ ?_
  ·rintro k x o σ H2 hx ho s2 _ ⟨u0,rfl⟩ Y Z yes no
   obtain⟨y,hy,r1⟩:=Cel.get hc1 hx
   have eo:=yP hy ho
   obtain⟨t,sg,ht,hj,_,es⟩:=za3 (List.mem_filter.mp (mem_of_getElem? hy)).1
   obtain⟨ya,rfl,hya⟩:=r1
   refine⟨_,rfl,_,rfl,p,l,ya,rs,n,y.1,y.2,t,sg,rfl,(b.mono s1).mono s2,s2 _ _ hya,ht,hj,R.tlen ht,rfl,_,rfl,?_⟩
   have ed:decide (V.str ⟨#[sg]⟩=V.str "?")=decide (sg=63):=by
    rw [zcl]
    simp only [zav]
   rw [ed]
   rw [es] at eo
   by_cases hp:sg=63
   ·rw [decide_eq_true hp]
    rw [if_pos (decide_eq_true hp)] at eo
    exact ZY ⟨_,rfl,yes _ _ _ _ eo ⟨_,rfl⟩ (zy.refl _) (j5.rdn ⟨ya,rfl,s2 _ _ hya⟩)⟩
   ·rw [decide_eq_false hp]
    rw [if_neg (by rw [decide_eq_false hp];exact Bool.false_ne_true)] at eo
    exact xD (no _ _ eo ⟨_,rfl⟩ (zy.refl _))
  ·rintro ys H2 s2 hz2 hr2
   rw [qf] at hr2
   exact q z ys H2 (s1.free hz) hz2 (zJ.cel hr2) (s1.trans s2)
end
abbrev KV1:=List (List Key×V)
noncomputable def JK (c:Nat×Nat):List Key:=[.inl ((c.1:Nat):Int),.inl ((c.2:Nat):Int)]
theorem zhR {c d:Nat×Nat}(h:JK c=JK d):c=d:=by
 unfold JK at h
 obtain⟨a,b⟩:=c
 obtain⟨x,y⟩:=d
 simp only [List.cons.injEq,Sum.inl.injEq,and_true] at h
 obtain⟨h1,h2⟩:=h
 have e1:a=x:=by omega
 have e2:b=y:=by omega
 rw [e1,e2]
theorem zhS {kvs:KV1}{k:List Key}{v:V}(h:qV kvs k=some v):(k,v)∈kvs:=by
 unfold qV at h
 cases e:kvs.find? (fun kv=>decide (kv.1=k)) with
 | none =>
  rw [e] at h
  cases h
 | some kv =>
  rw [e] at h
  have h1:kv.2=v:=by simpa using h
  have h2:kv.1=k:=of_decide_eq_true (show decide (kv.1=k)=true from List.find?_some (p:=fun (kv:List Key×V)=>decide (kv.1=k)) e)
  have h3:=List.mem_of_find?_eq_some e
  rw [<- h1,<- h2]
  exact h3
theorem zdr (kvs:KV1)(k:List Key)(v:V):(k∈kvs.map (·.1)/\(putK kvs k v).map (·.1)=kvs.map (·.1))\/(¬ k∈kvs.map (·.1)/\(putK kvs k v).map (·.1)=kvs.map (·.1)++[k]):=by
 unfold putK
 by_cases h:(kvs.any fun kv=>decide (kv.1=k))=true
 ·refine .inl ⟨?_,?_⟩
  ·obtain⟨kv,h1,h2⟩:=List.any_eq_true.mp h
   exact List.mem_map.mpr ⟨kv,h1,of_decide_eq_true h2⟩
  ·rw [if_pos h,map_map]
   refine map_congr_left fun kv _=>?_
   show (if kv.1=k then (kv.1,v) else kv).1=kv.1
   split<;>rfl
 ·refine .inr ⟨fun hm=>?_,?_⟩
  ·obtain⟨kv,h1,h2⟩:=List.mem_map.mp hm
   exact h (List.any_eq_true.mpr ⟨kv,h1,decide_eq_true h2⟩)
  ·rw [if_neg h,map_append]
   rfl
theorem zkj {kvs:KV1}(k:List Key)(v:V)(h:(kvs.map (·.1)).Nodup):((putK kvs k v).map (·.1)).Nodup:=by
 rcases zdr kvs k v with ⟨_,e⟩ | ⟨hn,e⟩
 ·rw [e]
  exact h
 ·rw [e,List.nodup_append]
  refine⟨h,by simp,fun a ha b hb z=>hn ?_⟩
  have eb:b=k:=by simpa using hb
  rw [<- eb,<- z]
  exact ha
theorem zfr:∀(ps acc:KV1),(acc.map (·.1)).Nodup->((ps.foldl (fun acc kv=>putK acc kv.1 kv.2) acc).map (·.1)).Nodup
 | [],_,h=>h
 | p::r,acc,h=>zfr r _ (zkj p.1 p.2 h)
theorem zbH:∀(ps acc:KV1) (k:List Key),k∈(ps.foldl (fun acc kv=>putK acc kv.1 kv.2) acc).map (·.1)->k∈acc.map (·.1)\/k∈ps.map (·.1)
 | [],_,_,h=>.inl h
 | p::r,acc,k,h=>by
  rcases zbH r _ k h with h | h
  ·rcases zdr acc p.1 p.2 with ⟨_,e⟩ | ⟨_,e⟩
   ·rw [e] at h
    exact .inl h
   ·rw [e] at h
    rcases List.mem_append.mp h with h | h
    ·exact .inl h
    ·exact .inr (by
      have:k=p.1:=by simpa using h
      rw [this]
      exact mem_cons_self)
  ·exact .inr (mem_cons_of_mem _ h)
theorem zds:∀(ps acc:KV1),(ps.foldl (fun acc kv=>putK acc kv.1 kv.2) acc).length<=acc.length+ps.length
 | [],_=>le_refl _
 | p::r,acc=>by
  have h1:=zds r (putK acc p.1 p.2)
  have h2:=Zw acc p.1 p.2
  rw [foldl_cons,length_cons]
  omega
theorem zbI:∀(b a:KV1) (k:List Key),(b.map (·.1)).Nodup->qV (Yd a b) k=(qV b k).or (qV a k)
 | [],a,k,_=>rfl
 | kv::r,a,k,hn=>by
  rw [map_cons,List.nodup_cons] at hn
  show qV (Yd (putK a kv.1 kv.2) r) k=_
  rw [zbI r _ k hn.2,zc0]
  by_cases e:kv.1=k
  ·rw [jd e,if_pos e.symm]
   have:qV r k=none:=by
    cases hr:qV r k with
    | none=>rfl
    | some v=>exact absurd (List.mem_map.mpr ⟨(k,v),zhS hr,by rw [e]⟩) hn.1
   rw [this]
   rfl
  ·rw [je e,if_neg (fun z=>e z.symm)]
noncomputable def Jl (cs:List (Nat×Nat))(v:V):KV1:=zc3 (cs.map fun c=>(JK c,v))
theorem zay (v:V)(x:Nat×Nat):∀(cs:List (Nat×Nat)) (acc:KV1),qV ((cs.map fun c=>(JK c,v)).foldl (fun acc kv=>putK acc kv.1 kv.2) acc) (JK x)=if x∈cs then some v else qV acc (JK x)
 | [],acc=>by simp
 | c::r,acc=>by
  rw [map_cons,foldl_cons,zay v x r,zc0]
  by_cases h:x∈r
  ·rw [if_pos h,if_pos (mem_cons_of_mem _ h)]
  ·rw [if_neg h]
   by_cases e:x=c
   ·subst e
    rw [if_pos rfl,if_pos mem_cons_self]
   ·rw [if_neg (fun z=>e (zhR z)),if_neg (fun z=>by rcases List.mem_cons.mp z with z | z;exact e z;exact h z)]
theorem zdu {cs:List (Nat×Nat)}{v:V}(h:∀c∈cs,c.1<8/\c.2<8):Small ((Jl cs v).map (·.1)):=fun k hk=>by
 rcases zbH _ [] k hk with h1 | h1
 ·exact nomatch h1
 ·rw [map_map] at h1
  obtain⟨c,hc,rfl⟩:=List.mem_map.mp h1
  exact⟨c.1,c.2,(h c hc).1,(h c hc).2,rfl⟩
theorem zbJ (cs:List (Nat×Nat))(v:V):(Jl cs v).length<=cs.length:=by
 have:=zds (cs.map fun c=>(JK c,v)) []
 rw [length_map] at this
 unfold Jl zc3
 simpa using this
structure jH (H:Hp)(fa fc fs:Addr)(us ws:List V)(cl st:List (Nat×Nat)):Prop where
 tp:H fa=some (.tup [.ref fc,.ref fs])
 h1:H fc=some (.lst us)
 h2:H fs=some (.lst ws)
 c1:Cel H us cl
 c2:Cel H ws st
theorem jH.mono {H H':Hp}{fa fc fs:Addr}{us ws:List V}{cl st:List (Nat×Nat)}(x:jH H fa fc fs us ws cl st)(s:zy H H'):jH H' fa fc fs us ws cl st:=⟨s _ _ x.tp,s _ _ x.h1,s _ _ x.h2,x.c1.mono s,x.c2.mono s⟩
structure zgx (cl st:List (Nat×Nat)):Prop where
 b1:∀c∈cl,c.1<8/\c.2<8
 b2:∀c∈st,c.1<8/\c.2<8
 l1:cl.length<=64
 l2:st.length<=64
def zfs (kvs:KV1)(cl st:List (Nat×Nat)):Prop:=∀c,qV kvs (JK c)=if c∈st then some (V.int 1) else if c∈cl then some (V.int 0) else none
def zft:Sp:=fun vs H Q _=>∃(fa fc fs:Addr) (us ws:List V) (cl st:List (Nat×Nat)),vs=[.ref fa]/\jH H fa fc fs us ws cl st/\zgx cl st /\
 ∀(d:Addr) (kvs:KV1) (H':Hp),H d=none->H' d=some (.dT kvs)->zfs kvs cl st->zy H H'->Q (.ref d) H'
noncomputable def zgy (st cs:List (Nat×Nat)):List Int:=cs.map fun c=>if c∈st then 1 else 0
noncomputable def yR (cl st cs:List (Nat×Nat)):List (Nat×Nat):=cs.filter fun c=>!(decide (c∈st) || decide (c∈cl))
def zfu:Sp:=fun vs H Q _=>∃(t la kd:Addr) (a0:Int) (us:List V) (cs cl st:List (Nat×Nat)) (kvs:KV1),vs=[.ref t,.ref kd]/\H t=some (.tup [.int a0,.ref la])/\H la=some (.lst us)/\Cel H us cs/\cs.length<=64/\H kd=some (.dT kvs)/\zfs kvs cl st /\
 ∀(r l2:Addr) (ws:List V) (H':Hp),H r=none->H l2=none->H' r=some (.tup [.int (a0-(zgy st cs).sum),.ref l2])->H' l2=some (.lst ws)->Cel H' ws (yR cl st cs)->zy H H'->Q (.ref r) H'
section
variable {P:Program}{w:World}{K:PySem.W.Frag}{mg:Str->Option Value}{base:Heap}{f:Addr}{fd:FuncData}
theorem Qz:zO ["finding","known"] ["finding"] (zk Zb):=⟨rfl,rfl,rfl,by decide +kernel,rfl,by decide +kernel,by decide +kernel⟩
theorem zdv (T:Txt mg)(D:zC K mg "known_of" Zb ["finding"] f fd):zQ P w K mg base CX0 1 f fd ["finding"] zft:=by
 refine D.F.ok Qz (fun vs H Q E h=>?_) (fun cdv A outer s H vs Q E hr h=>?_)
 ·obtain⟨fa,fc,fs,us,ws,cl,st,rfl,_⟩:=h
  rfl
 ·obtain⟨fa,fc,fs,us,ws,cl,st,rfl,X,Fi,q⟩:=h
  refine⟨_,(zf (zH (i:=1) Qz.nd rfl (Or.inl rfl) (qc (Zp hr.units hr.hd) (by rfl) T.zhP PyProof.Rows.boot_dict (za (qw (N:=["cell"]) (src:=[none]) (ql.plain rfl (by decide +kernel) (by decide +kernel) (by decide +kernel) rfl (by decide)) rfl (qt (zw zI (pv 0) ze (fun _ _=>rfl))) (fun _ _ _ _ _=>(zF (i:=0) (by show List.Nodup (["cell"]:List Str);decide +kernel) rfl (Or.inl rfl))) (fun _ _ _ _ _=>xE) (fun _ _ _ _ _=>(zW (za (pv 0) (za ze zc))))) zc)))
   (zf (jF (Zo PySem.F.plainAttrs_dict PySem.F.slot_dict_update PySem.F.type_dict_update (zej hr.units) (pv 1) (za (qc (Zp hr.units hr.hd) (by rfl) T.zhP PyProof.Rows.boot_dict (za (qw (N:=["cell"]) (src:=[none]) (ql.plain rfl (by decide +kernel) (by decide +kernel) (by decide +kernel) rfl (by decide)) rfl (qt (zw zI (pv 0) ze (fun _ _=>rfl))) (fun _ _ _ _ _=>(zF (i:=0) (by show List.Nodup (["cell"]:List Str);decide +kernel) rfl (Or.inl rfl))) (fun _ _ _ _ _=>xE) (fun _ _ _ _ _=>(zW (za (pv 0) (za ze zc))))) zc)) zc)))
   (zg (zG (pv 1))))),?_⟩
  refine⟨_,rfl,fa,_,0,_,rfl,rfl,SqT.of X.tp,rfl,fc,rfl,⟨_,SqL.of X.h1⟩,fun y hy=>?_⟩
  have l1:=Fi.l1
  have l2:=Fi.l2
  refine jx (K:=K) (a:=fc) (xs:=us) (fun i σ H'=>(∃u0,σ=[u0])/\zy H H'/\∃ys,H' y=some (.lst ys)/\jI H' ys ((cl.take i).map fun c=>(JK c,V.int 0))) ⟨⟨_,rfl⟩,zd hy,[],zb,.nil⟩ (fun i σ H' _ ⟨_,s6,_⟩=>SqL.of (s6 _ _ X.h1)) ?_ ?_
  ·rintro i x σ H6 hx ⟨⟨u0,rfl⟩,s6,ys,hy6,hp6⟩
   obtain⟨c,hci,ca,rfl,hca⟩:=Cel.get (Cel.mono s6 X.c1) hx
   refine J1 ⟨_,rfl,(by show 2<=sizeLine;decide),fun p hp=>?_⟩
   have s7:=zd (o:=.tup [.ref ca,.int 0]) hp
   have hlen:ys.length<=64:=by
    rw [hp6.length,length_map,length_take]
    omega
   refine⟨ys,s7 _ _ hy6,lt_of_le_of_lt hlen (by decide),⟨_,rfl⟩,fun b' o e'=>?_,ys++[.ref p],zb,?_⟩
   ·rw [zo (zj e' hy)]
    exact s7 _ _ (s6 _ _ e')
   ·rw [take_add_one,hci,map_append]
    exact jI.into y _ (s7 _ _ hy6) (jI.snoc (hp6.mono s7) ⟨p,ca,rfl,zb,s7 _ _ hca⟩)
  rintro σ H1 ⟨_,s1,ys,hy1,hp1⟩
  rw [X.c1.length,take_length] at hp1
  refine⟨y,ys,_,rfl,hy1,hp1,fun d hd=>?_⟩
  have z2:=zd (o:=.dT (Jl cl (.int 0))) hd
  have hd2:upd H1 d (.dT (Jl cl (.int 0))) d=some (.dT (Jl cl (.int 0))):=zb
  have s2:=s1.trans z2
  have X2:=X.mono s2
  have fd0:=s1.free hd
  show _
  refine⟨_,rfl,.inr (.inr (.inl ⟨rfl,.inr ⟨_,zb⟩⟩)),_,rfl,fa,_,1,_,rfl,rfl,SqT.of X2.tp,rfl,fs,rfl,⟨_,SqL.of X2.h2⟩,fun y2 hy2=>?_⟩
  refine jx (K:=K) (a:=fs) (xs:=ws) (fun i σ H'=>(∃u0,σ=[u0])/\zy (upd H1 d (.dT (Jl cl (.int 0)))) H'/\∃ys,H' y2=some (.lst ys)/\jI H' ys ((st.take i).map fun c=>(JK c,V.int 1))) ⟨⟨_,rfl⟩,zd hy2,[],zb,.nil⟩ (fun i σ H' _ ⟨_,s6,_⟩=>SqL.of (s6 _ _ X2.h2)) ?_ ?_
  ·rintro i x σ H6 hx ⟨⟨u0,rfl⟩,s6,ys,hy6,hp6⟩
   obtain⟨c,hci,ca,rfl,hca⟩:=Cel.get (Cel.mono s6 X2.c2) hx
   refine J1 ⟨_,rfl,(by show 2<=sizeLine;decide),fun p hp=>?_⟩
   have s7:=zd (o:=.tup [.ref ca,.int 1]) hp
   have hlen:ys.length<=64:=by
    rw [hp6.length,length_map,length_take]
    omega
   refine⟨ys,s7 _ _ hy6,lt_of_le_of_lt hlen (by decide),⟨_,rfl⟩,fun b' o e'=>?_,ys++[.ref p],zb,?_⟩
   ·rw [zo (zj e' hy2)]
    exact s7 _ _ (s6 _ _ e')
   ·rw [take_add_one,hci,map_append]
    exact jI.into y2 _ (s7 _ _ hy6) (jI.snoc (hp6.mono s7) ⟨p,ca,rfl,zb,s7 _ _ hca⟩)
  rintro σ H3 ⟨_,s3,ys2,hy3,hp3⟩
  rw [X.c2.length,take_length] at hp3
  refine⟨y2,ys2,_,rfl,hy3,hp3,fun d2 hd2'=>?_⟩
  have z4:=zd (o:=.dT (Jl st (.int 1))) hd2'
  have ne:d≠d2:=zj (s3 _ _ hd2) hd2'
  have hd4:=z4 _ _ (s3 _ _ hd2)
  refine⟨d,d2,Jl cl (.int 0),Jl st (.int 1),rfl,rfl,ne,hd4,zb,zdu Fi.b2,?_,_,rfl,?_⟩
  ·have a1:=zbJ cl (.int 0)
   have a2:=zbJ st (.int 1)
   exact le_trans (show _<=128 by omega) (by decide)
  ·refine q d _ _ fd0 zb (fun c=>?_) fun b o e=>?_
   ·rw [zbI (Jl st (.int 1)) (Jl cl (.int 0)) (JK c) (zfr _ [] List.nodup_nil)]
    have e1:qV (Jl st (.int 1)) (JK c)=if c∈st then some (V.int 1) else none:=zay _ c st []
    have e2:qV (Jl cl (.int 0)) (JK c)=if c∈cl then some (V.int 0) else none:=zay _ c cl []
    rw [e1,e2]
    by_cases h1:c∈st
    ·rw [if_pos h1,if_pos h1]
     rfl
    ·rw [if_neg h1,if_neg h1]
     rfl
   ·rw [zo (zj e fd0)]
    exact z4 _ _ (s3 _ _ (s2 _ _ e))
theorem ZH:zO ["asked","known","lying"] ["asked","known"] (zk jk):=⟨rfl,rfl,rfl,by decide +kernel,rfl,by decide +kernel,by decide +kernel⟩
theorem zaz (T:Txt mg)(D:zC K mg "still_asked" jk ["asked","known"] f fd):zQ P w K mg base CX0 1 f fd ["asked","known"] zfu:=by
 refine D.F.ok ZH (fun vs H Q E h=>?_) (fun cdv A outer s H vs Q E hr h=>?_)
 ·obtain⟨t,la,kd,a0,us,cs,cl,st,kvs,rfl,_⟩:=h
  rfl
 ·obtain⟨t,la,kd,a0,us,cs,cl,st,kvs,rfl,ht,hla,hcs,c64,hkd,hK,q⟩:=h
  refine⟨_,(zf (zH (i:=2) ZH.nd rfl (Or.inl rfl) (zm (zg7 rfl) (by rfl) T.zla PyProof.Rows.boot_sum (za (qw (N:=["cell","known"]) (src:=[none,some 1]) (ql.free (O:=(zk jk).names) (XN:=["asked","known","lying"]) rfl rfl ⟨_,rfl⟩ rfl rfl (by decide +kernel) (by decide +kernel) (by decide +kernel) rfl (by decide +kernel)) rfl (qt (zw zI (pv 0) ze (fun _ _=>rfl))) (fun _ _ _ _ _=>(zF (i:=0) (by show List.Nodup (["cell","known"]:List Str);decide +kernel) rfl (Or.inl rfl))) (fun _ _ _ _ _=>xE) (fun _ _ _ _ _=>(zc2 (u1 hr.units) (pv 1) (pv 0) ze ⟨rfl,rfl,rfl,rfl⟩))) zc)))
   (zg (zG (zW (za (zv yM (zw zI (pv 0) ze (fun _ _=>rfl)) (pv 2)) (za (qw (N:=["cell","known"]) (src:=[none,some 1]) (ql.free (O:=(zk jk).names) (XN:=["asked","known","lying"]) rfl rfl ⟨_,rfl⟩ rfl rfl (by decide +kernel) (by decide +kernel) (by decide +kernel) rfl (by decide +kernel)) rfl (qt (zw zI (pv 0) ze (fun _ _=>rfl))) (fun _ _ _ _ _=>(zF (i:=0) (by show List.Nodup (["cell","known"]:List Str);decide +kernel) rfl (Or.inl rfl))) (fun _ _ _ _ _=>(qE (zjM (zf5 (u1 hr.units) (pv 0) (pv 1))))) (fun _ _ _ _ _=>(pv 0))) zc)))))),?_⟩
  refine⟨_,rfl,t,_,1,_,rfl,rfl,SqT.of ht,rfl,la,rfl,⟨_,SqL.of hla⟩,fun y hy=>?_⟩
  refine jx (K:=K) (a:=la) (xs:=us) (fun i σ H'=>(∃u0,σ=[u0,some (.ref kd)])/\zy H H'/\H' y=some (.lst ((zgy st (cs.take i)).map V.int))) ⟨⟨_,rfl⟩,zd hy,zb⟩ (fun i σ H' _ ⟨_,s6,_⟩=>SqL.of (s6 _ _ hla)) ?_ ?_
  ·rintro i x σ H6 hx ⟨⟨u0,rfl⟩,s6,hy6⟩
   obtain⟨c,hci,ca,rfl,hca⟩:=Cel.get (Cel.mono s6 hcs) hx
   refine J1 ⟨_,rfl,kd,rfl,.inr ⟨kvs,.inl (s6 _ _ hkd)⟩,_,rfl,qV kvs (JK c),zae.t (k:=JK c) (s6 _ _ hkd) hca,?_⟩
   have eg:(qV kvs (JK c)).getD (V.int 0)=V.int (if c∈st then 1 else 0):=by
    rw [hK c]
    by_cases h1:c∈st
    ·rw [if_pos h1,if_pos h1]
     rfl
    ·rw [if_neg h1,if_neg h1]
     by_cases h2:c∈cl
     ·rw [if_pos h2]
      rfl
     ·rw [if_neg h2]
      rfl
   rw [eg]
   refine⟨_,hy6,?_,⟨_,rfl⟩,fun b' o e'=>?_,?_⟩
   ·unfold zgy
    rw [length_map,length_map,length_take]
    exact lt_of_le_of_lt (show _<=64 by omega) (by decide)
   ·rw [zo (zj e' hy)]
    exact s6 _ _ e'
   ·rw [zb,take_add_one,hci]
    unfold zgy
    rw [map_append,map_append]
    rfl
  rintro σ H1 ⟨_,s1,hy1⟩
  rw [hcs.length,take_length] at hy1
  refine⟨y,_,rfl,SqL.of hy1,?_⟩
  refine⟨_,rfl,t,_,0,_,rfl,rfl,SqT.of (s1 _ _ ht),rfl,_,rfl,_,_,rfl,rfl,_,rfl,t,_,1,_,rfl,rfl,SqT.of (s1 _ _ ht),rfl,la,rfl,⟨_,SqL.of (s1 _ _ hla)⟩,fun z hz=>?_⟩
  refine qJ (K:=K) (a:=la) (xs:=us) (fun a=>a≠z) (cs.map fun c=>if (!(decide (c∈st) || decide (c∈cl)))=true then some (zh c) else none) (fun σ=>∃u0,σ=[u0,some (.ref kd)]) hz (fun _ h=>h) ⟨_,rfl⟩ (by rw [length_map];exact hcs.length.symm) (by rw [hcs.length];exact le_trans c64 (by decide)) (SqL.of (s1 _ _ hla)) ?_ ?_
  ·rintro k x o σ H2 hx ho s2 _ ⟨u0,rfl⟩ Y Z yes no
   obtain⟨c,hc,r1⟩:=Cel.get (Cel.mono (s1.trans s2) hcs) hx
   have eo:=yP hc ho
   obtain⟨ca,rfl,hca⟩:=r1
   refine⟨_,rfl,_,rfl,kd,qV kvs (JK c),rfl,zae.t (k:=JK c) (s2 _ _ (s1 _ _ hkd)) hca,_,rfl,?_⟩
   have ei:(!(qV kvs (JK c)).isSome)=!(decide (c∈st) || decide (c∈cl)):=by
    rw [hK c]
    by_cases h1:c∈st
    ·rw [if_pos h1,decide_eq_true h1]
     rfl
    ·rw [if_neg h1,decide_eq_false h1]
     by_cases h2:c∈cl
     ·rw [if_pos h2,decide_eq_true h2]
      rfl
     ·rw [if_neg h2,decide_eq_false h2]
      rfl
   rw [ei]
   by_cases hp:(!(decide (c∈st) || decide (c∈cl)))=true
   ·rw [if_pos hp] at eo
    exact qP hp ⟨_,rfl,yes _ _ _ _ eo ⟨_,rfl⟩ (zy.refl _) (j5.rdn ⟨ca,rfl,hca⟩)⟩
   ·rw [if_neg hp] at eo
    exact qH (Bool.eq_false_iff.mpr hp) (no _ _ eo ⟨_,rfl⟩ (zy.refl _))
  ·rintro ys H2 s2 hz2 hr2
   rw [qf] at hr2
   have hc2:Cel H2 ys (yR cl st cs):=zJ.cel hr2
   refine⟨(by show 2<=sizeLine;decide),fun r hr3=>?_⟩
   have z3:=zd (o:=.tup [.int (a0-(zgy st cs).sum),.ref z]) hr3
   exact q r z ys _ ((s1.trans s2).free hr3) (s1.free hz) zb (z3 _ _ hz2) (hc2.mono z3) ((s1.trans s2).trans z3)
end
def Zg (H:Hp)(v:V):Option (Nat×Nat)->Prop
 | none=>v=V.str "all"
 | some c=>j5 H v c
theorem Zg.mono {H H':Hp}{v:V}(s:zy H H'):∀{th:Option (Nat×Nat)},Zg H v th->Zg H' v th
 | none,h=>h
 | some _,⟨a,e,h⟩=>⟨a,e,s _ _ h⟩
noncomputable def zkk (rs:List Str)(n:Int):Option (Nat×Nat)->Int
 | none=>n
 | some c=>((Cells.sgn (codes rs) c:Nat):Int)-48
noncomputable def zew (rs:List Str):Option (Nat×Nat)->List (Nat×Nat)
 | none=>qC rs
 | some c=>clA rs c
def zfv:Sp:=fun vs H Q _=>∃(p l:Addr) (rs:List Str) (n:Int) (v:V) (th:Option (Nat×Nat)),vs=[.ref p,v]/\qz H p l rs n/\Rows bd.cps.toList rs/\Zg H v th/\(∀c,th=some c->c∈jg rs) /\
 ∀(t l2:Addr) (us:List V) (H':Hp),H t=none->H' t=some (.tup [.int (zkk rs n th),.ref l2])->H' l2=some (.lst us)->Cel H' us (zew rs th)->zy H H'->Q (.ref t) H'
abbrev Rg:=List (Nat×Nat)×Int×Int
def RgR (H:Hp)(v:V)(g:Rg):Prop:=∃t l us,v=V.ref t/\H t=some (.tup [.ref l,.int g.2.1,.int g.2.2])/\H l=some (.lst us)/\Cel H us g.1
def zdw (H:Hp):List V->List Rg->Prop:=Paired (RgR H)
theorem zdw.get {H:Hp}:∀{vs:List V} {gs:List Rg} {i:Nat} {v:V},zdw H vs gs->vs[i]?=some v->∃g,gs[i]?=some g/\RgR H v g
 | _,_,_,_,.nil,e=>by simp at e
 | _,_,0,_,.cons r _,e=>by
  simp at e
  subst e
  exact⟨_,rfl,r⟩
 | _,_,i+1,v,.cons _ t,e=>by
  obtain⟨c,h1,h2⟩:=zdw.get (i:=i) (v:=v) t (by simpa using e)
  exact⟨c,by simpa using h1,h2⟩
noncomputable def qX (gs:List Rg):List (Nat×Nat):=gs.flatMap fun g=>if g.2.2=0 then g.1 else []
noncomputable def qY (gs:List Rg):List (Nat×Nat):=gs.flatMap fun g=>if g.2.1=((g.1.length:Nat):Int) then g.1 else []
theorem zaA (p:Rg->Bool):∀gs:List Rg,(gs.flatMap fun g=>if p g=true then g.1 else []).Sublist (gs.flatMap fun g=>g.1)
 | []=>List.Sublist.refl _
 | g::r=>by
  rw [List.flatMap_cons,List.flatMap_cons]
  refine List.Sublist.append ?_ (zaA p r)
  split
  ·exact List.Sublist.refl _
  ·exact List.nil_sublist _
theorem xU (gs:List Rg):(qX gs).Sublist (gs.flatMap fun g=>g.1):=by
 have:=zaA (fun g=>decide (g.2.2=0)) gs
 simpa [qX] using this
theorem xV (gs:List Rg):(qY gs).Sublist (gs.flatMap fun g=>g.1):=by
 have:=zaA (fun g=>decide (g.2.1=((g.1.length:Nat):Int))) gs
 simpa [qY] using this
theorem zbK {α:Type}(f:Rg->List α){gs:List Rg}{i:Nat}{g:Rg}(h:gs[i]?=some g):(gs.take (i+1)).flatMap f=(gs.take i).flatMap f++f g:=by
 rw [take_add_one,h,List.flatMap_append]
 simp
def zbL:Sp:=fun vs H Q _=>∃(r:Addr) (us:List V) (gs:List Rg),vs=[.ref r]/\H r=some (.lst us)/\zdw H us gs/\(gs.flatMap fun g=>g.1).Nodup/\(gs.flatMap fun g=>g.1).length<64 /\
 ∀(t d1 d2:Addr) (w1 w2:List V) (c1 c2:List (Nat×Nat)) (H':Hp),H t=none->H d1=none->H d2=none->d1≠d2->H' t=some (.tup [.ref d1,.ref d2])->H' d1=some (.lst w1)->H' d2=some (.lst w2)->Cel H' w1 c1->Cel H' w2 c2 ->
  c1.Perm (qX gs)->c2.Perm (qY gs)->c1.Pairwise Cells.lex->c2.Pairwise Cells.lex->zy H H'->Q (.ref t) H'
noncomputable def toI (c:Nat×Nat):Int×Int:=(((c.1:Nat):Int),((c.2:Nat):Int))
noncomputable def ofI (p:Int×Int):Nat×Nat:=(p.1.toNat,p.2.toNat)
theorem zhT (c:Nat×Nat):ofI (toI c)=c:=rfl
theorem zcp {c d:Nat×Nat}(h:toI c=toI d):c=d:=by rw [<- zhT c,h,zhT]
theorem ziZ {c d:Nat×Nat}:lt2 (toI c) (toI d)=true↔Cells.lex c d:=by
 obtain⟨a,b⟩:=c
 obtain⟨x,y⟩:=d
 unfold lt2 Cells.lex
 show (if ((a:Nat):Int)=((x:Nat):Int) then decide (((b:Nat):Int)<((y:Nat):Int)) else decide (((a:Nat):Int)<((x:Nat):Int)))=true↔a<x\/(a=x/\b<y)
 by_cases e:a=x
 ·rw [if_pos (by omega),decide_eq_true_eq]
  omega
 ·rw [if_neg (by omega),decide_eq_true_eq]
  omega
theorem Cel.tup2 {H:Hp}{vs:List V}{cs:List (Nat×Nat)}(hp:Cel H vs cs):Jx H vs (cs.map toI):=by
 induction hp with
 | nil=>exact .nil
 | cons q _ ih =>
  obtain⟨a,e,h⟩:=q
  exact .cons ⟨a,e,h⟩ ih
theorem jM {H:Hp}:∀{cs:List (Nat×Nat)} {vs:List V},Jx H vs (cs.map toI)->Cel H vs cs
 | [],_,.nil=>.nil
 | _::_,_,.cons ⟨a,e,h⟩ t=>.cons ⟨a,e,h⟩ (jM t)
theorem zcq {ps:List (Int×Int)}{cs:List (Nat×Nat)}(h:ps.Perm (cs.map toI)):∃ds:List (Nat×Nat),ps=ds.map toI/\ds.Perm cs:=by
 refine⟨ps.map ofI,?_,?_⟩
 ·rw [map_map]
  refine(List.map_id ps).symm.trans (map_congr_left fun p hp=>?_)
  obtain⟨c,_,rfl⟩:=List.mem_map.mp (h.mem_iff.mp hp)
  rfl
 ·have:=h.map ofI
  rw [map_map] at this
  have e:cs.map (ofI∘toI)=cs:=(map_congr_left fun c _=>zhT c).trans (List.map_id cs)
  rwa [e] at this
theorem zex {cs:List (Nat×Nat)}(h:Up2 (cs.map toI)):cs.Pairwise Cells.lex:=by
 unfold Up2 at h
 rw [List.pairwise_map] at h
 exact h.imp fun z=>ziZ.mp z
theorem jN {cs:List (Nat×Nat)}(h:cs.Pairwise Cells.lex):cs.Nodup:=h.imp fun {a b} z e=>by
 subst e
 unfold Cells.lex at z
 omega
theorem zdx {cs:List (Nat×Nat)}(h:cs.Nodup):(cs.map toI).Nodup:=by
 unfold List.Nodup at h ⊢
 rw [List.pairwise_map]
 exact h.imp fun z e=>z (zcp e)
section
variable {P:Program}{w:World}{K:PySem.W.Frag}{mg:Str->Option Value}{base:Heap}{f:Addr}{fd:FuncData}
theorem zdy:zO ["board","thing"] ["board","thing"] (zk Za):=⟨rfl,rfl,rfl,by decide +kernel,rfl,by decide +kernel,by decide +kernel⟩
theorem zdz {f1 f2 f3 f4 f5 f6:Addr}{fd1 fd2 fd3 fd4 fd5 fd6:FuncData}(T:Txt mg)(D:zC K mg "asked_by" Za ["board","thing"] f fd)(yJ:zC K mg "around" JF ["board","cell"] f1 fd1)(zL:zC K mg "sign_at" jy ["board","cell"] f2 fd2)(qh:zC K mg "cells_of" jv ["board"] f3 fd3)
  (JL:zC K mg "closed" JE ["board"] f4 fd4) (jO:zC K mg "number_at" yH ["board","cell"] f5 fd5) (qL:zC K mg "closed_around" qK ["board","cell"] f6 fd6):zQ P w K mg base CX0 3 f fd ["board","thing"] zfv:=by
 have zhU:zQ P w K mg base CX0 2 f4 fd4 ["board"] (Ye JI):=zgu T JL qh zL
 have zdA:zQ P w K mg base CX0 2 f5 fd5 ["board","cell"] zdl:=zco T jO zL
 have QI:zQ P w K mg base CX0 2 f6 fd6 ["board","cell"] zjx:=Qk T qL yJ zL
 refine D.F.ok zdy (fun vs H Q E h=>?_) (fun cdv A outer s H vs Q E hr h=>?_)
 ·obtain⟨p,l,rs,n,v,th,rfl,_⟩:=h
  rfl
 ·obtain⟨p,l,rs,n,v,th,rfl,b,R,hth,hop,q⟩:=h
  refine⟨_,(zf (qo (zq (jr hr.units) (pv 1) (JY (v:=.str "all") (by rfl) T.zjw.choose_spec (by exact⟨_,rfl⟩)) (zD _)) (zg (zG (zW (za (zw zI (pv 0) ze (fun _ _=>rfl)) (za (zB zhU (hr.mono (by decide)) (by rfl) JL.g JL.F.kp JL.b .nil zV (za (pv 0) zc)) zc))))) zM)
   (zg (zG (zW (za (zB zdA (hr.mono (by decide)) (by rfl) jO.g jO.F.kp jO.b .nil zV (za (pv 0) (za (pv 1) zc))) (za (zB QI (hr.mono (by decide)) (by rfl) qL.g qL.F.kp qL.b .nil zV (za (pv 0) (za (pv 1) zc))) zc)))))),?_⟩
  cases th with
  | none =>
   have ev:v=V.str "all":=hth
   subst ev
   refine⟨_,rfl,.str "all",.str "all",.str _,.str _,⟨by decide +kernel,by decide +kernel,by decide +kernel⟩,_,rfl,qP (by decide +kernel) ?_⟩
   refine⟨_,rfl,p,_,1,_,rfl,rfl,SqT.of b.tp,rfl,_,rfl,p,l,rs,n,rfl,b,R,fun d ws H1 hd hd1 hc1 s1=>⟨(by show 2<=sizeLine;decide),fun t ht=>?_⟩⟩
   have z2:=zd (o:=.tup [.int n,.ref d]) ht
   exact q t d ws _ (s1.free ht) zb (z2 _ _ hd1) (hc1.mono z2) (s1.trans z2)
  | some c =>
   obtain⟨ca,rfl,hca⟩:=hth
   have hc:=hop c rfl
   obtain⟨t0,k,ht0,hk,hpo,hkin,tln⟩:=R.openAt hc
   obtain⟨k1,k2⟩:=zgv hkin hpo
   obtain⟨s1',s2'⟩:=zeu R ht0 hk
   have es:Cells.sgn (codes rs) c=k:=Cells.zas (yf ht0) hk
   refine⟨_,rfl,zh c,.str "all",j5.rdv ⟨ca,rfl,hca⟩,.str _,⟨rfl,by decide +kernel,by show max 0 (max 0 0)+1<=64;decide⟩,_,rfl,qH rfl ?_⟩
   refine⟨_,rfl,_,rfl,p,l,ca,rs,n,c.1,c.2,t0,k,rfl,b,hca,ht0,hk,tln,k1,k2,_,rfl,_,rfl,p,l,ca,rs,n,c,rfl,b,R,hca,s1',s2',fun d ws H1 hd hd1 hc1 s1=>⟨(by show 2<=sizeLine;decide),fun t ht=>?_⟩⟩
   have z2:=zd (o:=.tup [.int ((k:Int)-48),.ref d]) ht
   refine q t d ws _ (s1.free ht) ?_ (z2 _ _ hd1) (hc1.mono z2) (s1.trans z2)
   rw [zb]
   show some (HO.tup [.int ((k:Int)-48),.ref d])=some (.tup [.int (((Cells.sgn (codes rs) c:Nat):Int)-48),.ref d])
   rw [es]
theorem yh:zO ["regions","clears","stones","cells","least","most"] ["regions"] (zk JH):=⟨rfl,rfl,rfl,by decide +kernel,rfl,by decide +kernel,by decide +kernel⟩
theorem zey (T:Txt mg)(D:zC K mg "settled" JH ["regions"] f fd):zQ P w K mg base CX0 1 f fd ["regions"] zbL:=by
 refine D.F.ok yh (fun vs H Q E h=>?_) (fun cdv A outer s H vs Q E hr h=>?_)
 ·obtain⟨r,us,gs,rfl,_⟩:=h
  rfl
 ·obtain⟨r,us,gs,rfl,hr0,hgs,hnd,h64,q⟩:=h
  have lc:∀i,(qX (gs.take i)).length<64:=fun i=>lt_of_le_of_lt (le_trans (xU (gs.take i)).length_le (by
   have:gs=gs.take i++gs.drop i:=(take_append_drop i gs).symm
   conv=>rhs;rw [this,List.flatMap_append,length_append]
   exact le_add_right _ _)) h64
  have ls:∀i,(qY (gs.take i)).length<64:=fun i=>lt_of_le_of_lt (le_trans (xV (gs.take i)).length_le (by
   have:gs=gs.take i++gs.drop i:=(take_append_drop i gs).symm
   conv=>rhs;rw [this,List.flatMap_append,length_append]
   exact le_add_right _ _)) h64
  have lg:∀{g:Rg},g∈gs->g.1.length<64:=fun {g} hg=>lt_of_le_of_lt (by
   obtain⟨i,hi⟩:=List.getElem?_of_mem hg
   obtain⟨hl,e⟩:=List.getElem?_eq_some_iff.mp hi
   have e1:gs=gs.take i++g::gs.drop (i+1):=by
    rw [<- e,List.getElem_cons_drop,take_append_drop]
   rw [e1,List.flatMap_append,List.flatMap_cons,length_append,length_append]
   omega) h64
  refine⟨_,(zf (zH (i:=1) yh.nd rfl (Or.inl rfl) (zU zc))
   (zf (zH (i:=2) yh.nd rfl (Or.inl rfl) (zU zc))
   (zf (yL PassesOwn.never rfl (qt (pv 0)) (J0 rfl (qg (zF (i:=3) yh.nd rfl (Or.inl rfl)) (qg (zF (i:=4) yh.nd rfl (Or.inl rfl)) (qg (zF (i:=5) yh.nd rfl (Or.inl rfl)) yX)))) (QO (qo (zq qU (pv 5) ze (zD _)) (zg (jF (Zo PySem.F.plainAttrs_list PySem.F.slot_list_extend PySem.F.type_list_extend Y9 (pv 1) (za (pv 3) zc)))) zM)
   (zg (qo (zq qU (pv 4) (zm zx (by rfl) T.qR PySem.boot_len (za (pv 3) zc)) (zD _)) (zg (jF (Zo PySem.F.plainAttrs_list PySem.F.slot_list_extend PySem.F.type_list_extend Y9 (pv 2) (za (pv 3) zc)))) zM))))
   (zg (zG (zW (za (zm YG (by rfl) T.xR PyProof.Rows.boot_sorted (za (pv 1) zc)) (za (zm YG (by rfl) T.xR PyProof.Rows.boot_sorted (za (pv 2) zc)) zc)))))))),?_⟩
  refine⟨(by show 0<=sizeLine;decide),fun d1 hd1=>⟨(by show 0<=sizeLine;decide),fun d2 hd2=>?_⟩⟩
  have z1:=zd (o:=.lst []) hd1
  have z2:=zd (o:=.lst []) hd2
  have n12:d1≠d2:=zj (show upd H d1 (.lst []) d1=some (.lst []) from zb) hd2
  have f2:=z1.free hd2
  have s0:=z1.trans z2
  refine⟨_,rfl,r,rfl,⟨_,SqL.of (s0 _ _ hr0)⟩,?_⟩
  refine zgU (K:=K) (a:=r) (xs:=us) (fun i σ H'=>∃(v3 v4 v5:Option V) (w1 w2:List V),σ=[some (.ref r),some (.ref d1),some (.ref d2),v3,v4,v5]/\zy H H'/\H' d1=some (.lst w1)/\H' d2=some (.lst w2)/\Cel H' w1 (qX (gs.take i))/\Cel H' w2 (qY (gs.take i)))
   ⟨_,_,_,[],[],rfl,s0,z2 _ _ zb,zb,.nil,.nil⟩ (fun i σ H' _ ⟨_,_,_,_,_,_,s',_⟩=>SqL.of (s' _ _ hr0)) ?_ ?_
  ·rintro i x σ H1 hx ⟨v3,v4,v5,w1,w2,rfl,s1,h1,h2,hc1,hc2⟩
   obtain⟨g,hg,t,l,ws,rfl,ht0,hl0,hcl0⟩:=zdw.get hgs hx
   have ht:=s1 _ _ ht0
   have hl:=s1 _ _ hl0
   have hcl:=hcl0.mono s1
   have nl1:l≠d1:=zj hl0 hd1
   have nl2:l≠d2:=zj hl0 f2
   have gm:=mem_of_getElem? hg
   have g64:=lg gm
   have e1:qX (gs.take (i+1))=qX (gs.take i)++(if g.2.2=0 then g.1 else []):=zbK _ hg
   have e2:qY (gs.take (i+1))=qY (gs.take i)++(if g.2.1=((g.1.length:Nat):Int) then g.1 else []):=zbK _ hg
   have c1l:=lc i
   have c2l:=ls i
   refine⟨t,_,rfl,SqT.of ht,rfl,_,_,rfl,_,_,rfl,_,_,rfl,rfl,?_⟩
   refine⟨fun σ' H'=>∃(w1':List V),σ'=[some (.ref r),some (.ref d1),some (.ref d2),some (.ref l),some (.int g.2.1),some (.int g.2.2)]/\zy H H'/\H' d1=some (.lst w1')/\H' d2=some (.lst w2)/\Cel H' w1' (qX (gs.take (i+1)))/\Cel H' w2 (qY (gs.take i))/\H' l=some (.lst ws)/\Cel H' ws g.1,?_,?_⟩
   ·refine⟨_,rfl,rfl,_,rfl,yc (fun hp=>?_) (fun hp=>?_)⟩
    ·have hp':g.2.2=0:=V.int.inj (of_decide_eq_true hp)
     rw [if_pos hp'] at e1
     refine⟨_,rfl,.inl ⟨rfl,_,SqL.of h1⟩,_,rfl,d1,l,w1,ws,rfl,rfl,h1,hl,?_,w1++ws,rfl,fun b o e=>?_,zb,?_,?_,Cel.into d1 _ h1 hc2,?_,Cel.into d1 _ h1 hcl⟩
     ·rw [hc1.length,hcl.length]
      exact le_trans (show _<=200 by omega) (by decide)
     ·rw [zo (zj e hd1)]
      exact s1 _ _ e
     ·rw [zo (Ne.symm n12)]
      exact h2
     ·rw [e1]
      exact Cel.into d1 _ h1 (Cel.append hc1 hcl)
     ·rw [zo nl1]
      exact hl
    ·have hp':¬ g.2.2=0:=fun z=>hp (decide_eq_true (by rw [z]))
     rw [if_neg hp',append_nil] at e1
     exact⟨w1,rfl,s1,h1,h2,by rw [e1];exact hc1,hc2,hl,hcl⟩
   ·rintro σ' H2 ⟨w1',rfl,s2,h1',h2',hc1',hc2',hl',hcl'⟩
    refine⟨_,rfl,_,rfl,l,_,rfl,.inl (SqL.of hl'),rfl,_,rfl,yc (fun hp=>?_) (fun hp=>?_)⟩
    ·have hp':g.2.1=((g.1.length:Nat):Int):=by
      have:=V.int.inj (of_decide_eq_true hp)
      rw [hcl'.length] at this
      exact this
     rw [if_pos hp'] at e2
     refine⟨_,rfl,.inl ⟨rfl,_,SqL.of h2'⟩,_,rfl,d2,l,w2,ws,rfl,rfl,h2',hl',?_,_,_,_,w1',w2++ws,rfl,fun b o e=>?_,?_,zb,Cel.into d2 _ h2' hc1',?_⟩
     ·rw [hc2'.length,hcl'.length]
      exact le_trans (show _<=200 by omega) (by decide)
     ·rw [zo (zj e f2)]
      exact s2 _ _ e
     ·rw [zo n12]
      exact h1'
     ·rw [e2]
      exact Cel.into d2 _ h2' (Cel.append hc2' hcl')
    ·have hp':¬ g.2.1=((g.1.length:Nat):Int):=fun z=>hp (decide_eq_true (by rw [z,hcl'.length]))
     rw [if_neg hp',append_nil] at e2
     exact⟨_,_,_,w1',w2,rfl,s2,h1',h2',hc1',by rw [e2];exact hc2'⟩
  ·rintro σ H1 ⟨v3,v4,v5,w1,w2,rfl,s1,h1,h2,hc1,hc2⟩
   have gl:us.length=gs.length:=Paired.length hgs
   rw [gl,take_length] at hc1 hc2
   have n1:(qX gs).Nodup:=hnd.sublist (xU gs)
   have n2:(qY gs).Nodup:=hnd.sublist (xV gs)
   have m1:(qX gs).length<64:=lt_of_le_of_lt (xU gs).length_le h64
   have m2:(qY gs).length<64:=lt_of_le_of_lt (xV gs).length_le h64
   refine⟨_,rfl,d1,w1,_,rfl,SqL.of h1,Cel.tup2 hc1,zdx n1,(by rw [hc1.length];exact m1),fun a1 u1 p1 ha1 ht1 zkl zlS=>?_⟩
   obtain⟨q1,rfl,hp1⟩:=zcq zkl
   have z3:=zd (o:=.lst u1) ha1
   refine⟨_,rfl,d2,w2,_,rfl,SqL.of (z3 _ _ h2),Cel.tup2 (hc2.mono z3),zdx n2,(by rw [hc2.length];exact m2),fun a2 u2 p2 ha2 ht2 zez hup2=>?_⟩
   obtain⟨q2,rfl,hp2⟩:=zcq zez
   have z4:=zd (o:=.lst u2) ha2
   have na:a1≠a2:=zj (show upd H1 a1 (.lst u1) a1=some (.lst u1) from zb) ha2
   refine⟨(by show 2<=sizeLine;decide),fun t ht=>?_⟩
   have z5:=zd (o:=.tup [.ref a1,.ref a2]) ht
   have s35:=(s1.trans z3).trans z4
   exact q t a1 a2 u1 u2 q1 q2 _ (s35.free ht) (s1.free ha1) ((s1.trans z3).free ha2) na zb (z5 _ _ (z4 _ _ zb)) (z5 _ _ zb) (Cel.mono ((z3.trans z4).trans z5) (jM ht1)) (Cel.mono (z4.trans z5) (jM ht2)) hp1 hp2 (zex zlS) (zex hup2) (s35.trans z5)
end
def zaB (A B:List (Nat×Nat))(a b:Int):Int:=mx3 0 (a-((Two.alone A B).length:Nat)) (b-((Two.alone B A).length:Nat))
def zaC (A B:List (Nat×Nat))(a b:Int):Int:=mn3 ((Two.both A B).length:Nat) a b
noncomputable def zi0 (A B:List (Nat×Nat))(a b:Int):List Rg:=[(Two.both A B,zaB A B a b,zaC A B a b),(Two.alone A B,a-zaC A B a b,a-zaB A B a b),(Two.alone B A,b-zaC A B a b,b-zaB A B a b)]
abbrev Ak:=Int×List (Nat×Nat)
def AkV (H:Hp)(v:V)(k:Ak):Prop:=∃(t l:Addr) (us:List V),v=V.ref t/\H t=some (.tup [.int k.1,.ref l])/\H l=some (.lst us)/\Cel H us k.2
noncomputable def ak1 (ks:List Ak):Ak:=ks.getD 0 (0,[])
noncomputable def ak2 (ks:List Ak):Ak:=ks.getD 1 (0,[])
noncomputable def gsU (ks:List Ak):List Rg:=zi0 (ak1 ks).2 (ak2 ks).2 (ak1 ks).1 (ak2 ks).1
def zlb (ks:List Ak):Prop:=zaB (ak1 ks).2 (ak2 ks).2 (ak1 ks).1 (ak2 ks).1<=zaC (ak1 ks).2 (ak2 ks).2 (ak1 ks).1 (ak2 ks).1
def zbM (C:Addr):Sp:=fun vs H Q E=>∃(la:Addr) (ls:List V) (ks:List Ak),vs=[.ref la]/\H la=some (.lst ls)/\Paired (AkV H) ls ks/\(ks.length=1\/ks.length=2)/\(∀k∈ks,k.2.Nodup/\k.2.length<=20) /\
 (zlb ks->∀(t d1 d2:Addr) (w1 w2:List V) (c1 c2:List (Nat×Nat)) (H':Hp),H' t=some (.tup [.ref d1,.ref d2])->H' d1=some (.lst w1)->H' d2=some (.lst w2)->Cel H' w1 c1->Cel H' w2 c2->c1.Perm (qX (gsU ks))->c2.Perm (qY (gsU ks))->c1.Pairwise Cells.lex->c2.Pairwise Cells.lex->zy H H'->Q (.ref t) H') /\
 (¬ zlb ks->∀H',zy H H'->E (.ref C) none H')
theorem zi1 (A B:List (Nat×Nat)):(A.filter fun c=>!decide (c∈Two.both A B))=Two.alone A B:=by
 unfold Two.alone Two.both
 refine List.filter_congr fun x hx=>?_
 congr 1
 rw [decide_eq_decide,List.mem_filter,decide_eq_true_eq]
 exact⟨fun h=>h.2,fun h=>⟨hx,h⟩⟩
theorem zhV (A B:List (Nat×Nat)):(B.filter fun c=>!decide (c∈Two.both A B))=Two.alone B A:=by
 unfold Two.alone Two.both
 refine List.filter_congr fun x hx=>?_
 congr 1
 rw [decide_eq_decide,List.mem_filter,decide_eq_true_eq]
 exact⟨fun h=>h.1,fun h=>⟨h,hx⟩⟩
theorem zfw (cs:List (Nat×Nat))(c:Nat×Nat):(cs.any fun z=>decide (z=c))=decide (c∈cs):=by
 rw [Bool.eq_iff_iff,List.any_eq_true,decide_eq_true_eq]
 constructor
 ·rintro⟨x,h1,h2⟩
  have e:x=c:=of_decide_eq_true h2
  rw [<- e]
  exact h1
 ·intro h
  exact⟨c,h,decide_eq_true rfl⟩
theorem j6 {K:PySem.W.Frag}{H:Hp}{vs:List V}{cs:List (Nat×Nat)}(hp:Cel H vs cs):jG K H vs (cs.map zh):=by
 induction hp with
 | nil=>exact .nil
 | cons h _ ih=>exact .cons (j5.rdv h) ih
theorem zfx (g:List (Nat×Nat))(c:Nat×Nat):(if false=true then !(g.map zh).any (fun z=>PyData.eqv z (zh c)) else (g.map zh).any fun z=>PyData.eqv z (zh c))=decide (c∈g):=(zdq _ _).trans (zfw _ _)
theorem YS (g:List (Nat×Nat))(c:Nat×Nat):(if true=true then !(g.map zh).any (fun z=>PyData.eqv z (zh c)) else (g.map zh).any fun z=>PyData.eqv z (zh c))=!decide (c∈g):=congrArg (fun b=>!b) ((zdq _ _).trans (zfw _ _))
theorem zdB {a b:List (Nat×Nat)}(p:a.Perm b)(ha:a.Pairwise Cells.lex)(hb:b.Pairwise Cells.lex):a=b:=p.eq_of_pairwise (fun x y _ _ h1 h2=>by
 unfold Cells.lex at h1 h2
 omega) ha hb
theorem zlT {A:Hp->Addr->Prop}{G:Hp->Addr->Prop}{R:Prop}(k:∀H t,A H t->G H t)(h:(∀H t,A H t->G H t)->R):R:=h k
section
variable {P:Program}{w:World}{K:PySem.W.Frag}{mg:Str->Option Value}{base:Heap}{f:Addr}{fd:FuncData}{C_NoLaying:Addr}
theorem jP:zO ["asked","one","other","both","one_alone","other_alone","least","most"] ["asked"] (zk xP):=⟨rfl,rfl,rfl,by decide +kernel,rfl,by decide +kernel,by decide +kernel⟩
theorem zgz {f1:Addr}{fd1:FuncData}(T:Txt mg)(O_NoLaying:Z0 K mg "NoLaying" C_NoLaying)(D:zC K mg "gained" xP ["asked"] f fd)(xA:zC K mg "settled" JH ["regions"] f1 fd1):zQ P w K mg base (CXE P w) 2 f fd ["asked"] (zbM C_NoLaying):=by
 have zgA:zQ P w K mg base CX0 1 f1 fd1 ["regions"] zbL:=zey T xA
 refine D.F.okX jP (fun vs H Q E h=>?_) (fun cdv A outer s H vs Q E hr h=>?_)
 ·obtain⟨la,ls,ks,rfl,_⟩:=h
  rfl
 ·obtain⟨la,ls,ks,rfl,hla0,hP,hk2,hkn,q0,e0⟩:=h
  refine⟨_,(zf (zH (i:=1) jP.nd rfl (Or.inl rfl) (zw zT (pv 0) ze (fun _ _=>rfl)))
   (zf (zH (i:=2) jP.nd rfl (Or.inr rfl) (zgS (zq qU (zm zx (by rfl) T.qR PySem.boot_len (za (pv 0) zc)) ze (zD _)) (zw zT (pv 0) ze (fun _ _=>rfl)) (zW (za ze (za (zU zc) zc)))))
   (zf (zH (i:=3) jP.nd rfl (Or.inr rfl) (qw (N:=["cell","other"]) (src:=[none,some 2]) (ql.free (O:=(zk xP).names) (XN:=["asked","one","other","both","one_alone","other_alone","least","most"]) rfl rfl ⟨_,rfl⟩ rfl rfl (by decide +kernel) (by decide +kernel) (by decide +kernel) rfl (by decide +kernel)) rfl (qt (zw zI (pv 1) ze (fun _ _=>rfl))) (fun _ _ _ _ _=>(zF (i:=0) (by show List.Nodup (["cell","other"]:List Str);decide +kernel) rfl (Or.inl rfl))) (fun _ _ _ _ _=>(qE (zq (yF (K:=K) (by rfl) hr.units) (pv 0) (zw (YB (K:=K) (by rfl)) (pv 1) ze (fun _ _=>rfl)) (by rfl)))) (fun _ _ _ _ _=>(pv 0))))
   (zf (ze8 (i:=4) jP.nd rfl rfl (N:=["cell","both"]) (src:=[none,some 3]) (ql.free (O:=(zk xP).names) (XN:=["asked","one","other","both","one_alone","other_alone","least","most"]) rfl rfl ⟨_,rfl⟩ rfl rfl (by decide +kernel) (by decide +kernel) (by decide +kernel) rfl (by decide +kernel)) rfl (qt (zw zI (pv 1) ze (fun _ _=>rfl))) (fun _ _ _ _ _=>(zF (i:=0) (by show List.Nodup (["cell","both"]:List Str);decide +kernel) rfl (Or.inl rfl))) (fun _ _ _ _ _=>(qE (zq (jt (K:=K) (by rfl) hr.units) (pv 0) (pv 1) (by rfl)))) (fun _ _ _ _ _=>(pv 0)))
   (zf (ze8 (i:=5) jP.nd rfl rfl (N:=["cell","both"]) (src:=[none,some 3]) (ql.free (O:=(zk xP).names) (XN:=["asked","one","other","both","one_alone","other_alone","least","most"]) rfl rfl ⟨_,rfl⟩ rfl rfl (by decide +kernel) (by decide +kernel) (by decide +kernel) rfl (by decide +kernel)) rfl (qt (zw zI (pv 2) ze (fun _ _=>rfl))) (fun _ _ _ _ _=>(zF (i:=0) (by show List.Nodup (["cell","both"]:List Str);decide +kernel) rfl (Or.inl rfl))) (fun _ _ _ _ _=>(qE (zq (jt (K:=K) (by rfl) hr.units) (pv 0) (pv 1) (by rfl)))) (fun _ _ _ _ _=>(pv 0)))
   (zf (zH (i:=6) jP.nd rfl (Or.inl rfl) (zm (zga rfl) (by rfl) T.zbF PyProof.Rows.boot_max (za ze (za (zv yM (zw zI (pv 1) ze (fun _ _=>rfl)) (zm zx (by rfl) T.qR PySem.boot_len (za (pv 4) zc))) (za (zv yM (zw zI (pv 2) ze (fun _ _=>rfl)) (zm zx (by rfl) T.qR PySem.boot_len (za (pv 5) zc))) zc)))))
   (zf (zH (i:=7) jP.nd rfl (Or.inl rfl) (zm (zgb rfl) (by rfl) T.zat PyProof.Rows.boot_min (za (zm zx (by rfl) T.qR PySem.boot_len (za (pv 3) zc)) (za (zw zI (pv 1) ze (fun _ _=>rfl)) (za (zw zI (pv 2) ze (fun _ _=>rfl)) zc)))))
   (zf (qo (zq ze5 (pv 6) (pv 7) (zD _)) (zg (zhd zbr O_NoLaying (by rfl) rfl (za qx zc))) zM)
   (zg (zG (zB zgA (hr.mono (by decide)) (by rfl) xA.g xA.F.kp xA.b .nil zV (za (zU (za (zW (za (pv 3) (za (pv 6) (za (pv 7) zc)))) (za (zW (za (pv 4) (za (zv yM (zw zI (pv 1) ze (fun _ _=>rfl)) (pv 7)) (za (zv yM (zw zI (pv 1) ze (fun _ _=>rfl)) (pv 6)) zc)))) (za (zW (za (pv 5) (za (zv yM (zw zI (pv 2) ze (fun _ _=>rfl)) (pv 7)) (za (zv yM (zw zI (pv 2) ze (fun _ _=>rfl)) (pv 6)) zc)))) zc)))) zc)))))))))))),?_⟩
  obtain⟨t1,l1,us,a,A,ht10,hl10,hA0,nA,lA,hrest⟩:∃(t1 l1:Addr) (us:List V) (a:Int) (A:List (Nat×Nat)),H t1=some (.tup [.int a,.ref l1])/\H l1=some (.lst us)/\Cel H us A/\A.Nodup/\A.length<=20/\((ls=[.ref t1]/\ks=[(a,A)])\/∃(t2 l2:Addr) (ws:List V) (b:Int) (B:List (Nat×Nat)),ls=[.ref t1,.ref t2]/\ks=[(a,A),(b,B)]/\H t2=some (.tup [.int b,.ref l2])/\H l2=some (.lst ws)/\Cel H ws B/\B.Nodup/\B.length<=20):=by
   cases hP with
   | nil=>rcases hk2 with h | h<;>cases h
   | cons x xs =>
    obtain⟨t1,l1,us,rfl,h1,h2,h3⟩:=x
    have n1:=hkn _ mem_cons_self
    refine⟨t1,l1,us,_,_,h1,h2,h3,n1.1,n1.2,?_⟩
    cases xs with
    | nil=>exact .inl ⟨rfl,rfl⟩
    | cons y ys =>
     obtain⟨t2,l2,ws,rfl,g1,g2,g3⟩:=y
     cases ys with
     | nil =>
      have n2:=hkn _ (mem_cons_of_mem _ mem_cons_self)
      exact .inr ⟨t2,l2,ws,_,_,rfl,rfl,g1,g2,g3,n2.1,n2.2⟩
     | cons z zs =>
      rcases hk2 with h | h<;>simp at h
  have hone:atI ls 0=some (.ref t1):=by
   rcases hrest with ⟨rfl,_⟩ | ⟨_,_,_,_,_,rfl,_⟩<;>rfl
  refine⟨_,rfl,la,_,_,.ref t1,rfl,rfl,SqL.of hla0,hone,?_⟩
  refine' zlT (A:=fun (H:Hp) (t2:Addr)=>∃(l2:Addr) (b:Int) (ws:List V) (B:List (Nat×Nat)),H t1=some (.tup [.int a,.ref l1])/\H l1=some (.lst us)/\Cel H us A/\H t2=some (.tup [.int b,.ref l2])/\H l2=some (.lst ws)/\Cel H ws B/\B.Nodup/\B.length<=20/\(zaB A B a b<=zaC A B a b->∀(t d1 d2:Addr) (w1 w2:List V) (c1 c2:List (Nat×Nat)) (H':Hp),H' t=some (.tup [.ref d1,.ref d2])->H' d1=some (.lst w1)->H' d2=some (.lst w2)->Cel H' w1 c1->Cel H' w2 c2->c1.Perm (qX (zi0 A B a b))->c2.Perm (qY (zi0 A B a b))->c1.Pairwise Cells.lex->c2.Pairwise Cells.lex->zy H H'->Q (.ref t) H')/\(zaC A B a b<zaB A B a b->∀H',zy H H'->E (.ref C_NoLaying) none H')) ?rest (fun key=>?tail)
  case tail =>
   have hr2:=hrest
   rcases hr2 with ⟨els,eks⟩ | ⟨t2,l2,ws,b,B,els,eks,ht2,hl2,hB,nB,lB⟩
   ·have hla1:H la=some (.lst [.ref t1]):=by rw [<- els];exact hla0
    have q1:=q0
    have x1:=e0
    rw [eks] at q1 x1
    refine⟨_,rfl,la,_,rfl,.inl (SqL.of hla1),rfl,_,rfl,qH (by show decide (V.int ((1:Nat):Int)=V.int 2)=false;decide) ⟨(by show 0<=sizeLine;decide),fun e1 he1=>⟨(by show 2<=sizeLine;decide),fun t2 ht2=>?_⟩⟩⟩
    have z1:=zd (o:=.lst []) he1
    have z2:=zd (o:=.tup [.int 0,.ref e1]) ht2
    have s2:=z1.trans z2
    have he2:upd (upd H e1 (.lst [])) t2 (.tup [.int 0,.ref e1]) e1=some (.lst []):=z2 _ _ zb
    have ht2':upd (upd H e1 (.lst [])) t2 (.tup [.int 0,.ref e1]) t2=some (.tup [.int 0,.ref e1]):=zb
    clear z1 z2
    revert s2 he2 ht2'
    generalize upd (upd H e1 (.lst [])) t2 (.tup [.int 0,.ref e1])=H2
    intro s2 he2 ht2'
    exact key H2 t2 ⟨e1,0,[],[],s2 _ _ ht10,s2 _ _ hl10,hA0.mono s2,ht2',he2,.nil,List.nodup_nil,by decide,fun h t d1 d2 w1 w2 c1 c2 H' g1 g2 g3 g4 g5 g6 g7 g8 g9 s'=>q1 h t d1 d2 w1 w2 c1 c2 H' g1 g2 g3 g4 g5 g6 g7 g8 g9 (s2.trans s'),fun h H' s'=>x1 (fun z=>absurd z (Int.not_le.mpr h)) H' (s2.trans s')⟩
   ·have hla1:H la=some (.lst [.ref t1,.ref t2]):=by rw [<- els];exact hla0
    have q1:=q0
    have x1:=e0
    rw [eks] at q1 x1
    refine⟨_,rfl,la,_,rfl,.inl (SqL.of hla1),rfl,_,rfl,qP (by show decide (V.int ((2:Nat):Int)=V.int 2)=true;decide) ⟨_,rfl,la,_,_,.ref t2,rfl,rfl,SqL.of hla1,rfl,?_⟩⟩
    exact key H t2 ⟨l2,b,ws,B,ht10,hl10,hA0,ht2,hl2,hB,nB,lB,q1,fun h H' s'=>x1 (fun z=>absurd z (Int.not_le.mpr h)) H' s'⟩
  intro H t2 ⟨l2,b,ws,B,ht1,hl1,hA,ht2,hl2,hB,nB,lB,q,e⟩
  refine⟨_,rfl,t1,_,1,_,rfl,rfl,SqT.of ht1,rfl,l1,rfl,⟨_,SqL.of hl1⟩,fun z hz=>?_⟩
  refine qJ (K:=K) (a:=l1) (xs:=us) (fun a=>a≠z) (A.map fun c=>if decide (c∈B)=true then some (zh c) else none) (fun σ=>∃u0,σ=[u0,some (.ref t2)]) hz (fun _ h=>h) ⟨_,rfl⟩ (by rw [length_map];exact hA.length.symm) (by rw [hA.length];exact le_trans lA (by decide)) (SqL.of hl1) ?_ ?_
  ·rintro k x o σ H4 hx ho s4 _ ⟨u0,rfl⟩ Y Z yes no
   obtain⟨c,hc,rc⟩:=Cel.get (Cel.mono s4 hA) hx
   have eo:=yP hc ho
   refine⟨_,rfl,_,rfl,t2,_,1,_,rfl,rfl,SqT.of (s4 _ _ ht2),rfl,zh c,B.map zh,rc.rdv,.lst (SqL.of (s4 _ _ hl2)) (j6 (hB.mono s4)),rfl,Yh _,(by show 1<=60;decide),_,rfl,?_⟩
   rw [zfx]
   by_cases hp:decide (c∈B)=true
   ·rw [if_pos hp] at eo
    exact qP hp ⟨_,rfl,yes _ _ _ _ eo ⟨_,rfl⟩ (zy.refl _) rc.rdn⟩
   ·rw [if_neg hp] at eo
    exact qH (Bool.eq_false_iff.mpr hp) (no _ _ eo ⟨_,rfl⟩ (zy.refl _))
  rintro yb H3 s3 hz3 hr3
  rw [qf] at hr3
  have hcb:Cel H3 yb (Two.both A B):=zJ.cel hr3
  refine⟨_,rfl,t1,_,1,_,rfl,rfl,SqT.of (s3 _ _ ht1),rfl,l1,rfl,⟨_,SqL.of (s3 _ _ hl1)⟩,fun o1 ho1=>?_⟩
  refine qJ (K:=K) (a:=l1) (xs:=us) (fun a=>a≠o1) (A.map fun c=>if (!decide (c∈Two.both A B))=true then some (zh c) else none) (fun σ=>∃u0,σ=[u0,some (.ref z)]) ho1 (fun _ h=>h) ⟨_,rfl⟩ (by rw [length_map];exact hA.length.symm) (by rw [hA.length];exact le_trans lA (by decide)) (SqL.of (s3 _ _ hl1)) ?_ ?_
  ·rintro k x o σ H4 hx ho s4 _ ⟨u0,rfl⟩ Y Z yes no
   obtain⟨c,hc,rc⟩:=Cel.get (Cel.mono (s3.trans s4) hA) hx
   have eo:=yP hc ho
   refine⟨_,rfl,_,rfl,zh c,(Two.both A B).map zh,rc.rdv,.lst (SqL.of (s4 _ _ hz3)) (j6 (hcb.mono s4)),rfl,Yh _,(by show 1<=60;decide),_,rfl,?_⟩
   rw [YS]
   by_cases hp:(!decide (c∈Two.both A B))=true
   ·rw [if_pos hp] at eo
    exact qP hp ⟨_,rfl,yes _ _ _ _ eo ⟨_,rfl⟩ (zy.refl _) rc.rdn⟩
   ·rw [if_neg hp] at eo
    exact qH (Bool.eq_false_iff.mpr hp) (no _ _ eo ⟨_,rfl⟩ (zy.refl _))
  rintro yo H4 s4 ho4 hr4
  rw [qf,zi1] at hr4
  have hco:Cel H4 yo (Two.alone A B):=zJ.cel hr4
  have s24:=s3.trans s4
  refine⟨_,rfl,t2,_,1,_,rfl,rfl,SqT.of (s24 _ _ ht2),rfl,l2,rfl,⟨_,SqL.of (s24 _ _ hl2)⟩,fun o2 ho2=>?_⟩
  refine qJ (K:=K) (a:=l2) (xs:=ws) (fun a=>a≠o2) (B.map fun c=>if (!decide (c∈Two.both A B))=true then some (zh c) else none) (fun σ=>∃u0,σ=[u0,some (.ref z)]) ho2 (fun _ h=>h) ⟨_,rfl⟩ (by rw [length_map];exact hB.length.symm) (by rw [hB.length];exact le_trans lB (by decide)) (SqL.of (s24 _ _ hl2)) ?_ ?_
  ·rintro k x o σ H5 hx ho s5 _ ⟨u0,rfl⟩ Y Z yes no
   obtain⟨c,hc,rc⟩:=Cel.get (Cel.mono (s24.trans s5) hB) hx
   have eo:=yP hc ho
   refine⟨_,rfl,_,rfl,zh c,(Two.both A B).map zh,rc.rdv,.lst (SqL.of (s5 _ _ (s4 _ _ hz3))) (j6 (hcb.mono (s4.trans s5))),rfl,Yh _,(by show 1<=60;decide),_,rfl,?_⟩
   rw [YS]
   by_cases hp:(!decide (c∈Two.both A B))=true
   ·rw [if_pos hp] at eo
    exact qP hp ⟨_,rfl,yes _ _ _ _ eo ⟨_,rfl⟩ (zy.refl _) rc.rdn⟩
   ·rw [if_neg hp] at eo
    exact qH (Bool.eq_false_iff.mpr hp) (no _ _ eo ⟨_,rfl⟩ (zy.refl _))
  rintro y2 H5 s5 ho5 hr5
  rw [qf,zhV] at hr5
  have hc2:Cel H5 y2 (Two.alone B A):=zJ.cel hr5
  have s25:=s24.trans s5
  have ho15:=s5 _ _ ho4
  have hz5:=s5 _ _ (s4 _ _ hz3)
  have hcb5:=hcb.mono (s4.trans s5)
  have ht25:=s25 _ _ ht2
  have ht15:=s25 _ _ ht1
  have hco5:=hco.mono s5
  refine⟨_,rfl,t1,_,0,_,rfl,rfl,SqT.of ht15,rfl,_,rfl,o1,_,rfl,.inl (SqL.of ho15),_,_,rfl,rfl,_,rfl,t2,_,0,_,rfl,rfl,SqT.of ht25,rfl,_,rfl,o2,_,rfl,.inl (SqL.of ho5),_,_,rfl,rfl,_,_,_,rfl,?_⟩
  refine⟨_,rfl,z,_,rfl,.inl (SqL.of hz5),_,rfl,t1,_,0,_,rfl,rfl,SqT.of ht15,rfl,_,rfl,t2,_,0,_,rfl,rfl,SqT.of ht25,rfl,_,_,_,rfl,?_⟩
  refine⟨_,rfl,_,rfl,_,_,rfl,rfl,_,rfl,?_⟩
  have eL:mx3 0 (a-((yo.length:Nat):Int)) (b-((y2.length:Nat):Int))=zaB A B a b:=by
   unfold zaB
   rw [hco5.length,hc2.length]
  have eM:mn3 ((yb.length:Nat):Int) a b=zaC A B a b:=by
   unfold zaC
   rw [hcb5.length]
  rw [eL,eM]
  by_cases hg:zaB A B a b<=zaC A B a b
  ·refine qH (decide_eq_false (by omega)) ?_
   have q':=q hg
   unfold zi0 at q'
   generalize zaB A B a b=lo at *
   generalize zaC A B a b=hi at *
   refine⟨_,rfl,_,rfl,_,rfl,(by show 3<=sizeLine;decide),fun r1 hr1=>?_⟩
   have y1:=zd (o:=.tup [.ref z,.int lo,.int hi]) hr1
   have x1:upd H5 r1 (.tup [.ref z,.int lo,.int hi]) r1=some (.tup [.ref z,.int lo,.int hi]):=zb
   refine⟨_,rfl,_,rfl,t1,_,0,_,rfl,rfl,SqT.of (y1 _ _ ht15),rfl,_,rfl,_,_,rfl,rfl,_,rfl,t1,_,0,_,rfl,rfl,SqT.of (y1 _ _ ht15),rfl,_,rfl,_,_,rfl,rfl,(by show 3<=sizeLine;decide),fun r2 hr2=>?_⟩
   have y22:=zd (o:=.tup [.ref o1,.int (a-hi),.int (a-lo)]) hr2
   have y12:=y1.trans y22
   refine⟨_,rfl,_,rfl,t2,_,0,_,rfl,rfl,SqT.of (y12 _ _ ht25),rfl,_,rfl,_,_,rfl,rfl,_,rfl,t2,_,0,_,rfl,rfl,SqT.of (y12 _ _ ht25),rfl,_,rfl,_,_,rfl,rfl,(by show 3<=sizeLine;decide),fun r3 hr3=>⟨(by show 3<=sizeLine;decide),fun rl hrl=>?_⟩⟩
   have y3:=zd (o:=.tup [.ref o2,.int (b-hi),.int (b-lo)]) hr3
   have y4:=zd (o:=.lst [.ref r1,.ref r2,.ref r3]) hrl
   have y34:=y3.trans y4
   have y14:=y12.trans y34
   have mB:∀{x:Nat×Nat},x∈Two.both A B->x∈A/\x∈B:=fun h=>⟨(List.mem_filter.mp h).1,of_decide_eq_true (List.mem_filter.mp h).2⟩
   have mA:∀{x:Nat×Nat} {A B:List (Nat×Nat)},x∈Two.alone A B->x∈A/\x ∉ B:=fun {x A B} h=>⟨(List.mem_filter.mp h).1,by
    have:=(List.mem_filter.mp h).2
    simpa using this⟩
   have l1':(Two.both A B).length<=20:=le_trans (length_filter_le _ _) lA
   have l2':(Two.alone A B).length<=20:=le_trans (length_filter_le _ _) lA
   have l3':(Two.alone B A).length<=20:=le_trans (length_filter_le _ _) lB
   refine⟨rl,_,[(Two.both A B,lo,hi),(Two.alone A B,a-hi,a-lo),(Two.alone B A,b-hi,b-lo)],rfl,zb,.cons ⟨r1,z,yb,rfl,y34 _ _ (y22 _ _ x1),y14 _ _ hz5,hcb5.mono y14⟩ (.cons ⟨r2,o1,yo,rfl,y34 _ _ zb,y14 _ _ ho15,hco5.mono y14⟩ (.cons ⟨r3,o2,y2,rfl,y4 _ _ zb,y14 _ _ ho5,hc2.mono y14⟩ .nil)),?_,?_,fun t d1 d2 w1 w2 c1 c2 H6 ht hd1 hd2 hne h1 h2 h3 k1 k2 p1 p2 x1' x2' s6=>?_⟩
   ·show (Two.both A B++(Two.alone A B++(Two.alone B A++[]))).Nodup
    rw [append_nil,List.nodup_append,List.nodup_append]
    refine⟨Two.J9 _ nA,⟨Two.J9 _ nA,Two.J9 _ nB,fun x hx y hy e=>?_⟩,fun x hx y hy e=>?_⟩
    ·subst e
     exact(mA hx).2 (mA hy).1
    ·subst e
     rcases List.mem_append.mp hy with hy | hy
     ·exact(mA hy).2 (mB hx).2
     ·exact(mA hy).2 (mB hx).1
   ·show (Two.both A B++(Two.alone A B++(Two.alone B A++[]))).length<64
    rw [append_nil,length_append,length_append]
    omega
   ·have sA:=s25.trans y14
    exact q' t d1 d2 w1 w2 c1 c2 H6 h1 h2 h3 k1 k2 p1 p2 x1' x2' (sA.trans s6)
  ·exact qP (decide_eq_true (by omega)) ⟨by decide,e (by omega) _ s25⟩
end
def zjy (rs:List Str)(n:Int)(th:Option (Nat×Nat))(st:List (Nat×Nat)):Int:=zkk rs n th-(zgy st (zew rs th)).sum
noncomputable def zhW (rs:List Str)(th:Option (Nat×Nat))(cl st:List (Nat×Nat)):List (Nat×Nat):=yR cl st (zew rs th)
theorem Cel.one {H H':Hp}{d:Addr}{xs:List V}(s:∀b o,b≠d->H b=some o->H' b=some o)(hd:H d=some (.lst xs)){vs:List V}{cs:List (Nat×Nat)}(hp:Cel H vs cs):Cel H' vs cs:=by
 induction hp with
 | nil=>exact .nil
 | cons q _ ih =>
  obtain⟨a,e,h⟩:=q
  exact .cons ⟨a,e,s a _ (fun z=>by rw [z,hd] at h;cases h) h⟩ ih
abbrev Tg:=Option (Nat×Nat)
noncomputable def zeA (rs:List Str)(n:Int)(cl st:List (Nat×Nat))(tgs:List Tg):List Ak:=tgs.map fun tg=>(zjy rs n tg st,zhW rs tg cl st)
noncomputable def zlc (l:List (Nat×Nat))(ks:List Ak):Option (List (Nat×Nat)×List (Nat×Nat)) :=
 if zaB (ak1 ks).2 (ak2 ks).2 (ak1 ks).1 (ak2 ks).1<=zaC (ak1 ks).2 (ak2 ks).2 (ak1 ks).1 (ak2 ks).1 then some (l.filter (fun c=>decide (c∈qX (gsU ks))),l.filter fun c=>decide (c∈qY (gsU ks))) else none
noncomputable def fol (rs:List Str)(n:Int)(cl st:List (Nat×Nat))(tgs:List Tg):Option (List (Nat×Nat)×List (Nat×Nat)):=zlc (qC rs) (zeA rs n cl st tgs)
structure zld (H:Hp)(p l th fa fc fs:Addr)(rs:List Str)(n:Int)(vs:List V)(tgs:List Tg)(us ws:List V)(cl st:List (Nat×Nat)):Prop where
 b:qz H p l rs n
 R:Rows bd.cps.toList rs
 h:H th=some (.lst vs)
 t:Paired (Zg H) vs tgs
 m:tgs.length=1\/tgs.length=2
 o:∀c,some c∈tgs->c∈jg rs
 l20:(qC rs).length<=20
 f:jH H fa fc fs us ws cl st
 fi:zgx cl st
def Yi (C:Addr):Sp:=fun vs H Q E=>∃(p l th fa fc fs:Addr) (rs:List Str) (n:Int) (ths:List V) (tgs:List Tg) (us ws:List V) (cl st:List (Nat×Nat)),vs=[.ref p,.ref th,.ref fa]/\zld H p l th fa fc fs rs n ths tgs us ws cl st /\
 (∀c1 c2,fol rs n cl st tgs=some (c1,c2)->∀(t d1 d2:Addr) (w1 w2:List V) (H':Hp),jH H' t d1 d2 w1 w2 c1 c2->zy H H'->Q (.ref t) H') /\
 (fol rs n cl st tgs=none->∀H',zy H H'->E (.ref C) none H')
theorem zcr (rs:List Str)(tg:Tg):(zew rs tg).Sublist (qC rs):=by
 cases tg with
 | none=>exact List.Sublist.refl _
 | some c =>
  show (clA rs c).Sublist (qC rs)
  unfold clA Zf qC
  have e:(Cells.zE qe 0 (codes rs)).filter (fun x=>decide (Cells.sgn (codes rs) x=63))=Cells.zE JI 0 (codes rs):=by
   rw [Cells.all_filter (p:=qe) (q:=fun k=>decide (k=63)) (codes rs)]
   exact Cells.Jh (fun k=>zcm k) 0 _
  rw [<- e,List.filter_filter]
  have e2:(fun x=>decide (Cells.sgn (codes rs) x=63)&&Cells.near x c)=fun x=>Cells.near x c&&decide (Cells.sgn (codes rs) x=63):=by
   funext x
   exact Bool.and_comm _ _
  rw [e2,<- List.filter_filter]
  exact filter_sublist
theorem ZI (rs:List Str):(qC rs).Pairwise Cells.lex:=Cells.ZS _ 0 (codes rs)
theorem zhX {rs:List Str}{tg:Tg}{cl st:List (Nat×Nat)}{c:Nat×Nat}(h:c∈zhW rs tg cl st):c∈qC rs/\c ∉ cl/\c ∉ st:=by
 have h1:=List.mem_filter.mp h
 have h2:c ∉ st/\c ∉ cl:=by simpa using h1.2
 exact⟨(zcr rs tg).subset h1.1,h2.2,h2.1⟩
theorem zhY {rs:List Str}{n:Int}{tgs:List Tg}{cl st:List (Nat×Nat)}{c:Nat×Nat}(i:Nat)(h:c∈((zeA rs n cl st tgs).getD i (0,[])).2):c∈qC rs/\c ∉ cl/\c ∉ st:=by
 unfold zeA at h
 rw [getD_eq_getElem?_getD,getElem?_map] at h
 cases e:tgs[i]? with
 | none =>
  rw [e] at h
  cases h
 | some tg =>
  rw [e] at h
  exact zhX (tg:=tg) h
theorem zkm {ks:List Ak}{c:Nat×Nat}(h:c∈(gsU ks).flatMap fun g=>g.1):c∈(ak1 ks).2\/c∈(ak2 ks).2:=by
 have h':c∈Two.both (ak1 ks).2 (ak2 ks).2++(Two.alone (ak1 ks).2 (ak2 ks).2++(Two.alone (ak2 ks).2 (ak1 ks).2++[])):=h
 rw [append_nil,List.mem_append,List.mem_append] at h'
 rcases h' with h | h | h
 ·exact .inl (List.mem_filter.mp h).1
 ·exact .inl (List.mem_filter.mp h).1
 ·exact .inr (List.mem_filter.mp h).1
theorem zfy {rs:List Str}{n:Int}{tgs:List Tg}{cl st:List (Nat×Nat)}{c:Nat×Nat}(h:c∈(gsU (zeA rs n cl st tgs)).flatMap fun g=>g.1):c∈qC rs/\c ∉ cl/\c ∉ st:=by
 rcases zkm h with h | h
 ·exact zhY 0 h
 ·exact zhY 1 h
theorem zcs {l m c:List (Nat×Nat)}(hl:l.Pairwise Cells.lex)(p:c.Perm m)(hc:c.Pairwise Cells.lex)(hm:∀x∈m,x∈l):c=l.filter fun x=>decide (x∈m):=by
 refine zdB ?_ hc (hl.sublist filter_sublist)
 refine(List.perm_ext_iff_of_nodup (jN hc) (jN (hl.sublist filter_sublist))).mpr fun x=>?_
 rw [List.mem_filter,decide_eq_true_eq,p.mem_iff]
 exact⟨fun h=>⟨hm x h,h⟩,fun h=>h.2⟩
theorem JM {rs:List Str}{n:Int}{tgs:List Tg}{cl st c1 c2:List (Nat×Nat)}(h:fol rs n cl st tgs=some (c1,c2)):(c1.Pairwise Cells.lex/\∀c∈c1,c∈qC rs/\c ∉ cl/\c ∉ st)/\c2.Pairwise Cells.lex/\∀c∈c2,c∈qC rs/\c ∉ cl/\c ∉ st:=by
 unfold fol zlc at h
 split at h
 ·cases h
  exact⟨⟨(ZI rs).sublist filter_sublist,fun c hc=>zfy ((xU _).subset (of_decide_eq_true (List.mem_filter.mp hc).2))⟩,(ZI rs).sublist filter_sublist,fun c hc=>zfy ((xV _).subset (of_decide_eq_true (List.mem_filter.mp hc).2))⟩
 ·cases h
def AkR (rs:List Str)(n:Int)(cl st:List (Nat×Nat))(y:Addr)(H:Hp)(v:V)(tg:Option (Nat×Nat)):Prop:=∃(r l2:Addr) (w2:List V),v=V.ref r/\r≠y/\l2≠y/\H r=some (.tup [.int (zjy rs n tg st),.ref l2])/\H l2=some (.lst w2)/\Cel H w2 (zhW rs tg cl st)
theorem AkR.keep {rs:List Str}{n:Int}{cl st:List (Nat×Nat)}{y:Addr}{H H':Hp}{old:List V}(hy:H y=some (.lst old))(s:∀b o,b≠y->H b=some o->H' b=some o){v:V}{tg:Option (Nat×Nat)}(h:AkR rs n cl st y H v tg):AkR rs n cl st y H' v tg:=by
 obtain⟨r,l2,w2,e,n1,n2,h1,h2,h3⟩:=h
 exact⟨r,l2,w2,e,n1,n2,s _ _ n1 h1,s _ _ n2 h2,Cel.one s hy h3⟩
theorem zi2 {rs:List Str}{n:Int}{cl st:List (Nat×Nat)}{y:Addr}{H:Hp}{vs:List V}{tgs:List Tg}(h:Paired (AkR rs n cl st y H) vs tgs):Paired (AkV H) vs (zeA rs n cl st tgs):=by
 induction h with
 | nil=>exact .nil
 | cons q _ ih =>
  obtain⟨r,l2,w2,e,_,_,h1,h2,h3⟩:=q
  exact .cons ⟨r,l2,w2,e,h1,h2,h3⟩ ih
section
variable {P:Program}{w:World}{K:PySem.W.Frag}{mg:Str->Option Value}{base:Heap}{f:Addr}{fd:FuncData}{C_NoLaying:Addr}
theorem zaD:zO ["board","things","finding","known"] ["board","things","finding"] (zk JG):=⟨rfl,rfl,rfl,by decide +kernel,rfl,by decide +kernel,by decide +kernel⟩
theorem zaE (T:Txt mg)(O_NoLaying:Z0 K mg "NoLaying" C_NoLaying)(Z:Prog K mg)(D:zC K mg "follows" JG ["board","things","finding"] f fd) :
  zQ P w K mg base (CXE P w) 4 f fd ["board","things","finding"] (Yi C_NoLaying):=by
 obtain⟨zlf,zkB,yJ⟩:=Z.around
 obtain⟨zgB,zeB,zL⟩:=Z.sign_at
 obtain⟨zeC,zdC,qh⟩:=Z.cells_of
 obtain⟨zlg,zkC,JL⟩:=Z.closed
 obtain⟨zjz,zi3,jO⟩:=Z.number_at
 obtain⟨zgQ,zgC,qL⟩:=Z.closed_around
 obtain⟨zeD,zdD,Zh⟩:=Z.asked_by
 obtain⟨zeE,zdE,Zi⟩:=Z.known_of
 obtain⟨za4,zaF,yy⟩:=Z.still_asked
 obtain⟨zkD,zkn,xA⟩:=Z.settled
 obtain⟨zhZ,zgD,YT⟩:=Z.gained
 have zeF:zQ P w K mg base CX0 1 zeE zdE ["finding"] zft:=zdv T Zi
 have za5:zQ P w K mg base CX0 1 za4 zaF ["asked","known"] zfu:=zaz T yy
 have zeG:zQ P w K mg base CX0 3 zeD zdD ["board","thing"] zfv:=zdz T Zh yJ zL qh JL jO qL
 have zh0:zQ P w K mg base (CXE P w) 2 zhZ zgD ["asked"] (zbM C_NoLaying):=zgz T O_NoLaying YT xA
 refine D.F.okX zaD (fun vs H Q E h=>?_) (fun cdv A outer s H vs Q E hr h=>?_)
 ·obtain⟨p,l,th,fa,fc,fs,rs,n,ths,tgs,us,ws,cl,st,rfl,_⟩:=h
  rfl
 ·obtain⟨p,l,th,fa,fc,fs,rs,n,ths,tgs,us,ws,cl,st,rfl,X,q,e⟩:=h
  refine⟨_,(zf (zH (i:=3) zaD.nd rfl (Or.inr rfl) (zB zeF (hr.mono (by decide)) (by rfl) Zi.g Zi.F.kp Zi.b .nil zV (za (pv 2) zc)))
   (zg (zG (zB zh0 (hr.mono (by decide)) (by rfl) YT.g YT.F.kp YT.b .nil (Yc.passes zbr) (za (qw (N:=["thing","known","board"]) (src:=[none,some 3,some 0]) (ql.free (O:=(zk JG).names) (XN:=["board","things","finding","known"]) rfl rfl ⟨_,rfl⟩ rfl rfl (by decide +kernel) (by decide +kernel) (by decide +kernel) rfl (by decide +kernel)) rfl (qt (pv 1)) (fun _ _ _ _ _=>(zF (i:=0) (by show List.Nodup (["thing","known","board"]:List Str);decide +kernel) rfl (Or.inl rfl))) (fun _ _ _ _ _=>xE) (fun _ _ _ _ _=>(zB za5 (hr.mono (by decide)) (by rfl) yy.g yy.F.kp yy.b .nil zV (za (zB zeG (hr.mono (by decide)) (by rfl) Zh.g Zh.F.kp Zh.b .nil zV (za (pv 2) (za (pv 0) zc))) (za (pv 1) zc))))) zc))))),?_⟩
  have ask20:∀tg,(zew rs tg).length<=20:=fun tg=>le_trans (zcr rs tg).length_le X.l20
  refine⟨_,rfl,fa,fc,fs,us,ws,cl,st,rfl,X.f,X.fi,fun kd kvs H1 hkd zlU hK s1=>?_⟩
  refine⟨_,rfl,th,rfl,⟨_,SqL.of (s1 _ _ X.h)⟩,fun y hy=>?_⟩
  refine jx (K:=K) (a:=th) (xs:=ths) (fun i σ H'=>(∃u0,σ=[u0,some (.ref kd),some (.ref p)])/\zy H1 H'/\∃ys,H' y=some (.lst ys)/\Paired (AkR rs n cl st y H') ys (tgs.take i)) ⟨⟨_,rfl⟩,zd hy,[],zb,.nil⟩ (fun i σ H' _ ⟨_,s',_⟩=>SqL.of (s' _ _ (s1 _ _ X.h))) ?_ ?_
  ·rintro i x σ H2 hx ⟨⟨u0,rfl⟩,s2,ys,hy2,hP⟩
   have s12:=s1.trans s2
   obtain⟨tg,hti,ht0⟩:=zg6 X.t hx
   have ht:=ht0.mono s12
   have ho:∀c,tg=some c->c∈jg rs:=fun c e=>X.o c (by rw [<- e];exact mem_of_getElem? hti)
   refine J1 ⟨_,rfl,_,rfl,p,l,rs,n,x,tg,rfl,X.b.mono s12,X.R,ht,ho,fun t la us3 H3 ht ht3 hla zlV s3=>?_⟩
   refine⟨_,rfl,t,la,kd,zkk rs n tg,us3,zew rs tg,cl,st,kvs,rfl,ht3,hla,zlV,le_trans (ask20 tg) (by decide),s3 _ _ (s2 _ _ zlU),hK,fun r l2 ws2 H4 hr4 hl0 hr4' hl2 hc4 s4=>?_⟩
   have hy4:=s4 _ _ (s3 _ _ hy2)
   have nry:r≠y:=Q0 hr4' hy4 (by intro q;cases q)
   have nly:l2≠y:=fun z=>by
    rw [z,s3 _ _ hy2] at hl0
    cases hl0
   have ysl:ys.length<=2:=by
    rw [Paired.length hP,length_take]
    have:=X.m
    omega
   refine⟨ys,hy4,lt_of_le_of_lt ysl (by decide),⟨_,rfl⟩,fun b o e'=>?_,ys++[.ref r],zb,?_⟩
   ·rw [zo (zj e' hy)]
    exact s4 _ _ (s3 _ _ (s2 _ _ e'))
   ·rw [take_add_one,hti]
    have kk:∀b o,b≠y->H4 b=some o->upd H4 y (.lst (ys++[.ref r])) b=some o:=fun b o nb e=>by
     rw [zo nb]
     exact e
    refine Paired.snoc (Paired.imp' (fun v g h=>AkR.keep hy2 (fun b o nb e=>by rw [zo nb];exact s4 _ _ (s3 _ _ e)) h) hP) ⟨r,l2,ws2,rfl,nry,nly,kk _ _ nry hr4',kk _ _ nly hl2,Cel.into y _ hy4 hc4⟩
  ·rintro σ H2 ⟨_,s2,ys,hy2,hP⟩
   rw [Paired.length X.t,take_length] at hP
   have s12:=s1.trans s2
   refine⟨y,ys,zeA rs n cl st tgs,rfl,hy2,zi2 hP,?_,fun k hk=>?_,fun h0 t d1 d2 w1 w2 c1 c2 H3 k1 k2 k3 g1 g2 p1 p2 x1 x2 s3=>?_,fun hn H3 s3=>e ?_ H3 (s12.trans s3)⟩
   ·unfold zeA
    rw [length_map]
    exact X.m
   ·obtain⟨tg,_,rfl⟩:=List.mem_map.mp hk
    exact⟨jN ((ZI rs).sublist ((filter_sublist).trans (zcr rs tg))),le_trans (length_filter_le _ _) (ask20 tg)⟩
   ·refine q _ _ (if_pos h0) t d1 d2 w1 w2 H3 ⟨k1,k2,k3,?_,?_⟩ (s12.trans s3)
    ·rw [<- zcs (ZI rs) p1 x1 fun x hx=>(zfy ((xU _).subset hx)).1]
     exact g1
    ·rw [<- zcs (ZI rs) p2 x2 fun x hx=>(zfy ((xV _).subset hx)).1]
     exact g2
   ·exact if_neg hn
end
abbrev Thg:=Str ⊕ List Int
noncomputable def thD (t:Thg):PyData:=match t with
 | .inl x=>.str x
 | .inr is=>.tuple (is.map PyData.int)
def TgV (H:Hp)(v:V)(t:Thg):Prop:=match t with
 | .inl x=>v=V.str x
 | .inr is=>∃a,v=V.ref a/\H a=some (.tup (is.map V.int))
noncomputable def ofC (c:Nat×Nat):Thg:=.inr [((c.1:Nat):Int),((c.2:Nat):Int)]
noncomputable def ofT (tg:Tg):Thg:=match tg with
 | none=>.inl "all"
 | some c=>ofC c
structure Zq (t:Thg):Prop where
 lay:(thD t).canLay0=true
 few:∀is,t=.inr is->is.length<=3
theorem TgV.mono {H H':Hp}(s:zy H H'){v:V}{t:Thg}(h:TgV H v t):TgV H' v t:=by
 cases t with
 | inl x=>exact h
 | inr is =>
  obtain⟨a,e,h⟩:=h
  exact⟨a,e,s _ _ h⟩
theorem zh1 {K:PySem.W.Frag}{H:Hp}(is:List Int):jG K H (is.map V.int) (is.map PyData.int):=by
 induction is with
 | nil=>exact .nil
 | cons i r ih=>exact .cons (.int i) ih
theorem TgV.rdv {K:PySem.W.Frag}{H:Hp}{v:V}{t:Thg}(h:TgV H v t):Rdv K H v (thD t):=by
 cases t with
 | inl x =>
  have h:v=V.str x:=h
  subst h
  exact .str x
 | inr is =>
  obtain⟨a,rfl,h⟩:=h
  exact .tup (SqT.of h) (zh1 is)
theorem zi4 {K:PySem.W.Frag}{H:Hp}{vs:List V}{ts:List Thg}(h:Paired (TgV H) vs ts):jG K H vs (ts.map thD):=by
 induction h with
 | nil=>exact .nil
 | cons q _ ih=>exact .cons q.rdv ih
theorem JN {H H':Hp}(s:zy H H'){vs:List V}{ts:List Thg}(h:Paired (TgV H) vs ts):Paired (TgV H') vs ts:=Paired.imp' (fun _ _ z=>TgV.mono s z) h
theorem zh2 (is js:List Int):PyData.eqvAll (is.map PyData.int) (js.map PyData.int)=decide (is=js):=by
 induction is generalizing js with
 | nil =>
  cases js with
  | nil=>rfl
  | cons j r=>rfl
 | cons i r ih =>
  cases js with
  | nil=>rfl
  | cons j q =>
   show ((i==j)&&PyData.eqvAll (r.map PyData.int) (q.map PyData.int))=_
   rw [ih,Bool.eq_iff_iff,and_eq_true,beq_iff_eq,decide_eq_true_eq,decide_eq_true_eq,List.cons.injEq]
theorem ZW (s t:Thg):PyData.eqv (thD s) (thD t)=decide (s=t):=by
 cases s with
 | inl x =>
  cases t with
  | inl y =>
   show (x==y)=_
   rw [Bool.eq_iff_iff,beq_iff_eq,decide_eq_true_eq,Sum.inl.injEq]
  | inr js=>exact(decide_eq_false (fun h=>nomatch h)).symm
 | inr is =>
  cases t with
  | inl y=>exact(decide_eq_false (fun h=>nomatch h)).symm
  | inr js =>
   show PyData.eqvAll (is.map PyData.int) (js.map PyData.int)=_
   rw [zh2,Bool.eq_iff_iff,decide_eq_true_eq,decide_eq_true_eq,Sum.inr.injEq]
theorem zeH (is:List Int):PyData.depthAll (is.map PyData.int)=0:=by
 induction is with
 | nil=>rfl
 | cons i r ih =>
  show max 0 (PyData.depthAll (r.map PyData.int))=0
  rw [ih]
  rfl
theorem JO (t:Thg):(thD t).depth<=1:=by
 cases t with
 | inl x=>exact zero_le _
 | inr is =>
  show PyData.depthAll (is.map PyData.int)+1<=1
  rw [zeH]
  exact le_refl _
theorem zfz {s t:Thg}(hs:Zq s)(ht:Zq t):zf2 (thD s) (thD t):=⟨hs.lay,ht.lay,le_trans (JO s) (by decide)⟩
theorem zh3 (c:Nat×Nat):Zq (ofC c):=⟨rfl,fun is h=>by cases h;show 2<=3;decide⟩
theorem zko:Zq (.inl "all"):=⟨by decide +kernel,fun _ h=>nomatch h⟩
theorem zi5 {c d:Nat×Nat}:ofC c=ofC d↔c=d:=by
 constructor
 ·intro h
  have h1:=Sum.inr.inj h
  have a:((c.1:Nat):Int)=((d.1:Nat):Int):=(List.cons.inj h1).1
  have b:((c.2:Nat):Int)=((d.2:Nat):Int):=(List.cons.inj (List.cons.inj h1).2).1
  exact Prod.ext (by omega) (by omega)
 ·exact fun h=>congrArg ofC h
theorem j5.tgv {H:Hp}{v:V}{c:Nat×Nat}(h:j5 H v c):TgV H v (ofC c):=h
theorem Zg.tgv {H:Hp}{v:V}{tg:Tg}(h:Zg H v tg):TgV H v (ofT tg):=by
 cases tg with
 | none=>exact h
 | some c=>exact h
theorem ZJ (c d:List (Nat×Nat)):PyData.eqv (.list (c.map zh)) (.list (d.map zh))=decide (c=d):=by
 show PyData.eqvAll (c.map zh) (d.map zh)=_
 induction c generalizing d with
 | nil =>
  cases d with
  | nil=>rfl
  | cons j r=>rfl
 | cons i r ih =>
  cases d with
  | nil=>rfl
  | cons j q =>
   show (PyData.eqv (zh i) (zh j)&&PyData.eqvAll (r.map zh) (q.map zh))=_
   rw [ih,ZV,Bool.eq_iff_iff,and_eq_true,decide_eq_true_eq,decide_eq_true_eq,decide_eq_true_eq,List.cons.injEq]
def jh (rs:List Str)(t:Thg):Bool:=decide (t=.inl "all") || (jg rs).any fun c=>decide (ofC c=t)
def okT (rs:List Str)(ts:List Thg):Bool:=(decide (ts.length=1) || decide (ts.length=2))&&(!(decide (ts.length=2)&&decide (ts[0]?=ts[1]?))&&ts.all (jh rs))
def zh4:Sp:=fun vs H Q _=>∃(v:V) (t:Thg),vs=[v]/\TgV H v t/\Zq t/\∀H',zy H H'->Q (.bl t.isRight) H'
def zh5:Sp:=fun vs H Q _=>∃(l:Addr) (us:List V) (cs:List (Nat×Nat)),vs=[.ref l]/\H l=some (.lst us)/\Cel H us cs/\cs.length<=1000/\∀H',zy H H'->Q (.bl true) H'
def zh6:Sp:=fun vs H Q _=>∃(p l th:Addr) (rs:List Str) (n:Int) (ths:List V) (ts:List Thg),vs=[.ref p,.ref th]/\qz H p l rs n/\Rows bd.cps.toList rs/\H th=some (.lst ths)/\Paired (TgV H) ths ts/\(∀t∈ts,Zq t)/\ts.length<=3/\∀H',zy H H'->Q (.bl (okT rs ts)) H'
def zdF:Sp:=fun vs H Q _=>∃(a b:Addr) (us ws:List V) (cs ds:List (Nat×Nat)),vs=[.ref a,.ref b]/\H a=some (.lst us)/\H b=some (.lst ws)/\Cel H us cs/\Cel H ws ds/\cs.length<=1000/\∀H',zy H H'->Q (.bl (decide (ds=cs.filter fun c=>decide (c∈ds)))) H'
theorem zdG (i:Nat):(replicate i true).map V.bl++[V.bl true]=(replicate (i+1) true).map V.bl:=by
 rw [List.replicate_succ',map_append]
 rfl
theorem zfA (i:Nat):(replicate i true).all id=true:=by
 rw [all_eq_true]
 exact fun x hx=>(List.mem_replicate.mp hx).2
section
variable {P:Program}{w:World}{K:PySem.W.Frag}{mg:Str->Option Value}{base:Heap}{f:Addr}{fd:FuncData}{C_NoLaying:Addr}
theorem zeI:zO ["thing"] ["thing"] (zk ZT):=⟨rfl,rfl,rfl,by decide +kernel,rfl,by decide +kernel,by decide +kernel⟩
theorem zaG (T:Txt mg)(D:zC K mg "is_cell" ZT ["thing"] f fd):zQ P w K mg base CX0 1 f fd ["thing"] zh4:=by
 refine D.F.ok zeI (fun vs H Q E h=>?_) (fun cdv A outer s H vs Q E hr h=>?_)
 ·obtain⟨v,t,rfl,_⟩:=h
  rfl
 ·obtain⟨v,t,rfl,hv,ho,q⟩:=h
  refine⟨_,(zg (zG (JZ (zm yE (by rfl) T.jz PyProof.Rows.boot_isinstance (za (pv 0) (za (ZQ (v:=.ty "tuple") (by rfl) T.ziY PyProof.Rows.boot_tuple (by rfl)) zc))) (Zr (zm (zab rfl) (by rfl) T.zhN PyProof.Rows.boot_all (za (qw (N:=["part"]) (src:=[none]) (ql.plain rfl (by decide +kernel) (by decide +kernel) (by decide +kernel) rfl (by decide)) rfl (zjP (pv 0)) (fun _ _ _ _ _=>(zF (i:=0) (by show List.Nodup (["part"]:List Str);decide +kernel) rfl (Or.inl rfl))) (fun _ _ _ _ _=>xE) (fun _ _ _ _ _=>(JZ (zm (YC (K:=K) (by rfl)) (by rfl) T.jz PyProof.Rows.boot_isinstance (za (pv 0) (za (ZQ (v:=.ty "int") (by rfl) T.zfq PyProof.Rows.boot_int (by rfl)) zc))) (Zr (zjN (zm (YC (K:=K) (by rfl)) (by rfl) T.jz PyProof.Rows.boot_isinstance (za (pv 0) (za (ZQ (v:=.ty "bool") (by rfl) T.zhO PyProof.Rows.boot_bool (by rfl)) zc)))))))) zc)))))),?_⟩
  cases t with
  | inl x =>
   have ev:v=V.str x:=hv
   subst ev
   exact⟨_,rfl,_,"str","tuple",false,rfl,.str x,(by decide +kernel),_,rfl,qH rfl (q _ (zy.refl _))⟩
  | inr is =>
   obtain⟨a,rfl,ha⟩:=hv
   refine⟨_,rfl,_,"tuple","tuple",true,rfl,.tup ha,(by decide +kernel),_,rfl,qP rfl ?_⟩
   refine⟨_,rfl,a,rfl,⟨_,SqT.of ha⟩,fun y hy=>?_⟩
   have i3:=ho.few is rfl
   refine zhK (K:=K) (a:=a) (xs:=is.map V.int) (fun i σ H'=>(∃u0,σ=[u0])/\zy H H'/\i<=3/\H' y=some (.lst ((replicate i true).map V.bl))) ⟨⟨_,rfl⟩,zd hy,by decide,zb⟩ (fun i σ H' _ ⟨_,s',_⟩=>SqT.of (s' _ _ ha)) ?_ ?_
   ·rintro i x σ H2 hx ⟨⟨u0,rfl⟩,s2,_,hy2⟩
    obtain⟨j,rfl⟩:∃j:Int,x=.int j:=by
     obtain⟨j,_,e⟩:=List.mem_map.mp (mem_of_getElem? hx)
     exact⟨j,e.symm⟩
    have il:=(List.getElem?_eq_some_iff.mp hx).1
    rw [length_map] at il
    refine J1 ⟨_,rfl,_,"int","int",true,rfl,.int j,(by decide +kernel),_,rfl,qP rfl ⟨_,rfl,_,"int","bool",false,rfl,.int j,(by decide +kernel),_,rfl,?_⟩⟩
    refine⟨_,hy2,?_,⟨_,rfl⟩,fun b o e=>?_,by omega,?_⟩
    ·rw [length_map,List.length_replicate]
     exact lt_of_le_of_lt (show i<=3 by omega) (by decide)
    ·rw [zo (zj e hy)]
     exact s2 _ _ e
    ·rw [zb,<- zdG]
     rfl
   ·rintro σ H2 ⟨_,s2,_,hy2⟩
    refine⟨y,_,rfl,SqL.of hy2,?_⟩
    rw [zfA]
    exact q _ s2
theorem zct:zO ["cells"] ["cells"] (zk Ji):=⟨rfl,rfl,rfl,by decide +kernel,rfl,by decide +kernel,by decide +kernel⟩
theorem zcu (T:Txt mg)(Z:Prog K mg)(D:zC K mg "are_cells" Ji ["cells"] f fd):zQ P w K mg base CX0 2 f fd ["cells"] zh5:=by
 obtain⟨Ql,Yj,jA⟩:=Z.is_cell
 have Qm:zQ P w K mg base CX0 1 Ql Yj ["thing"] zh4:=zaG T jA
 refine D.F.ok zct (fun vs H Q E h=>?_) (fun cdv A outer s H vs Q E hr h=>?_)
 ·obtain⟨l,us,cs,rfl,_⟩:=h
  rfl
 ·obtain⟨l,us,cs,rfl,hl,hc,hz,q⟩:=h
  refine⟨_,(zg (zG (JZ (zm yE (by rfl) T.jz PyProof.Rows.boot_isinstance (za (pv 0) (za (ZQ (v:=.ty "list") (by rfl) T.yO PyProof.Rows.boot_list (by rfl)) zc))) (Zr (zm (zab rfl) (by rfl) T.zhN PyProof.Rows.boot_all (za (qw (N:=["cell"]) (src:=[none]) (ql.plain rfl (by decide +kernel) (by decide +kernel) (by decide +kernel) rfl (by decide)) rfl (qt (pv 0)) (fun _ _ _ _ _=>(zF (i:=0) (by show List.Nodup (["cell"]:List Str);decide +kernel) rfl (Or.inl rfl))) (fun _ _ _ _ _=>xE) (fun _ _ _ _ _=>(zB Qm (hr.mono (by decide)) (by rfl) jA.g jA.F.kp jA.b .nil zV (za (pv 0) zc)))) zc)))))),?_⟩
  refine⟨_,rfl,_,"list","list",true,rfl,.lst hl,(by decide +kernel),_,rfl,qP rfl ?_⟩
  refine⟨_,rfl,l,rfl,⟨_,SqL.of hl⟩,fun y hy=>?_⟩
  refine jx (K:=K) (a:=l) (xs:=us) (fun i σ H'=>(∃u0,σ=[u0])/\zy H H'/\H' y=some (.lst ((replicate i true).map V.bl))) ⟨⟨_,rfl⟩,zd hy,zb⟩ (fun i σ H' _ ⟨_,s',_⟩=>SqL.of (s' _ _ hl)) ?_ ?_
  ·rintro i x σ H2 hx ⟨⟨u0,rfl⟩,s2,hy2⟩
   obtain⟨c,_,rc⟩:=Cel.get (Cel.mono s2 hc) hx
   have il:=(List.getElem?_eq_some_iff.mp hx).1
   rw [hc.length] at il
   refine J1 ⟨_,rfl,x,ofC c,rfl,rc.tgv,zh3 c,fun H3 s3=>?_⟩
   refine⟨_,s3 _ _ hy2,?_,⟨_,rfl⟩,fun b o e=>?_,?_⟩
   ·rw [length_map,List.length_replicate]
    exact lt_of_le_of_lt (show i<=1000 by omega) (by decide)
   ·rw [zo (zj e hy)]
    exact s3 _ _ (s2 _ _ e)
   ·rw [zb,<- zdG]
    rfl
  ·rintro σ H2 ⟨_,s2,hy2⟩
   refine⟨y,_,rfl,SqL.of hy2,?_⟩
   rw [zfA]
   exact q _ s2
theorem zgE:zO ["cells","some"] ["cells","some"] (zk ZD):=⟨rfl,rfl,rfl,by decide +kernel,rfl,by decide +kernel,by decide +kernel⟩
theorem zgF (T:Txt mg)(D:zC K mg "picked" ZD ["cells","some"] f fd):zQ P w K mg base CX0 1 f fd ["cells","some"] zdF:=by
 refine D.F.ok zgE (fun vs H Q E h=>?_) (fun cdv A outer s H vs Q E hr h=>?_)
 ·obtain⟨a,b,us,ws,cs,ds,rfl,_⟩:=h
  rfl
 ·obtain⟨a,b,us,ws,cs,ds,rfl,ha,hb,hc,hd,hz,q⟩:=h
  refine⟨_,(zg (zG (qN (jr hr.units) (pv 1) (qw (N:=["cell","some"]) (src:=[none,some 1]) (ql.free (O:=(zk ZD).names) (XN:=["cells","some"]) rfl rfl ⟨_,rfl⟩ rfl rfl (by decide +kernel) (by decide +kernel) (by decide +kernel) rfl (by decide +kernel)) rfl (qt (pv 0)) (fun _ _ _ _ _=>(zF (i:=0) (by show List.Nodup (["cell","some"]:List Str);decide +kernel) rfl (Or.inl rfl))) (fun _ _ _ _ _=>(qE (zq (yF (K:=K) (by rfl) hr.units) (pv 0) (pv 1) (by rfl)))) (fun _ _ _ _ _=>(pv 0))) (zD _)))),?_⟩
  refine⟨_,rfl,_,rfl,a,rfl,⟨_,SqL.of ha⟩,fun z hzn=>?_⟩
  refine qJ (K:=K) (a:=a) (xs:=us) (fun a=>a≠z) (cs.map fun c=>if decide (c∈ds)=true then some (zh c) else none) (fun σ=>∃u0,σ=[u0,some (.ref b)]) hzn (fun _ h=>h) ⟨_,rfl⟩ (by rw [length_map];exact hc.length.symm) (by rw [hc.length];exact le_trans hz (by decide)) (SqL.of ha) ?_ ?_
  ·rintro k x o σ H4 hx ho s4 _ ⟨u0,rfl⟩ Y Z yes no
   obtain⟨c,hci,rc⟩:=Cel.get (Cel.mono s4 hc) hx
   have eo:=yP hci ho
   refine⟨_,rfl,_,rfl,zh c,ds.map zh,rc.rdv,.lst (SqL.of (s4 _ _ hb)) (j6 (hd.mono s4)),rfl,Yh _,(by show 1<=60;decide),_,rfl,?_⟩
   rw [zfx]
   by_cases hp:decide (c∈ds)=true
   ·rw [if_pos hp] at eo
    exact qP hp ⟨_,rfl,yes _ _ _ _ eo ⟨_,rfl⟩ (zy.refl _) rc.rdn⟩
   ·rw [if_neg hp] at eo
    exact qH (Bool.eq_false_iff.mpr hp) (no _ _ eo ⟨_,rfl⟩ (zy.refl _))
  ·rintro ys H2 s2 hz2 hr2
   rw [qf] at hr2
   refine⟨.list (ds.map zh),.list ((cs.filter fun c=>decide (c∈ds)).map zh),.lst (SqL.of (s2 _ _ hb)) (j6 (hd.mono s2)),.lst (SqL.of hz2) (j6 (zJ.cel hr2)),xT _ _,?_⟩
   show Q (.bl (PyData.eqv (.list (ds.map zh)) (.list ((cs.filter fun c=>decide (c∈ds)).map zh)))) H2
   rw [ZJ]
   exact q _ s2
end
theorem zlW (n:Nat):(if true=true then !inV (V.int ((n:Nat):Int)) [V.int 1,V.int 2] else inV (V.int ((n:Nat):Int)) [V.int 1,V.int 2])=!(decide (n=1) || decide (n=2)):=by
 show (!(decide ((1:Int)=((n:Nat):Int)) || (decide ((2:Int)=((n:Nat):Int)) || false)))=_
 rw [Bool.or_false,show decide ((1:Int)=((n:Nat):Int))=decide (n=1) from decide_eq_decide.mpr (by omega),show decide ((2:Int)=((n:Nat):Int))=decide (n=2) from decide_eq_decide.mpr (by omega)]
theorem zi6 (rs:List Str)(is:List Int):(if false=true then !((jg rs).map zh).any (fun z=>PyData.eqv z (thD (.inr is))) else ((jg rs).map zh).any fun z=>PyData.eqv z (thD (.inr is)))=jh rs (.inr is):=by
 show ((jg rs).map zh).any _=((jg rs).any fun c=>decide (ofC c=.inr is))
 rw [any_map]
 congr 1
 funext c
 exact ZW (ofC c) (.inr is)
theorem good_str (rs:List Str)(x:Str):jh rs (.inl x)=decide (x="all"):=by
 unfold jh
 have e:((jg rs).any fun c=>decide (ofC c=Sum.inl x))=false:=by
  rw [List.any_eq_false]
  exact fun c _ h=>nomatch of_decide_eq_true h
 rw [e,Bool.or_false]
 exact decide_eq_decide.mpr ⟨Sum.inl.inj,fun h=>congrArg Sum.inl h⟩
theorem zfB {rs:List Str}{t:Thg}(h:jh rs t=true):∃tg:Tg,t=ofT tg/\∀c,tg=some c->c∈jg rs:=by
 unfold jh at h
 rw [Bool.or_eq_true,decide_eq_true_eq,List.any_eq_true] at h
 rcases h with h | ⟨c,hc,e⟩
 ·exact⟨none,h,fun _ z=>nomatch z⟩
 ·exact⟨some c,(of_decide_eq_true e).symm,fun d z=>by cases z;exact hc⟩
theorem zkp {H:Hp}{v:V}{tg:Tg}(h:TgV H v (ofT tg)):Zg H v tg:=by
 cases tg with
 | none=>exact h
 | some c=>exact h
theorem zjA {rs:List Str}{H:Hp}{vs:List V}{ts:List Thg}(h:Paired (TgV H) vs ts)(g:ts.all (jh rs)=true):∃tgs:List Tg,ts=tgs.map ofT/\Paired (Zg H) vs tgs/\∀c,some c∈tgs->c∈jg rs:=by
 induction h with
 | nil=>exact⟨[],rfl,.nil,fun c z=>nomatch z⟩
 | cons q _ ih =>
  rw [List.all_cons,and_eq_true] at g
  obtain⟨tgs,rfl,h1,h2⟩:=ih g.2
  obtain⟨tg,rfl,h3⟩:=zfB g.1
  refine⟨tg::tgs,rfl,.cons (zkp q) h1,fun c hc=>?_⟩
  rcases List.mem_cons.mp hc with e | hc
  ·exact h3 c e.symm
  ·exact h2 c hc
def zdH (o:Option (List (Nat×Nat)×List (Nat×Nat)))(c1 c2:List (Nat×Nat)):Bool:=match o with
 | none=>false
 | some d=>decide (c1++c2 ≠ [])&&(decide (c1=d.1.filter fun c=>decide (c∈c1))&&decide (c2=d.2.filter fun c=>decide (c∈c2)))
structure yi (H:Hp)(sa th ca da:Addr)(ths:List V)(ts:List Thg)(us ws:List V)(c1 c2:List (Nat×Nat)):Prop where
 tp:H sa=some (.tup [.ref th,.ref ca,.ref da])
 h:H th=some (.lst ths)
 t:Paired (TgV H) ths ts
 ok:∀t∈ts,Zq t
 few:ts.length<=3
 h1:H ca=some (.lst us)
 h2:H da=some (.lst ws)
 e1:Cel H us c1
 e2:Cel H ws c2
 l1:c1.length<=60
 l2:c2.length<=60
 b1:∀c∈c1,c.1<8/\c.2<8
 b2:∀c∈c2,c.1<8/\c.2<8
theorem yi.mono {H H':Hp}{sa th ca da:Addr}{ths:List V}{ts:List Thg}{us ws:List V}{c1 c2:List (Nat×Nat)}(x:yi H sa th ca da ths ts us ws c1 c2)(s:zy H H'):yi H' sa th ca da ths ts us ws c1 c2:=⟨s _ _ x.tp,s _ _ x.h,JN s x.t,x.ok,x.few,s _ _ x.h1,s _ _ x.h2,x.e1.mono s,x.e2.mono s,x.l1,x.l2,x.b1,x.b2⟩
structure Zj (rs:List Str)(n:Int)(cl st:List (Nat×Nat))(ts:List Thg)(c1 c2:List (Nat×Nat))(b:Bool):Prop where
 no:okT rs ts=false->b=false
 yes:okT rs ts=true->∀tgs:List Tg,ts=tgs.map ofT->b=zdH (fol rs n cl st tgs) c1 c2
def zfC:Sp:=fun vs H Q _=>∃(p l fa fc fs sa th ca da:Addr) (rs:List Str) (n:Int) (ths:List V) (ts:List Thg) (us ws u1 u2:List V) (cl st c1 c2:List (Nat×Nat)),vs=[.ref p,.ref fa,.ref sa]/\qz H p l rs n/\Rows bd.cps.toList rs/\(qC rs).length<=20/\jH H fa fc fs us ws cl st/\zgx cl st/\yi H sa th ca da ths ts u1 u2 c1 c2 /\
 ∀b,Zj rs n cl st ts c1 c2 b->∀H',zy H H'->Q (.bl b) H'
theorem zkq {A P R:Prop}(k:A->P)(h:(A->P)->R):R:=h k
section
variable {P:Program}{w:World}{K:PySem.W.Frag}{mg:Str->Option Value}{base:Heap}{f:Addr}{fd:FuncData}{C_NoLaying:Addr}
theorem Z4:zO ["board","things","told"] ["board","things"] (zk jV):=⟨rfl,rfl,rfl,by decide +kernel,rfl,by decide +kernel,by decide +kernel⟩
theorem za6 (T:Txt mg)(Z:Prog K mg)(D:zC K mg "are_things" jV ["board","things"] f fd):zQ P w K mg base CX0 3 f fd ["board","things"] zh6:=by
 obtain⟨Ql,Yj,jA⟩:=Z.is_cell
 obtain⟨zcv,za7,xo⟩:=Z.open_cells
 obtain⟨zeC,zdC,qh⟩:=Z.cells_of
 obtain⟨zgB,zeB,zL⟩:=Z.sign_at
 have Qm:zQ P w K mg base CX0 1 Ql Yj ["thing"] zh4:=zaG T jA
 have zcw:zQ P w K mg base CX0 2 zcv za7 ["board"] (Ye Qx):=za1 T xo qh zL
 refine D.F.ok Z4 (fun vs H Q E h=>?_) (fun cdv A outer s H vs Q E hr h=>?_)
 ·obtain⟨p,l,th,rs,n,ths,ts,rfl,_⟩:=h
  rfl
 ·obtain⟨p,l,th,rs,n,ths,ts,rfl,b,R,hth,hts,hok,h3,q⟩:=h
  refine⟨_,(zf (qo (PW.pt (ZZ (Q3 (jo (zm yE (by rfl) T.jz PyProof.Rows.boot_isinstance (za (pv 1) (za (ZQ (v:=.ty "list") (by rfl) T.yO PyProof.Rows.boot_list (by rfl)) zc))) (fun _=>rfl))) (Z8 (zq zb4 (zm zx (by rfl) T.qR PySem.boot_len (za (pv 1) zc)) (zW (za ze (za ze zc))) (by rfl))))) (zg (zG Zn)) zM)
   (zf (qo (PW.pt (xB (zq qU (zm zx (by rfl) T.qR PySem.boot_len (za (pv 1) zc)) ze (zD _)) (jR (zq (jr hr.units) (zw zT (pv 1) ze (fun _ _=>rfl)) (zw zT (pv 1) ze (fun _ _=>rfl)) (zD _))))) (zg (zG Zn)) zM)
   (zf (zH (i:=2) Z4.nd rfl (Or.inr rfl) (zB zcw (hr.mono (by decide)) (by rfl) xo.g xo.F.kp xo.b .nil zV (za (pv 0) zc)))
   (zg (zG (zm (zab rfl) (by rfl) T.zhN PyProof.Rows.boot_all (za (qw (N:=["thing","told"]) (src:=[none,some 2]) (ql.free (O:=(zk jV).names) (XN:=["board","things","told"]) rfl rfl ⟨_,rfl⟩ rfl rfl (by decide +kernel) (by decide +kernel) (by decide +kernel) rfl (by decide +kernel)) rfl (qt (pv 1)) (fun _ _ _ _ _=>(zF (i:=0) (by show List.Nodup (["thing","told"]:List Str);decide +kernel) rfl (Or.inl rfl))) (fun _ _ _ _ _=>xE) (fun _ _ _ _ _=>(zkH (qN (zcT (K:=K) (by rfl) hr.units) (pv 0) (JY (v:=.str "all") (by rfl) T.zjw.choose_spec (by exact⟨_,rfl⟩)) (zD _)) (Zr (JZ (zB Qm (hr.mono (by decide)) (by rfl) jA.g jA.F.kp jA.b .nil zV (za (pv 0) zc)) (Zr (qN (yF (K:=K) (by rfl) hr.units) (pv 0) (pv 1) (by rfl)))))))) zc))))))),?_⟩
  have tl:ths.length=ts.length:=Paired.length hts
  refine⟨_,rfl,_,"list","list",true,rfl,.lst hth,(by decide +kernel),true,rfl,xD ?_⟩
  refine⟨_,rfl,th,_,rfl,.inl (SqL.of hth),(by show 2<=sizeLine;decide),fun tp htp=>?_⟩
  have z1:=zd (o:=.tup [V.int 1,V.int 2]) htp
  refine⟨tp,_,rfl,.inr (SqT.of zb),rfl,rfl,_,rfl,?_⟩
  rw [zlW,tl]
  by_cases h12:(!(decide (ts.length=1) || decide (ts.length=2)))=true
  ·refine qP h12 ?_
   have:okT rs ts=false:=by
    unfold okT
    rw [show (decide (ts.length=1) || decide (ts.length=2))=false from by simpa using h12]
    rfl
   rw [<- this]
   exact q _ z1
  refine qH (Bool.eq_false_iff.mpr h12) ?_
  have h12':(decide (ts.length=1) || decide (ts.length=2))=true:=by
   revert h12
   cases (decide (ts.length=1) || decide (ts.length=2))<;>simp
  have hth1:=z1 _ _ hth
  have hts1:=JN z1 hts
  have b1:=b.mono z1
  clear htp
  generalize upd H tp (.tup [V.int 1,V.int 2])=H1 at *
  refine⟨_,rfl,th,_,rfl,.inl (SqL.of hth1),rfl,_,rfl,?_⟩
  rw [tl]
  have hne:(decide (ts.length=2)&&decide (ts[0]?=ts[1]?))=true->okT rs ts=false:=fun h=>by
   unfold okT
   rw [h,h12']
   rfl
  refine' zkq (A:=(decide (ts.length=2)&&decide (ts[0]?=ts[1]?))=false) ?key (fun key=>?tail)
  case tail =>
   by_cases h2:ts.length=2
   ·refine qP (by rw [h2];decide) ?_
    obtain⟨t0,t1,v0,v1,e0,e1,g0,g1,a0,a1⟩:∃t0 t1 v0 v1,ts[0]?=some t0/\ts[1]?=some t1/\ths[0]?=some v0/\ths[1]?=some v1/\TgV H1 v0 t0/\TgV H1 v1 t1:=by
     obtain⟨v0,g0,a0⟩:=zcV (i:=0) hts1 (getElem?_eq_getElem (by omega))
     obtain⟨v1,g1,a1⟩:=zcV (i:=1) hts1 (getElem?_eq_getElem (by omega))
     exact⟨_,_,v0,v1,getElem?_eq_getElem (by omega),getElem?_eq_getElem (by omega),g0,g1,a0,a1⟩
    refine⟨_,rfl,th,_,_,v0,rfl,rfl,SqL.of hth1,ja (j:=0) g0,_,rfl,th,_,_,v1,rfl,rfl,SqL.of hth1,ja (j:=1) g1,thD t0,thD t1,a0.rdv,a1.rdv,zfz (hok _ (mem_of_getElem? e0)) (hok _ (mem_of_getElem? e1)),_,rfl,?_⟩
    show if (PyData.eqv (thD t0) (thD t1))=true then _ else _
    rw [ZW]
    by_cases he:t0=t1
    ·refine qP (decide_eq_true he) ?_
     have:okT rs ts=false:=hne (by rw [h2,e0,e1,he];simp)
     rw [<- this]
     exact q _ z1
    ·exact qH (decide_eq_false he) (key (by rw [e0,e1,decide_eq_false (fun z=>he (Option.some.inj z)),Bool.and_false]))
   ·exact qH (decide_eq_false (fun h=>h2 (by have:=V.int.inj h;omega))) (key (by rw [decide_eq_false h2,Bool.false_and]))
  intro zlX
  refine⟨_,rfl,p,l,rs,n,rfl,b1,R,fun d ws H2 hd hd2 hc2 s2=>?_⟩
  refine⟨_,rfl,th,rfl,⟨_,SqL.of (s2 _ _ hth1)⟩,fun y hy=>?_⟩
  refine jx (K:=K) (a:=th) (xs:=ths) (fun i σ H'=>(∃u0,σ=[u0,some (.ref d)])/\zy H2 H'/\H' y=some (.lst (((ts.take i).map (jh rs)).map V.bl))) ⟨⟨_,rfl⟩,zd hy,zb⟩ (fun i σ H' _ ⟨_,s',_⟩=>SqL.of (s' _ _ (s2 _ _ hth1))) ?_ ?_
  ·rintro i x σ H3 hx ⟨⟨u0,rfl⟩,s3,hy3⟩
   obtain⟨t,hti,ht0⟩:=zg6 hts1 hx
   have ht:=ht0.mono (s2.trans s3)
   have hto:=hok t (mem_of_getElem? hti)
   have fin:∀(b:Bool) (H5:Hp),b=jh rs t->zy H3 H5->∃ys,H5 y=some (.lst ys)/\ys.length<sizeLine/\(∃u0,[some x,some (V.ref d)]=[u0,some (V.ref d)])/\zy H2 (upd H5 y (.lst (ys++[V.bl b])))/\upd H5 y (.lst (ys++[V.bl b])) y=some (.lst (((ts.take (i+1)).map (jh rs)).map V.bl)):=fun b H5 eb s5=>by
    refine⟨_,s5 _ _ hy3,?_,⟨_,rfl⟩,fun b o e=>?_,?_⟩
    ·rw [length_map,length_map,length_take]
     exact lt_of_le_of_lt (show _<=3 by omega) (by decide)
    ·rw [zo (zj e hy)]
     exact s5 _ _ (s3 _ _ e)
    ·rw [zb,take_add_one,hti,map_append,map_append,eb]
     rfl
   refine J1 ⟨_,rfl,thD t,.str "all",ht.rdv,.str _,⟨hto.lay,by decide +kernel,le_trans (JO t) (by decide)⟩,_,rfl,?_⟩
   show if (PyData.eqv (thD t) (thD (.inl "all")))=true then _ else _
   rw [ZW]
   by_cases hall:t=.inl "all"
   ·refine qP (decide_eq_true hall) (fin true _ ?_ (zy.refl _))
    rw [hall,good_str]
    rfl
   ·refine qH (decide_eq_false hall) ⟨_,rfl,x,t,rfl,ht,hto,fun H4 s4=>?_⟩
    cases t with
    | inl z =>
     refine⟨_,rfl,qH rfl (fin false _ ?_ s4)⟩
     rw [good_str]
     exact(decide_eq_false fun h=>hall (congrArg Sum.inl h)).symm
    | inr is =>
     refine⟨_,rfl,qP rfl ⟨_,rfl,_,rfl,thD (.inr is),(jg rs).map zh,(ht.mono s4).rdv,.lst (SqL.of ((s3.trans s4) _ _ hd2)) (j6 (hc2.mono (s3.trans s4))),hto.lay,Yh _,le_trans (JO _) (by decide),?_⟩⟩
     exact fin _ _ (zi6 rs is) s4
  ·rintro σ H3 ⟨_,s3,hy3⟩
   rw [tl,take_length] at hy3
   refine⟨y,_,rfl,SqL.of hy3,?_⟩
   have:(ts.map (jh rs)).all id=okT rs ts:=by
    unfold okT
    rw [h12',zlX,List.all_map]
    rfl
   rw [this]
   exact q _ (z1.trans (s2.trans s3))
end
section
variable {P:Program}{w:World}{K:PySem.W.Frag}{mg:Str->Option Value}{base:Heap}{f:Addr}{fd:FuncData}{C_NoLaying:Addr}
theorem zi7 {a b:Tg}(h:ofT a=ofT b):a=b:=by
 cases a with
 | none =>
  cases b with
  | none=>rfl
  | some d=>cases h
 | some c =>
  cases b with
  | none=>cases h
  | some d=>exact congrArg some (zi5.mp h)
theorem zaH {a b:List Tg}(h:a.map ofT=b.map ofT):a=b:=by
 induction a generalizing b with
 | nil =>
  cases b with
  | nil=>rfl
  | cons y r=>cases h
 | cons x l ih =>
  cases b with
  | nil=>cases h
  | cons y r =>
   rw [map_cons,map_cons,List.cons.injEq] at h
   rw [zi7 h.1,ih h.2]
theorem zdI:zO ["board","finding","step","told"] ["board","finding","step"] (zk QW):=⟨rfl,rfl,rfl,by decide +kernel,rfl,by decide +kernel,by decide +kernel⟩
theorem zh7 (T:Txt mg)(O_NoLaying:Z0 K mg "NoLaying" C_NoLaying)(FN:PySem.W.mroIn K C_NoLaying (.ref C_NoLaying)=some true)(Z:Prog K mg)(D:zC K mg "holds" QW ["board","finding","step"] f fd):zQ P w K mg base CX0 5 f fd ["board","finding","step"] zfC:=by
 obtain⟨Qn,Yk,jB⟩:=Z.follows
 obtain⟨zcx,za8,xq⟩:=Z.are_things
 obtain⟨zdJ,zcy,jw⟩:=Z.are_cells
 obtain⟨zh8,zgG,xW⟩:=Z.picked
 have Qo:zQ P w K mg base (CXE P w) 4 Qn Yk ["board","things","finding"] (Yi C_NoLaying):=zaE T O_NoLaying Z jB
 have zcz:zQ P w K mg base CX0 3 zcx za8 ["board","things"] zh6:=za6 T Z xq
 have QA:zQ P w K mg base CX0 2 zdJ zcy ["cells"] zh5:=zcu T Z jw
 have zdK:zQ P w K mg base CX0 1 zh8 zgG ["cells","some"] zdF:=zgF T xW
 refine D.F.ok zdI (fun vs H Q E h=>?_) (fun cdv A outer s H vs Q E hr h=>?_)
 ·obtain⟨p,l,fa,fc,fs,sa,th,ca,da,rs,n,ths,ts,us,ws,u1,u2,cl,st,c1,c2,rfl,_⟩:=h
  rfl
 ·obtain⟨p,l,fa,fc,fs,sa,th,ca,da,rs,n,ths,ts,us,ws,u1,u2,cl,st,c1,c2,rfl,b,R,l20,F,Fi,S,q⟩:=h
  refine⟨_,(zf (qo (PW.pt (ZZ (Q3 (jo (zB zcz (hr.mono (by decide)) (by rfl) xq.g xq.F.kp xq.b .nil zV (za (pv 0) (za (zw zI (pv 2) ze (fun _ _=>rfl)) zc))) (fun _=>rfl))) (ZZ (Q3 (jo (zB QA (hr.mono (by decide)) (by rfl) jw.g jw.F.kp jw.b .nil zV (za (zw zI (pv 2) ze (fun _ _=>rfl)) zc)) (fun _=>rfl))) (Z8 (Q3 (jo (zB QA (hr.mono (by decide)) (by rfl) jw.g jw.F.kp jw.b .nil zV (za (zw zI (pv 2) ze (fun _ _=>rfl)) zc)) (fun _=>rfl))))))) (zg (zG Zn)) zM)
   (zf (ziX (i:=3) rfl rfl Qo (hr.mono (by decide)) (by rfl) jB.g jB.F.kp jB.b zdI.nd rfl (Or.inl rfl) (Or.inr rfl) (by rfl) O_NoLaying (za (pv 0) (za (zw zI (pv 2) ze (fun _ _=>rfl)) (za (pv 1) zc))) (fun _=>(zg (zG Zn))))
   (zg (zG (JZ (qN (qp hr.units) (zv j9 (zw zI (pv 2) ze (fun _ _=>rfl)) (zw zI (pv 2) ze (fun _ _=>rfl))) (zU zc) (zD _)) (JZ (zB zdK (hr.mono (by decide)) (by rfl) xW.g xW.F.kp xW.b .nil zV (za (zw zI (pv 3) ze (fun _ _=>rfl)) (za (zw zI (pv 2) ze (fun _ _=>rfl)) zc))) (Zr (zB zdK (hr.mono (by decide)) (by rfl) xW.g xW.F.kp xW.b .nil zV (za (zw zI (pv 3) ze (fun _ _=>rfl)) (za (zw zI (pv 2) ze (fun _ _=>rfl)) zc)))))))))),?_⟩
  refine⟨_,rfl,_,rfl,sa,_,0,_,rfl,rfl,SqT.of S.tp,rfl,p,l,th,rs,n,ths,ts,rfl,b,R,S.h,S.t,S.ok,S.few,fun H1 s1=>⟨_,rfl,?_⟩⟩
  by_cases hk:okT rs ts=true
  ·rw [hk]
   refine xD ?_
   have S1:=S.mono s1
   refine⟨_,rfl,sa,_,1,_,rfl,rfl,SqT.of S1.tp,rfl,ca,_,c1,rfl,S1.h1,S1.e1,le_trans S1.l1 (by decide),fun H2 s2=>⟨true,rfl,xD ?_⟩⟩
   have S2:=S1.mono s2
   refine⟨_,rfl,sa,_,2,_,rfl,rfl,SqT.of S2.tp,rfl,da,_,c2,rfl,S2.h2,S2.e2,le_trans S2.l2 (by decide),fun H3 s3=>⟨true,rfl,xD ?_⟩⟩
   have S3:=S2.mono s3
   have s13:=s1.trans (s2.trans s3)
   have hgood:ts.all (jh rs)=true:=by
    unfold okT at hk
    rw [and_eq_true,and_eq_true] at hk
    exact hk.2.2
   have h12:ts.length=1\/ts.length=2:=by
    unfold okT at hk
    rw [and_eq_true,Bool.or_eq_true,decide_eq_true_eq,decide_eq_true_eq] at hk
    exact hk.1
   obtain⟨tgs,ets,hT,hO⟩:=zjA S3.t hgood
   have F3:=F.mono s13
   have q':∀b,b=zdH (fol rs n cl st tgs) c1 c2->∀H',zy H3 H'->Q (.bl b) H':=fun b e H' s'=>q b ⟨(fun z=>absurd (hk.symm.trans z) (by decide)),(fun _ tgs' e'=>by
    have:tgs=tgs':=zaH (ets.symm.trans e')
    rw [<- this]
    exact e)⟩ H' (s13.trans s')
   refine⟨_,rfl,_,rfl,sa,_,0,_,rfl,rfl,SqT.of S3.tp,rfl,_,rfl,p,l,th,fa,fc,fs,rs,n,ths,tgs,us,ws,cl,st,rfl,⟨b.mono s13,R,S3.h,hT,?_,hO,l20,F3,Fi⟩,fun d1 d2 ef t a1 a2 w1 w2 H4 F4 s4=>?_,fun ef H4 s4=>?_⟩
   ·rw [ets,length_map] at h12
    exact h12
   ·have S4:=S3.mono s4
    have e1:=JM ef
    have ld:∀{d:List (Nat×Nat)},d.Pairwise Cells.lex->(∀c∈d,c∈qC rs/\c ∉ cl/\c ∉ st)->d.length<=1000:=fun {d} hp hm=>by
     have:=(jN hp).length_le_of_subset (fun c hc=>(hm c hc).1:d ⊆ qC rs)
     omega
    rw [ef] at q'
    refine⟨_,rfl,sa,_,1,_,rfl,rfl,SqT.of S4.tp,rfl,_,rfl,sa,_,2,_,rfl,rfl,SqT.of S4.tp,rfl,ca,da,_,_,rfl,rfl,S4.h1,S4.h2,?_,fun x hx=>?_⟩
    ·rw [S4.e1.length,S4.e2.length]
     have:=S4.l1
     have:=S4.l2
     exact le_trans (show _<=200 by omega) (by decide)
    have z5:=zd (o:=.lst (u1++u2)) hx
    refine⟨(by show 0<=sizeLine;decide),fun y hy=>?_⟩
    have z6:=zd (o:=.lst []) hy
    have z56:=z5.trans z6
    have S6:=S4.mono z56
    have F6:=F4.mono z56
    have q6:∀b,b=zdH (some (d1,d2)) c1 c2->∀H',zy (upd (upd H4 x (.lst (u1++u2))) y (.lst [])) H'->Q (.bl b) H':=fun b e H' s'=>q' b e H' (s4.trans (z56.trans s'))
    have hx6:upd (upd H4 x (.lst (u1++u2))) y (.lst []) x=some (.lst (u1++u2)):=z6 _ _ zb
    have hy6:upd (upd H4 x (.lst (u1++u2))) y (.lst []) y=some (.lst []):=zb
    clear z5 z6 z56
    generalize upd (upd H4 x (.lst (u1++u2))) y (.lst [])=H6 at *
    refine⟨.list ((c1++c2).map zh),.list (([]:List (Nat×Nat)).map zh),.lst (SqL.of hx6) (j6 (S6.e1.append S6.e2)),.lst (SqL.of hy6) .nil,xT _ _,_,rfl,?_⟩
    show if (!PyData.eqv (.list ((c1++c2).map zh)) (.list (([]:List (Nat×Nat)).map zh)))=true then _ else _
    rw [ZJ]
    by_cases hne:c1++c2=[]
    ·refine qH (by rw [decide_eq_true hne];rfl) (q6 false ?_ _ (zy.refl _))
     show false=(decide (c1++c2 ≠ [])&&_)
     rw [decide_eq_false (fun z=>z hne)]
     rfl
    ·have q7:∀b,b=(decide (c1=d1.filter fun c=>decide (c∈c1))&&decide (c2=d2.filter fun c=>decide (c∈c2)))->∀H',zy H6 H'->Q (.bl b) H':=fun b e H' s'=>q6 b (by
      show b=(decide (c1++c2 ≠ [])&&_)
      rw [decide_eq_true hne]
      exact e) H' s'
     refine qP (by rw [decide_eq_false hne];rfl) ⟨_,rfl,t,_,0,_,rfl,rfl,SqT.of F6.tp,rfl,_,rfl,sa,_,1,_,rfl,rfl,SqT.of S6.tp,rfl,a1,ca,w1,u1,d1,c1,rfl,F6.h1,S6.h1,F6.c1,S6.e1,ld e1.1.1 e1.1.2,fun H7 s7=>⟨_,rfl,?_⟩⟩
     have S7:=S6.mono s7
     have F7:=F6.mono s7
     by_cases h1:c1=d1.filter fun c=>decide (c∈c1)
     ·refine qP (decide_eq_true h1) ⟨_,rfl,t,_,1,_,rfl,rfl,SqT.of F7.tp,rfl,_,rfl,sa,_,2,_,rfl,rfl,SqT.of S7.tp,rfl,a2,da,w2,u2,d2,c2,rfl,F7.h2,S7.h2,F7.c2,S7.e2,ld e1.2.1 e1.2.2,fun H8 s8=>q7 _ ?_ _ (s7.trans s8)⟩
      rw [decide_eq_true h1,Bool.true_and]
     ·refine qH (decide_eq_false h1) (q7 _ ?_ _ s7)
      rw [decide_eq_false h1,Bool.false_and]
   ·exact⟨C_NoLaying,rfl,FN,fun e0 he0=>q' false (by rw [ef];rfl) _ (s4.trans (zd he0))⟩
  ·rw [Bool.eq_false_iff.mpr hk]
   exact ZY (q false ⟨fun _=>rfl,fun z=>absurd z hk⟩ _ s1)
end
def zjB (H:Hp)(v:V)(t:List Nat):Prop:=v=V.str ⟨t.toArray⟩\/∃a,v=V.ref a/\H a=some (.lst (t.map fun c=>V.str ⟨#[c]⟩))
def yQ (H:Hp):List V->List (List Nat)->Prop:=Paired (zjB H)
theorem yQ.get {H:Hp}:∀{vs:List V} {gs:List (List Nat)} {i:Nat} {t:List Nat},yQ H vs gs->gs[i]?=some t->∃v,vs[i]?=some v/\zjB H v t
 | _,_,_,_,.nil,e=>by simp at e
 | _,_,0,_,.cons r _,e=>by
  simp at e
  subst e
  exact⟨_,rfl,r⟩
 | _,_,i+1,t,.cons _ q,e=>by
  obtain⟨c,h1,h2⟩:=yQ.get (i:=i) (t:=t) q (by simpa using e)
  exact⟨c,by simpa using h1,h2⟩
theorem yQ.rows (H:Hp):∀rs:List Str,yQ H (rs.map V.str) (codes rs)
 | []=>.nil
 | t::r=>.cons (.inl (by
   obtain⟨⟨x⟩⟩:=t
   rfl)) (yQ.rows H r)
def pZ (zs:List Nat)(k:Nat):Bool:=decide (k∈zs)
theorem zbN (k c:Nat):eqV (V.str ⟨#[c]⟩) (V.str ⟨#[k]⟩)=decide (c=k):=by
 have e0:eqV (V.str ⟨#[c]⟩) (V.str ⟨#[k]⟩)=((⟨#[c]⟩:Str)==(⟨#[k]⟩:Str)):=rfl
 rw [e0,Bool.eq_iff_iff,beq_iff_eq,decide_eq_true_eq]
 constructor
 ·intro h
  have h3:(#[c]:Array Nat)=#[k]:=congrArg Str.cps h
  simpa using h3
 ·rintro rfl
  rfl
theorem zdL (k:Nat)(zs:List Nat):inV (V.str ⟨#[k]⟩) (zs.map fun c=>V.str ⟨#[c]⟩)=pZ zs k:=by
 unfold inV pZ
 rw [any_map,Bool.eq_iff_iff,List.any_eq_true,decide_eq_true_eq]
 constructor
 ·rintro⟨c,hc,h⟩
  have e:c=k:=of_decide_eq_true ((zbN k c).symm.trans h)
  rw [<- e]
  exact hc
 ·intro h
  exact⟨k,h,(zbN k k).trans (decide_eq_true rfl)⟩
theorem zaI (zs:List Nat):(zs.map fun c=>V.str ⟨#[c]⟩).all Yy=true:=by
 rw [all_eq_true]
 intro v hv
 obtain⟨c,_,rfl⟩:=List.mem_map.mp hv
 rfl
def zh9 (H H':Hp)(d:Addr):Prop:=∀b o,b≠d->H b=some o->H' b=some o
def JP:Sp:=fun vs H Q _=>∃(l sg:Addr) (us:List V) (gs:List (List Nat)) (zs:List Nat),vs=[.ref l,.ref sg]/\H l=some (.lst us)/\yQ H us gs/\gs.length<=8/\(∀t∈gs,t.length<=8)/\H sg=some (.lst (zs.map fun c=>V.str ⟨#[c]⟩)) /\
 ∀(d:Addr) (ws:List V) (H':Hp),H d=none->H' d=some (.lst ws)->Cel H' ws (Cells.zE (pZ zs) 0 gs)->zy H H'->Q (.ref d) H'
section
variable {P:Program}{w:World}{K:PySem.W.Frag}{mg:Str->Option Value}{base:Heap}{f:Addr}{fd:FuncData}
theorem xr:zO ["_law_rows","_law_signs","_law_found","_law_row","_law_column"] ["_law_rows","_law_signs"] (zk qQ):=⟨rfl,rfl,rfl,by decide +kernel,rfl,by decide +kernel,by decide +kernel⟩
theorem jX (T:Txt mg)(D:zC K mg "_law_cells" qQ ["_law_rows","_law_signs"] f fd):zQ P w K mg base CX0 1 f fd ["_law_rows","_law_signs"] JP:=by
 refine D.F.ok xr (fun vs H Q E h=>?_) (fun cdv A outer s H vs Q E hr h=>?_)
 ·obtain⟨l,sg,us,gs,zs,rfl,_⟩:=h
  rfl
 ·obtain⟨l,sg,us,gs,zs,rfl,hl,hG,g8,t8,hsg,q⟩:=h
  have ul:us.length=gs.length:=Paired.length hG
  refine⟨_,(zf (zH (i:=2) xr.nd rfl (Or.inl rfl) (zU zc))
   (zf (yL PassesOwn.never rfl (xw (by rfl) T.xj (za (zm zx (by rfl) T.qR PySem.boot_len (za (pv 0) zc)) zc)) (zF (i:=3) xr.nd rfl (Or.inl rfl)) (zg (yL PassesOwn.never rfl (xw (by rfl) T.xj (za (zm zc7 (by rfl) T.qR PySem.boot_len (za (zw zT (pv 0) (pv 3) (fun _ _=>rfl)) zc)) zc)) (zF (i:=4) xr.nd rfl (Or.inl rfl)) (zg (qo (zq zfX (zw zk4 (zw zT (pv 0) (pv 3) (fun _ _=>rfl)) (pv 4) (fun _ _=>rfl)) (pv 1) (by rfl)) (zg (jF (Zo PySem.F.plainAttrs_list PySem.F.slot_list_append PySem.F.type_list_append jj (pv 2) (za (zW (za (pv 3) (za (pv 4) zc))) zc)))) zM)))))
   (zg (zG (pv 2))))),?_⟩
  refine⟨(by show 0<=sizeLine;decide),fun d hd=>?_⟩
  have s0:zy H (upd H d (.lst [])):=zd hd
  refine⟨_,rfl,l,_,rfl,.inl (SqL.of (s0 _ _ hl)),_,rfl,by omega,by omega,?_⟩
  rw [toNat_natCast,ul]
  refine ji (lo:=0) (n:=gs.length) (fun i σ H'=>∃(v3 v4:Option V) (ws:List V),σ=[some (.ref l),some (.ref sg),some (.ref d),v3,v4]/\zy H H'/\H' d=some (.lst ws)/\Cel H' ws (Cells.zE (pZ zs) 0 (gs.take i))) ⟨_,_,[],rfl,s0,zb,.nil⟩ ?_ ?_
  ·rintro i σ H1 hi ⟨v3,v4,ws,rfl,s1,hd1,hc1⟩
   obtain⟨t,ht⟩:∃t,gs[i]?=some t:=⟨_,getElem?_eq_getElem hi⟩
   have tl:=t8 t (mem_of_getElem? ht)
   obtain⟨v,hv,hrow⟩:=yQ.get hG ht
   have hat:atI us (0+(i:Int))=some v:=by
    rw [Int.zero_add]
    exact ja hv
   refine⟨_,rfl,_,rfl,l,_,_,v,rfl,rfl,SqL.of (s1 _ _ hl),hat,?_⟩
   rcases hrow with rfl | ⟨ra,rfl,hra0⟩
   ·have zl:(⟨t.toArray⟩:Str).length=t.length:=by show t.toArray.size=_;rw [size_toArray]
    refine .inr ⟨⟨t.toArray⟩,rfl,by rw [zl];exact le_trans tl (by decide),_,rfl,by rw [zl];omega,by rw [zl];omega,?_⟩
    rw [toNat_natCast,zl]
    refine ji (lo:=0) (n:=t.length) (fun j σ H'=>∃(v4:Option V) (ws:List V),σ=[some (.ref l),some (.ref sg),some (.ref d),some (.int (0+(i:Int))),v4]/\zy H H'/\zh9 H1 H' d/\H' d=some (.lst ws)/\Cel H' ws (Cells.zE (pZ zs) 0 (gs.take i)++Cells.zP (pZ zs) i 0 (t.take j))) ⟨_,ws,rfl,s1,fun b o _ e=>e,hd1,by rw [List.take_zero];rw [show Cells.zP (pZ zs) i 0 []=[] from rfl,append_nil];exact hc1⟩ ?_ ?_
    ·rintro j σ H2 hj ⟨v4,ws2,rfl,s2,s12,hd2,hc2⟩
     obtain⟨k,hk⟩:∃k,t[j]?=some k:=⟨_,getElem?_eq_getElem hj⟩
     have st:=Cells.J7 (p:=pZ zs) (i:=i) hk
     refine⟨_,rfl,_,rfl,l,_,_,_,rfl,rfl,SqL.of (s2 _ _ hl),hat,_,rfl,.inr ⟨⟨t.toArray⟩,_,k,rfl,rfl,by rw [zl];exact le_trans tl (by decide),(by rw [Int.zero_add];exact ja hk),_,rfl,sg,_,rfl,.inl (SqL.of (s2 _ _ hsg)),rfl,zaI zs,_,rfl,?_⟩⟩
     have ein:(if false=true then !inV (V.str ⟨#[k]⟩) (zs.map fun c=>V.str ⟨#[c]⟩) else inV (V.str ⟨#[k]⟩) (zs.map fun c=>V.str ⟨#[c]⟩))=pZ zs k:=zdL k zs
     rw [ein]
     have hlen:ws2.length<=200:=by
      rw [hc2.length,length_append]
      have a1:=Cells.jb (pZ zs) i 0 (t.take j)
      have a2:=Cells.qu (pZ zs) 0 (gs.take i) fun u hu=>t8 u (mem_of_mem_take hu)
      rw [length_take] at a1 a2
      omega
     by_cases hp:pZ zs k=true
     ·rw [if_pos hp] at st
      refine qP hp ⟨_,rfl,.inl ⟨rfl,_,SqL.of hd2⟩,_,rfl,_,rfl,(by show 2<=sizeLine;decide),fun tq htq=>?_⟩
      have s3:=zd (o:=.tup [.int (0+(i:Int)),.int (0+(j:Int))]) htq
      refine⟨d,_,_,rfl,rfl,s3 _ _ hd2,lt_of_le_of_lt hlen (by decide),_,ws2++[.ref tq],rfl,fun b o e=>?_,fun b o nb e=>?_,zb,?_⟩
      ·rw [zo (zj e hd)]
       exact s3 _ _ (s2 _ _ e)
      ·rw [zo nb]
       exact s3 _ _ (s12 b o nb e)
      ·rw [st,<- append_assoc]
       refine Cel.into d _ (s3 _ _ hd2) (Cel.snoc (Cel.mono s3 hc2) ⟨tq,rfl,?_⟩)
       rw [zb,Int.zero_add,Int.zero_add]
     ·rw [if_neg hp,append_nil] at st
      refine qH (Bool.eq_false_iff.mpr hp) ⟨_,ws2,rfl,s2,s12,hd2,?_⟩
      rw [st]
      exact hc2
    ·rintro σ H2 ⟨v4,ws2,rfl,s2,_,hd2,hc2⟩
     refine⟨_,_,ws2,rfl,s2,hd2,?_⟩
     rw [Cells.J8 ht]
     rw [take_length] at hc2
     exact hc2
   ·have hra:=s1 _ _ hra0
    have nra:ra≠d:=zj hra0 hd
    have zl:(t.map fun c=>V.str ⟨#[c]⟩).length=t.length:=length_map _
    refine .inl ⟨ra,_,rfl,.inl (SqL.of hra),_,rfl,by rw [zl];omega,by rw [zl];omega,?_⟩
    rw [toNat_natCast,zl]
    refine ji (lo:=0) (n:=t.length) (fun j σ H'=>∃(v4:Option V) (ws:List V),σ=[some (.ref l),some (.ref sg),some (.ref d),some (.int (0+(i:Int))),v4]/\zy H H'/\zh9 H1 H' d/\H' d=some (.lst ws)/\Cel H' ws (Cells.zE (pZ zs) 0 (gs.take i)++Cells.zP (pZ zs) i 0 (t.take j))) ⟨_,ws,rfl,s1,fun b o _ e=>e,hd1,by rw [List.take_zero];rw [show Cells.zP (pZ zs) i 0 []=[] from rfl,append_nil];exact hc1⟩ ?_ ?_
    ·rintro j σ H2 hj ⟨v4,ws2,rfl,s2,s12,hd2,hc2⟩
     obtain⟨k,hk⟩:∃k,t[j]?=some k:=⟨_,getElem?_eq_getElem hj⟩
     have st:=Cells.J7 (p:=pZ zs) (i:=i) hk
     refine⟨_,rfl,_,rfl,l,_,_,_,rfl,rfl,SqL.of (s2 _ _ hl),hat,_,rfl,.inl ⟨ra,_,_,V.str ⟨#[k]⟩,rfl,rfl,SqL.of (s12 _ _ nra hra),(by rw [Int.zero_add];exact ja (by rw [getElem?_map,hk];rfl)),_,rfl,sg,_,rfl,.inl (SqL.of (s2 _ _ hsg)),rfl,zaI zs,_,rfl,?_⟩⟩
     have ein:(if false=true then !inV (V.str ⟨#[k]⟩) (zs.map fun c=>V.str ⟨#[c]⟩) else inV (V.str ⟨#[k]⟩) (zs.map fun c=>V.str ⟨#[c]⟩))=pZ zs k:=zdL k zs
     rw [ein]
     have hlen:ws2.length<=200:=by
      rw [hc2.length,length_append]
      have a1:=Cells.jb (pZ zs) i 0 (t.take j)
      have a2:=Cells.qu (pZ zs) 0 (gs.take i) fun u hu=>t8 u (mem_of_mem_take hu)
      rw [length_take] at a1 a2
      omega
     by_cases hp:pZ zs k=true
     ·rw [if_pos hp] at st
      refine qP hp ⟨_,rfl,.inl ⟨rfl,_,SqL.of hd2⟩,_,rfl,_,rfl,(by show 2<=sizeLine;decide),fun tq htq=>?_⟩
      have s3:=zd (o:=.tup [.int (0+(i:Int)),.int (0+(j:Int))]) htq
      refine⟨d,_,_,rfl,rfl,s3 _ _ hd2,lt_of_le_of_lt hlen (by decide),_,ws2++[.ref tq],rfl,fun b o e=>?_,fun b o nb e=>?_,zb,?_⟩
      ·rw [zo (zj e hd)]
       exact s3 _ _ (s2 _ _ e)
      ·rw [zo nb]
       exact s3 _ _ (s12 b o nb e)
      ·rw [st,<- append_assoc]
       refine Cel.into d _ (s3 _ _ hd2) (Cel.snoc (Cel.mono s3 hc2) ⟨tq,rfl,?_⟩)
       rw [zb,Int.zero_add,Int.zero_add]
     ·rw [if_neg hp,append_nil] at st
      refine qH (Bool.eq_false_iff.mpr hp) ⟨_,ws2,rfl,s2,s12,hd2,?_⟩
      rw [st]
      exact hc2
    ·rintro σ H2 ⟨v4,ws2,rfl,s2,_,hd2,hc2⟩
     refine⟨_,_,ws2,rfl,s2,hd2,?_⟩
     rw [Cells.J8 ht]
     rw [take_length] at hc2
     exact hc2
  ·rintro σ H1 ⟨v3,v4,ws,rfl,s1,hd1,hc1⟩
   rw [take_length] at hc1
   exact⟨_,rfl,q d ws H1 hd hd1 hc1 s1⟩
end
def zcA:Sp:=fun vs H Q _=>∃(a b:Addr) (c d:Nat×Nat),vs=[.ref a,.ref b]/\H a=some (.tup [.int (c.1:Nat),.int (c.2:Nat)])/\H b=some (.tup [.int (d.1:Nat),.int (d.2:Nat)])/\Q (.bl (Cells.near c d)) H
theorem zlh (i j:Nat):decide ((if ((i:Nat):Int)-((j:Nat):Int)<0 then -(((i:Nat):Int)-((j:Nat):Int)) else ((i:Nat):Int)-((j:Nat):Int))<2)=decide (i<=j+1/\j<=i+1):=by
 rw [decide_eq_decide]
 split<;>omega
def zdM:Sp:=fun vs H Q _=>∃(p l:Addr) (rs:List Str) (n:Int) (v:V) (th:Option (Nat×Nat)),vs=[.ref p,v]/\qz H p l rs n/\Rows bd.cps.toList rs/\Zg H v th /\
 ∀(d:Addr) (us:List V) (H':Hp),H d=none->H' d=some (.lst us)->Cel H' us (zew rs th)->zy H H'->Q (.ref d) H'
theorem zgH {rs:List Str}{c:Nat×Nat}:clA rs c=(qC rs).filter fun x=>Cells.near x c:=by
 unfold clA Zf qC
 have e:(Cells.zE qe 0 (codes rs)).filter (fun x=>decide (Cells.sgn (codes rs) x=63))=Cells.zE JI 0 (codes rs):=by
  rw [Cells.all_filter (p:=qe) (q:=fun k=>decide (k=63)) (codes rs)]
  exact Cells.Jh (fun k=>zcm k) 0 _
 rw [<- e,List.filter_filter,List.filter_filter]
 congr 1
 funext x
 exact Bool.and_comm _ _
section
variable {P:Program}{w:World}{K:PySem.W.Frag}{mg:Str->Option Value}{base:Heap}{f:Addr}{fd:FuncData}
theorem zdN:zO ["_law_one","_law_other"] ["_law_one","_law_other"] (zk ye):=⟨rfl,rfl,rfl,by decide +kernel,rfl,by decide +kernel,by decide +kernel⟩
theorem QB (T:Txt mg)(D:zC K mg "_law_near" ye ["_law_one","_law_other"] f fd):zQ P w K mg base CX0 1 f fd ["_law_one","_law_other"] zcA:=by
 refine D.F.ok zdN (fun vs H Q E h=>?_) (fun cdv A outer s H vs Q E hr h=>?_)
 ·obtain⟨a,b,c,d,rfl,_⟩:=h
  rfl
 ·obtain⟨a,b,c,d,rfl,ha,hb,q⟩:=h
  refine⟨_,(zg (zG (JZ (qN (qp hr.units) (pv 0) (pv 1) (zD _)) (JZ (qN Q6 (zm zcP (by rfl) T.zjt PyProof.Rows.boot_abs (za (zv yM (zw zI (pv 0) ze (fun _ _=>rfl)) (zw zI (pv 1) ze (fun _ _=>rfl))) zc)) ze (zD _)) (Zr (qN Q6 (zm zcP (by rfl) T.zjt PyProof.Rows.boot_abs (za (zv yM (zw zI (pv 0) ze (fun _ _=>rfl)) (zw zI (pv 1) ze (fun _ _=>rfl))) zc)) ze (zD _))))))),?_⟩
  have nf:∀x:Bool,(x=true↔Cells.near c d=true)->Cells.near c d=x:=fun x h=>Bool.eq_iff_iff.mpr h.symm
  have ni:=Cells.xO (x:=c) (y:=d)
  refine⟨_,rfl,_,rfl,zh c,zh d,j5.rdv ⟨a,rfl,ha⟩,j5.rdv ⟨b,rfl,hb⟩,zbG c d,?_⟩
  have e1:(if true=true then !PyData.eqv (zh c) (zh d) else PyData.eqv (zh c) (zh d))=!decide (c=d):=by
   show (!PyData.eqv _ _)=_
   rw [ZV]
  rw [e1]
  refine⟨_,rfl,?_⟩
  by_cases hcd:c=d
  ·rw [decide_eq_true hcd]
   refine xD ?_
   have:Cells.near c d=false:=by
    rw [Bool.eq_false_iff,ne_eq,ni]
    exact fun h=>h.2.2 hcd
   rw [this] at q
   exact q
  ·rw [decide_eq_false hcd]
   refine ZY ?_
   refine⟨_,rfl,a,_,0,_,rfl,rfl,SqT.of ha,rfl,_,rfl,b,_,0,_,rfl,rfl,SqT.of hb,rfl,_,_,rfl,rfl,_,rfl,_,_,rfl,rfl,?_⟩
   refine⟨decide (c.1<=d.1+1/\d.1<=c.1+1),congrArg V.bl (zlh c.1 d.1),?_⟩
   by_cases h1:c.1<=d.1+1/\d.1<=c.1+1
   ·rw [decide_eq_true h1]
    refine ZY ⟨_,rfl,a,_,1,_,rfl,rfl,SqT.of ha,rfl,_,rfl,b,_,1,_,rfl,rfl,SqT.of hb,rfl,_,_,rfl,rfl,_,rfl,_,_,rfl,rfl,?_⟩
    have:Cells.near c d=decide (c.2<=d.2+1/\d.2<=c.2+1):=by
     rw [Bool.eq_iff_iff,ni,decide_eq_true_eq]
     exact⟨fun h=>h.2.1,fun h=>⟨h1,h,hcd⟩⟩
    show Q (V.bl (decide ((if ((c.2:Nat):Int)-((d.2:Nat):Int)<0 then -(((c.2:Nat):Int)-((d.2:Nat):Int)) else ((c.2:Nat):Int)-((d.2:Nat):Int))<2))) H
    rw [zlh,<- this]
    exact q
   ·rw [decide_eq_false h1]
    refine xD ?_
    have:Cells.near c d=false:=by
     rw [Bool.eq_false_iff,ne_eq,ni]
     exact fun h=>h1 h.1
    rw [this] at q
    exact q
theorem Z5:zO ["_law_board_here","_law_thing","_law_cells_here"] ["_law_board_here","_law_thing"] (zk jW):=⟨rfl,rfl,rfl,by decide +kernel,rfl,by decide +kernel,by decide +kernel⟩
theorem za9 {f1 f2:Addr}{fd1 fd2:FuncData}(T:Txt mg)(D:zC K mg "_law_looked" jW ["_law_board_here","_law_thing"] f fd)(zu:zC K mg "_law_cells" qQ ["_law_rows","_law_signs"] f1 fd1)(qq:zC K mg "_law_near" ye ["_law_one","_law_other"] f2 fd2):zQ P w K mg base CX0 2 f fd ["_law_board_here","_law_thing"] zdM:=by
 have qS:zQ P w K mg base CX0 1 f1 fd1 ["_law_rows","_law_signs"] JP:=jX T zu
 have Yl:zQ P w K mg base CX0 1 f2 fd2 ["_law_one","_law_other"] zcA:=QB T qq
 refine D.F.ok Z5 (fun vs H Q E h=>?_) (fun cdv A outer s H vs Q E hr h=>?_)
 ·obtain⟨p,l,rs,n,v,th,rfl,_⟩:=h
  rfl
 ·obtain⟨p,l,rs,n,v,th,rfl,b,R,hth,q⟩:=h
  refine⟨_,(zf (zH (i:=2) Z5.nd rfl (Or.inl rfl) (zB qS (hr.mono (by decide)) (by rfl) zu.g zu.F.kp zu.b .nil zV (za (zw zI (pv 0) ze (fun _ _=>rfl)) (za (zU (za qx zc)) zc))))
   (zf (qo (zq (jr hr.units) (pv 1) qx (zD _)) (zg (zG (pv 2))) zM)
   (zg (zG (qw (N:=["_law_cell","_law_thing"]) (src:=[none,some 1]) (ql.free (O:=(zk jW).names) (XN:=["_law_board_here","_law_thing","_law_cells_here"]) rfl rfl ⟨_,rfl⟩ rfl rfl (by decide +kernel) (by decide +kernel) (by decide +kernel) rfl (by decide +kernel)) rfl (qt (pv 2)) (fun _ _ _ _ _=>(zF (i:=0) (by show List.Nodup (["_law_cell","_law_thing"]:List Str);decide +kernel) rfl (Or.inl rfl))) (fun _ _ _ _ _=>(qE (zbp (K:=K) (by rfl) (zB Yl (hr.mono (by decide)) (by rfl) qq.g qq.F.kp qq.b .nil zV (za (pv 0) (za (pv 1) zc))) (fun _=>rfl)))) (fun _ _ _ _ _=>(pv 0))))))),?_⟩
  refine⟨_,rfl,p,_,0,_,rfl,rfl,SqT.of b.tp,rfl,(by show 1<=sizeLine;decide),fun sg hsg=>?_⟩
  have z1:=zd (o:=.lst [V.str "?"]) hsg
  have b1:=b.mono z1
  refine⟨l,sg,_,codes rs,[63],rfl,b1.rw,yQ.rows _ rs,by rw [qD];exact R.hi,R.short,?_,fun d ws H2 hd hd2 hc2 s2=>?_⟩
  ·rw [zb,zcl]
   rfl
  have ec:Cells.zE (pZ [63]) 0 (codes rs)=qC rs:=Cells.Jh (fun c=>by
   show decide (c ∈ [63])=decide (c=63)
   simp) 0 _
  rw [ec] at hc2
  have s12:=z1.trans s2
  cases th with
  | none =>
   have ev:v=V.str "all":=hth
   subst ev
   refine⟨_,rfl,.str "all",.str "all",.str _,.str _,⟨by decide +kernel,by decide +kernel,by decide +kernel⟩,_,rfl,qP (by decide +kernel) ⟨_,rfl,q d ws H2 (z1.free hd) hd2 hc2 s12⟩⟩
  | some c =>
   obtain⟨ca,rfl,hca⟩:=hth
   have hca2:=s12 _ _ hca
   refine⟨_,rfl,zh c,.str "all",j5.rdv ⟨ca,rfl,hca2⟩,.str _,⟨rfl,by decide +kernel,by show max 0 (max 0 0)+1<=64;decide⟩,_,rfl,qH rfl ?_⟩
   refine⟨_,rfl,d,rfl,⟨_,SqL.of hd2⟩,fun z hz=>?_⟩
   refine qJ (K:=K) (a:=d) (xs:=ws) (fun a=>a≠z) ((qC rs).map fun x=>if Cells.near x c=true then some (zh x) else none) (fun σ=>∃u0,σ=[u0,some (.ref ca)]) hz (fun _ h=>h) ⟨_,rfl⟩ (by rw [length_map];exact hc2.length.symm) (by rw [hc2.length];exact le_trans (Qi R) (by decide)) (SqL.of hd2) ?_ ?_
   ·rintro k x o σ H3 hx ho s3 _ ⟨u0,rfl⟩ Y Z yes no
    obtain⟨y,hy,ya,rfl,hya⟩:=Cel.get (Cel.mono s3 hc2) hx
    have eo:=yP hy ho
    refine⟨_,rfl,_,rfl,ya,ca,y,c,rfl,hya,s3 _ _ hca2,_,rfl,?_⟩
    by_cases hp:Cells.near y c=true
    ·rw [if_pos hp] at eo
     exact qP hp ⟨_,rfl,yes _ _ _ _ eo ⟨_,rfl⟩ (zy.refl _) (j5.rdn ⟨ya,rfl,hya⟩)⟩
    ·rw [if_neg hp] at eo
     exact qH (Bool.eq_false_iff.mpr hp) (no _ _ eo ⟨_,rfl⟩ (zy.refl _))
   ·rintro ys H3 s3 hz3 hr3
    rw [qf,<- zgH] at hr3
    exact q z ys H3 (s12.free hz) hz3 (zJ.cel hr3) (s12.trans s3)
end
def YU:Sp:=fun vs H Q _=>∃(p l:Addr) (rs:List Str) (n:Int),vs=[.ref p]/\qz H p l rs n/\Rows bd.cps.toList rs /\
 ∀(d:Addr) (ws:List V) (H':Hp),H d=none->H' d=some (.lst (ws++[.str "all"]))->Cel H' ws (jg rs)->zy H H'->Q (.ref d) H'
theorem zfD:("012345678":Str).cps.toList=[48,49,50,51,52,53,54,55,56]:=by decide +kernel
theorem zfE:∀k∈bd.cps.toList,pZ [48,49,50,51,52,53,54,55,56] k=Qx k:=by decide +kernel
theorem zdO {p q:Nat->Bool}(i:Nat):∀(j:Nat) (t:List Nat),(∀k∈t,p k=q k)->Cells.zP p i j t=Cells.zP q i j t
 | _,[],_=>rfl
 | j,c::r,h=>by
  rw [Cells.zP,Cells.zP,h c mem_cons_self,zdO i (j+1) r fun k hk=>h k (mem_cons_of_mem _ hk)]
theorem zaJ {p q:Nat->Bool}:∀(i:Nat) (gs:List (List Nat)),(∀t∈gs,∀k∈t,p k=q k)->Cells.zE p i gs=Cells.zE q i gs
 | _,[],_=>rfl
 | i,t::r,h=>by
  rw [Cells.zE,Cells.zE,zdO i 0 t (h t mem_cons_self),zaJ (i+1) r fun u hu=>h u (mem_cons_of_mem _ hu)]
theorem Rows.signsIn {rs:List Str}(R:Rows bd.cps.toList rs):∀t∈codes rs,∀k∈t,k∈bd.cps.toList:=fun t ht k hk=>by
 obtain⟨u,hu,rfl⟩:=List.mem_map.mp ht
 obtain⟨n,_,_,q⟩:=R.ex
 exact(q u hu).mem k hk
section
variable {P:Program}{w:World}{K:PySem.W.Frag}{mg:Str->Option Value}{base:Heap}{f:Addr}{fd:FuncData}
theorem zba:zO ["_law_board_here"] ["_law_board_here"] (zk xh):=⟨rfl,rfl,rfl,by decide +kernel,rfl,by decide +kernel,by decide +kernel⟩
theorem Jt {f1:Addr}{fd1:FuncData}(T:Txt mg)(D:zC K mg "_law_things" xh ["_law_board_here"] f fd)(zu:zC K mg "_law_cells" qQ ["_law_rows","_law_signs"] f1 fd1):zQ P w K mg base CX0 2 f fd ["_law_board_here"] YU:=by
 have qS:zQ P w K mg base CX0 1 f1 fd1 ["_law_rows","_law_signs"] JP:=jX T zu
 refine D.F.ok zba (fun vs H Q E h=>?_) (fun cdv A outer s H vs Q E hr h=>?_)
 ·obtain⟨p,l,rs,n,rfl,_⟩:=h
  rfl
 ·obtain⟨p,l,rs,n,rfl,b,R,q⟩:=h
  refine⟨_,(zg (zG (zv j9 (zB qS (hr.mono (by decide)) (by rfl) zu.g zu.F.kp zu.b .nil zV (za (zw zI (pv 0) ze (fun _ _=>rfl)) (za (qc (Zx rfl) (by rfl) T.yO PyProof.Rows.boot_list (za qx zc)) zc))) (zU (za qx zc))))),?_⟩
  refine⟨_,rfl,p,_,0,_,rfl,rfl,SqT.of b.tp,rfl,"012345678",rfl,by decide,fun sg hsg=>?_⟩
  have z1:=zd (o:=.lst (("012345678":Str).cps.toList.map fun c=>V.str ⟨#[c]⟩)) hsg
  refine⟨l,sg,_,codes rs,[48,49,50,51,52,53,54,55,56],rfl,z1 _ _ b.rw,yQ.rows _ rs,by rw [qD];exact R.hi,R.short,by rw [zb,zfD],fun d ws H2 hd hd2 hc2 s2=>?_⟩
  have ec:Cells.zE (pZ [48,49,50,51,52,53,54,55,56]) 0 (codes rs)=jg rs:=zaJ 0 _ fun t ht k hk=>zfE k (R.signsIn t ht k hk)
  rw [ec] at hc2
  refine⟨(by show 1<=sizeLine;decide),fun e he=>?_⟩
  have z3:=zd (o:=.lst [V.str "all"]) he
  refine⟨d,e,ws,[.str "all"],rfl,rfl,z3 _ _ hd2,zb,?_,fun r hr4=>?_⟩
  ·rw [hc2.length]
   have:=Qi (p:=Qx) R
   exact le_trans (show _<=65 by show (jg rs).length+1<=65;unfold jg;omega) (by decide)
  ·have z4:=zd (o:=.lst (ws++[.str "all"])) hr4
   exact q r ws _ ((z1.trans (s2.trans z3)).free hr4) zb (hc2.mono (z3.trans z4)) (z1.trans (s2.trans (z3.trans z4)))
end
noncomputable def fData (c1 c2:List (Nat×Nat)):PyData:=.tuple [.list (c1.map zh),.list (c2.map zh)]
theorem zbO (c1 c2:List (Nat×Nat)):zf2 (fData c1 c2) (fData c1 c2):=by
 have h1:PyData.canLay0 (fData c1 c2)=true:=by
  show (PyData.canLay0 (.list (c1.map zh))&&(PyData.canLay0 (.list (c2.map zh))&&true))=true
  rw [show PyData.canLay0 (.list (c1.map zh))=true from Yh c1,show PyData.canLay0 (.list (c2.map zh))=true from Yh c2]
  rfl
 refine⟨h1,h1,?_⟩
 show max (PyData.depthAll (c1.map zh)+1) (max (PyData.depthAll (c2.map zh)+1) 0)+1<=64
 have a:=zax c1
 have b:=zax c2
 omega
theorem jH.rdv {K:PySem.W.Frag}{H:Hp}{fa fc fs:Addr}{us ws:List V}{cl st:List (Nat×Nat)}(x:jH H fa fc fs us ws cl st):Rdv K H (.ref fa) (fData cl st):=.tup (SqT.of x.tp) (.cons (.lst (SqL.of x.h1) (j6 x.c1)) (.cons (.lst (SqL.of x.h2) (j6 x.c2)) .nil))
def zcB:Sp:=fun vs H Q _=>∃(c k:Int),vs=[.int c,.int k]/\∀z:Int,Q (.int z) H
noncomputable def marks:List Nat:=[35,111,99,46]
def zia:Sp:=fun vs H Q _=>∃(x o m:Int) (r:Bool),vs=[.int x,.int o,.int m,.bl r]/\0<o/\∀k:Nat,k∈marks->(r=false->k≠111/\k≠99)->Q (.str ⟨#[k]⟩) H
theorem zkr:("o":Str)=⟨#[111]⟩:=by decide +kernel
theorem zli:("c":Str)=⟨#[99]⟩:=by decide +kernel
theorem zlY:(".":Str)=⟨#[46]⟩:=by decide +kernel
section
variable {P:Program}{w:World}{K:PySem.W.Frag}{mg:Str->Option Value}{base:Heap}{f:Addr}{fd:FuncData}
theorem Zk:zO ["_law_cell","_law_k","_law_drawn_here"] ["_law_cell","_law_k"] (zk jK):=⟨rfl,rfl,rfl,by decide +kernel,rfl,by decide +kernel,by decide +kernel⟩
theorem YV (D:zC K mg "_law_mixed" jK ["_law_cell","_law_k"] f fd):zQ P w K mg base CX0 1 f fd ["_law_cell","_law_k"] zcB:=by
 refine D.F.ok Zk (fun vs H Q E h=>?_) (fun cdv A outer s H vs Q E hr h=>?_)
 ·obtain⟨c,i,rfl,_⟩:=h
  rfl
 ·obtain⟨c,i,rfl,k⟩:=h
  refine⟨_,(zf (zH (i:=2) Zk.nd rfl (Or.inl rfl) (zv zY (zv jS (zv jS (zv zY (pv 0) ze) (zv QN ze (pv 1))) ze) ze))
   (zf (zH (i:=2) Zk.nd rfl (Or.inl rfl) (zv zY (zv QN (zv zY (zv QN (pv 2) (pv 2)) ze) ze) ze))
   (zg (zG (zv qk (pv 2) ze))))),?_⟩
  refine⟨_,rfl,_,_,rfl,rfl,(by show (0:Int)<2147483629;decide),_,rfl,_,_,rfl,rfl,mulL (by decide) (by decide),_,_,rfl,rfl,_,_,rfl,rfl,_,_,rfl,rfl,(by show (0:Int)<2147483647;decide),?_⟩
  have a0:=emod_nonneg (c%2147483629+7919*i+11) (show (2147483647:Int)≠0 by decide)
  have a1:=Int.emod_lt_of_pos (c%2147483629+7919*i+11) (show (0:Int)<2147483647 by decide)
  generalize (c%2147483629+7919*i+11)%2147483647=d at *
  refine⟨_,rfl,_,rfl,_,_,rfl,rfl,mulL (by omega) (by omega),_,_,rfl,rfl,(by show (0:Int)<2147483647;decide),_,_,rfl,rfl,zlM (by decide) (by decide),_,_,rfl,rfl,(by show (0:Int)<2147483587;decide),?_⟩
  exact⟨_,rfl,_,_,rfl,rfl,jq.small (by decide) (by decide),k _⟩
theorem zdP:zO ["_law_drawn_here","_law_often","_law_many","_law_room"] ["_law_drawn_here","_law_often","_law_many","_law_room"] (zk xQ):=⟨rfl,rfl,rfl,by decide +kernel,rfl,by decide +kernel,by decide +kernel⟩
theorem zdQ (D:zC K mg "_law_mark" xQ ["_law_drawn_here","_law_often","_law_many","_law_room"] f fd):zQ P w K mg base CX0 1 f fd ["_law_drawn_here","_law_often","_law_many","_law_room"] zia:=by
 refine D.F.ok zdP (fun vs H Q E h=>?_) (fun cdv A outer s H vs Q E hr h=>?_)
 ·obtain⟨x,o,m,r,rfl,_⟩:=h
  rfl
 ·obtain⟨x,o,m,r,rfl,ho,q⟩:=h
  refine⟨_,(zf (qo (zq qU (zv zY (zv qk (pv 0) ze) ze) ze (zD _)) (zg (zG qx)) zM)
   (zf (qo (PW.pt (xB (jo (pv 3) (fun _=>rfl)) (jR (zq qU (zv zY (zv zY (pv 0) ze) (pv 1)) ze (zD _))))) (zg (zG qx)) zM)
   (zf (qo (PW.pt (xB (jo (pv 3) (fun _=>rfl)) (jR (zq Q6 (zv zY (zv qk (pv 0) ze) ze) (pv 2) (zD _))))) (zg (zG qx)) zM)
   (zg (zG qx))))),?_⟩
  have q1:Q (.str "#") H:=by
   rw [Jf]
   exact q 35 (by decide) (fun _=>⟨by decide,by decide⟩)
  have q4:Q (.str ".") H:=by
   rw [zlY]
   exact q 46 (by decide) (fun _=>⟨by decide,by decide⟩)
  refine⟨_,rfl,_,_,rfl,rfl,jq.small (by decide) (by decide),_,_,rfl,rfl,(by show (0:Int)<13;decide),rfl,_,rfl,yc (fun _=>q1) (fun _=>?_)⟩
  cases r with
  | false =>
   refine⟨_,rfl,_,rfl,xD (xD ?_)⟩
   exact⟨_,rfl,_,rfl,xD (xD q4)⟩
  | true =>
   have q2:Q (.str "o") H:=by
    rw [zkr]
    exact q 111 (by decide) (fun h=>nomatch h)
   have q3:Q (.str "c") H:=by
    rw [zli]
    exact q 99 (by decide) (fun h=>nomatch h)
   refine⟨_,rfl,_,rfl,ZY ⟨_,rfl,_,_,rfl,rfl,(by show (0:Int)<64;decide),_,rfl,_,_,rfl,rfl,ho,rfl,_,rfl,yc (fun _=>q2) (fun _=>?_)⟩⟩
   exact⟨_,rfl,_,rfl,ZY ⟨_,rfl,_,_,rfl,rfl,jq.small (by decide) (by decide),_,_,rfl,rfl,(by show (0:Int)<5;decide),_,rfl,_,_,rfl,rfl,_,rfl,yc (fun _=>q3) (fun _=>q4)⟩⟩
end
noncomputable def j7 (rs:List Str)(n:Int)(cl st:List (Nat×Nat))(tgs:List Tg):List (Nat×Nat)×List (Nat×Nat):=(fol rs n cl st tgs).getD ([],[])
def zcC:Sp:=fun vs H Q _=>∃(p l th fa fc fs:Addr) (rs:List Str) (n:Int) (ths:List V) (tgs:List Tg) (us ws:List V) (cl st:List (Nat×Nat)),vs=[.ref p,.ref th,.ref fa]/\zld H p l th fa fc fs rs n ths tgs us ws cl st /\
 ∀(t d1 d2:Addr) (w1 w2:List V) (H':Hp),jH H' t d1 d2 w1 w2 (j7 rs n cl st tgs).1 (j7 rs n cl st tgs).2->zy H H'->Q (.ref t) H'
section
variable {P:Program}{w:World}{K:PySem.W.Frag}{mg:Str->Option Value}{base:Heap}{f:Addr}{fd:FuncData}{C_NoLaying:Addr}
theorem zdR:zO ["_law_board_here","_law_things_here","_law_finding_here"] ["_law_board_here","_law_things_here","_law_finding_here"] (zk Zd):=⟨rfl,rfl,rfl,by decide +kernel,rfl,by decide +kernel,by decide +kernel⟩
theorem QC (T:Txt mg)(O_NoLaying:Z0 K mg "NoLaying" C_NoLaying)(FN:PySem.W.mroIn K C_NoLaying (.ref C_NoLaying)=some true)(Z:Prog K mg)(D:zC K mg "_law_told" Zd ["_law_board_here","_law_things_here","_law_finding_here"] f fd):zQ P w K mg base CX0 5 f fd ["_law_board_here","_law_things_here","_law_finding_here"] zcC:=by
 obtain⟨Qn,Yk,jB⟩:=Z.follows
 have Qo:zQ P w K mg base (CXE P w) 4 Qn Yk ["board","things","finding"] (Yi C_NoLaying):=zaE T O_NoLaying Z jB
 refine D.F.ok zdR (fun vs H Q E h=>?_) (fun cdv A outer s H vs Q E hr h=>?_)
 ·obtain⟨p,l,th,fa,fc,fs,rs,n,ths,tgs,us,ws,cl,st,rfl,_⟩:=h
  rfl
 ·obtain⟨p,l,th,fa,fc,fs,rs,n,ths,tgs,us,ws,cl,st,rfl,X,q⟩:=h
  refine⟨_,(zg (ziM rfl rfl Qo (hr.mono (by decide)) (by rfl) jB.g jB.F.kp jB.b (by rfl) O_NoLaying (za (pv 0) (za (pv 1) (za (pv 2) zc))) (fun _=>(zg (zG (zW (za (zU zc) (za (zU zc) zc)))))))),?_⟩
  refine⟨_,rfl,_,rfl,_,rfl,p,l,th,fa,fc,fs,rs,n,ths,tgs,us,ws,cl,st,rfl,X,fun c1 c2 ef t d1 d2 w1 w2 H' F s'=>?_,fun ef H' s'=>⟨C_NoLaying,rfl,FN,fun e0 he0=>?_⟩⟩
  ·refine q t d1 d2 w1 w2 H' ?_ s'
   unfold j7
   rw [ef]
   exact F
  ·have z0:=zd (o:=exO e0 C_NoLaying) he0
   refine⟨(by show 0<=sizeLine;decide),fun d1 hd1=>⟨(by show 0<=sizeLine;decide),fun d2 hd2=>⟨(by show 2<=sizeLine;decide),fun t ht=>?_⟩⟩⟩
   have z1:=zd (o:=.lst []) hd1
   have z2:=zd (o:=.lst []) hd2
   have z3:=zd (o:=.tup [.ref d1,.ref d2]) ht
   refine q t d1 d2 [] [] _ ?_ (s'.trans (z0.trans (z1.trans (z2.trans z3))))
   unfold j7
   rw [ef]
   exact⟨zb,z3 _ _ (z2 _ _ zb),z3 _ _ zb,.nil,.nil⟩
end
def jm (k:Nat):Bool:=decide (k=111) || decide (k=99)
noncomputable def Qp (t:List Nat):Nat:=(t.filter jm).length
noncomputable def YW (gs:List (List Nat)):Nat:=(gs.map Qp).sum
theorem zbP (t:List Nat)(k:Nat):Qp (t++[k])=Qp t+(if jm k=true then 1 else 0):=by
 unfold Qp
 rw [filter_append,length_append,filter_cons]
 split<;>rfl
theorem zgI (gs:List (List Nat))(t:List Nat):YW (gs++[t])=YW gs+Qp t:=by
 unfold YW
 rw [map_append,List.sum_append]
 simp
def zlZ (H:Hp)(v:V)(t:List Nat):Prop:=∃a,v=V.ref a/\H a=some (.lst (t.map fun c=>V.str ⟨#[c]⟩))
def yK (H:Hp):List V->List (List Nat)->Prop:=Paired (zlZ H)
theorem yK.mono {H H':Hp}(s:zy H H'):∀{vs:List V} {gs:List (List Nat)},yK H vs gs->yK H' vs gs
 | _,_,.nil=>.nil
 | _,_,.cons ⟨a,e,h⟩ t=>.cons ⟨a,e,s _ _ h⟩ (yK.mono s t)
theorem yK.keep {H H':Hp}{d:Addr}(k:∀b o,b≠d->H b=some o->H' b=some o):∀{vs:List V} {gs:List (List Nat)},yK H vs gs->(∀v∈vs,v≠V.ref d)->yK H' vs gs
 | _,_,.nil,_=>.nil
 | _,_,.cons ⟨a,e,h⟩ t,hn=>.cons ⟨a,e,k a _ (fun z=>hn _ mem_cons_self (by rw [e,z])) h⟩ (yK.keep k t fun v hv=>hn v (mem_cons_of_mem _ hv))
theorem yK.grid {H:Hp}:∀{vs:List V} {gs:List (List Nat)},yK H vs gs->yQ H vs gs
 | _,_,.nil=>.nil
 | _,_,.cons ⟨a,e,h⟩ t=>.cons (.inr ⟨a,e,h⟩) (yK.grid t)
structure Z6 (gs:List (List Nat)):Prop where
 lo:1<=gs.length
 hi:gs.length<=8
 ex:∃n,1<=n/\n<=8/\∀t∈gs,t.length=n/\∀k∈t,k∈marks
 few:YW gs<=12
def zfF (K:PySem.W.Frag):Sp:=fun vs H Q _=>∃(a:Addr) (ns:List Int),vs=[.ref a,.int 18,.int 12]/\SqL K H a (ns.map V.int) /\
 ∀(d:Addr) (us:List V) (gs:List (List Nat)) (H':Hp),H d=none->H' d=some (.lst us)->yK H' us gs->Z6 gs->zy H H'->Q (.ref d) H'
theorem mr8 (x:Int):1<=1+x%8/\1+x%8<=8:=by
 have a:=emod_nonneg x (show (8:Int)≠0 by decide)
 have b:=Int.emod_lt_of_pos x (show (0:Int)<8 by decide)
 omega
theorem m18 {x:Int}(h1:1<=x)(h8:x<=8):(0:Int)<(if 18/x<8 then 18/x else 8):=by
 have h:x=1\/x=2\/x=3\/x=4\/x=5\/x=6\/x=7\/x=8:=by omega
 rcases h with rfl | rfl | rfl | rfl | rfl | rfl | rfl | rfl<;>decide
def wd (c0 c1:Int):Int:=1+c1/8%(if 18/(1+c0%8)<8 then 18/(1+c0%8) else 8)
theorem zks {c0 c1:Int}(_:Int)(h1:1<=1+c0%8)(h8:1+c0%8<=8):1<=wd c0 c1/\wd c0 c1<=8:=by
 have m:=m18 h1 h8
 have a:=emod_nonneg (c1/8) (Int.ne_of_gt m)
 have b:=Int.emod_lt_of_pos (c1/8) m
 unfold wd
 have c:(if 18/(1+c0%8)<8 then 18/(1+c0%8) else 8)<=8:=by split<;>omega
 omega
theorem zi8:∀k∈marks,([PyData.str "o",PyData.str "c"].any fun z=>PyData.eqv z (.str ⟨#[k]⟩))=jm k:=by decide +kernel
theorem zib:∀k∈marks,PyData.canLay0 (.str ⟨#[k]⟩)=true:=by decide +kernel
theorem zic {α:Type}(xs:List α)(v:α):atI (xs++[v]) (-1)=some v:=by
 have hl:(xs++[v]).length=xs.length+1:=by simp
 have e:ixN (xs.length+1) (-1)=some xs.length:=by
  unfold ixN
  rw [if_neg (by decide),if_pos (by omega)]
  congr 1
  omega
 unfold atI
 rw [hl,e]
 show (xs++[v])[xs.length]?=some v
 simp
section
variable {P:Program}{w:World}{K:PySem.W.Frag}{mg:Str->Option Value}{base:Heap}{f:Addr}{fd:FuncData}
theorem qd:zO ["_law_script","_law_most","_law_limit","_law_high","_law_wide","_law_often","_law_many","_law_marks","_law_shut","_law_row","_law_line","_law_column","_law_place","_law_drawn_here"] ["_law_script","_law_most","_law_limit"] (zk Jj):=⟨rfl,rfl,rfl,by decide +kernel,rfl,by decide +kernel,by decide +kernel⟩
theorem zcD {f1 f2 f3:Addr}{fd1 fd2 fd3:FuncData}(T:Txt mg)(D:zC K mg "_law_drawn" Jj ["_law_script","_law_most","_law_limit"] f fd)(zp:zC K mg "_law_cell_at" jC ["_law_script","_law_k"] f1 fd1)(qa:zC K mg "_law_mixed" jK ["_law_cell","_law_k"] f2 fd2)(yj:zC K mg "_law_mark" xQ ["_law_drawn_here","_law_often","_law_many","_law_room"] f3 fd3):zQ P w K mg base CX0 2 f fd ["_law_script","_law_most","_law_limit"] (zfF K):=by
 have qv:zQ P w K mg base CX0 1 f1 fd1 ["_law_script","_law_k"] (zes K):=ZG T zp
 have Jm:zQ P w K mg base CX0 1 f2 fd2 ["_law_cell","_law_k"] zcB:=YV qa
 have zeJ:zQ P w K mg base CX0 1 f3 fd3 ["_law_drawn_here","_law_often","_law_many","_law_room"] zia:=zdQ yj
 refine D.F.ok qd (fun vs H Q E h=>?_) (fun cdv A outer s H vs Q E hr h=>?_)
 ·obtain⟨a,ns,rfl,_⟩:=h
  rfl
 ·obtain⟨a,ns,rfl,hS,q⟩:=h
  refine⟨_,(zf (zH (i:=3) qd.nd rfl (Or.inl rfl) (zv jS ze (zv zY (zB qv (hr.mono (by decide)) (by rfl) zp.g zp.F.kp zp.b .nil zV (za (pv 0) (za ze zc))) (zm (xx rfl) (by rfl) T.zat PyProof.Rows.boot_min (za ze (za (pv 1) zc))))))
   (zf (zH (i:=4) qd.nd rfl (Or.inl rfl) (zv jS ze (zv zY (zv qk (zB qv (hr.mono (by decide)) (by rfl) zp.g zp.F.kp zp.b .nil zV (za (pv 0) (za ze zc))) ze) (zm (xx rfl) (by rfl) T.zat PyProof.Rows.boot_min (za ze (za (zv qk (pv 1) (pv 3)) zc))))))
   (zf (zH (i:=5) qd.nd rfl (Or.inl rfl) (zv jS ze (zv zY (zB qv (hr.mono (by decide)) (by rfl) zp.g zp.F.kp zp.b .nil zV (za (pv 0) (za ze zc))) ze)))
   (zf (zH (i:=6) qd.nd rfl (Or.inl rfl) (zv zY (zv qk (zB qv (hr.mono (by decide)) (by rfl) zp.g zp.F.kp zp.b .nil zV (za (pv 0) (za ze zc))) ze) ze))
   (zf (zH (i:=7) qd.nd rfl (Or.inl rfl) (zU zc))
   (zf (zH (i:=8) qd.nd rfl (Or.inl rfl) ze)
   (zf (yL PassesOwn.never rfl (xw (by rfl) T.xj (za (pv 3) zc)) (zF (i:=9) qd.nd rfl (Or.inl rfl)) (zf (zH (i:=10) qd.nd rfl (Or.inl rfl) (zU zc))
   (zf (yL PassesOwn.never rfl (xw (by rfl) T.xj (za (pv 4) zc)) (zF (i:=11) qd.nd rfl (Or.inl rfl)) (zf (zH (i:=12) qd.nd rfl (Or.inl rfl) (zv jS (zv QN ze (pv 9)) (pv 11)))
   (zf (zH (i:=13) qd.nd rfl (Or.inl rfl) (zB Jm (hr.mono (by decide)) (by rfl) qa.g qa.F.kp qa.b .nil zV (za (zB qv (hr.mono (by decide)) (by rfl) zp.g zp.F.kp zp.b .nil zV (za (pv 0) (za (zv jS ze (zv zY (pv 12) ze)) zc))) (za (pv 12) zc))))
   (zf (jF (Zo PySem.F.plainAttrs_list PySem.F.slot_list_append PySem.F.type_list_append jj (pv 10) (za (zB zeJ (hr.mono (by decide)) (by rfl) yj.g yj.F.kp yj.b .nil zV (za (pv 13) (za (pv 5) (za (pv 6) (za (qN Q6 (pv 8) (pv 2) (zD _)) zc))))) zc)))
   (zg (zH (i:=8) qd.nd rfl (Or.inl rfl) (zv jS (pv 8) (qc zfT (by rfl) T.zfq PyProof.Rows.boot_int (za (qN (zgc hr.units) (zw zT (pv 10) (zcO Q5 ze) (fun _ _=>rfl)) (zW (za qx (za qx zc))) (by rfl)) zc)))))))))
   (zg (jF (Zo PySem.F.plainAttrs_list PySem.F.slot_list_append PySem.F.type_list_append jj (pv 7) (za (pv 10) zc)))))))
   (zg (zG (pv 7)))))))))),?_⟩
  refine⟨_,rfl,a,ns,_,rfl,hS,by decide,fun c0=>⟨_,rfl,8,18,rfl,_,_,rfl,rfl,(by show (0:Int)<8;decide),_,_,rfl,rfl,?_⟩⟩
  obtain⟨h1,h8⟩:=mr8 c0
  refine⟨_,rfl,a,ns,_,rfl,hS,by decide,fun c1=>⟨_,_,rfl,rfl,jq.small (by decide) (by decide),_,rfl,_,rfl,_,_,rfl,rfl,jq.small (by show (0:Int)<1+c0%8;omega) (by show 1+c0%8<_;exact Int.lt_of_le_of_lt h8 (by decide)),8,_,rfl,_,_,rfl,rfl,?_,_,_,rfl,rfl,?_⟩⟩
  ·show (0:Int)<(if 18/(1+c0%8)<8 then 18/(1+c0%8) else 8)
   exact m18 h1 h8
  obtain⟨w1,w8⟩:=zks (c0:=c0) (c1:=c1) 0 h1 h8
  refine⟨_,rfl,a,ns,_,rfl,hS,by decide,fun c2=>⟨_,_,rfl,rfl,(by show (0:Int)<5;decide),_,_,rfl,rfl,?_⟩⟩
  have o0:=emod_nonneg c2 (show (5:Int)≠0 by decide)
  refine⟨_,rfl,a,ns,_,rfl,hS,by decide,fun c3=>⟨_,_,rfl,rfl,jq.small (by decide) (by decide),_,_,rfl,rfl,(by show (0:Int)<5;decide),?_⟩⟩
  refine⟨(by show 0<=sizeLine;decide),fun d hd=>?_⟩
  have s0:=zd (o:=.lst []) hd
  refine⟨_,rfl,1+c0%8,rfl,by omega,by omega,?_⟩
  refine ji (lo:=0) (n:=(1+c0%8).toNat) (fun i σ H'=>∃(v9 v10 v11 v12 v13:Option V) (us:List V) (gs:List (List Nat)),σ=[some (.ref a),some (.int 18),some (.int 12),some (.int (1+c0%8)),some (.int (wd c0 c1)),some (.int (2+c2%5)),some (.int (c3/5%5)),some (.ref d),some (.int ((YW gs:Nat):Int)),v9,v10,v11,v12,v13]/\zy H H'/\H' d=some (.lst us)/\yK H' us gs/\(∀v∈us,v≠V.ref d)/\gs.length=i/\(∀t∈gs,t.length=(wd c0 c1).toNat/\∀k∈t,k∈marks)/\YW gs<=12) ⟨_,_,_,_,_,[],[],rfl,s0,zb,.nil,(fun _ h=>nomatch h),rfl,(fun _ h=>nomatch h),by decide⟩ ?_ ?_
  ·rintro i σ H1 hi ⟨v9,v10,v11,v12,v13,us,gs,rfl,s1,hd1,hM,hnd,gl,hgs,hcnt⟩
   refine⟨(by show 0<=sizeLine;decide),fun ln hln=>?_⟩
   have z2:=zd (o:=.lst []) hln
   refine⟨_,rfl,wd c0 c1,rfl,by omega,by omega,?_⟩
   refine ji (lo:=0) (n:=(wd c0 c1).toNat) (fun j σ H'=>∃(v11 v12 v13:Option V) (t:List Nat),σ=[some (.ref a),some (.int 18),some (.int 12),some (.int (1+c0%8)),some (.int (wd c0 c1)),some (.int (2+c2%5)),some (.int (c3/5%5)),some (.ref d),some (.int (((YW gs+Qp t):Nat):Int)),some (.int (0+(i:Int))),some (.ref ln),v11,v12,v13]/\zy H1 H'/\H' ln=some (.lst (t.map fun c=>V.str ⟨#[c]⟩))/\t.length=j/\(∀k∈t,k∈marks)/\YW gs+Qp t<=12) ⟨_,_,_,[],rfl,z2,zb,rfl,(fun _ h=>nomatch h),hcnt⟩ ?_ ?_
   ·rintro j σ H2 hj ⟨v11,v12,v13,t,rfl,s2,hln2,tl,htm,hc2⟩
    have s12:=s1.trans s2
    refine⟨_,rfl,_,_,rfl,rfl,mulL (by decide) (by decide),_,rfl,_,_,rfl,rfl,?_⟩
    have p0:=emod_nonneg (8*(0+(i:Int))+(0+(j:Int))) (show (58:Int)≠0 by decide)
    refine⟨_,rfl,_,rfl,_,_,rfl,rfl,(by show (0:Int)<58;decide),_,_,rfl,rfl,a,ns,_,rfl,s12.seq hS,(by show (0:Int)<=4+(8*(0+(i:Int))+(0+(j:Int)))%58;omega),fun cc=>⟨_,rfl,_,_,rfl,fun dr=>?_⟩⟩
    refine⟨_,rfl,.inl ⟨rfl,_,SqL.of hln2⟩,_,rfl,_,rfl,_,rfl,_,rfl,_,rfl,_,_,rfl,rfl,_,_,_,_,rfl,(by show (0:Int)<2+c2%5;omega),fun k hk hroom=>?_⟩
    refine⟨ln,_,_,rfl,rfl,hln2,?_,?_⟩
    ·rw [length_map]
     exact lt_of_le_of_lt (show _<=8 by omega) (by decide)
    have t1:(t++[k]).map (fun c=>V.str ⟨#[c]⟩)=t.map (fun c=>V.str ⟨#[c]⟩)++[V.str ⟨#[k]⟩]:=by rw [map_append];rfl
    have hln3:upd H2 ln (.lst (t.map (fun c=>V.str ⟨#[c]⟩)++[V.str ⟨#[k]⟩])) ln=some (.lst (t.map (fun c=>V.str ⟨#[c]⟩)++[V.str ⟨#[k]⟩])):=zb
    have s3:zy H1 (upd H2 ln (.lst (t.map (fun c=>V.str ⟨#[c]⟩)++[V.str ⟨#[k]⟩]))):=fun b o e=>by
     rw [zo (zj e hln)]
     exact s2 _ _ e
    generalize upd H2 ln (.lst (t.map (fun c=>V.str ⟨#[c]⟩)++[V.str ⟨#[k]⟩]))=H3 at *
    refine⟨_,rfl,_,rfl,_,rfl,ln,_,_,V.str ⟨#[k]⟩,rfl,rfl,SqL.of hln3,zic _ _,(by show 2<=sizeLine;decide),fun tp htp=>?_⟩
    have z4:=zd (o:=.tup [V.str "o",V.str "c"]) htp
    refine⟨.str ⟨#[k]⟩,[.str "o",.str "c"],.str _,.tup (SqT.of zb) (.cons (.str _) (.cons (.str _) .nil)),zib k hk,by decide +kernel,by show 0<=60;decide,?_⟩
    rw [zi8 k hk]
    refine .inr ⟨_,rfl,_,_,rfl,rfl,?_⟩
    have ec:((YW gs+Qp t:Nat):Int)+(if jm k=true then 1 else 0)=((YW gs+Qp (t++[k]):Nat):Int):=by
     rw [zbP]
     split<;>omega
    refine⟨some (.int (0+(j:Int))),some (.int (8*(0+(i:Int))+(0+(j:Int)))),some (.int dr),t++[k],?_,s3.trans z4,?_,by rw [length_append,tl];rfl,fun x hx=>?_,?_⟩
    ·show [_,_,_,_,_,_,_,_,some (V.int (((YW gs+Qp t:Nat):Int)+(if jm k=true then 1 else 0))),_,_,_,_,_]=_
     rw [ec]
    ·rw [t1]
     exact z4 _ _ hln3
    ·rcases List.mem_append.mp hx with h | h
     ·exact htm x h
     ·have:x=k:=by simpa using h
      rw [this]
      exact hk
    ·rw [zbP]
     split
     ·rename_i hsk
      have hlt:((YW gs+Qp t:Nat):Int)<12:=by
       refine Classical.byContradiction fun hc=>?_
       have hf:=hroom (decide_eq_false hc)
       unfold jm at hsk
       rw [decide_eq_false hf.1,decide_eq_false hf.2] at hsk
       cases hsk
      omega
     ·omega
   ·rintro σ H2 ⟨v11,v12,v13,t,rfl,s2,hln2,tl,htm,hc2⟩
    have hd2:=s2 _ _ hd1
    have nld:ln≠d:=fun z=>by
     rw [z,hd1] at hln
     cases hln
    have ul:us.length=gs.length:=Paired.length hM
    refine⟨_,rfl,.inl ⟨rfl,_,SqL.of hd2⟩,_,rfl,d,_,_,rfl,rfl,hd2,?_,?_⟩
    ·exact lt_of_le_of_lt (show _<=8 by omega) (by decide)
    have hg2:=zgI gs t
    refine⟨some (.int (0+(i:Int))),some (.ref ln),v11,v12,v13,us++[.ref ln],gs++[t],?_,fun b o e=>?_,zb,?_,fun v hv=>?_,by rw [length_append,gl];rfl,fun u hu=>?_,by rw [hg2];exact hc2⟩
    ·rw [hg2]
    ·rw [zo (zj e hd)]
     exact s2 _ _ (s1 _ _ e)
    ·refine Paired.snoc (yK.keep (d:=d) (fun b o nb e=>by rw [zo nb];exact s2 _ _ e) hM hnd) ⟨ln,rfl,?_⟩
     rw [zo nld]
     exact hln2
    ·rcases List.mem_append.mp hv with h | h
     ·exact hnd v h
     ·have:v=V.ref ln:=by simpa using h
      rw [this]
      exact fun z=>nld (V.ref.inj z)
    ·rcases List.mem_append.mp hu with h | h
     ·exact hgs u h
     ·have:u=t:=by simpa using h
      rw [this]
      exact⟨tl,htm⟩
  ·rintro σ H1 ⟨v9,v10,v11,v12,v13,us,gs,rfl,s1,hd1,hM,hnd,gl,hgs,hcnt⟩
   exact⟨_,rfl,q d us gs H1 hd hd1 hM ⟨by omega,by omega,⟨(wd c0 c1).toNat,by omega,by omega,hgs⟩,hcnt⟩ s1⟩
end
noncomputable def xX (gs:List (List Nat)):List (Nat×Nat):=Cells.zE (pZ [111,99]) 0 gs
def zbQ:Sp:=fun vs H Q _=>∃(d:Addr) (us:List V) (gs:List (List Nat)) (c:Int),vs=[.ref d,.int c]/\H d=some (.lst us)/\yK H us gs/\Z6 gs /\
 ∀(fa fc fs:Addr) (u w:List V) (cl st:List (Nat×Nat)) (H':Hp),H fa=none->H fc=none->H fs=none->jH H' fa fc fs u w cl st->zgx cl st->(∀c∈cl,c ∉ st)->zy H H'->Q (.ref fa) H'
theorem zlj (c:Int):∃v:Int,atI [V.int 2,V.int 4,V.int 8,V.int 16,V.int 1000000] (c%5)=some (.int v)/\0<v:=by
 have h:c%5=0\/c%5=1\/c%5=2\/c%5=3\/c%5=4:=by omega
 rcases h with h | h | h | h | h<;>rw [h]
 ·exact⟨2,rfl,by decide⟩
 ·exact⟨4,rfl,by decide⟩
 ·exact⟨8,rfl,by decide⟩
 ·exact⟨16,rfl,by decide⟩
 ·exact⟨1000000,rfl,by decide⟩
theorem zcE {H:Hp}:∀{vs:List V} {gs:List (List Nat)} {i:Nat} {t:List Nat},yK H vs gs->gs[i]?=some t->∃a,vs[i]?=some (V.ref a)/\H a=some (.lst (t.map fun c=>V.str ⟨#[c]⟩))
 | _,_,_,_,.nil,e=>by simp at e
 | _,_,0,_,.cons ⟨a,r,h⟩ _,e=>by
  simp at e
  subst e
  exact⟨a,by rw [r];rfl,h⟩
 | _,_,i+1,t,.cons _ q,e=>by
  obtain⟨c,h1,h2⟩:=zcE (i:=i) (t:=t) q (by simpa using e)
  exact⟨c,by simpa using h1,h2⟩
theorem Z6.t8 {gs:List (List Nat)}(M:Z6 gs):∀t∈gs,t.length<=8:=fun t ht=>by
 obtain⟨n,_,h8,h⟩:=M.ex
 rw [(h t ht).1]
 exact h8
theorem zaK {gs:List (List Nat)}(M:Z6 gs){c:Nat×Nat}(h:c∈xX gs):∃t k,gs[c.1]?=some t/\t[c.2]?=some k/\c.1<8/\c.2<8:=by
 obtain⟨i,j,u,k,e,h1,h2,_⟩:=Cells.qW h
 rw [zero_add] at e
 subst e
 have a:=(List.getElem?_eq_some_iff.mp h1).1
 have b:=(List.getElem?_eq_some_iff.mp h2).1
 have d:=M.t8 u (mem_of_getElem? h1)
 have e:=M.hi
 exact⟨u,k,h1,h2,by show i<8;omega,by show j<8;omega⟩
theorem zid {l:List (Nat×Nat)}(h:l.Nodup){i:Nat}{c:Nat×Nat}(e:l[i]?=some c):c ∉ l.take i:=fun z=>by
 have hl:=(List.getElem?_eq_some_iff.mp e).1
 have h2:(l.take i++l.drop i).Nodup:=by
  rw [take_append_drop]
  exact h
 have h3:c∈l.drop i:=by
  rw [drop_eq_getElem_cons hl,(List.getElem?_eq_some_iff.mp e).2]
  exact mem_cons_self
 exact(List.nodup_append.mp h2).2.2 c z c h3 rfl
section
variable {P:Program}{w:World}{K:PySem.W.Frag}{mg:Str->Option Value}{base:Heap}{f:Addr}{fd:FuncData}
theorem qb:zO ["_law_marks","_law_cell","_law_clears","_law_stones","_law_rest","_law_k","_law_one","_law_found","_law_stone"] ["_law_marks","_law_cell"] (zk yw):=⟨rfl,rfl,rfl,by decide +kernel,rfl,by decide +kernel,by decide +kernel⟩
theorem zaL {f1 f2:Addr}{fd1 fd2:FuncData}(T:Txt mg)(D:zC K mg "_law_finding" yw ["_law_marks","_law_cell"] f fd)(qa:zC K mg "_law_mixed" jK ["_law_cell","_law_k"] f1 fd1)(zu:zC K mg "_law_cells" qQ ["_law_rows","_law_signs"] f2 fd2):zQ P w K mg base CX0 2 f fd ["_law_marks","_law_cell"] zbQ:=by
 have Jm:zQ P w K mg base CX0 1 f1 fd1 ["_law_cell","_law_k"] zcB:=YV qa
 have qS:zQ P w K mg base CX0 1 f2 fd2 ["_law_rows","_law_signs"] JP:=jX T zu
 refine D.F.ok qb (fun vs H Q E h=>?_) (fun cdv A outer s H vs Q E hr h=>?_)
 ·obtain⟨d,us,gs,c,rfl,_⟩:=h
  rfl
 ·obtain⟨d,us,gs,c,rfl,hd,hM,M,q⟩:=h
  refine⟨_,(zf (zH (i:=2) qb.nd rfl (Or.inl rfl) (zU zc))
   (zf (zH (i:=3) qb.nd rfl (Or.inl rfl) (zU zc))
   (zf (zH (i:=4) qb.nd rfl (Or.inl rfl) (zv qk (pv 1) ze))
   (zf (yL PassesOwn.never rfl (zcU (by rfl) T.ZE (za (zB qS (hr.mono (by decide)) (by rfl) zu.g zu.F.kp zu.b .nil zV (za (pv 0) (za (zU (za qx (za qx zc))) zc))) zc)) (J0 rfl (qg (zF (i:=5) qb.nd rfl (Or.inl rfl)) (qg (zF (i:=6) qb.nd rfl (Or.inl rfl)) yX))) (zf (zH (i:=7) qb.nd rfl (Or.inl rfl) (qN Q6 (zv zY (zB Jm (hr.mono (by decide)) (by rfl) qa.g qa.F.kp qa.b .nil zV (za (pv 4) (za (pv 5) zc))) (zw zT (zU (za ze (za ze (za ze (za ze (za ze zc)))))) (zv zY (pv 1) ze) (fun _ _=>rfl))) ze (zD _)))
   (zf (zH (i:=8) qb.nd rfl (Or.inl rfl) (qN zbj (qN qU (zw zT (zw zT (pv 0) (zw zI (pv 6) ze (fun _ _=>rfl)) (fun _ _=>rfl)) (zw zI (pv 6) ze (fun _ _=>rfl)) (fun _ _=>rfl)) qx (zD _)) (JZ (qN qU (zv zY (zB Jm (hr.mono (by decide)) (by rfl) qa.g qa.F.kp qa.b .nil zV (za (pv 4) (za (pv 5) zc))) ze) ze (zD _)) (Zr (qN qU (zv zY (zv qk (pv 1) ze) ze) ze (zD _)))) (zD _)))
   (QO (qo (zq qU (zv zY (zv qk (pv 1) ze) ze) ze (zD _)) (zf (zH (i:=7) qb.nd rfl (Or.inl rfl) (qN ze5 (zv zY (pv 4) ze) ze (zD _)))
   (zf (zH (i:=8) qb.nd rfl (Or.inl rfl) (qN qU (zv zY (pv 4) ze) ze (zD _)))
   (zg (zH (i:=4) qb.nd rfl (Or.inl rfl) (zv qk (pv 4) ze))))) zM)
   (zg (qo (PW.pt (xB (jo (pv 7) (fun _=>rfl)) (jR (jo (pv 8) (fun _=>rfl))))) (zg (jF (Zo PySem.F.plainAttrs_list PySem.F.slot_list_append PySem.F.type_list_append jj (pv 3) (za (pv 6) zc)))) (zg (qo (jo (pv 7) (fun _=>rfl)) (zg (jF (Zo PySem.F.plainAttrs_list PySem.F.slot_list_append PySem.F.type_list_append jj (pv 2) (za (pv 6) zc)))) zM))))))))
   (zg (zG (zW (za (pv 2) (za (pv 3) zc))))))))),?_⟩
  refine⟨(by show 0<=sizeLine;decide),fun fc hfc=>⟨(by show 0<=sizeLine;decide),fun fs hfs=>?_⟩⟩
  have y1:=zd (o:=.lst []) hfc
  have y2:=zd (o:=.lst []) hfs
  have nfs:fc≠fs:=zj (show upd H fc (.lst []) fc=some (.lst []) from zb) hfs
  have ffs:=y1.free hfs
  have s2:=y1.trans y2
  have g1:upd (upd H fc (.lst [])) fs (.lst []) fc=some (.lst []):=y2 _ _ zb
  have g2:upd (upd H fc (.lst [])) fs (.lst []) fs=some (.lst []):=zb
  generalize upd (upd H fc (.lst [])) fs (.lst [])=H2 at *
  refine⟨_,rfl,_,_,rfl,rfl,jq.small (by decide) (by decide),?_⟩
  refine⟨_,rfl,(by show 2<=sizeLine;decide),fun sg hsg=>?_⟩
  have y3:=zd (o:=.lst [V.str "o",V.str "c"]) hsg
  refine⟨d,sg,us,gs,[111,99],rfl,y3 _ _ (s2 _ _ hd),(hM.mono (s2.trans y3)).grid,M.hi,M.t8,by rw [zb,zkr,zli];rfl,fun ce wc H4 hce zlk hc4 s4=>⟨ce,rfl,⟨_,SqL.of zlk⟩,?_⟩⟩
  have hc4':Cel H4 wc (xX gs):=hc4
  have s24:=y3.trans s4
  have nc1:ce≠fc:=(zj (y3 _ _ g1) hce).symm
  have nc2:ce≠fs:=(zj (y3 _ _ g2) hce).symm
  have c64:(xX gs).length<=64:=by
   have h1:=Cells.qu (pZ [111,99]) 0 gs M.t8
   have h2:=M.hi
   unfold xX
   omega
  refine zbq (K:=K) (l:=ce) (xs:=wc) (fun i σ H'=>∃(r:Int) (v5 v6 v7 v8:Option V) (u w':List V) (cl st:List (Nat×Nat)),σ=[some (.ref d),some (.int c),some (.ref fc),some (.ref fs),some (.int r),v5,v6,v7,v8]/\zy H H'/\(∀b o,b≠fc->b≠fs->H4 b=some o->H' b=some o)/\H' fc=some (.lst u)/\H' fs=some (.lst w')/\Cel H' u cl/\Cel H' w' st/\cl.length<=i/\st.length<=i/\(∀x∈cl,x∈(xX gs).take i)/\(∀x∈st,x∈(xX gs).take i)/\∀x∈cl,x ∉ st)
   ⟨c/30,_,_,_,_,[],[],[],[],rfl,s2.trans s24,fun b o _ _ e=>e,s24 _ _ g1,s24 _ _ g2,.nil,.nil,le_refl _,le_refl _,(fun _ h=>nomatch h),(fun _ h=>nomatch h),(fun _ h=>nomatch h)⟩ ?_ ?_ ?_
  ·rintro i σ H5 _ ⟨r,v5,v6,v7,v8,u,w',cl,st,rfl,s5,k5,_⟩
   exact SqL.of (k5 _ _ nc1 nc2 zlk)
  ·rintro i x T1 σ H5 hx hT1 ⟨r,v5,v6,v7,v8,u,w',cl,st,rfl,s5,k5,h1,h2,hc1,hc2,l1,l2,m1,m2,m3⟩
   obtain⟨cc,hcc,a,rfl,ha4⟩:=hc4'.get hx
   have ccm:cc∈xX gs:=mem_of_getElem? hcc
   have tk:∀{x},x∈(xX gs).take i->x∈(xX gs).take (i+1):=fun {x} h=>by rw [take_add_one];exact mem_append_left _ h
   have ccn:cc∈(xX gs).take (i+1):=by rw [take_add_one,hcc];exact mem_append_right _ mem_cons_self
   have cco:cc ∉ (xX gs).take i:=zid (jN (Cells.ZS _ 0 gs)) hcc
   obtain⟨t,k,ht,hk,b1,b2⟩:=zaK M ccm
   have na1:a≠fc:=fun e=>by rw [e,s24 _ _ g1] at ha4;cases ha4
   have na2:a≠fs:=fun e=>by rw [e,s24 _ _ g2] at ha4;cases ha4
   have ha5:=k5 _ _ na1 na2 ha4
   have z1:zy H5 (upd H5 T1 (.tup [.int (i:Nat),.ref a])):=zd hT1
   refine⟨T1,_,rfl,SqT.of zb,rfl,_,_,rfl,_,_,rfl,rfl,?_⟩
   generalize upd H5 T1 (.tup [.int (i:Nat),.ref a])=H6 at *
   obtain⟨v,hv,v0⟩:=zlj c
   refine⟨_,rfl,_,rfl,r,(i:Nat),rfl,fun z=>⟨(by show 5<=sizeLine;decide),fun lz hlz=>⟨_,rfl,_,_,rfl,rfl,(by show (0:Int)<5;decide),lz,_,_,_,rfl,rfl,SqL.of zb,hv,_,_,rfl,rfl,v0,_,_,rfl,rfl,?_⟩⟩⟩
   have z2:=z1.trans (zd (o:=.lst [V.int 2,V.int 4,V.int 8,V.int 16,V.int 1000000]) hlz)
   generalize upd H6 lz (.lst [V.int 2,V.int 4,V.int 8,V.int 16,V.int 1000000])=H7 at *
   have hM7:=hM.mono (s5.trans z2)
   obtain⟨ra,hra,hrow⟩:=zcE hM7 ht
   have hd7:=(s5.trans z2) _ _ hd
   have ha7:=z2 _ _ ha5
   have h17:=z2 _ _ h1
   have h27:=z2 _ _ h2
   have n12:fs≠fc:=fun e=>nfs e.symm
   have lu:u.length<=i:=by rw [hc1.length];exact l1
   have lw:w'.length<=i:=by rw [hc2.length];exact l2
   have hi64:i<64:=by
    have:=(List.getElem?_eq_some_iff.mp hx).1
    have:=hc4'.length
    omega
   have s7:=s5.trans z2
   have hk7:(t.map fun c=>V.str ⟨#[c]⟩)[((cc.2:Nat):Int).toNat]?=some (V.str ⟨#[k]⟩):=by
    rw [toNat_natCast,getElem?_map,hk]
    rfl
   refine⟨_,rfl,_,rfl,a,_,0,_,rfl,rfl,SqT.of ha7,rfl,d,_,_,_,rfl,rfl,SqL.of hd7,Jq (by omega) (by rw [toNat_natCast];exact hra),_,rfl,a,_,1,_,rfl,rfl,SqT.of ha7,rfl,ra,_,_,_,rfl,rfl,SqL.of hrow,Jq (by omega) hk7,rfl,?_⟩
   refine⟨_,rfl,_,rfl,r,(i:Nat),rfl,fun z'=>⟨_,_,rfl,rfl,(by show (0:Int)<7;decide),rfl,_,rfl,yc (fun _=>⟨_,rfl,_,_,rfl,rfl,jq.small (by decide) (by decide),_,_,rfl,rfl,(by show (0:Int)<3;decide),rfl,rfl,?_⟩) (fun _=>⟨rfl,?_⟩)⟩⟩
   all_goals
    refine⟨fun σ' H'=>∃(r':Int) (p1 p2:Bool),σ'=[some (.ref d),some (.int c),some (.ref fc),some (.ref fs),some (.int r'),some (.int (i:Nat)),some (.ref a),some (.bl p1),some (.bl p2)]/\H'=H7,?_,?_⟩
    ·refine⟨_,rfl,_,_,rfl,rfl,jq.small (by decide) (by decide),_,_,rfl,rfl,(by show (0:Int)<2;decide),rfl,_,rfl,yc (fun _=>?_) (fun _=>⟨r,_,_,rfl,rfl⟩)⟩
     exact⟨_,rfl,_,_,rfl,rfl,(by show (0:Int)<4;decide),_,_,rfl,rfl,_,rfl,_,_,rfl,rfl,(by show (0:Int)<2;decide),rfl,_,rfl,_,_,rfl,rfl,jq.small (by decide) (by decide),r/4,_,_,rfl,rfl⟩
    ·rintro _ _ ⟨r',p1,p2,rfl,rfl⟩
     cases p1 with
     | false =>
      refine⟨_,rfl,false,rfl,xD ⟨_,rfl,false,rfl,xD ?_⟩⟩
      exact⟨r',_,_,_,_,u,w',cl,st,rfl,s7,fun b o e1 e2 e=>z2 _ _ (k5 b o e1 e2 e),h17,h27,hc1.mono z2,hc2.mono z2,by omega,by omega,fun x hx=>tk (m1 x hx),fun x hx=>tk (m2 x hx),m3⟩
     | true =>
      cases p2 with
      | true =>
       refine⟨_,rfl,true,rfl,ZY ⟨_,rfl,true,rfl,ZY ?_⟩⟩
       refine⟨_,rfl,.inl ⟨rfl,_,SqL.of h27⟩,_,rfl,fs,_,_,rfl,rfl,h27,lt_of_le_of_lt (show w'.length<=64 by omega) (by decide),r',_,_,_,_,u,w'++[.ref a],cl,st++[cc],rfl,fun b o e=>?_,fun b o e1 e2 e=>?_,?_,zb,Cel.into fs _ h27 (hc1.mono z2),Cel.into fs _ h27 (Cel.snoc (hc2.mono z2) ⟨a,rfl,ha7⟩),by omega,by simp;omega,fun x hx=>tk (m1 x hx),fun y hy=>?_,fun x hx z=>?_⟩
       ·rw [zo (zj e ffs)]
        exact s7 _ _ e
       ·rw [zo e2]
        exact z2 _ _ (k5 b o e1 e2 e)
       ·rw [zo nfs]
        exact h17
       ·rcases List.mem_append.mp hy with hy | hy
        ·exact tk (m2 y hy)
        ·rw [List.mem_singleton.mp hy]
         exact ccn
       ·rcases List.mem_append.mp z with z | z
        ·exact m3 x hx z
        ·rw [List.mem_singleton.mp z] at hx
         exact cco (m1 _ hx)
      | false =>
       refine⟨_,rfl,true,rfl,ZY ⟨_,rfl,false,rfl,xD ⟨_,rfl,true,rfl,ZY ?_⟩⟩⟩
       refine⟨_,rfl,.inl ⟨rfl,_,SqL.of h17⟩,_,rfl,fc,_,_,rfl,rfl,h17,lt_of_le_of_lt (show u.length<=64 by omega) (by decide),r',_,_,_,_,u++[.ref a],w',cl++[cc],st,rfl,fun b o e=>?_,fun b o e1 e2 e=>?_,zb,?_,Cel.into fc _ h17 (Cel.snoc (hc1.mono z2) ⟨a,rfl,ha7⟩),Cel.into fc _ h17 (hc2.mono z2),by simp;omega,by omega,fun y hy=>?_,fun x hx=>tk (m2 x hx),fun x hx z=>?_⟩
       ·rw [zo (zj e hfc)]
        exact s7 _ _ e
       ·rw [zo e1]
        exact z2 _ _ (k5 b o e1 e2 e)
       ·rw [zo n12]
        exact h27
       ·rcases List.mem_append.mp hy with hy | hy
        ·exact tk (m1 y hy)
        ·rw [List.mem_singleton.mp hy]
         exact ccn
       ·rcases List.mem_append.mp hx with hx | hx
        ·exact m3 x hx z
        ·rw [List.mem_singleton.mp hx] at z
         exact cco (m2 _ z)
  ·rintro σ H5 ⟨r,v5,v6,v7,v8,u,w',cl,st,rfl,s5,k5,h1,h2,hc1,hc2,l1,l2,m1,m2,m3⟩
   refine⟨_,rfl,_,rfl,(by show 2<=sizeLine;decide),fun fa hfa=>?_⟩
   have y6:=zd (o:=.tup [.ref fc,.ref fs]) hfa
   have wl:=hc4'.length
   refine q fa fc fs u w' cl st _ (s5.free hfa) hfc ffs ⟨zb,y6 _ _ h1,y6 _ _ h2,hc1.mono y6,hc2.mono y6⟩ ⟨fun x hx=>?_,fun x hx=>?_,by omega,by omega⟩ m3 (s5.trans y6)
   ·obtain⟨_,_,_,_,a,b⟩:=zaK M (mem_of_mem_take (m1 x hx))
    exact⟨a,b⟩
   ·obtain⟨_,_,_,_,a,b⟩:=zaK M (mem_of_mem_take (m2 x hx))
    exact⟨a,b⟩
end
theorem zi9 {t:Str}{j:Nat}(c:Nat)(hj:j<t.cps.toList.length):(Jy t none (some (j:Int))++⟨#[c]⟩++Jy t (some ((j:Int)+1)) none).cps.toList=t.cps.toList.set j c:=by
 have te:t.length=t.cps.toList.length:=(length_toList).symm
 have e1:(Jy t none (some (j:Int))).cps.toList=t.cps.toList.take j:=by
  have e:HT.sIx t.length t.length (some (j:Int))=j:=by
   rw [HT.Yw]
   omega
  unfold Jy
  rw [e]
  show ((t.cps.toList.drop 0).take (j-0)).toArray.toList=_
  simp
 have e2:(Jy t (some ((j:Int)+1)) none).cps.toList=t.cps.toList.drop (j+1):=by
  have e:HT.sIx t.length 0 (some ((j:Int)+1))=j+1:=by
   have:=HT.Yw t.length 0 (j+1)
   rw [Int.natCast_add] at this
   rw [show ((j:Int)+1)=(j:Int)+((1:Nat):Int) from rfl,this]
   omega
  unfold Jy
  rw [e]
  show ((t.cps.toList.drop (j+1)).take (t.length-(j+1))).toArray.toList=_
  rw [List.toList_toArray,take_of_length_le (by rw [length_drop];omega)]
 show ((Jy t none (some (j:Int))).cps++#[c]++(Jy t (some ((j:Int)+1)) none).cps).toList=_
 rw [toList_append,toList_append,e1,e2,List.set_eq_take_append_cons_drop,if_pos hj]
 simp
theorem zie {xs:List V}{j:Nat}(v:V)(hj:j<xs.length):yN xs none (some (j:Int))++[v]++yN xs (some ((j:Int)+1)) none=xs.set j v:=by
 have e1:yN xs none (some (j:Int))=xs.take j:=by
  have e:HT.sIx xs.length xs.length (some (j:Int))=j:=by
   rw [HT.Yw]
   omega
  unfold yN
  rw [e]
  show ((xs.drop 0).take (j-0))=_
  simp
 have e2:yN xs (some ((j:Int)+1)) none=xs.drop (j+1):=by
  have e:HT.sIx xs.length 0 (some ((j:Int)+1))=j+1:=by
   have:=HT.Yw xs.length 0 (j+1)
   rw [Int.natCast_add] at this
   rw [show ((j:Int)+1)=(j:Int)+((1:Nat):Int) from rfl,this]
   omega
  unfold yN
  rw [e]
  show ((xs.drop (j+1)).take (xs.length-(j+1)))=_
  rw [take_of_length_le (by rw [length_drop];omega)]
 rw [e1,e2,List.set_eq_take_append_cons_drop,if_pos hj]
 simp
theorem zbR {p:Nat->Bool}(i:Nat):∀(j:Nat) (t:List Nat) (m k k':Nat),t[m]?=some k->p k'=p k->Cells.zP p i j (t.set m k')=Cells.zP p i j t
 | j,c::r,0,k,k',h,e=>by
  have:c=k:=by simpa using h
  subst this
  rw [List.set_cons_zero,Cells.zP,Cells.zP,e]
 | j,c::r,m+1,k,k',h,e=>by
  rw [List.set_cons_succ,Cells.zP,Cells.zP,zbR i (j+1) r m k k' (by simpa using h) e]
theorem zbS {p:Nat->Bool}:∀(i:Nat) (gs:List (List Nat)) (m:Nat) (t t':List Nat),gs[m]?=some t->(∀i,Cells.zP p i 0 t'=Cells.zP p i 0 t)->Cells.zE p i (gs.set m t')=Cells.zE p i gs
 | i,c::r,0,t,t',h,e=>by
  have:c=t:=by simpa using h
  subst this
  rw [List.set_cons_zero,Cells.zE,Cells.zE,e]
 | i,c::r,m+1,t,t',h,e=>by
  rw [List.set_cons_succ,Cells.zE,Cells.zE,zbS (i+1) r m t t' (by simpa using h) e]
def zfG:Sp:=fun vs H Q _=>∃(p l:Addr) (rs:List Str) (n c:Int),vs=[.ref p,.int c]/\qz H p l rs n/\Rows bd.cps.toList rs /\
 ∀(p' l':Addr) (rs':List Str) (n':Int) (H':Hp),qz H' p' l' rs' n'->Rows bd.cps.toList rs'->qC rs'=qC rs->zy H H'->Q (.ref p') H'
theorem zif (c:Int):∃v:Int,atI [V.int (-1),V.int 1] (c%2)=some (.int v)/\-1<=v/\v<=1:=by
 have h:c%2=0\/c%2=1:=by omega
 rcases h with h | h
 ·rw [h]
  exact⟨-1,rfl,by decide,by decide⟩
 ·rw [h]
  exact⟨1,rfl,by decide,by decide⟩
theorem zll:∀d:Nat,d<9->((toString (d:Int):String):Str)=⟨#[48+d]⟩/\48+d∈bd.cps.toList/\JI (48+d)=false:=by decide +kernel
theorem zlm:∀k:Nat,k<57->48<=k->JI k=false:=by decide +kernel
theorem zln:∀k∈bd.cps.toList,Qx k=true->48<=k/\k<=56:=by decide +kernel
section
variable {P:Program}{w:World}{K:PySem.W.Frag}{mg:Str->Option Value}{base:Heap}{f:Addr}{fd:FuncData}
theorem qZ:zO ["_law_board_here","_law_cell","_law_rows","_law_stones","_law_opens","_law_row","_law_column","_law_number_here","_law_text"] ["_law_board_here","_law_cell"] (zk Zc):=⟨rfl,rfl,rfl,by decide +kernel,rfl,by decide +kernel,by decide +kernel⟩
theorem zdS {f2:Addr}{fd2:FuncData}(T:Txt mg)(D:zC K mg "_law_bent" Zc ["_law_board_here","_law_cell"] f fd)(zu:zC K mg "_law_cells" qQ ["_law_rows","_law_signs"] f2 fd2):zQ P w K mg base CX0 2 f fd ["_law_board_here","_law_cell"] zfG:=by
 have qS:zQ P w K mg base CX0 1 f2 fd2 ["_law_rows","_law_signs"] JP:=jX T zu
 refine D.F.ok qZ (fun vs H Q E h=>?_) (fun cdv A outer s H vs Q E hr h=>?_)
 ·obtain⟨p,l,rs,n,c,rfl,_⟩:=h
  rfl
 ·obtain⟨p,l,rs,n,c,rfl,b,R,q⟩:=h
  refine⟨_,(zf (Q4 (pv 0) (J0 rfl (qg (zF (i:=2) qZ.nd rfl (Or.inl rfl)) (qg (zF (i:=3) qZ.nd rfl (Or.inl rfl)) yX))))
   (zf (zH (i:=4) qZ.nd rfl (Or.inl rfl) (zB qS (hr.mono (by decide)) (by rfl) zu.g zu.F.kp zu.b .nil zV (za (pv 2) (za (qc (Zx rfl) (by rfl) T.yO PyProof.Rows.boot_list (za qx zc)) zc))))
   (zf (qo (PW.pt (xB (zq qU (zv zY (pv 1) ze) ze (zD _)) (jR (zq (qp hr.units) (pv 4) (zU zc) (zD _))))) (zf (Q4 (zw zT (pv 4) (zv zY (zv qk (pv 1) ze) (zm zx (by rfl) T.qR PySem.boot_len (za (pv 4) zc))) (fun _ _=>rfl)) (J0 rfl (qg (zF (i:=5) qZ.nd rfl (Or.inl rfl)) (qg (zF (i:=6) qZ.nd rfl (Or.inl rfl)) yX))))
   (zf (zH (i:=7) qZ.nd rfl (Or.inl rfl) (zm (Ju rfl) (by rfl) T.zbF PyProof.Rows.boot_max (za ze (za (zm (xx rfl) (by rfl) T.zat PyProof.Rows.boot_min (za ze (za (zv jS (qc YE (by rfl) T.zfq PyProof.Rows.boot_int (za (zw zb2 (zw zT (pv 2) (pv 5) (fun _ _=>rfl)) (pv 6) (fun _ _=>rfl)) zc)) (zw zT (zU (za (zcO Q5 ze) (za ze zc))) (zv zY (zv qk (pv 1) ze) ze) (fun _ _=>rfl))) zc))) zc))))
   (zf (zH (i:=8) qZ.nd rfl (Or.inl rfl) (zv Z9 (zv Z9 (xC zha (zw zT (pv 2) (pv 5) (fun _ _=>rfl)) yY (Je (pv 6))) (qc Yu (by rfl) T.zjv PyProof.Rows.boot_str (za (pv 7) zc))) (xC zha (zw zT (pv 2) (pv 5) (fun _ _=>rfl)) (Je (zv jS (pv 6) ze)) yY)))
   (zg (zG (zW (za (zv j9 (zv j9 (xC Yx (pv 2) yY (Je (pv 5))) (zU (za (pv 8) zc))) (xC Yx (pv 2) (Je (zv jS (pv 5) ze)) yY)) (za (pv 3) zc)))))))) zM)
   (zf (qo (zq qU (zv zY (pv 1) ze) ze (zD _)) (zg (zG (zW (za (pv 2) (za (zm (Ju rfl) (by rfl) T.zbF PyProof.Rows.boot_max (za ze (za (zv jS (pv 3) (zw zT (zU (za (zcO Q5 ze) (za ze zc))) (zv zY (zv qk (pv 1) ze) ze) (fun _ _=>rfl))) zc))) zc))))) zM)
   (zg (zG (pv 0))))))),?_⟩
  refine⟨_,rfl,p,_,rfl,SqT.of b.tp,rfl,_,_,rfl,_,_,rfl,rfl,?_⟩
  refine⟨_,rfl,"012345678",rfl,by decide,fun sg hsg=>?_⟩
  have z1:=zd (o:=.lst (("012345678":Str).cps.toList.map fun c=>V.str ⟨#[c]⟩)) hsg
  refine⟨l,sg,_,codes rs,[48,49,50,51,52,53,54,55,56],rfl,z1 _ _ b.rw,yQ.rows _ rs,by rw [qD];exact R.hi,R.short,by rw [zb,zfD],fun d ws H2 hd hd2 hc2 s2=>?_⟩
  have ec:Cells.zE (pZ [48,49,50,51,52,53,54,55,56]) 0 (codes rs)=jg rs:=zaJ 0 _ fun t ht k hk=>zfE k (R.signsIn t ht k hk)
  rw [ec] at hc2
  have s12:=z1.trans s2
  refine⟨_,rfl,_,_,rfl,rfl,(by show (0:Int)<4;decide),rfl,_,rfl,yc (fun _=>?_) (fun _=>?_)⟩
  ·refine⟨_,rfl,(by show 0<=sizeLine;decide),fun e he=>?_⟩
   have z3:=zd (o:=.lst []) he
   refine⟨.list ((jg rs).map zh),.list (([]:List (Nat×Nat)).map zh),.lst (SqL.of (z3 _ _ hd2)) (j6 (hc2.mono z3)),.lst (SqL.of zb) .nil,xT _ _,_,rfl,yc (fun hne=>?_) (fun _=>?_)⟩
   ·have s13:=s12.trans z3
    have hd3:=z3 _ _ hd2
    have hc3:=hc2.mono z3
    have hl3:=s13 _ _ b.rw
    have wl:=hc3.length
    have pos:0<ws.length:=by
     cases hb:jg rs with
     | nil =>
      rw [hb] at hne
      exact absurd hne (by decide)
     | cons x y =>
      rw [wl,hb]
      exact succ_pos _
    generalize upd H2 e (.lst [])=H3 at *
    have m0:=emod_nonneg (c/8) (show ((ws.length:Nat):Int)≠0 by omega)
    have m1:=Int.emod_lt_of_pos (c/8) (show (0:Int)<((ws.length:Nat):Int) by omega)
    obtain⟨x,hx⟩:∃x,ws[(c/8%((ws.length:Nat):Int)).toNat]?=some x:=⟨_,getElem?_eq_getElem (by omega)⟩
    obtain⟨y,hy,ya,rfl,hya⟩:=Cel.get hc3 hx
    obtain⟨i,j,u,k,ey,hu,hk,pk⟩:=Cells.qW (mem_of_getElem? hy)
    rw [zero_add] at ey
    subst ey
    obtain⟨t,ht,rfl⟩:∃t,rs[i]?=some t/\t.cps.toList=u:=by
     unfold codes at hu
     rw [getElem?_map] at hu
     cases e1:rs[i]? with
     | none =>
      rw [e1] at hu
      cases hu
     | some t =>
      rw [e1] at hu
      exact⟨t,rfl,Option.some.inj hu⟩
    refine⟨_,rfl,_,rfl,_,_,rfl,rfl,jq.small (by decide) (by decide),_,rfl,d,_,rfl,.inl (SqL.of hd3),_,_,rfl,rfl,(by show (0:Int)<((ws.length:Nat):Int);omega),d,_,_,_,rfl,rfl,SqL.of hd3,Jq m0 hx,?_⟩
    refine⟨ya,_,rfl,SqT.of hya,rfl,_,_,rfl,_,_,rfl,rfl,?_⟩
    have hat:(rs.map V.str)[((i:Nat):Int).toNat]?=some (V.str t):=by
     rw [toNat_natCast,getElem?_map,ht]
     rfl
    have hkj:t.cps.toList[((j:Nat):Int).toNat]?=some k:=by rw [toNat_natCast];exact hk
    have tm:=mem_of_getElem? ht
    have tl:t.cps.toList.length<=8:=R.short _ (mem_of_getElem? hu)
    have tll:t.length<=8:=by
     rw [<- show t.cps.toList.length=t.length from length_toList]
     exact tl
    have szl:t.length<=sizeLine:=le_trans tll (by decide)
    have jl:=(List.getElem?_eq_some_iff.mp hk).1
    have il:=(List.getElem?_eq_some_iff.mp ht).1
    obtain⟨k0,k1⟩:=zln k (R.signsIn _ (mem_of_getElem? hu) k (mem_of_getElem? hk)) pk
    obtain⟨v,hv,v0,v1⟩:=zif (c/4)
    refine⟨_,rfl,_,rfl,l,_,_,.str t,rfl,rfl,SqL.of hl3,Jq (by omega) hat,_,rfl,t,_,k,rfl,rfl,szl,Jq (by omega) hkj,_,_,rfl,int_sign k0 k1,(by show 1<=640;decide),_,rfl,(by show 2<=sizeLine;decide),fun lz hlz=>⟨_,rfl,_,_,rfl,rfl,jq.small (by decide) (by decide),_,_,rfl,rfl,(by show (0:Int)<2;decide),lz,_,_,_,rfl,rfl,SqL.of zb,hv,_,_,rfl,rfl,_,_,rfl,_,_,rfl,?_⟩⟩
    have s14:=s13.trans (zd (o:=.lst [V.int (-1),V.int 1]) hlz)
    generalize upd H3 lz (.lst [V.int (-1),V.int 1])=H4 at *
    have hl4:=s14 _ _ b.rw
    obtain⟨D9,hD,eD⟩:∃D:Nat,D<9/\(if (if (k:Int)-48+v<8 then (k:Int)-48+v else 8)>0 then (if (k:Int)-48+v<8 then (k:Int)-48+v else 8) else 0)=(D:Int):=by
     refine⟨(if (if (k:Int)-48+v<8 then (k:Int)-48+v else 8)>0 then (if (k:Int)-48+v<8 then (k:Int)-48+v else 8) else 0).toNat,?_,?_⟩
     ·split<;>split<;>omega
     ·split<;>split<;>omega
    rw [eD]
    obtain⟨d1,d2,d3⟩:=zll D9 hD
    have hlog:((D9:Nat):Int).natAbs.log2<1920:=by
     rw [Int.natAbs_natCast]
     have:∀d:Nat,d<9->d.log2<1920:=by decide +kernel
     exact this _ hD
    have cs:=zi9 (t:=t) (48+D9) jl
    have cl:((Jy t none (some ((j:Nat):Int))++(⟨#[48+D9]⟩:Str))++Jy t (some (((j:Nat):Int)+1)) none).cps.size=t.cps.toList.length:=by
     rw [<- length_toList,cs,List.length_set]
    have cl2:((Jy t none (some ((j:Nat):Int))).cps++#[48+D9]++(Jy t (some (((j:Nat):Int)+1)) none).cps).size=t.cps.toList.length:=cl
    rw [Array.size_append,Array.size_append] at cl2
    have hc:#[48+D9].size=1:=rfl
    refine⟨_,rfl,_,rfl,l,_,_,.str t,rfl,rfl,SqL.of hl4,Jq (by omega) hat,_,rfl,_,rfl,t,rfl,szl,_,rfl,_,rfl,hlog,_,_,rfl,rfl,?_,_,rfl,_,rfl,l,_,_,.str t,rfl,rfl,SqL.of hl4,Jq (by omega) hat,_,rfl,_,_,rfl,rfl,_,rfl,t,rfl,szl,_,_,rfl,rfl,?_,?_⟩
    ·rw [d1]
     refine le_trans (show _<=20 from ?_) (by decide)
     show (Jy t none (some ((j:Nat):Int))).cps.size + #[48+D9].size<=20
     omega
    ·rw [d1]
     refine le_trans (show _<=20 from ?_) (by decide)
     show ((Jy t none (some ((j:Nat):Int))).cps++#[48+D9]).size+(Jy t (some (((j:Nat):Int)+1)) none).cps.size<=20
     rw [Array.size_append]
     omega
    rw [d1]
    generalize Jy t none (some ((j:Nat):Int))++(⟨#[48+D9]⟩:Str)++Jy t (some (((j:Nat):Int)+1)) none=tx at *
    have cv:=zie (xs:=rs.map V.str) (j:=i) (.str tx) (by rw [length_map];exact il)
    have rl:(rs.map V.str).length<=8:=by rw [length_map];exact R.hi
    have c1:=Zs (rs.map V.str) none (some ((i:Nat):Int))
    have c2:=Zs (rs.map V.str) (some (((i:Nat):Int)+1)) none
    refine⟨_,rfl,_,rfl,_,rfl,l,_,rfl,SqL.of hl4,fun q1 hq1=>⟨_,rfl,(by show 1<=sizeLine;decide),fun q2 hq2=>?_⟩⟩
    have x1:=zd (o:=.lst (yN (rs.map V.str) none (some ((i:Nat):Int)))) hq1
    have x2:=zd (o:=.lst [V.str tx]) hq2
    refine⟨q1,q2,_,_,rfl,rfl,x2 _ _ zb,zb,?_,fun q3 hq3=>?_⟩
    ·exact le_trans (show (yN (rs.map V.str) none (some ((i:Nat):Int))).length+1<=20 by omega) (by decide)
    have x3:=zd (o:=.lst (yN (rs.map V.str) none (some ((i:Nat):Int))++[V.str tx])) hq3
    have x13:=x1.trans (x2.trans x3)
    refine⟨_,rfl,_,rfl,_,_,rfl,rfl,_,rfl,l,_,rfl,SqL.of (x13 _ _ hl4),fun q4 hq4=>?_⟩
    have x4:=zd (o:=.lst (yN (rs.map V.str) (some (((i:Nat):Int)+1)) none)) hq4
    refine⟨q3,q4,_,_,rfl,rfl,x4 _ _ zb,zb,?_,fun q5 hq5=>?_⟩
    ·rw [length_append]
     exact le_trans (show (yN (rs.map V.str) none (some ((i:Nat):Int))).length+1+(yN (rs.map V.str) (some (((i:Nat):Int)+1)) none).length<=20 by omega) (by decide)
    have x5:=zd (o:=.lst (yN (rs.map V.str) none (some ((i:Nat):Int))++[V.str tx]++yN (rs.map V.str) (some (((i:Nat):Int)+1)) none)) hq5
    refine⟨_,rfl,(by show 2<=sizeLine;decide),fun tp htp=>?_⟩
    have x6:=zd (o:=.tup [.ref q5,.int n]) htp
    refine q tp q5 (rs.set i tx) n _ ⟨zb,?_⟩ ⟨by rw [List.length_set];exact R.lo,by rw [List.length_set];exact R.hi,?_⟩ ?_ (s14.trans (x13.trans (x4.trans (x5.trans x6))))
    ·refine x6 _ _ ?_
     rw [zb,cv,List.map_set]
    ·obtain⟨m,a1,a8,hr⟩:=R.ex
     refine⟨m,a1,a8,fun u hu=>?_⟩
     rcases List.mem_or_eq_of_mem_set hu with hu | hu
     ·exact hr u hu
     ·rw [hu]
      refine⟨?_,fun z hz=>?_⟩
      ·rw [cl,length_toList]
       exact(hr t tm).len
      ·rw [cs] at hz
       rcases List.mem_or_eq_of_mem_set hz with hz | hz
       ·exact(hr t tm).mem z hz
       ·rw [hz]
        exact d2
    ·unfold qC codes
     rw [List.map_set]
     refine zbS 0 _ i t.cps.toList _ hu fun i'=>?_
     rw [cs]
     exact zbR i' 0 _ j k _ hk (d3.trans (zlm k (by omega) k0).symm)
   ·have s13:=s12.trans z3
    refine⟨_,rfl,_,_,rfl,rfl,(by show (0:Int)<4;decide),rfl,_,rfl,yc (fun _=>?_) (fun _=>⟨_,rfl,q p l rs n _ (b.mono s13) R rfl s13⟩)⟩
    obtain⟨v,hv,_,_⟩:=zif (c/4)
    refine⟨_,rfl,_,rfl,_,rfl,(by show 2<=sizeLine;decide),fun lz hlz=>⟨_,rfl,_,_,rfl,rfl,jq.small (by decide) (by decide),_,_,rfl,rfl,(by show (0:Int)<2;decide),lz,_,_,_,rfl,rfl,SqL.of zb,hv,_,_,rfl,rfl,_,_,rfl,(by show 2<=sizeLine;decide),fun tp htp=>?_⟩⟩
    have y1:=s13.trans (zd (o:=.lst [V.int (-1),V.int 1]) hlz)
    exact q tp l rs _ _ ⟨zb,zd htp _ _ (y1 _ _ b.rw)⟩ R rfl (y1.trans (zd htp))
  ·refine xD ?_
   refine⟨_,rfl,_,_,rfl,rfl,(by show (0:Int)<4;decide),rfl,_,rfl,yc (fun _=>?_) (fun _=>⟨_,rfl,q p l rs n _ (b.mono s12) R rfl s12⟩)⟩
   obtain⟨v,hv,_,_⟩:=zif (c/4)
   refine⟨_,rfl,_,rfl,_,rfl,(by show 2<=sizeLine;decide),fun lz hlz=>⟨_,rfl,_,_,rfl,rfl,jq.small (by decide) (by decide),_,_,rfl,rfl,(by show (0:Int)<2;decide),lz,_,_,_,rfl,rfl,SqL.of zb,hv,_,_,rfl,rfl,_,_,rfl,(by show 2<=sizeLine;decide),fun tp htp=>?_⟩⟩
   have y1:=s12.trans (zd (o:=.lst [V.int (-1),V.int 1]) hlz)
   exact q tp l rs _ _ ⟨zb,zd htp _ _ (y1 _ _ b.rw)⟩ R rfl (y1.trans (zd htp))
end
theorem zdT:∀(l:List Nat) (lo hi:Nat),l.Pairwise (fun a b=>a<b)->(∀x∈l,lo<=x/\x<hi)->l.length<=hi-lo
 | [],_,_,_,_=>zero_le _
 | x::r,lo,hi,hp,hb=>by
  have h1:=List.pairwise_cons.mp hp
  have h2:=zdT r (x+1) hi h1.2 fun y hy=>⟨h1.1 y hy,(hb y (mem_cons_of_mem _ hy)).2⟩
  have h3:=hb x mem_cons_self
  rw [length_cons]
  omega
noncomputable def zeK (c x:Nat×Nat):Nat:=if 3*(x.1+1-c.1)+(x.2+1-c.2)>4 then 3*(x.1+1-c.1)+(x.2+1-c.2)-1 else 3*(x.1+1-c.1)+(x.2+1-c.2)
theorem zaM {p:Nat->Bool}(gs:List (List Nat))(c:Nat×Nat):((Cells.zE p 0 gs).filter fun x=>Cells.near x c).length<=8:=by
 have hp:=(Cells.ZS p 0 gs).filter fun x=>Cells.near x c
 have hn:∀x∈(Cells.zE p 0 gs).filter (fun x=>Cells.near x c),(x.1<=c.1+1/\c.1<=x.1+1)/\(x.2<=c.2+1/\c.2<=x.2+1)/\¬ (x.1=c.1/\x.2=c.2):=fun x hx=>by
  have h:=(Cells.xO x c).mp (List.mem_filter.mp hx).2
  exact⟨h.1,h.2.1,fun z=>h.2.2 (Prod.ext z.1 z.2)⟩
 generalize (Cells.zE p 0 gs).filter (fun x=>Cells.near x c)=L at *
 have h:=zdT (L.map (zeK c)) 0 8 (List.pairwise_map.mpr (hp.imp_of_mem fun {a b} ha hb hl=>?_)) fun y hy=>?_
 ·rw [length_map] at h
  exact h
 ·have h1:=hn a ha
  have h2:=hn b hb
  have h3:a.1<b.1\/(a.1=b.1/\a.2<b.2):=hl
  unfold zeK
  split<;>split<;>omega
 ·obtain⟨x,hx,rfl⟩:=List.mem_map.mp hy
  have h1:=hn x hx
  unfold zeK
  split<;>omega
noncomputable def stM (gs:List (List Nat)):List (Nat×Nat):=Cells.zE (pZ [111]) 0 gs
noncomputable def nrM (gs:List (List Nat))(i j:Nat):List (Nat×Nat):=(stM gs).filter fun x=>Cells.near x (i,j)
noncomputable def QJ (gs:List (List Nat))(i j k:Nat):Nat:=if k=46 then 48+(nrM gs i j).length else if jm k=true then 63 else k
noncomputable def zgJ (gs:List (List Nat))(i:Nat)(t:List Nat):List Nat:=t.mapIdx (QJ gs i)
noncomputable def zdU (gs:List (List Nat)):List (List Nat):=gs.mapIdx (zgJ gs)
theorem QD {α β:Type}(f:Nat->α->β){t:List α}{j:Nat}{k:α}(h:t[j]?=some k):(t.take (j+1)).mapIdx f=(t.take j).mapIdx f++[f j k]:=by
 obtain⟨hl,e⟩:=List.getElem?_eq_some_iff.mp h
 rw [take_add_one,h,List.mapIdx_append]
 simp only [Option.toList_some,List.mapIdx_cons,List.mapIdx_nil,length_take]
 rw [zero_add,Nat.min_eq_left (by omega)]
theorem YX {p q:Nat->Bool}{f:Nat->Nat->Nat}(i:Nat)(hf:∀m c,p (f m c)=q c):∀(j m:Nat) (t:List Nat),Cells.zP p i j (t.mapIdx fun a=>f (a+m))=Cells.zP q i j t
 | _,_,[]=>rfl
 | j,m,c::r=>by
  rw [List.mapIdx_cons,Cells.zP,Cells.zP,hf]
  have:=YX i hf (j+1) (m+1) r
  have e:(fun a=>f (a+(m+1)))=fun a=>f (a+1+m):=by
   funext a
   congr 1
   omega
  rw [e] at this
  rw [this]
theorem YY {p q:Nat->Bool}{f:Nat->List Nat->List Nat}(hf:∀m i t,Cells.zP p i 0 (f m t)=Cells.zP q i 0 t):∀(i m:Nat) (gs:List (List Nat)),Cells.zE p i (gs.mapIdx fun a=>f (a+m))=Cells.zE q i gs
 | _,_,[]=>rfl
 | i,m,t::r=>by
  rw [List.mapIdx_cons,Cells.zE,Cells.zE,hf]
  have:=YY hf (i+1) (m+1) r
  have e:(fun a=>f (a+(m+1)))=fun a=>f (a+1+m):=by
   funext a
   congr 1
   omega
  rw [e] at this
  rw [this]
theorem zgK (gs:List (List Nat))(i j k:Nat):JI (QJ gs i j k)=(jm k || decide (k=63)):=by
 unfold QJ
 have h8:(nrM gs i j).length<=8:=zaM gs (i,j)
 by_cases h1:k=46
 ·rw [if_pos h1,h1]
  show decide (48+(nrM gs i j).length=63)=false
  exact decide_eq_false (by omega)
 ·rw [if_neg h1]
  by_cases h2:jm k=true
  ·rw [if_pos h2,h2]
   rfl
  ·rw [if_neg h2,Bool.eq_false_iff.mpr h2]
   rfl
theorem zig {gs:List (List Nat)}:Cells.zE JI 0 (zdU gs)=Cells.zE (fun k=>jm k || decide (k=63)) 0 gs:=by
 have h:=YY (p:=JI) (q:=fun k=>jm k || decide (k=63)) (f:=zgJ gs) (fun m i t=>YX (f:=QJ gs m) i (fun a c=>zgK gs m a c) 0 0 t) 0 0 gs
 exact h
theorem zbT (i:Nat):∀(j:Nat) (t:List Nat),(∀k∈t,k∈marks)->(Cells.zP (fun k=>jm k || decide (k=63)) i j t).length=Qp t
 | _,[],_=>rfl
 | j,c::r,h=>by
  have ih:=zbT i (j+1) r fun k hk=>h k (mem_cons_of_mem _ hk)
  have hc:∀k∈marks,(jm k || decide (k=63))=jm k:=by decide
  have e:=hc c (h c mem_cons_self)
  unfold Qp at ih ⊢
  rw [Cells.zP,filter_cons]
  by_cases hs:jm c=true
  ·rw [if_pos hs,if_pos (e.trans hs),length_append,length_cons,length_cons,length_nil,ih]
   omega
  ·rw [if_neg hs,if_neg (by rw [e];exact hs),List.nil_append,ih]
theorem zbU:∀(i:Nat) (gs:List (List Nat)),(∀t∈gs,∀k∈t,k∈marks)->(Cells.zE (fun k=>jm k || decide (k=63)) i gs).length=YW gs
 | _,[],_=>rfl
 | i,t::r,h=>by
  have ih:=zbU (i+1) r fun u hu=>h u (mem_cons_of_mem _ hu)
  have e:=zbT i 0 t (h t mem_cons_self)
  unfold YW at ih ⊢
  rw [Cells.zE,length_append,map_cons,List.sum_cons,ih,e]
theorem Z6.few8 {gs:List (List Nat)}{rs:List Str}(M:Z6 gs)(h:codes rs=zdU gs):(qC rs).length<=12:=by
 unfold qC
 obtain⟨n,_,_,hn⟩:=M.ex
 rw [h,zig,zbU 0 gs fun t ht=>(hn t ht).2]
 exact le_trans M.few (by decide)
theorem Z6.rows {gs:List (List Nat)}{rs:List Str}(M:Z6 gs)(h:codes rs=zdU gs):Rows bd.cps.toList rs:=by
 have hl:rs.length=gs.length:=by
  have e:(codes rs).length=(zdU gs).length:=by rw [h]
  rw [qD] at e
  unfold zdU at e
  rw [List.length_mapIdx] at e
  exact e
 obtain⟨n,n1,n8,hn⟩:=M.ex
 refine⟨by rw [hl];exact M.lo,by rw [hl];exact M.hi,n,n1,n8,fun t ht=>?_⟩
 have hm:t.cps.toList∈zdU gs:=by
  rw [<- h]
  exact List.mem_map_of_mem ht
 unfold zdU at hm
 obtain⟨i,hi,e⟩:=List.mem_mapIdx.mp hm
 have hg:=hn gs[i] (getElem_mem hi)
 refine⟨?_,fun k hk=>?_⟩
 ·have e2:t.cps.toList.length=n:=by
   rw [<- e]
   unfold zgJ
   rw [List.length_mapIdx,hg.1]
  rw [length_toList] at e2
  exact e2
 ·rw [<- e] at hk
  unfold zgJ at hk
  obtain⟨j,hj,e3⟩:=List.mem_mapIdx.mp hk
  have hx:=hg.2 _ (getElem_mem hj)
  have h8:(nrM gs i j).length<=8:=zaM gs (i,j)
  rw [<- e3]
  unfold QJ
  split
  ·have:∀d:Nat,d<9->48+d∈bd.cps.toList:=by decide +kernel
   exact this _ (by omega)
  ·split
   ·decide +kernel
   ·rename_i a b
    have:∀k∈marks,k≠46->jm k≠true->k∈bd.cps.toList:=by decide +kernel
    exact this _ hx a b
def zdV:Sp:=fun vs H Q _=>∃(d:Addr) (us:List V) (gs:List (List Nat)),vs=[.ref d]/\H d=some (.lst us)/\yK H us gs/\Z6 gs /\
 ∀(p l:Addr) (rs:List Str) (H':Hp),H p=none->H l=none->qz H' p l rs ((stM gs).length:Nat)->codes rs=zdU gs->zy H H'->Q (.ref p) H'
theorem zkt:∀k∈marks,k≠46->(qV (J2 [] [(.inr "o",V.str "?"),(.inr "c",V.str "?")]) (.inr ⟨#[k]⟩)).getD (V.str ⟨#[k]⟩)=V.str ⟨#[if jm k=true then 63 else k]⟩:=by
 intro k hk h
 have hm:k=35\/k=111\/k=99\/k=46:=by simpa [marks] using hk
 rcases hm with rfl | rfl | rfl | rfl
 ·rfl
 ·rfl
 ·rfl
 ·exact absurd rfl h
theorem zku:∀d:Nat,d<9->(qV (J2 [] [(.inr "o",V.str "?"),(.inr "c",V.str "?")]) (.inr ⟨#[48+d]⟩)).getD (V.str ⟨#[48+d]⟩)=V.str ⟨#[48+d]⟩:=by
 intro d hd
 have hm:d=0\/d=1\/d=2\/d=3\/d=4\/d=5\/d=6\/d=7\/d=8:=by omega
 rcases hm with rfl | rfl | rfl | rfl | rfl | rfl | rfl | rfl | rfl<;>rfl
section
variable {P:Program}{w:World}{K:PySem.W.Frag}{mg:Str->Option Value}{base:Heap}{f:Addr}{fd:FuncData}
theorem qA:zO ["_law_marks","_law_stones","_law_rows","_law_row","_law_text","_law_column","_law_sign"] ["_law_marks"] (zk yI):=⟨rfl,rfl,rfl,by decide +kernel,rfl,by decide +kernel,by decide +kernel⟩
theorem zcF {f1 f2:Addr}{fd1 fd2:FuncData}(T:Txt mg)(D:zC K mg "_law_board" yI ["_law_marks"] f fd)(qq:zC K mg "_law_near" ye ["_law_one","_law_other"] f1 fd1)(zu:zC K mg "_law_cells" qQ ["_law_rows","_law_signs"] f2 fd2):zQ P w K mg base CX0 2 f fd ["_law_marks"] zdV:=by
 have Yl:zQ P w K mg base CX0 1 f1 fd1 ["_law_one","_law_other"] zcA:=QB T qq
 have qS:zQ P w K mg base CX0 1 f2 fd2 ["_law_rows","_law_signs"] JP:=jX T zu
 refine D.F.ok qA (fun vs H Q E h=>?_) (fun cdv A outer s H vs Q E hr h=>?_)
 ·obtain⟨d,us,gs,rfl,_⟩:=h
  rfl
 ·obtain⟨d,us,gs,rfl,hd,hM,M,q⟩:=h
  refine⟨_,(zf (zH (i:=1) qA.nd rfl (Or.inl rfl) (zB qS (hr.mono (by decide)) (by rfl) zu.g zu.F.kp zu.b .nil zV (za (pv 0) (za (zU (za qx zc)) zc))))
   (zf (zH (i:=2) qA.nd rfl (Or.inl rfl) (zU zc))
   (zf (yL PassesOwn.never rfl (xw (by rfl) T.xj (za (zm zx (by rfl) T.qR PySem.boot_len (za (pv 0) zc)) zc)) (zF (i:=3) qA.nd rfl (Or.inr rfl)) (zf (zH (i:=4) qA.nd rfl (Or.inl rfl) qx)
   (zf (yL PassesOwn.never rfl (xw (by rfl) T.xj (za (zm zx (by rfl) T.qR PySem.boot_len (za (zw zT (pv 0) (pv 3) (fun _ _=>rfl)) zc)) zc)) (zF (i:=5) qA.nd rfl (Or.inr rfl)) (zf (zH (i:=6) qA.nd rfl (Or.inl rfl) (zw zT (zw zT (pv 0) (pv 3) (fun _ _=>rfl)) (pv 5) (fun _ _=>rfl)))
   (QO (qo (zq qU (pv 6) qx (zD _)) (zg (zH (i:=6) qA.nd rfl (Or.inl rfl) (qc Yu (by rfl) T.zjv PyProof.Rows.boot_str (za (zm zx (by rfl) T.qR PySem.boot_len (za (qw (N:=["_law_one","_law_row","_law_column"]) (src:=[none,some 3,some 5]) (ql.free (O:=(zk yI).names) (XN:=["_law_marks","_law_stones","_law_rows","_law_row","_law_text","_law_column","_law_sign"]) rfl rfl ⟨_,rfl⟩ rfl rfl (by decide +kernel) (by decide +kernel) (by decide +kernel) rfl (by decide +kernel)) rfl (qt (pv 1)) (fun _ _ _ _ _=>(zF (i:=0) (by show List.Nodup (["_law_one","_law_row","_law_column"]:List Str);decide +kernel) rfl (Or.inl rfl))) (fun _ _ _ _ _=>(qE (zbp (K:=K) (by rfl) (zB Yl (hr.mono (by decide)) (by rfl) qq.g qq.F.kp qq.b .nil zV (za (pv 0) (za (zW (za (pv 1) (za (pv 2) zc))) zc))) (fun _=>rfl)))) (fun _ _ _ _ _=>(pv 0))) zc)) zc)))) zM)
   (zg (zH (i:=4) qA.nd rfl (Or.inl rfl) (zv Z9 (pv 4) (zc2 (u1 hr.units) (ziG (zc1 qx qx (zc1 qx qx ziF)) rfl rfl (by simp) (by decide)) (pv 6) (pv 6) ⟨rfl,rfl,rfl,rfl⟩)))))))
   (zg (jF (Zo PySem.F.plainAttrs_list PySem.F.slot_list_append PySem.F.type_list_append jj (pv 2) (za (pv 4) zc)))))))
   (zg (zG (zW (za (pv 2) (za (zm zx (by rfl) T.qR PySem.boot_len (za (pv 1) zc)) zc)))))))),?_⟩
  have ul:us.length=gs.length:=Paired.length hM
  have g8:=M.hi
  refine⟨_,rfl,(by show 1<=sizeLine;decide),fun sg hsg=>?_⟩
  have z1:=zd (o:=.lst [V.str "o"]) hsg
  refine⟨d,sg,us,gs,[111],rfl,z1 _ _ hd,(hM.mono z1).grid,M.hi,M.t8,by rw [zb,zkr];rfl,fun sa sv H2 hsa zkv hc2 s2=>?_⟩
  have hcs:Cel H2 sv (stM gs):=hc2
  have s02:=z1.trans s2
  refine⟨(by show 0<=sizeLine;decide),fun l hl=>?_⟩
  have z3:=zd (o:=.lst []) hl
  have s03:=s02.trans z3
  have hl3:upd H2 l (.lst []) l=some (.lst []):=zb
  have hsa3:=z3 _ _ zkv
  have hcs3:=hcs.mono z3
  have lfree:=s02.free hl
  generalize upd H2 l (.lst [])=H3 at *
  refine⟨_,rfl,d,_,rfl,.inl (SqL.of (s03 _ _ hd)),_,rfl,by omega,by omega,?_⟩
  rw [toNat_natCast,ul]
  refine ji (lo:=0) (n:=gs.length) (fun i σ H'=>∃(v3 v4 v5 v6:Option V) (rs:List Str),σ=[some (.ref d),some (.ref sa),some (.ref l),v3,v4,v5,v6]/\zy H H'/\zh9 H3 H' l/\H' l=some (.lst (rs.map V.str))/\codes rs=(gs.take i).mapIdx (zgJ gs)) ⟨_,_,_,_,[],rfl,s03,fun _ _ _ e=>e,hl3,rfl⟩ ?_ ?_
  ·rintro i σ H4 hi ⟨v3,v4,v5,v6,rs,rfl,s4,s34,hl4,er⟩
   obtain⟨t,ht⟩:∃t,gs[i]?=some t:=⟨_,getElem?_eq_getElem hi⟩
   have tl:=M.t8 t (mem_of_getElem? ht)
   obtain⟨ra,hra,hra0⟩:=zcE (hM.mono s4) ht
   have hat:atI us (0+(i:Int))=some (V.ref ra):=by
    rw [Int.zero_add]
    exact ja hra
   have nsa:sa≠l:=zj zkv hl
   have hsa4:=s34 _ _ nsa hsa3
   have hcs4:Cel H4 sv (stM gs):=Cel.one s34 hl3 hcs3
   have zl:(t.map fun c=>V.str ⟨#[c]⟩).length=t.length:=length_map _
   refine⟨_,rfl,_,rfl,d,_,_,_,rfl,rfl,SqL.of (s4 _ _ hd),hat,ra,_,rfl,.inl (SqL.of hra0),_,rfl,by rw [zl];omega,by rw [zl];omega,?_⟩
   rw [toNat_natCast,zl]
   refine ji (lo:=0) (n:=t.length) (fun j σ H'=>∃(v5 v6:Option V) (tx:Str),σ=[some (.ref d),some (.ref sa),some (.ref l),some (.int (0+(i:Int))),some (.str tx),v5,v6]/\zy H4 H'/\tx.cps.toList=(t.take j).mapIdx (QJ gs i)) ⟨_,_,_,rfl,zy.refl _,rfl⟩ ?_ ?_
   ·rintro j σ H5 hj ⟨v5,v6,tx,rfl,s5,et⟩
    obtain⟨k,hk⟩:∃k,t[j]?=some k:=⟨_,getElem?_eq_getElem hj⟩
    obtain⟨n,n1,n8,hn⟩:=M.ex
    have km:=(hn t (mem_of_getElem? ht)).2 k (mem_of_getElem? hk)
    have txl:tx.length=j:=by
     rw [<- show tx.cps.toList.length=tx.length from length_toList,et,List.length_mapIdx,length_take]
     omega
    have s45:=s4.trans s5
    refine⟨_,rfl,_,rfl,d,_,_,_,rfl,rfl,SqL.of (s45 _ _ hd),hat,_,rfl,ra,_,_,V.str ⟨#[k]⟩,rfl,rfl,SqL.of (s5 _ _ hra0),(by rw [Int.zero_add];exact ja (by rw [getElem?_map,hk];rfl)),?_⟩
    have fin:∀(c:Nat) (H6:Hp) (v6:V),zy H5 H6->c=QJ gs i j k->∃(v5 v6':Option V) (tx':Str),[some (V.ref d),some (V.ref sa),some (V.ref l),some (V.int (0+(i:Int))),some (V.str (tx++⟨#[c]⟩)),some (V.int (0+(j:Int))),some v6]=[some (V.ref d),some (V.ref sa),some (V.ref l),some (V.int (0+(i:Int))),some (V.str tx'),v5,v6']/\zy H4 H6/\tx'.cps.toList=(t.take (j+1)).mapIdx (QJ gs i):=fun c H6 v6 s6 ec=>by
     refine⟨_,_,_,rfl,s5.trans s6,?_⟩
     rw [QD _ hk,<- et,<- ec]
     show (tx.cps++#[c]).toList=_
     rw [toList_append]
    refine⟨fun σ' H'=>∃c:Nat,σ'=[some (.ref d),some (.ref sa),some (.ref l),some (.int (0+(i:Int))),some (.str tx),some (.int (0+(j:Int))),some (.str ⟨#[c]⟩)]/\zy H5 H'/\(qV (J2 [] [(.inr "o",V.str "?"),(.inr "c",V.str "?")]) (.inr ⟨#[c]⟩)).getD (V.str ⟨#[c]⟩)=V.str ⟨#[QJ gs i j k]⟩,?_,?_⟩
    ·by_cases h46:k=46
     ·have hsa5:=s5 _ _ hsa4
      have hcs5:=hcs4.mono s5
      have n8':(nrM gs i j).length<=8:=zaM gs (i,j)
      refine⟨_,rfl,rfl,_,rfl,qP (by rw [h46];decide +kernel) ?_⟩
      refine⟨_,rfl,sa,rfl,⟨_,SqL.of hsa5⟩,fun z hz=>?_⟩
      refine qJ (K:=K) (a:=sa) (xs:=sv) (fun a=>a≠z) ((stM gs).map fun x=>if Cells.near x (i,j)=true then some (zh x) else none) (fun σ=>∃u0,σ=[u0,some (.int (0+(i:Int))),some (.int (0+(j:Int)))]) hz (fun _ h=>h) ⟨_,rfl⟩ (by rw [length_map];exact hcs5.length.symm) (by rw [hcs5.length];exact le_trans (show (stM gs).length<=64 from le_trans (Cells.qu (pZ [111]) 0 gs M.t8) (by omega)) (by decide)) (SqL.of hsa5) ?_ ?_
      ·rintro m x o σ H6 hx ho s6 _ ⟨u0,rfl⟩ Y Z yes no
       obtain⟨y,hy,ya,rfl,hya⟩:=Cel.get (Cel.mono s6 hcs5) hx
       have eo:=yP hy ho
       refine⟨_,rfl,_,rfl,_,rfl,(by show 2<=sizeLine;decide),fun tq htq=>?_⟩
       have z7:=zd (o:=.tup [V.int (0+(i:Int)),V.int (0+(j:Int))]) htq
       refine⟨ya,tq,y,(i,j),rfl,z7 _ _ hya,by rw [zb,Int.zero_add,Int.zero_add],_,rfl,?_⟩
       by_cases hp:Cells.near y (i,j)=true
       ·rw [if_pos hp] at eo
        exact qP hp ⟨_,rfl,yes _ _ _ _ eo ⟨_,rfl⟩ z7 (j5.rdn ⟨ya,rfl,z7 _ _ hya⟩)⟩
       ·rw [if_neg hp] at eo
        exact qH (Bool.eq_false_iff.mpr hp) (no _ _ eo ⟨_,rfl⟩ z7)
      ·rintro ys H6 s6 hz6 hr6
       rw [qf] at hr6
       have yl:ys.length=(nrM gs i j).length:=(zJ.cel hr6).length
       have y9:ys.length<9:=by omega
       obtain⟨d1,d2,d3⟩:=zll ys.length y9
       have hlog:((ys.length:Nat):Int).natAbs.log2<1920:=by
        rw [Int.natAbs_natCast]
        have:∀d:Nat,d<9->d.log2<1920:=by decide +kernel
        exact this _ y9
       refine⟨z,_,rfl,.inl (SqL.of hz6),_,rfl,hlog,48+ys.length,?_,s6,?_⟩
       ·rw [<- d1]
        rfl
       ·rw [zku _ y9,yl]
        unfold QJ
        rw [if_pos h46]
     ·refine⟨_,rfl,rfl,_,rfl,qH ?_ ⟨k,rfl,zy.refl _,?_⟩⟩
      ·have:∀k∈marks,k≠46->decide (V.str ⟨#[k]⟩=V.str ".")=false:=by decide +kernel
       exact this k km h46
      ·rw [zkt k km h46]
       unfold QJ
       rw [if_neg h46]
    ·rintro _ H6 ⟨c,rfl,s6,hg⟩
     refine⟨_,rfl,fun dp hdp=>?_⟩
     have z7:=zd (o:=.dK []) hdp
     have hup:zy H6 (upd (upd H6 dp (.dK [])) dp (.dK (J2 [] [(.inr "o",V.str "?"),(.inr "c",V.str "?")]))):=fun b o e=>by
      rw [zo (zj e hdp)]
      exact z7 _ _ e
     refine⟨zb,[(.inr "o",V.str "?"),(.inr "c",V.str "?")],rfl,by decide,dp,rfl,.inl ⟨_,.inl zb⟩,_,rfl,_,rfl,_,zae.k (k:=.inr ⟨#[c]⟩) zb,tx,⟨#[QJ gs i j k]⟩,rfl,hg,?_,fin _ _ _ (s6.trans hup) rfl⟩
     rw [txl]
     exact le_trans (show j+1<=20 by omega) (by decide)
   ·rintro σ H5 ⟨v5,v6,tx,rfl,s5,et⟩
    rw [take_length] at et
    have hl5:=s5 _ _ hl4
    have rl:rs.length<=8:=by
     have:(codes rs).length=((gs.take i).mapIdx (zgJ gs)).length:=by rw [er]
     rw [qD,List.length_mapIdx,length_take] at this
     omega
    refine⟨_,rfl,.inl ⟨rfl,_,SqL.of hl5⟩,_,rfl,l,_,_,rfl,rfl,hl5,?_,?_⟩
    ·rw [length_map]
     exact lt_of_le_of_lt rl (by decide)
    refine⟨_,_,_,_,rs++[tx],rfl,fun b o e=>?_,fun b o nb e=>?_,?_,?_⟩
    ·rw [zo (zj e lfree)]
     exact s5 _ _ (s4 _ _ e)
    ·rw [zo nb]
     exact s5 _ _ (s34 _ _ nb e)
    ·rw [zb,map_append]
     rfl
    ·rw [QD _ ht,<- er]
     unfold codes
     rw [map_append]
     show _++[tx.cps.toList]=_
     rw [et]
     rfl
  ·rintro σ H4 ⟨v3,v4,v5,v6,rs,rfl,s4,s34,hl4,er⟩
   rw [take_length] at er
   have nsa:sa≠l:=zj zkv hl
   have hsa4:=s34 _ _ nsa hsa3
   refine⟨_,rfl,_,rfl,sa,_,rfl,.inl (SqL.of hsa4),(by show 2<=sizeLine;decide),fun p hp=>?_⟩
   have z5:=zd (o:=.tup [V.ref l,V.int ((sv.length:Nat):Int)]) hp
   refine q p l rs _ (s4.free hp) lfree ⟨?_,z5 _ _ hl4⟩ er (s4.trans z5)
   rw [zb,hcs3.length]
end
theorem zlo {A G:Hp->Prop}{R:Prop}(k:∀H,A H->G H)(h:(∀H,A H->G H)->R):R:=h k
theorem zfH {cs:List (Nat×Nat)}(b:∀c∈cs,c.1<8/\c.2<8):∀p∈cs.map toI,ST.InB p:=fun p hp=>by
 obtain⟨x,hx,rfl⟩:=List.mem_map.mp hp
 have:=b x hx
 unfold ST.InB toI
 show (0<=((x.1:Nat):Int)/\((x.1:Nat):Int)<8)/\(0<=((x.2:Nat):Int)/\((x.2:Nat):Int)<8)
 omega
theorem QX {cs:List (Nat×Nat)}(h:cs.length<=60):∀l:List (Int×Int),l.Nodup->(∀c∈l,c∈cs.map toI)->l.length<=63:=fun l hn hs=>by
 have:=hn.length_le_of_subset (hs:l ⊆ cs.map toI)
 rw [length_map] at this
 omega
theorem zaN {cs:List (Nat×Nat)}{ks:List (Addr×(Int×Int))}{ps:List (Int×Int)}(hmem:∀c,c∈ks.map (·.2)↔c∈cs.map toI)(zcY:ps.Perm (ks.map (·.2)))(hup:Up2 ps):∃ds:List (Nat×Nat),ps=ds.map toI/\ds.Pairwise Cells.lex/\∀x,x∈ds↔x∈cs:=by
 have hin:∀c,c∈ps↔c∈cs.map toI:=fun c=>zcY.mem_iff.trans (hmem c)
 have e:ps=(ps.map ofI).map toI:=by
  rw [map_map]
  refine(List.map_id ps).symm.trans (map_congr_left fun p hp=>?_)
  obtain⟨c,_,rfl⟩:=List.mem_map.mp ((hin p).mp hp)
  rfl
 rw [e] at hup hin
 refine⟨ps.map ofI,e,zex hup,fun x=>?_⟩
 have h1:toI x∈(ps.map ofI).map toI↔x∈ps.map ofI:=by
  rw [List.mem_map]
  exact⟨fun ⟨y,hy,e⟩=>zcp e ▸ hy,fun h=>⟨x,h,rfl⟩⟩
 have h2:toI x∈cs.map toI↔x∈cs:=by
  rw [List.mem_map]
  exact⟨fun ⟨y,hy,e⟩=>zcp e ▸ hy,fun h=>⟨x,h,rfl⟩⟩
 exact h1.symm.trans ((hin (toI x)).trans h2)
theorem set_same {cs ds:List (Nat×Nat)}(hl:ds.Pairwise Cells.lex)(hm:∀x,x∈ds↔x∈cs):ds=cs↔cs.Pairwise Cells.lex :=
 ⟨fun e=>e ▸ hl,fun h=>zdB ((List.perm_ext_iff_of_nodup (jN hl) (jN h)).mpr hm) hl h⟩
theorem zgL {o:Option (List (Nat×Nat)×List (Nat×Nat))}{c1 c2:List (Nat×Nat)}(h:zdH o c1 c2=true):∃d1 d2,o=some (d1,d2)/\c1++c2 ≠ []/\(c1=d1.filter fun c=>decide (c∈c1))/\c2=d2.filter fun c=>decide (c∈c2):=by
 cases o with
 | none=>cases h
 | some d =>
  obtain⟨d1,d2⟩:=d
  have h':(decide (c1++c2 ≠ [])&&(decide (c1=d1.filter fun c=>decide (c∈c1))&&decide (c2=d2.filter fun c=>decide (c∈c2))))=true:=h
  rw [and_eq_true,and_eq_true,decide_eq_true_eq,decide_eq_true_eq,decide_eq_true_eq] at h'
  exact⟨d1,d2,rfl,h'.1,h'.2.1,h'.2.2⟩
theorem Zl {c d:List (Nat×Nat)}(e:c=d.filter fun x=>decide (x∈c)):∀x∈c,x∈d:=fun x hx=>by
 rw [e] at hx
 exact(List.mem_filter.mp hx).1
theorem zaO {c d:List (Nat×Nat)}(hc:c.Pairwise Cells.lex)(hd:d.Pairwise Cells.lex)(h:∀x∈c,x∈d):c=d.filter fun x=>decide (x∈c):=zcs hd (List.Perm.refl _) hc h
section
variable {rs:List Str}{n:Int}{cl st c1 c2:List (Nat×Nat)}{ts:List Thg}
theorem YZ (h:∀tgs,ts=tgs.map ofT->∀d1 d2,fol rs n cl st tgs=some (d1,d2)->c1++c2 ≠ []->(c1=d1.filter fun c=>decide (c∈c1))->(c2=d2.filter fun c=>decide (c∈c2))->False):Zj rs n cl st ts c1 c2 false:=by
 refine⟨fun _=>rfl,fun _ tgs e=>?_⟩
 cases hb:zdH (fol rs n cl st tgs) c1 c2 with
 | false=>rfl
 | true =>
  obtain⟨d1,d2,a,b,c,d⟩:=zgL hb
  exact(h tgs e d1 d2 a b c d).elim
theorem Y0 (h:okT rs ts=false):Zj rs n cl st ts c1 c2 false:=⟨fun _=>rfl,fun z=>absurd (h.symm.trans z) (by decide)⟩
theorem zgM {tgs:List Tg}(e:ts=tgs.map ofT)(hk:okT rs ts=true)(ne:c1++c2 ≠ [])(l1:c1.Pairwise Cells.lex)(l2:c2.Pairwise Cells.lex)(h1:∀c∈c1,c∈(j7 rs n cl st tgs).1):Zj rs n cl st ts c1 c2 (decide ((c2.filter fun c=>!decide (c∈(j7 rs n cl st tgs).2))=[])):=by
 refine⟨fun z=>absurd (z.symm.trans hk) (by decide),fun _ tgs' e'=>?_⟩
 rw [<- zaH (e.symm.trans e')]
 unfold j7 at h1 ⊢
 cases hf:fol rs n cl st tgs with
 | none =>
  rw [hf] at h1
  have n1:c1=[]:=by
   cases c1 with
   | nil=>rfl
   | cons x r=>exact absurd (h1 x mem_cons_self) (fun z=>nomatch z)
  rw [n1,List.nil_append] at ne
  refine decide_eq_false fun z=>ne ?_
  rw [<- z]
  refine(List.filter_eq_self.mpr fun c _=>?_).symm
  show (!decide (c∈([]:List (Nat×Nat))))=true
  simp
 | some d =>
  obtain⟨d1,d2⟩:=d
  rw [hf] at h1
  have h1:∀c∈c1,c∈d1:=h1
  have fs:=JM hf
  show decide ((c2.filter fun c=>!decide (c∈d2))=[])=(decide (c1++c2 ≠ [])&&(decide (c1=d1.filter fun c=>decide (c∈c1))&&decide (c2=d2.filter fun c=>decide (c∈c2))))
  rw [decide_eq_true ne,decide_eq_true (zaO l1 fs.1.1 h1),Bool.true_and,Bool.true_and]
  refine decide_eq_decide.mpr ?_
  rw [List.filter_eq_nil_iff]
  constructor
  ·intro h
   refine zaO l2 fs.2.1 fun x hx=>?_
   have:=h x hx
   simpa using this
  ·intro h x hx
   have:=Zl h x hx
   simpa using this
end
theorem Zj.same {rs:List Str}{n:Int}{cl st c1 c2:List (Nat×Nat)}{ts:List Thg}{a b:Bool}(x:Zj rs n cl st ts c1 c2 a)(y:Zj rs n cl st ts c1 c2 b):a=b:=by
 by_cases hk:okT rs ts=true
 ·have hg:ts.all (jh rs)=true:=by
   unfold okT at hk
   rw [and_eq_true,and_eq_true] at hk
   exact hk.2.2
  obtain⟨tgs,e⟩:∃tgs:List Tg,ts=tgs.map ofT:=by
   clear x y hk
   induction ts with
   | nil=>exact⟨[],rfl⟩
   | cons t r ih =>
    rw [List.all_cons,and_eq_true] at hg
    obtain⟨tgs,e⟩:=ih hg.2
    obtain⟨tg,e2,_⟩:=zfB hg.1
    exact⟨tg::tgs,by rw [map_cons,<- e,<- e2]⟩
  rw [x.yes hk tgs e,y.yes hk tgs e]
 ·rw [x.no (Bool.eq_false_iff.mpr hk),y.no (Bool.eq_false_iff.mpr hk)]
theorem zih {N:Addr->Prop}{H:Hp}(is:List Int):zJ N H (is.map V.int) (is.map PyData.int):=by
 induction is with
 | nil=>exact .nil
 | cons i r ih=>exact .cons (.int i) ih
theorem TgV.rdn {N:Addr->Prop}{H:Hp}{v:V}{t:Thg}(h:TgV H v t):Rdn N H v (thD t):=by
 cases t with
 | inl x =>
  have h:v=V.str x:=h
  subst h
  exact .str x
 | inr is =>
  obtain⟨a,rfl,h⟩:=h
  exact .tup h (zih is)
noncomputable def Ym (rs:List Str):List PyData:=(jg rs).map zh++[.str "all"]
theorem zgN (rs:List Str):PyData.canLayAll0 (Ym rs)=true:=by
 unfold Ym
 induction jg rs with
 | nil=>decide +kernel
 | cons c r ih =>
  show (PyData.canLay0 (zh c)&&PyData.canLayAll0 (r.map zh++[.str "all"]))=true
  rw [ih]
  rfl
theorem zii (rs:List Str)(t:Thg):(if true=true then !(Ym rs).any (fun z=>PyData.eqv z (thD t)) else (Ym rs).any fun z=>PyData.eqv z (thD t))=!jh rs t:=by
 show (!(Ym rs).any (fun z=>PyData.eqv z (thD t)))=_
 congr 1
 unfold Ym jh
 rw [List.any_append,any_map,Bool.or_comm]
 congr 1
 ·show (PyData.eqv (thD (.inl "all")) (thD t) || false)=_
  rw [ZW,Bool.or_false]
  exact decide_eq_decide.mpr ⟨fun h=>h.symm,fun h=>h.symm⟩
 ·congr 1
  funext c
  exact ZW (ofC c) t
theorem zfI {ts:List Thg}(h:∀t∈ts,Zq t):PyData.canLayAll0 (ts.map thD)=true/\PyData.depthAll (ts.map thD)<=1:=by
 induction ts with
 | nil=>exact⟨rfl,zero_le _⟩
 | cons t r ih =>
  have h2:=ih fun x hx=>h x (mem_cons_of_mem _ hx)
  constructor
  ·show (PyData.canLay0 (thD t)&&PyData.canLayAll0 (r.map thD))=true
   rw [h2.1,(h t mem_cons_self).lay]
   rfl
  ·show max (thD t).depth (PyData.depthAll (r.map thD))<=1
   have:=JO t
   omega
theorem zja (xs:List PyData):PyData.eqv (.list xs) (.list [])=xs.isEmpty:=by
 cases xs with
 | nil=>rfl
 | cons x r=>rfl
theorem zjb {K:PySem.W.Frag}{H:Hp}{vs ws:List V}{ds es:List PyData}(h:jG K H vs ds)(k:jG K H ws es):jG K H (vs++ws) (ds++es) :=
 jG.rec (motive_1:=fun _ _ _=>True) (motive_2:=fun vs ds _=>jG K H (vs++ws) (ds++es))
  trivial (fun _=>trivial) (fun _=>trivial) (fun _=>trivial) (fun _ _ _=>trivial) (fun _ _ _=>trivial) k (fun a _ _ t=>.cons a t) h
def zjC:Sp:=fun vs H Q _=>∃(p l fa fc fs sa th ca da:Addr) (rs:List Str) (n:Int) (ths:List V) (ts:List Thg) (us ws u1 u2:List V) (cl st c1 c2:List (Nat×Nat)),vs=[.ref p,.ref sa,.ref fa]/\qz H p l rs n/\Rows bd.cps.toList rs/\(qC rs).length<=20/\jH H fa fc fs us ws cl st/\zgx cl st/\yi H sa th ca da ths ts u1 u2 c1 c2 /\
 ∀b,Zj rs n cl st ts c1 c2 b->∀H',zy H H'->Q (.bl b) H'
section
variable {P:Program}{w:World}{K:PySem.W.Frag}{mg:Str->Option Value}{base:Heap}{f:Addr}{fd:FuncData}{C_NoLaying:Addr}
theorem yk:zO ["_law_board_here","_law_step","_law_finding_here","_law_things_here","_law_clears","_law_stones","_law_known","_law_found"] ["_law_board_here","_law_step","_law_finding_here"] (zk jL):=⟨rfl,rfl,rfl,by decide +kernel,rfl,by decide +kernel,by decide +kernel⟩
theorem zeL (T:Txt mg)(O_NoLaying:Z0 K mg "NoLaying" C_NoLaying)(FN:PySem.W.mroIn K C_NoLaying (.ref C_NoLaying)=some true)(Z:Prog K mg)(D:zC K mg "_law_due" jL ["_law_board_here","_law_step","_law_finding_here"] f fd):zQ P w K mg base CX0 6 f fd ["_law_board_here","_law_step","_law_finding_here"] zjC:=by
 obtain⟨Yn,ZK,jc⟩:=Z.law_told
 obtain⟨jY,jD,zZ⟩:=Z.law_things
 obtain⟨QE,Y4,zu⟩:=Z.law_cells
 have Yo:zQ P w K mg base CX0 5 Yn ZK ["_law_board_here","_law_things_here","_law_finding_here"] zcC:=QC T O_NoLaying FN Z jc
 have jZ:zQ P w K mg base CX0 2 jY jD ["_law_board_here"] YU:=Jt T zZ zu
 refine D.F.ok yk (fun vs H Q E h=>?_) (fun cdv A outer s H vs Q E hr h=>?_)
 ·obtain⟨p,l,fa,fc,fs,sa,th,ca,da,rs,n,ths,ts,us,ws,u1,u2,cl,st,c1,c2,rfl,_⟩:=h
  rfl
 ·obtain⟨p,l,fa,fc,fs,sa,th,ca,da,rs,n,ths,ts,us,ws,u1,u2,cl,st,c1,c2,rfl,b,R,l20,F0,Fi,S0,q0⟩:=h
  refine⟨_,(zf (Q4 (pv 1) (J0 rfl (qg (zF (i:=3) yk.nd rfl (Or.inl rfl)) (qg (zF (i:=4) yk.nd rfl (Or.inl rfl)) (qg (zF (i:=5) yk.nd rfl (Or.inl rfl)) yX)))))
   (zf (zH (i:=6) yk.nd rfl (Or.inr rfl) (zB jZ (hr.mono (by decide)) (by rfl) zZ.g zZ.F.kp zZ.b .nil zV (za (pv 0) zc)))
   (zf (qo (PW.pt (ZZ (zq Q6 (zm zx (by rfl) T.qR PySem.boot_len (za (pv 3) zc)) ze (zD _)) (ZZ (zq ze5 (zm zx (by rfl) T.qR PySem.boot_len (za (pv 3) zc)) ze (zD _)) (Z8 (PW.pt (xB (zq qU (zm zx (by rfl) T.qR PySem.boot_len (za (pv 3) zc)) ze (zD _)) (jR (zq (jr hr.units) (zw zT (pv 3) ze (fun _ _=>rfl)) (zw zT (pv 3) ze (fun _ _=>rfl)) (zD _))))))))) (zg (zG Zn)) zM)
   (zf (qo (PW.pt (ZZ (zq (qp hr.units) (qw (N:=["_law_thing","_law_known"]) (src:=[none,some 6]) (ql.free (O:=(zk jL).names) (XN:=["_law_board_here","_law_step","_law_finding_here","_law_things_here","_law_clears","_law_stones","_law_known","_law_found"]) rfl rfl ⟨_,rfl⟩ rfl rfl (by decide +kernel) (by decide +kernel) (by decide +kernel) rfl (by decide +kernel)) rfl (qt (pv 3)) (fun _ _ _ _ _=>(zF (i:=0) (by show List.Nodup (["_law_thing","_law_known"]:List Str);decide +kernel) rfl (Or.inl rfl))) (fun _ _ _ _ _=>(qE (zq (jt (K:=K) (by rfl) hr.units) (pv 0) (pv 1) (by rfl)))) (fun _ _ _ _ _=>(pv 0))) (zU zc) (zD _)) (Z8 (zq (jr hr.units) (zv j9 (pv 4) (pv 5)) (zU zc) (zD _))))) (zg (zG Zn)) zM)
   (zf (qo (PW.pt (ZZ (zq (qp hr.units) (zm (ST.Z3 hr.hd) (by rfl) T.xR PyProof.Rows.boot_sorted (za (qc (ST.zby hr.units hr.hd) (by rfl) T.zju PyProof.Rows.boot_set (za (pv 4) zc)) zc)) (pv 4) (zD _)) (Z8 (zq (qp hr.units) (zm (ST.Z3 hr.hd) (by rfl) T.xR PyProof.Rows.boot_sorted (za (qc (ST.zby hr.units hr.hd) (by rfl) T.zju PyProof.Rows.boot_set (za (pv 5) zc)) zc)) (pv 5) (zD _))))) (zg (zG Zn)) zM)
   (zf (qo (zq (qp hr.units) (qw (N:=["_law_cell","_law_finding_here"]) (src:=[none,some 2]) (ql.free (O:=(zk jL).names) (XN:=["_law_board_here","_law_step","_law_finding_here","_law_things_here","_law_clears","_law_stones","_law_known","_law_found"]) rfl rfl ⟨_,rfl⟩ rfl rfl (by decide +kernel) (by decide +kernel) (by decide +kernel) rfl (by decide +kernel)) rfl (qt (zv j9 (pv 4) (pv 5))) (fun _ _ _ _ _=>(zF (i:=0) (by show List.Nodup (["_law_cell","_law_finding_here"]:List Str);decide +kernel) rfl (Or.inl rfl))) (fun _ _ _ _ _=>(qE (PW.pt (ZZ (zq (yF (K:=K) (by rfl) hr.units) (pv 0) (zw (YB (K:=K) (by rfl)) (pv 1) ze (fun _ _=>rfl)) (by rfl)) (Z8 (zq (yF (K:=K) (by rfl) hr.units) (pv 0) (zw (YB (K:=K) (by rfl)) (pv 1) ze (fun _ _=>rfl)) (by rfl))))))) (fun _ _ _ _ _=>(pv 0))) (zU zc) (zD _)) (zg (zG Zn)) zM)
   (zf (zH (i:=7) yk.nd rfl (Or.inr rfl) (zB Yo (hr.mono (by decide)) (by rfl) jc.g jc.F.kp jc.b .nil zV (za (pv 0) (za (pv 3) (za (pv 2) zc)))))
   (zf (qo (zq (qp hr.units) (qw (N:=["_law_cell","_law_found"]) (src:=[none,some 7]) (ql.free (O:=(zk jL).names) (XN:=["_law_board_here","_law_step","_law_finding_here","_law_things_here","_law_clears","_law_stones","_law_known","_law_found"]) rfl rfl ⟨_,rfl⟩ rfl rfl (by decide +kernel) (by decide +kernel) (by decide +kernel) rfl (by decide +kernel)) rfl (qt (pv 4)) (fun _ _ _ _ _=>(zF (i:=0) (by show List.Nodup (["_law_cell","_law_found"]:List Str);decide +kernel) rfl (Or.inl rfl))) (fun _ _ _ _ _=>(qE (zq (jt (K:=K) (by rfl) hr.units) (pv 0) (zw (YB (K:=K) (by rfl)) (pv 1) ze (fun _ _=>rfl)) (by rfl)))) (fun _ _ _ _ _=>(pv 0))) (zU zc) (zD _)) (zg (zG Zn)) zM)
   (zg (zG (qN (jr hr.units) (qw (N:=["_law_cell","_law_found"]) (src:=[none,some 7]) (ql.free (O:=(zk jL).names) (XN:=["_law_board_here","_law_step","_law_finding_here","_law_things_here","_law_clears","_law_stones","_law_known","_law_found"]) rfl rfl ⟨_,rfl⟩ rfl rfl (by decide +kernel) (by decide +kernel) (by decide +kernel) rfl (by decide +kernel)) rfl (qt (pv 5)) (fun _ _ _ _ _=>(zF (i:=0) (by show List.Nodup (["_law_cell","_law_found"]:List Str);decide +kernel) rfl (Or.inl rfl))) (fun _ _ _ _ _=>(qE (zq (jt (K:=K) (by rfl) hr.units) (pv 0) (zw (YB (K:=K) (by rfl)) (pv 1) ze (fun _ _=>rfl)) (by rfl)))) (fun _ _ _ _ _=>(pv 0))) (zU zc) (zD _)))))))))))),?_⟩
  refine⟨_,rfl,sa,_,rfl,SqT.of S0.tp,rfl,_,_,rfl,_,_,rfl,_,_,rfl,rfl,?_⟩
  refine⟨_,rfl,p,l,rs,n,rfl,b,R,fun td w2 H1 htd zl0 hco s1=>?_⟩
  have S:=S0.mono s1
  have F:=F0.mono s1
  have q:∀b,Zj rs n cl st ts c1 c2 b->∀H',zy H1 H'->Q (.bl b) H':=fun b hb H' s'=>q0 b hb H' (s1.trans s')
  have B:=b.mono s1
  clear q0 F0 S0 b
  have tl:ths.length=ts.length:=Paired.length S.t
  refine' zkq (A:=(ts.length=1\/ts.length=2)/\(decide (ts.length=2)&&decide (ts[0]?=ts[1]?))=false) ?k1 (fun ziT=>?t1)
  case t1 =>
   refine⟨_,rfl,th,_,rfl,.inl (SqL.of S.h),_,_,rfl,rfl,_,rfl,?_⟩
   rw [tl]
   by_cases h0:ts.length<1
   ·refine qP (decide_eq_true (by omega)) (ZY (q false (Y0 ?_) _ (zy.refl _)))
    unfold okT
    rw [decide_eq_false (show ¬ ts.length=1 by omega),decide_eq_false (show ¬ ts.length=2 by omega)]
    rfl
   refine qH (decide_eq_false (by omega)) ?_
   refine⟨_,rfl,th,_,rfl,.inl (SqL.of S.h),_,_,rfl,rfl,_,rfl,?_⟩
   rw [tl]
   by_cases h3:ts.length>2
   ·refine qP (decide_eq_true (by omega)) (ZY (q false (Y0 ?_) _ (zy.refl _)))
    unfold okT
    rw [decide_eq_false (show ¬ ts.length=1 by omega),decide_eq_false (show ¬ ts.length=2 by omega)]
    rfl
   refine qH (decide_eq_false (by omega)) ?_
   refine⟨_,rfl,th,_,rfl,.inl (SqL.of S.h),rfl,_,rfl,?_⟩
   rw [tl]
   by_cases h2:ts.length=2
   ·refine qP (by rw [h2];decide) ?_
    obtain⟨t0,t1,v0,v1,e0,e1,g0,g1,a0,a1⟩:∃t0 t1 v0 v1,ts[0]?=some t0/\ts[1]?=some t1/\ths[0]?=some v0/\ths[1]?=some v1/\TgV H1 v0 t0/\TgV H1 v1 t1:=by
     obtain⟨v0,g0,a0⟩:=zcV (i:=0) S.t (getElem?_eq_getElem (by omega))
     obtain⟨v1,g1,a1⟩:=zcV (i:=1) S.t (getElem?_eq_getElem (by omega))
     exact⟨_,_,v0,v1,getElem?_eq_getElem (by omega),getElem?_eq_getElem (by omega),g0,g1,a0,a1⟩
    refine⟨_,rfl,th,_,_,v0,rfl,rfl,SqL.of S.h,ja (j:=0) g0,_,rfl,th,_,_,v1,rfl,rfl,SqL.of S.h,ja (j:=1) g1,thD t0,thD t1,a0.rdv,a1.rdv,zfz (S.ok _ (mem_of_getElem? e0)) (S.ok _ (mem_of_getElem? e1)),_,rfl,?_⟩
    show if (PyData.eqv (thD t0) (thD t1))=true then _ else _
    rw [ZW]
    by_cases he:t0=t1
    ·refine qP (decide_eq_true he) (q false (Y0 ?_) _ (zy.refl _))
     unfold okT
     rw [h2,e0,e1,he]
     simp
    ·exact qH (decide_eq_false he) (ziT ⟨.inr h2,by rw [e0,e1,decide_eq_false (fun z=>he (Option.some.inj z)),Bool.and_false]⟩)
   ·exact qH (decide_eq_false (fun h=>h2 (by have:=V.int.inj h;omega))) (xD (ziT ⟨.inl (by omega),by rw [decide_eq_false h2,Bool.false_and]⟩))
  intro ⟨h12,hne⟩
  refine⟨_,rfl,th,rfl,⟨_,SqL.of S.h⟩,fun z hz=>?_⟩
  refine qJ (K:=K) (a:=th) (xs:=ths) (fun a=>a≠z) (ts.map fun t=>if (!jh rs t)=true then some (thD t) else none) (fun σ=>∃u0,σ=[u0,some (.ref td)]) hz (fun _ h=>h) ⟨_,rfl⟩ (by rw [length_map,tl]) (by rw [tl];exact le_trans S.few (by decide)) (SqL.of S.h) ?_ ?_
  ·rintro k x o σ H2 hx ho s2 _ ⟨u0,rfl⟩ Y Z yes no
   obtain⟨t,hti,ht0⟩:=zg6 S.t hx
   have ht:=ht0.mono s2
   have hto:=S.ok t (mem_of_getElem? hti)
   have eo:=yP hti ho
   refine⟨_,rfl,_,rfl,thD t,Ym rs,ht.rdv,.lst (SqL.of (s2 _ _ zl0)) ?_,hto.lay,zgN rs,le_trans (JO t) (by decide),_,rfl,?_⟩
   ·exact zjb (j6 (hco.mono s2)) (.cons (.str _) .nil)
   rw [zii]
   by_cases hp:(!jh rs t)=true
   ·rw [if_pos hp] at eo
    exact qP hp ⟨_,rfl,yes _ _ _ _ eo ⟨_,rfl⟩ (zy.refl _) ht.rdn⟩
   ·rw [if_neg hp] at eo
    exact qH (Bool.eq_false_iff.mpr hp) (no _ _ eo ⟨_,rfl⟩ (zy.refl _))
  rintro yz H2 s2 hz2 hr2
  rw [qf] at hr2
  refine⟨(by show 0<=sizeLine;decide),fun e he=>?_⟩
  have z3:=zd (o:=.lst []) he
  have hz3:=z3 _ _ hz2
  have hr3:=zJ.keep z3 hr2
  have s3:=s2.trans z3
  have he3:upd H2 e (.lst []) e=some (.lst []):=zb
  clear he
  generalize upd H2 e (.lst [])=H3 at *
  have cm:=zfI (ts:=ts.filter fun t=>!jh rs t) fun t ht=>S.ok t (List.mem_filter.mp ht).1
  refine⟨.list ((ts.filter fun t=>!jh rs t).map thD),.list [],.lst (SqL.of hz3) (zJ.rdv hr3),.lst (SqL.of he3) .nil,⟨cm.1,rfl,(by show PyData.depthAll ((ts.filter fun t=>!jh rs t).map thD)+1<=64;omega)⟩,_,rfl,?_⟩
  show if (!PyData.eqv (.list ((ts.filter fun t=>!jh rs t).map thD)) (.list []))=true then _ else _
  rw [zja]
  by_cases hall:ts.all (jh rs)=true
  ·have hk:okT rs ts=true:=by
    unfold okT
    rw [hne,hall]
    rcases h12 with h | h
    ·rw [decide_eq_true h]
     rfl
    ·rw [decide_eq_true h,Bool.or_true]
     rfl
   have en:(ts.filter fun t=>!jh rs t)=[]:=by
    rw [List.filter_eq_nil_iff]
    intro t ht
    rw [all_eq_true] at hall
    rw [hall t ht]
    decide
   rw [en]
   refine qH rfl ?_
   have S3:=S.mono s3
   have cl120:u1.length+u2.length<=sizeLine:=by
    rw [S.e1.length,S.e2.length]
    have:=S.l1
    have:=S.l2
    exact le_trans (show _<=120 by omega) (by decide)
   refine⟨_,rfl,_,rfl,ca,da,u1,u2,rfl,rfl,S3.h1,S3.h2,cl120,fun r hr=>⟨(by show 0<=sizeLine;decide),fun e2 he2=>?_⟩⟩
   have z4:=zd (o:=.lst (u1++u2)) hr
   have z5:=zd (o:=.lst []) he2
   have s5:=s3.trans (z4.trans z5)
   have hr5:upd (upd H3 r (.lst (u1++u2))) e2 (.lst []) r=some (.lst (u1++u2)):=z5 _ _ zb
   have he5:upd (upd H3 r (.lst (u1++u2))) e2 (.lst []) e2=some (.lst []):=zb
   clear he2 z4 z5
   generalize upd (upd H3 r (.lst (u1++u2))) e2 (.lst [])=H5 at *
   have S5:=S.mono s5
   refine⟨.list ((c1++c2).map zh),.list (([]:List (Nat×Nat)).map zh),.lst (SqL.of hr5) (j6 (S5.e1.append S5.e2)),.lst (SqL.of he5) .nil,xT _ _,_,rfl,?_⟩
   show if (PyData.eqv (.list ((c1++c2).map zh)) (.list (([]:List (Nat×Nat)).map zh)))=true then _ else _
   rw [ZJ]
   by_cases hemp:c1++c2=[]
   ·exact qP (decide_eq_true hemp) (q false (YZ fun _ _ _ _ _ z _ _=>z hemp) _ s5)
   refine qH (decide_eq_false hemp) ?_
   clear hr5 he5 hz3 hr3 he3 cm
   refine⟨_,rfl,ca,u1,c1.map toI,rfl,SqL.of S5.h1,Cel.tup2 S5.e1,zfH S5.b1,QX S5.l1,fun d ks hd hT hnd hmem=>?_⟩
   have z6:=zd (o:=ST.zgj P w d ks) hd
   have kl:ks.length<64:=by
    have:=QX S5.l1 _ hnd fun c hc=>(hmem c).mp hc
    rw [length_map] at this
    omega
   refine⟨d,ks,rfl,zb,fun q hq=>z6 _ _ (hT q hq),hnd,kl,fun wa us' ps' hwa ht zcY hup=>?_⟩
   obtain⟨ds,rfl,dl,dm⟩:=zaN hmem zcY hup
   have z7:=zd (o:=.lst us') hwa
   have s7:=s5.trans (z6.trans z7)
   have S7:=S.mono s7
   refine⟨_,rfl,.list (ds.map zh),.list (c1.map zh),.lst (SqL.of zb) (j6 (Cel.mono z7 (jM ht))),.lst (SqL.of S7.h1) (j6 S7.e1),xT _ _,_,rfl,?_⟩
   show if (!PyData.eqv (.list (ds.map zh)) (.list (c1.map zh)))=true then _ else _
   rw [ZJ]
   by_cases h1:ds=c1
   case neg =>
    refine qP (by rw [decide_eq_false h1];rfl) (ZY (q false (YZ fun tgs _ x1 x2 ef _ e1 _=>h1 ((set_same dl dm).mpr ?_)) _ s7))
    rw [e1]
    exact(JM ef).1.1.sublist filter_sublist
   have l1:=(set_same dl dm).mp h1
   refine qH (by rw [decide_eq_true h1];rfl) ?_
   refine⟨_,rfl,da,u2,c2.map toI,rfl,SqL.of S7.h2,Cel.tup2 S7.e2,zfH S7.b2,QX S7.l2,fun d2 ks2 hd2 hT2 zlp zjD=>?_⟩
   have z8:=zd (o:=ST.zgj P w d2 ks2) hd2
   have kl2:ks2.length<64:=by
    have:=QX S7.l2 _ zlp fun c hc=>(zjD c).mp hc
    rw [length_map] at this
    omega
   refine⟨d2,ks2,rfl,zb,fun q hq=>z8 _ _ (hT2 q hq),zlp,kl2,fun wb us2 ps2 hwb ht2 zez hup2=>?_⟩
   obtain⟨ds2,rfl,dl2,dm2⟩:=zaN zjD zez hup2
   have z9:=zd (o:=.lst us2) hwb
   have s6:=s7.trans (z8.trans z9)
   have S6:=S.mono s6
   refine⟨_,rfl,.list (ds2.map zh),.list (c2.map zh),.lst (SqL.of zb) (j6 (Cel.mono z9 (jM ht2))),.lst (SqL.of S6.h2) (j6 S6.e2),xT _ _,_,rfl,?_⟩
   show if (!PyData.eqv (.list (ds2.map zh)) (.list (c2.map zh)))=true then _ else _
   rw [ZJ]
   by_cases h2:ds2=c2
   case neg =>
    refine qP (by rw [decide_eq_false h2];rfl) (q false (YZ fun tgs _ x1 x2 ef _ _ e2=>h2 ((set_same dl2 dm2).mpr ?_)) _ s6)
    rw [e2]
    exact(JM ef).2.1.sublist filter_sublist
   have l2:=(set_same dl2 dm2).mp h2
   refine qH (by rw [decide_eq_true h2];rfl) ?_
   refine⟨_,rfl,_,rfl,ca,da,u1,u2,rfl,rfl,S6.h1,S6.h2,cl120,fun r6 hr6=>?_⟩
   clear S7 s7
   have s7:=s6.trans (zd (o:=.lst (u1++u2)) hr6)
   have S7:=S.mono s7
   have F7:=F.mono s7
   have hcc:=S7.e1.append S7.e2
   refine⟨r6,rfl,⟨_,SqL.of zb⟩,fun z4 hz4=>?_⟩
   refine qJ (K:=K) (a:=r6) (xs:=u1++u2) (fun a=>a≠z4) ((c1++c2).map fun c=>if (decide (c∈cl) || decide (c∈st))=true then some (zh c) else none) (fun σ=>∃u0,σ=[u0,some (.ref fa)]) hz4 (fun _ h=>h) ⟨_,rfl⟩ (by rw [length_map];exact hcc.length.symm) (by rw [length_append];exact le_trans (show _<=120 by rw [S.e1.length,S.e2.length];have:=S.l1;have:=S.l2;omega) (by decide)) (SqL.of zb) ?_ ?_
   ·rintro k x o σ H8 hx ho s8 _ ⟨u0,rfl⟩ Y Z yes no
    obtain⟨c,hci,rc⟩:=Cel.get (Cel.mono s8 hcc) hx
    have eo:=yP hci ho
    have F8:=F7.mono s8
    refine⟨_,rfl,_,rfl,fa,_,0,_,rfl,rfl,SqT.of F8.tp,rfl,zh c,cl.map zh,rc.rdv,.lst (SqL.of F8.h1) (j6 F8.c1),rfl,Yh _,(by show 1<=60;decide),_,rfl,?_⟩
    rw [zfx]
    by_cases hp:decide (c∈cl)=true
    ·rw [if_pos (by rw [hp];rfl)] at eo
     exact qP hp (ZY ⟨_,rfl,yes _ _ _ _ eo ⟨_,rfl⟩ (zy.refl _) rc.rdn⟩)
    ·have hp2:=Bool.eq_false_iff.mpr hp
     rw [hp2,Bool.false_or] at eo
     refine qH hp2 ⟨_,rfl,_,rfl,fa,_,1,_,rfl,rfl,SqT.of F8.tp,rfl,zh c,st.map zh,rc.rdv,.lst (SqL.of F8.h2) (j6 F8.c2),rfl,Yh _,(by show 1<=60;decide),_,rfl,?_⟩
     rw [zfx]
     by_cases hq:decide (c∈st)=true
     ·rw [if_pos hq] at eo
      exact qP hq ⟨_,rfl,yes _ _ _ _ eo ⟨_,rfl⟩ (zy.refl _) rc.rdn⟩
     ·rw [if_neg hq] at eo
      exact qH (Bool.eq_false_iff.mpr hq) (no _ _ eo ⟨_,rfl⟩ (zy.refl _))
   rintro y4 H8 s8 hz8 hr8
   rw [qf] at hr8
   have hc8:Cel H8 y4 ((c1++c2).filter fun c=>decide (c∈cl) || decide (c∈st)):=zJ.cel hr8
   refine⟨(by show 0<=sizeLine;decide),fun e9 he9=>?_⟩
   have z9:=zd (o:=.lst []) he9
   have s9:=s7.trans (s8.trans z9)
   have hz9:=z9 _ _ hz8
   have hc9:=hc8.mono z9
   have he9':upd H8 e9 (.lst []) e9=some (.lst []):=zb
   clear z9 he9 hr8 hc8
   generalize upd H8 e9 (.lst [])=H9 at *
   refine⟨.list (((c1++c2).filter fun c=>decide (c∈cl) || decide (c∈st)).map zh),.list (([]:List (Nat×Nat)).map zh),.lst (SqL.of hz9) (j6 hc9),.lst (SqL.of he9') .nil,xT _ _,_,rfl,?_⟩
   show if (!PyData.eqv (.list (((c1++c2).filter fun c=>decide (c∈cl) || decide (c∈st)).map zh)) (.list (([]:List (Nat×Nat)).map zh)))=true then _ else _
   rw [ZJ]
   by_cases hfd:((c1++c2).filter fun c=>decide (c∈cl) || decide (c∈st))=[]
   ·refine qH (by rw [decide_eq_true hfd];rfl) ?_
    have S9:=S.mono s9
    have F9:=F.mono s9
    obtain⟨tgs,ets,hTh,hO⟩:=zjA S9.t hall
    refine⟨_,rfl,_,rfl,_,rfl,p,l,th,fa,fc,fs,rs,n,ths,tgs,us,ws,cl,st,rfl,⟨B.mono s9,R,S9.h,hTh,?_,hO,l20,F9,Fi⟩,fun t d1 d2 w3 w4 H10 F10 s10=>?_⟩
    ·rw [ets,length_map] at h12
     exact h12
    have s010:=s9.trans s10
    have S10:=S.mono s010
    refine⟨_,rfl,ca,rfl,⟨_,SqL.of S10.h1⟩,fun z5 hz5=>?_⟩
    refine qJ (K:=K) (a:=ca) (xs:=u1) (fun a=>a≠z5) (c1.map fun c=>if (!decide (c∈(j7 rs n cl st tgs).1))=true then some (zh c) else none) (fun σ=>∃u0,σ=[u0,some (.ref t)]) hz5 (fun _ h=>h) ⟨_,rfl⟩ (by rw [length_map];exact S10.e1.length.symm) (by rw [S10.e1.length];exact le_trans S10.l1 (by decide)) (SqL.of S10.h1) ?_ ?_
    ·rintro k x o σ H11 hx ho s11 _ ⟨u0,rfl⟩ Y Z yes no
     obtain⟨c,hci,rc⟩:=Cel.get (Cel.mono s11 S10.e1) hx
     have eo:=yP hci ho
     have F11:=F10.mono s11
     refine⟨_,rfl,_,rfl,t,_,0,_,rfl,rfl,SqT.of F11.tp,rfl,zh c,(j7 rs n cl st tgs).1.map zh,rc.rdv,.lst (SqL.of F11.h1) (j6 F11.c1),rfl,Yh _,(by show 1<=60;decide),_,rfl,?_⟩
     rw [YS]
     by_cases hp:(!decide (c∈(j7 rs n cl st tgs).1))=true
     ·rw [if_pos hp] at eo
      exact qP hp ⟨_,rfl,yes _ _ _ _ eo ⟨_,rfl⟩ (zy.refl _) rc.rdn⟩
     ·rw [if_neg hp] at eo
      exact qH (Bool.eq_false_iff.mpr hp) (no _ _ eo ⟨_,rfl⟩ (zy.refl _))
    rintro y5 H11 s11 hz11 hr11
    rw [qf] at hr11
    refine⟨(by show 0<=sizeLine;decide),fun e12 zlq=>?_⟩
    have z12:=zd (o:=.lst []) zlq
    have s012:=s010.trans (s11.trans z12)
    have F12:=F10.mono (s11.trans z12)
    have hz12:=z12 _ _ hz11
    have hc12:Cel (upd H11 e12 (.lst [])) y5 (c1.filter fun c=>!decide (c∈(j7 rs n cl st tgs).1)):=Cel.mono z12 (zJ.cel hr11)
    have he12':upd H11 e12 (.lst []) e12=some (.lst []):=zb
    clear z12 zlq hr11
    generalize upd H11 e12 (.lst [])=H12 at *
    refine⟨.list ((c1.filter fun c=>!decide (c∈(j7 rs n cl st tgs).1)).map zh),.list (([]:List (Nat×Nat)).map zh),.lst (SqL.of hz12) (j6 hc12),.lst (SqL.of he12') .nil,xT _ _,_,rfl,?_⟩
    show if (!PyData.eqv (.list ((c1.filter fun c=>!decide (c∈(j7 rs n cl st tgs).1)).map zh)) (.list (([]:List (Nat×Nat)).map zh)))=true then _ else _
    rw [ZJ]
    by_cases hf1:(c1.filter fun c=>!decide (c∈(j7 rs n cl st tgs).1))=[]
    ·refine qH (by rw [decide_eq_true hf1];rfl) ?_
     have S12:=S.mono s012
     have sub1:∀c∈c1,c∈(j7 rs n cl st tgs).1:=fun c hc=>by
      have:=List.filter_eq_nil_iff.mp hf1 c hc
      simpa using this
     refine⟨_,rfl,da,rfl,⟨_,SqL.of S12.h2⟩,fun z6 hz6=>?_⟩
     refine qJ (K:=K) (a:=da) (xs:=u2) (fun a=>a≠z6) (c2.map fun c=>if (!decide (c∈(j7 rs n cl st tgs).2))=true then some (zh c) else none) (fun σ=>∃u0,σ=[u0,some (.ref t)]) hz6 (fun _ h=>h) ⟨_,rfl⟩ (by rw [length_map];exact S12.e2.length.symm) (by rw [S12.e2.length];exact le_trans S12.l2 (by decide)) (SqL.of S12.h2) ?_ ?_
     ·rintro k x o σ H13 hx ho s13 _ ⟨u0,rfl⟩ Y Z yes no
      obtain⟨c,hci,rc⟩:=Cel.get (Cel.mono s13 S12.e2) hx
      have eo:=yP hci ho
      have F13:=F12.mono s13
      refine⟨_,rfl,_,rfl,t,_,1,_,rfl,rfl,SqT.of F13.tp,rfl,zh c,(j7 rs n cl st tgs).2.map zh,rc.rdv,.lst (SqL.of F13.h2) (j6 F13.c2),rfl,Yh _,(by show 1<=60;decide),_,rfl,?_⟩
      rw [YS]
      by_cases hp:(!decide (c∈(j7 rs n cl st tgs).2))=true
      ·rw [if_pos hp] at eo
       exact qP hp ⟨_,rfl,yes _ _ _ _ eo ⟨_,rfl⟩ (zy.refl _) rc.rdn⟩
      ·rw [if_neg hp] at eo
       exact qH (Bool.eq_false_iff.mpr hp) (no _ _ eo ⟨_,rfl⟩ (zy.refl _))
     rintro y6 H13 s13 hz13 hr13
     rw [qf] at hr13
     refine⟨(by show 0<=sizeLine;decide),fun e14 zl1=>?_⟩
     have z14:=zd (o:=.lst []) zl1
     refine⟨.list ((c2.filter fun c=>!decide (c∈(j7 rs n cl st tgs).2)).map zh),.list (([]:List (Nat×Nat)).map zh),.lst (SqL.of (z14 _ _ hz13)) (j6 (Cel.mono z14 (zJ.cel hr13))),.lst (SqL.of zb) .nil,xT _ _,?_⟩
     show Q (.bl (PyData.eqv (.list ((c2.filter fun c=>!decide (c∈(j7 rs n cl st tgs).2)).map zh)) (.list (([]:List (Nat×Nat)).map zh)))) _
     rw [ZJ]
     exact q _ (zgM ets hk hemp l1 l2 sub1) _ (s012.trans (s13.trans z14))
    ·refine qP (by rw [decide_eq_false hf1];rfl) (q false (YZ fun tgs' e' x1 x2 ef _ e1 _=>hf1 ?_) _ s012)
     rw [<- zaH (ets.symm.trans e')] at ef
     rw [List.filter_eq_nil_iff]
     intro c hc
     unfold j7
     rw [ef]
     have:=Zl e1 c hc
     simpa using this
   ·refine qP (by rw [decide_eq_false hfd];rfl) (q false (YZ fun tgs _ x1 x2 ef _ e1 e2=>hfd ?_) _ s9)
    rw [List.filter_eq_nil_iff]
    intro c hc
    have fs:=JM ef
    have:c ∉ cl/\c ∉ st:=by
     rcases List.mem_append.mp hc with h | h
     ·exact(fs.1.2 c (Zl e1 c h)).2
     ·exact(fs.2.2 c (Zl e2 c h)).2
    simp [this.1,this.2]
  ·have en:((ts.filter fun t=>!jh rs t).map thD).isEmpty=false:=by
    cases hb:(ts.filter fun t=>!jh rs t) with
    | nil =>
     refine absurd ?_ hall
     rw [all_eq_true]
     intro t ht
     have:=List.filter_eq_nil_iff.mp hb t ht
     simpa using this
    | cons x y=>rfl
   rw [en]
   refine qP rfl (ZY (q false (Y0 ?_) _ s3))
   unfold okT
   rw [Bool.eq_false_iff.mpr hall,Bool.and_false,Bool.and_false]
end
theorem zaP {xs:List V}(h:0<xs.length)(z:Int):∃v,atI xs (z%((xs.length:Nat):Int))=some v/\xs[(z%((xs.length:Nat):Int)).toNat]?=some v:=by
 have m0:=emod_nonneg z (show ((xs.length:Nat):Int)≠0 by omega)
 have m1:=Int.emod_lt_of_pos z (show (0:Int)<((xs.length:Nat):Int) by omega)
 have e:xs[(z%((xs.length:Nat):Int)).toNat]?=some (xs[(z%((xs.length:Nat):Int)).toNat]'(by omega)):=getElem?_eq_getElem (by omega)
 exact⟨_,Jq m0 e,e⟩
structure zbV (H:Hp)(th:Addr)(ths:List V)(ts:List Thg):Prop where
 h:H th=some (.lst ths)
 t:Paired (TgV H) ths ts
 ok:∀t∈ts,Zq t
structure ClsAt (H:Hp)(a:Addr)(us:List V)(cs:List (Nat×Nat))(m:Nat):Prop where
 h:H a=some (.lst us)
 c:Cel H us cs
 l:cs.length<=m
 b:∀c∈cs,c.1<8/\c.2<8
theorem zbV.mono {H H':Hp}(s:zy H H'){th:Addr}{ths:List V}{ts:List Thg}(x:zbV H th ths ts):zbV H' th ths ts:=⟨s _ _ x.h,JN s x.t,x.ok⟩
theorem ClsAt.mono {H H':Hp}(s:zy H H'){a:Addr}{us:List V}{cs:List (Nat×Nat)}{m:Nat}(x:ClsAt H a us cs m):ClsAt H' a us cs m:=⟨s _ _ x.h,x.c.mono s,x.l,x.b⟩
theorem ClsAt.up {H:Hp}{a:Addr}{us:List V}{cs:List (Nat×Nat)}{m k:Nat}(x:ClsAt H a us cs m)(h:m<=k):ClsAt H a us cs k:=⟨x.h,x.c,le_trans x.l h,x.b⟩
theorem j3 {H:Hp}{sa th ca da:Addr}{ths us ws:List V}{ts:List Thg}{c1 c2:List (Nat×Nat)}(h:H sa=some (.tup [.ref th,.ref ca,.ref da]))(T:zbV H th ths ts)(f:ts.length<=3)(A:ClsAt H ca us c1 60)(B:ClsAt H da ws c2 60):yi H sa th ca da ths ts us ws c1 c2:=⟨h,T.h,T.t,T.ok,f,A.h,B.h,A.c,B.c,A.l,B.l,A.b,B.b⟩
theorem j5.mono {H H':Hp}(s:zy H H'){v:V}{c:Nat×Nat}(h:j5 H v c):j5 H' v c:=by
 obtain⟨a,e,h⟩:=h
 exact⟨a,e,s _ _ h⟩
theorem zaQ {H H':Hp}{a d:Addr}{us us':List V}{cs:List (Nat×Nat)}{m:Nat}{c:Nat×Nat}{ps:List (Int×Int)}(x:ClsAt H a us cs m)(b:c.1<8/\c.2<8)(ht:Jx H' us' ps)(hp:ps.Perm ((cs++[c]).map toI))(hd:H' d=none):∃ds,ClsAt (upd H' d (.lst us')) d us' ds (m+1):=by
 obtain⟨ds,rfl,pd⟩:=zcq hp
 refine⟨ds,zb,(jM ht).mono (zd hd),?_,fun e he=>?_⟩
 ·have:=pd.length_eq
  rw [length_append] at this
  have:=x.l
  simp only [length_cons,length_nil] at *
  omega
 ·rcases List.mem_append.mp (pd.mem_iff.mp he) with h | h
  ·exact x.b e h
  ·rw [List.mem_singleton.mp h]
   exact b
theorem zkw {α β:Type}{R:α->β->Prop}{us:List α}{cs:List β}(h:Paired R us cs):Paired R us.reverse cs.reverse:=by
 induction h with
 | nil=>exact .nil
 | cons q _ ih =>
  rw [List.reverse_cons,List.reverse_cons]
  exact zb6 ih (.cons q .nil)
theorem zjc {α β:Type}{R:α->β->Prop}{us:List α}{cs:List β}(h:Paired R us cs)(i:Nat):Paired R (us.drop i) (cs.drop i):=by
 induction h generalizing i with
 | nil =>
  rw [List.drop_nil,List.drop_nil]
  exact .nil
 | cons q t ih =>
  cases i with
  | zero=>exact .cons q t
  | succ i=>exact ih i
theorem zfJ {α β:Type}{R:α->β->Prop}{us:List α}{cs:List β}(h:Paired R us cs)(i:Nat):Paired R (us.take i) (cs.take i):=by
 induction h generalizing i with
 | nil =>
  rw [List.take_nil,List.take_nil]
  exact .nil
 | cons q t ih =>
  cases i with
  | zero=>exact .nil
  | succ i=>exact .cons q (ih i)
theorem ClsAt.cut {H:Hp}{a d:Addr}{us:List V}{cs:List (Nat×Nat)}{m:Nat}(x:ClsAt H a us cs m)(lo hi:Option Int)(hd:H d=none):∃ds,ClsAt (upd H d (.lst (yN us lo hi))) d (yN us lo hi) ds m:=by
 unfold yN
 refine⟨_,zb,Cel.mono (zd hd) (zfJ (zjc x.c _) _),?_,fun c hc=>x.b c (List.mem_of_mem_drop (mem_of_mem_take hc))⟩
 rw [length_take,length_drop]
 have:=x.l
 omega
theorem ClsAt.rev {H:Hp}{a d:Addr}{us:List V}{cs:List (Nat×Nat)}{m:Nat}(x:ClsAt H a us cs m)(hd:H d=none):ClsAt (upd H d (.lst us.reverse)) d us.reverse cs.reverse m:=by
 refine⟨zb,Cel.mono (zd hd) (zkw x.c),?_,fun c hc=>x.b c (List.mem_reverse.mp hc)⟩
 rw [List.length_reverse]
 exact x.l
theorem zjd {xs:List V}:yN xs none (some 1)=xs.take 1:=by
 have e:HT.sIx xs.length xs.length (some (1:Int))=min 1 xs.length:=HT.Yw xs.length xs.length 1
 unfold yN
 rw [e]
 show ((xs.drop 0).take (min 1 xs.length-0))=_
 rw [List.drop_zero,Nat.sub_zero]
 cases xs with
 | nil=>rfl
 | cons x r =>
  rw [length_cons,Nat.min_eq_left (by omega)]
def zfK:Sp:=fun vs H Q _=>∃(p l fa fc fs sa th ca da:Addr) (rs:List Str) (n way cell:Int) (ths:List V) (ts:List Thg) (us ws u1 u2:List V) (cl st c1 c2:List (Nat×Nat)),vs=[.ref p,.ref sa,.ref fa,.int way,.int cell]/\qz H p l rs n/\Rows bd.cps.toList rs/\jH H fa fc fs us ws cl st/\zgx cl st/\H sa=some (.tup [.ref th,.ref ca,.ref da])/\zbV H th ths ts/\1<=ts.length/\ts.length<=2/\ClsAt H ca u1 c1 20/\ClsAt H da u2 c2 20 /\
 ∀(sa' th' ca' da':Addr) (ths':List V) (ts':List Thg) (us' ws':List V) (c1' c2':List (Nat×Nat)) (H':Hp),yi H' sa' th' ca' da' ths' ts' us' ws' c1' c2'->zy H H'->Q (.ref sa') H'
theorem Qq {rs:List Str}(R:Rows bd.cps.toList rs){p:Nat->Bool}{c:Nat×Nat}(h:c∈Cells.zE p 0 (codes rs)):c.1<8/\c.2<8:=by
 obtain⟨k,j,t,x,e,h1,h2,_⟩:=Cells.qW h
 have a:=(List.getElem?_eq_some_iff.mp h1).1
 have b:=(List.getElem?_eq_some_iff.mp h2).1
 have r:=R.short _ (mem_of_getElem? h1)
 have r2:=R.hi
 rw [qD] at a
 rw [e]
 show 0+k<8/\j<8
 omega
theorem zkx {H:Hp}{a b:Addr}(ha:H a=some (.tup [.int 9,.int 9]))(hb:H b=some (.tup [.int 0,.int 0,.int 0]))(z:Int):∃(v:V) (t:Thg),atI [V.str "none",V.ref a,V.str "All",V.ref b] (z%4)=some v/\TgV H v t/\Zq t:=by
 have h:z%4=0\/z%4=1\/z%4=2\/z%4=3:=by omega
 rcases h with h | h | h | h<;>rw [h]
 ·exact⟨_,.inl "none",rfl,rfl,⟨by decide +kernel,fun _ h=>nomatch h⟩⟩
 ·exact⟨_,.inr [9,9],rfl,⟨a,rfl,ha⟩,⟨rfl,fun is h=>by cases h;decide⟩⟩
 ·exact⟨_,.inl "All",rfl,rfl,⟨by decide +kernel,fun _ h=>nomatch h⟩⟩
 ·exact⟨_,.inr [0,0,0],rfl,⟨b,rfl,hb⟩,⟨rfl,fun is h=>by cases h;decide⟩⟩
section
variable {P:Program}{w:World}{K:PySem.W.Frag}{mg:Str->Option Value}{base:Heap}{f:Addr}{fd:FuncData}
theorem qG:zO ["_law_board_here","_law_step","_law_finding_here","_law_way","_law_cell","_law_things_here","_law_clears","_law_stones","_law_cells_here","_law_opens","_law_some"] ["_law_board_here","_law_step","_law_finding_here","_law_way","_law_cell"] (zk yx):=⟨rfl,rfl,rfl,by decide +kernel,rfl,by decide +kernel,by decide +kernel⟩
theorem zaR (T:Txt mg)(Z:Prog K mg)(D:zC K mg "_law_spoiled" yx ["_law_board_here","_law_step","_law_finding_here","_law_way","_law_cell"] f fd):zQ P w K mg base CX0 3 f fd ["_law_board_here","_law_step","_law_finding_here","_law_way","_law_cell"] zfK:=by
 obtain⟨zcG,zbb,xu⟩:=Z.law_looked
 obtain⟨jY,jD,zZ⟩:=Z.law_things
 obtain⟨QE,Y4,zu⟩:=Z.law_cells
 obtain⟨zeM,zdW,qq⟩:=Z.law_near
 have zcH:zQ P w K mg base CX0 2 zcG zbb ["_law_board_here","_law_thing"] zdM:=za9 T xu zu qq
 have jZ:zQ P w K mg base CX0 2 jY jD ["_law_board_here"] YU:=Jt T zZ zu
 refine D.F.ok qG (fun vs H Q E h=>?_) (fun cdv A outer s H vs Q E hr h=>?_)
 ·obtain⟨p,l,fa,fc,fs,sa,th,ca,da,rs,n,way,cell,ths,ts,us,ws,u1,u2,cl,st,c1,c2,rfl,_⟩:=h
  rfl
 ·obtain⟨p,l,fa,fc,fs,sa,th,ca,da,rs,n,way,cell,ths,ts,us,ws,u1,u2,cl,st,c1,c2,rfl,b,R,F,Fi,hsa,hT,t1,t2,hC,hD,q⟩:=h
  refine⟨_,(zf (Q4 (pv 1) (J0 rfl (qg (zF (i:=5) qG.nd rfl (Or.inl rfl)) (qg (zF (i:=6) qG.nd rfl (Or.inl rfl)) (qg (zF (i:=7) qG.nd rfl (Or.inl rfl)) yX)))))
   (zf (zH (i:=8) qG.nd rfl (Or.inl rfl) (zB zcH (hr.mono (by decide)) (by rfl) xu.g xu.F.kp xu.b .nil zV (za (pv 0) (za qx zc))))
   (zf (zH (i:=9) qG.nd rfl (Or.inl rfl) (zB jZ (hr.mono (by decide)) (by rfl) zZ.g zZ.F.kp zZ.b .nil zV (za (pv 0) zc)))
   (zf (qo (zq qU (pv 3) ze (zD _)) (zg (zG (zW (za (pv 5) (za (zU zc) (za (zU zc) zc)))))) zM)
   (zf (qo (PW.pt (xB (zq qU (pv 3) ze (zD _)) (jR (zq (qp hr.units) (pv 8) (zU zc) (zD _))))) (zg (zG (zW (za (pv 5) (za (zm GS.Jr (by rfl) T.xR PyProof.Rows.boot_sorted (za (zv j9 (pv 6) (zU (za (zw zT (pv 8) (zv zY (pv 4) (zm zx (by rfl) T.qR PySem.boot_len (za (pv 8) zc))) (fun _ _=>rfl)) zc))) zc)) (za (pv 7) zc)))))) zM)
   (zf (qo (zq qU (pv 3) ze (zD _)) (zg (zG (zW (za (pv 5) (za (pv 7) (za (pv 6) zc)))))) zM)
   (zf (qo (PW.pt (xB (zq qU (pv 3) ze (zD _)) (jR (zq (qp hr.units) (zv j9 (zw zI (pv 2) ze (fun _ _=>rfl)) (zw zI (pv 2) ze (fun _ _=>rfl))) (zU zc) (zD _))))) (zf (zH (i:=10) qG.nd rfl (Or.inl rfl) (zv j9 (zw zI (pv 2) ze (fun _ _=>rfl)) (zw zI (pv 2) ze (fun _ _=>rfl))))
   (zg (zG (zW (za (pv 5) (za (pv 6) (za (zm GS.Jr (by rfl) T.xR PyProof.Rows.boot_sorted (za (zv j9 (pv 7) (zU (za (zw zT (pv 10) (zv zY (pv 4) (zm zx (by rfl) T.qR PySem.boot_len (za (pv 10) zc))) (fun _ _=>rfl)) zc))) zc)) zc))))))) zM)
   (zf (qo (PW.pt (xB (zq qU (pv 3) ze (zD _)) (jR (zq ze5 (zm zx (by rfl) T.qR PySem.boot_len (za (pv 9) zc)) ze (zD _))))) (zg (zG (zW (za (pv 5) (za (zm GS.Jr (by rfl) T.xR PyProof.Rows.boot_sorted (za (zv j9 (pv 6) (zU (za (zw zT (pv 9) (zv zY (pv 4) (zv yM (zm zx (by rfl) T.qR PySem.boot_len (za (pv 9) zc)) ze)) (fun _ _=>rfl)) zc))) zc)) (za (pv 7) zc)))))) zM)
   (zf (qo (zq qU (pv 3) ze (zD _)) (zg (zG (zW (za (pv 5) (za (zho (pv 6) (zcO Q5 ze)) (za (zho (pv 7) (zcO Q5 ze)) zc)))))) zM)
   (zf (qo (zq qU (pv 3) ze (zD _)) (zg (zG (zW (za (zv j9 (pv 5) (zU (za (zw zT (pv 5) ze (fun _ _=>rfl)) zc))) (za (pv 6) (za (pv 7) zc)))))) zM)
   (zf (qo (zq qU (pv 3) ze (zD _)) (zg (zG (zW (za (zU zc) (za (pv 6) (za (pv 7) zc)))))) zM)
   (zf (qo (zq qU (pv 3) ze (zD _)) (zg (zG (zW (za (zv j9 (xC Yx (pv 5) yY (Je ze)) (zU (za (zw zT (zU (za qx (za (zW (za ze (za ze zc))) (za qx (za (zW (za ze (za ze (za ze zc)))) zc))))) (zv zY (pv 4) ze) (fun _ _=>rfl)) zc))) (za (pv 6) (za (pv 7) zc)))))) zM)
   (zf (qo (zq qU (pv 3) ze (zD _)) (zg (zG (zW (za (pv 5) (za (xC Yx (pv 6) (Je (zv zY (pv 4) ze)) yY) (za (xC Yx (pv 7) (Je (zv zY (zv qk (pv 4) ze) ze)) yY) zc)))))) zM)
   (zg (zG (pv 1)))))))))))))))),?_⟩
  refine⟨_,rfl,sa,_,rfl,SqT.of hsa,rfl,_,_,rfl,_,_,rfl,_,_,rfl,rfl,?_⟩
  refine⟨_,rfl,p,l,rs,n,.str "all",none,rfl,b,R,rfl,fun d1 w1 H1 hd1 zlr hcw s1=>?_⟩
  refine⟨_,rfl,p,l,rs,n,rfl,b.mono s1,R,fun td w2 H2 htd zls hco s2=>?_⟩
  have s02:=s1.trans s2
  have X:∀H',zy H2 H'->zbV H' th ths ts/\ClsAt H' ca u1 c1 20/\ClsAt H' da u2 c2 20/\jH H' fa fc fs us ws cl st/\H' td=some (.lst (w2++[.str "all"]))/\Cel H' w2 (jg rs)/\H' d1=some (.lst w1)/\Cel H' w1 (qC rs)/\H' sa=some (.tup [.ref th,.ref ca,.ref da]):=fun H' s'=>⟨hT.mono (s02.trans s'),hC.mono (s02.trans s'),hD.mono (s02.trans s'),F.mono (s02.trans s'),s' _ _ zls,hco.mono s',(s2.trans s') _ _ zlr,hcw.mono (s2.trans s'),(s02.trans s') _ _ hsa⟩
  have q2:∀(sa' th' ca' da':Addr) (ths':List V) (ts':List Thg) (us' ws':List V) (c1' c2':List (Nat×Nat)) (H':Hp),yi H' sa' th' ca' da' ths' ts' us' ws' c1' c2'->zy H2 H'->Q (.ref sa') H':=fun sa' th' ca' da' ths' ts' us' ws' c1' c2' H' S s'=>q sa' th' ca' da' ths' ts' us' ws' c1' c2' H' S (s02.trans s')
  clear q hT hC hD F hsa zlr hcw zls hco
  refine⟨_,rfl,rfl,_,rfl,yc (fun _=>?_) (fun _=>?_)⟩
  ·refine⟨_,rfl,(by show 0<=sizeLine;decide),fun e1 he1=>⟨(by show 0<=sizeLine;decide),fun e2 he2=>⟨(by show 3<=sizeLine;decide),fun tp htp=>?_⟩⟩⟩
   have z1:=zd (o:=.lst []) he1
   have z2:=zd (o:=.lst []) he2
   have z3:=zd (o:=.tup [.ref th,.ref e1,.ref e2]) htp
   have z13:=z1.trans (z2.trans z3)
   exact q2 tp th e1 e2 ths ts [] [] [] [] _ (j3 zb (X _ z13).1 (by omega) ⟨z3 _ _ (z2 _ _ zb),.nil,by decide,fun _ h=>nomatch h⟩ ⟨z3 _ _ zb,.nil,by decide,fun _ h=>nomatch h⟩) z13
  refine' zlo (A:=fun H'=>zy H2 H') ?k2 (fun ziU=>?t2)
  case t2 =>
   refine⟨_,rfl,rfl,_,rfl,yc (fun _=>?a) (fun _=>?b)⟩
   case a =>
    refine⟨_,rfl,(by show 0<=sizeLine;decide),fun e he=>?_⟩
    have z1:=zd (o:=.lst []) he
    have he1:upd H2 e (.lst []) e=some (.lst []):=zb
    revert z1 he1
    generalize upd H2 e (.lst [])=H3
    intro z1 he1
    obtain⟨hT,hC,hD,_,_,_,hd1,hw,_⟩:=X H3 z1
    refine⟨.list ((qC rs).map zh),.list (([]:List (Nat×Nat)).map zh),.lst (SqL.of hd1) (j6 hw),.lst (SqL.of he1) .nil,xT _ _,_,rfl,yc (fun hne=>?_) (fun _=>ziU H3 z1)⟩
    have pos:0<w1.length:=by
     rw [hw.length]
     cases hb:qC rs with
     | nil =>
      rw [hb] at hne
      exact absurd hne (by decide)
     | cons x y=>exact succ_pos _
    obtain⟨v,hv,gv⟩:=zaP pos cell
    obtain⟨c,hc,rc⟩:=Cel.get hw gv
    refine⟨_,rfl,_,rfl,_,rfl,_,rfl,_,rfl,d1,_,rfl,.inl (SqL.of hd1),_,_,rfl,rfl,(by show (0:Int)<((w1.length:Nat):Int);omega),d1,_,_,v,rfl,rfl,SqL.of hd1,hv,(by show 1<=sizeLine;decide),fun q1 hq1=>?_⟩
    have z4:=zd (o:=.lst [v]) hq1
    have hC4:=hC.mono z4
    refine⟨ca,q1,_,_,rfl,rfl,hC4.h,zb,?_,fun r hr=>?_⟩
    ·rw [hC.c.length]
     exact le_trans (show _<=21 by have:=hC.l;show c1.length+1<=21;omega) (by decide)
    have z5:=zd (o:=.lst (u1++[v])) hr
    have z45:=z4.trans z5
    refine⟨r,_,(c1++[c]).map toI,rfl,SqL.of zb,Cel.tup2 (Cel.append (hC.c.mono z45) (.cons (j5.mono z45 rc) .nil)),?_,fun d us' ps' hd ht hp _=>?_⟩
    ·rw [length_append,hC.c.length]
     exact le_trans (show _<=21 by have:=hC.l;show c1.length+1<=21;omega) (by decide)
    have z6:=zd (o:=.lst us') hd
    refine⟨_,rfl,(by show 3<=sizeLine;decide),fun tp htp=>?_⟩
    have z7:=zd (o:=.tup [.ref th,.ref d,.ref da]) htp
    have z67:=z6.trans z7
    obtain⟨ds,hS⟩:=zaQ hC (Qq R (mem_of_getElem? hc)) ht hp hd
    exact q2 tp th d da ths ts us' u2 ds c2 _ (j3 zb (hT.mono (z45.trans z67)) (by omega) ((hS.mono z7).up (by decide)) ((hD.mono (z45.trans z67)).up (by decide))) (z1.trans (z45.trans z67))
   case b=>exact xD (ziU H2 (zy.refl _))
  intro H3 s3
  obtain⟨hT,hC,hD,hF,htd,hop,_,_,hsa⟩:=X H3 s3
  refine⟨_,rfl,rfl,_,rfl,yc (fun _=>?_) (fun _=>?_)⟩
  ·refine⟨_,rfl,_,rfl,_,rfl,(by show 3<=sizeLine;decide),fun tp htp=>?_⟩
   have z1:=zd (o:=.tup [.ref th,.ref da,.ref ca]) htp
   exact q2 tp th da ca ths ts u2 u1 c2 c1 _ (j3 zb (hT.mono z1) (by omega) ((hD.mono z1).up (by decide)) ((hC.mono z1).up (by decide))) (s3.trans z1)
  clear hT hC hD hF htd hop hsa
  refine' zlo (A:=fun H'=>zy H3 H') ?k4 (fun zlt=>?t4)
  case t4 =>
   obtain⟨hT,hC,hD,hF,htd,hop,_,_,hsa⟩:=X H3 s3
   have f1:=Fi.l1
   have f2:=Fi.l2
   have fl:us.length+ws.length<=sizeLine:=by
    rw [hF.c1.length,hF.c2.length]
    exact le_trans (show _<=128 by omega) (by decide)
   refine⟨_,rfl,rfl,_,rfl,yc (fun _=>?a) (fun _=>?b)⟩
   case a =>
    refine⟨_,rfl,fa,_,0,_,rfl,rfl,SqT.of hF.tp,rfl,_,rfl,fa,_,1,_,rfl,rfl,SqT.of hF.tp,rfl,fc,fs,us,ws,rfl,rfl,hF.h1,hF.h2,fl,fun r hr=>⟨(by show 0<=sizeLine;decide),fun e he=>?_⟩⟩
    have z1:=zd (o:=.lst (us++ws)) hr
    have z2:=zd (o:=.lst []) he
    have z12:=z1.trans z2
    have hr2:upd (upd H3 r (.lst (us++ws))) e (.lst []) r=some (.lst (us++ws)):=z2 _ _ zb
    have he2:upd (upd H3 r (.lst (us++ws))) e (.lst []) e=some (.lst []):=zb
    clear z1 z2 he
    revert z12 hr2 he2
    generalize upd (upd H3 r (.lst (us++ws))) e (.lst [])=H4
    intro z12 hr2 he2
    have hF4:=hF.mono z12
    refine⟨.list ((cl++st).map zh),.list (([]:List (Nat×Nat)).map zh),.lst (SqL.of hr2) (j6 (hF4.c1.append hF4.c2)),.lst (SqL.of he2) .nil,xT _ _,_,rfl,yc (fun hne=>?_) (fun _=>zlt H4 z12)⟩
    have pos:0<(us++ws).length:=by
     rw [Paired.length (hF4.c1.append hF4.c2)]
     cases hb:cl++st with
     | nil =>
      rw [hb] at hne
      exact absurd hne (by decide)
     | cons x y=>exact succ_pos _
    refine⟨_,rfl,fa,_,0,_,rfl,rfl,SqT.of hF4.tp,rfl,_,rfl,fa,_,1,_,rfl,rfl,SqT.of hF4.tp,rfl,fc,fs,us,ws,rfl,rfl,hF4.h1,hF4.h2,fl,fun r3 hr3=>?_⟩
    have z3:=zd (o:=.lst (us++ws)) hr3
    have zje:upd H4 r3 (.lst (us++ws)) r3=some (.lst (us++ws)):=zb
    have z13:=z12.trans z3
    clear z3
    revert z13 zje
    generalize upd H4 r3 (.lst (us++ws))=H5
    intro zje z13
    obtain⟨v,hv,gv⟩:=zaP pos cell
    have hF5:=hF.mono z13
    obtain⟨c,hc,rc⟩:=Cel.get (hF5.c1.append hF5.c2) gv
    have hD5:=hD.mono z13
    have hcb:c.1<8/\c.2<8:=by
     rcases List.mem_append.mp (mem_of_getElem? hc) with h | h
     ·exact Fi.b1 c h
     ·exact Fi.b2 c h
    refine⟨_,rfl,_,rfl,_,rfl,_,rfl,_,rfl,_,rfl,r3,_,rfl,.inl (SqL.of zje),_,_,rfl,rfl,(by show (0:Int)<(((us++ws).length:Nat):Int);omega),r3,_,_,v,rfl,rfl,SqL.of zje,hv,(by show 1<=sizeLine;decide),fun q1 hq1=>?_⟩
    have z4:=zd (o:=.lst [v]) hq1
    have hD6:=hD5.mono z4
    refine⟨da,q1,_,_,rfl,rfl,hD6.h,zb,?_,fun r hr=>?_⟩
    ·rw [hD.c.length]
     exact le_trans (show _<=21 by have:=hD.l;show c2.length+1<=21;omega) (by decide)
    have z5:=zd (o:=.lst (u2++[v])) hr
    have z45:=z4.trans z5
    refine⟨r,_,(c2++[c]).map toI,rfl,SqL.of zb,Cel.tup2 (Cel.append (hD5.c.mono z45) (.cons (j5.mono z45 rc) .nil)),?_,fun d us' ps' hd ht hp _=>?_⟩
    ·rw [length_append,hD.c.length]
     exact le_trans (show _<=21 by have:=hD.l;show c2.length+1<=21;omega) (by decide)
    have z6:=zd (o:=.lst us') hd
    refine⟨(by show 3<=sizeLine;decide),fun tp htp=>?_⟩
    have z7:=zd (o:=.tup [.ref th,.ref ca,.ref d]) htp
    have z67:=z6.trans z7
    have zz:=z13.trans (z45.trans z67)
    obtain⟨ds,hS⟩:=zaQ hD5 hcb ht hp hd
    exact q2 tp th ca d ths ts u1 us' c1 ds _ (j3 zb (hT.mono zz) (by omega) ((hC.mono zz).up (by decide)) ((hS.mono z7).up (by decide))) (s3.trans zz)
   case b=>exact xD (zlt H3 (zy.refl _))
  intro H4 s34
  have s4:=s3.trans s34
  obtain⟨hT,hC,hD,hF,htd,hop,_,_,hsa⟩:=X H4 s4
  refine' zkq (A:=True) ?k5 (fun zlu=>?t5)
  case t5 =>
   refine⟨_,rfl,rfl,_,rfl,yc (fun _=>?a) (fun _=>?b)⟩
   case a =>
    refine⟨_,rfl,td,_,rfl,.inl (SqL.of htd),_,_,rfl,rfl,_,rfl,yc (fun hgt=>?_) (fun _=>zlu trivial)⟩
    have al:(w2++[V.str "all"]).length=w2.length+1:=by rw [length_append];rfl
    have hgt:=of_decide_eq_true hgt
    have pos:0<w2.length:=by omega
    obtain⟨v,hv,gv⟩:=zaP pos cell
    have gi:=(List.getElem?_eq_some_iff.mp gv).1
    have hv2:atI (w2++[V.str "all"]) (cell%((((w2++[V.str "all"]).length:Nat):Int)-1))=some v:=by
     have e:(((w2++[V.str "all"]).length:Nat):Int)-1=((w2.length:Nat):Int):=by omega
     rw [e]
     refine Jq (emod_nonneg _ (by omega)) ?_
     rw [getElem?_append_left gi]
     exact gv
    obtain⟨c,hc,rc⟩:=Cel.get hop gv
    refine⟨_,rfl,_,rfl,_,rfl,_,rfl,_,rfl,td,_,rfl,.inl (SqL.of htd),_,_,rfl,rfl,_,_,rfl,rfl,(by show (0:Int)<(((w2++[V.str "all"]).length:Nat):Int)-1;omega),td,_,_,v,rfl,rfl,SqL.of htd,hv2,(by show 1<=sizeLine;decide),fun q1 hq1=>?_⟩
    have z4:=zd (o:=.lst [v]) hq1
    have hC4:=hC.mono z4
    refine⟨ca,q1,_,_,rfl,rfl,hC4.h,zb,?_,fun r hr=>?_⟩
    ·rw [hC.c.length]
     exact le_trans (show _<=21 by have:=hC.l;show c1.length+1<=21;omega) (by decide)
    have z5:=zd (o:=.lst (u1++[v])) hr
    have z45:=z4.trans z5
    refine⟨r,_,(c1++[c]).map toI,rfl,SqL.of zb,Cel.tup2 (Cel.append (hC.c.mono z45) (.cons (j5.mono z45 rc) .nil)),?_,fun d us' ps' hd ht hp _=>?_⟩
    ·rw [length_append,hC.c.length]
     exact le_trans (show _<=21 by have:=hC.l;show c1.length+1<=21;omega) (by decide)
    have z6:=zd (o:=.lst us') hd
    refine⟨_,rfl,(by show 3<=sizeLine;decide),fun tp htp=>?_⟩
    have z7:=zd (o:=.tup [.ref th,.ref d,.ref da]) htp
    have z67:=z6.trans z7
    obtain⟨ds,hS⟩:=zaQ hC (Qq R (mem_of_getElem? hc)) ht hp hd
    exact q2 tp th d da ths ts us' u2 ds c2 _ (j3 zb (hT.mono (z45.trans z67)) (by omega) ((hS.mono z7).up (by decide)) ((hD.mono (z45.trans z67)).up (by decide))) (s4.trans (z45.trans z67))
   case b=>exact xD (zlu trivial)
  intro _
  refine⟨_,rfl,rfl,_,rfl,yc (fun _=>?_) (fun _=>?_)⟩
  ·refine⟨_,rfl,_,rfl,1,rfl,-1,rfl,rfl,ca,u1,rfl,SqL.of hC.h,fun r1 hr1=>?_⟩
   have z1:=zd (o:=.lst u1.reverse) hr1
   refine⟨_,rfl,1,rfl,-1,rfl,rfl,da,u2,rfl,SqL.of (hD.mono z1).h,fun r2 hr2=>⟨(by show 3<=sizeLine;decide),fun tp htp=>?_⟩⟩
   have z2:=zd (o:=.lst u2.reverse) hr2
   have z3:=zd (o:=.tup [.ref th,.ref r1,.ref r2]) htp
   have zz:=z1.trans (z2.trans z3)
   exact q2 tp th r1 r2 ths ts _ _ _ _ _ (j3 zb (hT.mono zz) (by omega) (((hC.rev hr1).mono (z2.trans z3)).up (by decide)) ((((hD.mono z1).rev hr2).mono z3).up (by decide))) (s4.trans zz)
  obtain⟨v0,t0,hv0,ht0,tv0⟩:∃v0 t0,ths[0]?=some v0/\ts[0]?=some t0/\TgV H4 v0 t0:=by
   obtain⟨v0,g0,a0⟩:=zcV (i:=0) hT.t (getElem?_eq_getElem (by omega))
   exact⟨v0,_,g0,getElem?_eq_getElem (by omega),a0⟩
  have ok0:=hT.ok t0 (mem_of_getElem? ht0)
  have tl:ths.length=ts.length:=Paired.length hT.t
  refine⟨_,rfl,rfl,_,rfl,yc (fun _=>?_) (fun _=>?_)⟩
  ·refine⟨_,rfl,_,rfl,th,_,_,v0,rfl,rfl,SqL.of hT.h,ja (j:=0) hv0,(by show 1<=sizeLine;decide),fun q1 hq1=>?_⟩
   have z1:=zd (o:=.lst [v0]) hq1
   refine⟨th,q1,_,_,rfl,rfl,(hT.mono z1).h,zb,?_,fun r hr=>⟨_,rfl,_,rfl,(by show 3<=sizeLine;decide),fun tp htp=>?_⟩⟩
   ·rw [tl]
    exact le_trans (show _<=3 by show ts.length+1<=3;omega) (by decide)
   have z2:=zd (o:=.lst (ths++[v0])) hr
   have z3:=zd (o:=.tup [.ref r,.ref ca,.ref da]) htp
   have zz:=z1.trans (z2.trans z3)
   refine q2 tp r ca da (ths++[v0]) (ts++[t0]) _ _ _ _ _ (j3 zb ⟨z3 _ _ zb,zb6 (JN zz hT.t) (.cons (tv0.mono zz) .nil),fun t ht=>?_⟩ ?_ ((hC.mono zz).up (by decide)) ((hD.mono zz).up (by decide))) (s4.trans zz)
   ·rcases List.mem_append.mp ht with h | h
    ·exact hT.ok t h
    ·rw [List.mem_singleton.mp h]
     exact ok0
   ·rw [length_append]
    show ts.length+1<=3
    omega
  refine⟨_,rfl,rfl,_,rfl,yc (fun _=>?_) (fun _=>?_)⟩
  ·refine⟨(by show 0<=sizeLine;decide),fun e he=>⟨_,rfl,_,rfl,(by show 3<=sizeLine;decide),fun tp htp=>?_⟩⟩
   have z1:=zd (o:=.lst []) he
   have z2:=zd (o:=.tup [.ref e,.ref ca,.ref da]) htp
   have zz:=z1.trans z2
   exact q2 tp e ca da [] [] _ _ _ _ _ (j3 zb ⟨z2 _ _ zb,.nil,fun _ h=>nomatch h⟩ (by decide) ((hC.mono zz).up (by decide)) ((hD.mono zz).up (by decide))) (s4.trans zz)
  refine⟨_,rfl,rfl,_,rfl,yc (fun _=>?_) (fun _=>?_)⟩
  ·refine⟨_,rfl,_,rfl,th,_,rfl,SqL.of hT.h,fun q1 hq1=>?_⟩
   rw [zjd]
   have z1:=zd (o:=.lst (ths.take 1)) hq1
   refine⟨(by show 2<=sizeLine;decide),fun a1 ha1=>⟨(by show 3<=sizeLine;decide),fun a2 ha2=>⟨(by show 4<=sizeLine;decide),fun lz hlz=>?_⟩⟩⟩
   have z2:=zd (o:=.tup [.int 9,.int 9]) ha1
   have z3:=zd (o:=.tup [.int 0,.int 0,.int 0]) ha2
   have z4:=zd (o:=.lst [V.str "none",.ref a1,V.str "All",.ref a2]) hlz
   have z14:=z1.trans (z2.trans (z3.trans z4))
   have hq4:=(z2.trans (z3.trans z4)) _ _ (zb (H:=H4) (a:=q1) (o:=.lst (ths.take 1)))
   have ha14:=(z3.trans z4) _ _ (zb (a:=a1) (o:=.tup [.int 9,.int 9]))
   have ha24:=z4 _ _ (zb (a:=a2) (o:=.tup [.int 0,.int 0,.int 0]))
   obtain⟨v,t,hv,tv,okt⟩:=zkx ha14 ha24 cell
   refine⟨_,rfl,_,_,rfl,rfl,(by show (0:Int)<4;decide),lz,_,_,v,rfl,rfl,SqL.of zb,hv,(by show 1<=sizeLine;decide),fun q2' hq2=>?_⟩
   have z5:=zd (o:=.lst [v]) hq2
   refine⟨q1,q2',_,_,rfl,rfl,z5 _ _ hq4,zb,?_,fun r hr=>⟨_,rfl,_,rfl,(by show 3<=sizeLine;decide),fun tp htp=>?_⟩⟩
   ·rw [length_take]
    exact le_trans (show _<=2 by show min 1 ths.length+1<=2;omega) (by decide)
   have z6:=zd (o:=.lst (ths.take 1++[v])) hr
   have z7:=zd (o:=.tup [.ref r,.ref ca,.ref da]) htp
   have z57:=z5.trans (z6.trans z7)
   have zz:=z14.trans z57
   refine q2 tp r ca da (ths.take 1++[v]) (ts.take 1++[t]) _ _ _ _ _ (j3 zb ⟨z7 _ _ zb,zb6 (JN zz (zfJ hT.t 1)) (.cons (tv.mono z57) .nil),fun x hx=>?_⟩ ?_ ((hC.mono zz).up (by decide)) ((hD.mono zz).up (by decide))) (s4.trans zz)
   ·rcases List.mem_append.mp hx with h | h
    ·exact hT.ok x (mem_of_mem_take h)
    ·rw [List.mem_singleton.mp h]
     exact okt
   ·rw [length_append,length_take]
    show min 1 ts.length+1<=3
    omega
  refine⟨_,rfl,rfl,_,rfl,yc (fun _=>?_) (fun _=>?_)⟩
  ·refine⟨_,rfl,_,rfl,_,rfl,_,_,rfl,rfl,(by show (0:Int)<2;decide),_,rfl,ca,_,rfl,SqL.of hC.h,fun r1 hr1=>?_⟩
   obtain⟨ds1,h1⟩:=hC.cut _ _ hr1
   have z1:=zd (o:=.lst (yN u1 (some (cell%2)) none)) hr1
   have hD1:=hD.mono z1
   refine⟨_,rfl,_,rfl,_,_,rfl,rfl,jq.small (by decide) (by decide),_,_,rfl,rfl,(by show (0:Int)<2;decide),_,rfl,da,_,rfl,SqL.of hD1.h,fun r2 hr2=>?_⟩
   obtain⟨ds2,h2⟩:=hD1.cut _ _ hr2
   have z2:=zd (o:=.lst (yN u2 (some (cell/2%2)) none)) hr2
   refine⟨(by show 3<=sizeLine;decide),fun tp htp=>?_⟩
   have z3:=zd (o:=.tup [.ref th,.ref r1,.ref r2]) htp
   have zz:=z1.trans (z2.trans z3)
   exact q2 tp th r1 r2 ths ts _ _ _ _ _ (j3 zb (hT.mono zz) (by omega) ((h1.mono (z2.trans z3)).up (by decide)) ((h2.mono z3).up (by decide))) (s4.trans zz)
  exact⟨_,rfl,q2 sa th ca da ths ts u1 u2 c1 c2 H4 (j3 hsa hT (by omega) (hC.up (by decide)) (hD.up (by decide))) s4⟩
end
def zfL (K:PySem.W.Frag):Sp:=fun vs H Q _=>∃(a:Addr) (ns:List Int),vs=[.ref a]/\SqL K H a (ns.map V.int)/\ns.length<=63/\∀H',Q (.bl true) H'
theorem zdX {H:Hp}{ws:List V}{cs:List (Nat×Nat)}{i:Nat}{v:V}(h:Cel H ws cs)(e:(ws++[V.str "all"])[i]?=some v):∃tg:Option (Nat×Nat),Zg H v tg/\∀c,tg=some c->c∈cs:=by
 by_cases hi:i<ws.length
 ·rw [getElem?_append_left hi] at e
  obtain⟨c,hc,r⟩:=h.get e
  exact⟨some c,r,fun c' e'=>by cases e';exact mem_of_getElem? hc⟩
 ·rw [List.getElem?_append_right (by omega)] at e
  have:v=V.str "all":=by
   cases hk:i-ws.length with
   | zero =>
    rw [hk] at e
    exact(Option.some.inj e).symm
   | succ m =>
    rw [hk] at e
    cases e
  exact⟨none,this,fun _ e'=>nomatch e'⟩
theorem zky {H:Hp}{vs:List V}{tgs:List Tg}(h:Paired (Zg H) vs tgs):Paired (TgV H) vs (tgs.map ofT)/\∀t∈tgs.map ofT,Zq t:=by
 induction h with
 | nil=>exact⟨.nil,fun _ h=>nomatch h⟩
 | @cons v tg _ _ q _ ih =>
  refine⟨.cons q.tgv ih.1,fun t ht=>?_⟩
  rcases List.mem_cons.mp ht with e | h
  ·rw [e]
   cases tg with
   | none=>exact zko
   | some c=>exact zh3 c
  ·exact ih.2 t h
theorem zij {H H':Hp}(s:zy H H'){vs:List V}{tgs:List Tg}(h:Paired (Zg H) vs tgs):Paired (Zg H') vs tgs:=Paired.imp' (fun _ _ z=>Zg.mono s z) h
theorem zjf {rs:List Str}{n:Int}{cl st:List (Nat×Nat)}{tgs:List Tg}(R:Rows bd.cps.toList rs)(l20:(qC rs).length<=20):((j7 rs n cl st tgs).1.length<=20/\∀c∈(j7 rs n cl st tgs).1,c.1<8/\c.2<8)/\(j7 rs n cl st tgs).2.length<=20/\∀c∈(j7 rs n cl st tgs).2,c.1<8/\c.2<8:=by
 unfold j7
 cases hf:fol rs n cl st tgs with
 | none=>exact⟨⟨by decide,fun _ h=>nomatch h⟩,by decide,fun _ h=>nomatch h⟩
 | some d =>
  obtain⟨d1,d2⟩:=d
  have fs:=JM hf
  have ld:∀{d:List (Nat×Nat)},d.Pairwise Cells.lex->(∀c∈d,c∈qC rs/\c ∉ cl/\c ∉ st)->d.length<=20/\∀c∈d,c.1<8/\c.2<8:=fun {d} hp hm=>by
   have:=(jN hp).length_le_of_subset (fun c hc=>(hm c hc).1:d ⊆ qC rs)
   exact⟨by omega,fun c hc=>Qq R (hm c hc).1⟩
  exact⟨ld fs.1.1 fs.1.2,ld fs.2.1 fs.2.2⟩
noncomputable def stD (ts:List Thg)(c1 c2:List (Nat×Nat)):PyData:=.tuple [.list (ts.map thD),.list (c1.map zh),.list (c2.map zh)]
theorem zfM {ts:List Thg}(h:∀t∈ts,Zq t)(c1 c2:List (Nat×Nat)):zf2 (stD ts c1 c2) (stD ts c1 c2):=by
 have cm:=zfI h
 have h1:PyData.canLay0 (stD ts c1 c2)=true:=by
  show (PyData.canLay0 (.list (ts.map thD))&&(PyData.canLay0 (.list (c1.map zh))&&(PyData.canLay0 (.list (c2.map zh))&&true)))=true
  rw [show PyData.canLay0 (.list (ts.map thD))=true from cm.1,show PyData.canLay0 (.list (c1.map zh))=true from Yh c1,show PyData.canLay0 (.list (c2.map zh))=true from Yh c2]
  rfl
 refine⟨h1,h1,?_⟩
 show max (PyData.depthAll (ts.map thD)+1) (max (PyData.depthAll (c1.map zh)+1) (max (PyData.depthAll (c2.map zh)+1) 0))+1<=64
 have a:=zax c1
 have b:=zax c2
 omega
theorem yi.rdv {K:PySem.W.Frag}{H:Hp}{sa th ca da:Addr}{ths:List V}{ts:List Thg}{us ws:List V}{c1 c2:List (Nat×Nat)}(x:yi H sa th ca da ths ts us ws c1 c2):Rdv K H (.ref sa) (stD ts c1 c2):=.tup (SqT.of x.tp) (.cons (.lst (SqL.of x.h) (zi4 x.t)) (.cons (.lst (SqL.of x.h1) (j6 x.e1)) (.cons (.lst (SqL.of x.h2) (j6 x.e2)) .nil)))
theorem yi.copy {H H':Hp}{sa th ca da sb tb cb db:Addr}{ths:List V}{ts:List Thg}{us ws:List V}{c1 c2:List (Nat×Nat)}(x:yi H sa th ca da ths ts us ws c1 c2)(s:zy H H')(h:H' sb=some (.tup [.ref tb,.ref cb,.ref db]))(h1:H' tb=some (.lst ths))(h2:H' cb=some (.lst us))(h3:H' db=some (.lst ws)):yi H' sb tb cb db ths ts us ws c1 c2:=⟨h,h1,JN s x.t,x.ok,x.few,h2,h3,x.e1.mono s,x.e2.mono s,x.l1,x.l2,x.b1,x.b2⟩
def zdY (m:Int):Int:=if (if (10:Int)<m then 10 else m)>5 then (if (10:Int)<m then 10 else m) else 5
theorem zik (m:Nat):5<=zdY ((m:Nat):Int)/\zdY ((m:Nat):Int)<=10:=by
 unfold zdY
 split<;>split<;>omega
section
variable {P:Program}{w:World}{K:PySem.W.Frag}{mg:Str->Option Value}{base:Heap}{f:Addr}{fd:FuncData}{C_NoLaying:Addr}
theorem j4:zO ["_law_script","_law_marks","_law_board_here","_law_finding_here","_law_some","_law_k","_law_cell","_law_things_here","_law_clears","_law_stones","_law_step","_law_handed","_law_kept","_law_found"] ["_law_script"] (zk zdk):=⟨rfl,rfl,rfl,by decide +kernel,rfl,by decide +kernel,by decide +kernel⟩
theorem zkz (T:Txt mg)(O_NoLaying:Z0 K mg "NoLaying" C_NoLaying)(FN:PySem.W.mroIn K C_NoLaying (.ref C_NoLaying)=some true)(Z:Prog K mg)(D:zC K mg "law" zdk ["_law_script"] f fd):zQ P w K mg base CX0 9 f fd ["_law_script"] (zfL K):=by
 obtain⟨zbc,zaS,zp⟩:=Z.law_cell_at
 obtain⟨zjE,zjg,qa⟩:=Z.law_mixed
 obtain⟨zkA,zjF,yj⟩:=Z.law_mark
 obtain⟨zdZ,zcI,Jo⟩:=Z.law_drawn
 obtain⟨QE,Y4,zu⟩:=Z.law_cells
 obtain⟨zeM,zdW,qq⟩:=Z.law_near
 obtain⟨zd0,zcJ,Jp⟩:=Z.law_board
 obtain⟨zeN,zd1,Zm⟩:=Z.law_bent
 obtain⟨zbd,zaT,yC⟩:=Z.law_finding
 obtain⟨jY,jD,zZ⟩:=Z.law_things
 obtain⟨Yn,ZK,jc⟩:=Z.law_told
 obtain⟨zbe,zaU,yD⟩:=Z.law_spoiled
 obtain⟨zgO,zeO,ZX⟩:=Z.law_due
 obtain⟨zjh,zil,QY⟩:=Z.holds
 have qv:zQ P w K mg base CX0 1 zbc zaS ["_law_script","_law_k"] (zes K):=ZG T zp
 have zd2:zQ P w K mg base CX0 2 zdZ zcI ["_law_script","_law_most","_law_limit"] (zfF K):=zcD T Jo zp qa yj
 have zd3:zQ P w K mg base CX0 2 zd0 zcJ ["_law_marks"] zdV:=zcF T Jp qq zu
 have zeP:zQ P w K mg base CX0 2 zeN zd1 ["_law_board_here","_law_cell"] zfG:=zdS T Zm zu
 have zbf:zQ P w K mg base CX0 2 zbd zaT ["_law_marks","_law_cell"] zbQ:=zaL T yC qa zu
 have jZ:zQ P w K mg base CX0 2 jY jD ["_law_board_here"] YU:=Jt T zZ zu
 have Yo:zQ P w K mg base CX0 5 Yn ZK ["_law_board_here","_law_things_here","_law_finding_here"] zcC:=QC T O_NoLaying FN Z jc
 have zbg:zQ P w K mg base CX0 3 zbe zaU ["_law_board_here","_law_step","_law_finding_here","_law_way","_law_cell"] zfK:=zaR T Z yD
 have zgP:zQ P w K mg base CX0 6 zgO zeO ["_law_board_here","_law_step","_law_finding_here"] zjC:=zeL T O_NoLaying FN Z ZX
 have zji:zQ P w K mg base CX0 5 zjh zil ["board","finding","step"] zfC:=zh7 T O_NoLaying FN Z QY
 refine D.F.ok j4 (fun vs H Q E h=>?_) (fun cdv A outer s H vs Q E hr h=>?_)
 ·obtain⟨a,ns,rfl,_⟩:=h
  rfl
 ·obtain⟨a,ns,rfl,hS,hlen,q⟩:=h
  refine⟨_,(zf (zH (i:=1) j4.nd rfl (Or.inl rfl) (zB zd2 (hr.mono (by decide)) (by rfl) Jo.g Jo.F.kp Jo.b .nil zV (za (pv 0) (za ze (za ze zc)))))
   (zf (zH (i:=2) j4.nd rfl (Or.inl rfl) (zB zeP (hr.mono (by decide)) (by rfl) Zm.g Zm.F.kp Zm.b .nil zV (za (zB zd3 (hr.mono (by decide)) (by rfl) Jp.g Jp.F.kp Jp.b .nil zV (za (pv 1) zc)) (za (zB qv (hr.mono (by decide)) (by rfl) zp.g zp.F.kp zp.b .nil zV (za (pv 0) (za ze zc))) zc))))
   (zf (zH (i:=3) j4.nd rfl (Or.inl rfl) (zB zbf (hr.mono (by decide)) (by rfl) yC.g yC.F.kp yC.b .nil zV (za (pv 1) (za (zB qv (hr.mono (by decide)) (by rfl) zp.g zp.F.kp zp.b .nil zV (za (pv 0) (za ze zc))) zc))))
   (zf (zH (i:=4) j4.nd rfl (Or.inl rfl) (zB jZ (hr.mono (by decide)) (by rfl) zZ.g zZ.F.kp zZ.b .nil zV (za (pv 2) zc)))
   (zf (yL PassesOwn.never rfl (Y6 (by rfl) T.xj (za ze (za (zm (Ju rfl) (by rfl) T.zbF PyProof.Rows.boot_max (za ze (za (zm (xx rfl) (by rfl) T.zat PyProof.Rows.boot_min (za (zm zx (by rfl) T.qR PySem.boot_len (za (pv 0) zc)) (za ze zc))) zc))) zc))) (zF (i:=5) j4.nd rfl (Or.inl rfl)) (zf (zH (i:=6) j4.nd rfl (Or.inl rfl) (zB qv (hr.mono (by decide)) (by rfl) zp.g zp.F.kp zp.b .nil zV (za (pv 0) (za (pv 5) zc))))
   (zf (zH (i:=7) j4.nd rfl (Or.inl rfl) (zU (za (zw zT (pv 4) (zv zY (pv 6) (zm zx (by rfl) T.qR PySem.boot_len (za (pv 4) zc))) (fun _ _=>rfl)) zc)))
   (QO (qo (PW.pt (xB (zq qU (zv zY (zv qk (pv 6) ze) ze) ze (zD _)) (jR (zq zbj (zv zY (zv qk (pv 6) ze) (zm zx (by rfl) T.qR PySem.boot_len (za (pv 4) zc))) (zv zY (pv 6) (zm zx (by rfl) T.qR PySem.boot_len (za (pv 4) zc))) (zD _))))) (zg (jF (Zo PySem.F.plainAttrs_list PySem.F.slot_list_append PySem.F.type_list_append jj (pv 7) (za (zw zT (pv 4) (zv zY (zv qk (pv 6) ze) (zm zx (by rfl) T.qR PySem.boot_len (za (pv 4) zc))) (fun _ _=>rfl)) zc)))) zM)
   (zf (Q4 (zB Yo (hr.mono (by decide)) (by rfl) jc.g jc.F.kp jc.b .nil zV (za (pv 2) (za (pv 7) (za (pv 3) zc)))) (J0 rfl (qg (zF (i:=8) j4.nd rfl (Or.inl rfl)) (qg (zF (i:=9) j4.nd rfl (Or.inl rfl)) yX))))
   (zf (zH (i:=10) j4.nd rfl (Or.inl rfl) (zB zbg (hr.mono (by decide)) (by rfl) yD.g yD.F.kp yD.b .nil zV (za (pv 2) (za (zW (za (pv 7) (za (pv 8) (za (pv 9) zc)))) (za (pv 3) (za (zv zY (zv qk (pv 6) ze) ze) (za (zv qk (pv 6) ze) zc)))))))
   (zf (zH (i:=11) j4.nd rfl (Or.inl rfl) (zW (za (qc qO (by rfl) T.yO PyProof.Rows.boot_list (za (zw zI (pv 10) ze (fun _ _=>rfl)) zc)) (za (qc qO (by rfl) T.yO PyProof.Rows.boot_list (za (zw zI (pv 10) ze (fun _ _=>rfl)) zc)) (za (qc qO (by rfl) T.yO PyProof.Rows.boot_list (za (zw zI (pv 10) ze (fun _ _=>rfl)) zc)) zc)))))
   (zf (zH (i:=12) j4.nd rfl (Or.inl rfl) (zW (za (qc qO (by rfl) T.yO PyProof.Rows.boot_list (za (zw zI (pv 3) ze (fun _ _=>rfl)) zc)) (za (qc qO (by rfl) T.yO PyProof.Rows.boot_list (za (zw zI (pv 3) ze (fun _ _=>rfl)) zc)) zc))))
   (zf (zH (i:=13) j4.nd rfl (Or.inl rfl) (zB zji (hr.mono (by decide)) (by rfl) QY.g QY.F.kp QY.b .nil zV (za (pv 2) (za (pv 3) (za (pv 11) zc)))))
   (zf (qo (PW.pt (ZZ (Q3 (jo (zm yE (by rfl) T.jz PyProof.Rows.boot_isinstance (za (pv 13) (za (ZQ (v:=.ty "bool") (by rfl) T.zhO PyProof.Rows.boot_bool (by rfl)) zc))) (fun _=>rfl))) (ZZ (zq (qp hr.units) (pv 3) (pv 12) (zD _)) (Z8 (zq zbj (pv 13) (zB zgP (hr.mono (by decide)) (by rfl) ZX.g ZX.F.kp ZX.b .nil zV (za (pv 2) (za (pv 10) (za (pv 3) zc)))) (zD _)))))) (zg (zG Zn)) zM)
   (zg (qo (zq (qp hr.units) (pv 11) (zW (za (qc qO (by rfl) T.yO PyProof.Rows.boot_list (za (zw zI (pv 10) ze (fun _ _=>rfl)) zc)) (za (qc qO (by rfl) T.yO PyProof.Rows.boot_list (za (zw zI (pv 10) ze (fun _ _=>rfl)) zc)) (za (qc qO (by rfl) T.yO PyProof.Rows.boot_list (za (zw zI (pv 10) ze (fun _ _=>rfl)) zc)) zc)))) (zD _)) (zg (zG Zn)) zM))))))))))))
   (zg (zG Zn))))))),?_⟩
  refine⟨_,rfl,a,ns,rfl,hS,fun d us gs H1 hd hd1 hM M s1=>?_⟩
  refine⟨_,rfl,d,us,gs,rfl,hd1,hM,M,fun p0 l0 rs0 H2 hp0 hl0 B0 er s2=>?_⟩
  have R0:=M.rows er
  refine⟨_,rfl,a,ns,_,rfl,(s1.trans s2).seq hS,by decide,fun c2=>?_⟩
  refine⟨p0,l0,rs0,_,c2,rfl,B0,R0,fun p l rs n H3 B R esh s3=>?_⟩
  have s03:=(s1.trans s2).trans s3
  have few:(qC rs).length<=20:=by
   rw [esh]
   exact le_trans (M.few8 er) (by decide)
  refine⟨_,rfl,_,rfl,a,ns,_,rfl,s03.seq hS,by decide,fun c3=>?_⟩
  refine⟨d,us,gs,c3,rfl,(s2.trans s3) _ _ hd1,hM.mono (s2.trans s3),M,fun fa fc fs u w' cl st H4 _ _ _ F Fi ap s4=>?_⟩
  have B4:=B.mono s4
  have s04:=s03.trans s4
  refine⟨_,rfl,p,l,rs,n,rfl,B4,R,fun td ws H5 htd zl2 hcw s5=>?_⟩
  have B5:=B4.mono s5
  have F5:=F.mono s5
  have s05:=s04.trans s5
  have al:(ws++[V.str "all"]).length=ws.length+1:=by rw [length_append];rfl
  have pos:0<(ws++[V.str "all"]).length:=by omega
  have tp:=zik (ns.map V.int).length
  refine⟨_,rfl,a,_,rfl,.inl (s05.seq hS),_,_,rfl,_,_,rfl,4,zdY ((ns.map V.int).length:Nat),rfl,⟨by decide,by decide,by omega,by omega⟩,?_⟩
  refine ji (lo:=4) (n:=(zdY ((ns.map V.int).length:Nat)-4).toNat) (fun i σ H'=>∃(v5 v6 v7 v8 v9 v10 v11 v12 v13:Option V),σ=[some (.ref a),some (.ref d),some (.ref p),some (.ref fa),some (.ref td),v5,v6,v7,v8,v9,v10,v11,v12,v13]/\zy H5 H') ⟨_,_,_,_,_,_,_,_,_,rfl,zy.refl _⟩ ?_ ?_
  ·rintro i σ H6 hi ⟨v5,v6,v7,v8,v9,v10,v11,v12,v13,rfl,s6⟩
   have htd6:=s6 _ _ zl2
   have s06:=s05.trans s6
   refine⟨_,rfl,_,rfl,a,ns,_,rfl,s06.seq hS,(by show (0:Int)<=4+(i:Int);omega),fun c=>?_⟩
   obtain⟨t1,ht1,gt1⟩:=zaP pos c
   have posI:(0:Int)<(((ws++[V.str "all"]).length:Nat):Int):=by omega
   refine⟨_,rfl,_,rfl,_,rfl,td,_,rfl,.inl (SqL.of htd6),_,_,rfl,rfl,posI,td,_,_,t1,rfl,rfl,SqL.of htd6,ht1,(by show 1<=sizeLine;decide),fun th hth=>?_⟩
   have z7:=zd (o:=.lst [t1]) hth
   have hth7:upd H6 th (.lst [t1]) th=some (.lst [t1]):=zb
   have th0:H6 th=none:=hth
   clear hth
   generalize upd H6 th (.lst [t1])=H7 at *
   have s57:=s6.trans z7
   obtain⟨tg1,a1,o1⟩:=zdX (hcw.mono s57) gt1
   have o1':∀x,some x ∈ [tg1]->x∈jg rs:=fun x hx=>o1 x (List.mem_singleton.mp hx).symm
   refine⟨fun σ' H'=>∃(ths:List V) (tgs:List Tg),σ'=[some (.ref a),some (.ref d),some (.ref p),some (.ref fa),some (.ref td),some (.int (4+(i:Int))),some (.int c),some (.ref th),v8,v9,v10,v11,v12,v13]/\zy H6 H'/\H' th=some (.lst ths)/\Paired (Zg H') ths tgs/\(tgs.length=1\/tgs.length=2)/\∀x,some x∈tgs->x∈jg rs,?_,?_⟩
   ·have one:∃(ths:List V) (tgs:List Tg),[some (V.ref a),some (V.ref d),some (V.ref p),some (V.ref fa),some (V.ref td),some (V.int (4+(i:Int))),some (V.int c),some (V.ref th),v8,v9,v10,v11,v12,v13]=[some (V.ref a),some (V.ref d),some (V.ref p),some (V.ref fa),some (V.ref td),some (V.int (4+(i:Int))),some (V.int c),some (V.ref th),v8,v9,v10,v11,v12,v13]/\zy H6 H7/\H7 th=some (.lst ths)/\Paired (Zg H7) ths tgs/\(tgs.length=1\/tgs.length=2)/\∀x,some x∈tgs->x∈jg rs:=⟨[t1],[tg1],rfl,z7,hth7,.cons a1 .nil,.inl rfl,o1'⟩
    have htd7:=z7 _ _ htd6
    refine⟨_,rfl,_,_,rfl,rfl,jq.small (by decide) (by decide),_,_,rfl,rfl,(by show (0:Int)<2;decide),rfl,_,rfl,yc (fun _=>?_) (fun _=>xD one)⟩
    refine⟨_,rfl,_,_,rfl,rfl,jq.small (by decide) (by decide),_,rfl,td,_,rfl,.inl (SqL.of htd7),_,_,rfl,rfl,posI,_,rfl,_,rfl,td,_,rfl,.inl (SqL.of htd7),_,_,rfl,rfl,posI,rfl,_,rfl,yc (fun _=>?_) (fun _=>one)⟩
    obtain⟨t2,ht2,gt2⟩:=zaP pos (c/6)
    obtain⟨tg2,a2,o2⟩:=zdX (hcw.mono s57) gt2
    refine⟨_,rfl,.inl ⟨rfl,_,SqL.of hth7⟩,_,rfl,_,rfl,_,_,rfl,rfl,jq.small (by decide) (by decide),_,rfl,td,_,rfl,.inl (SqL.of htd7),_,_,rfl,rfl,posI,td,_,_,t2,rfl,rfl,SqL.of htd7,ht2,th,_,_,rfl,rfl,hth7,(by show 1<sizeLine;decide),?_⟩
    have kk:∀{v:V} {tg:Tg},Zg H7 v tg->Zg (upd H7 th (.lst ([t1]++[t2]))) v tg:=fun {v tg} hv=>by
     cases tg with
     | none=>exact hv
     | some x =>
      obtain⟨b,e,h⟩:=hv
      exact⟨b,e,by rw [zo (Q0 h hth7 (by intro z;cases z))];exact h⟩
    refine⟨[t1]++[t2],[tg1,tg2],rfl,fun b o e=>?_,zb,.cons (kk a1) (.cons (kk a2) .nil),.inr rfl,fun x hx=>?_⟩
    ·rw [zo (zj e th0)]
     exact z7 _ _ e
    ·rcases List.mem_cons.mp hx with h | h
     ·exact o1 x h.symm
     ·exact o2 x (List.mem_singleton.mp h).symm
   ·rintro σ' H8 ⟨ths,tgs,rfl,s8,hth8,hTh,m12,hO⟩
    have s58:=s6.trans s8
    have F8:=F5.mono s58
    have B8:=B5.mono s58
    refine⟨_,rfl,_,rfl,_,rfl,p,l,th,fa,fc,fs,rs,n,ths,tgs,u,w',cl,st,rfl,⟨B8,R,hth8,hTh,m12,hO,few,F8,Fi⟩,fun t d1 d2 w1 w2 H9 F9 s9=>?_⟩
    refine⟨t,_,rfl,SqT.of F9.tp,rfl,_,_,rfl,_,_,rfl,rfl,?_⟩
    have s59:=s58.trans s9
    refine⟨_,rfl,_,rfl,_,rfl,_,rfl,(by show 3<=sizeLine;decide),fun sa hsa=>?_⟩
    have z10:=zd (o:=.tup [.ref th,.ref d1,.ref d2]) hsa
    have hsa10:upd H9 sa (.tup [.ref th,.ref d1,.ref d2]) sa=some (.tup [.ref th,.ref d1,.ref d2]):=zb
    clear hsa
    generalize upd H9 sa (.tup [.ref th,.ref d1,.ref d2])=H10 at *
    have s510:=s59.trans z10
    have F10:=F9.mono z10
    have tk:=zky (zij (s9.trans z10) hTh)
    have ff:=zjf (n:=n) (cl:=cl) (st:=st) (tgs:=tgs) R few
    have tl:(tgs.map ofT).length=tgs.length:=length_map _
    refine⟨_,rfl,_,rfl,_,_,rfl,rfl,jq.small (by decide) (by decide),_,_,rfl,rfl,(by show (0:Int)<12;decide),_,rfl,_,_,rfl,rfl,jq.small (by decide) (by decide),p,l,fa,fc,fs,sa,th,d1,d2,rs,n,_,_,ths,tgs.map ofT,u,w',w1,w2,cl,st,(j7 rs n cl st tgs).1,(j7 rs n cl st tgs).2,rfl,B5.mono s510,R,F5.mono s510,Fi,hsa10,⟨(s9.trans z10) _ _ hth8,tk.1,tk.2⟩,by omega,by omega,⟨F10.h1,F10.c1,ff.1.1,ff.1.2⟩,⟨F10.h2,F10.c2,ff.2.1,ff.2.2⟩,fun sb tb cb db ths' ts' us' ws' c1' c2' H11 S s11=>?_⟩
    have s511:=s510.trans s11
    refine⟨_,rfl,sb,_,0,_,rfl,rfl,SqT.of S.tp,rfl,tb,_,rfl,.inl (SqL.of S.h),fun l1 hl1=>?_⟩
    have y1:=zd (o:=.lst ths') hl1
    have S12:=S.mono y1
    refine⟨_,rfl,sb,_,1,_,rfl,rfl,SqT.of S12.tp,rfl,cb,_,rfl,.inl (SqL.of S12.h1),fun l2 hl2=>?_⟩
    have y2:=zd (o:=.lst us') hl2
    have S13:=S12.mono y2
    refine⟨_,rfl,sb,_,2,_,rfl,rfl,SqT.of S13.tp,rfl,db,_,rfl,.inl (SqL.of S13.h2),fun l3 hl3=>⟨(by show 3<=sizeLine;decide),fun hn hhn=>?_⟩⟩
    have y3:=zd (o:=.lst ws') hl3
    have y4:=zd (o:=.tup [.ref l1,.ref l2,.ref l3]) hhn
    have y14:=y1.trans (y2.trans (y3.trans y4))
    have C14:=S.copy y14 zb ((y2.trans (y3.trans y4)) _ _ zb) ((y3.trans y4) _ _ zb) (y4 _ _ zb)
    clear hl1 hl2 hl3 hhn y1 y2 y3 y4 S12 S13
    generalize upd (upd (upd (upd H11 l1 (.lst ths')) l2 (.lst us')) l3 (.lst ws')) hn (.tup [.ref l1,.ref l2,.ref l3])=H14 at *
    have s514:=s511.trans y14
    have F14:=F5.mono s514
    refine⟨_,rfl,fa,_,0,_,rfl,rfl,SqT.of F14.tp,rfl,fc,_,rfl,.inl (SqL.of F14.h1),fun k1 hk1=>?_⟩
    have x1:=zd (o:=.lst u) hk1
    have F15:=F14.mono x1
    refine⟨_,rfl,fa,_,1,_,rfl,rfl,SqT.of F15.tp,rfl,fs,_,rfl,.inl (SqL.of F15.h2),fun k2 hk2=>⟨(by show 2<=sizeLine;decide),fun kp hkp=>?_⟩⟩
    have x2:=zd (o:=.lst w') hk2
    have x3:=zd (o:=.tup [.ref k1,.ref k2]) hkp
    have x13:=x1.trans (x2.trans x3)
    have F16:=F14.mono x13
    have Kp:jH (upd (upd (upd H14 k1 (.lst u)) k2 (.lst w')) kp (.tup [.ref k1,.ref k2])) kp k1 k2 u w' cl st:=⟨zb,(x2.trans x3) _ _ zb,x3 _ _ zb,F16.c1,F16.c2⟩
    have C16:=C14.mono x13
    clear hk1 hk2 hkp x1 x2 x3 F15
    generalize upd (upd (upd H14 k1 (.lst u)) k2 (.lst w')) kp (.tup [.ref k1,.ref k2])=H16 at *
    have s516:=s514.trans x13
    refine⟨_,rfl,_,rfl,_,rfl,p,l,fa,fc,fs,hn,l1,l2,l3,rs,n,ths',ts',u,w',us',ws',cl,st,c1',c2',rfl,B5.mono s516,R,few,F16,Fi,C16,fun b hb H17 s17=>?_⟩
    have s517:=s516.trans s17
    have F17:=F5.mono s517
    have S17:=S.mono (y14.trans (x13.trans s17))
    refine⟨_,rfl,_,"bool","bool",true,rfl,.bl b,(by decide +kernel),true,rfl,xD ?_⟩
    refine⟨_,rfl,_,rfl,_,_,F17.rdv,(Kp.mono s17).rdv,zbO cl st,_,rfl,qH ?_ ?_⟩
    ·show (!PyData.eqv (fData cl st) (fData cl st))=false
     rw [SeqAt.eqv_refl _ (zbO cl st).l1]
     rfl
    refine⟨_,rfl,_,rfl,_,rfl,_,rfl,p,l,fa,fc,fs,sb,tb,cb,db,rs,n,ths',ts',u,w',us',ws',cl,st,c1',c2',rfl,B5.mono s517,R,few,F17,Fi,S17,fun b' hb' H18 s18=>?_⟩
    have eb:b=b':=hb.same hb'
    subst eb
    refine⟨rfl,_,rfl,qH (by show (!decide (V.bl b=V.bl b))=false;simp) ?_⟩
    have S18:=S17.mono s18
    refine⟨_,rfl,_,rfl,sb,_,0,_,rfl,rfl,SqT.of S18.tp,rfl,tb,_,rfl,.inl (SqL.of S18.h),fun g1 hg1=>?_⟩
    have y1:=zd (o:=.lst ths') hg1
    have S19:=S18.mono y1
    refine⟨_,rfl,sb,_,1,_,rfl,rfl,SqT.of S19.tp,rfl,cb,_,rfl,.inl (SqL.of S19.h1),fun g2 hg2=>?_⟩
    have y2:=zd (o:=.lst us') hg2
    have S20:=S19.mono y2
    refine⟨_,rfl,sb,_,2,_,rfl,rfl,SqT.of S20.tp,rfl,db,_,rfl,.inl (SqL.of S20.h2),fun g3 hg3=>⟨(by show 3<=sizeLine;decide),fun g4 hg4=>?_⟩⟩
    have y3:=zd (o:=.lst ws') hg3
    have y4:=zd (o:=.tup [.ref g1,.ref g2,.ref g3]) hg4
    have y14':=y1.trans (y2.trans (y3.trans y4))
    have C21:=S18.copy y14' zb ((y2.trans (y3.trans y4)) _ _ zb) ((y3.trans y4) _ _ zb) (y4 _ _ zb)
    refine⟨_,_,(C16.mono (s17.trans (s18.trans y14'))).rdv,C21.rdv,zfM S.ok c1' c2',_,rfl,qH ?_ ?_⟩
    ·show (!PyData.eqv (stD ts' c1' c2') (stD ts' c1' c2'))=false
     rw [SeqAt.eqv_refl _ (zfM S.ok c1' c2').l1]
     rfl
    exact⟨_,_,_,_,_,_,_,_,_,rfl,s517.trans (s18.trans y14')⟩
  ·rintro σ H6 ⟨v5,v6,v7,v8,v9,v10,v11,v12,v13,rfl,s6⟩
   exact q _
end
theorem all_mk {l:PySem.W.OpenLaw}{w:World}{K:PySem.W.Frag}{h:Heap}{mg:Str->Option Value}{fa:Addr}{t_ALL:Tok}{t_CLOSED_SIGN:Tok}{t_NO_CELL_SIGN:Tok}{C_NoLaying:Addr}(X:K.In h)(G:h.Ns mainGlobals mg)(hfa:mg "law"=some (.ref fa))
  (Yp:HasDef K "closed" JE)
  (yS:HasDef K "open_cells" jU)
  (Yq:HasDef K "around" JF)
  (xZ:HasDef K "number_at" yH)
  (JQ:HasDef K "cells_of" jv)
  (ZL:HasDef K "sign_at" jy)
  (jE:HasDef K "closed_around" qK)
  (ZM:HasDef K "follows" JG)
  (JR:HasDef K "asked_by" Za)
  (JS:HasDef K "known_of" Zb)
  (yq:HasDef K "still_asked" jk)
  (Yr:HasDef K "gained" xP)
  (ZN:HasDef K "settled" JH)
  (QK:HasDef K "holds" QW)
  (Ys:HasDef K "picked" ZD)
  (yT:HasDef K "are_things" jV)
  (x8:HasDef K "are_cells" Ji)
  (ZO:HasDef K "is_cell" ZT)
  (yr:HasDef K "_law_cell_at" jC)
  (x9:HasDef K "_law_mixed" jK)
  (JT:HasDef K "_law_mark" xQ)
  (Ja:HasDef K "_law_drawn" Jj)
  (Jb:HasDef K "_law_cells" qQ)
  (JU:HasDef K "_law_near" ye)
  (Jc:HasDef K "_law_board" yI)
  (JV:HasDef K "_law_bent" Zc)
  (yt:HasDef K "_law_finding" yw)
  (yU:HasDef K "_law_looked" jW)
  (yV:HasDef K "_law_things" xh)
  (JW:HasDef K "_law_told" Zd)
  (yu:HasDef K "_law_spoiled" yx)
  (ZP:HasDef K "_law_due" jL)
  (zeQ:HasDef K "law" zdk)
  (zeR:PySem.W.nsIn K mainGlobals "abs"=some none)
  (zeS:PySem.W.nsIn K mainGlobals "all"=some none)
  (zbW:PySem.W.nsIn K mainGlobals "bool"=some none)
  (zbX:PySem.W.nsIn K mainGlobals "dict"=some none)
  (Jd:PySem.W.nsIn K mainGlobals "enumerate"=some none)
  (zeT:PySem.W.nsIn K mainGlobals "int"=some none)
  (yW:PySem.W.nsIn K mainGlobals "isinstance"=some none)
  (zeU:PySem.W.nsIn K mainGlobals "len"=some none)
  (zbY:PySem.W.nsIn K mainGlobals "list"=some none)
  (zeV:PySem.W.nsIn K mainGlobals "max"=some none)
  (zeW:PySem.W.nsIn K mainGlobals "min"=some none)
  (QL:PySem.W.nsIn K mainGlobals "range"=some none)
  (zeX:PySem.W.nsIn K mainGlobals "set"=some none)
  (Yt:PySem.W.nsIn K mainGlobals "sorted"=some none)
  (zeY:PySem.W.nsIn K mainGlobals "str"=some none)
  (zeZ:PySem.W.nsIn K mainGlobals "sum"=some none)
  (QM:PySem.W.nsIn K mainGlobals "tuple"=some none)
  (ze0:PySem.W.nsIn K mainGlobals "ALL"=some (some (.str "all" t_ALL)))
  (yv:PySem.W.nsIn K mainGlobals "CLOSED_SIGN"=some (some (.str "?" t_CLOSED_SIGN)))
  (jQ:PySem.W.nsIn K mainGlobals "NO_CELL_SIGN"=some (some (.str "#" t_NO_CELL_SIGN)))
  (a_NoLaying:PySem.W.nsIn K mainGlobals "NoLaying"=some (some (.ref C_NoLaying)))
  (x_NoLaying:PySem.W.excIn K C_NoLaying zfO "ValueError.__new__"=true)
  (y_FN_0:PySem.W.mroIn K C_NoLaying (.ref C_NoLaying)=some true) :
  ∃fd:FuncData,(∀(s:Shared) (v:Value),BindsTo s fd ⟨[v],[]⟩ [("_law_script",v)])/\∀base:Heap,K.In base->base.Ns mainGlobals mg->zQ l.prog w K mg base CX0 9 fa fd ["_law_script"] (zfL K):=by
 obtain⟨f,oc,od,an,sl,kV,dc,pm,cd,ct,a,l0,c,k⟩:=zeQ
 have e:=hfa.symm.trans (PySem.W.mg_of X G a)
 cases e
 have T:Txt mg:=⟨PySem.W.mg_none_of X G zeR,PySem.W.mg_none_of X G zeS,PySem.W.mg_none_of X G zbW,PySem.W.mg_none_of X G zbX,PySem.W.mg_none_of X G Jd,PySem.W.mg_none_of X G zeT,PySem.W.mg_none_of X G yW,PySem.W.mg_none_of X G zeU,PySem.W.mg_none_of X G zbY,PySem.W.mg_none_of X G zeV,PySem.W.mg_none_of X G zeW,PySem.W.mg_none_of X G QL,PySem.W.mg_none_of X G zeX,PySem.W.mg_none_of X G Yt,PySem.W.mg_none_of X G zeY,PySem.W.mg_none_of X G zeZ,PySem.W.mg_none_of X G QM,⟨_,PySem.W.mg_of X G ze0⟩,⟨_,PySem.W.mg_of X G yv⟩,⟨_,PySem.W.mg_of X G jQ⟩⟩
 have Z:Prog K mg:=⟨Yp.at X G (fun _ _ _ _ _ _=>us1 fun _=>rfl),yS.at X G (fun _ _ _ _ _ _=>us1 fun _=>rfl),Yq.at X G (fun _ _ _ _ _ _=>us2 fun _ _=>rfl),xZ.at X G (fun _ _ _ _ _ _=>us2 fun _ _=>rfl),JQ.at X G (fun _ _ _ _ _ _=>us1 fun _=>rfl),ZL.at X G (fun _ _ _ _ _ _=>us2 fun _ _=>rfl),jE.at X G (fun _ _ _ _ _ _=>us2 fun _ _=>rfl),ZM.at X G (fun _ _ _ _ _ _=>us3 fun _ _ _=>rfl),JR.at X G (fun _ _ _ _ _ _=>us2 fun _ _=>rfl),JS.at X G (fun _ _ _ _ _ _=>us1 fun _=>rfl),yq.at X G (fun _ _ _ _ _ _=>us2 fun _ _=>rfl),Yr.at X G (fun _ _ _ _ _ _=>us1 fun _=>rfl),ZN.at X G (fun _ _ _ _ _ _=>us1 fun _=>rfl),QK.at X G (fun _ _ _ _ _ _=>us3 fun _ _ _=>rfl),Ys.at X G (fun _ _ _ _ _ _=>us2 fun _ _=>rfl),yT.at X G (fun _ _ _ _ _ _=>us2 fun _ _=>rfl),x8.at X G (fun _ _ _ _ _ _=>us1 fun _=>rfl),ZO.at X G (fun _ _ _ _ _ _=>us1 fun _=>rfl),yr.at X G (fun _ _ _ _ _ _=>us2 fun _ _=>rfl),x9.at X G (fun _ _ _ _ _ _=>us2 fun _ _=>rfl),JT.at X G (fun _ _ _ _ _ _=>us4 fun _ _ _ _=>rfl),Ja.at X G (fun _ _ _ _ _ _=>us3 fun _ _ _=>rfl),Jb.at X G (fun _ _ _ _ _ _=>us2 fun _ _=>rfl),JU.at X G (fun _ _ _ _ _ _=>us2 fun _ _=>rfl),Jc.at X G (fun _ _ _ _ _ _=>us1 fun _=>rfl),JV.at X G (fun _ _ _ _ _ _=>us2 fun _ _=>rfl),yt.at X G (fun _ _ _ _ _ _=>us2 fun _ _=>rfl),yU.at X G (fun _ _ _ _ _ _=>us2 fun _ _=>rfl),yV.at X G (fun _ _ _ _ _ _=>us1 fun _=>rfl),JW.at X G (fun _ _ _ _ _ _=>us3 fun _ _ _=>rfl),yu.at X G (fun _ _ _ _ _ _=>us5 fun _ _ _ _ _=>rfl),ZP.at X G (fun _ _ _ _ _ _=>us3 fun _ _ _=>rfl)⟩
 have F:=zgZ (st:=zdk) l0 c k
 have D:zC K mg "law" zdk ["_law_script"] _ _:=⟨F,PySem.W.mg_of X G a,F.binds (ps:=["_law_script"]) (fun _ _ _ _ _ _=>us1 fun _=>rfl)⟩
 have O_NoLaying:Z0 K mg "NoLaying" C_NoLaying:=⟨PySem.W.mg_of X G a_NoLaying,x_NoLaying⟩
 have FN:PySem.W.mroIn K C_NoLaying (.ref C_NoLaying)=some true:=y_FN_0
 exact⟨_,fun s v=>.of_eq rfl,fun base _ _=>zkz T O_NoLaying FN Z D⟩
theorem walk {l:PySem.W.OpenLaw}{q:Program}{loose:List Str}{XP:(Str->Option Value)->Heap->Prop}{YP:World->Heap->Prop}{d:DefRec}{K:Params->PySem.W.Frag}(hn:l.most=some 63)(hdf:d.params.defaults=[])
  (hY:∀(w:World) (h:Heap),YP w h->(K w.params).In h)
  (F:∀(w:World) (mg:Str->Option Value) (fa:Addr) (h:Heap),(K w.params).In h->h.Ns mainGlobals mg->mg d.name=some (.ref fa) ->
   ∃fd:FuncData,(∀(s:Shared) (u:Value),BindsTo s fd ⟨[u],[]⟩ [("_law_script",u)])/\∀base:Heap,(K w.params).In base->base.Ns mainGlobals mg->zQ l.prog w (K w.params) mg base CX0 9 fa fd ["_law_script"] (zfL (K w.params))) :
  PySem.W.WalkO q loose XP YP l.row.toRowW d [] (fun f vs=>PySem.call f vs) :=
 L2.ze6 (n:=63) (k:=9) (x:="_law_script") (CX:=fun _=>CX0) (sp:=fun w=>zfL (K w.params)) hn (by decide) hdf ⟨rfl,by decide,by decide⟩ hY F (fun _ _ a ns hl _ hS=>⟨a,ns,rfl,hS,hl,fun _=>rfl⟩) fun _ _ _ _ _ z=>z
end K52
open PySem PySem.W PyProof.Rows
set_option maxRecDepth 100000 in
set_option maxHeartbeats 0 in
theorem PySem.Challenge.cw_stonelay_k52_steps_that_hold_holds : PySem.Challenge.rw_stonelay_k52_steps_that_hold.Holds := by
 refine QZ.early fun {q XP YP d K} hdf hY hn F=>?_
 refine K52.walk (l:=PySem.Challenge.rw_stonelay_k52_steps_that_hold) rfl hdf hY fun w mg fa h KX G hmg=>?_
 rw [hn] at hmg
 obtain⟨Yp,yS,Yq,xZ,JQ,ZL,jE,ZM,JR,JS,yq,Yr,ZN,QK,Ys,yT,x8,ZO,yr,x9,JT,Ja,Jb,JU,Jc,JV,yt,yU,yV,JW,yu,ZP,zeQ,zeR,zeS,zbW,zbX,Jd,zeT,yW,zeU,zbY,zeV,zeW,QL,zeX,Yt,zeY,zeZ,QM,⟨_,ze0⟩,⟨_,yv⟩,⟨_,jQ⟩,⟨_,a_NoLaying,x_NoLaying,y_NoLaying_0⟩⟩:=F w
 exact K52.all_mk KX G hmg Yp yS Yq xZ JQ ZL jE ZM JR JS yq Yr ZN QK Ys yT x8 ZO yr x9 JT Ja Jb JU Jc JV yt yU yV JW yu ZP zeQ zeR zeS zbW zbX Jd zeT yW zeU zbY zeV zeW QL zeX Yt zeY zeZ QM ze0 yv jQ a_NoLaying x_NoLaying y_NoLaying_0