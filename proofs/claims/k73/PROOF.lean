import PyProof.Rows.All
import Wide.All
import OpenK.AllK
import Wide.FinOn
import Lean
import PyProof.EqAt
import PyProof.EqKinds
import PyProof.TupleCall
import PySem.Challenge.RW_stonelay_k73_whole_plans_walked
set_option Elab.async false
set_option linter.all false
set_option maxRecDepth 100000
namespace K73E
open PySem PySem.W
noncomputable def sel:List Nat->Nat->List Stmt->List Stmt
 | _,_,[]=>[]
 | ns,i,x :: xs=>match ns.contains i with
  | true=>sel ns (i + 1) xs
  | false=>x :: sel ns (i + 1) xs
theorem head_once {r:OpenRow}{q:Program}{H:Hook}{d:DefRec}{kwd:List (PySem.Str × Expr)}{N:Nat}(left:LeftO r.prog q [] (fun s=>xlAt q [] s && recOk (RowW.records r.toRowW) s) (Hook.obs H) (Hook.val H) N)
  (hdef:defOf q r.name=some (d,kwd)) (hp:r.prog.theDef r.name=some (d.params,d.body,d.scope)) (hk:kwWritten? d.params.kwonlyargs d.params.kw_defaults=some kwd) (hwr:(!r.writes || r.records.isEmpty)=true)
  (k1:r.wellSaid=true) (ok:(chainsOk q && opensWell r.prog && (frees r.toRowW && r.within.isEmpty))=true) (hb:r.prog.bare) (hw:r.toRowW.promised)
  (call:WalkO q [] (XL q []) (Hook.says H) r.toRowW d kwd fun f vs=>PySem.call f vs):r.Holds :=
 holds_open (q:=q) (loose:=[]) (Xt:=fun s=>xlAt q [] s && recOk (RowW.records r.toRowW) s) (XP:=XL q []) (Yf:=Hook.obs H) (Ya:=Hook.val H) (YP:=Hook.says H) (N:=N) left (Hook.of H) (Hook.keeps H) (fun s e=>xl_of s (Bool.and_eq_true_iff.mp e).1) XL.keeps hdef hp hk
  (fun s e=>recFacts_of (Bool.and_eq_true_iff.mp e).2) hwr k1 ok hb hw call
noncomputable def top (i:Nat):Stmt:=PySem.Challenge.pw_stonelay_k73_whole_plans_walked.main.body.getD i (.Pass ⟨0,0,0,0⟩)
noncomputable def defArgs (s:Stmt):Arguments:=match s with
 | .FunctionDef _ a _ _ _ _ _ _ _ _=>a
 | _=>{ posonlyargs:=[],args:=[],vararg:=none,kwonlyargs:=[],kw_defaults:=[],kwarg:=none,defaults:=[] }
noncomputable def defBody (s:Stmt):List Stmt:=match s with
 | .FunctionDef _ _ b _ _ _ _ _ _ _=>b
 | _=>[]
noncomputable def defScope (s:Stmt):Scope:=match s with
 | .FunctionDef _ _ _ _ _ _ sc _ _ _=>sc
 | _=>{ kind:=.function,names:=[],isGenerator:=false,isCoroutine:=false }
noncomputable def HD (K:PySem.W.Frag)(x:Str)(i:Nat):Prop:=∃ (f:Addr) (oc:Value) (od an:Option Addr) (sl:Array (Option Value)) (kV dc pm cd ct:Value),PySem.W.nsIn K mainGlobals x=some (some (.ref f))/\K.lookup f=some ⟨oc,od,.func (PySem.W.fnOf x x (defArgs (top i)) (defBody (top i)) (defScope (top i)) .none kV dc pm an cd ct),sl⟩/\PySem.W.codeIn K cd x=true/\PySem.W.keepIn K (.ref f)=true
structure Facts (K:PySem.W.Frag):Prop where
 h_closed:HD K "closed" 7
 h_open_cells:HD K "open_cells" 8
 h_around:HD K "around" 9
 h_number_at:HD K "number_at" 10
 h_opened:HD K "opened" 11
 h_cells_of:HD K "cells_of" 12
 h_sign_at:HD K "sign_at" 13
 h_fraction:HD K "fraction" 15
 h_greatest_divisor:HD K "greatest_divisor" 16
 h_layings:HD K "layings" 19
 h_numbers_told:HD K "numbers_told" 20
 h_wrong_number:HD K "wrong_number" 21
 h_picks:HD K "picks" 22
 h_chances:HD K "chances" 26
 h_best:HD K "best" 27
 h_plan:HD K "plan" 28
 h_known_layings:HD K "known_layings" 29
 h_through:HD K "through" 30
 h_through_by:HD K "through_by" 31
 h_told_apart:HD K "told_apart" 32
 h_all_full:HD K "all_full" 33
 h_law_cell_at:HD K "_law_cell_at" 35
 h_law_mixed:HD K "_law_mixed" 36
 h_law_mark:HD K "_law_mark" 37
 h_law_drawn:HD K "_law_drawn" 38
 h_law_cells:HD K "_law_cells" 39
 h_law_near:HD K "_law_near" 40
 h_law_board:HD K "_law_board" 41
 h_law_bent:HD K "_law_bent" 42
 h_law_all:HD K "_law_all" 43
 h_law_told_at:HD K "_law_told_at" 44
 h_law_goes:HD K "_law_goes" 45
 h_law_stops_rightly:HD K "_law_stops_rightly" 46
 h_law_walked:HD K "_law_walked" 47
 h_law_rival:HD K "_law_rival" 48
 h_law_dicts:HD K "_law_dicts" 49
 h_law_own:HD K "_law_own" 50
 h_law:HD K "law" 51
 z_abs:PySem.W.nsIn K mainGlobals "abs"=some none
 z_all:PySem.W.nsIn K mainGlobals "all"=some none
 z_dict:PySem.W.nsIn K mainGlobals "dict"=some none
 z_enumerate:PySem.W.nsIn K mainGlobals "enumerate"=some none
 z_int:PySem.W.nsIn K mainGlobals "int"=some none
 z_isinstance:PySem.W.nsIn K mainGlobals "isinstance"=some none
 z_len:PySem.W.nsIn K mainGlobals "len"=some none
 z_list:PySem.W.nsIn K mainGlobals "list"=some none
 z_max:PySem.W.nsIn K mainGlobals "max"=some none
 z_min:PySem.W.nsIn K mainGlobals "min"=some none
 z_range:PySem.W.nsIn K mainGlobals "range"=some none
 z_sorted:PySem.W.nsIn K mainGlobals "sorted"=some none
 z_str:PySem.W.nsIn K mainGlobals "str"=some none
 z_sum:PySem.W.nsIn K mainGlobals "sum"=some none
 z_tuple:PySem.W.nsIn K mainGlobals "tuple"=some none
 g_CLOSED_SIGN:∃ t,PySem.W.nsIn K mainGlobals "CLOSED_SIGN"=some (some (.str "?" t))
 g_MOST_CLOSED_chances:∃ t,PySem.W.nsIn K mainGlobals "MOST_CLOSED_chances"=some (some (.int 8 t))
 g_MOST_CLOSED_layings:∃ t,PySem.W.nsIn K mainGlobals "MOST_CLOSED_layings"=some (some (.int 12 t))
 g_MOST_DEPTH:∃ t,PySem.W.nsIn K mainGlobals "MOST_DEPTH"=some (some (.int 3 t))
 g_NO_CELL_SIGN:∃ t,PySem.W.nsIn K mainGlobals "NO_CELL_SIGN"=some (some (.str "#" t))
end K73E
noncomputable def K73E.view:PySem.Program:={ PySem.Challenge.rw_stonelay_k73_whole_plans_walked.prog with main:={ PySem.Challenge.rw_stonelay_k73_whole_plans_walked.prog.main with body:=K73E.sel [0,4,14,17,23,34] 0 PySem.Challenge.rw_stonelay_k73_whole_plans_walked.prog.main.body } }
local macro_rules | `(tactic| o_head $H)=>`(tactic| (refine' K73E.head_once (q:=K73E.view) (H:=$H) (N:=3766) (fun _=>by kernel_rfl) (by rfl) (by rfl) (by rfl) (by rfl) (by first | assumption | decide +kernel) (by decide +kernel) ⟨rfl,rfl,rfl,rfl,rfl,by decide +kernel⟩ ?_ ?_))
open PySem PySem.W PyProof.Rows in
set_option maxRecDepth 100000 in
set_option maxHeartbeats 0 in
theorem K73E.look:PySem.Challenge.rw_stonelay_k73_whole_plans_walked.wellSaid=true:=by kernel_rfl
open PySem PySem.W PyProof.Rows in
set_option maxRecDepth 100000 in
set_option maxHeartbeats 0 in
theorem K73E.early (h:∀ {q:Program} {XP:(Str->Option Value)->Heap->Prop} {YP:World->Heap->Prop} {d:DefRec} {K:Params->PySem.W.Frag},d.params.defaults=[]->(∀ (w:World) (h:Heap),YP w h->(K w.params).In h)->d.name="law"->(∀ w:World,K73E.Facts (K w.params))->PySem.W.WalkO q [] XP YP PySem.Challenge.rw_stonelay_k73_whole_plans_walked.row.toRowW d [] (fun f vs=>PySem.call f vs)):PySem.Challenge.rw_stonelay_k73_whole_plans_walked.Holds:=by
 w_on; refine holds_law K73E.look fun said=>?_;k_head; w_witness2;k_fill;refine h rfl (fun w h Y=>PySem.W.kIn_of Y) rfl fun w=>?_;constructor;all_goals first | k_is | exact ⟨_,_,_,_,_,_,_,_,_,_,by k_is,by k_is,by k_is,by k_is⟩ | exact ⟨_,by k_is⟩
namespace L2
open PySem PySem.Spec PyProof.Rows
noncomputable abbrev Key:=Sum Int Str
noncomputable def keyIs:Key->Value->Bool
 | .inl k,v=>Value.isInt k v
 | .inr x,v=>Value.isStrOf x v
noncomputable def keyH (w:World):Key->Int
 | .inl k=>hashInt k
 | .inr x=>hashStr w x
theorem keyIs_shape:∀ {k:Key} {v:Value},keyIs k v=true->(∃ i t,k=Sum.inl i/\v=Value.int i t)\/(∃ x t,k=Sum.inr x/\v=Value.str x t)
 | .inl i,v,h=>by
  obtain ⟨t,e⟩:=Value.isInt_shape (k:=i) (v:=v) h;exact .inl ⟨i,t,rfl,e⟩
 | .inr x,v,h=>by
  obtain ⟨t,e⟩:=Value.isStrOf_shape (x:=x) (v:=v) h;exact .inr ⟨x,t,rfl,e⟩
theorem keyIs_int (i:Int)(t:Tok):keyIs (.inl i) (.int i t)=true:=by simp [keyIs,Value.isInt]
theorem keyIs_str (x:Str)(t:Tok):keyIs (.inr x) (.str x t)=true:=by simp [keyIs,Value.isStrOf]
theorem key_ll (a b:Int):decide ((Sum.inl a:Key)=Sum.inl b)=(a == b):=by
 by_cases e:a=b
 ·subst e; simp
 ·have h:¬ (Sum.inl a:Key)=Sum.inl b:=fun q=>e (Sum.inl.inj q);rw [decide_eq_false h];exact (beq_eq_false_iff_ne.mpr e).symm
theorem key_rr (a b:Str):decide ((Sum.inr a:Key)=Sum.inr b)=decide (a=b):=by
 by_cases e:a=b
 ·subst e; simp
 ·have h:¬ (Sum.inr a:Key)=Sum.inr b:=fun q=>e (Sum.inr.inj q);rw [decide_eq_false h,decide_eq_false e]
theorem key_lr (a:Int)(b:Str):decide ((Sum.inl a:Key)=Sum.inr b)=false:=decide_eq_false (fun q=>nomatch q)
theorem key_rl (a:Str)(b:Int):decide ((Sum.inr a:Key)=Sum.inl b)=false:=decide_eq_false (fun q=>nomatch q)
noncomputable def mixKind (prog:Program)(w:World):PySem.KeyKind prog w Key where
 is:=keyIs
 hash:=keyH w
 inj:=fun v a b ha hb=>by
  rcases keyIs_shape ha with ⟨i,t,rfl,rfl⟩ | ⟨x,t,rfl,rfl⟩
  ·rcases keyIs_shape hb with ⟨j,u,rfl,e⟩ | ⟨y,u,rfl,e⟩
   ·injection e with e1 _; rw [e1]
   ·exact nomatch e
  ·rcases keyIs_shape hb with ⟨j,u,rfl,e⟩ | ⟨y,u,rfl,e⟩
   ·exact nomatch e
   ·injection e with e1 _; rw [e1]
 byValue:=fun k v h=>by
  rcases keyIs_shape h with ⟨i,t,rfl,rfl⟩ | ⟨x,t,rfl,rfl⟩ <;> rfl
 pyHash:=fun hv h=>by
  rcases keyIs_shape hv with ⟨i,t,rfl,rfl⟩ | ⟨x,t,rfl,rfl⟩
  ·exact wpAny_pyHash_int h
  ·exact wpAny_pyHash_str h
 eqBool:=fun hu hv h=>by
  rcases keyIs_shape hu with ⟨i,t,rfl,rfl⟩ | ⟨x,t,rfl,rfl⟩
  ·rcases keyIs_shape hv with ⟨j,u,rfl,rfl⟩ | ⟨y,u,rfl,rfl⟩
   ·rw [key_ll] at h; exact wpAny_eqBool_int h
   ·rw [key_lr] at h; exact SeqAt.EqAt.int_str i t y u _ _ _ _ h
  ·rcases keyIs_shape hv with ⟨j,u,rfl,rfl⟩ | ⟨y,u,rfl,rfl⟩
   ·rw [key_rl] at h; exact SeqAt.EqAt.str_int x t j u _ _ _ _ h
   ·rw [key_rr] at h; exact wpAny_eqBool_str h
 «strs»:=fun k x t v h=>by
  rcases keyIs_shape h with ⟨i,u,rfl,e⟩ | ⟨y,u,rfl,e⟩
  ·exact nomatch e
  ·injection e with e1 _
   subst e1;cases v <;> rfl
theorem mixKind_int (prog:Program)(w:World)(i:Int)(t:Tok):(mixKind prog w).is (.inl i) (.int i t)=true:=keyIs_int i t
theorem mixKind_str (prog:Program)(w:World)(x:Str)(t:Tok):(mixKind prog w).is (.inr x) (.str x t)=true:=keyIs_str x t
end L2
namespace L2
open PySem PySem.Spec PyProof.Rows
inductive V where
 | non | bl (b:Bool) | int (i:Int) | str (x:Str) | byt (b:Array UInt8) | flt (b:UInt64) | ref (a:Addr) | ty (n:String)
 deriving DecidableEq
noncomputable def RelV:V->Value->Prop
 | .non,u=>u=Value.none
 | .bl b,u=>u=Value.bool b
 | .int i,u=>∃ t,u=Value.int i t
 | .str x,u=>∃ t,u=Value.str x t
 | .byt b,u=>∃ t,u=Value.bytes b t
 | .flt b,u=>∃ t,u=Value.float b t
 | .ref a,u=>u=Value.ref a
 | .ty n,u=>u=Value.type n
noncomputable abbrev Vals:List V->List Value->Prop:=Paired RelV
theorem Vals.length {xs:List V}{us:List Value}(r:Vals xs us):xs.length=us.length:=Paired.length r
theorem Vals.get:∀ {xs:List V} {us:List Value} {i:Nat} {x:V},Vals xs us->xs[i]?=some x->∃ u,us[i]?=some u/\RelV x u
 | _,_,_,_,.nil,e=>by simp at e
 | _,_,0,_,.cons r _,e=>by simp at e; subst e; exact ⟨_,rfl,r⟩
 | _,_,i + 1,x,.cons _ t,e=>by
  obtain ⟨u,h1,h2⟩:=Vals.get (i:=i) (x:=x) t (by simpa using e);exact ⟨u,by simpa using h1,h2⟩
theorem Vals.append:∀ {xs ys:List V} {us ws:List Value},Vals xs us->Vals ys ws->Vals (xs++ys) (us++ws)
 | _,_,_,_,.nil,s=>s
 | _,_,_,_,.cons r t,s=>.cons r (Vals.append t s)
theorem Vals.take:∀ {xs:List V} {us:List Value} (n:Nat),Vals xs us->Vals (xs.take n) (us.take n)
 | _,_,0,_=>.nil
 | _,_,_ + 1,.nil=>.nil
 | _,_,n + 1,.cons r t=>.cons r (Vals.take n t)
theorem Vals.drop:∀ {xs:List V} {us:List Value} (n:Nat),Vals xs us->Vals (xs.drop n) (us.drop n)
 | _,_,0,r=>r
 | _,_,_ + 1,.nil=>.nil
 | _,_,n + 1,.cons _ t=>Vals.drop n t
noncomputable def RelO:Option V->Option Value->Prop
 | some v,some u=>RelV v u
 | none,none=>True
 | _,_=>False
noncomputable def KV {κ:Type}:List (κ × V)->List (κ × Value)->Prop:=Paired fun (p:κ × V) (q:κ × Value)=>p.1=q.1/\RelV p.2 q.2
noncomputable def kV:Key->V
 | .inl i=>.int i
 | .inr x=>.str x
inductive HO where
  | lst (xs:List V)
  | tup (xs:List V)
  | dK (kvs:List (Key × V)) | dT (kvs:List (List Key × V))
  | set (S:Int->Bool) (n:Nat)
  | ins (C dx:Addr) (fs:List (Str × V))
  | own (x:Addr)
  | xd (fs:List (Str × V))
  | met (f x:Addr)
  | rng (lo hi:Int)
  | frz (o:Obj) (u:HO)
  | tbl (ps:Array Value)
  | ext (φ:Heap->Prop)
noncomputable abbrev Hp:=Addr->Option HO
noncomputable def upd (H:Hp)(a:Addr)(o:HO):Hp:=fun b=>if b=a then some o else H b
theorem upd_same {H:Hp}{a:Addr}{o:HO}:upd H a o a=some o:=by unfold upd; rw [if_pos rfl]
theorem upd_ne {H:Hp}{a b:Addr}{o:HO}(h:b ≠ a):upd H a o b=H b:=by unfold upd; rw [if_neg h]
theorem ne_of {H:Hp}{a b:Addr}{o u:HO}(h:H a=some o)(h':H b=some u)(d:o ≠ u):a ≠ b:=by
 intro e; subst e; rw [h] at h'; exact d (Option.some.inj h')
theorem ne_of_none {H:Hp}{a b:Addr}{o:HO}(h:H a=some o)(h':H b=none):a ≠ b:=by
 intro e; subst e; rw [h] at h'; cases h'
section
variable (P:Program)(w:World)
noncomputable def ObjOk (H:Hp)(h:Heap)(a:Addr):HO->Prop
 | .lst xs=>xs.length<=sizeLine/\∃ (its:List Value) (n:Nat),Vals xs its/\h.get? a=some { cls:=.type "list",data:=.seq its.toArray n }
 | .tup xs=>xs.length<=sizeLine/\∃ its:List Value,Vals xs its/\IsTup h a its.toArray
 | .dK kvs=>kvs.length<=sizeLine/\(a == sysModules)=false/\∃ vs,KV kvs vs/\h.DictOf (mixKind P w) a vs
 | .dT kvs=>kvs.length<=sizeLine/\(a == sysModules)=false/\∃ xs:List (List Key × Addr × Value),
   Paired (fun (p:List Key × V) (q:List Key × Addr × Value)=>p.1=q.1/\H q.2.1=some (.tup (p.1.map kV))/\RelV p.2 q.2.2) kvs xs /\
   ∃ o es ep,h.get? a=some o/\o.ExactDict/\o.data=.dict es ep/\es.toList=xs.map (entryOfKey (tupleKind (mixKind P w)))/\(xs.map (·.1)).Nodup
 | .set S n=>h.SetOf (intKind P w) a S n
 | .ins C dx fs=>H dx=some (.own a)/\fs.length<=1000/\dx ≠ a/\h.get? a=some (PySem.W.instObj C dx) /\
   ∃ mA,h.Ns1 dx mA/\(∀ f,RelO (fs.lookup f) (mA f))/\PySem.Within mA (fs.map (·.1))
 | .own _=>∃ o,h.get? a=some o
 | .xd fs=>∃ mA,h.Ns1 a mA/\∀ f,RelO (fs.lookup f) (mA f)
 | .rng lo hi=>∃ t u v,h.get? a=some { cls:=.type "range",data:=.fields #[.int lo t,.int hi u,.int 1 v] }
 | .frz o u=>h.get? a=some o/\ObjOk H h a u
 | .tbl ps=>h.get? a=some { cls:=.none,data:=.fields ps }
 | .met f x=>h.get? a=some (PySem.W.methodObj (.ref f) (.ref x))
 | .ext φ=>φ h/\(∃ o,h.get? a=some o)/\∀ h1 h2:Heap,φ h1->(∀ o,h1.get? a=some o->h2.get? a=some o)->φ h2
noncomputable def HOk (H:Hp)(h:Heap):Prop:=∀ a o,H a=some o->ObjOk P w H h a o
end
section
variable {P:Program}{w:World}{H H':Hp}{h h':Heap}{a:Addr}{o:HO}
theorem ObjOk.lt (x:ObjOk P w H h a o):a < h.objs.size:=by
 cases o with
 | lst xs=>obtain ⟨_,_,_,_,e⟩:=x; exact Heap.lt_size e
 | tup xs=>obtain ⟨_,_,_,p⟩:=x; exact p.lt
 | dK kvs=>obtain ⟨_,_,_,_,o,_,_,e,_⟩:=x; exact Heap.lt_size e
 | dT kvs=>obtain ⟨_,_,_,_,o,_,_,e,_⟩:=x; exact Heap.lt_size e
 | set S n=>obtain ⟨o,_,_,_,e,_⟩:=x; exact Heap.lt_size e
 | ins C dx fs=>obtain ⟨_,_,_,e,_⟩:=x; exact Heap.lt_size e
 | own y=>obtain ⟨_,e⟩:=x; exact Heap.lt_size e
 | xd fs=>obtain ⟨_,⟨_,_,_,e,_⟩,_⟩:=x; exact Heap.lt_size e
 | rng lo hi=>obtain ⟨_,_,_,e⟩:=x; exact Heap.lt_size e
 | frz ob u=>obtain ⟨e,_⟩:=x; exact Heap.lt_size e
 | tbl ps=>exact Heap.lt_size (show h.get? a=some _ from x)
 | met f y=>exact Heap.lt_size (show h.get? a=some _ from x)
 | ext φ=>obtain ⟨_,⟨_,e⟩,_⟩:=x; exact Heap.lt_size e
theorem Paired.mapP {α β:Type}{F G:α->β->Prop}:∀ {l₁:List α} {l₂:List β},Paired F l₁ l₂->(∀ a b,F a b->G a b)->Paired G l₁ l₂
 | _,_,.nil,_=>.nil
 | _,_,.cons r t,f=>.cons (f _ _ r) (Paired.mapP t f)
theorem ObjOk.stay (x:ObjOk P w H h a o)(k:∀ b u,(b=a\/H b=some (.own a))->h.get? b=some u->h'.get? b=some u)
  (ho:∀ b,H b=some (.own a)->H' b=some (.own a)) (ht:∀ b xs,H b=some (.tup xs)->H' b=some (.tup xs)):ObjOk P w H' h' a o:=by
 induction o with
 | lst xs=>obtain ⟨z,its,n,r,e⟩:=x; exact ⟨z,its,n,r,k _ _ (.inl rfl) e⟩
 | tup xs=>obtain ⟨z,its,r,ob,e,c⟩:=x; exact ⟨z,its,r,ob,k _ _ (.inl rfl) e,c⟩
 | dK kvs=>obtain ⟨z,y,vs,r,ob,es,ep,e,c⟩:=x; exact ⟨z,y,vs,r,ob,es,ep,k _ _ (.inl rfl) e,c⟩
 | dT kvs =>
  obtain ⟨z,y,xs,r,ob,es,ep,e,c⟩:=x;exact ⟨z,y,xs,Paired.mapP r fun p q z=>⟨z.1,ht _ _ z.2.1,z.2.2⟩,ob,es,ep,k _ _ (.inl rfl) e,c⟩
 | set S n=>obtain ⟨ob,es,ep,t,e,c⟩:=x; exact ⟨ob,es,ep,t,k _ _ (.inl rfl) e,c⟩
 | ins C dx fs =>
  obtain ⟨d,z,ne,e,mA,⟨od,es,ep,e2,c⟩,r⟩:=x;exact ⟨ho _ d,z,ne,k _ _ (.inl rfl) e,mA,⟨od,es,ep,k _ _ (.inr d) e2,c⟩,r⟩
 | own y=>obtain ⟨ob,e⟩:=x; exact ⟨ob,k _ _ (.inl rfl) e⟩
 | xd fs=>obtain ⟨mA,⟨od,es,ep,e,c⟩,r⟩:=x; exact ⟨mA,⟨od,es,ep,k _ _ (.inl rfl) e,c⟩,r⟩
 | rng lo hi=>obtain ⟨t,u,v,e⟩:=x; exact ⟨t,u,v,k _ _ (.inl rfl) e⟩
 | frz ob u ih=>obtain ⟨e,q⟩:=x; exact ⟨k _ _ (.inl rfl) e,ih q⟩
 | tbl ps =>
  have e:h.get? a=some { cls:=.none,data:=.fields ps }:=x;show h'.get? a=some { cls:=.none,data:=.fields ps };exact k a _ (.inl rfl) e
 | met f y =>
  have e:h.get? a=some (PySem.W.methodObj (.ref f) (.ref y)):=x;show h'.get? a=some (PySem.W.methodObj (.ref f) (.ref y));exact k a _ (.inl rfl) e
 | ext φ=>obtain ⟨p,⟨o,e⟩,st⟩:=x; exact ⟨st _ _ p fun o q=>k _ _ (.inl rfl) q,⟨o,k _ _ (.inl rfl) e⟩,st⟩
theorem HOk.lt (x:HOk P w H h)(e:H a=some o):a < h.objs.size:=(x a o e).lt
theorem HOk.fresh (x:HOk P w H h)(e:h.objs.size<=a):H a=none:=by
 cases q:H a with
 | none=>rfl
 | some u=>exact absurd (Nat.lt_of_lt_of_le (x.lt q) e) (Nat.lt_irrefl _)
theorem HOk.kept (x:HOk P w H h)(k:∀ b u,h.get? b=some u->h'.get? b=some u):HOk P w H h':=fun a o e =>
 (x a o e).stay (fun b u _ q=>k b u q) (fun _ q=>q) fun _ _ q=>q
theorem HOk.laid (x:HOk P w H h)(k:∀ b u,h.get? b=some u->h'.get? b=some u)(hp:h.objs.size<=a)(new:ObjOk P w (upd H a o) h' a o):HOk P w (upd H a o) h':=fun b u e=>by
 have hn:=x.fresh hp;by_cases hb:b=a
 ·subst hb; rw [upd_same] at e; cases e; exact new
 ·rw [upd_ne hb] at e;exact (x b u e).stay (fun c v _ q=>k c v q) (fun c q=>by rw [upd_ne (ne_of_none q hn)]; exact q) fun c xs q=>by rw [upd_ne (ne_of_none q hn)]; exact q
end
noncomputable def Rd (H:Hp)(a:Addr)(u:HO):Prop:=H a=some u\/∃ o,H a=some (.frz o u)
theorem Rd.ok {P:Program}{w:World}{H:Hp}{h:Heap}{a:Addr}{u:HO}(r:Rd H a u)(x:HOk P w H h):ObjOk P w H h a u:=by
 rcases r with r | ⟨o,r⟩
 ·exact x a u r
 ·obtain ⟨_,q⟩:=x a _ r;exact q
noncomputable def Mut:Option HO->Prop
 | some (.lst _)=>True
 | some (.dK _)=>True
 | some (.dT _)=>True
 | some (.set _ _)=>True
 | some (.ins _ _ _)=>True
 | some (.ext _)=>True
 | _=>False
section
variable {P:Program}{w:World}{H:Hp}{h h':Heap}{x e:Addr}{o':HO}
theorem HOk.write (ok:HOk P w H h)(mu:Mut (H x))(he:e=x\/H e=some (.own x))(k:∀ b u,b ≠ e->h.get? b=some u->h'.get? b=some u)(heo:∃ u,h'.get? e=some u)
  (new:ObjOk P w (upd H x o') h' x o'):HOk P w (upd H x o') h':=fun b u q=>by
 have nown:∀ c y,H c=some (.own y)->c ≠ x:=fun c y r z=>by subst z; rw [r] at mu; exact mu
 have ntup:∀ c xs,H c=some (.tup xs)->c ≠ x:=fun c xs r z=>by subst z; rw [r] at mu; exact mu
 by_cases hb:b=x
 ·subst hb; rw [upd_same] at q; cases q; exact new
 ·rw [upd_ne hb] at q;by_cases hbe:b=e
  ·have q':H b=some (.own x):=by
    rcases he with z | z
    ·exact absurd (hbe.trans z) hb
    ·rw [hbe]; exact z
   rw [q] at q'; cases q';obtain ⟨v,hv⟩:=heo;exact ⟨v,by rw [hbe]; exact hv⟩
  ·refine (ok b u q).stay (fun c v hc r=>k c v ?_ r) (fun c r=>by rw [upd_ne (nown c b r)]; exact r) fun c xs r=>by rw [upd_ne (ntup c xs r)]; exact r
   rcases hc with rfl | hc
   ·exact hbe
   ·rintro rfl;rcases he with z | z
    ·exact nown c b hc z
    ·rw [hc] at z; cases z; exact hb rfl
end
structure Un (fs ex:List Addr)(H H':Hp)(h h':Heap):Prop where
 keep:∀ b o,h.get? b=some o->H b=none->b ∉ fs->b ∉ ex->h'.get? b=some o
 slot:∀ b o,h.get? b=some o->H b=none->b ∈ fs->b ∉ ex->∃ sl,h'.get? b=some { o with slots:=sl }
 free:∀ b o,h.get? b=some o->H b=none->b ∉ ex->H' b=none
 there:∀ b o,h.get? b=some o->b ∉ ex->∃ o',h'.get? b=some o'
 tups:∀ b xs,H b=some (.tup xs)->H' b=some (.tup xs)
 frzs:∀ b o u,H b=some (.frz o u)->H' b=some (.frz o u)
 tbls:∀ b ps,H b=some (.tbl ps)->∃ more,H' b=some (.tbl (ps++more))
section
variable {fs fs' ex ex':List Addr}{H H1 H2:Hp}{h h1 h2 h':Heap}{a x e:Addr}{o:HO}
theorem Un.any (u:Un fs ex H H1 h h1){b:Addr}{ob:Obj}(q:h.get? b=some ob)(n:H b=none)(hx:b ∉ ex):∃ sl,h1.get? b=some { ob with slots:=sl }:=by
 by_cases hb:b ∈ fs
 ·exact u.slot b ob q n hb hx
 ·exact ⟨ob.slots,u.keep b ob q n hb hx⟩
theorem Un.kept (k:∀ b u,h.get? b=some u->h'.get? b=some u):Un fs ex H H h h' :=
 ⟨fun b ob q _ _ _=>k b ob q,fun b ob q _ _ _=>⟨ob.slots,k b ob q⟩,fun _ _ _ n _=>n,fun b ob q _=>⟨ob,k b ob q⟩,fun _ _ q=>q,fun _ _ _ q=>q,fun _ ps q=>⟨#[],by rw [q]; simp⟩⟩
theorem Un.refl:Un fs ex H H h h:=Un.kept fun _ _ q=>q
theorem Un.laid (k:∀ b u,h.get? b=some u->h'.get? b=some u)(hp:h.objs.size<=a)(hn:H a=none):Un fs ex H (upd H a o) h h' where
 keep:=fun b u q _ _ _=>k b u q
 slot:=fun b u q _ _ _=>⟨u.slots,k b u q⟩
 free:=fun b u q n _=>by rw [upd_ne (Nat.ne_of_lt (Nat.lt_of_lt_of_le (Heap.lt_size q) hp))]; exact n
 there:=fun b u q _=>⟨u,k b u q⟩
 tups:=fun b xs q=>by rw [upd_ne (ne_of_none q hn)]; exact q
 frzs:=fun b u xs q=>by rw [upd_ne (ne_of_none q hn)]; exact q
 tbls:=fun b ps q=>⟨#[],by rw [upd_ne (ne_of_none q hn),q]; simp⟩
theorem Un.write (mu:Mut (H x))(he:e=x\/H e=some (.own x))(k:∀ b u,b ≠ e->h.get? b=some u->h'.get? b=some u)(heo:∃ u,h'.get? e=some u):Un fs ex H (upd H x o) h h':=by
 have hx:∀ b,H b=none->b ≠ x:=fun b n z=>by subst z; rw [n] at mu; exact mu
 have hb:∀ b,H b=none->b ≠ e:=fun b n z=>by
  subst z;rcases he with r | r
  ·exact hx b n r
  ·rw [n] at r; cases r
 have hm:∀ b u,H b=some u->¬ Mut (some u)->b ≠ x:=fun b u q nm z=>by subst z; rw [q] at mu; exact nm mu
 refine ⟨fun b u q n _ _=>k b u (hb b n) q,fun b u q n _ _=>⟨u.slots,k b u (hb b n) q⟩,fun b u q n _=>by rw [upd_ne (hx b n)]; exact n,fun b u q _=>?_,
  fun b xs q=>by rw [upd_ne (hm b _ q fun z=>z)]; exact q,fun b u xs q=>by rw [upd_ne (hm b _ q fun z=>z)]; exact q,fun b ps q=>⟨#[],by rw [upd_ne (hm b _ q fun z=>z),q]; simp⟩⟩
 by_cases hbe:b=e
 ·subst hbe; exact heo
 ·exact ⟨u,k b u hbe q⟩
end
noncomputable def trk (h:Heap)(H:Hp):List Addr:=(List.range h.objs.size).filter fun a=>(H a).isSome
noncomputable def hidT (h:Heap)(H:Hp):Heap:=PySem.W.hideAll h (trk h H)
theorem hidT_size (h:Heap)(H:Hp):(hidT h H).objs.size=h.objs.size:=PySem.W.hideAll_size _ _
theorem hidT_get {h:Heap}{H:Hp}{b:Addr}{o:Obj}(e:h.get? b=some o)(n:H b=none):(hidT h H).get? b=some o :=
 PySem.W.hideAll_get _ e fun hm=>by
  have q:(H b).isSome=true:=(List.mem_filter.mp hm).2;rw [n] at q; simp at q
theorem of_hidT {h:Heap}{H:Hp}{b:Addr}{o:Obj}(e:(hidT h H).get? b=some o):h.get? b=some o/\H b=none:=by
 have e':h.get? b=some o:=PySem.W.of_hideAll (trk h H) e;refine ⟨e',?_⟩;cases q:H b with
 | none=>rfl
 | some x =>
  have hm:b ∈ trk h H:=List.mem_filter.mpr ⟨List.mem_range.mpr (Heap.lt_size e'),by simp [q]⟩;have z:(hidT h H).get? b=none:=PySem.W.hideAll_none (trk h H) hm;rw [z] at e; cases e
end L2
namespace L2
open PySem PySem.Spec PyProof.Rows
structure Mod (K:PySem.W.Frag)(mg:Str->Option Value)(base:Heap):Prop where
 kin:K.In base
 glob:base.Ns mainGlobals mg
 blt:∃ mb,base.Ns builtinsNs mb/\∀ x:Str,x ≠ "__name__"->mb x=bootBuiltins x
 nolimit:base.NoLimit
structure Cx where
 prog:Program
 w:World
 K:PySem.W.Frag
 mg:Str->Option Value
 base:Heap
 A:Around
 N:List Str
 s₀:Shared
 H₀:Hp
 env:Env
 outer:List Env
 stack:List Env
 ex:List Addr
 fn:Str->Bool
 calm:Bool
 pn:List (Addr × Obj)
 xe:Value->Shared->Prop
noncomputable def frs (l:List Env):List Addr:=l.filterMap (·.frame)
noncomputable abbrev Cx.fs (X:Cx):List Addr:=frs X.outer
noncomputable def Vis (sc:Scope)(x:Str):Prop:=sc.names.lookup x=some .local\/sc.names.lookup x=some .cell\/sc.names.lookup x=some .free
noncomputable def Loc (sc:Scope)(x:Str):Prop:=sc.names.lookup x=some .local\/sc.names.lookup x=some .cell
noncomputable def Look (env:Env)(h:Heap)(m:Str->Option Value)(x:Str)(u:Value):Prop :=
 (env.kindOf x=some .local/\m x=some u)\/((env.kindOf x=some .cell\/env.kindOf x=some .free)/\∃ c,env.cells.lookup x=some c/\h.IsCell c (some u))
structure Cx.Ok (X:Cx):Prop where
 mod:Mod X.K X.mg X.base
 kind:X.env.scope.kind=.function
 glob:X.env.globals=mainGlobals
 blt:X.env.builtins=builtinsNs
 above:X.s₀.heap.objs.size<=X.env.locals
 inj:∀ x y c,X.env.cells.lookup x=some c->X.env.cells.lookup y=some c->x=y
 has:∀ x,(X.env.kindOf x=some .cell\/X.env.kindOf x=some .free)->∃ c,X.env.cells.lookup x=some c
 cab:∀ x c,X.fn x=true->X.env.cells.lookup x=some c->X.s₀.heap.objs.size<=c
 hd:X.calm=true->X.A.handled=none
 frames:X.A.frames=some X.stack
 stk:X.stack=X.outer\/(X.stack=X.env :: X.outer/\X.env.frame=some X.env.locals)
 exf:∀ b ∈ X.ex,b ≠ X.env.locals/\∀ x c,X.env.cells.lookup x=some c->c ≠ b
 bs:∀ b o,X.base.get? b=some o->X.s₀.heap.get? b=some o/\X.H₀ b=none
 bsz:X.base.objs.size<=X.s₀.heap.objs.size
 noex:∀ b o,X.base.get? b=some o->b ∉ X.ex
 exfs:∀ b ∈ X.ex,b ∉ X.fs
 funs:X.s₀.heap.FunFrames X.base X.outer
 frf:∀ b ∈ X.fs,X.H₀ b=none
structure Inv (X:Cx)(pins:List (Addr × Obj))(σ:List (Option V))(H:Hp)(s:Shared):Prop where
 ok:X.Ok
 os:s.os=X.s₀.os
 bare:AllBare s.gens
 base:Un X.fs X.ex X.H₀ H X.s₀.heap s.heap
 loc:∃ m,s.heap.Ns X.env.locals m/\∀ (i:Nat) (x:Str) (v:V),X.N[i]?=some x->σ[i]?=some (some v)->Vis X.env.scope x->∃ u,RelV v u/\Look X.env s.heap m x u
 cell:∀ x c,X.env.cells.lookup x=some c->∃ v,s.heap.IsCell c v
 free:H X.env.locals=none
 freeC:∀ x c,X.env.cells.lookup x=some c->H c=none
 pin:∀ p ∈ X.pn++pins,s.heap.get? p.1=some p.2/\H p.1=none/\p.1 ≠ X.env.locals/\p.1 ∉ X.fs/\∀ v,p.2.data ≠ .cell v
 hok:HOk X.prog X.w H s.heap
 len:σ.length=X.N.length
section
variable {X:Cx}{pins:List (Addr × Obj)}{σ:List (Option V)}{H H':Hp}{s:Shared}{h':Heap}
theorem Cx.Ok.nofr (ok:X.Ok){b:Addr}{o:Obj}(e:X.base.get? b=some o):b ∉ X.fs:=fun hb=>by
 have:=(ok.funs.mem hb).1;rw [e] at this; cases this
theorem Inv.bs (I:Inv X pins σ H s):∀ b o,X.base.get? b=some o->s.heap.get? b=some o/\H b=none:=fun b o e =>
 ⟨I.base.keep b o (I.ok.bs b o e).1 (I.ok.bs b o e).2 (I.ok.nofr e) (I.ok.noex b o e),I.base.free b o (I.ok.bs b o e).1 (I.ok.bs b o e).2 (I.ok.noex b o e)⟩
theorem Inv.bk (I:Inv X pins σ H s):∀ b o,X.base.get? b=some o->s.heap.get? b=some o:=fun b o e=>(I.bs b o e).1
theorem Inv.mod (I:Inv X pins σ H s):Mod X.K X.mg X.base:=I.ok.mod
theorem Inv.kIn (I:Inv X pins σ H s):X.K.In s.heap:=I.ok.mod.kin.keeps I.bk
theorem Inv.lt (I:Inv X pins σ H s):X.env.locals < s.heap.objs.size:=let ⟨_,hn,_⟩:=I.loc; hn.lt
theorem Inv.sz (I:Inv X pins σ H s):X.s₀.heap.objs.size<=s.heap.objs.size:=Nat.le_trans I.ok.above (Nat.le_of_lt I.lt)
theorem Inv.nofs (I:Inv X pins σ H s){a:Addr}(h:s.heap.objs.size<=a):a ∉ X.fs:=fun hb=>by
 obtain ⟨_,o,ho,_⟩:=I.ok.funs.mem hb;exact absurd (Nat.lt_of_lt_of_le (Heap.lt_size ho) (Nat.le_trans I.sz h)) (Nat.lt_irrefl _)
theorem Inv.cne (I:Inv X pins σ H s):∀ x c,X.env.cells.lookup x=some c->c ≠ X.env.locals:=fun x c e z=>by
 obtain ⟨v,o,ho,hd⟩:=I.cell x c e;obtain ⟨m,⟨o',es,ep,ho',hd',_⟩,_⟩:=I.loc;rw [z,ho'] at ho; cases ho; rw [hd'] at hd; cases hd
theorem Inv.funs (I:Inv X pins σ H s):s.heap.FunFrames X.base X.outer:=by
 have all:∀ (l:List Env),(∀ b ∈ frs l,b ∈ X.fs)->X.s₀.heap.FunFrames X.base l->s.heap.FunFrames X.base l:=by
  intro l;induction l with
  | nil=>intro _ _; trivial
  | cons env r ih =>
   intro hs hl;obtain ⟨hk,⟨L,o,hf,hn,ho,hd⟩,hr⟩:=hl;have hL:L ∈ X.fs:=hs L (by unfold frs; rw [List.filterMap_cons,hf]; exact List.mem_cons_self);obtain ⟨sl,e⟩:=I.base.slot L o ho (I.ok.frf L hL) hL fun z=>I.ok.exfs L z hL;exact ⟨hk,⟨L,_,hf,hn,e,hd⟩,ih (fun b hb=>hs b (by unfold frs; rw [List.filterMap_cons,hf]; exact List.mem_cons_of_mem _ hb)) hr⟩
 exact all X.outer (fun _ hb=>hb) I.ok.funs
theorem Inv.stack (I:Inv X pins σ H s):s.heap.FunFrames X.base X.stack:=by
 rcases I.ok.stk with e | ⟨e,hf⟩
 ·rw [e]; exact I.funs
 ·rw [e];obtain ⟨m,hn,_⟩:=I.loc;refine .cons (by rw [I.ok.kind]; decide) hf hn ?_ I.funs;exact Heap.get?_none_of_le (Nat.le_trans I.ok.bsz I.ok.above)
theorem Inv.stkSub (I:Inv X pins σ H s):∀ b ∈ frs X.stack,b ∈ X.env.locals :: X.fs:=fun b hb=>by
 rcases I.ok.stk with e | ⟨e,hf⟩
 ·rw [e] at hb; exact List.mem_cons_of_mem _ hb
 ·rw [e] at hb;unfold frs at hb;rw [List.filterMap_cons,hf] at hb;exact hb
theorem Inv.stkFree (I:Inv X pins σ H s):∀ b ∈ frs X.stack,H b=none:=fun b hb=>by
 rcases List.mem_cons.mp (I.stkSub b hb) with e | hb
 ·rw [e]; exact I.free
 ·obtain ⟨_,o,ho,_⟩:=I.ok.funs.mem hb;exact I.base.free b o ho (I.ok.frf b hb) fun z=>I.ok.exfs b z hb
theorem Inv.step {g':Array GenState}{t':Nat}{d':Drawn}{ch:List Addr}(I:Inv X pins σ H s)
  (hch:∀ b ∈ ch,(b ∈ X.ex\/X.s₀.heap.objs.size<=b)/\b ≠ X.env.locals/\(∀ x c,X.env.cells.lookup x=some c->c ≠ b)/\∀ p ∈ X.pn++pins,p.1 ≠ b)
  (keep:∀ b o,b ≠ X.env.locals->b ∉ X.fs->b ∉ ch->s.heap.get? b=some o->H b=none->h'.get? b=some o)
  (slot:∀ b o,b ≠ X.env.locals->b ∈ X.fs->b ∉ ch->s.heap.get? b=some o->H b=none->∃ sl,h'.get? b=some { o with slots:=sl }) (free:∀ b o,b ∉ ch->s.heap.get? b=some o->H b=none->H' b=none)
  (there:∀ b o,b ∉ ch->s.heap.get? b=some o->∃ o',h'.get? b=some o')
  (tups:∀ b xs,H b=some (.tup xs)->H' b=some (.tup xs)) (frzs:∀ b o u,H b=some (.frz o u)->H' b=some (.frz o u)) (tbls:∀ b ps,H b=some (.tbl ps)->∃ more,H' b=some (.tbl (ps++more)))
  (ns:∀ m,s.heap.Ns X.env.locals m->h'.Ns X.env.locals m) (hok:HOk X.prog X.w H' h') (hg:AllBare g') :
  Inv X pins σ H' { s with heap:=h',gens:=g',drawn:=d',toks:=t' }:=by
 have neL:∀ b o,X.s₀.heap.get? b=some o->b ≠ X.env.locals:=fun b o e=>Nat.ne_of_lt (Nat.lt_of_lt_of_le (Heap.lt_size e) I.ok.above);have neC:∀ b o,X.s₀.heap.get? b=some o->b ∉ X.ex->b ∉ ch:=fun b o e hx hb=>by
  rcases (hch b hb).1 with z | z
  ·exact hx z
  ·exact absurd (Nat.lt_of_lt_of_le (Heap.lt_size e) z) (Nat.lt_irrefl _)
 have cellK:∀ x c,X.env.cells.lookup x=some c->∀ v,s.heap.IsCell c v->h'.IsCell c v:=fun x c e v ⟨o,ho,hd⟩=>by
  have nch:c ∉ ch:=fun z=>(hch c z).2.2.1 x c e rfl;by_cases hc:c ∈ X.fs
  ·obtain ⟨sl,q⟩:=slot c o (I.cne x c e) hc nch ho (I.freeC x c e);exact ⟨_,q,hd⟩
  ·exact ⟨o,keep c o (I.cne x c e) hc nch ho (I.freeC x c e),hd⟩
 refine ⟨I.ok,I.os,hg,⟨fun b o e n hb hx=>?_,fun b o e n hb hx=>?_,fun b o e n hx=>?_,fun b o e hx=>?_,fun b xs e=>tups b xs (I.base.tups b xs e),fun b o xs e=>frzs b o xs (I.base.frzs b o xs e),fun b ps e=>?_⟩,?_,fun x c e=>?_,?_,fun x c e=>?_,fun p hp=>?_,hok,I.len⟩
 ·exact keep b o (neL b o e) hb (neC b o e hx) (I.base.keep b o e n hb hx) (I.base.free b o e n hx)
 ·obtain ⟨sl,e1⟩:=I.base.slot b o e n hb hx;obtain ⟨sl',e2⟩:=slot b _ (neL b o e) hb (neC b o e hx) e1 (I.base.free b o e n hx);exact ⟨sl',e2⟩
 ·obtain ⟨o',e1⟩:=I.base.there b o e hx;exact free b o' (neC b o e hx) e1 (I.base.free b o e n hx)
 ·obtain ⟨o',e1⟩:=I.base.there b o e hx;exact there b o' (neC b o e hx) e1
 ·obtain ⟨m1,e1⟩:=I.base.tbls b ps e;obtain ⟨m2,e2⟩:=tbls b _ e1;exact ⟨m1++m2,by rw [e2,Array.append_assoc]⟩
 ·obtain ⟨m,hn,hl⟩:=I.loc;refine ⟨m,ns m hn,fun i x v e1 e2 e3=>?_⟩;obtain ⟨u,r,l⟩:=hl i x v e1 e2 e3;refine ⟨u,r,?_⟩;rcases l with l | ⟨k,c,e,z⟩
  ·exact .inl l
  ·exact .inr ⟨k,c,e,cellK x c e _ z⟩
 ·obtain ⟨v,z⟩:=I.cell x c e;exact ⟨v,cellK x c e v z⟩
 ·obtain ⟨m,⟨o,_,_,ho,_⟩,_⟩:=I.loc;exact free _ o (fun z=>(hch _ z).2.1 rfl) ho I.free
 ·obtain ⟨v,o,ho,hd⟩:=I.cell x c e;exact free c o (fun z=>(hch c z).2.2.1 x c e rfl) ho (I.freeC x c e)
 ·obtain ⟨e,n,ne,nf,d⟩:=I.pin p hp;have nch:p.1 ∉ ch:=fun z=>(hch p.1 z).2.2.2 p hp rfl;exact ⟨keep p.1 p.2 ne nf nch e n,free p.1 p.2 nch e n,ne,nf,d⟩
theorem Inv.un {t':Nat}(I:Inv X pins σ H s)(u:Un X.fs [] H H' s.heap h')(hok:HOk X.prog X.w H' h'):Inv X pins σ H' { s with heap:=h',toks:=t' }:=by
 obtain ⟨m,⟨o,es,ep,ho,r⟩,_⟩:=id I.loc;obtain ⟨sl,hL⟩:=u.any ho I.free (by simp);exact I.step (g':=s.gens) (d':=s.drawn) (ch:=[]) (fun _ z=>nomatch z) (fun b o _ hb _ e n=>u.keep b o e n hb (by simp)) (fun b o _ hb _ e n=>u.slot b o e n hb (by simp)) (fun b o _ e n=>u.free b o e n (by simp)) (fun b o _ e=>u.there b o e (by simp)) u.tups u.frzs u.tbls (fun m' hm=>by
  obtain ⟨o',es',ep',ho',r'⟩:=hm;rw [ho] at ho'; cases ho';exact ⟨_,es',ep',hL,r'⟩) hok I.bare
theorem Inv.call {g':Array GenState}{t':Nat}{d':Drawn}{ch:List Addr}(I:Inv X pins σ H s)(u:Un (frs X.stack) ch H H' s.heap h')(hok:HOk X.prog X.w H' h')(hg:AllBare g')
  (hch:∀ b ∈ ch,(b ∈ X.ex\/X.s₀.heap.objs.size<=b)/\b ≠ X.env.locals/\(∀ x c,X.env.cells.lookup x=some c->c ≠ b)/\∀ p ∈ X.pn++pins,p.1 ≠ b) :
  Inv X pins σ H' { s with heap:=h',gens:=g',drawn:=d',toks:=t' }:=by
 obtain ⟨m,⟨o,es,ep,ho,r⟩,_⟩:=id I.loc;obtain ⟨sl,hL⟩:=u.any ho I.free fun z=>(hch _ z).2.1 rfl;exact I.step (ch:=ch) hch (fun b o hL hb hc e n=>u.keep b o e n (fun z=>(List.mem_cons.mp (I.stkSub b z)).elim hL hb) hc) (fun b o _ _ hc e n=>u.any e n hc) (fun b o hc e n=>u.free b o e n hc) (fun b o hc e=>u.there b o e hc) u.tups u.frzs u.tbls (fun m' hm=>by
  obtain ⟨o',es',ep',ho',r'⟩:=hm;rw [ho] at ho'; cases ho';exact ⟨_,es',ep',hL,r'⟩) hok hg
theorem Inv.turned {t':Nat}{it:Addr}(I:Inv X pins σ H s)(k:∀ b o,b ≠ it->s.heap.get? b=some o->h'.get? b=some o)(hn:H it=none)(hL:it ≠ X.env.locals)
  (h1:it ∈ X.ex\/X.s₀.heap.objs.size<=it) (h2:∀ x c,X.env.cells.lookup x=some c->c ≠ it) (h3:∀ p ∈ X.pn++pins,p.1 ≠ it):Inv X pins σ H { s with heap:=h',toks:=t' }:=by
 have nit:∀ b u,H b=some u->b ≠ it:=fun b u e z=>by rw [z,hn] at e; cases e
 refine I.step (g':=s.gens) (d':=s.drawn) (ch:=[it]) (fun b hb=>?_) (fun b o _ _ hc e _=>k b o (fun z=>hc (by simp [z])) e) (fun b o _ _ hc e _=>⟨o.slots,k b o (fun z=>hc (by simp [z])) e⟩) (fun _ _ _ _ n=>n)
  (fun b o hc e=>⟨o,k b o (fun z=>hc (by simp [z])) e⟩) (fun _ _ e=>e) (fun _ _ _ e=>e) (fun b ps e=>⟨#[],by rw [e]; simp⟩) (fun m hm=>?_) (fun b u e=>?_) I.bare
 ·have e:b=it:=by simpa using hb
  subst e;exact ⟨h1,hL,h2,h3⟩
 ·obtain ⟨o,es,ep,ho,r⟩:=hm;exact ⟨o,es,ep,k _ o (Ne.symm hL) ho,r⟩
 ·refine (I.hok b u e).stay (fun c v hc q=>k c v ?_ q) (fun _ q=>q) fun _ _ q=>q;rcases hc with z | z
  ·rw [z]; exact nit b u e
  ·exact nit c _ z
theorem Inv.tok (I:Inv X pins σ H s)(t:Nat):Inv X pins σ H { s with toks:=t }:=I.un (h':=s.heap) (t':=t) Un.refl I.hok
theorem Inv.kept {t':Nat}(I:Inv X pins σ H s)(k:∀ b u,s.heap.get? b=some u->h'.get? b=some u):Inv X pins σ H { s with heap:=h',toks:=t' }:=I.un (Un.kept k) (I.hok.kept k)
theorem Inv.laid {a:Addr}{o:HO}{t':Nat}(I:Inv X pins σ H s)(k:∀ b u,s.heap.get? b=some u->h'.get? b=some u)(hp:s.heap.objs.size<=a)(new:ObjOk X.prog X.w (upd H a o) h' a o) :
  Inv X pins σ (upd H a o) { s with heap:=h',toks:=t' }:=I.un (Un.laid k hp (I.hok.fresh hp)) (I.hok.laid k hp new)
theorem Inv.write {x e:Addr}{o:HO}{t':Nat}(I:Inv X pins σ H s)(mu:Mut (H x))(he:e=x\/H e=some (.own x))(k:∀ b u,b ≠ e->s.heap.get? b=some u->h'.get? b=some u)(heo:∃ u,h'.get? e=some u)
  (new:ObjOk X.prog X.w (upd H x o) h' x o):Inv X pins σ (upd H x o) { s with heap:=h',toks:=t' }:=I.un (Un.write mu he k heo) (I.hok.write mu he k heo new)
theorem Inv.pins_of {pins':List (Addr × Obj)}(I:Inv X pins σ H s)(h:∀ p ∈ pins',s.heap.get? p.1=some p.2/\H p.1=none/\p.1 ≠ X.env.locals/\p.1 ∉ X.fs/\∀ v,p.2.data ≠ .cell v):Inv X pins' σ H s :=
 ⟨I.ok,I.os,I.bare,I.base,I.loc,I.cell,I.free,I.freeC,fun p hp=>(List.mem_append.mp hp).elim (fun z=>I.pin p (List.mem_append_left _ z)) (h p),I.hok,I.len⟩
theorem nodup_ix {N:List Str}(hN:N.Nodup){i j:Nat}{x:Str}(a:N[i]?=some x)(b:N[j]?=some x):i=j:=by
 obtain ⟨h1,e1⟩:=List.getElem?_eq_some_iff.mp a;obtain ⟨h2,e2⟩:=List.getElem?_eq_some_iff.mp b;exact (List.getElem_inj hN).mp (e1.trans e2.symm)
theorem store_ok2 {M:Model}{A:Around}{E:Value->Shared->Prop}{i:Nat}{x:Str}{v:V}{u:Value}{Q:Unit->Shared->Prop}(I:Inv X pins σ H s)(hN:X.N.Nodup)(hi:X.N[i]?=some x)(hx:Loc X.env.scope x)(r:RelV v u)
  (h:∀ s',Inv X pins (σ.set i (some v)) H s'->(∃ a,Heap.SameBut a s.heap s'.heap/\(a=X.env.locals\/X.env.cells.lookup x=some a))->Q () s') (hf:X.fn x=true\/X.env.scope.names.lookup x=some .local:=by first | exact .inl rfl | exact .inr rfl | assumption):wpAny M A (storeName X.env x u) Q E s:=by
 obtain ⟨m,hn,hl⟩:=id I.loc;have hcls:(X.env.scope.kind == .class || (X.env.scope.kind == .module && X.env.locals != X.env.globals))=false:=by rw [I.ok.kind]; rfl
 have hiσ:i < σ.length:=by rw [I.len]; exact (List.getElem?_eq_some_iff.mp hi).1
 have cne:=I.cne;have tracked:∀ {a:Addr} {h':Heap},(∃ o,s.heap.get? a=some o/\H a=none)->Heap.SameBut a s.heap h'->HOk X.prog X.w H h':=fun {a h'} ha hs b ob e=>by
  obtain ⟨_,_,hfree⟩:=ha;refine (I.hok b ob e).stay (fun c w' hc q=>(hs.2 c ?_).trans q) (fun _ q=>q) fun _ _ q=>q;rintro rfl;rcases hc with rfl | hc
  ·rw [hfree] at e; cases e
  ·rw [hfree] at hc; cases hc
 rcases hx with hk | hk
 ·refine wpAny_storeName_local hk hn (fun h' hn' hs=>?_) hcls;obtain ⟨oL,_,_,hoL,_⟩:=id hn;refine h _ ⟨I.ok,I.os,I.bare,⟨fun b o e n hb hx=>?_,fun b o e n hb hx=>?_,I.base.free,fun b o e hx=>?_,I.base.tups,I.base.frzs,I.base.tbls⟩,⟨_,hn',fun j y v' e1 e2 e3=>?_⟩,fun y c e=>?_,I.free,I.freeC,fun p hp=>?_,tracked ⟨oL,hoL,I.free⟩ hs,by simpa using I.len⟩ ⟨_,hs,.inl rfl⟩
  ·exact (hs.2 b (Nat.ne_of_lt (Nat.lt_of_lt_of_le (Heap.lt_size e) I.ok.above))).trans (I.base.keep b o e n hb hx)
  ·obtain ⟨sl,e1⟩:=I.base.slot b o e n hb hx;exact ⟨sl,(hs.2 b (Nat.ne_of_lt (Nat.lt_of_lt_of_le (Heap.lt_size e) I.ok.above))).trans e1⟩
  ·obtain ⟨o',e1⟩:=I.base.there b o e hx;exact ⟨o',(hs.2 b (Nat.ne_of_lt (Nat.lt_of_lt_of_le (Heap.lt_size e) I.ok.above))).trans e1⟩
  ·by_cases hj:j=i
   ·subst hj;rw [hi] at e1; cases e1;rw [List.getElem?_set_self hiσ] at e2;cases e2;exact ⟨u,r,.inl ⟨hk,by simp⟩⟩
   ·rw [List.getElem?_set_ne (Ne.symm hj)] at e2;obtain ⟨u',r',q⟩:=hl j y v' e1 e2 e3;refine ⟨u',r',?_⟩;rcases q with ⟨k,e⟩ | ⟨k,c,e,z⟩
    ·refine .inl ⟨k,?_⟩;have:y ≠ x:=fun e=>hj (nodup_ix hN e1 (e ▸ hi));simp [this,e]
    ·exact .inr ⟨k,c,e,z.sameBut hs (cne y c e)⟩
  ·obtain ⟨w',z⟩:=I.cell y c e;exact ⟨w',z.sameBut hs (cne y c e)⟩
  ·obtain ⟨e,n,ne,nf,d⟩:=I.pin p hp;exact ⟨(hs.2 p.1 ne).trans e,n,ne,nf,d⟩
 ·have hfn:X.fn x=true:=by
   rcases hf with z | z
   ·exact z
   ·rw [z] at hk; cases hk
  obtain ⟨c,hc⟩:=I.ok.has x (.inl hk);obtain ⟨w',z⟩:=I.cell x c hc;refine wpAny_storeName_cell I.ok.kind hk hc z (fun h' hc' hs=>?_);obtain ⟨oc,hoc,hocd⟩:=id z;refine h { s with heap:=h' } ⟨I.ok,I.os,I.bare,⟨fun b o e n hb hx=>?_,fun b o e n hb hx=>?_,I.base.free,fun b o e hx=>?_,I.base.tups,I.base.frzs,I.base.tbls⟩,⟨m,hn.sameBut hs (Ne.symm (cne x c hc)),fun j y v' e1 e2 e3=>?_⟩,fun y c' e=>?_,I.free,I.freeC,fun p hp=>?_,tracked ⟨oc,hoc,I.freeC x c hc⟩ hs,by simpa using I.len⟩ ⟨c,hs,.inr hc⟩
  ·exact (hs.2 b (Nat.ne_of_lt (Nat.lt_of_lt_of_le (Heap.lt_size e) (I.ok.cab x c hfn hc)))).trans (I.base.keep b o e n hb hx)
  ·obtain ⟨sl,e1⟩:=I.base.slot b o e n hb hx;exact ⟨sl,(hs.2 b (Nat.ne_of_lt (Nat.lt_of_lt_of_le (Heap.lt_size e) (I.ok.cab x c hfn hc)))).trans e1⟩
  ·obtain ⟨o',e1⟩:=I.base.there b o e hx;exact ⟨o',(hs.2 b (Nat.ne_of_lt (Nat.lt_of_lt_of_le (Heap.lt_size e) (I.ok.cab x c hfn hc)))).trans e1⟩
  ·by_cases hj:j=i
   ·subst hj;rw [hi] at e1; cases e1;rw [List.getElem?_set_self hiσ] at e2;cases e2;exact ⟨u,r,.inr ⟨.inl hk,c,hc,hc'⟩⟩
   ·rw [List.getElem?_set_ne (Ne.symm hj)] at e2;obtain ⟨u',r',q⟩:=hl j y v' e1 e2 e3;refine ⟨u',r',?_⟩;rcases q with q | ⟨k,c',e,z'⟩
    ·exact .inl q
    ·refine .inr ⟨k,c',e,z'.sameBut hs ?_⟩;rintro rfl;exact hj (nodup_ix hN e1 (I.ok.inj _ _ _ e hc ▸ hi))
  ·by_cases hcc:c'=c
   ·subst hcc; exact ⟨_,hc'⟩
   ·obtain ⟨w2,z2⟩:=I.cell y c' e;exact ⟨w2,z2.sameBut hs hcc⟩
  ·obtain ⟨e,n,ne,nf,d⟩:=I.pin p hp;refine ⟨(hs.2 p.1 ?_).trans e,n,ne,nf,d⟩;intro q;rw [q,hoc] at e;have q':oc=p.2:=Option.some.inj e;exact d w' (by rw [<- q']; exact hocd)
theorem store_ok {M:Model}{A:Around}{E:Value->Shared->Prop}{i:Nat}{x:Str}{v:V}{u:Value}{Q:Unit->Shared->Prop}(I:Inv X pins σ H s)(hN:X.N.Nodup)(hi:X.N[i]?=some x)(hx:Loc X.env.scope x)(r:RelV v u)
  (h:∀ s',Inv X pins (σ.set i (some v)) H s'->Q () s') (hf:X.fn x=true\/X.env.scope.names.lookup x=some .local:=by first | exact .inl rfl | exact .inr rfl | assumption):wpAny M A (storeName X.env x u) Q E s :=
 store_ok2 I hN hi hx r (fun s' I' _=>h s' I') hf
theorem Inv.call' {s':Shared}{ch:List Addr}(I:Inv X pins σ H s)(ho:s'.os=s.os)(u:Un (frs X.stack) ch H H' s.heap s'.heap)(hok:HOk X.prog X.w H' s'.heap)(hg:AllBare s'.gens)
  (hch:∀ b ∈ ch,(b ∈ X.ex\/X.s₀.heap.objs.size<=b)/\b ≠ X.env.locals/\(∀ x c,X.env.cells.lookup x=some c->c ≠ b)/\∀ p ∈ X.pn++pins,p.1 ≠ b):Inv X pins σ H' s':=by
 obtain ⟨h',g',d',t',o'⟩:=s';have e:o'=s.os:=ho;subst e;exact I.call (g':=g') (t':=t') (d':=d') u hok hg hch
end
noncomputable abbrev XK:=Value->Option Addr->Hp->Prop
noncomputable abbrev St:=List (Option V)
noncomputable abbrev VK:=V->Hp->Prop
noncomputable abbrev TE:=St->Hp->VK->Prop
noncomputable abbrev TT:=St->Hp->(Bool->Hp->Prop)->Prop
noncomputable abbrev TA:=St->Hp->(List V->Hp->Prop)->Prop
structure Ends where
 nx:St->Hp->Prop
 rt:VK
 bk:St->Hp->Prop:=fun _ _=>False
 ct:St->Hp->Prop:=fun _ _=>False
noncomputable abbrev TS:=Ends->St->Hp->Prop
noncomputable def EP (X:Cx)(pins:List (Addr × Obj))(σ:St)(Q:VK)(u:Value)(s':Shared):Prop:=∃ v H',Inv X pins σ H' s'/\RelV v u/\Q v H'
noncomputable def TP (X:Cx)(pins:List (Addr × Obj))(σ:St)(Q:Bool->Hp->Prop)(b:Bool)(s':Shared):Prop:=∃ H',Inv X pins σ H' s'/\Q b H'
noncomputable def AP (X:Cx)(pins:List (Addr × Obj))(σ:St)(Q:List V->Hp->Prop)(us:List Value)(s':Shared):Prop:=∃ vs H',Inv X pins σ H' s'/\Vals vs us/\Q vs H'
noncomputable def SP (X:Cx)(pins:List (Addr × Obj))(D:Ends)(f:Flow)(s':Shared):Prop :=
 match f with
 | .next=>∃ σ' H',Inv X pins σ' H' s'/\D.nx σ' H'
 | .brk=>∃ σ' H',Inv X pins σ' H' s'/\D.bk σ' H'
 | .cont=>∃ σ' H',Inv X pins σ' H' s'/\D.ct σ' H'
 | .ret u=>∃ v σ' H',Inv X pins σ' H' s'/\RelV v u/\D.rt v H'
noncomputable def PE (X:Cx)(e:Expr)(t:TE):Prop :=
 ∀ (pins:List (Addr × Obj)) (s:Shared) (σ:St) (H:Hp) (Q:VK),Inv X pins σ H s->t σ H Q->wpAny (model X.prog X.w) X.A (eval e X.env) (EP X pins σ Q) X.xe s
noncomputable def PT (X:Cx)(e:Expr)(t:TT):Prop :=
 ∀ (pins:List (Addr × Obj)) (s:Shared) (σ:St) (H:Hp) (Q:Bool->Hp->Prop),Inv X pins σ H s->t σ H Q->wpAny (model X.prog X.w) X.A (isTrue e X.env (eval e X.env)) (TP X pins σ Q) X.xe s
noncomputable def PW (X:Cx)(e:Expr)(t:TT):Prop :=
 ∀ (whole:Sem Value) (pins:List (Addr × Obj)) (s:Shared) (σ:St) (H:Hp) (Q:Bool->Hp->Prop),Inv X pins σ H s->t σ H Q->wpAny (model X.prog X.w) X.A (isTrue e X.env whole) (TP X pins σ Q) X.xe s
theorem PW.pt {X:Cx}{e:Expr}{t:TT}(h:PW X e t):PT X e t:=h _
noncomputable def PA (X:Cx)(es:List Expr)(t:TA):Prop :=
 ∀ (pos:Pos) (pins:List (Addr × Obj)) (s:Shared) (σ:St) (H:Hp) (Q:List V->Hp->Prop),Inv X pins σ H s->t σ H Q->wpAny (model X.prog X.w) X.A (spliced (backTo pos (starEach es X.env))) (AP X pins σ Q) X.xe s
noncomputable def PS (X:Cx)(st:Stmt)(t:TS):Prop :=
 ∀ (pins:List (Addr × Obj)) (s:Shared) (σ:St) (H:Hp) (D:Ends),Inv X pins σ H s->t D σ H->wpAny (model X.prog X.w) X.A (exec st X.env) (SP X pins D) X.xe s
noncomputable def PSs (X:Cx)(st:List Stmt)(t:TS):Prop :=
 ∀ (pins:List (Addr × Obj)) (s:Shared) (σ:St) (H:Hp) (D:Ends),Inv X pins σ H s->t D σ H->wpAny (model X.prog X.w) X.A (execs st X.env) (SP X pins D) X.xe s
theorem thn {α:Type}{t:Sem α}{Q Q':α->Shared->Prop}{M:Model}{A:Around}{E:Value->Shared->Prop}{s:Shared}(h:wpAny M A t Q E s)(hQ:∀ a s,Q a s->Q' a s):wpAny M A t Q' E s:=wpAny_mono h hQ fun _ _ x=>x
end L2
namespace L2
open PySem PySem.Spec PyProof.Rows
section
variable {X:Cx}
noncomputable def tVar (i:Nat):TE:=fun σ H Q=>∃ v,σ[i]?=some (some v)/\Q v H
noncomputable def tC (v:V):TE:=fun _ H Q=>Q v H
theorem pe_var {i:Nat}{x:Str}{pos:Pos}(hN:X.N[i]?=some x)(hv:Vis X.env.scope x)(hd:(x == ("__debug__":Str))=false:=by decide)(hcd:(x == ("__classdict__":Str))=false:=by decide):PE X (.Name x pos) (tVar i):=by
 intro pins s σ H Q I h;obtain ⟨v,e,h⟩:=h;obtain ⟨m,hn,hl⟩:=I.loc;obtain ⟨u,r,l⟩:=hl i x v hN e hv;have fin:EP X pins σ Q u s:=⟨v,H,I,r,h⟩;rcases l with ⟨hk,hm⟩ | ⟨hk,c,hc,hcell⟩
 ·exact wpAny_Name (wpAny_loadName_local I.ok.kind hk hn hm fin) hd
 ·rcases hk with hk | hk
  ·exact wpAny_Name (wpAny_loadName_cell I.ok.kind hk hc hcell fin) hd
  ·exact wpAny_Name (wpAny_loadName_free I.ok.kind hk hc hcell fin hcd) hd
theorem pe_int {i j pos}:PE X (.Constant (.int i) j pos) (tC (.int i)):=fun _ _ _ H _ I h=>wpAny_Constant_int ⟨.int i,H,I.tok _,⟨_,rfl⟩,h⟩
theorem pe_bl {b j pos}:PE X (.Constant (.bool b) j pos) (tC (.bl b)):=fun _ _ _ H _ I h=>Constant_bool ⟨.bl b,H,I,rfl,h⟩
theorem pe_non {j pos}:PE X (.Constant .none j pos) (tC .non):=fun _ _ _ H _ I h=>Constant_none ⟨.non,H,I,rfl,h⟩
theorem pe_str {x j pos}:PE X (.Constant (.str x) j pos) (tC (.str x)):=fun _ _ _ H _ I h=>Calls.Constant_str ⟨.str x,H,I.tok _,⟨_,rfl⟩,h⟩
noncomputable def Gl (X:Cx)(x:Str):Prop:=X.env.kindOf x=some .globalImplicit
theorem ld_glob {E:Value->Shared->Prop}{pins:List (Addr × Obj)}{s:Shared}{σ:St}{H:Hp}{x:Str}{u:Value}{pos:Pos}{Q:Value->Shared->Prop}(I:Inv X pins σ H s)(hg:Gl X x)(hm:X.mg x=some u)(h:Q u s)
  (hd:(x == ("__debug__":Str))=false:=by decide):wpAny (model X.prog X.w) X.A (eval (.Name x pos) X.env) Q E s :=
 Calls.Name_function_global I.ok.kind hg (Calls.loadGlobal_global (by rw [I.ok.glob]; exact I.mod.glob.keeps I.bk) hm h) hd
theorem ld_blt {E:Value->Shared->Prop}{pins:List (Addr × Obj)}{s:Shared}{σ:St}{H:Hp}{x:Str}{u:Value}{pos:Pos}{Q:Value->Shared->Prop}(I:Inv X pins σ H s)(hg:Gl X x)(hm:X.mg x=none)(hv:bootBuiltins x=some u)(h:Q u s)
  (hn:x ≠ "__name__":=by decide) (hd:(x == ("__debug__":Str))=false:=by decide):wpAny (model X.prog X.w) X.A (eval (.Name x pos) X.env) Q E s:=by
 obtain ⟨mb,h1,h2⟩:=I.mod.blt;exact Calls.Name_function_global I.ok.kind hg (Calls.loadGlobal_builtin (by rw [I.ok.glob]; exact I.mod.glob.keeps I.bk) hm (by rw [I.ok.blt]; exact h1.keeps I.bk) ((h2 x hn).trans hv) h) hd
theorem pe_glob {x:Str}{v:V}{u:Value}{pos:Pos}(hg:Gl X x)(hm:X.mg x=some u)(r:RelV v u)(hd:(x == ("__debug__":Str))=false:=by decide):PE X (.Name x pos) (tC v) :=
 fun _ _ _ H _ I h=>ld_glob I hg hm ⟨v,H,I,r,h⟩ hd
theorem pe_bltn {x:Str}{v:V}{u:Value}{pos:Pos}(hg:Gl X x)(hm:X.mg x=none)(hv:bootBuiltins x=some u)(r:RelV v u)(hn:x ≠ "__name__":=by decide)(hd:(x == ("__debug__":Str))=false:=by decide):PE X (.Name x pos) (tC v) :=
 fun _ _ _ H _ I h=>ld_blt I hg hm hv ⟨v,H,I,r,h⟩ hn hd
variable {a b:Expr}{ta tb:TE}{pos:Pos}
noncomputable def PC (X:Cx)(op:CmpOp)(a b:Expr)(t:TE):Prop :=
 ∀ (pins:List (Addr × Obj)) (s:Shared) (σ:St) (H:Hp) (Q:VK),Inv X pins σ H s->t σ H Q ->
  wpAny (model X.prog X.w) X.A (eval a X.env) (fun v s₁=>wpAny (model X.prog X.w) X.A (eval b X.env) (fun u s₂=>wpAny (model X.prog X.w) X.A (compareOp op v u) (EP X pins σ Q) X.xe s₂) X.xe s₁) X.xe s
noncomputable def tB (t:TE):TT:=fun σ H Q=>t σ H fun x H1=>∃ c,x=.bl c/\Q c H1
theorem pt_cmp {op:CmpOp}{t:TE}(h:PC X op a b t)(h1:behindInMarks op b=false:=by first | exact nobehind _ (by decide) (by decide) | rfl):PT X (.Compare a [op] [b] pos) (tB t):=by
 intro pins s σ H Q I hw;refine wpAny_isTrue_Compare1 (thn (h pins s σ H _ I hw) fun v s1 h1=>thn h1 fun u s2 h2=>thn h2 fun c s3 ⟨x,H1,I1,r1,q1⟩=>?_) h1;obtain ⟨d,rfl,q⟩:=q1;cases r1;exact wpAny_truthy_bool ⟨H1,I1,q⟩
variable {tA tB':TT}{rest:List Expr}
noncomputable def tAnd (t u:TT):TT:=fun σ H Q=>t σ H fun c H1=>if c=true then u σ H1 Q else Q false H1
noncomputable def tOr (t u:TT):TT:=fun σ H Q=>t σ H fun c H1=>if c=true then Q true H1 else u σ H1 Q
noncomputable def tNot (t:TT):TT:=fun σ H Q=>t σ H fun c H1=>Q (!c) H1
theorem pw_and1 (ha:PT X a tA):PW X (.BoolOp .And [a] pos) tA:=by
 intro wh pins s σ H Q I h;refine isTrue_and (thn (ha pins s σ H Q I h) fun c s1 e=>?_);cases c with
 | true=>exact isTrue_and_nil e
 | false=>exact e
theorem pw_or1 (ha:PT X a tA):PW X (.BoolOp .Or [a] pos) tA:=by
 intro wh pins s σ H Q I h;refine isTrue_or (thn (ha pins s σ H Q I h) fun c s1 e=>?_);cases c with
 | false=>exact isTrue_or_nil e
 | true=>exact e
theorem pw_and (ha:PT X a tA)(hb:PW X (.BoolOp .And (b :: rest) pos) tB'):PW X (.BoolOp .And (a :: b :: rest) pos) (tAnd tA tB'):=by
 intro wh pins s σ H Q I h;refine isTrue_and (thn (ha pins s σ H _ I h) fun c s1 ⟨H1,I1,q1⟩=>?_);cases c with
 | true=>exact hb wh pins s1 σ H1 Q I1 q1
 | false=>exact ⟨H1,I1,q1⟩
theorem pw_or (ha:PT X a tA)(hb:PW X (.BoolOp .Or (b :: rest) pos) tB'):PW X (.BoolOp .Or (a :: b :: rest) pos) (tOr tA tB'):=by
 intro wh pins s σ H Q I h;refine isTrue_or (thn (ha pins s σ H _ I h) fun c s1 ⟨H1,I1,q1⟩=>?_);cases c with
 | true=>exact ⟨H1,I1,q1⟩
 | false=>exact hb wh pins s1 σ H1 Q I1 q1
theorem pt_not (ha:PT X a tA):PT X (.UnaryOp .Not a pos) (tNot tA):=by
 intro pins s σ H Q I h;exact isTrue_not (ha pins s σ H (fun c H1=>Q (!c) H1) I h)
noncomputable def tAndV (ta tb:TE):TE:=fun σ H Q=>ta σ H fun x H1=>∃ c,x=.bl c/\if c=true then tb σ H1 Q else Q (.bl false) H1
theorem pe_one {op}{t:TE}(h:PE X a t):PE X (.BoolOp op [a] pos) t:=fun pins s σ H Q I hw=>BoolOp_one (h pins s σ H Q I hw)
theorem pe_and (ha:PE X a ta)(hb:PE X (.BoolOp .And (b :: rest) pos) tb):PE X (.BoolOp .And (a :: b :: rest) pos) (tAndV ta tb):=by
 intro pins s σ H Q I h;refine BoolOp_and (thn (ha pins s σ H _ I h) fun v s1 ⟨x,H1,I1,r1,q1⟩=>?_);obtain ⟨c,rfl,q1⟩:=q1;cases r1;refine wpAny_truthy_bool ?_;cases c with
 | true=>exact hb pins s1 σ H1 Q I1 q1
 | false=>exact ⟨.bl false,H1,I1,rfl,q1⟩
end
end L2
namespace L2
open PySem PySem.Spec PyProof.Rows
noncomputable def SqL (K:PySem.W.Frag)(H:Hp)(a:Addr)(xs:List V):Prop :=
 Rd H a (.lst xs) \/
  ∃ (o:Obj) (its:Array Value) (n:Nat),K.lookup a=some o/\o.cls=.type "list"/\o.dict=none/\o.data=.seq its n/\its.size<=sizeLine/\Vals xs its.toList
noncomputable def SqT (K:PySem.W.Frag)(H:Hp)(a:Addr)(xs:List V):Prop :=
 Rd H a (.tup xs) \/
  ∃ (o:Obj) (its:Array Value) (n:Nat),K.lookup a=some o/\o.cls=.type "tuple"/\o.data=.seq its n/\its.size<=sizeLine/\Vals xs its.toList
noncomputable def absV:Value->Option V
 | .none=>some .non
 | .bool b=>some (.bl b)
 | .int i _=>some (.int i)
 | .str x _=>some (.str x)
 | .bytes b _=>some (.byt b)
 | .float b _=>some (.flt b)
 | .ref a=>some (.ref a)
 | .type n=>some (.ty n)
 | _=>none
theorem RelV.abs {x:V}{u:Value}(r:RelV x u):absV u=some x:=by
 cases x with
 | non=>cases r; rfl
 | bl _=>cases r; rfl
 | int _=>obtain ⟨t,rfl⟩:=r; rfl
 | str _=>obtain ⟨t,rfl⟩:=r; rfl
 | byt _=>obtain ⟨t,rfl⟩:=r; rfl
 | flt _=>obtain ⟨t,rfl⟩:=r; rfl
 | ref _=>cases r; rfl
 | ty _=>cases r; rfl
theorem RelV.inj {x y:V}{u:Value}(r:RelV x u)(q:RelV y u):x=y:=Option.some.inj (r.abs.symm.trans q.abs)
theorem Vals.inj:∀ {xs ys:List V} {us:List Value},Vals xs us->Vals ys us->xs=ys
 | _,_,_,.nil,.nil=>rfl
 | _,_,_,.cons r t,.cons r' t'=>by rw [r.inj r',Vals.inj t t']
section
variable {X:Cx}{pins:List (Addr × Obj)}{σ:St}{H:Hp}{s:Shared}{a:Addr}{xs ys:List V}
theorem SqL.of {K:PySem.W.Frag}(h:H a=some (.lst xs)):SqL K H a xs:=.inl (.inl h)
theorem SqT.of {K:PySem.W.Frag}(h:H a=some (.tup xs)):SqT K H a xs:=.inl (.inl h)
theorem Inv.list (I:Inv X pins σ H s)(h:SqL X.K H a xs):∃ its:List Value,Vals xs its/\PlainL s.heap a its.toArray/\xs.length<=sizeLine:=by
 rcases h with h | ⟨o,its,n,hk,hc,hd,hs,hz,r⟩
 ·obtain ⟨z,its,n,r,e⟩:=h.ok I.hok;exact ⟨its,r,⟨_,n,e,rfl,rfl,rfl⟩,z⟩
 ·refine ⟨its.toList,r,⟨o,n,I.kIn a o hk,hc,hd,by simpa using hs⟩,?_⟩;have e:=r.length;simp only [Array.length_toList] at e;omega
theorem Inv.tuple (I:Inv X pins σ H s)(h:SqT X.K H a xs):∃ its:List Value,Vals xs its/\IsTup s.heap a its.toArray/\xs.length<=sizeLine:=by
 rcases h with h | ⟨o,its,n,hk,hc,hs,hz,r⟩
 ·obtain ⟨z,its,r,p⟩:=h.ok I.hok;exact ⟨its,r,p,z⟩
 ·refine ⟨its.toList,r,⟨o,I.kIn a o hk,hc,n,by simpa using hs⟩,?_⟩;have e:=r.length;simp only [Array.length_toList] at e;omega
theorem Inv.list_inj (I:Inv X pins σ H s)(h:SqL X.K H a xs)(h':SqL X.K H a ys):xs=ys:=by
 obtain ⟨its,r,⟨o,n,e,_,_,d⟩,_⟩:=I.list h;obtain ⟨its',r',⟨o',n',e',_,_,d'⟩,_⟩:=I.list h';rw [e] at e'; cases e';rw [d] at d';injection d' with d1 _
 have:its=its':=by simpa using congrArg Array.toList d1
 subst this;exact r.inj r'
end
noncomputable abbrev Cx.wish (X:Cx)(E:Value->Shared->Prop):Cx:={ X with xe:=E }
noncomputable abbrev Cx.nox (X:Cx):Cx:=X.wish fun _ _=>False
theorem Cx.Ok.wish {X:Cx}(ok:X.Ok)(E:Value->Shared->Prop):(X.wish E).Ok :=
 ⟨ok.mod,ok.kind,ok.glob,ok.blt,ok.above,ok.inj,ok.has,ok.cab,ok.hd,ok.frames,ok.stk,ok.exf,ok.bs,ok.bsz,ok.noex,ok.exfs,ok.funs,ok.frf⟩
theorem Cx.Ok.unwish {X:Cx}{E:Value->Shared->Prop}(ok:(X.wish E).Ok):X.Ok :=
 ⟨ok.mod,ok.kind,ok.glob,ok.blt,ok.above,ok.inj,ok.has,ok.cab,ok.hd,ok.frames,ok.stk,ok.exf,ok.bs,ok.bsz,ok.noex,ok.exfs,ok.funs,ok.frf⟩
section
variable {X:Cx}{pins:List (Addr × Obj)}{σ:St}{H:Hp}{s:Shared}{E:Value->Shared->Prop}
theorem Inv.wish (I:Inv X pins σ H s)(E:Value->Shared->Prop):Inv (X.wish E) pins σ H s:=⟨I.ok.wish E,I.os,I.bare,I.base,I.loc,I.cell,I.free,I.freeC,I.pin,I.hok,I.len⟩
theorem Inv.unwish (I:Inv (X.wish E) pins σ H s):Inv X pins σ H s:=⟨I.ok.unwish,I.os,I.bare,I.base,I.loc,I.cell,I.free,I.freeC,I.pin,I.hok,I.len⟩
theorem SP.unwish {D:Ends}{f:Flow}{s':Shared}(h:SP (X.wish E) pins D f s'):SP X pins D f s':=by
 cases f with
 | next=>obtain ⟨σ',H',I,q⟩:=h; exact ⟨σ',H',I.unwish,q⟩
 | brk=>obtain ⟨σ',H',I,q⟩:=h; exact ⟨σ',H',I.unwish,q⟩
 | cont=>obtain ⟨σ',H',I,q⟩:=h; exact ⟨σ',H',I.unwish,q⟩
 | ret u=>obtain ⟨v,σ',H',I,r,q⟩:=h; exact ⟨v,σ',H',I.unwish,r,q⟩
theorem PSs.nox {st:List Stmt}{t:TS}(h:PSs X.nox st t):PSs X st t:=fun pins s σ H D I hw =>
 wpAny_mono (h pins s σ H D (I.wish _) hw) (fun _ _ q=>q.unwish) fun _ _ z=>False.elim z
end
section
variable {X:Cx}{st:Stmt}{rest:List Stmt}{t u:TS}{e:Expr}{te:TE}{pos:Pos}
noncomputable def tNext:TS:=fun D σ H=>D.nx σ H
noncomputable def tSeq (t u:TS):TS:=fun D σ H=>t { D with nx:=u D } σ H
theorem pss_nil:PSs X [] tNext:=fun _ _ σ H _ I h=>wpAny_execs_nil ⟨σ,H,I,h⟩
theorem pss_cons (h1:PS X st t)(h2:PSs X rest u):PSs X (st :: rest) (tSeq t u):=by
 intro pins s σ H D I h;refine wpAny_execs_cons (thn (h1 pins s σ H { D with nx:=u D } I h) fun f s1 q=>?_);cases f with
 | next =>
  obtain ⟨σ',H',I',q⟩:=q;exact h2 pins s1 σ' H' D I' q
 | ret v=>exact q
 | brk=>exact q
 | cont=>exact q
theorem pss_one (h1:PS X st t):PSs X [st] t:=by
 intro pins s σ H D I h;refine wpAny_execs_cons (thn (h1 pins s σ H D I h) fun f s1 q=>?_);cases f with
 | next=>exact wpAny_execs_nil q
 | ret v=>exact q
 | brk=>exact q
 | cont=>exact q
theorem Inv.quiet {pins:List (Addr × Obj)}{σ:St}{H:Hp}{s:Shared}(I:Inv X pins σ H s):interactive X.env=false:=by simp [interactive,I.ok.kind]
noncomputable def tDrop (te:TE):TS:=fun D σ H=>te σ H fun _ H1=>D.nx σ H1
theorem ps_expr (he:PE X e te)(hs:swapsWith e none pos.line X.env=pure false:=by rfl):PS X (.Expr e pos) (tDrop te):=by
 intro pins s σ H D I h;exact wpAny_Expr_any (thn (he pins s σ H _ I h) fun v s1 ⟨x,H1,I1,r1,q1⟩=>⟨σ,H1,I1,q1⟩) I.quiet hs
noncomputable def tRet (te:TE):TS:=fun D σ H=>te σ H D.rt
theorem ps_ret (he:PE X e te):PS X (.Return (some e) pos) (tRet te):=by
 intro pins s σ H D I h;exact wpAny_Return_some (thn (he pins s σ H _ I h) fun v s1 ⟨x,H1,I1,r1,q1⟩=>⟨x,σ,H1,I1,r1,q1⟩)
noncomputable def tIfS (c:TT)(t u:TS):TS:=fun D σ H=>c σ H fun b H1=>if b=true then t D σ H1 else u D σ H1
theorem ps_if {c:Expr}{a b:List Stmt}{tc:TT}(hc:PT X c tc)(ha:PSs X a t)(hb:PSs X b u):PS X (.If c a b pos) (tIfS tc t u):=by
 intro pins s σ H D I h;refine wpAny_If (thn (hc pins s σ H _ I h) fun d s1 ⟨H1,I1,q1⟩=>?_);cases d with
 | true=>exact ha pins s1 σ H1 D I1 q1
 | false=>exact hb pins s1 σ H1 D I1 q1
noncomputable def tNever:TS:=fun _ _ _=>False
theorem ps_never:PS X st tNever:=fun _ _ _ _ _ _ h=>h.elim
end
noncomputable abbrev TG:=V->St->Hp->(St->Hp->Prop)->Prop
noncomputable abbrev TGs:=List V->St->Hp->(St->Hp->Prop)->Prop
noncomputable def PG (X:Cx)(target:Expr)(t:TG):Prop :=
 ∀ (pins:List (Addr × Obj)) (s:Shared) (σ:St) (H:Hp) (v:V) (u:Value) (Q:St->Hp->Prop),Inv X pins σ H s->RelV v u->t v σ H Q ->
  wpAny (model X.prog X.w) X.A (assign target X.env u) (fun _ s'=>∃ σ' H',Inv X pins σ' H' s'/\Q σ' H') X.xe s
noncomputable def PGs (X:Cx)(ts:List Expr)(t:TGs):Prop :=
 ∀ (pins:List (Addr × Obj)) (s:Shared) (σ:St) (H:Hp) (vs:List V) (us:List Value) (Q:St->Hp->Prop),Inv X pins σ H s->Vals vs us->t vs σ H Q ->
  wpAny (model X.prog X.w) X.A (assignInOrder ((assignEach ts X.env).map (·.2)) us) (fun _ s'=>∃ σ' H',Inv X pins σ' H' s'/\Q σ' H') X.xe s
section
variable {X:Cx}{pos:Pos}
noncomputable def gName (i:Nat):TG:=fun v σ H Q=>Q (σ.set i (some v)) H
theorem pg_name {i:Nat}{x:Str}(hN:X.N.Nodup)(hi:X.N[i]?=some x)(hx:Loc X.env.scope x)(hf:X.fn x=true\/X.env.scope.names.lookup x=some .local:=by first | exact .inl rfl | exact .inr rfl | assumption):PG X (.Name x pos) (gName i):=by
 intro pins s σ H v u Q I r h;exact wpAny_assign_Name (store_ok I hN hi hx r (fun s' I'=>⟨_,H,I',h⟩) hf)
noncomputable def gNil:TGs:=fun vs σ H Q=>vs=[]/\Q σ H
noncomputable def gCons (t:TG)(u:TGs):TGs:=fun vs σ H Q=>∃ v r,vs=v :: r/\t v σ H fun σ' H'=>u r σ' H' Q
theorem pgs_nil:PGs X [] gNil:=by
 intro pins s σ H vs us Q I r h;obtain ⟨e,h⟩:=h;subst e;cases r;exact assignInOrder_nil ⟨σ,H,I,h⟩
theorem pgs_cons {e:Expr}{es:List Expr}{t:TG}{u:TGs}(h1:PG X e t)(h2:PGs X es u)
  (hs:(assignEach (e :: es) X.env).map (·.2)=assign e X.env :: (assignEach es X.env).map (·.2):=by rfl):PGs X (e :: es) (gCons t u):=by
 intro pins s σ H vs us Q I r h;obtain ⟨v,vr,e1,h⟩:=h;subst e1;cases r with
 | cons r rr =>
  rw [hs];refine assignInOrder_cons (thn (h1 pins s σ H _ _ _ I r h) fun _ s1 ⟨σ1,H1,I1,q1⟩=>?_);exact h2 pins s1 σ1 H1 _ _ Q I1 rr q1
noncomputable def gTup (K:PySem.W.Frag)(n:Nat)(t:TGs):TG:=fun v σ H Q=>∃ a xs,v=.ref a/\SqT K H a xs/\xs.length=n/\t xs σ H Q
theorem pg_tup {es:List Expr}{k:Nat}{t:TGs}{n:Nat}(hc:X.calm=true)(h:PGs X es t)
  (hn:(assignEach es X.env).length=n:=by rfl) (hst:(assignEach es X.env).findIdx? (·.1)=none:=by rfl):PG X (.Tuple es k pos) (gTup X.K n t):=by
 intro pins s σ H v u Q I r hw;obtain ⟨a,xs,e1,hq,hl,hw⟩:=hw;subst e1;cases r;obtain ⟨its,rv,ht,hz⟩:=I.tuple hq;refine assign_Tuple_tuple (I.ok.hd hc) ht (by simp [hn,<- hl,rv.length]) hst fun h' hx=>?_;have I1:Inv X pins σ H { s with heap:=h' }:=I.kept (t':=s.toks) fun b o e=>hx b o (Nat.ne_of_lt (Heap.lt_size e)) e;exact h pins _ σ H xs _ Q I1 (by simpa using rv) hw
noncomputable def tAsg (te:TE)(g:TG):TS:=fun D σ H=>te σ H fun x H1=>g x σ H1 D.nx
theorem ps_asg {tg e:Expr}{te:TE}{g:TG}(he:PE X e te)(hg:PG X tg g)(hs:swapsWithSole [tg] e pos.line X.env=pure false:=by rfl)(hw:swappedStores [tg] e X.env=pure none:=by rfl)
  (h1:(assignEach [tg] X.env).map (·.2)=[assign tg X.env]:=by rfl):PS X (.Assign [tg] e pos) (tAsg te g):=by
 intro pins s σ H D I h;refine wpAny_Assign_stores (thn (he pins s σ H _ I h) fun v s1 ⟨x,H1,I1,r1,q1⟩=>?_) hs hw;rw [h1];exact thn (hg pins s1 σ H1 x v _ I1 r1 q1) fun _ s2 q=>q
theorem ps_set {i:Nat}{x:Str}{e:Expr}{te:TE}{pos':Pos}(hN:X.N.Nodup)(hi:X.N[i]?=some x)(hx:Loc X.env.scope x)(he:PE X e te)(hs:swapsWith e (some (.Name x pos')) pos.line X.env=pure false:=by rfl)(hf:X.fn x=true\/X.env.scope.names.lookup x=some .local:=by first | exact .inl rfl | exact .inr rfl | assumption) :
  PS X (.Assign [.Name x pos'] e pos) (tAsg te (gName i)):=by
 intro pins s σ H D I h;refine wpAny_Assign_Name (thn (he pins s σ H _ I h) fun v s1 ⟨y,H1,I1,r1,q1⟩=>?_) hs;exact store_ok I1 hN hi hx r1 (fun s2 I2=>⟨_,H1,I2,q1⟩) hf
end
section
variable {X:Cx}{pos:Pos}
noncomputable def tWhile (c:TT)(tb:TS):TS:=fun D σ H=>∃ W:Nat->St->Hp->Prop,(∃ m,W m σ H)/\∀ m σ H,W m σ H ->
 c σ H fun b H1=>if b=true then ∃ N:St->Hp->Prop,(∀ σ' H',N σ' H'->∃ m',m' < m/\W m' σ' H')/\tb { D with nx:=N,ct:=N,bk:=D.nx } σ H1 else D.nx σ H1
theorem ps_while {c:Expr}{body:List Stmt}{tc:TT}{tb:TS}(hp:PassesOwn (model X.prog X.w) X.A X.env X.xe)(hc:PT X c tc)(hb:PSs X body tb):PS X (.While c body [] pos) (tWhile tc tb):=by
 intro pins s σ H D I h;obtain ⟨W,⟨m0,w0⟩,turn⟩:=h;refine wpAny_While (codeAny_whileLoop (fun n s'=>∃ σ' H',Inv X pins σ' H' s'/\W n σ' H') ?_ m0 ⟨σ,H,I,w0⟩);rintro n s1 ⟨σ1,H1,I1,w1⟩;refine wpAny_passesOwn hp (thn (hc pins s1 σ1 H1 _ I1 (turn n σ1 H1 w1)) fun b s2 ⟨H2,I2,q2⟩=>?_);cases b with
 | true =>
  obtain ⟨N,hN,q2⟩:=q2;rw [if_pos rfl];refine wpAny_passesOwn hp (thn (hb pins s2 σ1 H2 _ I2 q2) fun f s3 q3=>?_);cases f with
  | next =>
   obtain ⟨σ3,H3,I3,n3⟩:=q3;obtain ⟨m',hm,w3⟩:=hN σ3 H3 n3;exact ⟨m',hm,σ3,H3,I3,w3⟩
  | cont =>
   obtain ⟨σ3,H3,I3,n3⟩:=q3;obtain ⟨m',hm,w3⟩:=hN σ3 H3 n3;exact ⟨m',hm,σ3,H3,I3,w3⟩
  | brk=>exact q3
  | ret v=>exact q3
 | false =>
  rw [if_neg Bool.false_ne_true];exact wpAny_execs_nil ⟨σ1,H2,I2,q2⟩
end
structure It where
 go:Nat->Hp->Prop
 yld:Nat->Hp->V->Hp->Prop
 stop:Nat->Hp->Prop
noncomputable def FpOk (X:Cx)(pins:List (Addr × Obj))(H:Hp)(b:Addr):Prop :=
 H b=none/\b ≠ X.env.locals/\b ∉ X.fs/\(b ∈ X.ex\/X.s₀.heap.objs.size<=b)/\(∀ x c,X.env.cells.lookup x=some c->c ≠ b)/\∀ p ∈ X.pn++pins,p.1 ≠ b
theorem Inv.fpOk {X:Cx}{pins:List (Addr × Obj)}{σ:St}{H H':Hp}{s:Shared}{b:Addr}(I:Inv X pins σ H s)(hb:s.heap.objs.size<=b)(hn:H' b=none):FpOk X pins H' b:=by
 refine ⟨hn,Nat.ne_of_gt (Nat.lt_of_lt_of_le I.lt hb),I.nofs hb,.inr (Nat.le_trans I.sz hb),fun x c e z=>?_,fun p hp z=>?_⟩
 ·obtain ⟨v,q⟩:=I.cell x c e;exact absurd (Nat.lt_of_lt_of_le q.lt (by rw [z]; exact hb)) (Nat.lt_irrefl _)
 ·exact absurd (Nat.lt_of_lt_of_le (Heap.lt_size (I.pin p hp).1) (by rw [z]; exact hb)) (Nat.lt_irrefl _)
structure Turn (P:Program)(w:World)(K:PySem.W.Frag)(tg:Expr)(J:It)(fp:List Addr)(it:Addr)(tn:Nat->Heap->Prop):Prop where
 mem:it ∈ fp
 obj:∀ i h,tn i h->∀ b ∈ fp,∃ o,h.get? b=some o/\∀ v,o.data ≠ .cell v
 keep:∀ i h h',tn i h->(∀ b ∈ fp,∀ o,h.get? b=some o->h'.get? b=some o)->tn i h'
 item:∀ (X:Cx),X.prog=P->X.w=w->X.K=K->X.calm=true->∀ (i:Nat) (pins:List (Addr × Obj)) (s:Shared) (σ:St) (H:Hp) (E:Value->Shared->Prop),Inv X pins σ H s->(∀ b ∈ fp,FpOk X pins H b)->tn i s.heap->J.go i H ->
  wpAny (model P w) X.A (pyNext (.ref it)) (fun r s1=>∃ u,r=some u /\
   wpAny (model P w) X.A (letOwnedTupleGo tg (.ref it) u) (fun _ s2=>∃ x H',Inv X pins σ H' s2/\RelV x u/\J.yld i H x H'/\tn (i + 1) s2.heap/\∀ b ∈ fp,H' b=none) E s1) E s
 done:∀ (X:Cx),X.prog=P->X.w=w->X.K=K->X.calm=true->∀ (i:Nat) (pins:List (Addr × Obj)) (s:Shared) (σ:St) (H:Hp) (E:Value->Shared->Prop),Inv X pins σ H s->(∀ b ∈ fp,FpOk X pins H b)->tn i s.heap->J.stop i H ->
  wpAny (model P w) X.A (pyNext (.ref it)) (fun r s1=>r=none/\Inv X pins σ H s1) E s
 self:∀ (A:Around) (i:Nat) (s:Shared) (Q:Value->Shared->Prop) (E:Value->Shared->Prop),tn i s.heap->Q (.ref it) s->wpAny (model P w) A (pyIter (.ref it)) Q E s
noncomputable abbrev TI:=St->Hp->(It->Hp->Prop)->Prop
noncomputable def PIE (X:Cx)(pins:List (Addr × Obj))(σ:St)(tg:Expr)(R:It->Hp->Prop)(itv:Value)(s2:Shared):Prop :=
 ∃ (it:Addr) (fp:List Addr) (tn:Nat->Heap->Prop) (J:It) (H':Hp),itv=.ref it/\Inv X pins σ H' s2/\Turn X.prog X.w X.K tg J fp it tn/\tn 0 s2.heap/\(∀ b ∈ fp,FpOk X pins H' b)/\R J H'
noncomputable def PI (X:Cx)(tg iter:Expr)(wi:TI):Prop :=
 ∀ (pins:List (Addr × Obj)) (s:Shared) (σ:St) (H:Hp) (R:It->Hp->Prop),Inv X pins σ H s->wi σ H R ->
  wpAny (model X.prog X.w) X.A (eval iter X.env) (fun v s1=>wpAny (model X.prog X.w) X.A (pyIter v) (PIE X pins σ tg R) X.xe s1) X.xe s
theorem go_of {M:Model}{A:Around}{E:Value->Shared->Prop}{s:Shared}{tg:Expr}{it:Addr}{u:Value}{o:Obj}{n:String}{vs:Array Value}{Q:Unit->Shared->Prop}(ho:s.heap.get? it=some o)(hc:o.cls=.type n)(hd:o.data=.fields vs)
    (hn:["enumerate","zip","dict_itemiterator","dict_reverseitemiterator","odict_iterator","itertools.zip_longest","itertools.pairwise"].contains n=false) (hQ:Q () s):wpAny M A (letOwnedTupleGo tg (.ref it) u) Q E s:=by
  unfold letOwnedTupleGo;cases tg <;> first
    | exact wpAny_pure hQ
    | (cases u <;> first
        | exact wpAny_pure hQ
        | (refine wpAny_bind (wpAny_load ho ?_)
           rw [hc,hd]
           show wpAny M A (if (["enumerate","zip","dict_itemiterator","dict_reverseitemiterator","odict_iterator","itertools.zip_longest","itertools.pairwise"].contains n && vs[0]? == some (rawInt _))=true then _ else _) Q E s
           rw [if_neg (by intro h; rw [hn,Bool.false_and] at h; cases h)]
           exact wpAny_pure hQ))
noncomputable def Itl (K:PySem.W.Frag)(a:Addr):It :=
 ⟨fun i H=>∃ xs x,SqL K H a xs/\xs[i]?=some x,fun i H x H'=>H'=H/\∀ xs,SqL K H a xs->xs[i]?=some x,fun i H=>∃ xs,SqL K H a xs/\xs.length<=i⟩
noncomputable def Itr (lo:Int)(n:Nat):It:=⟨fun i _=>i < n,fun i H x H'=>H'=H/\x=.int (lo + i),fun i _=>n<=i⟩
theorem turn_list {P:Program}{w:World}{K:PySem.W.Frag}{tg:Expr}(a it:Addr):Turn P w K tg (Itl K a) [it] it (fun i h=>h.IsListIter it a i) where
 mem:=by simp
 obj:=fun i h st b hb=>by
  have e:b=it:=by simpa using hb
  subst e;obtain ⟨o,e,c,d⟩:=st;exact ⟨o,e,fun v z=>by rw [d] at z; cases z⟩
 keep:=fun i h h' st k=>st.at fun o e=>k it (by simp) o e
 item:=by
  intro X hP hw hK hc i pins s σ H E I hf st hg;subst hP hw hK;obtain ⟨xs,x,hq,hx⟩:=hg;obtain ⟨its,rv,p,hz⟩:=I.list hq;obtain ⟨u,hu,ru⟩:=rv.get hx;obtain ⟨f0,f1,f2,f3,f4,f5⟩:=hf it (by simp);refine wpAny_pyNext_list_item st p.isList (x:=u) (by simpa using hu) fun h' st' sb=>?_;have I1:Inv X pins σ H { s with heap:=h' }:=I.turned (t':=s.toks) (fun b o hb e=>(sb.2 b hb).trans e) f0 f1 f3 f4 f5;obtain ⟨o,e,c,d⟩:=id st';exact ⟨u,rfl,go_of (s:={ s with heap:=h' }) e c d (by decide) ⟨x,H,I1,ru,⟨rfl,fun ys hy=>by rw [I.list_inj hy hq]; exact hx⟩,st',fun b hb=>(hf b hb).1⟩⟩
 done:=by
  intro X hP hw hK hc i pins s σ H E I hf st hg;subst hP hw hK;obtain ⟨xs,hq,hx⟩:=hg;obtain ⟨its,rv,p,hz⟩:=I.list hq;obtain ⟨f0,f1,f2,f3,f4,f5⟩:=hf it (by simp);have hl:=rv.length;exact wpAny_pyNext_list_end (I.ok.hd hc) st p.isList (by simp; omega) fun h' eb=>⟨rfl,I.turned (t':=s.toks) (fun b o hb e=>eb b o hb e) f0 f1 f3 f4 f5⟩
 self:=fun _ _ _ _ _ st h=>wpAny_pyIter_listiter st h
theorem turn_range {P:Program}{w:World}{K:PySem.W.Frag}{tg:Expr}(it:Addr)(lo:Int)(n:Nat):Turn P w K tg (Itr lo n) [it] it (fun i h=>IsRangeIter h it (lo + (i:Nat) * 1) ((n:Int) - (i:Nat)) 1) where
 mem:=by simp
 obj:=fun i h st b hb=>by
  have e:b=it:=by simpa using hb
  subst e;exact ⟨_,st,fun v z=>by
   have z':Data.fields _=Data.cell v:=z;cases z'⟩
 keep:=fun i h h' st k=>k it (by simp) _ st
 item:=by
  intro X hP hw hK hc i pins s σ H E I hf st hg;subst hP hw hK;obtain ⟨f0,f1,f2,f3,f4,f5⟩:=hf it (by simp);have W:=Walks.range (prog:=X.prog) (w:=X.w) (I.ok.hd hc) it lo 1 n;refine W.item i s _ _ hg st fun v h' tk hv st' kk=>?_;obtain ⟨t,rfl⟩:=hv;have I1:Inv X pins σ H { s with heap:=h',toks:=tk }:=I.turned (fun b o hb e=>kk b o (by simpa using hb) e) f0 f1 f3 f4 f5;refine ⟨_,rfl,go_of (s:={ s with heap:=h',toks:=tk }) (n:="range_iterator") st' rfl rfl (by decide) ⟨.int (lo + i),H,I1,⟨t,?_⟩,⟨rfl,rfl⟩,st',fun b hb=>(hf b hb).1⟩⟩;rw [Int.mul_one]
 done:=by
  intro X hP hw hK hc i pins s σ H E I hf st hg;subst hP hw hK;obtain ⟨f0,f1,f2,f3,f4,f5⟩:=hf it (by simp);exact wpAny_pyNext_range_end (I.ok.hd hc) st (by have:n<=i:=hg; omega) fun h' eb=>⟨rfl,I.turned (t':=s.toks) (fun b o hb e=>eb b o hb e) f0 f1 f3 f4 f5⟩
 self:=fun _ _ _ _ _ st h=>wpAny_pyIter_rangeiter st h
end L2
namespace L2
open PySem PySem.Spec PyProof.Rows
section
variable {X:Cx}{tg:Expr}
noncomputable def iList (K:PySem.W.Frag)(tl:TE):TI:=fun σ H R=>tl σ H fun x H1=>∃ a,x=.ref a/\(∃ xs,SqL K H1 a xs)/\R (Itl K a) H1
theorem pi_list {l:Expr}{tl:TE}(hl:PE X l tl):PI X tg l (iList X.K tl):=by
 intro pins s σ H R I h;refine thn (hl pins s σ H _ I h) fun v s1 ⟨x,H1,I1,r1,q1⟩=>?_;obtain ⟨a,e,⟨xs,hq⟩,q⟩:=q1;subst e;cases r1;obtain ⟨its,rv,p,hz⟩:=I1.list hq;refine wpAny_pyIter_list p.isList ?_;refine ⟨s1.heap.objs.size,[s1.heap.objs.size],_,_,H1,rfl,I1.kept (t':=s1.toks) fun b o e=>Heap.get?_push_of_some _ e,turn_list a _,⟨_,Heap.get?_push_size _ rfl,rfl,rfl⟩,fun b hb=>?_,q⟩;have e:b=s1.heap.objs.size:=by simpa using hb
 subst e;exact I1.fpOk (Nat.le_refl _) (I1.hok.fresh (Nat.le_refl _))
theorem range_it {pins:List (Addr × Obj)}{σ:St}{H:Hp}{s:Shared}{R:It->Hp->Prop}{E:Value->Shared->Prop}{lo hi:Int}{t u v:Tok}{tk:Nat}(I:Inv X pins σ H s)(h1:-(2 ^ 62)<=lo)(h2:lo < 2 ^ 62)(h3:-(2 ^ 62)<=hi)(h4:hi < 2 ^ 62)
  (q:R (Itr lo (hi - lo).toNat) H):wpAny (model X.prog X.w) X.A (pyIter (.ref s.heap.objs.size)) (PIE X pins σ tg R) E { s with heap:=s.heap.push { cls:=.type "range",data:=.fields #[.int lo t,.int hi u,.int 1 v] },toks:=tk }:=by
 refine wpAny_pyIter_range (IsRange.new ..) (small_one h1 h2 h3 h4) ?_;have I1:Inv X pins σ H { s with heap:=s.heap.push { cls:=.type "range",data:=.fields #[.int lo t,.int hi u,.int 1 v] },toks:=tk }:=I.kept fun b o e=>Heap.get?_push_of_some _ e;refine ⟨(s.heap.push { cls:=.type "range",data:=.fields #[.int lo t,.int hi u,.int 1 v] }).objs.size,[(s.heap.push { cls:=.type "range",data:=.fields #[.int lo t,.int hi u,.int 1 v] }).objs.size],_,_,H,rfl,
  I1.kept (t':=tk) fun b o e=>Heap.get?_push_of_some _ e,turn_range _ lo (hi - lo).toNat,?_,fun b hb=>?_,q⟩
 ·have e1:lo + ((0:Nat):Int) * 1=lo:=by simp
  have e2:(((hi - lo).toNat:Nat):Int) - ((0:Nat):Int)=Builtin.Range.rangeSize lo hi 1:=by rw [rangeSize_one]; split <;> omega
  show IsRangeIter _ _ (lo + ((0:Nat):Int) * 1) ((((hi - lo).toNat:Nat):Int) - ((0:Nat):Int)) 1;rw [e1,e2];exact Heap.get?_push_size _ rfl
 ·have e:b=(s.heap.push { cls:=.type "range",data:=.fields #[.int lo t,.int hi u,.int 1 v] }).objs.size:=by simpa using hb
  subst e;exact I1.fpOk (Nat.le_refl _) (I1.hok.fresh (Nat.le_refl _))
noncomputable def iRng1 (ta:TA):TI:=fun σ H R=>ta σ H fun vs H1=>∃ j:Int,vs=[.int j]/\-(2 ^ 62)<=j/\j < 2 ^ 62/\R (Itr 0 j.toNat) H1
noncomputable def iRng2 (ta:TA):TI:=fun σ H R=>ta σ H fun vs H1=>∃ i j:Int,vs=[.int i,.int j]/\(-(2 ^ 62)<=i/\i < 2 ^ 62/\-(2 ^ 62)<=j/\j < 2 ^ 62)/\R (Itr i (j - i).toNat) H1
theorem pi_range1 {a:Expr}{ta:TA}{p pos:Pos}(hg:Gl X "range")(hm:X.mg "range"=none)(ha:PA X [a] ta)(hs:starEach [a] X.env=[(false,eval a X.env)]:=by rfl):PI X tg (.Call (.Name "range" p) [a] [] pos) (iRng1 ta):=by
 intro pins s σ H R I h;refine Call_ (ld_blt I hg hm boot_range (PyProof.Rows.callWith_type1 (thn (ha pos pins s σ H _ I h) fun us s1 ⟨vs,H1,I1,r1,q1⟩=>?_) hs rfl));obtain ⟨j,e,q1,q2,q⟩:=q1;subst e;cases r1 with
 | cons r rr =>
  cases rr;obtain ⟨t,rfl⟩:=r;exact call_range_1 (range_it I1 (by omega) (by omega) q1 q2 (by simpa using q))
theorem pi_range2 {a b:Expr}{ta:TA}{p pos:Pos}(hg:Gl X "range")(hm:X.mg "range"=none)(ha:PA X [a,b] ta)(hs:starEach [a,b] X.env=[(false,eval a X.env),(false,eval b X.env)]:=by rfl)(hs2:starEach [b] X.env=[(false,eval b X.env)]:=by rfl) :
  PI X tg (.Call (.Name "range" p) [a,b] [] pos) (iRng2 ta):=by
 intro pins s σ H R I h;refine Call_ (ld_blt I hg hm boot_range (PyProof.Rows.callWith_type1 (thn (ha pos pins s σ H _ I h) fun us s1 ⟨vs,H1,I1,r1,q1⟩=>?_) (by rw [hs,hs2]) (by rw [hs2]; rfl)));obtain ⟨i,j,e,⟨q1,q2,q3,q4⟩,q⟩:=q1;subst e;cases r1 with
 | cons r rr =>
  cases rr with
  | cons r' rr =>
   cases rr;obtain ⟨t,rfl⟩:=r;obtain ⟨t',rfl⟩:=r';exact call_range_2 (range_it I1 q1 q2 q3 q4 q)
noncomputable def tFor (wi:TI)(g:TG)(tb:TS):TS:=fun D σ H=>wi σ H fun J H1=>∃ W:Nat->Nat->St->Hp->Prop,(∃ m,W 0 m σ H1)/\∀ i m σ H,W i m σ H ->
 (J.stop i H/\D.nx σ H)\/(J.go i H/\∃ N:St->Hp->Prop,(∀ σ' H',N σ' H'->∃ m',m' < m/\W (i + 1) m' σ' H')/\∀ x H',J.yld i H x H'->g x σ H' fun σ2 H2=>tb { D with nx:=N,ct:=N,bk:=D.nx } σ2 H2)
noncomputable def pinsAt (fp:List Addr)(h:Heap):List (Addr × Obj):=fp.filterMap fun b=>(h.get? b).map fun o=>(b,o)
theorem mem_pinsAt {fp:List Addr}{h:Heap}{b:Addr}{o:Obj}(hb:b ∈ fp)(e:h.get? b=some o):(b,o) ∈ pinsAt fp h:=List.mem_filterMap.mpr ⟨b,hb,by rw [e]; rfl⟩
theorem of_pinsAt {fp:List Addr}{h:Heap}{p:Addr × Obj}(hp:p ∈ pinsAt fp h):p.1 ∈ fp/\h.get? p.1=some p.2:=by
 obtain ⟨b,hb,e⟩:=List.mem_filterMap.mp hp;cases q:h.get? b with
 | none=>rw [q] at e; cases e
 | some o =>
  rw [q] at e;have e':(b,o)=p:=Option.some.inj e;subst e';exact ⟨hb,q⟩
theorem Inv.pinned {pins:List (Addr × Obj)}{σ:St}{H:Hp}{s:Shared}{fp:List Addr}(I:Inv X pins σ H s)(hf:∀ b ∈ fp,FpOk X pins H b)(ho:∀ b ∈ fp,∃ o,s.heap.get? b=some o/\∀ v,o.data ≠ .cell v):Inv X (pins++pinsAt fp s.heap) σ H s :=
 I.pins_of fun p hp=>(List.mem_append.mp hp).elim (fun z=>I.pin p (List.mem_append_right _ z)) fun z=>by
  obtain ⟨hb,e⟩:=of_pinsAt z;obtain ⟨f0,f1,f2,_⟩:=hf p.1 hb;obtain ⟨o,e',d⟩:=ho p.1 hb;rw [e] at e'; cases e';exact ⟨e,f0,f1,f2,d⟩
theorem Inv.unpinned {pins pl:List (Addr × Obj)}{σ:St}{H:Hp}{s:Shared}(I:Inv X (pins++pl) σ H s):Inv X pins σ H s:=I.pins_of fun p hp=>I.pin p (List.mem_append_right _ (List.mem_append_left _ hp))
theorem ps_for {iter:Expr}{body:List Stmt}{wi:TI}{g:TG}{tb:TS}{pos:Pos}(hp:PassesOwn (model X.prog X.w) X.A X.env X.xe)(hc:X.calm=true)(hi:PI X tg iter wi)(hg:PG X tg g)(hb:PSs X body tb)
  (hs:∀ x,foldedSetIterable iter X.env x=pure x:=by intro _; rfl):PS X (.For tg iter body [] pos) (tFor wi g tb):=by
 intro pins s σ H D I h;refine wpAny_For (thn (hi pins s σ H _ I h) fun v s1 h1=>thn h1 fun itv s2 h2=>?_) hs;obtain ⟨it,fp,tn,J,H2,e,I2,T,st2,f2,W,⟨m0,w0⟩,turn⟩:=h2;subst e;have stat:∀ {H':Hp},(∀ b ∈ fp,H' b=none)->∀ b ∈ fp,FpOk X pins H' b:=fun hn b hb=>⟨hn b hb,(f2 b hb).2⟩;refine codeAny_forLoop_any (fun n s'=>∃ i σ' H',Inv X pins σ' H' s'/\tn i s'.heap/\(∀ b ∈ fp,H' b=none)/\W i n σ' H') ?_ m0 ⟨0,σ,H2,I2,st2,fun b hb=>(f2 b hb).1,w0⟩;rintro n s3 ⟨i,σ3,H3,I3,st3,fr3,w3⟩;rcases turn i n σ3 H3 w3 with ⟨stop,qn⟩ | ⟨go,N,hN,step⟩
 ·refine wpAny_passesOwn hp (thn (T.done X rfl rfl rfl hc i pins s3 σ3 H3 X.xe I3 (stat fr3) st3 stop) fun r s4 ⟨hr,I4⟩=>?_);subst hr;exact wpAny_execs_nil ⟨σ3,H3,I4,qn⟩
 ·refine wpAny_passesOwn hp (thn (T.item X rfl rfl rfl hc i pins s3 σ3 H3 X.xe I3 (stat fr3) st3 go) fun r s4 ⟨u,hr,h4⟩=>?_);subst hr;refine wpAny_passesOwn hp (thn h4 fun _ s5 ⟨x,H5,I5,r5,y5,st5,fr5⟩=>?_);have I5':=I5.pinned (stat fr5) (T.obj _ _ st5);refine wpAny_passesOwn hp (thn (hg _ s5 σ3 H5 x u _ I5' r5 (step x H5 y5)) fun _ s6 ⟨σ6,H6,I6,q6⟩=>?_);refine wpAny_passesOwn hp (thn (hb _ s6 σ6 H6 _ I6 q6) fun f s7 q7=>?_);have again:∀ {σ7:St} {H7:Hp},Inv X (pins++pinsAt fp s5.heap) σ7 H7 s7->N σ7 H7->∃ m,m < n/\∃ i σ' H',Inv X pins σ' H' s7/\tn i s7.heap/\(∀ b ∈ fp,H' b=none)/\W i m σ' H':=fun {σ7 H7} I7 n7=>by
   obtain ⟨m',hm,w7⟩:=hN σ7 H7 n7;refine ⟨m',hm,i + 1,σ7,H7,I7.unpinned,T.keep _ _ _ st5 fun b hb o e=>(I7.pin (b,o) (List.mem_append_right _ (List.mem_append_right _ (mem_pinsAt hb e)))).1,fun b hb=>?_,w7⟩;obtain ⟨o,e,d⟩:=T.obj _ _ st5 b hb;exact (I7.pin (b,o) (List.mem_append_right _ (List.mem_append_right _ (mem_pinsAt hb e)))).2.1
  cases f with
  | next=>obtain ⟨σ7,H7,I7,n7⟩:=q7; exact again I7 n7
  | cont=>obtain ⟨σ7,H7,I7,n7⟩:=q7; exact again I7 n7
  | brk=>obtain ⟨σ7,H7,I7,q7⟩:=q7; exact ⟨σ7,H7,I7.unpinned,q7⟩
  | ret v=>obtain ⟨x7,σ7,H7,I7,r7,q7⟩:=q7; exact ⟨x7,σ7,H7,I7.unpinned,r7,q7⟩
end
theorem for_list {K:PySem.W.Frag}{a:Addr}{xs:List V}{g:TG}{tb:TS}{D:Ends}{σ:St}{H:Hp}(Pv:Nat->St->Hp->Prop)(h0:Pv 0 σ H)(hl:∀ i σ H,i<=xs.length->Pv i σ H->SqL K H a xs)
  (hs:∀ i x σ H,xs[i]?=some x->Pv i σ H->g x σ H fun σ2 H2=>tb { D with nx:=Pv (i + 1),ct:=Pv (i + 1),bk:=D.nx } σ2 H2) (hd:∀ σ H,Pv xs.length σ H->D.nx σ H) :
  ∃ W:Nat->Nat->St->Hp->Prop,(∃ m,W 0 m σ H)/\∀ i m σ H,W i m σ H ->
   ((Itl K a).stop i H/\D.nx σ H)\/((Itl K a).go i H/\∃ N:St->Hp->Prop,(∀ σ' H',N σ' H'->∃ m',m' < m/\W (i + 1) m' σ' H')/\∀ x H',(Itl K a).yld i H x H'->g x σ H' fun σ2 H2=>tb { D with nx:=N,ct:=N,bk:=D.nx } σ2 H2):=by
 refine ⟨fun i m σ H=>m=xs.length - i/\i<=xs.length/\Pv i σ H,⟨xs.length,by simp,Nat.zero_le _,h0⟩,?_⟩;rintro i m σ H ⟨rfl,hi,p⟩;have q:=hl i σ H hi p;by_cases hlt:i < xs.length
 ·refine .inr ⟨⟨xs,xs[i],q,by simp [hlt]⟩,Pv (i + 1),fun σ' H' p'=>⟨xs.length - (i + 1),by omega,rfl,hlt,p'⟩,fun x H' y=>?_⟩;obtain ⟨e,y⟩:=y;subst e;exact hs i x σ _ (y xs q) p
 ·have e:i=xs.length:=by omega
  subst e;exact .inl ⟨⟨xs,q,Nat.le_refl _⟩,hd σ H p⟩
theorem for_range {lo:Int}{n:Nat}{g:TG}{tb:TS}{D:Ends}{σ:St}{H:Hp}(Pv:Nat->St->Hp->Prop)(h0:Pv 0 σ H)
  (hs:∀ i σ H,i < n->Pv i σ H->g (.int (lo + i)) σ H fun σ2 H2=>tb { D with nx:=Pv (i + 1),ct:=Pv (i + 1),bk:=D.nx } σ2 H2) (hd:∀ σ H,Pv n σ H->D.nx σ H) :
  ∃ W:Nat->Nat->St->Hp->Prop,(∃ m,W 0 m σ H)/\∀ i m σ H,W i m σ H ->
   ((Itr lo n).stop i H/\D.nx σ H)\/((Itr lo n).go i H/\∃ N:St->Hp->Prop,(∀ σ' H',N σ' H'->∃ m',m' < m/\W (i + 1) m' σ' H')/\∀ x H',(Itr lo n).yld i H x H'->g x σ H' fun σ2 H2=>tb { D with nx:=N,ct:=N,bk:=D.nx } σ2 H2):=by
 refine ⟨fun i m σ H=>m=n - i/\i<=n/\Pv i σ H,⟨n,by simp,Nat.zero_le _,h0⟩,?_⟩;rintro i m σ H ⟨rfl,hi,p⟩;by_cases hlt:i < n
 ·refine .inr ⟨hlt,Pv (i + 1),fun σ' H' p'=>⟨n - (i + 1),by omega,rfl,hlt,p'⟩,fun x H' y=>?_⟩;obtain ⟨e,y⟩:=y;subst e y;exact hs i σ _ hlt p
 ·have e:i=n:=by omega
  subst e;exact .inl ⟨Nat.le_refl _,hd σ H p⟩
end L2
namespace L2
open PySem PySem.Spec PyProof.Rows
noncomputable abbrev R2:=V->V->Hp->VK->Prop
noncomputable def OpR (X:Cx)(f:Value->Value->Sem Value)(r:R2):Prop :=
 ∀ (pins:List (Addr × Obj)) (s:Shared) (σ:St) (H:Hp) (x y:V) (v u:Value) (Q:VK),Inv X pins σ H s->RelV x v->RelV y u->r x y H Q ->
  wpAny (model X.prog X.w) X.A (f v u) (EP X pins σ Q) X.xe s
noncomputable def UnR (X:Cx)(f:Value->Sem Value)(r:V->Hp->VK->Prop):Prop :=
 ∀ (pins:List (Addr × Obj)) (s:Shared) (σ:St) (H:Hp) (x:V) (v:Value) (Q:VK),Inv X pins σ H s->RelV x v->r x H Q ->
  wpAny (model X.prog X.w) X.A (f v) (EP X pins σ Q) X.xe s
noncomputable def CallR (X:Cx)(f:Value)(r:List V->Hp->VK->Prop):Prop :=
 ∀ (pins:List (Addr × Obj)) (s:Shared) (σ:St) (H:Hp) (xs:List V) (us:List Value) (Q:VK),Inv X pins σ H s->Vals xs us->r xs H Q ->
  wpAny (model X.prog X.w) X.A (call f us) (EP X pins σ Q) X.xe s
noncomputable def TruR (X:Cx)(r:V->Hp->(Bool->Hp->Prop)->Prop):Prop :=
 ∀ (pins:List (Addr × Obj)) (s:Shared) (σ:St) (H:Hp) (x:V) (v:Value) (Q:Bool->Hp->Prop),Inv X pins σ H s->RelV x v->r x H Q ->
  wpAny (model X.prog X.w) X.A (truthy v) (TP X pins σ Q) X.xe s
noncomputable def tOp (r:R2)(ta tb:TE):TE:=fun σ H Q=>ta σ H fun x H1=>tb σ H1 fun y H2=>r x y H2 Q
noncomputable def tUn (r:V->Hp->VK->Prop)(ta:TE):TE:=fun σ H Q=>ta σ H fun x H1=>r x H1 Q
noncomputable def rI (C:Int->Int->Prop)(g:Int->Int->V):R2:=fun x y H Q=>∃ i j,x=.int i/\y=.int j/\C i j/\Q (g i j) H
noncomputable def rI0 (g:Int->Int->V):R2:=fun x y H Q=>∃ i j,x=.int i/\y=.int j/\Q (g i j) H
noncomputable def rU (g:Int->V):V->Hp->VK->Prop:=fun x H Q=>∃ i,x=.int i/\Q (g i) H
section
variable {X:Cx}{a b c:Expr}{ta tb tc:TE}{pos:Pos}
theorem binT (ha:PE X a ta)(hb:PE X b tb){pins:List (Addr × Obj)}{s:Shared}{σ:St}{H:Hp}{R:V->V->Hp->Prop}(I:Inv X pins σ H s)
  (h:ta σ H fun x H1=>tb σ H1 fun y H2=>R x y H2) {Q:Value->Shared->Prop} {f:Value->Value->Sem Value}
  (hf:∀ v u s2 x y H2,Inv X pins σ H2 s2->RelV x v->RelV y u->R x y H2->wpAny (model X.prog X.w) X.A (f v u) Q X.xe s2) :
  wpAny (model X.prog X.w) X.A (eval a X.env) (fun v s₁=>wpAny (model X.prog X.w) X.A (eval b X.env) (fun u s₂=>wpAny (model X.prog X.w) X.A (f v u) Q X.xe s₂) X.xe s₁) X.xe s:=by
 refine thn (ha pins s σ H _ I h) fun v s1 ⟨x,H1,I1,r1,q1⟩=>?_;refine thn (hb pins s1 σ H1 _ I1 q1) fun u s2 ⟨y,H2,I2,r2,q2⟩=>?_;exact hf v u s2 x y H2 I2 r1 r2 q2
theorem pe_op {op:Operator}{r:R2}(ho:OpR X (binaryOp op) r)(ha:PE X a ta)(hb:PE X b tb):PE X (.BinOp a op b pos) (tOp r ta tb):=by
 intro pins s σ H Q I h;exact wpAny_BinOp (binT ha hb I h fun v u s2 x y H2 I2 rx ry q=>ho pins s2 σ H2 x y v u Q I2 rx ry q)
theorem pe_un {op:UnaryOp}{r:V->Hp->VK->Prop}(ho:UnR X (unaryOp op) r)(ha:PE X a ta):PE X (.UnaryOp op a pos) (tUn r ta):=by
 intro pins s σ H Q I h;exact UnaryOp_ (thn (ha pins s σ H _ I h) fun v s1 ⟨x,H1,I1,r1,q1⟩=>ho pins s1 σ H1 x v Q I1 r1 q1)
theorem opI {f:Value->Value->Sem Value}{C:Int->Int->Prop}{g:Int->Int->Int}
  (rule:∀ (i j:Int) (t u:Tok) (s:Shared) (Q:Value->Shared->Prop) (E:Value->Shared->Prop),C i j->Q (.int (g i j) s.toks) { s with toks:=s.toks + 1 }->wpAny (model X.prog X.w) X.A (f (.int i t) (.int j u)) Q E s) :
  OpR X f (rI C fun i j=>.int (g i j)):=by
 intro pins s σ H x y v u Q I rx ry h;obtain ⟨i,j,rfl,rfl,hc,q⟩:=h;obtain ⟨t,rfl⟩:=rx;obtain ⟨t',rfl⟩:=ry;exact rule i j t t' s _ _ hc ⟨.int (g i j),H,I.tok _,⟨_,rfl⟩,q⟩
theorem opI0 {f:Value->Value->Sem Value}{g:Int->Int->Int}
  (rule:∀ (i j:Int) (t u:Tok) (s:Shared) (Q:Value->Shared->Prop) (E:Value->Shared->Prop),Q (.int (g i j) s.toks) { s with toks:=s.toks + 1 }->wpAny (model X.prog X.w) X.A (f (.int i t) (.int j u)) Q E s) :
  OpR X f (rI0 fun i j=>.int (g i j)):=by
 intro pins s σ H x y v u Q I rx ry h;obtain ⟨i,j,rfl,rfl,q⟩:=h;obtain ⟨t,rfl⟩:=rx;obtain ⟨t',rfl⟩:=ry;exact rule i j t t' s _ _ ⟨.int (g i j),H,I.tok _,⟨_,rfl⟩,q⟩
theorem opB0 {f:Value->Value->Sem Value}{g:Int->Int->Bool}
  (rule:∀ (i j:Int) (t u:Tok) (s:Shared) (Q:Value->Shared->Prop) (E:Value->Shared->Prop),Q (.bool (g i j)) s->wpAny (model X.prog X.w) X.A (f (.int i t) (.int j u)) Q E s) :
  OpR X f (rI0 fun i j=>.bl (g i j)):=by
 intro pins s σ H x y v u Q I rx ry h;obtain ⟨i,j,rfl,rfl,q⟩:=h;obtain ⟨t,rfl⟩:=rx;obtain ⟨t',rfl⟩:=ry;exact rule i j t t' s _ _ ⟨.bl (g i j),H,I,rfl,q⟩
theorem op_add:OpR X (binaryOp .Add) (rI0 fun i j=>.int (i + j)):=opI0 fun _ _ _ _ _ _ _ q=>add_int q
theorem op_sub:OpR X (binaryOp .Sub) (rI0 fun i j=>.int (i - j)):=opI0 fun _ _ _ _ _ _ _ q=>sub_int q
theorem op_mod:OpR X (binaryOp .Mod) (rI (fun _ j=>0 < j) fun i j=>.int (i % j)):=opI fun i j _ _ _ _ _ hc q=>by
 have h1:(0:Int) < j:=hc;exact mod_int' (by omega) (by rw [Int.fmod_eq_emod_of_nonneg i (by omega)]; exact q)
theorem unI {f:Value->Sem Value}{g:Int->Int}
  (rule:∀ (i:Int) (t:Tok) (s:Shared) (Q:Value->Shared->Prop) (E:Value->Shared->Prop),Q (.int (g i) s.toks) { s with toks:=s.toks + 1 }->wpAny (model X.prog X.w) X.A (f (.int i t)) Q E s) :
  UnR X f (rU fun i=>.int (g i)):=by
 intro pins s σ H x v Q I rx h;obtain ⟨i,rfl,q⟩:=h;obtain ⟨t,rfl⟩:=rx;exact rule i t s _ _ ⟨.int (g i),H,I.tok _,⟨_,rfl⟩,q⟩
theorem un_neg:UnR X (unaryOp .USub) (rU fun i=>.int (-i)):=unI fun _ _ _ _ _ q=>neg_int q
end
noncomputable def scal:V->V->Bool
 | .non,.non=>true | .non,.int _=>true | .int _,.non=>true | .non,.bl _=>true | .bl _,.non=>true | .non,.str _=>true | .str _,.non=>true
 | .int _,.int _=>true | .bl _,.bl _=>true | .str _,.str _=>true | .byt _,.byt _=>true
 | .int _,.str _=>true | .str _,.int _=>true | .bl _,.str _=>true | .str _,.bl _=>true
 | _,_=>false
noncomputable def rEq:R2:=fun x y H Q=>scal x y=true/\Q (.bl (decide (x=y))) H
noncomputable def rNe:R2:=fun x y H Q=>scal x y=true/\Q (.bl (!decide (x=y))) H
theorem dec_int {i j:Int}:decide (V.int i=V.int j)=(i == j):=by
 rw [Bool.eq_iff_iff];simp
theorem dec_bl {i j:Bool}:decide (V.bl i=V.bl j)=(i == j):=by
 rw [Bool.eq_iff_iff];simp
theorem dec_str {i j:Str}:decide (V.str i=V.str j)=(i == j):=by
 rw [Bool.eq_iff_iff];simp
theorem dec_byt {i j:Array UInt8}:decide (V.byt i=V.byt j)=(i.toList == j.toList):=by
 rw [Bool.eq_iff_iff];cases i;cases j;simp
section
variable {X:Cx}{a b c:Expr}{ta tb tc:TE}{pos:Pos}
theorem fin_bl {pins:List (Addr × Obj)}{σ:St}{H:Hp}{s:Shared}{Q:VK}{k k':Bool}(I:Inv X pins σ H s)(q:Q (.bl k) H)(e:k=k'):EP X pins σ Q (.bool k') s:=by
 subst e;exact ⟨.bl k,H,I,rfl,q⟩
theorem op_eq:OpR X (compareOp .Eq) rEq:=by
 intro pins s σ H x y v u Q I rx ry h;obtain ⟨hs,q⟩:=h;cases x with
 | non =>
  cases rx;cases y with
  | non=>cases ry; exact PySem.EqNone.eq_none_none (fin_bl I q (by simp))
  | bl j=>cases ry; exact PySem.EqNone.eq_none_bool (fin_bl I q (by simp))
  | int j=>obtain ⟨t',rfl⟩:=ry; exact PySem.EqNone.eq_none_int (fin_bl I q (by simp))
  | str j=>obtain ⟨t',rfl⟩:=ry; exact PySem.EqNone.eq_none_str (fin_bl I q (by simp))
  | _=>exact absurd (show false=true from hs) Bool.false_ne_true
 | bl i =>
  cases rx;cases y with
  | non=>cases ry; exact PySem.EqNone.eq_bool_none (fin_bl I q (by simp))
  | bl j=>cases ry; exact eq_bool (fin_bl I q dec_bl)
  | str j=>obtain ⟨t',rfl⟩:=ry; exact PySem.EqMixed.eq_bool_str (fin_bl I q (by simp))
  | _=>exact absurd (show false=true from hs) Bool.false_ne_true
 | int i =>
  obtain ⟨t,rfl⟩:=rx;cases y with
  | non=>cases ry; exact PySem.EqNone.eq_int_none (fin_bl I q (by simp))
  | int j=>obtain ⟨t',rfl⟩:=ry; exact eq_int (fin_bl I q dec_int)
  | str j=>obtain ⟨t',rfl⟩:=ry; exact PySem.EqMixed.eq_int_str (fin_bl I q (by simp))
  | _=>exact absurd (show false=true from hs) Bool.false_ne_true
 | str i =>
  obtain ⟨t,rfl⟩:=rx;cases y with
  | non=>cases ry; exact PySem.EqNone.eq_str_none (fin_bl I q (by simp))
  | bl j=>cases ry; exact PySem.EqMixed.eq_str_bool (fin_bl I q (by simp))
  | int j=>obtain ⟨t',rfl⟩:=ry; exact PySem.EqMixed.eq_str_int (fin_bl I q (by simp))
  | str j=>obtain ⟨t',rfl⟩:=ry; exact eq_str (fin_bl I q dec_str)
  | _=>exact absurd (show false=true from hs) Bool.false_ne_true
 | byt i =>
  obtain ⟨t,rfl⟩:=rx;cases y with
  | byt j=>obtain ⟨t',rfl⟩:=ry; exact PySem.W.eq_bytes (fin_bl I q dec_byt)
  | _=>exact absurd (show false=true from hs) Bool.false_ne_true
 | _=>cases y <;> exact absurd (show false=true from hs) Bool.false_ne_true
theorem op_ne:OpR X (compareOp .NotEq) rNe:=by
 intro pins s σ H x y v u Q I rx ry h;obtain ⟨hs,q⟩:=h;cases x with
 | non =>
  cases rx;cases y with
  | non=>cases ry; exact PySem.EqNone.ne_none_none (fin_bl I q (by simp))
  | bl j=>cases ry; exact PySem.EqNone.ne_none_bool (fin_bl I q (by simp))
  | int j=>obtain ⟨t',rfl⟩:=ry; exact PySem.EqNone.ne_none_int (fin_bl I q (by simp))
  | str j=>obtain ⟨t',rfl⟩:=ry; exact PySem.EqNone.ne_none_str (fin_bl I q (by simp))
  | _=>exact absurd (show false=true from hs) Bool.false_ne_true
 | bl i =>
  cases rx;cases y with
  | non=>cases ry; exact PySem.EqNone.ne_bool_none (fin_bl I q (by simp))
  | bl j=>cases ry; exact ne_bool (fin_bl I q (congrArg not dec_bl))
  | str j=>obtain ⟨t',rfl⟩:=ry; exact PySem.EqMixed.ne_bool_str (fin_bl I q (by simp))
  | _=>exact absurd (show false=true from hs) Bool.false_ne_true
 | int i =>
  obtain ⟨t,rfl⟩:=rx;cases y with
  | non=>cases ry; exact PySem.EqNone.ne_int_none (fin_bl I q (by simp))
  | int j=>obtain ⟨t',rfl⟩:=ry; exact ne_int (fin_bl I q (congrArg not dec_int))
  | str j=>obtain ⟨t',rfl⟩:=ry; exact PySem.EqMixed.ne_int_str (fin_bl I q (by simp))
  | _=>exact absurd (show false=true from hs) Bool.false_ne_true
 | str i =>
  obtain ⟨t,rfl⟩:=rx;cases y with
  | non=>cases ry; exact PySem.EqNone.ne_str_none (fin_bl I q (by simp))
  | bl j=>cases ry; exact PySem.EqMixed.ne_str_bool (fin_bl I q (by simp))
  | int j=>obtain ⟨t',rfl⟩:=ry; exact PySem.EqMixed.ne_str_int (fin_bl I q (by simp))
  | str j=>obtain ⟨t',rfl⟩:=ry; exact ne_str (fin_bl I q (congrArg not dec_str))
  | _=>exact absurd (show false=true from hs) Bool.false_ne_true
 | byt i =>
  obtain ⟨t,rfl⟩:=rx;cases y with
  | byt j=>obtain ⟨t',rfl⟩:=ry; exact PySem.W.ne_bytes (fin_bl I q (congrArg not dec_byt))
  | _=>exact absurd (show false=true from hs) Bool.false_ne_true
 | _=>cases y <;> exact absurd (show false=true from hs) Bool.false_ne_true
theorem op_lt:OpR X (compareOp .Lt) (rI0 fun i j=>.bl (decide (i < j))):=opB0 fun _ _ _ _ _ _ _ q=>lt_int q
theorem op_le:OpR X (compareOp .LtE) (rI0 fun i j=>.bl (decide (i<=j))):=opB0 fun _ _ _ _ _ _ _ q=>le_int q
theorem op_gt:OpR X (compareOp .Gt) (rI0 fun i j=>.bl (decide (j < i))):=opB0 fun _ _ _ _ _ _ _ q=>gt_int q
theorem op_ge:OpR X (compareOp .GtE) (rI0 fun i j=>.bl (decide (j<=i))):=opB0 fun _ _ _ _ _ _ _ q=>ge_int q
theorem op_isN:OpR X (compareOp .Is) (fun x y H Q=>y=.non/\Q (.bl (decide (x=.non))) H):=by
 intro pins s σ H x y v u Q I rx ry h;obtain ⟨rfl,q⟩:=h;cases ry;refine is_none_gen (fin_bl I q ?_);cases x <;> first
  | (cases rx; rfl)
  | (obtain ⟨t,rfl⟩:=rx; rfl)
theorem op_notN:OpR X (compareOp .IsNot) (fun x y H Q=>y=.non/\Q (.bl (!decide (x=.non))) H):=by
 intro pins s σ H x y v u Q I rx ry h;obtain ⟨rfl,q⟩:=h;cases ry;refine isnot_none_gen (fin_bl I q ?_);cases x <;> first
  | (cases rx; rfl)
  | (obtain ⟨t,rfl⟩:=rx; rfl)
theorem nomark (b:Expr){op:CmpOp}(h:op ≠ .In:=by decide)(h2:op ≠ .NotIn:=by decide):behindInMarks op b=false:=by
 have e1:(op == CmpOp.In)=false:=by cases op <;> first | rfl | exact absurd rfl h
 have e2:(op == CmpOp.NotIn)=false:=by cases op <;> first | rfl | exact absurd rfl h2
 cases b <;> simp [behindInMarks,e1,e2]
theorem pe_cmpR {op:CmpOp}{r:R2}(ho:OpR X (compareOp op) r)(ha:PE X a ta)(hb:PE X b tb)(hm:behindInMarks op b=false):PE X (.Compare a [op] [b] pos) (tOp r ta tb):=by
 intro pins s σ H Q I h;exact wpAny_Compare1 (binT ha hb I h fun v u s2 x y H2 I2 rx ry q=>ho pins s2 σ H2 x y v u Q I2 rx ry q) hm
noncomputable def tTest (t:TE):TT:=fun σ H Q=>t σ H fun x H'=>∃ k,x=.bl k/\Q k H'
theorem pt_cmpR {op:CmpOp}{r:R2}(ho:OpR X (compareOp op) r)(ha:PE X a ta)(hb:PE X b tb)(hm:behindInMarks op b=false):PT X (.Compare a [op] [b] pos) (tTest (tOp r ta tb)):=by
 intro pins s σ H Q I h;refine wpAny_isTrue_Compare1 (thn (ha pins s σ H _ I h) fun v s1 ⟨x,H1,I1,r1,q1⟩=>thn (hb pins s1 σ H1 _ I1 q1) fun u s2 ⟨y,H2,I2,r2,q2⟩ =>
  thn (ho pins s2 σ H2 x y v u _ I2 r1 r2 q2) fun c s3 ⟨z,H3,I3,r3,k,e,q3⟩=>?_) hm
 subst e;cases r3;exact wpAny_truthy_bool ⟨H3,I3,q3⟩
noncomputable def tChain (r r':R2)(ta tb tc:TE):TE:=fun σ H Q=>ta σ H fun x H1=>tb σ H1 fun y H2=>r x y H2 fun z H3=>∃ k,z=.bl k /\
 (if k=true then tc σ H3 fun w' H4=>r' y w' H4 Q else Q (.bl false) H3)
theorem pt_chain {op op':CmpOp}{r r':R2}(ho:OpR X (compareOp op) r)(ho':OpR X (compareOp op') r')(ha:PE X a ta)(hb:PE X b tb)(hc:PE X c tc)
  (hm:lastMarks [op,op'] [b,c]=false:=by with_unfolding_all rfl):PT X (.Compare a [op,op'] [b,c] pos) (tTest (tChain r r' ta tb tc)):=by
 intro pins s σ H Q I h;refine isTrue_chain (thn (ha pins s σ H _ I h) fun v s1 ⟨x,H1,I1,r1,q1⟩=>test_link (thn (hb pins s1 σ H1 _ I1 q1) fun u s2 ⟨y,H2,I2,r2,q2⟩ =>
  thn (ho pins s2 σ H2 x y v u _ I2 r1 r2 q2) fun d s3 ⟨z,H3,I3,r3,k,e,q3⟩=>?_)) hm
 subst e;cases r3;refine wpAny_truthy_bool ?_;cases k with
 | false =>
  obtain ⟨k',e',q'⟩:=q3;cases e';exact ite_ff ⟨H3,I3,q'⟩
 | true =>
  refine ite_tt (test_last (thn (hc pins s3 σ H3 _ I3 q3) fun w' s4 ⟨z',H4,I4,r4,q4⟩=>thn (ho' pins s4 σ H4 y z' u w' _ I4 r2 r4 q4) fun d' s5 ⟨z2,H5,I5,r5,k2,e2,q5⟩=>?_));subst e2;cases r5;exact wpAny_truthy_bool ⟨H5,I5,q5⟩
noncomputable def TruV (K:PySem.W.Frag)(x:V)(H:Hp)(k:Bool):Prop :=
 match x with
 | .non=>k=false
 | .bl b=>k=b
 | .int i=>k=(i != 0)
 | .str y=>y.length<=sizeLine/\k=((y.length:Int) != 0)
 | .byt y=>y.size<=sizeLine/\k=((y.size:Int) != 0)
 | .ref p=>(∃ xs,SqL K H p xs/\k=!xs.isEmpty)\/(∃ xs,SqT K H p xs/\k=!xs.isEmpty)\/∃ kvs,H p=some (.dK kvs)/\k=!kvs.isEmpty
 | _=>False
theorem isEmpty_kv {κ:Type}{kvs:List (κ × V)}{vs:List (κ × Value)}(r:KV kvs vs):(!vs.isEmpty)=!kvs.isEmpty:=by
 cases r <;> rfl
theorem isEmpty_of {xs:List V}{its:List Value}(r:Vals xs its):(!its.toArray.isEmpty)=!xs.isEmpty:=by
 cases r <;> simp
theorem line63:(sizeLine:Nat) < 2 ^ 63:=by rw [sizeLine_eq]; decide
theorem tru_ok:TruR X (fun x H Q=>∃ k,TruV X.K x H k/\Q k H):=by
 intro pins s σ H x v Q I rx h;obtain ⟨k,e,q⟩:=h;have hl:=line63;have hs:sizeLine=16777216:=sizeLine_eq;cases x with
 | non =>
  cases rx;have e':k=false:=e;subst e';exact truthy_none ⟨H,I,q⟩
 | bl b =>
  cases rx;have e':k=b:=e;subst e';exact wpAny_truthy_bool ⟨H,I,q⟩
 | int i =>
  obtain ⟨t,rfl⟩:=rx;have e':k=(i != 0):=e;subst e';exact PySem.P.truthy_int ⟨H,I,q⟩
 | str y =>
  obtain ⟨t,rfl⟩:=rx;obtain ⟨hy,e'⟩:y.length<=sizeLine/\k=((y.length:Int) != 0):=e;subst e';exact PySem.P.truthy_str (by omega) ⟨H,I.tok _,q⟩
 | byt y =>
  obtain ⟨t,rfl⟩:=rx;obtain ⟨hy,e'⟩:y.size<=sizeLine/\k=((y.size:Int) != 0):=e;subst e';exact PySem.W.truthy_bytes (by omega) ⟨H,I.tok _,q⟩
 | ref p =>
  cases rx;have e':(∃ xs,SqL X.K H p xs/\k=!xs.isEmpty)\/(∃ xs,SqT X.K H p xs/\k=!xs.isEmpty)\/∃ kvs,H p=some (.dK kvs)/\k=!kvs.isEmpty:=e;rcases e' with ⟨xs,hx,e'⟩ | ⟨xs,hx,e'⟩ | ⟨kvs,hx,e'⟩
  ·subst e';obtain ⟨its,r,pl,hz⟩:=I.list hx;have hlen:=r.length;exact wpAny_truthy_list pl.isList (by simp only [List.size_toArray]; omega) ⟨H,I.tok _,by rw [isEmpty_of r]; exact q⟩
  ·subst e';obtain ⟨its,r,pl,hz⟩:=I.tuple hx;have hlen:=r.length;exact truthy_tuple pl (by simp only [List.size_toArray]; omega) ⟨H,I.tok _,by rw [isEmpty_of r]; exact q⟩
  ·subst e';obtain ⟨hz,hS,vs,r,m⟩:kvs.length<=sizeLine/\(p == sysModules)=false/\∃ vs,KV kvs vs/\s.heap.DictOf (mixKind X.prog X.w) p vs:=I.hok p _ hx;have hlen:kvs.length=vs.length:=Paired.length r;exact wpAny_truthy_dict hS m (by omega) ⟨H,I.tok _,by rw [isEmpty_kv r]; exact q⟩
 | _=>exact (show False from e).elim
theorem pt_truth (ha:PE X a ta)(he:∀ whole,isTrue a X.env whole=(do let v <- whole; standAt a.pos; holding [v] (truthy v))) :
  PT X a (fun σ H Q=>ta σ H fun x H'=>∃ k,TruV X.K x H' k/\Q k H'):=by
 intro pins s σ H Q I h;exact isTrue_plain (thn (ha pins s σ H _ I h) fun v s1 ⟨x,H1,I1,r1,q1⟩=>tru_ok pins s1 σ H1 x v Q I1 r1 q1) (he _)
theorem op_add_str:OpR X (binaryOp .Add) (fun x y H Q=>∃ i j,x=.str i/\y=.str j/\i.length + j.length<=sizeLine/\Q (.str (i++j)) H):=by
 intro pins s σ H x y v u Q I rx ry h;obtain ⟨i,j,rfl,rfl,hz,q⟩:=h;obtain ⟨t,rfl⟩:=rx;obtain ⟨t',rfl⟩:=ry;exact add_str (fun t' tk=>⟨.str (i++j),H,I.tok _,⟨_,rfl⟩,q⟩) hz
theorem vals1 {x:V}{us:List Value}(r:Vals [x] us):∃ u,us=[u]/\RelV x u:=by
 cases r with
 | cons r1 r2=>cases r2; exact ⟨_,rfl,r1⟩
theorem vals2 {x y:V}{us:List Value}(r:Vals [x,y] us):∃ u w',us=[u,w']/\RelV x u/\RelV y w':=by
 cases r with
 | cons r1 r2 =>
  cases r2 with
  | cons r3 r4=>cases r4; exact ⟨_,_,rfl,r1,r3⟩
theorem call_abs:CallR X (.builtin "abs") (fun xs H Q=>∃ i,xs=[.int i]/\Q (.int (if i < 0 then -i else i)) H):=by
 intro pins s σ H xs us Q I r h;obtain ⟨i,rfl,q⟩:=h;obtain ⟨u,rfl,t,rfl⟩:=vals1 r;exact call_abs_int fun u tk=>⟨.int (if i < 0 then -i else i),H,I.tok _,⟨_,rfl⟩,q⟩
theorem call_max2 (hc:X.calm=true):CallR X (.builtin "max") (fun xs H Q=>∃ i j,xs=[.int i,.int j]/\Q (.int (if j > i then j else i)) H):=by
 intro pins s σ H xs us Q I r h;obtain ⟨i,j,rfl,q⟩:=h;obtain ⟨u,w',rfl,⟨t,rfl⟩,⟨t',rfl⟩⟩:=vals2 r;refine max_two_ints (I.ok.hd hc) fun h' tk k=>⟨_,H,I.kept k,?_,q⟩;by_cases hj:j > i
 ·rw [if_pos hj,if_pos hj]; exact ⟨_,rfl⟩
 ·rw [if_neg hj,if_neg hj]; exact ⟨_,rfl⟩
theorem call_min2 (hc:X.calm=true):CallR X (.builtin "min") (fun xs H Q=>∃ i j,xs=[.int i,.int j]/\Q (.int (if j < i then j else i)) H):=by
 intro pins s σ H xs us Q I r h;obtain ⟨i,j,rfl,q⟩:=h;obtain ⟨u,w',rfl,⟨t,rfl⟩,⟨t',rfl⟩⟩:=vals2 r;refine min_two_ints (I.ok.hd hc) fun h' tk k=>⟨_,H,I.kept k,?_,q⟩;by_cases hj:j < i
 ·rw [if_pos hj,if_pos hj]; exact ⟨_,rfl⟩
 ·rw [if_neg hj,if_neg hj]; exact ⟨_,rfl⟩
theorem call_int1:CallR X (.type "int") (fun xs H Q=>(∃ i,xs=[.int i]/\Q (.int i) H)\/∃ k,xs=[.bl k]/\Q (.int (if k then 1 else 0)) H):=by
 intro pins s σ H xs us Q I r h;rcases h with ⟨i,rfl,q⟩ | ⟨k,rfl,q⟩
 ·obtain ⟨u,rfl,t,rfl⟩:=vals1 r;exact call_int_int ⟨.int i,H,I,⟨_,rfl⟩,q⟩
 ·obtain ⟨u,rfl,r1⟩:=vals1 r;cases r1;exact call_int_bool ⟨.int (if k then 1 else 0),H,I.tok _,⟨_,rfl⟩,q⟩
theorem call_str_int:CallR X (.type "str") (fun xs H Q=>∃ i,xs=[.int i]/\i.natAbs.log2 < 1920/\Q (.str (toString i)) H):=by
 intro pins s σ H xs us Q I r h;obtain ⟨i,rfl,hz,q⟩:=h;obtain ⟨u,rfl,t,rfl⟩:=vals1 r;exact PySem.P.str_of_int hz ⟨.str _,H,I.tok _,⟨_,rfl⟩,q⟩
end
end L2
namespace L2
open PySem PySem.Spec PyProof.Rows
structure ObjM (h:Heap)(x dx C:Addr)(mA:Str->Option Value):Prop where
 obj:h.get? x=some (PySem.W.instObj C dx)
 ns:h.Ns1 dx mA
 ne:dx ≠ x
theorem lookIn_ns {h:Heap}{dx:Addr}{mA:Str->Option Value}(n:h.Ns1 dx mA):∃ od,h.get? dx=some od/\∀ name,PySem.W.lookIn name od=some (mA name):=by
 obtain ⟨o,es,ep,ho,hd,hk,_,hm⟩:=n;refine ⟨o,ho,fun name=>?_⟩;have e:=hm name;unfold nsFind findBy at e;rw [<- Array.find?_toList] at e;unfold PySem.W.lookIn;rw [hd];dsimp only;split
 ·rename_i y q;rw [q] at e;exact congrArg some e
 ·rename_i q;rw [q] at e;have a:es.toList.any (·.refKey)=false:=by
   rw [List.any_eq_false];intro y hy;obtain ⟨z,t,hkey⟩:=hk y (Array.mem_toList_iff.mp hy);simp [DictEntry.refKey,hkey]
  have a':¬ es.toList.any (·.refKey)=true:=by rw [a]; exact Bool.false_ne_true
  rw [if_neg a'];exact congrArg some e
theorem ObjM.look {h:Heap}{x dx C:Addr}{mA:Str->Option Value}(I:ObjM h x dx C mA):∃ od,PySem.W.InstAt h x (PySem.W.instObj C dx) C (some od)/\∀ name,PySem.W.lookIn name od=some (mA name) :=
 let ⟨od,ho,hl⟩:=lookIn_ns I.ns
 ⟨od,⟨I.obj,rfl,rfl,ho⟩,hl⟩
section
variable {prog:Program}{w:World}{A:Around}{E:Value->Shared->Prop}{s:Shared}{K:PySem.W.Frag}{x dx C f:Addr}{mA:Str->Option Value}{name:Str}{v:Value}
end
theorem RelO.some_of {v:V}{o:Option Value}(r:RelO (some v) o):∃ u,o=some u/\RelV v u:=by
 cases o with
 | none=>exact (show False from r).elim
 | some u=>exact ⟨u,rfl,r⟩
section
variable {P:Program}{w:World}{H H':Hp}{h h':Heap}{a C dx:Addr}{fs fs':List (Str × V)}
theorem ins_get (hok:HOk P w H h)(e:H a=some (.ins C dx fs)):∃ mA,ObjM h a dx C mA/\(∀ f,RelO (fs.lookup f) (mA f))/\PySem.Within mA (fs.map (·.1))/\fs.length<=1000/\H dx=some (.own a):=by
 obtain ⟨d,z,ne,ob,mA,n,r,q⟩:=(show ObjOk P w H h a (.ins C dx fs) from hok a _ e);exact ⟨mA,⟨ob,n,ne⟩,r,q,z,d⟩
end
structure Cls (K:PySem.W.Frag)(C:Addr):Prop where
 pg:PySem.W.plainGet K C Str.empty=true
 hd:PySem.W.hasDictIn K C=true
 po:PySem.W.plainOver K C=true
 sa:PySem.W.findIn K (.ref C) "__setattr__"=some (some (.builtin "object.__setattr__"))
theorem Cls.get {K:PySem.W.Frag}{C:Addr}(c:Cls K C)(f:Str):PySem.W.plainGet K C f=true:=c.pg
section
variable {X:Cx}{pins:List (Addr × Obj)}{σ:St}{H:Hp}{s:Shared}{a C dx:Addr}{fs:List (Str × V)}{f:Str}{v:V}{A:Around}{E:Value->Shared->Prop}
end
section
variable {X:Cx}{o e value:Expr}{f:Str}{pos pos' tpos:Pos}{ta tv:TE}
end
section
variable {X:Cx}{pins:List (Addr × Obj)}{σ:St}{H:Hp}{s:Shared}{A:Around}{E:Value->Shared->Prop}{Q:Value->Shared->Prop}{c:Value}{b:Bool}
inductive TyOf (K:PySem.W.Frag)(H:Hp):V->Value->Prop where
 | non:TyOf K H .non (.type "NoneType")
 | bl (x:Bool):TyOf K H (.bl x) (.type "bool")
 | int (i:Int):TyOf K H (.int i) (.type "int")
 | str (x:Str):TyOf K H (.str x) (.type "str")
 | flt (x:UInt64):TyOf K H (.flt x) (.type "float")
 | lst {a:Addr} {xs:List V} (e:H a=some (.lst xs)):TyOf K H (.ref a) (.type "list")
 | frz {a:Addr} {o:Obj} {xs:List V} (e:H a=some (.frz o (.lst xs))):TyOf K H (.ref a) (.type "list")
 | tup {a:Addr} {xs:List V} (e:H a=some (.tup xs)):TyOf K H (.ref a) (.type "tuple")
 | dK {a:Addr} {kvs:List (Key × V)} (e:H a=some (.dK kvs)):TyOf K H (.ref a) (.type "dict")
 | dT {a:Addr} {kvs:List (List Key × V)} (e:H a=some (.dT kvs)):TyOf K H (.ref a) (.type "dict")
 | ins {a C dx:Addr} {fs:List (Str × V)} (e:H a=some (.ins C dx fs)) (cl:Cls K C) (ha:PySem.W.findIn K (.ref C) "__class__"=some (some (.builtin "object.__class__")))
   (hn:PySem.W.specialIn K (.builtin "object.__class__") "__get__"=some (some (.builtin "getset_descriptor.__get__"))) (htk:PySem.W.takesIn K (.builtin "object.__class__")=some true)
   (hm:PySem.W.mroIn K C (.type "object")=some true):TyOf K H (.ref a) (.ref C)
theorem isinst_ok {x:V}{u t:Value}(I:Inv X pins σ H s)(rx:RelV x u)(ty:TyOf X.K H x t)(e:PySem.W.kitOne X.K t c=some b)(h:∀ tk,Q (.bool b) { s with toks:=tk }) :
  wpAny (model X.prog X.w) A (call (.builtin "isinstance") [u,c]) Q E s:=by
 cases ty with
 | non=>cases (show u=Value.none from rx); exact PySem.W.kia_one PySem.W.kitx_none I.kIn True.intro e (fun z=>nomatch z) h
 | bl y=>cases (show u=Value.bool y from rx); exact PySem.W.kia_one PySem.W.kitx_bool I.kIn True.intro e (fun z=>nomatch z) h
 | int i=>obtain ⟨t,q⟩:=(show ∃ t,u=Value.int i t from rx); cases q; exact PySem.W.kia_one PySem.W.kitx_int I.kIn True.intro e (fun z=>nomatch z) h
 | str y=>obtain ⟨t,q⟩:=(show ∃ t,u=Value.str y t from rx); cases q; exact PySem.W.kia_one PySem.W.kitx_str I.kIn True.intro e (fun z=>nomatch z) h
 | flt y=>obtain ⟨t,q⟩:=(show ∃ t,u=Value.float y t from rx); cases q; exact PySem.W.kia_one PySem.W.kitx_float I.kIn True.intro e (fun z=>nomatch z) h
 | @lst a xs ea =>
  cases (show u=Value.ref a from rx);obtain ⟨_,_,n,_,h1⟩:=(show ObjOk X.prog X.w H s.heap a (.lst xs) from I.hok a _ ea);exact PySem.W.kia_one PySem.W.kitx_list I.kIn ⟨_,h1,rfl⟩ e (fun z=>nomatch z) h
 | @frz a ob xs ea =>
  cases (show u=Value.ref a from rx);obtain ⟨_,_,_,n,_,h1⟩:=(show ObjOk X.prog X.w H s.heap a (.frz ob (.lst xs)) from I.hok a _ ea);exact PySem.W.kia_one PySem.W.kitx_list I.kIn ⟨_,h1,rfl⟩ e (fun z=>nomatch z) h
 | @tup a xs ea =>
  cases (show u=Value.ref a from rx);obtain ⟨_,_,_,p⟩:=(show ObjOk X.prog X.w H s.heap a (.tup xs) from I.hok a _ ea);obtain ⟨o,h1,h2,_⟩:=p;exact PySem.W.kia_one PySem.W.kitx_tuple I.kIn ⟨o,h1,h2⟩ e (fun z=>nomatch z) h
 | @dK a kvs ea =>
  cases (show u=Value.ref a from rx);obtain ⟨_,_,vs,_,p⟩:=(show ObjOk X.prog X.w H s.heap a (.dK kvs) from I.hok a _ ea);obtain ⟨o,es,ep,h1,h2,_⟩:=p;exact PySem.W.kia_one PySem.W.kitx_dict I.kIn ⟨o,h1,h2.1⟩ e (fun z=>nomatch z) h
 | @dT a kvs ea =>
  cases (show u=Value.ref a from rx);obtain ⟨_,_,xs,_,o,es,ep,h1,h2,_⟩:=(show ObjOk X.prog X.w H s.heap a (.dT kvs) from I.hok a _ ea);exact PySem.W.kia_one PySem.W.kitx_dict I.kIn ⟨o,h1,h2.1⟩ e (fun z=>nomatch z) h
 | @ins a C dx fs ea cl ha hn htk hm =>
  cases (show u=Value.ref a from rx);obtain ⟨mA,O,_⟩:=ins_get I.hok ea;obtain ⟨od,J,_⟩:=O.look;exact PySem.W.kia_one (PySem.W.kitx_own (cl.get _) cl.hd ha hn htk hm) I.kIn J e (fun z=>nomatch z) h
end
end L2
namespace L2
open PySem PySem.Spec PyProof.Rows
structure Room (k:Nat)(A:Around):Prop where
 hd:A.handled=none
 dp:A.depth + 3 * k + 5 < recursionLimit
 un:A.units + 16 * k + 200 < cLine
theorem Room.mono {j k:Nat}{A:Around}(r:Room k A)(h:j<=k):Room j A:=⟨r.hd,by have:=r.dp; omega,by have:=r.un; omega⟩
theorem Room.deeper {k:Nat}{A:Around}(r:Room (k + 1) A)(env:Env):Room k (A.deeper env) :=
 ⟨r.hd,by have:=r.dp; show A.depth + 1 + 3 * k + 5 < _; omega,by have:=r.un; show A.units + 3 + 16 * k + 200 < _; omega⟩
theorem Room.depth {k:Nat}{A:Around}(r:Room k A):A.depth < recursionLimit:=by have:=r.dp; omega
theorem Room.units {k:Nat}{A:Around}(r:Room k A):A.units + 64 < cLine:=by have:=r.un; omega
noncomputable def tNil:TA:=fun _ H Q=>Q [] H
noncomputable def tCons (ta:TE)(tr:TA):TA:=fun σ H Q=>ta σ H fun x H1=>tr σ H1 fun xs H2=>Q (x :: xs) H2
section
variable {X:Cx}{e:Expr}{es:List Expr}{te:TE}{t:TA}{pos:Pos}
theorem pa_nil:PA X [] tNil:=fun _ _ _ _ H Q I h=>Calls.spliced_nil ⟨[],H,I,.nil,h⟩
theorem pa_cons (ha:PE X e te)(hr:PA X es t)(hs:starEach (e :: es) X.env=(false,eval e X.env) :: starEach es X.env:=by rfl):PA X (e :: es) (tCons te t):=by
 intro pos pins s σ H Q I h;rw [hs];show wpAny _ _ (spliced ((false,eval e X.env) :: backTo pos (starEach es X.env))) _ _ s;refine Calls.spliced_cons (thn (ha pins s σ H _ I h) fun u s1 ⟨x,H1,I1,r1,q1⟩=>?_);exact thn (hr pos pins s1 σ H1 _ I1 q1) fun us s2 ⟨xs,H2,I2,r2,q2⟩=>⟨x :: xs,H2,I2,.cons r1 r2,q2⟩
noncomputable def tTup (t:TA):TE:=fun σ H Q=>t σ H fun xs H1=>xs.length<=sizeLine/\∀ p,H1 p=none->Q (.ref p) (upd H1 p (.tup xs))
noncomputable def tLst (t:TA):TE:=fun σ H Q=>t σ H fun xs H1=>xs.length<=sizeLine/\∀ p,H1 p=none->Q (.ref p) (upd H1 p (.lst xs))
theorem pe_tup {x1}(h:PA X es t):PE X (.Tuple es x1 pos) (tTup t):=by
 intro pins s σ H Q I hq;refine wpAny_Tuple_spliced (thn (h pos pins s σ H _ I hq) fun us s1 ⟨xs,H1,I1,r,z,q⟩=>⟨by rw [<- r.length]; exact z,?_⟩);have hf:H1 s1.heap.objs.size=none:=I1.hok.fresh (Nat.le_refl _);refine ⟨.ref s1.heap.objs.size,upd H1 s1.heap.objs.size (.tup xs),I1.laid (t':=s1.toks) (fun b u e=>Heap.get?_push_of_some _ e) (Nat.le_refl _) ?_,rfl,q _ hf⟩;exact ⟨z,us,r,⟨_,Heap.get?_push_size _ rfl,rfl,_,rfl⟩⟩
theorem pe_lst (h:PA X es t):PE X (.List es pos) (tLst t):=by
 intro pins s σ H Q I hq;refine wpAny_List_spliced (thn (h pos pins s σ H _ I hq) fun us s1 ⟨xs,H1,I1,r,z,q⟩=>⟨by rw [<- r.length]; exact z,?_⟩);have hf:H1 s1.heap.objs.size=none:=I1.hok.fresh (Nat.le_refl _);refine ⟨.ref s1.heap.objs.size,upd H1 s1.heap.objs.size (.lst xs),I1.laid (t':=s1.toks) (fun b u e=>Heap.get?_push_of_some _ e) (Nat.le_refl _) ?_,rfl,q _ hf⟩;exact ⟨z,us,0,r,Heap.get?_push_size _ rfl⟩
end
noncomputable abbrev Sp:=List V->Hp->VK->XK->Prop
noncomputable abbrev CXT:=List Env->Hp->Shared->XK->Value->Shared->Prop
structure Env0 (P:Program)(w:World)(K:PySem.W.Frag)(mg:Str->Option Value)(base:Heap)(A:Around)(outer:List Env)(s:Shared)(H:Hp):Prop where
 frames:A.frames=some outer
 mod:Mod K mg base
 bs:∀ b o,base.get? b=some o->s.heap.get? b=some o/\H b=none
 bsz:base.objs.size<=s.heap.objs.size
 funs:s.heap.FunFrames base outer
 frf:∀ b ∈ frs outer,H b=none
 hok:HOk P w H s.heap
 bare:AllBare s.gens
noncomputable def CE (outer:List Env)(P:Program)(w:World)(H:Hp)(s:Shared)(Q:VK)(u:Value)(s':Shared):Prop :=
 ∃ v H',s'.os=s.os/\AllBare s'.gens/\Un (frs outer) [] H H' s.heap s'.heap/\HOk P w H' s'.heap/\RelV v u/\Q v H'
noncomputable def CR (CX:CXT)(outer:List Env)(P:Program)(w:World)(H:Hp)(s:Shared)(Q:VK)(E:XK)(r:Result)(s':Shared):Prop :=
 match r with
 | .ok (.ret u)=>CE outer P w H s Q u s'
 | .ok _=>False
 | .error e=>CX outer H s E e s'
structure FnOk (P:Program)(w:World)(K:PySem.W.Frag)(mg:Str->Option Value)(base:Heap)(CX:CXT)(k:Nat)(f:Addr)(fd:FuncData)(ps:List Str)(sp:Sp):Prop where
 len:∀ vs H Q E,sp vs H Q E->vs.length=ps.length
 run:∀ (A:Around) (outer:List Env) (s:Shared) (H:Hp) (args:Args) (us:List Value) (vs:List V) (Q:VK) (E:XK),Room k A->Env0 P w K mg base A outer s H->BindsTo s fd args (ps.zip us)->Vals vs us->sp vs H Q E ->
  codeAny (model P w) A (.call (.ref f) args) (CR CX outer P w H s Q E) s
theorem FnOk.mono {P:Program}{w:World}{K:PySem.W.Frag}{mg:Str->Option Value}{base:Heap}{CX:CXT}{j k:Nat}{f:Addr}{fd:FuncData}{ps:List Str}{sp:Sp}(F:FnOk P w K mg base CX j f fd ps sp)(h:j<=k) :
  FnOk P w K mg base CX k f fd ps sp:=⟨F.len,fun A outer s H args us vs Q E hr=>F.run A outer s H args us vs Q E (hr.mono h)⟩
section
variable {X:Cx}{pins:List (Addr × Obj)}{σ:St}{H:Hp}{s s':Shared}
theorem Inv.env0 (I:Inv X pins σ H s):Env0 X.prog X.w X.K X.mg X.base X.A X.stack s H :=
 ⟨I.ok.frames,I.ok.mod,I.bs,Nat.le_trans I.ok.bsz I.sz,I.stack,I.stkFree,I.hok,I.bare⟩
theorem Inv.after {Q:VK}{u:Value}(I:Inv X pins σ H s)(h:CE X.stack X.prog X.w H s Q u s'):EP X pins σ Q u s':=by
 obtain ⟨v,H',os,bare,un,hok,r,q⟩:=h;obtain ⟨hh,g,d,t,os'⟩:=s';obtain rfl:os'=s.os:=os;exact ⟨v,H',I.call (h':=hh) (g':=g) (d':=d) (t':=t) (ch:=[]) un hok bare (fun b z=>absurd z (by simp)),r,q⟩
end
noncomputable def tCall (sp:Sp)(dvs:List V)(E:XK)(t:TA):TE:=fun σ H Q=>t σ H fun vs H1=>sp (vs++dvs) H1 Q E
noncomputable def Binds (K:PySem.W.Frag)(fd:FuncData)(ps:List Str)(ds:List Value):Prop :=
 ∀ (s:Shared) (us:List Value),K.In s.heap->(us++ds).length=ps.length->BindsTo s fd ⟨us,[]⟩ (ps.zip (us++ds))
theorem Binds.all {K:PySem.W.Frag}{fd:FuncData}{ps:List Str}(h:∀ us:List Value,us.length=ps.length->bindArgs fd ⟨us,[]⟩=pure (ps.zip us)):Binds K fd ps []:=fun s us _ hl=>by
 rw [List.append_nil] at hl ⊢;exact .of_eq (h us hl)
noncomputable def Passes (CX:CXT)(X:Cx)(E:XK):Prop:=∀ (pins:List (Addr × Obj)) (σ:St) (H:Hp) (s:Shared) (e:Value) (s':Shared),Inv X pins σ H s->CX X.stack H s E e s'->X.xe e s'
section
variable {X:Cx}{CX:CXT}{k:Nat}{f C:Addr}{fd:FuncData}{ps:List Str}{sp:Sp}{dvs:List V}{ds:List Value}{E:XK}{x m:Str}{p pos apos:Pos}{e o:Expr}{es:List Expr}{ta:TE}{t:TA}
theorem run_fn {pins:List (Addr × Obj)}{σ:St}{H:Hp}{s:Shared}{Q:VK}{us:List Value}{vs:List V}(F:FnOk X.prog X.w X.K X.mg X.base CX k f fd ps sp)(hr:Room k X.A)(hb:Binds X.K fd ps ds)(hd:Vals dvs ds)(hx:Passes CX X E)
  (I:Inv X pins σ H s) (r:Vals vs us) (h:sp (vs++dvs) H Q E):wpAny (model X.prog X.w) X.A (call (.ref f) us) (EP X pins σ Q) X.xe s:=by
 have r2:Vals (vs++dvs) (us++ds):=r.append hd;have hl:(us++ds).length=ps.length:=by rw [<- r2.length]; exact F.len _ _ _ _ h
 refine wpAny_call (codeAny_mono (F.run X.A X.stack s H ⟨us,[]⟩ (us++ds) (vs++dvs) Q E hr I.env0 (hb s us I.kIn hl) r2 h) fun r s' hq=>?_);cases r with
 | error e=>exact hx pins σ H s e s' I hq
 | ok fl =>
  cases fl with
  | ret u=>exact I.after hq
  | next=>exact False.elim hq
  | brk=>exact False.elim hq
  | cont=>exact False.elim hq
theorem pe_call (F:FnOk X.prog X.w X.K X.mg X.base CX k f fd ps sp)(hr:Room k X.A)(hg:Gl X x)(hm:X.mg x=some (.ref f))(hk:PySem.W.keepIn X.K (.ref f)=true)(hb:Binds X.K fd ps ds)(hd:Vals dvs ds)(hx:Passes CX X E)
  (ha:PA X (e :: es) t) (hdb:(x == ("__debug__":Str))=false:=by decide) (he:starEach (e :: es) X.env=(false,eval e X.env) :: starEach es X.env:=by rfl) (hpl:(backTo pos (starEach es X.env)).any (·.1)=false:=by rfl) :
  PE X (.Call (.Name x p) (e :: es) [] pos) (tCall sp dvs E t):=by
 intro pins s σ H Q I h;refine wpAny_Call_Name_kw (ld_glob I hg hm ?_ hdb);refine PySem.W.callWith_K (h₀:=X.base) I.ok.mod.kin hk (thn (ha pos pins s σ H _ I h) fun us s1 ⟨vs,H1,I1,r,q⟩=>⟨I1.kIn,?_⟩) he hpl;exact run_fn F hr hb hd hx I1 r q
end
section
variable {X:Cx}{CX:CXT}{k:Nat}{f C:Addr}{fd:FuncData}{ps ks:List Str}{sp:Sp}{E:XK}{x m:Str}{p pos apos kpos:Pos}{e o:Expr}{es:List Expr}{kws:List Keyword}{te ta:TE}{t tk:TA}{nm:Option Str}
variable {g:List Value->List Value->List Value}{gV:List V->List V->List V}
end
structure FnScope (N P:List Str)(sc:Scope):Prop where
 kind:sc.kind=.function
 co:sc.isCoroutine=false
 gen:sc.isGenerator=false
 nd:N.Nodup
 pre:N.take P.length=P
 par:∀ x ∈ P,sc.names.lookup x=some .local\/sc.names.lookup x=some .cell
 nofree:∀ y ∈ sc.names,y.2 ≠ .free
theorem bindL_out {kindOf:Str->Option NameKind}{x:Str}:∀ {binds:List (Str × Value)} {m:Str->Option Value},(∀ v,(x,v) ∉ binds)->bindL kindOf binds m x=m x
 | [],_,_=>rfl
 | (n,v) :: r,m,h=>by
  unfold bindL;rw [bindL_out fun w hw=>h w (List.mem_cons_of_mem _ hw)];split
  ·have:x ≠ n:=by rintro rfl; exact h v List.mem_cons_self
   simp [this]
  ·rfl
theorem bindC_out {kindOf:Str->Option NameKind}{x:Str}:∀ {binds:List (Str × Value)} {m:Str->Option Value},(∀ v,(x,v) ∉ binds)->bindC kindOf binds m x=m x
 | [],_,_=>rfl
 | (n,v) :: r,m,h=>by
  unfold bindC;rw [bindC_out fun w hw=>h w (List.mem_cons_of_mem _ hw)];split
  ·rfl
  ·have:x ≠ n:=by rintro rfl; exact h v List.mem_cons_self
   simp [this]
theorem bindL_get {kindOf:Str->Option NameKind}{x:Str}{v:Value}:∀ {P:List Str} {vs:List Value} {i:Nat} {m:Str->Option Value},P.Nodup->P[i]?=some x->vs[i]?=some v->kindOf x=some .local ->
  bindL kindOf (P.zip vs) m x=some v
 | [],_,_,_,_,h,_,_=>by simp at h
 | _ :: _,[],_,_,_,_,h,_=>by simp at h
 | p :: P,w :: vs,0,m,nd,h1,h2,hk=>by
  simp at h1 h2; subst h1; subst h2;show bindL kindOf ((p,w) :: P.zip vs) m p=_;unfold bindL;rw [bindL_out fun v hv=>(List.nodup_cons.mp nd).1 (List.of_mem_zip hv).1,if_pos hk];simp
 | p :: P,w :: vs,i + 1,m,nd,h1,h2,hk=>by
  show bindL kindOf ((p,w) :: P.zip vs) m x=_;unfold bindL;exact bindL_get (i:=i) (List.nodup_cons.mp nd).2 (by simpa using h1) (by simpa using h2) hk
theorem bindC_get {kindOf:Str->Option NameKind}{x:Str}{v:Value}:∀ {P:List Str} {vs:List Value} {i:Nat} {m:Str->Option Value},P.Nodup->P[i]?=some x->vs[i]?=some v->kindOf x ≠ some .local ->
  bindC kindOf (P.zip vs) m x=some v
 | [],_,_,_,_,h,_,_=>by simp at h
 | _ :: _,[],_,_,_,_,h,_=>by simp at h
 | p :: P,w :: vs,0,m,nd,h1,h2,hk=>by
  simp at h1 h2; subst h1; subst h2;show bindC kindOf ((p,w) :: P.zip vs) m p=_;unfold bindC;rw [bindC_out fun v hv=>(List.nodup_cons.mp nd).1 (List.of_mem_zip hv).1,if_neg hk];simp
 | p :: P,w :: vs,i + 1,m,nd,h1,h2,hk=>by
  show bindC kindOf ((p,w) :: P.zip vs) m x=_;unfold bindC;exact bindC_get (i:=i) (List.nodup_cons.mp nd).2 (by simpa using h1) (by simpa using h2) hk
noncomputable def start (N:List Str)(vs:List V):St:=vs.map some++List.replicate (N.length - vs.length) none
noncomputable def cxOf (CX:CXT)(P:Program)(w:World)(K:PySem.W.Frag)(mg:Str->Option Value)(base:Heap)(N:List Str)(qual:Str)(scope:Scope)(f:Addr)(cd:Value)(A:Around)(outer:List Env)(s:Shared)(H:Hp)(E:XK):Cx where
 prog:=P
 w:=w
 K:=K
 mg:=mg
 base:=base
 A:=A.deeper (envOfC qual scope s.heap.objs.size f cd)
 N:=N
 s₀:=s
 H₀:=H
 env:=envOfC qual scope s.heap.objs.size f cd
 outer:=outer
 stack:=envOfC qual scope s.heap.objs.size f cd :: outer
 ex:=[]
 calm:=true
 fn:=fun _=>true
 pn:=[]
 xe:=fun e s'=>wpAny (model P w) (A.deeper (envOfC qual scope s.heap.objs.size f cd)) (leaving (envOfC qual scope s.heap.objs.size f cd) e) (fun _ s''=>CX outer H s E e s'') (fun e' s''=>CX outer H s E e' s'') s'
theorem cell_has {sc:Scope}{n:Nat}{x:Str}(h:sc.names.lookup x=some .cell):∃ c,(cellsFrom n sc.names []).lookup x=some c:=by
 have q:=PySem.W.cellsFrom_some sc.names n [] (.inl h);exact Option.isSome_iff_exists.mp q
theorem inv_start {CX:CXT}{P:Program}{w:World}{K:PySem.W.Frag}{mg:Str->Option Value}{base:Heap}{N ps:List Str}{qual:Str}{scope:Scope}{f:Addr}{cd:Value}{A:Around}{outer:List Env}{s s1:Shared}{H:Hp}{E:XK}{us:List Value}{vs:List V}
  (S:FnScope N ps scope) (hd:A.handled=none) (e0:Env0 P w K mg base A outer s H) (hl:vs.length=ps.length) (r:Vals vs us)
  (x:InCallC s s.heap.objs.size (bindL (envOfC qual scope s.heap.objs.size f cd).kindOf (ps.zip us) fun _=>none) (cellsFrom (s.heap.objs.size + 1) scope.names []) (bindC (envOfC qual scope s.heap.objs.size f cd).kindOf (ps.zip us) fun _=>none) s1) :
  Inv (cxOf CX P w K mg base N qual scope f cd A outer s H E) [] (start N vs) H s1:=by
 have hpl:ps.length<=N.length:=by have:=congrArg List.length S.pre; rw [List.length_take] at this; omega
 obtain ⟨h1,tk,rfl,hk⟩:=x.done;have noA:∀ b:Addr,b ∉ (cxOf CX P w K mg base N qual scope f cd A outer s H E).ex:=fun b z=>absurd (show b ∈ ([]:List Addr) from z) (by simp);refine ⟨⟨e0.mod,S.kind,rfl,rfl,Nat.le_refl _,fun y z c h1 h2=>?_,fun y hy=>?_,fun y c _ h=>?_,fun _=>hd,Around.frames_deeper e0.frames,.inr ⟨rfl,rfl⟩,fun b z=>absurd z (noA b),e0.bs,e0.bsz,fun b _ _=>noA b,fun b z=>absurd z (noA b),e0.funs,e0.frf⟩,
  rfl,e0.bare,Un.kept hk,⟨_,x.toInCall.ns,fun i y v h1 h2 h3=>?_⟩,fun y c h=>⟨_,x.cell y c h⟩,e0.hok.fresh (Nat.le_refl _),fun y c h=>?_,fun p hp=>absurd (show p ∈ ([]:List (Addr × Obj)) from hp) (by simp),e0.hok.kept hk,?_⟩
 ·exact name_of_addr x.apart (PySem.mem_of_lookup h1) (PySem.mem_of_lookup h2)
 ·have hy:scope.names.lookup y=some .cell\/scope.names.lookup y=some .free:=hy;rcases hy with hy | hy
  ·exact cell_has hy
  ·exact absurd rfl (S.nofree _ (PySem.mem_of_lookup hy))
 ·exact Nat.le_of_lt (x.above y c (PySem.mem_of_lookup h))
 ·have hi:i < vs.length:=by
   unfold start at h2;by_cases hi:i < vs.length
   ·exact hi
   ·rw [List.getElem?_append_right (by simpa using hi)] at h2;rw [List.getElem?_replicate] at h2;split at h2 <;> cases h2
  have ha:vs[i]?=some v:=by
   unfold start at h2;rw [List.getElem?_append_left (by simpa using hi),List.getElem?_map] at h2;cases e:vs[i]? with
   | none=>rw [e] at h2; cases h2
   | some a=>rw [e] at h2; cases h2; rfl
  obtain ⟨u,hu,rv⟩:=r.get ha;have hp:ps[i]?=some y:=by
   rw [<- S.pre,List.getElem?_take_of_lt (by omega)]; exact h1
  have ndP:ps.Nodup:=by rw [<- S.pre]; exact S.nd.sublist (List.take_sublist _ _)
  refine ⟨u,rv,?_⟩;rcases S.par y (List.mem_of_getElem? hp) with k | k
  ·exact .inl ⟨k,bindL_get ndP hp hu k⟩
  ·obtain ⟨c,e⟩:=cell_has (n:=s.heap.objs.size + 1) k;refine .inr ⟨.inl k,c,e,?_⟩;have q:=x.cell y c e;rw [bindC_get ndP hp hu (by show scope.names.lookup y ≠ _; rw [k]; decide)] at q;exact q
 ·exact e0.hok.fresh (Nat.le_of_lt (x.above y c (PySem.mem_of_lookup h)))
 ·unfold start;show _=N.length;rw [List.length_append,List.length_map,List.length_replicate];omega
theorem fn_of {CX:CXT}{P:Program}{w:World}{K:PySem.W.Frag}{mg:Str->Option Value}{base:Heap}{k:Nat}{f:Addr}{name qual:Str}{params:Arguments}{body:List Stmt}{scope:Scope}{dV kV doc pm cdv ct oc:Value}{an od:Option Addr}
  {osl:Array (Option Value)} {N ps:List Str} {sp:Sp} (lk:K.lookup f=some ⟨oc,od,.func (PySem.W.fnOf name qual params body scope dV kV doc pm an cdv ct),osl⟩) (hcd:PySem.W.codeIn K cdv qual=true) (S:FnScope N ps scope)
  (len:∀ vs H Q E,sp vs H Q E->vs.length=ps.length)
  (hbody:∀ (A:Around) (outer:List Env) (s:Shared) (H:Hp) (vs:List V) (Q:VK) (E:XK),Room k (A.deeper (envOfC qual scope s.heap.objs.size f cdv))->sp vs H Q E ->
   ∃ t,PSs (cxOf CX P w K mg base N qual scope f cdv A outer s H E) body t/\t { nx:=fun _ H'=>Q .non H',rt:=Q } (start N vs) H) :
  FnOk P w K mg base CX (k + 1) f (PySem.W.fnOf name qual params body scope dV kV doc pm an cdv ct) ps sp:=by
 refine ⟨len,fun A outer s H args us vs Q E hr e0 hb r hsp=>?_⟩;have hl:=len _ _ _ _ hsp;have KX:K.In s.heap:=e0.mod.kin.keeps fun b o e=>(e0.bs b o e).1;have lim:s.heap.NoLimit:=e0.mod.nolimit.keeps fun b o e=>(e0.bs b o e).1;have hkind:∀ y ∈ ps.zip us,scope.names.lookup y.1=some .local\/(scope.names.lookup y.1=some .cell/\((cellsFrom (s.heap.objs.size + 1) scope.names []).lookup y.1).isSome=true):=fun ⟨n,v⟩ hy=>by
  rcases S.par n (List.of_mem_zip hy).1 with q | q
  ·exact .inl q
  ·exact .inr ⟨q,PySem.W.cellsFrom_some _ _ _ (.inl q)⟩
 refine codeAny_call_function hr.depth (KX _ _ lk) rfl S.co S.gen rfl (PySem.W.codeRec_of KX hcd) (hb _ _ _ _ ?_);refine wpAny_newFunctionEnv_cells S.kind hkind fun env he s1 x=>?_;subst he;refine ⟨lim.keeps x.toInCall.keep,codeAny_func ?_⟩;obtain ⟨t,ht,hq⟩:=hbody A outer s H vs Q E (hr.deeper _) hsp;have I:Inv (cxOf CX P w K mg base N qual scope f cdv A outer s H E) [] (start N vs) H s1:=inv_start S hr.hd e0 hl r x;refine wpAny_mono (ht [] s1 (start N vs) H _ I hq) (fun fl s' hs=>?_) fun e s' hs=>hs;have fin:∀ {σ':St} {H':Hp} {v:V} {u:Value},Inv (cxOf CX P w K mg base N qual scope f cdv A outer s H E) [] σ' H' s'->RelV v u->Q v H'->CE outer P w H s Q u s' :=
  fun {σ' H' v u} J rv q=>⟨v,H',J.os,J.bare,J.base,J.hok,rv,q⟩
 cases fl with
 | ret u =>
  obtain ⟨v,σ',H',J,rv,q⟩:=hs;exact fin J rv q
 | next =>
  obtain ⟨σ',H',J,q⟩:=hs;exact fin (v:=V.non) (u:=Value.none) J rfl q
 | brk =>
  obtain ⟨_,_,_,q⟩:=hs;exact False.elim q
 | cont =>
  obtain ⟨_,_,_,q⟩:=hs;exact False.elim q
end L2
namespace L2
open PySem PySem.Spec PyProof.Rows
section
variable {X:Cx}{x:Str}{p pos:Pos}{e:Expr}{es:List Expr}{t:TA}{id T:String}{r:List V->Hp->VK->Prop}
noncomputable def tCB (r:List V->Hp->VK->Prop)(t:TA):TE:=fun σ H Q=>t σ H fun vs H1=>r vs H1 Q
theorem pe_callB (hc:CallR X (.builtin id) r)(hg:Gl X x)(hm:X.mg x=none)(hv:bootBuiltins x=some (.builtin id))(ha:PA X (e :: es) t)(hn:x ≠ "__name__":=by decide)(hdb:(x == ("__debug__":Str))=false:=by decide)
  (he:starEach (e :: es) X.env=(false,eval e X.env) :: starEach es X.env:=by rfl) (hpl:(backTo pos (starEach es X.env)).any (·.1)=false:=by rfl):PE X (.Call (.Name x p) (e :: es) [] pos) (tCB r t):=by
 intro pins s σ H Q I h;refine wpAny_Call_Name_kw (ld_blt I hg hm hv ?_ hn hdb);exact PyProof.Rows.callWith_builtin1 (thn (ha pos pins s σ H _ I h) fun us s1 ⟨vs,H1,I1,r1,q1⟩=>hc pins s1 σ H1 vs us Q I1 r1 q1) he hpl
theorem pe_callTy (hc:CallR X (.type T) r)(hg:Gl X x)(hm:X.mg x=none)(hv:bootBuiltins x=some (.type T))(ha:PA X (e :: es) t)(hn:x ≠ "__name__":=by decide)(hdb:(x == ("__debug__":Str))=false:=by decide)
  (he:starEach (e :: es) X.env=(false,eval e X.env) :: starEach es X.env:=by rfl) (hpl:(backTo pos (starEach es X.env)).any (·.1)=false:=by rfl):PE X (.Call (.Name x p) (e :: es) [] pos) (tCB r t):=by
 intro pins s σ H Q I h;refine wpAny_Call_Name_kw (ld_blt I hg hm hv ?_ hn hdb);exact PyProof.Rows.callWith_type1 (thn (ha pos pins s σ H _ I h) fun us s1 ⟨vs,H1,I1,r1,q1⟩=>hc pins s1 σ H1 vs us Q I1 r1 q1) he hpl
end
end L2
namespace HT
open PySem PyProof.Rows
section
open PySem.SeqAt
open PySem.AutoSeq1 (wpAny_loadPart')
open PySem.MeetsSeq PySem.MeetsSeq2 PySem.MeetsSeq3
end
section
variable {prog:Program}{w:World}{A:Around}{E:Value->Shared->Prop}{s:Shared}
noncomputable def sIx (n d:Nat):Option Int->Nat
 | none=>d
 | some v=>if v < 0 then (v + (n:Int)).toNat else min v.toNat n
theorem sIx_nat (n d k:Nat):sIx n d (some (k:Int))=min k n:=by
 show (if (k:Int) < 0 then ((k:Int) + (n:Int)).toNat else min (k:Int).toNat n)=min k n;rw [if_neg (by omega),Int.toNat_natCast]
theorem sIx_le (n d:Nat)(hd:d<=n)(o:Option Int):sIx n d o<=n:=by
 cases o with
 | none=>exact hd
 | some v =>
  show (if v < 0 then (v + (n:Int)).toNat else min v.toNat n)<=n;by_cases hv:v < 0
  ·rw [if_pos hv]; omega
  ·rw [if_neg hv]; exact Nat.min_le_right _ _
end
end HT
namespace L2
open PySem PySem.Spec PyProof.Rows
noncomputable abbrev TO:=St->Hp->(Option Int->Hp->Prop)->Prop
noncomputable def PO (X:Cx)(e:Option Expr)(t:TO):Prop :=
 ∀ (pins:List (Addr × Obj)) (s:Shared) (σ:St) (H:Hp) (Q:Option Int->Hp->Prop),Inv X pins σ H s->t σ H Q ->
  wpAny (model X.prog X.w) X.A (evalPart e X.env) (fun u s'=>∃ o H',Inv X pins σ H' s'/\IsPart u o/\Q o H') X.xe s
noncomputable def tNoPart:TO:=fun _ H Q=>Q none H
noncomputable def tPart (t:TE):TO:=fun σ H Q=>t σ H fun x H1=>∃ i,x=.int i/\Q (some i) H1
section
variable {X:Cx}{e:Expr}{te:TE}{lo hi:Option Expr}{tl th:TO}{pos p2:Pos}
theorem po_none:PO X none tNoPart:=by
 intro pins s σ H Q I h;rw [evalPart_none];exact wpAny_pure ⟨none,H,I,.none,h⟩
theorem po_some (h:PE X e te):PO X (some e) (tPart te):=by
 intro pins s σ H Q I hw;rw [evalPart_some];refine thn (h pins s σ H _ I hw) fun u s1 ⟨x,H1,I1,r1,q1⟩=>?_;obtain ⟨i,rfl,q⟩:=q1;obtain ⟨t,rfl⟩:=r1;exact ⟨some i,H1,I1,.int i t,q⟩
noncomputable def SlR (X:Cx)(r:V->Option Int->Option Int->Hp->VK->Prop):Prop :=
 ∀ (pins:List (Addr × Obj)) (s:Shared) (σ:St) (H:Hp) (x:V) (v vl vu:Value) (lo hi:Option Int) (sl:Addr) (Q:VK),Inv X pins σ H s->RelV x v->s.heap.IsSliceOf sl vl vu .none->IsPart vl lo->IsPart vu hi->r x lo hi H Q ->
  ∃ T id,typeLookup (.type T) "__getitem__"=pure (some (.builtin id))/\s.TypeIs v T/\wpAny (model X.prog X.w) X.A (getItem v (.ref sl)) (EP X pins σ Q) X.xe s
noncomputable def tSl (r:V->Option Int->Option Int->Hp->VK->Prop)(te:TE)(tl th:TO):TE:=fun σ H Q=>te σ H fun x H1=>tl σ H1 fun l H2=>th σ H2 fun u H3=>r x l u H3 Q
theorem pe_slice {r:V->Option Int->Option Int->Hp->VK->Prop}(hr:SlR X r)(he:PE X e te)(hl:PO X lo tl)(hu:PO X hi th):PE X (.Subscript e (.Slice lo hi none p2) pos) (tSl r te tl th):=by
 intro pins s σ H Q I h;refine Subscript_ (thn (he pins s σ H _ I h) fun v s1 ⟨x,H1,I1,r1,q1⟩=>?_);refine wpAny_Slice (thn (hl pins s1 σ H1 _ I1 q1) fun vl s2 ⟨l,H2,I2,pl,q2⟩=>thn (hu pins s2 σ H2 _ I2 q2) fun vu s3 ⟨u,H3,I3,pu,q3⟩=>?_);rw [evalPart_none];refine wpAny_pure ?_;have I4:Inv X pins σ H3 { s3 with heap:=s3.heap.push { cls:=.type "slice",data:=.fields #[vl,vu,.none] } }:=I3.kept (t':=s3.toks) fun b ob q=>Heap.get?_push_of_some _ q;obtain ⟨T,id,hT,ht,hg⟩:=hr pins { s3 with heap:=s3.heap.push { cls:=.type "slice",data:=.fields #[vl,vu,.none] } } σ H3 x v vl vu l u s3.heap.objs.size Q I4 r1 (Heap.IsSliceOf.new ..) pl pu q3;show wpAny (model X.prog X.w) X.A (subscriptTail e (.Slice lo hi none p2) v (.ref s3.heap.objs.size)) (EP X pins σ Q) X.xe { s3 with heap:=s3.heap.push { cls:=.type "slice",data:=.fields #[vl,vu,.none] } };exact tail_any (ops:=[.ref s3.heap.objs.size,v]) ht hT hg (by with_unfolding_all rfl)
noncomputable def cutV (xs:List V)(lo hi:Option Int):List V:=(xs.drop (HT.sIx xs.length 0 lo)).take (HT.sIx xs.length xs.length hi - HT.sIx xs.length 0 lo)
theorem cutV_length (xs:List V)(lo hi:Option Int):(cutV xs lo hi).length<=xs.length:=by
 unfold cutV;rw [List.length_take,List.length_drop];omega
end
end L2
namespace L2
open PySem PySem.Spec PyProof.Rows
noncomputable def ixN (n:Nat)(i:Int):Option Nat:=if 0<=i then (if i < n then some i.toNat else none) else if -(n:Int)<=i then some (i + n).toNat else none
noncomputable def atI {α:Type}(xs:List α)(i:Int):Option α:=(ixN xs.length i).bind fun j=>xs[j]?
theorem ixN_seq {n:Nat}{i:Int}{j:Nat}(h:ixN n i=some j):seqIndex? i n=some j/\j < n/\-(n:Int)<=i/\i < n:=by
 unfold ixN at h;by_cases h0:0<=i
 ·rw [if_pos h0] at h;by_cases h1:i < n
  ·rw [if_pos h1] at h;have e:i.toNat=j:=Option.some.inj h;exact ⟨by rw [seqIndex_of h0 h1,e],by omega,by omega,h1⟩
  ·rw [if_neg h1] at h; cases h
 ·rw [if_neg h0] at h;by_cases h1:-(n:Int)<=i
  ·rw [if_pos h1] at h;have e:(i + n).toNat=j:=Option.some.inj h;exact ⟨by rw [seqIndex_neg (by omega) h1,e],by omega,h1,by omega⟩
  ·rw [if_neg h1] at h; cases h
theorem atI_get {α:Type}{xs:List α}{i:Int}{v:α}(h:atI xs i=some v):∃ j,seqIndex? i xs.length=some j/\xs[j]?=some v/\j < xs.length/\-(xs.length:Int)<=i/\i < xs.length:=by
 unfold atI at h;cases e:ixN xs.length i with
 | none=>rw [e] at h; cases h
 | some j =>
  rw [e] at h;obtain ⟨h1,h2,h3,h4⟩:=ixN_seq e;exact ⟨j,h1,h,h2,h3,h4⟩
theorem atI_nat {α:Type}{xs:List α}{j:Nat}{v:α}(h:xs[j]?=some v):atI xs (j:Int)=some v:=by
 have hj:j < xs.length:=(List.getElem?_eq_some_iff.mp h).1;have e:ixN xs.length (j:Int)=some j:=by
  unfold ixN;rw [if_pos (by omega),if_pos (by omega)]; simp
 unfold atI; rw [e]; exact h
noncomputable def PlainIx (b:Expr):Prop:=∀ o i,subscripted b false o i=operate [o,i] (getItem o i)
noncomputable def IxR (X:Cx)(r:R2):Prop :=
 ∀ (value slice:Expr) (pins:List (Addr × Obj)) (s:Shared) (σ:St) (H:Hp) (x y:V) (v u:Value) (Q:VK),Inv X pins σ H s->RelV x v->RelV y u->r x y H Q ->
  subscripted slice false v u=operate [v,u] (getItem v u)->wpAny (model X.prog X.w) X.A (subscriptTail value slice v u) (EP X pins σ Q) X.xe s
noncomputable def MtR (X:Cx)(id:String)(r:V->List V->Hp->VK->Prop):Prop :=
 ∀ (pins:List (Addr × Obj)) (s:Shared) (σ:St) (H:Hp) (x:V) (xs:List V) (v:Value) (us:List Value) (Q:VK),Inv X pins σ H s->RelV x v->Vals xs us->r x xs H Q ->
  wpAny (model X.prog X.w) X.A (call (.builtin id) (v :: us)) (EP X pins σ Q) X.xe s
section
variable {X:Cx}{a b:Expr}{ta tb:TE}{pos:Pos}
theorem pe_ix {r:R2}(hr:IxR X r)(ha:PE X a ta)(hb:PE X b tb)(hs:PlainIx b):PE X (.Subscript a b pos) (tOp r ta tb):=by
 intro pins s σ H Q I h;exact Subscript_ (binT ha hb I h fun v u s2 x y H2 I2 rx ry q=>hr a b pins s2 σ H2 x y v u Q I2 rx ry q (hs _ _))
noncomputable def rIxL (K:PySem.W.Frag):R2:=fun x y H Q=>∃ p xs i v,x=.ref p/\y=.int i/\SqL K H p xs/\atI xs i=some v/\Q v H
noncomputable def rIxT (K:PySem.W.Frag):R2:=fun x y H Q=>∃ p xs i v,x=.ref p/\y=.int i/\SqT K H p xs/\atI xs i=some v/\Q v H
noncomputable def rIxS:R2:=fun x y H Q=>∃ z i c,x=.str z/\y=.int i/\z.length<=sizeLine/\atI z.cps.toList i=some c/\Q (.str ⟨#[c]⟩) H
theorem ix_list:IxR X (rIxL X.K):=by
 intro value slice pins s σ H x y v u Q I rx ry h hs;obtain ⟨p,xs,i,z,rfl,rfl,hq,he,q⟩:=h;cases rx;obtain ⟨t,rfl⟩:=ry;obtain ⟨its,r,pl,hz⟩:=I.list hq;obtain ⟨j,h1,h2,h3,h4,h5⟩:=atI_get he;obtain ⟨w,ew,rw'⟩:=r.get h2;have hl:=r.length;have hn:=line63;have fin:EP X pins σ Q w s:=⟨z,H,I,rw',q⟩;by_cases h0:0<=i
 ·have hj:i.toNat=j:=by
   rw [seqIndex_of h0 h5] at h1;exact Option.some.inj h1
  exact item_listR pl.isList h0 (by omega) (by rw [hj]; simpa using ew) fin hs
 ·have hj:(i + (its.toArray.size:Int)).toNat=j:=by
   rw [seqIndex_neg (by omega) h4] at h1;rw [List.size_toArray,<- hl];exact Option.some.inj h1
  exact subscriptTail_builtinR (x:=w) pl.isList.typeIs slot_list_getitem.lookup
   (wpAny_getItem_list_neg (Q:=fun r s'=>r=w/\EP X pins σ Q r s') pl.isList (by omega) (by rw [List.size_toArray] <;> omega) (by omega) (by rw [hj]; simpa using ew) ⟨rfl,fin⟩) hs
theorem ix_tup:IxR X (rIxT X.K):=by
 intro value slice pins s σ H x y v u Q I rx ry h hs;obtain ⟨p,xs,i,z,rfl,rfl,hq,he,q⟩:=h;cases rx;obtain ⟨t,rfl⟩:=ry;obtain ⟨its,r,pl,hz⟩:=I.tuple hq;obtain ⟨j,h1,h2,h3,h4,h5⟩:=atI_get he;obtain ⟨w,ew,rw'⟩:=r.get h2;have hl:=r.length;have hn:=line63;have fin:EP X pins σ Q w s:=⟨z,H,I,rw',q⟩;exact subscriptTail_builtinR (x:=w) pl.typeIs slot_tuple_getitem.lookup
  (getItem_tuple (j:=j) (Q:=fun r s'=>r=w/\EP X pins σ Q r s') pl (by omega) (by omega) (by rw [List.size_toArray,<- hl]; exact h1) (by simpa using ew) ⟨rfl,fin⟩) hs
theorem ix_str:IxR X rIxS:=by
 intro value slice pins s σ H x y v u Q I rx ry h hs;obtain ⟨z,i,c,rfl,rfl,hz,he,q⟩:=h;obtain ⟨t,rfl⟩:=rx;obtain ⟨t',rfl⟩:=ry;obtain ⟨j,h1,h2,h3,h4,h5⟩:=atI_get he;have hl:z.cps.toList.length=z.length:=by simp [Str.length]
 rw [hl] at h1 h4 h5;have hn:=line63;exact tail_any (typeIs_str s z t) slot_str_getitem.lookup (getItem_str (c:=c) (by
  have e1:decide (i < -(2 ^ 63:Int))=false:=decide_eq_false (by omega);have e2:decide (i >= 2 ^ 63)=false:=decide_eq_false (by omega);rw [e1,e2,Bool.or_false]) (by rw [h1]; simpa using h2) ⟨.str ⟨#[c]⟩,H,I.tok _,⟨_,rfl⟩,q⟩) hs
theorem slice_bounds (lo hi:Option Int)(n:Nat):(sliceBounds lo hi none n).1=((HT.sIx n 0 lo:Nat):Int)/\(sliceBounds lo hi none n).2.1=((HT.sIx n n hi:Nat):Int)/\(sliceBounds lo hi none n).2.2=1:=by
 refine ⟨?_,?_,rfl⟩
 ·cases lo with
  | none=>simp [sliceBounds,HT.sIx]
  | some i =>
   simp only [sliceBounds,HT.sIx,Option.getD_none,show (1:Int) > 0 by decide,if_true];by_cases h:i < 0
   ·simp only [h,if_true] <;> omega
   ·simp only [h,if_false] <;> omega
 ·cases hi with
  | none=>simp [sliceBounds,HT.sIx]
  | some i =>
   simp only [sliceBounds,HT.sIx,Option.getD_none,show (1:Int) > 0 by decide,if_true];by_cases h:i < 0
   ·simp only [h,if_true] <;> omega
   ·simp only [h,if_false] <;> omega
theorem slicePick_cut (its:List Value)(lo hi:Option Int):slicePick its.toArray lo hi none=((its.drop (HT.sIx its.length 0 lo)).take (HT.sIx its.length its.length hi - HT.sIx its.length 0 lo)).toArray:=by
 obtain ⟨h1,h2,h3⟩:=slice_bounds lo hi its.toArray.size;unfold slicePick;rw [h1,h2,h3];simp only [sliceRange_one,pick_run,List.size_toArray] <;> rfl
noncomputable def rSlL (K:PySem.W.Frag):V->Option Int->Option Int->Hp->VK->Prop:=fun x lo hi H Q=>∃ a xs,x=.ref a/\SqL K H a xs/\∀ p,H p=none->Q (.ref p) (upd H p (.lst (cutV xs lo hi)))
theorem sl_list:SlR X (rSlL X.K):=by
 intro pins s σ H x v vl vu lo hi sl Q I rx hs pl pu h;obtain ⟨a,xs,rfl,hx,q⟩:=h;cases rx;obtain ⟨its,r,ht,hz⟩:=I.list hx;have hlen:=r.length;refine ⟨"list",_,slot_list_getitem.lookup,ht.isList.typeIs,?_⟩;refine wpAny_getItem_list_slice ht.isList hs pl pu .none (by simp) ?_ (by rw [List.size_toArray] <;> omega);rw [slicePick_cut,<- hlen];refine ⟨.ref s.heap.objs.size,_,I.laid (t':=s.toks) (o:=.lst (cutV xs lo hi)) (fun b ob q=>Heap.get?_push_of_some _ q) (Nat.le_refl _) ?_,rfl,q _ (I.hok.fresh (Nat.le_refl _))⟩;exact ⟨Nat.le_trans (cutV_length xs lo hi) hz,_,0,(r.drop (HT.sIx xs.length 0 lo)).take (HT.sIx xs.length xs.length hi - HT.sIx xs.length 0 lo),Heap.get?_push_size _ rfl⟩
noncomputable def flatV:V->Bool
 | .non=>true
 | .bl _=>true
 | .int _=>true
 | .str _=>true
 | _=>false
noncomputable def eqV:V->V->Bool
 | .non,.non=>true
 | .bl a,.bl b=>a == b
 | .bl a,.int b=>(if a then 1 else 0) == b
 | .int a,.bl b=>a == (if b then 1 else 0)
 | .int a,.int b=>a == b
 | .str a,.str b=>a == b
 | _,_=>false
theorem eqAt_V {A:Around}{s:Shared}{y x:V}{u v:Value}(ry:RelV y u)(rx:RelV x v)(fy:flatV y=true)(fx:flatV x=true):SeqAt.EqAt A s u v (eqV y x):=by
 cases y with
 | non =>
  cases ry;cases x with
  | non=>cases rx; exact SeqAt.EqAt.same _
  | bl b=>cases rx; exact SeqAt.EqAt.none_bool b
  | int b=>obtain ⟨t,rfl⟩:=rx; exact SeqAt.EqAt.none_int b t
  | str b=>obtain ⟨t,rfl⟩:=rx; exact SeqAt.EqAt.none_str b t
  | _=>exact absurd (show false=true from fx) Bool.false_ne_true
 | bl a =>
  cases ry;cases x with
  | non=>cases rx; exact SeqAt.EqAt.bool_none a
  | bl b=>cases rx; exact SeqAt.EqAt.bool_bool a b
  | int b=>obtain ⟨t,rfl⟩:=rx; exact SeqAt.EqAt.bool_int a b t
  | str b=>obtain ⟨t,rfl⟩:=rx; exact SeqAt.EqAt.bool_str a b t
  | _=>exact absurd (show false=true from fx) Bool.false_ne_true
 | int a =>
  obtain ⟨t',rfl⟩:=ry;cases x with
  | non=>cases rx; exact SeqAt.EqAt.int_none a t'
  | bl b=>cases rx; exact SeqAt.EqAt.int_bool a t' b
  | int b=>obtain ⟨t,rfl⟩:=rx; exact SeqAt.EqAt.int_int a t' b t
  | str b=>obtain ⟨t,rfl⟩:=rx; exact SeqAt.EqAt.int_str a t' b t
  | _=>exact absurd (show false=true from fx) Bool.false_ne_true
 | str a =>
  obtain ⟨t',rfl⟩:=ry;cases x with
  | non=>cases rx; exact SeqAt.EqAt.str_none a t'
  | bl b=>cases rx; exact SeqAt.EqAt.str_bool a t' b
  | int b=>obtain ⟨t,rfl⟩:=rx; exact SeqAt.EqAt.str_int a t' b t
  | str b=>obtain ⟨t,rfl⟩:=rx; exact SeqAt.EqAt.str_str a t' b t
  | _=>exact absurd (show false=true from fx) Bool.false_ne_true
 | _=>exact absurd (show false=true from fy) Bool.false_ne_true
noncomputable def eqU (x:V)(u:Value):Bool:=match u with
 | .none=>eqV .non x
 | .bool b=>eqV (.bl b) x
 | .int i _=>eqV (.int i) x
 | .str z _=>eqV (.str z) x
 | _=>false
theorem eqU_of {x y:V}{u:Value}(r:RelV y u)(f:flatV y=true):eqU x u=eqV y x:=by
 cases y with
 | non=>cases r; rfl
 | bl b=>cases r; rfl
 | int i=>obtain ⟨t,rfl⟩:=r; rfl
 | str z=>obtain ⟨t,rfl⟩:=r; rfl
 | _=>exact absurd (show false=true from f) Bool.false_ne_true
theorem any_eqU {x:V}:∀ {xs:List V} {us:List Value},Vals xs us->xs.all flatV=true->us.any (eqU x)=xs.any fun y=>eqV y x
 | _,_,.nil,_=>rfl
 | y :: xs,u :: us,.cons r t,f=>by
  rw [List.all_cons,Bool.and_eq_true] at f;rw [List.any_cons,List.any_cons,eqU_of r f.1,any_eqU t f.2]
theorem mem_eqAt {A:Around}{s:Shared}{x:V}{v:Value}(rx:RelV x v)(fx:flatV x=true):∀ {xs:List V} {us:List Value},Vals xs us->xs.all flatV=true->∀ u ∈ us,SeqAt.EqAt A s u v (eqU x u)
 | _,_,.nil,_=>fun u hu=>by cases hu
 | y :: xs,u :: us,.cons r t,f=>fun u' hu=>by
  rw [List.all_cons,Bool.and_eq_true] at f;rcases List.mem_cons.mp hu with rfl | hu
  ·rw [eqU_of r f.1]; exact eqAt_V r rx f.1 fx
  ·exact mem_eqAt rx fx t f.2 u' hu
noncomputable def inV (x:V)(xs:List V):Bool:=xs.any fun y=>eqV y x
noncomputable def rIn (K:PySem.W.Frag)(neg:Bool):R2:=fun x y H Q=>∃ p xs,y=.ref p/\(SqL K H p xs\/SqT K H p xs)/\flatV x=true/\xs.all flatV=true/\Q (.bl (if neg then !inV x xs else inV x xs)) H
theorem op_in_seq:OpR X (compareOp .In) (rIn X.K false):=by
 intro pins s σ H x y v u Q I rx ry h;obtain ⟨p,xs,rfl,hq,fx,fs,q⟩:=h;cases ry;rcases hq with hq | hq
 ·obtain ⟨its,r,pl,hz⟩:=I.list hq;refine SeqAt.in_listAt (eqU x) pl.isList (fun w hw=>mem_eqAt rx fx r fs w (by simpa using hw)) ⟨.bl _,H,I,rfl,?_⟩;rw [show its.toArray.any (eqU x)=its.any (eqU x) by simp,any_eqU r fs];exact q
 ·obtain ⟨its,r,pl,hz⟩:=I.tuple hq;refine SeqAt.in_tupleAt (eqU x) pl (fun w hw=>mem_eqAt rx fx r fs w (by simpa using hw)) ⟨.bl _,H,I,rfl,?_⟩;rw [show its.toArray.any (eqU x)=its.any (eqU x) by simp,any_eqU r fs];exact q
theorem op_notIn_seq:OpR X (compareOp .NotIn) (rIn X.K true):=by
 intro pins s σ H x y v u Q I rx ry h;obtain ⟨p,xs,rfl,hq,fx,fs,q⟩:=h;cases ry;rcases hq with hq | hq
 ·obtain ⟨its,r,pl,hz⟩:=I.list hq;refine SeqAt.notIn_listAt (eqU x) pl.isList (fun w hw=>mem_eqAt rx fx r fs w (by simpa using hw)) ⟨.bl _,H,I,rfl,?_⟩;rw [show its.toArray.any (eqU x)=its.any (eqU x) by simp,any_eqU r fs];exact q
 ·obtain ⟨its,r,pl,hz⟩:=I.tuple hq;refine SeqAt.notIn_tupleAt (eqU x) pl (fun w hw=>mem_eqAt rx fx r fs w (by simpa using hw)) ⟨.bl _,H,I,rfl,?_⟩;rw [show its.toArray.any (eqU x)=its.any (eqU x) by simp,any_eqU r fs];exact q
theorem call_len_seq:CallR X (.builtin "len") (fun xs H Q=>∃ p ys,xs=[.ref p]/\(SqL X.K H p ys\/SqT X.K H p ys)/\Q (.int ys.length) H):=by
 intro pins s σ H xs us Q I r h;obtain ⟨p,ys,rfl,hq,q⟩:=h;obtain ⟨u,rfl,rx⟩:=vals1 r;cases rx;have hn:=line63;rcases hq with hq | hq
 ·obtain ⟨its,r',pl,hz⟩:=I.list hq;have hlen:=r'.length;exact Calls.call_len_list pl.isList (by simp only [List.size_toArray] <;> omega) ⟨.int ys.length,H,I.tok _,⟨s.toks + 1,by rw [List.size_toArray,hlen]⟩,q⟩
 ·obtain ⟨its,r',pl,hz⟩:=I.tuple hq;have hlen:=r'.length;exact len_tuple pl (by simp only [List.size_toArray] <;> omega) ⟨.int ys.length,H,I.tok _,⟨s.toks + 1,by rw [List.size_toArray,hlen]⟩,q⟩
theorem call_len_str:CallR X (.builtin "len") (fun xs H Q=>∃ z,xs=[.str z]/\z.length<=sizeLine/\Q (.int z.length) H):=by
 intro pins s σ H xs us Q I r h;obtain ⟨z,rfl,hz,q⟩:=h;obtain ⟨u,rfl,t,rfl⟩:=vals1 r;have hn:=line63;exact len_str (by omega) ⟨.int z.length,H,I.tok _,⟨_,rfl⟩,q⟩
theorem call_list_of:CallR X (.type "list") (fun xs H Q=>∃ p ys,xs=[.ref p]/\(SqL X.K H p ys\/SqT X.K H p ys)/\∀ l,H l=none->Q (.ref l) (upd H l (.lst ys))):=by
 intro pins s σ H xs us Q I r h;obtain ⟨p,ys,rfl,hq,q⟩:=h;obtain ⟨u,rfl,rx⟩:=vals1 r;cases rx;have fin:∀ (its:List Value),Vals ys its->ys.length<=sizeLine->∀ (h':Heap) (c':Nat),(∀ b o',s.heap.get? b=some o'->h'.get? b=some o') ->
   h'.get? s.heap.objs.size=some { cls:=.type "list",dict:=none,data:=.seq its.toArray c',slots:=#[] }->EP X pins σ Q (.ref s.heap.objs.size) { s with heap:=h' }:=fun its r' hz h' c' kp e =>
  ⟨.ref s.heap.objs.size,_,I.laid (t':=s.toks) kp (Nat.le_refl _) (show ObjOk X.prog X.w _ h' _ (.lst ys) from ⟨hz,its,c',r',e⟩),rfl,q _ (I.hok.fresh (Nat.le_refl _))⟩
 rcases hq with hq | hq
 ·obtain ⟨its,r',pl,hz⟩:=I.list hq;have hlen:=r'.length;obtain ⟨o,ho,hc,n,hd⟩:=pl.isList;exact call_list_seq p (.inl rfl) ho hc hd (fun h' c' kp e=>fin its r' hz h' c' kp e) (by simp only [List.size_toArray] <;> omega)
 ·obtain ⟨its,r',pl,hz⟩:=I.tuple hq;have hlen:=r'.length;obtain ⟨o,ho,hc,n,hd⟩:=pl;exact call_list_seq p (.inr rfl) ho hc hd (fun h' c' kp e=>fin its r' hz h' c' kp e) (by simp only [List.size_toArray] <;> omega)
noncomputable def tyV (K:PySem.W.Frag)(T:String)(x:V)(H:Hp):Prop:=match x with
 | .str _=>T="str"
 | .int _=>T="int"
 | .ref p=>(T="list"/\∃ xs,SqL K H p xs)\/(T="tuple"/\∃ o,K.lookup p=some o/\o.cls=.type "tuple"/\o.dict=none) \/
   (T="dict"/\((∃ kvs,H p=some (.dK kvs))\/∃ kvs,H p=some (.dT kvs)))\/(T="set"/\∃ S n,H p=some (.set S n))
 | _=>False
theorem tyV_is {pins:List (Addr × Obj)}{σ:St}{H:Hp}{s:Shared}{T:String}{x:V}{v:Value}(I:Inv X pins σ H s)(r:RelV x v)(ty:tyV X.K T x H) :
  s.TypeIs v T/\∀ a,v=.ref a->∃ ob,s.heap.get? a=some ob/\ob.dict=none:=by
 cases x with
 | str z =>
  obtain ⟨t,rfl⟩:=r;cases (show T="str" from ty);exact ⟨typeIs_str s z t,fun _ e=>nomatch e⟩
 | int i =>
  obtain ⟨t,rfl⟩:=r;cases (show T="int" from ty);exact ⟨typeIs_int s i t,fun _ e=>nomatch e⟩
 | ref p =>
  cases r;rcases ty with ⟨rfl,xs,hq⟩ | ⟨rfl,o,hk,hc,hd⟩ | ⟨rfl,hk⟩ | ⟨rfl,S,n,hk⟩
  ·obtain ⟨its,_,pl,_⟩:=I.list hq;refine ⟨pl.isList.typeIs,fun a e=>?_⟩;cases e;obtain ⟨o,n,e,c,hd,_⟩:=pl;exact ⟨o,e,hd⟩
  ·refine ⟨⟨o,I.kIn p o hk,hc⟩,fun a e=>?_⟩;cases e;exact ⟨o,I.kIn _ o hk,hd⟩
  ·have z:∃ o,s.heap.get? p=some o/\o.ExactDict:=by
    rcases hk with ⟨kvs,hk⟩ | ⟨kvs,hk⟩
    ·obtain ⟨_,_,_,_,o,_,_,e,ex,_⟩:=I.hok p _ hk;exact ⟨o,e,ex⟩
    ·obtain ⟨_,_,_,_,o,_,_,e,ex,_⟩:=I.hok p _ hk;exact ⟨o,e,ex⟩
   obtain ⟨o,e,ex⟩:=z;refine ⟨⟨o,e,ex.1⟩,fun a e2=>?_⟩;cases e2;exact ⟨o,e,ex.2.1⟩
  ·obtain ⟨o,_,_,_,e,ex,_⟩:=I.hok p _ hk;refine ⟨⟨o,e,ex.1⟩,fun a e2=>?_⟩;cases e2;exact ⟨o,e,ex.2.1⟩
 | _=>exact False.elim ty
noncomputable def tBM0 (K:PySem.W.Frag)(T:String)(r:V->List V->Hp->VK->Prop)(to:TE):TE:=fun σ H Q=>to σ H fun x H1=>tyV K T x H1/\r x [] H1 Q
noncomputable def tBM (K:PySem.W.Frag)(T:String)(r:V->List V->Hp->VK->Prop)(to:TE)(t:TA):TE:=fun σ H Q=>to σ H fun x H1=>tyV K T x H1/\t σ H1 fun xs H2=>r x xs H2 Q
variable {o e:Expr}{es:List Expr}{to:TE}{t:TA}{name:Str}{apos cpos:Pos}{T id:String}{r:V->List V->Hp->VK->Prop}
theorem pe_bm0 (pa:PlainAttrs T)(slot:Slot T name id)(hty:typeOf (.builtin id)=pure (.type "method_descriptor"))(hm:MtR X id r)(ho:PE X o to)
  (hbase:attributeBase o name X.env (eval o X.env)=eval o X.env:=by rfl) (hline:(apos.endLine == cpos.line)=true:=by rfl):PE X (.Call (.Attribute o name apos) [] [] cpos) (tBM0 X.K T r to):=by
 intro pins s σ H Q I h;refine wpAny_Call_method0_late hbase hline (thn (ho pins s σ H _ I h) fun v s1 ⟨x,H1,I1,r1,ty,q1⟩=>?_);obtain ⟨h1,h2⟩:=tyV_is I1 r1 ty;exact ⟨T,id,pa,slot,hty,h1,h2,Calls.callWith_builtin rfl (PySem.evalArgs_none (hm pins s1 σ H1 x [] v [] Q I1 r1 .nil q1))⟩
theorem pe_bm (pa:PlainAttrs T)(slot:Slot T name id)(hty:typeOf (.builtin id)=pure (.type "method_descriptor"))(hm:MtR X id r)(ho:PE X o to)(ha:PA X (e :: es) t)
  (hbase:attributeBase o name X.env (eval o X.env)=eval o X.env:=by rfl)
  (hfew:((backTo cpos (starEach (e :: es) X.env)).all (fun x=>!x.1) && (backToKw cpos (keywordEach [] X.env)).all (fun x=>x.1.isSome)
   && decide ((e :: es).length + ([]:List Keyword).length + (if ([]:List Keyword).isEmpty then 0 else 1) < 30))=true:=by rfl)
  (hline:(apos.endLine == cpos.line)=true:=by rfl) (hs:starEach (e :: es) X.env=(false,eval e X.env) :: starEach es X.env:=by rfl) (hplain:(backTo cpos (starEach es X.env)).any (·.1)=false:=by rfl) :
  PE X (.Call (.Attribute o name apos) (e :: es) [] cpos) (tBM X.K T r to t):=by
 intro pins s σ H Q I h;refine wpAny_Call_method_late hbase hfew hline rfl (thn (ho pins s σ H _ I h) fun v s1 ⟨x,H1,I1,r1,ty,q1⟩=>?_);obtain ⟨h1,h2⟩:=tyV_is I1 r1 ty;refine ⟨T,id,pa,slot,hty,h1,h2,?_⟩;have hA:=ha cpos pins s1 σ H1 _ I1 q1;rw [hs] at hA ⊢;refine Calls.callWith_builtin (by show (false || (backTo cpos (starEach es X.env)).any (·.1))=false; rw [hplain] <;> rfl) (Calls.evalArgs_plain ?_);exact thn hA fun us s2 ⟨vs,H2,I2,r2,q2⟩=>hm pins s2 σ H2 x vs v us Q I2 r1 r2 q2
/- xs.append(e),list.index on a module's tuple .. are MtR facts of 06m -/
end
end L2
namespace L2
open PySem PySem.Spec PyProof.Rows
noncomputable def MtM (X:Cx)(id:String)(r:V->List V->Hp->VK->Prop):Prop :=
 ∀ (pins:List (Addr × Obj)) (s:Shared) (σ:St) (H:Hp) (x:V) (xs:List V) (v:Value) (us:List Value) (Q:VK),Inv X pins σ H s->RelV x v->Vals xs us->r x xs H Q ->
  wpAny (model X.prog X.w) X.A (call (.builtin id) (v :: us)) (EP X pins σ Q) X.xe s
theorem Vals.one:∀ {x:V} {us:List Value},Vals [x] us->∃ u,us=[u]/\RelV x u
 | _,_,.cons r .nil=>⟨_,rfl,r⟩
theorem Vals.eraseIdx:∀ {xs:List V} {us:List Value} (i:Nat),Vals xs us->Vals (xs.eraseIdx i) (us.eraseIdx i)
 | _,_,_,.nil=>.nil
 | _,_,0,.cons _ t=>t
 | _,_,i + 1,.cons r t=>.cons r (Vals.eraseIdx i t)
theorem len_erase {α:Type}:∀ (l:List α) (i:Nat),(l.eraseIdx i).length<=l.length
 | [],_=>Nat.le_refl _
 | _ :: _,0=>Nat.le_succ _
 | _ :: r,i + 1=>Nat.succ_le_succ (len_erase r i)
section
variable {X:Cx}{pins:List (Addr × Obj)}{σ:St}{H:Hp}{s:Shared}{l b:Addr}{xs ys zs:List V}
theorem Inv.lset {its its':List Value}{n:Nat}{f:Array Value->Array Value}{t':Nat}(I:Inv X pins σ H s)(hH:H l=some (.lst xs))
  (e:s.heap.get? l=some { cls:=.type "list",data:=.seq its.toArray n }) (hf:f its.toArray=its'.toArray) (hv:Vals ys its') (hz:ys.length<=sizeLine) :
  Inv X pins σ (upd H l (.lst ys)) { s with heap:=s.heap.update l (Obj.mapSeq f),toks:=t' }:=by
 have q:=PySem.IsL.update e f;rw [hf] at q;refine I.write (x:=l) (e:=l) (by rw [hH]; exact trivial) (.inl rfl) (fun b' u hb hu=>(Heap.get?_update_other s.heap (Obj.mapSeq f) (Ne.symm hb)).trans hu) ⟨_,q⟩ ?_;exact ⟨hz,its',_,hv,q⟩
theorem Inv.lnew {its:List Value}{t':Nat}(I:Inv X pins σ H s)(hv:Vals ys its)(hz:ys.length<=sizeLine) :
  Inv X pins σ (upd H s.heap.objs.size (.lst ys)) { s with heap:=s.heap.push { cls:=.type "list",data:=.seq its.toArray },toks:=t' } :=
 I.laid (fun _ _ q=>Heap.get?_push_of_some _ q) (Nat.le_refl _) ⟨hz,its,0,hv,Heap.get?_push_size _ rfl⟩
theorem Inv.fresh (I:Inv X pins σ H s):H s.heap.objs.size=none:=I.hok.fresh (Nat.le_refl _)
theorem Inv.lstM (I:Inv X pins σ H s)(hH:H l=some (.lst xs)):xs.length<=sizeLine/\∃ (its:List Value) (n:Nat),Vals xs its/\xs.length=its.length/\s.heap.get? l=some { cls:=.type "list",data:=.seq its.toArray n }:=by
 obtain ⟨z,its,n,r,e⟩:=I.hok l _ hH;exact ⟨z,its,n,r,r.length,e⟩
theorem notLongL {n:Nat}(h:n<=sizeLine):Builtin.List.listTooLong n=false:=by
 unfold Builtin.List.listTooLong;exact decide_eq_false (by omega)
end
section
variable {X:Cx}
noncomputable def rAppend:V->List V->Hp->VK->Prop:=fun x vs H Q=>∃ l xs y,x=.ref l/\vs=[y]/\H l=some (.lst xs)/\xs.length < sizeLine/\Q .non (upd H l (.lst (xs++[y])))
theorem mt_append:MtM X "list.append" rAppend:=by
 intro pins s σ H x vs v us Q I rx rv h;obtain ⟨l,xs,y,rfl,rfl,hH,hz,q⟩:=h;cases rx;obtain ⟨u,rfl,ru⟩:=rv.one;obtain ⟨z,its,n,r,hl,e⟩:=I.lstM hH;refine call_meets F.slot_list_append ⟨_,e,rfl⟩ F.entry_list_append (F.args_list_append_2 _ _) (PySem.list_append l its.toArray n u (by rw [List.size_toArray]; omega)) ⟨e,?_⟩;refine ⟨.non,_,I.lset (its':=its++[u]) hH e (by simp) (r.append (.cons ru .nil)) ?_,rfl,q⟩;rw [List.length_append,List.length_singleton];omega
noncomputable def rExtend:V->List V->Hp->VK->Prop:=fun x vs H Q=>∃ l b xs zs,x=.ref l/\vs=[.ref b]/\H l=some (.lst xs)/\H b=some (.lst zs)/\xs.length + zs.length<=sizeLine/\Q .non (upd H l (.lst (xs++zs)))
theorem mt_extend:MtM X "list.extend" rExtend:=by
 intro pins s σ H x vs v us Q I rx rv h;obtain ⟨l,b,xs,zs,rfl,rfl,hH,hB,hz,q⟩:=h;cases rx;obtain ⟨u,rfl,ru⟩:=rv.one;cases ru;obtain ⟨z,its,n,r,hl,e⟩:=I.lstM hH;obtain ⟨z2,its2,n2,r2,hl2,e2⟩:=I.lstM hB;have hsz:its.toArray.size + its2.toArray.size<=sizeLine:=by rw [List.size_toArray,List.size_toArray]; omega
 have hlong:¬ (!its.toArray.isEmpty && Builtin.List.listTooLong (its.toArray.size + its2.toArray.size))=true:=by
  rw [notLongL hsz,Bool.and_false];exact Bool.false_ne_true
 refine call_meets F.slot_list_extend ⟨_,e,rfl⟩ F.entry_list_extend (F.args_list_extend_2 _ _)
  (AutoSeq1.list_extend_list_list_0 l its.toArray n b its2.toArray n2 hlong (by rw [List.size_toArray]; omega) (by omega)) ⟨e,e2,?_⟩
 refine ⟨.non,_,I.lset (its':=its++its2) hH e (by simp) (r.append r2) ?_,rfl,q⟩;rw [List.length_append];omega
noncomputable def rPopAt:V->List V->Hp->VK->Prop:=fun x vs H Q=>∃ l xs i k y,x=.ref l/\vs=[.int i]/\H l=some (.lst xs)/\-(2 ^ 63)<=i/\i < 2 ^ 63/\seqIndex? i xs.length=some k/\xs[k]?=some y/\Q y (upd H l (.lst (xs.eraseIdx k)))
theorem mt_popAt:MtM X "list.pop" rPopAt:=by
 intro pins s σ H x vs v us Q I rx rv h;obtain ⟨l,xs,i,k,y,rfl,rfl,hH,h1,h2,hk,hy,q⟩:=h;cases rx;obtain ⟨u,rfl,ru⟩:=rv.one;obtain ⟨t,rfl⟩:=ru;obtain ⟨z,its,n,r,hl,e⟩:=I.lstM hH;obtain ⟨w,hw,rw'⟩:=r.get hy;refine call_meets F.slot_list_pop ⟨_,e,rfl⟩ F.entry_list_pop (F.args_list_pop_2 _ _)
  (MeetsSeq.list_pop_at l its.toArray n i t k w (fitsIndex_both h1 h2) (by rw [List.size_toArray,<- hl]; exact hk) (by rw [<- Array.getElem?_toList]; exact hw) (by rw [List.size_toArray]; omega)) ⟨e,?_⟩
 refine ⟨y,_,I.lset (its':=its.eraseIdx k) hH e ?_ (r.eraseIdx k) ?_,rw',q⟩
 ·show its.toArray.eraseIdxIfInBounds k=(its.eraseIdx k).toArray;rw [List.eraseIdxIfInBounds_toArray]
 ·have:=len_erase xs k;omega
noncomputable def rCat:R2:=fun x y H Q=>∃ l b xs zs,x=.ref l/\y=.ref b/\H l=some (.lst xs)/\H b=some (.lst zs)/\xs.length + zs.length<=sizeLine/\∀ p,H p=none->Q (.ref p) (upd H p (.lst (xs++zs)))
theorem op_cat:OpR X (binaryOp .Add) rCat:=by
 intro pins s σ H x y v u Q I rx ry h;obtain ⟨l,b,xs,zs,rfl,rfl,hH,hB,hz,q⟩:=h;cases rx;cases ry;obtain ⟨z,its,n,r,hl,e⟩:=I.lstM hH;obtain ⟨z2,its2,n2,r2,hl2,e2⟩:=I.lstM hB;refine PySem.P.add_list e e2 ?_ (by rw [List.size_toArray,List.size_toArray]; omega);have ea:its.toArray++its2.toArray=(its++its2).toArray:=by simp
 rw [ea];exact ⟨.ref _,_,I.lnew (t':=s.toks) (r.append r2) (by rw [List.length_append]; omega),rfl,q _ I.fresh⟩
end
section
variable {prog:Program}{w:World}{A:Around}{E:Value->Shared->Prop}{s:Shared}
end
section
variable {X:Cx}
end
end L2
namespace Att
open PySem PySem.W PySem.Calls PyProof.Rows
theorem ints_of_wellAll {P:Params}{h:Heap}:∀ (ns:List Int) (vs:List Value),WellAll P h vs (ns.map WData.int)->IntsAre vs ns:=by
 intro ns;induction ns with
 | nil =>
  intro vs w;rw [List.map_nil] at w;cases w;exact .nil
 | cons n ns ih =>
  intro vs w;rw [List.map_cons] at w;cases w with
  | cons a b =>
   cases a;exact .cons _ _ (ih _ b)
theorem script_of {l:OpenLaw}{n:Nat}(hn:l.most=some n){P:Params}{h:Heap}{args:List WData}{vals:List Value}
  (hpre:l.row.toRowW.claim.pre args=true) (hwl:WellAll P h vals args) :
  ∃ a vs ns,vals=[Value.ref a]/\args=[WData.list (ns.map WData.int)]/\h.get? a=some { cls:=.type "list",data:=.seq vs.toArray }/\IntsAre vs ns/\ns.length<=n:=by
 have hsh:WShape.hasAll [] args [.list .int]=true:=(pre_splitW hpre).1;have hc:l.pre.holds [] { args:=args }=true:=(pre_splitW hpre).2;obtain ⟨d,r,rfl,h1,h2⟩:=hasAllW_cons hsh;obtain rfl:=hasAllW_nil h2;obtain ⟨xs,rfl,h3⟩:=hasW_list h1;obtain ⟨ns,rfl⟩:=items_int h3;have hlen:ns.length<=n:=by
  unfold OpenLaw.pre at hc;have h4:(WTm.not (.lt (.lit (.int (n:Int))) (.len (.arg 0)))).holds [] { args:=[.list (ns.map .int)] }=true:=by
   have h4:=(holds_andW hc).1;rw [hn] at h4;exact h4
  have h5:=condW_of h4 (w_not (w_lt w_lit (w_len_list (w_arg rfl))));rw [List.length_map] at h5;refine Nat.le_of_not_lt fun q=>?_;have q':(n:Int) < ((ns.length:Nat):Int):=by omega
  first
   | (rw [decide_eq_true q'] at h5; exact absurd h5 (by decide))
   | (simp at h5; omega)
 cases hwl with
 | cons w1 w2 =>
  cases w2;cases w1 with
  | list ho hall=>exact ⟨_,_,ns,rfl,rfl,ho,ints_of_wellAll ns _ hall,hlen⟩
theorem post_true (l:OpenLaw)(args:List WData):l.row.toRowW.claim.post args (.bool true) args=true :=
 postW_of (r:=l.row.toRowW) (X:=(true == true))
  (show WShape.has [] (.bool true) .bool=true by first | rfl | decide | simp [WShape.has,WShape.arms,WShape.armsAll])
  (show (WTm.eq .res (.lit (.bool true))).value [] { args:=args,res:=some (.bool true),after:=args }=some (.bool (true == true)) from w_eq_bool (w_res rfl) w_lit) rfl
theorem attach_call {l:OpenLaw}{n:Nat}{q:Program}{loose:List Str}{XP:(Str->Option Value)->Heap->Prop}{YP:World->Heap->Prop}{d:DefRec}
  (hn:l.most=some n) (hdf:d.params.defaults=[])
  (call:∀ (w:World) (s₀ s₁:Shared) (mg mb:Str->Option Value) (fa:Addr) (o:Obj) (pm cd doc:Value) (a:Addr) (vs:List Value) (ns:List Int),
   Ground q loose [] XP w s₀ mg mb s₁.heap->YP w s₁.heap ->
   s₁.heap.get? fa=some o->o.data=.func (docDef d.name d.params d.body d.scope pm cd doc)->s₁.heap.CodeRec cd d.name->mg d.name=some (.ref fa) ->
   s₁.heap.get? a=some { cls:=.type "list",data:=.seq vs.toArray }->IntsAre vs ns->ns.length<=n->s₁.gens=#[] ->
   codeAny (model l.prog w) callerA (.call (.ref fa) ⟨[.ref a],[]⟩) (fun r s'=>r=.ok (.ret (.bool true))/\OldK s₁.heap s'.heap/\s'.os=s₁.os/\AllBare s'.gens) s₁) :
  WalkO q loose XP YP l.row.toRowW d [] (fun f vs=>PySem.call f vs):=by
 intro w s₀ s₁ mg mb G Y fa o pm cd doc dV kV ho hd hcd hD hmg hg args vals as hpre hlay hrd hwl hlo;obtain rfl:dV=.none:=Dflts.none hD hdf;obtain rfl:kV=.none:=Dflts.noKw hD;obtain ⟨a,vs,ns,rfl,rfl,hobj,hints,hlen⟩:=script_of hn hpre hwl;refine enter_call (codeAny_mono (call w s₀ s₁ mg mb fa o pm cd doc a vs ns G Y ho (fd_plain hd) hcd hmg hobj hints hlen hg) fun r s' hq=>?_);obtain ⟨rfl,h2,h3,h4⟩:=hq;exact ⟨.inl ⟨.bool true,.bool true,[],rfl,fun _=>rfl,.bool true,post_true l _,fun _=>⟨List.Pairwise.nil,fun _ hm=>(nomatch hm)⟩⟩,h2,h3,h4⟩
section
variable {prog:Program}{w:World}{A:Around}{E:Value->Shared->Prop}{s:Shared}{K:Frag}
end
end Att
namespace L2
open PySem PySem.Spec PyProof.Rows
theorem vals_ints:∀ {vs:List Value} {ns:List Int},IntsAre vs ns->Vals (ns.map V.int) vs
 | _,_,.nil=>.nil
 | _,_,.cons n t h=>.cons ⟨t,rfl⟩ (vals_ints h)
noncomputable def Only (H:Hp):Prop:=∀ b,H b=none\/∃ o xs,H b=some (.frz o (.lst xs))
theorem law_call {P:Program}{w:World}{K:PySem.W.Frag}{mg mb:Str->Option Value}{CX:CXT}{k:Nat}{fa a:Addr}{fd:FuncData}{x:Str}{sp:Sp}{s₁:Shared}{vs:List Value}{ns:List Int}
  (KX:K.In s₁.heap) (hns:s₁.heap.Ns mainGlobals mg) (hb:s₁.heap.Ns builtinsNs mb) (hbb:∀ x:Str,x ≠ "__name__"->mb x=bootBuiltins x) (hlim:s₁.heap.NoLimit) (hg:s₁.gens=#[])
  (ha:s₁.heap.get? a=some { cls:=.type "list",data:=.seq vs.toArray }) (hi:IntsAre vs ns) (hl:ns.length<=sizeLine) (hr:Room k callerA)
  (F:∀ base:Heap,K.In base->base.Ns mainGlobals mg->FnOk P w K mg base CX k fa fd [x] sp) (hbind:∀ (s:Shared) (u:Value),BindsTo s fd ⟨[u],[]⟩ [(x,u)])
  (hsp:∀ H:Hp,Only H->SqL K H a (ns.map V.int)->sp [.ref a] H (fun v _=>v=.bl true) fun _ _ _=>False)
  (hCX:∀ H e s',CX [] H s₁ (fun _ _ _=>False) e s'->False) :
  codeAny (model P w) callerA (.call (.ref fa) ⟨[.ref a],[]⟩) (fun r s'=>r=.ok (.ret (.bool true))/\OldK s₁.heap s'.heap/\s'.os=s₁.os/\AllBare s'.gens) s₁:=by
 have rv:=vals_ints hi;have lenV:=hi.length;have core:∀ H:Hp,Only H->SqL K H a (ns.map V.int)->HOk P w H s₁.heap->(∀ b,H b ≠ none->b=a)->(H a ≠ none->K.lookup a=none) ->
   codeAny (model P w) callerA (.call (.ref fa) ⟨[.ref a],[]⟩) (fun r s'=>r=.ok (.ret (.bool true))/\OldK s₁.heap s'.heap/\s'.os=s₁.os/\AllBare s'.gens) s₁:=by
  intro H hO hS hok hA hK;have base_of:∀ {b:Addr} {o:Obj},s₁.heap.get? b=some o->H b=none->(hidT s₁.heap H).get? b=some o:=fun e n=>hidT_get e n;have noA:∀ {b:Addr} {o:Obj} {es:Array DictEntry} {ep:Nat},s₁.heap.get? b=some o->o.data=.dict es ep->H b=none:=fun {b o es ep} e d=>by
   cases q:H b with
   | none=>rfl
   | some u =>
    have e':b=a:=hA b (by rw [q]; simp);subst e';rw [ha] at e; cases e;have d':Data.seq vs.toArray _=Data.dict es ep:=d;cases d'
  have nsK:∀ {b:Addr} {m:Str->Option Value},s₁.heap.Ns b m->(hidT s₁.heap H).Ns b m:=fun {b m} ⟨o,es,ep,e,d,r⟩=>⟨o,es,ep,base_of e (noA e d),d,r⟩;have hKb:K.In (hidT s₁.heap H):=fun b o e=>base_of (KX b o e) (by
   cases q:H b with
   | none=>rfl
   | some u =>
    have e':b=a:=hA b (by rw [q]; simp);subst e';rw [hK (by rw [q]; simp)] at e; cases e)
  have hM:Mod K mg (hidT s₁.heap H):=⟨hKb,nsK hns,⟨mb,nsK hb,hbb⟩,let ⟨mc,h1,h2⟩:=hlim; ⟨mc,nsK h1,h2⟩⟩;have e0:Env0 P w K mg (hidT s₁.heap H) callerA [] s₁ H:=⟨rfl,hM,fun b o e=>of_hidT e,Nat.le_of_eq (hidT_size _ _),trivial,fun b hb=>absurd (show b ∈ ([]:List Addr) from hb) (by simp),hok,.of_eq hg⟩;refine codeAny_mono ((F _ hKb (nsK hns)).run callerA [] s₁ H ⟨[.ref a],[]⟩ [.ref a] [.ref a] _ _ hr e0 (hbind s₁ (.ref a)) (.cons rfl .nil) (hsp H hO hS)) fun r s' h=>?_;cases r with
  | error e=>exact (hCX H e s' h).elim
  | ok fl =>
   cases fl with
   | next=>exact False.elim h
   | brk=>exact False.elim h
   | cont=>exact False.elim h
   | ret u =>
    obtain ⟨v,H',os,bare,un,hok',r',q⟩:=h;have q':v=.bl true:=q;subst q';obtain rfl:u=Value.bool true:=r';refine ⟨rfl,OldK.of_keep fun b o e=>?_,os,bare⟩;cases q:H b with
    | none=>exact un.keep b o e q (by intro z; exact absurd (show b ∈ ([]:List Addr) from z) (by simp)) (by simp)
    | some u =>
     rcases hO b with z | ⟨ob,xs,z⟩
     ·rw [q] at z; cases z
     ·have z2:=un.frzs b ob _ z;obtain ⟨e1,_⟩:=hok b _ z;obtain ⟨e2,_⟩:=hok' b _ z2;rw [e] at e1; cases e1;exact e2
 cases hk:K.lookup a with
 | some o =>
  have e:=KX a o hk;rw [ha] at e;cases e;refine core (fun _=>none) (fun _=>.inl rfl) (.inr ⟨_,vs.toArray,_,hk,rfl,rfl,rfl,by rw [List.size_toArray,lenV]; exact hl,by simpa using rv⟩) (fun b u z=>by have z':(none:Option HO)=some u:=z; cases z') (fun b z=>absurd rfl z) fun z=>absurd rfl z
 | none =>
  refine core (fun b=>if b=a then some (.frz { cls:=.type "list",data:=.seq vs.toArray } (.lst (ns.map V.int))) else none) (fun b=>?_) (.inl (.inr ⟨{ cls:=.type "list",data:=.seq vs.toArray },if_pos rfl⟩)) (fun b u z=>?_) (fun b z=>?_) fun _=>hk
  ·by_cases hb:b=a
   ·exact .inr ⟨_,_,if_pos hb⟩
   ·exact .inl (if_neg hb)
  ·by_cases hb:b=a
   ·have z':=(if_pos hb).symm.trans z;cases z';subst hb;exact ⟨ha,by rw [List.length_map]; exact hl,vs,_,rv,ha⟩
   ·have z':=(if_neg hb).symm.trans z;cases z'
  ·by_cases hb:b=a
   ·exact hb
   ·exact absurd (if_neg hb) z
end L2
namespace L2
open PySem PySem.Spec PyProof.Rows
theorem walk_of {l:PySem.W.OpenLaw}{n k:Nat}{q:Program}{loose:List Str}{XP:(Str->Option Value)->Heap->Prop}{YP:World->Heap->Prop}{d:DefRec}{K:Params->PySem.W.Frag}{CX:World->CXT}{sp:World->Sp}{x:Str}
  (hn:l.most=some n) (hn2:n<=sizeLine) (hdf:d.params.defaults=[]) (hr:Room k callerA)
  (hY:∀ (w:World) (h:Heap),YP w h->(K w.params).In h)
  (F:∀ (w:World) (mg:Str->Option Value) (fa:Addr) (h:Heap),(K w.params).In h->h.Ns mainGlobals mg->mg d.name=some (.ref fa) ->
   ∃ fd:FuncData,(∀ (s:Shared) (u:Value),BindsTo s fd ⟨[u],[]⟩ [(x,u)]) /\
    ∀ base:Heap,(K w.params).In base->base.Ns mainGlobals mg->FnOk l.prog w (K w.params) mg base (CX w) k fa fd [x] (sp w))
  (hsp:∀ (w:World) (H:Hp) (a:Addr) (ns:List Int),ns.length<=n->Only H->SqL (K w.params) H a (ns.map V.int)->sp w [.ref a] H (fun v _=>v=.bl true) fun _ _ _=>False)
  (hCX:∀ (w:World) (H:Hp) (s:Shared) (e:Value) (s':Shared),CX w [] H s (fun _ _ _=>False) e s'->False) :
  PySem.W.WalkO q loose XP YP l.row.toRowW d [] (fun f vs=>PySem.call f vs):=by
 refine Att.attach_call hn hdf fun w s₀ s₁ mg mb fa o pm cd doc a vs ns G Y ho hd hcd hmg hobj hints hlen hg=>?_;have KX:=hY w _ Y;obtain ⟨fd,hb,hF⟩:=F w mg fa _ KX G.T.g hmg;exact law_call KX G.T.g G.T.b G.T.builtins G.T.nolimit hg hobj hints (Nat.le_trans hlen hn2) hr hF hb (fun H hO hS=>hsp w H a ns hlen hO hS) fun H e s'=>hCX w H s₁ e s'
end L2
/- THE LAST THEOREM (shape; LID,My.* are yours):
   My.Adr: a structure of the addresses that your layer names (classes,functions); My.Txt K t: a structure (Prop) of the equations over K;
   My.txt_mk:{K} {implicit addresses ..} (e1:nsIn K mainGlobals "law"=some (some (.ref f))) (e2:K.lookup f=some ⟨oc,od,.func (fnOf "law" "law" params body scope dV kV doc pm an cdv ct),sl⟩) (e3:codeIn K cdv "law"=true) ..:∃ t,My.Txt K t
set_option maxRecDepth 100000 in
set_option maxHeartbeats 0 in
theorem PySem.Challenge.cw_LID_holds : PySem.Challenge.rw_LID.Holds := by
 w_on; o_law; k_head; (case hw=>w_witness2);k_fill;refine L2.walk_of (l:=PySem.Challenge.rw_LID) (n:=63) (k:=40) (x:="script") (CX:=fun w=>..) (sp:=fun _=>My.sp_law) rfl (by decide) rfl ⟨rfl,by decide,by decide⟩ (fun w h Y=>PySem.W.kIn_of Y) ?F ?S ?C
 case F =>
  intro w mg fa h KX G hmg
  have T:∃ t,My.Txt (L2.KOf KX) t:=by
   dsimp only [L2.KOf]                          -- K must stand as «<heap const> w.params» for k_is;refine' My.txt_mk ?e1 ?e2 ?e3 ..;(case e1=>PySem.W.k_is)                    -- in the order: a name->its address->its object->its parts;(case e2=>PySem.W.k_is);..
  obtain ⟨t,T⟩:=T
  have e0:=hmg.symm.trans (PySem.W.mg_of KX G T.law)
  cases e0                                       -- fa is the law's own address
  exact ⟨_,fun s u=>.of_eq rfl,fun base kb nb=>My.law_fn T kb nb⟩     -- if «.of_eq rfl» comes too early: refine' ⟨_,?b,fun base kb nb=>My.law_fn T kb nb⟩; exact fun s u=>.of_eq rfl
 case S=>exact fun w H a ns hl hO hS=>..
 case C=>exact ..
(the tactic k_is has no namespace: write k_is) -/
namespace L2
open PySem PySem.Spec PyProof.Rows
noncomputable def defArgs (s:Stmt):Arguments:=match s with
 | .FunctionDef _ a _ _ _ _ _ _ _ _=>a
 | _=>{ posonlyargs:=[],args:=[],vararg:=none,kwonlyargs:=[],kw_defaults:=[],kwarg:=none,defaults:=[] }
noncomputable def defBody (s:Stmt):List Stmt:=match s with
 | .FunctionDef _ _ b _ _ _ _ _ _ _=>b
 | _=>[]
noncomputable def defScope (s:Stmt):Scope:=match s with
 | .FunctionDef _ _ _ _ _ _ sc _ _ _=>sc
 | _=>{ kind:=.function,names:=[],isGenerator:=false,isCoroutine:=false }
noncomputable abbrev CX0:CXT:=fun _ _ _ _ _ _=>False
noncomputable abbrev E0:XK:=fun _ _ _=>False
theorem pass0 {X:Cx}:Passes CX0 X E0:=fun _ _ _ _ _ _ _ h=>h.elim
structure Fun (K:PySem.W.Frag)(x qual:Str)(st:Stmt)(f:Addr)(fd:FuncData):Prop where
 ex:∃ (oc:Value) (od:Option Addr) (kV doc pm:Value) (an:Option Addr) (cdv ct:Value) (osl:Array (Option Value)),
  fd=PySem.W.fnOf x qual (defArgs st) (defBody st) (defScope st) .none kV doc pm an cdv ct/\K.lookup f=some ⟨oc,od,.func fd,osl⟩/\PySem.W.codeIn K cdv qual=true
 kp:PySem.W.keepIn K (.ref f)=true
section
variable {P:Program}{w:World}{K:PySem.W.Frag}{mg:Str->Option Value}{base:Heap}
theorem Fun.ok {x qual:Str}{st:Stmt}{f:Addr}{fd:FuncData}{N ps:List Str}{k:Nat}{sp:Sp}(F:Fun K x qual st f fd)(S:FnScope N ps (defScope st))(len:∀ vs H Q E,sp vs H Q E->vs.length=ps.length)
  (hbody:∀ (cdv:Value) (A:Around) (outer:List Env) (s:Shared) (H:Hp) (vs:List V) (Q:VK) (E:XK),Room k (A.deeper (envOfC qual (defScope st) s.heap.objs.size f cdv))->sp vs H Q E ->
   ∃ t,PSs (cxOf CX0 P w K mg base N qual (defScope st) f cdv A outer s H E).nox (defBody st) t/\t { nx:=fun _ H'=>Q .non H',rt:=Q } (start N vs) H):FnOk P w K mg base CX0 (k + 1) f fd ps sp:=by
 obtain ⟨oc,od,kV,doc,pm,an,cdv,ct,osl,rfl,lk,hcd⟩:=F.ex;refine fn_of lk hcd S len fun A outer s H vs Q E hr hsp=>?_;obtain ⟨t,h,q⟩:=hbody cdv A outer s H vs Q E hr hsp;exact ⟨t,h.nox,q⟩
theorem Fun.binds {x qual:Str}{st:Stmt}{f:Addr}{fd:FuncData}{ps:List Str}(F:Fun K x qual st f fd)
  (h:∀ (kV doc pm:Value) (an:Option Addr) (cdv ct:Value) (us:List Value),us.length=ps.length->bindArgs (PySem.W.fnOf x qual (defArgs st) (defBody st) (defScope st) .none kV doc pm an cdv ct) ⟨us,[]⟩=pure (ps.zip us)):Binds K fd ps []:=by
 obtain ⟨oc,od,kV,doc,pm,an,cdv,ct,osl,rfl,lk,hcd⟩:=F.ex;exact .all (h kV doc pm an cdv ct)
theorem fun_mk {x qual:Str}{st:Stmt}{f:Addr}{oc:Value}{od an:Option Addr}{osl:Array (Option Value)}{kV doc pm cdv ct:Value}(l:K.lookup f=some ⟨oc,od,.func (PySem.W.fnOf x qual (defArgs st) (defBody st) (defScope st) .none kV doc pm an cdv ct),osl⟩)
  (c:PySem.W.codeIn K cdv qual=true) (k:PySem.W.keepIn K (.ref f)=true):Fun K x qual st f (PySem.W.fnOf x qual (defArgs st) (defBody st) (defScope st) .none kV doc pm an cdv ct):=⟨⟨oc,od,kV,doc,pm,an,cdv,ct,osl,rfl,l,c⟩,k⟩
end
section
variable {X:Cx}
theorem pv (i:Nat){x:Str}{pos:Pos}(hN:X.N[i]?=some x:=by rfl)(hv:Vis X.env.scope x:=by first | exact Or.inl rfl | exact Or.inr (Or.inl rfl) | exact Or.inr (Or.inr rfl))(hd:(x == ("__debug__":Str))=false:=by decide)
  (hcd:(x == ("__classdict__":Str))=false:=by decide):PE X (.Name x pos) (tVar i):=pe_var hN hv hd hcd
end
theorem iteF {A B:Prop}(h:B):if false=true then A else B:=by
 rw [if_neg Bool.false_ne_true];exact h
theorem iteT {A B:Prop}(h:A):if true=true then A else B:=by
 rw [if_pos rfl];exact h
theorem ite2 {c A B:Prop} [Decidable c](h1:c->A)(h2:¬ c->B):if c then A else B:=by
 by_cases h:c
 ·rw [if_pos h];exact h1 h
 ·rw [if_neg h];exact h2 h
theorem iteNS {c A B:Prop} [Decidable c](hc:c)(h:B):if (!decide c)=true then A else B:=by
 rw [decide_eq_true hc];exact iteF h
noncomputable def Same (H H':Hp):Prop:=∀ b o,H b=some o->H' b=some o
theorem Same.refl (H:Hp):Same H H:=fun _ _ h=>h
theorem Same.trans {H H1 H2:Hp}(a:Same H H1)(b:Same H1 H2):Same H H2:=fun c o h=>b c o (a c o h)
theorem Same.free {H H':Hp}(e:Same H H'){l:Addr}(h:H' l=Option.none):H l=Option.none:=by
 cases q:H l with
 | none=>rfl
 | some o =>
  rw [e l o q] at h;cases h
theorem Same.seq {K:PySem.W.Frag}{H H':Hp}{a:Addr}{xs:List V}(e:Same H H')(h:SqL K H a xs):SqL K H' a xs:=by
 rcases h with (h | ⟨o,h⟩) | h
 ·exact .inl (.inl (e _ _ h))
 ·exact .inl (.inr ⟨o,e _ _ h⟩)
 ·exact .inr h
end L2
set_option maxHeartbeats 4000000
namespace L2
open PySem PySem.Spec PyProof.Rows
section
variable {X:Cx}
theorem op_mulG:OpR X (binaryOp .Mult) (rI IntMulOk fun i j=>.int (i * j)):=opI fun _ _ _ _ _ _ _ hc q=>mul_int q hc
noncomputable def CDivG (_ j:Int):Prop:=0 < j/\j.natAbs.log2 < 9000
theorem op_fdivG:OpR X (binaryOp .FloorDiv) (rI CDivG fun i j=>.int (i / j)):=opI fun i j _ _ _ _ _ hc q=>by
 have h1:(0:Int) < j:=hc.1;exact floordiv_int (by omega) (by rw [Int.fdiv_eq_ediv_of_nonneg i (by omega)]; exact q) (.inl (PyProof.noPylong_of_log2 hc.2))
theorem CDivG.small {i j:Int}(h:0 < j)(h':j < 1073741824):CDivG i j:=by
 refine ⟨h,?_⟩;have h0:j.natAbs ≠ 0:=by omega
 have:j.natAbs.log2 < 30:=(Nat.log2_lt h0).mpr (by omega);omega
theorem CDivG.big {i j:Int}(h:0 < j)(h':j.natAbs < 2 ^ 8000):CDivG i j:=by
 refine ⟨h,?_⟩;have h0:j.natAbs ≠ 0:=by omega
 have:j.natAbs.log2 < 8000:=(Nat.log2_lt h0).mpr h';omega
theorem mulS {i j:Int}(h1:-(2 ^ 64) < j)(h2:j < 2 ^ 64):IntMulOk i j:=IntMulOk.of_right (intBits_le_64 h1 h2)
theorem mulL {i j:Int}(h1:-(2 ^ 64) < i)(h2:i < 2 ^ 64):IntMulOk i j:=IntMulOk.of_left (intBits_le_64 h1 h2)
noncomputable def kitB (T U:String):Option Bool:=if (Value.type T == Value.type U)=true then some true else if PySem.W.kitMeta U=true then (fastBuiltinMro T).map (·.contains (.type U)) else none
theorem kit_of (K:PySem.W.Frag){T U:String}{b:Bool}(e:kitB T U=some b):PySem.W.kitOne K (.type T) (.type U)=some b:=e
theorem call_isinst:CallR X (.builtin "isinstance") (fun xs H Q=>∃ x T U b,xs=[x,.ty U]/\TyOf X.K H x (.type T)/\kitB T U=some b/\Q (.bl b) H):=by
 intro pins s σ H xs us Q I r h;obtain ⟨x,T,U,b,rfl,ty,e,q⟩:=h;obtain ⟨u,w',rfl,rx,ru⟩:=vals2 r;cases ru;exact isinst_ok I rx ty (kit_of X.K e) fun tk=>⟨.bl b,H,I.tok tk,rfl,q⟩
end
theorem iteP {b:Bool}{A B:Prop}(e:b=true)(h:A):if b=true then A else B:=by
 rw [if_pos e];exact h
theorem iteN {b:Bool}{A B:Prop}(e:b=false)(h:B):if b=true then A else B:=by
 subst e;exact iteF h
structure DefAt (K:PySem.W.Frag)(mg:Str->Option Value)(x:Str)(st:Stmt)(ps:List Str)(f:Addr)(fd:FuncData):Prop where
 F:Fun K x x st f fd
 g:mg x=some (.ref f)
 b:Binds K fd ps []
theorem atI_lt {α:Type}{xs:List α}{i:Int}{v:α}(h:0<=i)(e:xs[i.toNat]?=some v):atI xs i=some v:=by
 have:=atI_nat e;rwa [Int.toNat_of_nonneg h] at this
noncomputable def tMid (t u:TS):TS:=fun D σ H=>∃ M:St->Hp->Prop,t { D with nx:=M } σ H/\∀ σ' H',M σ' H'->u D σ' H'
theorem pss_mid {X:Cx}{st:Stmt}{rest:List Stmt}{t u:TS}(h1:PS X st t)(h2:PSs X rest u):PSs X (st :: rest) (tMid t u):=by
 intro pins s σ H D I h;obtain ⟨M,h3,h4⟩:=h;refine wpAny_execs_cons (thn (h1 pins s σ H _ I h3) fun f s1 q=>?_);cases f with
 | next =>
  obtain ⟨σ1,H1,I1,q1⟩:=q;exact h2 pins s1 σ1 H1 D I1 (h4 σ1 H1 q1)
 | brk=>exact q
 | cont=>exact q
 | ret v=>exact q
theorem same_new {H:Hp}{l:Addr}{o:HO}(h:H l=none):Same H (upd H l o):=fun b u e=>by rw [upd_ne (ne_of_none e h)]; exact e
end L2
namespace L2
open PySem PySem.Spec PyProof.Rows
section
variable {X:Cx}{tg:Expr}
end
mutual
inductive Rdv (K:PySem.W.Frag)(H:Hp):V->PyData->Prop
 | non:Rdv K H .non .none
 | bl (b:Bool):Rdv K H (.bl b) (.bool b)
 | int (i:Int):Rdv K H (.int i) (.int i)
 | str (x:Str):Rdv K H (.str x) (.str x)
 | lst {a:Addr} {xs:List V} {ds:List PyData}:SqL K H a xs->RdvAll K H xs ds->Rdv K H (.ref a) (.list ds)
 | tup {a:Addr} {xs:List V} {ds:List PyData}:SqT K H a xs->RdvAll K H xs ds->Rdv K H (.ref a) (.tuple ds)
inductive RdvAll (K:PySem.W.Frag)(H:Hp):List V->List PyData->Prop
 | nil:RdvAll K H [] []
 | cons {x:V} {d:PyData} {xs:List V} {ds:List PyData}:Rdv K H x d->RdvAll K H xs ds->RdvAll K H (x :: xs) (d :: ds)
end
section
variable {X:Cx}{pins:List (Addr × Obj)}{σ:St}{H:Hp}{s:Shared}
theorem reads_lst {a:Addr}{xs:List V}{ds:List PyData}(I:Inv X pins σ H s)(hq:SqL X.K H a xs)(h:∀ us,Vals xs us->∃ as,ReadsAll s.heap us ds as):∀ u,RelV (.ref a) u->∃ as,Reads s.heap u (.list ds) as:=by
 intro u r;cases r;obtain ⟨its,rv,p,hz⟩:=I.list hq;obtain ⟨as,ra⟩:=h _ rv;obtain ⟨o,ho,hc,n,hd⟩:=p.isList;exact ⟨_,.list ho hc hd (by simpa using ra)⟩
theorem reads_tup {a:Addr}{xs:List V}{ds:List PyData}(I:Inv X pins σ H s)(hq:SqT X.K H a xs)(h:∀ us,Vals xs us->∃ as,ReadsAll s.heap us ds as):∀ u,RelV (.ref a) u->∃ as,Reads s.heap u (.tuple ds) as:=by
 intro u r;cases r;obtain ⟨its,rv,p,hz⟩:=I.tuple hq;obtain ⟨as,ra⟩:=h _ rv;obtain ⟨o,ho,hc,n,hd⟩:=p;exact ⟨_,.tuple ho hc hd (by simpa using ra)⟩
theorem reads_cons {v:V}{vs:List V}{d:PyData}{ds:List PyData}(h:∀ u,RelV v u->∃ as,Reads s.heap u d as)(t:∀ us,Vals vs us->∃ as,ReadsAll s.heap us ds as):∀ us,Vals (v :: vs) us->∃ as,ReadsAll s.heap us (d :: ds) as:=by
 intro us r;cases r with
 | cons r1 r2 =>
  obtain ⟨as,ra⟩:=h _ r1;obtain ⟨bs,rb⟩:=t _ r2;exact ⟨_,.cons ra rb⟩
theorem Rdv.reads (I:Inv X pins σ H s){v:V}{d:PyData}{u:Value}(h:Rdv X.K H v d):RelV v u->∃ as,Reads s.heap u d as :=
 Rdv.rec (motive_1:=fun v d _=>∀ u,RelV v u->∃ as,Reads s.heap u d as) (motive_2:=fun vs ds _=>∀ us,Vals vs us->∃ as,ReadsAll s.heap us ds as)
  (fun u r=>by cases r; exact ⟨_,.none⟩) (fun b u r=>by cases r; exact ⟨_,.bool b⟩) (fun i u r=>by obtain ⟨t,rfl⟩:=r; exact ⟨_,.int i t⟩) (fun x u r=>by obtain ⟨t,rfl⟩:=r; exact ⟨_,.str x t⟩)
  (fun hq _ h=>reads_lst I hq h) (fun hq _ h=>reads_tup I hq h) (fun us r=>by cases r; exact ⟨_,.nil⟩) (fun _ _ h t=>reads_cons h t) h u
structure CmpD (x y:PyData):Prop where
 l1:x.canLay0=true
 l2:y.canLay0=true
 dp:x.depth<=64
noncomputable def rEqD (K:PySem.W.Frag)(neg:Bool):R2:=fun x y H Q=>∃ dx dy,Rdv K H x dx/\Rdv K H y dy/\CmpD dx dy/\Q (.bl (if neg then !PyData.eqv dx dy else PyData.eqv dx dy)) H
theorem op_eq_deep (hu:X.A.units + 64 < cLine):OpR X (compareOp .Eq) (rEqD X.K false):=by
 intro pins s σ H x y v u Q I rx ry h;obtain ⟨dx,dy,hx,hy,c,q⟩:=h;obtain ⟨as,ra⟩:=hx.reads I rx;obtain ⟨bs,rb⟩:=hy.reads I ry;have:=c.dp;exact SeqAt.compareEq_reads ra rb c.l1 c.l2 (by omega) ⟨.bl _,H,I,rfl,q⟩
theorem op_ne_deep (hu:X.A.units + 64 < cLine):OpR X (compareOp .NotEq) (rEqD X.K true):=by
 intro pins s σ H x y v u Q I rx ry h;obtain ⟨dx,dy,hx,hy,c,q⟩:=h;obtain ⟨as,ra⟩:=hx.reads I rx;obtain ⟨bs,rb⟩:=hy.reads I ry;have:=c.dp;exact SeqAt.compareNe_reads ra rb c.l1 c.l2 (by omega) ⟨.bl _,H,I,rfl,q⟩
noncomputable def rInD (K:PySem.W.Frag)(neg:Bool):R2:=fun x y H Q=>∃ d ds,Rdv K H x d/\Rdv K H y (.list ds)/\d.canLay0=true/\PyData.canLayAll0 ds=true/\d.depth<=60/\Q (.bl (if neg then !ds.any (fun z=>PyData.eqv z d) else ds.any fun z=>PyData.eqv z d)) H
theorem op_in_deep (hu:X.A.units + 64 < cLine):OpR X (compareOp .In) (rInD X.K false):=by
 intro pins s σ H x y v u Q I rx ry h;obtain ⟨d,ds,hx,hy,c1,c2,c3,q⟩:=h;obtain ⟨as,ra⟩:=hx.reads I rx;obtain ⟨bs,rb⟩:=hy.reads I ry;exact SeqAt.in_list_reads rb ra c2 c1 (by omega) ⟨.bl _,H,I,rfl,q⟩
theorem op_notIn_deep (hu:X.A.units + 64 < cLine):OpR X (compareOp .NotIn) (rInD X.K true):=by
 intro pins s σ H x y v u Q I rx ry h;obtain ⟨d,ds,hx,hy,c1,c2,c3,q⟩:=h;obtain ⟨as,ra⟩:=hx.reads I rx;obtain ⟨bs,rb⟩:=hy.reads I ry;exact SeqAt.notIn_list_reads rb ra c2 c1 (by omega) ⟨.bl _,H,I,rfl,q⟩
end
end L2
namespace L2
open PySem PySem.Spec PyProof.Rows
noncomputable def compCx (X:Cx)(N:List Str)(scope:Scope)(cl:List (Str × Addr))(C:Addr)(fp:List Addr)(pins:List (Addr × Obj))(s:Shared)(H:Hp):Cx where
 prog:=X.prog
 w:=X.w
 K:=X.K
 mg:=X.mg
 base:=X.base
 A:=X.A
 N:=N
 s₀:=s
 H₀:=H
 env:=compEnvC scope cl C X.env
 outer:=X.stack
 stack:=X.stack
 ex:=fp
 fn:=fun _=>false
 calm:=X.calm
 pn:=X.pn++pins
 xe:=fun _ _=>False
noncomputable def pull (src:List (Option Nat))(σ:St):St:=src.map fun o=>match o with
 | some j=>(σ[j]?).getD none
 | none=>none
structure CompOk (X:Cx)(N:List Str)(src:List (Option Nat))(scope:Scope)(cl:List (Str × Addr)):Prop where
 kind:scope.kind=.function
 nocell:∀ y ∈ scope.names,y.2 ≠ .cell
 names:∀ y ∈ scope.names,y.2=.local->scope.names.lookup y.1=some .local
 clos:closureFor scope X.env=pure cl
 sub:∀ x c,cl.lookup x=some c->X.env.cells.lookup x=some c
 has:∀ x,((relabel scope X.env).names.lookup x=some .cell\/(relabel scope X.env).names.lookup x=some .free)->∃ c,cl.lookup x=some c
 len:src.length=N.length
 pulls:∀ (i j:Nat) (x:Str),N[i]?=some x->src[i]?=some (some j)->X.N[j]?=some x/\(X.env.kindOf x=some .cell\/X.env.kindOf x=some .free)/\((relabel scope X.env).names.lookup x=some .cell\/(relabel scope X.env).names.lookup x=some .free)
theorem relabel_plain {scope:Scope}{env:Env}(nf:∀ y ∈ scope.names,y.2 ≠ .free):(relabel scope env).names=scope.names:=by
 show scope.names.map _=scope.names;refine map_eq_self fun x hx=>?_;obtain ⟨n,k⟩:=x;have:(k == NameKind.free)=false:=by simpa using nf _ hx
 simp [this]
theorem CompOk.plain {X:Cx}{N:List Str}{src:List (Option Nat)}{scope:Scope}(kind:scope.kind=.function)(nocell:∀ y ∈ scope.names,y.2 ≠ .cell)(nofree:∀ y ∈ scope.names,y.2 ≠ .free)
  (names:∀ y ∈ scope.names,y.2=.local->scope.names.lookup y.1=some .local) (len:src.length=N.length) (none:∀ o ∈ src,o=none):CompOk X N src scope [] where
 kind:=kind
 nocell:=nocell
 names:=names
 clos:=closureFor_none nofree
 sub:=fun x c h=>nomatch h
 has:=fun x h=>by
  rw [relabel_plain nofree] at h;rcases h with h | h
  ·exact absurd rfl (nocell _ (PySem.mem_of_lookup h))
  ·exact absurd rfl (nofree _ (PySem.mem_of_lookup h))
 len:=len
 pulls:=fun i j x _ h=>by
  have:=none _ (List.mem_of_getElem? h);cases this
noncomputable def PIfs (X:Cx)(ifs:List Expr)(t:TT):Prop :=
 ∀ (pins:List (Addr × Obj)) (s:Shared) (σ:St) (H:Hp) (Q:Bool->Hp->Prop),Inv X pins σ H s->t σ H Q ->
  wpAny (model X.prog X.w) X.A (forIn ifs true fun c r=>if r=true then do let ok <- isTrue c X.env (eval c X.env); pure (ForInStep.yield ok) else pure (ForInStep.yield r)) (TP X pins σ Q) X.xe s
noncomputable def tYes:TT:=fun _ H Q=>Q true H
theorem pifs_nil {X:Cx}:PIfs X [] tYes:=fun _ _ _ H _ I h=>wpAny_tests_nil ⟨H,I,h⟩
theorem pifs_one {X:Cx}{c:Expr}{t:TT}(h:PT X c t):PIfs X [c] t:=fun pins s σ H Q I hq=>wpAny_tests_one (h pins s σ H Q I hq)
noncomputable def CompGoes (J:It)(g:TG)(tc:TT)(te:TE)(Q:VK)(D:Addr)(σ0:St)(H0:Hp):Prop :=
 ∃ W:Nat->Nat->St->Hp->Prop,(∃ m,W 0 m σ0 H0)/\∀ i m σ' H',W i m σ' H' ->
  (J.stop i H'/\Q (.ref D) H')\/(J.go i H'/\∃ N:St->Hp->Prop,(∀ σ'' H'',N σ'' H''->∃ m',m' < m/\W (i + 1) m' σ'' H'') /\
   ∀ x H2,J.yld i H' x H2->g x σ' H2 fun σ2 H3=>tc σ2 H3 fun b H4=>if b=true then te σ2 H4 fun y H5=>∃ ys,H5 D=some (.lst ys)/\ys.length < sizeLine/\N σ2 (upd H5 D (.lst (ys++[y]))) else N σ2 H4)
noncomputable def tComp (wi:TI)(src:List (Option Nat))(g:TG)(tc:TT)(te:TE):TE:=fun σ H Q=>wi σ H fun J H1=>∀ D,H1 D=none->CompGoes J g tc te Q D (pull src σ) (upd H1 D (.lst []))
theorem Un.but {fs ex:List Addr}{H H1:Hp}{h h1 h2:Heap}{C:Addr}(u:Un fs ex H H1 h h1)(hC:h.objs.size<=C)(sb:Heap.SameBut C h1 h2):Un fs ex H H1 h h2:=by
 have ne:∀ b o,h.get? b=some o->b ≠ C:=fun b o e=>Nat.ne_of_lt (Nat.lt_of_lt_of_le (Heap.lt_size e) hC);refine ⟨fun b o e n hb hx=>(sb.2 b (ne b o e)).trans (u.keep b o e n hb hx),fun b o e n hb hx=>?_,u.free,fun b o e hx=>?_,u.tups,u.frzs,u.tbls⟩
 ·obtain ⟨sl,q⟩:=u.slot b o e n hb hx;exact ⟨sl,(sb.2 b (ne b o e)).trans q⟩
 ·obtain ⟨o',q⟩:=u.there b o e hx;exact ⟨o',(sb.2 b (ne b o e)).trans q⟩
theorem HOk.but {P:Program}{w:World}{H:Hp}{h h':Heap}{C:Addr}(ok:HOk P w H h)(hn:H C=none)(sb:Heap.SameBut C h h'):HOk P w H h':=fun b ob e=>by
 refine (ok b ob e).stay (fun c w' hc q=>(sb.2 c ?_).trans q) (fun _ q=>q) fun _ _ q=>q;rintro rfl;rcases hc with rfl | hc
 ·rw [hn] at e; cases e
 ·rw [hn] at hc; cases hc
section
variable {X:Cx}{tg iter elt:Expr}{ifs:List Expr}{scope:Scope}{pos:Pos}{N:List Str}{src:List (Option Nat)}{cl:List (Str × Addr)}{wi:TI}{g:TG}{tc:TT}{te:TE}
theorem comp_start {pins:List (Addr × Obj)}{σ:St}{H:Hp}{s:Shared}{fp:List Addr}{h1:Heap}{C:Addr}{tk:Nat}(ok:CompOk X N src scope cl)(I:Inv X pins σ H s)(hf:∀ b ∈ fp,FpOk X pins H b)(ho:∀ b ∈ fp,∃ o,s.heap.get? b=some o)
  (hC:C=s.heap.objs.size + 1) (k:∀ b u,s.heap.get? b=some u->h1.get? b=some u) (hD:h1.get? s.heap.objs.size=some { cls:=.type "list",data:=.seq #[] }) {m:Str->Option Value} (hn:h1.Ns C m) :
  Inv (compCx X N scope cl C fp pins s H) [] (pull src σ) (upd H s.heap.objs.size (.lst [])) { s with heap:=h1,toks:=tk }:=by
 have lt:∀ b o,s.heap.get? b=some o->b < s.heap.objs.size:=fun b o e=>Heap.lt_size e;have nC:∀ b o,s.heap.get? b=some o->b ≠ C:=fun b o e=>by rw [hC]; exact Nat.ne_of_lt (Nat.lt_succ_of_lt (lt b o e))
 have nD:∀ b o,s.heap.get? b=some o->b ≠ s.heap.objs.size:=fun b o e=>Nat.ne_of_lt (lt b o e);have fr:∀ b,s.heap.objs.size<=b->H b=none:=fun b hb=>I.hok.fresh hb;have nst:∀ b,b ≠ X.env.locals->b ∉ X.fs->b ∉ frs X.stack:=fun b h1 h2 z=>(List.mem_cons.mp (I.stkSub b z)).elim h1 h2;have sub:=ok.sub;refine ⟨⟨I.ok.mod,ok.kind,I.ok.glob,I.ok.blt,by rw [show (compCx X N scope cl C fp pins s H).env.locals=C from rfl,hC]; exact Nat.le_succ _,fun x y c e1 e2=>I.ok.inj x y c (sub x c e1) (sub y c e2),ok.has,(fun x c z _=>nomatch z),I.ok.hd,I.ok.frames,.inl rfl,fun b hb=>?_,I.bs,Nat.le_trans I.ok.bsz I.sz,fun b o e hb=>?_,fun b hb hz=>?_,I.stack,I.stkFree⟩,
  rfl,I.bare,Un.laid k (Nat.le_refl _) (fr _ (Nat.le_refl _)),⟨m,hn,fun i x v e1 e2 e3=>?_⟩,fun x c e=>?_,?_,fun x c e=>?_,fun p hp=>?_,I.hok.laid k (Nat.le_refl _) ⟨Nat.zero_le _,[],0,.nil,hD⟩,?_⟩
 ·obtain ⟨o,e⟩:=ho b hb;exact ⟨nC b o e,fun x c z=>(hf b hb).2.2.2.2.1 x c (sub x c z)⟩
 ·rcases (hf b hb).2.2.2.1 with z | z
  ·exact I.ok.noex b o e z
  ·exact absurd (Nat.lt_of_lt_of_le (Heap.lt_size (I.ok.bs b o e).1) z) (Nat.lt_irrefl _)
 ·exact nst b (hf b hb).2.1 (hf b hb).2.2.1 hz
 ·have hi:i < src.length:=by
   have:=(List.getElem?_eq_some_iff.mp e2).1;unfold pull at this;rw [List.length_map] at this;exact this
  unfold pull at e2;rw [List.getElem?_map,List.getElem?_eq_getElem hi] at e2;cases q:src[i] with
  | none=>rw [q] at e2; cases e2
  | some j =>
   rw [q] at e2;have e2':(σ[j]?).getD none=some v:=Option.some.inj e2;have e4:σ[j]?=some (some v):=by
    cases z:σ[j]? with
    | none=>rw [z] at e2'; cases e2'
    | some o=>rw [z] at e2'; exact congrArg some e2'
   obtain ⟨p1,p2,p3⟩:=ok.pulls i j x e1 (by rw [List.getElem?_eq_getElem hi,q]);obtain ⟨m',hn',hl⟩:=I.loc;obtain ⟨u,r,l⟩:=hl j x v p1 e4 (by
    rcases p2 with z | z
    ·exact .inr (.inl z)
    ·exact .inr (.inr z))
   refine ⟨u,r,.inr ⟨p3,?_⟩⟩;obtain ⟨c,hc⟩:=ok.has x p3;refine ⟨c,hc,?_⟩;rcases l with ⟨z,_⟩ | ⟨_,c',hc',o,ho',hd'⟩
   ·rcases p2 with y | y <;> rw [z] at y <;> cases y
   ·rw [sub x c hc] at hc';cases hc';exact ⟨o,k _ o ho',hd'⟩
 ·obtain ⟨v,o,e1,e2⟩:=I.cell x c (sub x c e);exact ⟨v,o,k c o e1,e2⟩
 ·show upd H s.heap.objs.size (.lst []) C=none;rw [hC,upd_ne (Nat.succ_ne_self _)];exact fr _ (Nat.le_succ _)
 ·show upd H s.heap.objs.size (.lst []) c=none;obtain ⟨v,o,e1,e2⟩:=I.cell x c (sub x c e);rw [upd_ne (nD c o e1)];exact I.freeC x c (sub x c e)
 ·have hp':p ∈ X.pn++pins:=by
   have:p ∈ (X.pn++pins)++[]:=hp;simpa using this
  obtain ⟨e1,e2,e3,e4,e5⟩:=I.pin p hp';refine ⟨k _ _ e1,?_,nC _ _ e1,nst _ e3 e4,e5⟩;show upd H s.heap.objs.size (.lst []) p.1=none;rw [upd_ne (nD _ _ e1)];exact e2
 ·unfold pull;rw [List.length_map];exact ok.len
theorem pe_comp (ok:CompOk X N src scope cl)(hcalm:X.calm=true)(hi:PI X tg iter wi)
  (hg:∀ C fp pins s H,PG (compCx X N scope cl C fp pins s H) tg g) (hc:∀ C fp pins s H,PIfs (compCx X N scope cl C fp pins s H) ifs tc) (he:∀ C fp pins s H,PE (compCx X N scope cl C fp pins s H) elt te)
  (hs:∀ x,foldedSetIterable iter X.env x=pure x:=by intro _; rfl):PE X (.ListComp elt [⟨tg,iter,ifs,0⟩] scope pos) (tComp wi src g tc te):=by
 intro pins s σ H Q I h;rw [eval_ListComp];refine wpAny_comprehension_free (use:=none) rfl hs ok.clos ok.kind ok.names (thn (hi pins s σ H _ I h) fun xv s1 h1=>thn h1 fun itv s2 h2=>?_);obtain ⟨it,fp,tn,J,H2,e,I2,T,st2,f2,q2⟩:=h2;subst e;refine wpAny_newObj_type (wpAny_newFunctionEnv ok.nocell (by intro y hy; simp at hy) (fun h₁ hns₁ hsb₁=>?_) ok.kind);dsimp only at hns₁ hsb₁ ⊢;generalize hP:s2.heap.push { cls:=.type "list",dict:=none,data:=.seq ([]:List Value).toArray }=P2 at hns₁ hsb₁ ⊢;have hC:P2.objs.size=s2.heap.objs.size + 1:=by rw [<- hP,Heap.size_push]
 have k:∀ b u,s2.heap.get? b=some u->h₁.get? b=some u:=fun b u e=>by
  have lt:=Heap.lt_size e;exact (hsb₁.2 b (by rw [hC]; exact Nat.ne_of_lt (Nat.lt_succ_of_lt lt))).trans (Heap.get?_push_of_some _ (hP ▸ Heap.get?_push_of_some _ e))
 have hD:h₁.get? s2.heap.objs.size=some { cls:=.type "list",data:=.seq #[] }:=(hsb₁.2 _ (by rw [hC]; exact (Nat.succ_ne_self _).symm)).trans (Heap.get?_push_of_some _ (hP ▸ Heap.get?_push_size _ rfl));have ho:∀ b ∈ fp,∃ o,s2.heap.get? b=some o:=fun b hb=>let ⟨o,e,_⟩:=T.obj 0 _ st2 b hb; ⟨o,e⟩
 obtain ⟨W,⟨m0,w0⟩,turn⟩:=q2 s2.heap.objs.size (I2.hok.fresh (Nat.le_refl _));have I0:=comp_start (tk:=s2.toks + ([]:List (Str × Value)).length) ok I2 f2 ho hC k hD hns₁;have st0:tn 0 h₁:=T.keep 0 _ _ st2 fun b _ o e=>k b o e;have fr0:∀ b ∈ fp,upd H2 s2.heap.objs.size (.lst []) b=none:=fun b hb=>by
  obtain ⟨o,e⟩:=ho b hb;rw [upd_ne (Nat.ne_of_lt (Heap.lt_size e))];exact (f2 b hb).1
 have stat:∀ {H':Hp},(∀ b ∈ fp,H' b=none)->∀ b ∈ fp,FpOk (compCx X N scope cl P2.objs.size fp pins s2 H2) [] H' b:=fun {H'} hn b hb=>by
  obtain ⟨o,e⟩:=ho b hb;have lt:=Heap.lt_size e;refine ⟨hn b hb,?_,fun z=>(List.mem_cons.mp (I2.stkSub b z)).elim (f2 b hb).2.1 (f2 b hb).2.2.1,.inl hb,fun x c z=>(f2 b hb).2.2.2.2.1 x c (ok.sub x c z),fun p hp=>?_⟩
  ·show b ≠ P2.objs.size;rw [hC];exact Nat.ne_of_lt (Nat.lt_succ_of_lt lt)
  ·have hp':p ∈ X.pn++pins:=by
    have:p ∈ (X.pn++pins)++[]:=hp;simpa using this
   exact (f2 b hb).2.2.2.2.2 p hp'
 have loop:∀ s₃:Shared,s₃={ s2 with heap:=h₁,toks:=s2.toks + ([]:List (Str × Value)).length } ->
   codeAny (model X.prog X.w) X.A (.compLoop (.ListComp elt [⟨tg,iter,ifs,0⟩] scope pos) 0 (.ref it) (.ref s2.heap.objs.size) (compEnvC scope cl P2.objs.size X.env))
    (compPost (model X.prog X.w) X.A X.xe none (EP X pins σ Q) (.ref s2.heap.objs.size) P2.objs.size) s₃:=by
  rintro s₃ rfl;refine codeAny_loop rfl (fun n s'=>∃ i σ' H',Inv (compCx X N scope cl P2.objs.size fp pins s2 H2) [] σ' H' s'/\tn i s'.heap/\(∀ b ∈ fp,H' b=none)/\W i n σ' H') ?_ m0 ⟨0,_,_,I0,st0,fr0,w0⟩;rintro n s3 ⟨i,σ3,H3,I3,st3,fr3,w3⟩;show wpAny _ X.A ((compTurn (.ListComp elt [⟨tg,iter,ifs,0⟩] scope pos) 0 (.ref it) (.ref s2.heap.objs.size) (compEnvC scope cl P2.objs.size X.env)).onRaise (fun x=>do noteFrame x (compEnvC scope cl P2.objs.size X.env); theTreesLotGoes x)) _ _ s3;refine wpAny_noted ?_;rw [compTurn_list];rcases turn i n σ3 H3 w3 with ⟨stop,qn⟩ | ⟨go,N',hN,step⟩
  ·refine wpAny_bind (wpAny_standAt (wpAny_bind (thn (T.done (compCx X N scope cl P2.objs.size fp pins s2 H2) rfl rfl rfl hcalm i [] s3 σ3 H3 _ I3 (stat fr3) st3 stop) fun r s4 ⟨hr,I4⟩=>?_)));subst hr;refine wpAny_pure ?_;obtain ⟨m,hm,_⟩:=I4.loc;refine ⟨m,hm,fun h' sb=>⟨.ref s2.heap.objs.size,H3,?_,rfl,qn⟩⟩;have un:Un (frs X.stack) fp H2 H3 s2.heap h':=Un.but I4.base (by show s2.heap.objs.size<=P2.objs.size; rw [hC]; exact Nat.le_succ _) sb;have hok:HOk X.prog X.w H3 h':=HOk.but I4.hok I4.free sb;exact I2.call' (s':={ s4 with heap:=h' }) (ch:=fp) I4.os un hok I4.bare fun b hb=>⟨(f2 b hb).2.2.2.1,(f2 b hb).2.1,(f2 b hb).2.2.2.2.1,(f2 b hb).2.2.2.2.2⟩
  ·refine wpAny_bind (wpAny_standAt (wpAny_bind (thn (T.item (compCx X N scope cl P2.objs.size fp pins s2 H2) rfl rfl rfl hcalm i [] s3 σ3 H3 _ I3 (stat fr3) st3 go) fun r s4 ⟨u,hr,h4⟩=>?_)));subst hr;dsimp only;refine wpAny_bind (thn h4 fun _ s5 ⟨x,H5,I5,r5,y5,st5,fr5⟩=>?_);have I5':=I5.pinned (stat fr5) (T.obj _ _ st5);refine wpAny_bind (wpAny_mono (hg P2.objs.size fp pins s2 H2 _ s5 σ3 H5 x u _ I5' r5 (step x H5 y5)) (fun _ s6 ⟨σ6,H6,I6,q6⟩=>?_) fun _ _ z=>False.elim z);have again:∀ {s7:Shared} {σ7:St} {H7:Hp},Inv (compCx X N scope cl P2.objs.size fp pins s2 H2) ([]++pinsAt fp s5.heap) σ7 H7 s7->N' σ7 H7->∃ m,m < n/\∃ i σ' H',Inv (compCx X N scope cl P2.objs.size fp pins s2 H2) [] σ' H' s7/\tn i s7.heap/\(∀ b ∈ fp,H' b=none)/\W i m σ' H':=fun {s7 σ7 H7} I7 n7=>by
    obtain ⟨m',hm,w7⟩:=hN σ7 H7 n7;refine ⟨m',hm,i + 1,σ7,H7,I7.unpinned,T.keep _ _ _ st5 fun b hb o e=>(I7.pin (b,o) (List.mem_append_right _ (List.mem_append_right _ (mem_pinsAt hb e)))).1,fun b hb=>?_,w7⟩;obtain ⟨o,e,d⟩:=T.obj _ _ st5 b hb;exact (I7.pin (b,o) (List.mem_append_right _ (List.mem_append_right _ (mem_pinsAt hb e)))).2.1
   refine wpAny_bind (wpAny_mono (hc P2.objs.size fp pins s2 H2 _ s6 σ6 H6 _ I6 q6) (fun b s7 ⟨H7,I7,q7⟩=>?_) fun _ _ z=>False.elim z);cases b with
   | false =>
    rw [if_neg Bool.false_ne_true] at q7;exact wpAny_pure ⟨rfl,again I7 q7⟩
   | true =>
    rw [if_pos rfl] at q7;refine wpAny_bind (wpAny_bind (wpAny_mono (he P2.objs.size fp pins s2 H2 _ s7 σ6 H7 _ I7 q7) (fun y s8 ⟨v8,H8,I8,r8,ys,hys,hlen,q8⟩=>?_) fun _ _ z=>False.elim z));refine wpAny_bind (wpAny_mono (mt_append (X:=compCx X N scope cl P2.objs.size fp pins s2 H2) _ s8 σ6 H8 (.ref s2.heap.objs.size) [v8] (.ref s2.heap.objs.size) [y] (fun _ H9=>N' σ6 H9) I8 rfl (.cons r8 .nil) ⟨_,ys,v8,rfl,rfl,hys,hlen,q8⟩) (fun _ s9 ⟨v9,H9,I9,_,q9⟩=>?_) fun _ _ z=>False.elim z);exact wpAny_pure (wpAny_pure ⟨rfl,again I9 q9⟩)
 exact codeAny_compStart_list (loop _ rfl) (T.self _ 0 _ _ _ st0 (loop _ rfl))
end
end L2
namespace L2
open PySem PySem.Spec PyProof.Rows
section
variable {K:PySem.W.Frag}{src:List (Option Nat)}{g:TG}{tc:TT}{te:TE}{Q:VK}{σ:St}{H:Hp}{D:Addr}
theorem comp_list {a:Addr}{xs:List V}(Pv:Nat->St->Hp->Prop)(h0:Pv 0 σ H)(hl:∀ i σ H,i<=xs.length->Pv i σ H->SqL K H a xs)
  (hs:∀ i x σ H,xs[i]?=some x->Pv i σ H->g x σ H fun σ2 H3=>tc σ2 H3 fun b H4=>if b=true then te σ2 H4 fun y H5=>∃ ys,H5 D=some (.lst ys)/\ys.length < sizeLine/\Pv (i + 1) σ2 (upd H5 D (.lst (ys++[y]))) else Pv (i + 1) σ2 H4)
  (hd:∀ σ H,Pv xs.length σ H->Q (.ref D) H):CompGoes (Itl K a) g tc te Q D σ H:=by
 refine ⟨fun i m σ H=>m=xs.length - i/\i<=xs.length/\Pv i σ H,⟨xs.length,by simp,Nat.zero_le _,h0⟩,?_⟩;rintro i m σ H ⟨rfl,hi,p⟩;have q:=hl i σ H hi p;by_cases hlt:i < xs.length
 ·refine .inr ⟨⟨xs,xs[i],q,by simp [hlt]⟩,Pv (i + 1),fun σ' H' p'=>⟨xs.length - (i + 1),by omega,rfl,hlt,p'⟩,fun x H' y=>?_⟩;obtain ⟨e,y⟩:=y;subst e;exact hs i x σ _ (y xs q) p
 ·have e:i=xs.length:=by omega
  subst e;exact .inl ⟨⟨xs,q,Nat.le_refl _⟩,hd σ H p⟩
end
end L2
namespace L2
open PySem PySem.Spec PyProof.Rows
section
variable {X:Cx}{K:PySem.W.Frag}
theorem pt_truthK {a:Expr}{ta:TE}(hK:X.K=K)(ha:PE X a ta)(he:∀ whole,isTrue a X.env whole=(do let v <- whole; standAt a.pos; holding [v] (truthy v))) :
  PT X a (fun σ H Q=>ta σ H fun x H'=>∃ k,TruV K x H' k/\Q k H'):=by
 subst hK;exact pt_truth ha he
theorem ix_tupK (hK:X.K=K):IxR X (rIxT K):=by
 subst hK;exact ix_tup
theorem call_len_seqK (hK:X.K=K):CallR X (.builtin "len") (fun xs H Q=>∃ p ys,xs=[.ref p]/\(SqL K H p ys\/SqT K H p ys)/\Q (.int ys.length) H):=by
 subst hK;exact call_len_seq
theorem op_eq_deepK (hK:X.K=K)(hu:X.A.units + 64 < cLine):OpR X (compareOp .Eq) (rEqD K false):=by
 subst hK;exact op_eq_deep hu
theorem op_ne_deepK (hK:X.K=K)(hu:X.A.units + 64 < cLine):OpR X (compareOp .NotEq) (rEqD K true):=by
 subst hK;exact op_ne_deep hu
theorem op_in_deepK (hK:X.K=K)(hu:X.A.units + 64 < cLine):OpR X (compareOp .In) (rInD K false):=by
 subst hK;exact op_in_deep hu
theorem op_notIn_deepK (hK:X.K=K)(hu:X.A.units + 64 < cLine):OpR X (compareOp .NotIn) (rInD K true):=by
 subst hK;exact op_notIn_deep hu
theorem pg_tupK {es:List Expr}{k:Nat}{t:TGs}{n:Nat}{pos:Pos}(hK:X.K=K)(hc:X.calm=true)(h:PGs X es t)
  (hn:(assignEach es X.env).length=n:=by rfl) (hst:(assignEach es X.env).findIdx? (·.1)=none:=by rfl):PG X (.Tuple es k pos) (gTup K n t):=by
 subst hK;exact pg_tup hc h hn hst
end
end L2
namespace L2
open PySem PySem.Spec PyProof.Rows
section
variable {fs ch:List Addr}{H:Hp}{h h':Heap}{a:Addr}{o:HO}
theorem Un.laidX (k:∀ b u,b ∉ ch->h.get? b=some u->h'.get? b=some u)(hp:h.objs.size<=a)(hn:H a=none):Un fs ch H (upd H a o) h h' where
 keep:=fun b u q _ _ hx=>k b u hx q
 slot:=fun b u q _ _ hx=>⟨u.slots,k b u hx q⟩
 free:=fun b u q n _=>by rw [upd_ne (Nat.ne_of_lt (Nat.lt_of_lt_of_le (Heap.lt_size q) hp))]; exact n
 there:=fun b u q hx=>⟨u,k b u hx q⟩
 tups:=fun b xs q=>by rw [upd_ne (ne_of_none q hn)]; exact q
 frzs:=fun b u xs q=>by rw [upd_ne (ne_of_none q hn)]; exact q
 tbls:=fun b ps q=>⟨#[],by rw [upd_ne (ne_of_none q hn),q]; simp⟩
theorem Un.keptX (k:∀ b u,b ∉ ch->h.get? b=some u->h'.get? b=some u):Un fs ch H H h h' :=
 ⟨fun b ob q _ _ hx=>k b ob hx q,fun b ob q _ _ hx=>⟨ob.slots,k b ob hx q⟩,fun _ _ _ n _=>n,fun b ob q hx=>⟨ob,k b ob hx q⟩,fun _ _ q=>q,fun _ _ _ q=>q,fun _ ps q=>⟨#[],by rw [q]; simp⟩⟩
theorem HOk.keptX {P:Program}{w:World}(x:HOk P w H h)(k:∀ b u,b ∉ ch->h.get? b=some u->h'.get? b=some u)(hch:∀ b ∈ ch,H b=none):HOk P w H h':=fun b u e=>by
 refine (x b u e).stay (fun c v hc q=>k c v (fun z=>?_) q) (fun _ q=>q) fun _ _ q=>q;have n:=hch c z;rcases hc with rfl | hc
 ·rw [n] at e; cases e
 ·rw [n] at hc; cases hc
theorem HOk.laidX {P:Program}{w:World}(x:HOk P w H h)(k:∀ b u,b ∉ ch->h.get? b=some u->h'.get? b=some u)(hch:∀ b ∈ ch,H b=none)(hp:h.objs.size<=a)(new:ObjOk P w (upd H a o) h' a o):HOk P w (upd H a o) h':=fun b u e=>by
 have hn:=x.fresh hp;by_cases hb:b=a
 ·subst hb; rw [upd_same] at e; cases e; exact new
 ·rw [upd_ne hb] at e;refine (x b u e).stay (fun c v hc q=>k c v (fun z=>?_) q) (fun c q=>by rw [upd_ne (ne_of_none q hn)]; exact q) fun c xs q=>by rw [upd_ne (ne_of_none q hn)]; exact q
  have n:=hch c z;rcases hc with rfl | hc
  ·rw [n] at e; cases e
  ·rw [n] at hc; cases hc
end
section
variable {X:Cx}{pins:List (Addr × Obj)}{s:Shared}{σ:St}{H:Hp}{E:Value->Shared->Prop}{fp wr FP:List Addr}{elts:List Expr}{k:Nat}{pos:Pos}{e:Addr}{n i:Nat}{Pt:Nat->Array Value->Prop}{Sn:Nat->Heap->Prop}{Mid:Nat->Addr->Heap->Prop}{J:It}{tn:Nat->Heap->Prop}
theorem item_T (I:Inv X pins σ H s)(hf:∀ b ∈ fp,FpOk X pins H b)(ho:∀ b ∈ fp,∃ o,s.heap.get? b=some o)(hwr:∀ b ∈ wr,b ∈ fp)(W:WalksT X.prog X.w X.A e FP wr n Pt Sn Mid)(hi:i < n)(st:Sn i s.heap)
  (y:∀ T vals,H T=none->Pt i vals->∃ vs,Vals vs vals.toList/\vs.length<=sizeLine/\J.yld i H (.ref T) (upd H T (.tup vs))) (nx:∀ h'',Sn (i + 1) h''->tn (i + 1) h'') :
  wpAny (model X.prog X.w) X.A (pyNext (.ref e)) (fun r s1=>∃ u,r=some u /\
   wpAny (model X.prog X.w) X.A (letOwnedTupleGo (.Tuple elts k pos) (.ref e) u) (fun _ s2=>∃ x H',Inv X pins σ H' s2/\RelV x u/\J.yld i H x H'/\tn (i + 1) s2.heap/\∀ b ∈ fp,H' b=none) E s1) E s:=by
 refine W.item i s _ E hi st fun T vals h' tk hP hT0 hT hm kk=>⟨.ref T,rfl,?_⟩;have hn:H T=none:=I.hok.fresh hT0;obtain ⟨vs,hv,hl,hy⟩:=y T vals hn hP;refine W.go elts k pos i T { s with heap:=h',toks:=tk } _ E hm fun h'' st'' kk2=>?_;have k2:∀ b o,b ∉ wr->s.heap.get? b=some o->h''.get? b=some o:=fun b o hb e=>kk2 b o hb (kk b o hb e);have hTup:IsTup h'' T vals:=by
  obtain ⟨o,e1,c,m,d⟩:=hT;exact ⟨o,kk2 T o (W.apart i T _ hm) e1,c,m,d⟩
 have hch:∀ b ∈ wr,H b=none:=fun b hb=>(hf b (hwr b hb)).1;refine ⟨.ref T,upd H T (.tup vs),?_,rfl,hy,nx _ st'',fun b hb=>?_⟩
 ·exact I.call' (s':={ s with heap:=h'',toks:=tk }) (ch:=wr) rfl (Un.laidX k2 hT0 hn) (HOk.laidX I.hok k2 hch hT0 ⟨hl,vals.toList,hv,by simpa using hTup⟩) I.bare fun b hb=>let f:=hf b (hwr b hb); ⟨f.2.2.2.1,f.2.1,f.2.2.2.2.1,f.2.2.2.2.2⟩
 ·obtain ⟨o,e1⟩:=ho b hb;rw [upd_ne (Nat.ne_of_lt (Nat.lt_of_lt_of_le (Heap.lt_size e1) hT0))];exact (hf b hb).1
theorem done_T (I:Inv X pins σ H s)(hf:∀ b ∈ fp,FpOk X pins H b)(hwr:∀ b ∈ wr,b ∈ fp)(W:WalksT X.prog X.w X.A e FP wr n Pt Sn Mid)(st:Sn n s.heap) :
  wpAny (model X.prog X.w) X.A (pyNext (.ref e)) (fun r s1=>r=none/\Inv X pins σ H s1) E s :=
 W.done s _ E st fun h' tk kk=>⟨rfl,I.call' (s':={ s with heap:=h',toks:=tk }) (ch:=wr) rfl (Un.keptX kk) (HOk.keptX I.hok kk fun b hb=>(hf b (hwr b hb)).1) I.bare fun b hb=>let f:=hf b (hwr b hb); ⟨f.2.2.2.1,f.2.1,f.2.2.2.2.1,f.2.2.2.2.2⟩⟩
end
theorem not_cell {h:Heap}{b:Addr}{o:Obj}{vs:Array Value}(e:h.get? b=some o)(d:o.data=.fields vs):∃ o,h.get? b=some o/\∀ v,o.data ≠ .cell v:=⟨o,e,fun v z=>by rw [d] at z; cases z⟩
noncomputable def Ite (K:PySem.W.Frag)(l:Addr):It:=⟨fun i H=>∃ xs,SqL K H l xs/\i < xs.length,fun i H x H'=>∃ T,x=.ref T/\H T=none/\∀ xs,SqL K H l xs->∃ v,xs[i]?=some v/\H'=upd H T (.tup [.int i,v]),fun i H=>∃ xs,SqL K H l xs/\i=xs.length⟩
theorem turn_enum {P:Program}{w:World}{K:PySem.W.Frag}{elts:List Expr}{k:Nat}{pos:Pos}(e it l:Addr)(hei:e ≠ it)(hle:l ≠ e)(hli:l ≠ it) :
  Turn P w K (.Tuple elts k pos) (Ite K l) [e,it] e (fun i h=>(∃ old,IsEnum h e it i old)/\h.IsListIter it l i) where
 mem:=by simp
 obj:=fun i h st b hb=>by
  obtain ⟨⟨old,he⟩,o,e2,c,d⟩:=st;rcases List.mem_cons.mp hb with rfl | hb
  ·exact not_cell he rfl
  ·have z:b=it:=by simpa using hb
   subst z;exact not_cell e2 d
 keep:=fun i h h' st kk=>by
  obtain ⟨⟨old,he⟩,o,e2,r⟩:=st;exact ⟨⟨old,kk e (by simp) _ he⟩,o,kk it (by simp) o e2,r⟩
 item:=by
  intro X hP hw hK hc i pins s σ H E I hf st hg;subst hP hw hK;obtain ⟨xs,hq,hlt⟩:=hg;obtain ⟨its,rv,p,hz⟩:=I.list hq;have hl:=rv.length;obtain ⟨⟨old,he⟩,o2,e2,c2,d2⟩:=id st;refine item_T (wr:=[e,it]) (J:=Ite X.K l) (tn:=fun i h=>(∃ old,IsEnum h e it i old)/\h.IsListIter it l i) I hf (fun b hb=>?_) (fun b hb=>hb) (WalksT.enumerate (I.ok.hd hc) e it l hei hle hli its.toArray) (by simp; omega) ⟨st.1,st.2,p.isList⟩ (fun T vals hn hp=>?_) fun h'' q=>⟨q.1,q.2.1⟩
  ·rcases List.mem_cons.mp hb with rfl | hb
   ·exact ⟨_,he⟩
   ·have z:b=it:=by simpa using hb
    subst z;exact ⟨_,e2⟩
  ·obtain ⟨t,x,hx,rfl⟩:=hp;have hx':its[i]?=some x:=by simpa using hx
   obtain ⟨u,hu,ru⟩:=rv.get (i:=i) (x:=xs[i]) (by rw [List.getElem?_eq_getElem hlt]);rw [hu] at hx';cases hx';exact ⟨[.int i,xs[i]],.cons ⟨t,rfl⟩ (.cons ru .nil),(by show 2<=sizeLine; decide),T,rfl,hn,fun ys hy=>⟨xs[i],by rw [I.list_inj hy hq,List.getElem?_eq_getElem hlt],rfl⟩⟩
 done:=by
  intro X hP hw hK hc i pins s σ H E I hf st hg;subst hP hw hK;obtain ⟨xs,hq,rfl⟩:=hg;obtain ⟨its,rv,p,hz⟩:=I.list hq;have hl:its.toArray.size=xs.length:=by simp [rv.length]
  refine done_T (fp:=[e,it]) (wr:=[e,it]) I hf (fun b hb=>hb) (WalksT.enumerate (I.ok.hd hc) e it l hei hle hli its.toArray) ?_;rw [hl];exact ⟨st.1,st.2,p.isList⟩
 self:=fun A i s Q E st h=>by
  obtain ⟨⟨old,he⟩,_⟩:=st;exact wpAny_pyIter_enum he h
noncomputable def Ites (x:Str):It:=⟨fun i _=>i < x.cps.size,fun i H v H'=>∃ T c,v=.ref T/\H T=none/\x.cps[i]?=some c/\H'=upd H T (.tup [.int i,.str ⟨#[c]⟩]),fun i _=>i=x.cps.size⟩
theorem turn_enumS {P:Program}{w:World}{K:PySem.W.Frag}{elts:List Expr}{k:Nat}{pos:Pos}(e it:Addr)(x:Str)(t:Tok)(n:String)(hei:e ≠ it)
  (D:∀ A:Around,A.handled=none->Draws P w A it [it] x.cps.size (fun i v=>∃ c u,x.cps[i]?=some c/\v=.str ⟨#[c]⟩ u) (fun i h=>h.IsStrIter it n x t i)) :
  Turn P w K (.Tuple elts k pos) (Ites x) [e,it] e (fun i h=>(∃ old,IsEnum h e it i old)/\h.IsStrIter it n x t i) where
 mem:=by simp
 obj:=fun i h st b hb=>by
  obtain ⟨⟨old,he⟩,o,e2,c,d⟩:=st;rcases List.mem_cons.mp hb with rfl | hb
  ·exact not_cell he rfl
  ·have z:b=it:=by simpa using hb
   subst z;exact not_cell e2 d
 keep:=fun i h h' st kk=>by
  obtain ⟨⟨old,he⟩,o,e2,r⟩:=st;exact ⟨⟨old,kk e (by simp) _ he⟩,o,kk it (by simp) o e2,r⟩
 item:=by
  intro X hP hw hK hc i pins s σ H E I hf st hg;subst hP hw hK;obtain ⟨⟨old,he⟩,o2,e2,c2,d2⟩:=id st;refine item_T (wr:=[e,it]) (J:=Ites x) (tn:=fun i h=>(∃ old,IsEnum h e it i old)/\h.IsStrIter it n x t i) I hf (fun b hb=>?_) (fun b hb=>hb) (WalksT.enumerateD (D X.A.in1 (I.ok.hd hc)) e hei (by simpa using hei) (by simp)) hg st (fun T vals hn hp=>?_) fun h'' q=>q
  ·rcases List.mem_cons.mp hb with rfl | hb
   ·exact ⟨_,he⟩
   ·have z:b=it:=by simpa using hb
    subst z;exact ⟨_,e2⟩
  ·obtain ⟨t',v,⟨c,u,hx,rfl⟩,rfl⟩:=hp;exact ⟨[.int i,.str ⟨#[c]⟩],.cons ⟨t',rfl⟩ (.cons ⟨u,rfl⟩ .nil),(by show 2<=sizeLine; decide),T,c,rfl,hn,hx,rfl⟩
 done:=by
  intro X hP hw hK hc i pins s σ H E I hf st hg;subst hP hw hK;have z:i=x.cps.size:=hg;subst z;exact done_T (fp:=[e,it]) (wr:=[e,it]) I hf (fun b hb=>hb) (WalksT.enumerateD (D X.A.in1 (I.ok.hd hc)) e hei (by simpa using hei) (by simp)) st
 self:=fun A i s Q E st h=>by
  obtain ⟨⟨old,he⟩,_⟩:=st;exact wpAny_pyIter_enum he h
section
variable {X:Cx}{elts:List Expr}{k:Nat}{tpos:Pos}
noncomputable def iEnumL (K:PySem.W.Frag)(ta:TA):TI:=fun σ H R=>ta σ H fun vs H1=>∃ l,vs=[.ref l]/\(∃ xs,SqL K H1 l xs)/\R (Ite K l) H1
theorem pi_enumL {a:Expr}{ta:TA}{p pos:Pos}(hg:Gl X "enumerate")(hm:X.mg "enumerate"=none)(ha:PA X [a] ta)(hs:starEach [a] X.env=[(false,eval a X.env)]:=by rfl):PI X (.Tuple elts k tpos) (.Call (.Name "enumerate" p) [a] [] pos) (iEnumL X.K ta):=by
 intro pins s σ H R I h;refine Call_ (ld_blt I hg hm boot_enumerate (PyProof.Rows.callWith_type1 (thn (ha pos pins s σ H _ I h) fun us s1 ⟨vs,H1,I1,r1,q1⟩=>?_) hs rfl));obtain ⟨l,rfl,⟨xs,hq⟩,q⟩:=q1;obtain ⟨u,rfl,ru⟩:=vals1 r1;cases ru;obtain ⟨its,rv,pl,hz⟩:=I1.list hq;obtain ⟨ol,hol,_⟩:=pl.isList;have hlt:=Heap.lt_size hol;refine call_enumerate_list pl.isList fun h' he hit hsz kk=>?_;have I2:Inv X pins σ H1 { s1 with heap:=h' }:=I1.kept (t':=s1.toks) kk;refine wpAny_pyIter_enum he ?_;refine ⟨s1.heap.objs.size + 1,[s1.heap.objs.size + 1,s1.heap.objs.size],_,_,H1,rfl,I2,turn_enum (s1.heap.objs.size + 1) s1.heap.objs.size l (Nat.succ_ne_self _) (Nat.ne_of_lt (Nat.lt_succ_of_lt hlt)) (Nat.ne_of_lt hlt),⟨⟨_,he⟩,hit⟩,fun b hb=>?_,q⟩;have hb':s1.heap.objs.size<=b:=by
  rcases List.mem_cons.mp hb with e | hb
  ·rw [e]; exact Nat.le_succ _
  ·have e:b=s1.heap.objs.size:=by simpa using hb
   rw [e]; exact Nat.le_refl _
 exact I1.fpOk hb' (I1.hok.fresh hb')
noncomputable def iEnumS (ta:TA):TI:=fun σ H R=>ta σ H fun vs H1=>∃ z,vs=[.str z]/\R (Ites z) H1
theorem pi_enumS {a:Expr}{ta:TA}{p pos:Pos}(hg:Gl X "enumerate")(hm:X.mg "enumerate"=none)(ha:PA X [a] ta)(hs:starEach [a] X.env=[(false,eval a X.env)]:=by rfl):PI X (.Tuple elts k tpos) (.Call (.Name "enumerate" p) [a] [] pos) (iEnumS ta):=by
 intro pins s σ H R I h;refine Call_ (ld_blt I hg hm boot_enumerate (PyProof.Rows.callWith_type1 (thn (ha pos pins s σ H _ I h) fun us s1 ⟨vs,H1,I1,r1,q1⟩=>?_) hs rfl));obtain ⟨z,rfl,q⟩:=q1;obtain ⟨u,rfl,t,rfl⟩:=vals1 r1;refine call_enumerate_str fun h' he hit hsz kk=>?_;have I2:Inv X pins σ H1 { s1 with heap:=h' }:=I1.kept (t':=s1.toks) kk;refine wpAny_pyIter_enum he ?_;have fpk:∀ b ∈ [s1.heap.objs.size + 1,s1.heap.objs.size],FpOk X pins H1 b:=fun b hb=>by
  have hb':s1.heap.objs.size<=b:=by
   rcases List.mem_cons.mp hb with e | hb
   ·rw [e]; exact Nat.le_succ _
   ·have e:b=s1.heap.objs.size:=by simpa using hb
    rw [e]; exact Nat.le_refl _
  exact I1.fpOk hb' (I1.hok.fresh hb')
 unfold strIterType at hit;by_cases ha:z.cps.all (· < 128)=true
 ·rw [if_pos ha] at hit;exact ⟨s1.heap.objs.size + 1,[s1.heap.objs.size + 1,s1.heap.objs.size],_,_,H1,rfl,I2,turn_enumS (s1.heap.objs.size + 1) s1.heap.objs.size z t "str_ascii_iterator" (Nat.succ_ne_self _) (fun A hA=>Draws.strAscii hA _ z t),⟨⟨_,he⟩,hit⟩,fpk,q⟩
 ·rw [if_neg ha] at hit;exact ⟨s1.heap.objs.size + 1,[s1.heap.objs.size + 1,s1.heap.objs.size],_,_,H1,rfl,I2,turn_enumS (s1.heap.objs.size + 1) s1.heap.objs.size z t "str_iterator" (Nat.succ_ne_self _) (fun A hA=>Draws.strWide hA _ z t),⟨⟨_,he⟩,hit⟩,fpk,q⟩
theorem call_int_str:CallR X (.type "int") (fun xs H Q=>∃ x n,xs=[.str x]/\PySem.intText? x=some n/\x.length<=640/\Q (.int n) H):=by
 intro pins s σ H xs us Q I r h;obtain ⟨x,n,rfl,hn,hl,q⟩:=h;obtain ⟨u,rfl,t,rfl⟩:=vals1 r;exact PySem.W.KIN.call_text hn hl ⟨.int n,H,I.tok _,⟨_,rfl⟩,q⟩
theorem call_str_str:CallR X (.type "str") (fun xs H Q=>∃ x,xs=[.str x]/\Q (.str x) H):=by
 intro pins s σ H xs us Q I r h;obtain ⟨x,rfl,q⟩:=h;obtain ⟨u,rfl,t,rfl⟩:=vals1 r;exact PySem.P.str_of_str ⟨.str x,H,I,⟨_,rfl⟩,q⟩
end
theorem for_enumL {K:PySem.W.Frag}{l:Addr}{xs:List V}{g:TG}{tb:TS}{D:Ends}{σ:St}{H:Hp}(Pv:Nat->St->Hp->Prop)(h0:Pv 0 σ H)(hl:∀ i σ H,i<=xs.length->Pv i σ H->SqL K H l xs)
  (hs:∀ i x T σ H,xs[i]?=some x->H T=none->Pv i σ H->g (.ref T) σ (upd H T (.tup [.int i,x])) fun σ2 H2=>tb { D with nx:=Pv (i + 1),ct:=Pv (i + 1),bk:=D.nx } σ2 H2) (hd:∀ σ H,Pv xs.length σ H->D.nx σ H) :
  ∃ W:Nat->Nat->St->Hp->Prop,(∃ m,W 0 m σ H)/\∀ i m σ H,W i m σ H ->
   ((Ite K l).stop i H/\D.nx σ H)\/((Ite K l).go i H/\∃ N:St->Hp->Prop,(∀ σ' H',N σ' H'->∃ m',m' < m/\W (i + 1) m' σ' H')/\∀ x H',(Ite K l).yld i H x H'->g x σ H' fun σ2 H2=>tb { D with nx:=N,ct:=N,bk:=D.nx } σ2 H2):=by
 refine ⟨fun i m σ H=>m=xs.length - i/\i<=xs.length/\Pv i σ H,⟨xs.length,by simp,Nat.zero_le _,h0⟩,?_⟩;rintro i m σ H ⟨rfl,hi,p⟩;have q:=hl i σ H hi p;by_cases hlt:i < xs.length
 ·refine .inr ⟨⟨xs,q,hlt⟩,Pv (i + 1),fun σ' H' p'=>⟨xs.length - (i + 1),by omega,rfl,hlt,p'⟩,fun x H' y=>?_⟩;obtain ⟨T,rfl,hT,y⟩:=y;obtain ⟨v,hv,rfl⟩:=y xs q;exact hs i v T σ H hv hT p
 ·have e:i=xs.length:=by omega
  subst e;exact .inl ⟨⟨xs,q,rfl⟩,hd σ H p⟩
theorem comp_enumS {g:TG}{tc:TT}{te:TE}{Q:VK}{σ:St}{H:Hp}{D:Addr}{x:Str}(Pv:Nat->St->Hp->Prop)(h0:Pv 0 σ H)
  (hs:∀ i c T σ H,x.cps[i]?=some c->H T=none->Pv i σ H->g (.ref T) σ (upd H T (.tup [.int i,.str ⟨#[c]⟩])) fun σ2 H3=>tc σ2 H3 fun b H4=>if b=true then te σ2 H4 fun y H5=>∃ ys,H5 D=some (.lst ys)/\ys.length < sizeLine/\Pv (i + 1) σ2 (upd H5 D (.lst (ys++[y]))) else Pv (i + 1) σ2 H4)
  (hd:∀ σ H,Pv x.cps.size σ H->Q (.ref D) H):CompGoes (Ites x) g tc te Q D σ H:=by
 refine ⟨fun i m σ H=>m=x.cps.size - i/\i<=x.cps.size/\Pv i σ H,⟨x.cps.size,by simp,Nat.zero_le _,h0⟩,?_⟩;rintro i m σ H ⟨rfl,hi,p⟩;by_cases hlt:i < x.cps.size
 ·refine .inr ⟨hlt,Pv (i + 1),fun σ' H' p'=>⟨x.cps.size - (i + 1),by omega,rfl,hlt,p'⟩,fun v H' y=>?_⟩;obtain ⟨T,c,rfl,hT,hc,rfl⟩:=y;exact hs i c T σ H hc hT p
 ·have e:i=x.cps.size:=by omega
  subst e;exact .inl ⟨rfl,hd σ H p⟩
end L2
namespace L2
open PySem PySem.Spec PyProof.Rows
noncomputable def clOf (look:Str->Option Addr):List (Str × NameKind)->List (Str × Addr)->List (Str × Addr)
 | [],acc=>acc
 | (n,k) :: r,acc=>if k == .free then (match look n with
  | some c=>clOf look r ((n,c) :: acc)
  | none=>clOf look r acc) else clOf look r acc
theorem clOf_mem {look:Str->Option Addr}:∀ (names:List (Str × NameKind)) (acc:List (Str × Addr)) (p:Str × Addr),p ∈ clOf look names acc->p ∈ acc\/look p.1=some p.2
 | [],acc,p,h=>.inl h
 | (n,k) :: r,acc,p,h=>by
  unfold clOf at h;split at h
  ·cases e:look n with
   | none =>
    rw [e] at h;exact clOf_mem r acc p h
   | some c =>
    rw [e] at h;rcases clOf_mem r _ p h with h | h
    ·rcases List.mem_cons.mp h with h | h
     ·subst h;exact .inr e
     ·exact .inl h
    ·exact .inr h
  ·exact clOf_mem r acc p h
theorem lookup_cons_some {x n:Str}{c:Addr}{acc:List (Str × Addr)}(h:(acc.lookup x).isSome=true\/x=n):(List.lookup x ((n,c) :: acc)).isSome=true:=by
 rw [List.lookup_cons];cases e:x == n with
 | true=>rfl
 | false =>
  rcases h with h | h
  ·exact h
  ·subst h;simp at e
theorem clOf_has {look:Str->Option Addr}{x:Str}(names:List (Str × NameKind))(acc:List (Str × Addr))(h:(acc.lookup x).isSome=true\/((x,NameKind.free) ∈ names/\(look x).isSome=true)):((clOf look names acc).lookup x).isSome=true:=by
 induction names generalizing acc with
 | nil =>
  rcases h with h | h
  ·exact h
  ·cases h.1
 | cons y r ih =>
  obtain ⟨n,k⟩:=y;unfold clOf;split
  ·rename_i hk;cases e:look n with
   | none =>
    refine ih acc ?_;rcases h with h | ⟨h,h2⟩
    ·exact .inl h
    ·rcases List.mem_cons.mp h with h | h
     ·cases h;rw [e] at h2;cases h2
     ·exact .inr ⟨h,h2⟩
   | some c =>
    refine ih _ ?_;rcases h with h | ⟨h,h2⟩
    ·exact .inl (lookup_cons_some (.inl h))
    ·rcases List.mem_cons.mp h with h | h
     ·cases h;exact .inl (lookup_cons_some (.inr rfl))
     ·exact .inr ⟨h,h2⟩
  ·rename_i hk;refine ih acc ?_;rcases h with h | ⟨h,h2⟩
   ·exact .inl h
   ·rcases List.mem_cons.mp h with h | h
    ·cases h;exact absurd rfl hk
    ·exact .inr ⟨h,h2⟩
theorem closureFor_free {scope:Scope}{env:Env}(h:∀ y ∈ scope.names,y.2=.free->(env.cells.lookup y.1).isSome=true):closureFor scope env=pure (clOf (fun x=>env.cells.lookup x) scope.names []):=by
 have go:∀ (names:List (Str × NameKind)) (acc:List (Str × Addr)),(∀ y ∈ names,y.2=.free->(env.cells.lookup y.1).isSome=true) ->
   (forIn names acc fun x cs=>(match x with
    | (name,kind)=>if (kind == .free)=true then do let a <- cellOf env name; pure (ForInStep.yield ((name,a) :: cs)) else pure (ForInStep.yield cs):Sem (ForInStep (List (Str × Addr)))))=(pure (clOf (fun x=>env.cells.lookup x) names acc):Sem _):=by
  intro names;induction names with
  | nil=>intro acc _; rfl
  | cons y r ih =>
   intro acc hy;obtain ⟨n,k⟩:=y;have hr:∀ y ∈ r,y.2=.free->(env.cells.lookup y.1).isSome=true:=fun y hm=>hy y (List.mem_cons_of_mem _ hm);rw [List.forIn_cons];unfold clOf;by_cases hk:(k == NameKind.free)=true
   ·have hk':k=.free:=by simpa using hk
    have hs:=hy (n,k) List.mem_cons_self hk';obtain ⟨c,hc⟩:=Option.isSome_iff_exists.mp hs;have hc':List.lookup n env.cells=some c:=hc;have e1:cellOf env n=pure c:=by
     unfold cellOf;rw [hc']
    simp only [hk,if_true,e1,hc',pure_bind];exact ih _ hr
   ·simp only [hk,Bool.false_eq_true,if_false,pure_bind];exact ih _ hr
 simp only [closureFor];exact Eq.trans (congrArg (fun m:Sem (List (Str × Addr))=>m >>= fun cs=>pure cs) (go scope.names [] h)) rfl
theorem relabel_mem {scope:Scope}{env:Env}{x:Str}{k:NameKind}(h:(x,k) ∈ (relabel scope env).names)(hk:k=.cell\/k=.free):(x,NameKind.cell) ∈ scope.names\/(x,NameKind.free) ∈ scope.names:=by
 obtain ⟨y,hy,e⟩:=List.mem_map.mp h;obtain ⟨n,k0⟩:=y;by_cases c:(k0 == NameKind.free && env.scope.kind == .function && env.kindOf n == some .cell)=true
 ·have e':(if (k0 == NameKind.free && env.scope.kind == .function && env.kindOf n == some .cell)=true then (n,NameKind.cell) else (n,k0))=(x,k):=e;rw [if_pos c] at e';cases e';have c1:k0=.free:=by
   have:=(Bool.and_eq_true_iff.mp (Bool.and_eq_true_iff.mp c).1).1;simpa using this
  subst c1;exact .inr hy
 ·have e':(if (k0 == NameKind.free && env.scope.kind == .function && env.kindOf n == some .cell)=true then (n,NameKind.cell) else (n,k0))=(x,k):=e;rw [if_neg c] at e';cases e';rcases hk with rfl | rfl
  ·exact .inl hy
  ·exact .inr hy
theorem relabel_free {scope:Scope}{env:Env}{x:Str}(hk:env.scope.kind=.function)(ho:env.kindOf x=some .cell)(h:scope.names.lookup x=some .free):(relabel scope env).names.lookup x=some .cell:=by
 have go:∀ names:List (Str × NameKind),names.lookup x=some .free->(names.map fun (n,k)=>if (k == NameKind.free && env.scope.kind == .function && env.kindOf n == some .cell)=true then (n,NameKind.cell) else (n,k)).lookup x=some .cell:=by
  intro names;induction names with
  | nil=>intro h; cases h
  | cons y r ih =>
   obtain ⟨n,k⟩:=y;intro h;show List.lookup x ((if (k == NameKind.free && env.scope.kind == .function && env.kindOf n == some .cell)=true then (n,NameKind.cell) else (n,k)) :: _)=_;rw [List.lookup_cons] at h;cases e:x == n with
   | true =>
    rw [e] at h;have hk':k=.free:=Option.some.inj h;have hn:x=n:=by simpa using e
    subst hk' hn;rw [if_pos (by rw [hk,ho]; rfl),List.lookup_cons,beq_self_eq_true]
   | false =>
    rw [e] at h;by_cases c:(k == NameKind.free && env.scope.kind == .function && env.kindOf n == some .cell)=true
    ·rw [if_pos c,List.lookup_cons,e];exact ih h
    ·rw [if_neg c,List.lookup_cons,e];exact ih h
 exact go scope.names h
theorem CompOk.free {X:Cx}{N:List Str}{src:List (Option Nat)}{scope:Scope}{O:List (Str × NameKind)}{XN:List Str}(hO:X.env.scope.names=O)(hK:X.env.scope.kind=.function)(hC:∃ n,X.env.cells=cellsFrom n O [])(hX:X.N=XN)
  (kind:scope.kind=.function) (nocell:∀ y ∈ scope.names,y.2 ≠ .cell) (names:∀ y ∈ scope.names,y.2=.local->scope.names.lookup y.1=some .local) (fr:∀ y ∈ scope.names,y.2=.free->O.lookup y.1=some .cell) (len:src.length=N.length)
  (pc:∀ q ∈ N.zip src,q.2=none\/(∃ j ∈ List.range XN.length,q.2=some j/\XN[j]?=some q.1/\O.lookup q.1=some .cell/\scope.names.lookup q.1=some .free)):CompOk X N src scope (clOf (fun x=>X.env.cells.lookup x) scope.names []):=by
 have hs:∀ y ∈ scope.names,y.2=.free->(X.env.cells.lookup y.1).isSome=true:=fun y hy e=>by
  obtain ⟨n,hn⟩:=hC;rw [hn];exact PySem.W.cellsFrom_some O n [] (.inl (fr y hy e))
 refine ⟨kind,nocell,names,closureFor_free hs,fun x c h=>?_,fun x h=>?_,len,fun i j x h1 h2=>?_⟩
 ·rcases clOf_mem _ _ _ (PySem.mem_of_lookup h) with z | z
  ·cases z
  ·exact z
 ·refine Option.isSome_iff_exists.mp (clOf_has _ _ (.inr ?_));have hm:(x,NameKind.cell) ∈ scope.names\/(x,NameKind.free) ∈ scope.names:=by
   rcases h with h | h
   ·exact relabel_mem (PySem.mem_of_lookup h) (.inl rfl)
   ·exact relabel_mem (PySem.mem_of_lookup h) (.inr rfl)
  rcases hm with hm | hm
  ·exact absurd rfl (nocell _ hm)
  ·exact ⟨hm,hs _ hm rfl⟩
 ·have hm:(x,some j) ∈ N.zip src:=by
   refine List.mem_of_getElem? (i:=i) ?_;rw [List.getElem?_zip_eq_some];exact ⟨h1,h2⟩
  rcases pc _ hm with z | ⟨j',_,e,e1,e2,e3⟩
  ·cases z
  ·cases e;have ko:X.env.kindOf x=some .cell:=by
    show X.env.scope.names.lookup x=some .cell;rw [hO];exact e2
   exact ⟨by rw [hX]; exact e1,.inl ko,.inl (relabel_free hK ko e3)⟩
end L2
namespace L2
open PySem PySem.Spec PyProof.Rows PySem.W
section
variable {α β:Type}{R:α->β->Prop}{us us':List α}{cs cs':List β}{i:Nat}{v:α}{c:β}
theorem pr_app (h:Paired R us cs)(k:Paired R us' cs'):Paired R (us++us') (cs++cs'):=by
 induction h with
 | nil=>exact k
 | cons q _ ih=>exact .cons q ih
theorem pr_at (h:Paired R us cs)(e:us[i]?=some v):∃ c,cs[i]?=some c/\R v c:=by
 induction h generalizing i with
 | nil=>cases e
 | cons q _ ih =>
  cases i with
  | zero =>
   cases e;exact ⟨_,rfl,q⟩
  | succ i=>exact ih (i:=i) e
theorem pr_mem (h:Paired R us cs)(e:v ∈ us):∃ c ∈ cs,R v c:=by
 induction h with
 | nil=>cases e
 | cons q _ ih =>
  rcases List.mem_cons.mp e with rfl | e
  ·exact ⟨_,List.mem_cons_self,q⟩
  ·obtain ⟨c,h,r⟩:=ih e;exact ⟨c,List.mem_cons_of_mem _ h,r⟩
end
noncomputable def Tup2 (H:Hp):List V->List (Int × Int)->Prop:=Paired fun v p=>∃ a,v=V.ref a/\H a=some (.tup [.int p.1,.int p.2])
noncomputable def lt2 (p q:Int × Int):Bool:=if p.1=q.1 then decide (p.2 < q.2) else decide (p.1 < q.1)
structure IntPair (h:Heap)(v:Value)(p:Int × Int):Prop where
 ex:∃ a o n t u,v=.ref a/\h.get? a=some o/\o.cls=.type "tuple"/\o.data=.seq #[.int p.1 t,.int p.2 u] n
section
variable {X:Cx}{pins:List (Addr × Obj)}{σ:St}{H:Hp}{s:Shared}
theorem Tup2.pairs (I:Inv X pins σ H s){us:List V}{ps:List (Int × Int)}{its:List Value}(hp:Tup2 H us ps)(r:Vals us its):Paired (IntPair s.heap) its ps:=by
 induction hp generalizing its with
 | nil =>
  cases r;exact .nil
 | cons q _ ih =>
  obtain ⟨a,e,h⟩:=q;subst e;cases r with
  | cons r1 r2 =>
   cases r1;refine .cons ?_ (ih r2);obtain ⟨items,rv,tp,_⟩:=I.tuple (SqT.of h);obtain ⟨u1,u2,rfl,⟨t1,rfl⟩,⟨t2,rfl⟩⟩:=vals2 rv;obtain ⟨ob,e1,c1,n,d1⟩:=tp;exact ⟨a,ob,n,t1,t2,rfl,e1,c1,d1⟩
end
section
variable {prog:Program}{w:World}{A:Around}{E:Value->Shared->Prop}{s:Shared}
end
section
variable {X:Cx}
end
end L2
namespace L2
open PySem PySem.Spec PyProof.Rows
section
variable {X:Cx}
theorem ints_are:∀ {ns:List Int} {its:List Value},Vals (ns.map V.int) its->IntsAre its ns
 | [],_,r=>by cases r; exact .nil
 | n :: ns,_,r=>by
  cases r with
  | cons r1 r2 =>
   obtain ⟨t,rfl⟩:=r1;exact .cons n t (ints_are r2)
theorem call_sum (hc:X.calm=true):CallR X (.builtin "sum") (fun xs H Q=>∃ (l:Addr) (ns:List Int),xs=[.ref l]/\SqL X.K H l (ns.map V.int)/\Q (.int ns.sum) H):=by
 intro pins s σ H xs us Q I r h;obtain ⟨l,ns,rfl,hq,q⟩:=h;obtain ⟨u,rfl,ru⟩:=vals1 r;cases ru;obtain ⟨its,rv,pl,hz⟩:=I.list hq;have hi:IntsAre its ns:=ints_are rv;obtain ⟨ys,ey⟩:=hi.allInts.items;refine sum_intListG (I.ok.hd hc) (xs:=ys) (ey ▸ pl.isList) fun h' tk t' hk=>?_;have f1:ns=ys.toList.map (·.1):=by
  rw [<- nums_intItems,<- ey];exact (show numsOf its.toArray.toList=ns from hi.numsOf).symm
 have f2:preSum (numAt ys) ys.size=ns.sum:=by
  rw [f1,preSum_eq,List.take_of_length_le (by simp)]
 rw [f2];exact ⟨.int _,H,I.kept hk,⟨_,rfl⟩,q⟩
theorem bools_get {bs:List Bool}{its:List Value}(r:Vals (bs.map V.bl) its){i:Nat}{v:Value}(e:its[i]?=some v):∃ b,bs[i]?=some b/\v=.bool b:=by
 have hl:=r.length;rw [List.length_map] at hl;have hi:i < bs.length:=by
  have:=(List.getElem?_eq_some_iff.mp e).1;omega
 obtain ⟨u,hu,ru⟩:=r.get (i:=i) (x:=.bl bs[i]) (by rw [List.getElem?_map,List.getElem?_eq_getElem hi]; rfl);rw [hu] at e;cases e;exact ⟨bs[i],List.getElem?_eq_getElem hi,ru⟩
theorem call_all (hc:X.calm=true):CallR X (.builtin "all") (fun xs H Q=>∃ (l:Addr) (bs:List Bool),xs=[.ref l]/\SqL X.K H l (bs.map V.bl)/\Q (.bl (bs.all id)) H):=by
 intro pins s σ H xs us Q I r h;obtain ⟨l,bs,rfl,hq,q⟩:=h;obtain ⟨u,rfl,ru⟩:=vals1 r;cases ru;obtain ⟨its,rv,pl,hz⟩:=I.list hq;have hl:=pl.isList;have hlt:l < s.heap.objs.size:=let ⟨_,he,_⟩:=hl; Heap.lt_size he
 have hln:=rv.length;rw [List.length_map] at hln;refine call_all_walk (wpAny_pyIter_list hl ?_);refine ⟨s.heap.objs.size,[s.heap.objs.size,l],[s.heap.objs.size],its.toArray.size,_,_,fun i=>(bs[i]?).getD true,rfl,Walks.list (A:=X.A.in1) (I.ok.hd hc) _ l (Nat.ne_of_lt hlt) its.toArray,
  ⟨⟨_,Heap.get?_push_size _ rfl,rfl,rfl⟩,hl.push _⟩,fun i v s' Q' E' hP hQ=>?_,fun h' tk hk=>?_⟩
 ·obtain ⟨b,eb,rfl⟩:=bools_get rv (i:=i) (v:=v) (by simpa using hP);simp only [eb,Option.getD_some] at hQ;exact wpAny_truthy_bool hQ
 ·have e:((List.range its.toArray.size).all fun i=>(bs[i]?).getD true)=bs.all id:=by
   rw [List.size_toArray,<- hln]; exact LSm.range_all bs
  rw [e];exact ⟨.bl _,H,I.kept (LSm.kept_iter hk),rfl,q⟩
end
end L2
namespace L2
open PySem PySem.Spec PyProof.Rows
mutual
inductive Rdn (N:Addr->Prop)(H:Hp):V->PyData->Prop
 | non:Rdn N H .non .none
 | bl (b:Bool):Rdn N H (.bl b) (.bool b)
 | int (i:Int):Rdn N H (.int i) (.int i)
 | str (x:Str):Rdn N H (.str x) (.str x)
 | lst {a:Addr} {xs:List V} {ds:List PyData}:N a->H a=some (.lst xs)->RdnAll N H xs ds->Rdn N H (.ref a) (.list ds)
 | tup {a:Addr} {xs:List V} {ds:List PyData}:H a=some (.tup xs)->RdnAll N H xs ds->Rdn N H (.ref a) (.tuple ds)
inductive RdnAll (N:Addr->Prop)(H:Hp):List V->List PyData->Prop
 | nil:RdnAll N H [] []
 | cons {x:V} {d:PyData} {xs:List V} {ds:List PyData}:Rdn N H x d->RdnAll N H xs ds->RdnAll N H (x :: xs) (d :: ds)
end
section
variable {K:PySem.W.Frag}{N N':Addr->Prop}{H H':Hp}
theorem RdnAll.mono (s:Same H H')(i:∀ a,N a->N' a){vs:List V}{ds:List PyData}(h:RdnAll N H vs ds):RdnAll N' H' vs ds :=
 RdnAll.rec (motive_1:=fun v d _=>Rdn N' H' v d) (motive_2:=fun vs ds _=>RdnAll N' H' vs ds) .non .bl .int .str (fun n h _ t=>.lst (i _ n) (s _ _ h) t) (fun h _ t=>.tup (s _ _ h) t) .nil (fun _ _ a t=>.cons a t) h
theorem RdnAll.into {D:Addr}{o:HO}{old:List V}(hD:H D=some (.lst old))(i:∀ a,N a->a ≠ D){vs:List V}{ds:List PyData}(h:RdnAll N H vs ds):RdnAll N (upd H D o) vs ds :=
 RdnAll.rec (motive_1:=fun v d _=>Rdn N (upd H D o) v d) (motive_2:=fun vs ds _=>RdnAll N (upd H D o) vs ds) .non .bl .int .str (fun n h _ t=>.lst n (by rw [upd_ne (i _ n)]; exact h) t) (fun h _ t=>.tup (by rw [upd_ne (ne_of h hD (by intro z; cases z))]; exact h) t) .nil (fun _ _ a t=>.cons a t) h
theorem RdnAll.keep (s:Same H H'){vs:List V}{ds:List PyData}(h:RdnAll N H vs ds):RdnAll N H' vs ds:=h.mono s fun _ n=>n
theorem RdnAll.append {vs ws:List V}{ds es:List PyData}(h:RdnAll N H vs ds)(k:RdnAll N H ws es):RdnAll N H (vs++ws) (ds++es) :=
 RdnAll.rec (motive_1:=fun _ _ _=>True) (motive_2:=fun vs ds _=>RdnAll N H (vs++ws) (ds++es))
  trivial (fun _=>trivial) (fun _=>trivial) (fun _=>trivial) (fun _ _ _ _=>trivial) (fun _ _ _=>trivial) k (fun a _ _ t=>.cons a t) h
theorem RdnAll.snoc {vs:List V}{ds:List PyData}{v:V}{d:PyData}(h:RdnAll N H vs ds)(k:Rdn N H v d):RdnAll N H (vs++[v]) (ds++[d]):=h.append (.cons k .nil)
end
section
variable {K:PySem.W.Frag}{g:TG}{tc:TT}{te:TE}{Q:VK}{σ0:St}{H1:Hp}{D:Addr}
noncomputable def TurnYes (N:Addr->Prop)(inv:St->Prop)(H:Hp)(o:Option PyData)(Y:St->V->Hp->Prop):Prop:=∀ d y σ2 H5,o=some d->inv σ2->Same H H5->Rdn N H5 y d->Y σ2 y H5
noncomputable def TurnNo (inv:St->Prop)(H:Hp)(o:Option PyData)(Z:St->Hp->Prop):Prop:=∀ σ2 H4,o=none->inv σ2->Same H H4->Z σ2 H4
theorem comp_data {a:Addr}{xs:List V}(N:Addr->Prop)(outs:List (Option PyData))(inv:St->Prop)(hD:H1 D=none)(hN:∀ a,N a->a ≠ D)(h0:inv σ0)(hlen:outs.length=xs.length)(hz:xs.length<=100000)
  (hl:SqL K H1 a xs)
  (hs:∀ (i:Nat) (x:V) (o:Option PyData) (σ:St) (H:Hp),xs[i]?=some x->outs[i]?=some o->Same H1 H->H D ≠ none->inv σ->∀ Y Z,TurnYes N inv H o Y->TurnNo inv H o Z ->
   g x σ H fun σ2 H3=>tc σ2 H3 fun b H4=>if b=true then te σ2 H4 fun y H5=>Y σ2 y H5 else Z σ2 H4)
  (hd:∀ ys H',Same H1 H'->H' D=some (.lst ys)->RdnAll N H' ys (outs.filterMap id)->Q (.ref D) H'):CompGoes (Itl K a) g tc te Q D σ0 (upd H1 D (.lst [])):=by
 refine comp_list (K:=K) (a:=a) (xs:=xs) (fun i σ H'=>inv σ/\Same H1 H'/\∃ ys,H' D=some (.lst ys)/\ys.length<=i/\RdnAll N H' ys ((outs.take i).filterMap id)) ⟨h0,same_new hD,[],upd_same,Nat.le_refl _,.nil⟩ (fun i σ H' _ ⟨_,s,_⟩=>s.seq hl) ?_ ?_
 ·rintro i x σ H hx ⟨hi,s,ys,hy,yl,hr⟩;have hil:i < xs.length:=(List.getElem?_eq_some_iff.mp hx).1;obtain ⟨o,ho⟩:∃ o,outs[i]?=some o:=⟨outs[i]'(by omega),List.getElem?_eq_getElem (by omega)⟩;have step:(outs.take (i + 1)).filterMap id=(outs.take i).filterMap id++o.toList:=by
   rw [List.take_add_one,ho,List.filterMap_append];cases o <;> rfl
  refine hs i x o σ H hx ho s (by rw [hy]; exact fun z=>nomatch z) hi _ _ (fun d y σ2 H5 e hi2 s5 hr5=>?_) (fun σ2 H4 e hi2 s4=>?_)
  ·subst e;refine ⟨ys,s5 _ _ hy,Nat.lt_of_le_of_lt yl (Nat.lt_of_lt_of_le hil (Nat.le_trans hz (by decide))),hi2,fun b ob e=>?_,ys++[y],upd_same,?_,?_⟩
   ·rw [upd_ne (ne_of_none e hD)];exact s5 _ _ (s _ _ e)
   ·rw [List.length_append];exact Nat.add_le_add_right yl 1
   ·rw [step];exact RdnAll.into (s5 _ _ hy) hN (RdnAll.snoc (hr.keep s5) hr5)
  ·subst e;refine ⟨hi2,s.trans s4,ys,s4 _ _ hy,Nat.le_succ_of_le yl,?_⟩;rw [step];simpa using hr.keep s4
 ·rintro σ H ⟨_,s,ys,hy,_,hr⟩;rw [<- hlen,List.take_length] at hr;exact hd ys H s hy hr
theorem tYes_it {i:Nat}{v:V}{σ:St}{H:Hp}{A B:St->Hp->Prop}(h:A (σ.set i (some v)) H):gName i v σ H fun σ2 H3=>tYes σ2 H3 fun b H4=>if b=true then A σ2 H4 else B σ2 H4:=by
 show if true=true then A (σ.set i (some v)) H else B (σ.set i (some v)) H
 exact iteT h
end
end L2
namespace L2
open PySem PySem.Spec PyProof.Rows
noncomputable def cutS (z:Str)(lo hi:Option Int):Str:=⟨((z.cps.toList.drop (HT.sIx z.length 0 lo)).take (HT.sIx z.length z.length hi - HT.sIx z.length 0 lo)).toArray⟩
theorem slice_ix (lo hi:Option Int)(n:Nat):Builtin.Str.strSliceIndices lo hi 1 n=(List.range (HT.sIx n n hi - HT.sIx n 0 lo)).map (HT.sIx n 0 lo + ·):=by
 rw [<- sliceRange_one];unfold Builtin.Str.strSliceIndices;simp only [show (1:Int) > 0 by decide,if_true];have clip:∀ (v:Option Int) (d:Nat),(match v with | none=>(d:Int) | some i=>max 0 (min (if i < 0 then i + (n:Int) else i) (n:Int)))=((HT.sIx n d v:Nat):Int):=fun v d=>by
  cases v with
  | none=>rfl
  | some i =>
   simp only [HT.sIx];by_cases h:i < 0
   ·simp only [h,if_true];omega
   ·simp only [h,if_false];omega
 have e1:=clip lo 0;have e2:=clip hi n;rw [<- e1,<- e2];rfl
theorem sIx_top (n:Nat)(hi:Option Int):HT.sIx n n hi<=n:=HT.sIx_le n n (Nat.le_refl _) hi
theorem slice_is (z:Str)(lo hi:Option Int):Txt.slice z lo hi=cutS z lo hi:=by
 unfold Txt.slice cutS;rw [slice_ix,pick_run];by_cases c:((1:Int) == 1 && ((List.range (HT.sIx z.length z.length hi - HT.sIx z.length 0 lo)).map (HT.sIx z.length 0 lo + ·)).length == z.length)=true
 ·rw [if_pos c];have c2:HT.sIx z.length z.length hi - HT.sIx z.length 0 lo=z.length:=by
   simp only [List.length_map,List.length_range] at c;simpa using c
  have h1:=sIx_top z.length hi;have e1:HT.sIx z.length z.length hi=z.length:=by omega
  have e0:HT.sIx z.length 0 lo=0\/z.length=0:=by omega
  have el:z.cps.toList.length=z.length:=Array.length_toList;rw [c2];rcases e0 with e0 | e0
  ·rw [e0,List.drop_zero,List.take_of_length_le (by omega)]
  ·have e2:z.cps.toList=[]:=List.length_eq_zero_iff.mp (by omega);rw [e2];simp only [List.drop_nil,List.take_nil];cases z with
   | mk cps =>
    have e3:cps=#[]:=by simpa using e2
    rw [e3]
 ·rw [if_neg c]
section
variable {X:Cx}
noncomputable def rSlS:V->Option Int->Option Int->Hp->VK->Prop:=fun x lo hi H Q=>∃ z,x=.str z/\z.length<=sizeLine/\Q (.str (cutS z lo hi)) H
theorem part_tok {v:Value}{o:Option Int}(h:IsPart v o):∃ p:Option (Int × Tok),v=partValue p/\p.map (·.1)=o:=by
 cases h with
 | none=>exact ⟨none,rfl,rfl⟩
 | int i t=>exact ⟨some (i,t),rfl,rfl⟩
theorem sl_str:SlR X rSlS:=by
 intro pins s σ H x v vl vu lo hi sl Q I rx hs pl pu h;obtain ⟨z,rfl,hz,q⟩:=h;obtain ⟨t,rfl⟩:=rx;obtain ⟨p1,rfl,e1⟩:=part_tok pl;obtain ⟨p2,rfl,e2⟩:=part_tok pu;refine ⟨"str",_,F.slot_str_getitem.lookup,typeIs_str _ _ _,wpAny_getItem_str_slice (l:=p1) (u:=p2) (st:=none) hs rfl ?_⟩;have e:sliceMade z t p1 p2 none=if ((1:Int) == 1 && (Builtin.Str.strSliceIndices lo hi 1 z.length).length == z.length)=true then Made.val (.str z t) else Made.str ⟨((Builtin.Str.strSliceIndices lo hi 1 z.length).filterMap (z.cps[·]?)).toArray⟩:=by
  rw [<- e1,<- e2];rfl
 rw [e];refine post_val_or_str ⟨Nat.le_trans (Txt.slice_le z lo hi) hz,fun t' k=>?_⟩;rw [<- slice_is] at q;exact ⟨.str (Txt.slice z lo hi),H,I.tok k,⟨_,rfl⟩,q⟩
end
end L2
namespace L2
open PySem PySem.Spec PyProof.Rows
section
variable {X:Cx}{tg iter elt:Expr}{ifs:List Expr}{scope:Scope}{pos:Pos}{N:List Str}{src:List (Option Nat)}{cl:List (Str × Addr)}{wi:TI}{g:TG}{tc:TT}{te:TE}
theorem ps_setC {i:Nat}{x:Str}{xpos spos:Pos}(hN:X.N.Nodup)(hix:X.N[i]?=some x)(hlx:X.env.scope.names.lookup x=some .local)(ok:CompOk X N src scope cl)(hcalm:X.calm=true)(hi:PI X tg iter wi)
  (hg:∀ C fp pins s H,PG (compCx X N scope cl C fp pins s H) tg g) (hc:∀ C fp pins s H,PIfs (compCx X N scope cl C fp pins s H) ifs tc) (he:∀ C fp pins s H,PE (compCx X N scope cl C fp pins s H) elt te)
  (hs:∀ x,foldedSetIterable iter X.env x=pure x:=by intro _; rfl) (hsw:swapsWith (.ListComp elt [⟨tg,iter,ifs,0⟩] scope pos) (some (.Name x xpos)) spos.line X.env=pure true:=by rfl) :
  PS X (.Assign [.Name x xpos] (.ListComp elt [⟨tg,iter,ifs,0⟩] scope pos) spos) (tAsg (tComp wi src g tc te) (gName i)):=by
 intro pins s σ H D I h;rw [exec_Assign_Name_used _ _ _ _ hsw];refine wpAny_bind (wpAny_standAt (wpAny_bind ?_));unfold evalThenUse;refine wpAny_bind (wpAny_mono (Q:=fun _ s''=>∃ σ' H',Inv X pins σ' H' s''/\D.nx σ' H') ?_ (fun _ s'' ⟨σ',H',I',q'⟩=>wpAny_pure (wpAny_pure ⟨σ',H',I',q'⟩)) fun _ _ z=>z);refine wpAny_comprehension_free (use:=some (assign (.Name x xpos) X.env)) rfl hs ok.clos ok.kind ok.names (thn (hi pins s σ H _ I h) fun xv s1 h1=>thn h1 fun itv s2 h2=>?_);obtain ⟨it,fp,tn,J,H2,e,I2,T,st2,f2,q2⟩:=h2;subst e;refine wpAny_newObj_type (wpAny_newFunctionEnv ok.nocell (by intro y hy; simp at hy) (fun h₁ hns₁ hsb₁=>?_) ok.kind);dsimp only at hns₁ hsb₁ ⊢;generalize hP:s2.heap.push { cls:=.type "list",dict:=none,data:=.seq ([]:List Value).toArray }=P2 at hns₁ hsb₁ ⊢;have hC:P2.objs.size=s2.heap.objs.size + 1:=by rw [<- hP,Heap.size_push]
 have k:∀ b u,s2.heap.get? b=some u->h₁.get? b=some u:=fun b u e=>by
  have lt:=Heap.lt_size e;exact (hsb₁.2 b (by rw [hC]; exact Nat.ne_of_lt (Nat.lt_succ_of_lt lt))).trans (Heap.get?_push_of_some _ (hP ▸ Heap.get?_push_of_some _ e))
 have hD:h₁.get? s2.heap.objs.size=some { cls:=.type "list",data:=.seq #[] }:=(hsb₁.2 _ (by rw [hC]; exact (Nat.succ_ne_self _).symm)).trans (Heap.get?_push_of_some _ (hP ▸ Heap.get?_push_size _ rfl));have ho:∀ b ∈ fp,∃ o,s2.heap.get? b=some o:=fun b hb=>let ⟨o,e,_⟩:=T.obj 0 _ st2 b hb; ⟨o,e⟩
 obtain ⟨W,⟨m0,w0⟩,turn⟩:=q2 s2.heap.objs.size (I2.hok.fresh (Nat.le_refl _));have I0:=comp_start (tk:=s2.toks + ([]:List (Str × Value)).length) ok I2 f2 ho hC k hD hns₁;have st0:tn 0 h₁:=T.keep 0 _ _ st2 fun b _ o e=>k b o e;have fr0:∀ b ∈ fp,upd H2 s2.heap.objs.size (.lst []) b=none:=fun b hb=>by
  obtain ⟨o,e⟩:=ho b hb;rw [upd_ne (Nat.ne_of_lt (Heap.lt_size e))];exact (f2 b hb).1
 have stat:∀ {H':Hp},(∀ b ∈ fp,H' b=none)->∀ b ∈ fp,FpOk (compCx X N scope cl P2.objs.size fp pins s2 H2) [] H' b:=fun {H'} hn b hb=>by
  obtain ⟨o,e⟩:=ho b hb;have lt:=Heap.lt_size e;refine ⟨hn b hb,?_,fun z=>(List.mem_cons.mp (I2.stkSub b z)).elim (f2 b hb).2.1 (f2 b hb).2.2.1,.inl hb,fun x c z=>(f2 b hb).2.2.2.2.1 x c (ok.sub x c z),fun p hp=>?_⟩
  ·show b ≠ P2.objs.size;rw [hC];exact Nat.ne_of_lt (Nat.lt_succ_of_lt lt)
  ·have hp':p ∈ X.pn++pins:=by
    have:p ∈ (X.pn++pins)++[]:=hp;simpa using this
   exact (f2 b hb).2.2.2.2.2 p hp'
 have loop:∀ s₃:Shared,s₃={ s2 with heap:=h₁,toks:=s2.toks + ([]:List (Str × Value)).length } ->
   codeAny (model X.prog X.w) X.A (.compLoop (.ListComp elt [⟨tg,iter,ifs,0⟩] scope pos) 0 (.ref it) (.ref s2.heap.objs.size) (compEnvC scope cl P2.objs.size X.env))
    (compPost (model X.prog X.w) X.A X.xe (some (assign (.Name x xpos) X.env)) (fun _ s''=>∃ σ' H',Inv X pins σ' H' s''/\D.nx σ' H') (.ref s2.heap.objs.size) P2.objs.size) s₃:=by
  rintro s₃ rfl;refine codeAny_loop rfl (fun n s'=>∃ i σ' H',Inv (compCx X N scope cl P2.objs.size fp pins s2 H2) [] σ' H' s'/\tn i s'.heap/\(∀ b ∈ fp,H' b=none)/\W i n σ' H') ?_ m0 ⟨0,_,_,I0,st0,fr0,w0⟩;rintro n s3 ⟨i,σ3,H3,I3,st3,fr3,w3⟩;show wpAny _ X.A ((compTurn (.ListComp elt [⟨tg,iter,ifs,0⟩] scope pos) 0 (.ref it) (.ref s2.heap.objs.size) (compEnvC scope cl P2.objs.size X.env)).onRaise (fun x=>do noteFrame x (compEnvC scope cl P2.objs.size X.env); theTreesLotGoes x)) _ _ s3;refine wpAny_noted ?_;rw [compTurn_list];rcases turn i n σ3 H3 w3 with ⟨stop,qn⟩ | ⟨go,N',hN,step⟩
  ·refine wpAny_bind (wpAny_standAt (wpAny_bind (thn (T.done (compCx X N scope cl P2.objs.size fp pins s2 H2) rfl rfl rfl hcalm i [] s3 σ3 H3 _ I3 (stat fr3) st3 stop) fun r s4 ⟨hr,I4⟩=>?_)));subst hr;refine wpAny_pure ?_;obtain ⟨m,hm,_⟩:=I4.loc;have leC:s2.heap.objs.size<=P2.objs.size:=by rw [hC]; exact Nat.le_succ _
   have IX:Inv X pins σ H3 s4:=I2.call' (s':=s4) (ch:=fp) I4.os I4.base I4.hok I4.bare fun b hb=>⟨(f2 b hb).2.2.2.1,(f2 b hb).2.1,(f2 b hb).2.2.2.2.1,(f2 b hb).2.2.2.2.2⟩;have cellLt:∀ y c,X.env.cells.lookup y=some c->c ≠ P2.objs.size:=fun y c e z=>by
    obtain ⟨_,o,e1,_⟩:=I2.cell y c e;have:=Heap.lt_size e1;rw [z] at this;exact Nat.lt_irrefl _ (Nat.lt_of_lt_of_le this leC)
   have locNe:X.env.locals ≠ P2.objs.size:=fun z=>by
    have:=I2.lt;rw [z] at this;exact Nat.lt_irrefl _ (Nat.lt_of_lt_of_le this leC)
   refine wpAny_assign_Name (store_ok2 IX hN hix (.inl hlx) (v:=.ref s2.heap.objs.size) rfl (fun s5 I5 ⟨a5,sb5,ha5⟩=>?_) (.inr hlx));have na:a5 ≠ P2.objs.size:=by
    rcases ha5 with z | z
    ·rw [z];exact locNe
    ·exact cellLt _ _ z
   refine ⟨m,hm.sameBut sb5 (Ne.symm na),fun h' sb=>⟨_,H3,?_,qn⟩⟩;exact I5.turned (t':=s5.toks) (it:=P2.objs.size) (fun b o hb e=>(sb.2 b hb).trans e) I4.free (Ne.symm locNe) (.inr (Nat.le_trans I2.sz leC)) cellLt fun p hp z=>by
    obtain ⟨e1,_⟩:=I2.pin p hp;have:=Heap.lt_size e1;rw [z] at this;exact Nat.lt_irrefl _ (Nat.lt_of_lt_of_le this leC)
  ·refine wpAny_bind (wpAny_standAt (wpAny_bind (thn (T.item (compCx X N scope cl P2.objs.size fp pins s2 H2) rfl rfl rfl hcalm i [] s3 σ3 H3 _ I3 (stat fr3) st3 go) fun r s4 ⟨u,hr,h4⟩=>?_)));subst hr;dsimp only;refine wpAny_bind (thn h4 fun _ s5 ⟨x,H5,I5,r5,y5,st5,fr5⟩=>?_);have I5':=I5.pinned (stat fr5) (T.obj _ _ st5);refine wpAny_bind (wpAny_mono (hg P2.objs.size fp pins s2 H2 _ s5 σ3 H5 x u _ I5' r5 (step x H5 y5)) (fun _ s6 ⟨σ6,H6,I6,q6⟩=>?_) fun _ _ z=>False.elim z);have again:∀ {s7:Shared} {σ7:St} {H7:Hp},Inv (compCx X N scope cl P2.objs.size fp pins s2 H2) ([]++pinsAt fp s5.heap) σ7 H7 s7->N' σ7 H7->∃ m,m < n/\∃ i σ' H',Inv (compCx X N scope cl P2.objs.size fp pins s2 H2) [] σ' H' s7/\tn i s7.heap/\(∀ b ∈ fp,H' b=none)/\W i m σ' H':=fun {s7 σ7 H7} I7 n7=>by
    obtain ⟨m',hm,w7⟩:=hN σ7 H7 n7;refine ⟨m',hm,i + 1,σ7,H7,I7.unpinned,T.keep _ _ _ st5 fun b hb o e=>(I7.pin (b,o) (List.mem_append_right _ (List.mem_append_right _ (mem_pinsAt hb e)))).1,fun b hb=>?_,w7⟩;obtain ⟨o,e,d⟩:=T.obj _ _ st5 b hb;exact (I7.pin (b,o) (List.mem_append_right _ (List.mem_append_right _ (mem_pinsAt hb e)))).2.1
   refine wpAny_bind (wpAny_mono (hc P2.objs.size fp pins s2 H2 _ s6 σ6 H6 _ I6 q6) (fun b s7 ⟨H7,I7,q7⟩=>?_) fun _ _ z=>False.elim z);cases b with
   | false =>
    rw [if_neg Bool.false_ne_true] at q7;exact wpAny_pure ⟨rfl,again I7 q7⟩
   | true =>
    rw [if_pos rfl] at q7;refine wpAny_bind (wpAny_bind (wpAny_mono (he P2.objs.size fp pins s2 H2 _ s7 σ6 H7 _ I7 q7) (fun y s8 ⟨v8,H8,I8,r8,ys,hys,hlen,q8⟩=>?_) fun _ _ z=>False.elim z));refine wpAny_bind (wpAny_mono (mt_append (X:=compCx X N scope cl P2.objs.size fp pins s2 H2) _ s8 σ6 H8 (.ref s2.heap.objs.size) [v8] (.ref s2.heap.objs.size) [y] (fun _ H9=>N' σ6 H9) I8 rfl (.cons r8 .nil) ⟨_,ys,v8,rfl,rfl,hys,hlen,q8⟩) (fun _ s9 ⟨v9,H9,I9,_,q9⟩=>?_) fun _ _ z=>False.elim z);exact wpAny_pure (wpAny_pure ⟨rfl,again I9 q9⟩)
 exact codeAny_compStart_list (loop _ rfl) (T.self _ 0 _ _ _ st0 (loop _ rfl))
end
end L2
namespace L2
open PySem PySem.Spec PyProof.Rows
theorem CompOk.byRfl {X:Cx}{N:List Str}{src:List (Option Nat)}{scope:Scope}(kind:scope.kind=.function)(nocell:∀ y ∈ scope.names,y.2 ≠ .cell)(names:∀ y ∈ scope.names,y.2=.local->scope.names.lookup y.1=some .local)
  (hs:(scope.names.all fun y=>y.2 != .free || (X.env.cells.lookup y.1).isSome)=true) (len:src.length=N.length)
  (pc:((N.zip src).all fun q=>match q.2 with | none=>true | some j=>X.N[j]? == some q.1 && X.env.kindOf q.1 == some .cell && (relabel scope X.env).names.lookup q.1 == some .cell)=true):CompOk X N src scope (clOf (fun x=>X.env.cells.lookup x) scope.names []):=by
 have hs':∀ y ∈ scope.names,y.2=.free->(X.env.cells.lookup y.1).isSome=true:=fun y hy e=>by
  have z:=List.all_eq_true.mp hs y hy;rw [e] at z;simpa using z
 refine ⟨kind,nocell,names,closureFor_free hs',fun x c h=>?_,fun x h=>?_,len,fun i j x h1 h2=>?_⟩
 ·rcases clOf_mem _ _ _ (PySem.mem_of_lookup h) with z | z
  ·cases z
  ·exact z
 ·refine Option.isSome_iff_exists.mp (clOf_has _ _ (.inr ?_));have hm:(x,NameKind.cell) ∈ scope.names\/(x,NameKind.free) ∈ scope.names:=by
   rcases h with h | h
   ·exact relabel_mem (PySem.mem_of_lookup h) (.inl rfl)
   ·exact relabel_mem (PySem.mem_of_lookup h) (.inr rfl)
  rcases hm with hm | hm
  ·exact absurd rfl (nocell _ hm)
  ·exact ⟨hm,hs' _ hm rfl⟩
 ·have hm:(x,some j) ∈ N.zip src:=List.mem_of_getElem? (i:=i) (by rw [List.getElem?_zip_eq_some]; exact ⟨h1,h2⟩);have z:=List.all_eq_true.mp pc _ hm;simp only [Bool.and_eq_true,beq_iff_eq] at z;exact ⟨z.1.1,.inl z.1.2,.inl z.2⟩
structure CompOk1 (X:Cx)(N:List Str)(src:List (Option Nat))(scope:Scope)(cl:List (Str × Addr))(y:Str):Prop where
 kind:scope.kind=.function
 one:∀ n acc,cellsFrom n scope.names acc=(y,n) :: acc
 push:∀ h,pushCells h scope.names=h.push { cls:=.type "cell",data:=.cell none }
 names:∀ y ∈ scope.names,y.2=.local->scope.names.lookup y.1=some .local
 clos:closureFor scope X.env=pure cl
 sub:∀ x c,cl.lookup x=some c->X.env.cells.lookup x=some c
 has:∀ x,((relabel scope X.env).names.lookup x=some .cell\/(relabel scope X.env).names.lookup x=some .free)->x=y\/∃ c,cl.lookup x=some c
 len:src.length=N.length
 pulls:∀ (i j:Nat) (x:Str),N[i]?=some x->src[i]?=some (some j)->X.N[j]?=some x/\(X.env.kindOf x=some .cell\/X.env.kindOf x=some .free)/\((relabel scope X.env).names.lookup x=some .cell\/(relabel scope X.env).names.lookup x=some .free)
 pny:∀ (i j:Nat) (x:Str),N[i]?=some x->src[i]?=some (some j)->x ≠ y
theorem CompOk1.has1 {X:Cx}{N:List Str}{src:List (Option Nat)}{scope:Scope}{cl:List (Str × Addr)}{y:Str}{C:Addr}(ok:CompOk1 X N src scope cl y)(x:Str)(h:(relabel scope X.env).names.lookup x=some .cell\/(relabel scope X.env).names.lookup x=some .free):∃ c,List.lookup x ((y,C) :: cl)=some c:=by
 rw [List.lookup_cons];cases q:x == y with
 | true=>exact ⟨_,rfl⟩
 | false =>
  rcases ok.has x h with z | z
  ·rw [z] at q;simp at q
  ·exact z
theorem CompOk1.byRfl {X:Cx}{N:List Str}{src:List (Option Nat)}{scope:Scope}{y:Str}(kind:scope.kind=.function)(one:∀ n acc,cellsFrom n scope.names acc=(y,n) :: acc)(push:∀ h,pushCells h scope.names=h.push { cls:=.type "cell",data:=.cell none })
  (only:∀ z ∈ scope.names,z.2=.cell->z.1=y) (names:∀ y ∈ scope.names,y.2=.local->scope.names.lookup y.1=some .local)
  (hs:(scope.names.all fun y=>y.2 != .free || (X.env.cells.lookup y.1).isSome)=true) (len:src.length=N.length)
  (pc:((N.zip src).all fun q=>match q.2 with | none=>true | some j=>X.N[j]? == some q.1 && X.env.kindOf q.1 == some .cell && (relabel scope X.env).names.lookup q.1 == some .cell && q.1 != y)=true):CompOk1 X N src scope (clOf (fun x=>X.env.cells.lookup x) scope.names []) y:=by
 have hs':∀ y ∈ scope.names,y.2=.free->(X.env.cells.lookup y.1).isSome=true:=fun y hy e=>by
  have z:=List.all_eq_true.mp hs y hy;rw [e] at z;simpa using z
 have pk:∀ (i j:Nat) (x:Str),N[i]?=some x->src[i]?=some (some j)->(X.N[j]?=some x/\X.env.kindOf x=some .cell/\(relabel scope X.env).names.lookup x=some .cell)/\x ≠ y:=fun i j x h1 h2=>by
  have hm:(x,some j) ∈ N.zip src:=List.mem_of_getElem? (i:=i) (by rw [List.getElem?_zip_eq_some]; exact ⟨h1,h2⟩);have z:=List.all_eq_true.mp pc _ hm;simp only [Bool.and_eq_true,beq_iff_eq,bne_iff_ne] at z;exact ⟨⟨z.1.1.1,z.1.1.2,z.1.2⟩,z.2⟩
 refine ⟨kind,one,push,names,closureFor_free hs',fun x c h=>?_,fun x h=>?_,len,fun i j x h1 h2=>⟨(pk i j x h1 h2).1.1,.inl (pk i j x h1 h2).1.2.1,.inl (pk i j x h1 h2).1.2.2⟩,fun i j x h1 h2=>(pk i j x h1 h2).2⟩
 ·rcases clOf_mem _ _ _ (PySem.mem_of_lookup h) with z | z
  ·cases z
  ·exact z
 ·have hm:(x,NameKind.cell) ∈ scope.names\/(x,NameKind.free) ∈ scope.names:=by
   rcases h with h | h
   ·exact relabel_mem (PySem.mem_of_lookup h) (.inl rfl)
   ·exact relabel_mem (PySem.mem_of_lookup h) (.inr rfl)
  rcases hm with hm | hm
  ·exact .inl (only _ hm rfl)
  ·exact .inr (Option.isSome_iff_exists.mp (clOf_has _ _ (.inr ⟨hm,hs' _ hm rfl⟩)))
noncomputable def compCx1 (X:Cx)(N:List Str)(scope:Scope)(cl:List (Str × Addr))(y:Str)(C:Addr)(fp:List Addr)(pins:List (Addr × Obj))(s:Shared)(H:Hp):Cx :=
 { compCx X N scope ((y,C + 1) :: cl) C fp pins s H with fn:=fun x=>decide (x=y) }
theorem newEnv1 {M:Model}{A:Around}{E:Value->Shared->Prop}{s:Shared}{scope:Scope}{globals:Addr}{cl:List (Str × Addr)}{qual:Str}{env:Env}{y:Str}{Q:Env->Shared->Prop}(one:∀ n acc,cellsFrom n scope.names acc=(y,n) :: acc)(push:∀ h,pushCells h scope.names=h.push { cls:=.type "cell",data:=.cell none })
  (hQ:Q (newEnv scope s.heap.objs.size globals ((y,s.heap.objs.size + 1) :: cl) qual none .none (some env) builtinsNs) { s with heap:=(s.heap.push { cls:=.type "dict",data:=.dict #[] }).push { cls:=.type "cell",data:=.cell none } }) :
  wpAny M A (newFunctionEnv scope globals cl [] qual none .none (some env)) Q E s:=by
 simp only [newFunctionEnv,Option.isSome_some,if_true];refine wpAny_bind (wpAny_alloc ?_);refine wpAny_bind (wpAny_layCells _ (fun name kind cells=>by cases hkc:kind == NameKind.cell <;> simp [hkc]) _ _ _ _ ?_);rw [push,one,show ({ s with heap:=s.heap.push { cls:=.type "dict",data:=.dict #[] } }:Shared).heap.objs.size=s.heap.objs.size + 1 from Heap.size_push ..];exact wpAny_bind (wpAny_pure (wpAny_pure hQ))
section
variable {X:Cx}{tg iter elt:Expr}{ifs:List Expr}{scope:Scope}{pos:Pos}{N:List Str}{src:List (Option Nat)}{cl:List (Str × Addr)}{wi:TI}{g:TG}{tc:TT}{te:TE}{y:Str}
theorem comp_start1 {pins:List (Addr × Obj)}{σ:St}{H:Hp}{s:Shared}{fp:List Addr}{h1:Heap}{C:Addr}{tk:Nat}(ok:CompOk1 X N src scope cl y)(I:Inv X pins σ H s)(hf:∀ b ∈ fp,FpOk X pins H b)(ho:∀ b ∈ fp,∃ o,s.heap.get? b=some o)
  (hC:C=s.heap.objs.size + 1) (k:∀ b u,s.heap.get? b=some u->h1.get? b=some u) (hD:h1.get? s.heap.objs.size=some { cls:=.type "list",data:=.seq #[] }) {m:Str->Option Value} (hn:h1.Ns C m) (hcc:h1.IsCell (C + 1) none) :
  Inv (compCx1 X N scope cl y C fp pins s H) [] (pull src σ) (upd H s.heap.objs.size (.lst [])) { s with heap:=h1,toks:=tk }:=by
 have lt:∀ b o,s.heap.get? b=some o->b < s.heap.objs.size:=fun b o e=>Heap.lt_size e;have nC:∀ b o,s.heap.get? b=some o->b ≠ C:=fun b o e=>by rw [hC]; exact Nat.ne_of_lt (Nat.lt_succ_of_lt (lt b o e))
 have nD:∀ b o,s.heap.get? b=some o->b ≠ s.heap.objs.size:=fun b o e=>Nat.ne_of_lt (lt b o e);have fr:∀ b,s.heap.objs.size<=b->H b=none:=fun b hb=>I.hok.fresh hb;have nst:∀ b,b ≠ X.env.locals->b ∉ X.fs->b ∉ frs X.stack:=fun b h1 h2 z=>(List.mem_cons.mp (I.stkSub b z)).elim h1 h2;have nC1:∀ b o,s.heap.get? b=some o->b ≠ C + 1:=fun b o e=>by rw [hC]; exact Nat.ne_of_lt (Nat.lt_succ_of_lt (Nat.lt_succ_of_lt (lt b o e)))
 have own:∀ x c,List.lookup x ((y,C + 1) :: cl)=some c->(x=y/\c=C + 1)\/(x ≠ y/\X.env.cells.lookup x=some c):=fun x c e=>by
  rw [List.lookup_cons] at e;cases q:x == y with
  | true =>
   rw [q] at e;exact .inl ⟨by simpa using q,(Option.some.inj e).symm⟩
  | false =>
   rw [q] at e;exact .inr ⟨by simpa using q,ok.sub x c e⟩
 have oldc:∀ x c,X.env.cells.lookup x=some c->c ≠ C + 1:=fun x c e=>by
  obtain ⟨_,o,e1,_⟩:=I.cell x c e;exact nC1 c o e1
 refine ⟨⟨I.ok.mod,ok.kind,I.ok.glob,I.ok.blt,by rw [show (compCx1 X N scope cl y C fp pins s H).env.locals=C from rfl,hC]; exact Nat.le_succ _,?inj,ok.has1,?cab,I.ok.hd,I.ok.frames,.inl rfl,fun b hb=>?_,I.bs,Nat.le_trans I.ok.bsz I.sz,fun b o e hb=>?_,fun b hb hz=>?_,I.stack,I.stkFree⟩,
  rfl,I.bare,Un.laid k (Nat.le_refl _) (fr _ (Nat.le_refl _)),⟨m,hn,fun i x v e1 e2 e3=>?_⟩,fun x c e=>?_,?_,fun x c e=>?_,fun p hp=>?_,I.hok.laid k (Nat.le_refl _) ⟨Nat.zero_le _,[],0,.nil,hD⟩,?_⟩
 case inj =>
  intro x x' c e1 e2
  rcases own x c e1 with ⟨a1,a2⟩ | ⟨a1,a2⟩
  ·rcases own x' c e2 with ⟨b1,b2⟩ | ⟨b1,b2⟩
   ·rw [a1,b1]
   ·exact absurd a2 (oldc x' c b2)
  ·rcases own x' c e2 with ⟨b1,b2⟩ | ⟨b1,b2⟩
   ·exact absurd b2 (oldc x c a2)
   ·exact I.ok.inj x x' c a2 b2
 case cab =>
  intro x c z e
  have zy:x=y:=of_decide_eq_true z
  rcases own x c e with ⟨_,a2⟩ | ⟨a1,_⟩
  ·rw [a2,hC];exact Nat.le_succ_of_le (Nat.le_succ _)
  ·exact absurd zy a1
 ·obtain ⟨o,e⟩:=ho b hb;refine ⟨nC b o e,fun x c z=>?_⟩;rcases own x c z with ⟨_,a2⟩ | ⟨_,a2⟩
  ·rw [a2];exact Ne.symm (nC1 b o e)
  ·exact (hf b hb).2.2.2.2.1 x c a2
 ·rcases (hf b hb).2.2.2.1 with z | z
  ·exact I.ok.noex b o e z
  ·exact absurd (Nat.lt_of_lt_of_le (Heap.lt_size (I.ok.bs b o e).1) z) (Nat.lt_irrefl _)
 ·exact nst b (hf b hb).2.1 (hf b hb).2.2.1 hz
 ·have hi:i < src.length:=by
   have:=(List.getElem?_eq_some_iff.mp e2).1;unfold pull at this;rw [List.length_map] at this;exact this
  unfold pull at e2;rw [List.getElem?_map,List.getElem?_eq_getElem hi] at e2;cases q:src[i] with
  | none=>rw [q] at e2; cases e2
  | some j =>
   rw [q] at e2;have e2':(σ[j]?).getD none=some v:=Option.some.inj e2;have e4:σ[j]?=some (some v):=by
    cases z:σ[j]? with
    | none=>rw [z] at e2'; cases e2'
    | some o=>rw [z] at e2'; exact congrArg some e2'
   obtain ⟨p1,p2,p3⟩:=ok.pulls i j x e1 (by rw [List.getElem?_eq_getElem hi,q]);obtain ⟨m',hn',hl⟩:=I.loc;obtain ⟨u,r,l⟩:=hl j x v p1 e4 (by
    rcases p2 with z | z
    ·exact .inr (.inl z)
    ·exact .inr (.inr z))
   refine ⟨u,r,.inr ⟨p3,?_⟩⟩;obtain ⟨c,hc⟩:=ok.has1 x p3;refine ⟨c,hc,?_⟩;rcases l with ⟨z,_⟩ | ⟨_,c',hc',o,ho',hd'⟩
   ·rcases p2 with y | y <;> rw [z] at y <;> cases y
   ·rcases own x c hc with ⟨a1,_⟩ | ⟨_,a2⟩
    ·exact absurd a1 (ok.pny i j x e1 (by rw [List.getElem?_eq_getElem hi,q]))
    ·rw [a2] at hc';cases hc';exact ⟨o,k _ o ho',hd'⟩
 ·rcases own x c e with ⟨_,a2⟩ | ⟨_,a2⟩
  ·rw [a2];exact ⟨_,hcc⟩
  ·obtain ⟨v,o,e1,e2⟩:=I.cell x c a2;exact ⟨v,o,k c o e1,e2⟩
 ·show upd H s.heap.objs.size (.lst []) C=none;rw [hC,upd_ne (Nat.succ_ne_self _)];exact fr _ (Nat.le_succ _)
 ·show upd H s.heap.objs.size (.lst []) c=none;rcases own x c e with ⟨_,a2⟩ | ⟨_,a2⟩
  ·rw [a2,hC,upd_ne (Nat.ne_of_gt (Nat.lt_succ_of_lt (Nat.lt_succ_self _)))];exact fr _ (Nat.le_succ_of_le (Nat.le_succ _))
  ·obtain ⟨v,o,e1,e2⟩:=I.cell x c a2;rw [upd_ne (nD c o e1)];exact I.freeC x c a2
 ·have hp':p ∈ X.pn++pins:=by
   have:p ∈ (X.pn++pins)++[]:=hp;simpa using this
  obtain ⟨e1,e2,e3,e4,e5⟩:=I.pin p hp';refine ⟨k _ _ e1,?_,nC _ _ e1,nst _ e3 e4,e5⟩;show upd H s.heap.objs.size (.lst []) p.1=none;rw [upd_ne (nD _ _ e1)];exact e2
 ·unfold pull;rw [List.length_map];exact ok.len
theorem pe_comp1 {y:Str}(ok:CompOk1 X N src scope cl y)(hcalm:X.calm=true)(hi:PI X tg iter wi)
  (hg:∀ C fp pins s H,PG (compCx1 X N scope cl y C fp pins s H) tg g) (hc:∀ C fp pins s H,PIfs (compCx1 X N scope cl y C fp pins s H) ifs tc) (he:∀ C fp pins s H,PE (compCx1 X N scope cl y C fp pins s H) elt te)
  (hs:∀ x,foldedSetIterable iter X.env x=pure x:=by intro _; rfl):PE X (.ListComp elt [⟨tg,iter,ifs,0⟩] scope pos) (tComp wi src g tc te):=by
 intro pins s σ H Q I h;rw [eval_ListComp];refine wpAny_comprehension_free (use:=none) rfl hs ok.clos ok.kind ok.names (thn (hi pins s σ H _ I h) fun xv s1 h1=>thn h1 fun itv s2 h2=>?_);obtain ⟨it,fp,tn,J,H2,e,I2,T,st2,f2,q2⟩:=h2;subst e;refine wpAny_newObj_type (newEnv1 ok.one ok.push ?_);generalize hP:s2.heap.push { cls:=.type "list",dict:=none,data:=.seq ([]:List Value).toArray }=P2;have hC:P2.objs.size=s2.heap.objs.size + 1:=by rw [<- hP,Heap.size_push]
 have sz1:(P2.push { cls:=.type "dict",data:=.dict #[] }).objs.size=P2.objs.size + 1:=Heap.size_push ..;generalize hh1:(P2.push { cls:=.type "dict",data:=.dict #[] }).push { cls:=.type "cell",data:=.cell none }=h₁;have hns₁:h₁.Ns P2.objs.size (fun _=>none):=by
  rw [<- hh1];exact (Heap.Ns.new P2 _).push _
 have hcc:h₁.IsCell (P2.objs.size + 1) none:=by
  rw [<- hh1,<- sz1];exact ⟨_,Heap.get?_push_size _ rfl,rfl⟩
 have k:∀ b u,s2.heap.get? b=some u->h₁.get? b=some u:=fun b u e=>by
  rw [<- hh1];exact Heap.get?_push_of_some _ (Heap.get?_push_of_some _ (hP ▸ Heap.get?_push_of_some _ e))
 have hD:h₁.get? s2.heap.objs.size=some { cls:=.type "list",data:=.seq #[] }:=by
  rw [<- hh1];exact Heap.get?_push_of_some _ (Heap.get?_push_of_some _ (hP ▸ Heap.get?_push_size _ rfl))
 have ho:∀ b ∈ fp,∃ o,s2.heap.get? b=some o:=fun b hb=>let ⟨o,e,_⟩:=T.obj 0 _ st2 b hb; ⟨o,e⟩
 obtain ⟨W,⟨m0,w0⟩,turn⟩:=q2 s2.heap.objs.size (I2.hok.fresh (Nat.le_refl _));have I0:=comp_start1 (tk:=s2.toks) ok I2 f2 ho hC k hD hns₁ hcc;have st0:tn 0 h₁:=T.keep 0 _ _ st2 fun b _ o e=>k b o e;have fr0:∀ b ∈ fp,upd H2 s2.heap.objs.size (.lst []) b=none:=fun b hb=>by
  obtain ⟨o,e⟩:=ho b hb;rw [upd_ne (Nat.ne_of_lt (Heap.lt_size e))];exact (f2 b hb).1
 have stat:∀ {H':Hp},(∀ b ∈ fp,H' b=none)->∀ b ∈ fp,FpOk (compCx1 X N scope cl y P2.objs.size fp pins s2 H2) [] H' b:=fun {H'} hn b hb=>by
  obtain ⟨o,e⟩:=ho b hb;have lt:=Heap.lt_size e;refine ⟨hn b hb,?_,fun z=>(List.mem_cons.mp (I2.stkSub b z)).elim (f2 b hb).2.1 (f2 b hb).2.2.1,.inl hb,fun x c z=>?own,fun p hp=>?_⟩
  case own =>
   have z':List.lookup x ((y,P2.objs.size + 1) :: cl)=some c:=z
   rw [List.lookup_cons] at z'
   cases q:x == y with
   | true =>
    rw [q] at z';rw [<- Option.some.inj z',hC];exact Nat.ne_of_gt (Nat.lt_succ_of_lt (Nat.lt_succ_of_lt lt))
   | false =>
    rw [q] at z';exact (f2 b hb).2.2.2.2.1 x c (ok.sub x c z')
  ·show b ≠ P2.objs.size;rw [hC];exact Nat.ne_of_lt (Nat.lt_succ_of_lt lt)
  ·have hp':p ∈ X.pn++pins:=by
    have:p ∈ (X.pn++pins)++[]:=hp;simpa using this
   exact (f2 b hb).2.2.2.2.2 p hp'
 have loop:∀ s₃:Shared,s₃={ s2 with heap:=h₁,toks:=s2.toks } ->
   codeAny (model X.prog X.w) X.A (.compLoop (.ListComp elt [⟨tg,iter,ifs,0⟩] scope pos) 0 (.ref it) (.ref s2.heap.objs.size) (compEnvC scope ((y,P2.objs.size + 1) :: cl) P2.objs.size X.env))
    (compPost (model X.prog X.w) X.A X.xe none (EP X pins σ Q) (.ref s2.heap.objs.size) P2.objs.size) s₃:=by
  rintro s₃ rfl;refine codeAny_loop rfl (fun n s'=>∃ i σ' H',Inv (compCx1 X N scope cl y P2.objs.size fp pins s2 H2) [] σ' H' s'/\tn i s'.heap/\(∀ b ∈ fp,H' b=none)/\W i n σ' H') ?_ m0 ⟨0,_,_,I0,st0,fr0,w0⟩;rintro n s3 ⟨i,σ3,H3,I3,st3,fr3,w3⟩;show wpAny _ X.A ((compTurn (.ListComp elt [⟨tg,iter,ifs,0⟩] scope pos) 0 (.ref it) (.ref s2.heap.objs.size) (compEnvC scope ((y,P2.objs.size + 1) :: cl) P2.objs.size X.env)).onRaise (fun x=>do noteFrame x (compEnvC scope ((y,P2.objs.size + 1) :: cl) P2.objs.size X.env); theTreesLotGoes x)) _ _ s3;refine wpAny_noted ?_;rw [compTurn_list];rcases turn i n σ3 H3 w3 with ⟨stop,qn⟩ | ⟨go,N',hN,step⟩
  ·refine wpAny_bind (wpAny_standAt (wpAny_bind (thn (T.done (compCx1 X N scope cl y P2.objs.size fp pins s2 H2) rfl rfl rfl hcalm i [] s3 σ3 H3 _ I3 (stat fr3) st3 stop) fun r s4 ⟨hr,I4⟩=>?_)));subst hr;refine wpAny_pure ?_;obtain ⟨m,hm,_⟩:=I4.loc;refine ⟨m,hm,fun h' sb=>⟨.ref s2.heap.objs.size,H3,?_,rfl,qn⟩⟩;have un:Un (frs X.stack) fp H2 H3 s2.heap h':=Un.but I4.base (by show s2.heap.objs.size<=P2.objs.size; rw [hC]; exact Nat.le_succ _) sb;have hok:HOk X.prog X.w H3 h':=HOk.but I4.hok I4.free sb;exact I2.call' (s':={ s4 with heap:=h' }) (ch:=fp) I4.os un hok I4.bare fun b hb=>⟨(f2 b hb).2.2.2.1,(f2 b hb).2.1,(f2 b hb).2.2.2.2.1,(f2 b hb).2.2.2.2.2⟩
  ·refine wpAny_bind (wpAny_standAt (wpAny_bind (thn (T.item (compCx1 X N scope cl y P2.objs.size fp pins s2 H2) rfl rfl rfl hcalm i [] s3 σ3 H3 _ I3 (stat fr3) st3 go) fun r s4 ⟨u,hr,h4⟩=>?_)));subst hr;dsimp only;refine wpAny_bind (thn h4 fun _ s5 ⟨x,H5,I5,r5,y5,st5,fr5⟩=>?_);have I5':=I5.pinned (stat fr5) (T.obj _ _ st5);refine wpAny_bind (wpAny_mono (hg P2.objs.size fp pins s2 H2 _ s5 σ3 H5 x u _ I5' r5 (step x H5 y5)) (fun _ s6 ⟨σ6,H6,I6,q6⟩=>?_) fun _ _ z=>False.elim z);have again:∀ {s7:Shared} {σ7:St} {H7:Hp},Inv (compCx1 X N scope cl y P2.objs.size fp pins s2 H2) ([]++pinsAt fp s5.heap) σ7 H7 s7->N' σ7 H7->∃ m,m < n/\∃ i σ' H',Inv (compCx1 X N scope cl y P2.objs.size fp pins s2 H2) [] σ' H' s7/\tn i s7.heap/\(∀ b ∈ fp,H' b=none)/\W i m σ' H':=fun {s7 σ7 H7} I7 n7=>by
    obtain ⟨m',hm,w7⟩:=hN σ7 H7 n7;refine ⟨m',hm,i + 1,σ7,H7,I7.unpinned,T.keep _ _ _ st5 fun b hb o e=>(I7.pin (b,o) (List.mem_append_right _ (List.mem_append_right _ (mem_pinsAt hb e)))).1,fun b hb=>?_,w7⟩;obtain ⟨o,e,d⟩:=T.obj _ _ st5 b hb;exact (I7.pin (b,o) (List.mem_append_right _ (List.mem_append_right _ (mem_pinsAt hb e)))).2.1
   refine wpAny_bind (wpAny_mono (hc P2.objs.size fp pins s2 H2 _ s6 σ6 H6 _ I6 q6) (fun b s7 ⟨H7,I7,q7⟩=>?_) fun _ _ z=>False.elim z);cases b with
   | false =>
    rw [if_neg Bool.false_ne_true] at q7;exact wpAny_pure ⟨rfl,again I7 q7⟩
   | true =>
    rw [if_pos rfl] at q7;refine wpAny_bind (wpAny_bind (wpAny_mono (he P2.objs.size fp pins s2 H2 _ s7 σ6 H7 _ I7 q7) (fun yv s8 ⟨v8,H8,I8,r8,ys,hys,hlen,q8⟩=>?_) fun _ _ z=>False.elim z));refine wpAny_bind (wpAny_mono (mt_append (X:=compCx1 X N scope cl y P2.objs.size fp pins s2 H2) _ s8 σ6 H8 (.ref s2.heap.objs.size) [v8] (.ref s2.heap.objs.size) [yv] (fun _ H9=>N' σ6 H9) I8 rfl (.cons r8 .nil) ⟨_,ys,v8,rfl,rfl,hys,hlen,q8⟩) (fun _ s9 ⟨v9,H9,I9,_,q9⟩=>?_) fun _ _ z=>False.elim z);exact wpAny_pure (wpAny_pure ⟨rfl,again I9 q9⟩)
 exact codeAny_compStart_list (loop _ rfl) (T.self _ 0 _ _ _ st0 (loop _ rfl))
end
end L2
namespace L2
open PySem PySem.Spec PyProof.Rows
section
variable {X:Cx}{K:PySem.W.Frag}
theorem pi_listK {tg l:Expr}{tl:TE}(hK:X.K=K)(hl:PE X l tl):PI X tg l (iList K tl):=by
 subst hK;exact pi_list hl
end
end L2
namespace L2
open PySem PySem.Spec PyProof.Rows
theorem strs_vals:∀ {ts:List Str} {its:List Value},Vals (ts.map V.str) its->StrsAre its ts
 | [],_,.nil=>.nil
 | t :: _,_,.cons ⟨k,e⟩ h=>by
  subst e;exact .cons t k (strs_vals h)
section
variable {X:Cx}
noncomputable def rJoin (K:PySem.W.Frag):V->List V->Hp->VK->Prop:=fun x xs H Q=>∃ (z:Str) (l:Addr) (ts:List Str),x=.str z/\xs=[.ref l]/\SqL K H l (ts.map V.str)/\(ts.map (·.length)).sum + ts.length * z.length<=16777216/\Q (.str (Str.join z ts)) H
theorem mt_join:MtR X "str.join" (rJoin X.K):=by
 intro pins s σ H x xs v us Q I rx rv h;obtain ⟨z,l,ts,rfl,rfl,hl,hsz,q⟩:=h;obtain ⟨tk,rfl⟩:=rx;obtain ⟨u,rfl,r⟩:=rv.one;cases r;obtain ⟨its,rv2,p,hz⟩:=I.list hl;refine join_list (ys:=ts) p.isList (by simpa using strs_vals rv2) hsz fun t' k=>⟨.str (Str.join z ts),H,I.tok k,⟨t',?_⟩,q⟩;rw [show Txt.join z ts=Str.join z ts from StrLaws.glued_eq_join z ts]
end
end L2
namespace L2
open PySem PySem.Spec PyProof.Rows PySem.W
theorem lt2_irr (p:Int × Int):lt2 p p=false:=by
 unfold lt2;rw [if_pos rfl,decide_eq_false (by omega)]
theorem lt2_tot {p q:Int × Int}(h:p ≠ q):lt2 q p=!lt2 p q:=by
 unfold lt2;obtain ⟨a,b⟩:=p;obtain ⟨c,d⟩:=q;simp only;by_cases e:a=c
 ·subst e;rw [if_pos rfl,if_pos rfl];have hb:b ≠ d:=fun z=>h (by rw [z]);by_cases l:b < d
  ·rw [decide_eq_true l,decide_eq_false (by omega)];rfl
  ·rw [decide_eq_false l,decide_eq_true (by omega)];rfl
 ·rw [if_neg e,if_neg (fun z=>e z.symm)];by_cases l:a < c
  ·rw [decide_eq_true l,decide_eq_false (by omega)];rfl
  ·rw [decide_eq_false l,decide_eq_true (by omega)];rfl
theorem lt2_tr {p q r:Int × Int}(h1:lt2 p q=true)(h2:lt2 q r=true):lt2 p r=true:=by
 unfold lt2 at *
 obtain ⟨a,b⟩:=p;obtain ⟨c,d⟩:=q;obtain ⟨e,f⟩:=r;simp only at *
 by_cases e1:a=c
 ·subst e1;rw [if_pos rfl,decide_eq_true_eq] at h1;by_cases e2:a=e
  ·subst e2;rw [if_pos rfl,decide_eq_true_eq] at h2 ⊢;omega
  ·rw [if_neg e2] at h2 ⊢;exact h2
 ·rw [if_neg e1,decide_eq_true_eq] at h1;by_cases e2:c=e
  ·subst e2;rw [if_neg e1,decide_eq_true_eq];exact h1
  ·rw [if_neg e2,decide_eq_true_eq] at h2;rw [if_neg (by omega),decide_eq_true_eq];omega
section
variable {X:Cx}
end
end L2
namespace PySem.SeqAt
open L2 AutoSeq1 MeetsSeq MeetsSeq2 MeetsSeq3
noncomputable def RcLtAt (A:Around)(s:Shared)(y x:Value)(b:Bool):Prop:=∀ (prog:Program) (w:World) (E:Value->Shared->Prop) (Q:Value->Shared->Prop),Q (.bool b) s->wpAny (model prog w) A (richCompare .Lt y x) Q E s
theorem RcLtAt.int_int {A:Around}{s:Shared}(a:Int)(t:Tok)(b:Int)(u:Tok):RcLtAt A s (.int a t) (.int b u) (decide (a < b)):=fun prog w E Q h=>wpAny_lt_int h
theorem tuple_ltAt (l b:Addr)(x y x2 y2:Int)(t u t2 u2:Tok)(n n2:Nat)(dd dd2:Option Addr)(sl sl2:Array (Option Value)) :
  Meets (Builtin.«tuple.__lt__» ⟨[.ref l,.ref b],[]⟩)
   (fun _ R s=>s.heap.get? l=some { cls:=.type "tuple",dict:=dd,data:=.seq #[.int x t,.int y u] n,slots:=sl }/\s.heap.get? b=some { cls:=.type "tuple",dict:=dd2,data:=.seq #[.int x2 t2,.int y2 u2] n2,slots:=sl2 } /\
    R (.ok (.ret (.bool (lt2 (x,y) (x2,y2))))) s) :=
 .of_wp fun prog w A R s h=>by
  obtain ⟨hp1,g1,d1,tk1,os1⟩:=s;obtain ⟨hL,hB,h⟩:=h;have fT:=sub_tuple_tuple;wp_walk using wpAny_loadPart' hL,wpAny_loadPart' hB;refine EqAt.int_int x t x2 t2 prog w _ _ ?_;unfold lt2 at h;by_cases e:x=x2
  ·have e':(x == x2)=true:=by simpa using e
   rw [e'];rw [if_pos e] at h;wp_walk;refine EqAt.int_int y u y2 u2 prog w _ _ ?_;by_cases e2:y=y2
   ·have e2':(y == y2)=true:=by simpa using e2
    rw [e2'];rw [decide_eq_false (by show ¬ y < y2; omega)] at h;wp_walk;exact ⟨_,rfl,h⟩
   ·have e2':(y == y2)=false:=by simpa using e2
    rw [e2'];simp only [Bool.not_false,if_true];refine wpAny_bind (wpAny_rule (wpAny_bind (RcLtAt.int_int y u y2 u2 prog w _ _ ?_)));wp_walk;exact ⟨_,rfl,h⟩
  ·have e':(x == x2)=false:=by simpa using e
   rw [e'];rw [if_neg e] at h;simp only [Bool.not_false,if_true];refine wpAny_bind (wpAny_rule (wpAny_bind (RcLtAt.int_int x t x2 t2 prog w _ _ ?_)));wp_walk;exact ⟨_,rfl,h⟩
theorem RcLtAt.pairs {A:Around}{s:Shared}{v v':Value}{p q:Int × Int}(hv:IntPair s.heap v p)(hv':IntPair s.heap v' q)(hu:A.units < cLine):RcLtAt A s v v' (lt2 p q):=fun prog w E Q h=>by
 obtain ⟨a,⟨cls,dd,data,sl⟩,n,t,u,rfl,e1,c1,d1⟩:=hv;obtain ⟨a',⟨cls2,dd2,data2,sl2⟩,n',t',u',rfl,e1',c1',d1'⟩:=hv';simp only at c1 d1 c1' d1';subst c1 d1 c1' d1';exact richCompare_meets_room (op:=.Lt) ⟨_,e1,rfl⟩ ⟨_,e1',rfl⟩ F.slot_tuple_lt F.entry_tuple_lt (F.args_tuple_lt_2 _ _) (tuple_ltAt a a' p.1 p.2 q.1 q.2 t u t' u' n n' dd dd2 sl sl2)
  ⟨e1,e1',show Value.bool (lt2 p q) ≠ Value.notImplemented/\Q (.bool (lt2 p q)) s from ⟨(fun x=>nomatch x),h⟩⟩ hu
theorem intPair_reads {h:Heap}{v:Value}{p:Int × Int}(hv:IntPair h v p):∃ as,Reads h v (.tuple [.int p.1,.int p.2]) as:=by
 obtain ⟨a,o,n,t,u,rfl,e1,c1,d1⟩:=hv;exact ⟨_,.tuple e1 c1 d1 (.cons (.int _ _) (.cons (.int _ _) .nil))⟩
theorem pairs_eqv (p q:Int × Int):PyData.eqv (.tuple [.int p.1,.int p.2]) (.tuple [.int q.1,.int q.2])=decide (p=q):=by
 obtain ⟨a,b⟩:=p;obtain ⟨c,d⟩:=q;show ((a == c) && ((b == d) && true))=_;by_cases h1:a=c
 ·by_cases h2:b=d
  ·subst h1 h2;simp
  ·simp [h2]
 ·simp [h1]
end PySem.SeqAt
namespace L2
open PySem PySem.Spec PyProof.Rows PySem.W PySem.SeqAt
section
variable {X:Cx}{pins:List (Addr × Obj)}{σ:St}{H:Hp}{s:Shared}
end
section
variable {X:Cx}
end
end L2
namespace L2
open PySem PySem.Spec PyProof.Rows
section
variable {κ:Type} [DecidableEq κ]
noncomputable def valV (kvs:List (κ × V))(k:κ):Option V:=(kvs.find? fun kv=>decide (kv.1=k)).map (·.2)
noncomputable def putK (kvs:List (κ × V))(k:κ)(v:V):List (κ × V) :=
 if (kvs.any fun kv=>decide (kv.1=k))=true then kvs.map (fun kv=>if kv.1=k then (kv.1,v) else kv) else kvs++[(k,v)]
theorem valV_pos {p:κ × V}{r:List (κ × V)}{k:κ}(e:p.1=k):valV (p :: r) k=some p.2:=by simp [valV,List.find?_cons,e]
theorem valV_neg {p:κ × V}{r:List (κ × V)}{k:κ}(e:¬ p.1=k):valV (p :: r) k=valV r k:=by simp [valV,List.find?_cons,e]
theorem valV_any (k:κ):∀ kvs:List (κ × V),(kvs.any fun kv=>decide (kv.1=k))=(valV kvs k).isSome
 | []=>rfl
 | p :: r=>by
  rw [List.any_cons];by_cases e:p.1=k
  ·simp only [valV_pos e,decide_eq_true e,Bool.true_or,Option.isSome_some]
  ·rw [valV_neg e,decide_eq_false e,Bool.false_or]; exact valV_any k r
theorem length_putK (kvs:List (κ × V))(k:κ)(v:V):(putK kvs k v).length<=kvs.length + 1:=by
 unfold putK;split
 ·rw [List.length_map]; omega
 ·rw [List.length_append,List.length_cons,List.length_nil]; omega
theorem putK_new {kvs:List (κ × V)}{k:κ}(v:V)(h:valV kvs k=none):putK kvs k v=kvs++[(k,v)]:=by
 unfold putK;rw [valV_any,h];exact if_neg (by decide)
theorem RelO.isSome_eq {o:Option V}{u:Option Value}(r:RelO o u):o.isSome=u.isSome:=by
 cases o with
 | none=>cases u with
  | none=>rfl
  | some _=>exact (show False from r).elim
 | some _=>cases u with
  | none=>exact (show False from r).elim
  | some _=>rfl
theorem RelO.getD {o:Option V}{u:Option Value}{d:V}{d':Value}(r:RelO o u)(rd:RelV d d'):RelV (o.getD d) (u.getD d'):=by
 cases o with
 | none=>cases u with
  | none=>exact rd
  | some _=>exact (show False from r).elim
 | some _=>cases u with
  | none=>exact (show False from r).elim
  | some _=>exact r
theorem KV.val {kvs:List (κ × V)}{vs:List (κ × Value)}(r:KV kvs vs)(k:κ):RelO (valV kvs k) (valueAt vs k):=by
 unfold KV at r;induction r with
 | nil=>exact True.intro
 | @cons p q ps qs h t ih =>
  obtain ⟨h1,h2⟩:=h;by_cases e:p.1=k
  ·have e':q.1=k:=h1.symm.trans e;have b:valueAt (q :: qs) k=some q.2:=by simp [valueAt,List.find?_cons,e']
   rw [valV_pos e,b]; exact h2
  ·have e':¬ q.1=k:=fun z=>e (h1.trans z);have b:valueAt (q :: qs) k=valueAt qs k:=by simp [valueAt,List.find?_cons,e']
   rw [valV_neg e,b]; exact ih
theorem KV.any {kvs:List (κ × V)}{vs:List (κ × Value)}(r:KV kvs vs)(k:κ):(kvs.any fun kv=>decide (kv.1=k))=vs.any fun kv=>decide (kv.1=k):=by
 unfold KV at r;induction r with
 | nil=>rfl
 | cons h t ih=>rw [List.any_cons,List.any_cons,ih,h.1]
theorem KV.repl {kvs:List (κ × V)}{vs:List (κ × Value)}(r:KV kvs vs)(k:κ){y:V}{u:Value}(ry:RelV y u) :
  KV (kvs.map fun kv=>if kv.1=k then (kv.1,y) else kv) (vs.map fun kv=>if kv.1=k then (kv.1,u) else kv):=by
 unfold KV at r ⊢;induction r with
 | nil=>exact .nil
 | @cons p q ps qs h t ih =>
  rw [List.map_cons,List.map_cons];refine .cons ?_ ih;obtain ⟨h1,h2⟩:=h;by_cases e:p.1=k
  ·rw [if_pos e,if_pos (h1.symm.trans e)]; exact ⟨h1,ry⟩
  ·rw [if_neg e,if_neg (fun z=>e (h1.trans z))]; exact ⟨h1,h2⟩
theorem KV.put {kvs:List (κ × V)}{vs:List (κ × Value)}(r:KV kvs vs)(k:κ){y:V}{u:Value}(ry:RelV y u):KV (putK kvs k y) (stored vs k u):=by
 unfold putK stored;rw [r.any k];by_cases e:(vs.any fun kv=>decide (kv.1=k))=true
 ·rw [if_pos e,if_pos e]; exact r.repl k ry
 ·rw [if_neg e,if_neg e]; exact Paired.snoc r ⟨rfl,ry⟩
theorem KV.length {kvs:List (κ × V)}{vs:List (κ × Value)}(r:KV kvs vs):kvs.length=vs.length:=Paired.length r
end
theorem kV_is {P:Program}{w:World}{k:Key}{u:Value}(r:RelV (kV k) u):(mixKind P w).is k u=true:=by
 cases k with
 | inl i=>obtain ⟨t,e⟩:=(show ∃ t,u=Value.int i t from r); subst e; exact mixKind_int P w i t
 | inr x=>obtain ⟨t,e⟩:=(show ∃ t,u=Value.str x t from r); subst e; exact mixKind_str P w x t
theorem items_are {P:Program}{w:World}:∀ {ks:List Key} {us:List Value},Vals (ks.map kV) us->ItemsAre (mixKind P w) ks us
 | [],_,r=>by rw [List.map_nil] at r; cases r; exact .nil
 | k :: ks,_,r=>by
  rw [List.map_cons] at r;cases r with
  | cons h t=>exact .cons (kV_is h) (items_are t)
noncomputable abbrev KT (H:Hp):List (List Key × V)->List (List Key × Addr × Value)->Prop:=Paired fun p q=>p.1=q.1/\H q.2.1=some (.tup (p.1.map kV))/\RelV p.2 q.2.2
theorem KT.val {H:Hp}{kvs:List (List Key × V)}{xs:List (List Key × Addr × Value)}(r:KT H kvs xs)(k:List Key):RelO (valV kvs k) ((atKey xs k).map (·.2)):=by
 induction r with
 | nil=>exact True.intro
 | @cons p q ps qs h t ih =>
  obtain ⟨h1,_,h2⟩:=h;by_cases e:p.1=k
  ·have e':q.1=k:=h1.symm.trans e;have b:atKey (q :: qs) k=some q.2:=by simp [atKey,List.find?_cons,e']
   rw [valV_pos e,b]; exact h2
  ·have e':¬ q.1=k:=fun z=>e (h1.trans z);have b:atKey (q :: qs) k=atKey qs k:=by simp [atKey,List.find?_cons,e']
   rw [valV_neg e,b]; exact ih
theorem KT.repl {H:Hp}{kvs:List (List Key × V)}{xs:List (List Key × Addr × Value)}(r:KT H kvs xs)(k:List Key){y:V}{u:Value}(ry:RelV y u) :
  KT H (kvs.map fun kv=>if kv.1=k then (kv.1,y) else kv) (xs.map (putAt k u)):=by
 induction r with
 | nil=>exact .nil
 | @cons p q ps qs h t ih =>
  rw [List.map_cons,List.map_cons];refine .cons ?_ ih;obtain ⟨h1,h2,h3⟩:=h;unfold putAt;by_cases e:p.1=k
  ·rw [if_pos e,if_pos (h1.symm.trans e)]; exact ⟨h1,h2,ry⟩
  ·rw [if_neg e,if_neg (fun z=>e (h1.trans z))]; exact ⟨h1,h2,h3⟩
theorem KT.put {H:Hp}{kvs:List (List Key × V)}{xs:List (List Key × Addr × Value)}(r:KT H kvs xs)(k:List Key){b:Addr}{y:V}{u:Value}(hb:H b=some (.tup (k.map kV)))(ry:RelV y u) :
  KT H (putK kvs k y) (storedH xs k b u):=by
 have e:(kvs.any fun kv=>decide (kv.1=k))=(atKey xs k).isSome:=by
  rw [valV_any,(r.val k).isSome_eq,Option.isSome_map]
 unfold putK storedH;rw [e];by_cases q:(atKey xs k).isSome=true
 ·rw [if_pos q,if_pos q]; exact r.repl k ry
 ·rw [if_neg q,if_neg q]; exact Paired.snoc r ⟨rfl,hb,ry⟩
theorem KT.keeps {H H':Hp}{kvs:List (List Key × V)}{xs:List (List Key × Addr × Value)}(r:KT H kvs xs)(ht:∀ b ys,H b=some (.tup ys)->H' b=some (.tup ys)):KT H' kvs xs :=
 Paired.mapP r fun _ _ z=>⟨z.1,ht _ _ z.2.1,z.2.2⟩
section
variable {P:Program}{w:World}{H:Hp}{h:Heap}{a:Addr}
theorem rd_of {u:HO}(ok:HOk P w H h)(e:Rd H a u):ObjOk P w H h a u:=e.ok ok
theorem dk_rd {kvs:List (Key × V)}(ok:HOk P w H h)(e:Rd H a (.dK kvs)):kvs.length<=sizeLine/\(a == sysModules)=false/\∃ vs,KV kvs vs/\h.DictOf (mixKind P w) a vs :=
 show ObjOk P w H h a (.dK kvs) from rd_of ok e
theorem dk_of {kvs:List (Key × V)}(ok:HOk P w H h)(e:H a=some (.dK kvs)):kvs.length<=sizeLine/\(a == sysModules)=false/\∃ vs,KV kvs vs/\h.DictOf (mixKind P w) a vs:=dk_rd ok (.inl e)
theorem key_of {ks:List Key}(ok:HOk P w H h)(e:H a=some (.tup (ks.map kV))):(tupleKind (mixKind P w)).is h ks a:=by
 obtain ⟨_,its,r,o,h1,h2,n,h3⟩:=(show ObjOk P w H h a (.tup (ks.map kV)) from ok a _ e);exact ⟨o,its.toArray,n,h1,h2,h3,by simpa using items_are r⟩
theorem dt_rd {kvs:List (List Key × V)}(ok:HOk P w H h)(e:Rd H a (.dT kvs)):kvs.length<=sizeLine/\(a == sysModules)=false /\
  ∃ xs,KT H kvs xs/\h.DictOfH (tupleKind (mixKind P w)) a xs:=by
 obtain ⟨z,y,xs,r,o,es,ep,h1,h2,h3,h4,h5⟩:=(show ObjOk P w H h a (.dT kvs) from rd_of ok e);refine ⟨z,y,xs,r,o,es,ep,h1,h2,h3,h4,fun x hx=>?_,h5⟩;have all:∀ {l:List (List Key × V)} {m:List (List Key × Addr × Value)},KT H l m->∀ x ∈ m,(tupleKind (mixKind P w)).is h x.1 x.2.1:=by
  intro l m q;induction q with
  | nil=>intro x hx; exact nomatch hx
  | @cons p q ps qs hq t ih =>
   intro x hx;rcases List.mem_cons.mp hx with e | hx
   ·subst e;exact key_of ok (by rw [<- hq.1]; exact hq.2.1)
   ·exact ih x hx
 exact all r x hx
theorem dt_of {kvs:List (List Key × V)}(ok:HOk P w H h)(e:H a=some (.dT kvs)):kvs.length<=sizeLine/\(a == sysModules)=false /\
  ∃ xs,KT H kvs xs/\h.DictOfH (tupleKind (mixKind P w)) a xs:=dt_rd ok (.inl e)
end
noncomputable def DGet (H:Hp)(a:Addr)(y:V)(r:Option V):Prop :=
 (∃ kvs k,Rd H a (.dK kvs)/\y=kV k/\r=valV kvs k)\/∃ kvs k b,Rd H a (.dT kvs)/\y=.ref b/\H b=some (.tup (k.map kV))/\r=valV kvs k
noncomputable def DPut (H:Hp)(a:Addr)(y v:V)(H':Hp):Prop :=
 (∃ kvs k,H a=some (.dK kvs)/\y=kV k/\kvs.length < sizeLine/\H'=upd H a (.dK (putK kvs k v))) \/
 ∃ kvs k b,H a=some (.dT kvs)/\y=.ref b/\H b=some (.tup (k.map kV))/\kvs.length < sizeLine/\H'=upd H a (.dT (putK kvs k v))
theorem DGet.k {H:Hp}{a:Addr}{kvs:List (Key × V)}{k:Key}(e:H a=some (.dK kvs)):DGet H a (kV k) (valV kvs k):=.inl ⟨kvs,k,.inl e,rfl,rfl⟩
theorem DGet.t {H:Hp}{a b:Addr}{kvs:List (List Key × V)}{k:List Key}(e:H a=some (.dT kvs))(eb:H b=some (.tup (k.map kV))):DGet H a (.ref b) (valV kvs k):=.inr ⟨kvs,k,b,.inl e,rfl,eb,rfl⟩
theorem DPut.k {H:Hp}{a:Addr}{kvs:List (Key × V)}{k:Key}{v:V}(e:H a=some (.dK kvs))(hl:kvs.length < sizeLine):DPut H a (kV k) v (upd H a (.dK (putK kvs k v))):=.inl ⟨kvs,k,e,rfl,hl,rfl⟩
section
variable {X:Cx}{pins:List (Addr × Obj)}{σ:St}{H:Hp}{s:Shared}{a:Addr}{y v:V}{u r:Value}{o:Option V}{A:Around}{E:Value->Shared->Prop}
theorem Inv.big (I:Inv X pins σ H s):sysModules < s.heap.objs.size:=by
 have h:mainGlobals < s.heap.objs.size:=(I.mod.glob.keeps I.bk).lt;exact Nat.lt_trans (by decide) h
theorem d_getItem {Q:Value->Shared->Prop}(hu:A.units + 1 < cLine)(I:Inv X pins σ H s)(g:DGet H a y (some v))(ry:RelV y u)(h:∀ w' s',Inv X pins σ H s'->RelV v w'->Q w' s') :
  wpAny (model X.prog X.w) A (getItem (.ref a) u) Q E s:=by
 rcases g with ⟨kvs,k,e,ey,l⟩ | ⟨kvs,k,b,e,ey,eb,l⟩
 ·subst ey;obtain ⟨z,hd,vs,rel,dd⟩:=dk_rd I.hok e;obtain ⟨w',hw,rw'⟩:=RelO.some_of (v:=v) (o:=valueAt vs k) (by rw [l]; exact rel.val k);exact wpAny_getItem_of (kV_is ry) dd.mapOf hw (h w' _ (I.tok _) rw')
 ·subst ey;cases (show u=Value.ref b from ry);obtain ⟨z,hd,xs,rel,dd⟩:=dt_rd I.hok e;obtain ⟨w',hw,rw'⟩:=RelO.some_of (v:=v) (o:=(atKey xs k).map (·.2)) (by rw [l]; exact rel.val k);obtain ⟨p,hp,hp2⟩:=Option.map_eq_some_iff.mp hw;refine wpAny_getItem_heap (tupleKind_room_in1 hu) (key_of I.hok eb) dd hp ?_;rw [hp2];exact h w' _ (I.tok _) rw'
theorem d_notIn {Q:Value->Shared->Prop}(hu:A.units + 1 < cLine)(I:Inv X pins σ H s)(g:DGet H a y o)(ry:RelV y u)(h:∀ s',Inv X pins σ H s'->Q (.bool (!o.isSome)) s') :
  wpAny (model X.prog X.w) A (compareOp .NotIn u (.ref a)) Q E s:=by
 rcases g with ⟨kvs,k,e,ey,l⟩ | ⟨kvs,k,b,e,ey,eb,l⟩
 ·subst ey;obtain ⟨z,hd,vs,rel,dd⟩:=dk_rd I.hok e;refine wpAny_notIn_of (kV_is ry) hd dd.mapOf ?_;rw [<- (rel.val k).isSome_eq,<- l];exact h _ (I.tok _)
 ·subst ey;cases (show u=Value.ref b from ry);obtain ⟨z,hd,xs,rel,dd⟩:=dt_rd I.hok e;refine wpAny_notIn_heap (tupleKind_room_in1 hu) (key_of I.hok eb) hd dd ?_;have q:=(rel.val k).isSome_eq;rw [Option.isSome_map] at q;rw [<- q,<- l];exact h _ (I.tok _)
theorem d_write {h':Heap}{t':Nat}{ob:HO}(I:Inv X pins σ H s)(mu:Mut (H a))(hs:Heap.SameBut a s.heap h')(he:∃ q,h'.get? a=some q)(new:ObjOk X.prog X.w (upd H a ob) h' a ob) :
  Inv X pins σ (upd H a ob) { s with heap:=h',toks:=t' } :=
 I.write (x:=a) (e:=a) mu (.inl rfl) (fun b q hb z=>(hs.2 b hb).trans z) he new
theorem dk_new {P:Program}{w:World}{H':Hp}{h':Heap}{kvs:List (Key × V)}{vs:List (Key × Value)}(z:kvs.length<=sizeLine)(hd:(a == sysModules)=false)(rel:KV kvs vs)(dd:h'.DictOf (mixKind P w) a vs) :
  ObjOk P w H' h' a (.dK kvs):=⟨z,hd,vs,rel,dd⟩
theorem d_setItem {H':Hp}{Q:Unit->Shared->Prop}(hu:A.units + 1 < cLine)(I:Inv X pins σ H s)(g:DPut H a y v H')(ry:RelV y u)(rv:RelV v r)(h:∀ s',Inv X pins σ H' s'->Q () s') :
  wpAny (model X.prog X.w) A (setItem (.ref a) u r) Q E s:=by
 rcases g with ⟨kvs,k,e,ey,l,eH⟩ | ⟨kvs,k,b,e,ey,eb,l,eH⟩
 ·subst ey eH;obtain ⟨z,hd,vs,rel,dd⟩:=dk_of I.hok e;have hz:vs.length<=sizeLine:=by rw [<- rel.length]; exact z
  have hl:(putK kvs k v).length<=sizeLine:=by have:=length_putK kvs k v; omega
  refine wpAny_setItem_pairs (hsz:=hz) (kV_is ry) dd fun h' dd' hs=>h _ ?_;have he:∃ q,h'.get? a=some q:=let ⟨q,_,_,hq,_⟩:=dd'; ⟨q,hq⟩
  exact d_write I (by rw [e]; exact True.intro) hs he (dk_new hl hd (rel.put k rv) dd')
 ·subst ey eH;cases (show u=Value.ref b from ry);obtain ⟨z,hd,xs,rel,dd⟩:=dt_of I.hok e;have hz:xs.length<=sizeLine:=by rw [<- Paired.length rel]; exact z
  have hl:(putK kvs k v).length<=sizeLine:=by have:=length_putK kvs k v; omega
  refine wpAny_setItem_heap (hsz:=hz) (tupleKind_room_in1 hu) (key_of I.hok eb) dd fun h' dd' hs=>h _ ?_;obtain ⟨q,es,ep,hq,h2,h3,h4,_,h5⟩:=dd';refine d_write I (by rw [e]; exact True.intro) hs ⟨q,hq⟩ ⟨hl,hd,_,(rel.put k eb rv).keeps fun c ys ec=>?_,q,es,ep,hq,h2,h3,h4,h5⟩;rw [upd_ne (ne_of ec e (fun z=>nomatch z))];exact ec
end
section
variable {X:Cx}{pins:List (Addr × Obj)}{σ:St}{H:Hp}{s:Shared}{a:Addr}{kvs:List (Key × V)}{k:Key}{u:Value}{A:Around}{E:Value->Shared->Prop}
theorem d_len {Q:Value->Shared->Prop}(I:Inv X pins σ H s)(e:Rd H a (.dK kvs))(h:∀ t s',Inv X pins σ H s'->Q (.int kvs.length t) s'):wpAny (model X.prog X.w) A (call (.builtin "len") [.ref a]) Q E s:=by
 obtain ⟨z,hd,vs,rel,dd⟩:=dk_rd I.hok e;refine call_len_dict hd dd (by rw [<- rel.length]; rw [sizeLine_eq] at z; omega) ?_;rw [<- rel.length];exact h _ _ (I.tok _)
end
noncomputable def NoSl (i:Expr):Prop:=∀ ov iv,subscripted i false ov iv=operate [ov,iv] (getItem ov iv)
theorem subD_of {prog:Program}{w:World}{A:Around}{E:Value->Shared->Prop}{s:Shared}{env:Env}{value slice:Expr}{pos:Pos}{T id:String}{Q:Value->Shared->Prop}
  (hl:typeLookup (.type T) "__getitem__"=pure (some (.builtin id))) (hs:NoSl slice)
  (h:wpAny (model prog w) A (eval value env) (fun o s₁=>wpAny (model prog w) A (eval slice env) (fun i s₂=>s₂.TypeIs o T/\wpAny (model prog w) A (getItem o i) Q E s₂) E s₁) E s) :
  wpAny (model prog w) A (eval (.Subscript value slice pos) env) Q E s:=by
 refine Subscript_ (wpAny_mono h (fun o s₁ h₁=>wpAny_mono h₁ (fun i s₂ h₂=>?_) fun _ _ x=>x) fun _ _ x=>x);obtain ⟨hT,h₂⟩:=h₂;unfold subscriptTail;refine wpAny_bind ?_;rw [getitemInPython_of_ne hT.not_modules];refine wpAny_bind (wpAny_specialOf hT hl ?_);have fin:wpAny (model prog w) A (subscripted slice false o i) (fun r s₃=>wpAny (model prog w) A (letTemporaryGo value o r >>= fun _=>pure r) Q E s₃) E s₂:=by
  rw [hs o i];exact wpAny_operating (wpAny_mono h₂ (fun r s₃ h₃=>wpAny_bind (wpAny_letTemporaryGo (wpAny_pure h₃))) fun _ _ x=>x)
 first
  | exact wpAny_pure (wpAny_bind fin)
  | exact wpAny_bind (wpAny_pure (wpAny_bind fin))
  | exact wpAny_bind fin
theorem dict_typeIs {X:Cx}{pins:List (Addr × Obj)}{σ:St}{H:Hp}{s:Shared}{a:Addr}{y:V}{o:Option V}(I:Inv X pins σ H s)(g:DGet H a y o):s.TypeIs (.ref a) "dict":=by
 rcases g with ⟨kvs,k,e,_,_⟩ | ⟨kvs,k,b,e,_,_,_⟩
 ·obtain ⟨_,_,vs,_,dd⟩:=dk_rd I.hok e;exact dd.typeIs
 ·obtain ⟨_,_,xs,_,dd⟩:=dt_rd I.hok e;exact dd.typeIs
noncomputable def tDGet (td ty:TE):TE:=fun σ H Q=>td σ H fun x H1=>ty σ H1 fun y H2=>∃ a v,x=.ref a/\DGet H2 a y (some v)/\Q v H2
noncomputable def tDNotIn (ty td:TE):TE:=fun σ H Q=>ty σ H fun y H1=>td σ H1 fun x H2=>∃ a o,x=.ref a/\DGet H2 a y o/\Q (.bl (!o.isSome)) H2
noncomputable def sDPut (td ty tv:TE):TS:=fun D σ H=>tv σ H fun v H1=>td σ H1 fun x H2=>ty σ H2 fun y H3=>∃ a H4,x=.ref a/\DPut H3 a y v H4/\D.nx σ H4
section
variable {X:Cx}{o i e value:Expr}{pos pos' tpos:Pos}{td ty tv:TE}
theorem pe_dget (hu:X.A.units + 1 < cLine)(ho:PE X o td)(hi:PE X i ty)(hs:NoSl i):PE X (.Subscript o i pos) (tDGet td ty):=by
 intro pins s σ H Q I h;refine subD_of PySem.F.slot_dict_getitem.lookup hs (thn (ho pins s σ H _ I h) fun u s1 ⟨x,H1,I1,rx,q1⟩=>thn (hi pins s1 σ H1 _ I1 q1) fun iv s2 ⟨y,H2,I2,ry,a,v,ex,g,q2⟩=>?_);subst ex;obtain rfl:u=Value.ref a:=rx;exact ⟨dict_typeIs I2 g,d_getItem hu I2 g ry fun w' s3 I3 rw'=>⟨v,H2,I3,rw',q2⟩⟩
theorem pc_dnotin (hu:X.A.units + 1 < cLine)(hi:PE X i ty)(ho:PE X o td):PC X .NotIn i o (tDNotIn ty td):=by
 intro pins s σ H Q I h;refine thn (hi pins s σ H _ I h) fun iv s1 ⟨y,H1,I1,ry,q1⟩=>thn (ho pins s1 σ H1 _ I1 q1) fun u s2 ⟨x,H2,I2,rx,a,ov,ex,g,q2⟩=>?_;subst ex;obtain rfl:u=Value.ref a:=rx;exact d_notIn hu I2 g ry fun s3 I3=>⟨.bl (!ov.isSome),H2,I3,rfl,q2⟩
theorem ps_dput (hu:X.A.units + 1 < cLine)(ho:PE X o td)(hi:PE X i ty)(hv:PE X value tv)(hs:swapsWith value (some (.Subscript o i pos')) pos.line X.env=pure false) :
  PS X (.Assign [.Subscript o i pos'] value pos) (sDPut td ty tv):=by
 intro pins s σ H D I h;refine wpAny_Assign_Subscript (thn (hv pins s σ H _ I h) fun r s1 ⟨v,H1,I1,rv,q1⟩=>thn (ho pins s1 σ H1 _ I1 q1) fun u s2 ⟨x,H2,I2,rx,q2⟩=>thn (hi pins s2 σ H2 _ I2 q2) fun iv s3 ⟨y,H3,I3,ry,a,H4,ex,g,q3⟩=>?_) hs;subst ex;obtain rfl:u=Value.ref a:=rx;exact d_setItem hu I3 g ry rv fun s4 I4=>⟨σ,H4,I4,q3⟩
end
theorem dk_empty {P:Program}{w:World}{H:Hp}(h:Heap)(hb:sysModules < h.objs.size):ObjOk P w H (h.push { cls:=.type "dict",data:=.dict #[] }) h.objs.size (.dK []) :=
 ⟨Nat.zero_le _,beq_eq_false_iff_ne.mpr (Ne.symm (Nat.ne_of_lt hb)),[],.nil,Heap.DictOf.new h⟩
theorem dt_empty {P:Program}{w:World}{H:Hp}(h:Heap)(hb:sysModules < h.objs.size):ObjOk P w H (h.push { cls:=.type "dict",data:=.dict #[] }) h.objs.size (.dT []) :=
 ⟨Nat.zero_le _,beq_eq_false_iff_ne.mpr (Ne.symm (Nat.ne_of_lt hb)),[],.nil,_,#[],0,Heap.get?_push_size _ rfl,⟨rfl,rfl,rfl⟩,rfl,rfl,List.nodup_nil⟩
noncomputable def tDNewK:TE:=fun _ H Q=>∀ p,H p=none->Q (.ref p) (upd H p (.dK []))
section
variable {X:Cx}{pos:Pos}
theorem pe_dnewK:PE X (.Dict [] [] pos) tDNewK:=fun pins s σ H Q I h =>
 wpAny_Dict_empty ⟨.ref s.heap.objs.size,_,I.laid (a:=s.heap.objs.size) (o:=.dK []) (t':=s.toks) (fun _ _ q=>Heap.get?_push_of_some _ q) (Nat.le_refl _) (dk_empty s.heap I.big),rfl,h _ (I.hok.fresh (Nat.le_refl _))⟩
end
noncomputable def tPairs:List (TE × TE)->St->Hp->(List (V × V)->Hp->Prop)->Prop
 | [],_,H,Q=>Q [] H
 | (tk,tv) :: r,σ,H,Q=>tk σ H fun x H1=>tv σ H1 fun y H2=>tPairs r σ H2 fun ps H3=>Q ((x,y) :: ps) H3
noncomputable abbrev VV:List (V × V)->List (Value × Value)->Prop:=Paired fun p q=>RelV p.1 q.1/\RelV p.2 q.2
noncomputable def PPs (X:Cx)(pos:Pos)(keys:List (Option Expr))(values:List Expr)(trs:List (TE × TE)):Prop :=
 ∀ (pins:List (Addr × Obj)) (s:Shared) (σ:St) (H:Hp) (Q:List (V × V)->Hp->Prop),Inv X pins σ H s->tPairs trs σ H Q ->
  wpAny (model X.prog X.w) X.A (evalPairs (pairTrees keys values X.env pos)) (fun vs s'=>∃ ps H',Inv X pins σ H' s'/\VV ps vs/\Q ps H') X.xe s
theorem pps_nil {X:Cx}{pos:Pos}:PPs X pos [] [] []:=fun pins s σ H Q I h=>pairTrees_nil_walk ⟨[],H,I,.nil,h⟩
theorem pps_cons {X:Cx}{pos:Pos}{k v:Expr}{ks:List (Option Expr)}{vs:List Expr}{tk tv:TE}{trs:List (TE × TE)}(hk:PE X k tk)(hv:PE X v tv)(hr:PPs X pos ks vs trs) :
  PPs X pos (some k :: ks) (v :: vs) ((tk,tv) :: trs):=fun pins s σ H Q I h =>
 pairTrees_cons_walk (thn (hk pins s σ H _ I h) fun u s1 ⟨x,H1,I1,rx,q1⟩=>thn (hv pins s1 σ H1 _ I1 q1) fun w2 s2 ⟨y,H2,I2,ry,q2⟩ =>
  thn (hr pins s2 σ H2 _ I2 q2) fun ws s3 ⟨ps,H3,I3,rel,q3⟩=>⟨(x,y) :: ps,H3,I3,.cons ⟨rx,ry⟩ rel,q3⟩)
noncomputable def mergeK (kvs more:List (Key × V)):List (Key × V):=more.foldl (fun acc kv=>putK acc kv.1 kv.2) kvs
theorem KV.merge:∀ {more:List (Key × V)} {rs:List (Key × Value)} {kvs:List (Key × V)} {vs:List (Key × Value)},KV more rs->KV kvs vs->KV (mergeK kvs more) (merged vs rs):=by
 intro more rs kvs vs r;unfold KV at r;induction r generalizing kvs vs with
 | nil=>intro q; exact q
 | @cons p q ps qs h t ih =>
  intro r0;have e:KV (putK kvs p.1 p.2) (stored vs q.1 q.2):=by
   have:=r0.put p.1 h.2;rw [<- h.1]; exact this
  exact ih e
theorem length_mergeK:∀ (more kvs:List (Key × V)),(mergeK kvs more).length<=kvs.length + more.length
 | [],kvs=>by show kvs.length<=kvs.length + 0; omega
 | p :: r,kvs=>by
  have h1:=length_mergeK r (putK kvs p.1 p.2);have h2:=length_putK kvs p.1 p.2;show (mergeK (putK kvs p.1 p.2) r).length<=_;rw [List.length_cons]; omega
theorem carries_of {P:Program}{w:World}:∀ {kvs:List (Key × V)} {ws:List (Value × Value)},VV (kvs.map fun kv=>(kV kv.1,kv.2)) ws->∃ rs,Carries (mixKind P w) ws rs/\KV kvs rs
 | [],_,r=>by rw [List.map_nil] at r; cases r; exact ⟨[],True.intro,.nil⟩
 | p :: kvs,_,r=>by
  rw [List.map_cons] at r;cases r with
  | @cons a b as bs h t =>
   obtain ⟨rs,c,q⟩:=carries_of (P:=P) (w:=w) t;obtain ⟨b1,b2⟩:=b;exact ⟨(p.1,b2) :: rs,⟨kV_is h.1,rfl,c⟩,.cons ⟨rfl,h.2⟩ q⟩
noncomputable def tDisp (trs:List (TE × TE)):TE:=fun σ H Q=>∀ p,H p=none->tPairs trs σ (upd H p (.dK [])) fun ps H2=>H2 p=some (.dK [])/\∃ kvs:List (Key × V),ps=kvs.map (fun kv=>(kV kv.1,kv.2))/\kvs.length<=15/\Q (.ref p) (upd H2 p (.dK (mergeK [] kvs)))
theorem pe_disp {X:Cx}{pos:Pos}{keys:List (Option Expr)}{values:List Expr}{trs:List (TE × TE)}(h:PPs X pos keys values trs)(hall:keys.all (·.isSome)=true)(hl:keys.length=values.length)(h0:keys ≠ [])
  (h15:keys.length<=15):PE X (.Dict keys values pos) (tDisp trs):=by
 intro pins s σ H Q I q;have hn:=I.hok.fresh (Nat.le_refl s.heap.objs.size);have I1:=I.laid (a:=s.heap.objs.size) (o:=.dK []) (h':=s.heap.push { cls:=.type "dict",data:=.dict #[] }) (t':=s.toks) (fun _ _ q=>Heap.get?_push_of_some _ q) (Nat.le_refl _) (dk_empty s.heap I.big);refine wpAny_Dict_walk (knd:=mixKind X.prog X.w) hall hl h0 h15 (thn (h pins _ σ _ _ I1 (q _ hn)) fun ws s2 ⟨ps,H2,I2,rel,e,kvs,ep,lk,q2⟩=>?_);subst ep;obtain ⟨rs,c,rk⟩:=carries_of (P:=X.prog) (w:=X.w) rel;obtain ⟨z,hd,vs0,r0,dd⟩:=dk_of I2.hok e;cases r0;refine ⟨rs,c,dd,fun h' dd' hs=>⟨.ref s.heap.objs.size,_,?_,rfl,q2⟩⟩;have hz:(mergeK [] kvs).length<=sizeLine:=by
  have h1:=length_mergeK kvs [];rw [List.length_nil] at h1;rw [sizeLine_eq]; omega
 have he:∃ q,h'.get? s.heap.objs.size=some q:=let ⟨q,_,_,hq,_⟩:=dd'; ⟨q,hq⟩
 exact d_write I2 (by rw [e]; exact True.intro) hs he (dk_new hz hd (rk.merge .nil) dd')
structure M2 (X:Cx)(o:Expr)(m:Str)(apos:Pos)(e f:Expr)(cpos:Pos):Prop where
 base:attributeBase o m X.env (eval o X.env)=eval o X.env
 few:((backTo cpos (starEach [e,f] X.env)).all (fun x=>!x.1) && (backToKw cpos (keywordEach [] X.env)).all (fun x=>x.1.isSome)
  && decide (([e,f]:List Expr).length + ([]:List Keyword).length + (if ([]:List Keyword).isEmpty then 0 else 1) < 30))=true
 line:(apos.endLine == cpos.line)=true
 trees:backTo cpos (starEach [e,f] X.env)=[(false,eval e X.env),(false,eval f X.env)]
noncomputable def IsD (H:Hp)(a:Addr):Prop:=(∃ kvs,Rd H a (.dK kvs))\/∃ kvs,Rd H a (.dT kvs)
theorem isD_at {X:Cx}{pins:List (Addr × Obj)}{σ:St}{H:Hp}{s:Shared}{a:Addr}(I:Inv X pins σ H s)(d:IsD H a) :
  s.TypeIs (.ref a) "dict"/\(∀ b,Value.ref a=.ref b->∃ ob,s.heap.get? b=some ob/\ob.dict=none)/\(a == sysModules)=false:=by
 rcases d with ⟨kvs,e⟩ | ⟨kvs,e⟩
 ·obtain ⟨_,hd,vs,_,dd⟩:=dk_rd I.hok e;refine ⟨dd.typeIs,fun b q=>?_,hd⟩;cases q;obtain ⟨ob,_,_,h1,h2,_⟩:=dd;exact ⟨ob,h1,h2.2.1⟩
 ·obtain ⟨_,hd,xs,_,dd⟩:=dt_rd I.hok e;refine ⟨dd.typeIs,fun b q=>?_,hd⟩;cases q;obtain ⟨ob,_,_,h1,h2,_⟩:=dd;exact ⟨ob,h1,h2.2.1⟩
section
variable {X:Cx}{pins:List (Addr × Obj)}{σ:St}{H:Hp}{s:Shared}{a:Addr}{y d:V}{u r:Value}{o:Option V}{A:Around}{E:Value->Shared->Prop}
theorem d_get2 {Q:Value->Shared->Prop}(hu:A.units + 1 < cLine)(I:Inv X pins σ H s)(g:DGet H a y o)(ry:RelV y u)(rd:RelV d r)(h:∀ w' s',Inv X pins σ H s'->RelV (o.getD d) w'->Q w' s') :
  wpAny (model X.prog X.w) A (call (.builtin "dict.get") [.ref a,u,r]) Q E s:=by
 rcases g with ⟨kvs,k,e,ey,l⟩ | ⟨kvs,k,b,e,ey,eb,l⟩
 ·subst ey;obtain ⟨z,hd,vs,rel,dd⟩:=dk_rd I.hok e;refine call_meetsIn PySem.F.slot_dict_get dd.typeIs PySem.F.entry_dict_get (PySem.F.args_dict_get_3 _ _ _) (meets_dict_get_default (mixKind X.prog X.w) a (kV_is ry) hd r) ⟨_,dd.mapOf,h _ _ (I.tok _) ?_⟩;rw [l];exact (rel.val k).getD rd
 ·subst ey;cases (show u=Value.ref b from ry);obtain ⟨z,hd,xs,rel,dd⟩:=dt_rd I.hok e;refine call_meetsIn PySem.F.slot_dict_get dd.typeIs PySem.F.entry_dict_get (PySem.F.args_dict_get_3 _ _ _) (meetsH_dict_get_default (tupleKind (mixKind X.prog X.w)) a b hd r) ⟨tupleKind_room_in1 hu,k,xs,key_of I.hok eb,dd,h _ _ (I.tok _) ?_⟩;rw [l];exact (rel.val k).getD rd
end
noncomputable def tDGet2 (td ty tx:TE):TE:=fun σ H Q=>td σ H fun x H1=>∃ a,x=.ref a/\IsD H1 a/\ty σ H1 fun y H2=>tx σ H2 fun z H3=>∃ o,DGet H3 a y o/\Q (o.getD z) H3
section
variable {X:Cx}{o e f:Expr}{apos cpos:Pos}{td ty tx:TE}
theorem pe_dget2 (hu:X.A.units + 1 < cLine)(ho:PE X o td)(he:PE X e ty)(hf:PE X f tx)(m:M2 X o "get" apos e f cpos):PE X (.Call (.Attribute o "get" apos) [e,f] [] cpos) (tDGet2 td ty tx):=by
 intro pins s σ H Q I h;refine wpAny_Call_method m.base m.few m.line PySem.F.plainAttrs_dict PySem.F.slot_dict_get PySem.F.type_dict_get (thn (ho pins s σ H _ I h) fun u s1 ⟨x,H1,I1,rx,a,ex,d,q1⟩=>?_);subst ex;obtain rfl:u=Value.ref a:=rx;obtain ⟨t1,t2,_⟩:=isD_at I1 d;refine ⟨t1,t2,?_⟩;rw [m.trees];refine Calls.callWith_builtin rfl (Calls.evalArgs_plain (Calls.spliced_cons (thn (he pins s1 σ H1 _ I1 q1) fun iv s2 ⟨y,H2,I2,ry,q2⟩ =>
  Calls.spliced_cons (thn (hf pins s2 σ H2 _ I2 q2) fun fv s3 ⟨z,H3,I3,rz,ov,g,q3⟩=>Calls.spliced_nil ?_))))
 exact d_get2 hu I3 g ry rz fun w' s4 I4 rw'=>⟨_,H3,I4,rw',q3⟩
end
section
variable {X:Cx}{pins:List (Addr × Obj)}{σ:St}{H:Hp}{s:Shared}{a:Addr}{kvs:List (Key × V)}{A:Around}{E:Value->Shared->Prop}
end
section
variable {X:Cx}{pins:List (Addr × Obj)}{σ:St}{H:Hp}{s:Shared}{a:Addr}{y:V}{u:Value}{A:Around}{E:Value->Shared->Prop}
end
end L2
namespace L2
open PySem PySem.Spec PyProof.Rows
theorem f_lk_keys:typeLookup (.type "list") "keys"=pure none:=by rw [typeLookup_type,builtinLookup_eq_fast]; kernel_rfl
theorem f_lk_hook:typeLookup (.type "list") "__getattr__"=pure none:=by rw [typeLookup_type,builtinLookup_eq_fast]; kernel_rfl
theorem f_sub_ae:isSubtype (.type "AttributeError") (.type "AttributeError")=pure true:=by rw [isSubtype_type]; kernel_rfl
theorem f_ae_own (args:List Value):ownMembersOf (.type "AttributeError") args=#[unsetMember,unsetMember]:=rfl
theorem f_ae_first:((Manifest.find? "AttributeError").elim false fun t=>t.mro.contains "StopIteration" || t.mro.contains "SystemExit")=false:=by decide +kernel
section
variable {prog:Program}{w:World}{A:Around}{E:Value->Shared->Prop}{h:Heap}{g:Array GenState}{d:Drawn}{t:Nat}{os:OsState}{a:Addr}{its:Array Value}{n:Nat}
theorem nk_entry {tk:Tok}{Q:Fin->Shared->Prop}(hx:h.get? a=some { cls:=.type "list",dict:=none,data:=.seq its n,slots:=#[] })(hh:A.handled=none)
  (he:∀ h' t' e,(∀ b o',h.get? b=some o'->h'.get? b=some o')->(⟨h',g,d,t',os⟩:Shared).TypeIs (.ref e) "AttributeError"->E (.ref e) ⟨h',g,d,t',os⟩) :
  wpAny (model prog w) A (Builtin.«object.__getattribute__» ⟨[.ref a,.str "keys" tk],[]⟩) Q E ⟨h,g,d,t,os⟩:=by
 have hT:(⟨h,g,d,t,os⟩:Shared).TypeIs (.ref a) "list":=⟨_,hx,rfl⟩;have f4:=f_lk_keys;have f5:=f_sub_ae;repeat (any_goals (first | assumption | wp_step))
 unfold raiseAttrError;refine wpAny_bind (wpAny_mkStr (wpAny_bind ?_) (by decide +kernel));unfold newExc newTuple;refine wpAny_bind (wpAny_newObj_type ?_);refine wpAny_bind (m:=firstArgMember _ _) (wpAny_of_eq (a:=Value.none) (by simp only [firstArgMember,f_ae_first]; rfl) ?_);rw [f_ae_own];refine wpAny_newObj_type ?_;refine wpAny_bind (wpAny_mkText ?_);refine wpAny_bind ?_;unfold noteAttr lacksNameAndObj;repeat (any_goals (first | assumption | wp_step))
 unfold raiseNew;refine wpAny_bind (wpAny_handled ?_);rw [hh];refine wpAny_bind (wpAny_pure (wpAny_throw ?_));dsimp only;refine he _ _ _ (fun b o' hb=>?_) ?_
 ·rw [(Heap.SameBut.update ..).2 b (Nat.ne_of_lt ?_)]
  ·exact Heap.get?_push_of_some _ (Heap.get?_push_of_some _ hb)
  ·rw [Heap.size_push];exact Nat.lt_succ_of_lt (Heap.lt_size hb)
 ·refine ⟨_,Heap.get?_update_self _ (Heap.get?_push_size _ rfl) rfl,rfl⟩
theorem nk_call {tk:Tok}{R:Result->Shared->Prop}(hx:h.get? a=some { cls:=.type "list",dict:=none,data:=.seq its n,slots:=#[] })(hh:A.handled=none)
  (he:∀ h' t' e,(∀ b o',h.get? b=some o'->h'.get? b=some o')->(⟨h',g,d,t',os⟩:Shared).TypeIs (.ref e) "AttributeError"->R (.error (.ref e)) ⟨h',g,d,t',os⟩) :
  codeAny (model prog w) A (.call (.builtin "list.__getattribute__") ⟨[.ref a,.str "keys" tk],[]⟩) R ⟨h,g,d,t,os⟩ :=
 codeAny_call_builtin PySem.F.slot_list_getattribute.plain PySem.F.entry_list_ga (PySem.F.slot_list_getattribute.check _ _ _ _ _ _ _ _ (show (⟨h,g,d,t,os⟩:Shared).TypeIs (.ref a) "list" from ⟨_,hx,rfl⟩) (PySem.F.args_list_getattribute_2 _ _) (nk_entry hx (by simp [hh]) he))
theorem nk_by {tk:Tok}{Q:Value->Shared->Prop}(hx:h.get? a=some { cls:=.type "list",dict:=none,data:=.seq its n,slots:=#[] })(hh:A.handled=none)
  (he:∀ h' t' e,(∀ b o',h.get? b=some o'->h'.get? b=some o')->(⟨h',g,d,t',os⟩:Shared).TypeIs (.ref e) "AttributeError"->E (.ref e) ⟨h',g,d,t',os⟩) :
  wpAny (model prog w) A (getAttrBy (.ref a) (.str "keys" tk) false) Q E ⟨h,g,d,t,os⟩:=by
 have hT:(⟨h,g,d,t,os⟩:Shared).TypeIs (.ref a) "list":=⟨_,hx,rfl⟩;have f2:=PySem.F.slot_list_getattribute.lookup;have f3:=PySem.F.slot_list_getattribute.bind (.ref a);have f4:=f_lk_hook;have f5:=f_sub_ae;repeat (any_goals (first | assumption | wp_step))
 refine nk_call hx (by simp [hh]) fun h' t' e kp hE=>?_;repeat (any_goals (first | assumption | wp_step))
 exact he _ _ _ kp hE
theorem nk_none {Q:Option Value->Shared->Prop}(hx:h.get? a=some { cls:=.type "list",dict:=none,data:=.seq its n,slots:=#[] })(hh:A.handled=none)
  (hq:∀ h' t',(∀ b o',h.get? b=some o'->h'.get? b=some o')->Q none ⟨h',g,d,t',os⟩) :
  wpAny (model prog w) A (getAttr? (.ref a) "keys") Q E ⟨h,g,d,t,os⟩:=by
 have f5:=f_sub_ae;unfold getAttr? getAttrBy?;refine wpAny_bind (wpAny_mkText (wpAny_bind (wpAny_attempt ?_)));refine nk_by (t:=t + 1) hx hh fun h' t' e kp hE=>?_;repeat (any_goals (first | assumption | wp_step))
 exact hq _ _ kp
theorem f_entry_loop:entryFor table "dict.update.loop"=some Builtin.«dict.update.loop»:=entryFor_of_tree (by kernel_rfl)
theorem f_plain_loop:plainId "dict.update.loop"=true:=by decide +kernel
end
section
variable {prog:Program}{w:World}{A:Around}{R:Result->Shared->Prop}{I:Addr}{fp wr:List Addr}{G:Array GenState->Array GenState->Prop}{n:Nat}{P:Nat->Value->Prop}{St:Nat->Shared->Prop}
noncomputable abbrev KQ:=List Key × Addr × Value
noncomputable def putAll (ks:List KQ):List KQ:=ks.foldl (fun acc q=>storedH acc q.1 q.2.1 q.2.2) []
theorem putAll_snoc (ks:List KQ)(q:KQ):putAll (ks++[q])=storedH (putAll ks) q.1 q.2.1 q.2.2:=by
 unfold putAll;rw [List.foldl_append];rfl
theorem storedH_len (xs:List KQ)(k:List Key)(a:Addr)(v:Value):(storedH xs k a v).length<=xs.length + 1:=by
 unfold storedH;split
 ·rw [List.length_map];omega
 ·rw [List.length_append];exact Nat.le_refl _
theorem putAll_len (ks:List KQ):(putAll ks).length<=ks.length:=by
 suffices h:∀ (ks acc:List KQ),(ks.foldl (fun acc q=>storedH acc q.1 q.2.1 q.2.2) acc).length<=acc.length + ks.length by
  have:=h ks [];simpa [putAll] using this
 intro ks;induction ks with
 | nil=>intro acc; exact Nat.le_refl _
 | cons q r ih =>
  intro acc;have h1:=ih (storedH acc q.1 q.2.1 q.2.2);have h2:=storedH_len acc q.1 q.2.1 q.2.2;rw [List.foldl_cons,List.length_cons];omega
theorem f_pair_items {A:Around}{E:Value->Shared->Prop}{s:Shared}{ta:Addr}{x y:Value}{Q:List Value->Shared->Prop}(h:IsTup s.heap ta #[x,y])(q:Q [x,y] s):wpAny (model prog w) A (Builtin.Dict.pairItems (.ref ta)) Q E s:=by
 obtain ⟨o,h1,h2,n,h3⟩:=h;have hT:s.TypeIs (.ref ta) "tuple":=⟨o,h1,h2⟩;unfold Builtin.Dict.pairItems;repeat (any_goals (first | assumption | wp_step))
 rw [h3];exact wpAny_pure (wpAny_pure q)
end
end L2
namespace L2
open PySem PySem.Spec PyProof.Rows
section
variable {prog:Program}{w:World}{A:Around}{R:Result->Shared->Prop}{I:Addr}{fp wr:List Addr}{G:Array GenState->Array GenState->Prop}{n:Nat}{P:Nat->Value->Prop}{St:Nat->Shared->Prop}
theorem putAll_keys (T:List Key->Addr->Prop):∀ (js acc:List KQ),(∀ x ∈ acc,T x.1 x.2.1)->(∀ x ∈ js,T x.1 x.2.1)->∀ x ∈ js.foldl (fun acc q=>storedH acc q.1 q.2.1 q.2.2) acc,T x.1 x.2.1
 | [],_,ha,_=>ha
 | q :: r,acc,ha,hj=>by
  rw [List.foldl_cons];refine putAll_keys T r _ (fun x hx=>?_) fun x hx=>hj x (List.mem_cons_of_mem _ hx);unfold storedH at hx;split at hx
  ·obtain ⟨y,hy,rfl⟩:=List.mem_map.mp hx;have:=ha y hy;unfold putAt;split
   ·exact this
   ·exact this
  ·rcases List.mem_append.mp hx with hx | hx
   ·exact ha x hx
   ·have e:x=(q.1,q.2.1,q.2.2):=by simpa using hx
    subst e;exact hj q List.mem_cons_self
theorem pairs_loop {h0:Heap}(W:WalksS prog w A.in1 I fp wr G n P St)(D:Addr)(hDf:D ∉ fp)(hD0:h0.get? D=none)(hw0:∀ b ∈ wr,h0.get? b=none)(ks:List KQ)(hlen:ks.length=n)(hb:n<=sizeLine)(hu:A.units + 1 < cLine)
  (hks:∀ q ∈ ks,(tupleKind (mixKind prog w)).is h0 q.1 q.2.1) (hP:∀ i v,P i v->∃ ta q,v=.ref ta/\ks[i]?=some q/\IsTup h0 ta #[.ref q.2.1,q.2.2]) :
  ∀ (k i:Nat) (s:Shared),n - i=k->i<=n->St i s->(∀ b o,h0.get? b=some o->s.heap.get? b=some o)->s.heap.DictOfH (tupleKind (mixKind prog w)) D (putAll (ks.take i)) ->
   (∀ s',Moved (D :: wr) G s s'->s'.heap.DictOfH (tupleKind (mixKind prog w)) D (putAll ks)->R (.ok (.ret .none)) s') ->
   codeAny (model prog w) A (.builtin "dict.update.loop" ⟨[.ref D,.ref I,rawInt (i:Int),.none],[]⟩) R s:=by
 have hDw:D ∉ wr:=fun h=>hDf (W.sub _ h);have more:∀ b ∈ wr,b ∈ D :: wr:=fun b hb=>List.mem_cons_of_mem _ hb;have tup_up:∀ {h:Heap} {ta:Addr} {xs:Array Value},(∀ b o,h0.get? b=some o->h.get? b=some o)->IsTup h0 ta xs->IsTup h ta xs:=fun kp ⟨o,h1,h2,m,h3⟩=>⟨o,kp _ _ h1,h2,m,h3⟩;have key_up:∀ {h:Heap} {ka:Addr} {q:List Key},(∀ b o,h0.get? b=some o->h.get? b=some o)->(tupleKind (mixKind prog w)).is h0 q ka->(tupleKind (mixKind prog w)).is h q ka:=fun kp ⟨o,xs,m,h1,h2⟩=>⟨o,xs,m,kp _ _ h1,h2⟩;have dict_to:∀ {s s':Shared} {xs:List KQ},Moved wr G s s'->(∀ b o,h0.get? b=some o->s'.heap.get? b=some o)->(∀ x ∈ xs,(tupleKind (mixKind prog w)).is h0 x.1 x.2.1)->s.heap.DictOfH (tupleKind (mixKind prog w)) D xs->s'.heap.DictOfH (tupleKind (mixKind prog w)) D xs :=
  fun hm kp hk ⟨o,es,ep,e1,e2,e3,e4,_,e6⟩=>⟨o,es,ep,hm.heap D _ hDw e1,e2,e3,e4,fun x hx=>key_up kp (hk x hx),e6⟩
 have keep_to:∀ {s s':Shared},Moved wr G s s'->(∀ b o,h0.get? b=some o->s.heap.get? b=some o)->∀ b o,h0.get? b=some o->s'.heap.get? b=some o:=fun hm kp b o e =>
  hm.heap b o (fun hb=>by
   rw [hw0 b hb] at e;cases e) (kp b o e)
 have keys0:∀ i,∀ x ∈ putAll (ks.take i),(tupleKind (mixKind prog w)).is h0 x.1 x.2.1:=fun i=>putAll_keys (fun a b=>(tupleKind (mixKind prog w)).is h0 a b) _ [] (fun x hx=>nomatch hx) fun x hx=>hks x (List.mem_of_mem_take hx);intro k;induction k with
 | zero =>
  intro i s hk hi hst kp hS hR;have hin:i=n:=by omega
  subst hin;refine codeAny_builtin f_entry_loop ?_;rw [Around.under_plainId f_plain_loop _];show wpAny _ A.in1 (pyNext (.ref I) >>= _) _ _ s;refine wpAny_bind (W.done s _ _ hst fun s' hm=>?_);show wpAny _ A.in1 (Builtin.Dict.addKeywords D [] >>= fun _=>ret Value.none) _ _ s';refine wpAny_bind (wpAny_pure (wpAny_pure (hR s' (hm.mono more) ?_)));have:=dict_to hm (keep_to hm kp) (keys0 _) hS;rw [<- hlen,List.take_length] at this;exact this
 | succ k ih =>
  intro i s hk hi hst kp hS hR;have hlt:i < n:=by omega
  refine codeAny_builtin f_entry_loop ?_;rw [Around.under_plainId f_plain_loop _];show wpAny _ A.in1 (pyNext (.ref I) >>= _) _ _ s;refine wpAny_bind (W.item i s _ _ hlt hst fun v s' hPv hst' hm=>?_);obtain ⟨ta,q,rfl,hq,ht⟩:=hP i v hPv;have kp':=keep_to hm kp;have hS':=dict_to hm kp' (keys0 _) hS;have l1:=putAll_len (ks.take i);have l2:(ks.take i).length<=n:=by
   rw [List.length_take];omega
  have tk:ks.take (i + 1)=ks.take i++[q]:=by
   rw [List.take_add_one,hq];rfl
  refine wpAny_bind (wpAny_holding (wpAny_bind (wpAny_tryCatch (f_pair_items (tup_up kp' ht) ?_))));refine wpAny_holding (wpAny_dictSet_heap (show A.in1.units < cLine from hu) (key_up kp' (hks q (List.mem_of_getElem? hq))) hS' (fun h' hd' hs'=>?_) (by omega));have kp2:∀ b o,h0.get? b=some o->h'.get? b=some o:=fun b o e=>by
   rw [hs'.2 b (fun z=>by
    rw [z,hD0] at e;cases e)]
   exact kp' b o e
  have d2:h'.DictOfH (tupleKind (mixKind prog w)) D (putAll (ks.take (i + 1))):=by
   rw [tk,putAll_snoc];exact hd'
  refine wpAny_pure ⟨plainId_quiet f_plain_loop _,?_⟩;show codeAny _ A (.builtin "dict.update.loop" ⟨[.ref D,.ref I,rawInt ((i:Int) + 1),.none],[]⟩) R _;rw [show ((i:Int) + 1)=((i + 1:Nat):Int) by omega];refine ih (i + 1) _ (by omega) hlt (W.frame _ s' _ _ hst' (Nat.le_add_right _ _) fun b hb o e=>?_) kp2 d2 fun s'' hm'' hS''=>?_
  ·rw [hs'.2 b (fun z=>hDf (by rw [<- z]; exact hb))];exact e
  ·refine hR s'' (Moved.trans W.gtrans ((hm.mono more).then_heap (Nat.le_add_right _ _) fun b o hb e=>?_) hm'') hS'';rw [hs'.2 b (fun z=>hb (by rw [z]; exact List.mem_cons_self))];exact e
end
end L2
namespace L2
open PySem PySem.Spec PyProof.Rows
noncomputable def PrAt (H:Hp)(v:V)(kv:List Key × V):Prop:=∃ a b,v=V.ref a/\H a=some (.tup [.ref b,kv.2])/\H b=some (.tup (kv.1.map kV))
noncomputable def PrsAt (H:Hp):List V->List (List Key × V)->Prop:=Paired (PrAt H)
theorem PrsAt.mono {H H':Hp}(s:Same H H'){vs:List V}{kvs:List (List Key × V)}(hp:PrsAt H vs kvs):PrsAt H' vs kvs:=by
 induction hp with
 | nil=>exact .nil
 | cons q _ ih =>
  obtain ⟨a,b,e,h1,h2⟩:=q;exact .cons ⟨a,b,e,s _ _ h1,s _ _ h2⟩ ih
noncomputable def putsT (kvs:List (List Key × V)):List (List Key × V):=kvs.foldl (fun acc kv=>putK acc kv.1 kv.2) []
theorem KT.puts {H:Hp}{kvs:List (List Key × V)}{ks:List KQ}{acc:List (List Key × V)}{xs:List KQ}(hp:KT H kvs ks)(r:KT H acc xs):KT H (kvs.foldl (fun acc kv=>putK acc kv.1 kv.2) acc) (ks.foldl (fun acc q=>storedH acc q.1 q.2.1 q.2.2) xs):=by
 induction hp generalizing acc xs with
 | nil=>exact r
 | cons q _ ih =>
  obtain ⟨h1,h2,h3⟩:=q;rw [List.foldl_cons,List.foldl_cons];refine ih ?_;rw [<- h1];exact r.put _ h2 h3
theorem kt_keys {P:Program}{w:World}{H:Hp}{h:Heap}(ok:HOk P w H h){kvs:List (List Key × V)}{ks:List KQ}(hp:KT H kvs ks):∀ x ∈ ks,(tupleKind (mixKind P w)).is h x.1 x.2.1:=by
 induction hp with
 | nil=>exact fun x hx=>nomatch hx
 | cons q _ ih =>
  intro x hx;rcases List.mem_cons.mp hx with e | hx
  ·subst e;exact key_of ok (by rw [<- q.1]; exact q.2.1)
  ·exact ih x hx
theorem prs_raw {P:Program}{w:World}{H:Hp}{h:Heap}(ok:HOk P w H h){vs:List V}{kvs:List (List Key × V)}{its:List Value}(hp:PrsAt H vs kvs)(hv:Vals vs its):∃ ks:List KQ,KT H kvs ks/\ks.length=its.length/\(∀ (i:Nat) (v:Value),its[i]?=some v->∃ (ta:Addr) (q:KQ),v=Value.ref ta/\ks[i]?=some q/\IsTup h ta #[.ref q.2.1,q.2.2]):=by
 induction hp generalizing its with
 | nil =>
  cases hv;exact ⟨[],.nil,rfl,fun i v e=>by simp at e⟩
 | @cons x kv xs ys q _ ih =>
  obtain ⟨a,b,e,h1,h2⟩:=q;cases hv with
  | cons rv rs =>
  obtain ⟨ks,k1,k2,k3⟩:=ih rs;subst e;cases rv;obtain ⟨_,xs,r,tp⟩:=(show ObjOk P w H h a (.tup [.ref b,kv.2]) from ok a _ h1);obtain ⟨u,u2,rfl,ru,ru2⟩:=vals2 r;cases ru;refine ⟨(kv.1,b,u2) :: ks,.cons ⟨rfl,h2,ru2⟩ k1,by rw [List.length_cons,List.length_cons,k2],fun i v e=>?_⟩;cases i with
  | zero =>
   have e':Value.ref a=v:=by simpa using e
   exact ⟨a,_,e'.symm,rfl,tp⟩
  | succ i =>
   obtain ⟨ta,q,h1,h2,h3⟩:=k3 i v (by simpa using e);exact ⟨ta,q,h1,by simpa using h2,h3⟩
section
variable {X:Cx}
set_option maxHeartbeats 8000000 in
theorem call_dict_pairs (hu:X.A.units + 64 < cLine)(hh:X.A.handled=none):CallR X (.type "dict") (fun xs H Q=>∃ l us kvs,xs=[.ref l]/\H l=some (.lst us)/\PrsAt H us kvs/\∀ d,H d=none->Q (.ref d) (upd H d (.dT (putsT kvs)))):=by
 intro pins s σ H xs us' Q I r h;obtain ⟨l,us,kvs,rfl,hl,hp,q⟩:=h;obtain ⟨u,rfl,ru⟩:=vals1 r;cases ru;obtain ⟨hz,its,n,rv,e⟩:=(show ObjOk X.prog X.w H s.heap l (.lst us) from I.hok l _ hl);obtain ⟨ks,hkt,hkl,hraw⟩:=prs_raw I.hok hp rv;have big:=I.big;have hil:its.length<=sizeLine:=by
  rw [<- rv.length];exact hz
 have hks:=kt_keys I.hok hkt;refine callType_codes (Q₁:=fun obj s₁=>obj=.ref s.heap.objs.size/\s₁={ s with heap:=s.heap.push { cls:=.type "dict",data:=.dict #[] } }) PySem.F.kt_called_dict (PySem.F.kt_typeCall_dict_1 _) PySem.F.entry_dict_init (kt_code_dict_new _ ⟨rfl,rfl⟩) ?_;rintro obj s₁ ⟨rfl,rfl⟩;have hnew:(s.heap.push { cls:=.type "dict",data:=.dict #[] }).DictOfH (tupleKind (mixKind X.prog X.w)) s.heap.objs.size []:=Heap.DictOfH.new s.heap;have e1:(s.heap.push { cls:=.type "dict",data:=.dict #[] }).get? l=some { cls:=.type "list",dict:=none,data:=.seq its.toArray n,slots:=#[] }:=Heap.get?_push_of_some _ e;refine ⟨hnew.typeIs,PySem.F.args_dict_init_2 _ _,?_⟩;unfold Builtin.«dict.__init__»;refine wpAny_bind ?_;unfold Builtin.Dict.selfAndRest;refine wpAny_bind (wpAny_notOrdered_dict hnew.typeIs ?_);show wpAny _ _ (pure (s.heap.objs.size,[Value.ref l])) _ _ _;refine wpAny_pure ?_;show wpAny _ _ (Builtin.Dict.updateFrom "dict.__init__" s.heap.objs.size (.ref l) [] .none) _ _ _;unfold Builtin.Dict.updateFrom;have hT:Shared.TypeIs { s with heap:=s.heap.push { cls:=.type "dict",data:=.dict #[] } } (.ref l) "list":=⟨_,e1,rfl⟩;refine wpAny_bind (wpAny_typeOf hT ?_);rw [if_pos (by decide)];refine wpAny_bind (nk_none e1 (by simp [hh]) fun h2 t2 kp=>?_);rw [if_pos (show (none:Option Value).isNone=true from rfl)];have kp0:∀ b o',s.heap.get? b=some o'->h2.get? b=some o':=fun b o' z=>kp b o' (Heap.get?_push_of_some _ z);have hl2:h2.IsList l its.toArray:=⟨_,kp _ _ e1,rfl,n,rfl⟩;refine wpAny_bind (wpAny_rule (wpAny_bind (wpAny_pyIter_list hl2 ?_)));have hls:l < s.heap.objs.size:=Heap.lt_size e;have hDl:s.heap.objs.size < h2.objs.size:=by
  obtain ⟨o,_,_,ho,_⟩:=hnew;exact Heap.lt_size (kp _ _ ho)
 have hneI:l ≠ h2.objs.size:=Nat.ne_of_lt (Nat.lt_trans hls hDl);have hDf:s.heap.objs.size ∉ [h2.objs.size,l]:=by
  simp only [List.mem_cons,List.not_mem_nil,or_false,not_or];exact ⟨Nat.ne_of_lt hDl,Nat.ne_of_gt hls⟩
 refine wpAny_pure ⟨plainId_quiet f_plain_loop _,?_⟩;have hd2:(h2.push { cls:=.type "list_iterator",data:=.fields #[.ref l,.int 0 0] }).DictOfH (tupleKind (mixKind X.prog X.w)) s.heap.objs.size []:=by
  obtain ⟨o,es,ep,ho,h3,h4,h5,_,h6⟩:=hnew;exact ⟨o,es,ep,Heap.get?_push_of_some _ (kp _ _ ho),h3,h4,h5,(fun x hx=>nomatch hx),h6⟩
 refine pairs_loop (h0:=s.heap) ((Walks.list (by simp [hh]) h2.objs.size l hneI its.toArray).toS) s.heap.objs.size hDf (Heap.get?_none_of_le (Nat.le_refl _)) (fun b hb=>?_) ks (by rw [hkl]; simp) (by simpa using hil) (by show X.A.units + 1 + 1 < cLine; omega) hks (fun i v hv=>hraw i v (by rw [<- hv]; simp)) _ 0 _ rfl (Nat.zero_le _)
  ⟨⟨_,Heap.get?_push_size _ rfl,rfl,rfl⟩,hl2.push _⟩ (fun b o z=>Heap.get?_push_of_some _ (kp0 b o z)) hd2 ?_
 ·have e:b=h2.objs.size:=by simpa using hb
  rw [e];exact Heap.get?_none_of_le (Nat.le_of_lt hDl)
 ·intro s' hm hS';obtain ⟨h',g',d',tk',os'⟩:=s';have eg:g'=s.gens:=hm.gens;have ed:d'=s.drawn:=hm.drawn;have eo:os'=s.os:=hm.os;subst eg;subst ed;subst eo;have kp3:∀ b o',s.heap.get? b=some o'->h'.get? b=some o':=fun b o' z=>by
   have lt:=Heap.lt_size z;refine hm.heap b o' (fun hb=>?_) (Heap.get?_push_of_some _ (kp0 b o' z));rcases List.mem_cons.mp hb with e | hb
   ·exact Nat.lt_irrefl _ (e ▸ lt)
   ·have e:b=h2.objs.size:=by simpa using hb
    rw [e] at lt;exact Nat.lt_irrefl _ (Nat.lt_trans lt hDl)
  obtain ⟨o,es,ep,ho,h3,h4,h5,_,h6⟩:=hS';have hkk:KT H (putsT kvs) (putAll ks):=KT.puts hkt .nil;have hfresh:H s.heap.objs.size=none:=I.hok.fresh (Nat.le_refl _);refine ⟨rfl,.ref s.heap.objs.size,_,I.laid (a:=s.heap.objs.size) (o:=.dT (putsT kvs)) (t':=tk') kp3 (Nat.le_refl _) ⟨?_,beq_eq_false_iff_ne.mpr (Ne.symm (Nat.ne_of_lt big)),_,KT.keeps hkk fun b ys hb=>?_,o,es,ep,ho,h3,h4,h5,h6⟩,rfl,q _ hfresh⟩
  ·rw [Paired.length hkk];exact Nat.le_trans (putAll_len ks) (by rw [hkl]; exact hil)
  ·rw [upd_ne (ne_of_none hb hfresh)];exact hb
end
end L2
namespace L2
theorem u1 {A:PySem.Around}(h:A.units + 64 < PySem.cLine):A.units + 1 < PySem.cLine:=by omega
end L2
namespace L2
open PySem PySem.Spec PyProof.Rows
section
variable {K:PySem.W.Frag}{g:TG}{tc:TT}{te:TE}{Q:VK}{σ0:St}{D:Addr}
end
theorem PrsAt.into {H:Hp}(z:Addr)(o:HO){old:List V}(hz:H z=some (.lst old)):∀ {vs:List V} {kvs:List (List Key × V)},PrsAt H vs kvs->PrsAt (upd H z o) vs kvs
 | _,_,.nil=>.nil
 | _,_,.cons ⟨a,b,e,h1,h2⟩ t=>.cons ⟨a,b,e,by rw [upd_ne (ne_of h1 hz (by intro y; cases y))]; exact h1,by rw [upd_ne (ne_of h2 hz (by intro y; cases y))]; exact h2⟩ (PrsAt.into z o hz t)
theorem PrsAt.snoc {H:Hp}{vs:List V}{kvs:List (List Key × V)}{v:V}{kv:List Key × V}(h:PrsAt H vs kvs)(x:PrAt H v kv):PrsAt H (vs++[v]) (kvs++[kv]):=Paired.snoc h x
end L2
namespace L2
open PySem PySem.Spec PyProof.Rows
section
variable {X:Cx}
theorem call_str_is:CallR X (.type "str") (fun xs H Q=>∃ v z,xs=[v]/\(v=V.str z\/∃ i:Int,v=V.int i/\i.natAbs.log2 < 1920/\z=toString i)/\Q (.str z) H):=by
 intro pins s σ H xs us Q I r h;obtain ⟨v,z,rfl,h,q⟩:=h;rcases h with rfl | ⟨i,rfl,hz,rfl⟩
 ·exact call_str_str pins s σ H _ us Q I r ⟨z,rfl,q⟩
 ·exact call_str_int pins s σ H _ us Q I r ⟨i,rfl,hz,q⟩
end
end L2
namespace L2
open PySem PySem.Spec PyProof.Rows
section
variable {X:Cx}
theorem signs_vals (x:Str):∀ (acc:List Value),(∀ j v,acc[j]?=some v->SignAt x j v)->∀ (n:Nat),acc.length=n->n<=x.cps.size->Vals ((x.cps.toList.take n).map fun c=>V.str ⟨#[c]⟩) acc:=by
 intro acc h n;induction n generalizing acc with
 | zero =>
  intro hl _;have:acc=[]:=List.length_eq_zero_iff.mp hl;subst this;exact .nil
 | succ n ih =>
  intro hl hn;obtain ⟨c,u,hc,hv⟩:=h n (acc[n]'(by omega)) (List.getElem?_eq_getElem (by omega));have e1:acc=acc.take n++[acc[n]'(by omega)]:=by
   have:=List.take_append_getElem (l:=acc) (i:=n) (by omega);rw [this,<- hl,List.take_length]
  have hc':x.cps.toList[n]?=some c:=by rw [Array.getElem?_toList]; exact hc
  rw [List.take_add_one,hc',List.map_append,e1];refine Vals.append (ih (acc.take n) (fun j v hj=>?_) (by rw [List.length_take]; omega) (by omega)) (.cons ?_ .nil)
  ·have hjn:j < n:=by
    have:=(List.getElem?_eq_some_iff.mp hj).1;rw [List.length_take] at this;omega
   rw [List.getElem?_take_of_lt hjn] at hj;exact h j v hj
  ·rw [hv];exact ⟨u,rfl⟩
theorem call_list_text (hc:X.calm=true):CallR X (.type "list") (fun xs H Q=>∃ x:Str,xs=[.str x]/\x.length<=sizeLine/\∀ l,H l=none->Q (.ref l) (upd H l (.lst (x.cps.toList.map fun c=>V.str ⟨#[c]⟩)))):=by
 intro pins s σ H xs us Q I r h;obtain ⟨x,rfl,hz,q⟩:=h;obtain ⟨u,rfl,t,rfl⟩:=vals1 r;refine call_list_str (I.ok.hd hc) x t (fun h' tk acc c kp e it=>?_) hz;obtain ⟨hs,ha⟩:=it;have rv:=signs_vals x acc.toList (fun j v hj=>ha j v (by rw [<- Array.getElem?_toList]; exact hj)) x.cps.size (by rw [Array.length_toList]; exact hs) (Nat.le_refl _);rw [List.take_of_length_le (by rw [Array.length_toList]; exact Nat.le_refl _)] at rv;refine ⟨.ref s.heap.objs.size,_,I.laid (t':=tk) kp (Nat.le_refl _) (show ObjOk X.prog X.w _ h' _ (.lst (x.cps.toList.map fun c=>V.str ⟨#[c]⟩)) from ⟨?_,acc.toList,c,rv,e⟩),rfl,q _ (I.hok.fresh (Nat.le_refl _))⟩;rw [List.length_map,Array.length_toList];exact hz
end
end L2
namespace L2
open PySem PySem.Spec PyProof.Rows
section
variable {X:Cx}
theorem op_in_tup (hu:X.A.units + 64 < cLine):OpR X (compareOp .In) (fun x y H Q=>∃ d ds,Rdv X.K H x d/\Rdv X.K H y (.tuple ds)/\d.canLay0=true/\PyData.canLayAll0 ds=true/\d.depth<=60/\Q (.bl (ds.any fun z=>PyData.eqv z d)) H):=by
 intro pins s σ H x y v u Q I rx ry h;obtain ⟨d,ds,hx,hy,c1,c2,c3,q⟩:=h;obtain ⟨as,ra⟩:=hx.reads I rx;obtain ⟨bs,rb⟩:=hy.reads I ry;exact SeqAt.in_tuple_reads rb ra c2 c1 (by omega) ⟨.bl _,H,I,rfl,q⟩
end
end L2
namespace L2
open PySem PySem.Spec PyProof.Rows
section
variable {X:Cx}
theorem call_len_is:CallR X (.builtin "len") (fun xs H Q=>(∃ p ys,xs=[.ref p]/\(SqL X.K H p ys\/SqT X.K H p ys)/\Q (.int ys.length) H)\/∃ z:Str,xs=[.str z]/\z.length<=sizeLine/\Q (.int z.length) H):=by
 intro pins s σ H xs us Q I r h;rcases h with h | h
 ·exact call_len_seq pins s σ H xs us Q I r h
 ·exact call_len_str pins s σ H xs us Q I r h
theorem ix_is:IxR X (fun x y H Q=>rIxL X.K x y H Q\/rIxS x y H Q):=by
 intro value slice pins s σ H x y v u Q I rx ry h hs;rcases h with h | h
 ·exact ix_list value slice pins s σ H x y v u Q I rx ry h hs
 ·exact ix_str value slice pins s σ H x y v u Q I rx ry h hs
end
end L2
namespace L2
open PySem PySem.Spec PyProof.Rows PySem.W
namespace ST
theorem perm_map {α β:Type}(f:α->β){l l':List β}(h:l.Perm l'):∀ ks:List α,l'=ks.map f->∃ js:List α,js.Perm ks/\l=js.map f:=by
 induction h with
 | nil=>exact fun ks e=>⟨ks,List.Perm.refl _,e⟩
 | cons x h ih =>
  intro ks e;cases ks with
  | nil=>simp at e
  | cons k ks =>
   rw [List.map_cons] at e;injection e with e1 e2
   obtain ⟨js,h1,h2⟩:=ih ks e2;exact ⟨k :: js,h1.cons k,by rw [List.map_cons,e1,h2]⟩
 | swap x y l =>
  intro ks e;match ks,e with
  | [],e=>simp at e
  | [k],e=>simp at e
  | k1 :: k2 :: ks,e =>
   rw [List.map_cons,List.map_cons] at e;injection e with e1 e2
   injection e2 with e2 e3
   exact ⟨k2 :: k1 :: ks,List.Perm.swap k1 k2 ks,by rw [List.map_cons,List.map_cons,e1,e2,e3]⟩
 | trans h1 h2 ih1 ih2 =>
  intro ks e;obtain ⟨js,a,b⟩:=ih2 ks e;obtain ⟨is,c,d⟩:=ih1 js b;exact ⟨is,c.trans a,d⟩
section
variable {X:Cx}
end
end ST
end L2
namespace L2
open PySem PySem.Spec PyProof.Rows PySem.W
namespace GS
section
variable {prog:Program}{w:World}{A:Around}{E:Value->Shared->Prop}{s:Shared}{rk:Keyed->Int}{κ:SortKind}{a0:Array Keyed}
noncomputable def Rk (rk:Keyed->Int)(xs:Array Keyed)(i:Nat):Int:=match xs[i]? with
 | some p=>rk p
 | none=>0
theorem Rk_congr {xs ys:Array Keyed}{i j:Nat}(h:xs[i]?=ys[j]?):Rk rk xs i=Rk rk ys j:=by
 unfold Rk;rw [h]
noncomputable def Up (rk:Keyed->Int)(xs:Array Keyed)(lo hi:Nat):Prop:=∀ i j,lo<=i->i<=j->j < hi->Rk rk xs i<=Rk rk xs j
noncomputable def Tells (prog:Program)(w:World)(A:Around)(s:Shared)(κ:SortKind)(rk:Keyed->Int)(a0:Array Keyed):Prop :=
 ∀ x ∈ a0.toList,∀ y ∈ a0.toList,∀ C:Bool->Shared->Prop,C (decide (rk x < rk y)) s->wpAny (model prog w) A (keyLt' κ x.1 y.1) C (fun _ _=>False) s
structure Ok (κ:SortKind)(a0:Array Keyed)(st:SortSt):Prop where
 perm:(arrOf st).Perm a0
 kind:kindOf st=κ
 good:failedOf st=none
theorem Ok.size {st:SortSt}(h:Ok κ a0 st):(arrOf st).size=a0.size:=h.perm.size_eq
theorem Ok.at {st:SortSt}(h:Ok κ a0 st){i:Nat}(hi:i < a0.size):∃ x,(arrOf st)[i]?=some x/\x ∈ a0.toList/\Rk rk (arrOf st) i=rk x:=by
 have hi':i < (arrOf st).size:=by rw [h.size]; exact hi
 have e:(arrOf st)[i]?=some (arrOf st)[i]:=getElem?_pos _ i hi';refine ⟨(arrOf st)[i],e,(Array.perm_iff_toList_perm.mp h.perm).mem_iff.mp (by simp),?_⟩;unfold Rk;rw [e]
theorem s_lt {st:SortSt}{x y:Keyed}{Q:Option Bool->SortSt->Prop}(T:Tells prog w A s κ rk a0)(hk:kindOf st=κ)(hx:x ∈ a0.toList)(hy:y ∈ a0.toList)(h:Q (some (decide (rk x < rk y))) st):wpS (model prog w) A E s (lt' x y) Q st:=by
 rw [lt'_eq];refine wpS_bind (wpS_get ?_);rw [hk];refine wpS_bind (wpS_lift (wpAny_attempt (wpAny_mono (T x hx y hy (fun b s'=>s'=s/\b=decide (rk x < rk y)) ⟨rfl,rfl⟩) (fun b s' hb=>⟨hb.1,?_⟩) fun _ _ hF=>hF.elim)));rw [hb.2];exact wpS_pure h
theorem s_elem {st:SortSt}{xs:Array Keyed}{i:Nat}{x:Keyed}{Q:Keyed->SortSt->Prop}(e:xs[i]?=some x)(h:Q x st):wpS (model prog w) A E s (elem' xs i) Q st:=by
 rw [elem'_eq,e];exact wpS_pure h
theorem s_ltAt {st:SortSt}{i j:Nat}{Q:Option Bool->SortSt->Prop}(T:Tells prog w A s κ rk a0)(O:Ok κ a0 st)(hi:i < a0.size)(hj:j < a0.size)(h:Q (some (decide (Rk rk (arrOf st) i < Rk rk (arrOf st) j))) st):wpS (model prog w) A E s (ltAt' i j) Q st:=by
 obtain ⟨x,e1,m1,r1⟩:=O.at (rk:=rk) hi;obtain ⟨y,e2,m2,r2⟩:=O.at (rk:=rk) hj;rw [r1,r2] at h;rw [ltAt'_eq];refine wpS_bind (wpS_get ?_);exact wpS_bind (s_elem e1 (wpS_bind (s_elem e2 (s_lt T O.kind m1 m2 h))))
structure Step (κ:SortKind)(a0:Array Keyed)(lo:Nat)(st st':SortSt):Prop where
 ok:Ok κ a0 st'
 pend:pendingOf st'=pendingOf st
 low:∀ i:Nat,i < lo->(arrOf st')[i]?=(arrOf st)[i]?
theorem Step.refl {lo:Nat}{st:SortSt}(O:Ok κ a0 st):Step κ a0 lo st st:=⟨O,rfl,fun _ _=>rfl⟩
theorem Rk_mirror {xs:Array Keyed}{i j:Nat}(hj:j<=xs.size)(k:Nat):Rk rk (mirror xs i j ((j - i) / 2)) k=if i<=k/\k < j then Rk rk xs (i + j - 1 - k) else Rk rk xs k:=by
 have e:=getElem?_mirror_all (i:=i) hj k;by_cases h1:i<=k/\k < j
 ·rw [if_pos h1] at e ⊢;exact Rk_congr e
 ·rw [if_neg h1] at e ⊢;exact Rk_congr e
theorem Rk_mirror_same {xs:Array Keyed}{i j:Nat}(hj:j<=xs.size)(heq:∀ k,i<=k->k < j->Rk rk xs k=Rk rk xs (j - 1))(k:Nat):Rk rk (mirror xs i j ((j - i) / 2)) k=Rk rk xs k:=by
 rw [Rk_mirror hj];split
 ·rw [heq _ (by omega) (by omega),heq k (by omega) (by omega)]
 ·rfl
theorem Step.mirror {lo i j:Nat}{st st':SortSt}(x:Step κ a0 lo st st')(hi:lo<=i)(hj:j<=a0.size):Step κ a0 lo st (setArr st' (mirror (arrOf st') i j ((j - i) / 2))):=by
 refine ⟨⟨(mirror_perm _ _ _ _).trans x.ok.perm,x.ok.kind,x.ok.good⟩,x.pend,fun k hk=>?_⟩;show (PyProof.Rows.mirror (arrOf st') i j ((j - i) / 2))[k]?=_;rw [getElem?_mirror_all (by rw [x.ok.size]; exact hj),if_neg (by omega)];exact x.low k hk
theorem s_rev {st:SortSt}{i j:Nat}{Q:Unit->SortSt->Prop}(h:Q () (setArr st (mirror (arrOf st) i j ((j - i) / 2)))):wpS (model prog w) A E s (reverseSlice' i j) Q st:=by
 rw [reverseSlice'_eq];exact wpS_modify h
noncomputable def up1 (lo a nrem:Nat):StateT SortSt Sem AscSt :=
 forIn [a:nrem] ((none,a):AscSt) fun _ c=>do
  let x <- ltAt' (lo + c.snd) (lo + c.snd - 1)
  match x with
  | some b=>if b=true then pure (ForInStep.done (none,c.snd)) else pure (ForInStep.yield (none,c.snd + 1))
  | _=>pure (ForInStep.done (some none,c.snd))
noncomputable def end3 (lo n nrem:Nat):StateT SortSt Sem (Option Nat):=do
 reverseSlice' lo (lo + n)
 let c <- up1 lo n nrem
 match c.fst with
 | some r=>pure r
 | none=>pure (some c.snd)
noncomputable def down1 (lo n nrem:Nat):StateT SortSt Sem DescSt :=
 forIn [n:nrem] ((none,n,0):DescSt) fun _ c=>do
  let x <- ltAt' (lo + c.snd.fst) (lo + c.snd.fst - 1)
  match x with
  | some b =>
   if b=true then
    if c.snd.snd > 0 then do
     reverseSlice' (lo + c.snd.fst - (c.snd.snd + 1)) (lo + c.snd.fst)
     pure (ForInStep.yield (none,c.snd.fst + 1,0))
    else pure (ForInStep.yield (none,c.snd.fst + 1,0))
   else do
    let x <- ltAt' (lo + c.snd.fst - 1) (lo + c.snd.fst)
    match x with
    | some b =>
     if b=true then pure (ForInStep.done (none,c.snd.fst,c.snd.snd))
     else pure (ForInStep.yield (none,c.snd.fst + 1,c.snd.snd + 1))
    | _=>pure (ForInStep.done (some none,c.snd.fst,c.snd.snd))
  | _=>pure (ForInStep.done (some none,c.snd.fst,c.snd.snd))
noncomputable def part2 (lo n nrem:Nat):StateT SortSt Sem (Option Nat):=do
 liftM (rule "list.sort.descending-run")
 let c <- down1 lo (n + 1) nrem
 match c.fst with
 | some r=>pure r
 | none =>
  if c.snd.snd > 0 then do
   reverseSlice' (lo + c.snd.fst - (c.snd.snd + 1)) (lo + c.snd.fst)
   end3 lo c.snd.fst nrem
  else end3 lo c.snd.fst nrem
theorem run_eq (lo nrem:Nat):countRun' lo nrem=(do
  let c <- up1 lo 1 nrem
  match c.fst with
  | some r=>pure r
  | none =>
   if (c.snd == nrem)=true then pure (some c.snd)
   else if c.snd > 1 then do
    let x <- ltAt' lo (lo + c.snd - 1)
    match x with
    | some b=>if b=true then pure (some c.snd) else do
      reverseSlice' lo (lo + c.snd)
      part2 lo c.snd nrem
    | _=>pure none
   else part2 lo c.snd nrem):=by
 rw [countRun'_eq];unfold part2 end3 down1 up1;refine bind_congr fun c=>?_;obtain ⟨r,n⟩:=c;cases r with
 | some r=>rfl
 | none =>
  dsimp only;split
  ·rfl
  ·split
   ·refine bind_congr fun x=>?_;cases x with
    | none=>rfl
    | some b =>
     dsimp only;split
     ·rfl
     ·refine bind_congr fun _=>bind_congr fun _=>bind_congr fun c2=>?_;obtain ⟨r2,n2,q2⟩:=c2;cases r2 with
      | some r2=>rfl
      | none =>
       dsimp only;split
       ·refine bind_congr fun _=>bind_congr fun _=>bind_congr fun c3=>?_;obtain ⟨r3,n3⟩:=c3;cases r3 <;> rfl
       ·refine bind_congr fun _=>bind_congr fun c3=>?_;obtain ⟨r3,n3⟩:=c3;cases r3 <;> rfl
   ·refine bind_congr fun _=>bind_congr fun c2=>?_;obtain ⟨r2,n2,q2⟩:=c2;cases r2 with
    | some r2=>rfl
    | none =>
     dsimp only;split
     ·refine bind_congr fun _=>bind_congr fun _=>bind_congr fun c3=>?_;obtain ⟨r3,n3⟩:=c3;cases r3 <;> rfl
     ·refine bind_congr fun _=>bind_congr fun c3=>?_;obtain ⟨r3,n3⟩:=c3;cases r3 <;> rfl
end
end GS
end L2
namespace L2
open PySem PySem.Spec PyProof.Rows PySem.W
namespace GS
section
variable {prog:Program}{w:World}{A:Around}{E:Value->Shared->Prop}{s:Shared}{rk:Keyed->Int}{κ:SortKind}{a0:Array Keyed}
noncomputable def Down (rk:Keyed->Int)(xs:Array Keyed)(lo n:Nat):Prop:=∀ i j,i<=j->j < n->Rk rk xs (lo + j)<=Rk rk xs (lo + i)
theorem s_up1 {st:SortSt}{lo a nrem:Nat}{Q:AscSt->SortSt->Prop}(T:Tells prog w A s κ rk a0)(O:Ok κ a0 st)(hn:lo + nrem<=a0.size)(ha:1<=a)(han:a<=nrem)(hs:Up rk (arrOf st) lo (lo + a))
  (h:∀ n,a<=n->n<=nrem->Up rk (arrOf st) lo (lo + n)->(n=nrem\/Rk rk (arrOf st) (lo + n) < Rk rk (arrOf st) (lo + n - 1))->Q (none,n) st):wpS (model prog w) A E s (up1 lo a nrem) Q st:=by
 unfold up1;refine wpS_forRange (I:=fun x c st'=>st'=st/\c=(none,x)/\Up rk (arrOf st) lo (lo + x)) ?step ?fin ⟨rfl,rfl,hs⟩
 case fin =>
  rintro c st' ⟨rfl,rfl,hs'⟩
  rw [show max a nrem=nrem by omega] at hs' ⊢
  exact h nrem han (Nat.le_refl _) hs' (.inl rfl)
 case step =>
  rintro x c st' hax hxn ⟨rfl,rfl,hs'⟩
  dsimp only
  refine wpS_bind (s_ltAt T O (by omega) (by omega) ?_)
  by_cases hless:Rk rk (arrOf st') (lo + x) < Rk rk (arrOf st') (lo + x - 1)
  ·simp only [hless,decide_true,if_true];exact wpS_pure (h x hax (by omega) hs' (.inr hless))
  ·simp only [hless,decide_false,Bool.false_eq_true,if_false];refine wpS_pure ⟨rfl,rfl,fun i j hi hij hj=>?_⟩;by_cases hjx:j < lo + x
   ·exact hs' i j hi hij hjx
   ·obtain rfl:j=lo + x:=by omega
    by_cases hi':i=lo + x
    ·subst hi';exact Int.le_refl _
    ·exact Int.le_trans (hs' i (lo + x - 1) hi (by omega) (by omega)) (Int.not_lt.mp hless)
theorem s_end3 {st0 st:SortSt}{lo n nrem:Nat}{Q:Option Nat->SortSt->Prop}(T:Tells prog w A s κ rk a0)(S:Step κ a0 lo st0 st)(hn:lo + nrem<=a0.size)(h1:1<=n)(hnn:n<=nrem)(hs:Down rk (arrOf st) lo n)
  (h:∀ m st',Step κ a0 lo st0 st'->1<=m->m<=nrem->Up rk (arrOf st') lo (lo + m)->Q (some m) st'):wpS (model prog w) A E s (end3 lo n nrem) Q st:=by
 unfold end3;refine wpS_bind (s_rev ?_);have S':=S.mirror (i:=lo) (j:=lo + n) (Nat.le_refl _) (by omega);refine wpS_bind (s_up1 T S'.ok hn h1 hnn ?_ fun m hm1 hm2 hsm _=>wpS_pure (h m _ S' (by omega) hm2 hsm));intro i j hi hij hj;have hsz:lo + n<=(arrOf st).size:=by
  rw [S.ok.size];omega
 show Rk rk (mirror (arrOf st) lo (lo + n) ((lo + n - lo) / 2)) i<=Rk rk (mirror (arrOf st) lo (lo + n) ((lo + n - lo) / 2)) j;rw [Rk_mirror hsz,Rk_mirror hsz,if_pos (by omega),if_pos (by omega)];have:=hs (lo + n - 1 - j) (lo + n - 1 - i) (by omega) (by omega);rw [show lo + (lo + n - 1 - j)=lo + (lo + n) - 1 - j by omega,show lo + (lo + n - 1 - i)=lo + (lo + n) - 1 - i by omega] at this;exact this
theorem s_down1 {st0 st:SortSt}{lo n nrem:Nat}{Q:DescSt->SortSt->Prop}(T:Tells prog w A s κ rk a0)(S:Step κ a0 lo st0 st)(hn:lo + nrem<=a0.size)(h1:1<=n)(hnn:n<=nrem)(hs:Down rk (arrOf st) lo n)
  (h:∀ m q st',Step κ a0 lo st0 st'->n<=m->m<=nrem->Down rk (arrOf st') lo m->q + 1<=m->(∀ i,m - (q + 1)<=i->i < m->Rk rk (arrOf st') (lo + i)=Rk rk (arrOf st') (lo + (m - 1)))->Q (none,m,q) st'):wpS (model prog w) A E s (down1 lo n nrem) Q st:=by
 unfold down1;refine wpS_forRange (I:=fun x c st'=>∃ q,c=(none,x,q)/\Step κ a0 lo st0 st'/\Down rk (arrOf st') lo x/\q + 1<=x /\
   (∀ i,x - (q + 1)<=i->i < x->Rk rk (arrOf st') (lo + i)=Rk rk (arrOf st') (lo + (x - 1)))) ?step ?fin ⟨0,rfl,S,hs,by omega,fun i h1 h2=>by congr 1; omega⟩
 case fin =>
  rintro c st' ⟨q,rfl,S',hs',hq,he⟩
  rw [show max n nrem=nrem by omega] at hs' hq he ⊢
  exact h nrem q st' S' hnn (Nat.le_refl _) hs' hq he
 case step =>
  rintro x c st' hax hxn ⟨q,rfl,S',hs',hq,he⟩
  dsimp only
  have hsz:lo + x<=(arrOf st').size:=by
   rw [S'.ok.size];omega
  refine wpS_bind (s_ltAt T S'.ok (by omega) (by omega) ?_)
  by_cases hless:Rk rk (arrOf st') (lo + x) < Rk rk (arrOf st') (lo + x - 1)
  ·simp only [hless,decide_true,if_true];have step1:∀ xs:Array Keyed,(∀ k,Rk rk xs k=Rk rk (arrOf st') k)->Down rk xs lo (x + 1):=by
    intro xs hk i j hij hj;rw [hk,hk];by_cases hjx:j < x
    ·exact hs' i j hij hjx
    ·obtain rfl:j=x:=by omega
     by_cases hi':i=j
     ·subst hi';exact Int.le_refl _
     ·have a1:=hs' i (j - 1) (by omega) (by omega);rw [show lo + (j - 1)=lo + j - 1 by omega] at a1;exact Int.le_trans (Int.le_of_lt hless) a1
   by_cases hq0:q > 0
   ·rw [if_pos hq0];refine wpS_bind (s_rev (wpS_pure ⟨0,rfl,S'.mirror (by omega) (by omega),step1 _ (Rk_mirror_same hsz fun k k1 k2=>?_),by omega,fun i h1 h2=>by congr 1; omega⟩));have a1:=he (k - lo) (by omega) (by omega);rw [show lo + (k - lo)=k by omega,show lo + (x - 1)=lo + x - 1 by omega] at a1;exact a1
   ·rw [if_neg hq0];exact wpS_pure ⟨0,rfl,S',step1 _ (fun _=>rfl),by omega,fun i h1 h2=>by congr 1; omega⟩
  ·simp only [hless,decide_false,Bool.false_eq_true,if_false];refine wpS_bind (s_ltAt T S'.ok (by omega) (by omega) ?_);by_cases hmore:Rk rk (arrOf st') (lo + x - 1) < Rk rk (arrOf st') (lo + x)
   ·simp only [hmore,decide_true,if_true];exact wpS_pure (h x q st' S' hax (by omega) hs' hq he)
   ·simp only [hmore,decide_false,Bool.false_eq_true,if_false];have heqx:Rk rk (arrOf st') (lo + x)=Rk rk (arrOf st') (lo + (x - 1)):=by
     rw [show lo + (x - 1)=lo + x - 1 by omega];omega
    refine wpS_pure ⟨q + 1,rfl,S',fun i j hij hj=>?_,by omega,fun i h1 h2=>?_⟩
    ·by_cases hjx:j < x
     ·exact hs' i j hij hjx
     ·obtain rfl:j=x:=by omega
      by_cases hi':i=j
      ·subst hi';exact Int.le_refl _
      ·rw [heqx];exact hs' i (j - 1) (by omega) (by omega)
    ·rw [show x + 1 - 1=x by omega];by_cases hix:i=x
     ·subst hix;rfl
     ·rw [heqx];exact he i (by omega) (by omega)
theorem s_part2 {st0 st:SortSt}{lo n nrem:Nat}{Q:Option Nat->SortSt->Prop}(T:Tells prog w A s κ rk a0)(S:Step κ a0 lo st0 st)(hn:lo + nrem<=a0.size)(hnn:n + 1<=nrem)(hs:Down rk (arrOf st) lo (n + 1))
  (h:∀ m st',Step κ a0 lo st0 st'->1<=m->m<=nrem->Up rk (arrOf st') lo (lo + m)->Q (some m) st'):wpS (model prog w) A E s (part2 lo n nrem) Q st:=by
 unfold part2;refine wpS_bind (wpS_lift (wpAny_rule ⟨rfl,?_⟩));refine wpS_bind (s_down1 T S hn (by omega) hnn hs fun m q st' S' hm1 hm2 hs' hq he=>?_);dsimp only;have hsz:lo + m<=(arrOf st').size:=by
  rw [S'.ok.size];omega
 by_cases hq0:q > 0
 ·rw [if_pos hq0];refine wpS_bind (s_rev (s_end3 T (S'.mirror (by omega) (by omega)) hn (by omega) hm2 ?_ h));intro i j hij hj;show Rk rk (mirror (arrOf st') _ _ _) (lo + j)<=Rk rk (mirror (arrOf st') _ _ _) (lo + i);have same:∀ k,lo + m - (q + 1)<=k->k < lo + m->Rk rk (arrOf st') k=Rk rk (arrOf st') (lo + m - 1):=fun k k1 k2=>by
   have a1:=he (k - lo) (by omega) (by omega);rw [show lo + (k - lo)=k by omega,show lo + (m - 1)=lo + m - 1 by omega] at a1;exact a1
  rw [Rk_mirror_same hsz same,Rk_mirror_same hsz same];exact hs' i j hij hj
 ·rw [if_neg hq0];exact s_end3 T S' hn (by omega) hm2 hs' h
theorem s_run {st:SortSt}{lo nrem:Nat}{Q:Option Nat->SortSt->Prop}(T:Tells prog w A s κ rk a0)(O:Ok κ a0 st)(hn:lo + nrem<=a0.size)(h1:1<=nrem)
  (h:∀ m st',Step κ a0 lo st st'->1<=m->m<=nrem->Up rk (arrOf st') lo (lo + m)->Q (some m) st'):wpS (model prog w) A E s (countRun' lo nrem) Q st:=by
 have S:=Step.refl (lo:=lo) O;rw [run_eq];refine wpS_bind (s_up1 T O hn (Nat.le_refl 1) h1 (fun i j hi hij hj=>by
  obtain rfl:i=j:=by omega
  exact Int.le_refl _) fun n hn1 hn2 hsn hor=>?_)
 dsimp only;by_cases hnn:n=nrem
 ·rw [if_pos (by simpa using hnn)];exact wpS_pure (h n st S hn1 hn2 hsn)
 ·rw [if_neg (by simpa using hnn)];have hlt:Rk rk (arrOf st) (lo + n) < Rk rk (arrOf st) (lo + n - 1):=hor.resolve_left hnn;have hsz:lo + n<=(arrOf st).size:=by
   rw [O.size];omega
  by_cases hgt:n > 1
  ·rw [if_pos hgt];refine wpS_bind (s_ltAt T O (by omega) (by omega) ?_);by_cases hrose:Rk rk (arrOf st) lo < Rk rk (arrOf st) (lo + n - 1)
   ·simp only [hrose,decide_true,if_true];exact wpS_pure (h n st S hn1 hn2 hsn)
   ·simp only [hrose,decide_false,Bool.false_eq_true,if_false];have hall:∀ k,lo<=k->k < lo + n->Rk rk (arrOf st) k=Rk rk (arrOf st) (lo + n - 1):=by
     intro k k1 k2;have a1:=hsn lo k (Nat.le_refl _) k1 k2;have a2:=hsn k (lo + n - 1) k1 (by omega) (by omega);omega
    refine wpS_bind (s_rev (s_part2 T (S.mirror (Nat.le_refl _) (by omega)) hn (by omega) ?_ h));intro i j hij hj;show Rk rk (mirror (arrOf st) _ _ _) (lo + j)<=Rk rk (mirror (arrOf st) _ _ _) (lo + i);rw [Rk_mirror_same hsz hall,Rk_mirror_same hsz hall];by_cases hjn:j < n
    ·rw [hall (lo + i) (by omega) (by omega),hall (lo + j) (by omega) (by omega)];exact Int.le_refl _
    ·obtain rfl:j=n:=by omega
     by_cases hi':i=j
     ·subst hi';exact Int.le_refl _
     ·rw [hall (lo + i) (by omega) (by omega)];exact Int.le_of_lt hlt
  ·rw [if_neg hgt];obtain rfl:n=1:=by omega
   refine s_part2 T S hn (by omega) ?_ h;intro i j hij hj;by_cases hi':i=j
   ·subst hi';exact Int.le_refl _
   ·obtain rfl:i=0:=by omega
    obtain rfl:j=1:=by omega
    rw [Nat.add_sub_cancel] at hlt;exact Int.le_of_lt hlt
theorem Rk_bubble {xs:Array Keyed}{src d:Nat}(hs:src < xs.size)(hd:d<=src)(k:Nat):Rk rk (bubble xs src d) k=if k=src - d then Rk rk xs src else if src - d < k/\k<=src then Rk rk xs (k - 1) else Rk rk xs k:=by
 have e:=getElem?_bubble hs d hd k;by_cases h1:k=src - d
 ·rw [if_pos h1] at e ⊢;exact Rk_congr e
 ·rw [if_neg h1] at e ⊢;by_cases h2:src - d < k/\k<=src
  ·rw [if_pos h2] at e ⊢;exact Rk_congr e
  ·rw [if_neg h2] at e ⊢;exact Rk_congr e
theorem s_bin {st:SortSt}{lo n ok:Nat}{Q:Bool->SortSt->Prop}(T:Tells prog w A s κ rk a0)(O:Ok κ a0 st)(hn:lo + n<=a0.size)(hok:ok<=n)(hs:Up rk (arrOf st) lo (lo + ok))
  (h:∀ st',Step κ a0 lo st st'->Up rk (arrOf st') lo (lo + n)->Q true st'):wpS (model prog w) A E s (binarySort' lo n ok) Q st:=by
 rw [binarySort'_eq];refine wpS_bind (wpS_mono (wpS_forRange (I:=fun k c st'=>c=(none,())/\Step κ a0 lo st st'/\Up rk (arrOf st') lo (lo + min k n))
  (Q:=fun c st'=>c=(none,())/\Step κ a0 lo st st'/\Up rk (arrOf st') lo (lo + n)) ?step ?fin ?init) ?post)
 case post =>
  rintro c st' ⟨rfl,S',hs'⟩
  exact wpS_pure (h st' S' hs')
 case init =>
  refine ⟨rfl,Step.refl O,fun i j hi hij hj=>?_⟩
  by_cases h1:ok=0
  ·obtain rfl:i=j:=by omega
   exact Int.le_refl _
  ·exact hs i j hi hij (by omega)
 case fin =>
  rintro c st' ⟨hc,S',hs'⟩
  refine ⟨hc,S',?_⟩
  rwa [show min (max (max ok 1) n) n=n by omega] at hs'
 case step =>
  rintro k c st' hak hkn ⟨rfl,S',hs'⟩
  rw [show min k n=k by omega] at hs'
  have O':=S'.ok
  have hk:lo + k < a0.size:=by omega
  refine wpS_bind (wpS_mono (wpS_forRange (I:=fun x c st''=>st''=st'/\∃ l r,c=(none,l,r)/\l<=r/\r<=k/\r - l<=k - x /\
    (∀ i,i < l->Rk rk (arrOf st') (lo + i)<=Rk rk (arrOf st') (lo + k))/\(∀ i,r<=i->i < k->Rk rk (arrOf st') (lo + k) < Rk rk (arrOf st') (lo + i)))
   (Q:=fun c st''=>st''=st'/\∃ l r,c=(none,l,r)/\l<=k /\
    (∀ i,i < l->Rk rk (arrOf st') (lo + i)<=Rk rk (arrOf st') (lo + k))/\(∀ i,l<=i->i < k->Rk rk (arrOf st') (lo + k) < Rk rk (arrOf st') (lo + i))) ?istep ?ifin ?iinit) ?ipost)
  case iinit=>exact ⟨rfl,0,k,rfl,by omega,by omega,by omega,fun i hi=>by omega,fun i h1 h2=>by omega⟩
  case ifin =>
   rintro c st'' ⟨rfl,l,r,rfl,hlr,hrk,hm,hlo,hhi⟩
   obtain rfl:l=r:=by omega
   exact ⟨rfl,l,l,rfl,hrk,hlo,hhi⟩
  case istep =>
   rintro x c st'' _ hxk ⟨rfl,l,r,rfl,hlr,hrk,hm,hlo,hhi⟩
   dsimp only
   by_cases hge:l >= r
   ·rw [if_pos hge];obtain rfl:l=r:=by omega
    exact wpS_pure ⟨rfl,l,l,rfl,hrk,hlo,hhi⟩
   ·rw [if_neg hge];refine wpS_bind (s_ltAt T O' hk (by omega) ?_);by_cases hless:Rk rk (arrOf st'') (lo + k) < Rk rk (arrOf st'') (lo + (l + r) / 2)
    ·simp only [hless,decide_true,if_true];refine wpS_pure ⟨rfl,l,(l + r) / 2,rfl,by omega,by omega,by omega,hlo,fun i h1 h2=>?_⟩;exact Int.lt_of_lt_of_le hless (hs' _ _ (by omega) (by omega) (by omega))
    ·simp only [hless,decide_false,Bool.false_eq_true,if_false];refine wpS_pure ⟨rfl,(l + r) / 2 + 1,r,rfl,by omega,by omega,by omega,fun i h1=>?_,hhi⟩;exact Int.le_trans (hs' (lo + i) (lo + (l + r) / 2) (by omega) (by omega) (by omega)) (Int.not_lt.mp hless)
  case ipost =>
   rintro c st'' ⟨rfl,l,r,rfl,hlk,hlo,hhi⟩
   show wpS _ _ _ _ (do moveDown' (lo + k) (lo + l); pure (ForInStep.yield (none,()))) _ _
   rw [moveDown'_eq]
   have hks:lo + k < (arrOf st'').size:=by
    rw [O'.size];exact hk
   refine wpS_bind (wpS_modify (wpS_pure ⟨rfl,⟨⟨(bubble_perm _ _ _).trans O'.perm,O'.kind,O'.good⟩,S'.pend,fun i hi=>?_⟩,?_⟩))
   ·show (bubble (arrOf st'') (lo + k) (lo + k - (lo + l)))[i]?=_;rw [getElem?_bubble hks _ (by omega),if_neg (by omega),if_neg (by omega)];exact S'.low i hi
   ·rw [show min (k + 1) n=k + 1 by omega];intro i j hi hij hj;show Rk rk (bubble (arrOf st'') (lo + k) (lo + k - (lo + l))) i<=Rk rk (bubble (arrOf st'') (lo + k) (lo + k - (lo + l))) j;rw [Rk_bubble hks (by omega),Rk_bubble hks (by omega),show lo + k - (lo + k - (lo + l))=lo + l by omega];have up:∀ a b,lo<=a->a<=b->b < lo + k->Rk rk (arrOf st'') a<=Rk rk (arrOf st'') b:=hs';have low:∀ a,lo<=a->a < lo + l->Rk rk (arrOf st'') a<=Rk rk (arrOf st'') (lo + k):=fun a a1 a2=>by
     have:=hlo (a - lo) (by omega);rwa [show lo + (a - lo)=a by omega] at this
    have high:∀ a,lo + l<=a->a < lo + k->Rk rk (arrOf st'') (lo + k) < Rk rk (arrOf st'') a:=fun a a1 a2=>by
     have:=hhi (a - lo) (by omega) (by omega);rwa [show lo + (a - lo)=a by omega] at this
    repeat' split
    all_goals first
     | (exfalso; omega)
     | exact Int.le_refl _
     | exact low _ (by omega) (by omega)
     | exact Int.le_of_lt (high _ (by omega) (by omega))
     | exact up _ _ (by omega) (by omega) (by omega)
end
end GS
end L2
namespace L2
open PySem PySem.Spec PyProof.Rows PySem.W
namespace GS
noncomputable def gallop':Bool->Keyed->Array Keyed->Nat->Nat->Nat->StateT SortSt Sem (Option Nat):=sortPriv% PySem.Builtin.gallop
noncomputable def mergeLo':Array Keyed->Array Keyed->StateT SortSt Sem (Array Keyed):=sortPriv% PySem.Builtin.mergeLo
noncomputable def mergeHi':Array Keyed->Array Keyed->StateT SortSt Sem (Array Keyed):=sortPriv% PySem.Builtin.mergeHi
section
variable {prog:Program}{w:World}{A:Around}{E:Value->Shared->Prop}{s:Shared}{rk:Keyed->Int}{κ:SortKind}{a0:Array Keyed}
noncomputable def bey (rk:Keyed->Int)(left:Bool)(key x:Keyed):Bool:=if left then decide (rk x < rk key) else !decide (rk key < rk x)
theorem s_gallop {st:SortSt}{left:Bool}{key:Keyed}{arr:Array Keyed}{base n hint:Nat}{Q:Option Nat->SortSt->Prop}(T:Tells prog w A s κ rk a0)(hk:kindOf st=κ)(hkey:key ∈ a0.toList)(b:Nat->Bool)
  (he:∀ i,i < n->∃ x,arr[base + i]?=some x/\x ∈ a0.toList/\b i=bey rk left key x) (mono:∀ i j,i<=j->j < n->b j=true->b i=true) (hh:hint < n)
  (h:∀ k,k<=n->(∀ i,i < k->b i=true)->(∀ i,k<=i->i < n->b i=false)->Q (some k) st):wpS (model prog w) A E s (gallop' left key arr base n hint) Q st:=by
 have one:∀ {i:Nat} {Q':Option Bool->SortSt->Prop},i < n->Q' (some (b i)) st->wpS (model prog w) A E s (do
   let x <- elem' arr (base + i)
   if left=true then lt' x key
    else do
     let r <- lt' key x
     pure (Option.map (fun x=>!x) r)) Q' st:=by
  intro i Q' hi hq;obtain ⟨x,e1,e2,e3⟩:=he i hi;refine wpS_bind (s_elem e1 ?_);unfold bey at e3;cases left with
  | true =>
   rw [if_pos rfl] at e3 ⊢;rw [e3] at hq;exact s_lt T hk e2 hkey hq
  | false =>
   rw [if_neg Bool.false_ne_true] at e3 ⊢;rw [e3] at hq;exact wpS_bind (s_lt T hk hkey e2 (wpS_pure hq))
 have last:∀ {f:Nat->Option (Option Nat) × Nat × Nat->StateT SortSt Sem (ForInStep (Option (Option Nat) × Nat × Nat))} {g:Option (Option Nat) × Nat × Nat->StateT SortSt Sem (Option Nat)},
   (∀ x l r (R:ForInStep (Option (Option Nat) × Nat × Nat)->SortSt->Prop),l >= r->R (.done (none,l,r)) st->wpS (model prog w) A E s (f x (none,l,r)) R st) ->
   (∀ x l r (R:ForInStep (Option (Option Nat) × Nat × Nat)->SortSt->Prop),l < r->r<=n->R (.yield (if b (l + (r - l) / 2)=true then (none,l + (r - l) / 2 + 1,r) else (none,l,l + (r - l) / 2))) st->wpS (model prog w) A E s (f x (none,l,r)) R st) ->
   (∀ l r,Q (some r) st->wpS (model prog w) A E s (g (none,l,r)) Q st) ->
   ∀ (lo hi:Nat),lo<=hi->hi<=n->(∀ i,i < lo->b i=true)->(∀ i,hi<=i->i < n->b i=false)->wpS (model prog w) A E s (forIn [:n] ((none,lo,hi):Option (Option Nat) × Nat × Nat) f >>= g) Q st:=by
  intro f g f1 f2 g1 lo hi h1 h2 h3 h4;refine wpS_bind (wpS_mono (wpS_forRange (I:=fun x c st'=>st'=st/\∃ l r,c=(none,l,r)/\l<=r/\r<=n/\r - l<=n - x/\(∀ i,i < l->b i=true)/\(∀ i,r<=i->i < n->b i=false))
   (Q:=fun c st'=>st'=st/\∃ l,c=(none,l,l)/\l<=n/\(∀ i,i < l->b i=true)/\(∀ i,l<=i->i < n->b i=false)) ?step ?fin ⟨rfl,lo,hi,rfl,h1,h2,by omega,h3,h4⟩) ?post)
  case fin =>
   rintro c st' ⟨rfl,l,r,rfl,a1,a2,a3,a4,a5⟩
   obtain rfl:l=r:=by omega
   exact ⟨rfl,l,rfl,a2,a4,a5⟩
  case post =>
   rintro c st' ⟨rfl,l,rfl,a2,a4,a5⟩
   exact g1 l l (h l a2 a4 a5)
  case step =>
   rintro x c st' _ hx ⟨rfl,l,r,rfl,a1,a2,a3,a4,a5⟩
   by_cases hge:l >= r
   ·obtain rfl:l=r:=by omega
    exact f1 x l l _ hge ⟨rfl,l,rfl,a2,a4,a5⟩
   ·refine f2 x l r _ (by omega) a2 ?_;cases hb:b (l + (r - l) / 2) with
    | true =>
     rw [if_pos rfl];exact ⟨rfl,l + (r - l) / 2 + 1,r,rfl,by omega,a2,by omega,fun i hi=>mono i _ (by omega) (by omega) hb,a5⟩
    | false =>
     rw [if_neg Bool.false_ne_true];refine ⟨rfl,l,l + (r - l) / 2,rfl,by omega,by omega,by omega,a4,fun i i1 i2=>?_⟩;cases hbi:b i with
     | false=>rfl
     | true =>
      have:=mono _ i i1 i2 hbi;rw [hb] at this;cases this
 refine wpS_bind (one hh ?_);dsimp only;cases hb:b hint with
 | true =>
  rw [if_pos rfl];refine wpS_bind (wpS_mono (wpS_forRange (I:=fun x c st'=>st'=st/\∃ l o,c=(none,l,o)/\l < o/\hint + l < n/\b (hint + l)=true/\x + 1<=o)
   (Q:=fun c st'=>st'=st/\∃ l o,c=(none,l,o)/\l < o/\hint + l < n/\b (hint + l)=true/\(o >= n - hint\/(hint + o < n/\b (hint + o)=false))) ?step ?fin ⟨rfl,0,1,rfl,by omega,hh,hb,by omega⟩) ?post)
  case fin =>
   rintro c st' ⟨rfl,l,o,rfl,a1,a2,a3,a4⟩
   exact ⟨rfl,l,o,rfl,a1,a2,a3,.inl (by omega)⟩
  case step =>
   rintro x c st' _ hx ⟨rfl,l,o,rfl,a1,a2,a3,a4⟩
   dsimp only
   by_cases hge:o >= n - hint
   ·rw [if_pos hge];exact wpS_pure ⟨rfl,l,o,rfl,a1,a2,a3,.inl hge⟩
   ·rw [if_neg hge];refine wpS_bind (one (by omega) ?_);dsimp only;cases hbo:b (hint + o) with
    | false =>
     rw [if_pos (by decide)];exact wpS_pure ⟨rfl,l,o,rfl,a1,a2,a3,.inr ⟨by omega,hbo⟩⟩
    | true =>
     rw [if_neg (by decide)];exact wpS_pure ⟨rfl,o,2 * o + 1,rfl,by omega,by omega,hbo,by omega⟩
  case post =>
   rintro c st' ⟨rfl,l,o,rfl,a1,a2,a3,a4⟩
   refine last (fun x l r R hge hR=>?_) (fun x l r R hlt hr hR=>?_) (fun l r hq=>wpS_pure hq) (hint + l + 1) (hint + min o (n - hint)) (by omega) (by omega) (fun i hi=>mono i (hint + l) (by omega) a2 a3) fun i i1 i2=>?_
   ·dsimp only;rw [if_pos hge];exact wpS_pure hR
   ·dsimp only;rw [if_neg (by omega)];refine wpS_bind (one (by omega) ?_);dsimp only;cases hbm:b (l + (r - l) / 2) with
    | true =>
     rw [hbm,if_pos rfl] at hR;rw [if_pos rfl];exact wpS_pure hR
    | false =>
     rw [hbm,if_neg Bool.false_ne_true] at hR;rw [if_neg Bool.false_ne_true];exact wpS_pure hR
   ·rcases a4 with a4 | ⟨a4,a5⟩
    ·omega
    ·cases hbi:b i with
     | false=>rfl
     | true =>
      have:=mono _ i (show hint + o<=i by omega) i2 hbi;rw [a5] at this;cases this
 | false =>
  rw [if_neg Bool.false_ne_true];refine wpS_bind (wpS_mono (wpS_forRange (I:=fun x c st'=>st'=st/\∃ l o,c=(none,l,o)/\l < o/\l<=hint/\b (hint - l)=false/\x + 1<=o)
   (Q:=fun c st'=>st'=st/\∃ l o,c=(none,l,o)/\l < o/\l<=hint/\b (hint - l)=false/\(o >= hint + 1\/(o<=hint/\b (hint - o)=true))) ?step ?fin ⟨rfl,0,1,rfl,by omega,by omega,hb,by omega⟩) ?post)
  case fin =>
   rintro c st' ⟨rfl,l,o,rfl,a1,a2,a3,a4⟩
   exact ⟨rfl,l,o,rfl,a1,a2,a3,.inl (by omega)⟩
  case step =>
   rintro x c st' _ hx ⟨rfl,l,o,rfl,a1,a2,a3,a4⟩
   dsimp only
   by_cases hge:o >= hint + 1
   ·rw [if_pos hge];exact wpS_pure ⟨rfl,l,o,rfl,a1,a2,a3,.inl hge⟩
   ·rw [if_neg hge];refine wpS_bind (one (by omega) ?_);dsimp only;cases hbo:b (hint - o) with
    | true =>
     rw [if_pos rfl];exact wpS_pure ⟨rfl,l,o,rfl,a1,a2,a3,.inr ⟨by omega,hbo⟩⟩
    | false =>
     rw [if_neg (by decide)];exact wpS_pure ⟨rfl,o,2 * o + 1,rfl,by omega,by omega,hbo,by omega⟩
  case post =>
   rintro c st' ⟨rfl,l,o,rfl,a1,a2,a3,a4⟩
   refine last (fun x l r R hge hR=>?_) (fun x l r R hlt hr hR=>?_) (fun l r hq=>wpS_pure hq) (hint + 1 - min o (hint + 1)) (hint - l) (by omega) (by omega) (fun i hi=>?_) fun i i1 i2=>?_
   ·dsimp only;rw [if_pos hge];exact wpS_pure hR
   ·dsimp only;rw [if_neg (by omega)];refine wpS_bind (one (by omega) ?_);dsimp only;cases hbm:b (l + (r - l) / 2) with
    | true =>
     rw [hbm,if_pos rfl] at hR;rw [if_pos rfl];exact wpS_pure hR
    | false =>
     rw [hbm,if_neg Bool.false_ne_true] at hR;rw [if_neg Bool.false_ne_true];exact wpS_pure hR
   ·rcases a4 with a4 | ⟨a4,a5⟩
    ·omega
    ·exact mono i (hint - o) (by omega) (by omega) a5
   ·cases hbi:b i with
    | false=>rfl
    | true =>
     have:=mono _ i i1 i2 hbi;rw [a3] at this;cases this
end
end GS
end L2
namespace L2
open PySem PySem.Spec PyProof.Rows PySem.W
namespace GS
structure MI (rk:Keyed->Int)(aL bL:List Keyed)(ia ib:Nat)(oL:List Keyed):Prop where
 perm:oL.Perm (aL.take ia++bL.take ib)
 srt:oL.Pairwise fun x y=>rk x<=rk y
 la:∀ x ∈ oL,∀ y ∈ aL.drop ia,rk x<=rk y
 lb:∀ x ∈ oL,∀ y ∈ bL.drop ib,rk x<=rk y
section
variable {rk:Keyed->Int}{aL bL oL:List Keyed}{ia ib:Nat}
theorem MI.swap (M:MI rk aL bL ia ib oL):MI rk bL aL ib ia oL:=⟨M.perm.trans List.perm_append_comm,M.srt,M.lb,M.la⟩
theorem take_more (l:List Keyed)(i k:Nat):l.take (i + k)=l.take i++(l.drop i).take k:=by
 rw [List.take_add]
theorem MI.takeA (M:MI rk aL bL ia ib oL)(sa:aL.Pairwise fun x y=>rk x<=rk y)(k:Nat)(h:∀ x ∈ (aL.drop ia).take k,∀ y ∈ bL.drop ib,rk x<=rk y):MI rk aL bL (ia + k) ib (oL++(aL.drop ia).take k):=by
 have sd:(aL.drop ia).Pairwise fun x y=>rk x<=rk y:=sa.sublist (List.drop_sublist _ _);have e2:(aL.drop ia).drop k=aL.drop (ia + k):=List.drop_drop;refine ⟨?_,?_,fun x hx y hy=>?_,fun x hx y hy=>?_⟩
 ·rw [take_more,List.append_assoc];refine (M.perm.append_right _).trans ?_;rw [List.append_assoc];exact List.Perm.append_left _ List.perm_append_comm
 ·rw [List.pairwise_append];exact ⟨M.srt,sd.sublist (List.take_sublist _ _),fun x hx y hy=>M.la x hx y (List.mem_of_mem_take hy)⟩
 ·rw [<- e2] at hy;rcases List.mem_append.mp hx with hx | hx
  ·exact M.la x hx y (List.mem_of_mem_drop hy)
  ·have:=sd;rw [<- List.take_append_drop k (aL.drop ia),List.pairwise_append] at this;exact this.2.2 x hx y hy
 ·rcases List.mem_append.mp hx with hx | hx
  ·exact M.lb x hx y hy
  ·exact h x hx y hy
theorem MI.takeB (M:MI rk aL bL ia ib oL)(sb:bL.Pairwise fun x y=>rk x<=rk y)(k:Nat)(h:∀ x ∈ (bL.drop ib).take k,∀ y ∈ aL.drop ia,rk x<=rk y):MI rk aL bL ia (ib + k) (oL++(bL.drop ib).take k):=(M.swap.takeA sb k h).swap
noncomputable def Mg (rk:Keyed->Int)(aL bL oL:List Keyed):Prop:=oL.Perm (aL++bL)/\oL.Pairwise fun x y=>rk x<=rk y
theorem MI.all (M:MI rk aL bL ia ib oL)(ha:aL.length<=ia)(hb:bL.length<=ib):Mg rk aL bL oL:=by
 have:=M.perm;rw [List.take_of_length_le ha,List.take_of_length_le hb] at this;exact ⟨this,M.srt⟩
theorem MI.doneB (M:MI rk aL bL ia ib oL)(sa:aL.Pairwise fun x y=>rk x<=rk y)(hb:bL.length<=ib):Mg rk aL bL (oL++aL.drop ia):=by
 have:=M.takeA sa (aL.drop ia).length (fun x _ y hy=>by
  rw [List.drop_eq_nil_of_le hb] at hy;cases hy)
 rw [List.take_length] at this;exact this.all (by rw [List.length_drop]; omega) hb
theorem MI.lastA (M:MI rk aL bL ia ib oL)(sa:aL.Pairwise fun x y=>rk x<=rk y)(sb:bL.Pairwise fun x y=>rk x<=rk y)(h:∀ x ∈ bL,∀ y ∈ aL.drop ia,rk x<=rk y):Mg rk aL bL (oL++bL.drop ib++aL.drop ia):=by
 have M2:=M.takeB sb (bL.drop ib).length (fun x hx y hy=>h x (List.mem_of_mem_drop (List.mem_of_mem_take hx)) y hy);rw [List.take_length] at M2;exact M2.doneB sa (by rw [List.length_drop]; omega)
theorem ext_toList (a:Array Keyed)(i j:Nat)(hj:i<=j):(a.extract i j).toList=(a.toList.drop i).take (j - i):=by
 rw [Array.toList_extract,List.extract_eq_take_drop]
theorem ext_end (a:Array Keyed)(i:Nat):(a.extract i a.size).toList=a.toList.drop i:=by
 rw [Array.toList_extract,List.extract_eq_take_drop,List.take_of_length_le];rw [List.length_drop,Array.length_toList];exact Nat.le_refl _
theorem one_at {a:Array Keyed}{i:Nat}{x:Keyed}(h:a[i]?=some x):(a.toList.drop i).take 1=[x]:=by
 have hi:i < a.toList.length:=by
  rw [Array.length_toList];exact (Array.getElem?_eq_some_iff.mp h).1
 rw [List.drop_eq_getElem_cons hi,List.take_succ_cons,List.take_zero];have:a.toList[i]?=some x:=by rw [Array.getElem?_toList]; exact h
 rw [List.getElem?_eq_getElem hi] at this;rw [Option.some.inj this]
end
section
variable {prog:Program}{w:World}{A:Around}{E:Value->Shared->Prop}{s:Shared}{rk:Keyed->Int}{κ:SortKind}{a0:Array Keyed}
structure Kept (st st':SortSt):Prop where
 arr:arrOf st'=arrOf st
 kind:kindOf st'=kindOf st
 pend:pendingOf st'=pendingOf st
 bad:failedOf st'=failedOf st
noncomputable def setG':Nat->StateT SortSt Sem Unit:=sortPriv% PySem.Builtin.setMinGallop
theorem Kept.refl (st:SortSt):Kept st st:=⟨rfl,rfl,rfl,rfl⟩
theorem s_setG {st0 st:SortSt}{g:Nat}{Q:Unit->SortSt->Prop}(k:Kept st0 st)(h:∀ st',Kept st0 st'->Q () st'):wpS (model prog w) A E s (setG' g) Q st:=by
 have e:setG' g=modify fun c=>SortSt.mk' (kindOf c) (arrOf c) (pendingOf c) g (failedOf c):=rfl;rw [e];exact wpS_modify (h _ ⟨k.arr,k.kind,k.pend,k.bad⟩)
theorem s_ite {α:Type}{c:Prop} [Decidable c]{x y:StateT SortSt Sem α}{Q:α->SortSt->Prop}{st:SortSt}(h1:c->wpS (model prog w) A E s x Q st)(h2:¬ c->wpS (model prog w) A E s y Q st):wpS (model prog w) A E s (if c then x else y) Q st:=by
 by_cases hc:c
 ·rw [if_pos hc];exact h1 hc
 ·rw [if_neg hc];exact h2 hc
theorem get_at {a:Array Keyed}{i:Nat}(h:i < a.size):∃ x,a[i]?=some x/\x ∈ a.toList:=⟨a[i],getElem?_pos a i h,by simp⟩
theorem head_le {a:Array Keyed}(sa:a.toList.Pairwise fun x y=>rk x<=rk y){i:Nat}{x:Keyed}(e:a[i]?=some x):∀ y ∈ a.toList.drop i,rk x<=rk y:=by
 have hi:i < a.toList.length:=by
  rw [Array.length_toList];exact (Array.getElem?_eq_some_iff.mp e).1
 have e':a.toList[i]?=some x:=by rw [Array.getElem?_toList]; exact e
 rw [List.getElem?_eq_getElem hi] at e';have ex:=Option.some.inj e';have sd:=sa.sublist (List.drop_sublist i a.toList);rw [List.drop_eq_getElem_cons hi,ex,List.pairwise_cons] at sd;rw [List.drop_eq_getElem_cons hi,ex];intro y hy;rcases List.mem_cons.mp hy with rfl | hy
 ·exact Int.le_refl _
 ·exact sd.1 y hy
theorem done_arr {a b out:Array Keyed}{ia ib:Nat}(M:MI rk a.toList b.toList ia ib out.toList)(sa:a.toList.Pairwise fun x y=>rk x<=rk y)(hb:b.size<=ib):Mg rk a.toList b.toList (out++a.extract ia a.size++b.extract ib b.size).toList:=by
 rw [Array.toList_append,Array.toList_append,ext_end,ext_end,List.drop_eq_nil_of_le (as:=b.toList) (by rw [Array.length_toList]; exact hb),List.append_nil];exact M.doneB sa (by rw [Array.length_toList]; exact hb)
theorem last_arr {a b out:Array Keyed}{ia ib:Nat}(M:MI rk a.toList b.toList ia ib out.toList)(sa:a.toList.Pairwise fun x y=>rk x<=rk y)(sb:b.toList.Pairwise fun x y=>rk x<=rk y)(hl:∀ x ∈ b.toList,∀ y,a[a.size - 1]?=some y->rk x<=rk y)(ha:ia + 1=a.size):Mg rk a.toList b.toList (out++b.extract ib b.size++a.extract ia a.size).toList:=by
 rw [Array.toList_append,Array.toList_append,ext_end,ext_end];refine M.lastA sa sb fun x hx y hy=>?_;have hi:ia < a.toList.length:=by rw [Array.length_toList]; omega
 rw [List.drop_eq_getElem_cons hi,List.drop_eq_nil_of_le (by rw [Array.length_toList]; omega)] at hy;have ey:y=a.toList[ia]:=by simpa using hy
 refine hl x hx y ?_;rw [show a.size - 1=ia by omega,<- Array.getElem?_toList,List.getElem?_eq_getElem hi,ey]
theorem push_list (out:Array Keyed)(x:Keyed):(out.push x).toList=out.toList++[x]:=Array.toList_push ..
theorem MI.oneB {a b out:Array Keyed}{ia ib:Nat}{x:Keyed}(M:MI rk a.toList b.toList ia ib out.toList)(sb:b.toList.Pairwise fun x y=>rk x<=rk y)(e:b[ib]?=some x)(h:∀ y ∈ a.toList.drop ia,rk x<=rk y):MI rk a.toList b.toList ia (ib + 1) (out.push x).toList:=by
 rw [push_list,<- one_at e];refine M.takeB sb 1 fun z hz y hy=>?_;rw [one_at e] at hz;have ez:z=x:=by simpa using hz
 rw [ez];exact h y hy
theorem MI.oneA {a b out:Array Keyed}{ia ib:Nat}{x:Keyed}(M:MI rk a.toList b.toList ia ib out.toList)(sa:a.toList.Pairwise fun x y=>rk x<=rk y)(e:a[ia]?=some x)(h:∀ y ∈ b.toList.drop ib,rk x<=rk y):MI rk a.toList b.toList (ia + 1) ib (out.push x).toList:=(MI.oneB M.swap sa e h).swap
theorem MI.someA {a b out:Array Keyed}{ia ib k:Nat}{y:Keyed}(M:MI rk a.toList b.toList ia ib out.toList)(sa:a.toList.Pairwise fun x y=>rk x<=rk y)(sb:b.toList.Pairwise fun x y=>rk x<=rk y)(e:b[ib]?=some y)(h:∀ i x,i < k->a[ia + i]?=some x->rk x<=rk y):MI rk a.toList b.toList (ia + k) ib (out++a.extract ia (ia + k)).toList:=by
 rw [Array.toList_append,ext_toList _ _ _ (Nat.le_add_right _ _),Nat.add_sub_cancel_left];refine M.takeA sa k fun x hx z hz=>Int.le_trans ?_ (head_le sb e z hz);obtain ⟨i,hi,ex⟩:=List.getElem_of_mem hx;have hik:i < k:=by
  rw [List.length_take] at hi;omega
 refine h i x hik ?_;have:((a.toList.drop ia).take k)[i]?=some x:=by rw [List.getElem?_eq_getElem hi,ex]
 rw [List.getElem?_take,if_pos hik,List.getElem?_drop,Array.getElem?_toList] at this;exact this
theorem MI.someB {a b out:Array Keyed}{ia ib k:Nat}{y:Keyed}(M:MI rk a.toList b.toList ia ib out.toList)(sa:a.toList.Pairwise fun x y=>rk x<=rk y)(sb:b.toList.Pairwise fun x y=>rk x<=rk y)(e:a[ia]?=some y)(h:∀ i x,i < k->b[ib + i]?=some x->rk x<=rk y):MI rk a.toList b.toList ia (ib + k) (out++b.extract ib (ib + k)).toList:=(MI.someA M.swap sb sa e h).swap
end
end GS
end L2
namespace L2
open PySem PySem.Spec PyProof.Rows PySem.W
namespace GS
section
variable {prog:Program}{w:World}{A:Around}{E:Value->Shared->Prop}{s:Shared}{rk:Keyed->Int}{κ:SortKind}{a0:Array Keyed}
theorem s_gallopR {st:SortSt}{key:Keyed}{a:Array Keyed}{base n hint:Nat}{Q:Option Nat->SortSt->Prop}(T:Tells prog w A s κ rk a0)(hk:kindOf st=κ)(hkey:key ∈ a0.toList)(ma:∀ x ∈ a.toList,x ∈ a0.toList)(up:∀ i j x y,base<=i->i<=j->j < base + n->a[i]?=some x->a[j]?=some y->rk x<=rk y)(hn:base + n<=a.size)(hh:hint < n)
  (h:∀ k,k<=n->(∀ i x,i < k->a[base + i]?=some x->rk x<=rk key)->(∀ i x,k<=i->i < n->a[base + i]?=some x->rk key < rk x)->Q (some k) st):wpS (model prog w) A E s (gallop' false key a base n hint) Q st:=by
 have he:∀ i,i < n->∃ x,a[base + i]?=some x/\x ∈ a.toList:=fun i hi=>get_at (by omega);refine s_gallop T hk hkey (fun i=>match a[base + i]? with | some x=>bey rk false key x | none=>false) (fun i hi=>?_) (fun i j hij hj hb=>?_) hh fun k hk1 h1 h2=>h k hk1 (fun i x hi e=>?_) fun i x hi1 hi2 e=>?_
 ·obtain ⟨x,e,m⟩:=he i hi;refine ⟨x,e,ma x m,?_⟩;try dsimp only
  rw [e]
 ·obtain ⟨x,ex,_⟩:=he i (by omega);obtain ⟨y,ey,_⟩:=he j hj;try dsimp only at hb ⊢
  rw [ey] at hb;rw [ex];have:=up (base + i) (base + j) x y (by omega) (by omega) (by omega) ex ey;unfold bey at hb ⊢;simp only [Bool.false_eq_true,if_false,Bool.not_eq_true',decide_eq_false_iff_not] at hb ⊢;omega
 ·have:=h1 i hi;try dsimp only at this
  rw [e] at this;unfold bey at this;simp only [Bool.false_eq_true,if_false,Bool.not_eq_true',decide_eq_false_iff_not] at this;omega
 ·have:=h2 i hi1 hi2;try dsimp only at this
  rw [e] at this;unfold bey at this;simp only [Bool.false_eq_true,if_false,Bool.not_eq_false',decide_eq_true_eq] at this;exact this
theorem s_gallopL {st:SortSt}{key:Keyed}{a:Array Keyed}{base n hint:Nat}{Q:Option Nat->SortSt->Prop}(T:Tells prog w A s κ rk a0)(hk:kindOf st=κ)(hkey:key ∈ a0.toList)(ma:∀ x ∈ a.toList,x ∈ a0.toList)(up:∀ i j x y,base<=i->i<=j->j < base + n->a[i]?=some x->a[j]?=some y->rk x<=rk y)(hn:base + n<=a.size)(hh:hint < n)
  (h:∀ k,k<=n->(∀ i x,i < k->a[base + i]?=some x->rk x < rk key)->(∀ i x,k<=i->i < n->a[base + i]?=some x->rk key<=rk x)->Q (some k) st):wpS (model prog w) A E s (gallop' true key a base n hint) Q st:=by
 have he:∀ i,i < n->∃ x,a[base + i]?=some x/\x ∈ a.toList:=fun i hi=>get_at (by omega);refine s_gallop T hk hkey (fun i=>match a[base + i]? with | some x=>bey rk true key x | none=>false) (fun i hi=>?_) (fun i j hij hj hb=>?_) hh fun k hk1 h1 h2=>h k hk1 (fun i x hi e=>?_) fun i x hi1 hi2 e=>?_
 ·obtain ⟨x,e,m⟩:=he i hi;refine ⟨x,e,ma x m,?_⟩;try dsimp only
  rw [e]
 ·obtain ⟨x,ex,_⟩:=he i (by omega);obtain ⟨y,ey,_⟩:=he j hj;try dsimp only at hb ⊢
  rw [ey] at hb;rw [ex];have:=up (base + i) (base + j) x y (by omega) (by omega) (by omega) ex ey;unfold bey at hb ⊢;simp only [if_true,decide_eq_true_eq] at hb ⊢;omega
 ·have:=h1 i hi;try dsimp only at this
  rw [e] at this;unfold bey at this;simp only [if_true,decide_eq_true_eq] at this;exact this
 ·have:=h2 i hi1 hi2;try dsimp only at this
  rw [e] at this;unfold bey at this;simp only [if_true,decide_eq_false_iff_not] at this;omega
theorem up_at {a:Array Keyed}(sa:a.toList.Pairwise fun x y=>rk x<=rk y){i j:Nat}{x y:Keyed}(hij:i<=j)(ex:a[i]?=some x)(ey:a[j]?=some y):rk x<=rk y:=by
 refine head_le sa ex y ?_;have hj:j < a.toList.length:=by
  rw [Array.length_toList];exact (Array.getElem?_eq_some_iff.mp ey).1
 refine List.mem_of_getElem? (i:=j - i) ?_;rw [List.getElem?_drop,Array.getElem?_toList,show i + (j - i)=j by omega];exact ey
set_option maxHeartbeats 8000000 in
theorem via {P:Prop}(h:∀ G:Prop,(P->G)->G):P:=h P id
structure Key (P:Prop):Prop where
 get:P
theorem cut {P R:Prop}(k:P)(h:Key P->R):R:=h ⟨k⟩
theorem s_mergeLo {st0:SortSt}{a b:Array Keyed}{Q:Array Keyed->SortSt->Prop}(T:Tells prog w A s κ rk a0)(hk:kindOf st0=κ)(ma:∀ x ∈ a.toList,x ∈ a0.toList)(mb:∀ x ∈ b.toList,x ∈ a0.toList)(sa:a.toList.Pairwise fun x y=>rk x<=rk y)(sb:b.toList.Pairwise fun x y=>rk x<=rk y)
  (ha:0 < a.size) (hb:0 < b.size) (h0:∀ x y,b[0]?=some x->y ∈ a.toList->rk x<=rk y) (hl':∀ x ∈ b.toList,∀ y,a[a.size - 1]?=some y->rk x < rk y)
  (h:∀ out st',Kept st0 st'->Mg rk a.toList b.toList out.toList->Q out st'):wpS (model prog w) A E s (mergeLo' a b) Q st0:=by
 have hl:∀ x ∈ b.toList,∀ y,a[a.size - 1]?=some y->rk x<=rk y:=fun x hx y hy=>Int.le_of_lt (hl' x hx y hy);refine wpS_bind (wpS_lift (wpAny_rule ⟨rfl,?_⟩));obtain ⟨b0,eb0,_⟩:=get_at hb;refine wpS_bind (s_elem eb0 ?_);have M0:MI rk a.toList b.toList 0 0 (#[]:Array Keyed).toList:=⟨by simp,List.Pairwise.nil,(fun x hx=>nomatch hx),(fun x hx=>nomatch hx)⟩;have M1:MI rk a.toList b.toList 0 1 (#[b0]:Array Keyed).toList:=MI.oneB M0 sb eb0 fun y hy=>h0 b0 y eb0 (by simpa using hy);dsimp -zeta only;refine s_ite (fun hc=>wpS_pure (h _ _ (Kept.refl _) (done_arr M1 sa (by rw [show 1=b.size by simpa using hc]; exact Nat.le_refl _)))) fun hc=>?_;refine s_ite (fun hc2=>wpS_pure (h _ _ (Kept.refl _) (last_arr M1 sa sb hl (by simpa using hc2)))) fun hc2=>?_;have hb2:1 < b.size:=by
  have:¬ 1=b.size:=by simpa using hc
  omega
 have ha2:0 + 1 < a.size:=by
  have:¬ 0 + 1=a.size:=by simpa using hc2
  omega
 refine wpS_bind (wpS_get ?_);refine wpS_bind (wpS_mono (wpS_forRange (I:=fun x c st'=>∃ out ia ib mg,c=(none,out,ia,ib,mg)/\MI rk a.toList b.toList ia ib out.toList/\ia + 1 < a.size/\ib < b.size/\x + 1<=ia + ib/\Kept st0 st')
  (Q:=fun c st'=>∃ res,c.1=some res/\Mg rk a.toList b.toList res.toList/\Kept st0 st') ?step ?fin ⟨_,0,1,_,rfl,M1,ha2,hb2,by omega,Kept.refl _⟩) ?post)
 case fin =>
  rintro c st' ⟨out,ia,ib,mg,rfl,M,h1,h2,h3,k⟩
  omega
 case post =>
  rintro ⟨c1,c2⟩ st' ⟨res,e,hM,k⟩
  dsimp only at e ⊢
  subst e
  exact wpS_pure (h _ _ k hM)
 case step =>
  intro x0 c st1 _ hx0 hI
  refine via fun G hG=>?_
  obtain ⟨out,ia,ib,mg,rfl,M,h1,h2,h3,k1⟩:=hI
  refine hG ?_
  clear hG
  have hk1:kindOf st1=κ:=k1.kind.trans hk
  dsimp -zeta only
  refine wpS_bind (wpS_mono (wpS_forRange (I:=fun x c st'=>st'=st1/\∃ out ia ib ac bc,c=(none,out,ia,ib,ac,bc)/\MI rk a.toList b.toList ia ib out.toList/\ia + 1 < a.size/\ib < b.size/\x0 + 1 + x<=ia + ib)
   (Q:=fun c st'=>st'=st1/\((∃ res,c.1=some res/\Mg rk a.toList b.toList res.toList)\/∃ out ia ib ac bc,c=(none,out,ia,ib,ac,bc)/\MI rk a.toList b.toList ia ib out.toList/\ia + 1 < a.size/\ib < b.size/\x0 + 2<=ia + ib)) ?step1 ?fin1 ⟨rfl,_,_,_,_,_,rfl,M,h1,h2,by omega⟩) ?post1)
  case fin1 =>
   rintro c st' ⟨rfl,out,ia,ib,ac,bc,rfl,M,h1,h2,h3⟩
   exact ⟨rfl,.inr ⟨out,ia,ib,ac,bc,rfl,M,h1,h2,by omega⟩⟩
  case step1 =>
   intro x c st' _ hx hI
   refine via fun G hG=>?_
   obtain ⟨rfl,out,ia,ib,ac,bc,rfl,M,h1,h2,h3⟩:=hI
   obtain ⟨y,ey,my⟩:=get_at h2
   obtain ⟨z,ez,mz⟩:=get_at (a:=a) (i:=ia) (by omega)
   refine hG ?_
   clear hG
   dsimp -zeta only
   refine wpS_bind (s_elem ey (wpS_bind (s_elem ez (wpS_bind (s_lt T hk1 (mb y my) (ma z mz) ?_)))))
   dsimp -zeta only
   refine s_ite (fun hlt=>?_) fun hlt=>?_
   ·have hlt':rk y < rk z:=of_decide_eq_true hlt;have M2:=MI.oneB M sb ey fun v hv=>Int.le_trans (Int.le_of_lt hlt') (head_le sa ez v hv);refine wpS_bind (s_elem ey ?_);refine s_ite (fun he=>wpS_pure ⟨rfl,.inl ⟨_,rfl,done_arr M2 sa (by rw [show ib + 1=b.size by simpa using he]; exact Nat.le_refl _)⟩⟩) fun he=>?_;have hb3:ib + 1 < b.size:=by
     have:¬ ib + 1=b.size:=by simpa using he
     omega
    exact s_ite (fun _=>wpS_pure ⟨rfl,.inr ⟨_,_,_,_,_,rfl,M2,h1,hb3,by omega⟩⟩) fun _=>wpS_pure ⟨rfl,_,_,_,_,_,rfl,M2,h1,hb3,by omega⟩
   ·have hlt':¬ rk y < rk z:=fun q=>hlt (decide_eq_true q);have M2:=MI.oneA M sa ez fun v hv=>Int.le_trans (Int.not_lt.mp hlt') (head_le sb ey v hv);refine wpS_bind (s_elem ez ?_);refine s_ite (fun he=>wpS_pure ⟨rfl,.inl ⟨_,rfl,last_arr M2 sa sb hl (by simpa using he)⟩⟩) fun he=>?_;have ha3:ia + 1 + 1 < a.size:=by
     have:¬ ia + 1 + 1=a.size:=by simpa using he
     omega
    exact s_ite (fun _=>wpS_pure ⟨rfl,.inr ⟨_,_,_,_,_,rfl,M2,ha3,h2,by omega⟩⟩) fun _=>wpS_pure ⟨rfl,_,_,_,_,_,rfl,M2,ha3,h2,by omega⟩
  case post1 =>
   intro c st' hI
   refine via fun G hG=>?_
   rcases hI with ⟨rfl,hc1 | ⟨out,ia,ib,ac,bc,rfl,M,h1,h2,h3⟩⟩
   all_goals (refine hG ?_; clear hG)
   ·obtain ⟨res,e,hM⟩:=hc1;obtain ⟨c1,c2⟩:=c;dsimp only at e ⊢;subst e;exact wpS_pure ⟨res,rfl,hM,k1⟩
   dsimp -zeta only
   refine wpS_bind (wpS_lift (wpAny_rule ⟨rfl,?_⟩))
   refine wpS_bind (wpS_mono (wpS_forRange (I:=fun x c st2=>∃ out ia ib mg ac bc,c=(none,out,ia,ib,mg,ac,bc)/\MI rk a.toList b.toList ia ib out.toList/\ia + 1 < a.size/\ib < b.size/\x0 + 2<=ia + ib/\Kept st0 st2)
    (Q:=fun c st2=>(∃ res,c.1=some res/\Mg rk a.toList b.toList res.toList/\Kept st0 st2)\/∃ out ia ib mg ac bc,c=(none,out,ia,ib,mg,ac,bc)/\MI rk a.toList b.toList ia ib out.toList/\ia + 1 < a.size/\ib < b.size/\x0 + 2<=ia + ib/\Kept st0 st2) ?step2 ?fin2 ⟨_,_,_,_,_,_,rfl,M,h1,h2,h3,k1⟩) ?post2)
   case fin2 =>
    rintro c st2 hc
    exact .inr hc
   case post2 =>
    rintro c st2 (⟨res,e,hM,k2⟩ | ⟨out,ia,ib,mg,ac,bc,rfl,M,h1,h2,h3,k2⟩)
    ·obtain ⟨c1,c2⟩:=c;dsimp only at e ⊢;subst e;exact wpS_pure ⟨res,rfl,hM,k2⟩
    ·dsimp -zeta only;exact wpS_bind (s_setG k2 fun st3 k3=>wpS_pure ⟨_,_,_,_,rfl,M,h1,h2,by omega,k3⟩)
   case step2 =>
    intro x c st2 _ hx hI
    refine via fun G hG=>?_
    obtain ⟨out,ia,ib,mg,ac,bc,rfl,M,h1,h2,h3,k2⟩:=hI
    obtain ⟨y,ey,my⟩:=get_at h2
    refine hG ?_
    clear hG
    dsimp -zeta only
    refine' cut ?key1 fun key=>s_ite (fun hmg=>?a1) fun hmg=>?b1
    case a1 =>
     generalize mg - 1=mg1
     revert mg1
     exact key.get
    case b1=>exact key.get mg
    intro mg1
    dsimp -zeta only
    refine wpS_bind (s_setG k2 fun st3 k3=>?_)
    have hk3:kindOf st3=κ:=k3.kind.trans hk
    refine wpS_bind (s_elem ey (wpS_bind (s_gallopR T hk3 (mb y my) ma (fun i j u v _ hij _ eu ev=>up_at sa hij eu ev) (by omega) (by omega) fun k hk4 g1 g2=>?_)))
    dsimp -zeta only
    refine' cut ?key2 fun key=>s_ite (fun hk0=>?a2) fun hk0=>?b2
    case a2 =>
     have M2:=MI.someA M sa sb ey g1
     refine s_ite (fun he=>wpS_pure (.inl ⟨_,rfl,last_arr M2 sa sb hl (by simpa using he),k3⟩)) fun he=>?_
     have ne1:¬ ia + k + 1=a.size:=by simpa using he
     have kl:ia + k < a.size:=by
      refine Nat.lt_of_not_le fun hge=>?_;obtain ⟨v,ev,mv⟩:=get_at (a:=a) (i:=a.size - 1) (by omega);have q1:=g1 (a.size - 1 - ia) v (by omega) (by rw [show ia + (a.size - 1 - ia)=a.size - 1 by omega]; exact ev);have q2:=hl' y my v ev;omega
     refine s_ite (fun he2=>absurd (show ia + k=a.size by simpa using he2) (by omega)) fun he2=>?_
     have h1':ia + k + 1 < a.size:=by omega
     have h3':x0 + 2<=ia + k + ib:=by omega
     have g2':∀ z,a[ia + k]?=some z->rk y<=rk z:=fun z ez=>Int.le_of_lt (g2 k z (Nat.le_refl _) (by omega) ez)
     generalize out++a.extract ia (ia + k)=out1 at M2 ⊢
     generalize ia + k=ia1 at M2 h1' h3' g2' ⊢
     revert g2'; revert h3'; revert h1'; revert M2; revert ia1; revert out1
     exact key.get
    case b2=>exact key.get out ia M h1 h3 fun z ez=>Int.le_of_lt (g2 0 z (by omega) (by omega) (by simpa using ez))
    intro out1 ia1 M2 h1' h3' g2'
    refine via fun G hG=>?_
    obtain ⟨z,ez,mz⟩:=get_at (a:=a) (i:=ia1) (by omega)
    refine hG ?_
    clear hG
    have M3:=MI.oneB M2 sb ey fun v hv=>Int.le_trans (g2' z ez) (head_le sa ez v hv)
    refine wpS_bind (s_elem ey ?_)
    refine s_ite (fun he=>wpS_pure (.inl ⟨_,rfl,done_arr M3 sa (by rw [show ib + 1=b.size by simpa using he]; exact Nat.le_refl _),k3⟩)) fun he=>?_
    have hb3:ib + 1 < b.size:=by
     have:¬ ib + 1=b.size:=by simpa using he
     omega
    refine wpS_bind (s_elem ez (wpS_bind (s_gallopL T hk3 (ma z mz) mb (fun i j u v _ hij _ eu ev=>up_at sb hij eu ev) (by omega) (by omega) fun k' hk5 g3 g4=>?_)))
    dsimp -zeta only
    refine' cut ?key3 fun key=>s_ite (fun hk0'=>?a3) fun hk0'=>?b3
    case a3 =>
     have M4:=MI.someB M3 sa sb ez fun i u hi eu=>Int.le_of_lt (g3 i u hi eu)
     refine s_ite (fun he=>wpS_pure (.inl ⟨_,rfl,done_arr M4 sa (by rw [show ib + 1 + k'=b.size by simpa using he]; exact Nat.le_refl _),k3⟩)) fun he=>?_
     have hb4:ib + 1 + k' < b.size:=by
      have:¬ ib + 1 + k'=b.size:=by simpa using he
      omega
     have g4':∀ v,b[ib + 1 + k']?=some v->rk z<=rk v:=fun v ev=>g4 k' v (Nat.le_refl _) (by omega) ev
     have h3'':x0 + 2<=ia1 + (ib + 1 + k'):=by omega
     generalize out1.push y++b.extract (ib + 1) (ib + 1 + k')=out2 at M4 ⊢
     generalize ib + 1 + k'=ib1 at M4 hb4 g4' h3'' ⊢
     revert h3''; revert g4'; revert hb4; revert M4; revert ib1; revert out2
     exact key.get
    case b3=>exact key.get (out1.push y) (ib + 1) M3 hb3 (fun v ev=>g4 0 v (by omega) (by omega) (by simpa using ev)) (by omega)
    intro out2 ib1 M4 hb4 g4' h3''
    refine via fun G hG=>?_
    obtain ⟨v,ev,mv⟩:=get_at (a:=b) (i:=ib1) hb4
    refine hG ?_
    clear hG
    have M5:=MI.oneA M4 sa ez fun u hu=>Int.le_trans (g4' v ev) (head_le sb ev u hu)
    refine wpS_bind (s_elem ez ?_)
    refine s_ite (fun he=>wpS_pure (.inl ⟨_,rfl,last_arr M5 sa sb hl (by simpa using he),k3⟩)) fun he=>?_
    have ha3:ia1 + 1 + 1 < a.size:=by
     have:¬ ia1 + 1 + 1=a.size:=by simpa using he
     omega
    exact s_ite (fun _=>wpS_pure (.inr ⟨_,_,_,_,_,_,rfl,M5,ha3,hb4,by omega,k3⟩)) fun _=>wpS_pure ⟨_,_,_,_,_,_,rfl,M5,ha3,hb4,by omega,k3⟩
end
end GS
end L2
namespace L2
open PySem PySem.Spec PyProof.Rows PySem.W
namespace GS
noncomputable def neg (rk:Keyed->Int):Keyed->Int:=fun x=>- rk x
theorem rev_get {a:Array Keyed}{j:Nat}(h:j < a.size):a.reverse[j]?=a[a.size - 1 - j]?:=by
 rw [Array.getElem?_reverse h]
noncomputable def Hi (rk:Keyed->Int)(a b:Array Keyed)(na nb:Nat)(out:Array Keyed):Prop:=MI (neg rk) a.reverse.toList b.reverse.toList (a.size - na) (b.size - nb) out.toList
section
variable {rk:Keyed->Int}{a b out:Array Keyed}{na nb:Nat}
theorem neg_up (sa:a.toList.Pairwise fun x y=>rk x<=rk y):a.reverse.toList.Pairwise fun x y=>neg rk x<=neg rk y:=by
 rw [Array.toList_reverse,List.pairwise_reverse];exact sa.imp fun h=>Int.neg_le_neg h
theorem at_rev {i:Nat}{x:Keyed}(h1:1<=i)(h2:i<=a.size)(e:a[i - 1]?=some x):a.reverse[a.size - i]?=some x:=by
 rw [rev_get (by omega),show a.size - 1 - (a.size - i)=i - 1 by omega];exact e
theorem Hi.oneA {x y:Keyed}(M:Hi rk a b na nb out)(sa:a.toList.Pairwise fun x y=>rk x<=rk y)(sb:b.toList.Pairwise fun x y=>rk x<=rk y)(h1:1<=na)(h2:na<=a.size)(h3:1<=nb)(h4:nb<=b.size)(ex:a[na - 1]?=some x)(ey:b[nb - 1]?=some y)(h:rk y<=rk x):Hi rk a b (na - 1) nb (out.push x):=by
 have:=MI.oneA (rk:=neg rk) M (neg_up sa) (at_rev h1 h2 ex) fun v hv=>Int.le_trans (Int.neg_le_neg h) (head_le (neg_up sb) (at_rev h3 h4 ey) v hv);unfold Hi;rw [show a.size - (na - 1)=a.size - na + 1 by omega];exact this
theorem Hi.oneB {x y:Keyed}(M:Hi rk a b na nb out)(sa:a.toList.Pairwise fun x y=>rk x<=rk y)(sb:b.toList.Pairwise fun x y=>rk x<=rk y)(h1:1<=na)(h2:na<=a.size)(h3:1<=nb)(h4:nb<=b.size)(ex:a[na - 1]?=some x)(ey:b[nb - 1]?=some y)(h:rk x<=rk y):Hi rk a b na (nb - 1) (out.push y):=by
 have:=MI.oneB (rk:=neg rk) M (neg_up sb) (at_rev h3 h4 ey) fun v hv=>Int.le_trans (Int.neg_le_neg h) (head_le (neg_up sa) (at_rev h1 h2 ex) v hv);unfold Hi;rw [show b.size - (nb - 1)=b.size - nb + 1 by omega];exact this
theorem ext_rev {i j:Nat}(h1:i<=j)(h2:j<=a.size):(a.extract i j).reverse=a.reverse.extract (a.size - j) (a.size - j + (j - i)):=by
 apply Array.ext_getElem?;intro k;by_cases hk:k < j - i
 ·rw [Array.getElem?_reverse (by rw [Array.size_extract]; omega),Array.getElem?_extract,Array.getElem?_extract,Array.size_extract];rw [if_pos (by omega),if_pos (by rw [Array.size_reverse]; omega),rev_get (by omega)];congr 1;omega
 ·rw [Array.getElem?_eq_none (by rw [Array.size_reverse,Array.size_extract]; omega),Array.getElem?_eq_none (by rw [Array.size_extract,Array.size_reverse]; omega)]
theorem Hi.someA {i:Nat}{y:Keyed}(M:Hi rk a b na nb out)(sa:a.toList.Pairwise fun x y=>rk x<=rk y)(sb:b.toList.Pairwise fun x y=>rk x<=rk y)(h1:i<=na)(h2:na<=a.size)(h3:1<=nb)(h4:nb<=b.size)(ey:b[nb - 1]?=some y)(h:∀ j x,i<=j->j < na->a[j]?=some x->rk y<=rk x):Hi rk a b i nb (out++(a.extract i na).reverse):=by
 have:=MI.someA (rk:=neg rk) (k:=na - i) M (neg_up sa) (neg_up sb) (at_rev h3 h4 ey) fun j x hj ex=>Int.neg_le_neg (h (na - 1 - j) x (by omega) (by omega) (by
  rw [rev_get (by omega)] at ex;rw [<- ex];congr 1;omega))
 unfold Hi;rw [ext_rev h1 h2,show a.size - i=a.size - na + (na - i) by omega];exact this
theorem Hi.someB {i:Nat}{y:Keyed}(M:Hi rk a b na nb out)(sa:a.toList.Pairwise fun x y=>rk x<=rk y)(sb:b.toList.Pairwise fun x y=>rk x<=rk y)(h1:i<=nb)(h2:nb<=b.size)(h3:1<=na)(h4:na<=a.size)(ey:a[na - 1]?=some y)(h:∀ j x,i<=j->j < nb->b[j]?=some x->rk y<=rk x):Hi rk a b na i (out++(b.extract i nb).reverse):=(Hi.someA (a:=b) (b:=a) M.swap sb sa h1 h2 h3 h4 ey h).swap
theorem mg_rev {oL:List Keyed}(h:Mg (neg rk) b.reverse.toList a.reverse.toList oL):Mg rk a.toList b.toList oL.reverse:=by
 obtain ⟨p,q⟩:=h;rw [Array.toList_reverse,Array.toList_reverse] at p;refine ⟨?_,?_⟩
 ·refine (List.reverse_perm _).trans (p.trans (List.perm_append_comm.trans ?_));exact List.Perm.append (List.reverse_perm _) (List.reverse_perm _)
 ·rw [List.pairwise_reverse];refine q.imp fun {x y} h=>?_;have h':- rk x<=- rk y:=h;omega
theorem rev_end {i:Nat}(h:i<=a.size):(a.reverse.extract (a.size - i) a.reverse.size).toList.reverse=(a.extract 0 i).toList:=by
 rw [ext_end,Array.toList_reverse,ext_toList _ _ _ (Nat.zero_le _),List.drop_zero,Nat.sub_zero];have:=List.reverse_take (l:=a.toList) (i:=i);rw [Array.length_toList] at this;rw [<- this,List.reverse_reverse]
theorem Hi.done (M:Hi rk a b 0 nb out)(sb:b.toList.Pairwise fun x y=>rk x<=rk y)(h:nb<=b.size):Mg rk a.toList b.toList (a.extract 0 0++b.extract 0 nb++out.reverse).toList:=by
 have h1:=done_arr (rk:=neg rk) (a:=b.reverse) (b:=a.reverse) M.swap (neg_up sb) (by rw [Array.size_reverse]; omega);have h2:=mg_rev h1;rw [Array.toList_append,Array.toList_append,List.reverse_append,List.reverse_append,rev_end h] at h2;have e0:=rev_end (a:=a) (i:=0) (Nat.zero_le _);rw [e0] at h2;rw [Array.toList_append,Array.toList_append,Array.toList_reverse,List.append_assoc];exact h2
theorem Hi.first (M:Hi rk a b na 1 out)(sa:a.toList.Pairwise fun x y=>rk x<=rk y)(sb:b.toList.Pairwise fun x y=>rk x<=rk y)(hb:0 < b.size)(h:na<=a.size)(h0:∀ x y,b[0]?=some x->y ∈ a.toList->rk x < rk y):Mg rk a.toList b.toList (b.extract 0 1++a.extract 0 na++out.reverse).toList:=by
 have h1:=last_arr (rk:=neg rk) (a:=b.reverse) (b:=a.reverse) M.swap (neg_up sb) (neg_up sa) (fun x hx y ey=>by
  rw [Array.size_reverse,rev_get (by omega),show b.size - 1 - (b.size - 1)=0 by omega] at ey;have hx':x ∈ a.toList:=by simpa using hx
  exact Int.neg_le_neg (Int.le_of_lt (h0 y x ey hx'))) (by rw [Array.size_reverse]; omega)
 have h2:=mg_rev h1;rw [Array.toList_append,Array.toList_append,List.reverse_append,List.reverse_append,rev_end h,rev_end (by omega)] at h2;rw [Array.toList_append,Array.toList_append,Array.toList_reverse,List.append_assoc];exact h2
end
section
variable {prog:Program}{w:World}{A:Around}{E:Value->Shared->Prop}{s:Shared}{rk:Keyed->Int}{κ:SortKind}{a0:Array Keyed}
set_option maxHeartbeats 8000000 in
theorem s_mergeHi {st0:SortSt}{a b:Array Keyed}{Q:Array Keyed->SortSt->Prop}(T:Tells prog w A s κ rk a0)(hk:kindOf st0=κ)(ma:∀ x ∈ a.toList,x ∈ a0.toList)(mb:∀ x ∈ b.toList,x ∈ a0.toList)(sa:a.toList.Pairwise fun x y=>rk x<=rk y)(sb:b.toList.Pairwise fun x y=>rk x<=rk y)
  (ha:0 < a.size) (hb:0 < b.size) (h0:∀ x y,b[0]?=some x->y ∈ a.toList->rk x < rk y) (hl:∀ x ∈ b.toList,∀ y,a[a.size - 1]?=some y->rk x < rk y)
  (h:∀ out st',Kept st0 st'->Mg rk a.toList b.toList out.toList->Q out st'):wpS (model prog w) A E s (mergeHi' a b) Q st0:=by
 refine wpS_bind (wpS_lift (wpAny_rule ⟨rfl,?_⟩));obtain ⟨z0,ez0,_⟩:=get_at (a:=a) (i:=a.size - 1) (by omega);obtain ⟨y0,ey0,my0⟩:=get_at (a:=b) (i:=b.size - 1) (by omega);refine wpS_bind (s_elem ez0 ?_);have M0:Hi rk a b a.size b.size #[]:=by
  unfold Hi;rw [Nat.sub_self,Nat.sub_self];exact ⟨by simp,List.Pairwise.nil,(fun x hx=>nomatch hx),(fun x hx=>nomatch hx)⟩
 have M1:Hi rk a b (a.size - 1) b.size #[z0]:=M0.oneA sa sb (by omega) (Nat.le_refl _) (by omega) (Nat.le_refl _) ez0 ey0 (Int.le_of_lt (hl y0 my0 z0 ez0));dsimp -zeta only;refine s_ite (fun hc=>wpS_pure (h _ _ (Kept.refl _) ?_)) fun hc=>?_
 ·have e:a.size - 1=0:=by simpa using hc
  rw [e] at M1 ⊢;exact M1.done sb (Nat.le_refl _)
 refine s_ite (fun hc2=>wpS_pure (h _ _ (Kept.refl _) ?_)) fun hc2=>?_
 ·have e:b.size=1:=by simpa using hc2
  rw [e] at M1 ⊢;exact M1.first sa sb hb (by omega) h0
 have ha2:1<=a.size - 1:=by
  have:¬ a.size - 1=0:=by simpa using hc
  omega
 have hb2:1 < b.size:=by
  have:¬ b.size=1:=by simpa using hc2
  omega
 refine wpS_bind (wpS_get ?_);refine wpS_bind (wpS_mono (wpS_forRange (I:=fun x c st'=>∃ na nb out mg,c=(none,na,nb,out,mg)/\Hi rk a b na nb out/\1<=na/\na < a.size/\1 < nb/\nb<=b.size/\na + nb + x + 1<=a.size + b.size/\Kept st0 st')
  (Q:=fun c st'=>∃ res,c.1=some res/\Mg rk a.toList b.toList res.toList/\Kept st0 st') ?step ?fin ⟨_,_,_,_,rfl,M1,ha2,by omega,hb2,Nat.le_refl _,by omega,Kept.refl _⟩) ?post)
 case fin =>
  rintro c st' ⟨na,nb,out,mg,rfl,M,h1,h2,h3,h4,h5,k⟩
  omega
 case post =>
  rintro ⟨c1,c2⟩ st' ⟨res,e,hM,k⟩
  dsimp only at e ⊢
  subst e
  exact wpS_pure (h _ _ k hM)
 case step =>
  intro x0 c st1 _ hx0 hI
  refine via fun G hG=>?_
  obtain ⟨na,nb,out,mg,rfl,M,h1,h2,h3,h4,h5,k1⟩:=hI
  refine hG ?_
  clear hG
  have hk1:kindOf st1=κ:=k1.kind.trans hk
  dsimp -zeta only
  refine wpS_bind (wpS_mono (wpS_forRange (I:=fun x c st'=>st'=st1/\∃ na nb out ac bc,c=(none,na,nb,out,ac,bc)/\Hi rk a b na nb out/\1<=na/\na < a.size/\1 < nb/\nb<=b.size/\na + nb + x0 + 1 + x<=a.size + b.size)
   (Q:=fun c st'=>st'=st1/\((∃ res,c.1=some res/\Mg rk a.toList b.toList res.toList)\/∃ na nb out ac bc,c=(none,na,nb,out,ac,bc)/\Hi rk a b na nb out/\1<=na/\na < a.size/\1 < nb/\nb<=b.size/\na + nb + x0 + 2<=a.size + b.size)) ?step1 ?fin1 ⟨rfl,_,_,_,_,_,rfl,M,h1,h2,h3,h4,by omega⟩) ?post1)
  case fin1 =>
   rintro c st' ⟨rfl,na,nb,out,ac,bc,rfl,M,h1,h2,h3,h4,h5⟩
   exact ⟨rfl,.inr ⟨na,nb,out,ac,bc,rfl,M,h1,h2,h3,h4,by omega⟩⟩
  case step1 =>
   intro x c st' _ hx hI
   refine via fun G hG=>?_
   obtain ⟨rfl,na,nb,out,ac,bc,rfl,M,h1,h2,h3,h4,h5⟩:=hI
   obtain ⟨y,ey,my⟩:=get_at (a:=b) (i:=nb - 1) (by omega)
   obtain ⟨z,ez,mz⟩:=get_at (a:=a) (i:=na - 1) (by omega)
   refine hG ?_
   clear hG
   dsimp -zeta only
   refine wpS_bind (s_elem ey (wpS_bind (s_elem ez (wpS_bind (s_lt T hk1 (mb y my) (ma z mz) ?_)))))
   dsimp -zeta only
   refine s_ite (fun hlt=>?_) fun hlt=>?_
   ·have hlt':rk y < rk z:=of_decide_eq_true hlt;have M2:=M.oneA sa sb h1 (by omega) (by omega) h4 ez ey (Int.le_of_lt hlt');refine wpS_bind (s_elem ez ?_);refine s_ite (fun he=>wpS_pure ⟨rfl,.inl ⟨_,rfl,?_⟩⟩) fun he=>?_
    ·have e:na - 1=0:=by simpa using he
     rw [e] at M2 ⊢;exact M2.done sb h4
    have hn:1<=na - 1:=by
     have:¬ na - 1=0:=by simpa using he
     omega
    exact s_ite (fun _=>wpS_pure ⟨rfl,.inr ⟨_,_,_,_,_,rfl,M2,hn,by omega,h3,h4,by omega⟩⟩) fun _=>wpS_pure ⟨rfl,_,_,_,_,_,rfl,M2,hn,by omega,h3,h4,by omega⟩
   ·have hlt':¬ rk y < rk z:=fun q=>hlt (decide_eq_true q);have M2:=M.oneB sa sb h1 (by omega) (by omega) h4 ez ey (Int.not_lt.mp hlt');refine wpS_bind (s_elem ey ?_);refine s_ite (fun he=>wpS_pure ⟨rfl,.inl ⟨_,rfl,?_⟩⟩) fun he=>?_
    ·have e:nb - 1=1:=by simpa using he
     rw [e] at M2 ⊢;exact M2.first sa sb hb (by omega) h0
    have hn:1 < nb - 1:=by
     have:¬ nb - 1=1:=by simpa using he
     omega
    exact s_ite (fun _=>wpS_pure ⟨rfl,.inr ⟨_,_,_,_,_,rfl,M2,h1,h2,hn,by omega,by omega⟩⟩) fun _=>wpS_pure ⟨rfl,_,_,_,_,_,rfl,M2,h1,h2,hn,by omega,by omega⟩
  case post1 =>
   intro c st' hI
   refine via fun G hG=>?_
   rcases hI with ⟨rfl,hc1 | ⟨na,nb,out,ac,bc,rfl,M,h1,h2,h3,h4,h5⟩⟩
   all_goals (refine hG ?_; clear hG)
   ·obtain ⟨res,e,hM⟩:=hc1;obtain ⟨c1,c2⟩:=c;dsimp only at e ⊢;subst e;exact wpS_pure ⟨res,rfl,hM,k1⟩
   dsimp -zeta only
   refine wpS_bind (wpS_lift (wpAny_rule ⟨rfl,?_⟩))
   refine wpS_bind (wpS_mono (wpS_forRange (I:=fun x c st2=>∃ na nb out mg ac bc,c=(none,na,nb,out,mg,ac,bc)/\Hi rk a b na nb out/\1<=na/\na < a.size/\1 < nb/\nb<=b.size/\na + nb + x0 + 2<=a.size + b.size/\Kept st0 st2)
    (Q:=fun c st2=>(∃ res,c.1=some res/\Mg rk a.toList b.toList res.toList/\Kept st0 st2)\/∃ na nb out mg ac bc,c=(none,na,nb,out,mg,ac,bc)/\Hi rk a b na nb out/\1<=na/\na < a.size/\1 < nb/\nb<=b.size/\na + nb + x0 + 2<=a.size + b.size/\Kept st0 st2) ?step2 ?fin2 ⟨_,_,_,_,_,_,rfl,M,h1,h2,h3,h4,h5,k1⟩) ?post2)
   case fin2 =>
    rintro c st2 hc
    exact .inr hc
   case post2 =>
    rintro c st2 (⟨res,e,hM,k2⟩ | ⟨na,nb,out,mg,ac,bc,rfl,M,h1,h2,h3,h4,h5,k2⟩)
    ·obtain ⟨c1,c2⟩:=c;dsimp only at e ⊢;subst e;exact wpS_pure ⟨res,rfl,hM,k2⟩
    ·dsimp -zeta only;exact wpS_bind (s_setG k2 fun st3 k3=>wpS_pure ⟨_,_,_,_,rfl,M,h1,h2,h3,h4,by omega,k3⟩)
   case step2 =>
    intro x c st2 _ hx hI
    refine via fun G hG=>?_
    obtain ⟨na,nb,out,mg,ac,bc,rfl,M,h1,h2,h3,h4,h5,k2⟩:=hI
    obtain ⟨y,ey,my⟩:=get_at (a:=b) (i:=nb - 1) (by omega)
    refine hG ?_
    clear hG
    dsimp -zeta only
    refine' cut ?key1 fun key=>s_ite (fun hmg=>?a1) fun hmg=>?b1
    case a1 =>
     generalize mg - 1=mg1
     revert mg1
     exact key.get
    case b1=>exact key.get mg
    intro mg1
    dsimp -zeta only
    refine wpS_bind (s_setG k2 fun st3 k3=>?_)
    have hk3:kindOf st3=κ:=k3.kind.trans hk
    refine wpS_bind (s_elem ey (wpS_bind (s_gallopR T hk3 (mb y my) ma (fun i j u v _ hij _ eu ev=>up_at sa hij eu ev) (by omega) (by omega) fun k hk4 g1 g2=>?_)))
    dsimp -zeta only
    refine' cut ?key2 fun key=>s_ite (fun hk0=>?a2) fun hk0=>?b2
    case a2 =>
     have M2:=M.someA sa sb (i:=k) (by omega) (by omega) (by omega) h4 ey fun j u hj1 hj2 eu=>Int.le_of_lt (g2 j u hj1 hj2 (by simpa using eu))
     refine s_ite (fun he=>wpS_pure (.inl ⟨_,rfl,(by
      have e:k=0:=by simpa using he
      rw [e] at M2 ⊢;exact M2.done sb h4),k3⟩)) fun he=>?_
     have h1':1<=k:=by
      have:¬ k=0:=by simpa using he
      omega
     have h2':k < a.size:=by omega
     have h5':k + nb + x0 + 2<=a.size + b.size:=by omega
     have g1':∀ z,a[k - 1]?=some z->rk z<=rk y:=fun z ez=>g1 (k - 1) z (by omega) (by simpa using ez)
     generalize out++(a.extract k na).reverse=out1 at M2 ⊢
     generalize na - k=kk
     generalize k=na1 at M2 h1' h2' h5' g1' ⊢
     revert g1'; revert h5'; revert h2'; revert h1'; revert M2; revert na1; revert kk; revert out1
     exact key.get
    case b2=>exact key.get out (na - k) na M h1 h2 h5 fun z ez=>g1 (na - 1) z (by omega) (by simpa using ez)
    intro out1 kk na1 M2 h1' h2' h5' g1'
    refine via fun G hG=>?_
    obtain ⟨z,ez,mz⟩:=get_at (a:=a) (i:=na1 - 1) (by omega)
    refine hG ?_
    clear hG
    have M3:=M2.oneB sa sb h1' (by omega) (by omega) h4 ez ey (g1' z ez)
    refine wpS_bind (s_elem ey ?_)
    refine s_ite (fun he=>wpS_pure (.inl ⟨_,rfl,(by
     have e:nb - 1=1:=by simpa using he
     rw [e] at M3 ⊢;exact M3.first sa sb hb (by omega) h0),k3⟩)) fun he=>?_
    have hn:1 < nb - 1:=by
     have:¬ nb - 1=1:=by simpa using he
     omega
    refine wpS_bind (s_elem ez (wpS_bind (s_gallopL T hk3 (ma z mz) mb (fun i j u v _ hij _ eu ev=>up_at sb hij eu ev) (by omega) (by omega) fun k' hk5 g3 g4=>?_)))
    dsimp -zeta only
    refine' cut ?key3 fun key=>s_ite (fun hk0'=>?a3) fun hk0'=>?b3
    case a3 =>
     have M4:=M3.someB sa sb (i:=k') (by omega) (by omega) h1' (by omega) ez fun j u hj1 hj2 eu=>g4 j u hj1 hj2 (by simpa using eu)
     refine s_ite (fun he=>wpS_pure (.inl ⟨_,rfl,(by
      have e:k'=1:=by simpa using he
      rw [e] at M4 ⊢;exact M4.first sa sb hb (by omega) h0),k3⟩)) fun he=>?_
     have k1':1<=k':=by
      refine Nat.one_le_iff_ne_zero.mpr fun hz=>?_;obtain ⟨v,ev,mv⟩:=get_at (a:=b) (i:=0) hb;have q1:=g4 0 v (by omega) (by omega) (by simpa using ev);have q2:=h0 v z ev mz;omega
     refine s_ite (fun he2=>absurd (show k'=0 by simpa using he2) (by omega)) fun he2=>?_
     have hn':1 < k':=by
      have:¬ k'=1:=by simpa using he
      omega
     have hb':k'<=b.size:=by omega
     have h5'':na1 + k' + x0 + 2<=a.size + b.size:=by omega
     have g3':∀ v,b[k' - 1]?=some v->rk v<=rk z:=fun v ev=>Int.le_of_lt (g3 (k' - 1) v (by omega) (by simpa using ev))
     generalize out1.push y++(b.extract k' (nb - 1)).reverse=out2 at M4 ⊢
     generalize nb - 1 - k'=kk'
     generalize k'=nb1 at M4 hn' hb' h5'' g3' ⊢
     revert g3'; revert h5''; revert hb'; revert hn'; revert M4; revert nb1; revert kk'; revert out2
     exact key.get
    case b3=>exact key.get (out1.push y) (nb - 1 - k') (nb - 1) M3 hn (by omega) (by omega) fun v ev=>Int.le_of_lt (g3 (nb - 1 - 1) v (by omega) (by simpa using ev))
    intro out2 kk' nb1 M4 hn' hb' h5'' g3'
    obtain ⟨v,ev,mv⟩:=get_at (a:=b) (i:=nb1 - 1) (by omega)
    have M5:=M4.oneA sa sb h1' (by omega) (by omega) hb' ez ev (g3' v ev)
    refine wpS_bind (s_elem ez ?_)
    refine s_ite (fun he=>wpS_pure (.inl ⟨_,rfl,(by
     have e:na1 - 1=0:=by simpa using he
     rw [e] at M5 ⊢;exact M5.done sb hb'),k3⟩)) fun he=>?_
    have hn2:1<=na1 - 1:=by
     have:¬ na1 - 1=0:=by simpa using he
     omega
    exact s_ite (fun _=>wpS_pure (.inr ⟨_,_,_,_,_,_,rfl,M5,hn2,by omega,hn',hb',by omega,k3⟩)) fun _=>wpS_pure ⟨_,_,_,_,_,_,rfl,M5,hn2,by omega,hn',hb',by omega,k3⟩
end
end GS
end L2
namespace L2
open PySem PySem.Spec PyProof.Rows PySem.W
namespace GS
theorem puts_size (sa:Nat):∀ (l:List Keyed) (j:Nat) (arr:Array Keyed),((l.zipIdx j).foldl (fun a (p:Keyed × Nat)=>a.setIfInBounds (sa + p.2) p.1) arr).size=arr.size
 | [],_,_=>rfl
 | x :: l,j,arr=>by
  rw [List.zipIdx_cons,List.foldl_cons,puts_size sa l (j + 1)];exact Array.size_setIfInBounds
theorem puts_at (sa:Nat):∀ (l:List Keyed) (j:Nat) (arr:Array Keyed) (i:Nat),sa + j + l.length<=arr.size->((l.zipIdx j).foldl (fun a (p:Keyed × Nat)=>a.setIfInBounds (sa + p.2) p.1) arr)[i]?=if sa + j<=i/\i < sa + j + l.length then l[i - (sa + j)]? else arr[i]?:=by
 intro l;induction l with
 | nil =>
  intro j arr i h;rw [if_neg (by simp only [List.length_nil]; omega)];rfl
 | cons x l ih =>
  intro j arr i h;rw [List.length_cons] at h;rw [List.zipIdx_cons,List.foldl_cons,ih (j + 1) _ i (by rw [Array.size_setIfInBounds]; omega),List.length_cons];by_cases h1:sa + (j + 1)<=i/\i < sa + (j + 1) + l.length
  ·rw [if_pos h1,if_pos (by omega),show i - (sa + j)=(i - (sa + (j + 1))) + 1 by omega,List.getElem?_cons_succ]
  ·rw [if_neg h1];by_cases h2:i=sa + j
   ·subst h2;rw [if_pos (by omega),Nat.sub_self,List.getElem?_cons_zero];show (arr.setIfInBounds (sa + j) x)[sa + j]?=some x;rw [Array.getElem?_setIfInBounds,if_pos rfl,if_pos (by omega)]
   ·rw [if_neg (by omega)];show (arr.setIfInBounds (sa + j) x)[i]?=arr[i]?;rw [Array.getElem?_setIfInBounds,if_neg (fun e=>h2 e.symm)]
section
variable {prog:Program}{w:World}{A:Around}{E:Value->Shared->Prop}{s:Shared}{rk:Keyed->Int}{κ:SortKind}{a0:Array Keyed}
theorem up_get {xs:Array Keyed}{lo hi:Nat}(u:Up rk xs lo hi){i j:Nat}{x y:Keyed}(h1:lo<=i)(h2:i<=j)(h3:j < hi)(ex:xs[i]?=some x)(ey:xs[j]?=some y):rk x<=rk y:=by
 have:=u i j h1 h2 h3;unfold Rk at this;rw [ex,ey] at this;exact this
theorem up_of {xs:Array Keyed}{lo hi:Nat}(hz:hi<=xs.size)(h:∀ i j x y,lo<=i->i<=j->j < hi->xs[i]?=some x->xs[j]?=some y->rk x<=rk y):Up rk xs lo hi:=fun i j h1 h2 h3=>by
 obtain ⟨x,ex,_⟩:=get_at (a:=xs) (i:=i) (by omega);obtain ⟨y,ey,_⟩:=get_at (a:=xs) (i:=j) (by omega);unfold Rk;rw [ex,ey];exact h i j x y h1 h2 h3 ex ey
theorem mem_arr {xs:Array Keyed}{i:Nat}{x:Keyed}(e:xs[i]?=some x):x ∈ xs.toList:=List.mem_of_getElem? (by rw [Array.getElem?_toList]; exact e)
theorem ext_get {xs:Array Keyed}{i j k:Nat}(h1:i<=j)(h2:j<=xs.size)(hk:k < j - i):(xs.extract i j)[k]?=xs[i + k]?:=by
 rw [Array.getElem?_extract,if_pos (by omega)]
theorem ext_size {xs:Array Keyed}{i j:Nat}(h2:j<=xs.size):(xs.extract i j).size=j - i:=by
 rw [Array.size_extract];omega
theorem ext_up {xs:Array Keyed}{lo hi i j:Nat}(u:Up rk xs lo hi)(h1:lo<=i)(h2:j<=hi)(h3:j<=xs.size):(xs.extract i j).toList.Pairwise fun x y=>rk x<=rk y:=by
 rw [List.pairwise_iff_getElem];intro m n hm hn hmn;rw [Array.length_toList,ext_size h3] at hm hn;have em:=ext_get (xs:=xs) (i:=i) (j:=j) (k:=m) (by omega) h3 hm;have en:=ext_get (xs:=xs) (i:=i) (j:=j) (k:=n) (by omega) h3 hn;refine up_get u (i:=i + m) (j:=i + n) (by omega) (by omega) (by omega) ?_ ?_
 ·rw [<- em,Array.getElem_toList];exact getElem?_pos _ _ _
 ·rw [<- en,Array.getElem_toList];exact getElem?_pos _ _ _
theorem ext_mem {xs:Array Keyed}{i j:Nat}{x:Keyed}(h3:j<=xs.size)(h:x ∈ (xs.extract i j).toList):∃ k,i<=k/\k < j/\xs[k]?=some x:=by
 obtain ⟨k,hk,e⟩:=List.getElem_of_mem h;rw [Array.length_toList,ext_size h3] at hk;refine ⟨i + k,by omega,by omega,?_⟩;rw [<- ext_get (xs:=xs) (i:=i) (j:=j) (by omega) h3 hk,<- e,Array.getElem_toList];exact getElem?_pos _ _ _
theorem s_set {st st1:SortSt}{Q:PUnit->SortSt->Prop}(h:∀ st2,st2=st1->Q ⟨⟩ st2):wpS (model prog w) A E s (set st1:StateT SortSt Sem PUnit) Q st:=by
 unfold wpS;rw [StateT.run_set];exact wpAny_pure ⟨rfl,h _ rfl⟩
set_option maxHeartbeats 8000000 in
theorem s_mergeAt {st:SortSt}{i sa na p1 nb p2:Nat}{Q:Bool->SortSt->Prop}(T:Tells prog w A s κ rk a0)(O:Ok κ a0 st)(e1:(pendingOf st)[i]?=some (sa,na,p1))(e2:(pendingOf st)[i + 1]?=some (sa + na,nb,p2))(hna:1<=na)(hnb:1<=nb)(hz:sa + na + nb<=a0.size)(u1:Up rk (arrOf st) sa (sa + na))(u2:Up rk (arrOf st) (sa + na) (sa + na + nb))
  (h:∀ st',Ok κ a0 st'->pendingOf st'=((pendingOf st).setIfInBounds i (sa,na + nb,p1)).eraseIdxIfInBounds (i + 1)->Up rk (arrOf st') sa (sa + na + nb)->(∀ j:Nat,(j < sa\/sa + na + nb<=j)->(arrOf st')[j]?=(arrOf st)[j]?)->Q true st'):wpS (model prog w) A E s (mergeAt' i) Q st:=by
 have hsz:=O.size;have mX:∀ x ∈ (arrOf st).toList,x ∈ a0.toList:=fun x hx=>(Array.perm_iff_toList_perm.mp O.perm).mem_iff.mp hx;obtain ⟨b0,eb0,mb0⟩:=get_at (a:=arrOf st) (i:=sa + na) (by omega);refine wpS_bind (wpS_get ?_);rw [e1,e2];dsimp only;refine wpS_bind (s_set fun st1 hst=>?_);have k1:kindOf st1=κ:=by rw [hst]; exact O.kind
 have ea:arrOf st1=arrOf st:=by rw [hst]
 have ep:pendingOf st1=((pendingOf st).setIfInBounds i (sa,na + nb,p1)).eraseIdxIfInBounds (i + 1):=by rw [hst]
 have ef:failedOf st1=none:=by rw [hst]; exact O.good
 have O1:Ok κ a0 st1:=⟨by rw [ea]; exact O.perm,k1,ef⟩;refine wpS_bind (s_elem eb0 (wpS_bind (s_gallopR T k1 (mX b0 mb0) mX (fun p q u v h1 h2 h3 eu ev=>up_get u1 h1 h2 h3 eu ev) (by show sa + na<=(arrOf st).size; omega) (by omega) fun k hk g1 g2=>?_)));dsimp only;refine s_ite (fun hc=>wpS_pure (h st1 O1 ep (up_of (by rw [ea]; omega) fun p q u v h1 h2 h3 eu ev=>?_) fun j _=>by rw [ea])) fun hc=>?_
 ·have ek:k=na:=by
   have:na - k=0:=by simpa using hc
   omega
  rw [ea] at eu ev;by_cases c1:q < sa + na
  ·exact up_get u1 h1 h2 c1 eu ev
  ·by_cases c2:p < sa + na
   ·have q1:=g1 (p - sa) u (by omega) (by rw [show sa + (p - sa)=p by omega]; exact eu);have q2:=up_get u2 (Nat.le_refl _) (by omega) h3 eb0 ev;omega
   ·exact up_get u2 (by omega) h2 h3 eu ev
 have hkn:k < na:=by
  have:¬ na - k=0:=by simpa using hc
  omega
 obtain ⟨al,eal,mal⟩:=get_at (a:=arrOf st) (i:=sa + k + (na - k) - 1) (by omega);have eal':(arrOf st)[sa + na - 1]?=some al:=by
  rw [<- eal];congr 1;omega
 refine wpS_bind (s_elem eal (wpS_bind (s_gallopL T k1 (mX al mal) mX (fun p q u v h1 h2 h3 eu ev=>up_get u2 h1 h2 h3 eu ev) (by show sa + na + nb<=(arrOf st).size; omega) (by omega) fun k' hk' g3 g4=>?_)));dsimp only;have b0a:rk b0 < rk al:=g2 (na - 1) al (by omega) (by omega) (by rw [show sa + (na - 1)=sa + na - 1 by omega]; exact eal');have k'1:1<=k':=by
  refine Nat.one_le_iff_ne_zero.mpr fun hz0=>?_;have:=g4 0 b0 (by omega) (by omega) (by simpa using eb0);omega
 refine s_ite (fun hc=>absurd (show k'=0 by simpa using hc) (by omega)) fun _=>?_;have X3:sa + na<=(arrOf st).size:=by omega
 have Y3:sa + na + k'<=(arrOf st).size:=by omega
 have xs:=ext_up (i:=sa + k) (j:=sa + na) u1 (by omega) (Nat.le_refl _) X3;have ys:=ext_up (i:=sa + na) (j:=sa + na + k') u2 (Nat.le_refl _) (by omega) Y3;have xm:∀ x ∈ ((arrOf st).extract (sa + k) (sa + na)).toList,x ∈ a0.toList:=fun x hx=>by
  obtain ⟨j,_,_,ej⟩:=ext_mem X3 hx;exact mX x (mem_arr ej)
 have ym:∀ x ∈ ((arrOf st).extract (sa + na) (sa + na + k')).toList,x ∈ a0.toList:=fun x hx=>by
  obtain ⟨j,_,_,ej⟩:=ext_mem Y3 hx;exact mX x (mem_arr ej)
 have xz:((arrOf st).extract (sa + k) (sa + na)).size=na - k:=by
  rw [ext_size X3];omega
 have yz:((arrOf st).extract (sa + na) (sa + na + k')).size=k':=by
  rw [ext_size Y3];omega
 have first:∀ x y,((arrOf st).extract (sa + na) (sa + na + k'))[0]?=some x->y ∈ ((arrOf st).extract (sa + k) (sa + na)).toList->rk x < rk y:=fun x y ex my=>by
  rw [ext_get (by omega) Y3 (by omega),Nat.add_zero,eb0] at ex;cases ex;obtain ⟨j,j1,j2,ej⟩:=ext_mem X3 my;exact g2 (j - sa) y (by omega) (by omega) (by rw [show sa + (j - sa)=j by omega]; exact ej)
 have last:∀ x ∈ ((arrOf st).extract (sa + na) (sa + na + k')).toList,∀ y,((arrOf st).extract (sa + k) (sa + na))[((arrOf st).extract (sa + k) (sa + na)).size - 1]?=some y->rk x < rk y:=fun x mx y ey=>by
  rw [xz,ext_get (by omega) X3 (by omega),show sa + k + (na - k - 1)=sa + na - 1 by omega,eal'] at ey;cases ey;obtain ⟨j,j1,j2,ej⟩:=ext_mem Y3 mx;exact g3 (j - (sa + na)) x (by omega) (by rw [show sa + na + (j - (sa + na))=j by omega]; exact ej)
 have tail:∀ (merged:Array Keyed) (st2:SortSt),Kept st1 st2->Mg rk ((arrOf st).extract (sa + k) (sa + na)).toList ((arrOf st).extract (sa + na) (sa + na + k')).toList merged.toList ->
   Q true (setArr st2 (merged.toList.zipIdx.foldl (fun a (p:Keyed × Nat)=>a.setIfInBounds (sa + k + p.2) p.1) (arrOf st2))):=fun merged st2 K2 hM=>by
  have ea2:arrOf st2=arrOf st:=K2.arr.trans ea;have ml:merged.toList.length=na - k + k':=by
   rw [hM.1.length_eq,List.length_append,Array.length_toList,Array.length_toList,xz,yz]
  have at_:∀ j:Nat,(merged.toList.zipIdx.foldl (fun a (p:Keyed × Nat)=>a.setIfInBounds (sa + k + p.2) p.1) (arrOf st2))[j]?=if sa + k<=j/\j < sa + na + k' then merged.toList[j - (sa + k)]? else (arrOf st)[j]?:=fun j=>by
   have:=puts_at (sa + k) merged.toList 0 (arrOf st2) j (by rw [ea2,ml]; omega);rw [this,ea2,Nat.add_zero,ml];by_cases c:sa + k<=j/\j < sa + na + k'
   ·rw [if_pos c,if_pos (by omega)]
   ·rw [if_neg c,if_neg (by omega)]
  have zA:=puts_size (sa + k) merged.toList 0 (arrOf st2);generalize hN:merged.toList.zipIdx.foldl (fun a (p:Keyed × Nat)=>a.setIfInBounds (sa + k + p.2) p.1) (arrOf st2)=N at at_ zA ⊢;have zN:N.size=a0.size:=by
   rw [zA,ea2,hsz]
  have nl:N.toList=(arrOf st).toList.take (sa + k)++merged.toList++(arrOf st).toList.drop (sa + na + k'):=by
   refine List.ext_getElem? fun j=>?_;rw [Array.getElem?_toList,at_ j];by_cases c1:j < sa + k
   ·rw [if_neg (by omega),List.append_assoc,List.getElem?_append_left (by rw [List.length_take,Array.length_toList]; omega),List.getElem?_take,if_pos c1,Array.getElem?_toList]
   ·rw [List.append_assoc,List.getElem?_append_right (by rw [List.length_take,Array.length_toList]; omega),List.length_take,Array.length_toList,show min (sa + k) (arrOf st).size=sa + k by omega];by_cases c2:j < sa + na + k'
    ·rw [if_pos ⟨by omega,c2⟩,List.getElem?_append_left (by rw [ml]; omega)]
    ·rw [if_neg (by omega),List.getElem?_append_right (by rw [ml]; omega),List.getElem?_drop,Array.getElem?_toList,ml];congr 1;omega
  have ol:(arrOf st).toList=(arrOf st).toList.take (sa + k)++(((arrOf st).extract (sa + k) (sa + na)).toList++((arrOf st).extract (sa + na) (sa + na + k')).toList)++(arrOf st).toList.drop (sa + na + k'):=by
   rw [ext_toList _ _ _ (by omega),ext_toList _ _ _ (by omega)];have d1:(arrOf st).toList.drop (sa + na)=((arrOf st).toList.drop (sa + k)).drop (na - k):=by
    rw [List.drop_drop];congr 1;omega
   have d2:(arrOf st).toList.drop (sa + na + k')=((arrOf st).toList.drop (sa + na)).drop k':=by
    rw [List.drop_drop]
   rw [d2,show sa + na + k' - (sa + na)=k' by omega,List.append_assoc,List.append_assoc,List.take_append_drop,d1,show sa + na - (sa + k)=na - k by omega,List.take_append_drop,List.take_append_drop]
  refine h _ ⟨?_,K2.kind.trans k1,K2.bad.trans ef⟩ (K2.pend.trans ep) (up_of (by show _<=N.size; omega) fun p q u v h1 h2 h3 eu ev=>?_) fun j hj=>?_
  ·refine Array.Perm.trans ?_ O.perm;rw [Array.perm_iff_toList_perm];show N.toList.Perm _;have pm:=List.Perm.append_right ((arrOf st).toList.drop (sa + na + k')) (List.Perm.append_left ((arrOf st).toList.take (sa + k)) hM.1);rw [<- ol,<- nl] at pm;exact pm
  ·have eu':N[p]?=some u:=eu;have ev':N[q]?=some v:=ev;rw [at_] at eu' ev';have mid:∀ {j:Nat} {x:Keyed},sa + k<=j->j < sa + na + k'->merged.toList[j - (sa + k)]?=some x->(∃ m,sa + k<=m/\m < sa + na/\(arrOf st)[m]?=some x)\/∃ m,sa + na<=m/\m < sa + na + k'/\(arrOf st)[m]?=some x:=fun _ _ e=>by
    rcases List.mem_append.mp (hM.1.mem_iff.mp (List.mem_of_getElem? e)) with z | z
    ·exact .inl (ext_mem X3 z)
    ·exact .inr (ext_mem Y3 z)
   by_cases c1:p < sa + k
   ·rw [if_neg (by omega)] at eu';by_cases c2:q < sa + k
    ·rw [if_neg (by omega)] at ev';exact up_get u1 h1 h2 (by omega) eu' ev'
    ·have low:∀ {m:Nat} {x:Keyed},sa + na<=m->m < sa + na + nb->(arrOf st)[m]?=some x->rk u<=rk x:=fun m1 m2 em=>by
      have q1:=g1 (p - sa) u (by omega) (by rw [show sa + (p - sa)=p by omega]; exact eu');exact Int.le_trans q1 (up_get u2 (Nat.le_refl _) m1 m2 eb0 em)
     by_cases c3:q < sa + na + k'
     ·rw [if_pos ⟨by omega,c3⟩] at ev';rcases mid (by omega) c3 ev' with ⟨m,m1,m2,em⟩ | ⟨m,m1,m2,em⟩
      ·exact up_get u1 h1 (by omega) m2 eu' em
      ·exact low m1 (by omega) em
     ·rw [if_neg (by omega)] at ev';exact low (by omega) h3 ev'
   ·by_cases c4:p < sa + na + k'
    ·rw [if_pos ⟨by omega,c4⟩] at eu';by_cases c3:q < sa + na + k'
     ·rw [if_pos ⟨by omega,c3⟩] at ev';by_cases epq:p=q
      ·subst epq;rw [eu'] at ev';cases ev';exact Int.le_refl _
      ·have sp:=hM.2;rw [List.pairwise_iff_getElem] at sp;obtain ⟨a1,a2⟩:=List.getElem?_eq_some_iff.mp eu';obtain ⟨b1,b2⟩:=List.getElem?_eq_some_iff.mp ev';have:=sp _ _ a1 b1 (by omega);rw [a2,b2] at this;exact this
     ·rw [if_neg (by omega)] at ev';have q4:=g4 (q - (sa + na)) v (by omega) (by omega) (by rw [show sa + na + (q - (sa + na))=q by omega]; exact ev');rcases mid (by omega) c4 eu' with ⟨m,m1,m2,em⟩ | ⟨m,m1,m2,em⟩
      ·exact Int.le_trans (up_get u1 (by omega) (by omega) (by omega) em eal') q4
      ·exact up_get u2 m1 (by omega) h3 em ev'
    ·rw [if_neg (by omega)] at eu' ev';exact up_get u2 (by omega) h2 h3 eu' ev'
  ·show N[j]?=_;rw [at_,if_neg (by omega)]
 refine s_ite (fun _=>?_) fun _=>?_
 ·refine wpS_bind (s_mergeLo T k1 xm ym xs ys (Nat.lt_of_lt_of_eq (show 0 < na - k by omega) xz.symm) (Nat.lt_of_lt_of_eq (show 0 < k' by omega) yz.symm) (fun x y ex my=>Int.le_of_lt (first x y ex my)) last fun out st2 K2 hM=>?_);refine wpS_bind (wpS_modify (wpS_bind (wpS_get ?_)));rw [show (failedOf st2).isNone=true by rw [K2.bad,ef]; rfl];exact wpS_pure (tail out st2 K2 hM)
 ·refine wpS_bind (s_mergeHi T k1 xm ym xs ys (Nat.lt_of_lt_of_eq (show 0 < na - k by omega) xz.symm) (Nat.lt_of_lt_of_eq (show 0 < k' by omega) yz.symm) first last fun out st2 K2 hM=>?_);refine wpS_bind (wpS_modify (wpS_bind (wpS_get ?_)));rw [show (failedOf st2).isNone=true by rw [K2.bad,ef]; rfl];exact wpS_pure (tail out st2 K2 hM)
end
end GS
end L2
namespace L2
open PySem PySem.Spec PyProof.Rows PySem.W
namespace GS
noncomputable def Tiles:List (Nat × Nat × Nat)->Nat->Nat->Prop
 | [],s,e=>s=e
 | r :: l,s,e=>r.1=s/\1<=r.2.1/\Tiles l (s + r.2.1) e
theorem tiles_append:∀ {l1 l2:List (Nat × Nat × Nat)} {s e:Nat},Tiles (l1++l2) s e ↔ ∃ m,Tiles l1 s m/\Tiles l2 m e
 | [],l2,s,e=>⟨fun h=>⟨s,rfl,h⟩,fun ⟨m,h1,h2⟩=>by
  have e:s=m:=h1;subst e;exact h2⟩
 | r :: l1,l2,s,e=>by
  constructor
  ·rintro ⟨h1,h2,h3⟩;obtain ⟨m,h4,h5⟩:=tiles_append.mp h3;exact ⟨m,⟨h1,h2,h4⟩,h5⟩
  ·rintro ⟨m,⟨h1,h2,h3⟩,h4⟩;exact ⟨h1,h2,tiles_append.mpr ⟨m,h3,h4⟩⟩
theorem tiles_le:∀ {l:List (Nat × Nat × Nat)} {s e:Nat},Tiles l s e->s<=e/\l.length + s<=e/\∀ r ∈ l,s<=r.1/\r.1 + r.2.1<=e
 | [],s,e,h=>by
  have e':s=e:=h;subst e';exact ⟨Nat.le_refl _,by simp,fun r hr=>nomatch hr⟩
 | r :: l,s,e,⟨h1,h2,h3⟩=>by
  obtain ⟨a1,a2,a3⟩:=tiles_le h3;refine ⟨by omega,by rw [List.length_cons]; omega,fun q hq=>?_⟩;rcases List.mem_cons.mp hq with rfl | hq
  ·omega
  ·have:=a3 q hq;omega
section
variable {prog:Program}{w:World}{A:Around}{E:Value->Shared->Prop}{s:Shared}{rk:Keyed->Int}{κ:SortKind}{a0:Array Keyed}
structure PI (rk:Keyed->Int)(κ:SortKind)(a0:Array Keyed)(lo:Nat)(st:SortSt):Prop where
 ok:Ok κ a0 st
 til:Tiles (pendingOf st).toList 0 lo
 up:∀ r ∈ (pendingOf st).toList,Up rk (arrOf st) r.1 (r.1 + r.2.1)
theorem up_same {xs ys:Array Keyed}{lo hi:Nat}(u:Up rk xs lo hi)(h:∀ j:Nat,lo<=j->j < hi->ys[j]?=xs[j]?):Up rk ys lo hi:=fun i j h1 h2 h3=>by
 rw [Rk_congr (h i h1 (by omega)),Rk_congr (h j (by omega) h3)];exact u i j h1 h2 h3
theorem two_at {p:List (Nat × Nat × Nat)}{i:Nat}(h:i + 1 < p.length):∃ l1 r1 r2 l2,p=l1++r1 :: r2 :: l2/\l1.length=i/\p[i]?=some r1/\p[i + 1]?=some r2:=by
 refine ⟨p.take i,p[i],p[i + 1],p.drop (i + 2),?_,by rw [List.length_take]; omega,List.getElem?_eq_getElem (by omega),List.getElem?_eq_getElem h⟩;rw [<- List.drop_eq_getElem_cons h,<- List.drop_eq_getElem_cons (by omega),List.take_append_drop]
theorem s_mergeP {st:SortSt}{lo i:Nat}{Q:Bool->SortSt->Prop}(T:Tells prog w A s κ rk a0)(P:PI rk κ a0 lo st)(hi:i + 1 < (pendingOf st).size)(hlo:lo<=a0.size)
  (h:∀ st',PI rk κ a0 lo st'->(pendingOf st').size + 1=(pendingOf st).size->(∀ j:Nat,lo<=j->(arrOf st')[j]?=(arrOf st)[j]?)->Q true st'):wpS (model prog w) A E s (mergeAt' i) Q st:=by
 obtain ⟨l1,⟨sa,na,p1⟩,⟨sb,nb,p2⟩,l2,ep,el,e1,e2⟩:=two_at (p:=(pendingOf st).toList) (i:=i) (by rw [Array.length_toList]; exact hi);have til:=P.til;rw [ep] at til;obtain ⟨m,t1,⟨a1,a2,a3,a4,a5⟩⟩:=tiles_append.mp til;dsimp only at a1 a2 a3 a4 a5;subst a1;subst a3;rw [Array.getElem?_toList] at e1 e2;have u1:=P.up (sa,na,p1) (by rw [ep]; simp);have u2:=P.up (sa + na,nb,p2) (by rw [ep]; simp);dsimp only at u1 u2;obtain ⟨b1,b2,b3⟩:=tiles_le a5;obtain ⟨c1,c2,c3⟩:=tiles_le t1;refine s_mergeAt T P.ok e1 e2 a2 a4 (by omega) u1 u2 fun st' O' ep' up' out'=>?_;have el':(pendingOf st').toList=l1++(sa,na + nb,p1) :: l2:=by
  rw [ep',Array.toList_eraseIdxIfInBounds,Array.toList_setIfInBounds,ep,<- el];rw [List.set_append_right _ _ (Nat.le_refl _),Nat.sub_self,List.set_cons_zero,List.eraseIdx_append_of_length_le (by omega),show l1.length + 1 - l1.length=1 by omega];rfl
 refine h st' ⟨O',?_,fun r hr=>?_⟩ ?_ fun j hj=>out' j (by omega)
 ·rw [el'];exact tiles_append.mpr ⟨sa,t1,rfl,by show 1<=na + nb; omega,by rw [show sa + (na + nb)=sa + na + nb by omega]; exact a5⟩
 ·rw [el'] at hr;rcases List.mem_append.mp hr with hr | hr
  ·have:=c3 r hr;exact up_same (P.up r (by rw [ep]; exact List.mem_append_left _ hr)) fun j h1 h2=>out' j (by omega)
  ·rcases List.mem_cons.mp hr with rfl | hr
   ·show Up rk (arrOf st') sa (sa + (na + nb));rw [show sa + (na + nb)=sa + na + nb by omega];exact up'
   ·have:=b3 r hr;exact up_same (P.up r (by rw [ep]; simp [hr])) fun j h1 h2=>out' j (by omega)
 ·rw [<- Array.length_toList,el',<- Array.length_toList,ep];simp only [List.length_append,List.length_cons];omega
theorem PI.step {lo lo':Nat}{st st':SortSt}(P:PI rk κ a0 lo st)(S:Step κ a0 lo' st st')(h:lo<=lo'):PI rk κ a0 lo st':=by
 refine ⟨S.ok,by rw [S.pend]; exact P.til,fun r hr=>?_⟩;rw [S.pend] at hr;have:=(tiles_le P.til).2.2 r hr;exact up_same (P.up r hr) fun j h1 h2=>S.low j (by omega)
theorem tiles_power (pw:Nat):∀ {l:List (Nat × Nat × Nat)} {k s e:Nat},Tiles l s e->Tiles (l.modify k fun r=>(r.1,r.2.1,pw)) s e
 | [],k,s,e,h=>by
  cases k <;> exact h
 | r :: l,0,s,e,⟨h1,h2,h3⟩=>⟨h1,h2,h3⟩
 | r :: l,k + 1,s,e,⟨h1,h2,h3⟩=>⟨h1,h2,tiles_power pw h3⟩
theorem mem_power {pw:Nat}:∀ {l:List (Nat × Nat × Nat)} {k:Nat} {r:Nat × Nat × Nat},r ∈ l.modify k (fun r=>(r.1,r.2.1,pw))->∃ q ∈ l,q.1=r.1/\q.2.1=r.2.1
 | [],k,r,h=>by
  cases k <;> cases h
 | q :: l,0,r,h=>by
  rcases List.mem_cons.mp h with rfl | h
  ·exact ⟨q,List.mem_cons_self,rfl,rfl⟩
  ·exact ⟨r,List.mem_cons_of_mem _ h,rfl,rfl⟩
 | q :: l,k + 1,r,h=>by
  rcases List.mem_cons.mp h with rfl | h
  ·exact ⟨r,List.mem_cons_self,rfl,rfl⟩
  ·obtain ⟨q',h1,h2⟩:=mem_power h;exact ⟨q',List.mem_cons_of_mem _ h1,h2⟩
theorem ite_le (c:Prop) [Decidable c](n:Nat):(if c then n - 1 else n)<=n:=by
 split <;> omega
theorem s_sort {st:SortSt}{Q:Unit->SortSt->Prop}(T:Tells prog w A s κ rk a0)(O:Ok κ a0 st)(hp:pendingOf st=#[])(h:∀ st',Ok κ a0 st'->Up rk (arrOf st') 0 a0.size->Q () st'):wpS (model prog w) A E s sortRuns' Q st:=by
 rw [sortRuns'_eq];refine wpS_bind (wpS_get ?_);dsimp only;rw [O.size];generalize minRun' a0.size a0.size 0=mr;refine wpS_bind (wpS_mono (wpS_forRange (I:=fun x c st'=>∃ lo,c=(none,lo)/\PI rk κ a0 lo st'/\lo<=a0.size/\x<=lo)
  (Q:=fun c st'=>c=(none,a0.size)/\PI rk κ a0 a0.size st') ?step ?fin ⟨0,rfl,⟨O,by rw [hp]; rfl,fun r hr=>by rw [hp] at hr; cases hr⟩,Nat.zero_le _,Nat.le_refl _⟩) ?post)
 case fin =>
  rintro c st' ⟨lo,rfl,P,h1,h2⟩
  obtain rfl:lo=a0.size:=by omega
  exact ⟨rfl,P⟩
 case step =>
  rintro x c st1 _ hx ⟨lo,rfl,P,h1,h2⟩
  dsimp only
  refine s_ite (fun hge=>?_) fun hge=>?_
  ·obtain rfl:lo=a0.size:=by omega
   exact wpS_pure ⟨rfl,P⟩
  refine wpS_bind (s_run T P.ok (by omega) (by omega) fun m st2 S m1 m2 hu=>?_)
  dsimp only
  have P2:=P.step S (Nat.le_refl _)
  refine s_ite (fun hmr=>?_) fun hmr=>?_
  refine wpS_bind (wpS_lift (wpAny_rule ⟨rfl,?_⟩))
  refine wpS_bind (s_bin T S.ok (by omega) (by omega) hu fun st3 S3 hu3=>?_)
  rw [if_neg (by decide)]
  have P3:=P2.step S3 (Nat.le_refl _)
  have n1:1<=min (a0.size - lo) mr:=by omega
  have n2:lo + min (a0.size - lo) mr<=a0.size:=by omega
  clear P2 S3
  generalize min (a0.size - lo) mr=n at hu3 n1 n2 ⊢
  rotate_left
  have P3:=P2
  have hu3:=hu
  have n1:=m1
  have n2:lo + m<=a0.size:=by omega
  clear P2
  generalize m=n at hu3 n1 n2 ⊢
  generalize st2=st3 at P3 hu3 ⊢
  rotate_left
  all_goals
   refine wpS_bind (wpS_get ?_)
   have fin:∀ st4,PI rk κ a0 lo st4->Up rk (arrOf st4) lo (lo + n)->PI rk κ a0 (lo + n) (setPending st4 ((pendingOf st4).push (lo,n,0))):=fun st4 P4 u4=>by
    refine ⟨⟨P4.ok.perm,P4.ok.kind,P4.ok.good⟩,?_,fun r hr=>?_⟩
    ·show Tiles ((pendingOf st4).push (lo,n,0)).toList 0 (lo + n);rw [Array.toList_push];exact tiles_append.mpr ⟨lo,P4.til,rfl,n1,rfl⟩
    ·have hr':r ∈ ((pendingOf st4).push (lo,n,0)).toList:=hr;rw [Array.toList_push] at hr';rcases List.mem_append.mp hr' with hr' | hr'
     ·exact P4.up r hr'
     ·have er:r=(lo,n,0):=by simpa using hr'
      subst er;exact u4
   cases hbk:(pendingOf st3).back? with
   | none =>
    dsimp only;exact wpS_bind (wpS_modify (wpS_pure ⟨lo + n,rfl,fin st3 P3 hu3,n2,by omega⟩))
   | some r =>
    obtain ⟨s1,k1,q1⟩:=r;dsimp only;generalize power' a0.size (2 * s1 + k1) (2 * s1 + k1 + k1 + n) a0.size=pw;refine wpS_bind (wpS_mono (wpS_forRange (I:=fun _ c st4=>c=(none,())/\PI rk κ a0 lo st4/\Up rk (arrOf st4) lo (lo + n)) (Q:=fun c st4=>c=(none,())/\PI rk κ a0 lo st4/\Up rk (arrOf st4) lo (lo + n)) ?_ (fun _ _ hh=>hh) ⟨rfl,P3,hu3⟩) ?_)
    ·rintro y c st4 _ _ ⟨rfl,P4,u4⟩;refine wpS_bind (wpS_get ?_);by_cases hz:(pendingOf st4).size > 1
     ·rw [if_pos hz,getElem?_pos (pendingOf st4) ((pendingOf st4).size - 2) (by omega)];generalize (pendingOf st4)[(pendingOf st4).size - 2]'(by omega)=r2;obtain ⟨r2a,r2b,r2c⟩:=r2;dsimp only;refine s_ite (fun _=>wpS_pure ⟨rfl,P4,u4⟩) fun _=>?_;refine wpS_bind (s_mergeP T P4 (by omega) h1 fun st5 P5 _ out5=>?_);rw [if_neg (by decide)];exact wpS_pure ⟨rfl,P5,up_same u4 fun j j1 _=>out5 j j1⟩
     ·rw [if_neg hz];exact wpS_pure ⟨rfl,P4,u4⟩
    ·rintro c st4 ⟨rfl,P4,u4⟩;dsimp only;refine wpS_bind (wpS_modify (wpS_bind (wpS_modify (wpS_pure ⟨lo + n,rfl,fin _ ⟨⟨P4.ok.perm,P4.ok.kind,P4.ok.good⟩,?_,fun r hr=>?_⟩ u4,n2,by omega⟩))))
     ·show Tiles ((pendingOf st4).modify ((pendingOf st4).size - 1) fun r=>(r.1,r.2.1,pw)).toList 0 lo;rw [Array.toList_modify];exact tiles_power pw P4.til
     ·have hr':r ∈ ((pendingOf st4).modify ((pendingOf st4).size - 1) fun r=>(r.1,r.2.1,pw)).toList:=hr;rw [Array.toList_modify] at hr';obtain ⟨q,hq,e1,e2⟩:=mem_power hr';have:=P4.up q hq;rw [e1,e2] at this;exact this
 case post =>
  rintro c st1 ⟨rfl,P⟩
  dsimp only
  have len0:=(tiles_le P.til).2.1
  rw [Array.length_toList] at len0
  refine wpS_bind (wpS_mono (wpS_forRange (I:=fun x c st2=>c=(none,())/\PI rk κ a0 a0.size st2/\((pendingOf st2).size + x<=a0.size\/(pendingOf st2).size<=1)) (Q:=fun c st2=>c=(none,())/\PI rk κ a0 a0.size st2/\(pendingOf st2).size<=1) ?step2 ?fin2 ⟨rfl,P,.inl (by omega)⟩) ?post2)
  case fin2 =>
   rintro c st2 ⟨rfl,P2,hz⟩
   exact ⟨rfl,P2,by omega⟩
  case step2 =>
   rintro x c st2 _ hx ⟨rfl,P2,hz⟩
   refine wpS_bind (wpS_get ?_)
   refine s_ite (fun h1=>wpS_pure ⟨rfl,P2,h1⟩) fun h1=>?_
   refine wpS_bind (s_mergeP T P2 ?_ (Nat.le_refl _) fun st3 P3 z3 _=>?_)
   ·exact Nat.lt_of_le_of_lt (Nat.add_le_add_right (ite_le _ _) 1) (show (pendingOf st2).size - 2 + 1 < (pendingOf st2).size by omega)
   ·rw [if_neg (by decide)];exact wpS_pure ⟨rfl,P3,by omega⟩
  case post2 =>
   rintro c st2 ⟨rfl,P2,hz⟩
   dsimp only
   refine wpS_pure (h st2 P2.ok ?_)
   have til:=P2.til
   have up:=P2.up
   have zl:(pendingOf st2).toList.length<=1:=by rw [Array.length_toList]; exact hz
   cases hl:(pendingOf st2).toList with
   | nil =>
    rw [hl] at til;have e:0=a0.size:=til;exact fun i j _ _ h3=>absurd h3 (by omega)
   | cons r l =>
    rw [hl] at til zl up;obtain rfl:l=[]:=List.length_eq_zero_iff.mp (by rw [List.length_cons] at zl; omega);obtain ⟨t1,t2,t3⟩:=til;have t3':0 + r.2.1=a0.size:=t3;have u:=up r List.mem_cons_self;rw [t1,t3'] at u;exact u
end
end GS
end L2
namespace L2
open PySem PySem.Spec PyProof.Rows PySem.W
namespace GS
structure Wk {K:Type}(lt:K->K->Bool):Prop where
 tot:∀ x y,lt x y=true->lt y x=false
 tr:∀ x y z,lt y x=false->lt z y=false->lt z x=false
noncomputable def rkK {K:Type}(lt:K->K->Bool)(ks:List K)(k:K):Int:=((ks.countP fun q=>lt q k:Nat):Int)
theorem count_le {K:Type}{p q:K->Bool}:∀ {ks:List K},(∀ x ∈ ks,p x=true->q x=true)->ks.countP p<=ks.countP q
 | [],_=>Nat.le_refl _
 | x :: ks,h=>by
  have ih:=count_le (ks:=ks) fun y hy=>h y (List.mem_cons_of_mem _ hy);rw [List.countP_cons,List.countP_cons];have hx:=h x List.mem_cons_self;by_cases c:p x=true
  ·rw [if_pos c,if_pos (hx c)];omega
  ·rw [if_neg c];omega
theorem count_lt {K:Type}{p q:K->Bool}{ks:List K}(h:∀ x ∈ ks,p x=true->q x=true)(hq:∃ x ∈ ks,p x=false/\q x=true):ks.countP p < ks.countP q:=by
 obtain ⟨y,hy,h1,h2⟩:=hq;induction ks with
 | nil=>cases hy
 | cons x ks ih =>
  rw [List.countP_cons,List.countP_cons];have hx:=h x List.mem_cons_self;rcases List.mem_cons.mp hy with rfl | hy
  ·have ih:=count_le (ks:=ks) fun y hy=>h y (List.mem_cons_of_mem _ hy);rw [h1,h2,if_neg Bool.false_ne_true,if_pos rfl];omega
  ·have ih:=ih (fun y hy=>h y (List.mem_cons_of_mem _ hy)) hy;by_cases c:p x=true
   ·rw [if_pos c,if_pos (hx c)];omega
   ·rw [if_neg c];omega
theorem Wk.rank {K:Type}{lt:K->K->Bool}(W:Wk lt){ks:List K}{x y:K}(hx:x ∈ ks):lt x y=decide (rkK lt ks x < rkK lt ks y):=by
 unfold rkK;cases h:lt x y with
 | true =>
  refine (decide_eq_true ?_).symm;have:=count_lt (ks:=ks) (p:=fun q=>lt q x) (q:=fun q=>lt q y) (fun q _ hq=>?_) ⟨x,hx,?_,h⟩
  ·omega
  ·cases hc:lt q y with
   | true=>rfl
   | false =>
    have:=W.tr x y q (W.tot x y h) hc;have hq':lt q x=true:=hq;rw [this] at hq';cases hq'
  ·cases hc:lt x x with
   | false=>rfl
   | true=>exact hc.symm.trans (W.tot x x hc)
 | false =>
  refine (decide_eq_false ?_).symm;have:=count_le (ks:=ks) (p:=fun q=>lt q y) (q:=fun q=>lt q x) fun q _ hq=>by
   cases hc:lt q x with
   | true=>rfl
   | false =>
    have:=W.tr y x q h hc;have hq':lt q y=true:=hq;rw [this] at hq';cases hq'
  omega
section
variable {prog:Program}{w:World}{A:Around}{E:Value->Shared->Prop}{s:Shared}
theorem srtG_list {a:Addr}{vs:List Value}{n:Nat}{P:PySem.Fin->Shared->Prop}(ho:s.heap.get? a=some (seqObj "list" vs.toArray n))(hz:vs.length<=sizeLine)(r:Value->Int)
  (hk:2<=vs.length->∀ s':Shared,(∀ b o,b ≠ a->s.heap.get? b=some o->s'.heap.get? b=some o)->wpAny (model prog w) A (keyKind' vs.toArray) (fun κ s2=>s2=s'/\Tells prog w A s' κ (fun p=>r p.1) (pairsOf vs)) (fun _ _=>False) s')
  (h:∀ (ws:List Value) (h':Heap) (c:Nat),ws.Perm vs->ws.Pairwise (fun x y=>r x<=r y)->(∀ b o,b ≠ a->s.heap.get? b=some o->h'.get? b=some o)->h'.get? a=some (seqObj "list" ws.toArray c)->P (.done (.ret .none)) { s with heap:=h' }) :
  wpAny (model prog w) A (Builtin.«list.sort» ⟨[.ref a],[]⟩) P E s:=by
 have lta:a < s.heap.objs.size:=Heap.lt_size ho;have hu1:=get?_update_seq ho fun _=>(#[]:Array Value);generalize hX:s.heap.update a (Obj.mapSeq fun _=>(#[]:Array Value))=X1 at hu1;have zX:X1.objs.size=s.heap.objs.size:=by rw [<- hX,Heap.size_update]
 have kX:∀ b o,b ≠ a->s.heap.get? b=some o->X1.get? b=some o:=fun b o hb e=>by
  rw [<- hX,Heap.get?_update_ne _ _ _ _ hb];exact e
 obtain ⟨e1,hu⟩:∃ e1,X1.get? a=some (seqObj "list" #[] e1):=⟨_,hu1⟩;generalize hY:(X1.push (seqObj "tuple" vs.toArray 0)).push (seqObj "list" #[] 0)=Y;have hYa:Y.get? a=some (seqObj "list" #[] e1):=by
  rw [<- hY];exact Heap.get?_push_of_some _ (Heap.get?_push_of_some _ hu)
 have kY:∀ b o,b ≠ a->s.heap.get? b=some o->Y.get? b=some o:=fun b o hb e=>by
  rw [<- hY];exact Heap.get?_push_of_some _ (Heap.get?_push_of_some _ (kX b o hb e))
 have last:∀ (st:SortSt),(((arrOf st).map (·.2)).toList.Perm vs)->(((arrOf st).map (·.2)).toList.Pairwise fun x y=>r x<=r y)->failedOf st=none ->
   wpAny (model prog w) A (do
    let touched:=(<- seqEpoch a) != e1
    Builtin.List.listUpdate (.ref a) fun _=>(arrOf st).map (·.2)
    if let some e:=failedOf st then rule "list.sort.comparison-raised"; throw e
    if touched then rule "list.sort.modified"; raiseError "ValueError" "list modified during sort"
    ret .none) P E { s with heap:=Y }:=by
  intro st hp hs hf;generalize ew:(arrOf st).map (·.2)=wsA at hp hs;rw [hf];have hlen:wsA.size=vs.length:=by rw [<- Array.length_toList,hp.length_eq]
  have hu2:=get?_update_seq hYa fun _=>wsA;refine wpAny_bind (seqEpoch_at hYa rfl (wpAny_bind (listUpdate_at hYa rfl ?_ (Nat.zero_le _) (by rw [hlen]; omega))));simp only [bne_self_eq_false,Bool.false_eq_true,if_false];refine wpAny_pure (h wsA.toList _ _ hp hs (fun b o hb e=>?_) hu2);rw [Heap.get?_update_ne _ _ _ _ hb];exact kY b o hb e
 rw [list_sort_plain];refine wpAny_bind (listItems_at ho rfl (wpAny_bind (listUpdate_at ho rfl ?_ (by rw [List.size_toArray]; exact hz) (Nat.zero_le _))));rw [hX];refine wpAny_bind (seqEpoch_at hu rfl (wpAny_bind (wpAny_newTuple (wpAny_bind (wpAny_newList ?_ (Nat.zero_le _))) hz)));show wpAny (model prog w) A _ P E { s with heap:=(X1.push (seqObj "tuple" vs.toArray 0)).push (seqObj "list" #[] 0) };rw [hY];refine wpAny_holding ?_;dsimp only;have e2:((pairsOf vs).map (·.2)).toList=vs:=by
  rw [Array.toList_map,pairsOf_toList];exact List.map_snd_zip (Nat.le_refl _)
 by_cases c2:vs.toArray.size < 2
 ·have c2':vs.length < 2:=by rw [List.size_toArray] at c2; exact c2
  rw [if_pos c2,if_pos c2];refine wpAny_bind (wpAny_pure ?_);rw [StateT.run_pure];refine wpAny_bind (wpAny_pure ?_);refine last (SortSt.mk' general' (pairsOf vs) #[] 7 none) (by show ((pairsOf vs).map (·.2)).toList.Perm vs; rw [e2]) (by
   show ((pairsOf vs).map (·.2)).toList.Pairwise _;rw [e2,List.pairwise_iff_getElem];intro i j hi hj hij;omega) rfl
 ·have c2':2<=vs.length:=by rw [List.size_toArray] at c2; omega
  rw [if_neg c2,if_neg c2];refine wpAny_bind (wpAny_mono (hk c2' { s with heap:=Y } kY) (fun κ s2 ⟨e3,T⟩=>?_) fun _ _ x=>x.elim);subst e3;have run:=s_sort (E:=E) (st:=SortSt.mk' κ (pairsOf vs) #[] 7 none) (Q:=fun _ st'=>(((arrOf st').map (·.2)).toList.Perm vs)/\(((arrOf st').map (·.2)).toList.Pairwise fun x y=>r x<=r y)/\failedOf st'=none) T ⟨Array.Perm.refl _,rfl,rfl⟩ rfl fun st' O hu=>?_
  ·unfold wpS at run;refine wpAny_bind (wpAny_mono run ?_ fun _ _ z=>z);rintro ⟨⟨⟩,st'⟩ s' ⟨rfl,hp,hs,hf⟩;exact last st' hp hs hf
  ·have pm:=Array.perm_iff_toList_perm.mp O.perm;have same:∀ p ∈ (arrOf st').toList,p.1=p.2:=fun p hp=>by
    have:=pm.mem_iff.mp hp;rw [pairsOf_toList] at this;exact (mem_zip_self this).1
   refine ⟨?_,?_,O.good⟩
   ·have:=pm.map (·.2);rw [Array.toList_map];rw [pairsOf_toList,List.map_snd_zip (Nat.le_refl _)] at this;exact this
   ·rw [Array.toList_map,List.pairwise_map,List.pairwise_iff_getElem];intro i j hi hj hij;have zs:=O.size;rw [Array.length_toList] at hi hj;have u:=up_get hu (i:=i) (j:=j) (Nat.zero_le _) (by omega) (by omega) (getElem?_pos _ i hi) (getElem?_pos _ j hj);have s1:=same (arrOf st')[i] (by simp);have s2:=same (arrOf st')[j] (by simp);rw [Array.getElem_toList,Array.getElem_toList,<- s1,<- s2];exact u
theorem srtG_call {l:Addr}{vs:List Value}{Q:Value->Shared->Prop}(hl:s.heap.IsList l vs.toArray)(hz:vs.length<=sizeLine)(r:Value->Int)
  (hk:2<=vs.length->∀ s':Shared,(∀ b o,s.heap.get? b=some o->s'.heap.get? b=some o)->wpAny (model prog w) A.in1.in1 (keyKind' vs.toArray) (fun κ s2=>s2=s'/\Tells prog w A.in1.in1 s' κ (fun p=>r p.1) (pairsOf vs)) (fun _ _=>False) s')
  (h:∀ (ws:List Value) (h':Heap) (c:Nat),ws.Perm vs->ws.Pairwise (fun x y=>r x<=r y)->(∀ b o,s.heap.get? b=some o->h'.get? b=some o)->h'.get? (s.heap.objs.size + 1)=some (seqObj "list" ws.toArray c)->Q (.ref (s.heap.objs.size + 1)) { s with heap:=h' }) :
  wpAny (model prog w) A (call (.builtin "sorted") [.ref l]) Q E s:=by
 generalize hX:(s.heap.push (seqObj "list" #[] 0)).update s.heap.objs.size (Obj.mapSeq (·++vs.toArray))=X1;have zX:X1.objs.size=s.heap.objs.size + 1:=by rw [<- hX,Heap.size_update,Heap.size_push]
 have kX:∀ b o,s.heap.get? b=some o->X1.get? b=some o:=fun b o e=>by
  have lt:=Heap.lt_size e;rw [<- hX,Heap.get?_update_ne _ _ _ _ (Nat.ne_of_lt lt)];exact Heap.get?_push_of_some _ e
 apply Calls.call_function_entry kind_sorted plain_sorted entry_sorted (args_sorted1 _);unfold Builtin.«sorted»;refine wpAny_bind (m:=checkCount "sorted" 1 1 _) (wpAny_pure (wpAny_bind (collect_list hl ?_ hz)));rw [hX];refine wpAny_bind (wpAny_newList ?_ hz);show wpAny _ _ _ _ _ { s with heap:=X1.push (seqObj "list" vs.toArray 0) };have hoL:(X1.push (seqObj "list" vs.toArray 0)).get? (s.heap.objs.size + 1)=some (seqObj "list" vs.toArray 0):=by
  rw [<- zX];exact Heap.get?_push_size _ rfl
 have kL:∀ b o,s.heap.get? b=some o->(X1.push (seqObj "list" vs.toArray 0)).get? b=some o:=fun b o e=>Heap.get?_push_of_some _ (kX b o e);have ne:∀ b o,s.heap.get? b=some o->b ≠ s.heap.objs.size + 1:=fun b o e=>Nat.ne_of_lt (Nat.lt_succ_of_lt (Heap.lt_size e));rw [zX];refine wpAny_bind (wpAny_holding (wpAny_call_entry slot_list_sort ⟨_,hoL,rfl⟩ entry_list_sort (srtG_list (s:={ s with heap:=X1.push (seqObj "list" vs.toArray 0) }) hoL hz r (fun c s' k=>hk c s' fun b o e=>k b o (ne b o e) (kL b o e)) ?_) (args_list_sort _)));intro ws h' c hp hs kk ha;exact ⟨_,rfl,wpAny_pure ⟨_,rfl,h ws h' c hp hs (fun b o e=>kk b o (ne b o e) (kL b o e)) ha⟩⟩
end
theorem paired_zip {α β:Type}{R:α->β->Prop}{xs:List α}{ys:List β}(hp:Paired R xs ys):(∀ p ∈ xs.zip ys,R p.1 p.2)/\(xs.zip ys).map (·.1)=xs/\(xs.zip ys).map (·.2)=ys:=by
 induction hp with
 | nil=>exact ⟨(fun p h=>nomatch h),rfl,rfl⟩
 | cons h _ ih =>
  obtain ⟨a,b,c⟩:=ih;refine ⟨fun p hp=>?_,by rw [List.zip_cons_cons,List.map_cons,b],by rw [List.zip_cons_cons,List.map_cons,c]⟩;rcases List.mem_cons.mp hp with rfl | hp
  ·exact h
  ·exact a p hp
theorem paired_of {α β:Type}{R:α->β->Prop}:∀ {zs:List (α × β)},(∀ p ∈ zs,R p.1 p.2)->Paired R (zs.map (·.1)) (zs.map (·.2))
 | [],_=>.nil
 | p :: zs,h=>.cons (h p List.mem_cons_self) (paired_of fun q hq=>h q (List.mem_cons_of_mem _ hq))
end GS
end L2
namespace L2
open PySem PySem.Spec PyProof.Rows PySem.W
namespace GS
theorem paired_mem {α β:Type}{R:α->β->Prop}:∀ {xs:List α} {ys:List β},Paired R xs ys->∀ x ∈ xs,∃ y ∈ ys,R x y
 | _,_,.nil,x,h=>nomatch h
 | _,_,.cons h t,x,hx=>by
  rcases List.mem_cons.mp hx with rfl | hx
  ·exact ⟨_,List.mem_cons_self,h⟩
  ·obtain ⟨y,h1,h2⟩:=paired_mem t x hx;exact ⟨y,List.mem_cons_of_mem _ h1,h2⟩
noncomputable def Tri {K:Type}(RV:V->K->Prop)(RH:Value->K->Prop)(t:V × Value × K):Prop:=RelV t.1 t.2.1/\RV t.1 t.2.2/\RH t.2.1 t.2.2
theorem tri_of {K:Type}{RV:V->K->Prop}{RH:Value->K->Prop}{us:List V}{its:List Value}{ks:List K}(h1:Vals us its):Paired RV us ks->Paired RH its ks->∃ T:List (V × Value × K),(∀ t ∈ T,Tri RV RH t)/\T.map (·.1)=us/\T.map (·.2.1)=its/\T.map (·.2.2)=ks:=by
 induction h1 generalizing ks with
 | nil =>
  intro h2 h3;cases h2;exact ⟨[],(fun t h=>nomatch h),rfl,rfl,rfl⟩
 | @cons u i us its r1 t1 ih =>
  intro h2 h3;cases h2 with
  | @cons _ k _ ks r2 t2 =>
   cases h3 with
   | cons r3 t3 =>
    obtain ⟨T,h1,h2,h3,h4⟩:=ih t2 t3;refine ⟨(u,i,k) :: T,fun t ht=>?_,by rw [List.map_cons,h2],by rw [List.map_cons,h3],by rw [List.map_cons,h4]⟩;rcases List.mem_cons.mp ht with rfl | ht
    ·exact ⟨r1,r2,r3⟩
    ·exact h1 t ht
theorem tri_vals {K:Type}{RV:V->K->Prop}{RH:Value->K->Prop}:∀ {T:List (V × Value × K)},(∀ t ∈ T,Tri RV RH t)->Vals (T.map (·.1)) (T.map (·.2.1))/\Paired RV (T.map (·.1)) (T.map (·.2.2))
 | [],_=>⟨.nil,.nil⟩
 | t :: T,h=>by
  obtain ⟨h1,h2⟩:=tri_vals fun x hx=>h x (List.mem_cons_of_mem _ hx);obtain ⟨a,b,c⟩:=h t List.mem_cons_self;exact ⟨.cons a h1,.cons b h2⟩
section
variable {X:Cx}{pins:List (Addr × Obj)}{σ:St}{H:Hp}{s:Shared}{K:Type}
theorem sort_keys {lt:K->K->Bool}(W:Wk lt){RV:V->K->Prop}{RH:Heap->Value->K->Prop}(fn:∀ h v k k',RH h v k->RH h v k'->k=k')(kp:∀ h h' v k,(∀ b o,h.get? b=some o->h'.get? b=some o)->RH h v k->RH h' v k)
  {l:Addr} {us:List V} {its:List Value} {ks:List K} {Q:VK} (I:Inv X pins σ H s) (hl:s.heap.IsList l its.toArray) (hz:us.length<=1000000) (rv:Vals us its) (hv:Paired RV us ks) (hp:Paired (RH s.heap) its ks)
  (kind:∀ s':Shared,Paired (RH s'.heap) its ks->2<=its.length->wpAny (model X.prog X.w) X.A.in1.in1 (keyKind' its.toArray) (fun κ s2=>s2=s'/\∀ v v' k k',RH s'.heap v k->RH s'.heap v' k'->∀ C:Bool->Shared->Prop,C (lt k k') s'->wpAny (model X.prog X.w) X.A.in1.in1 (keyLt' κ v v') C (fun _ _=>False) s') (fun _ _=>False) s')
  (q:∀ d us' ks',H d=none->Paired RV us' ks'->ks'.Perm ks->ks'.Pairwise (fun x y=>lt y x=false)->(us'.Perm us)->Q (.ref d) (upd H d (.lst us'))) :
  wpAny (model X.prog X.w) X.A (call (.builtin "sorted") [.ref l]) (EP X pins σ Q) X.xe s:=by
 classical
 have hil:=rv.length;obtain ⟨T,hT,e1,e2,e3⟩:=tri_of rv hv hp;let r:Value->Int:=fun v=>if h:∃ k,RH s.heap v k then rkK lt ks h.choose else 0
 have rk_:∀ {v:Value} {k:K},RH s.heap v k->r v=rkK lt ks k:=fun {v k} h=>by
  have hx:∃ k,RH s.heap v k:=⟨k,h⟩;show (if h:∃ k,RH s.heap v k then rkK lt ks h.choose else 0)=_;rw [dif_pos hx,fn _ _ _ _ hx.choose_spec h]
 have z1:its.length<=sizeLine:=by
  rw [<- hil,sizeLine_eq];omega
 refine srtG_call (vs:=its) hl z1 r (fun h2 s' kk=>?_) fun ws h' c hpm hs kk ha=>?_
 ·have hp':Paired (RH s'.heap) its ks:=by
   obtain ⟨a,b,c⟩:=paired_zip hp;have:=paired_of (R:=RH s'.heap) (zs:=its.zip ks) fun p hp=>kp _ _ _ _ kk (a p hp);rw [b,c] at this;exact this
  refine wpAny_mono (kind s' hp' h2) (fun κ s2 ⟨e,hc⟩=>⟨e,fun x hx y hy C hC=>?_⟩) fun _ _ z=>z;have mx:x.1 ∈ its:=by
   rw [pairsOf_toList] at hx;exact (mem_zip_self hx).2
  have my:y.1 ∈ its:=by
   rw [pairsOf_toList] at hy;exact (mem_zip_self hy).2
  obtain ⟨k,k1,k2⟩:=paired_mem hp x.1 mx;obtain ⟨k',k1',k2'⟩:=paired_mem hp y.1 my;refine hc x.1 y.1 k k' (kp _ _ _ _ kk k2) (kp _ _ _ _ kk k2') C ?_;have hC':C (decide (r x.1 < r y.1)) s':=hC;rw [rk_ k2,rk_ k2',<- W.rank k1] at hC';exact hC'
 ·obtain ⟨T',hT',eT⟩:=ST.perm_map (fun t:V × Value × K=>t.2.1) hpm T e2.symm;have hTr:∀ t ∈ T',Tri RV (RH s.heap) t:=fun t ht=>hT t (hT'.mem_iff.mp ht);obtain ⟨rv',hv'⟩:=tri_vals hTr;rw [<- eT] at rv';have hD:H (s.heap.objs.size + 1)=none:=I.hok.fresh (Nat.le_succ _);refine ⟨.ref (s.heap.objs.size + 1),upd H (s.heap.objs.size + 1) (.lst (T'.map (·.1))),I.laid (t':=s.toks) kk (Nat.le_succ _) ⟨?_,ws,c,rv',ha⟩,rfl,q _ _ _ hD hv' (by rw [<- e3]; exact hT'.map _) ?_ (by rw [<- e1]; exact hT'.map _)⟩
  ·rw [rv'.length,hpm.length_eq];exact z1
  ·rw [eT,List.pairwise_map] at hs;rw [List.pairwise_map];refine hs.imp_of_mem fun {x y} hx hy h=>?_;obtain ⟨_,_,h1⟩:=hTr x hx;obtain ⟨_,_,h2⟩:=hTr y hy;rw [rk_ h1,rk_ h2] at h;have my:y.2.2 ∈ ks:=by
    rw [<- e3];exact List.mem_map.mpr ⟨y,hT'.mem_iff.mp hy,rfl⟩
   rw [W.rank my];exact decide_eq_false (by omega)
end
theorem pair_fn {h:Heap}{v:Value}{p q:Int × Int}(h1:IntPair h v p)(h2:IntPair h v q):p=q:=by
 obtain ⟨a,o,n,t,u,e,e1,c1,d1⟩:=h1;obtain ⟨a',o',n',t',u',e',e1',c1',d1'⟩:=h2;subst e;cases e';rw [e1] at e1';cases e1';rw [d1] at d1';obtain ⟨p1,p2⟩:=p;obtain ⟨q1,q2⟩:=q;injection d1' with d1' _
 have e2:[Value.int p1 t,Value.int p2 u]=[Value.int q1 t',Value.int q2 u']:=congrArg Array.toList d1';injection e2 with e3 e4
 injection e4 with e4 _
 injection e3 with e3 _
 injection e4 with e4 _
 rw [e3,e4]
section
variable {X:Cx}
end
end GS
end L2
namespace PySem.SeqAt
open L2 AutoSeq1 MeetsSeq MeetsSeq2 MeetsSeq3
end PySem.SeqAt
namespace L2
open PySem PySem.Spec PyProof.Rows PySem.W PySem.SeqAt
section
variable {X:Cx}
end
end L2
namespace PySem.SeqAt
open L2 AutoSeq1 MeetsSeq MeetsSeq2 MeetsSeq3
noncomputable def ltL:List (Int × Int)->List (Int × Int)->Bool
 | _,[]=>false
 | [],_ :: _=>true
 | p :: r,q :: t=>if p=q then ltL r t else lt2 p q
theorem ltL_nil (ps:List (Int × Int)):ltL ps []=false:=by cases ps <;> rfl
theorem ltL_irr:∀ ps:List (Int × Int),ltL ps ps=false
 | []=>rfl
 | p :: r=>by
  unfold ltL;rw [if_pos rfl];exact ltL_irr r
theorem ltL_tot:∀ {ps qs:List (Int × Int)},ps ≠ qs->ltL qs ps=!ltL ps qs
 | [],[],h=>absurd rfl h
 | [],q :: t,_=>rfl
 | p :: r,[],_=>rfl
 | p :: r,q :: t,h=>by
  unfold ltL;by_cases e:p=q
  ·subst e;rw [if_pos rfl,if_pos rfl];exact ltL_tot fun z=>h (by rw [z])
  ·rw [if_neg e,if_neg (Ne.symm e)];exact lt2_tot e
theorem ltL_tr:∀ {ps qs ss:List (Int × Int)},ltL ps qs=true->ltL qs ss=true->ltL ps ss=true
 | ps,[],_,h,_=>by
  rw [ltL_nil] at h;cases h
 | _,_ :: _,[],_,h=>by
  rw [ltL_nil] at h;cases h
 | [],_ :: _,_ :: _,_,_=>rfl
 | p :: r,q :: t,x :: y,h1,h2=>by
  unfold ltL at *
  by_cases e1:p=q
  ·subst e1;rw [if_pos rfl] at h1;by_cases e2:p=x
   ·rw [if_pos e2] at h2 ⊢;exact ltL_tr h1 h2
   ·rw [if_neg e2] at h2 ⊢;exact h2
  ·rw [if_neg e1] at h1;by_cases e2:q=x
   ·subst e2;rw [if_neg e1];exact h1
   ·rw [if_neg e2] at h2;have h3:=lt2_tr h1 h2;rw [if_neg]
    ·exact h3
    ·intro e;subst e;rw [lt2_irr] at h3;cases h3
theorem pairs_eqAt {A:Around}{s:Shared}{v v':Value}{p q:Int × Int}(h1:IntPair s.heap v p)(h2:IntPair s.heap v' q)(hu:A.units + 10 < cLine):EqAt A s v v' (decide (p=q)):=by
 obtain ⟨as,ra⟩:=intPair_reads h1;obtain ⟨bs,rb⟩:=intPair_reads h2;have:=eqAt_reads _ _ A s _ _ as bs ra rb rfl rfl (by show A.units + min 1 1 < cLine; omega);rw [pairs_eqv] at this;exact this
theorem paired_at {h:Heap}{xs:Array Value}{ps:List (Int × Int)}(hp:Paired (IntPair h) xs.toList ps){i:Nat}(hi:i < xs.size):∃ p r,ps.drop i=p :: r/\ps.drop (i + 1)=r/\IntPair h xs[i] p:=by
 have hl:xs.toList.length=ps.length:=Paired.length hp;rw [Array.length_toList] at hl;have h2:i < ps.length:=by omega
 obtain ⟨a,b,c⟩:=GS.paired_zip hp;refine ⟨ps[i],ps.drop (i + 1),List.drop_eq_getElem_cons h2,rfl,?_⟩;have hz:i < (xs.toList.zip ps).length:=by
  rw [List.length_zip,Array.length_toList];omega
 have:=a _ (List.getElem_mem hz);rw [List.getElem_zip] at this;simpa using this
theorem lt_loopAt (l b:Addr)(items items2:Array Value)(n n2:Nat)(dd dd2:Option Addr)(sl sl2:Array (Option Value))(ps qs:List (Int × Int))(k:Nat) :
  ∀ i:Nat,items.size - i=k->i<=items.size->i<=items2.size->Meets (Builtin.«list.__eq__.loop» ⟨[.ref l,.ref b,rawInt i,rawInt 0],[]⟩)
   (fun A R s=>s.heap.get? l=some { cls:=.type "list",dict:=dd,data:=.seq items n,slots:=sl }/\s.heap.get? b=some { cls:=.type "list",dict:=dd2,data:=.seq items2 n2,slots:=sl2 } /\
    Paired (IntPair s.heap) items.toList ps/\Paired (IntPair s.heap) items2.toList qs/\A.units + 20 < cLine /\
    R (.ok (.ret (.bool (ltL (ps.drop i) (qs.drop i))))) s):=by
 induction k with
 | zero =>
  intro i hk h1 h2 prog w A R s h;obtain ⟨hp,g,d,tk,os⟩:=s; obtain ⟨hl,hb,hp1,hp2,hu,h⟩:=h;have l1:items.toList.length=ps.length:=Paired.length hp1;have l2:items2.toList.length=qs.length:=Paired.length hp2;rw [Array.length_toList] at l1 l2;wp_walk using wpAny_loadPart' hl,wpAny_loadPart' hb;have hi1:items[((i:Nat):Int).toNat]?=none:=by simp; omega
  rw [hi1];have hd:ps.drop i=[]:=by simp; omega
  have e:ltL (ps.drop i) (qs.drop i)=decide (items.size < items2.size):=by
   rw [hd];by_cases hq:i < qs.length
   ·rw [List.drop_eq_getElem_cons hq];exact (decide_eq_true (by omega)).symm
   ·rw [List.drop_of_length_le (by omega)];exact (decide_eq_false (by omega)).symm
  rw [e] at h;wp_walk using wpAny_loadPart' hl,wpAny_loadPart' hb;exact h
 | succ k ih =>
  intro i hk h1 h2 prog w A R s h;obtain ⟨hp,g,d,tk,os⟩:=s; obtain ⟨hl,hb,hp1,hp2,hu,h⟩:=h;have l1:items.toList.length=ps.length:=Paired.length hp1;have l2:items2.toList.length=qs.length:=Paired.length hp2;rw [Array.length_toList] at l1 l2;wp_walk using wpAny_loadPart' hl,wpAny_loadPart' hb;have hlt:i < items.size:=by omega
  have hi1:items[((i:Nat):Int).toNat]?=some items[i]:=by simp [hlt]
  by_cases hlt2:i < items2.size
  ·have hi2:items2[((i:Nat):Int).toNat]?=some items2[i]:=by simp [hlt2]
   have hc:((i:Int) + 1)=((i + 1:Nat):Int):=by push_cast; rfl
   obtain ⟨p,r,ep,er,rp⟩:=paired_at hp1 hlt;obtain ⟨q,t,eq,et,rq⟩:=paired_at hp2 hlt2;rw [hi1,hi2];refine wpAny_bind (pairs_eqAt rp rq (by show A.units + 1 + 10 < cLine; omega) prog w _ _ ?_);rw [ep,eq] at h;unfold ltL at h;by_cases e:p=q
   ·rw [if_pos e] at h;rw [decide_eq_true e];wp_walk;rw [hc];exact ⟨plainId_quiet plain_eq_loop _,codeAny_builtin entry_eq_loop (by
     rw [Around.under_plainId plain_eq_loop _];exact ih (i + 1) (by omega) (by omega) (by omega) prog w A R _ ⟨hl,hb,hp1,hp2,hu,by rw [er,et]; exact h⟩)⟩
   ·rw [if_neg e] at h;rw [decide_eq_false e];simp only [Bool.false_eq_true,if_false];refine wpAny_bind (PyProof.Rows.listItems_at hl rfl (wpAny_bind (PyProof.Rows.listItems_at hb rfl ?_)));rw [hi1,hi2];exact wpAny_bind (RcLtAt.pairs rp rq (by show A.units + 1 < cLine; omega) prog w _ _ (wpAny_pure h))
  ·have hi2:items2[((i:Nat):Int).toNat]?=none:=by simp; omega
   rw [hi1,hi2];have hd:qs.drop i=[]:=by simp; omega
   rw [hd,ltL_nil,show false=decide (items.size < items2.size) from (decide_eq_false (by omega)).symm] at h;wp_walk using wpAny_loadPart' hl,wpAny_loadPart' hb;exact h
theorem list_ltLAt (l b:Addr)(items items2:Array Value)(n n2:Nat)(dd dd2:Option Addr)(sl sl2:Array (Option Value))(ps qs:List (Int × Int)) :
  Meets (Builtin.«list.__lt__» ⟨[.ref l,.ref b],[]⟩)
   (fun A R s=>s.heap.get? l=some { cls:=.type "list",dict:=dd,data:=.seq items n,slots:=sl }/\s.heap.get? b=some { cls:=.type "list",dict:=dd2,data:=.seq items2 n2,slots:=sl2 } /\
    Paired (IntPair s.heap) items.toList ps/\Paired (IntPair s.heap) items2.toList qs/\A.units + 20 < cLine/\R (.ok (.ret (.bool (ltL ps qs)))) s):=by
 intro prog w A R s h;obtain ⟨hp1,g1,d1,tk1,os1⟩:=s;obtain ⟨hL,hB,hp,hq,hu,h⟩:=h;have fL:=sub_list_list;wp_walk using wpAny_loadPart' hL,wpAny_loadPart' hB;exact ⟨plainId_quiet plain_eq_loop _,codeAny_builtin entry_eq_loop (by
  rw [Around.under_plainId plain_eq_loop _];exact lt_loopAt l b items items2 n n2 dd dd2 sl sl2 ps qs _ 0 rfl (Nat.zero_le _) (Nat.zero_le _) prog w A R _ ⟨hL,hB,hp,hq,hu,by simpa using h⟩)⟩
structure ListPairs (h:Heap)(v:Value)(ps:List (Int × Int)):Prop where
 ex:∃ a o xs n,v=.ref a/\h.get? a=some o/\o.cls=.type "list"/\o.data=.seq xs n/\Paired (IntPair h) xs.toList ps
theorem lists_lt {prog:Program}{w:World}{A:Around}{E:Value->Shared->Prop}{s:Shared}{v v':Value}{ps qs:List (Int × Int)}{C:Bool->Shared->Prop}(hv:ListPairs s.heap v ps)(hv':ListPairs s.heap v' qs)(hu:A.units + 30 < cLine)(h:C (ltL ps qs) s) :
  wpAny (model prog w) A (PyProof.Rows.keyLt' PyProof.Rows.oneType' v v') C E s:=by
 obtain ⟨a,⟨cls,dd,data,sl⟩,xs,n,rfl,e1,c1,d1,p1⟩:=hv;obtain ⟨a',⟨cls2,dd2,data2,sl2⟩,xs',n',rfl,e1',c1',d1',p1'⟩:=hv';simp only at c1 d1 c1' d1';subst c1 d1 c1' d1';rw [PyProof.Rows.keyLt'_oneType,PyProof.Rows.oneLt'_eq];simp only [if_true];refine wpAny_bind (wpAny_cRoomFor (by omega) ?_);refine wpAny_bind (wpAny_callSpecialIfBound?_slot (T:="list") ⟨_,e1,rfl⟩ F.slot_list_lt ?_);refine call_meets F.slot_list_lt ⟨_,e1,rfl⟩ F.entry_list_lt (F.args_list_lt_2 _ _) (list_ltLAt a a' xs xs' n n' dd dd2 sl sl2 ps qs) ⟨e1,e1',p1,p1',(by omega),?_⟩;exact wpAny_truthy_bool h
end PySem.SeqAt
namespace L2
open PySem PySem.Spec PyProof.Rows PySem.W PySem.SeqAt
namespace GS
theorem wk_ltL:Wk ltL:=by
 refine ⟨fun x y h=>?_,fun x y z h1 h2=>?_⟩
 ·cases e:ltL y x with
  | false=>rfl
  | true =>
   have:=ltL_tr h e;rw [ltL_irr] at this;cases this
 ·cases e:ltL z x with
  | false=>rfl
  | true =>
   by_cases exy:x=y
   ·subst exy;rw [e] at h2;exact h2
   ·have h3:ltL x y=true:=by
     have:=ltL_tot (ps:=x) (qs:=y) exy;rw [h1] at this;cases hh:ltL x y with
     | true=>rfl
     | false =>
      rw [hh] at this;cases this
    have:=ltL_tr e h3;rw [this] at h2;exact h2
noncomputable def LstAt (H:Hp)(v:V)(ps:List (Int × Int)):Prop:=∃ a ws,v=V.ref a/\H a=some (.lst ws)/\Tup2 H ws ps
theorem paired_fn {h:Heap}{vs:List Value}{ps qs:List (Int × Int)}(hp:Paired (IntPair h) vs ps):Paired (IntPair h) vs qs->ps=qs:=by
 induction hp generalizing qs with
 | nil =>
  intro hq;cases hq;rfl
 | cons a _ ih =>
  intro hq;cases hq with
  | cons b u=>rw [pair_fn a b,ih u]
theorem lists_fn {h:Heap}{v:Value}{ps qs:List (Int × Int)}(h1:ListPairs h v ps)(h2:ListPairs h v qs):ps=qs:=by
 obtain ⟨a,o,xs,n,e,e1,c1,d1,p1⟩:=h1;obtain ⟨a',o',xs',n',e',e1',c1',d1',p1'⟩:=h2;subst e;cases e';rw [e1] at e1';cases e1';rw [d1] at d1';injection d1' with d1' _
 subst d1';exact paired_fn p1 p1'
theorem pairs_kept {h h':Heap}(k:∀ b o,h.get? b=some o->h'.get? b=some o){vs:List Value}{ps:List (Int × Int)}(hp:Paired (IntPair h) vs ps):Paired (IntPair h') vs ps:=by
 induction hp with
 | nil=>exact .nil
 | cons q _ ih =>
  obtain ⟨a,o,n,t,u,e,e1,r⟩:=q;exact .cons ⟨a,o,n,t,u,e,k _ _ e1,r⟩ ih
section
variable {X:Cx}{pins:List (Addr × Obj)}{σ:St}{H:Hp}{s:Shared}
theorem lsts_pairs (I:Inv X pins σ H s){us:List V}{ks:List (List (Int × Int))}{its:List Value}(hp:Paired (LstAt H) us ks)(r:Vals us its):Paired (ListPairs s.heap) its ks:=by
 induction hp generalizing its with
 | nil =>
  cases r;exact .nil
 | cons q _ ih =>
  obtain ⟨a,ws,e,h,ht⟩:=q;subst e;cases r with
  | cons r1 r2 =>
   cases r1;refine .cons ?_ (ih r2);obtain ⟨z,its,n,rv,hl,e⟩:=I.lstM h;exact ⟨a,_,its.toArray,n,rfl,e,rfl,rfl,by rw [List.toList_toArray]; exact Tup2.pairs I ht rv⟩
end
theorem lists_list {h:Heap}{its:List Value}{ks:List (List (Int × Int))}(hp:Paired (ListPairs h) its ks):∀ v ∈ its,∃ a o,v=Value.ref a/\h.get? a=some o/\o.cls=.type "list":=by
 induction hp with
 | nil=>exact fun v hv=>nomatch hv
 | cons q _ ih =>
  intro v hv;rcases List.mem_cons.mp hv with rfl | hv
  ·obtain ⟨a,o,xs,n,e,e1,c,_⟩:=q;exact ⟨a,o,e,e1,c⟩
  ·exact ih v hv
section
variable {X:Cx}
theorem call_sortedGL (hu:X.A.units + 64 < cLine):CallR X (.builtin "sorted") (fun xs H Q=>∃ l us ks,xs=[.ref l]/\SqL X.K H l us/\Paired (LstAt H) us ks/\us.length<=1000000 /\
  ∀ d us' ks',H d=none->Paired (LstAt H) us' ks'->ks'.Perm ks->ks'.Pairwise (fun p q=>ltL q p=false)->us'.Perm us->Q (.ref d) (upd H d (.lst us'))):=by
 intro pins s σ H xs us' Q I r h;obtain ⟨l,us,ks,rfl,hq,ht,hz,q⟩:=h;obtain ⟨u,rfl,ru⟩:=vals1 r;cases ru;obtain ⟨its,rv,pl,_⟩:=I.list hq;have hp:=lsts_pairs I ht rv;refine sort_keys wk_ltL (RH:=ListPairs) (fun h v k k'=>lists_fn) (fun h h' v k kk ⟨a,o,xs,n,e,e1,c,d,r⟩=>⟨a,o,xs,n,e,kk _ _ e1,c,d,pairs_kept kk r⟩) I pl.isList hz rv ht hp (fun s' hp' h2=>?_) fun d us' ks' hd h1 h2 h3 h4=>q d us' ks' hd h1 h2 h3 h4;refine kas_kind (T:=.type "list") h2 (fun v hv=>?_) (by decide) (by decide) ⟨rfl,fun v v' k k' h1 h2 C hC=>?_⟩
 ·obtain ⟨a,o,rfl,e1,c1⟩:=lists_list hp' v hv;exact c1 ▸ (Looks.ld e1).andThen .now
 ·exact lists_lt h1 h2 (by show X.A.units + 1 + 1 + 30 < cLine; omega) hC
end
end GS
end L2
namespace L2
open PySem PySem.Spec PyProof.Rows
section
variable {X:Cx}{K:PySem.W.Frag}
end
noncomputable def HasDef (K:PySem.W.Frag)(x:Str)(st:Stmt):Prop:=∃ (f:Addr) (oc:Value) (od an:Option Addr) (sl:Array (Option Value)) (kV dc pm cd ct:Value),PySem.W.nsIn K mainGlobals x=some (some (.ref f))/\K.lookup f=some ⟨oc,od,.func (PySem.W.fnOf x x (defArgs st) (defBody st) (defScope st) .none kV dc pm an cd ct),sl⟩/\PySem.W.codeIn K cd x=true/\PySem.W.keepIn K (.ref f)=true
theorem HasDef.at {K:PySem.W.Frag}{h:Heap}{mg:Str->Option Value}{x:Str}{st:Stmt}{ps:List Str}(H:HasDef K x st)(X:K.In h)(G:h.Ns mainGlobals mg)
  (hb:∀ (kV doc pm:Value) (an:Option Addr) (cdv ct:Value) (us:List Value),us.length=ps.length->bindArgs (PySem.W.fnOf x x (defArgs st) (defBody st) (defScope st) .none kV doc pm an cdv ct) ⟨us,[]⟩=pure (ps.zip us)):∃ f fd,DefAt K mg x st ps f fd:=by
 obtain ⟨f,oc,od,an,sl,kV,dc,pm,cd,ct,a,l,c,k⟩:=H;have F:=fun_mk (st:=st) l c k;exact ⟨f,_,F,PySem.W.mg_of X G a,F.binds hb⟩
end L2
namespace L2
open PySem PySem.W
theorem us0 {P:List Value->Prop}(h:P []):∀ us:List Value,us.length=0->P us:=by
 intro us e;cases us with
 | nil=>exact h
 | cons a t=>cases e
theorem usS {n:Nat}{P:List Value->Prop}(h:∀ a t,t.length=n->P (a :: t)):∀ us:List Value,us.length=n + 1->P us:=by
 intro us e;cases us with
 | nil=>cases e
 | cons a t=>exact h a t (Nat.succ.inj e)
theorem us1 {P:List Value->Prop}(h:∀ a,P [a]):∀ us:List Value,us.length=1->P us:=usS fun a=>us0 (h a)
theorem us2 {P:List Value->Prop}(h:∀ a b,P [a,b]):∀ us:List Value,us.length=2->P us:=usS fun a=>us1 (h a)
theorem us3 {P:List Value->Prop}(h:∀ a b c,P [a,b,c]):∀ us:List Value,us.length=3->P us:=usS fun a=>us2 (h a)
theorem us4 {P:List Value->Prop}(h:∀ a b c d,P [a,b,c,d]):∀ us:List Value,us.length=4->P us:=usS fun a=>us3 (h a)
theorem us5 {P:List Value->Prop}(h:∀ a b c d e,P [a,b,c,d,e]):∀ us:List Value,us.length=5->P us:=usS fun a=>us4 (h a)
end L2
namespace L2
open PySem PySem.Spec PyProof.Rows
section
variable {X:Cx}{k k0:Nat}{f:Addr}{fd:FuncData}{ps:List Str}{sp:Sp}{x:Str}{st:Stmt}{p pos:Pos}{e:Expr}{es:List Expr}{t:TA}
theorem pc0 (F:FnOk X.prog X.w X.K X.mg X.base CX0 k f fd ps sp)(hr:Room k0 X.A)(D:DefAt X.K X.mg x st ps f fd)(ha:PA X (e :: es) t)(hk:k<=k0:=by decide)(hg:Gl X x:=by rfl)
  (hdb:(x == ("__debug__":Str))=false:=by decide) (he:starEach (e :: es) X.env=(false,eval e X.env) :: starEach es X.env:=by rfl) (hpl:(backTo pos (starEach es X.env)).any (·.1)=false:=by rfl) :
  PE X (.Call (.Name x p) (e :: es) [] pos) (tCall sp [] E0 t):=pe_call F (hr.mono hk) hg D.g D.F.kp D.b .nil pass0 ha hdb he hpl
end
theorem sz_0:0<=sizeLine:=by decide
theorem sz_1:1<=sizeLine:=by decide
theorem sz_2:2<=sizeLine:=by decide
theorem sz_3:3<=sizeLine:=by decide
end L2
namespace L2
open PySem PySem.Spec PyProof.Rows
section
variable {X:Cx}
theorem call_maxL (hh:X.A.handled=none):CallR X (.builtin "max") (fun xs H Q=>∃ (l:Addr) (ns:List Int),xs=[.ref l]/\SqL X.K H l (ns.map V.int)/\ns ≠ []/\∀ m ∈ ns,(∀ x ∈ ns,x<=m)->Q (.int m) H):=by
 intro pins s σ H xs us Q I r h;obtain ⟨l,ns,rfl,hq,hne,q⟩:=h;obtain ⟨u,rfl,ru⟩:=vals1 r;cases ru;obtain ⟨its,rv,pl,hz⟩:=I.list hq;have hi:IntsAre its ns:=ints_are rv;obtain ⟨ys,ey⟩:=hi.allInts.items;have f1:ns=ys.toList.map (·.1):=by
  rw [<- nums_intItems,<- ey];exact (show numsOf its.toArray.toList=ns from hi.numsOf).symm
 have hsz:0 < ys.size:=by
  have:ns.length=ys.size:=by rw [f1,List.length_map,Array.length_toList]
  cases ns with
  | nil=>exact absurd rfl hne
  | cons a b=>rw [List.length_cons] at this; omega
 refine max_intList hh (xs:=ys) (ey ▸ pl.isList) hsz fun v h' tk hv hk=>?_;obtain ⟨t,rfl⟩:=intItems_at hv;obtain ⟨h1,h2⟩:=argBest_gt (numAt ys) (ys.size - 1);refine ⟨.int _,H,I.kept (t':=tk) hk,⟨_,rfl⟩,q _ ?_ fun a ha=>?_⟩
 ·rw [f1,numAt_eq];exact getD_mem (by rw [List.length_map,Array.length_toList]; omega)
 ·rw [f1] at ha;obtain ⟨j,hj,rfl⟩:=mem_getD ha;rw [List.length_map,Array.length_toList] at hj;rw [<- numAt_eq];exact h2 j (by omega)
noncomputable def eqI (y:Int):Value->Bool
 | .int a _=>a == y
 | _=>false
theorem mt_indexI:MtM X "list.index" (fun x vs H Q=>∃ (l:Addr) (ts:List Int) (y:Int) (j:Nat),x=.ref l/\vs=[.int y]/\H l=some (.lst (ts.map V.int))/\ts[j]?=some y/\(∀ m < j,ts[m]? ≠ some y)/\j<=1000/\Q (.int (j:Nat)) H):=by
 intro pins s σ H x vs v us Q I rx rv h;obtain ⟨l,ts,y,j,rfl,rfl,hH,hj,hm,js,q⟩:=h;cases rx;obtain ⟨u,rfl,t,rfl⟩:=rv.one;obtain ⟨z,its,n,r,hl,e⟩:=I.lstM hH;have hi:IntsAre its ts:=ints_are r;obtain ⟨ys,ey⟩:=hi.allInts.items;have f1:ts=ys.toList.map (·.1):=by
  rw [<- nums_intItems,<- ey];exact (show numsOf its.toArray.toList=ts from hi.numsOf).symm
 rw [ey] at e;have yat:∀ k:Nat,ts[k]?=(ys[k]?).map (·.1):=fun k=>by
  rw [f1,List.getElem?_map,Array.getElem?_toList]
 have jl:j < ys.size:=by
  have:=(List.getElem?_eq_some_iff.mp hj).1;rwa [f1,List.length_map,Array.length_toList] at this
 refine call_meets F.slot_list_index ⟨_,e,rfl⟩ F.entry_list_index (F.args_list_index_2 _ _) (PySem.SeqAt.list_indexAt l (intItems ys) n none #[] (.int y t) (eqI y) j (by simpa [intItems] using jl) (by omega) ?_ ?_) ⟨e,fun w hw=>?_,?_⟩
 ·have h2:=yat j;rw [hj,Array.getElem?_eq_getElem jl] at h2;simp [intItems,eqI,(Option.some.inj h2).symm]
 ·intro m hm1 hm2;have ml:m < ys.size:=by omega
  have h2:=yat m;have h3:=hm m hm2;rw [h2,Array.getElem?_eq_getElem ml] at h3;have h4:ys[m].1 ≠ y:=fun z=>h3 (by rw [Option.map_some,z]);simp [intItems,eqI,h4]
 ·obtain ⟨p,_,rfl⟩:=Array.mem_map.mp hw;exact PySem.SeqAt.EqAt.int_int p.1 p.2 y t
 ·exact ⟨.int _,H,I.tok _,⟨_,rfl⟩,q⟩
end
end L2
namespace L2
open PySem PySem.Spec PyProof.Rows PySem.W
section
variable {X:Cx}
theorem mt_setdef:MtR X "dict.setdefault" (fun x vs H Q=>∃ (d:Addr) (kvs:List (Key × V)) (k:Key) (dv:V),x=.ref d/\vs=[kV k,dv]/\H d=some (.dK kvs)/\kvs.length < sizeLine /\
  (∀ v,valV kvs k=some v->Q v H)/\(valV kvs k=none->Q dv (upd H d (.dK (putK kvs k dv))))):=by
 intro pins s σ H x vs v us Q I rx rv h;obtain ⟨d,kvs,k,dv,rfl,rfl,hd,hl,q1,q2⟩:=h;cases rx;obtain ⟨u1,u2,rfl,r1,r2⟩:=vals2 rv;obtain ⟨z,hS,ws,rel,dd⟩:=dk_of I.hok hd;have hz:ws.length<=sizeLine:=by rw [<- rel.length]; exact z
 refine call_meetsIn PySem.F.slot_dict_setdefault dd.typeIs PySem.F.entry_dict_setdefault (PySem.F.args_dict_setdefault_3 _ _ _) (kt_meets_setdefault (mixKind X.prog X.w) d (kV_is r1) hS u2) ⟨ws,dd,hz,fun w hw=>?_,fun hw h' dd' hs=>?_⟩
 ·have hv:=rel.val k;rw [hw] at hv;cases e:valV kvs k with
  | none =>
   rw [e] at hv;exact hv.elim
  | some y =>
   rw [e] at hv;exact ⟨y,H,I.tok _,hv,q1 y e⟩
 ·have hv:=rel.val k;rw [hw] at hv;have e:valV kvs k=none:=by
   cases e:valV kvs k with
   | none=>rfl
   | some y =>
    rw [e] at hv;exact hv.elim
  have hl2:(putK kvs k dv).length<=sizeLine:=by have:=length_putK kvs k dv; omega
  have he:∃ q,h'.get? d=some q:=let ⟨q,_,_,hq,_⟩:=dd'; ⟨q,hq⟩
  exact ⟨dv,_,d_write (t':=s.toks + 1) I (by rw [hd]; exact True.intro) hs he (dk_new hl2 hS (rel.put k r2) dd'),r2,q2 e⟩
end
end L2
namespace L2
open PySem PySem.Spec PyProof.Rows PySem.W
noncomputable def valsV (v d:Addr):HO:=.ext fun h=>h.IsValuesView v d
noncomputable def Itv (d:Addr)(o:Obj)(kvs:List (Key × V)):It :=
 ⟨fun i H=>H d=some (.frz o (.dK kvs))/\i < kvs.length,fun i H x H'=>H'=H/\∃ kv,kvs[i]?=some kv/\x=kv.2,fun i H=>H d=some (.frz o (.dK kvs))/\kvs.length<=i⟩
theorem kv_at {kvs:List (Key × V)}{vs:List (Key × Value)}{i:Nat}{p:Key × Value}(r:KV kvs vs)(h:vs[i]?=some p):∃ kv,kvs[i]?=some kv/\kv.1=p.1/\RelV kv.2 p.2:=by
 induction r generalizing i with
 | nil=>cases h
 | cons r1 _ ih =>
  cases i with
  | zero =>
   cases h;exact ⟨_,rfl,r1⟩
  | succ i=>exact ih (by simpa using h)
theorem frz_at {P:Program}{w:World}{H:Hp}{h:Heap}{d:Addr}{o:Obj}{kvs:List (Key × V)}{es:Array DictEntry}{ep:Nat}(hdd:o.data=.dict es ep)(x:ObjOk P w H h d (.frz o (.dK kvs))):∃ vs,KV kvs vs/\h.DictAt (mixKind P w) d vs ep:=by
 obtain ⟨ho,_,_,vs,rel,dd⟩:=x;obtain ⟨ep',da⟩:=dd.dictAt;obtain ⟨o',es',ho',hc,hdat,r⟩:=id da;rw [ho] at ho';cases ho';rw [hdd] at hdat;injection hdat with _ e2
 subst e2;exact ⟨vs,rel,da⟩
theorem turn_vals {P:Program}{w:World}{K:PySem.W.Frag}{tg:Expr}(d it:Addr)(o:Obj)(kvs:List (Key × V))(es:Array DictEntry)(ep:Nat)(hdd:o.data=.dict es ep):Turn P w K tg (Itv d o kvs) [it] it (fun i h=>h.IsValIter it d i kvs.length ep) where
 mem:=by simp
 obj:=fun i h st b hb=>by
  have e:b=it:=by simpa using hb
  subst e;obtain ⟨ob,e,c,dt⟩:=st;exact ⟨ob,e,fun v z=>by rw [dt] at z; cases z⟩
 keep:=fun i h h' ⟨ob,e,r⟩ k=>⟨ob,k it (by simp) ob e,r⟩
 item:=by
  intro X hP hw hK hc i pins s σ H E I hf st hg;subst hP hw hK;obtain ⟨hd,hi⟩:=hg;obtain ⟨vs,rel,da⟩:=frz_at hdd (show ObjOk X.prog X.w H s.heap d (.frz o (.dK kvs)) from I.hok d _ hd);have hl:=rel.length;obtain ⟨⟨k,x⟩,hx⟩:∃ p,vs[i]?=some p:=⟨_,List.getElem?_eq_getElem (by omega)⟩;obtain ⟨kv,hkv,_,rv⟩:=kv_at rel hx;obtain ⟨f0,f1,f2,f3,f4,f5⟩:=hf it (by simp);rw [hl] at st;refine wpAny_pyNext_values_item st da hx fun h' st' sb=>?_;rw [<- hl] at st';have I1:Inv X pins σ H { s with heap:=h' }:=I.turned (t':=s.toks) (fun b ob hb e=>(sb.2 b hb).trans e) f0 f1 f3 f4 f5;obtain ⟨oi,e,c,dt⟩:=id st';exact ⟨x,rfl,go_of (s:={ s with heap:=h' }) e c dt (by decide) ⟨kv.2,H,I1,rv,⟨rfl,kv,hkv,rfl⟩,st',fun b hb=>(hf b hb).1⟩⟩
 done:=by
  intro X hP hw hK hc i pins s σ H E I hf st hg;subst hP hw hK;obtain ⟨hd,hi⟩:=hg;obtain ⟨vs,rel,da⟩:=frz_at hdd (show ObjOk X.prog X.w H s.heap d (.frz o (.dK kvs)) from I.hok d _ hd);have hl:=rel.length;obtain ⟨f0,f1,f2,f3,f4,f5⟩:=hf it (by simp);rw [hl] at st;have hi2:vs.length<=i:=by rw [<- hl]; exact hi
  exact wpAny_pyNext_values_end (I.ok.hd hc) st da (List.getElem?_eq_none_iff.mpr hi2) fun h' eb=>⟨rfl,I.turned (t':=s.toks) (fun b ob hb e=>eb b ob hb e) f0 f1 f3 f4 f5⟩
 self:=fun _ _ _ _ _ st h=>wpAny_pyIter_valiter st h
section
variable {X:Cx}{tg:Expr}
noncomputable def iVals (tl:TE):TI:=fun σ H R=>tl σ H fun x H1=>∃ v a kvs,x=.ref v/\H1 v=some (valsV v a)/\H1 a=some (.dK kvs)/\∀ o,R (Itv a o kvs) (upd H1 a (.frz o (.dK kvs)))
theorem pi_vals {l:Expr}{tl:TE}(hl:PE X l tl):PI X tg l (iVals tl):=by
 intro pins s σ H R I h;refine thn (hl pins s σ H _ I h) fun v s1 ⟨x,H1,I1,r1,q1⟩=>?_;obtain ⟨va,a,kvs,e,hv,hd,q⟩:=q1;subst e;cases r1;obtain ⟨hz,hS,vs,rel,dd⟩:=(show ObjOk X.prog X.w H1 s1.heap a (.dK kvs) from I1.hok a _ hd);have hview:s1.heap.IsValuesView va a:=(show ObjOk X.prog X.w H1 s1.heap va (valsV va a) from I1.hok va _ hv).1;obtain ⟨ep,da⟩:=dd.dictAt;obtain ⟨o,es,ho,hc,hdd,hr⟩:=id da;refine wpAny_pyIter_values hview da ?_;have ha:a < s1.heap.objs.size:=Heap.lt_size ho;have hfr:H1 s1.heap.objs.size=none:=I1.hok.fresh (Nat.le_refl _);refine ⟨s1.heap.objs.size,[s1.heap.objs.size],_,Itv a o kvs,upd H1 a (.frz o (.dK kvs)),rfl,?_,turn_vals a _ o kvs es ep hdd,⟨_,Heap.get?_push_size _ rfl,rfl,by rw [rel.length]; rfl⟩,fun b hb=>?_,q o⟩
 ·refine I1.write (x:=a) (e:=a) (t':=s1.toks) (by rw [hd]; exact True.intro) (.inl rfl) (fun b u _ z=>Heap.get?_push_of_some _ z) ⟨o,Heap.get?_push_of_some _ ho⟩ ⟨Heap.get?_push_of_some _ ho,hz,hS,vs,rel,?_⟩;obtain ⟨o2,es2,ep2,h1,h2⟩:=dd;exact ⟨o2,es2,ep2,Heap.get?_push_of_some _ h1,h2⟩
 ·have e:b=s1.heap.objs.size:=by simpa using hb
  subst e;refine I1.fpOk (Nat.le_refl _) ?_;rw [upd_ne (Nat.ne_of_gt ha)];exact hfr
theorem mt_dvals:MtM X "dict.values" (fun x vs H Q=>∃ d kvs,x=.ref d/\vs=[]/\H d=some (.dK kvs)/\∀ v,H v=none->Q (.ref v) (upd H v (valsV v d))):=by
 intro pins s σ H x vs v us Q I rx rv h;obtain ⟨d,kvs,rfl,rfl,hd,q⟩:=h;cases rx;cases rv;obtain ⟨z,hS,ws,rel,dd⟩:=dk_of I.hok hd;refine call_meetsIn PySem.F.slot_dict_values dd.typeIs PySem.F.entry_dict_values (PySem.F.args_dict_values_1 _) (meets_dict_values (mixKind X.prog X.w) d hS) ⟨⟨ws,dd⟩,?_⟩;have hf:H s.heap.objs.size=none:=I.hok.fresh (Nat.le_refl _);have hv:(s.heap.push { cls:=.type "dict_values",data:=.fields #[.ref d] }).IsValuesView s.heap.objs.size d:=⟨_,Heap.get?_push_size _ rfl,rfl,rfl⟩;refine ⟨.ref s.heap.objs.size,upd H s.heap.objs.size (valsV s.heap.objs.size d),I.laid (t':=s.toks) (fun b u e=>Heap.get?_push_of_some _ e) (Nat.le_refl _) ?_,rfl,q _ hf⟩;exact ⟨hv,⟨_,Heap.get?_push_size _ rfl⟩,fun g1 g2 ⟨o1,r1,r2,r3⟩ k=>⟨o1,k _ r1,r2,r3⟩⟩
end
section
variable {g:TG}{tc:TT}{te:TE}{Q:VK}{σ:St}{H:Hp}{D:Addr}
theorem comp_vals {d:Addr}{o:Obj}{kvs:List (Key × V)}(Pv:Nat->St->Hp->Prop)(h0:Pv 0 σ H)(hl:∀ i σ H,i<=kvs.length->Pv i σ H->H d=some (.frz o (.dK kvs)))
  (hs:∀ i kv σ H,kvs[i]?=some kv->Pv i σ H->g kv.2 σ H fun σ2 H3=>tc σ2 H3 fun b H4=>if b=true then te σ2 H4 fun y H5=>∃ ys,H5 D=some (.lst ys)/\ys.length < sizeLine/\Pv (i + 1) σ2 (upd H5 D (.lst (ys++[y]))) else Pv (i + 1) σ2 H4)
  (hd:∀ σ H,Pv kvs.length σ H->Q (.ref D) H):CompGoes (Itv d o kvs) g tc te Q D σ H:=by
 refine ⟨fun i m σ H=>m=kvs.length - i/\i<=kvs.length/\Pv i σ H,⟨kvs.length,by simp,Nat.zero_le _,h0⟩,?_⟩;rintro i m σ H ⟨rfl,hi,p⟩;have q:=hl i σ H hi p;by_cases hlt:i < kvs.length
 ·refine .inr ⟨⟨q,hlt⟩,Pv (i + 1),fun σ' H' p'=>⟨kvs.length - (i + 1),by omega,rfl,hlt,p'⟩,fun x H' y=>?_⟩;obtain ⟨e,kv,hk,rfl⟩:=y;subst e;exact hs i kv σ _ hk p
 ·have e:i=kvs.length:=by omega
  subst e;exact .inl ⟨⟨q,Nat.le_refl _⟩,hd σ H p⟩
end
end L2
namespace L2
open PySem PySem.Spec PyProof.Rows PySem.W
noncomputable def nI:Value->Int
 | .int k _=>k
 | _=>0
section
variable {X:Cx}
theorem sorted_srcI {T:String}{r d:Addr}{n:Nat}{Pv:Nat->Value->Prop}{OK:Heap->Prop}{pins:List (Addr × Obj)}{s:Shared}{σ:St}{H:Hp}{Q:VK}(hh:X.A.handled=none)(I:Inv X pins σ H s)(S:KdlSrc X.prog X.w T r d n Pv OK)(ok:OK s.heap){ns:List Int}(hn:n=ns.length)(hl:n<=1000000)
  (hP:∀ (i:Nat) (v:Value) (k:Int),Pv i v->ns[i]?=some k->∃ t:Tok,v=Value.int k t)
  (q:∀ (d:Addr) (ms:List Int),H d=none->ms.Perm ns->ms.Pairwise (·<=·)->Q (.ref d) (upd H d (.lst (ms.map V.int)))) :
  wpAny (model X.prog X.w) X.A (call (.builtin "sorted") [.ref r]) (EP X pins σ Q) X.xe s:=by
 have nl:n<=sizeLine:=Nat.le_trans hl (by decide);apply Calls.call_function_entry kind_sorted plain_sorted entry_sorted (args_sorted1 _);unfold Builtin.«sorted»;refine wpAny_bind (m:=checkCount "sorted" 1 1 _) (wpAny_pure (wpAny_bind (kdu_collect S (by simp [hh]) ok nl fun h1 tk acc kk1 hit=>?_)));generalize hits:acc.toList=its;have hil:its.length=ns.length:=by
  rw [<- hits,Array.length_toList,hit.1,hn]
 have hv:∀ (i:Nat) (v:Value),its[i]?=some v->∃ (k:Int) (t:Tok),ns[i]?=some k/\v=Value.int k t:=fun i v e=>by
  have hi:=(List.getElem?_eq_some_iff.mp e).1;obtain ⟨k,hk⟩:∃ k,ns[i]?=some k:=⟨_,List.getElem?_eq_getElem (by omega)⟩;have hv2:acc[i]?=some v:=by
   rw [<- Array.getElem?_toList,hits];exact e
  obtain ⟨t,ht⟩:=hP i v k (hit.2 i v hv2) hk;exact ⟨k,t,hk,ht⟩
 have hmem:∀ v ∈ its,∃ (k:Int) (t:Tok),v=Value.int k t:=fun v hm=>by
  obtain ⟨i,e⟩:=List.getElem?_of_mem hm;obtain ⟨k,t,_,h⟩:=hv i v e;exact ⟨k,t,h⟩
 have hmap:its.map nI=ns:=by
  refine List.ext_getElem? fun i=>?_;rw [List.getElem?_map];cases e:its[i]? with
  | none =>
   rw [List.getElem?_eq_none_iff] at e;rw [List.getElem?_eq_none_iff.mpr (by omega)];rfl
  | some v =>
   obtain ⟨k,t,h1,rfl⟩:=hv i v e;rw [h1];rfl
 have small:its.length<=sizeLine:=by rw [hil,<- hn]; exact nl
 refine wpAny_bind (wpAny_newList ?_ small);have hoL:(h1.push (seqObj "list" its.toArray 0)).get? h1.objs.size=some (seqObj "list" its.toArray 0):=Heap.get?_push_size _ rfl;show wpAny _ _ _ _ _ { s with heap:=h1.push (seqObj "list" its.toArray 0),toks:=tk };refine wpAny_bind (wpAny_holding (wpAny_call_entry slot_list_sort ⟨_,hoL,rfl⟩ entry_list_sort (GS.srtG_list (s:={ s with heap:=h1.push (seqObj "list" its.toArray 0),toks:=tk }) hoL small nI (fun h2 s' kk=>?_) ?_) (args_list_sort _)))
 ·have ia:∀ {ws:List Value},(∀ v ∈ ws,∃ (k:Int) (t:Tok),v=Value.int k t)->IntsAre ws (ws.map nI):=fun {ws}=>by
   induction ws with
   | nil=>exact fun _=>.nil
   | cons a r ih =>
    intro h;obtain ⟨k,t,rfl⟩:=h a List.mem_cons_self;exact .cons k t (ih fun v hv=>h v (List.mem_cons_of_mem _ hv))
  have ia:IntsAre its.toArray.toList (its.map nI):=ia hmem;rw [ksk_kind ia (by simpa using h2)];refine wpAny_pure ⟨rfl,fun x hx y hy C hC=>?_⟩;have mx:x.1 ∈ its:=by
   rw [pairsOf_toList] at hx;exact (mem_zip_self hx).2
  have my:y.1 ∈ its:=by
   rw [pairsOf_toList] at hy;exact (mem_zip_self hy).2
  obtain ⟨k,t,e1⟩:=hmem _ mx;obtain ⟨k',t',e2⟩:=hmem _ my;rw [e1,e2];have hC:C (decide (nI x.1 < nI y.1)) s':=hC;rw [e1,e2] at hC;exact kat_lt_int hC
 ·intro ws h' c hpm' hs kk ha;have I1:Inv X pins σ H { s with heap:=h1,toks:=tk }:=I.kept kk1;have hD:H h1.objs.size=none:=I1.hok.fresh (Nat.le_refl _);have hmw:∀ v ∈ ws,∃ (k:Int) (t:Tok),v=Value.int k t:=fun v hm=>hmem v (hpm'.mem_iff.mp hm);have rv':∀ {ws:List Value},(∀ v ∈ ws,∃ (k:Int) (t:Tok),v=Value.int k t)->Vals ((ws.map nI).map V.int) ws:=fun {ws}=>by
   induction ws with
   | nil=>exact fun _=>.nil
   | cons a r ih =>
    intro h;obtain ⟨k,t,rfl⟩:=h a List.mem_cons_self;exact .cons ⟨t,rfl⟩ (ih fun v hv=>h v (List.mem_cons_of_mem _ hv))
  have rv:=rv' hmw;refine ⟨_,rfl,wpAny_pure ⟨_,rfl,.ref h1.objs.size,upd H h1.objs.size (.lst ((ws.map nI).map V.int)),I1.laid (t':=tk) (fun b o e=>kk b o (Nat.ne_of_lt (Heap.lt_size e)) (Heap.get?_push_of_some _ e)) (Nat.le_refl _) ⟨?_,_,c,rv,ha⟩,rfl,q _ _ hD (by rw [<- hmap]; exact hpm'.map _) (by rw [List.pairwise_map]; exact hs)⟩⟩;rw [rv.length,hpm'.length_eq];exact small
theorem call_sortedDI (hh:X.A.handled=none):CallR X (.builtin "sorted") (fun xs H Q=>∃ (l:Addr) (kvs:List (Key × V)) (ns:List Int),xs=[.ref l]/\H l=some (.dK kvs)/\kvs.map (·.1)=ns.map Sum.inl/\ns.length<=1000000/\∀ (d:Addr) (ms:List Int),H d=none->ms.Perm ns->ms.Pairwise (·<=·)->Q (.ref d) (upd H d (.lst (ms.map V.int)))):=by
 intro pins s σ H xs us' Q I r h;obtain ⟨l,kvs,ns,rfl,hl,hk,hz,q⟩:=h;obtain ⟨u,rfl,ru⟩:=vals1 r;cases ru;obtain ⟨z,hS,ws,rel,dd⟩:=dk_of I.hok hl;obtain ⟨ep,da⟩:=dd.dictAt;have hlen:ws.length=ns.length:=by
  rw [<- rel.length];have:=congrArg List.length hk;rwa [List.length_map,List.length_map] at this
 refine sorted_srcI hh I (kdl_dict (knd:=mixKind X.prog X.w) (kvs:=ws) (ep:=ep) hS) da hlen (by omega) (fun i v k h1 h2=>?_) q;obtain ⟨ky,x,h3,h4⟩:=h1;obtain ⟨kv,h5,h6,_⟩:=kv_at rel h3;have e1:(kvs.map (·.1))[i]?=some kv.1:=by
  rw [List.getElem?_map,h5];rfl
 rw [hk,List.getElem?_map,h2] at e1;have e2:(Sum.inl k:Key)=kv.1:=Option.some.inj e1;have e3:ky=Sum.inl k:=by rw [e2]; exact h6.symm
 subst e3;exact Value.isInt_shape h4
end
end L2
namespace L2
open PySem PySem.Spec PyProof.Rows PySem.W
section
variable {X:Cx}{K:PySem.W.Frag}
theorem call_allK (hK:X.K=K)(hc:X.calm=true):CallR X (.builtin "all") (fun xs H Q=>∃ (l:Addr) (bs:List Bool),xs=[.ref l]/\SqL K H l (bs.map V.bl)/\Q (.bl (bs.all id)) H):=hK ▸ call_all hc
end
end L2
namespace L2
open PySem PySem.Spec PyProof.Rows PySem.W
noncomputable def tDispT (tk tv:TE):TE:=fun σ H Q=>∀ p,H p=none->tk σ (upd H p (.dT [])) fun x H1=>tv σ H1 fun y H2=>∃ (b:Addr) (k:List Key),x=.ref b/\H2 b=some (.tup (k.map kV))/\H2 p=some (.dT [])/\Q (.ref p) (upd H2 p (.dT [(k,y)]))
theorem pe_dispT {X:Cx}{pos:Pos}{k v:Expr}{tk tv:TE}(hu:X.A.units + 1 < cLine)(hk:PE X k tk)(hv:PE X v tv):PE X (.Dict [some k] [v] pos) (tDispT tk tv):=by
 intro pins s σ H Q I q;have hn:=I.hok.fresh (Nat.le_refl s.heap.objs.size);have I1:=I.laid (a:=s.heap.objs.size) (o:=.dT []) (h':=s.heap.push { cls:=.type "dict",data:=.dict #[] }) (t':=s.toks) (fun _ _ q=>Heap.get?_push_of_some _ q) (Nat.le_refl _) (dt_empty s.heap I.big);refine wpAny_Dict_any rfl rfl (by simp) (by show 1<=15; decide) (pairTrees_cons_walk (thn (hk pins _ σ _ _ I1 (q _ hn)) fun u s1 ⟨x,H1,I2,rx,q1⟩=>thn (hv pins s1 σ H1 _ I2 q1) fun r s2 ⟨y,H2,I3,ry,b,kk,ex,eb,ep,q2⟩=>pairTrees_nil_walk ?_));subst ex;cases (show u=Value.ref b from rx);obtain ⟨z,hd,xs,rel,dd⟩:=dt_of I3.hok ep;cases rel;unfold storeAll;simp only [List.forIn_cons,List.forIn_nil];refine wpAny_bind (wpAny_bind (wpAny_dictSet_heap (hsz:=Nat.zero_le _) (show X.A.units < cLine by omega) (key_of I3.hok eb) dd fun h' dd' hs=>?_));refine wpAny_pure (wpAny_pure ?_);obtain ⟨qo,es,epp,hq,h2,h3,h4,_,h5⟩:=dd';refine ⟨.ref s.heap.objs.size,upd H2 s.heap.objs.size (.dT [(kk,y)]),d_write (ob:=.dT [(kk,y)]) I3 (by rw [ep]; exact True.intro) hs ⟨qo,hq⟩ ⟨by show 1<=sizeLine; decide,hd,_,(KT.put (kvs:=[]) (xs:=[]) .nil kk eb ry).keeps fun c ys ec=>?_,qo,es,epp,hq,h2,h3,h4,h5⟩,rfl,q2⟩;rw [upd_ne (ne_of ec ep (fun z=>nomatch z))];exact ec
end L2
namespace L2
open PySem PySem.Spec PyProof.Rows PySem.W
theorem key_rel {k:Key}{v:Value}(h:keyIs k v=true):RelV (kV k) v:=by
 rcases keyIs_shape h with ⟨i,t,rfl,rfl⟩ | ⟨x,t,rfl,rfl⟩
 ·exact ⟨t,rfl⟩
 ·exact ⟨t,rfl⟩
noncomputable def Itk (d:Addr)(o:Obj)(kvs:List (Key × V)):It :=
 ⟨fun i H=>H d=some (.frz o (.dK kvs))/\i < kvs.length,fun i H x H'=>H'=H/\∃ kv,kvs[i]?=some kv/\x=kV kv.1,fun i H=>H d=some (.frz o (.dK kvs))/\kvs.length<=i⟩
theorem turn_keys {P:Program}{w:World}{K:PySem.W.Frag}{tg:Expr}(d it:Addr)(o:Obj)(kvs:List (Key × V))(es:Array DictEntry)(ep:Nat)(hdd:o.data=.dict es ep):Turn P w K tg (Itk d o kvs) [it] it (fun i h=>h.IsKeyIter it d i kvs.length ep) where
 mem:=by simp
 obj:=fun i h st b hb=>by
  have e:b=it:=by simpa using hb
  subst e;obtain ⟨ob,e,c,dt⟩:=st;exact ⟨ob,e,fun v z=>by rw [dt] at z; cases z⟩
 keep:=fun i h h' ⟨ob,e,r⟩ k=>⟨ob,k it (by simp) ob e,r⟩
 item:=by
  intro X hP hw hK hc i pins s σ H E I hf st hg;subst hP hw hK;obtain ⟨hd,hi⟩:=hg;obtain ⟨vs,rel,da⟩:=frz_at hdd (show ObjOk X.prog X.w H s.heap d (.frz o (.dK kvs)) from I.hok d _ hd);have hl:=rel.length;obtain ⟨⟨k,x⟩,hx⟩:∃ p,vs[i]?=some p:=⟨_,List.getElem?_eq_getElem (by omega)⟩;obtain ⟨kv,hkv,ek,rv⟩:=kv_at rel hx;obtain ⟨f0,f1,f2,f3,f4,f5⟩:=hf it (by simp);rw [hl] at st;refine wpAny_pyNext_dict_item st da hx fun key h' hkey st' sb=>?_;rw [<- hl] at st';have I1:Inv X pins σ H { s with heap:=h' }:=I.turned (t':=s.toks) (fun b ob hb e=>(sb.2 b hb).trans e) f0 f1 f3 f4 f5;obtain ⟨oi,e,c,dt⟩:=id st';have hk2:RelV (kV kv.1) key:=by
   have e2:kv.1=k:=ek;rw [e2];exact key_rel hkey
  exact ⟨key,rfl,go_of (s:={ s with heap:=h' }) e c dt (by decide) ⟨kV kv.1,H,I1,hk2,⟨rfl,kv,hkv,rfl⟩,st',fun b hb=>(hf b hb).1⟩⟩
 done:=by
  intro X hP hw hK hc i pins s σ H E I hf st hg;subst hP hw hK;obtain ⟨hd,hi⟩:=hg;obtain ⟨vs,rel,da⟩:=frz_at hdd (show ObjOk X.prog X.w H s.heap d (.frz o (.dK kvs)) from I.hok d _ hd);have hl:=rel.length;obtain ⟨f0,f1,f2,f3,f4,f5⟩:=hf it (by simp);rw [hl] at st;have hi2:vs.length<=i:=by rw [<- hl]; exact hi
  exact wpAny_pyNext_dict_end (I.ok.hd hc) st da (List.getElem?_eq_none_iff.mpr hi2) fun h' eb=>⟨rfl,I.turned (t':=s.toks) (fun b ob hb e=>eb b ob hb e) f0 f1 f3 f4 f5⟩
 self:=fun _ _ _ _ _ st h=>wpAny_pyIter_keyiter st h
section
variable {X:Cx}{tg:Expr}
noncomputable def iKeys (tl:TE):TI:=fun σ H R=>tl σ H fun x H1=>∃ (a:Addr) (kvs:List (Key × V)),x=.ref a/\H1 a=some (.dK kvs)/\∀ o,R (Itk a o kvs) (upd H1 a (.frz o (.dK kvs)))
theorem pi_keys {l:Expr}{tl:TE}(hl:PE X l tl):PI X tg l (iKeys tl):=by
 intro pins s σ H R I h;refine thn (hl pins s σ H _ I h) fun v s1 ⟨x,H1,I1,r1,q1⟩=>?_;obtain ⟨a,kvs,e,hd,q⟩:=q1;subst e;cases r1;obtain ⟨hz,hS,vs,rel,dd⟩:=(show ObjOk X.prog X.w H1 s1.heap a (.dK kvs) from I1.hok a _ hd);obtain ⟨ep,da⟩:=dd.dictAt;obtain ⟨o,es,ho,hc,hdd,hr⟩:=id da;refine wpAny_pyIter_dict hS da ?_;have ha:a < s1.heap.objs.size:=Heap.lt_size ho;have hfr:H1 s1.heap.objs.size=none:=I1.hok.fresh (Nat.le_refl _);refine ⟨s1.heap.objs.size,[s1.heap.objs.size],_,Itk a o kvs,upd H1 a (.frz o (.dK kvs)),rfl,?_,turn_keys a _ o kvs es ep hdd,⟨_,Heap.get?_push_size _ rfl,rfl,by rw [rel.length]; rfl⟩,fun b hb=>?_,q o⟩
 ·refine I1.write (x:=a) (e:=a) (t':=s1.toks) (by rw [hd]; exact True.intro) (.inl rfl) (fun b u _ z=>Heap.get?_push_of_some _ z) ⟨o,Heap.get?_push_of_some _ ho⟩ ⟨Heap.get?_push_of_some _ ho,hz,hS,vs,rel,?_⟩;obtain ⟨o2,es2,ep2,h1,h2⟩:=dd;exact ⟨o2,es2,ep2,Heap.get?_push_of_some _ h1,h2⟩
 ·have e:b=s1.heap.objs.size:=by simpa using hb
  subst e;refine I1.fpOk (Nat.le_refl _) ?_;rw [upd_ne (Nat.ne_of_gt ha)];exact hfr
end
theorem for_keys {d:Addr}{o:Obj}{kvs:List (Key × V)}{g:TG}{tb:TS}{D:Ends}{σ:St}{H:Hp}(Pv:Nat->St->Hp->Prop)(h0:Pv 0 σ H)(hl:∀ i σ H,i<=kvs.length->Pv i σ H->H d=some (.frz o (.dK kvs)))
  (hs:∀ i kv σ H,kvs[i]?=some kv->Pv i σ H->g (kV kv.1) σ H fun σ2 H2=>tb { D with nx:=Pv (i + 1),ct:=Pv (i + 1),bk:=D.nx } σ2 H2) (hd:∀ σ H,Pv kvs.length σ H->D.nx σ H) :
  ∃ W:Nat->Nat->St->Hp->Prop,(∃ m,W 0 m σ H)/\∀ i m σ H,W i m σ H ->
   ((Itk d o kvs).stop i H/\D.nx σ H)\/((Itk d o kvs).go i H/\∃ N:St->Hp->Prop,(∀ σ' H',N σ' H'->∃ m',m' < m/\W (i + 1) m' σ' H')/\∀ x H',(Itk d o kvs).yld i H x H'->g x σ H' fun σ2 H2=>tb { D with nx:=N,ct:=N,bk:=D.nx } σ2 H2):=by
 refine ⟨fun i m σ H=>m=kvs.length - i/\i<=kvs.length/\Pv i σ H,⟨kvs.length,by simp,Nat.zero_le _,h0⟩,?_⟩;rintro i m σ H ⟨rfl,hi,p⟩;have q:=hl i σ H hi p;by_cases hlt:i < kvs.length
 ·refine .inr ⟨⟨q,hlt⟩,Pv (i + 1),fun σ' H' p'=>⟨kvs.length - (i + 1),by omega,rfl,hlt,p'⟩,fun x H' y=>?_⟩;obtain ⟨e,kv,hk,rfl⟩:=y;subst e;exact hs i kv σ _ hk p
 ·have e:i=kvs.length:=by omega
  subst e;exact .inl ⟨⟨q,Nat.le_refl _⟩,hd σ H p⟩
end L2
namespace L2
open PySem PySem.Spec PyProof.Rows PySem.W
section
variable {X:Cx}
theorem call_lenD:CallR X (.builtin "len") (fun xs H Q=>∃ (d:Addr) (kvs:List (Key × V)),xs=[.ref d]/\H d=some (.dK kvs)/\Q (.int (kvs.length:Nat)) H):=by
 intro pins s σ H xs us Q I r h;obtain ⟨d,kvs,rfl,hd,q⟩:=h;obtain ⟨u,rfl,ru⟩:=vals1 r;cases ru;exact d_len I (.inl hd) fun t s' I'=>⟨.int (kvs.length:Nat),H,I',⟨t,rfl⟩,q⟩
theorem Inv.thaw {pins:List (Addr × Obj)}{σ:St}{H:Hp}{s:Shared}{d:Addr}{o:Obj}{kvs:List (Key × V)}(I:Inv X pins σ H s)(hd:H d=some (.frz o (.dK kvs)))(h0:∀ o u,X.H₀ d ≠ some (.frz o u)):Inv X pins σ (upd H d (.dK kvs)) s:=by
 have hx:ObjOk X.prog X.w H s.heap d (.frz o (.dK kvs)):=I.hok d _ hd;refine ⟨I.ok,I.os,I.bare,?_,I.loc,I.cell,?_,?_,?_,?_,I.len⟩
 ·have u:=I.base;refine ⟨u.keep,u.slot,fun b ob e1 e2 e3=>?_,u.there,fun b xs e=>?_,fun b ob v e=>?_,fun b ps e=>?_⟩
  ·have n:=u.free b ob e1 e2 e3;rw [upd_ne (fun e=>by rw [e,hd] at n; cases n)];exact n
  ·have n:=u.tups b xs e;rw [upd_ne (fun z=>by rw [z,hd] at n; cases n)];exact n
  ·have n:=u.frzs b ob v e;rw [upd_ne (fun z=>by subst z; exact h0 _ _ e)];exact n
  ·obtain ⟨more,n⟩:=u.tbls b ps e;exact ⟨more,by rw [upd_ne (fun z=>by rw [z,hd] at n; cases n)]; exact n⟩
 ·rw [upd_ne (fun z=>by have n:=I.free; rw [z,hd] at n; cases n)];exact I.free
 ·intro x c e;have n:=I.freeC x c e;rw [upd_ne (fun z=>by rw [z,hd] at n; cases n)];exact n
 ·intro p hp;obtain ⟨h1,h2,h3⟩:=I.pin p hp;refine ⟨h1,?_,h3⟩;rw [upd_ne (fun z=>by rw [z,hd] at h2; cases h2)];exact h2
 ·intro b u e;by_cases hb:b=d
  ·subst hb;rw [upd_same] at e;cases e;obtain ⟨_,z,hS,vs,rel,dd⟩:=hx;exact ⟨z,hS,vs,rel,dd⟩
  ·rw [upd_ne hb] at e;refine (I.hok b u e).stay (fun c v _ q=>q) (fun c q=>?_) fun c xs q=>?_
   ·by_cases hc:c=d
    ·subst hc;rw [hd] at q;cases q
    ·rw [upd_ne hc];exact q
   ·rw [upd_ne (fun z=>by rw [z,hd] at q; cases q)];exact q
noncomputable def sThaw (t:TS):TS:=fun D σ H=>t { D with nx:=fun σ' H'=>∃ (d:Addr) (o:Obj) (kvs:List (Key × V)),H' d=some (.frz o (.dK kvs))/\(∀ o u,H d ≠ some (.frz o u))/\D.nx σ' (upd H' d (.dK kvs)) } σ H
theorem ps_thaw {st:Stmt}{t:TS}(h:PS X st t):PS X st (sThaw t):=by
 intro pins s σ H D I ht;refine thn (h pins s σ H _ I ht) fun fl s' e=>?_;cases fl with
 | next =>
  obtain ⟨σ',H',I',d,o,kvs,hd,hn,q⟩:=e;exact ⟨σ',_,I'.thaw hd fun o u z=>hn _ _ (I.base.frzs d _ _ z),q⟩
 | brk=>exact e
 | cont=>exact e
 | ret u=>exact e
end
end L2
namespace L2
open PySem PySem.Spec PyProof.Rows
section
variable {X:Cx}
noncomputable def rLt2:R2:=fun x y H Q=>∃ (a b:Addr) (p q:Int × Int),x=.ref a/\y=.ref b/\H a=some (.tup [.int p.1,.int p.2])/\H b=some (.tup [.int q.1,.int q.2])/\Q (.bl (lt2 p q)) H
theorem op_lt_deep (hu:X.A.units + 64 < cLine):OpR X (compareOp .Lt) rLt2:=by
 intro pins s σ H x y v u Q I rx ry h;obtain ⟨a,b,p,q,rfl,rfl,h1,h2,hq⟩:=h;cases rx;cases ry;obtain ⟨items,rv,tp,_⟩:=I.tuple (SqT.of h1);obtain ⟨u1,u2,rfl,⟨t1,rfl⟩,⟨t2,rfl⟩⟩:=vals2 rv;obtain ⟨⟨c1,dd,da,sl⟩,e1,c1',n,d1⟩:=tp;obtain ⟨items',rv',tp',_⟩:=I.tuple (SqT.of h2);obtain ⟨u1',u2',rfl,⟨t1',rfl⟩,⟨t2',rfl⟩⟩:=vals2 rv';obtain ⟨⟨c2,dd2,da2,sl2⟩,e2,c2',n',d2⟩:=tp';simp only at c1' d1 c2' d2;subst c1' d1 c2' d2;exact richCompare_meets_room (op:=.Lt) ⟨_,e1,rfl⟩ ⟨_,e2,rfl⟩ F.slot_tuple_lt F.entry_tuple_lt (F.args_tuple_lt_2 _ _) (PySem.SeqAt.tuple_ltAt a b p.1 p.2 q.1 q.2 t1 t2 t1' t2' n n' dd dd2 sl sl2)
  ⟨e1,e2,(fun x=>nomatch x),.bl (lt2 p q),H,I,rfl,hq⟩ (by omega)
end
end L2
namespace Cells
noncomputable def rowCs (p:Nat->Bool)(i:Nat):Nat->List Nat->List (Nat × Nat)
 | _,[]=>[]
 | j,c :: r=>(if p c=true then [(i,j)] else [])++rowCs p i (j + 1) r
noncomputable def allCs (p:Nat->Bool):Nat->List (List Nat)->List (Nat × Nat)
 | _,[]=>[]
 | i,t :: r=>rowCs p i 0 t++allCs p (i + 1) r
theorem rowCs_append (p:Nat->Bool)(i:Nat):∀ (j:Nat) (a b:List Nat),rowCs p i j (a++b)=rowCs p i j a++rowCs p i (j + a.length) b
 | j,[],b=>by simp [rowCs]
 | j,c :: a,b=>by
  simp only [List.cons_append,rowCs,rowCs_append p i (j + 1) a b,List.length_cons,List.append_assoc];rw [show j + 1 + a.length=j + (a.length + 1) by omega]
theorem allCs_append (p:Nat->Bool):∀ (i:Nat) (a b:List (List Nat)),allCs p i (a++b)=allCs p i a++allCs p (i + a.length) b
 | i,[],b=>by simp [allCs]
 | i,t :: a,b=>by
  simp only [List.cons_append,allCs,allCs_append p (i + 1) a b,List.length_cons,List.append_assoc];rw [show i + 1 + a.length=i + (a.length + 1) by omega]
theorem rowCs_step {p:Nat->Bool}{i j c:Nat}{t:List Nat}(h:t[j]?=some c):rowCs p i 0 (t.take (j + 1))=rowCs p i 0 (t.take j)++(if p c=true then [(i,j)] else []):=by
 rw [List.take_add_one,h,rowCs_append];have hl:(t.take j).length=j:=by
  have:=(List.getElem?_eq_some_iff.mp h).1;rw [List.length_take]; omega
 simp [rowCs,hl]
theorem allCs_step {p:Nat->Bool}{i:Nat}{t:List Nat}{rs:List (List Nat)}(h:rs[i]?=some t):allCs p 0 (rs.take (i + 1))=allCs p 0 (rs.take i)++rowCs p i 0 t:=by
 rw [List.take_add_one,h,allCs_append];have hl:(rs.take i).length=i:=by
  have:=(List.getElem?_eq_some_iff.mp h).1;rw [List.length_take]; omega
 simp [allCs,hl]
theorem rowCs_length (p:Nat->Bool)(i:Nat):∀ (j:Nat) (t:List Nat),(rowCs p i j t).length<=t.length
 | j,[]=>by simp [rowCs]
 | j,c :: r=>by
  have:=rowCs_length p i (j + 1) r;simp only [rowCs,List.length_append,List.length_cons];split <;> simp <;> omega
theorem allCs_length (p:Nat->Bool):∀ (i:Nat) (rs:List (List Nat)),(∀ t ∈ rs,t.length<=8)->(allCs p i rs).length<=8 * rs.length
 | i,[],_=>by simp [allCs]
 | i,t :: r,h=>by
  have h1:=rowCs_length p i 0 t;have h2:=allCs_length p (i + 1) r fun u hu=>h u (List.mem_cons_of_mem _ hu);have h3:=h t List.mem_cons_self;simp only [allCs,List.length_append,List.length_cons];omega
theorem mem_rowCs {p:Nat->Bool}{i:Nat}:∀ {j:Nat} {t:List Nat} {x:Nat × Nat},x ∈ rowCs p i j t->∃ m c,x=(i,j + m)/\t[m]?=some c/\p c=true
 | j,[],x,h=>by simp [rowCs] at h
 | j,c :: r,x,h=>by
  simp only [rowCs,List.mem_append] at h;rcases h with h | h
  ·split at h
   ·rename_i hp;have:x=(i,j):=by simpa using h
    exact ⟨0,c,this,rfl,hp⟩
   ·cases h
  ·obtain ⟨m,c',e,h1,h2⟩:=mem_rowCs h;exact ⟨m + 1,c',by rw [e,show j + 1 + m=j + (m + 1) by omega],by simpa using h1,h2⟩
theorem mem_allCs {p:Nat->Bool}:∀ {i:Nat} {rs:List (List Nat)} {x:Nat × Nat},x ∈ allCs p i rs->∃ k j t c,x=(i + k,j)/\rs[k]?=some t/\t[j]?=some c/\p c=true
 | i,[],x,h=>by simp [allCs] at h
 | i,t :: r,x,h=>by
  simp only [allCs,List.mem_append] at h;rcases h with h | h
  ·obtain ⟨m,c,e,h1,h2⟩:=mem_rowCs h;exact ⟨0,m,t,c,by simpa using e,rfl,h1,h2⟩
  ·obtain ⟨k,j,u,c,e,h1,h2,h3⟩:=mem_allCs h;exact ⟨k + 1,j,u,c,by rw [e,show i + 1 + k=i + (k + 1) by omega],by simpa using h1,h2,h3⟩
noncomputable def sgn (rs:List (List Nat))(x:Nat × Nat):Nat:=(rs.getD x.1 []).getD x.2 0
theorem rowCs_filter {p q:Nat->Bool}{i:Nat}(f:Nat × Nat->Bool):∀ (j:Nat) (t:List Nat),(∀ m c,t[m]?=some c->f (i,j + m)=q c)->(rowCs p i j t).filter f=rowCs (fun c=>p c && q c) i j t
 | j,[],_=>by simp [rowCs]
 | j,c :: r,h=>by
  have ih:=rowCs_filter (p:=p) (q:=q) (i:=i) f (j + 1) r fun m c' hm=>by
   have:=h (m + 1) c' (by simpa using hm);rw [show j + 1 + m=j + (m + 1) by omega]; exact this
  have h0:=h 0 c rfl;simp only [rowCs,List.filter_append,ih];congr 1;simp only [Nat.add_zero] at h0;by_cases hp:p c=true
  ·by_cases hq:q c=true
   ·simp [hp,hq,h0]
   ·simp [hp,hq,h0]
  ·simp [hp]
theorem allCs_filter {p q:Nat->Bool}(f:Nat × Nat->Bool):∀ (i:Nat) (rs:List (List Nat)),(∀ k t m c,rs[k]?=some t->t[m]?=some c->f (i + k,m)=q c)->(allCs p i rs).filter f=allCs (fun c=>p c && q c) i rs
 | i,[],_=>by simp [allCs]
 | i,t :: r,h=>by
  have ih:=allCs_filter (p:=p) (q:=q) f (i + 1) r fun k u m c hk hm=>by
   have:=h (k + 1) u m c (by simpa using hk) hm;rw [show i + 1 + k=i + (k + 1) by omega]; exact this
  simp only [allCs,List.filter_append,ih];rw [rowCs_filter (p:=p) (q:=q) f 0 t fun m c hm=>by simpa using h 0 t m c rfl hm]
theorem sgn_at {rs:List (List Nat)}{i j:Nat}{t:List Nat}{c:Nat}(h:rs[i]?=some t)(h2:t[j]?=some c):sgn rs (i,j)=c:=by
 unfold sgn;simp [List.getD,h,h2]
theorem all_filter {p q:Nat->Bool}(rs:List (List Nat)):(allCs p 0 rs).filter (fun x=>q (sgn rs x))=allCs (fun c=>p c && q c) 0 rs :=
 allCs_filter _ 0 rs fun k t m c hk hm=>by rw [show 0 + k=k by omega,sgn_at hk hm]
theorem allCs_congr {p q:Nat->Bool}(h:∀ c,p c=q c)(i:Nat)(rs:List (List Nat)):allCs p i rs=allCs q i rs:=by
 rw [show p=q from funext h]
end Cells
namespace Cells
noncomputable def near (x y:Nat × Nat):Bool:=decide ((if (x.1:Int) - (y.1:Int) < 0 then -((x.1:Int) - (y.1:Int)) else (x.1:Int) - (y.1:Int)) < 2) && (decide ((if (x.2:Int) - (y.2:Int) < 0 then -((x.2:Int) - (y.2:Int)) else (x.2:Int) - (y.2:Int)) < 2) && !decide (x=y))
theorem near_iff (x y:Nat × Nat):near x y=true ↔ (x.1<=y.1 + 1/\y.1<=x.1 + 1)/\(x.2<=y.2 + 1/\y.2<=x.2 + 1)/\¬ x=y:=by
 unfold near;rw [Bool.and_eq_true,Bool.and_eq_true,decide_eq_true_iff,decide_eq_true_iff,Bool.not_eq_true',decide_eq_false_iff_not];constructor
 ·rintro ⟨h1,h2,h3⟩;refine ⟨?_,?_,h3⟩
  ·split at h1 <;> omega
  ·split at h2 <;> omega
 ·rintro ⟨h1,h2,h3⟩;refine ⟨?_,?_,h3⟩
  ·split <;> omega
  ·split <;> omega
theorem near_symm (x y:Nat × Nat):near x y=near y x:=by
 rw [Bool.eq_iff_iff,near_iff,near_iff];constructor
 ·rintro ⟨⟨a,b⟩,⟨c,d⟩,e⟩;exact ⟨⟨b,a⟩,⟨d,c⟩,fun z=>e z.symm⟩
 ·rintro ⟨⟨a,b⟩,⟨c,d⟩,e⟩;exact ⟨⟨b,a⟩,⟨d,c⟩,fun z=>e z.symm⟩
noncomputable def lex (a b:Nat × Nat):Prop:=a.1 < b.1\/(a.1=b.1/\a.2 < b.2)
theorem rowCs_lex (p:Nat->Bool)(i:Nat):∀ (j:Nat) (t:List Nat),(rowCs p i j t).Pairwise lex
 | j,[]=>by simp [rowCs]
 | j,c :: r=>by
  simp only [rowCs];rw [List.pairwise_append];refine ⟨?_,rowCs_lex p i (j + 1) r,fun a ha b hb=>?_⟩
  ·split <;> simp
  ·split at ha
   ·have e:a=(i,j):=by simpa using ha
    obtain ⟨m,c',e',_,_⟩:=mem_rowCs hb;subst e e';exact .inr ⟨rfl,by show j < j + 1 + m; omega⟩
   ·cases ha
theorem allCs_lex (p:Nat->Bool):∀ (i:Nat) (rs:List (List Nat)),(allCs p i rs).Pairwise lex
 | i,[]=>by simp [allCs]
 | i,t :: r=>by
  simp only [allCs];rw [List.pairwise_append];refine ⟨rowCs_lex p i 0 t,allCs_lex p (i + 1) r,fun a ha b hb=>?_⟩;obtain ⟨m,c,e,_,_⟩:=mem_rowCs ha;obtain ⟨k,j,u,c',e',_,_,_⟩:=mem_allCs hb;subst e e';exact .inl (by show i < i + 1 + k; omega)
theorem rows_low {p:Nat->Bool}{f:Nat × Nat->Bool}{n:Nat}{rs:List (List Nat)}(h:∀ r c,r < n->f (r,c)=false):(allCs p 0 (rs.take n)).filter f=[]:=by
 rw [List.filter_eq_nil_iff];intro x hx;obtain ⟨k,j,t,c,e,hk,_,_⟩:=mem_allCs hx;have hkl:k < n:=by
  have:=(List.getElem?_eq_some_iff.mp hk).1;rw [List.length_take] at this;omega
 subst e;rw [h _ _ (by omega)];exact Bool.false_ne_true
theorem rows_high {p:Nat->Bool}{f:Nat × Nat->Bool}{n:Nat}{rs:List (List Nat)}(h:∀ r c,n<=r->f (r,c)=false):(allCs p 0 (rs.take n)).filter f=(allCs p 0 rs).filter f:=by
 by_cases hn:n<=rs.length
 ·have e:=List.take_append_drop n rs;have e2:allCs p 0 rs=allCs p 0 (rs.take n)++allCs p (0 + (rs.take n).length) (rs.drop n):=by rw [<- allCs_append,e]
  rw [e2,List.filter_append];have z:(allCs p (0 + (rs.take n).length) (rs.drop n)).filter f=[]:=by
   rw [List.filter_eq_nil_iff];intro x hx;obtain ⟨k,j,t,c,e,hk,_,_⟩:=mem_allCs hx;subst e;rw [List.length_take,h _ _ (by omega)];exact Bool.false_ne_true
  rw [z,List.append_nil]
 ·rw [List.take_of_length_le (by omega)]
theorem cols_low {p:Nat->Bool}{f:Nat × Nat->Bool}{i n:Nat}{t:List Nat}(h:∀ c,c < n->f (i,c)=false):(rowCs p i 0 (t.take n)).filter f=[]:=by
 rw [List.filter_eq_nil_iff];intro x hx;obtain ⟨m,c,e,hm,_⟩:=mem_rowCs hx;have hml:m < n:=by
  have:=(List.getElem?_eq_some_iff.mp hm).1;rw [List.length_take] at this;omega
 subst e;rw [h _ (by omega)];exact Bool.false_ne_true
theorem cols_high {p:Nat->Bool}{f:Nat × Nat->Bool}{i n:Nat}{t:List Nat}(h:∀ c,n<=c->f (i,c)=false):(rowCs p i 0 (t.take n)).filter f=(rowCs p i 0 t).filter f:=by
 by_cases hn:n<=t.length
 ·have e:=List.take_append_drop n t;have e2:rowCs p i 0 t=rowCs p i 0 (t.take n)++rowCs p i (0 + (t.take n).length) (t.drop n):=by rw [<- rowCs_append,e]
  rw [e2,List.filter_append];have z:(rowCs p i (0 + (t.take n).length) (t.drop n)).filter f=[]:=by
   rw [List.filter_eq_nil_iff];intro x hx;obtain ⟨m,c,e,hm,_⟩:=mem_rowCs hx;subst e;rw [List.length_take,h _ (by omega)];exact Bool.false_ne_true
  rw [z,List.append_nil]
 ·rw [List.take_of_length_le (by omega)]
end Cells
namespace Parts
end Parts
namespace Subs
variable {α:Type}
noncomputable def step (S:List (List α))(c:α):List (List α):=S++S.map (·++[c])
noncomputable def subs (cs:List α):List (List α):=cs.foldl step [[]]
noncomputable def pick:List α->Nat->List α
 | [],_=>[]
 | c :: r,b=>(if b % 2=1 then [c] else [])++pick r (b / 2)
theorem subs_snoc (cs:List α)(c:α):subs (cs++[c])=step (subs cs) c:=by
 unfold subs;rw [List.foldl_append];rfl
theorem pick_lo:∀ (cs:List α) (c:α) (b:Nat),b < 2 ^ cs.length->pick (cs++[c]) b=pick cs b
 | [],c,b,h=>by
  have:b=0:=by
   simp at h;omega
  subst this;rfl
 | d :: r,c,b,h=>by
  show _++pick (r++[c]) (b / 2)=_++pick r (b / 2);rw [pick_lo r c (b / 2) (by
   rw [List.length_cons,Nat.pow_succ] at h;omega)]
theorem pick_hi:∀ (cs:List α) (c:α) (b:Nat),b < 2 ^ cs.length->pick (cs++[c]) (2 ^ cs.length + b)=pick cs b++[c]
 | [],c,b,h=>by
  have:b=0:=by
   simp at h;omega
  subst this;rfl
 | d :: r,c,b,h=>by
  rw [List.length_cons,Nat.pow_succ] at h;show (if (2 ^ (r.length + 1) + b) % 2=1 then [d] else [])++pick (r++[c]) ((2 ^ (r.length + 1) + b) / 2)=((if b % 2=1 then [d] else [])++pick r (b / 2))++[c];have e1:(2 ^ (r.length + 1) + b) % 2=b % 2:=by
   rw [Nat.pow_succ];omega
  have e2:(2 ^ (r.length + 1) + b) / 2=2 ^ r.length + b / 2:=by
   rw [Nat.pow_succ];omega
  rw [e1,e2,pick_hi r c (b / 2) (by omega),List.append_assoc]
theorem subs_pick (cs:List α):subs cs=(List.range (2 ^ cs.length)).map (pick cs):=by
 rw [<- List.reverse_reverse cs];induction cs.reverse with
 | nil=>rfl
 | cons c r ih =>
  rw [List.reverse_cons,subs_snoc,ih,List.length_append,List.length_singleton,Nat.pow_succ,Nat.mul_two,List.range_add,List.map_append,List.map_map];unfold step;rw [List.map_map];congr 1
  ·refine List.map_congr_left fun b hb=>?_;exact (pick_lo _ _ _ (List.mem_range.mp hb)).symm
  ·refine List.map_congr_left fun b hb=>?_;exact (pick_hi _ _ _ (List.mem_range.mp hb)).symm
noncomputable def stepN (n:Int)(F:List (List α))(c:α):List (List α):=F++(F.filter fun p=>decide (((p.length:Nat):Int) < n)).map (·++[c])
theorem filter_step (n:Int)(hn:0<=n)(c:α)(S:List (List α)):stepN n (S.filter fun p=>decide (((p.length:Nat):Int)<=n)) c=(step S c).filter fun p=>decide (((p.length:Nat):Int)<=n):=by
 unfold stepN step;rw [List.filter_append];congr 1;rw [List.filter_filter,List.filter_map];congr 1;refine List.filter_congr fun p _=>?_;show (decide (((p.length:Nat):Int) < n) && decide (((p.length:Nat):Int)<=n))=decide ((((p++[c]).length:Nat):Int)<=n);rw [List.length_append,List.length_singleton,Bool.eq_iff_iff];simp only [Bool.and_eq_true,decide_eq_true_eq];omega
theorem foldN (n:Int)(hn:0<=n):∀ (cs:List α) (S:List (List α)),cs.foldl (stepN n) (S.filter fun p=>decide (((p.length:Nat):Int)<=n))=(cs.foldl step S).filter fun p=>decide (((p.length:Nat):Int)<=n)
 | [],_=>rfl
 | c :: r,S=>by
  rw [List.foldl_cons,List.foldl_cons,filter_step n hn,foldN n hn r]
theorem picks_are (n:Int)(hn:0<=n)(cs:List α):(cs.foldl (stepN n) [[]]).filter (fun p=>decide (((p.length:Nat):Int)=n))=(subs cs).filter fun p=>decide (((p.length:Nat):Int)=n):=by
 have h:=foldN n hn cs [[]];have e:([[]]:List (List α)).filter (fun p=>decide (((p.length:Nat):Int)<=n))=[[]]:=by
  simp [hn]
 rw [e] at h;rw [h,List.filter_filter];refine List.filter_congr fun p _=>?_;rw [Bool.eq_iff_iff];simp only [Bool.and_eq_true,decide_eq_true_eq];omega
end Subs
namespace K73
open PySem L2
variable {P:Program}{w:World}{K:PySem.W.Frag}{mg:Str->Option Value}{base:Heap}{f:Addr}{fd:FuncData}
noncomputable abbrev top (i:Nat):Stmt:=K73E.top i
noncomputable abbrev s_closed:Stmt:=top 7
noncomputable abbrev s_open_cells:Stmt:=top 8
noncomputable abbrev s_around:Stmt:=top 9
noncomputable abbrev s_number_at:Stmt:=top 10
noncomputable abbrev s_opened:Stmt:=top 11
noncomputable abbrev s_cells_of:Stmt:=top 12
noncomputable abbrev s_sign_at:Stmt:=top 13
noncomputable abbrev s_fraction:Stmt:=top 15
noncomputable abbrev s_greatest_divisor:Stmt:=top 16
noncomputable abbrev s_layings:Stmt:=top 19
noncomputable abbrev s_numbers_told:Stmt:=top 20
noncomputable abbrev s_wrong_number:Stmt:=top 21
noncomputable abbrev s_picks:Stmt:=top 22
noncomputable abbrev s_chances:Stmt:=top 26
noncomputable abbrev s_best:Stmt:=top 27
noncomputable abbrev s_plan:Stmt:=top 28
noncomputable abbrev s_known_layings:Stmt:=top 29
noncomputable abbrev s_through:Stmt:=top 30
noncomputable abbrev s_through_by:Stmt:=top 31
noncomputable abbrev s_told_apart:Stmt:=top 32
noncomputable abbrev s_all_full:Stmt:=top 33
noncomputable abbrev s_law_cell_at:Stmt:=top 35
noncomputable abbrev s_law_mixed:Stmt:=top 36
noncomputable abbrev s_law_mark:Stmt:=top 37
noncomputable abbrev s_law_drawn:Stmt:=top 38
noncomputable abbrev s_law_cells:Stmt:=top 39
noncomputable abbrev s_law_near:Stmt:=top 40
noncomputable abbrev s_law_board:Stmt:=top 41
noncomputable abbrev s_law_bent:Stmt:=top 42
noncomputable abbrev s_law_all:Stmt:=top 43
noncomputable abbrev s_law_told_at:Stmt:=top 44
noncomputable abbrev s_law_goes:Stmt:=top 45
noncomputable abbrev s_law_stops_rightly:Stmt:=top 46
noncomputable abbrev s_law_walked:Stmt:=top 47
noncomputable abbrev s_law_rival:Stmt:=top 48
noncomputable abbrev s_law_dicts:Stmt:=top 49
noncomputable abbrev s_law_own:Stmt:=top 50
noncomputable abbrev s_law:Stmt:=top 51
structure Txt (mg:Str->Option Value):Prop where
 b_abs:mg "abs"=none
 b_all:mg "all"=none
 b_dict:mg "dict"=none
 b_enumerate:mg "enumerate"=none
 b_int:mg "int"=none
 b_isinstance:mg "isinstance"=none
 b_len:mg "len"=none
 b_list:mg "list"=none
 b_max:mg "max"=none
 b_min:mg "min"=none
 b_range:mg "range"=none
 b_sorted:mg "sorted"=none
 b_str:mg "str"=none
 b_sum:mg "sum"=none
 b_tuple:mg "tuple"=none
 v_CLOSED_SIGN:∃ t,mg "CLOSED_SIGN"=some (.str "?" t)
 v_MOST_CLOSED_chances:∃ t,mg "MOST_CLOSED_chances"=some (.int 8 t)
 v_MOST_CLOSED_layings:∃ t,mg "MOST_CLOSED_layings"=some (.int 12 t)
 v_MOST_DEPTH:∃ t,mg "MOST_DEPTH"=some (.int 3 t)
 v_NO_CELL_SIGN:∃ t,mg "NO_CELL_SIGN"=some (.str "#" t)
structure Prog (K:PySem.W.Frag)(mg:Str->Option Value):Prop where
 closed:∃ (f:Addr) (fd:FuncData),DefAt K mg "closed" s_closed ["board"] f fd
 open_cells:∃ (f:Addr) (fd:FuncData),DefAt K mg "open_cells" s_open_cells ["board"] f fd
 around:∃ (f:Addr) (fd:FuncData),DefAt K mg "around" s_around ["board","cell"] f fd
 number_at:∃ (f:Addr) (fd:FuncData),DefAt K mg "number_at" s_number_at ["board","cell"] f fd
 opened:∃ (f:Addr) (fd:FuncData),DefAt K mg "opened" s_opened ["board","numbers"] f fd
 cells_of:∃ (f:Addr) (fd:FuncData),DefAt K mg "cells_of" s_cells_of ["board"] f fd
 sign_at:∃ (f:Addr) (fd:FuncData),DefAt K mg "sign_at" s_sign_at ["board","cell"] f fd
 fraction:∃ (f:Addr) (fd:FuncData),DefAt K mg "fraction" s_fraction ["top","bottom"] f fd
 greatest_divisor:∃ (f:Addr) (fd:FuncData),DefAt K mg "greatest_divisor" s_greatest_divisor ["number","bottom"] f fd
 layings:∃ (f:Addr) (fd:FuncData),DefAt K mg "layings" s_layings ["board"] f fd
 numbers_told:∃ (f:Addr) (fd:FuncData),DefAt K mg "numbers_told" s_numbers_told ["board"] f fd
 wrong_number:∃ (f:Addr) (fd:FuncData),DefAt K mg "wrong_number" s_wrong_number ["told","cells"] f fd
 picks:∃ (f:Addr) (fd:FuncData),DefAt K mg "picks" s_picks ["cells","size"] f fd
 chances:∃ (f:Addr) (fd:FuncData),DefAt K mg "chances" s_chances ["board","depth"] f fd
 best:∃ (f:Addr) (fd:FuncData),DefAt K mg "best" s_best ["board","depth"] f fd
 plan:∃ (f:Addr) (fd:FuncData),DefAt K mg "plan" s_plan ["board","depth"] f fd
 known_layings:∃ (f:Addr) (fd:FuncData),DefAt K mg "known_layings" s_known_layings ["board","depth"] f fd
 through:∃ (f:Addr) (fd:FuncData),DefAt K mg "through" s_through ["board","found","cells","depth"] f fd
 through_by:∃ (f:Addr) (fd:FuncData),DefAt K mg "through_by" s_through_by ["board","found","cells","depth","cell"] f fd
 told_apart:∃ (f:Addr) (fd:FuncData),DefAt K mg "told_apart" s_told_apart ["board","found","cell"] f fd
 all_full:∃ (f:Addr) (fd:FuncData),DefAt K mg "all_full" s_all_full ["found","cells"] f fd
 law_cell_at:∃ (f:Addr) (fd:FuncData),DefAt K mg "_law_cell_at" s_law_cell_at ["_law_script","_law_k"] f fd
 law_mixed:∃ (f:Addr) (fd:FuncData),DefAt K mg "_law_mixed" s_law_mixed ["_law_cell","_law_k"] f fd
 law_mark:∃ (f:Addr) (fd:FuncData),DefAt K mg "_law_mark" s_law_mark ["_law_drawn_here","_law_often","_law_many","_law_room"] f fd
 law_drawn:∃ (f:Addr) (fd:FuncData),DefAt K mg "_law_drawn" s_law_drawn ["_law_script","_law_most","_law_limit"] f fd
 law_cells:∃ (f:Addr) (fd:FuncData),DefAt K mg "_law_cells" s_law_cells ["_law_rows","_law_signs"] f fd
 law_near:∃ (f:Addr) (fd:FuncData),DefAt K mg "_law_near" s_law_near ["_law_one","_law_other"] f fd
 law_board:∃ (f:Addr) (fd:FuncData),DefAt K mg "_law_board" s_law_board ["_law_marks"] f fd
 law_bent:∃ (f:Addr) (fd:FuncData),DefAt K mg "_law_bent" s_law_bent ["_law_board_here","_law_cell"] f fd
 law_all:∃ (f:Addr) (fd:FuncData),DefAt K mg "_law_all" s_law_all ["_law_board_here"] f fd
 law_told_at:∃ (f:Addr) (fd:FuncData),DefAt K mg "_law_told_at" s_law_told_at ["_law_laying","_law_cell"] f fd
 law_goes:∃ (f:Addr) (fd:FuncData),DefAt K mg "_law_goes" s_law_goes ["_law_told","_law_laying","_law_depth"] f fd
 law_stops_rightly:∃ (f:Addr) (fd:FuncData),DefAt K mg "_law_stops_rightly" s_law_stops_rightly ["_law_cells_here","_law_some","_law_gone","_law_laying","_law_depth"] f fd
 law_walked:∃ (f:Addr) (fd:FuncData),DefAt K mg "_law_walked" s_law_walked ["_law_told","_law_cells_here","_law_some","_law_depth"] f fd
 law_rival:∃ (f:Addr) (fd:FuncData),DefAt K mg "_law_rival" s_law_rival ["_law_script","_law_cells_here","_law_some","_law_depth","_law_k"] f fd
 law_dicts:∃ (f:Addr) (fd:FuncData),DefAt K mg "_law_dicts" s_law_dicts ["_law_told"] f fd
 law_own:∃ (f:Addr) (fd:FuncData),DefAt K mg "_law_own" s_law_own ["_law_told"] f fd
noncomputable def spCell (K:PySem.W.Frag):Sp:=fun vs H Q _=>∃ (a:Addr) (ns:List Int) (k:Int),vs=[.ref a,.int k]/\SqL K H a (ns.map V.int)/\0<=k/\∀ z:Int,Q (.int z) H
structure Row (signs:List Nat)(n:Nat)(t:Str):Prop where
 len:t.cps.size=n
 mem:∀ c ∈ t.cps.toList,c ∈ signs
structure Rows (signs:List Nat)(rs:List Str):Prop where
 lo:1<=rs.length
 hi:rs.length<=8
 ex:∃ n,1<=n/\n<=8/\∀ t ∈ rs,Row signs n t
noncomputable def bd:Str:="?012345678#"
theorem sc_law_cell_at:FnScope ["_law_script","_law_k"] ["_law_script","_law_k"] (defScope s_law_cell_at):=⟨rfl,rfl,rfl,by decide +kernel,rfl,by decide +kernel,by decide +kernel⟩
theorem ok_law_cell_at (T:Txt mg)(D:DefAt K mg "_law_cell_at" s_law_cell_at ["_law_script","_law_k"] f fd):FnOk P w K mg base CX0 1 f fd ["_law_script","_law_k"] (spCell K):=by
 refine D.F.ok sc_law_cell_at (fun vs H Q E h=>?_) (fun cdv A outer s H vs Q E hr h=>?_)
 ·obtain ⟨a,ns,i,rfl,_⟩:=h;rfl
 ·obtain ⟨a,ns,i,rfl,hS,hi,k⟩:=h;refine ⟨_,(pss_cons (ps_if (pt_cmpR op_lt (pv 1) (pe_callB call_len_seq (by rfl) T.b_len PySem.boot_len (pa_cons (pv 0) pa_nil)) (nomark _)) (pss_one (ps_ret (pe_ix ix_list (pv 0) (pv 1) (fun _ _=>rfl)))) pss_nil)
   (pss_one (ps_ret pe_int))),?_⟩
  refine ⟨_,rfl,_,rfl,a,_,rfl,.inl hS,_,_,rfl,rfl,_,rfl,?_⟩;refine ite2 (fun c=>?_) (fun c=>?_)
  ·have c':i < ((ns.map V.int).length:Nat):=of_decide_eq_true c;rw [List.length_map] at c';have hl:i.toNat < ns.length:=by omega
   refine ⟨_,rfl,_,rfl,a,_,i,.int ns[i.toNat],rfl,rfl,hS,atI_lt hi (by rw [List.getElem?_map,List.getElem?_eq_getElem hl]; rfl),?_⟩;exact k _
  ·exact k 0
structure BoardAt (H:Hp)(p l:Addr)(rs:List Str)(n:Int):Prop where
 tp:H p=some (.tup [.ref l,.int n])
 rw:H l=some (.lst (rs.map V.str))
theorem BoardAt.mono {H H':Hp}{p l:Addr}{rs:List Str}{n:Int}(b:BoardAt H p l rs n)(s:Same H H'):BoardAt H' p l rs n:=⟨s _ _ b.tp,s _ _ b.rw⟩
noncomputable def codes (rs:List Str):List (List Nat):=rs.map fun t=>t.cps.toList
theorem codes_get {rs:List Str}{i:Nat}{t:Str}(h:rs[i]?=some t):(codes rs)[i]?=some t.cps.toList:=by
 unfold codes;rw [List.getElem?_map,h];rfl
theorem codes_inv {rs:List Str}{i:Nat}{u:List Nat}(h:(codes rs)[i]?=some u):∃ t,rs[i]?=some t/\u=t.cps.toList:=by
 unfold codes at h;rw [List.getElem?_map] at h;cases e:rs[i]? with
 | none =>
  rw [e] at h;cases h
 | some t =>
  rw [e] at h;cases h;exact ⟨t,rfl,rfl⟩
theorem codes_len (rs:List Str):(codes rs).length=rs.length:=by
 unfold codes;rw [List.length_map]
theorem Rows.short {s:List Nat}{rs:List Str}(R:Rows s rs):∀ u ∈ codes rs,u.length<=8:=fun u hu=>by
 obtain ⟨t,ht,rfl⟩:=List.mem_map.mp hu;obtain ⟨n,_,h8,q⟩:=R.ex;have:=(q t ht).len;rw [Array.length_toList];omega
theorem Rows.tlen {s:List Nat}{rs:List Str}{i:Nat}{t:Str}(R:Rows s rs)(h:rs[i]?=some t):t.length<=sizeLine:=by
 obtain ⟨n,_,h8,q⟩:=R.ex;have e:t.length=n:=(q t (List.mem_of_getElem? h)).len;rw [e];exact Nat.le_trans h8 (by decide)
noncomputable def CelR (H:Hp)(v:V)(c:Nat × Nat):Prop:=∃ a,v=V.ref a/\H a=some (.tup [.int (c.1:Nat),.int (c.2:Nat)])
noncomputable def Cel (H:Hp):List V->List (Nat × Nat)->Prop:=Paired (CelR H)
theorem Cel.mono {H H':Hp}(s:Same H H'){vs:List V}{cs:List (Nat × Nat)}(hp:Cel H vs cs):Cel H' vs cs:=by
 induction hp with
 | nil=>exact .nil
 | cons q _ ih =>
  obtain ⟨a,e,h⟩:=q;exact .cons ⟨a,e,s _ _ h⟩ ih
theorem Cel.snoc {H:Hp}{vs:List V}{cs:List (Nat × Nat)}{v:V}{c:Nat × Nat}(h:Cel H vs cs)(x:CelR H v c):Cel H (vs++[v]) (cs++[c]):=Paired.snoc h x
theorem Cel.append {H:Hp}{vs ws:List V}{cs ds:List (Nat × Nat)}(h:Cel H vs cs)(k:Cel H ws ds):Cel H (vs++ws) (cs++ds):=pr_app h k
theorem Cel.into {H:Hp}(z:Addr)(o:HO){old:List V}(hz:H z=some (.lst old)){vs:List V}{cs:List (Nat × Nat)}(hp:Cel H vs cs):Cel (upd H z o) vs cs:=by
 induction hp with
 | nil=>exact .nil
 | cons q _ ih =>
  obtain ⟨a,e,h⟩:=q;exact .cons ⟨a,e,by rw [upd_ne (ne_of h hz (by intro y; cases y))]; exact h⟩ ih
theorem Cel.length {H:Hp}{vs:List V}{cs:List (Nat × Nat)}(h:Cel H vs cs):vs.length=cs.length:=Paired.length h
theorem Cel.get {H:Hp}:∀ {vs:List V} {cs:List (Nat × Nat)} {i:Nat} {v:V},Cel H vs cs->vs[i]?=some v->∃ c,cs[i]?=some c/\CelR H v c
 | _,_,_,_,.nil,e=>by simp at e
 | _,_,0,_,.cons r _,e=>by
  simp at e;subst e;exact ⟨_,rfl,r⟩
 | _,_,i + 1,v,.cons _ t,e=>by
  obtain ⟨c,h1,h2⟩:=Cel.get (i:=i) (v:=v) t (by simpa using e);exact ⟨c,by simpa using h1,h2⟩
noncomputable def cData (c:Nat × Nat):PyData:=.tuple [.int (c.1:Nat),.int (c.2:Nat)]
theorem CelR.rdv {K:PySem.W.Frag}{H:Hp}{v:V}{c:Nat × Nat}(h:CelR H v c):Rdv K H v (cData c):=by
 obtain ⟨a,rfl,h⟩:=h;exact .tup (SqT.of h) (.cons (.int _) (.cons (.int _) .nil))
theorem cData_cmp (c d:Nat × Nat):CmpD (cData c) (cData d):=⟨rfl,rfl,by show max 0 (max 0 0) + 1<=64; decide⟩
theorem cData_eqv (c d:Nat × Nat):PyData.eqv (cData c) (cData d)=decide (c=d):=by
 obtain ⟨a,b⟩:=c;obtain ⟨x,y⟩:=d;show ((((a:Nat):Int) == ((x:Nat):Int)) && ((((b:Nat):Int) == ((y:Nat):Int)) && true))=decide ((a,b)=(x,y));by_cases h1:a=x
 ·by_cases h2:b=y
  ·subst h1 h2;simp
  ·have:¬ ((b:Int)=(y:Int)):=by omega
   simp [h2,this]
 ·have:¬ ((a:Int)=(x:Int)):=by omega
  simp [h1,this]
theorem one_eq (c k:Nat):(V.str ⟨#[c]⟩=V.str ⟨#[k]⟩)=(c=k):=by
 apply propext;constructor
 ·intro h;have h2:(⟨#[c]⟩:Str)=⟨#[k]⟩:=V.str.inj h;have h3:(#[c]:Array Nat)=#[k]:=congrArg Str.cps h2;simpa using h3
 ·rintro rfl;rfl
theorem hash_is:("#":Str)=⟨#[35]⟩:=by decide +kernel
theorem ask_is:("?":Str)=⟨#[63]⟩:=by decide +kernel
noncomputable def pCell (c:Nat):Bool:=!decide (c=35)
noncomputable def pShut (c:Nat):Bool:=decide (c=63)
noncomputable def pOpen (c:Nat):Bool:=pCell c && !decide (c=63)
noncomputable def spSign:Sp:=fun vs H Q _=>∃ (p l c:Addr) (rs:List Str) (n:Int) (i j:Nat) (t:Str) (k:Nat),vs=[.ref p,.ref c]/\BoardAt H p l rs n/\H c=some (.tup [.int (i:Nat),.int (j:Nat)])/\rs[i]?=some t/\t.cps.toList[j]?=some k/\t.length<=sizeLine/\Q (.str ⟨#[k]⟩) H
noncomputable def spList (p:Nat->Bool):Sp:=fun vs H Q _=>∃ (a l:Addr) (rs:List Str) (n:Int),vs=[.ref a]/\BoardAt H a l rs n/\Rows bd.cps.toList rs /\
 ∀ (d:Addr) (ws:List V) (H':Hp),H d=none->H' d=some (.lst ws)->Cel H' ws (Cells.allCs p 0 (codes rs))->Same H H'->Q (.ref d) H'
noncomputable def spNumber:Sp:=fun vs H Q _=>∃ (p l c:Addr) (rs:List Str) (n:Int) (i j:Nat) (t:Str) (k:Nat),vs=[.ref p,.ref c]/\BoardAt H p l rs n/\H c=some (.tup [.int (i:Nat),.int (j:Nat)])/\rs[i]?=some t/\t.cps.toList[j]?=some k/\t.length<=sizeLine/\48<=k/\k<=56/\Q (.int ((k:Int) - 48)) H
theorem int_sign {k:Nat}(h1:48<=k)(h2:k<=56):PySem.intText? ⟨#[k]⟩=some ((k:Int) - 48):=by
 have:∀ k ∈ List.range 57,48<=k->PySem.intText? ⟨#[k]⟩=some ((k:Int) - 48):=by decide +kernel
 exact this k (List.mem_range.mpr (by omega)) h1
theorem sc_sign_at:FnScope ["board","cell"] ["board","cell"] (defScope s_sign_at):=⟨rfl,rfl,rfl,by decide +kernel,rfl,by decide +kernel,by decide +kernel⟩
theorem ok_sign_at (D:DefAt K mg "sign_at" s_sign_at ["board","cell"] f fd):FnOk P w K mg base CX0 1 f fd ["board","cell"] spSign:=by
 refine D.F.ok sc_sign_at (fun vs H Q E h=>?_) (fun cdv A outer s H vs Q E hr h=>?_)
 ·obtain ⟨p,l,c,rs,n,i,j,t,k,rfl,_⟩:=h;rfl
 ·obtain ⟨p,l,c,rs,n,i,j,t,k,rfl,b,hc,hi,hj,hl,q⟩:=h;refine ⟨_,(pss_one (ps_ret (pe_ix ix_str (pe_ix ix_list (pe_ix ix_tup (pv 0) pe_int (fun _ _=>rfl)) (pe_ix ix_tup (pv 1) pe_int (fun _ _=>rfl)) (fun _ _=>rfl)) (pe_ix ix_tup (pv 1) pe_int (fun _ _=>rfl)) (fun _ _=>rfl)))),?_⟩;exact ⟨_,rfl,p,_,0,_,rfl,rfl,SqT.of b.tp,rfl,_,rfl,c,_,0,_,rfl,rfl,SqT.of hc,rfl,l,_,_,_,rfl,rfl,SqL.of b.rw,atI_nat (v:=V.str t) (by rw [List.getElem?_map,hi]; rfl),_,rfl,c,_,1,_,rfl,rfl,SqT.of hc,rfl,t,_,k,rfl,rfl,hl,atI_nat hj,q⟩
theorem sc_cells_of:FnScope ["board","found","row","text"] ["board"] (defScope s_cells_of):=⟨rfl,rfl,rfl,by decide +kernel,rfl,by decide +kernel,by decide +kernel⟩
theorem ok_cells_of (T:Txt mg)(D:DefAt K mg "cells_of" s_cells_of ["board"] f fd):FnOk P w K mg base CX0 1 f fd ["board"] (spList pCell):=by
 refine D.F.ok sc_cells_of (fun vs H Q E h=>?_) (fun cdv A outer s H vs Q E hr h=>?_)
 ·obtain ⟨a,l,rs,n,rfl,_⟩:=h;rfl
 ·obtain ⟨a,l,rs,n,rfl,b,R,q⟩:=h;refine ⟨_,(pss_cons (ps_set (i:=1) sc_cells_of.nd rfl (Or.inl rfl) (pe_lst pa_nil))
   (pss_cons (ps_for PassesOwn.never rfl (pi_enumL (by rfl) T.b_enumerate (pa_cons (pe_ix ix_tup (pv 0) pe_int (fun _ _=>rfl)) pa_nil)) (pg_tup rfl (pgs_cons (pg_name (i:=2) sc_cells_of.nd rfl (Or.inr rfl)) (pgs_cons (pg_name (i:=3) sc_cells_of.nd rfl (Or.inl rfl)) pgs_nil))) (pss_one (ps_expr (pe_bm PySem.F.plainAttrs_list PySem.F.slot_list_extend PySem.F.type_list_extend mt_extend (pv 1) (pa_cons (pe_comp (N:=["column","sign","row"]) (src:=[none,none,some 2]) (CompOk.free (O:=(defScope s_cells_of).names) (XN:=["board","found","row","text"]) rfl rfl ⟨_,rfl⟩ rfl rfl (by decide +kernel) (by decide +kernel) (by decide +kernel) rfl (by decide +kernel)) rfl (pi_enumS (by rfl) T.b_enumerate (pa_cons (pv 3) pa_nil)) (fun _ _ _ _ _=>(pg_tupK (n:=2) (K:=K) (by rfl) rfl (pgs_cons (pg_name (i:=0) (by show List.Nodup (["column","sign","row"]:List Str); decide +kernel) rfl (Or.inl rfl)) (pgs_cons (pg_name (i:=1) (by show List.Nodup (["column","sign","row"]:List Str); decide +kernel) rfl (Or.inl rfl)) pgs_nil)))) (fun _ _ _ _ _=>(pifs_one (pt_cmpR op_ne (pv 1) (pe_glob (v:=.str "#") (by rfl) T.v_NO_CELL_SIGN.choose_spec (by exact ⟨_,rfl⟩)) (nomark _)))) (fun _ _ _ _ _=>(pe_tup (pa_cons (pv 2) (pa_cons (pv 0) pa_nil))))) pa_nil)))))
   (pss_one (ps_ret (pv 1))))),?_⟩
  refine ⟨sz_0,fun d hd=>?_⟩;have s0:Same H (upd H d (.lst [])):=same_new hd;refine ⟨_,rfl,a,_,0,_,rfl,rfl,SqT.of (b.mono s0).tp,rfl,l,rfl,⟨_,SqL.of (b.mono s0).rw⟩,?_⟩;refine for_enumL (K:=K) (l:=l) (xs:=rs.map V.str) (fun i σ H'=>∃ (v2 v3:Option V) (ws:List V),σ=[some (.ref a),some (.ref d),v2,v3]/\Same H H'/\H' d=some (.lst ws)/\Cel H' ws (Cells.allCs pCell 0 ((codes rs).take i)))
   ⟨_,_,[],rfl,s0,upd_same,.nil⟩ (fun i σ H' _ ⟨_,_,_,_,s1,_⟩=>SqL.of (b.mono s1).rw) ?_ ?_
  ·rintro i x tt σ H1 hx htt ⟨v2,v3,ws,rfl,s1,hd1,hc1⟩;rw [List.getElem?_map] at hx;cases e:rs[i]? with
   | none =>
    rw [e] at hx;cases hx
   | some t =>
    rw [e] at hx;cases hx;have hil:i < rs.length:=(List.getElem?_eq_some_iff.mp e).1;have st:Same H1 (upd H1 tt (.tup [.int (i:Nat),.str t])):=same_new htt;refine ⟨tt,_,rfl,SqT.of upd_same,rfl,_,_,rfl,_,_,rfl,rfl,?_⟩;have hd2:upd H1 tt (.tup [.int (i:Nat),.str t]) d=some (.lst ws):=st _ _ hd1;refine ⟨_,rfl,.inl ⟨rfl,_,SqL.of hd2⟩,_,rfl,t,rfl,fun z hz=>?_⟩;refine comp_enumS (x:=t) (fun j σ H'=>∃ (u0 u1:Option V) (ys:List V),σ=[u0,u1,some (.int (i:Nat))]/\Same (upd H1 tt (.tup [.int (i:Nat),.str t])) H'/\H' z=some (.lst ys)/\Cel H' ys (Cells.rowCs pCell i 0 (t.cps.toList.take j)))
     ⟨_,_,[],rfl,same_new hz,upd_same,.nil⟩ ?_ ?_
    ·rintro j c t2 σ H2 hc ht2 ⟨u0,u1,ys,rfl,s2,hz2,hc2⟩;refine ⟨t2,_,rfl,SqT.of upd_same,rfl,_,_,rfl,_,_,rfl,rfl,?_⟩;refine ⟨_,rfl,rfl,_,rfl,?_⟩;have hc':t.cps.toList[j]?=some c:=by rw [Array.getElem?_toList]; exact hc
     have s3:Same H2 (upd H2 t2 (.tup [.int (j:Nat),.str ⟨#[c]⟩])):=same_new ht2;have step:=Cells.rowCs_step (p:=pCell) (i:=i) hc';have ed:(!decide (V.str ⟨#[c]⟩=V.str "#"))=pCell c:=by
      rw [hash_is];simp only [one_eq];rfl
     rw [ed];by_cases hp:pCell c=true
     ·rw [hp] at step;refine iteP hp ?_;refine ⟨_,rfl,_,rfl,sz_2,fun t3 ht3=>?_⟩;have nz3:z ≠ t3:=ne_of_none (s3 _ _ hz2) ht3;have s4:Same (upd H2 t2 (.tup [.int (j:Nat),.str ⟨#[c]⟩])) (upd (upd H2 t2 (.tup [.int (j:Nat),.str ⟨#[c]⟩])) t3 (.tup [.int (i:Nat),.int (j:Nat)])):=same_new ht3;have hlen:ys.length<=8:=by
       rw [hc2.length];refine Nat.le_trans (Cells.rowCs_length _ _ _ _) ?_;have:=R.short _ (List.mem_of_getElem? (codes_get e));rw [List.length_take];omega
      refine ⟨ys,s4 _ _ (s3 _ _ hz2),Nat.lt_of_le_of_lt hlen (by decide),some (.int (j:Nat)),some (.str ⟨#[c]⟩),ys++[.ref t3],rfl,fun b' o e'=>?_,upd_same,?_⟩
      ·have hb:b' ≠ z:=fun y=>by
        subst y;rw [hz] at e';cases e'
       rw [upd_ne hb];exact s4 _ _ (s3 _ _ (s2 _ _ e'))
      ·rw [step];have keep:∀ x o,x ≠ z->upd (upd H2 t2 (.tup [.int (j:Nat),.str ⟨#[c]⟩])) t3 (.tup [.int (i:Nat),.int (j:Nat)]) x=some o->upd (upd (upd H2 t2 (.tup [.int (j:Nat),.str ⟨#[c]⟩])) t3 (.tup [.int (i:Nat),.int (j:Nat)])) z (.lst (ys++[.ref t3])) x=some o:=fun x o hx e'=>by
        rw [upd_ne hx];exact e'
       refine Cel.snoc ?_ ⟨t3,rfl,keep _ _ nz3.symm upd_same⟩;exact Cel.into z (.lst (ys++[.ref t3])) (s4 _ _ (s3 _ _ hz2)) (Cel.mono s4 (Cel.mono s3 hc2))
     ·have hp':pCell c=false:=by simpa using hp
      rw [hp'] at step;refine iteN hp' ?_;refine ⟨some (.int (j:Nat)),some (.str ⟨#[c]⟩),ys,rfl,s2.trans s3,s3 _ _ hz2,?_⟩;rw [step];simpa using Cel.mono s3 hc2
    ·rintro σ H2 ⟨u0,u1,ys,rfl,s2,hz2,hc2⟩;have hne:d ≠ z:=ne_of_none hd2 hz;have hd3:H2 d=some (.lst ws):=s2 _ _ hd2;have full:t.cps.toList.take t.cps.size=t.cps.toList:=by
      rw [<- Array.length_toList,List.take_length]
     rw [full] at hc2;have step:=Cells.allCs_step (p:=pCell) (codes_get e);have l1:ws.length<=64:=by
      rw [hc1.length];refine Nat.le_trans (Cells.allCs_length _ _ _ fun u hu=>R.short u (List.mem_of_mem_take hu)) ?_;have:=R.hi;rw [List.length_take,codes_len];omega
     have l2:ys.length<=8:=by
      rw [hc2.length];exact Nat.le_trans (Cells.rowCs_length _ _ _ _) (R.short _ (List.mem_of_getElem? (codes_get e)))
     refine ⟨d,z,ws,ys,rfl,rfl,hd3,hz2,Nat.le_trans (Nat.add_le_add l1 l2) (by decide),?_⟩;refine ⟨_,_,ws++ys,rfl,fun b' o e'=>?_,upd_same,?_⟩
     ·have hb:b' ≠ d:=fun y=>by
       subst y;rw [hd] at e';cases e'
      rw [upd_ne hb];exact s2 _ _ (st _ _ (s1 _ _ e'))
     ·rw [step];exact Cel.into d _ hd3 (Cel.append (Cel.mono s2 (Cel.mono st hc1)) hc2)
  ·rintro σ H1 ⟨v2,v3,ws,rfl,s1,hd1,hc1⟩;rw [List.length_map,<- codes_len,List.take_length] at hc1;exact ⟨_,rfl,q d ws H1 hd hd1 hc1 s1⟩
theorem shut_is (c:Nat):(pCell c && decide (c=63))=pShut c:=by
 unfold pCell pShut;by_cases h:c=63
 ·subst h;rfl
 ·simp [h]
theorem sc_closed:FnScope ["board"] ["board"] (defScope s_closed):=⟨rfl,rfl,rfl,by decide +kernel,rfl,by decide +kernel,by decide +kernel⟩
theorem ok_closed {f1 f2:Addr}{fd1 fd2:FuncData}(T:Txt mg)(D:DefAt K mg "closed" s_closed ["board"] f fd)(D_cells_of:DefAt K mg "cells_of" s_cells_of ["board"] f1 fd1)(D_sign_at:DefAt K mg "sign_at" s_sign_at ["board","cell"] f2 fd2) :
  FnOk P w K mg base CX0 2 f fd ["board"] (spList pShut):=by
 refine D.F.ok sc_closed (fun vs H Q E h=>?_) (fun cdv A outer s H vs Q E hr h=>?_)
 ·obtain ⟨a,l,rs,n,rfl,_⟩:=h;rfl
 ·obtain ⟨a,l,rs,n,rfl,b,R,q⟩:=h;refine ⟨_,(pss_one (ps_ret (pe_comp (N:=["cell","board"]) (src:=[none,some 0]) (CompOk.free (O:=(defScope s_closed).names) (XN:=["board"]) rfl rfl ⟨_,rfl⟩ rfl rfl (by decide +kernel) (by decide +kernel) (by decide +kernel) rfl (by decide +kernel)) rfl (pi_list (pc0 (ok_cells_of T D_cells_of) hr D_cells_of (pa_cons (pv 0) pa_nil))) (fun _ _ _ _ _=>(pg_name (i:=0) (by show List.Nodup (["cell","board"]:List Str); decide +kernel) rfl (Or.inl rfl))) (fun _ _ _ _ _=>(pifs_one (pt_cmpR op_eq (pc0 (ok_sign_at D_sign_at) hr D_sign_at (pa_cons (pv 1) (pa_cons (pv 0) pa_nil))) (pe_glob (v:=.str "?") (by rfl) T.v_CLOSED_SIGN.choose_spec (by exact ⟨_,rfl⟩)) (nomark _)))) (fun _ _ _ _ _=>(pv 0))))),?_⟩;refine ⟨_,rfl,a,l,rs,n,rfl,b,R,fun d ws H1 hd hd1 hc1 s1=>⟨d,rfl,⟨_,SqL.of hd1⟩,fun z hz=>?_⟩⟩;have nz:d ≠ z:=ne_of_none hd1 hz;refine comp_list (K:=K) (a:=d) (xs:=ws) (fun i σ H'=>∃ (u0:Option V) (ys:List V),σ=[u0,some (.ref a)]/\Same H1 H'/\H' z=some (.lst ys)/\Cel H' ys (((Cells.allCs pCell 0 (codes rs)).take i).filter fun x=>decide (Cells.sgn (codes rs) x=63)))
   ⟨_,[],rfl,same_new hz,upd_same,.nil⟩ (fun i σ H' _ ⟨_,_,_,s2,_⟩=>SqL.of (s2 _ _ hd1)) ?_ ?_
  ·rintro i x σ H2 hx ⟨u0,ys,rfl,s2,hz2,hc2⟩;obtain ⟨c,hci,ca,rfl,hca⟩:=Cel.get (Cel.mono s2 hc1) hx;obtain ⟨k0,j,u,k,ec,hk0,hj,hpc⟩:=Cells.mem_allCs (List.mem_of_getElem? hci);obtain ⟨t,ht,rfl⟩:=codes_inv hk0;rw [Nat.zero_add] at ec;subst ec;refine ⟨_,rfl,_,rfl,a,l,ca,rs,n,k0,j,t,k,rfl,(b.mono s1).mono s2,hca,ht,hj,R.tlen ht,rfl,_,rfl,?_⟩;have es:Cells.sgn (codes rs) (k0,j)=k:=Cells.sgn_at hk0 hj;have step:((Cells.allCs pCell 0 (codes rs)).take (i + 1)).filter (fun x=>decide (Cells.sgn (codes rs) x=63))=((Cells.allCs pCell 0 (codes rs)).take i).filter (fun x=>decide (Cells.sgn (codes rs) x=63))++(if decide (k=63)=true then [(k0,j)] else []):=by
    rw [List.take_add_one,hci,List.filter_append];congr 1;show List.filter _ [(k0,j)]=_;rw [List.filter_cons];try dsimp only
    rw [es];split <;> rfl
   have ed:decide (V.str ⟨#[k]⟩=V.str "?")=decide (k=63):=by
    rw [ask_is];simp only [one_eq]
   rw [ed];by_cases hp:decide (k=63)=true
   ·rw [if_pos hp] at step;refine iteP hp ?_;have hlen:ys.length<=64:=by
     rw [hc2.length];refine Nat.le_trans (List.length_filter_le _ _) ?_;rw [List.length_take];have h1:=Cells.allCs_length pCell 0 (codes rs) R.short;have h2:=R.hi;rw [codes_len] at h1;omega
    refine ⟨_,rfl,ys,hz2,Nat.lt_of_le_of_lt hlen (by decide),_,ys++[.ref ca],rfl,fun b' o e'=>?_,upd_same,?_⟩
    ·have hb:b' ≠ z:=fun y=>by
      subst y;rw [hz] at e';cases e'
     rw [upd_ne hb];exact s2 _ _ e'
    ·rw [step];exact Cel.into z _ hz2 (Cel.snoc hc2 ⟨ca,rfl,hca⟩)
   ·rw [if_neg hp] at step;refine iteN (by simpa using hp) ?_;refine ⟨_,ys,rfl,s2,hz2,?_⟩;rw [step];simpa using hc2
  ·rintro σ H2 ⟨u0,ys,rfl,s2,hz2,hc2⟩;rw [hc1.length,List.take_length,Cells.all_filter (p:=pCell) (q:=fun k=>decide (k=63)) (codes rs)] at hc2;have hz0:H z=none:=s1.free hz;exact q z ys H2 hz0 hz2 (by rw [Cells.allCs_congr (q:=pShut) shut_is] at hc2; exact hc2) (s1.trans s2)
theorem sc_open_cells:FnScope ["board"] ["board"] (defScope s_open_cells):=⟨rfl,rfl,rfl,by decide +kernel,rfl,by decide +kernel,by decide +kernel⟩
theorem ok_open_cells {f1 f2:Addr}{fd1 fd2:FuncData}(T:Txt mg)(D:DefAt K mg "open_cells" s_open_cells ["board"] f fd)(D_cells_of:DefAt K mg "cells_of" s_cells_of ["board"] f1 fd1)(D_sign_at:DefAt K mg "sign_at" s_sign_at ["board","cell"] f2 fd2) :
  FnOk P w K mg base CX0 2 f fd ["board"] (spList pOpen):=by
 refine D.F.ok sc_open_cells (fun vs H Q E h=>?_) (fun cdv A outer s H vs Q E hr h=>?_)
 ·obtain ⟨a,l,rs,n,rfl,_⟩:=h;rfl
 ·obtain ⟨a,l,rs,n,rfl,b,R,q⟩:=h;refine ⟨_,(pss_one (ps_ret (pe_comp (N:=["cell","board"]) (src:=[none,some 0]) (CompOk.free (O:=(defScope s_open_cells).names) (XN:=["board"]) rfl rfl ⟨_,rfl⟩ rfl rfl (by decide +kernel) (by decide +kernel) (by decide +kernel) rfl (by decide +kernel)) rfl (pi_list (pc0 (ok_cells_of T D_cells_of) hr D_cells_of (pa_cons (pv 0) pa_nil))) (fun _ _ _ _ _=>(pg_name (i:=0) (by show List.Nodup (["cell","board"]:List Str); decide +kernel) rfl (Or.inl rfl))) (fun _ _ _ _ _=>(pifs_one (pt_cmpR op_ne (pc0 (ok_sign_at D_sign_at) hr D_sign_at (pa_cons (pv 1) (pa_cons (pv 0) pa_nil))) (pe_glob (v:=.str "?") (by rfl) T.v_CLOSED_SIGN.choose_spec (by exact ⟨_,rfl⟩)) (nomark _)))) (fun _ _ _ _ _=>(pv 0))))),?_⟩;refine ⟨_,rfl,a,l,rs,n,rfl,b,R,fun d ws H1 hd hd1 hc1 s1=>⟨d,rfl,⟨_,SqL.of hd1⟩,fun z hz=>?_⟩⟩;have nz:d ≠ z:=ne_of_none hd1 hz;refine comp_list (K:=K) (a:=d) (xs:=ws) (fun i σ H'=>∃ (u0:Option V) (ys:List V),σ=[u0,some (.ref a)]/\Same H1 H'/\H' z=some (.lst ys)/\Cel H' ys (((Cells.allCs pCell 0 (codes rs)).take i).filter fun x=>!decide (Cells.sgn (codes rs) x=63)))
   ⟨_,[],rfl,same_new hz,upd_same,.nil⟩ (fun i σ H' _ ⟨_,_,_,s2,_⟩=>SqL.of (s2 _ _ hd1)) ?_ ?_
  ·rintro i x σ H2 hx ⟨u0,ys,rfl,s2,hz2,hc2⟩;obtain ⟨c,hci,ca,rfl,hca⟩:=Cel.get (Cel.mono s2 hc1) hx;obtain ⟨k0,j,u,k,ec,hk0,hj,hpc⟩:=Cells.mem_allCs (List.mem_of_getElem? hci);obtain ⟨t,ht,rfl⟩:=codes_inv hk0;rw [Nat.zero_add] at ec;subst ec;refine ⟨_,rfl,_,rfl,a,l,ca,rs,n,k0,j,t,k,rfl,(b.mono s1).mono s2,hca,ht,hj,R.tlen ht,rfl,_,rfl,?_⟩;have es:Cells.sgn (codes rs) (k0,j)=k:=Cells.sgn_at hk0 hj;have step:((Cells.allCs pCell 0 (codes rs)).take (i + 1)).filter (fun x=>!decide (Cells.sgn (codes rs) x=63))=((Cells.allCs pCell 0 (codes rs)).take i).filter (fun x=>!decide (Cells.sgn (codes rs) x=63))++(if (!decide (k=63))=true then [(k0,j)] else []):=by
    rw [List.take_add_one,hci,List.filter_append];congr 1;show List.filter _ [(k0,j)]=_;rw [List.filter_cons];try dsimp only
    rw [es];split <;> rfl
   have ed:(!decide (V.str ⟨#[k]⟩=V.str "?"))=(!decide (k=63)):=by
    rw [ask_is];simp only [one_eq]
   rw [ed];by_cases hp:(!decide (k=63))=true
   ·rw [if_pos hp] at step;refine iteP hp ?_;have hlen:ys.length<=64:=by
     rw [hc2.length];refine Nat.le_trans (List.length_filter_le _ _) ?_;rw [List.length_take];have h1:=Cells.allCs_length pCell 0 (codes rs) R.short;have h2:=R.hi;rw [codes_len] at h1;omega
    refine ⟨_,rfl,ys,hz2,Nat.lt_of_le_of_lt hlen (by decide),_,ys++[.ref ca],rfl,fun b' o e'=>?_,upd_same,?_⟩
    ·have hb:b' ≠ z:=fun y=>by
      subst y;rw [hz] at e';cases e'
     rw [upd_ne hb];exact s2 _ _ e'
    ·rw [step];exact Cel.into z _ hz2 (Cel.snoc hc2 ⟨ca,rfl,hca⟩)
   ·rw [if_neg hp] at step;refine iteN (by simpa using hp) ?_;refine ⟨_,ys,rfl,s2,hz2,?_⟩;rw [step];simpa using hc2
  ·rintro σ H2 ⟨u0,ys,rfl,s2,hz2,hc2⟩;rw [hc1.length,List.take_length,Cells.all_filter (p:=pCell) (q:=fun k=>(!decide (k=63))) (codes rs)] at hc2;have hz0:H z=none:=s1.free hz;exact q z ys H2 hz0 hz2 hc2 (s1.trans s2)
theorem sc_number_at:FnScope ["board","cell"] ["board","cell"] (defScope s_number_at):=⟨rfl,rfl,rfl,by decide +kernel,rfl,by decide +kernel,by decide +kernel⟩
theorem ok_number_at {f1:Addr}{fd1:FuncData}(T:Txt mg)(D:DefAt K mg "number_at" s_number_at ["board","cell"] f fd)(D_sign_at:DefAt K mg "sign_at" s_sign_at ["board","cell"] f1 fd1):FnOk P w K mg base CX0 2 f fd ["board","cell"] spNumber:=by
 refine D.F.ok sc_number_at (fun vs H Q E h=>?_) (fun cdv A outer s H vs Q E hr h=>?_)
 ·obtain ⟨p,l,c,rs,n,i,j,t,k,rfl,_⟩:=h;rfl
 ·obtain ⟨p,l,c,rs,n,i,j,t,k,rfl,b,hc,hi,hj,hl,k1,k2,q⟩:=h;refine ⟨_,(pss_one (ps_ret (pe_callTy call_int_str (by rfl) T.b_int PyProof.Rows.boot_int (pa_cons (pc0 (ok_sign_at D_sign_at) hr D_sign_at (pa_cons (pv 0) (pa_cons (pv 1) pa_nil))) pa_nil)))),?_⟩;exact ⟨_,rfl,_,rfl,p,l,c,rs,n,i,j,t,k,rfl,b,hc,hi,hj,hl,⟨#[k]⟩,_,rfl,int_sign k1 k2,(by show 1<=640; decide),q⟩
theorem open_sign {k:Nat}(h:k ∈ bd.cps.toList)(hp:pOpen k=true):48<=k/\k<=56:=by
 have:∀ k ∈ bd.cps.toList,pOpen k=true->48<=k/\k<=56:=by decide +kernel
 exact this k h hp
noncomputable def aroundC (rs:List Str)(y:Nat × Nat):List (Nat × Nat):=(Cells.allCs pCell 0 (codes rs)).filter fun x=>Cells.near x y
noncomputable def spAround:Sp:=fun vs H Q _=>∃ (p l ca:Addr) (rs:List Str) (n:Int) (i j:Nat),vs=[.ref p,.ref ca]/\BoardAt H p l rs n/\Rows bd.cps.toList rs/\H ca=some (.tup [.int (i:Nat),.int (j:Nat)])/\i < 64/\j < 64 /\
 ∀ (d:Addr) (ws:List V) (H':Hp),H d=none->H' d=some (.lst ws)->Cel H' ws (aroundC rs (i,j))->Same H H'->Q (.ref d) H'
theorem cast_max (i:Nat):(if (0:Int) > (i:Int) - 1 then (0:Int) else (i:Int) - 1)=((i - 1:Nat):Int):=by
 split <;> omega
theorem cast_min (i m:Nat):(if ((m:Nat):Int) < (i:Int) + 2 then ((m:Nat):Int) else (i:Int) + 2)=((min (i + 2) m:Nat):Int):=by
 split <;> omega
theorem filter_snoc {f:Nat × Nat->Bool}{l:List (Nat × Nat)}{x:Nat × Nat}(a:Bool):(l++(if a=true then [x] else [])).filter f=l.filter f++(if (a && f x)=true then [x] else []):=by
 rw [List.filter_append];congr 1;by_cases h:a=true
 ·by_cases h2:f x=true
  ·simp [h,h2]
  ·simp [h,h2]
 ·simp [h]
theorem sc_around:FnScope ["board","cell","rows","found","row","column"] ["board","cell"] (defScope s_around):=⟨rfl,rfl,rfl,by decide +kernel,rfl,by decide +kernel,by decide +kernel⟩
theorem ok_around (T:Txt mg)(D:DefAt K mg "around" s_around ["board","cell"] f fd):FnOk P w K mg base CX0 1 f fd ["board","cell"] spAround:=by
 refine D.F.ok sc_around (fun vs H Q E h=>?_) (fun cdv A outer s H vs Q E hr h=>?_)
 ·obtain ⟨p,l,ca,rs,n,i,j,rfl,_⟩:=h;rfl
 ·obtain ⟨p,l,ca,rs,n,i,j,rfl,b,R,hca,hi64,hj64,q⟩:=h;refine ⟨_,(pss_cons (ps_set (i:=2) sc_around.nd rfl (Or.inl rfl) (pe_ix ix_tup (pv 0) pe_int (fun _ _=>rfl)))
   (pss_cons (ps_set (i:=3) sc_around.nd rfl (Or.inl rfl) (pe_lst pa_nil))
   (pss_cons (ps_for PassesOwn.never rfl (pi_range2 (by rfl) T.b_range (pa_cons (pe_callB (call_max2 rfl) (by rfl) T.b_max PyProof.Rows.boot_max (pa_cons (pe_op op_sub (pe_ix ix_tup (pv 1) pe_int (fun _ _=>rfl)) pe_int) (pa_cons pe_int pa_nil))) (pa_cons (pe_callB (call_min2 rfl) (by rfl) T.b_min PyProof.Rows.boot_min (pa_cons (pe_op op_add (pe_ix ix_tup (pv 1) pe_int (fun _ _=>rfl)) pe_int) (pa_cons (pe_callB call_len_seq (by rfl) T.b_len PySem.boot_len (pa_cons (pv 2) pa_nil)) pa_nil))) pa_nil))) (pg_name (i:=4) sc_around.nd rfl (Or.inl rfl)) (pss_one (ps_for PassesOwn.never rfl (pi_range2 (by rfl) T.b_range (pa_cons (pe_callB (call_max2 rfl) (by rfl) T.b_max PyProof.Rows.boot_max (pa_cons (pe_op op_sub (pe_ix ix_tup (pv 1) pe_int (fun _ _=>rfl)) pe_int) (pa_cons pe_int pa_nil))) (pa_cons (pe_callB (call_min2 rfl) (by rfl) T.b_min PyProof.Rows.boot_min (pa_cons (pe_op op_add (pe_ix ix_tup (pv 1) pe_int (fun _ _=>rfl)) pe_int) (pa_cons (pe_callB call_len_str (by rfl) T.b_len PySem.boot_len (pa_cons (pe_ix ix_list (pv 2) (pv 4) (fun _ _=>rfl)) pa_nil)) pa_nil))) pa_nil))) (pg_name (i:=5) sc_around.nd rfl (Or.inl rfl)) (pss_one (ps_if (PW.pt (pw_and (pt_cmpR op_ne (pe_ix ix_str (pe_ix ix_list (pv 2) (pv 4) (fun _ _=>rfl)) (pv 5) (fun _ _=>rfl)) (pe_glob (v:=.str "#") (by rfl) T.v_NO_CELL_SIGN.choose_spec (by exact ⟨_,rfl⟩)) (nomark _)) (pw_and1 (pt_cmpR (op_ne_deep hr.units) (pe_tup (pa_cons (pv 4) (pa_cons (pv 5) pa_nil))) (pv 1) (nomark _))))) (pss_one (ps_expr (pe_bm PySem.F.plainAttrs_list PySem.F.slot_list_append PySem.F.type_list_append mt_append (pv 3) (pa_cons (pe_tup (pa_cons (pv 4) (pa_cons (pv 5) pa_nil))) pa_nil)))) pss_nil)))))
   (pss_one (ps_ret (pv 3)))))),?_⟩
  refine ⟨_,rfl,p,_,0,_,rfl,rfl,SqT.of b.tp,rfl,?_⟩;refine ⟨sz_0,fun d hd=>?_⟩;have s0:Same H (upd H d (.lst [])):=same_new hd;have r8:=R.hi;refine ⟨_,rfl,ca,_,0,_,rfl,rfl,SqT.of (s0 _ _ hca),rfl,_,_,rfl,rfl,_,_,rfl,_,rfl,ca,_,0,_,rfl,rfl,SqT.of (s0 _ _ hca),rfl,_,_,rfl,rfl,_,rfl,l,_,rfl,.inl (SqL.of (b.mono s0).rw),_,_,rfl,((i - 1:Nat):Int),((min (i + 2) rs.length:Nat):Int),?_,⟨by omega,by omega,by omega,by omega⟩,?_⟩
  ·show [V.int (if (0:Int) > (i:Int) - 1 then (0:Int) else (i:Int) - 1),V.int (if (((rs.map V.str).length:Nat):Int) < (i:Int) + 2 then (((rs.map V.str).length:Nat):Int) else (i:Int) + 2)]=_;rw [List.length_map,cast_max,cast_min]
  refine for_range (lo:=((i - 1:Nat):Int)) (fun k σ H'=>∃ (v4 v5:Option V) (ws:List V),σ=[some (.ref p),some (.ref ca),some (.ref l),some (.ref d),v4,v5]/\Same H H'/\H' d=some (.lst ws)/\Cel H' ws ((Cells.allCs pCell 0 ((codes rs).take (i - 1 + k))).filter fun x=>Cells.near x (i,j)))
   ⟨_,_,[],rfl,s0,upd_same,?_⟩ ?_ ?_
  ·rw [Cells.rows_low]
   ·exact .nil
   ·intro r c hr';rw [Bool.eq_false_iff,ne_eq,Cells.near_iff];rintro ⟨⟨_,h2⟩,_⟩;dsimp only at h2;omega
  ·rintro k σ H1 hk ⟨v4,v5,ws,rfl,s1,hd1,hc1⟩;have hrl:i - 1 + k < rs.length:=by omega
   have ecast:((i - 1:Nat):Int) + (k:Nat)=((i - 1 + k:Nat):Int):=by omega
   rw [ecast];generalize hr0:i - 1 + k=r at *
   obtain ⟨t,ht⟩:∃ t,rs[r]?=some t:=⟨_,List.getElem?_eq_getElem hrl⟩;have htl:t.length<=sizeLine:=R.tlen ht;have ht8:t.cps.toList.length<=8:=R.short _ (List.mem_of_getElem? (codes_get ht));have hat:atI (rs.map V.str) ((r:Nat):Int)=some (V.str t):=atI_nat (by rw [List.getElem?_map,ht]; rfl);refine ⟨_,rfl,ca,_,1,_,rfl,rfl,SqT.of (s1 _ _ hca),rfl,_,_,rfl,rfl,_,_,rfl,_,rfl,ca,_,1,_,rfl,rfl,SqT.of (s1 _ _ hca),rfl,_,_,rfl,rfl,_,rfl,_,rfl,l,_,_,_,rfl,rfl,SqL.of (b.mono s1).rw,hat,t,rfl,htl,_,_,rfl,((j - 1:Nat):Int),((min (j + 2) t.cps.size:Nat):Int),?_,⟨by omega,by omega,by omega,?_⟩,?_⟩
   ·show [V.int (if (0:Int) > (j:Int) - 1 then (0:Int) else (j:Int) - 1),V.int (if ((t.cps.size:Nat):Int) < (j:Int) + 2 then ((t.cps.size:Nat):Int) else (j:Int) + 2)]=_;rw [cast_max,cast_min]
   ·omega
   have hsz:t.cps.toList.length=t.cps.size:=Array.length_toList;refine for_range (lo:=((j - 1:Nat):Int)) (fun m σ H'=>∃ (v5:Option V) (ws:List V),σ=[some (.ref p),some (.ref ca),some (.ref l),some (.ref d),some (.int (r:Nat)),v5]/\Same H H'/\H' d=some (.lst ws)/\Cel H' ws ((Cells.allCs pCell 0 ((codes rs).take r)).filter (fun x=>Cells.near x (i,j))++(Cells.rowCs pCell r 0 (t.cps.toList.take (j - 1 + m))).filter fun x=>Cells.near x (i,j)))
    ⟨_,ws,rfl,s1,hd1,?_⟩ ?_ ?_
   ·rw [Cells.cols_low (t:=t.cps.toList),List.append_nil]
    ·exact hc1
    ·intro c hc';rw [Bool.eq_false_iff,ne_eq,Cells.near_iff];rintro ⟨_,⟨_,h2⟩,_⟩;dsimp only at h2;omega
   ·rintro m σ H2 hm ⟨v5,ws2,rfl,s2,hd2,hc2⟩;have hcl:j - 1 + m < t.cps.size:=by omega
    have ecast2:((j - 1:Nat):Int) + (m:Nat)=((j - 1 + m:Nat):Int):=by omega
    rw [ecast2];generalize hc0:j - 1 + m=c at *
    have hc0':j - 1 + (m + 1)=c + 1:=by omega
    obtain ⟨k0,hk0⟩:∃ k0,t.cps.toList[c]?=some k0:=⟨_,List.getElem?_eq_getElem (by omega)⟩;have step:=Cells.rowCs_step (p:=pCell) (i:=r) hk0;have step2:(Cells.rowCs pCell r 0 (t.cps.toList.take (c + 1))).filter (fun x=>Cells.near x (i,j))=(Cells.rowCs pCell r 0 (t.cps.toList.take c)).filter (fun x=>Cells.near x (i,j))++(if (pCell k0 && Cells.near (r,c) (i,j))=true then [(r,c)] else []):=by
     rw [step,filter_snoc]
    have nr:Cells.near (r,c) (i,j)=!decide ((r,c)=(i,j)):=by
     rw [Bool.eq_iff_iff,Cells.near_iff];simp only [Bool.not_eq_true',decide_eq_false_iff_not];constructor
     ·exact fun h=>h.2.2
     ·intro h;refine ⟨⟨?_,?_⟩,⟨?_,?_⟩,h⟩ <;> (try dsimp only) <;> omega
    refine ⟨_,rfl,_,rfl,l,_,_,_,rfl,rfl,SqL.of (b.mono s2).rw,hat,_,rfl,t,_,k0,rfl,rfl,htl,atI_nat hk0,rfl,_,rfl,?_⟩;have ed:(!decide (V.str ⟨#[k0]⟩=V.str "#"))=pCell k0:=by
     rw [hash_is];simp only [one_eq];rfl
    rw [ed];by_cases hp:pCell k0=true
    ·refine iteP hp ?_;refine ⟨_,rfl,_,rfl,sz_2,fun tp htp=>?_⟩;have s3:Same H2 (upd H2 tp (.tup [.int (r:Nat),.int (c:Nat)])):=same_new htp;have hca3:=s3 _ _ (s2 _ _ hca);refine ⟨_,rfl,_,_,CelR.rdv (c:=(r,c)) ⟨tp,rfl,upd_same⟩,CelR.rdv (c:=(i,j)) ⟨ca,rfl,hca3⟩,cData_cmp _ _,_,rfl,?_⟩;have ee:(if true=true then !PyData.eqv (cData (r,c)) (cData (i,j)) else PyData.eqv (cData (r,c)) (cData (i,j)))=Cells.near (r,c) (i,j):=by
      rw [cData_eqv,nr];rfl
     rw [ee];rw [hp,Bool.true_and] at step2;by_cases hn:Cells.near (r,c) (i,j)=true
     ·refine iteP hn ?_;rw [if_pos hn] at step2;have hd3:=s3 _ _ hd2;refine ⟨_,rfl,.inl ⟨rfl,_,SqL.of hd3⟩,_,rfl,_,rfl,sz_2,fun tq htq=>?_⟩;have s4:Same (upd H2 tp (.tup [.int (r:Nat),.int (c:Nat)])) (upd (upd H2 tp (.tup [.int (r:Nat),.int (c:Nat)])) tq (.tup [.int (r:Nat),.int (c:Nat)])):=same_new htq;have hlen:ws2.length<=128:=by
       rw [hc2.length,List.length_append];have h1:=List.length_filter_le (fun x=>Cells.near x (i,j)) (Cells.allCs pCell 0 ((codes rs).take r));have h2:=List.length_filter_le (fun x=>Cells.near x (i,j)) (Cells.rowCs pCell r 0 (t.cps.toList.take c));have h3:=Cells.allCs_length pCell 0 ((codes rs).take r) fun u hu=>R.short u (List.mem_of_mem_take hu);have h4:=Cells.rowCs_length pCell r 0 (t.cps.toList.take c);rw [List.length_take,codes_len] at h3;rw [List.length_take] at h4;omega
      refine ⟨d,_,_,rfl,rfl,s4 _ _ hd3,Nat.lt_of_le_of_lt hlen (by decide),?_⟩;refine ⟨_,ws2++[.ref tq],rfl,fun b' o e'=>?_,upd_same,?_⟩
      ·rw [upd_ne (ne_of_none e' hd)];exact s4 _ _ (s3 _ _ (s2 _ _ e'))
      ·rw [hc0',step2,<- List.append_assoc];exact Cel.into d _ (s4 _ _ hd3) (Cel.snoc (Cel.mono s4 (Cel.mono s3 hc2)) ⟨tq,rfl,upd_same⟩)
     ·have hn':Cells.near (r,c) (i,j)=false:=by simpa using hn
      refine iteN hn' ?_;rw [if_neg hn,List.append_nil] at step2;refine ⟨_,ws2,rfl,s2.trans s3,s3 _ _ hd2,?_⟩;rw [hc0',step2];exact Cel.mono s3 hc2
    ·have hp':pCell k0=false:=by simpa using hp
     refine iteN hp' ?_;refine iteF ?_;rw [hp',Bool.false_and,if_neg Bool.false_ne_true,List.append_nil] at step2;refine ⟨_,ws2,rfl,s2,hd2,?_⟩;rw [hc0',step2];exact hc2
   ·rintro σ H2 ⟨v5,ws2,rfl,s2,hd2,hc2⟩;refine ⟨_,_,ws2,rfl,s2,hd2,?_⟩;have full:(Cells.rowCs pCell r 0 (t.cps.toList.take (j - 1 + (((min (j + 2) t.cps.size:Nat):Int) - ((j - 1:Nat):Int)).toNat))).filter (fun x=>Cells.near x (i,j))=(Cells.rowCs pCell r 0 t.cps.toList).filter fun x=>Cells.near x (i,j):=by
     by_cases hbig:t.cps.size<=j - 1 + (((min (j + 2) t.cps.size:Nat):Int) - ((j - 1:Nat):Int)).toNat
     ·rw [List.take_of_length_le (by omega)]
     ·refine Cells.cols_high fun c hc'=>?_;rw [Bool.eq_false_iff,ne_eq,Cells.near_iff];rintro ⟨_,⟨h2,_⟩,_⟩;dsimp only at h2;omega
    rw [full] at hc2;have e1:i - 1 + (k + 1)=r + 1:=by omega
    rw [e1,Cells.allCs_step (codes_get ht),List.filter_append];exact hc2
  ·rintro σ H1 ⟨v4,v5,ws,rfl,s1,hd1,hc1⟩;have full:(Cells.allCs pCell 0 ((codes rs).take (i - 1 + (((min (i + 2) rs.length:Nat):Int) - ((i - 1:Nat):Int)).toNat))).filter (fun x=>Cells.near x (i,j))=aroundC rs (i,j):=by
    by_cases hbig:rs.length<=i - 1 + (((min (i + 2) rs.length:Nat):Int) - ((i - 1:Nat):Int)).toNat
    ·rw [List.take_of_length_le (by rw [codes_len]; omega)];rfl
    ·refine Cells.rows_high fun r c hr'=>?_;rw [Bool.eq_false_iff,ne_eq,Cells.near_iff];rintro ⟨⟨h2,_⟩,_⟩;dsimp only at h2;omega
   rw [full] at hc1;exact ⟨_,rfl,q d ws H1 hd hd1 hc1 s1⟩
theorem CelR.rdn {N:Addr->Prop}{H:Hp}{v:V}{c:Nat × Nat}(h:CelR H v c):Rdn N H v (cData c):=by
 obtain ⟨a,rfl,h⟩:=h;exact .tup h (.cons (.int _) (.cons (.int _) .nil))
theorem Cel.rdn {N:Addr->Prop}{H:Hp}{vs:List V}{cs:List (Nat × Nat)}(hp:Cel H vs cs):RdnAll N H vs (cs.map cData):=by
 induction hp with
 | nil=>exact .nil
 | cons h _ ih =>
  exact .cons (CelR.rdn h) ih
theorem Rdn.celR {N:Addr->Prop}{H:Hp}{v:V}{c:Nat × Nat}(h:Rdn N H v (cData c)):CelR H v c:=by
 cases h with
 | tup h t =>
  cases t with
  | cons a t =>
   cases a;cases t with
   | cons b t =>
    cases b;cases t;exact ⟨_,rfl,h⟩
theorem RdnAll.cel {N:Addr->Prop}{H:Hp}:∀ {cs:List (Nat × Nat)} {vs:List V},RdnAll N H vs (cs.map cData)->Cel H vs cs
 | [],_,h=>by cases h; exact .nil
 | c :: r,_,h=>by
  cases h with
  | cons a t=>exact .cons (Rdn.celR a) (RdnAll.cel t)
theorem outs_filter {α:Type}(p:α->Bool)(g:α->PyData):∀ cs:List α,(cs.map fun x=>if p x=true then some (g x) else none).filterMap id=(cs.filter p).map g
 | []=>rfl
 | c :: r=>by
  rw [List.map_cons,List.filterMap_cons,List.filter_cons];by_cases h:p c=true
  ·rw [if_pos h,if_pos h];show g c :: _=g c :: _;rw [outs_filter p g r]
  ·rw [if_neg h,if_neg h];exact outs_filter p g r
theorem outs_all {α:Type}(g:α->PyData):∀ cs:List α,(cs.map fun x=>some (g x)).filterMap id=cs.map g
 | []=>rfl
 | c :: r=>by
  rw [List.map_cons,List.filterMap_cons];show g c :: _=g c :: _;rw [outs_all g r]
theorem map_at {α β:Type}{g:α->β}{cs:List α}{i:Nat}{c:α}{o:β}(h:cs[i]?=some c)(ho:(cs.map g)[i]?=some o):o=g c:=by
 rw [List.getElem?_map,h] at ho;exact (Option.some.inj ho).symm
noncomputable def shutC (rs:List Str):List (Nat × Nat):=Cells.allCs pShut 0 (codes rs)
noncomputable def openC (rs:List Str):List (Nat × Nat):=Cells.allCs pOpen 0 (codes rs)
theorem all_short {p:Nat->Bool}{rs:List Str}(R:Rows bd.cps.toList rs):(Cells.allCs p 0 (codes rs)).length<=64:=by
 have h1:=Cells.allCs_length p 0 (codes rs) R.short;have h2:=R.hi;rw [codes_len] at h1;omega
theorem aroundC_short {rs:List Str}(R:Rows bd.cps.toList rs)(c:Nat × Nat):(aroundC rs c).length<=64:=Nat.le_trans (List.length_filter_le _ _) (all_short R)
theorem cell_at_board {p:Nat->Bool}{rs:List Str}{c:Nat × Nat}(h:c ∈ Cells.allCs p 0 (codes rs)):∃ t k,rs[c.1]?=some t/\t.cps.toList[c.2]?=some k/\p k=true/\Cells.sgn (codes rs) c=k:=by
 obtain ⟨k0,j,u,k,ec,hk0,hj,hpc⟩:=Cells.mem_allCs h;obtain ⟨t,ht,rfl⟩:=codes_inv hk0;rw [Nat.zero_add] at ec;subst ec;exact ⟨t,k,ht,hj,hpc,Cells.sgn_at hk0 hj⟩
theorem cell_small {rs:List Str}{c:Nat × Nat}{t:Str}{k:Nat}(R:Rows bd.cps.toList rs)(h1:rs[c.1]?=some t)(h2:t.cps.toList[c.2]?=some k):c.1 < 64/\c.2 < 64:=by
 have a:=(List.getElem?_eq_some_iff.mp h1).1;have b:=(List.getElem?_eq_some_iff.mp h2).1;have e:=R.hi;have f:=R.short _ (List.mem_of_getElem? (codes_get h1));omega
theorem sign_in {rs:List Str}{i j:Nat}{t:Str}{k:Nat}(R:Rows bd.cps.toList rs)(h1:rs[i]?=some t)(h2:t.cps.toList[j]?=some k):k ∈ bd.cps.toList:=by
 obtain ⟨n,_,_,h⟩:=R.ex;exact (h t (List.mem_of_getElem? h1)).mem k (List.mem_of_getElem? h2)
theorem lays (cs:List (Nat × Nat)):PyData.canLayAll0 (cs.map cData)=true:=by
 induction cs with
 | nil=>rfl
 | cons c r ih =>
  show (PyData.canLay0 (cData c) && PyData.canLayAll0 (r.map cData))=true;rw [ih];rfl
theorem depths (cs:List (Nat × Nat)):PyData.depthAll (cs.map cData)<=1:=by
 induction cs with
 | nil=>exact Nat.zero_le _
 | cons c r ih =>
  show max (PyData.depth (cData c)) (PyData.depthAll (r.map cData))<=1;have:PyData.depth (cData c)=1:=rfl;omega
theorem cs_cmp (cs ds:List (Nat × Nat)):CmpD (.list (cs.map cData)) (.list (ds.map cData)):=⟨lays cs,lays ds,by
 show PyData.depthAll (cs.map cData) + 1<=64;have:=depths cs;omega⟩
theorem in_cells (cs:List (Nat × Nat))(c:Nat × Nat):(cs.map cData).any (fun z=>PyData.eqv z (cData c))=cs.any fun z=>decide (z=c):=by
 rw [List.any_map];congr 1;funext z;exact cData_eqv z c
noncomputable def toI (c:Nat × Nat):Int × Int:=(((c.1:Nat):Int),((c.2:Nat):Int))
noncomputable def ofI (p:Int × Int):Nat × Nat:=(p.1.toNat,p.2.toNat)
theorem of_to (c:Nat × Nat):ofI (toI c)=c:=rfl
theorem toI_inj {c d:Nat × Nat}(h:toI c=toI d):c=d:=by rw [<- of_to c,h,of_to]
theorem lt2_lex {c d:Nat × Nat}:lt2 (toI c) (toI d)=true ↔ Cells.lex c d:=by
 obtain ⟨a,b⟩:=c;obtain ⟨x,y⟩:=d;unfold lt2 Cells.lex;show (if ((a:Nat):Int)=((x:Nat):Int) then decide (((b:Nat):Int) < ((y:Nat):Int)) else decide (((a:Nat):Int) < ((x:Nat):Int)))=true ↔ a < x\/(a=x/\b < y);by_cases e:a=x
 ·rw [if_pos (by omega),decide_eq_true_eq];omega
 ·rw [if_neg (by omega),decide_eq_true_eq];omega
theorem Cel.tup2 {H:Hp}{vs:List V}{cs:List (Nat × Nat)}(hp:Cel H vs cs):Tup2 H vs (cs.map toI):=by
 induction hp with
 | nil=>exact .nil
 | cons q _ ih =>
  obtain ⟨a,e,h⟩:=q;exact .cons ⟨a,e,h⟩ ih
theorem cel_of_tup2 {H:Hp}:∀ {cs:List (Nat × Nat)} {vs:List V},Tup2 H vs (cs.map toI)->Cel H vs cs
 | [],_,.nil=>.nil
 | _ :: _,_,.cons ⟨a,e,h⟩ t=>.cons ⟨a,e,h⟩ (cel_of_tup2 t)
noncomputable def pD (p:Int × Int):PyData:=.tuple [.int p.1,.int p.2]
theorem pD_eqv (p q:Int × Int):PyData.eqv (pD p) (pD q)=decide (p=q):=PySem.SeqAt.pairs_eqv p q
noncomputable def PR (H:Hp)(v:V)(p:Int × Int):Prop:=∃ a,v=V.ref a/\H a=some (.tup [.int p.1,.int p.2])
theorem PR.mono {H H':Hp}(s:Same H H'){v:V}{p:Int × Int}(h:PR H v p):PR H' v p:=let ⟨a,e,h⟩:=h; ⟨a,e,s _ _ h⟩
theorem tup2_mono {H H':Hp}(s:Same H H'){us:List V}{ps:List (Int × Int)}(hp:Tup2 H us ps):Tup2 H' us ps:=by
 induction hp with
 | nil=>exact .nil
 | cons h _ ih =>
  exact .cons (PR.mono s h) ih
theorem tup2_get {H:Hp}:∀ {us:List V} {ps:List (Int × Int)} {i:Nat} {v:V},Tup2 H us ps->us[i]?=some v->∃ p,ps[i]?=some p/\PR H v p
 | _,_,_,_,.nil,e=>by simp at e
 | _,_,0,_,.cons r _,e=>by
  simp at e;subst e;exact ⟨_,rfl,r⟩
 | _,_,i + 1,v,.cons _ t,e=>by
  obtain ⟨c,h1,h2⟩:=tup2_get (i:=i) (v:=v) t (by simpa using e);exact ⟨c,by simpa using h1,h2⟩
theorem tup2_len {H:Hp}{us:List V}{ps:List (Int × Int)}(h:Tup2 H us ps):us.length=ps.length:=Paired.length h
theorem PR.rdv {K:PySem.W.Frag}{H:Hp}{v:V}{p:Int × Int}(h:PR H v p):Rdv K H v (pD p):=by
 obtain ⟨a,rfl,h⟩:=h;exact .tup (SqT.of h) (.cons (.int _) (.cons (.int _) .nil))
theorem tup2_rdv {K:PySem.W.Frag}{H:Hp}{us:List V}{ps:List (Int × Int)}(hp:Tup2 H us ps):RdvAll K H us (ps.map pD):=by
 induction hp with
 | nil=>exact .nil
 | cons h _ ih =>
  exact .cons (PR.rdv h) ih
theorem p_lays:∀ ps:List (Int × Int),PyData.canLayAll0 (ps.map pD)=true
 | []=>rfl
 | p :: r=>by
  show (PyData.canLay0 (pD p) && PyData.canLayAll0 (r.map pD))=true;rw [p_lays r];rfl
theorem p_depths:∀ ps:List (Int × Int),PyData.depthAll (ps.map pD)<=1
 | []=>Nat.zero_le _
 | p :: r=>by
  show max (PyData.depth (pD p)) (PyData.depthAll (r.map pD))<=1;have:=p_depths r;have e:PyData.depth (pD p)=1:=rfl;omega
theorem in_prs (ps:List (Int × Int))(p:Int × Int):(ps.map pD).any (fun z=>PyData.eqv z (pD p))=ps.any fun z=>decide (z=p):=by
 rw [List.any_map];congr 1;funext z;exact pD_eqv z p
theorem in_prc (ps:List (Int × Int))(c:Nat × Nat):(ps.map pD).any (fun z=>PyData.eqv z (cData c))=ps.any fun z=>decide (z=toI c):=in_prs ps (toI c)
inductive Why
 | ok
 | cell (p:Int × Int)
 | order (p:Int × Int)
 | many (n:Nat)
 | num (c:Nat × Nat) (n:Nat)
noncomputable def WhyAt (H:Hp)(v:V):Why->Prop
 | .ok=>v=.non
 | .cell p=>∃ a c,v=V.ref a/\H a=some (.tup [.str "cell",.ref c])/\H c=some (.tup [.int p.1,.int p.2])
 | .order p=>∃ a c,v=V.ref a/\H a=some (.tup [.str "order",.ref c])/\H c=some (.tup [.int p.1,.int p.2])
 | .many n=>∃ a,v=V.ref a/\H a=some (.tup [.str "many",.int (n:Nat)])
 | .num c n=>∃ a ca,v=V.ref a/\H a=some (.tup [.str "number",.ref ca,.int (n:Nat)])/\H ca=some (.tup [.int (c.1:Nat),.int (c.2:Nat)])
noncomputable def Why.isOk:Why->Bool
 | .ok=>true
 | _=>false
noncomputable def cntW (rs:List Str)(ps:List (Int × Int))(c:Nat × Nat):Nat:=((aroundC rs c).filter fun x=>ps.any fun z=>decide (z=toI x)).length
noncomputable def numW (rs:List Str)(c:Nat × Nat):Int:=((Cells.sgn (codes rs) c:Nat):Int) - 48
noncomputable def badW (rs:List Str)(ps:List (Int × Int))(c:Nat × Nat):Bool:=!decide (((cntW rs ps c:Nat):Int)=numW rs c)
noncomputable def whyN (rs:List Str)(ps:List (Int × Int)):Why:=match (openC rs).find? (badW rs ps) with
 | some c=>.num c (cntW rs ps c)
 | none=>.ok
theorem find_at {α:Type}{p:α->Bool}{l:List α}{i:Nat}{x:α}(hx:l[i]?=some x)(h:p x=true)(hb:∀ y ∈ l.take i,p y=false):l.find? p=some x:=by
 obtain ⟨hi,e⟩:=List.getElem?_eq_some_iff.mp hx;have e2:l=l.take i++x :: l.drop (i + 1):=by rw [<- e,<- List.drop_eq_getElem_cons hi,List.take_append_drop]
 rw [e2,List.find?_append,List.find?_eq_none.mpr (fun y hy=>by rw [hb y hy]; exact Bool.false_ne_true),List.find?_cons,h];rfl
theorem find_no {α:Type}{p:α->Bool}{l:List α}(h:∀ y ∈ l,p y=false):l.find? p=none:=List.find?_eq_none.mpr fun y hy=>by rw [h y hy]; exact Bool.false_ne_true
theorem take_next {α:Type}{P:α->Prop}{l:List α}{i:Nat}{x:α}(hx:l[i]?=some x)(h:∀ y ∈ l.take i,P y)(hp:P x):∀ y ∈ l.take (i + 1),P y:=fun y hy=>by
 rw [List.take_add_one,hx] at hy;rcases List.mem_append.mp hy with hy | hy
 ·exact h y hy
 ·have e:y=x:=by simpa using hy
  rw [e];exact hp
noncomputable def ToldR (H:Hp)(rs:List Str)(v:V)(c:Nat × Nat):Prop:=∃ a ca na wn,v=V.ref a/\H a=some (.tup [.ref ca,.int (numW rs c),.ref na])/\H ca=some (.tup [.int (c.1:Nat),.int (c.2:Nat)])/\H na=some (.lst wn)/\Cel H wn (aroundC rs c)
noncomputable def tD (rs:List Str)(c:Nat × Nat):PyData:=.tuple [cData c,.int (numW rs c),.list ((aroundC rs c).map cData)]
theorem told_of {N:Addr->Prop}{H:Hp}{rs:List Str}{v:V}{c:Nat × Nat}(h:Rdn N H v (tD rs c)):ToldR H rs v c:=by
 unfold tD at h;generalize ed:(aroundC rs c).map cData=ds at h;cases h with
 | tup h t =>
  cases t with
  | cons a t =>
   obtain ⟨ca,rfl,hca⟩:=Rdn.celR a;cases t with
   | cons b t =>
    cases b;cases t with
    | cons d t =>
     cases t;cases d with
     | lst n h1 h2 =>
      subst ed;exact ⟨_,ca,_,_,rfl,h,hca,h1,RdnAll.cel h2⟩
theorem tolds_of {N:Addr->Prop}{H:Hp}{rs:List Str}:∀ {cs:List (Nat × Nat)} {vs:List V},RdnAll N H vs (cs.map (tD rs))->Paired (ToldR H rs) vs cs
 | [],_,.nil=>.nil
 | _ :: _,_,.cons h t=>.cons (told_of h) (tolds_of t)
theorem tolds_mono {H H':Hp}(s:Same H H'){rs:List Str}{cs:List (Nat × Nat)}{vs:List V}(hp:Paired (ToldR H rs) vs cs):Paired (ToldR H' rs) vs cs:=by
 induction hp with
 | nil=>exact .nil
 | cons q _ ih =>
  obtain ⟨a,ca,na,wn,e,h1,h2,h3,h4⟩:=q;exact .cons ⟨a,ca,na,wn,e,s _ _ h1,s _ _ h2,s _ _ h3,h4.mono s⟩ ih
theorem tolds_get {H:Hp}{rs:List Str}:∀ {vs:List V} {cs:List (Nat × Nat)} {i:Nat} {v:V},Paired (ToldR H rs) vs cs->vs[i]?=some v->∃ c,cs[i]?=some c/\ToldR H rs v c
 | _,_,_,_,.nil,e=>by simp at e
 | _,_,0,_,.cons r _,e=>by
  simp at e;subst e;exact ⟨_,rfl,r⟩
 | _,_,i + 1,v,.cons _ t,e=>by
  obtain ⟨c,h1,h2⟩:=tolds_get (i:=i) (v:=v) t (by simpa using e);exact ⟨c,by simpa using h1,h2⟩
noncomputable def spTold:Sp:=fun vs H Q _=>∃ (p l:Addr) (rs:List Str) (n:Int),vs=[.ref p]/\BoardAt H p l rs n/\Rows bd.cps.toList rs /\
 ∀ (d:Addr) (ws:List V) (H':Hp),H d=none->H' d=some (.lst ws)->Paired (ToldR H' rs) ws (openC rs)->Same H H'->Q (.ref d) H'
noncomputable def spWrong:Sp:=fun vs H Q _=>∃ (ta ca:Addr) (ut us:List V) (rs:List Str) (ps:List (Int × Int)),vs=[.ref ta,.ref ca]/\H ta=some (.lst ut)/\Paired (ToldR H rs) ut (openC rs)/\Rows bd.cps.toList rs/\H ca=some (.lst us)/\Tup2 H us ps /\
 ∀ (v:V) (H':Hp),Same H H'->WhyAt H' v (whyN rs ps)->Q v H'
theorem sc_numbers_told:FnScope ["board"] ["board"] (defScope s_numbers_told):=⟨rfl,rfl,rfl,by decide +kernel,rfl,by decide +kernel,by decide +kernel⟩
theorem ok_numbers_told {f1 f2 f3 f4 f5:Addr}{fd1 fd2 fd3 fd4 fd5:FuncData}(T:Txt mg)(D:DefAt K mg "numbers_told" s_numbers_told ["board"] f fd)(D_around:DefAt K mg "around" s_around ["board","cell"] f1 fd1)(D_sign_at:DefAt K mg "sign_at" s_sign_at ["board","cell"] f2 fd2)
  (D_cells_of:DefAt K mg "cells_of" s_cells_of ["board"] f3 fd3) (D_open_cells:DefAt K mg "open_cells" s_open_cells ["board"] f4 fd4) (D_number_at:DefAt K mg "number_at" s_number_at ["board","cell"] f5 fd5):FnOk P w K mg base CX0 3 f fd ["board"] spTold:=by
 refine D.F.ok sc_numbers_told (fun vs H Q E h=>?_) (fun cdv A outer s H vs Q E hr h=>?_)
 ·obtain ⟨p,l,rs,n,rfl,_⟩:=h;rfl
 ·obtain ⟨p,l,rs,n,rfl,b,R,q⟩:=h;refine ⟨_,(pss_one (ps_ret (pe_comp (N:=["cell","board"]) (src:=[none,some 0]) (CompOk.free (O:=(defScope s_numbers_told).names) (XN:=["board"]) rfl rfl ⟨_,rfl⟩ rfl rfl (by decide +kernel) (by decide +kernel) (by decide +kernel) rfl (by decide +kernel)) rfl (pi_list (pc0 (ok_open_cells T D_open_cells D_cells_of D_sign_at) hr D_open_cells (pa_cons (pv 0) pa_nil))) (fun _ _ _ _ _=>(pg_name (i:=0) (by show List.Nodup (["cell","board"]:List Str); decide +kernel) rfl (Or.inl rfl))) (fun _ _ _ _ _=>pifs_nil) (fun _ _ _ _ _=>(pe_tup (pa_cons (pv 0) (pa_cons (pc0 (ok_number_at T D_number_at D_sign_at) hr D_number_at (pa_cons (pv 1) (pa_cons (pv 0) pa_nil))) (pa_cons (pc0 (ok_around T D_around) hr D_around (pa_cons (pv 1) (pa_cons (pv 0) pa_nil))) pa_nil)))))))),?_⟩;refine ⟨_,rfl,p,l,rs,n,rfl,b,R,fun d ws H1 hd hd1 hc1 s1=>⟨d,rfl,⟨_,SqL.of hd1⟩,fun z hz=>?_⟩⟩;have hc1:Cel H1 ws (openC rs):=hc1;have b1:=b.mono s1;refine comp_data (K:=K) (a:=d) (xs:=ws) (fun a=>a ≠ z) ((openC rs).map fun c=>some (tD rs c)) (fun σ=>∃ u0,σ=[u0,some (.ref p)]) hz (fun _ h=>h) ⟨_,rfl⟩ (by rw [List.length_map]; exact hc1.length.symm) (by rw [hc1.length]; exact Nat.le_trans (all_short R) (by decide)) (SqL.of hd1) ?_ ?_
  ·rintro k x o σ H2 hx ho s2 hzn ⟨u0,rfl⟩ Y Z yes no;obtain ⟨y,hy,r1⟩:=Cel.get hc1 hx;have eo:=map_at hy ho;obtain ⟨t,sg,ht,hj,hop,es⟩:=cell_at_board (List.mem_of_getElem? hy);obtain ⟨ya,rfl,hya⟩:=r1;obtain ⟨l1,l2⟩:=cell_small R ht hj;obtain ⟨o1,o2⟩:=open_sign (sign_in R ht hj) hop;have b2:=b1.mono s2;have hya2:=s2 _ _ hya;refine tYes_it ⟨_,rfl,_,rfl,_,rfl,p,l,ya,rs,n,y.1,y.2,t,sg,rfl,b2,hya2,ht,hj,R.tlen ht,o1,o2,_,rfl,_,rfl,p,l,ya,rs,n,y.1,y.2,rfl,b2,R,hya2,l1,l2,fun d2 ws2 H3 hd2 hd3 hc2 s3=>⟨sz_3,fun tt htt=>?_⟩⟩;have s4:=same_new (o:=.tup [.ref ya,.int (((sg:Nat):Int) - 48),.ref d2]) htt;have en:numW rs y=((sg:Nat):Int) - 48:=by
    unfold numW;rw [es]
   refine yes _ _ _ _ eo ⟨_,rfl⟩ (s3.trans s4) (.tup upd_same (.cons (CelR.rdn ⟨ya,rfl,s4 _ _ (s3 _ _ hya2)⟩) (.cons ?_ (.cons (.lst (fun e=>hzn (e ▸ hd2)) (s4 _ _ hd3) (Cel.rdn (hc2.mono s4))) .nil))));rw [en];exact .int _
  ·rintro ys H2 s2 hz2 hr2;rw [outs_all] at hr2;exact q z ys H2 (s1.free hz) hz2 (tolds_of hr2) (s1.trans s2)
theorem sc_wrong_number:FnScope ["told","cells","cell","number","near","lying"] ["told","cells"] (defScope s_wrong_number):=⟨rfl,rfl,rfl,by decide +kernel,rfl,by decide +kernel,by decide +kernel⟩
theorem ok_wrong_number (T:Txt mg)(D:DefAt K mg "wrong_number" s_wrong_number ["told","cells"] f fd):FnOk P w K mg base CX0 1 f fd ["told","cells"] spWrong:=by
 refine D.F.ok sc_wrong_number (fun vs H Q E h=>?_) (fun cdv A outer s H vs Q E hr h=>?_)
 ·obtain ⟨ta,ca,ut,us,rs,ps,rfl,_⟩:=h;rfl
 ·obtain ⟨ta,ca,ut,us,rs,ps,rfl,hta,hT,R,hca,ht,q⟩:=h;refine ⟨_,(pss_cons (ps_for PassesOwn.never rfl (pi_list (pv 0)) (pg_tup rfl (pgs_cons (pg_name (i:=2) sc_wrong_number.nd rfl (Or.inl rfl)) (pgs_cons (pg_name (i:=3) sc_wrong_number.nd rfl (Or.inl rfl)) (pgs_cons (pg_name (i:=4) sc_wrong_number.nd rfl (Or.inl rfl)) pgs_nil)))) (pss_cons (ps_set (i:=5) sc_wrong_number.nd rfl (Or.inl rfl) (pe_callB call_len_seq (by rfl) T.b_len PySem.boot_len (pa_cons (pe_comp (N:=["place","cells"]) (src:=[none,some 1]) (CompOk.free (O:=(defScope s_wrong_number).names) (XN:=["told","cells","cell","number","near","lying"]) rfl rfl ⟨_,rfl⟩ rfl rfl (by decide +kernel) (by decide +kernel) (by decide +kernel) rfl (by decide +kernel)) rfl (pi_list (pv 4)) (fun _ _ _ _ _=>(pg_name (i:=0) (by show List.Nodup (["place","cells"]:List Str); decide +kernel) rfl (Or.inl rfl))) (fun _ _ _ _ _=>(pifs_one (pt_cmpR (op_in_deepK (K:=K) (by rfl) hr.units) (pv 0) (pv 1) (by rfl)))) (fun _ _ _ _ _=>(pv 0))) pa_nil)))
   (pss_one (ps_if (pt_cmpR op_ne (pv 5) (pv 3) (nomark _)) (pss_one (ps_ret (pe_tup (pa_cons pe_str (pa_cons (pv 2) (pa_cons (pv 5) pa_nil)))))) pss_nil))))
   (pss_one (ps_ret pe_non))),?_⟩
  refine ⟨_,rfl,ta,rfl,⟨_,SqL.of hta⟩,?_⟩;have tl:ut.length=(openC rs).length:=Paired.length hT;refine for_list (K:=K) (a:=ta) (xs:=ut) (fun i σ H'=>∃ v2 v3 v4 v5,σ=[some (.ref ta),some (.ref ca),v2,v3,v4,v5]/\Same H H'/\∀ y ∈ (openC rs).take i,badW rs ps y=false) ⟨_,_,_,_,rfl,Same.refl _,fun y hy=>by simp at hy⟩ (fun i σ H' _ ⟨_,_,_,_,_,s1,_⟩=>SqL.of (s1 _ _ hta)) ?_ ?_
  ·rintro i x σ H1 hx ⟨v2,v3,v4,v5,rfl,s1,hb⟩;obtain ⟨c,hc,a,cc,na,wn,rfl,h1,h2,h3,h4⟩:=tolds_get (tolds_mono s1 hT) hx;refine ⟨a,_,rfl,SqT.of h1,rfl,_,_,rfl,_,_,rfl,_,_,rfl,rfl,?_⟩;refine ⟨_,rfl,na,rfl,⟨_,SqL.of h3⟩,fun z hz=>?_⟩;refine comp_data (K:=K) (a:=na) (xs:=wn) (fun a=>a ≠ z) ((aroundC rs c).map fun x=>if (ps.any fun z=>decide (z=toI x))=true then some (cData x) else none) (fun σ=>∃ u0,σ=[u0,some (.ref ca)]) hz (fun _ h=>h) ⟨_,rfl⟩ (by rw [List.length_map]; exact h4.length.symm) (by rw [h4.length]; exact Nat.le_trans (aroundC_short R c) (by decide)) (SqL.of h3) ?_ ?_
   ·rintro m v o σ H2 hv ho s2 _ ⟨u1,rfl⟩ Y Z yes no;have s02:=s1.trans s2;obtain ⟨e,he,rc⟩:=Cel.get (h4.mono s2) hv;have eo:=map_at he ho;refine ⟨_,rfl,_,rfl,cData e,ps.map pD,rc.rdv,.lst (SqL.of (s02 _ _ hca)) (tup2_rdv (tup2_mono s02 ht)),rfl,p_lays _,(by show 1<=60; decide),_,rfl,?_⟩;have ei:(if false=true then !(ps.map pD).any (fun z=>PyData.eqv z (cData e)) else (ps.map pD).any fun z=>PyData.eqv z (cData e))=ps.any fun z=>decide (z=toI e):=in_prc _ _;rw [ei];by_cases hp:(ps.any fun z=>decide (z=toI e))=true
    ·rw [if_pos hp] at eo;exact iteP hp ⟨_,rfl,yes _ _ _ _ eo ⟨_,rfl⟩ (Same.refl _) rc.rdn⟩
    ·rw [if_neg hp] at eo;exact iteN (Bool.eq_false_iff.mpr hp) (no _ _ eo ⟨_,rfl⟩ (Same.refl _))
   rintro ys H2 s2 hz2 hr2;have er:((aroundC rs c).map fun x=>if (ps.any fun z=>decide (z=toI x))=true then some (cData x) else none).filterMap id=((aroundC rs c).filter fun x=>ps.any fun z=>decide (z=toI x)).map cData:=outs_filter _ _ _;rw [er] at hr2;have hcy:=RdnAll.cel hr2;have yl:ys.length=cntW rs ps c:=hcy.length;refine ⟨z,ys,rfl,.inl (SqL.of hz2),?_⟩;refine ⟨_,rfl,_,rfl,rfl,_,rfl,?_⟩;rw [yl];have ed:(!decide (V.int ((cntW rs ps c:Nat):Int)=V.int (numW rs c)))=badW rs ps c:=by
    unfold badW;simp only [V.int.injEq]
   rw [ed];have s02:=s1.trans s2;cases hbc:badW rs ps c with
   | true =>
    refine iteT ⟨_,rfl,_,rfl,sz_3,fun tt htt=>?_⟩;have s3:=same_new (o:=.tup [.str "number",.ref cc,.int ((cntW rs ps c:Nat):Int)]) htt;refine q _ _ (s02.trans s3) ?_;unfold whyN;rw [find_at hc hbc hb];exact ⟨tt,cc,rfl,upd_same,s3 _ _ (s2 _ _ h2)⟩
   | false=>exact iteF ⟨_,_,_,_,rfl,s02,take_next (P:=fun y=>badW rs ps y=false) hc hb hbc⟩
  ·rintro σ H1 ⟨v2,v3,v4,v5,rfl,s1,hb⟩;rw [tl,List.take_length] at hb;refine q _ _ s1 ?_;unfold whyN;rw [find_no hb];exact rfl
theorem ref_ne {H:Hp}{a z:Addr}{o o':HO}(h:H a=some o)(hz:H z=some o')(hne:o ≠ o'):a ≠ z:=fun e=>by
 subst e;rw [h] at hz;exact hne (Option.some.inj hz)
theorem pr_into {H:Hp}{z:Addr}{ys ys':List V}(hz:H z=some (.lst ys)){v:V}{p:Int × Int}(h:PR H v p):PR (upd H z (.lst ys')) v p:=by
 obtain ⟨a,e,h⟩:=h;refine ⟨a,e,?_⟩;rw [upd_ne (ref_ne h hz (fun z=>nomatch z))];exact h
theorem tup2_into {H:Hp}{z:Addr}{ys ys':List V}(hz:H z=some (.lst ys)){us:List V}{ps:List (Int × Int)}(hp:Tup2 H us ps):Tup2 (upd H z (.lst ys')) us ps:=by
 induction hp with
 | nil=>exact .nil
 | cons h _ ih =>
  exact .cons (pr_into hz h) ih
noncomputable def Lists (N:Addr->Prop)(H:Hp):List V->List (List (Int × Int))->Prop:=Paired fun v k=>∃ a ws,v=V.ref a/\N a/\H a=some (.lst ws)/\Tup2 H ws k
theorem lists_mono {N:Addr->Prop}{H H':Hp}(s:Same H H'){us:List V}{ks:List (List (Int × Int))}(hp:Lists N H us ks):Lists N H' us ks:=by
 induction hp with
 | nil=>exact .nil
 | cons q _ ih =>
  obtain ⟨a,ws,e,n,h,t⟩:=q;exact .cons ⟨a,ws,e,n,s _ _ h,tup2_mono s t⟩ ih
theorem lists_weak {N M:Addr->Prop}{H:Hp}(w:∀ a,N a->M a){us:List V}{ks:List (List (Int × Int))}(hp:Lists N H us ks):Lists M H us ks:=by
 induction hp with
 | nil=>exact .nil
 | cons q _ ih =>
  obtain ⟨a,ws,e,n,h,t⟩:=q;exact .cons ⟨a,ws,e,w a n,h,t⟩ ih
theorem lists_into {N:Addr->Prop}{H:Hp}{z:Addr}{ys ys':List V}(hz:H z=some (.lst ys))(w:∀ a,N a->a ≠ z){us:List V}{ks:List (List (Int × Int))}(hp:Lists N H us ks):Lists N (upd H z (.lst ys')) us ks:=by
 induction hp with
 | nil=>exact .nil
 | cons q _ ih =>
  obtain ⟨a,ws,e,n,h,t⟩:=q;exact .cons ⟨a,ws,e,n,by rw [upd_ne (w a n)]; exact h,tup2_into hz t⟩ ih
theorem lists_app {N:Addr->Prop}{H:Hp}{us:List V}{ks:List (List (Int × Int))}{us':List V}{ks':List (List (Int × Int))}(h:Lists N H us ks)(k:Lists N H us' ks'):Lists N H (us++us') (ks++ks'):=pr_app h k
theorem lists_len {N:Addr->Prop}{H:Hp}{us:List V}{ks:List (List (Int × Int))}(h:Lists N H us ks):us.length=ks.length:=Paired.length h
theorem lists_at {N:Addr->Prop}{H:Hp}{us:List V}{ks:List (List (Int × Int))}{i:Nat}{v:V}(h:Lists N H us ks)(e:us[i]?=some v):∃ k a ws,ks[i]?=some k/\v=V.ref a/\N a/\H a=some (.lst ws)/\Tup2 H ws k:=by
 obtain ⟨k,h1,a,ws,h2⟩:=pr_at h e;exact ⟨k,a,ws,h1,h2⟩
theorem lists_lst {N:Addr->Prop}{H:Hp}{us:List V}{ks:List (List (Int × Int))}(hp:Lists N H us ks):Paired (GS.LstAt H) us ks:=by
 induction hp with
 | nil=>exact .nil
 | cons q _ ih =>
  obtain ⟨a,ws,e,_,h,t⟩:=q;exact .cons ⟨a,ws,e,h,t⟩ ih
theorem lists_of {N:Addr->Prop}{H:Hp}{us:List V}{ks:List (List (Int × Int))}(hp:Paired (GS.LstAt H) us ks)(n:∀ v ∈ us,∃ a,v=V.ref a/\N a):Lists N H us ks:=by
 induction hp with
 | nil=>exact .nil
 | cons q _ ih =>
  obtain ⟨a,ws,e,h,t⟩:=q;obtain ⟨b,e2,n2⟩:=n _ List.mem_cons_self;subst e;cases e2;exact .cons ⟨_,ws,rfl,n2,h,t⟩ (ih fun v hv=>n v (List.mem_cons_of_mem _ hv))
theorem lists_has {N:Addr->Prop}{H:Hp}{us:List V}{ks:List (List (Int × Int))}{v:V}(h:Lists N H us ks)(e:v ∈ us):∃ a ws,v=V.ref a/\N a/\H a=some (.lst ws):=by
 obtain ⟨k,_,a,ws,h1,h2,h3,_⟩:=pr_mem h e;exact ⟨a,ws,h1,h2,h3⟩
theorem tup2_app {H:Hp}{us:List V}{ps:List (Int × Int)}{us':List V}{ps':List (Int × Int)}(h:Tup2 H us ps)(k:Tup2 H us' ps'):Tup2 H (us++us') (ps++ps'):=pr_app h k
noncomputable def chosen (n:Int)(ps:List (Int × Int)):List (List (Int × Int)):=(Subs.subs ps).filter fun p=>decide (((p.length:Nat):Int)=n)
noncomputable def spPicks:Sp:=fun vs H Q _=>∃ (ca:Addr) (us:List V) (ps:List (Int × Int)) (n:Int),vs=[.ref ca,.int n]/\H ca=some (.lst us)/\Tup2 H us ps/\ps.length<=14/\0<=n /\
 ∀ (d:Addr) (ws:List V) (ks:List (List (Int × Int))) (H':Hp),H d=none->H' d=some (.lst ws)->Lists (fun a=>H a=none/\a ≠ d) H' ws ks->ws.Nodup->ks.Perm (chosen n ps)->ks.Pairwise (fun p q=>PySem.SeqAt.ltL q p=false)->Same H H'->Q (.ref d) H'
theorem stepN_le (n:Int)(F:List (List (Int × Int)))(c:Int × Int):(Subs.stepN n F c).length<=2 * F.length:=by
 unfold Subs.stepN;rw [List.length_append,List.length_map];have:=List.length_filter_le (fun p:List (Int × Int)=>decide (((p.length:Nat):Int) < n)) F;omega
theorem foldN_le (n:Int):∀ (cs:List (Int × Int)) (F:List (List (Int × Int))),(cs.foldl (Subs.stepN n) F).length<=2 ^ cs.length * F.length
 | [],F=>by simp
 | c :: r,F=>by
  rw [List.foldl_cons,List.length_cons,Nat.pow_succ,Nat.mul_assoc];exact Nat.le_trans (foldN_le n r _) (Nat.mul_le_mul_left _ (stepN_le n F c))
theorem stepN_deep (n:Int){F:List (List (Int × Int))}{c:Int × Int}{k:Nat}(h:∀ p ∈ F,p.length<=k):∀ p ∈ Subs.stepN n F c,p.length<=k + 1:=by
 intro p hp;rcases List.mem_append.mp hp with hp | hp
 ·have:=h p hp;omega
 ·obtain ⟨q,hq,rfl⟩:=List.mem_map.mp hp;have:=h q (List.mem_filter.mp hq).1;rw [List.length_append];exact Nat.succ_le_succ this
theorem foldN_deep (n:Int):∀ (cs:List (Int × Int)) (F:List (List (Int × Int))) (k:Nat),(∀ p ∈ F,p.length<=k)->∀ p ∈ cs.foldl (Subs.stepN n) F,p.length<=k + cs.length
 | [],F,k,h,p,hp=>h p hp
 | c :: r,F,k,h,p,hp=>by
  have:=foldN_deep n r _ (k + 1) (stepN_deep n h) p hp;rw [List.length_cons];omega
theorem sc_picks:FnScope ["cells","size","found","cell"] ["cells","size"] (defScope s_picks):=⟨rfl,rfl,rfl,by decide +kernel,rfl,by decide +kernel,by decide +kernel⟩
theorem ok_picks (T:Txt mg)(D:DefAt K mg "picks" s_picks ["cells","size"] f fd):FnOk P w K mg base CX0 1 f fd ["cells","size"] spPicks:=by
 refine D.F.ok sc_picks (fun vs H Q E h=>?_) (fun cdv A outer s H vs Q E hr h=>?_)
 ·obtain ⟨ca,us,ps,n,rfl,_⟩:=h;rfl
 ·obtain ⟨ca,us,ps,n,rfl,hca,ht,pl,n0,q⟩:=h;have ul:=tup2_len ht;refine ⟨_,(pss_cons (ps_set (i:=2) sc_picks.nd rfl (Or.inl rfl) (pe_lst (pa_cons (pe_lst pa_nil) pa_nil)))
   (pss_cons (ps_for PassesOwn.never rfl (pi_list (pv 0)) (pg_name (i:=3) sc_picks.nd rfl (Or.inr rfl)) (pss_one (ps_set (i:=2) sc_picks.nd rfl (Or.inl rfl) (pe_op op_cat (pv 2) (pe_comp (N:=["pick","cell","size"]) (src:=[none,some 3,some 1]) (CompOk.free (O:=(defScope s_picks).names) (XN:=["cells","size","found","cell"]) rfl rfl ⟨_,rfl⟩ rfl rfl (by decide +kernel) (by decide +kernel) (by decide +kernel) rfl (by decide +kernel)) rfl (pi_list (pv 2)) (fun _ _ _ _ _=>(pg_name (i:=0) (by show List.Nodup (["pick","cell","size"]:List Str); decide +kernel) rfl (Or.inl rfl))) (fun _ _ _ _ _=>(pifs_one (pt_cmpR op_lt (pe_callB (call_len_seqK (K:=K) (by rfl)) (by rfl) T.b_len PySem.boot_len (pa_cons (pv 0) pa_nil)) (pv 2) (nomark _)))) (fun _ _ _ _ _=>(pe_op op_cat (pv 0) (pe_lst (pa_cons (pv 1) pa_nil)))))))))
   (pss_one (ps_ret (pe_callB (GS.call_sortedGL hr.units) (by rfl) T.b_sorted PyProof.Rows.boot_sorted (pa_cons (pe_comp (N:=["pick","size"]) (src:=[none,some 1]) (CompOk.free (O:=(defScope s_picks).names) (XN:=["cells","size","found","cell"]) rfl rfl ⟨_,rfl⟩ rfl rfl (by decide +kernel) (by decide +kernel) (by decide +kernel) rfl (by decide +kernel)) rfl (pi_list (pv 2)) (fun _ _ _ _ _=>(pg_name (i:=0) (by show List.Nodup (["pick","size"]:List Str); decide +kernel) rfl (Or.inl rfl))) (fun _ _ _ _ _=>(pifs_one (pt_cmpR op_eq (pe_callB (call_len_seqK (K:=K) (by rfl)) (by rfl) T.b_len PySem.boot_len (pa_cons (pv 0) pa_nil)) (pv 1) (nomark _)))) (fun _ _ _ _ _=>(pv 0))) pa_nil)))))),?_⟩
  refine ⟨sz_0,fun e0 he0=>⟨sz_1,fun f0 hf0=>?_⟩⟩;have y1:=same_new (o:=.lst []) he0;have y2:=same_new (o:=.lst [.ref e0]) hf0;have y12:=y1.trans y2;have hL0:Lists (fun a=>H a=none) (upd (upd H e0 (.lst [])) f0 (.lst [.ref e0])) [.ref e0] [[]]:=.cons ⟨e0,[],rfl,he0,y2 _ _ upd_same,.nil⟩ .nil;have hf2:upd (upd H e0 (.lst [])) f0 (.lst [.ref e0]) f0=some (.lst [.ref e0]):=upd_same;have fn:=y1.free hf0;generalize upd (upd H e0 (.lst [])) f0 (.lst [.ref e0])=H2 at *
  refine ⟨_,rfl,ca,rfl,⟨_,SqL.of (y12 _ _ hca)⟩,?_⟩;refine for_list (K:=K) (a:=ca) (xs:=us) (fun i σ H'=>∃ (fa:Addr) (fs:List V) (v3:Option V),σ=[some (.ref ca),some (.int n),some (.ref fa),v3]/\Same H H'/\H' fa=some (.lst fs)/\H fa=none/\Lists (fun a=>H a=none) H' fs ((ps.take i).foldl (Subs.stepN n) [[]])/\fs.Nodup)
   ⟨f0,_,_,rfl,y12,hf2,fn,hL0,by simp⟩ (fun i σ H' _ ⟨_,_,_,_,z,_⟩=>SqL.of (z _ _ hca)) ?_ ?_
  ·rintro i x σ H3 hx ⟨fa,fs,v3,rfl,s3,hfa,fan,hL,hnd⟩;obtain ⟨c,hc,rc⟩:=tup2_get (tup2_mono s3 ht) hx;have il:=(List.getElem?_eq_some_iff.mp hc).1;have tk:ps.take (i + 1)=ps.take i++[c]:=by
    rw [List.take_add_one,hc];rfl
   have ll:=foldN_le n (ps.take i) [[]];have lt14:(ps.take i).length<=13:=by
    rw [List.length_take];omega
   have fl:fs.length<=8192:=by
    rw [lists_len hL];refine Nat.le_trans ll ?_;rw [List.length_singleton,Nat.mul_one];exact Nat.pow_le_pow_right (by decide) lt14
   have dp:=foldN_deep n (ps.take i) [[]] 0 (by simp);have eF:(ps.take (i + 1)).foldl (Subs.stepN n) [[]]=Subs.stepN n ((ps.take i).foldl (Subs.stepN n) [[]]) c:=by
    rw [tk,List.foldl_append];rfl
   generalize (ps.take i).foldl (Subs.stepN n) [[]]=F at *
   refine ⟨_,rfl,_,rfl,fa,rfl,⟨_,SqL.of hfa⟩,fun z hz=>?_⟩;refine comp_list (K:=K) (a:=fa) (xs:=fs) (fun j σ' H'=>∃ (u0:Option V) (ys:List V),σ'=[u0,some x,some (.int n)]/\Same H3 H'/\H' z=some (.lst ys)/\Lists (fun a=>H3 a=none/\a ≠ z) H' ys (((F.take j).filter fun p=>decide (((p.length:Nat):Int) < n)).map (·++[c]))/\ys.Nodup)
    ⟨_,[],rfl,same_new hz,upd_same,.nil,List.nodup_nil⟩ (fun j σ' H' _ ⟨_,_,_,z,_⟩=>SqL.of (z _ _ hfa)) ?_ ?_
   ·rintro j v σ' H4 hv ⟨u0,ys,rfl,s4,hz4,hL4,nd4⟩;obtain ⟨k,a,ws,hk,rfl,an,ha,tw⟩:=lists_at hL hv;have wl:=tup2_len tw;have kd:=dp k (List.mem_of_getElem? hk);have jl:=(List.getElem?_eq_some_iff.mp hk).1;have tj:F.take (j + 1)=F.take j++[k]:=by
     rw [List.take_add_one,hk];rfl
    refine ⟨_,rfl,a,ws,rfl,.inl (SqL.of (s4 _ _ ha)),_,rfl,_,_,rfl,rfl,_,rfl,?_⟩;rw [wl];by_cases hlt:((k.length:Nat):Int) < n
    ·have e1:((F.take (j + 1)).filter fun p=>decide (((p.length:Nat):Int) < n)).map (·++[c])=((F.take j).filter fun p=>decide (((p.length:Nat):Int) < n)).map (·++[c])++[k++[c]]:=by
      rw [tj,List.filter_append,List.map_append,List.filter_cons,if_pos (decide_eq_true hlt)];rfl
     rw [e1];refine iteP (decide_eq_true hlt) ⟨_,rfl,_,rfl,sz_1,fun t1 ht1=>?_⟩;have y5:=same_new (o:=.lst [x]) ht1;refine ⟨a,t1,ws,[x],rfl,rfl,y5 _ _ (s4 _ _ ha),upd_same,Nat.le_trans (show ws.length + 1<=100 by omega) (by decide),fun t2 ht2=>?_⟩;have y6:=same_new (o:=.lst (ws++[x])) ht2;have y56:=y5.trans y6;have h6:upd (upd H4 t1 (.lst [x])) t2 (.lst (ws++[x])) t2=some (.lst (ws++[x])):=upd_same;have tz:t2 ≠ z:=fun e=>by
      subst e;rw [y5 _ _ hz4] at ht2;cases ht2
     have n4:=y5.free ht2;have n3:=s4.free n4;have tw6:=tup2_app (tup2_mono (s4.trans y56) tw) (.cons (PR.mono (s4.trans y56) rc) .nil);generalize upd (upd H4 t1 (.lst [x])) t2 (.lst (ws++[x]))=H6 at *
     have hz6:=y56 _ _ hz4;have yl:ys.length<=8192:=by
      rw [lists_len hL4,List.length_map];have h1:=List.length_filter_le (fun p:List (Int × Int)=>decide (((p.length:Nat):Int) < n)) (F.take j);rw [List.length_take] at h1;have:=lists_len hL;omega
     refine ⟨ys,hz6,Nat.lt_of_le_of_lt yl (by decide),_,ys++[.ref t2],rfl,fun b o e=>?_,upd_same,lists_app (lists_into hz6 (fun a h=>h.2) (lists_mono y56 hL4)) (.cons ⟨t2,ws++[x],rfl,⟨n3,tz⟩,by rw [upd_ne tz]; exact h6,tup2_into hz6 tw6⟩ .nil),?_⟩
     ·rw [upd_ne (ne_of_none e hz)];exact y56 _ _ (s4 _ _ e)
     ·refine List.nodup_append.mpr ⟨nd4,by simp,fun u hu u' hu' e=>?_⟩;obtain ⟨b,wb,rfl,_,hb⟩:=lists_has hL4 hu;have e2:u'=.ref t2:=by simpa using hu'
      rw [e2] at e;cases e;rw [hb] at n4;cases n4
    ·have e1:((F.take (j + 1)).filter fun p=>decide (((p.length:Nat):Int) < n)).map (·++[c])=((F.take j).filter fun p=>decide (((p.length:Nat):Int) < n)).map (·++[c]):=by
      rw [tj,List.filter_append,List.map_append,List.filter_cons,if_neg (by simpa using hlt)];simp
     rw [e1];exact iteN (decide_eq_false hlt) ⟨_,ys,rfl,s4,hz4,hL4,nd4⟩
   ·rintro σ' H4 ⟨u0,ys,rfl,s4,hz4,hL4,nd4⟩;rw [lists_len hL,List.take_length] at hL4;have yl:ys.length<=8192:=by
     rw [lists_len hL4,List.length_map];have h1:=List.length_filter_le (fun p:List (Int × Int)=>decide (((p.length:Nat):Int) < n)) F;have:=lists_len hL;omega
    refine ⟨fa,z,fs,ys,rfl,rfl,s4 _ _ hfa,hz4,Nat.le_trans (Nat.add_le_add fl yl) (by decide),fun g hg=>?_⟩;have y5:=same_new (o:=.lst (fs++ys)) hg;have s34:=s3.trans s4;refine ⟨g,fs++ys,_,rfl,s34.trans y5,upd_same,s34.free hg,?_,?_⟩
    ·rw [eF];exact lists_app (lists_mono (s4.trans y5) hL) (lists_mono y5 (lists_weak (fun a h=>s3.free h.1) hL4))
    ·refine List.nodup_append.mpr ⟨hnd,nd4,fun u hu u' hu' e=>?_⟩;obtain ⟨b,wb,rfl,_,hb⟩:=lists_has hL hu;obtain ⟨b',wb',rfl,hb',_⟩:=lists_has hL4 hu';cases e;rw [hb] at hb';cases hb'.1
  ·rintro σ H3 ⟨fa,fs,v3,rfl,s3,hfa,fan,hL,hnd⟩;rw [ul,List.take_length] at hL;have ll:=foldN_le n ps [[]];have fl:fs.length<=16384:=by
    rw [lists_len hL];refine Nat.le_trans ll ?_;rw [List.length_singleton,Nat.mul_one];exact Nat.pow_le_pow_right (by decide) pl
   have ep:(ps.foldl (Subs.stepN n) [[]]).filter (fun p=>decide (((p.length:Nat):Int)=n))=chosen n ps:=Subs.picks_are n n0 ps;generalize ps.foldl (Subs.stepN n) [[]]=F at *
   refine ⟨_,rfl,fa,rfl,⟨_,SqL.of hfa⟩,fun z hz=>?_⟩;refine comp_list (K:=K) (a:=fa) (xs:=fs) (fun j σ' H'=>∃ (u0:Option V) (ys:List V),σ'=[u0,some (.int n)]/\Same H3 H'/\H' z=some (.lst ys)/\Lists (fun a=>H a=none/\a ≠ z) H' ys ((F.take j).filter fun p=>decide (((p.length:Nat):Int)=n))/\ys.Sublist (fs.take j))
    ⟨_,[],rfl,same_new hz,upd_same,.nil,List.Sublist.slnil⟩ (fun j σ' H' _ ⟨_,_,_,z,_⟩=>SqL.of (z _ _ hfa)) ?_ ?_
   ·rintro j v σ' H4 hv ⟨u0,ys,rfl,s4,hz4,hL4,sb4⟩;obtain ⟨k,a,ws,hk,rfl,an,ha,tw⟩:=lists_at hL hv;have wl:=tup2_len tw;have tj:F.take (j + 1)=F.take j++[k]:=by
     rw [List.take_add_one,hk];rfl
    have tf:fs.take (j + 1)=fs.take j++[.ref a]:=by
     rw [List.take_add_one,hv];rfl
    refine ⟨_,rfl,a,ws,rfl,.inl (SqL.of (s4 _ _ ha)),_,rfl,rfl,_,rfl,?_⟩;rw [wl,tf];have ed:decide (V.int ((k.length:Nat):Int)=V.int n)=decide (((k.length:Nat):Int)=n):=by simp only [V.int.injEq]
    rw [ed];by_cases hlt:((k.length:Nat):Int)=n
    ·have e1:((F.take (j + 1)).filter fun p=>decide (((p.length:Nat):Int)=n))=((F.take j).filter fun p=>decide (((p.length:Nat):Int)=n))++[k]:=by
      rw [tj,List.filter_append,List.filter_cons,if_pos (decide_eq_true hlt)];rfl
     rw [e1];have az:a ≠ z:=ne_of_none ha hz;have yl:ys.length<=16384:=by
      have:=sb4.length_le;rw [List.length_take] at this;omega
     refine iteP (decide_eq_true hlt) ⟨_,rfl,ys,hz4,Nat.lt_of_le_of_lt yl (by decide),_,ys++[.ref a],rfl,fun b o e=>?_,upd_same,lists_app (lists_into hz4 (fun a h=>h.2) hL4) (.cons ⟨a,ws,rfl,⟨an,az⟩,by rw [upd_ne az]; exact s4 _ _ ha,tup2_into hz4 (tup2_mono s4 tw)⟩ .nil),List.Sublist.append sb4 (List.Sublist.refl _)⟩;rw [upd_ne (ne_of_none e hz)];exact s4 _ _ e
    ·have e1:((F.take (j + 1)).filter fun p=>decide (((p.length:Nat):Int)=n))=((F.take j).filter fun p=>decide (((p.length:Nat):Int)=n)):=by
      rw [tj,List.filter_append,List.filter_cons,if_neg (by simpa using hlt)];simp
     rw [e1];exact iteN (decide_eq_false hlt) ⟨_,ys,rfl,s4,hz4,hL4,sb4.trans (List.sublist_append_left _ _)⟩
   ·rintro σ' H4 ⟨u0,ys,rfl,s4,hz4,hL4,sb4⟩;rw [lists_len hL,List.take_length,ep] at hL4;rw [List.take_length] at sb4;have yl:ys.length<=1000000:=Nat.le_trans sb4.length_le (by omega);refine ⟨z,ys,_,rfl,SqL.of hz4,lists_lst hL4,yl,fun d us' ks' hd hp' hperm hpw hup=>?_⟩;have y5:=same_new (o:=.lst us') hd;have s34:=s3.trans s4;refine q d us' ks' _ (s34.free hd) upd_same (lists_mono y5 (lists_of hp' fun v hv=>?_)) (hup.nodup_iff.mpr (hnd.sublist sb4)) hperm hpw (s34.trans y5);obtain ⟨a,ws,e,na,ha⟩:=lists_has hL4 (hup.mem_iff.mp hv);exact ⟨a,e,na.1,ne_of_none ha hd⟩
noncomputable def cellsI (rs:List Str):List (Int × Int):=(shutC rs).map toI
noncomputable def fitB (rs:List Str)(p:List (Int × Int)):Bool:=(whyN rs p).isOk
theorem why_non {H:Hp}{v:V}{y:Why}(h:WhyAt H v y):decide (v=.non)=y.isOk:=by
 cases y with
 | ok=>exact decide_eq_true h
 | cell p=>obtain ⟨a,c,rfl,_⟩:=h; rfl
 | order p=>obtain ⟨a,c,rfl,_⟩:=h; rfl
 | many n=>obtain ⟨a,rfl,_⟩:=h; rfl
 | num c n=>obtain ⟨a,ca,rfl,_⟩:=h; rfl
noncomputable def spLay:Sp:=fun vs H Q _=>∃ (p l:Addr) (rs:List Str) (n:Int),vs=[.ref p]/\BoardAt H p l rs n/\Rows bd.cps.toList rs/\(shutC rs).length<=12/\0<=n /\
 ∀ (d:Addr) (ws:List V) (ks:List (List (Int × Int))) (H':Hp),H d=none->H' d=some (.lst ws)->Lists (fun a=>H a=none/\a ≠ d) H' ws ks->ws.Nodup->ks.Perm ((chosen n (cellsI rs)).filter (fitB rs))->ks.Pairwise (fun p q=>PySem.SeqAt.ltL q p=false)->Same H H'->Q (.ref d) H'
theorem sc_layings:FnScope ["board","hidden","told"] ["board"] (defScope s_layings):=⟨rfl,rfl,rfl,by decide +kernel,rfl,by decide +kernel,by decide +kernel⟩
theorem ok_layings {f1 f2 f3 f4 f5 f6 f7 f8 f9:Addr}{fd1 fd2 fd3 fd4 fd5 fd6 fd7 fd8 fd9:FuncData}(T:Txt mg)(D:DefAt K mg "layings" s_layings ["board"] f fd)(D_around:DefAt K mg "around" s_around ["board","cell"] f1 fd1)(D_sign_at:DefAt K mg "sign_at" s_sign_at ["board","cell"] f2 fd2)
  (D_cells_of:DefAt K mg "cells_of" s_cells_of ["board"] f3 fd3) (D_closed:DefAt K mg "closed" s_closed ["board"] f4 fd4) (D_open_cells:DefAt K mg "open_cells" s_open_cells ["board"] f5 fd5) (D_number_at:DefAt K mg "number_at" s_number_at ["board","cell"] f6 fd6)
  (D_numbers_told:DefAt K mg "numbers_told" s_numbers_told ["board"] f7 fd7) (D_wrong_number:DefAt K mg "wrong_number" s_wrong_number ["told","cells"] f8 fd8) (D_picks:DefAt K mg "picks" s_picks ["cells","size"] f9 fd9):FnOk P w K mg base CX0 4 f fd ["board"] spLay:=by
 refine D.F.ok sc_layings (fun vs H Q E h=>?_) (fun cdv A outer s H vs Q E hr h=>?_)
 ·obtain ⟨p,l,rs,n,rfl,_⟩:=h;rfl
 ·obtain ⟨p,l,rs,n,rfl,b,R,h12,n0,q⟩:=h;refine ⟨_,(pss_cons (ps_set (i:=1) sc_layings.nd rfl (Or.inl rfl) (pc0 (ok_closed T D_closed D_cells_of D_sign_at) hr D_closed (pa_cons (pv 0) pa_nil)))
   (pss_cons (ps_if (pt_cmpR op_gt (pe_callB call_len_seq (by rfl) T.b_len PySem.boot_len (pa_cons (pv 1) pa_nil)) (pe_glob (v:=.int 12) (by rfl) T.v_MOST_CLOSED_layings.choose_spec (by exact ⟨_,rfl⟩)) (nomark _)) (pss_one ps_never) pss_nil)
   (pss_cons (ps_set (i:=2) sc_layings.nd rfl (Or.inr rfl) (pc0 (ok_numbers_told T D_numbers_told D_around D_sign_at D_cells_of D_open_cells D_number_at) hr D_numbers_told (pa_cons (pv 0) pa_nil)))
   (pss_one (ps_ret (pe_comp (N:=["pick","told"]) (src:=[none,some 2]) (CompOk.free (O:=(defScope s_layings).names) (XN:=["board","hidden","told"]) rfl rfl ⟨_,rfl⟩ rfl rfl (by decide +kernel) (by decide +kernel) (by decide +kernel) rfl (by decide +kernel)) rfl (pi_list (pc0 (ok_picks T D_picks) hr D_picks (pa_cons (pv 1) (pa_cons (pe_ix ix_tup (pv 0) pe_int (fun _ _=>rfl)) pa_nil)))) (fun _ _ _ _ _=>(pg_name (i:=0) (by show List.Nodup (["pick","told"]:List Str); decide +kernel) rfl (Or.inl rfl))) (fun _ _ _ _ _=>(pifs_one (pt_cmpR op_isN (pc0 (ok_wrong_number T D_wrong_number) hr D_wrong_number (pa_cons (pv 1) (pa_cons (pv 0) pa_nil))) pe_non (nomark _)))) (fun _ _ _ _ _=>(pv 0)))))))),?_⟩
  refine ⟨_,rfl,p,l,rs,n,rfl,b,R,fun d ws H1 hd hd1 hc1 s1=>?_⟩;have wl:ws.length<=12:=by
   rw [hc1.length];exact h12
  refine ⟨_,rfl,d,ws,rfl,.inl (SqL.of hd1),_,_,rfl,rfl,_,rfl,?_⟩;refine iteN (decide_eq_false (by omega)) ?_;refine ⟨_,rfl,p,l,rs,n,rfl,b.mono s1,R,fun td ut H2 htd htd2 hT s2=>?_⟩;have s12:=s1.trans s2;have tp:=Cel.tup2 (hc1.mono s2);refine ⟨_,rfl,_,rfl,p,_,1,_,rfl,rfl,SqT.of (b.mono s12).tp,rfl,d,ws,cellsI rs,n,rfl,s2 _ _ hd1,tp,?_,n0,fun pa fs F H3 hpa hpa3 hL hnd hpm hpw s3=>?_⟩
  ·show ((shutC rs).map toI).length<=14;rw [List.length_map];omega
  have s13:=s12.trans s3;have fl:fs.length<=16384:=by
   rw [lists_len hL,hpm.length_eq];unfold chosen;refine Nat.le_trans (List.length_filter_le _ _) ?_;rw [Subs.subs_pick,List.length_map,List.length_range];have e:(cellsI rs).length<=14:=by
    show ((shutC rs).map toI).length<=14;rw [List.length_map];omega
   exact Nat.pow_le_pow_right (by decide) e
  refine ⟨pa,rfl,⟨_,SqL.of hpa3⟩,fun z hz=>?_⟩;refine comp_list (K:=K) (a:=pa) (xs:=fs) (fun j σ' H'=>∃ (u0:Option V) (ys:List V),σ'=[u0,some (.ref td)]/\Same H3 H'/\H' z=some (.lst ys)/\Lists (fun a=>H a=none/\a ≠ z) H' ys ((F.take j).filter (fitB rs))/\ys.Sublist (fs.take j))
   ⟨_,[],rfl,same_new hz,upd_same,.nil,List.Sublist.slnil⟩ (fun j σ' H' _ ⟨_,_,_,z,_⟩=>SqL.of (z _ _ hpa3)) ?_ ?_
  ·rintro j v σ' H4 hv ⟨u0,ys,rfl,s4,hz4,hL4,sb4⟩;obtain ⟨k,a,us,hk,rfl,an,ha,tw⟩:=lists_at hL hv;have tj:F.take (j + 1)=F.take j++[k]:=by
    rw [List.take_add_one,hk];rfl
   have tf:fs.take (j + 1)=fs.take j++[.ref a]:=by
    rw [List.take_add_one,hv];rfl
   have s34:=s3.trans s4;refine ⟨_,rfl,_,rfl,td,a,ut,us,rs,k,rfl,s34 _ _ htd2,tolds_mono s34 hT,R,s4 _ _ ha,tup2_mono s4 tw,fun v H5 s5 hw=>⟨rfl,_,rfl,?_⟩⟩;rw [why_non hw,tf];have hz5:=s5 _ _ hz4;by_cases hlt:fitB rs k=true
   ·have e1:((F.take (j + 1)).filter (fitB rs))=((F.take j).filter (fitB rs))++[k]:=by
     rw [tj,List.filter_append,List.filter_cons,if_pos hlt];rfl
    rw [e1];have az:a ≠ z:=ne_of_none ha hz;have yl:ys.length<=16384:=by
     have:=sb4.length_le;rw [List.length_take] at this;omega
    refine iteP hlt ⟨_,rfl,ys,hz5,Nat.lt_of_le_of_lt yl (by decide),_,ys++[.ref a],rfl,fun b o e=>?_,upd_same,lists_app (lists_into hz5 (fun a h=>h.2) (lists_mono s5 hL4)) (.cons ⟨a,us,rfl,⟨s12.free an.1,az⟩,by rw [upd_ne az]; exact s5 _ _ (s4 _ _ ha),tup2_into hz5 (tup2_mono (s4.trans s5) tw)⟩ .nil),List.Sublist.append sb4 (List.Sublist.refl _)⟩;rw [upd_ne (ne_of_none e hz)];exact s5 _ _ (s4 _ _ e)
   ·have e1:((F.take (j + 1)).filter (fitB rs))=((F.take j).filter (fitB rs)):=by
     rw [tj,List.filter_append,List.filter_cons,if_neg hlt];simp
    rw [e1];exact iteN (Bool.eq_false_iff.mpr hlt) ⟨_,ys,rfl,s4.trans s5,hz5,lists_mono s5 hL4,sb4.trans (List.sublist_append_left _ _)⟩
  ·rintro σ' H4 ⟨u0,ys,rfl,s4,hz4,hL4,sb4⟩;rw [lists_len hL,List.take_length] at hL4;rw [List.take_length] at sb4;exact q z ys _ H4 (s13.free hz) hz4 hL4 (hnd.sublist sb4) (hpm.filter _) (hpw.filter _) (s13.trans s4)
theorem gcd_mod (a b:Int):Int.gcd b (a % b)=Int.gcd a b:=by
 have h:=Int.emod_add_mul_ediv a b;apply Nat.dvd_antisymm
 ·apply Int.dvd_gcd
  ·have h1:((Int.gcd b (a % b):Nat):Int) ∣ b:=Int.gcd_dvd_left ..;have h2:((Int.gcd b (a % b):Nat):Int) ∣ a % b:=Int.gcd_dvd_right ..;have h3:=Int.dvd_add h2 (Int.dvd_trans h1 (Int.dvd_mul_right b (a / b)));rw [h] at h3;exact h3
  ·exact Int.gcd_dvd_left ..
 ·apply Int.dvd_gcd
  ·exact Int.gcd_dvd_right ..
  ·have h1:((Int.gcd a b:Nat):Int) ∣ b:=Int.gcd_dvd_right ..;have h2:((Int.gcd a b:Nat):Int) ∣ a:=Int.gcd_dvd_left ..;have e:a % b=a - b * (a / b):=by omega
   rw [e];exact Int.dvd_sub h2 (Int.dvd_trans h1 (Int.dvd_mul_right ..))
theorem gcd_end (a:Int)(h:0<=a):((Int.gcd a 0:Nat):Int)=a:=by
 rw [Int.gcd_zero_right]; omega
theorem gcd_pos {a b:Int}(h:0 < b):0 < ((Int.gcd a b:Nat):Int):=by
 have:0 < Int.gcd a b:=Int.gcd_pos_of_ne_zero_right a (by omega);omega
theorem gcd_le {a b:Int}(h:0 < b):((Int.gcd a b:Nat):Int)<=b:=Int.le_of_dvd h (Int.gcd_dvd_right ..)
noncomputable def spGd:Sp:=fun vs H Q _=>∃ (n b:Int),vs=[.int n,.int b]/\0 < b/\Q (.int (Int.gcd n b:Nat)) H
noncomputable def spFr:Sp:=fun vs H Q _=>∃ (n b:Int),vs=[.int n,.int b]/\0 < b/\b.natAbs < 2 ^ 70/\∀ p,H p=none->Q (.ref p) (upd H p (.tup [.int (n / (Int.gcd n b:Nat)),.int (b / (Int.gcd n b:Nat))]))
theorem sc_greatest_divisor:FnScope ["number","bottom","divisor","rest","next_rest"] ["number","bottom"] (defScope s_greatest_divisor):=⟨rfl,rfl,rfl,by decide +kernel,rfl,by decide +kernel,by decide +kernel⟩
theorem ok_greatest_divisor (D:DefAt K mg "greatest_divisor" s_greatest_divisor ["number","bottom"] f fd):FnOk P w K mg base CX0 1 f fd ["number","bottom"] spGd:=by
 refine D.F.ok sc_greatest_divisor (fun vs H Q E h=>?_) (fun cdv A outer s H vs Q E hr h=>?_)
 ·obtain ⟨n,b,rfl,_⟩:=h;rfl
 ·obtain ⟨n,b,rfl,hb,k⟩:=h;refine ⟨_,(pss_cons (ps_set (i:=2) sc_greatest_divisor.nd rfl (Or.inl rfl) (pv 1))
   (pss_cons (ps_set (i:=3) sc_greatest_divisor.nd rfl (Or.inl rfl) (pe_op op_mod (pv 0) (pv 1)))
   (pss_cons (ps_while PassesOwn.never (pt_cmpR op_ne (pv 3) pe_int (nomark _)) (pss_cons (ps_set (i:=4) sc_greatest_divisor.nd rfl (Or.inl rfl) (pe_op op_mod (pv 2) (pv 3)))
   (pss_cons (ps_set (i:=2) sc_greatest_divisor.nd rfl (Or.inl rfl) (pv 3))
   (pss_one (ps_set (i:=3) sc_greatest_divisor.nd rfl (Or.inl rfl) (pv 4))))))
   (pss_one (ps_ret (pv 2)))))),?_⟩
  refine ⟨_,rfl,_,rfl,_,rfl,_,_,rfl,rfl,hb,?_⟩;refine ⟨fun m σ H'=>∃ (d r:Int) (x:Option V),σ=[some (.int n),some (.int b),some (.int d),some (.int r),x]/\H'=H/\0 < d/\0<=r/\Int.gcd d r=Int.gcd n b/\m=r.toNat,⟨_,b,n % b,none,rfl,rfl,hb,Int.emod_nonneg n (by omega),gcd_mod n b,rfl⟩,?_⟩;rintro m σ H' ⟨d,r,x,rfl,rfl,hd,hr0,hg,rfl⟩;refine ⟨_,rfl,rfl,_,rfl,?_⟩;by_cases c:r=0
  ·subst c;refine iteNS rfl ?_;refine ⟨_,rfl,?_⟩;have e:((Int.gcd n b:Nat):Int)=d:=by rw [<- hg]; exact gcd_end d (by omega)
   rw [<- e];exact k
  ·have e:(!decide (V.int r=V.int 0))=true:=by
    have z:¬ V.int r=V.int 0:=fun z=>c (V.int.inj z);rw [decide_eq_false z];rfl
   refine iteP e ?_;refine ⟨fun σ' H'=>∃ m',m' < r.toNat/\_,fun _ _ h=>h,?_⟩;refine ⟨_,rfl,_,rfl,_,_,rfl,rfl,(show (0:Int) < r by omega),_,rfl,_,rfl,?_⟩;have p:=Int.emod_lt_of_pos d (show (0:Int) < r by omega);have q:=Int.emod_nonneg d (show r ≠ 0 from c);refine ⟨(d % r).toNat,by omega,r,d % r,some (.int (d % r)),rfl,rfl,by omega,q,?_,rfl⟩;rw [gcd_mod d r];exact hg
theorem sc_fraction:FnScope ["top","bottom","divisor"] ["top","bottom"] (defScope s_fraction):=⟨rfl,rfl,rfl,by decide +kernel,rfl,by decide +kernel,by decide +kernel⟩
theorem ok_fraction {f1:Addr}{fd1:FuncData}(D:DefAt K mg "fraction" s_fraction ["top","bottom"] f fd)(D_greatest_divisor:DefAt K mg "greatest_divisor" s_greatest_divisor ["number","bottom"] f1 fd1):FnOk P w K mg base CX0 2 f fd ["top","bottom"] spFr:=by
 refine D.F.ok sc_fraction (fun vs H Q E h=>?_) (fun cdv A outer s H vs Q E hr h=>?_)
 ·obtain ⟨n,b,rfl,_⟩:=h;rfl
 ·obtain ⟨n,b,rfl,hb,hB,k⟩:=h;refine ⟨_,(pss_cons (ps_set (i:=2) sc_fraction.nd rfl (Or.inl rfl) (pc0 (ok_greatest_divisor D_greatest_divisor) hr D_greatest_divisor (pa_cons (pv 0) (pa_cons (pv 1) pa_nil))))
   (pss_one (ps_ret (pe_tup (pa_cons (pe_op op_fdivG (pv 0) (pv 2)) (pa_cons (pe_op op_fdivG (pv 1) (pv 2)) pa_nil)))))),?_⟩
  have g0:=gcd_pos (a:=n) hb;have g1:=gcd_le (a:=n) hb;have gB:((Int.gcd n b:Nat):Int).natAbs < 2 ^ 8000:=by
   have e:2 ^ 70<=2 ^ 8000:=Nat.pow_le_pow_right (by decide) (by decide);omega
  refine ⟨_,rfl,_,rfl,n,b,rfl,hb,?_⟩;refine ⟨_,rfl,_,rfl,_,_,rfl,rfl,CDivG.big g0 gB,_,rfl,_,rfl,_,_,rfl,rfl,CDivG.big g0 gB,sz_2,?_⟩;exact k
noncomputable abbrev KV1:=List (List Key × V)
noncomputable def keyC (c:Nat × Nat):List Key:=[.inl ((c.1:Nat):Int),.inl ((c.2:Nat):Int)]
theorem keyC_inj {c d:Nat × Nat}(h:keyC c=keyC d):c=d:=by
 unfold keyC at h;obtain ⟨a,b⟩:=c;obtain ⟨x,y⟩:=d;simp only [List.cons.injEq,Sum.inl.injEq,and_true] at h;obtain ⟨h1,h2⟩:=h;have e1:a=x:=by omega
 have e2:b=y:=by omega
 rw [e1,e2]
noncomputable def dig (kvs:KV1)(c:Nat × Nat)(k:Nat):Nat:=match valV kvs (keyC c) with
 | some (.int v)=>48 + v.toNat
 | _=>k
structure Nums (cs:List (Nat × Nat))(N:Nat)(kvs:KV1):Prop where
 vals:∀ kv ∈ kvs,∃ c ∈ cs,∃ v:Nat,v<=8/\kv.1=keyC c/\kv.2=V.int (v:Nat)
 nd:(kvs.map (·.1)).Nodup
 len:kvs.length<=N
theorem valV_mem {kvs:KV1}{k:List Key}{v:V}(h:valV kvs k=some v):(k,v) ∈ kvs:=by
 unfold valV at h;cases e:kvs.find? (fun kv=>decide (kv.1=k)) with
 | none =>
  rw [e] at h;cases h
 | some kv =>
  rw [e] at h;have h1:kv.2=v:=by simpa using h
  have h2:kv.1=k:=of_decide_eq_true (show decide (kv.1=k)=true from List.find?_some (p:=fun (kv:List Key × V)=>decide (kv.1=k)) e);have h3:=List.mem_of_find?_eq_some e;rw [<- h1,<- h2];exact h3
theorem Nums.at {cs:List (Nat × Nat)}{N:Nat}{kvs:KV1}(h:Nums cs N kvs)(c:Nat × Nat):valV kvs (keyC c)=none\/∃ v:Nat,v<=8/\c ∈ cs/\valV kvs (keyC c)=some (V.int (v:Nat)):=by
 cases e:valV kvs (keyC c) with
 | none=>exact .inl rfl
 | some v =>
  obtain ⟨c',hc,n,hn,e1,e2⟩:=h.vals _ (valV_mem e);have ec:=keyC_inj e1;subst ec;have e2':v=V.int (n:Nat):=e2;subst e2';exact .inr ⟨n,hn,hc,rfl⟩
noncomputable def putRow (kvs:KV1)(i:Nat)(t:List Nat):List Nat:=t.mapIdx fun j c=>dig kvs (i,j) c
noncomputable def putT (kvs:KV1)(i:Nat)(t:Str):Str:=⟨(putRow kvs i t.cps.toList).toArray⟩
noncomputable def putRs (kvs:KV1)(rs:List Str):List Str:=rs.mapIdx fun i t=>putT kvs i t
theorem putT_list (kvs:KV1)(i:Nat)(t:Str):(putT kvs i t).cps.toList=putRow kvs i t.cps.toList:=by
 show (putRow kvs i t.cps.toList).toArray.toList=_;rw [List.toList_toArray]
theorem str_ext {a b:Str}(h:a.cps.toList=b.cps.toList):a=b:=by
 obtain ⟨⟨x⟩⟩:=a;obtain ⟨⟨y⟩⟩:=b;have:x=y:=h;rw [this]
theorem putRs_at {kvs:KV1}{rs:List Str}{i:Nat}{t:Str}(h:rs[i]?=some t):(putRs kvs rs)[i]?=some (putT kvs i t):=by
 unfold putRs;rw [List.getElem?_mapIdx,h];rfl
theorem putRs_len (kvs:KV1)(rs:List Str):(putRs kvs rs).length=rs.length:=by
 unfold putRs;rw [List.length_mapIdx]
theorem putRow_at {kvs:KV1}{i j c:Nat}{t:List Nat}(h:t[j]?=some c):(putRow kvs i t)[j]?=some (dig kvs (i,j) c):=by
 unfold putRow;rw [List.getElem?_mapIdx,h];rfl
theorem dig_in:∀ v:Nat,v<=8->48 + v ∈ bd.cps.toList:=by decide +kernel
theorem Rows.put {cs:List (Nat × Nat)}{N:Nat}{kvs:KV1}(h:Nums cs N kvs){rs:List Str}(R:Rows bd.cps.toList rs):Rows bd.cps.toList (putRs kvs rs):=by
 obtain ⟨n,n1,n8,hr⟩:=R.ex;refine ⟨by rw [putRs_len]; exact R.lo,by rw [putRs_len]; exact R.hi,n,n1,n8,fun t ht=>?_⟩;obtain ⟨i,hi⟩:=List.getElem?_of_mem ht;cases e:rs[i]? with
 | none =>
  have h0:=List.getElem?_eq_none_iff.mp e;rw [List.getElem?_eq_none_iff.mpr (by rw [putRs_len]; exact h0)] at hi;cases hi
 | some u =>
  rw [putRs_at e] at hi;have eu:=Option.some.inj hi;subst eu;have ru:=hr u (List.mem_of_getElem? e);refine ⟨?_,fun c hc=>?_⟩
  ·rw [<- Array.length_toList,putT_list];unfold putRow;rw [List.length_mapIdx,Array.length_toList];exact ru.len
  ·rw [putT_list] at hc;obtain ⟨j,hj⟩:=List.getElem?_of_mem hc;cases e2:u.cps.toList[j]? with
   | none =>
    have h0:=List.getElem?_eq_none_iff.mp e2;rw [List.getElem?_eq_none_iff.mpr (by unfold putRow; rw [List.length_mapIdx]; exact h0)] at hj;cases hj
   | some k =>
    rw [putRow_at e2] at hj;have ec:=Option.some.inj hj;subst ec;unfold dig;rcases h.at (i,j) with e3 | ⟨v,hv,_,e3⟩
    ·rw [e3];exact ru.mem k (List.mem_of_getElem? e2)
    ·rw [e3];exact dig_in v hv
noncomputable def spOpened:Sp:=fun vs H Q _=>∃ (p l d:Addr) (rs:List Str) (n:Int) (cs:List (Nat × Nat)) (N:Nat) (kvs:KV1),vs=[.ref p,.ref d]/\BoardAt H p l rs n/\Rows bd.cps.toList rs/\H d=some (.dT kvs)/\Nums cs N kvs /\
 ∀ (q l2:Addr) (H':Hp),H q=none->H l2=none->BoardAt H' q l2 (putRs kvs rs) n->Same H H'->Q (.ref q) H'
theorem join_ones:∀ cs:List Nat,(Str.join "" (cs.map fun c=>(⟨#[c]⟩:Str))).cps.toList=cs
 | []=>rfl
 | [c]=>rfl
 | c :: e :: r=>by
  have h:(Str.join "" ((c :: e :: r).map fun c=>(⟨#[c]⟩:Str))).cps=#[c]++("":Str).cps++(Str.join "" ((e :: r).map fun c=>(⟨#[c]⟩:Str))).cps:=rfl;rw [h,Array.toList_append,Array.toList_append,join_ones (e :: r)];rfl
theorem putT_join (kvs:KV1)(i:Nat)(t:Str):Str.join "" ((putRow kvs i t.cps.toList).map fun c=>(⟨#[c]⟩:Str))=putT kvs i t:=str_ext (by rw [join_ones,putT_list])
theorem digit6:∀ d:Nat,d<=8->((toString (d:Int):String):Str)=⟨#[48 + d]⟩:=by decide +kernel
theorem sum_ones:∀ cs:List Nat,((cs.map fun c=>(⟨#[c]⟩:Str)).map (·.length)).sum=cs.length
 | []=>rfl
 | c :: r=>by
  rw [List.map_cons,List.map_cons,List.sum_cons,sum_ones r,List.length_cons];show 1 + r.length=_;omega
theorem take_snoc {α:Type}{xs:List α}{i:Nat}{x:α}(h:xs[i]?=some x):xs.take (i + 1)=xs.take i++[x]:=by
 rw [List.take_add_one,h];rfl
theorem sc_opened:FnScope ["board","numbers","rows","row","text","signs"] ["board","numbers"] (defScope s_opened):=⟨rfl,rfl,rfl,by decide +kernel,rfl,by decide +kernel,by decide +kernel⟩
theorem ok_opened (T:Txt mg)(D:DefAt K mg "opened" s_opened ["board","numbers"] f fd):FnOk P w K mg base CX0 1 f fd ["board","numbers"] spOpened:=by
 refine D.F.ok sc_opened (fun vs H Q E h=>?_) (fun cdv A outer s H vs Q E hr h=>?_)
 ·obtain ⟨p,l,d,rs,n,cs,N,kvs,rfl,_⟩:=h;rfl
 ·obtain ⟨p,l,d,rs,n,cs,N,kvs,rfl,b,R,hd,hN,q⟩:=h;refine ⟨_,(pss_cons (ps_set (i:=2) sc_opened.nd rfl (Or.inl rfl) (pe_lst pa_nil))
   (pss_cons (ps_for PassesOwn.never rfl (pi_enumL (by rfl) T.b_enumerate (pa_cons (pe_ix ix_tup (pv 0) pe_int (fun _ _=>rfl)) pa_nil)) (pg_tup rfl (pgs_cons (pg_name (i:=3) sc_opened.nd rfl (Or.inr rfl)) (pgs_cons (pg_name (i:=4) sc_opened.nd rfl (Or.inl rfl)) pgs_nil))) (pss_cons (ps_setC (i:=5) sc_opened.nd rfl rfl (N:=["column","sign","numbers","row"]) (src:=[none,none,some 1,some 3]) (CompOk.free (O:=(defScope s_opened).names) (XN:=["board","numbers","rows","row","text","signs"]) rfl rfl ⟨_,rfl⟩ rfl rfl (by decide +kernel) (by decide +kernel) (by decide +kernel) rfl (by decide +kernel)) rfl (pi_enumS (by rfl) T.b_enumerate (pa_cons (pv 4) pa_nil)) (fun _ _ _ _ _=>(pg_tupK (n:=2) (K:=K) (by rfl) rfl (pgs_cons (pg_name (i:=0) (by show List.Nodup (["column","sign","numbers","row"]:List Str); decide +kernel) rfl (Or.inl rfl)) (pgs_cons (pg_name (i:=1) (by show List.Nodup (["column","sign","numbers","row"]:List Str); decide +kernel) rfl (Or.inl rfl)) pgs_nil)))) (fun _ _ _ _ _=>pifs_nil) (fun _ _ _ _ _=>(pe_callTy call_str_is (by rfl) T.b_str PyProof.Rows.boot_str (pa_cons (pe_dget2 (u1 hr.units) (pv 2) (pe_tup (pa_cons (pv 3) (pa_cons (pv 0) pa_nil))) (pv 1) ⟨rfl,rfl,rfl,rfl⟩) pa_nil))))
   (pss_one (ps_expr (pe_bm PySem.F.plainAttrs_list PySem.F.slot_list_append PySem.F.type_list_append mt_append (pv 2) (pa_cons (pe_bm PySem.F.plainAttrs_str PySem.F.slot_str_join PySem.F.type_str_join mt_join pe_str (pa_cons (pv 5) pa_nil)) pa_nil))))))
   (pss_one (ps_ret (pe_tup (pa_cons (pv 2) (pa_cons (pe_ix ix_tup (pv 0) pe_int (fun _ _=>rfl)) pa_nil))))))),?_⟩
  refine ⟨sz_0,fun d0 hd0=>?_⟩;have s0:Same H (upd H d0 (.lst [])):=same_new hd0;have rhi:=R.hi;refine ⟨_,rfl,p,_,0,_,rfl,rfl,SqT.of (b.mono s0).tp,rfl,l,rfl,⟨_,SqL.of (b.mono s0).rw⟩,?_⟩;refine for_enumL (K:=K) (l:=l) (xs:=rs.map V.str) (fun i σ H'=>∃ (v3 v4 v5:Option V),σ=[some (.ref p),some (.ref d),some (.ref d0),v3,v4,v5]/\Same H H'/\H' d0=some (.lst (((putRs kvs rs).take i).map V.str)))
   ⟨_,_,_,rfl,s0,upd_same⟩ (fun i σ H' _ ⟨_,_,_,_,s1,_⟩=>SqL.of (b.mono s1).rw) ?_ ?_
  ·rintro i x tt σ H1 hx htt ⟨v3,v4,v5,rfl,s1,hd1⟩;rw [List.getElem?_map] at hx;cases e:rs[i]? with
   | none =>
    rw [e] at hx;cases hx
   | some t =>
    rw [e] at hx;cases hx;have tl8:t.cps.toList.length<=8:=R.short _ (List.mem_of_getElem? (codes_get e));have hil:i < rs.length:=(List.getElem?_eq_some_iff.mp e).1;have st:Same H1 (upd H1 tt (.tup [.int (i:Nat),.str t])):=same_new htt;refine ⟨tt,_,rfl,SqT.of upd_same,rfl,_,_,rfl,_,_,rfl,rfl,?_⟩;have s2:=s1.trans st;have hd2:=st _ _ hd1;generalize upd H1 tt (.tup [.int (i:Nat),.str t])=H2 at *
    refine ⟨_,rfl,t,rfl,fun z hz=>?_⟩;refine comp_enumS (x:=t) (fun j σ H'=>∃ (u0 u1:Option V),σ=[u0,u1,some (.ref d),some (.int (i:Nat))]/\Same H2 H'/\H' z=some (.lst (((putRow kvs i t.cps.toList).take j).map fun c=>V.str ⟨#[c]⟩))) ⟨_,_,rfl,same_new hz,upd_same⟩ ?_ ?_
    ·rintro j c t2 σ H3 hc ht2 ⟨u0,u1,rfl,s3,hz3⟩;have hc':t.cps.toList[j]?=some c:=by rw [Array.getElem?_toList]; exact hc
     refine ⟨t2,_,rfl,SqT.of upd_same,rfl,_,_,rfl,_,_,rfl,rfl,?_⟩;have s4:Same H3 (upd H3 t2 (.tup [.int (j:Nat),.str ⟨#[c]⟩])):=same_new ht2;have hd4:=s4 _ _ (s3 _ _ (s2 _ _ hd));have hz4:=s4 _ _ hz3;have s34:=s3.trans s4;generalize upd H3 t2 (.tup [.int (j:Nat),.str ⟨#[c]⟩])=H4 at *
     unfold tYes;refine iteT ⟨_,rfl,d,rfl,.inr ⟨kvs,.inl hd4⟩,_,rfl,_,rfl,sz_2,fun tp htp=>⟨_,rfl,valV kvs (keyC (i,j)),?_,?_⟩⟩
     ·exact DGet.t (k:=keyC (i,j)) (same_new htp _ _ hd4) upd_same
     have s5:=same_new (o:=.tup [.int (i:Nat),.int (j:Nat)]) htp;have fin:∀ k:Nat,k=dig kvs (i,j) c->∃ ys,upd H4 tp (.tup [.int (i:Nat),.int (j:Nat)]) z=some (.lst ys)/\ys.length < sizeLine/\∃ (u0 u1:Option V),[some (V.int (j:Nat)),some (V.str ⟨#[c]⟩),some (.ref d),some (.int (i:Nat))]=[u0,u1,some (.ref d),some (.int (i:Nat))]/\Same H2 (upd (upd H4 tp (.tup [.int (i:Nat),.int (j:Nat)])) z (.lst (ys++[V.str ⟨#[k]⟩])))/\upd (upd H4 tp (.tup [.int (i:Nat),.int (j:Nat)])) z (.lst (ys++[V.str ⟨#[k]⟩])) z=some (.lst (((putRow kvs i t.cps.toList).take (j + 1)).map fun c=>V.str ⟨#[c]⟩)):=fun k hk=>by
      refine ⟨_,s5 _ _ hz4,?_,_,_,rfl,fun b' o e'=>?_,?_⟩
      ·rw [List.length_map,List.length_take];unfold putRow;rw [List.length_mapIdx];exact Nat.lt_of_le_of_lt (show _<=8 by omega) (by decide)
      ·rw [upd_ne (ne_of_none e' hz)];exact s5 _ _ (s34 _ _ e')
      ·rw [upd_same,take_snoc (putRow_at hc'),List.map_append,hk];rfl
     rcases hN.at (i,j) with e3 | ⟨v,hv,_,e3⟩
     ·rw [e3];exact ⟨_,_,rfl,.inl rfl,fin c (by unfold dig; rw [e3])⟩
     ·rw [e3];refine ⟨_,⟨#[48 + v]⟩,rfl,.inr ⟨(v:Nat),rfl,?_,(digit6 v hv).symm⟩,fin (48 + v) (by unfold dig; rw [e3]; rfl)⟩;have:∀ v:Nat,v<=8->((v:Nat):Int).natAbs.log2 < 1920:=by decide +kernel
      exact this v hv
    ·rintro σ H3 ⟨u0,u1,rfl,s3,hz3⟩;have ez:(putRow kvs i t.cps.toList).take t.cps.size=putRow kvs i t.cps.toList:=List.take_of_length_le (by unfold putRow; rw [List.length_mapIdx,Array.length_toList]; exact Nat.le_refl _);rw [ez] at hz3;have hz3':H3 z=some (.lst (((putRow kvs i t.cps.toList).map fun c=>(⟨#[c]⟩:Str)).map V.str)):=by
      rw [hz3,List.map_map];rfl
     have pl:(putRow kvs i t.cps.toList).length<=8:=by
      unfold putRow;rw [List.length_mapIdx];exact tl8
     refine ⟨_,rfl,.inl ⟨rfl,_,SqL.of (s3 _ _ hd2)⟩,rfl,_,rfl,"",z,_,rfl,rfl,SqL.of hz3',?_,d0,_,_,rfl,rfl,s3 _ _ hd2,?_,?_⟩
     ·rw [sum_ones,List.length_map];have:("":Str).length=0:=rfl;rw [this];omega
     ·rw [List.length_map,List.length_take,putRs_len];exact Nat.lt_of_le_of_lt (show _<=8 by omega) (by decide)
     ·rw [putT_join];refine ⟨_,_,_,rfl,fun b' o e'=>?_,?_⟩
      ·rw [upd_ne (ne_of_none e' hd0)];exact s3 _ _ (s2 _ _ e')
      ·rw [upd_same,take_snoc (putRs_at e),List.map_append];rfl
  ·rintro σ H1 ⟨v3,v4,v5,rfl,s1,hd1⟩;rw [List.length_map,<- putRs_len kvs rs,List.take_length] at hd1;refine ⟨_,rfl,_,rfl,p,_,1,_,rfl,rfl,SqT.of (b.mono s1).tp,rfl,sz_2,fun q2 hq2=>?_⟩;have s2:=same_new (o:=.tup [.ref d0,.int n]) hq2;exact q q2 d0 _ (s1.free hq2) hd0 ⟨upd_same,s2 _ _ hd1⟩ (s1.trans s2)
noncomputable def inL (k:List (Int × Int))(c:Int × Int):Bool:=k.any fun z=>decide (z=c)
noncomputable def nearN (rs:List Str)(c:Nat × Nat)(k:List (Int × Int)):Nat:=(k.filter fun p=>((aroundC rs c).map toI).any fun z=>decide (z=p)).length
structure Grps (N:Addr->Prop)(H:Hp)(kvs:List (Key × V))(gs:List (Int × Addr × List V)):Prop where
 e:kvs=gs.map fun g=>((Sum.inl g.1:Key),V.ref g.2.1)
 pl:∀ g ∈ gs,N g.2.1/\H g.2.1=some (.lst g.2.2)
 ap:(gs.map (·.2.1)).Nodup
 nd:(gs.map (·.1)).Nodup
noncomputable def sumG (gs:List (Int × Addr × List V)):Nat:=(gs.map fun g=>g.2.2.length).sum
theorem Grps.mono {N:Addr->Prop}{H H':Hp}{kvs:List (Key × V)}{gs:List (Int × Addr × List V)}(s:Same H H')(h:Grps N H kvs gs):Grps N H' kvs gs:=⟨h.e,fun g hg=>⟨(h.pl g hg).1,s _ _ (h.pl g hg).2⟩,h.ap,h.nd⟩
theorem Grps.off {N:Addr->Prop}{H:Hp}{kvs:List (Key × V)}{gs:List (Int × Addr × List V)}{d:Addr}{o:HO}(h:Grps N H kvs gs)(hn:∀ a,N a->a ≠ d):Grps N (upd H d o) kvs gs :=
 ⟨h.e,fun g hg=>⟨(h.pl g hg).1,by rw [upd_ne (hn _ (h.pl g hg).1)]; exact (h.pl g hg).2⟩,h.ap,h.nd⟩
theorem Grps.grow {N:Addr->Prop}{H:Hp}{kvs:List (Key × V)}{A B:List (Int × Addr × List V)}{g:Int × Addr × List V}{x:V}(h:Grps N H kvs (A++g :: B)):Grps N (upd H g.2.1 (.lst (g.2.2++[x]))) kvs (A++(g.1,g.2.1,g.2.2++[x]) :: B):=by
 have hp:=h.ap;rw [List.map_append,List.map_cons] at hp;have hA:∀ a ∈ A,a.2.1 ≠ g.2.1:=fun a ha e=>(List.nodup_append.mp hp).2.2 a.2.1 (List.mem_map.mpr ⟨a,ha,rfl⟩) g.2.1 (List.mem_cons_self ..) e;have hB:∀ b ∈ B,b.2.1 ≠ g.2.1:=fun b hb e=>(List.nodup_cons.mp (List.nodup_append.mp hp).2.1).1 (e ▸ List.mem_map.mpr ⟨b,hb,rfl⟩);refine ⟨?_,fun y hy=>?_,?_,?_⟩
 ·rw [h.e,List.map_append,List.map_append,List.map_cons,List.map_cons]
 ·rcases List.mem_append.mp hy with m | m
  ·have:=h.pl y (List.mem_append.mpr (.inl m));exact ⟨this.1,by rw [upd_ne (hA y m)]; exact this.2⟩
  ·rcases List.mem_cons.mp m with rfl | m
   ·exact ⟨(h.pl g (List.mem_append.mpr (.inr (List.mem_cons_self ..)))).1,upd_same⟩
   ·have:=h.pl y (List.mem_append.mpr (.inr (List.mem_cons_of_mem _ m)));exact ⟨this.1,by rw [upd_ne (hB y m)]; exact this.2⟩
 ·have:=h.ap;rw [List.map_append,List.map_cons] at this ⊢;exact this
 ·have:=h.nd;rw [List.map_append,List.map_cons] at this ⊢;exact this
theorem Grps.add {N:Addr->Prop}{H:Hp}{kvs:List (Key × V)}{gs:List (Int × Addr × List V)}{m:Int}{e0:Addr}{x:V}(h:Grps N H kvs gs)(he:H e0=some (.lst []))(hne:∀ g ∈ gs,g.2.1 ≠ e0)(hn:N e0)(nm:m ∉ gs.map (·.1)):Grps N (upd H e0 (.lst [x])) (kvs++[((Sum.inl m:Key),V.ref e0)]) (gs++[(m,e0,[x])]):=by
 refine ⟨?_,fun y hy=>?_,?_,?_⟩
 ·rw [h.e,List.map_append];rfl
 ·rcases List.mem_append.mp hy with q | q
  ·have:=h.pl y q;exact ⟨this.1,by rw [upd_ne (hne y q)]; exact this.2⟩
  ·rw [List.mem_singleton.mp q];exact ⟨hn,upd_same⟩
 ·rw [List.map_append];refine List.nodup_append.mpr ⟨h.ap,List.nodup_cons.mpr ⟨List.not_mem_nil,.nil⟩,fun a ha b hb=>?_⟩;obtain ⟨g,hg,rfl⟩:=List.mem_map.mp ha;rw [List.mem_singleton.mp hb];exact hne g hg
 ·rw [List.map_append];refine List.nodup_append.mpr ⟨h.nd,List.nodup_cons.mpr ⟨List.not_mem_nil,.nil⟩,fun a ha b hb=>?_⟩;rw [List.mem_singleton.mp hb];intro e;have e2:a=m:=e;exact nm (e2 ▸ ha)
theorem gs_val:∀ {gs:List (Int × Addr × List V)} {m:Int} {v:V},valV (gs.map fun g=>((Sum.inl g.1:Key),V.ref g.2.1)) (Sum.inl m)=some v->∃ A g B,gs=A++g :: B/\g.1=m/\v=V.ref g.2.1
 | [],m,v,h=>by cases h
 | g :: r,m,v,h=>by
  by_cases e:g.1=m
  ·rw [List.map_cons,valV_pos (by rw [e])] at h;cases h;exact ⟨[],g,r,rfl,e,rfl⟩
  ·rw [List.map_cons,valV_neg (fun h=>e (Sum.inl.inj h))] at h;obtain ⟨A,g2,B,e1,e2,e3⟩:=gs_val h;exact ⟨g :: A,g2,B,by rw [e1]; rfl,e2,e3⟩
theorem gs_none:∀ {gs:List (Int × Addr × List V)} {m:Int},valV (gs.map fun g=>((Sum.inl g.1:Key),V.ref g.2.1)) (Sum.inl m)=none->m ∉ gs.map (·.1)
 | [],m,h=>by simp
 | g :: r,m,h=>by
  by_cases e:g.1=m
  ·rw [List.map_cons,valV_pos (by rw [e])] at h;cases h
  ·rw [List.map_cons,valV_neg (fun h=>e (Sum.inl.inj h))] at h;have:=gs_none h;rw [List.map_cons,List.mem_cons,not_or];exact ⟨fun x=>e x.symm,this⟩
theorem le_sumG:∀ {gs:List (Int × Addr × List V)} {g:Int × Addr × List V},g ∈ gs->g.2.2.length<=sumG gs
 | a :: r,g,h=>by
  have e:sumG (a :: r)=a.2.2.length + sumG r:=by
   unfold sumG;rw [List.map_cons,List.sum_cons]
  rcases List.mem_cons.mp h with rfl | h
  ·omega
  ·have:=le_sumG h;omega
theorem sumG_app (A B:List (Int × Addr × List V)):sumG (A++B)=sumG A + sumG B:=by
 unfold sumG;rw [List.map_append,List.sum_append]
theorem sumG_cons (g:Int × Addr × List V)(B:List (Int × Addr × List V)):sumG (g :: B)=g.2.2.length + sumG B:=by
 unfold sumG;rw [List.map_cons,List.sum_cons]
noncomputable def cndK (rs:List Str)(c:Nat × Nat)(m:Int)(k:List (Int × Int)):Bool:=!inL k (toI c) && decide (((nearN rs c k:Nat):Int)=m)
noncomputable def grpK (rs:List Str)(c:Nat × Nat)(ks:List (List (Int × Int)))(m:Int):List (List (Int × Int)):=ks.filter (cndK rs c m)
noncomputable def selV {α:Type}(ws:List V)(ks:List α)(p:α->Bool):List V:=((ws.zip ks).filter fun z=>p z.2).map (·.1)
theorem selV_step {α:Type}{ws:List V}{ks:List α}{p:α->Bool}{i:Nat}{v:V}{k:α}(hv:ws[i]?=some v)(hk:ks[i]?=some k):selV (ws.take (i + 1)) (ks.take (i + 1)) p=selV (ws.take i) (ks.take i) p++if p k=true then [v] else []:=by
 unfold selV;have hi:=(List.getElem?_eq_some_iff.mp hv).1;have hj:=(List.getElem?_eq_some_iff.mp hk).1;have e:(ws.take (i + 1)).zip (ks.take (i + 1))=(ws.take i).zip (ks.take i)++[(v,k)]:=by
  rw [List.take_add_one,List.take_add_one,hv,hk];exact List.zip_append (by rw [List.length_take,List.length_take]; omega)
 rw [e,List.filter_append,List.map_append];congr 1;by_cases h:p k=true
 ·rw [if_pos h,List.filter_cons,if_pos h];rfl
 ·rw [if_neg h,List.filter_cons,if_neg h];rfl
theorem selV_none {α:Type}:∀ {ws:List V} {ks:List α} {p:α->Bool},(∀ k ∈ ks,p k=false)->selV ws ks p=[]
 | [],_,_,_=>rfl
 | _ :: _,[],_,_=>rfl
 | v :: ws,k :: ks,p,h=>by
  unfold selV;rw [List.zip_cons_cons,List.filter_cons,if_neg (by show ¬ p k=true; rw [h k List.mem_cons_self]; decide)];exact selV_none fun x hx=>h x (List.mem_cons_of_mem _ hx)
theorem lists_sel {N:Addr->Prop}{H:Hp}{ws:List V}{ks:List (List (Int × Int))}(p:List (Int × Int)->Bool)(h:Lists N H ws ks):Lists N H (selV ws ks p) (ks.filter p):=by
 induction h with
 | nil=>exact .nil
 | @cons v k ws ks q _ ih =>
  unfold selV;rw [List.zip_cons_cons,List.filter_cons,List.filter_cons];by_cases hp:p k=true
  ·rw [if_pos hp,if_pos hp];exact .cons q ih
  ·rw [if_neg hp,if_neg hp];exact ih
theorem selV_len {α:Type}(ws:List V)(ks:List α)(p:α->Bool):(selV ws ks p).length<=ws.length:=by
 unfold selV;rw [List.length_map];refine Nat.le_trans (List.length_filter_le _ _) ?_;rw [List.length_zip];omega
noncomputable def spApart:Sp:=fun vs H Q _=>∃ (p l fa ca:Addr) (rs:List Str) (n:Int) (c:Nat × Nat) (ws:List V) (ks:List (List (Int × Int))) (N0:Addr->Prop),vs=[.ref p,.ref fa,.ref ca]/\BoardAt H p l rs n/\Rows bd.cps.toList rs/\H ca=some (.tup [.int (c.1:Nat),.int (c.2:Nat)])/\c.1 < 64/\c.2 < 64 /\
 H fa=some (.lst ws)/\Lists N0 H ws ks/\(∀ k ∈ ks,k.length<=64)/\ws.length<=100000 /\
 ∀ (d:Addr) (kvs:List (Key × V)) (gs:List (Int × Addr × List V)) (H':Hp),H d=none->H' d=some (.dK kvs)->Grps (fun a=>H a=none) H' kvs gs->gs.length<=ws.length->sumG gs=(ks.filter fun k=>!inL k (toI c)).length ->
  (∀ m:Int,m ∈ gs.map (·.1) ↔ ∃ k ∈ ks,inL k (toI c)=false/\m=(nearN rs c k:Nat))->(∀ g ∈ gs,g.2.2=selV ws ks (cndK rs c g.1))->Same H H'->Q (.ref d) H'
theorem sc_told_apart:FnScope ["board","found","cell","near","groups","laying","number"] ["board","found","cell"] (defScope s_told_apart):=⟨rfl,rfl,rfl,by decide +kernel,rfl,by decide +kernel,by decide +kernel⟩
theorem ok_told_apart {f1:Addr}{fd1:FuncData}(T:Txt mg)(D:DefAt K mg "told_apart" s_told_apart ["board","found","cell"] f fd)(D_around:DefAt K mg "around" s_around ["board","cell"] f1 fd1):FnOk P w K mg base CX0 2 f fd ["board","found","cell"] spApart:=by
 refine D.F.ok sc_told_apart (fun vs H Q E h=>?_) (fun cdv A outer s H vs Q E hr h=>?_)
 ·obtain ⟨p,l,fa,ca,rs,n,c,ws,ks,N0,rfl,_⟩:=h;rfl
 ·obtain ⟨p,l,fa,ca,rs,n,c,ws,ks,N0,rfl,b,R,hca,c1,c2,hfa,hL,h64,wl,q⟩:=h;refine ⟨_,(pss_cons (ps_set (i:=3) sc_told_apart.nd rfl (Or.inr rfl) (pc0 (ok_around T D_around) hr D_around (pa_cons (pv 0) (pa_cons (pv 2) pa_nil))))
   (pss_cons (ps_set (i:=4) sc_told_apart.nd rfl (Or.inl rfl) pe_dnewK)
   (pss_cons (ps_for PassesOwn.never rfl (pi_list (pv 1)) (pg_name (i:=5) sc_told_apart.nd rfl (Or.inl rfl)) (pss_one (ps_if (pt_cmpR (op_notIn_deep hr.units) (pv 2) (pv 5) (by rfl)) (pss_cons (ps_set (i:=6) sc_told_apart.nd rfl (Or.inl rfl) (pe_callB call_len_seq (by rfl) T.b_len PySem.boot_len (pa_cons (pe_comp (N:=["place","near"]) (src:=[none,some 3]) (CompOk.free (O:=(defScope s_told_apart).names) (XN:=["board","found","cell","near","groups","laying","number"]) rfl rfl ⟨_,rfl⟩ rfl rfl (by decide +kernel) (by decide +kernel) (by decide +kernel) rfl (by decide +kernel)) rfl (pi_list (pv 5)) (fun _ _ _ _ _=>(pg_name (i:=0) (by show List.Nodup (["place","near"]:List Str); decide +kernel) rfl (Or.inl rfl))) (fun _ _ _ _ _=>(pifs_one (pt_cmpR (op_in_deepK (K:=K) (by rfl) hr.units) (pv 0) (pv 1) (by rfl)))) (fun _ _ _ _ _=>(pv 0))) pa_nil)))
   (pss_one (ps_expr (pe_bm PySem.F.plainAttrs_list PySem.F.slot_list_append PySem.F.type_list_append mt_append (pe_bm PySem.F.plainAttrs_dict PySem.F.slot_dict_setdefault PySem.F.type_dict_setdefault mt_setdef (pv 4) (pa_cons (pv 6) (pa_cons (pe_lst pa_nil) pa_nil))) (pa_cons (pv 5) pa_nil))))) pss_nil)))
   (pss_one (ps_ret (pv 4)))))),?_⟩
  refine ⟨_,rfl,_,rfl,p,l,ca,rs,n,c.1,c.2,rfl,b,R,hca,c1,c2,fun na wn H1 hna hna1 hcn s1=>?_⟩;refine fun d hd=>?_;have s2:=same_new (o:=.dK []) hd;refine ⟨_,rfl,fa,rfl,⟨_,SqL.of (s2 _ _ (s1 _ _ hfa))⟩,?_⟩;refine for_list (K:=K) (a:=fa) (xs:=ws) (fun i σ H'=>∃ (kvs:List (Key × V)) (gs:List (Int × Addr × List V)) (v5 v6:Option V),σ=[some (.ref p),some (.ref fa),some (.ref ca),some (.ref na),some (.ref d),v5,v6]/\Same H1 H'/\H' d=some (.dK kvs)/\Grps (fun a=>H1 a=none/\a ≠ d) H' kvs gs/\gs.length<=i/\sumG gs=((ks.take i).filter fun k=>!inL k (toI c)).length/\(∀ m:Int,m ∈ gs.map (·.1) ↔ ∃ k ∈ ks.take i,inL k (toI c)=false/\m=(nearN rs c k:Nat))/\(∀ g ∈ gs,g.2.2=selV (ws.take i) (ks.take i) (cndK rs c g.1)))
   ⟨[],[],_,_,rfl,s2,upd_same,⟨rfl,fun g h=>(nomatch h),.nil,.nil⟩,Nat.le_refl _,rfl,(fun m=>by simp),fun g h=>(nomatch h)⟩ (fun i σ H' _ ⟨_,_,_,_,_,s3,_⟩=>SqL.of (s3 _ _ (s1 _ _ hfa))) ?_ ?_
  ·rintro i x σ H2 hx ⟨kvs,gs,v5,v6,rfl,s3,hd3,hG,gl,hs,hm,hsel⟩;obtain ⟨k,a,us,hk,rfl,an,ha,tw⟩:=lists_at hL hx;have tj:ks.take (i + 1)=ks.take i++[k]:=by
    rw [List.take_add_one,hk];rfl
   have s13:=s1.trans s3;have sst:∀ m:Int,selV (ws.take (i + 1)) (ks.take (i + 1)) (cndK rs c m)=selV (ws.take i) (ks.take i) (cndK rs c m)++if cndK rs c m k=true then [V.ref a] else []:=fun m=>selV_step hx hk
   have tw2:Tup2 H2 us k:=tup2_mono s13 tw;refine ⟨_,rfl,_,rfl,cData c,k.map pD,CelR.rdv ⟨ca,rfl,s13 _ _ hca⟩,.lst (SqL.of (s13 _ _ ha)) (tup2_rdv tw2),rfl,p_lays _,(by show 1<=60; decide),_,rfl,?_⟩;have ei:(if true=true then !(k.map pD).any (fun z=>PyData.eqv z (cData c)) else (k.map pD).any fun z=>PyData.eqv z (cData c))=!inL k (toI c):=by
    show (!(k.map pD).any (fun z=>PyData.eqv z (cData c)))=_;rw [in_prc];rfl
   rw [ei];have il:i < ws.length:=(List.getElem?_eq_some_iff.mp hx).1;by_cases hin:inL k (toI c)=true
   ·refine iteN (by rw [hin]; rfl) ?_;refine ⟨kvs,gs,_,_,rfl,s3,hd3,hG,by omega,?_,fun m=>?_,fun g hg=>?_⟩
    ·rw [tj,List.filter_append,List.length_append,hs];simp [hin]
    ·rw [hm,tj];constructor
     ·rintro ⟨y,hy,e⟩;exact ⟨y,List.mem_append.mpr (.inl hy),e⟩
     ·rintro ⟨y,hy,e1,e2⟩;rcases List.mem_append.mp hy with hy | hy
      ·exact ⟨y,hy,e1,e2⟩
      ·rw [List.mem_singleton.mp hy,hin] at e1;cases e1
    ·rw [sst,hsel g hg];unfold cndK;rw [hin];simp
   have hf:inL k (toI c)=false:=Bool.eq_false_iff.mpr hin;refine iteP (by rw [hf]; rfl) ?_;refine ⟨_,rfl,a,rfl,⟨_,SqL.of (s13 _ _ ha)⟩,fun z hz=>?_⟩;refine comp_list (K:=K) (a:=a) (xs:=us) (fun j σ' H'=>∃ (u0:Option V) (ys:List V),σ'=[u0,some (.ref na)]/\Same H2 H'/\H' z=some (.lst ys)/\ys.length=((k.take j).filter fun p=>((aroundC rs c).map toI).any fun z=>decide (z=p)).length)
    ⟨_,[],rfl,same_new hz,upd_same,rfl⟩ (fun j σ' H' _ ⟨_,_,_,s4,_⟩=>SqL.of (s4 _ _ (s13 _ _ ha))) ?_ ?_
   ·rintro j v σ' H3 hv ⟨u0,ys,rfl,s4,hz4,yl⟩;obtain ⟨e,he,rp⟩:=tup2_get (tup2_mono s4 tw2) hv;have tk:k.take (j + 1)=k.take j++[e]:=by
     rw [List.take_add_one,he];rfl
    have hcn3:=Cel.tup2 (hcn.mono (s3.trans s4));refine ⟨_,rfl,_,rfl,pD e,((aroundC rs c).map toI).map pD,rp.rdv,.lst (SqL.of (s4 _ _ (s3 _ _ hna1))) (tup2_rdv hcn3),rfl,p_lays _,(by show 1<=60; decide),_,rfl,?_⟩;have ei:(if false=true then !(((aroundC rs c).map toI).map pD).any (fun z=>PyData.eqv z (pD e)) else (((aroundC rs c).map toI).map pD).any fun z=>PyData.eqv z (pD e))=((aroundC rs c).map toI).any fun z=>decide (z=e):=in_prs _ _;rw [ei];have ul:us.length<=64:=by
     rw [tup2_len tw];exact h64 k (List.mem_of_getElem? hk)
    have yl2:ys.length<=64:=by
     rw [yl];refine Nat.le_trans (List.length_filter_le _ _) ?_;rw [List.length_take,<- tup2_len tw];omega
    by_cases hp:(((aroundC rs c).map toI).any fun z=>decide (z=e))=true
    ·refine iteP hp ⟨_,rfl,ys,hz4,Nat.lt_of_le_of_lt yl2 (by decide),_,ys++[v],rfl,fun b o ee=>?_,upd_same,?_⟩
     ·rw [upd_ne (ne_of_none ee hz)];exact s4 _ _ ee
     ·rw [tk,List.filter_append,List.length_append,List.length_append,yl];simp only [List.filter_cons,hp,if_true,List.filter_nil,List.length_cons,List.length_nil]
    ·refine iteN (Bool.eq_false_iff.mpr hp) ⟨_,ys,rfl,s4,hz4,?_⟩;rw [tk,List.filter_append,List.length_append,yl];simp only [List.filter_cons,if_neg hp,List.filter_nil,List.length_nil,Nat.add_zero]
   ·rintro σ' H3 ⟨u0,ys,rfl,s4,hz4,yl⟩;rw [tup2_len tw,List.take_length] at yl;have yn:ys.length=nearN rs c k:=yl;refine ⟨z,ys,rfl,.inl (SqL.of hz4),?_⟩;rw [yn];have s14:=s13.trans s4;have hd4:H3 d=some (.dK kvs):=s4 _ _ hd3;have hG4:=hG.mono s4;have step:((ks.take (i + 1)).filter fun k=>!inL k (toI c)).length=((ks.take i).filter fun k=>!inL k (toI c)).length + 1:=by
     rw [tj,List.filter_append,List.length_append];simp [hf]
    have memS:∀ m:Int,(∃ y ∈ ks.take (i + 1),inL y (toI c)=false/\m=(nearN rs c y:Nat)) ↔ (m ∈ gs.map (·.1)\/m=(nearN rs c k:Nat)):=fun m=>by
     rw [hm,tj];constructor
     ·rintro ⟨y,hy,e1,e2⟩;rcases List.mem_append.mp hy with hy | hy
      ·exact .inl ⟨y,hy,e1,e2⟩
      ·exact .inr (by rw [List.mem_singleton.mp hy] at e2; exact e2)
     ·rintro (⟨y,hy,e⟩ | e)
      ·exact ⟨y,List.mem_append.mpr (.inl hy),e⟩
      ·exact ⟨k,List.mem_append.mpr (.inr (List.mem_singleton.mpr rfl)),hf,e⟩
    have gsz:sumG gs<=100000:=by
     rw [hs];refine Nat.le_trans (List.length_filter_le _ _) ?_;rw [List.length_take];omega
    refine ⟨_,rfl,.inr (.inr (.inl ⟨rfl,.inl ⟨kvs,hd4⟩⟩)),_,rfl,sz_0,fun e0 he0=>?_⟩;have s5:=same_new (o:=.lst []) he0;have ed:d ≠ e0:=ne_of_none hd4 he0;have hd5:upd H3 e0 (.lst []) d=some (.dK kvs):=s5 _ _ hd4;have kl:kvs.length < sizeLine:=by
     rw [hG.e,List.length_map];exact Nat.lt_of_le_of_lt (show gs.length<=100000 by omega) (by decide)
    refine ⟨d,kvs,.inl ((nearN rs c k:Nat):Int),.ref e0,rfl,rfl,hd5,kl,fun v hv=>?_,fun hn=>?_⟩
    ·rw [hG.e] at hv;obtain ⟨A,g,B,eg,e1,rfl⟩:=gs_val hv;subst eg;have hgm:g ∈ A++g :: B:=List.mem_append.mpr (.inr (List.mem_cons_self ..));have hg5:=(hG4.mono s5).pl g hgm;have gz:=le_sumG hgm;refine ⟨.inl ⟨rfl,_,SqL.of hg5.2⟩,_,rfl,g.2.1,g.2.2,.ref a,rfl,rfl,hg5.2,Nat.lt_of_le_of_lt (Nat.le_trans gz gsz) (by decide),?_⟩;refine ⟨kvs,_,_,_,rfl,fun b o ee=>?_,?_,(hG4.mono s5).grow,?_,?_,fun m=>?_,fun g' hg'=>?_⟩
     ·rw [upd_ne (ne_of_none ee hg5.1.1)];exact s5 _ _ (s4 _ _ (s3 _ _ ee))
     ·rw [upd_ne (fun e=>hg5.1.2 e.symm)];exact hd5
     ·simp only [List.length_append,List.length_cons] at gl ⊢;omega
     ·rw [step,<- hs,sumG_app,sumG_app,sumG_cons,sumG_cons];simp only [List.length_append,List.length_cons,List.length_nil];omega
     ·rw [memS];have em:(A++(g.1,g.2.1,g.2.2++[V.ref a]) :: B).map (·.1)=(A++g :: B).map (·.1):=by
       simp only [List.map_append,List.map_cons]
      rw [em];constructor
      ·exact .inl
      ·rintro (h | h)
       ·exact h
       ·rw [h,<- e1];exact List.mem_map.mpr ⟨g,hgm,rfl⟩
     ·have hk2:=hG.nd;rw [List.map_append,List.map_cons] at hk2;have cT:∀ m:Int,m=((nearN rs c k:Nat):Int)->cndK rs c m k=true:=fun m e=>by
       unfold cndK;rw [hf,e];simp
      have cF:∀ m:Int,m ≠ ((nearN rs c k:Nat):Int)->cndK rs c m k=false:=fun m e=>by
       unfold cndK;rw [hf,decide_eq_false (fun z=>e z.symm)];rfl
      rcases List.mem_append.mp hg' with m1 | m1
      ·have e2:g'.1 ≠ ((nearN rs c k:Nat):Int):=fun e=>(List.nodup_append.mp hk2).2.2 g'.1 (List.mem_map.mpr ⟨g',m1,rfl⟩) g.1 (List.mem_cons_self ..) (e.trans e1.symm);rw [sst,cF _ e2,hsel g' (List.mem_append.mpr (.inl m1))];simp
      ·rcases List.mem_cons.mp m1 with rfl | m1
       ·show g.2.2++[V.ref a]=_;rw [sst,cT _ e1,hsel g hgm];simp
       ·have e2:g'.1 ≠ ((nearN rs c k:Nat):Int):=fun e=>(List.nodup_cons.mp (List.nodup_append.mp hk2).2.1).1 (by rw [e1,<- e]; exact List.mem_map.mpr ⟨g',m1,rfl⟩);rw [sst,cF _ e2,hsel g' (List.mem_append.mpr (.inr (List.mem_cons_of_mem _ m1)))];simp
    ·have nm:((nearN rs c k:Nat):Int) ∉ gs.map (·.1):=by
      rw [hG.e] at hn;exact gs_none hn
     rw [putK_new _ hn];have e5:upd (upd H3 e0 (.lst [])) d (.dK (kvs++[(Sum.inl ((nearN rs c k:Nat):Int),V.ref e0)])) e0=some (.lst []):=by
      rw [upd_ne (Ne.symm ed),upd_same]
     have hf0:H1 e0=none:=(s3.trans s4).free he0;refine ⟨.inl ⟨rfl,_,SqL.of e5⟩,_,rfl,e0,[],.ref a,rfl,rfl,e5,(by decide),?_⟩;refine ⟨_,_,_,_,rfl,fun b o ee=>?_,?_,Grps.add ((hG4.mono s5).off fun a h=>h.2) e5 (fun g hg e=>?_) ⟨hf0,Ne.symm ed⟩ nm,?_,?_,fun m=>?_,fun g' hg'=>?_⟩
     ·rw [upd_ne (ne_of_none ee hf0),upd_ne (ne_of_none ee hd)];exact s5 _ _ (s4 _ _ (s3 _ _ ee))
     ·rw [upd_ne ed];exact upd_same
     ·have:=(hG4.pl g hg).2;rw [e,he0] at this;cases this
     ·simp only [List.length_append,List.length_cons,List.length_nil];omega
     ·rw [step,<- hs,sumG_app];rfl
     ·rw [memS,List.map_append,List.mem_append];exact or_congr Iff.rfl List.mem_singleton
     ·rcases List.mem_append.mp hg' with m1 | m1
      ·have e2:g'.1 ≠ ((nearN rs c k:Nat):Int):=fun e=>nm (e ▸ List.mem_map.mpr ⟨g',m1,rfl⟩);have cF:cndK rs c g'.1 k=false:=by
        unfold cndK;rw [hf,decide_eq_false (fun z=>e2 z.symm)];rfl
       rw [sst,cF,hsel g' m1];simp
      ·rw [List.mem_singleton.mp m1];have cT:cndK rs c ((nearN rs c k:Nat):Int) k=true:=by
        unfold cndK;rw [hf];simp
       have e0':selV (ws.take i) (ks.take i) (cndK rs c ((nearN rs c k:Nat):Int))=[]:=selV_none fun y hy=>by
        cases hc:cndK rs c ((nearN rs c k:Nat):Int) y with
        | false=>rfl
        | true =>
         unfold cndK at hc;rw [Bool.and_eq_true,Bool.not_eq_true',decide_eq_true_eq] at hc;exact absurd ((hm _).mpr ⟨y,hy,hc.1,hc.2.symm⟩) nm
       show [V.ref a]=_;rw [sst,cT,e0'];rfl
  ·rintro σ H2 ⟨kvs,gs,v5,v6,rfl,s3,hd3,hG,gl,hs,hm,hsel⟩;rw [lists_len hL,List.take_length] at hs hm hsel;rw [<- lists_len hL,List.take_length] at hsel;exact ⟨_,rfl,q d kvs gs H2 (s1.free hd) hd3 ⟨hG.e,fun g h=>⟨s1.free (hG.pl g h).1.1,(hG.pl g h).2⟩,hG.ap,hG.nd⟩ gl hs hm hsel (s1.trans s3)⟩
noncomputable def fullAll (ks:List (List (Int × Int)))(cs:List (Nat × Nat)):Bool:=ks.all fun k=>cs.all fun c=>inL k (toI c)
noncomputable def spFull:Sp:=fun vs H Q _=>∃ (fa ca:Addr) (ws us:List V) (ks:List (List (Int × Int))) (cs:List (Nat × Nat)) (N0:Addr->Prop),vs=[.ref fa,.ref ca]/\H fa=some (.lst ws)/\Lists N0 H ws ks/\ws.length<=100000/\H ca=some (.lst us)/\Cel H us cs/\us.length<=100000 /\
 ∀ H',Same H H'->Q (.bl (fullAll ks cs)) H'
theorem yes_if {σ:St}{H:Hp}{A B:Hp->Prop}(h:A H):tYes σ H fun b H4=>if b=true then A H4 else B H4:=by
 show if true=true then A H else B H
 rw [if_pos rfl];exact h
theorem sc_all_full:FnScope ["found","cells"] ["found","cells"] (defScope s_all_full):=⟨rfl,rfl,rfl,by decide +kernel,rfl,by decide +kernel,by decide +kernel⟩
theorem ok_all_full (T:Txt mg)(D:DefAt K mg "all_full" s_all_full ["found","cells"] f fd):FnOk P w K mg base CX0 1 f fd ["found","cells"] spFull:=by
 refine D.F.ok sc_all_full (fun vs H Q E h=>?_) (fun cdv A outer s H vs Q E hr h=>?_)
 ·obtain ⟨fa,ca,ws,us,ks,cs,N0,rfl,_⟩:=h;rfl
 ·obtain ⟨fa,ca,ws,us,ks,cs,N0,rfl,hfa,hL,wl,hca,hC,ul,q⟩:=h;refine ⟨_,(pss_one (ps_ret (pe_callB (call_all rfl) (by rfl) T.b_all PyProof.Rows.boot_all (pa_cons (pe_comp1 (N:=["laying","cells"]) (src:=[none,some 1]) (CompOk1.byRfl (y:="laying") rfl (fun _ _=>rfl) (fun _=>rfl) (by decide +kernel) (by decide +kernel) (by rfl) rfl (by rfl)) rfl (pi_list (pv 0)) (fun _ _ _ _ _=>(pg_name (i:=0) (by show List.Nodup (["laying","cells"]:List Str); decide +kernel) rfl (Or.inr rfl))) (fun _ _ _ _ _=>pifs_nil) (fun _ _ _ _ _=>(pe_callB (call_allK (K:=K) (by rfl) (by rfl)) (by rfl) T.b_all PyProof.Rows.boot_all (pa_cons (pe_comp (N:=["cell","laying"]) (src:=[none,some 0]) (CompOk.byRfl rfl (by decide +kernel) (by decide +kernel) (by rfl) rfl (by rfl)) (by rfl) (pi_listK (K:=K) (by rfl) (pv 1)) (fun _ _ _ _ _=>(pg_name (i:=0) (by show List.Nodup (["cell","laying"]:List Str); decide +kernel) rfl (Or.inl rfl))) (fun _ _ _ _ _=>pifs_nil) (fun _ _ _ _ _=>(pe_cmpR (op_in_deepK (K:=K) (by rfl) hr.units) (pv 0) (pv 1) (by rfl)))) pa_nil)))) pa_nil)))),?_⟩;refine ⟨_,rfl,fa,rfl,⟨_,SqL.of hfa⟩,fun z hz=>?_⟩;refine comp_list (K:=K) (a:=fa) (xs:=ws) (fun j σ' H'=>∃ (u0:Option V),σ'=[u0,some (.ref ca)]/\Same H H'/\H' z=some (.lst (((ks.take j).map fun k=>cs.all fun c=>inL k (toI c)).map V.bl)))
   ⟨_,rfl,same_new hz,upd_same⟩ (fun j σ' H' _ ⟨_,_,s4,_⟩=>SqL.of (s4 _ _ hfa)) ?_ ?_
  ·rintro j v σ' H3 hv ⟨u0,rfl,s4,hz4⟩;obtain ⟨k,a,vs,hk,rfl,an,ha,tw⟩:=lists_at hL hv;have tj:ks.take (j + 1)=ks.take j++[k]:=by
    rw [List.take_add_one,hk];rfl
   unfold gName;refine yes_if ?_;have ul2:us.length<=100000:=ul;refine ⟨_,rfl,ca,rfl,⟨_,SqL.of (s4 _ _ hca)⟩,fun y hy=>?_⟩;refine comp_list (K:=K) (a:=ca) (xs:=us) (fun m σ' H'=>∃ (u0:Option V),σ'=[u0,some (.ref a)]/\Same H3 H'/\H' y=some (.lst (((cs.take m).map fun c=>inL k (toI c)).map V.bl)))
    ⟨_,rfl,same_new hy,upd_same⟩ (fun j σ' H' _ ⟨_,_,s5,_⟩=>SqL.of (s5 _ _ (s4 _ _ hca))) ?_ ?_
   ·rintro m v σ' H5 hv ⟨u0,rfl,s5,hy5⟩;obtain ⟨e,he,rc⟩:=Cel.get (hC.mono (s4.trans s5)) hv;have tm:cs.take (m + 1)=cs.take m++[e]:=by
     rw [List.take_add_one,he];rfl
    have ml:m < us.length:=(List.getElem?_eq_some_iff.mp hv).1;refine yes_if ?_;refine ⟨_,rfl,_,rfl,cData e,k.map pD,rc.rdv,.lst (SqL.of ((s4.trans s5) _ _ ha)) (tup2_rdv (tup2_mono (s4.trans s5) tw)),rfl,p_lays _,(by show 1<=60; decide),?_⟩;have ei:(if false=true then !(k.map pD).any (fun z=>PyData.eqv z (cData e)) else (k.map pD).any fun z=>PyData.eqv z (cData e))=inL k (toI e):=in_prc _ _;rw [ei];refine ⟨_,hy5,?_,_,rfl,fun b o ee=>?_,?_⟩
    ·simp only [List.length_map,List.length_take];exact Nat.lt_of_le_of_lt (show min m cs.length<=100000 by omega) (by decide)
    ·rw [upd_ne (ne_of_none ee hy)];exact s5 _ _ ee
    ·rw [upd_same,tm,List.map_append,List.map_append];rfl
   ·rintro σ' H5 ⟨u0,rfl,s5,hy5⟩;rw [hC.length,List.take_length] at hy5;refine ⟨y,_,rfl,SqL.of hy5,?_⟩;have e:((cs.map fun c=>inL k (toI c)).all id)=cs.all fun c=>inL k (toI c):=by
     rw [List.all_map];rfl
    rw [e];have jl:j < ws.length:=(List.getElem?_eq_some_iff.mp hv).1;refine ⟨_,s5 _ _ hz4,?_,_,rfl,fun b o ee=>?_,?_⟩
    ·simp only [List.length_map,List.length_take];exact Nat.lt_of_le_of_lt (show min j ks.length<=100000 by omega) (by decide)
    ·rw [upd_ne (ne_of_none ee hz)];exact s5 _ _ (s4 _ _ ee)
    ·rw [upd_same,tj,List.map_append,List.map_append];rfl
  ·rintro σ' H3 ⟨u0,rfl,s4,hz4⟩;rw [lists_len hL,List.take_length] at hz4;refine ⟨z,_,rfl,SqL.of hz4,?_⟩;have e:((ks.map fun k=>cs.all fun c=>inL k (toI c)).all id)=fullAll ks cs:=by
    unfold fullAll;rw [List.all_map];rfl
   rw [e];exact q _ s4
noncomputable def maxN (l:List Nat):Nat:=l.foldl max 0
theorem max_acc:∀ (l:List Nat) (a:Nat),a<=l.foldl max a/\(∀ x ∈ l,x<=l.foldl max a)/\(l.foldl max a=a\/l.foldl max a ∈ l)
 | [],a=>⟨Nat.le_refl _,fun _ h=>(nomatch h),.inl rfl⟩
 | x :: r,a=>by
  obtain ⟨h1,h2,h3⟩:=max_acc r (max a x);rw [List.foldl_cons];refine ⟨by omega,fun y hy=>?_,?_⟩
  ·rcases List.mem_cons.mp hy with rfl | hy
   ·omega
   ·exact h2 y hy
  ·rcases h3 with h3 | h3
   ·rcases Nat.le_total a x with h | h
    ·refine .inr ?_;rw [h3,Nat.max_eq_right h];exact List.mem_cons_self
    ·refine .inl ?_;rw [h3,Nat.max_eq_left h]
   ·exact .inr (List.mem_cons_of_mem _ h3)
theorem max_is {l:List Nat}{m:Nat}(hm:m ∈ l)(h:∀ x ∈ l,x<=m):maxN l=m:=by
 obtain ⟨_,h2,h3⟩:=max_acc l 0;unfold maxN;rcases h3 with e | e
 ·have:=h2 m hm;omega
 ·exact Nat.le_antisymm (h _ e) (h2 m hm)
noncomputable def thr (rs:List Str):Nat->List (List (Int × Int))->List (Nat × Nat)->Nat
 | 0,ks,_=>ks.length
 | d + 1,ks,cs=>if fullAll ks cs=true then ks.length else maxN (cs.map fun c=>((List.range 9).map fun m=>thr rs d (grpK rs c ks ((m:Nat):Int)) (cs.filter fun x=>!decide (x=c))).sum)
noncomputable def thB (rs:List Str)(ks:List (List (Int × Int)))(cs:List (Nat × Nat))(c:Nat × Nat):Nat->Nat
 | 0=>ks.length
 | d + 1=>((List.range 9).map fun m=>thr rs d (grpK rs c ks ((m:Nat):Int)) (cs.filter fun x=>!decide (x=c))).sum
theorem thr_succ (rs:List Str)(d:Nat)(ks:List (List (Int × Int)))(cs:List (Nat × Nat)):thr rs (d + 1) ks cs=if fullAll ks cs=true then ks.length else maxN (cs.map fun c=>thB rs ks cs c (d + 1)):=rfl
theorem thr_nil (rs:List Str)(d:Nat)(cs:List (Nat × Nat)):thr rs d [] cs=0:=by
 cases d with
 | zero=>rfl
 | succ d =>
  rw [thr_succ,if_pos (by unfold fullAll; rfl)];rfl
theorem sum_keys (F:Nat->Nat):∀ (n:Nat) (ns:List Nat),ns.Nodup->(∀ x ∈ ns,x < n)->(∀ x,x ∉ ns->F x=0)->(ns.map F).sum=((List.range n).map F).sum:=by
 intro n ns hn hb hz;have e:((List.range n).map F).sum=(((List.range n).filter fun x=>decide (x ∈ ns)).map F).sum:=by
  have:∀ l:List Nat,(l.map F).sum=((l.filter fun x=>decide (x ∈ ns)).map F).sum:=by
   intro l;induction l with
   | nil=>rfl
   | cons x r ih =>
    rw [List.map_cons,List.sum_cons,List.filter_cons,ih];by_cases h:x ∈ ns
    ·rw [if_pos (decide_eq_true h),List.map_cons,List.sum_cons]
    ·rw [if_neg (by rw [decide_eq_false h]; decide),hz x h,Nat.zero_add]
  exact this _
 rw [e];refine List.Perm.sum_nat (List.Perm.map F ?_);refine (List.perm_ext_iff_of_nodup hn (List.nodup_range.sublist List.filter_sublist)).mpr fun x=>?_;rw [List.mem_filter,List.mem_range,decide_eq_true_eq];exact ⟨fun h=>⟨hb x h,h⟩,fun h=>h.2⟩
theorem near_len (rs:List Str)(c:Nat × Nat)(k:List (Int × Int)):nearN rs c k<=k.length:=List.length_filter_le _ _
theorem sum_groups {rs:List Str}{c:Nat × Nat}{ks:List (List (Int × Int))}(h8:∀ k ∈ ks,k.length<=8){ns:List Int}(hn:ns.Nodup)(hm:∀ m:Int,m ∈ ns ↔ ∃ k ∈ ks,inL k (toI c)=false/\m=(nearN rs c k:Nat))(d:Nat)(os:List (Nat × Nat)) :
  (ns.map fun m=>((thr rs d (grpK rs c ks m) os:Nat):Int)).sum=((((List.range 9).map fun m=>thr rs d (grpK rs c ks ((m:Nat):Int)) os).sum:Nat):Int):=by
 have nn:∀ m ∈ ns,((m.toNat:Nat):Int)=m:=fun m h=>by
  obtain ⟨k,_,_,e⟩:=(hm m).mp h;omega
 have s:=sum_keys (fun x=>thr rs d (grpK rs c ks ((x:Nat):Int)) os) 9 (ns.map Int.toNat) ?_ ?_ ?_
 ·rw [<- s,List.map_map];have cast:∀ l:List Int,(∀ m ∈ l,((m.toNat:Nat):Int)=m)->(l.map fun m=>((thr rs d (grpK rs c ks m) os:Nat):Int)).sum=(((l.map ((fun x=>thr rs d (grpK rs c ks ((x:Nat):Int)) os) ∘ Int.toNat)).sum:Nat):Int):=by
   intro l;induction l with
   | nil=>exact fun _=>rfl
   | cons a r ih =>
    intro h;rw [List.map_cons,List.sum_cons,List.map_cons,List.sum_cons,ih fun m hm=>h m (List.mem_cons_of_mem _ hm)];show _=(((thr rs d (grpK rs c ks ((a.toNat:Nat):Int)) os) + _:Nat):Int);rw [h a List.mem_cons_self];omega
  exact cast ns nn
 ·refine List.pairwise_map.mpr (hn.imp_of_mem fun {a b} ha hb e z=>e ?_);rw [<- nn a ha,<- nn b hb,z]
 ·intro x hx;obtain ⟨m,hm2,rfl⟩:=List.mem_map.mp hx;obtain ⟨k,hk,_,e⟩:=(hm m).mp hm2;have:=h8 k hk;have:=near_len rs c k;omega
 ·intro x hx;have e:grpK rs c ks ((x:Nat):Int)=[]:=by
   unfold grpK;refine List.filter_eq_nil_iff.mpr fun k hk hc=>hx ?_;unfold cndK at hc;rw [Bool.and_eq_true,Bool.not_eq_true',decide_eq_true_eq] at hc;exact List.mem_map.mpr ⟨((x:Nat):Int),(hm _).mpr ⟨k,hk,hc.1,hc.2.symm⟩,Int.toNat_natCast x⟩
  show thr rs d (grpK rs c ks ((x:Nat):Int)) os=0;rw [e,thr_nil]
noncomputable def spThrN (d:Nat):Sp:=fun vs H Q _=>∃ (p l ga oa:Addr) (rs:List Str) (n:Int) (cs:List (Nat × Nat)) (ws us:List V) (ks:List (List (Int × Int))) (N0:Addr->Prop),vs=[.ref p,.ref ga,.ref oa,.int (d:Nat)]/\BoardAt H p l rs n/\Rows bd.cps.toList rs /\
 H ga=some (.lst ws)/\Lists N0 H ws ks/\(∀ k ∈ ks,k.length<=8)/\ws.length<=100000/\H oa=some (.lst us)/\Cel H us cs/\us.length<=64/\(∀ c ∈ cs,c.1 < 64/\c.2 < 64)/\∀ H',Same H H'->Q (.int (thr rs d ks cs:Nat)) H'
noncomputable def spThBN (d:Nat):Sp:=fun vs H Q _=>∃ (p l fa sa ca:Addr) (rs:List Str) (n:Int) (c:Nat × Nat) (cs:List (Nat × Nat)) (ws us:List V) (ks:List (List (Int × Int))) (N0:Addr->Prop),vs=[.ref p,.ref fa,.ref sa,.int (d:Nat),.ref ca]/\BoardAt H p l rs n/\Rows bd.cps.toList rs/\H ca=some (.tup [.int (c.1:Nat),.int (c.2:Nat)])/\c.1 < 64/\c.2 < 64 /\
 H fa=some (.lst ws)/\Lists N0 H ws ks/\(∀ k ∈ ks,k.length<=8)/\ws.length<=100000/\H sa=some (.lst us)/\Cel H us cs/\us.length<=64/\(∀ c ∈ cs,c.1 < 64/\c.2 < 64)/\∀ H',Same H H'->Q (.int (thB rs ks cs c d:Nat)) H'
noncomputable def spNo:Sp:=fun _ _ _ _=>False
theorem sc_through:FnScope ["board","found","cells","depth"] ["board","found","cells","depth"] (defScope s_through):=⟨rfl,rfl,rfl,by decide +kernel,rfl,by decide +kernel,by decide +kernel⟩
theorem ok_throughN (D:DefAt K mg "through" s_through ["board","found","cells","depth"] f fd)(L:Nat):FnOk P w K mg base CX0 (L + 1) f fd ["board","found","cells","depth"] spNo :=
 D.F.ok sc_through (fun vs H Q E h=>h.elim) (fun cdv A outer s H vs Q E hr h=>h.elim)
theorem ok_through_of {L d:Nat}{f1 f2:Addr}{fd1 fd2:FuncData}(T:Txt mg)(D:DefAt K mg "through" s_through ["board","found","cells","depth"] f fd)(D_all_full:DefAt K mg "all_full" s_all_full ["found","cells"] f1 fd1)(D_through_by:DefAt K mg "through_by" s_through_by ["board","found","cells","depth","cell"] f2 fd2)
  (G_all_full:FnOk P w K mg base CX0 L f1 fd1 ["found","cells"] spFull) (G_through_by:FnOk P w K mg base CX0 L f2 fd2 ["board","found","cells","depth","cell"] (spThBN d)):FnOk P w K mg base CX0 (L + 1) f fd ["board","found","cells","depth"] (spThrN d):=by
 refine D.F.ok sc_through (fun vs H Q E h=>?_) (fun cdv A outer s H vs Q E hr h=>?_)
 ·obtain ⟨p,l,ga,oa,rs,n,cs,ws,us,ks,N0,rfl,_⟩:=h;rfl
 ·obtain ⟨p,l,ga,oa,rs,n,cs,ws,us,ks,N0,rfl,b,R,hga,hL,h8,wl,hoa,hC,ul,c64,q⟩:=h;have wk:ws.length=ks.length:=lists_len hL;have uc:us.length=cs.length:=hC.length;refine ⟨_,(pss_cons (ps_if (PW.pt (pw_or (pt_cmpR op_eq (pv 3) pe_int (nomark _)) (pw_or1 (pt_truth (pc0 (hk:=Nat.le_refl _) G_all_full hr D_all_full (pa_cons (pv 1) (pa_cons (pv 2) pa_nil))) (fun _=>rfl))))) (pss_one (ps_ret (pe_callB call_len_seq (by rfl) T.b_len PySem.boot_len (pa_cons (pv 1) pa_nil)))) pss_nil)
   (pss_one (ps_ret (pe_callB (call_maxL hr.hd) (by rfl) T.b_max PyProof.Rows.boot_max (pa_cons (pe_comp (N:=["cell","board","found","cells","depth"]) (src:=[none,some 0,some 1,some 2,some 3]) (CompOk.free (O:=(defScope s_through).names) (XN:=["board","found","cells","depth"]) rfl rfl ⟨_,rfl⟩ rfl rfl (by decide +kernel) (by decide +kernel) (by decide +kernel) rfl (by decide +kernel)) rfl (pi_list (pv 2)) (fun _ _ _ _ _=>(pg_name (i:=0) (by show List.Nodup (["cell","board","found","cells","depth"]:List Str); decide +kernel) rfl (Or.inl rfl))) (fun _ _ _ _ _=>pifs_nil) (fun _ _ _ _ _=>(pc0 (hk:=Nat.le_refl _) G_through_by hr D_through_by (pa_cons (pv 1) (pa_cons (pv 2) (pa_cons (pv 3) (pa_cons (pv 4) (pa_cons (pv 0) pa_nil)))))))) pa_nil))))),?_⟩
  refine ⟨_,rfl,rfl,_,rfl,?_⟩;cases d with
  | zero =>
   refine iteP rfl (iteT ?_);refine ⟨_,rfl,ga,ws,rfl,.inl (SqL.of hga),?_⟩;rw [wk];exact q _ (Same.refl _)
  | succ d =>
   refine iteN (decide_eq_false fun e=>absurd (V.int.inj e) (by omega)) ?_;refine ⟨_,rfl,_,rfl,ga,oa,ws,us,ks,cs,_,rfl,hga,hL,by omega,hoa,hC,by omega,fun H1 s1=>?_⟩;refine ⟨_,rfl,?_⟩;cases hfu:fullAll ks cs with
   | true =>
    refine iteT ?_;refine ⟨_,rfl,ga,ws,rfl,.inl (SqL.of (s1 _ _ hga)),?_⟩;rw [wk];have e:ks.length=thr rs (d + 1) ks cs:=by rw [thr_succ,if_pos hfu]
    rw [e];exact q _ s1
   | false =>
    refine iteF ?_;refine ⟨_,rfl,oa,rfl,⟨_,SqL.of (s1 _ _ hoa)⟩,fun y hy=>?_⟩;refine comp_list (K:=K) (a:=oa) (xs:=us) (fun i σ' H'=>∃ (u0:Option V),σ'=[u0,some (.ref p),some (.ref ga),some (.ref oa),some (.int ((d + 1:Nat):Int))]/\Same H1 H'/\H' y=some (.lst (((cs.take i).map fun c=>((thB rs ks cs c (d + 1):Nat):Int)).map V.int)))
     ⟨_,rfl,same_new hy,upd_same⟩ (fun i σ' H' _ ⟨_,_,s6,_⟩=>SqL.of (s6 _ _ (s1 _ _ hoa))) ?_ ?_
    ·rintro i x σ' H6 hx ⟨u0,rfl,s6,hy6⟩;have s16:=s1.trans s6;obtain ⟨c,hci,cc,rfl,hcc⟩:=Cel.get (hC.mono s16) hx;have c6:=c64 c (List.mem_of_getElem? hci);unfold gName;refine yes_if ?_;refine ⟨_,rfl,_,rfl,_,rfl,_,rfl,_,rfl,p,l,ga,oa,cc,rs,n,c,cs,ws,us,ks,N0,rfl,b.mono s16,R,hcc,c6.1,c6.2,s16 _ _ hga,lists_mono s16 hL,h8,wl,s16 _ _ hoa,hC.mono s16,ul,c64,fun H7 s7=>?_⟩;refine ⟨_,s7 _ _ hy6,?_,_,rfl,fun b' o e'=>?_,?_⟩
     ·simp only [List.length_map,List.length_take];exact Nat.lt_of_le_of_lt (show min i cs.length<=100 by omega) (by decide)
     ·rw [upd_ne (ne_of_none e' hy)];exact s7 _ _ (s6 _ _ e')
     ·rw [upd_same,List.take_add_one,hci,List.map_append,List.map_append];rfl
    ·rintro σ' H6 ⟨u0,rfl,s6,hy6⟩;rw [uc,List.take_length] at hy6;have cne:cs ≠ []:=by
      intro e;rw [e] at hfu;have:fullAll ks []=true:=by
       unfold fullAll;exact List.all_eq_true.mpr fun k _=>rfl
      rw [this] at hfu;cases hfu
     refine ⟨y,_,rfl,SqL.of hy6,(fun e=>cne (List.map_eq_nil_iff.mp e)),fun m hm hmx=>?_⟩;obtain ⟨c,hc,rfl⟩:=List.mem_map.mp hm;have e:thr rs (d + 1) ks cs=thB rs ks cs c (d + 1):=by
      rw [thr_succ,if_neg (by rw [hfu]; decide)];refine max_is (List.mem_map.mpr ⟨c,hc,rfl⟩) fun x hx=>?_;obtain ⟨c',hc',rfl⟩:=List.mem_map.mp hx;have:=hmx ((thB rs ks cs c' (d + 1):Nat):Int) (List.mem_map.mpr ⟨c',hc',rfl⟩);omega
     rw [<- e];exact q _ (s1.trans s6)
theorem sc_through_by:FnScope ["board","found","cells","depth","cell","others","groups"] ["board","found","cells","depth","cell"] (defScope s_through_by):=⟨rfl,rfl,rfl,by decide +kernel,rfl,by decide +kernel,by decide +kernel⟩
theorem ok_through_by_of {L d:Nat}{spT:Sp}{f2 f3:Addr}{fd2 fd3:FuncData}(T:Txt mg)(D:DefAt K mg "through_by" s_through_by ["board","found","cells","depth","cell"] f fd)(D_through:DefAt K mg "through" s_through ["board","found","cells","depth"] f2 fd2)(D_told_apart:DefAt K mg "told_apart" s_told_apart ["board","found","cell"] f3 fd3)
  (G_through:FnOk P w K mg base CX0 L f2 fd2 ["board","found","cells","depth"] spT) (G_told_apart:FnOk P w K mg base CX0 L f3 fd3 ["board","found","cell"] spApart) (hT:d=0\/spT=spThrN (d - 1)):FnOk P w K mg base CX0 (L + 1) f fd ["board","found","cells","depth","cell"] (spThBN d):=by
 refine D.F.ok sc_through_by (fun vs H Q E h=>?_) (fun cdv A outer s H vs Q E hr h=>?_)
 ·obtain ⟨p,l,fa,sa,ca,rs,n,c,cs,ws,us,ks,N0,rfl,_⟩:=h;rfl
 ·obtain ⟨p,l,fa,sa,ca,rs,n,c,cs,ws,us,ks,N0,rfl,b,R,hca,c1,c2,hfa,hL,h8,wl,hsa,hC,ul,c64,q⟩:=h;refine ⟨_,(pss_cons (ps_if (pt_cmpR op_eq (pv 3) pe_int (nomark _)) (pss_one (ps_ret (pe_callB call_len_seq (by rfl) T.b_len PySem.boot_len (pa_cons (pv 1) pa_nil)))) pss_nil)
   (pss_cons (ps_set (i:=5) sc_through_by.nd rfl (Or.inr rfl) (pe_comp (N:=["place","cell"]) (src:=[none,some 4]) (CompOk.free (O:=(defScope s_through_by).names) (XN:=["board","found","cells","depth","cell","others","groups"]) rfl rfl ⟨_,rfl⟩ rfl rfl (by decide +kernel) (by decide +kernel) (by decide +kernel) rfl (by decide +kernel)) rfl (pi_list (pv 2)) (fun _ _ _ _ _=>(pg_name (i:=0) (by show List.Nodup (["place","cell"]:List Str); decide +kernel) rfl (Or.inl rfl))) (fun _ _ _ _ _=>(pifs_one (pt_cmpR (op_ne_deepK (K:=K) (by rfl) hr.units) (pv 0) (pv 1) (nomark _)))) (fun _ _ _ _ _=>(pv 0))))
   (pss_cons (ps_set (i:=6) sc_through_by.nd rfl (Or.inl rfl) (pc0 (hk:=Nat.le_refl _) G_told_apart hr D_told_apart (pa_cons (pv 0) (pa_cons (pv 1) (pa_cons (pv 4) pa_nil)))))
   (pss_one (ps_ret (pe_callB (call_sum rfl) (by rfl) T.b_sum PyProof.Rows.boot_sum (pa_cons (pe_comp (N:=["group","board","others","depth"]) (src:=[none,some 0,some 5,some 3]) (CompOk.free (O:=(defScope s_through_by).names) (XN:=["board","found","cells","depth","cell","others","groups"]) rfl rfl ⟨_,rfl⟩ rfl rfl (by decide +kernel) (by decide +kernel) (by decide +kernel) rfl (by decide +kernel)) rfl (pi_vals (pe_bm0 PySem.F.plainAttrs_dict PySem.F.slot_dict_values PySem.F.type_dict_values mt_dvals (pv 6))) (fun _ _ _ _ _=>(pg_name (i:=0) (by show List.Nodup (["group","board","others","depth"]:List Str); decide +kernel) rfl (Or.inl rfl))) (fun _ _ _ _ _=>pifs_nil) (fun _ _ _ _ _=>(pc0 (hk:=Nat.le_refl _) G_through hr D_through (pa_cons (pv 1) (pa_cons (pv 0) (pa_cons (pv 2) (pa_cons (pe_op op_sub (pv 3) pe_int) pa_nil))))))) pa_nil))))))),?_⟩
  refine ⟨_,rfl,rfl,_,rfl,?_⟩;cases d with
  | zero =>
   refine iteP rfl ?_;have e:ws.length=thB rs ks cs c 0:=lists_len hL;refine ⟨_,rfl,fa,ws,rfl,.inl (SqL.of hfa),?_⟩;rw [e];exact q _ (Same.refl _)
  | succ d =>
   have hT:spT=spThrN d:=hT.elim (fun h=>absurd h (by omega)) id;subst hT;refine iteN (decide_eq_false fun e=>absurd (V.int.inj e) (by omega)) ?_;refine ⟨_,rfl,sa,rfl,⟨_,SqL.of hsa⟩,fun z hz=>?_⟩;refine comp_data (K:=K) (a:=sa) (xs:=us) (fun a=>a ≠ z) (cs.map fun x=>if (!decide (x=c))=true then some (cData x) else none) (fun σ=>∃ u0,σ=[u0,some (.ref ca)]) hz (fun _ h=>h) ⟨_,rfl⟩ (by rw [List.length_map]; exact hC.length.symm) (Nat.le_trans ul (by decide)) (SqL.of hsa) ?_ ?_
   ·rintro m v o σ H2 hv ho s2 _ ⟨u1,rfl⟩ Y Z yes no;obtain ⟨e,he,rc⟩:=Cel.get (hC.mono s2) hv;have eo:=map_at he ho;refine ⟨_,rfl,_,rfl,cData e,cData c,rc.rdv,CelR.rdv ⟨ca,rfl,s2 _ _ hca⟩,cData_cmp _ _,_,rfl,?_⟩;have ei:(if true=true then !PyData.eqv (cData e) (cData c) else PyData.eqv (cData e) (cData c))=!decide (e=c):=by
     show (!PyData.eqv _ _)=_;rw [cData_eqv]
    rw [ei];by_cases hp:(!decide (e=c))=true
    ·rw [if_pos hp] at eo;exact iteP hp ⟨_,rfl,yes _ _ _ _ eo ⟨_,rfl⟩ (Same.refl _) rc.rdn⟩
    ·rw [if_neg hp] at eo;exact iteN (Bool.eq_false_iff.mpr hp) (no _ _ eo ⟨_,rfl⟩ (Same.refl _))
   rintro ys H5 s5 hz5 hr5;have er:(cs.map fun x=>if (!decide (x=c))=true then some (cData x) else none).filterMap id=(cs.filter fun x=>!decide (x=c)).map cData:=outs_filter _ _ _;rw [er] at hr5;have hcy:=RdnAll.cel hr5;generalize hos:(cs.filter fun x=>!decide (x=c))=os at hcy;have yl:ys.length<=64:=by
    rw [hcy.length,<- hos];refine Nat.le_trans (List.length_filter_le _ _) ?_;rw [<- hC.length];exact ul
   have o64:∀ x ∈ os,x.1 < 64/\x.2 < 64:=fun x hx=>by
    rw [<- hos] at hx;exact c64 x (List.mem_filter.mp hx).1
   have hL5:=lists_mono s5 hL;refine ⟨_,rfl,_,rfl,_,rfl,p,l,fa,ca,rs,n,c,ws,ks,N0,rfl,b.mono s5,R,s5 _ _ hca,c1,c2,s5 _ _ hfa,hL5,(fun k hk=>Nat.le_trans (h8 k hk) (by decide)),wl,fun dd kvs gs H2 hd hd2 hG glen hsum hm hsel s2=>?_⟩;refine ⟨_,rfl,.inr (.inr (.inl ⟨rfl,.inl ⟨kvs,hd2⟩⟩)),dd,kvs,rfl,rfl,hd2,fun v hv=>?_⟩;have dv:dd ≠ v:=ne_of_none hd2 hv;refine ⟨v,dd,kvs,rfl,upd_same,by rw [upd_ne dv]; exact hd2,fun o y hy=>?_⟩;have yd:dd ≠ y:=by
    intro e;rw [<- e,upd_same] at hy;cases hy
   have yv:v ≠ y:=by
    intro e;rw [<- e,upd_ne (Ne.symm dv),upd_same] at hy;cases hy
   have y2:H2 y=none:=by
    rw [upd_ne (Ne.symm yd),upd_ne (Ne.symm yv)] at hy;exact hy
   have kg:kvs.length=gs.length:=by
    rw [hG.e,List.length_map]
   refine comp_vals (fun i σ' H'=>∃ (u0:Option V),σ'=[u0,some (.ref p),some (.ref z),some (.int ((d + 1:Nat):Int))]/\H' dd=some (.frz o (.dK kvs))/\H' y=some (.lst ((((gs.take i).map (·.1)).map fun m=>((thr rs d (grpK rs c ks m) os:Nat):Int)).map V.int))/\∀ b o',b ≠ dd->b ≠ v->H2 b=some o'->H' b=some o')
    ⟨_,rfl,by rw [upd_ne yd]; exact upd_same,upd_same,fun b o' h1 h2 e=>by rw [upd_ne (ne_of_none e y2),upd_ne h1,upd_ne h2]; exact e⟩ (fun i σ' H' _ ⟨_,_,h,_⟩=>h) ?_ ?_
   ·rintro i kv σ' H3 hk ⟨u0,rfl,hd3,hy3,fr⟩;rw [hG.e,List.getElem?_map] at hk;obtain ⟨g,hg,rfl⟩:=Option.map_eq_some_iff.mp hk;have gm:=List.mem_of_getElem? hg;have hgm:=(hG.pl g gm).2;have gd:g.2.1 ≠ dd:=by
     intro e;rw [e,hd2] at hgm;cases hgm
    have hg3:=fr _ _ gd (ne_of_none hgm hv) hgm;have il:i < gs.length:=(List.getElem?_eq_some_iff.mp hg).1;have sx:Same H5 H3:=fun b' o' e=>fr b' o' (ne_of_none e hd) (ne_of_none (s2 _ _ e) hv) (s2 _ _ e);have hLg:Lists N0 H3 g.2.2 (grpK rs c ks g.1):=by
     rw [hsel g gm];exact lists_sel _ (lists_mono sx hL5)
    have gl:g.2.2.length<=100000:=by
     rw [hsel g gm];exact Nat.le_trans (selV_len _ _ _) wl
    unfold gName;refine yes_if ?_;have ed:V.int (((d + 1:Nat):Int) - 1)=V.int ((d:Nat):Int):=by
     congr 1;omega
    refine ⟨_,rfl,_,rfl,_,rfl,_,rfl,_,1,rfl,rfl,p,l,g.2.1,z,rs,n,os,g.2.2,ys,grpK rs c ks g.1,N0,(by rw [<- ed]; rfl),(b.mono s5).mono sx,R,hg3,hLg,(fun k hk=>h8 k (List.mem_filter.mp hk).1),gl,sx _ _ hz5,hcy.mono sx,yl,o64,fun H4 s4=>?_⟩;refine ⟨_,s4 _ _ hy3,?_,_,rfl,by rw [upd_ne yd]; exact s4 _ _ hd3,?_,fun b' o' h1 h2 e=>?_⟩
    ·simp only [List.length_map,List.length_take];exact Nat.lt_of_le_of_lt (show min i gs.length<=100000 by omega) (by decide)
    ·rw [upd_same,List.take_add_one,hg,List.map_append,List.map_append,List.map_append];rfl
    ·rw [upd_ne (ne_of_none e y2)];exact s4 _ _ (fr b' o' h1 h2 e)
   ·rintro σ' H3 ⟨u0,rfl,hd3,hy3,fr⟩;rw [kg,List.take_length] at hy3;refine ⟨y,_,rfl,SqL.of hy3,?_⟩;rw [sum_groups h8 hG.nd hm d os];have e:((List.range 9).map fun m=>thr rs d (grpK rs c ks ((m:Nat):Int)) os).sum=thB rs ks cs c (d + 1):=by
     rw [<- hos];rfl
    rw [e];refine q _ fun b o' ee=>?_;have e5:=s5 _ _ ee;exact fr b o' (ne_of_none e5 hd) (ne_of_none (s2 _ _ e5) hv) (s2 _ _ e5)
noncomputable def spThBA:Sp:=fun vs H Q E=>∃ d:Nat,d<=3/\spThBN d vs H Q E
theorem fn_ex {P:Program}{w:World}{K:PySem.W.Frag}{mg:Str->Option Value}{base:Heap}{CX:CXT}{k:Nat}{f:Addr}{fd:FuncData}{ps:List Str}{sp:Nat->Sp}{N:Nat}(F:∀ d,d<=N->FnOk P w K mg base CX k f fd ps (sp d)) :
  FnOk P w K mg base CX k f fd ps (fun vs H Q E=>∃ d:Nat,d<=N/\sp d vs H Q E) :=
 ⟨fun vs H Q E ⟨d,hd,h⟩=>(F d hd).len vs H Q E h,fun A outer s H args us vs Q E hr he hb hv ⟨d,hd,h⟩=>(F d hd).run A outer s H args us vs Q E hr he hb hv h⟩
theorem ok_through_by {f1 f2 f3:Addr}{fd1 fd2 fd3:FuncData}(T:Txt mg)(D:DefAt K mg "through_by" s_through_by ["board","found","cells","depth","cell"] f fd)(D_all_full:DefAt K mg "all_full" s_all_full ["found","cells"] f1 fd1)(D_through:DefAt K mg "through" s_through ["board","found","cells","depth"] f2 fd2)(D_told_apart:DefAt K mg "told_apart" s_told_apart ["board","found","cell"] f3 fd3)
  (G_all_full:FnOk P w K mg base CX0 1 f1 fd1 ["found","cells"] spFull) (G_told_apart:FnOk P w K mg base CX0 2 f3 fd3 ["board","found","cell"] spApart):FnOk P w K mg base CX0 9 f fd ["board","found","cells","depth","cell"] spThBA:=by
 have b0:FnOk P w K mg base CX0 3 f fd ["board","found","cells","depth","cell"] (spThBN 0):=ok_through_by_of T D D_through D_told_apart (ok_throughN D_through 1) G_told_apart (.inl rfl);have t0:FnOk P w K mg base CX0 4 f2 fd2 ["board","found","cells","depth"] (spThrN 0):=ok_through_of T D_through D_all_full D (G_all_full.mono (by decide)) b0;have b1:FnOk P w K mg base CX0 5 f fd ["board","found","cells","depth","cell"] (spThBN 1):=ok_through_by_of T D D_through D_told_apart t0 (G_told_apart.mono (by decide)) (.inr rfl);have t1:FnOk P w K mg base CX0 6 f2 fd2 ["board","found","cells","depth"] (spThrN 1):=ok_through_of T D_through D_all_full D (G_all_full.mono (by decide)) b1;have b2:FnOk P w K mg base CX0 7 f fd ["board","found","cells","depth","cell"] (spThBN 2):=ok_through_by_of T D D_through D_told_apart t1 (G_told_apart.mono (by decide)) (.inr rfl);have t2:FnOk P w K mg base CX0 8 f2 fd2 ["board","found","cells","depth"] (spThrN 2):=ok_through_of T D_through D_all_full D (G_all_full.mono (by decide)) b2;have b3:FnOk P w K mg base CX0 9 f fd ["board","found","cells","depth","cell"] (spThBN 3):=ok_through_by_of T D D_through D_told_apart t2 (G_told_apart.mono (by decide)) (.inr rfl);refine fn_ex fun d hd=>?_;have h:d=0\/d=1\/d=2\/d=3:=by omega
 rcases h with rfl | rfl | rfl | rfl
 ·exact b0.mono (by decide)
 ·exact b1.mono (by decide)
 ·exact b2.mono (by decide)
 ·exact b3
noncomputable def lk1 (k:List (Int × Int)):PyData:=.list (k.map pD)
theorem lists_rdv {K:PySem.W.Frag}{N:Addr->Prop}{H:Hp}{us:List V}{ks:List (List (Int × Int))}(h:Lists N H us ks):RdvAll K H us (ks.map lk1):=by
 induction h with
 | nil=>exact .nil
 | cons h _ ih =>
  obtain ⟨a,ws,rfl,_,h1,h2⟩:=h;exact .cons (.lst (SqL.of h1) (tup2_rdv h2)) ih
theorem lk_lay (ks:List (List (Int × Int))):PyData.canLayAll0 (ks.map lk1)=true:=by
 induction ks with
 | nil=>rfl
 | cons k r ih =>
  show (PyData.canLayAll0 (k.map pD) && PyData.canLayAll0 (r.map lk1))=true;rw [p_lays,ih];rfl
theorem lk_dep (ks:List (List (Int × Int))):PyData.depthAll (ks.map lk1)<=2:=by
 induction ks with
 | nil=>exact Nat.zero_le _
 | cons k r ih =>
  show max (PyData.depthAll (k.map pD) + 1) (PyData.depthAll (r.map lk1))<=2;have:=p_depths k;omega
theorem lk_cmp (ks:List (List (Int × Int))):CmpD (.list (ks.map lk1)) (.list []):=⟨lk_lay ks,rfl,by
 show PyData.depthAll (ks.map lk1) + 1<=64;have:=lk_dep ks;omega⟩
theorem lk_nil (ks:List (List (Int × Int))):(if false=true then !PyData.eqv (.list (ks.map lk1)) (.list []) else PyData.eqv (.list (ks.map lk1)) (.list []))=ks.isEmpty:=by
 cases ks <;> rfl
noncomputable def laysF (rs:List Str)(n:Int):List (List (Int × Int)):=(chosen n (cellsI rs)).filter (fitB rs)
noncomputable def spKnown:Sp:=fun vs H Q _=>∃ (p l:Addr) (rs:List Str) (n dp:Int),vs=[.ref p,.int dp]/\BoardAt H p l rs n/\Rows bd.cps.toList rs/\(shutC rs).length<=8/\0<=n/\(0<=dp/\dp<=3)/\laysF rs n ≠ [] /\
 ∀ (d:Addr) (ws:List V) (ks:List (List (Int × Int))) (H':Hp),H d=none->H' d=some (.lst ws)->Lists (fun a=>H a=none/\a ≠ d) H' ws ks->ws.Nodup->ks.Perm (laysF rs n)->ks.Pairwise (fun p q=>PySem.SeqAt.ltL q p=false)->Same H H'->Q (.ref d) H'
theorem sc_known_layings:FnScope ["board","depth","found"] ["board","depth"] (defScope s_known_layings):=⟨rfl,rfl,rfl,by decide +kernel,rfl,by decide +kernel,by decide +kernel⟩
theorem ok_known_layings {f1 f2 f3 f4 f5 f6 f7 f8 f9 f10:Addr}{fd1 fd2 fd3 fd4 fd5 fd6 fd7 fd8 fd9 fd10:FuncData}(T:Txt mg)(D:DefAt K mg "known_layings" s_known_layings ["board","depth"] f fd)(D_around:DefAt K mg "around" s_around ["board","cell"] f1 fd1)(D_sign_at:DefAt K mg "sign_at" s_sign_at ["board","cell"] f2 fd2)
  (D_cells_of:DefAt K mg "cells_of" s_cells_of ["board"] f3 fd3) (D_closed:DefAt K mg "closed" s_closed ["board"] f4 fd4) (D_open_cells:DefAt K mg "open_cells" s_open_cells ["board"] f5 fd5) (D_number_at:DefAt K mg "number_at" s_number_at ["board","cell"] f6 fd6)
  (D_numbers_told:DefAt K mg "numbers_told" s_numbers_told ["board"] f7 fd7) (D_wrong_number:DefAt K mg "wrong_number" s_wrong_number ["told","cells"] f8 fd8) (D_picks:DefAt K mg "picks" s_picks ["cells","size"] f9 fd9) (D_layings:DefAt K mg "layings" s_layings ["board"] f10 fd10):FnOk P w K mg base CX0 5 f fd ["board","depth"] spKnown:=by
 refine D.F.ok sc_known_layings (fun vs H Q E h=>?_) (fun cdv A outer s H vs Q E hr h=>?_)
 ·obtain ⟨p,l,rs,n,dp,rfl,_⟩:=h;rfl
 ·obtain ⟨p,l,rs,n,dp,rfl,b,R,h8,n0,hdp,hne,q⟩:=h;refine ⟨_,(pss_cons (ps_if (PW.pt (pw_or (pt_cmpR op_gt (pe_callB call_len_seq (by rfl) T.b_len PySem.boot_len (pa_cons (pc0 (ok_closed T D_closed D_cells_of D_sign_at) hr D_closed (pa_cons (pv 0) pa_nil)) pa_nil)) (pe_glob (v:=.int 8) (by rfl) T.v_MOST_CLOSED_chances.choose_spec (by exact ⟨_,rfl⟩)) (nomark _)) (pw_or1 (pt_not (pt_chain op_le op_le pe_int (pv 1) (pe_glob (v:=.int 3) (by rfl) T.v_MOST_DEPTH.choose_spec (by exact ⟨_,rfl⟩))))))) (pss_one ps_never) pss_nil)
   (pss_cons (ps_set (i:=2) sc_known_layings.nd rfl (Or.inl rfl) (pc0 (ok_layings T D_layings D_around D_sign_at D_cells_of D_closed D_open_cells D_number_at D_numbers_told D_wrong_number D_picks) hr D_layings (pa_cons (pv 0) pa_nil)))
   (pss_cons (ps_if (pt_cmpR (op_eq_deep hr.units) (pv 2) (pe_lst pa_nil) (nomark _)) (pss_one ps_never) pss_nil)
   (pss_one (ps_ret (pv 2)))))),?_⟩
  refine ⟨_,rfl,p,l,rs,n,rfl,b,R,fun d ws H1 hd hd1 hc1 s1=>?_⟩;have wl:ws.length<=8:=by
   rw [hc1.length];exact h8
  refine ⟨d,ws,rfl,.inl (SqL.of hd1),_,_,rfl,rfl,_,rfl,?_⟩;refine iteN (decide_eq_false (by omega)) ?_;obtain ⟨dp0,dp3⟩:=hdp
  ·refine ⟨_,rfl,0,_,rfl,rfl,_,rfl,iteP (decide_eq_true (by omega)) ⟨_,3,rfl,rfl,_,rfl,?_⟩⟩;refine iteN (by rw [decide_eq_true (by omega)]; rfl) ?_;refine ⟨_,rfl,p,l,rs,n,rfl,b.mono s1,R,by omega,n0,fun d2 fs F H2 hd2 hd22 hL2 hnd hpm hpw s2=>?_⟩;refine ⟨_,rfl,sz_0,fun e he=>?_⟩;have s3:=same_new (o:=.lst []) he;refine ⟨.list (F.map lk1),.list [],.lst (SqL.of (s3 _ _ hd22)) (lists_rdv (lists_mono s3 hL2)),.lst (SqL.of upd_same) .nil,lk_cmp _,_,rfl,?_⟩;rw [lk_nil];have fe:F.isEmpty=false:=by
    cases F with
    | nil=>exact (hne (List.nil_perm.mp hpm)).elim
    | cons _ _=>rfl
   refine iteN fe ?_;exact ⟨_,rfl,q d2 fs F _ (s1.free hd2) (s3 _ _ hd22) (lists_weak (fun a h=>⟨s1.free h.1,h.2⟩) (lists_mono s3 hL2)) hnd hpm hpw (s1.trans (s2.trans s3))⟩
noncomputable def frV (t b:Nat):List V:=[.int ((t:Int) / (Int.gcd (t:Int) (b:Int):Nat)),.int ((b:Int) / (Int.gcd (t:Int) (b:Int):Nat))]
noncomputable def thX (rs:List Str)(d:Nat)(ks:List (List (Int × Int)))(c:Nat × Nat):Nat:=thB rs ks (shutC rs) c d
noncomputable def ChR (rs:List Str)(dp:Nat)(ks:List (List (Int × Int)))(H:Hp)(kv:List Key × V)(c:Nat × Nat):Prop:=kv.1=keyC c/\∃ a,kv.2=.ref a/\H a=some (.tup (frV (thX rs dp ks c) ks.length))
theorem chR_mono {rs:List Str}{dp:Nat}{ks:List (List (Int × Int))}{H H':Hp}(s:Same H H'){kv:List (List Key × V)}{cs:List (Nat × Nat)}(h:Paired (ChR rs dp ks H) kv cs):Paired (ChR rs dp ks H') kv cs:=by
 induction h with
 | nil=>exact .nil
 | cons q _ ih =>
  obtain ⟨e,a,e2,h⟩:=q;exact .cons ⟨e,a,e2,s _ _ h⟩ ih
theorem chR_into {rs:List Str}{dp:Nat}{ks:List (List (Int × Int))}{H:Hp}{y:Addr}{ys ys':List V}(hy:H y=some (.lst ys)){kv:List (List Key × V)}{cs:List (Nat × Nat)}(h:Paired (ChR rs dp ks H) kv cs):Paired (ChR rs dp ks (upd H y (.lst ys'))) kv cs:=by
 induction h with
 | nil=>exact .nil
 | cons q _ ih =>
  obtain ⟨e,a,e2,h⟩:=q;refine .cons ⟨e,a,e2,?_⟩ ih;rw [upd_ne]
  ·exact h
  ·intro e;rw [e,hy] at h;cases h
noncomputable def spChances:Sp:=fun vs H Q _=>∃ (p l:Addr) (rs:List Str) (n dp:Int),vs=[.ref p,.int dp]/\BoardAt H p l rs n/\Rows bd.cps.toList rs/\(shutC rs).length<=8/\0<=n/\(0<=dp/\dp<=3)/\laysF rs n ≠ [] /\
 (∀ (d:Addr) (kv:List (List Key × V)) (ks:List (List (Int × Int))) (H':Hp),H d=none->H' d=some (.dT (putsT kv))->Paired (ChR rs dp.toNat ks H') kv (shutC rs)->ks.Perm (laysF rs n)->Same H H'->Q (.ref d) H')
theorem lays_len (rs:List Str)(n:Int)(h:(shutC rs).length<=8):(laysF rs n).length<=256:=by
 unfold laysF chosen;refine Nat.le_trans (List.length_filter_le _ _) (Nat.le_trans (List.length_filter_le _ _) ?_);rw [Subs.subs_pick,List.length_map,List.length_range];have e:(cellsI rs).length<=8:=by
  show ((shutC rs).map toI).length<=8;rw [List.length_map];omega
 exact Nat.pow_le_pow_right (by decide) e
theorem pick_len {α:Type}:∀ (cs:List α) (b:Nat),(Subs.pick cs b).length<=cs.length
 | [],_=>Nat.le_refl _
 | c :: cs,b=>by
  have h:=pick_len cs (b / 2);unfold Subs.pick;rw [List.length_append,List.length_cons];split
  ·show 1 + _<=_;omega
  ·show 0 + _<=_;omega
theorem lays_short {rs:List Str}{n:Int}(h:(shutC rs).length<=8){k:List (Int × Int)}(hk:k ∈ laysF rs n):k.length<=8:=by
 have h1:=(List.mem_filter.mp (List.mem_filter.mp hk).1).1;rw [Subs.subs_pick] at h1;obtain ⟨b,_,rfl⟩:=List.mem_map.mp h1;refine Nat.le_trans (pick_len _ b) ?_;show ((shutC rs).map toI).length<=8;rw [List.length_map];omega
theorem shut_small {rs:List Str}(R:Rows bd.cps.toList rs){c:Nat × Nat}(h:c ∈ shutC rs):c.1 < 64/\c.2 < 64:=by
 obtain ⟨t,sg,ht,hj,_⟩:=cell_at_board h;exact cell_small R ht hj
theorem sc_chances:FnScope ["board","depth","found","cells"] ["board","depth"] (defScope s_chances):=⟨rfl,rfl,rfl,by decide +kernel,rfl,by decide +kernel,by decide +kernel⟩
theorem ok_chances {f1 f2 f3 f4:Addr}{fd1 fd2 fd3 fd4:FuncData}(T:Txt mg)(D:DefAt K mg "chances" s_chances ["board","depth"] f fd)(D_known_layings:DefAt K mg "known_layings" s_known_layings ["board","depth"] f1 fd1)(D_closed:DefAt K mg "closed" s_closed ["board"] f2 fd2)
  (D_fraction:DefAt K mg "fraction" s_fraction ["top","bottom"] f3 fd3) (D_through_by:DefAt K mg "through_by" s_through_by ["board","found","cells","depth","cell"] f4 fd4)
  (G_known_layings:FnOk P w K mg base CX0 5 f1 fd1 ["board","depth"] spKnown) (G_closed:FnOk P w K mg base CX0 2 f2 fd2 ["board"] (spList pShut)) (G_fraction:FnOk P w K mg base CX0 2 f3 fd3 ["top","bottom"] spFr) (G_through_by:FnOk P w K mg base CX0 9 f4 fd4 ["board","found","cells","depth","cell"] spThBA):FnOk P w K mg base CX0 10 f fd ["board","depth"] spChances:=by
 refine D.F.ok sc_chances (fun vs H Q E h=>?_) (fun cdv A outer s H vs Q E hr h=>?_)
 ·obtain ⟨p,l,rs,n,dp,rfl,_⟩:=h;rfl
 ·obtain ⟨p,l,rs,n,dp,rfl,b,R,h8,n0,⟨d0,d3⟩,hne,q⟩:=h;refine ⟨_,(pss_cons (ps_set (i:=2) sc_chances.nd rfl (Or.inr rfl) (pc0 G_known_layings hr D_known_layings (pa_cons (pv 0) (pa_cons (pv 1) pa_nil))))
   (pss_cons (ps_set (i:=3) sc_chances.nd rfl (Or.inr rfl) (pc0 G_closed hr D_closed (pa_cons (pv 0) pa_nil)))
   (pss_one (ps_ret (pe_callTy (call_dict_pairs hr.units hr.hd) (by rfl) T.b_dict PyProof.Rows.boot_dict (pa_cons (pe_comp (N:=["cell","board","found","cells","depth"]) (src:=[none,some 0,some 2,some 3,some 1]) (CompOk.free (O:=(defScope s_chances).names) (XN:=["board","depth","found","cells"]) rfl rfl ⟨_,rfl⟩ rfl rfl (by decide +kernel) (by decide +kernel) (by decide +kernel) rfl (by decide +kernel)) rfl (pi_list (pv 3)) (fun _ _ _ _ _=>(pg_name (i:=0) (by show List.Nodup (["cell","board","found","cells","depth"]:List Str); decide +kernel) rfl (Or.inl rfl))) (fun _ _ _ _ _=>pifs_nil) (fun _ _ _ _ _=>(pe_tup (pa_cons (pv 0) (pa_cons (pc0 G_fraction hr D_fraction (pa_cons (pc0 G_through_by hr D_through_by (pa_cons (pv 1) (pa_cons (pv 2) (pa_cons (pv 3) (pa_cons (pv 4) (pa_cons (pv 0) pa_nil)))))) (pa_cons (pe_callB (call_len_seqK (K:=K) (by rfl)) (by rfl) T.b_len PySem.boot_len (pa_cons (pv 2) pa_nil)) pa_nil))) pa_nil))))) pa_nil)))))),?_⟩
  refine ⟨_,rfl,_,rfl,p,l,rs,n,dp,rfl,b,R,h8,n0,⟨d0,d3⟩,hne,fun fa ws ks H1 hfa hfa1 hL1 _ hpm _ s1=>?_⟩;obtain ⟨d,rfl⟩:∃ d:Nat,dp=d:=⟨dp.toNat,by omega⟩;rw [Int.toNat_natCast] at q;refine ⟨_,rfl,p,l,rs,n,rfl,b.mono s1,R,fun ca us H2 hca hca2 hC s2=>?_⟩;have hCs:Cel H2 us (shutC rs):=hC;have ul:us.length<=8:=by
   rw [hCs.length];exact h8
  have kl:ks.length<=256:=hpm.length_eq ▸ lays_len rs n h8;have k0:0 < ks.length:=by
   rw [hpm.length_eq];exact List.length_pos_iff.mpr hne
  have wl:ws.length=ks.length:=lists_len hL1;have ksh:∀ k ∈ ks,k.length<=8:=fun k hk=>lays_short h8 (hpm.mem_iff.mp hk);refine ⟨_,rfl,ca,rfl,⟨_,SqL.of hca2⟩,fun y hy=>?_⟩;refine comp_list (K:=K) (a:=ca) (xs:=us) (fun i σ' H'=>∃ (u0:Option V) (ys:List V) (kv:List (List Key × V)),σ'=[u0,some (.ref p),some (.ref fa),some (.ref ca),some (.int (d:Nat))]/\Same H2 H'/\H' y=some (.lst ys)/\PrsAt H' ys kv/\Paired (ChR rs d ks H') kv ((shutC rs).take i)/\ys.length<=i)
   ⟨_,[],[],rfl,same_new hy,upd_same,.nil,.nil,Nat.le_refl _⟩ (fun i σ' H' _ ⟨_,_,_,_,s6,_⟩=>SqL.of (s6 _ _ hca2)) ?_ ?_
  ·rintro i x σ' H6 hx ⟨u0,ys,kv,rfl,s6,hy6,hp6,hch,yl⟩;obtain ⟨c,hci,cc,rfl,hcc⟩:=Cel.get (Cel.mono s6 hCs) hx;have s26:=s2.trans s6;have ci:=(List.getElem?_eq_some_iff.mp hx).1;have c64:c.1 < 64/\c.2 < 64:=shut_small R (List.mem_of_getElem? hci);unfold gName;refine yes_if ?_;refine ⟨_,rfl,_,rfl,_,rfl,_,rfl,_,rfl,_,rfl,d,by omega,p,l,fa,ca,cc,rs,n,c,shutC rs,ws,us,ks,_,rfl,(b.mono s1).mono s26,R,hcc,c64.1,c64.2,s26 _ _ hfa1,lists_mono s26 hL1,ksh,by omega,s6 _ _ hca2,hCs.mono s6,by omega,(fun c hc=>shut_small R hc),fun H7 s7=>?_⟩;have s27:=s26.trans s7;refine ⟨_,rfl,fa,ws,rfl,.inl (SqL.of (s27 _ _ hfa1)),_,_,rfl,by omega,?_,fun fp hfp=>?_⟩
   ·rw [wl];exact Nat.lt_of_le_of_lt (show ((ks.length:Nat):Int).natAbs<=256 by omega) (by decide)
   have s8:=same_new (o:=.tup [.int (((thB rs ks (shutC rs) c d:Nat):Int) / (Int.gcd ((thB rs ks (shutC rs) c d:Nat):Int) ((ws.length:Nat):Int):Nat)),.int (((ws.length:Nat):Int) / (Int.gcd ((thB rs ks (shutC rs) c d:Nat):Int) ((ws.length:Nat):Int):Nat))]) hfp;rw [wl] at s8 ⊢;refine ⟨sz_2,fun tp htp=>?_⟩;have s9:=same_new (o:=.tup [.ref cc,.ref fp]) htp;have s79:=s7.trans (s8.trans s9);have s69:=s6.trans s79;refine ⟨ys,s79 _ _ hy6,Nat.lt_of_le_of_lt (show ys.length<=100 by omega) (by decide),_,ys++[.ref tp],kv++[(keyC c,.ref fp)],rfl,fun b' o e'=>?_,upd_same,?_,?_,?_⟩
   ·rw [upd_ne (ne_of_none e' hy)];exact s69 _ _ e'
   ·exact PrsAt.into y _ (s79 _ _ hy6) (PrsAt.snoc (hp6.mono s79) ⟨tp,cc,rfl,upd_same,s79 _ _ hcc⟩)
   ·rw [List.take_add_one,hci];have fy:fp ≠ y:=by
     intro e;have:=s7 _ _ hy6;rw [<- e,hfp] at this;cases this
    refine pr_app (chR_into (s79 _ _ hy6) (chR_mono s79 hch)) (.cons ⟨rfl,fp,rfl,?_⟩ .nil);rw [upd_ne fy];exact s9 _ _ upd_same
   ·rw [List.length_append];exact Nat.succ_le_succ yl
  ·rintro σ' H6 ⟨u0,ys,kv,rfl,s6,hy6,hp6,hch,yl⟩;rw [hCs.length,List.take_length] at hch;refine ⟨y,ys,kv,rfl,hy6,hp6,fun dd hdd=>?_⟩;have s06:=s1.trans (s2.trans s6);exact q dd kv ks _ (s06.free hdd) upd_same (chR_mono (same_new hdd) hch) hpm (s06.trans (same_new hdd))
noncomputable def spBest:Sp:=fun vs H Q _=>∃ (p l:Addr) (rs:List Str) (n dp:Int),vs=[.ref p,.int dp]/\BoardAt H p l rs n/\Rows bd.cps.toList rs/\(shutC rs).length<=8/\0<=n/\(0<=dp/\dp<=3)/\laysF rs n ≠ [] /\
 (∀ (ks:List (List (Int × Int))) (H':Hp),ks.Perm (laysF rs n)->Same H H'->(fullAll ks (shutC rs)=true->Q .non H') /\
  (fullAll ks (shutC rs)=false->∀ (t a fp:Addr) (j:Nat) (c:Nat × Nat),H t=none->H' t=some (.tup [.ref a,.ref fp])->H' a=some (.tup [.int (c.1:Nat),.int (c.2:Nat)])->H' fp=some (.tup (frV (thX rs dp.toNat ks c) ks.length)) ->
   (shutC rs)[j]?=some c->(∀ m < j,∀ c',(shutC rs)[m]?=some c'->thX rs dp.toNat ks c' ≠ thX rs dp.toNat ks c)->(∀ c' ∈ shutC rs,thX rs dp.toNat ks c'<=thX rs dp.toNat ks c)->Q (.ref t) H'))
theorem first_at:∀ {ts:List Int} {m:Int},m ∈ ts->∃ j:Nat,ts[j]?=some m/\∀ i:Nat,i < j->ts[i]? ≠ some m
 | t :: r,m,h=>by
  by_cases e:t=m
  ·exact ⟨0,by rw [e]; rfl,fun i hi=>absurd hi (Nat.not_lt_zero i)⟩
  ·rcases List.mem_cons.mp h with h | h
   ·exact absurd h.symm e
   ·obtain ⟨j,h1,h2⟩:=first_at h;refine ⟨j + 1,by rw [List.getElem?_cons_succ]; exact h1,fun i hi=>?_⟩;cases i with
    | zero =>
     intro h3;exact e (Option.some.inj h3)
    | succ i =>
     rw [List.getElem?_cons_succ];exact h2 i (Nat.lt_of_succ_lt_succ hi)
theorem sc_best:FnScope ["board","depth","found","cells","many"] ["board","depth"] (defScope s_best):=⟨rfl,rfl,rfl,by decide +kernel,rfl,by decide +kernel,by decide +kernel⟩
theorem ok_best {f1 f2 f3 f4 f5:Addr}{fd1 fd2 fd3 fd4 fd5:FuncData}(T:Txt mg)(D:DefAt K mg "best" s_best ["board","depth"] f fd)(D_known_layings:DefAt K mg "known_layings" s_known_layings ["board","depth"] f1 fd1)(D_closed:DefAt K mg "closed" s_closed ["board"] f2 fd2)
  (D_fraction:DefAt K mg "fraction" s_fraction ["top","bottom"] f3 fd3) (D_through_by:DefAt K mg "through_by" s_through_by ["board","found","cells","depth","cell"] f4 fd4) (D_all_full:DefAt K mg "all_full" s_all_full ["found","cells"] f5 fd5)
  (G_known_layings:FnOk P w K mg base CX0 5 f1 fd1 ["board","depth"] spKnown) (G_closed:FnOk P w K mg base CX0 2 f2 fd2 ["board"] (spList pShut)) (G_fraction:FnOk P w K mg base CX0 2 f3 fd3 ["top","bottom"] spFr) (G_through_by:FnOk P w K mg base CX0 9 f4 fd4 ["board","found","cells","depth","cell"] spThBA)
  (G_all_full:FnOk P w K mg base CX0 1 f5 fd5 ["found","cells"] spFull):FnOk P w K mg base CX0 10 f fd ["board","depth"] spBest:=by
 refine D.F.ok sc_best (fun vs H Q E h=>?_) (fun cdv A outer s H vs Q E hr h=>?_)
 ·obtain ⟨p,l,rs,n,dp,rfl,_⟩:=h;rfl
 ·obtain ⟨p,l,rs,n,dp,rfl,b,R,h8,n0,⟨d0,d3⟩,hne,q⟩:=h;refine ⟨_,(pss_cons (ps_set (i:=2) sc_best.nd rfl (Or.inr rfl) (pc0 G_known_layings hr D_known_layings (pa_cons (pv 0) (pa_cons (pv 1) pa_nil))))
   (pss_cons (ps_set (i:=3) sc_best.nd rfl (Or.inr rfl) (pc0 G_closed hr D_closed (pa_cons (pv 0) pa_nil)))
   (pss_cons (ps_if (pt_truth (pc0 G_all_full hr D_all_full (pa_cons (pv 2) (pa_cons (pv 3) pa_nil))) (fun _=>rfl)) (pss_one (ps_ret pe_non)) pss_nil)
   (pss_cons (ps_setC (i:=4) sc_best.nd rfl rfl (N:=["cell","board","found","cells","depth"]) (src:=[none,some 0,some 2,some 3,some 1]) (CompOk.free (O:=(defScope s_best).names) (XN:=["board","depth","found","cells","many"]) rfl rfl ⟨_,rfl⟩ rfl rfl (by decide +kernel) (by decide +kernel) (by decide +kernel) rfl (by decide +kernel)) rfl (pi_list (pv 3)) (fun _ _ _ _ _=>(pg_name (i:=0) (by show List.Nodup (["cell","board","found","cells","depth"]:List Str); decide +kernel) rfl (Or.inl rfl))) (fun _ _ _ _ _=>pifs_nil) (fun _ _ _ _ _=>(pc0 G_through_by hr D_through_by (pa_cons (pv 1) (pa_cons (pv 2) (pa_cons (pv 3) (pa_cons (pv 4) (pa_cons (pv 0) pa_nil))))))))
   (pss_one (ps_ret (pe_tup (pa_cons (pe_ix ix_list (pv 3) (pe_bm PySem.F.plainAttrs_list PySem.F.slot_list_index PySem.F.type_list_index mt_indexI (pv 4) (pa_cons (pe_callB (call_maxL hr.hd) (by rfl) T.b_max PyProof.Rows.boot_max (pa_cons (pv 4) pa_nil)) pa_nil)) (fun _ _=>rfl)) (pa_cons (pc0 G_fraction hr D_fraction (pa_cons (pe_callB (call_maxL hr.hd) (by rfl) T.b_max PyProof.Rows.boot_max (pa_cons (pv 4) pa_nil)) (pa_cons (pe_callB call_len_seq (by rfl) T.b_len PySem.boot_len (pa_cons (pv 2) pa_nil)) pa_nil))) pa_nil))))))))),?_⟩
  refine ⟨_,rfl,_,rfl,p,l,rs,n,dp,rfl,b,R,h8,n0,⟨d0,d3⟩,hne,fun fa ws ks H1 hfa hfa1 hL1 _ hpm _ s1=>?_⟩;obtain ⟨d,rfl⟩:∃ d:Nat,dp=d:=⟨dp.toNat,by omega⟩;rw [Int.toNat_natCast] at q;refine ⟨_,rfl,p,l,rs,n,rfl,b.mono s1,R,fun ca us H2 hca hca2 hC s2=>?_⟩;have hCs:Cel H2 us (shutC rs):=hC;have ul:us.length<=8:=by
   rw [hCs.length];exact h8
  have kl:ks.length<=256:=hpm.length_eq ▸ lays_len rs n h8;have k0:0 < ks.length:=by
   rw [hpm.length_eq];exact List.length_pos_iff.mpr hne
  have wl:ws.length=ks.length:=lists_len hL1;have ksh:∀ k ∈ ks,k.length<=8:=fun k hk=>lays_short h8 (hpm.mem_iff.mp hk);refine ⟨_,rfl,_,rfl,fa,ca,ws,us,ks,shutC rs,_,rfl,s2 _ _ hfa1,lists_mono s2 hL1,by omega,hca2,hCs,by omega,fun H3 s3=>?_⟩;have s03:=s1.trans (s2.trans s3);refine ⟨_,rfl,?_⟩;cases hfu:fullAll ks (shutC rs) with
  | true =>
   refine iteT ?_;exact (q ks H3 hpm s03).1 hfu
  | false =>
   refine iteF ?_;refine ⟨_,rfl,ca,rfl,⟨_,SqL.of (s3 _ _ hca2)⟩,fun y hy=>?_⟩;refine comp_list (K:=K) (a:=ca) (xs:=us) (fun i σ' H'=>∃ (u0:Option V),σ'=[u0,some (.ref p),some (.ref fa),some (.ref ca),some (.int (d:Nat))]/\Same H3 H'/\H' y=some (.lst ((((shutC rs).take i).map fun c=>((thX rs d ks c:Nat):Int)).map V.int)))
    ⟨_,rfl,same_new hy,upd_same⟩ (fun i σ' H' _ ⟨_,_,s6,_⟩=>SqL.of (s6 _ _ (s3 _ _ hca2))) ?_ ?_
   ·rintro i x σ' H6 hx ⟨u0,rfl,s6,hy6⟩;obtain ⟨c,hci,cc,rfl,hcc⟩:=Cel.get ((hCs.mono s3).mono s6) hx;have s36:=s3.trans s6;have s26:=s2.trans s36;have ci:=(List.getElem?_eq_some_iff.mp hx).1;have c64:c.1 < 64/\c.2 < 64:=shut_small R (List.mem_of_getElem? hci);unfold gName;refine yes_if ?_;refine ⟨_,rfl,_,rfl,_,rfl,_,rfl,_,rfl,d,by omega,p,l,fa,ca,cc,rs,n,c,shutC rs,ws,us,ks,_,rfl,(b.mono s1).mono s26,R,hcc,c64.1,c64.2,s26 _ _ hfa1,lists_mono s26 hL1,ksh,by omega,s36 _ _ hca2,hCs.mono s36,by omega,(fun c hc=>shut_small R hc),fun H7 s7=>?_⟩;refine ⟨_,s7 _ _ hy6,?_,_,rfl,fun b' o e'=>?_,?_⟩
    ·simp only [List.length_map,List.length_take];exact Nat.lt_of_le_of_lt (show min i (shutC rs).length<=100 by omega) (by decide)
    ·rw [upd_ne (ne_of_none e' hy)];exact s7 _ _ (s6 _ _ e')
    ·rw [upd_same,List.take_add_one,hci,List.map_append,List.map_append];rfl
   ·rintro σ' H6 ⟨u0,rfl,s6,hy6⟩;rw [hCs.length,List.take_length] at hy6;have cne:shutC rs ≠ []:=by
     intro e;rw [e] at hfu;have:fullAll ks []=true:=by
      unfold fullAll;exact List.all_eq_true.mpr fun k _=>rfl
     rw [this] at hfu;cases hfu
    generalize hts:((shutC rs).map fun c=>((thX rs d ks c:Nat):Int))=ts at hy6;have tne:ts ≠ []:=by
     intro e;rw [e] at hts;exact cne (List.map_eq_nil_iff.mp hts)
    refine ⟨_,rfl,_,rfl,.inl ⟨rfl,_,SqL.of hy6⟩,_,rfl,y,ts,rfl,SqL.of hy6,tne,fun m hm hmx=>?_⟩;obtain ⟨j,hj,hfst⟩:=first_at hm;have jl:j < ts.length:=(List.getElem?_eq_some_iff.mp hj).1;have tl:ts.length=(shutC rs).length:=by
     rw [<- hts,List.length_map]
    refine ⟨y,ts,m,j,rfl,rfl,hy6,hj,hfst,by omega,?_⟩;obtain ⟨v,hv⟩:∃ v,us[j]?=some v:=⟨us[j]'(by rw [hCs.length]; omega),List.getElem?_eq_getElem (by rw [hCs.length]; omega)⟩;have s36:=s3.trans s6;obtain ⟨c,hc,cc,rfl,hcc⟩:=Cel.get (hCs.mono s36) hv;have mc:m=((thX rs d ks c:Nat):Int):=by
     rw [<- hts,List.getElem?_map,hc] at hj;exact (Option.some.inj hj).symm
    refine ⟨ca,us,(j:Nat),_,rfl,rfl,SqL.of (s36 _ _ hca2),atI_nat hv,?_⟩;refine ⟨_,rfl,y,ts,rfl,SqL.of hy6,tne,fun m2 hm2 hmx2=>?_⟩;have m2e:m2=((thX rs d ks c:Nat):Int):=by
     have h1:=hmx m2 hm2;have h2:=hmx2 m hm;omega
    subst m2e;refine ⟨_,rfl,fa,ws,rfl,.inl (SqL.of ((s2.trans s36) _ _ hfa1)),_,_,rfl,by omega,?_,fun fp hfp=>?_⟩
    ·rw [wl];exact Nat.lt_of_le_of_lt (show ((ks.length:Nat):Int).natAbs<=256 by omega) (by decide)
    have s8:=same_new (o:=.tup [.int (((thX rs d ks c:Nat):Int) / (Int.gcd ((thX rs d ks c:Nat):Int) ((ws.length:Nat):Int):Nat)),.int (((ws.length:Nat):Int) / (Int.gcd ((thX rs d ks c:Nat):Int) ((ws.length:Nat):Int):Nat))]) hfp;rw [wl] at s8 ⊢;refine ⟨sz_2,fun tp htp=>?_⟩;have s9:=same_new (o:=.tup [.ref cc,.ref fp]) htp;have s69:=s8.trans s9;refine (q ks _ hpm (s03.trans (s6.trans s69))).2 hfu tp cc fp j c ((s03.trans (s6.trans s8)).free htp) upd_same (s69 _ _ hcc) (s9 _ _ upd_same) hc (fun i hi c' hc' e=>?_) fun c' hc'=>?_
    ·refine hfst i hi ?_;rw [<- hts,List.getElem?_map,hc',mc,<- e];rfl
    ·have:=hmx ((thX rs d ks c':Nat):Int) (by rw [<- hts]; exact List.mem_map.mpr ⟨c',hc',rfl⟩);omega
noncomputable def RowAt (H:Hp)(v:V)(t:List Nat):Prop:=v=V.str ⟨t.toArray⟩\/∃ a,v=V.ref a/\H a=some (.lst (t.map fun c=>V.str ⟨#[c]⟩))
noncomputable def GridAt (H:Hp):List V->List (List Nat)->Prop:=Paired (RowAt H)
theorem GridAt.get {H:Hp}:∀ {vs:List V} {gs:List (List Nat)} {i:Nat} {t:List Nat},GridAt H vs gs->gs[i]?=some t->∃ v,vs[i]?=some v/\RowAt H v t
 | _,_,_,_,.nil,e=>by simp at e
 | _,_,0,_,.cons r _,e=>by
  simp at e;subst e;exact ⟨_,rfl,r⟩
 | _,_,i + 1,t,.cons _ q,e=>by
  obtain ⟨c,h1,h2⟩:=GridAt.get (i:=i) (t:=t) q (by simpa using e);exact ⟨c,by simpa using h1,h2⟩
theorem GridAt.rows (H:Hp):∀ rs:List Str,GridAt H (rs.map V.str) (codes rs)
 | []=>.nil
 | t :: r=>.cons (.inl (by
   obtain ⟨⟨x⟩⟩:=t;rfl)) (GridAt.rows H r)
noncomputable def pZ (zs:List Nat)(k:Nat):Bool:=decide (k ∈ zs)
theorem eqV_signs (k c:Nat):eqV (V.str ⟨#[c]⟩) (V.str ⟨#[k]⟩)=decide (c=k):=by
 have e0:eqV (V.str ⟨#[c]⟩) (V.str ⟨#[k]⟩)=((⟨#[c]⟩:Str) == (⟨#[k]⟩:Str)):=rfl;rw [e0,Bool.eq_iff_iff,beq_iff_eq,decide_eq_true_eq];constructor
 ·intro h;have h3:(#[c]:Array Nat)=#[k]:=congrArg Str.cps h;simpa using h3
 ·rintro rfl;rfl
theorem in_signs (k:Nat)(zs:List Nat):inV (V.str ⟨#[k]⟩) (zs.map fun c=>V.str ⟨#[c]⟩)=pZ zs k:=by
 unfold inV pZ;rw [List.any_map,Bool.eq_iff_iff,List.any_eq_true,decide_eq_true_eq];constructor
 ·rintro ⟨c,hc,h⟩;have e:c=k:=of_decide_eq_true ((eqV_signs k c).symm.trans h);rw [<- e];exact hc
 ·intro h;exact ⟨k,h,(eqV_signs k k).trans (decide_eq_true rfl)⟩
theorem flat_signs (zs:List Nat):(zs.map fun c=>V.str ⟨#[c]⟩).all flatV=true:=by
 rw [List.all_eq_true];intro v hv;obtain ⟨c,_,rfl⟩:=List.mem_map.mp hv;rfl
noncomputable def Same1 (H H':Hp)(d:Addr):Prop:=∀ b o,b ≠ d->H b=some o->H' b=some o
noncomputable def spLCells:Sp:=fun vs H Q _=>∃ (l sg:Addr) (us:List V) (gs:List (List Nat)) (zs:List Nat),vs=[.ref l,.ref sg]/\H l=some (.lst us)/\GridAt H us gs/\gs.length<=8/\(∀ t ∈ gs,t.length<=8)/\H sg=some (.lst (zs.map fun c=>V.str ⟨#[c]⟩)) /\
 ∀ (d:Addr) (ws:List V) (H':Hp),H d=none->H' d=some (.lst ws)->Cel H' ws (Cells.allCs (pZ zs) 0 gs)->Same H H'->Q (.ref d) H'
theorem sc_law_cells:FnScope ["_law_rows","_law_signs","_law_found","_law_row","_law_column"] ["_law_rows","_law_signs"] (defScope s_law_cells):=⟨rfl,rfl,rfl,by decide +kernel,rfl,by decide +kernel,by decide +kernel⟩
theorem ok_law_cells (T:Txt mg)(D:DefAt K mg "_law_cells" s_law_cells ["_law_rows","_law_signs"] f fd):FnOk P w K mg base CX0 1 f fd ["_law_rows","_law_signs"] spLCells:=by
 refine D.F.ok sc_law_cells (fun vs H Q E h=>?_) (fun cdv A outer s H vs Q E hr h=>?_)
 ·obtain ⟨l,sg,us,gs,zs,rfl,_⟩:=h;rfl
 ·obtain ⟨l,sg,us,gs,zs,rfl,hl,hG,g8,t8,hsg,q⟩:=h;have ul:us.length=gs.length:=Paired.length hG;refine ⟨_,(pss_cons (ps_set (i:=2) sc_law_cells.nd rfl (Or.inl rfl) (pe_lst pa_nil))
   (pss_cons (ps_for PassesOwn.never rfl (pi_range1 (by rfl) T.b_range (pa_cons (pe_callB call_len_seq (by rfl) T.b_len PySem.boot_len (pa_cons (pv 0) pa_nil)) pa_nil)) (pg_name (i:=3) sc_law_cells.nd rfl (Or.inl rfl)) (pss_one (ps_for PassesOwn.never rfl (pi_range1 (by rfl) T.b_range (pa_cons (pe_callB call_len_is (by rfl) T.b_len PySem.boot_len (pa_cons (pe_ix ix_list (pv 0) (pv 3) (fun _ _=>rfl)) pa_nil)) pa_nil)) (pg_name (i:=4) sc_law_cells.nd rfl (Or.inl rfl)) (pss_one (ps_if (pt_cmpR op_in_seq (pe_ix ix_is (pe_ix ix_list (pv 0) (pv 3) (fun _ _=>rfl)) (pv 4) (fun _ _=>rfl)) (pv 1) (by rfl)) (pss_one (ps_expr (pe_bm PySem.F.plainAttrs_list PySem.F.slot_list_append PySem.F.type_list_append mt_append (pv 2) (pa_cons (pe_tup (pa_cons (pv 3) (pa_cons (pv 4) pa_nil))) pa_nil)))) pss_nil)))))
   (pss_one (ps_ret (pv 2))))),?_⟩
  refine ⟨sz_0,fun d hd=>?_⟩;have s0:Same H (upd H d (.lst [])):=same_new hd;refine ⟨_,rfl,l,_,rfl,.inl (SqL.of (s0 _ _ hl)),_,rfl,by omega,by omega,?_⟩;rw [Int.toNat_natCast,ul];refine for_range (lo:=0) (n:=gs.length) (fun i σ H'=>∃ (v3 v4:Option V) (ws:List V),σ=[some (.ref l),some (.ref sg),some (.ref d),v3,v4]/\Same H H'/\H' d=some (.lst ws)/\Cel H' ws (Cells.allCs (pZ zs) 0 (gs.take i))) ⟨_,_,[],rfl,s0,upd_same,.nil⟩ ?_ ?_
  ·rintro i σ H1 hi ⟨v3,v4,ws,rfl,s1,hd1,hc1⟩;obtain ⟨t,ht⟩:∃ t,gs[i]?=some t:=⟨_,List.getElem?_eq_getElem hi⟩;have tl:=t8 t (List.mem_of_getElem? ht);obtain ⟨v,hv,hrow⟩:=GridAt.get hG ht;have hat:atI us (0 + (i:Int))=some v:=by
    rw [Int.zero_add];exact atI_nat hv
   refine ⟨_,rfl,_,rfl,l,_,_,v,rfl,rfl,SqL.of (s1 _ _ hl),hat,?_⟩;rcases hrow with rfl | ⟨ra,rfl,hra0⟩
   ·have zl:(⟨t.toArray⟩:Str).length=t.length:=by show t.toArray.size=_; rw [List.size_toArray]
    refine .inr ⟨⟨t.toArray⟩,rfl,by rw [zl]; exact Nat.le_trans tl (by decide),_,rfl,by rw [zl]; omega,by rw [zl]; omega,?_⟩;rw [Int.toNat_natCast,zl];refine for_range (lo:=0) (n:=t.length) (fun j σ H'=>∃ (v4:Option V) (ws:List V),σ=[some (.ref l),some (.ref sg),some (.ref d),some (.int (0 + (i:Int))),v4]/\Same H H'/\Same1 H1 H' d/\H' d=some (.lst ws)/\Cel H' ws (Cells.allCs (pZ zs) 0 (gs.take i)++Cells.rowCs (pZ zs) i 0 (t.take j))) ⟨_,ws,rfl,s1,fun b o _ e=>e,hd1,by rw [List.take_zero]; rw [show Cells.rowCs (pZ zs) i 0 []=[] from rfl,List.append_nil]; exact hc1⟩ ?_ ?_
    ·rintro j σ H2 hj ⟨v4,ws2,rfl,s2,s12,hd2,hc2⟩;obtain ⟨k,hk⟩:∃ k,t[j]?=some k:=⟨_,List.getElem?_eq_getElem hj⟩;have st:=Cells.rowCs_step (p:=pZ zs) (i:=i) hk;refine ⟨_,rfl,_,rfl,l,_,_,_,rfl,rfl,SqL.of (s2 _ _ hl),hat,_,rfl,.inr ⟨⟨t.toArray⟩,_,k,rfl,rfl,by rw [zl]; exact Nat.le_trans tl (by decide),(by rw [Int.zero_add]; exact atI_nat hk),_,rfl,sg,_,rfl,.inl (SqL.of (s2 _ _ hsg)),rfl,flat_signs zs,_,rfl,?_⟩⟩;have ein:(if false=true then !inV (V.str ⟨#[k]⟩) (zs.map fun c=>V.str ⟨#[c]⟩) else inV (V.str ⟨#[k]⟩) (zs.map fun c=>V.str ⟨#[c]⟩))=pZ zs k:=in_signs k zs;rw [ein];have hlen:ws2.length<=200:=by
      rw [hc2.length,List.length_append];have a1:=Cells.rowCs_length (pZ zs) i 0 (t.take j);have a2:=Cells.allCs_length (pZ zs) 0 (gs.take i) fun u hu=>t8 u (List.mem_of_mem_take hu);rw [List.length_take] at a1 a2;omega
     by_cases hp:pZ zs k=true
     ·rw [if_pos hp] at st;refine iteP hp ⟨_,rfl,.inl ⟨rfl,_,SqL.of hd2⟩,_,rfl,_,rfl,sz_2,fun tq htq=>?_⟩;have s3:=same_new (o:=.tup [.int (0 + (i:Int)),.int (0 + (j:Int))]) htq;refine ⟨d,_,_,rfl,rfl,s3 _ _ hd2,Nat.lt_of_le_of_lt hlen (by decide),_,ws2++[.ref tq],rfl,fun b o e=>?_,fun b o nb e=>?_,upd_same,?_⟩
      ·rw [upd_ne (ne_of_none e hd)];exact s3 _ _ (s2 _ _ e)
      ·rw [upd_ne nb];exact s3 _ _ (s12 b o nb e)
      ·rw [st,<- List.append_assoc];refine Cel.into d _ (s3 _ _ hd2) (Cel.snoc (Cel.mono s3 hc2) ⟨tq,rfl,?_⟩);rw [upd_same,Int.zero_add,Int.zero_add]
     ·rw [if_neg hp,List.append_nil] at st;refine iteN (Bool.eq_false_iff.mpr hp) ⟨_,ws2,rfl,s2,s12,hd2,?_⟩;rw [st];exact hc2
    ·rintro σ H2 ⟨v4,ws2,rfl,s2,_,hd2,hc2⟩;refine ⟨_,_,ws2,rfl,s2,hd2,?_⟩;rw [Cells.allCs_step ht];rw [List.take_length] at hc2;exact hc2
   ·have hra:=s1 _ _ hra0;have nra:ra ≠ d:=ne_of_none hra0 hd;have zl:(t.map fun c=>V.str ⟨#[c]⟩).length=t.length:=List.length_map _;refine .inl ⟨ra,_,rfl,.inl (SqL.of hra),_,rfl,by rw [zl]; omega,by rw [zl]; omega,?_⟩;rw [Int.toNat_natCast,zl];refine for_range (lo:=0) (n:=t.length) (fun j σ H'=>∃ (v4:Option V) (ws:List V),σ=[some (.ref l),some (.ref sg),some (.ref d),some (.int (0 + (i:Int))),v4]/\Same H H'/\Same1 H1 H' d/\H' d=some (.lst ws)/\Cel H' ws (Cells.allCs (pZ zs) 0 (gs.take i)++Cells.rowCs (pZ zs) i 0 (t.take j))) ⟨_,ws,rfl,s1,fun b o _ e=>e,hd1,by rw [List.take_zero]; rw [show Cells.rowCs (pZ zs) i 0 []=[] from rfl,List.append_nil]; exact hc1⟩ ?_ ?_
    ·rintro j σ H2 hj ⟨v4,ws2,rfl,s2,s12,hd2,hc2⟩;obtain ⟨k,hk⟩:∃ k,t[j]?=some k:=⟨_,List.getElem?_eq_getElem hj⟩;have st:=Cells.rowCs_step (p:=pZ zs) (i:=i) hk;refine ⟨_,rfl,_,rfl,l,_,_,_,rfl,rfl,SqL.of (s2 _ _ hl),hat,_,rfl,.inl ⟨ra,_,_,V.str ⟨#[k]⟩,rfl,rfl,SqL.of (s12 _ _ nra hra),(by rw [Int.zero_add]; exact atI_nat (by rw [List.getElem?_map,hk]; rfl)),_,rfl,sg,_,rfl,.inl (SqL.of (s2 _ _ hsg)),rfl,flat_signs zs,_,rfl,?_⟩⟩;have ein:(if false=true then !inV (V.str ⟨#[k]⟩) (zs.map fun c=>V.str ⟨#[c]⟩) else inV (V.str ⟨#[k]⟩) (zs.map fun c=>V.str ⟨#[c]⟩))=pZ zs k:=in_signs k zs;rw [ein];have hlen:ws2.length<=200:=by
      rw [hc2.length,List.length_append];have a1:=Cells.rowCs_length (pZ zs) i 0 (t.take j);have a2:=Cells.allCs_length (pZ zs) 0 (gs.take i) fun u hu=>t8 u (List.mem_of_mem_take hu);rw [List.length_take] at a1 a2;omega
     by_cases hp:pZ zs k=true
     ·rw [if_pos hp] at st;refine iteP hp ⟨_,rfl,.inl ⟨rfl,_,SqL.of hd2⟩,_,rfl,_,rfl,sz_2,fun tq htq=>?_⟩;have s3:=same_new (o:=.tup [.int (0 + (i:Int)),.int (0 + (j:Int))]) htq;refine ⟨d,_,_,rfl,rfl,s3 _ _ hd2,Nat.lt_of_le_of_lt hlen (by decide),_,ws2++[.ref tq],rfl,fun b o e=>?_,fun b o nb e=>?_,upd_same,?_⟩
      ·rw [upd_ne (ne_of_none e hd)];exact s3 _ _ (s2 _ _ e)
      ·rw [upd_ne nb];exact s3 _ _ (s12 b o nb e)
      ·rw [st,<- List.append_assoc];refine Cel.into d _ (s3 _ _ hd2) (Cel.snoc (Cel.mono s3 hc2) ⟨tq,rfl,?_⟩);rw [upd_same,Int.zero_add,Int.zero_add]
     ·rw [if_neg hp,List.append_nil] at st;refine iteN (Bool.eq_false_iff.mpr hp) ⟨_,ws2,rfl,s2,s12,hd2,?_⟩;rw [st];exact hc2
    ·rintro σ H2 ⟨v4,ws2,rfl,s2,_,hd2,hc2⟩;refine ⟨_,_,ws2,rfl,s2,hd2,?_⟩;rw [Cells.allCs_step ht];rw [List.take_length] at hc2;exact hc2
  ·rintro σ H1 ⟨v3,v4,ws,rfl,s1,hd1,hc1⟩;rw [List.take_length] at hc1;exact ⟨_,rfl,q d ws H1 hd hd1 hc1 s1⟩
noncomputable def spNearB:Sp:=fun vs H Q _=>∃ (a b:Addr) (c d:Nat × Nat),vs=[.ref a,.ref b]/\H a=some (.tup [.int (c.1:Nat),.int (c.2:Nat)])/\H b=some (.tup [.int (d.1:Nat),.int (d.2:Nat)])/\Q (.bl (Cells.near c d)) H
theorem abs2 (i j:Nat):decide ((if ((i:Nat):Int) - ((j:Nat):Int) < 0 then -(((i:Nat):Int) - ((j:Nat):Int)) else ((i:Nat):Int) - ((j:Nat):Int)) < 2)=decide (i<=j + 1/\j<=i + 1):=by
 rw [decide_eq_decide];split <;> omega
theorem sc_law_near:FnScope ["_law_one","_law_other"] ["_law_one","_law_other"] (defScope s_law_near):=⟨rfl,rfl,rfl,by decide +kernel,rfl,by decide +kernel,by decide +kernel⟩
theorem ok_law_near (T:Txt mg)(D:DefAt K mg "_law_near" s_law_near ["_law_one","_law_other"] f fd):FnOk P w K mg base CX0 1 f fd ["_law_one","_law_other"] spNearB:=by
 refine D.F.ok sc_law_near (fun vs H Q E h=>?_) (fun cdv A outer s H vs Q E hr h=>?_)
 ·obtain ⟨a,b,c,d,rfl,_⟩:=h;rfl
 ·obtain ⟨a,b,c,d,rfl,ha,hb,q⟩:=h;refine ⟨_,(pss_one (ps_ret (pe_and (pe_cmpR (op_ne_deep hr.units) (pv 0) (pv 1) (nomark _)) (pe_and (pe_cmpR op_lt (pe_callB call_abs (by rfl) T.b_abs PyProof.Rows.boot_abs (pa_cons (pe_op op_sub (pe_ix ix_tup (pv 0) pe_int (fun _ _=>rfl)) (pe_ix ix_tup (pv 1) pe_int (fun _ _=>rfl))) pa_nil)) pe_int (nomark _)) (pe_one (pe_cmpR op_lt (pe_callB call_abs (by rfl) T.b_abs PyProof.Rows.boot_abs (pa_cons (pe_op op_sub (pe_ix ix_tup (pv 0) pe_int (fun _ _=>rfl)) (pe_ix ix_tup (pv 1) pe_int (fun _ _=>rfl))) pa_nil)) pe_int (nomark _))))))),?_⟩;have nf:∀ x:Bool,(x=true ↔ Cells.near c d=true)->Cells.near c d=x:=fun x h=>Bool.eq_iff_iff.mpr h.symm;have ni:=Cells.near_iff (x:=c) (y:=d);refine ⟨_,rfl,_,rfl,cData c,cData d,CelR.rdv ⟨a,rfl,ha⟩,CelR.rdv ⟨b,rfl,hb⟩,cData_cmp c d,?_⟩;have e1:(if true=true then !PyData.eqv (cData c) (cData d) else PyData.eqv (cData c) (cData d))=!decide (c=d):=by
   show (!PyData.eqv _ _)=_;rw [cData_eqv]
  rw [e1];refine ⟨_,rfl,?_⟩;by_cases hcd:c=d
  ·rw [decide_eq_true hcd];refine iteF ?_;have:Cells.near c d=false:=by
    rw [Bool.eq_false_iff,ne_eq,ni];exact fun h=>h.2.2 hcd
   rw [this] at q;exact q
  ·rw [decide_eq_false hcd];refine iteT ?_;refine ⟨_,rfl,a,_,0,_,rfl,rfl,SqT.of ha,rfl,_,rfl,b,_,0,_,rfl,rfl,SqT.of hb,rfl,_,_,rfl,rfl,_,rfl,_,_,rfl,rfl,?_⟩;refine ⟨decide (c.1<=d.1 + 1/\d.1<=c.1 + 1),congrArg V.bl (abs2 c.1 d.1),?_⟩;by_cases h1:c.1<=d.1 + 1/\d.1<=c.1 + 1
   ·rw [decide_eq_true h1];refine iteT ⟨_,rfl,a,_,1,_,rfl,rfl,SqT.of ha,rfl,_,rfl,b,_,1,_,rfl,rfl,SqT.of hb,rfl,_,_,rfl,rfl,_,rfl,_,_,rfl,rfl,?_⟩;have:Cells.near c d=decide (c.2<=d.2 + 1/\d.2<=c.2 + 1):=by
     rw [Bool.eq_iff_iff,ni,decide_eq_true_eq];exact ⟨fun h=>h.2.1,fun h=>⟨h1,h,hcd⟩⟩
    show Q (V.bl (decide ((if ((c.2:Nat):Int) - ((d.2:Nat):Int) < 0 then -(((c.2:Nat):Int) - ((d.2:Nat):Int)) else ((c.2:Nat):Int) - ((d.2:Nat):Int)) < 2))) H;rw [abs2,<- this];exact q
   ·rw [decide_eq_false h1];refine iteF ?_;have:Cells.near c d=false:=by
     rw [Bool.eq_false_iff,ne_eq,ni];exact fun h=>h1 h.1
    rw [this] at q;exact q
noncomputable def spMixed:Sp:=fun vs H Q _=>∃ (c k:Int),vs=[.int c,.int k]/\∀ z:Int,Q (.int z) H
noncomputable def marks:List Nat:=[35,111,99,46]
noncomputable def spMark:Sp:=fun vs H Q _=>∃ (x o m:Int) (r:Bool),vs=[.int x,.int o,.int m,.bl r]/\0 < o/\∀ k:Nat,k ∈ marks->(r=false->k ≠ 111/\k ≠ 99)->Q (.str ⟨#[k]⟩) H
theorem mk_o:("o":Str)=⟨#[111]⟩:=by decide +kernel
theorem mk_c:("c":Str)=⟨#[99]⟩:=by decide +kernel
theorem mk_d:(".":Str)=⟨#[46]⟩:=by decide +kernel
theorem sc_law_mixed:FnScope ["_law_cell","_law_k","_law_drawn_here"] ["_law_cell","_law_k"] (defScope s_law_mixed):=⟨rfl,rfl,rfl,by decide +kernel,rfl,by decide +kernel,by decide +kernel⟩
theorem ok_law_mixed (D:DefAt K mg "_law_mixed" s_law_mixed ["_law_cell","_law_k"] f fd):FnOk P w K mg base CX0 1 f fd ["_law_cell","_law_k"] spMixed:=by
 refine D.F.ok sc_law_mixed (fun vs H Q E h=>?_) (fun cdv A outer s H vs Q E hr h=>?_)
 ·obtain ⟨c,i,rfl,_⟩:=h;rfl
 ·obtain ⟨c,i,rfl,k⟩:=h;refine ⟨_,(pss_cons (ps_set (i:=2) sc_law_mixed.nd rfl (Or.inl rfl) (pe_op op_mod (pe_op op_add (pe_op op_add (pe_op op_mod (pv 0) pe_int) (pe_op op_mulG pe_int (pv 1))) pe_int) pe_int))
   (pss_cons (ps_set (i:=2) sc_law_mixed.nd rfl (Or.inl rfl) (pe_op op_mod (pe_op op_mulG (pe_op op_mod (pe_op op_mulG (pv 2) (pv 2)) pe_int) pe_int) pe_int))
   (pss_one (ps_ret (pe_op op_fdivG (pv 2) pe_int))))),?_⟩
  refine ⟨_,rfl,_,_,rfl,rfl,(by show (0:Int) < 2147483629; decide),_,rfl,_,_,rfl,rfl,mulL (by decide) (by decide),_,_,rfl,rfl,_,_,rfl,rfl,_,_,rfl,rfl,(by show (0:Int) < 2147483647; decide),?_⟩;have a0:=Int.emod_nonneg (c % 2147483629 + 7919 * i + 11) (show (2147483647:Int) ≠ 0 by decide);have a1:=Int.emod_lt_of_pos (c % 2147483629 + 7919 * i + 11) (show (0:Int) < 2147483647 by decide);generalize (c % 2147483629 + 7919 * i + 11) % 2147483647=d at *
  refine ⟨_,rfl,_,rfl,_,_,rfl,rfl,mulL (by omega) (by omega),_,_,rfl,rfl,(by show (0:Int) < 2147483647; decide),_,_,rfl,rfl,mulS (by decide) (by decide),_,_,rfl,rfl,(by show (0:Int) < 2147483587; decide),?_⟩;exact ⟨_,rfl,_,_,rfl,rfl,CDivG.small (by decide) (by decide),k _⟩
theorem sc_law_mark:FnScope ["_law_drawn_here","_law_often","_law_many","_law_room"] ["_law_drawn_here","_law_often","_law_many","_law_room"] (defScope s_law_mark):=⟨rfl,rfl,rfl,by decide +kernel,rfl,by decide +kernel,by decide +kernel⟩
theorem ok_law_mark (D:DefAt K mg "_law_mark" s_law_mark ["_law_drawn_here","_law_often","_law_many","_law_room"] f fd):FnOk P w K mg base CX0 1 f fd ["_law_drawn_here","_law_often","_law_many","_law_room"] spMark:=by
 refine D.F.ok sc_law_mark (fun vs H Q E h=>?_) (fun cdv A outer s H vs Q E hr h=>?_)
 ·obtain ⟨x,o,m,r,rfl,_⟩:=h;rfl
 ·obtain ⟨x,o,m,r,rfl,ho,q⟩:=h;refine ⟨_,(pss_cons (ps_if (pt_cmpR op_eq (pe_op op_mod (pe_op op_fdivG (pv 0) pe_int) pe_int) pe_int (nomark _)) (pss_one (ps_ret pe_str)) pss_nil)
   (pss_cons (ps_if (PW.pt (pw_and (pt_truth (pv 3) (fun _=>rfl)) (pw_and1 (pt_cmpR op_eq (pe_op op_mod (pe_op op_mod (pv 0) pe_int) (pv 1)) pe_int (nomark _))))) (pss_one (ps_ret pe_str)) pss_nil)
   (pss_cons (ps_if (PW.pt (pw_and (pt_truth (pv 3) (fun _=>rfl)) (pw_and1 (pt_cmpR op_lt (pe_op op_mod (pe_op op_fdivG (pv 0) pe_int) pe_int) (pv 2) (nomark _))))) (pss_one (ps_ret pe_str)) pss_nil)
   (pss_one (ps_ret pe_str))))),?_⟩
  have q1:Q (.str "#") H:=by
   rw [hash_is];exact q 35 (by decide) (fun _=>⟨by decide,by decide⟩)
  have q4:Q (.str ".") H:=by
   rw [mk_d];exact q 46 (by decide) (fun _=>⟨by decide,by decide⟩)
  refine ⟨_,rfl,_,_,rfl,rfl,CDivG.small (by decide) (by decide),_,_,rfl,rfl,(by show (0:Int) < 13; decide),rfl,_,rfl,ite2 (fun _=>q1) (fun _=>?_)⟩;cases r with
  | false =>
   refine ⟨_,rfl,_,rfl,iteF (iteF ?_)⟩;exact ⟨_,rfl,_,rfl,iteF (iteF q4)⟩
  | true =>
   have q2:Q (.str "o") H:=by
    rw [mk_o];exact q 111 (by decide) (fun h=>nomatch h)
   have q3:Q (.str "c") H:=by
    rw [mk_c];exact q 99 (by decide) (fun h=>nomatch h)
   refine ⟨_,rfl,_,rfl,iteT ⟨_,rfl,_,_,rfl,rfl,(by show (0:Int) < 64; decide),_,rfl,_,_,rfl,rfl,ho,rfl,_,rfl,ite2 (fun _=>q2) (fun _=>?_)⟩⟩;exact ⟨_,rfl,_,rfl,iteT ⟨_,rfl,_,_,rfl,rfl,CDivG.small (by decide) (by decide),_,_,rfl,rfl,(by show (0:Int) < 5; decide),_,rfl,_,_,rfl,rfl,_,rfl,ite2 (fun _=>q3) (fun _=>q4)⟩⟩
noncomputable def isShut (k:Nat):Bool:=decide (k=111) || decide (k=99)
noncomputable def cntR (t:List Nat):Nat:=(t.filter isShut).length
noncomputable def cntG (gs:List (List Nat)):Nat:=(gs.map cntR).sum
theorem cntR_snoc (t:List Nat)(k:Nat):cntR (t++[k])=cntR t + (if isShut k=true then 1 else 0):=by
 unfold cntR;rw [List.filter_append,List.length_append,List.filter_cons];split <;> rfl
theorem cntG_snoc (gs:List (List Nat))(t:List Nat):cntG (gs++[t])=cntG gs + cntR t:=by
 unfold cntG;rw [List.map_append,List.sum_append];simp
noncomputable def MrkR (H:Hp)(v:V)(t:List Nat):Prop:=∃ a,v=V.ref a/\H a=some (.lst (t.map fun c=>V.str ⟨#[c]⟩))
noncomputable def MrkAt (H:Hp):List V->List (List Nat)->Prop:=Paired (MrkR H)
theorem MrkAt.mono {H H':Hp}(s:Same H H'):∀ {vs:List V} {gs:List (List Nat)},MrkAt H vs gs->MrkAt H' vs gs
 | _,_,.nil=>.nil
 | _,_,.cons ⟨a,e,h⟩ t=>.cons ⟨a,e,s _ _ h⟩ (MrkAt.mono s t)
theorem MrkAt.keep {H H':Hp}{d:Addr}(k:∀ b o,b ≠ d->H b=some o->H' b=some o):∀ {vs:List V} {gs:List (List Nat)},MrkAt H vs gs->(∀ v ∈ vs,v ≠ V.ref d)->MrkAt H' vs gs
 | _,_,.nil,_=>.nil
 | _,_,.cons ⟨a,e,h⟩ t,hn=>.cons ⟨a,e,k a _ (fun z=>hn _ List.mem_cons_self (by rw [e,z])) h⟩ (MrkAt.keep k t fun v hv=>hn v (List.mem_cons_of_mem _ hv))
theorem MrkAt.grid {H:Hp}:∀ {vs:List V} {gs:List (List Nat)},MrkAt H vs gs->GridAt H vs gs
 | _,_,.nil=>.nil
 | _,_,.cons ⟨a,e,h⟩ t=>.cons (.inr ⟨a,e,h⟩) (MrkAt.grid t)
structure Marks (gs:List (List Nat)):Prop where
 lo:1<=gs.length
 hi:gs.length<=8
 ex:∃ n,1<=n/\n<=8/\∀ t ∈ gs,t.length=n/\∀ k ∈ t,k ∈ marks
 few:cntG gs<=8
noncomputable def spDrawn (K:PySem.W.Frag):Sp:=fun vs H Q _=>∃ (a:Addr) (ns:List Int),vs=[.ref a,.int 16,.int 8]/\SqL K H a (ns.map V.int) /\
 ∀ (d:Addr) (us:List V) (gs:List (List Nat)) (H':Hp),H d=none->H' d=some (.lst us)->MrkAt H' us gs->Marks gs->Same H H'->Q (.ref d) H'
theorem mr8 (x:Int):1<=1 + x % 8/\1 + x % 8<=8:=by
 have a:=Int.emod_nonneg x (show (8:Int) ≠ 0 by decide);have b:=Int.emod_lt_of_pos x (show (0:Int) < 8 by decide);omega
theorem m18 {x:Int}(h1:1<=x)(h8:x<=8):(0:Int) < (if 16 / x < 8 then 16 / x else 8):=by
 have h:x=1\/x=2\/x=3\/x=4\/x=5\/x=6\/x=7\/x=8:=by omega
 rcases h with rfl | rfl | rfl | rfl | rfl | rfl | rfl | rfl <;> decide
noncomputable def wd (c0 c1:Int):Int:=1 + c1 / 8 % (if 16 / (1 + c0 % 8) < 8 then 16 / (1 + c0 % 8) else 8)
theorem wide18 {c0 c1:Int}(_:Int)(h1:1<=1 + c0 % 8)(h8:1 + c0 % 8<=8):1<=wd c0 c1/\wd c0 c1<=8:=by
 have m:=m18 h1 h8;have a:=Int.emod_nonneg (c1 / 8) (Int.ne_of_gt m);have b:=Int.emod_lt_of_pos (c1 / 8) m;unfold wd;have c:(if 16 / (1 + c0 % 8) < 8 then 16 / (1 + c0 % 8) else 8)<=8:=by split <;> omega
 omega
theorem shut_in:∀ k ∈ marks,([PyData.str "o",PyData.str "c"].any fun z=>PyData.eqv z (.str ⟨#[k]⟩))=isShut k:=by decide +kernel
theorem mark_lay:∀ k ∈ marks,PyData.canLay0 (.str ⟨#[k]⟩)=true:=by decide +kernel
theorem atI_last {α:Type}(xs:List α)(v:α):atI (xs++[v]) (-1)=some v:=by
 have hl:(xs++[v]).length=xs.length + 1:=by simp
 have e:ixN (xs.length + 1) (-1)=some xs.length:=by
  unfold ixN;rw [if_neg (by decide),if_pos (by omega)];congr 1;omega
 unfold atI;rw [hl,e];show (xs++[v])[xs.length]?=some v;simp
theorem sc_law_drawn:FnScope ["_law_script","_law_most","_law_limit","_law_high","_law_wide","_law_often","_law_many","_law_marks","_law_shut","_law_row","_law_line","_law_column","_law_place","_law_drawn_here"] ["_law_script","_law_most","_law_limit"] (defScope s_law_drawn):=⟨rfl,rfl,rfl,by decide +kernel,rfl,by decide +kernel,by decide +kernel⟩
theorem ok_law_drawn {f1 f2 f3:Addr}{fd1 fd2 fd3:FuncData}(T:Txt mg)(D:DefAt K mg "_law_drawn" s_law_drawn ["_law_script","_law_most","_law_limit"] f fd)(D_law_cell_at:DefAt K mg "_law_cell_at" s_law_cell_at ["_law_script","_law_k"] f1 fd1)(D_law_mixed:DefAt K mg "_law_mixed" s_law_mixed ["_law_cell","_law_k"] f2 fd2)(D_law_mark:DefAt K mg "_law_mark" s_law_mark ["_law_drawn_here","_law_often","_law_many","_law_room"] f3 fd3):FnOk P w K mg base CX0 2 f fd ["_law_script","_law_most","_law_limit"] (spDrawn K):=by
 have G_law_cell_at:FnOk P w K mg base CX0 1 f1 fd1 ["_law_script","_law_k"] (spCell K):=ok_law_cell_at T D_law_cell_at;refine D.F.ok sc_law_drawn (fun vs H Q E h=>?_) (fun cdv A outer s H vs Q E hr h=>?_)
 ·obtain ⟨a,ns,rfl,_⟩:=h;rfl
 ·obtain ⟨a,ns,rfl,hS,q⟩:=h;refine ⟨_,(pss_cons (ps_set (i:=3) sc_law_drawn.nd rfl (Or.inl rfl) (pe_op op_add pe_int (pe_op op_mod (pc0 G_law_cell_at hr D_law_cell_at (pa_cons (pv 0) (pa_cons pe_int pa_nil))) (pe_callB (call_min2 rfl) (by rfl) T.b_min PyProof.Rows.boot_min (pa_cons pe_int (pa_cons (pv 1) pa_nil))))))
   (pss_cons (ps_set (i:=4) sc_law_drawn.nd rfl (Or.inl rfl) (pe_op op_add pe_int (pe_op op_mod (pe_op op_fdivG (pc0 G_law_cell_at hr D_law_cell_at (pa_cons (pv 0) (pa_cons pe_int pa_nil))) pe_int) (pe_callB (call_min2 rfl) (by rfl) T.b_min PyProof.Rows.boot_min (pa_cons pe_int (pa_cons (pe_op op_fdivG (pv 1) (pv 3)) pa_nil))))))
   (pss_cons (ps_set (i:=5) sc_law_drawn.nd rfl (Or.inl rfl) (pe_op op_add pe_int (pe_op op_mod (pc0 G_law_cell_at hr D_law_cell_at (pa_cons (pv 0) (pa_cons pe_int pa_nil))) pe_int)))
   (pss_cons (ps_set (i:=6) sc_law_drawn.nd rfl (Or.inl rfl) (pe_op op_mod (pe_op op_fdivG (pc0 G_law_cell_at hr D_law_cell_at (pa_cons (pv 0) (pa_cons pe_int pa_nil))) pe_int) pe_int))
   (pss_cons (ps_set (i:=7) sc_law_drawn.nd rfl (Or.inl rfl) (pe_lst pa_nil))
   (pss_cons (ps_set (i:=8) sc_law_drawn.nd rfl (Or.inl rfl) pe_int)
   (pss_cons (ps_for PassesOwn.never rfl (pi_range1 (by rfl) T.b_range (pa_cons (pv 3) pa_nil)) (pg_name (i:=9) sc_law_drawn.nd rfl (Or.inl rfl)) (pss_cons (ps_set (i:=10) sc_law_drawn.nd rfl (Or.inl rfl) (pe_lst pa_nil))
   (pss_cons (ps_for PassesOwn.never rfl (pi_range1 (by rfl) T.b_range (pa_cons (pv 4) pa_nil)) (pg_name (i:=11) sc_law_drawn.nd rfl (Or.inl rfl)) (pss_cons (ps_set (i:=12) sc_law_drawn.nd rfl (Or.inl rfl) (pe_op op_add (pe_op op_mulG pe_int (pv 9)) (pv 11)))
   (pss_cons (ps_set (i:=13) sc_law_drawn.nd rfl (Or.inl rfl) (pc0 (ok_law_mixed D_law_mixed) hr D_law_mixed (pa_cons (pc0 G_law_cell_at hr D_law_cell_at (pa_cons (pv 0) (pa_cons (pe_op op_add pe_int (pe_op op_mod (pv 12) pe_int)) pa_nil))) (pa_cons (pv 12) pa_nil))))
   (pss_cons (ps_expr (pe_bm PySem.F.plainAttrs_list PySem.F.slot_list_append PySem.F.type_list_append mt_append (pv 10) (pa_cons (pc0 (ok_law_mark D_law_mark) hr D_law_mark (pa_cons (pv 13) (pa_cons (pv 5) (pa_cons (pv 6) (pa_cons (pe_cmpR op_lt (pv 8) (pv 2) (nomark _)) pa_nil))))) pa_nil)))
   (pss_one (ps_set (i:=8) sc_law_drawn.nd rfl (Or.inl rfl) (pe_op op_add (pv 8) (pe_callTy call_int1 (by rfl) T.b_int PyProof.Rows.boot_int (pa_cons (pe_cmpR (op_in_tup hr.units) (pe_ix ix_list (pv 10) (pe_un un_neg pe_int) (fun _ _=>rfl)) (pe_tup (pa_cons pe_str (pa_cons pe_str pa_nil))) (by rfl)) pa_nil)))))))))
   (pss_one (ps_expr (pe_bm PySem.F.plainAttrs_list PySem.F.slot_list_append PySem.F.type_list_append mt_append (pv 7) (pa_cons (pv 10) pa_nil)))))))
   (pss_one (ps_ret (pv 7)))))))))),?_⟩
  refine ⟨_,rfl,a,ns,_,rfl,hS,by decide,fun c0=>⟨_,rfl,8,16,rfl,_,_,rfl,rfl,(by show (0:Int) < 8; decide),_,_,rfl,rfl,?_⟩⟩;obtain ⟨h1,h8⟩:=mr8 c0;refine ⟨_,rfl,a,ns,_,rfl,hS,by decide,fun c1=>⟨_,_,rfl,rfl,CDivG.small (by decide) (by decide),_,rfl,_,rfl,_,_,rfl,rfl,CDivG.small (by show (0:Int) < 1 + c0 % 8; omega) (by show 1 + c0 % 8 < _; exact Int.lt_of_le_of_lt h8 (by decide)),8,_,rfl,_,_,rfl,rfl,?_,_,_,rfl,rfl,?_⟩⟩
  ·show (0:Int) < (if 16 / (1 + c0 % 8) < 8 then 16 / (1 + c0 % 8) else 8);exact m18 h1 h8
  obtain ⟨w1,w8⟩:=wide18 (c0:=c0) (c1:=c1) 0 h1 h8;refine ⟨_,rfl,a,ns,_,rfl,hS,by decide,fun c2=>⟨_,_,rfl,rfl,(by show (0:Int) < 5; decide),_,_,rfl,rfl,?_⟩⟩;have o0:=Int.emod_nonneg c2 (show (5:Int) ≠ 0 by decide);refine ⟨_,rfl,a,ns,_,rfl,hS,by decide,fun c3=>⟨_,_,rfl,rfl,CDivG.small (by decide) (by decide),_,_,rfl,rfl,(by show (0:Int) < 5; decide),?_⟩⟩;refine ⟨sz_0,fun d hd=>?_⟩;have s0:=same_new (o:=.lst []) hd;refine ⟨_,rfl,1 + c0 % 8,rfl,by omega,by omega,?_⟩;refine for_range (lo:=0) (n:=(1 + c0 % 8).toNat) (fun i σ H'=>∃ (v9 v10 v11 v12 v13:Option V) (us:List V) (gs:List (List Nat)),σ=[some (.ref a),some (.int 16),some (.int 8),some (.int (1 + c0 % 8)),some (.int (wd c0 c1)),some (.int (2 + c2 % 5)),some (.int (c3 / 5 % 5)),some (.ref d),some (.int ((cntG gs:Nat):Int)),v9,v10,v11,v12,v13]/\Same H H'/\H' d=some (.lst us)/\MrkAt H' us gs/\(∀ v ∈ us,v ≠ V.ref d)/\gs.length=i/\(∀ t ∈ gs,t.length=(wd c0 c1).toNat/\∀ k ∈ t,k ∈ marks)/\cntG gs<=8) ⟨_,_,_,_,_,[],[],rfl,s0,upd_same,.nil,(fun _ h=>nomatch h),rfl,(fun _ h=>nomatch h),by decide⟩ ?_ ?_
  ·rintro i σ H1 hi ⟨v9,v10,v11,v12,v13,us,gs,rfl,s1,hd1,hM,hnd,gl,hgs,hcnt⟩;refine ⟨sz_0,fun ln hln=>?_⟩;have z2:=same_new (o:=.lst []) hln;refine ⟨_,rfl,wd c0 c1,rfl,by omega,by omega,?_⟩;refine for_range (lo:=0) (n:=(wd c0 c1).toNat) (fun j σ H'=>∃ (v11 v12 v13:Option V) (t:List Nat),σ=[some (.ref a),some (.int 16),some (.int 8),some (.int (1 + c0 % 8)),some (.int (wd c0 c1)),some (.int (2 + c2 % 5)),some (.int (c3 / 5 % 5)),some (.ref d),some (.int (((cntG gs + cntR t):Nat):Int)),some (.int (0 + (i:Int))),some (.ref ln),v11,v12,v13]/\Same H1 H'/\H' ln=some (.lst (t.map fun c=>V.str ⟨#[c]⟩))/\t.length=j/\(∀ k ∈ t,k ∈ marks)/\cntG gs + cntR t<=8) ⟨_,_,_,[],rfl,z2,upd_same,rfl,(fun _ h=>nomatch h),hcnt⟩ ?_ ?_
   ·rintro j σ H2 hj ⟨v11,v12,v13,t,rfl,s2,hln2,tl,htm,hc2⟩;have s12:=s1.trans s2;refine ⟨_,rfl,_,_,rfl,rfl,mulL (by decide) (by decide),_,rfl,_,_,rfl,rfl,?_⟩;have p0:=Int.emod_nonneg (8 * (0 + (i:Int)) + (0 + (j:Int))) (show (58:Int) ≠ 0 by decide);refine ⟨_,rfl,_,rfl,_,_,rfl,rfl,(by show (0:Int) < 58; decide),_,_,rfl,rfl,a,ns,_,rfl,s12.seq hS,(by show (0:Int)<=4 + (8 * (0 + (i:Int)) + (0 + (j:Int))) % 58; omega),fun cc=>⟨_,rfl,_,_,rfl,fun dr=>?_⟩⟩;refine ⟨_,rfl,.inl ⟨rfl,_,SqL.of hln2⟩,_,rfl,_,rfl,_,rfl,_,rfl,_,rfl,_,_,rfl,rfl,_,_,_,_,rfl,(by show (0:Int) < 2 + c2 % 5; omega),fun k hk hroom=>?_⟩;refine ⟨ln,_,_,rfl,rfl,hln2,?_,?_⟩
    ·rw [List.length_map];exact Nat.lt_of_le_of_lt (show _<=8 by omega) (by decide)
    have t1:(t++[k]).map (fun c=>V.str ⟨#[c]⟩)=t.map (fun c=>V.str ⟨#[c]⟩)++[V.str ⟨#[k]⟩]:=by rw [List.map_append]; rfl
    have hln3:upd H2 ln (.lst (t.map (fun c=>V.str ⟨#[c]⟩)++[V.str ⟨#[k]⟩])) ln=some (.lst (t.map (fun c=>V.str ⟨#[c]⟩)++[V.str ⟨#[k]⟩])):=upd_same;have s3:Same H1 (upd H2 ln (.lst (t.map (fun c=>V.str ⟨#[c]⟩)++[V.str ⟨#[k]⟩]))):=fun b o e=>by
     rw [upd_ne (ne_of_none e hln)];exact s2 _ _ e
    generalize upd H2 ln (.lst (t.map (fun c=>V.str ⟨#[c]⟩)++[V.str ⟨#[k]⟩]))=H3 at *
    refine ⟨_,rfl,_,rfl,_,rfl,ln,_,_,V.str ⟨#[k]⟩,rfl,rfl,SqL.of hln3,atI_last _ _,sz_2,fun tp htp=>?_⟩;have z4:=same_new (o:=.tup [V.str "o",V.str "c"]) htp;refine ⟨.str ⟨#[k]⟩,[.str "o",.str "c"],.str _,.tup (SqT.of upd_same) (.cons (.str _) (.cons (.str _) .nil)),mark_lay k hk,by decide +kernel,by show 0<=60; decide,?_⟩;rw [shut_in k hk];refine .inr ⟨_,rfl,_,_,rfl,rfl,?_⟩;have ec:((cntG gs + cntR t:Nat):Int) + (if isShut k=true then 1 else 0)=((cntG gs + cntR (t++[k]):Nat):Int):=by
     rw [cntR_snoc];split <;> omega
    refine ⟨some (.int (0 + (j:Int))),some (.int (8 * (0 + (i:Int)) + (0 + (j:Int)))),some (.int dr),t++[k],?_,s3.trans z4,?_,by rw [List.length_append,tl]; rfl,fun x hx=>?_,?_⟩
    ·show [_,_,_,_,_,_,_,_,some (V.int (((cntG gs + cntR t:Nat):Int) + (if isShut k=true then 1 else 0))),_,_,_,_,_]=_;rw [ec]
    ·rw [t1];exact z4 _ _ hln3
    ·rcases List.mem_append.mp hx with h | h
     ·exact htm x h
     ·have:x=k:=by simpa using h
      rw [this];exact hk
    ·rw [cntR_snoc];split
     ·rename_i hsk;have hlt:((cntG gs + cntR t:Nat):Int) < 8:=by
       refine Classical.byContradiction fun hc=>?_;have hf:=hroom (decide_eq_false hc);unfold isShut at hsk;rw [decide_eq_false hf.1,decide_eq_false hf.2] at hsk;cases hsk
      omega
     ·omega
   ·rintro σ H2 ⟨v11,v12,v13,t,rfl,s2,hln2,tl,htm,hc2⟩;have hd2:=s2 _ _ hd1;have nld:ln ≠ d:=fun z=>by
     rw [z,hd1] at hln;cases hln
    have ul:us.length=gs.length:=Paired.length hM;refine ⟨_,rfl,.inl ⟨rfl,_,SqL.of hd2⟩,_,rfl,d,_,_,rfl,rfl,hd2,?_,?_⟩
    ·exact Nat.lt_of_le_of_lt (show _<=8 by omega) (by decide)
    have hg2:=cntG_snoc gs t;refine ⟨some (.int (0 + (i:Int))),some (.ref ln),v11,v12,v13,us++[.ref ln],gs++[t],?_,fun b o e=>?_,upd_same,?_,fun v hv=>?_,by rw [List.length_append,gl]; rfl,fun u hu=>?_,by rw [hg2]; exact hc2⟩
    ·rw [hg2]
    ·rw [upd_ne (ne_of_none e hd)];exact s2 _ _ (s1 _ _ e)
    ·refine Paired.snoc (MrkAt.keep (d:=d) (fun b o nb e=>by rw [upd_ne nb]; exact s2 _ _ e) hM hnd) ⟨ln,rfl,?_⟩;rw [upd_ne nld];exact hln2
    ·rcases List.mem_append.mp hv with h | h
     ·exact hnd v h
     ·have:v=V.ref ln:=by simpa using h
      rw [this];exact fun z=>nld (V.ref.inj z)
    ·rcases List.mem_append.mp hu with h | h
     ·exact hgs u h
     ·have:u=t:=by simpa using h
      rw [this];exact ⟨tl,htm⟩
  ·rintro σ H1 ⟨v9,v10,v11,v12,v13,us,gs,rfl,s1,hd1,hM,hnd,gl,hgs,hcnt⟩;exact ⟨_,rfl,q d us gs H1 hd hd1 hM ⟨by omega,by omega,⟨(wd c0 c1).toNat,by omega,by omega,hgs⟩,hcnt⟩ s1⟩
theorem nine_is:("012345678":Str).cps.toList=[48,49,50,51,52,53,54,55,56]:=by decide +kernel
theorem pZ_open:∀ k ∈ bd.cps.toList,pZ [48,49,50,51,52,53,54,55,56] k=pOpen k:=by decide +kernel
theorem rowCs_at {p q:Nat->Bool}(i:Nat):∀ (j:Nat) (t:List Nat),(∀ k ∈ t,p k=q k)->Cells.rowCs p i j t=Cells.rowCs q i j t
 | _,[],_=>rfl
 | j,c :: r,h=>by
  rw [Cells.rowCs,Cells.rowCs,h c List.mem_cons_self,rowCs_at i (j + 1) r fun k hk=>h k (List.mem_cons_of_mem _ hk)]
theorem allCs_at {p q:Nat->Bool}:∀ (i:Nat) (gs:List (List Nat)),(∀ t ∈ gs,∀ k ∈ t,p k=q k)->Cells.allCs p i gs=Cells.allCs q i gs
 | _,[],_=>rfl
 | i,t :: r,h=>by
  rw [Cells.allCs,Cells.allCs,rowCs_at i 0 t (h t List.mem_cons_self),allCs_at (i + 1) r fun u hu=>h u (List.mem_cons_of_mem _ hu)]
theorem Rows.signsIn {rs:List Str}(R:Rows bd.cps.toList rs):∀ t ∈ codes rs,∀ k ∈ t,k ∈ bd.cps.toList:=fun t ht k hk=>by
 obtain ⟨u,hu,rfl⟩:=List.mem_map.mp ht;obtain ⟨n,_,_,q⟩:=R.ex;exact (q u hu).mem k hk
theorem cRdv {K:PySem.W.Frag}{H:Hp}:∀ {vs:List V} {cs:List (Nat × Nat)},Cel H vs cs->RdvAll K H vs (cs.map cData)
 | _,_,.nil=>.nil
 | _,_,.cons h t=>.cons (CelR.rdv h) (cRdv t)
theorem Marks.t8 {gs:List (List Nat)}(M:Marks gs):∀ t ∈ gs,t.length<=8:=fun t ht=>by
 obtain ⟨n,_,h8,h⟩:=M.ex;rw [(h t ht).1];exact h8
theorem mark_at {H:Hp}:∀ {vs:List V} {gs:List (List Nat)} {i:Nat} {t:List Nat},MrkAt H vs gs->gs[i]?=some t->∃ a,vs[i]?=some (V.ref a)/\H a=some (.lst (t.map fun c=>V.str ⟨#[c]⟩))
 | _,_,_,_,.nil,e=>by simp at e
 | _,_,0,_,.cons ⟨a,r,h⟩ _,e=>by
  simp at e;subst e;exact ⟨a,by rw [r]; rfl,h⟩
 | _,_,i + 1,t,.cons _ q,e=>by
  obtain ⟨c,h1,h2⟩:=mark_at (i:=i) (t:=t) q (by simpa using e);exact ⟨c,by simpa using h1,h2⟩
theorem Cel.one {H H':Hp}{d:Addr}{xs:List V}(s:∀ b o,b ≠ d->H b=some o->H' b=some o)(hd:H d=some (.lst xs)):∀ {vs:List V} {cs:List (Nat × Nat)},Cel H vs cs->Cel H' vs cs
 | _,_,.nil=>.nil
 | _,_,.cons ⟨a,e,h⟩ t=>.cons ⟨a,e,s a _ (fun z=>by rw [z,hd] at h; cases h) h⟩ (Cel.one s hd t)
theorem cut_set {t:Str}{j:Nat}(c:Nat)(hj:j < t.cps.toList.length):(cutS t none (some (j:Int))++⟨#[c]⟩++cutS t (some ((j:Int) + 1)) none).cps.toList=t.cps.toList.set j c:=by
 have te:t.length=t.cps.toList.length:=(Array.length_toList).symm;have e1:(cutS t none (some (j:Int))).cps.toList=t.cps.toList.take j:=by
  have e:HT.sIx t.length t.length (some (j:Int))=j:=by
   rw [HT.sIx_nat];omega
  unfold cutS;rw [e];show ((t.cps.toList.drop 0).take (j - 0)).toArray.toList=_;simp
 have e2:(cutS t (some ((j:Int) + 1)) none).cps.toList=t.cps.toList.drop (j + 1):=by
  have e:HT.sIx t.length 0 (some ((j:Int) + 1))=j + 1:=by
   have:=HT.sIx_nat t.length 0 (j + 1);rw [Int.natCast_add] at this;rw [show ((j:Int) + 1)=(j:Int) + ((1:Nat):Int) from rfl,this];omega
  unfold cutS;rw [e];show ((t.cps.toList.drop (j + 1)).take (t.length - (j + 1))).toArray.toList=_;rw [List.toList_toArray,List.take_of_length_le (by rw [List.length_drop]; omega)]
 show ((cutS t none (some (j:Int))).cps++#[c]++(cutS t (some ((j:Int) + 1)) none).cps).toList=_;rw [Array.toList_append,Array.toList_append,e1,e2,List.set_eq_take_append_cons_drop,if_pos hj];simp
theorem cutV_set {xs:List V}{j:Nat}(v:V)(hj:j < xs.length):cutV xs none (some (j:Int))++[v]++cutV xs (some ((j:Int) + 1)) none=xs.set j v:=by
 have e1:cutV xs none (some (j:Int))=xs.take j:=by
  have e:HT.sIx xs.length xs.length (some (j:Int))=j:=by
   rw [HT.sIx_nat];omega
  unfold cutV;rw [e];show ((xs.drop 0).take (j - 0))=_;simp
 have e2:cutV xs (some ((j:Int) + 1)) none=xs.drop (j + 1):=by
  have e:HT.sIx xs.length 0 (some ((j:Int) + 1))=j + 1:=by
   have:=HT.sIx_nat xs.length 0 (j + 1);rw [Int.natCast_add] at this;rw [show ((j:Int) + 1)=(j:Int) + ((1:Nat):Int) from rfl,this];omega
  unfold cutV;rw [e];show ((xs.drop (j + 1)).take (xs.length - (j + 1)))=_;rw [List.take_of_length_le (by rw [List.length_drop]; omega)]
 rw [e1,e2,List.set_eq_take_append_cons_drop,if_pos hj];simp
theorem rowCs_set {p:Nat->Bool}(i:Nat):∀ (j:Nat) (t:List Nat) (m k k':Nat),t[m]?=some k->p k'=p k->Cells.rowCs p i j (t.set m k')=Cells.rowCs p i j t
 | j,c :: r,0,k,k',h,e=>by
  have:c=k:=by simpa using h
  subst this;rw [List.set_cons_zero,Cells.rowCs,Cells.rowCs,e]
 | j,c :: r,m + 1,k,k',h,e=>by
  rw [List.set_cons_succ,Cells.rowCs,Cells.rowCs,rowCs_set i (j + 1) r m k k' (by simpa using h) e]
theorem allCs_set {p:Nat->Bool}:∀ (i:Nat) (gs:List (List Nat)) (m:Nat) (t t':List Nat),gs[m]?=some t->(∀ i,Cells.rowCs p i 0 t'=Cells.rowCs p i 0 t)->Cells.allCs p i (gs.set m t')=Cells.allCs p i gs
 | i,c :: r,0,t,t',h,e=>by
  have:c=t:=by simpa using h
  subst this;rw [List.set_cons_zero,Cells.allCs,Cells.allCs,e]
 | i,c :: r,m + 1,t,t',h,e=>by
  rw [List.set_cons_succ,Cells.allCs,Cells.allCs,allCs_set (i + 1) r m t t' (by simpa using h) e]
noncomputable def spBentL:Sp:=fun vs H Q _=>∃ (p l:Addr) (rs:List Str) (n c:Int),vs=[.ref p,.int c]/\BoardAt H p l rs n/\Rows bd.cps.toList rs /\
 ∀ (p' l':Addr) (rs':List Str) (n':Int) (H':Hp),BoardAt H' p' l' rs' n'->Rows bd.cps.toList rs'->shutC rs'=shutC rs->Same H H'->Q (.ref p') H'
theorem pick2 (c:Int):∃ v:Int,atI [V.int (-1),V.int 1] (c % 2)=some (.int v)/\-1<=v/\v<=1:=by
 have h:c % 2=0\/c % 2=1:=by omega
 rcases h with h | h
 ·rw [h];exact ⟨-1,rfl,by decide,by decide⟩
 ·rw [h];exact ⟨1,rfl,by decide,by decide⟩
theorem bdig:∀ d:Nat,d < 9->((toString (d:Int):String):Str)=⟨#[48 + d]⟩/\48 + d ∈ bd.cps.toList/\pShut (48 + d)=false:=by decide +kernel
theorem bshut:∀ k:Nat,k < 57->48<=k->pShut k=false:=by decide +kernel
theorem bopen:∀ k ∈ bd.cps.toList,pOpen k=true->48<=k/\k<=56:=by decide +kernel
theorem sc_law_bent:FnScope ["_law_board_here","_law_cell","_law_rows","_law_stones","_law_opens","_law_row","_law_column","_law_number","_law_text"] ["_law_board_here","_law_cell"] (defScope s_law_bent):=⟨rfl,rfl,rfl,by decide +kernel,rfl,by decide +kernel,by decide +kernel⟩
theorem ok_law_bent {f2:Addr}{fd2:FuncData}(T:Txt mg)(D:DefAt K mg "_law_bent" s_law_bent ["_law_board_here","_law_cell"] f fd)(D_law_cells:DefAt K mg "_law_cells" s_law_cells ["_law_rows","_law_signs"] f2 fd2):FnOk P w K mg base CX0 2 f fd ["_law_board_here","_law_cell"] spBentL:=by
 refine D.F.ok sc_law_bent (fun vs H Q E h=>?_) (fun cdv A outer s H vs Q E hr h=>?_)
 ·obtain ⟨p,l,rs,n,c,rfl,_⟩:=h;rfl
 ·obtain ⟨p,l,rs,n,c,rfl,b,R,q⟩:=h;refine ⟨_,(pss_cons (ps_asg (pv 0) (pg_tup rfl (pgs_cons (pg_name (i:=2) sc_law_bent.nd rfl (Or.inl rfl)) (pgs_cons (pg_name (i:=3) sc_law_bent.nd rfl (Or.inl rfl)) pgs_nil))))
   (pss_cons (ps_set (i:=4) sc_law_bent.nd rfl (Or.inl rfl) (pc0 (ok_law_cells T D_law_cells) hr D_law_cells (pa_cons (pv 2) (pa_cons (pe_callTy (call_list_text rfl) (by rfl) T.b_list PyProof.Rows.boot_list (pa_cons pe_str pa_nil)) pa_nil))))
   (pss_cons (ps_if (PW.pt (pw_and (pt_cmpR op_eq (pe_op op_mod (pv 1) pe_int) pe_int (nomark _)) (pw_and1 (pt_cmpR (op_ne_deep hr.units) (pv 4) (pe_lst pa_nil) (nomark _))))) (pss_cons (ps_asg (pe_ix ix_list (pv 4) (pe_op op_mod (pe_op op_fdivG (pv 1) pe_int) (pe_callB call_len_seq (by rfl) T.b_len PySem.boot_len (pa_cons (pv 4) pa_nil))) (fun _ _=>rfl)) (pg_tup rfl (pgs_cons (pg_name (i:=5) sc_law_bent.nd rfl (Or.inl rfl)) (pgs_cons (pg_name (i:=6) sc_law_bent.nd rfl (Or.inl rfl)) pgs_nil))))
   (pss_cons (ps_set (i:=7) sc_law_bent.nd rfl (Or.inl rfl) (pe_callB (call_max2 rfl) (by rfl) T.b_max PyProof.Rows.boot_max (pa_cons pe_int (pa_cons (pe_callB (call_min2 rfl) (by rfl) T.b_min PyProof.Rows.boot_min (pa_cons pe_int (pa_cons (pe_op op_add (pe_callTy call_int_str (by rfl) T.b_int PyProof.Rows.boot_int (pa_cons (pe_ix ix_str (pe_ix ix_list (pv 2) (pv 5) (fun _ _=>rfl)) (pv 6) (fun _ _=>rfl)) pa_nil)) (pe_ix ix_list (pe_lst (pa_cons (pe_un un_neg pe_int) (pa_cons pe_int pa_nil))) (pe_op op_mod (pe_op op_fdivG (pv 1) pe_int) pe_int) (fun _ _=>rfl))) pa_nil))) pa_nil))))
   (pss_cons (ps_set (i:=8) sc_law_bent.nd rfl (Or.inl rfl) (pe_op op_add_str (pe_op op_add_str (pe_slice sl_str (pe_ix ix_list (pv 2) (pv 5) (fun _ _=>rfl)) po_none (po_some (pv 6))) (pe_callTy call_str_int (by rfl) T.b_str PyProof.Rows.boot_str (pa_cons (pv 7) pa_nil))) (pe_slice sl_str (pe_ix ix_list (pv 2) (pv 5) (fun _ _=>rfl)) (po_some (pe_op op_add (pv 6) pe_int)) po_none)))
   (pss_one (ps_ret (pe_tup (pa_cons (pe_op op_cat (pe_op op_cat (pe_slice sl_list (pv 2) po_none (po_some (pv 5))) (pe_lst (pa_cons (pv 8) pa_nil))) (pe_slice sl_list (pv 2) (po_some (pe_op op_add (pv 5) pe_int)) po_none)) (pa_cons (pv 3) pa_nil)))))))) pss_nil)
   (pss_cons (ps_if (pt_cmpR op_eq (pe_op op_mod (pv 1) pe_int) pe_int (nomark _)) (pss_one (ps_ret (pe_tup (pa_cons (pv 2) (pa_cons (pe_callB (call_max2 rfl) (by rfl) T.b_max PyProof.Rows.boot_max (pa_cons pe_int (pa_cons (pe_op op_add (pv 3) (pe_ix ix_list (pe_lst (pa_cons (pe_un un_neg pe_int) (pa_cons pe_int pa_nil))) (pe_op op_mod (pe_op op_fdivG (pv 1) pe_int) pe_int) (fun _ _=>rfl))) pa_nil))) pa_nil))))) pss_nil)
   (pss_one (ps_ret (pv 0))))))),?_⟩
  refine ⟨_,rfl,p,_,rfl,SqT.of b.tp,rfl,_,_,rfl,_,_,rfl,rfl,?_⟩;refine ⟨_,rfl,"012345678",rfl,by decide,fun sg hsg=>?_⟩;have z1:=same_new (o:=.lst (("012345678":Str).cps.toList.map fun c=>V.str ⟨#[c]⟩)) hsg;refine ⟨l,sg,_,codes rs,[48,49,50,51,52,53,54,55,56],rfl,z1 _ _ b.rw,GridAt.rows _ rs,by rw [codes_len]; exact R.hi,R.short,by rw [upd_same,nine_is],fun d ws H2 hd hd2 hc2 s2=>?_⟩;have ec:Cells.allCs (pZ [48,49,50,51,52,53,54,55,56]) 0 (codes rs)=openC rs:=allCs_at 0 _ fun t ht k hk=>pZ_open k (R.signsIn t ht k hk);rw [ec] at hc2;have s12:=z1.trans s2;refine ⟨_,rfl,_,_,rfl,rfl,(by show (0:Int) < 4; decide),rfl,_,rfl,ite2 (fun _=>?_) (fun _=>?_)⟩
  ·refine ⟨_,rfl,sz_0,fun e he=>?_⟩;have z3:=same_new (o:=.lst []) he;refine ⟨.list ((openC rs).map cData),.list (([]:List (Nat × Nat)).map cData),.lst (SqL.of (z3 _ _ hd2)) (cRdv (hc2.mono z3)),.lst (SqL.of upd_same) .nil,cs_cmp _ _,_,rfl,ite2 (fun hne=>?_) (fun _=>?_)⟩
   ·have s13:=s12.trans z3;have hd3:=z3 _ _ hd2;have hc3:=hc2.mono z3;have hl3:=s13 _ _ b.rw;have wl:=hc3.length;have pos:0 < ws.length:=by
     cases hb:openC rs with
     | nil =>
      rw [hb] at hne;exact absurd hne (by decide)
     | cons x y =>
      rw [wl,hb];exact Nat.succ_pos _
    generalize upd H2 e (.lst [])=H3 at *
    have m0:=Int.emod_nonneg (c / 8) (show ((ws.length:Nat):Int) ≠ 0 by omega);have m1:=Int.emod_lt_of_pos (c / 8) (show (0:Int) < ((ws.length:Nat):Int) by omega);obtain ⟨x,hx⟩:∃ x,ws[(c / 8 % ((ws.length:Nat):Int)).toNat]?=some x:=⟨_,List.getElem?_eq_getElem (by omega)⟩;obtain ⟨y,hy,ya,rfl,hya⟩:=Cel.get hc3 hx;obtain ⟨i,j,u,k,ey,hu,hk,pk⟩:=Cells.mem_allCs (List.mem_of_getElem? hy);rw [Nat.zero_add] at ey;subst ey;obtain ⟨t,ht,rfl⟩:∃ t,rs[i]?=some t/\t.cps.toList=u:=by
     unfold codes at hu;rw [List.getElem?_map] at hu;cases e1:rs[i]? with
     | none =>
      rw [e1] at hu;cases hu
     | some t =>
      rw [e1] at hu;exact ⟨t,rfl,Option.some.inj hu⟩
    refine ⟨_,rfl,_,rfl,_,_,rfl,rfl,CDivG.small (by decide) (by decide),_,rfl,d,_,rfl,.inl (SqL.of hd3),_,_,rfl,rfl,(by show (0:Int) < ((ws.length:Nat):Int); omega),d,_,_,_,rfl,rfl,SqL.of hd3,atI_lt m0 hx,?_⟩;refine ⟨ya,_,rfl,SqT.of hya,rfl,_,_,rfl,_,_,rfl,rfl,?_⟩;have hat:(rs.map V.str)[((i:Nat):Int).toNat]?=some (V.str t):=by
     rw [Int.toNat_natCast,List.getElem?_map,ht];rfl
    have hkj:t.cps.toList[((j:Nat):Int).toNat]?=some k:=by rw [Int.toNat_natCast]; exact hk
    have tm:=List.mem_of_getElem? ht;have tl:t.cps.toList.length<=8:=R.short _ (List.mem_of_getElem? hu);have tll:t.length<=8:=by
     rw [<- show t.cps.toList.length=t.length from Array.length_toList];exact tl
    have szl:t.length<=sizeLine:=Nat.le_trans tll (by decide);have jl:=(List.getElem?_eq_some_iff.mp hk).1;have il:=(List.getElem?_eq_some_iff.mp ht).1;obtain ⟨k0,k1⟩:=bopen k (R.signsIn _ (List.mem_of_getElem? hu) k (List.mem_of_getElem? hk)) pk;obtain ⟨v,hv,v0,v1⟩:=pick2 (c / 4);refine ⟨_,rfl,_,rfl,l,_,_,.str t,rfl,rfl,SqL.of hl3,atI_lt (by omega) hat,_,rfl,t,_,k,rfl,rfl,szl,atI_lt (by omega) hkj,_,_,rfl,int_sign k0 k1,(by show 1<=640; decide),_,rfl,sz_2,fun lz hlz=>⟨_,rfl,_,_,rfl,rfl,CDivG.small (by decide) (by decide),_,_,rfl,rfl,(by show (0:Int) < 2; decide),lz,_,_,_,rfl,rfl,SqL.of upd_same,hv,_,_,rfl,rfl,_,_,rfl,_,_,rfl,?_⟩⟩;have s14:=s13.trans (same_new (o:=.lst [V.int (-1),V.int 1]) hlz);generalize upd H3 lz (.lst [V.int (-1),V.int 1])=H4 at *
    have hl4:=s14 _ _ b.rw;obtain ⟨D9,hD,eD⟩:∃ D:Nat,D < 9/\(if (if (k:Int) - 48 + v < 8 then (k:Int) - 48 + v else 8) > 0 then (if (k:Int) - 48 + v < 8 then (k:Int) - 48 + v else 8) else 0)=(D:Int):=by
     refine ⟨(if (if (k:Int) - 48 + v < 8 then (k:Int) - 48 + v else 8) > 0 then (if (k:Int) - 48 + v < 8 then (k:Int) - 48 + v else 8) else 0).toNat,?_,?_⟩
     ·split <;> split <;> omega
     ·split <;> split <;> omega
    rw [eD];obtain ⟨d1,d2,d3⟩:=bdig D9 hD;have hlog:((D9:Nat):Int).natAbs.log2 < 1920:=by
     rw [Int.natAbs_natCast];have:∀ d:Nat,d < 9->d.log2 < 1920:=by decide +kernel
     exact this _ hD
    have cs:=cut_set (t:=t) (48 + D9) jl;have cl:((cutS t none (some ((j:Nat):Int))++(⟨#[48 + D9]⟩:Str))++cutS t (some (((j:Nat):Int) + 1)) none).cps.size=t.cps.toList.length:=by
     rw [<- Array.length_toList,cs,List.length_set]
    have cl2:((cutS t none (some ((j:Nat):Int))).cps++#[48 + D9]++(cutS t (some (((j:Nat):Int) + 1)) none).cps).size=t.cps.toList.length:=cl;rw [Array.size_append,Array.size_append] at cl2;have hc:#[48 + D9].size=1:=rfl;refine ⟨_,rfl,_,rfl,l,_,_,.str t,rfl,rfl,SqL.of hl4,atI_lt (by omega) hat,_,rfl,_,rfl,t,rfl,szl,_,rfl,_,rfl,hlog,_,_,rfl,rfl,?_,_,rfl,_,rfl,l,_,_,.str t,rfl,rfl,SqL.of hl4,atI_lt (by omega) hat,_,rfl,_,_,rfl,rfl,_,rfl,t,rfl,szl,_,_,rfl,rfl,?_,?_⟩
    ·rw [d1];refine Nat.le_trans (show _<=20 from ?_) (by decide);show (cutS t none (some ((j:Nat):Int))).cps.size + #[48 + D9].size<=20;omega
    ·rw [d1];refine Nat.le_trans (show _<=20 from ?_) (by decide);show ((cutS t none (some ((j:Nat):Int))).cps++#[48 + D9]).size + (cutS t (some (((j:Nat):Int) + 1)) none).cps.size<=20;rw [Array.size_append];omega
    rw [d1];generalize cutS t none (some ((j:Nat):Int))++(⟨#[48 + D9]⟩:Str)++cutS t (some (((j:Nat):Int) + 1)) none=tx at *
    have cv:=cutV_set (xs:=rs.map V.str) (j:=i) (.str tx) (by rw [List.length_map]; exact il);have rl:(rs.map V.str).length<=8:=by rw [List.length_map]; exact R.hi
    have c1:=cutV_length (rs.map V.str) none (some ((i:Nat):Int));have c2:=cutV_length (rs.map V.str) (some (((i:Nat):Int) + 1)) none;refine ⟨_,rfl,_,rfl,_,rfl,l,_,rfl,SqL.of hl4,fun q1 hq1=>⟨_,rfl,sz_1,fun q2 hq2=>?_⟩⟩;have x1:=same_new (o:=.lst (cutV (rs.map V.str) none (some ((i:Nat):Int)))) hq1;have x2:=same_new (o:=.lst [V.str tx]) hq2;refine ⟨q1,q2,_,_,rfl,rfl,x2 _ _ upd_same,upd_same,?_,fun q3 hq3=>?_⟩
    ·exact Nat.le_trans (show (cutV (rs.map V.str) none (some ((i:Nat):Int))).length + 1<=20 by omega) (by decide)
    have x3:=same_new (o:=.lst (cutV (rs.map V.str) none (some ((i:Nat):Int))++[V.str tx])) hq3;have x13:=x1.trans (x2.trans x3);refine ⟨_,rfl,_,rfl,_,_,rfl,rfl,_,rfl,l,_,rfl,SqL.of (x13 _ _ hl4),fun q4 hq4=>?_⟩;have x4:=same_new (o:=.lst (cutV (rs.map V.str) (some (((i:Nat):Int) + 1)) none)) hq4;refine ⟨q3,q4,_,_,rfl,rfl,x4 _ _ upd_same,upd_same,?_,fun q5 hq5=>?_⟩
    ·rw [List.length_append];exact Nat.le_trans (show (cutV (rs.map V.str) none (some ((i:Nat):Int))).length + 1 + (cutV (rs.map V.str) (some (((i:Nat):Int) + 1)) none).length<=20 by omega) (by decide)
    have x5:=same_new (o:=.lst (cutV (rs.map V.str) none (some ((i:Nat):Int))++[V.str tx]++cutV (rs.map V.str) (some (((i:Nat):Int) + 1)) none)) hq5;refine ⟨_,rfl,sz_2,fun tp htp=>?_⟩;have x6:=same_new (o:=.tup [.ref q5,.int n]) htp;refine q tp q5 (rs.set i tx) n _ ⟨upd_same,?_⟩ ⟨by rw [List.length_set]; exact R.lo,by rw [List.length_set]; exact R.hi,?_⟩ ?_ (s14.trans (x13.trans (x4.trans (x5.trans x6))))
    ·refine x6 _ _ ?_;rw [upd_same,cv,List.map_set]
    ·obtain ⟨m,a1,a8,hr⟩:=R.ex;refine ⟨m,a1,a8,fun u hu=>?_⟩;rcases List.mem_or_eq_of_mem_set hu with hu | hu
     ·exact hr u hu
     ·rw [hu];refine ⟨?_,fun z hz=>?_⟩
      ·rw [cl,Array.length_toList];exact (hr t tm).len
      ·rw [cs] at hz;rcases List.mem_or_eq_of_mem_set hz with hz | hz
       ·exact (hr t tm).mem z hz
       ·rw [hz];exact d2
    ·unfold shutC codes;rw [List.map_set];refine allCs_set 0 _ i t.cps.toList _ hu fun i'=>?_;rw [cs];exact rowCs_set i' 0 _ j k _ hk (d3.trans (bshut k (by omega) k0).symm)
   ·have s13:=s12.trans z3;refine ⟨_,rfl,_,_,rfl,rfl,(by show (0:Int) < 4; decide),rfl,_,rfl,ite2 (fun _=>?_) (fun _=>⟨_,rfl,q p l rs n _ (b.mono s13) R rfl s13⟩)⟩;obtain ⟨v,hv,_,_⟩:=pick2 (c / 4);refine ⟨_,rfl,_,rfl,_,rfl,sz_2,fun lz hlz=>⟨_,rfl,_,_,rfl,rfl,CDivG.small (by decide) (by decide),_,_,rfl,rfl,(by show (0:Int) < 2; decide),lz,_,_,_,rfl,rfl,SqL.of upd_same,hv,_,_,rfl,rfl,_,_,rfl,sz_2,fun tp htp=>?_⟩⟩;have y1:=s13.trans (same_new (o:=.lst [V.int (-1),V.int 1]) hlz);exact q tp l rs _ _ ⟨upd_same,same_new htp _ _ (y1 _ _ b.rw)⟩ R rfl (y1.trans (same_new htp))
  ·refine iteF ?_;refine ⟨_,rfl,_,_,rfl,rfl,(by show (0:Int) < 4; decide),rfl,_,rfl,ite2 (fun _=>?_) (fun _=>⟨_,rfl,q p l rs n _ (b.mono s12) R rfl s12⟩)⟩;obtain ⟨v,hv,_,_⟩:=pick2 (c / 4);refine ⟨_,rfl,_,rfl,_,rfl,sz_2,fun lz hlz=>⟨_,rfl,_,_,rfl,rfl,CDivG.small (by decide) (by decide),_,_,rfl,rfl,(by show (0:Int) < 2; decide),lz,_,_,_,rfl,rfl,SqL.of upd_same,hv,_,_,rfl,rfl,_,_,rfl,sz_2,fun tp htp=>?_⟩⟩;have y1:=s12.trans (same_new (o:=.lst [V.int (-1),V.int 1]) hlz);exact q tp l rs _ _ ⟨upd_same,same_new htp _ _ (y1 _ _ b.rw)⟩ R rfl (y1.trans (same_new htp))
theorem rise_len:∀ (l:List Nat) (lo hi:Nat),l.Pairwise (fun a b=>a < b)->(∀ x ∈ l,lo<=x/\x < hi)->l.length<=hi - lo
 | [],_,_,_,_=>Nat.zero_le _
 | x :: r,lo,hi,hp,hb=>by
  have h1:=List.pairwise_cons.mp hp;have h2:=rise_len r (x + 1) hi h1.2 fun y hy=>⟨h1.1 y hy,(hb y (List.mem_cons_of_mem _ hy)).2⟩;have h3:=hb x List.mem_cons_self;rw [List.length_cons];omega
noncomputable def nearNo (c x:Nat × Nat):Nat:=if 3 * (x.1 + 1 - c.1) + (x.2 + 1 - c.2) > 4 then 3 * (x.1 + 1 - c.1) + (x.2 + 1 - c.2) - 1 else 3 * (x.1 + 1 - c.1) + (x.2 + 1 - c.2)
theorem near_few {p:Nat->Bool}(gs:List (List Nat))(c:Nat × Nat):((Cells.allCs p 0 gs).filter fun x=>Cells.near x c).length<=8:=by
 have hp:=(Cells.allCs_lex p 0 gs).filter fun x=>Cells.near x c;have hn:∀ x ∈ (Cells.allCs p 0 gs).filter (fun x=>Cells.near x c),(x.1<=c.1 + 1/\c.1<=x.1 + 1)/\(x.2<=c.2 + 1/\c.2<=x.2 + 1)/\¬ (x.1=c.1/\x.2=c.2):=fun x hx=>by
  have h:=(Cells.near_iff x c).mp (List.mem_filter.mp hx).2;exact ⟨h.1,h.2.1,fun z=>h.2.2 (Prod.ext z.1 z.2)⟩
 generalize (Cells.allCs p 0 gs).filter (fun x=>Cells.near x c)=L at *
 have h:=rise_len (L.map (nearNo c)) 0 8 (List.pairwise_map.mpr (hp.imp_of_mem fun {a b} ha hb hl=>?_)) fun y hy=>?_
 ·rw [List.length_map] at h;exact h
 ·have h1:=hn a ha;have h2:=hn b hb;have h3:a.1 < b.1\/(a.1=b.1/\a.2 < b.2):=hl;unfold nearNo;split <;> split <;> omega
 ·obtain ⟨x,hx,rfl⟩:=List.mem_map.mp hy;have h1:=hn x hx;unfold nearNo;split <;> omega
noncomputable def stM (gs:List (List Nat)):List (Nat × Nat):=Cells.allCs (pZ [111]) 0 gs
noncomputable def nrM (gs:List (List Nat))(i j:Nat):List (Nat × Nat):=(stM gs).filter fun x=>Cells.near x (i,j)
noncomputable def brdS (gs:List (List Nat))(i j k:Nat):Nat:=if k=46 then 48 + (nrM gs i j).length else if isShut k=true then 63 else k
noncomputable def brdT (gs:List (List Nat))(i:Nat)(t:List Nat):List Nat:=t.mapIdx (brdS gs i)
noncomputable def brdG (gs:List (List Nat)):List (List Nat):=gs.mapIdx (brdT gs)
theorem mapIdx_step {α β:Type}(f:Nat->α->β){t:List α}{j:Nat}{k:α}(h:t[j]?=some k):(t.take (j + 1)).mapIdx f=(t.take j).mapIdx f++[f j k]:=by
 obtain ⟨hl,e⟩:=List.getElem?_eq_some_iff.mp h;rw [List.take_add_one,h,List.mapIdx_append];simp only [Option.toList_some,List.mapIdx_cons,List.mapIdx_nil,List.length_take];rw [Nat.zero_add,Nat.min_eq_left (by omega)]
theorem rowCs_mapIdx {p q:Nat->Bool}{f:Nat->Nat->Nat}(i:Nat)(hf:∀ m c,p (f m c)=q c):∀ (j m:Nat) (t:List Nat),Cells.rowCs p i j (t.mapIdx fun a=>f (a + m))=Cells.rowCs q i j t
 | _,_,[]=>rfl
 | j,m,c :: r=>by
  rw [List.mapIdx_cons,Cells.rowCs,Cells.rowCs,hf];have:=rowCs_mapIdx i hf (j + 1) (m + 1) r;have e:(fun a=>f (a + (m + 1)))=fun a=>f (a + 1 + m):=by
   funext a;congr 1;omega
  rw [e] at this;rw [this]
theorem allCs_mapIdx {p q:Nat->Bool}{f:Nat->List Nat->List Nat}(hf:∀ m i t,Cells.rowCs p i 0 (f m t)=Cells.rowCs q i 0 t):∀ (i m:Nat) (gs:List (List Nat)),Cells.allCs p i (gs.mapIdx fun a=>f (a + m))=Cells.allCs q i gs
 | _,_,[]=>rfl
 | i,m,t :: r=>by
  rw [List.mapIdx_cons,Cells.allCs,Cells.allCs,hf];have:=allCs_mapIdx hf (i + 1) (m + 1) r;have e:(fun a=>f (a + (m + 1)))=fun a=>f (a + 1 + m):=by
   funext a;congr 1;omega
  rw [e] at this;rw [this]
theorem brdS_shut (gs:List (List Nat))(i j k:Nat):pShut (brdS gs i j k)=(isShut k || decide (k=63)):=by
 unfold brdS;have h8:(nrM gs i j).length<=8:=near_few gs (i,j);by_cases h1:k=46
 ·rw [if_pos h1,h1];show decide (48 + (nrM gs i j).length=63)=false;exact decide_eq_false (by omega)
 ·rw [if_neg h1];by_cases h2:isShut k=true
  ·rw [if_pos h2,h2];rfl
  ·rw [if_neg h2,Bool.eq_false_iff.mpr h2];rfl
theorem brd_shut {gs:List (List Nat)}:Cells.allCs pShut 0 (brdG gs)=Cells.allCs (fun k=>isShut k || decide (k=63)) 0 gs:=by
 have h:=allCs_mapIdx (p:=pShut) (q:=fun k=>isShut k || decide (k=63)) (f:=brdT gs) (fun m i t=>rowCs_mapIdx (f:=brdS gs m) i (fun a c=>brdS_shut gs m a c) 0 0 t) 0 0 gs;exact h
theorem rowCs_cnt (i:Nat):∀ (j:Nat) (t:List Nat),(∀ k ∈ t,k ∈ marks)->(Cells.rowCs (fun k=>isShut k || decide (k=63)) i j t).length=cntR t
 | _,[],_=>rfl
 | j,c :: r,h=>by
  have ih:=rowCs_cnt i (j + 1) r fun k hk=>h k (List.mem_cons_of_mem _ hk);have hc:∀ k ∈ marks,(isShut k || decide (k=63))=isShut k:=by decide
  have e:=hc c (h c List.mem_cons_self);unfold cntR at ih ⊢;rw [Cells.rowCs,List.filter_cons];by_cases hs:isShut c=true
  ·rw [if_pos hs,if_pos (e.trans hs),List.length_append,List.length_cons,List.length_cons,List.length_nil,ih];omega
  ·rw [if_neg hs,if_neg (by rw [e]; exact hs),List.nil_append,ih]
theorem allCs_cnt:∀ (i:Nat) (gs:List (List Nat)),(∀ t ∈ gs,∀ k ∈ t,k ∈ marks)->(Cells.allCs (fun k=>isShut k || decide (k=63)) i gs).length=cntG gs
 | _,[],_=>rfl
 | i,t :: r,h=>by
  have ih:=allCs_cnt (i + 1) r fun u hu=>h u (List.mem_cons_of_mem _ hu);have e:=rowCs_cnt i 0 t (h t List.mem_cons_self);unfold cntG at ih ⊢;rw [Cells.allCs,List.length_append,List.map_cons,List.sum_cons,ih,e]
theorem Marks.few8 {gs:List (List Nat)}{rs:List Str}(M:Marks gs)(h:codes rs=brdG gs):(shutC rs).length<=8:=by
 unfold shutC;obtain ⟨n,_,_,hn⟩:=M.ex;rw [h,brd_shut,allCs_cnt 0 gs fun t ht=>(hn t ht).2];exact M.few
theorem Marks.rows {gs:List (List Nat)}{rs:List Str}(M:Marks gs)(h:codes rs=brdG gs):Rows bd.cps.toList rs:=by
 have hl:rs.length=gs.length:=by
  have e:(codes rs).length=(brdG gs).length:=by rw [h]
  rw [codes_len] at e;unfold brdG at e;rw [List.length_mapIdx] at e;exact e
 obtain ⟨n,n1,n8,hn⟩:=M.ex;refine ⟨by rw [hl]; exact M.lo,by rw [hl]; exact M.hi,n,n1,n8,fun t ht=>?_⟩;have hm:t.cps.toList ∈ brdG gs:=by
  rw [<- h];exact List.mem_map_of_mem ht
 unfold brdG at hm;obtain ⟨i,hi,e⟩:=List.mem_mapIdx.mp hm;have hg:=hn gs[i] (List.getElem_mem hi);refine ⟨?_,fun k hk=>?_⟩
 ·have e2:t.cps.toList.length=n:=by
   rw [<- e];unfold brdT;rw [List.length_mapIdx,hg.1]
  rw [Array.length_toList] at e2;exact e2
 ·rw [<- e] at hk;unfold brdT at hk;obtain ⟨j,hj,e3⟩:=List.mem_mapIdx.mp hk;have hx:=hg.2 _ (List.getElem_mem hj);have h8:(nrM gs i j).length<=8:=near_few gs (i,j);rw [<- e3];unfold brdS;split
  ·have:∀ d:Nat,d < 9->48 + d ∈ bd.cps.toList:=by decide +kernel
   exact this _ (by omega)
  ·split
   ·decide +kernel
   ·rename_i a b;have:∀ k ∈ marks,k ≠ 46->isShut k ≠ true->k ∈ bd.cps.toList:=by decide +kernel
    exact this _ hx a b
noncomputable def spBoardL:Sp:=fun vs H Q _=>∃ (d:Addr) (us:List V) (gs:List (List Nat)),vs=[.ref d]/\H d=some (.lst us)/\MrkAt H us gs/\Marks gs /\
 ∀ (p l:Addr) (rs:List Str) (H':Hp),H p=none->H l=none->BoardAt H' p l rs ((stM gs).length:Nat)->codes rs=brdG gs->Same H H'->Q (.ref p) H'
theorem get_oc:∀ k ∈ marks,k ≠ 46->(valV (mergeK [] [(.inr "o",V.str "?"),(.inr "c",V.str "?")]) (.inr ⟨#[k]⟩)).getD (V.str ⟨#[k]⟩)=V.str ⟨#[if isShut k=true then 63 else k]⟩:=by
 intro k hk h;have hm:k=35\/k=111\/k=99\/k=46:=by simpa [marks] using hk
 rcases hm with rfl | rfl | rfl | rfl
 ·rfl
 ·rfl
 ·rfl
 ·exact absurd rfl h
theorem get_no:∀ d:Nat,d < 9->(valV (mergeK [] [(.inr "o",V.str "?"),(.inr "c",V.str "?")]) (.inr ⟨#[48 + d]⟩)).getD (V.str ⟨#[48 + d]⟩)=V.str ⟨#[48 + d]⟩:=by
 intro d hd;have hm:d=0\/d=1\/d=2\/d=3\/d=4\/d=5\/d=6\/d=7\/d=8:=by omega
 rcases hm with rfl | rfl | rfl | rfl | rfl | rfl | rfl | rfl | rfl <;> rfl
theorem sc_law_board:FnScope ["_law_marks","_law_stones","_law_rows","_law_row","_law_text","_law_column","_law_sign"] ["_law_marks"] (defScope s_law_board):=⟨rfl,rfl,rfl,by decide +kernel,rfl,by decide +kernel,by decide +kernel⟩
theorem ok_law_board {f1 f2:Addr}{fd1 fd2:FuncData}(T:Txt mg)(D:DefAt K mg "_law_board" s_law_board ["_law_marks"] f fd)(D_law_near:DefAt K mg "_law_near" s_law_near ["_law_one","_law_other"] f1 fd1)(D_law_cells:DefAt K mg "_law_cells" s_law_cells ["_law_rows","_law_signs"] f2 fd2):FnOk P w K mg base CX0 2 f fd ["_law_marks"] spBoardL:=by
 refine D.F.ok sc_law_board (fun vs H Q E h=>?_) (fun cdv A outer s H vs Q E hr h=>?_)
 ·obtain ⟨d,us,gs,rfl,_⟩:=h;rfl
 ·obtain ⟨d,us,gs,rfl,hd,hM,M,q⟩:=h;refine ⟨_,(pss_cons (ps_set (i:=1) sc_law_board.nd rfl (Or.inl rfl) (pc0 (ok_law_cells T D_law_cells) hr D_law_cells (pa_cons (pv 0) (pa_cons (pe_lst (pa_cons pe_str pa_nil)) pa_nil))))
   (pss_cons (ps_set (i:=2) sc_law_board.nd rfl (Or.inl rfl) (pe_lst pa_nil))
   (pss_cons (ps_for PassesOwn.never rfl (pi_range1 (by rfl) T.b_range (pa_cons (pe_callB call_len_seq (by rfl) T.b_len PySem.boot_len (pa_cons (pv 0) pa_nil)) pa_nil)) (pg_name (i:=3) sc_law_board.nd rfl (Or.inr rfl)) (pss_cons (ps_set (i:=4) sc_law_board.nd rfl (Or.inl rfl) pe_str)
   (pss_cons (ps_for PassesOwn.never rfl (pi_range1 (by rfl) T.b_range (pa_cons (pe_callB call_len_seq (by rfl) T.b_len PySem.boot_len (pa_cons (pe_ix ix_list (pv 0) (pv 3) (fun _ _=>rfl)) pa_nil)) pa_nil)) (pg_name (i:=5) sc_law_board.nd rfl (Or.inr rfl)) (pss_cons (ps_set (i:=6) sc_law_board.nd rfl (Or.inl rfl) (pe_ix ix_list (pe_ix ix_list (pv 0) (pv 3) (fun _ _=>rfl)) (pv 5) (fun _ _=>rfl)))
   (pss_mid (ps_if (pt_cmpR op_eq (pv 6) pe_str (nomark _)) (pss_one (ps_set (i:=6) sc_law_board.nd rfl (Or.inl rfl) (pe_callTy call_str_int (by rfl) T.b_str PyProof.Rows.boot_str (pa_cons (pe_callB call_len_seq (by rfl) T.b_len PySem.boot_len (pa_cons (pe_comp (N:=["_law_one","_law_row","_law_column"]) (src:=[none,some 3,some 5]) (CompOk.free (O:=(defScope s_law_board).names) (XN:=["_law_marks","_law_stones","_law_rows","_law_row","_law_text","_law_column","_law_sign"]) rfl rfl ⟨_,rfl⟩ rfl rfl (by decide +kernel) (by decide +kernel) (by decide +kernel) rfl (by decide +kernel)) rfl (pi_list (pv 1)) (fun _ _ _ _ _=>(pg_name (i:=0) (by show List.Nodup (["_law_one","_law_row","_law_column"]:List Str); decide +kernel) rfl (Or.inl rfl))) (fun _ _ _ _ _=>(pifs_one (pt_truthK (K:=K) (by rfl) (pc0 (ok_law_near T D_law_near) hr D_law_near (pa_cons (pv 0) (pa_cons (pe_tup (pa_cons (pv 1) (pa_cons (pv 2) pa_nil))) pa_nil))) (fun _=>rfl)))) (fun _ _ _ _ _=>(pv 0))) pa_nil)) pa_nil)))) pss_nil)
   (pss_one (ps_set (i:=4) sc_law_board.nd rfl (Or.inl rfl) (pe_op op_add_str (pv 4) (pe_dget2 (u1 hr.units) (pe_disp (pps_cons pe_str pe_str (pps_cons pe_str pe_str pps_nil)) rfl rfl (by simp) (by decide)) (pv 6) (pv 6) ⟨rfl,rfl,rfl,rfl⟩)))))))
   (pss_one (ps_expr (pe_bm PySem.F.plainAttrs_list PySem.F.slot_list_append PySem.F.type_list_append mt_append (pv 2) (pa_cons (pv 4) pa_nil)))))))
   (pss_one (ps_ret (pe_tup (pa_cons (pv 2) (pa_cons (pe_callB call_len_seq (by rfl) T.b_len PySem.boot_len (pa_cons (pv 1) pa_nil)) pa_nil)))))))),?_⟩
  have ul:us.length=gs.length:=Paired.length hM;have g8:=M.hi;refine ⟨_,rfl,sz_1,fun sg hsg=>?_⟩;have z1:=same_new (o:=.lst [V.str "o"]) hsg;refine ⟨d,sg,us,gs,[111],rfl,z1 _ _ hd,(hM.mono z1).grid,M.hi,M.t8,by rw [upd_same,mk_o]; rfl,fun sa sv H2 hsa hsa2 hc2 s2=>?_⟩;have hcs:Cel H2 sv (stM gs):=hc2;have s02:=z1.trans s2;refine ⟨sz_0,fun l hl=>?_⟩;have z3:=same_new (o:=.lst []) hl;have s03:=s02.trans z3;have hl3:upd H2 l (.lst []) l=some (.lst []):=upd_same;have hsa3:=z3 _ _ hsa2;have hcs3:=hcs.mono z3;have lfree:=s02.free hl;generalize upd H2 l (.lst [])=H3 at *
  refine ⟨_,rfl,d,_,rfl,.inl (SqL.of (s03 _ _ hd)),_,rfl,by omega,by omega,?_⟩;rw [Int.toNat_natCast,ul];refine for_range (lo:=0) (n:=gs.length) (fun i σ H'=>∃ (v3 v4 v5 v6:Option V) (rs:List Str),σ=[some (.ref d),some (.ref sa),some (.ref l),v3,v4,v5,v6]/\Same H H'/\Same1 H3 H' l/\H' l=some (.lst (rs.map V.str))/\codes rs=(gs.take i).mapIdx (brdT gs)) ⟨_,_,_,_,[],rfl,s03,fun _ _ _ e=>e,hl3,rfl⟩ ?_ ?_
  ·rintro i σ H4 hi ⟨v3,v4,v5,v6,rs,rfl,s4,s34,hl4,er⟩;obtain ⟨t,ht⟩:∃ t,gs[i]?=some t:=⟨_,List.getElem?_eq_getElem hi⟩;have tl:=M.t8 t (List.mem_of_getElem? ht);obtain ⟨ra,hra,hra0⟩:=mark_at (hM.mono s4) ht;have hat:atI us (0 + (i:Int))=some (V.ref ra):=by
    rw [Int.zero_add];exact atI_nat hra
   have nsa:sa ≠ l:=ne_of_none hsa2 hl;have hsa4:=s34 _ _ nsa hsa3;have hcs4:Cel H4 sv (stM gs):=Cel.one s34 hl3 hcs3;have zl:(t.map fun c=>V.str ⟨#[c]⟩).length=t.length:=List.length_map _;refine ⟨_,rfl,_,rfl,d,_,_,_,rfl,rfl,SqL.of (s4 _ _ hd),hat,ra,_,rfl,.inl (SqL.of hra0),_,rfl,by rw [zl]; omega,by rw [zl]; omega,?_⟩;rw [Int.toNat_natCast,zl];refine for_range (lo:=0) (n:=t.length) (fun j σ H'=>∃ (v5 v6:Option V) (tx:Str),σ=[some (.ref d),some (.ref sa),some (.ref l),some (.int (0 + (i:Int))),some (.str tx),v5,v6]/\Same H4 H'/\tx.cps.toList=(t.take j).mapIdx (brdS gs i)) ⟨_,_,_,rfl,Same.refl _,rfl⟩ ?_ ?_
   ·rintro j σ H5 hj ⟨v5,v6,tx,rfl,s5,et⟩;obtain ⟨k,hk⟩:∃ k,t[j]?=some k:=⟨_,List.getElem?_eq_getElem hj⟩;obtain ⟨n,n1,n8,hn⟩:=M.ex;have km:=(hn t (List.mem_of_getElem? ht)).2 k (List.mem_of_getElem? hk);have txl:tx.length=j:=by
     rw [<- show tx.cps.toList.length=tx.length from Array.length_toList,et,List.length_mapIdx,List.length_take];omega
    have s45:=s4.trans s5;refine ⟨_,rfl,_,rfl,d,_,_,_,rfl,rfl,SqL.of (s45 _ _ hd),hat,_,rfl,ra,_,_,V.str ⟨#[k]⟩,rfl,rfl,SqL.of (s5 _ _ hra0),(by rw [Int.zero_add]; exact atI_nat (by rw [List.getElem?_map,hk]; rfl)),?_⟩;have fin:∀ (c:Nat) (H6:Hp) (v6:V),Same H5 H6->c=brdS gs i j k->∃ (v5 v6':Option V) (tx':Str),[some (V.ref d),some (V.ref sa),some (V.ref l),some (V.int (0 + (i:Int))),some (V.str (tx++⟨#[c]⟩)),some (V.int (0 + (j:Int))),some v6]=[some (V.ref d),some (V.ref sa),some (V.ref l),some (V.int (0 + (i:Int))),some (V.str tx'),v5,v6']/\Same H4 H6/\tx'.cps.toList=(t.take (j + 1)).mapIdx (brdS gs i):=fun c H6 v6 s6 ec=>by
     refine ⟨_,_,_,rfl,s5.trans s6,?_⟩;rw [mapIdx_step _ hk,<- et,<- ec];show (tx.cps++#[c]).toList=_;rw [Array.toList_append]
    refine ⟨fun σ' H'=>∃ c:Nat,σ'=[some (.ref d),some (.ref sa),some (.ref l),some (.int (0 + (i:Int))),some (.str tx),some (.int (0 + (j:Int))),some (.str ⟨#[c]⟩)]/\Same H5 H'/\(valV (mergeK [] [(.inr "o",V.str "?"),(.inr "c",V.str "?")]) (.inr ⟨#[c]⟩)).getD (V.str ⟨#[c]⟩)=V.str ⟨#[brdS gs i j k]⟩,?_,?_⟩
    ·by_cases h46:k=46
     ·have hsa5:=s5 _ _ hsa4;have hcs5:=hcs4.mono s5;have n8':(nrM gs i j).length<=8:=near_few gs (i,j);refine ⟨_,rfl,rfl,_,rfl,iteP (by rw [h46]; decide +kernel) ?_⟩;refine ⟨_,rfl,sa,rfl,⟨_,SqL.of hsa5⟩,fun z hz=>?_⟩;refine comp_data (K:=K) (a:=sa) (xs:=sv) (fun a=>a ≠ z) ((stM gs).map fun x=>if Cells.near x (i,j)=true then some (cData x) else none) (fun σ=>∃ u0,σ=[u0,some (.int (0 + (i:Int))),some (.int (0 + (j:Int)))]) hz (fun _ h=>h) ⟨_,rfl⟩ (by rw [List.length_map]; exact hcs5.length.symm) (by rw [hcs5.length]; exact Nat.le_trans (show (stM gs).length<=64 from Nat.le_trans (Cells.allCs_length (pZ [111]) 0 gs M.t8) (by omega)) (by decide)) (SqL.of hsa5) ?_ ?_
      ·rintro m x o σ H6 hx ho s6 _ ⟨u0,rfl⟩ Y Z yes no;obtain ⟨y,hy,ya,rfl,hya⟩:=Cel.get (Cel.mono s6 hcs5) hx;have eo:=map_at hy ho;refine ⟨_,rfl,_,rfl,_,rfl,sz_2,fun tq htq=>?_⟩;have z7:=same_new (o:=.tup [V.int (0 + (i:Int)),V.int (0 + (j:Int))]) htq;refine ⟨ya,tq,y,(i,j),rfl,z7 _ _ hya,by rw [upd_same,Int.zero_add,Int.zero_add],_,rfl,?_⟩;by_cases hp:Cells.near y (i,j)=true
       ·rw [if_pos hp] at eo;exact iteP hp ⟨_,rfl,yes _ _ _ _ eo ⟨_,rfl⟩ z7 (CelR.rdn ⟨ya,rfl,z7 _ _ hya⟩)⟩
       ·rw [if_neg hp] at eo;exact iteN (Bool.eq_false_iff.mpr hp) (no _ _ eo ⟨_,rfl⟩ z7)
      ·rintro ys H6 s6 hz6 hr6;rw [outs_filter] at hr6;have yl:ys.length=(nrM gs i j).length:=(RdnAll.cel hr6).length;have y9:ys.length < 9:=by omega
       obtain ⟨d1,d2,d3⟩:=bdig ys.length y9;have hlog:((ys.length:Nat):Int).natAbs.log2 < 1920:=by
        rw [Int.natAbs_natCast];have:∀ d:Nat,d < 9->d.log2 < 1920:=by decide +kernel
        exact this _ y9
       refine ⟨z,_,rfl,.inl (SqL.of hz6),_,rfl,hlog,48 + ys.length,?_,s6,?_⟩
       ·rw [<- d1];rfl
       ·rw [get_no _ y9,yl];unfold brdS;rw [if_pos h46]
     ·refine ⟨_,rfl,rfl,_,rfl,iteN ?_ ⟨k,rfl,Same.refl _,?_⟩⟩
      ·have:∀ k ∈ marks,k ≠ 46->decide (V.str ⟨#[k]⟩=V.str ".")=false:=by decide +kernel
       exact this k km h46
      ·rw [get_oc k km h46];unfold brdS;rw [if_neg h46]
    ·rintro _ H6 ⟨c,rfl,s6,hg⟩;refine ⟨_,rfl,fun dp hdp=>?_⟩;have z7:=same_new (o:=.dK []) hdp;have hup:Same H6 (upd (upd H6 dp (.dK [])) dp (.dK (mergeK [] [(.inr "o",V.str "?"),(.inr "c",V.str "?")]))):=fun b o e=>by
      rw [upd_ne (ne_of_none e hdp)];exact z7 _ _ e
     refine ⟨upd_same,[(.inr "o",V.str "?"),(.inr "c",V.str "?")],rfl,by decide,dp,rfl,.inl ⟨_,.inl upd_same⟩,_,rfl,_,rfl,_,DGet.k (k:=.inr ⟨#[c]⟩) upd_same,tx,⟨#[brdS gs i j k]⟩,rfl,hg,?_,fin _ _ _ (s6.trans hup) rfl⟩;rw [txl];exact Nat.le_trans (show j + 1<=20 by omega) (by decide)
   ·rintro σ H5 ⟨v5,v6,tx,rfl,s5,et⟩;rw [List.take_length] at et;have hl5:=s5 _ _ hl4;have rl:rs.length<=8:=by
     have:(codes rs).length=((gs.take i).mapIdx (brdT gs)).length:=by rw [er]
     rw [codes_len,List.length_mapIdx,List.length_take] at this;omega
    refine ⟨_,rfl,.inl ⟨rfl,_,SqL.of hl5⟩,_,rfl,l,_,_,rfl,rfl,hl5,?_,?_⟩
    ·rw [List.length_map];exact Nat.lt_of_le_of_lt rl (by decide)
    refine ⟨_,_,_,_,rs++[tx],rfl,fun b o e=>?_,fun b o nb e=>?_,?_,?_⟩
    ·rw [upd_ne (ne_of_none e lfree)];exact s5 _ _ (s4 _ _ e)
    ·rw [upd_ne nb];exact s5 _ _ (s34 _ _ nb e)
    ·rw [upd_same,List.map_append];rfl
    ·rw [mapIdx_step _ ht,<- er];unfold codes;rw [List.map_append];show _++[tx.cps.toList]=_;rw [et];rfl
  ·rintro σ H4 ⟨v3,v4,v5,v6,rs,rfl,s4,s34,hl4,er⟩;rw [List.take_length] at er;have nsa:sa ≠ l:=ne_of_none hsa2 hl;have hsa4:=s34 _ _ nsa hsa3;refine ⟨_,rfl,_,rfl,sa,_,rfl,.inl (SqL.of hsa4),sz_2,fun p hp=>?_⟩;have z5:=same_new (o:=.tup [V.ref l,V.int ((sv.length:Nat):Int)]) hp;refine q p l rs _ (s4.free hp) lfree ⟨?_,z5 _ _ hl4⟩ er (s4.trans z5);rw [upd_same,hcs3.length]
noncomputable def nearF (rs:List Str)(c x:Nat × Nat):Bool:=(aroundC rs c).any fun z=>decide (z=x)
theorem pick_map {α β:Type}(g:α->β):∀ (cs:List α) (b:Nat),Subs.pick (cs.map g) b=(Subs.pick cs b).map g
 | [],_=>rfl
 | c :: r,b=>by
  show (if b % 2=1 then [g c] else [])++Subs.pick (r.map g) (b / 2)=((if b % 2=1 then [c] else [])++Subs.pick r (b / 2)).map g;rw [List.map_append,pick_map g r];split <;> rfl
theorem lexN:∀ {cs:List (Nat × Nat)},cs.Pairwise Cells.lex->cs.Nodup:=fun h=>h.imp fun {a b} z e=>by
 subst e;unfold Cells.lex at z;omega
theorem shut_nd (rs:List Str):(shutC rs).Nodup:=lexN (Cells.allCs_lex _ 0 (codes rs))
theorem around_nd (rs:List Str)(c:Nat × Nat):(aroundC rs c).Nodup:=(lexN (Cells.allCs_lex _ 0 (codes rs))).sublist List.filter_sublist
theorem cnt_is {rs:List Str}{c:Nat × Nat}{q:List (Nat × Nat)}(hq:q.Nodup):cntW rs (q.map toI) c=(q.filter (nearF rs c)).length:=by
 unfold cntW;refine List.Perm.length_eq ((List.perm_ext_iff_of_nodup ((around_nd rs c).sublist List.filter_sublist) (hq.sublist List.filter_sublist)).mpr fun x=>?_);rw [List.mem_filter,List.mem_filter,List.any_map,List.any_eq_true];unfold nearF;rw [List.any_eq_true];constructor
 ·rintro ⟨h1,y,hy,e⟩;have e2:toI y=toI x:=of_decide_eq_true e;have:y=x:=by
   obtain ⟨a,b⟩:=y;obtain ⟨a',b'⟩:=x;have e3:(((a:Nat):Int),((b:Nat):Int))=(((a':Nat):Int),((b':Nat):Int)):=e2;injection e3 with p1 p2
   rw [Int.ofNat_inj.mp p1,Int.ofNat_inj.mp p2]
  subst this;exact ⟨hy,y,h1,decide_eq_true rfl⟩
 ·rintro ⟨h1,y,hy,e⟩;have e2:y=x:=of_decide_eq_true e;subst e2;exact ⟨hy,y,h1,decide_eq_true rfl⟩
noncomputable def tellB (rs:List Str)(q:List (Nat × Nat))(c:Nat × Nat):Bool:=decide ((((q.filter (nearF rs c)).length:Nat):Int)=numW rs c)
theorem fit_is {rs:List Str}{q:List (Nat × Nat)}(hq:q.Nodup):fitB rs (q.map toI)=(openC rs).all (tellB rs q):=by
 have hb:∀ c,badW rs (q.map toI) c=!tellB rs q c:=fun c=>by
  unfold badW tellB;rw [cnt_is hq]
 unfold fitB whyN;cases e:(openC rs).find? (badW rs (q.map toI)) with
 | none =>
  have h:=List.find?_eq_none.mp e;symm;refine List.all_eq_true.mpr fun c hc=>?_;have:=h c hc;rw [hb c] at this;cases ht:tellB rs q c with
  | true=>rfl
  | false =>
   rw [ht] at this;exact absurd rfl this
 | some c =>
  have h1:=List.find?_some e;have h2:=List.mem_of_find?_eq_some e;rw [hb c] at h1;symm;show (openC rs).all (tellB rs q)=false;refine Bool.eq_false_iff.mpr fun z=>?_;have:=List.all_eq_true.mp z c h2;rw [this] at h1;cases h1
theorem mem_rowCs_of {p:Nat->Bool}{i:Nat}:∀ {j m:Nat} {t:List Nat} {c:Nat},t[m]?=some c->p c=true->(i,j + m) ∈ Cells.rowCs p i j t
 | j,m,[],c,h,_=>by simp at h
 | j,0,d :: r,c,h,hp=>by
  have e:d=c:=by simpa using h
  subst e;rw [Cells.rowCs,if_pos hp];exact List.mem_append_left _ List.mem_cons_self
 | j,m + 1,d :: r,c,h,hp=>by
  rw [Cells.rowCs];refine List.mem_append_right _ ?_;have:=mem_rowCs_of (i:=i) (j:=j + 1) (m:=m) (t:=r) (c:=c) (by simpa using h) hp;rwa [show j + 1 + m=j + (m + 1) by omega] at this
theorem mem_allCs_of {p:Nat->Bool}:∀ {i m:Nat} {rs:List (List Nat)} {t:List Nat} {j c:Nat},rs[m]?=some t->t[j]?=some c->p c=true->(i + m,j) ∈ Cells.allCs p i rs
 | i,m,[],t,j,c,h,_,_=>by simp at h
 | i,0,d :: r,t,j,c,h,hj,hp=>by
  have e:d=t:=by simpa using h
  subst e;rw [Cells.allCs];refine List.mem_append_left _ ?_;have:=mem_rowCs_of (i:=i) (j:=0) hj hp;rwa [show 0 + j=j by omega] at this
 | i,m + 1,d :: r,t,j,c,h,hj,hp=>by
  rw [Cells.allCs];refine List.mem_append_right _ ?_;have:=mem_allCs_of (i:=i + 1) (m:=m) (rs:=r) (t:=t) (j:=j) (c:=c) (by simpa using h) hj hp;rwa [show i + 1 + m=i + (m + 1) by omega] at this
theorem on_board {p:Nat->Bool}{rs:List Str}{c:Nat × Nat}{t:Str}{k:Nat}(h:rs[c.1]?=some t)(hj:t.cps.toList[c.2]?=some k)(hp:p k=true):c ∈ Cells.allCs p 0 (codes rs):=by
 have:=mem_allCs_of (p:=p) (i:=0) (codes_get h) hj hp;rw [Nat.zero_add] at this;exact this
theorem lex_same:∀ {a b:List (Nat × Nat)},a.Pairwise Cells.lex->b.Pairwise Cells.lex->(∀ x,x ∈ a ↔ x ∈ b)->a=b
 | [],[],_,_,_=>rfl
 | [],y :: b,_,_,h=>absurd ((h y).mpr List.mem_cons_self) List.not_mem_nil
 | x :: a,[],_,_,h=>absurd ((h x).mp List.mem_cons_self) List.not_mem_nil
 | x :: a,y :: b,ha,hb,h=>by
  obtain ⟨a1,a2⟩:=List.pairwise_cons.mp ha;obtain ⟨b1,b2⟩:=List.pairwise_cons.mp hb;have irr:∀ z:Nat × Nat,¬ Cells.lex z z:=fun z hz=>by
   unfold Cells.lex at hz;omega
  have e:x=y:=by
   rcases List.mem_cons.mp ((h x).mp List.mem_cons_self) with e | m1
   ·exact e
   ·rcases List.mem_cons.mp ((h y).mpr List.mem_cons_self) with e | m2
    ·exact e.symm
    ·have h1:=b1 x m1;have h2:=a1 y m2;unfold Cells.lex at h1 h2;omega
  subst e;rw [lex_same a2 b2 fun z=>?_];constructor
  ·intro hz;rcases List.mem_cons.mp ((h z).mp (List.mem_cons_of_mem _ hz)) with e | m
   ·subst e;exact absurd (a1 z hz) (irr z)
   ·exact m
  ·intro hz;rcases List.mem_cons.mp ((h z).mpr (List.mem_cons_of_mem _ hz)) with e | m
   ·subst e;exact absurd (b1 z hz) (irr z)
   ·exact m
theorem mem_subs {α:Type}{p:List α}(cs:List α):p ∈ Subs.subs cs ↔ p.Sublist cs:=by
 rw [<- List.reverse_reverse cs];induction cs.reverse generalizing p with
 | nil =>
  show p ∈ [[]] ↔ p.Sublist [];rw [List.mem_singleton,List.sublist_nil]
 | cons c r ih =>
  rw [List.reverse_cons,Subs.subs_snoc];unfold Subs.step;rw [List.mem_append,ih,List.sublist_append_iff];constructor
  ·rintro (h | h)
   ·exact ⟨p,[],(List.append_nil p).symm,h,List.nil_sublist _⟩
   ·obtain ⟨q,hq,rfl⟩:=List.mem_map.mp h;exact ⟨q,[c],rfl,ih.mp hq,List.Sublist.refl _⟩
  ·rintro ⟨l1,l2,rfl,h1,h2⟩;cases h2 with
   | cons _ h =>
    rw [List.sublist_nil.mp h,List.append_nil];exact .inl h1
   | cons_cons _ h =>
    rw [List.sublist_nil.mp h];exact .inr (List.mem_map.mpr ⟨l1,ih.mpr h1,rfl⟩)
theorem sub_map {α β:Type}{g:α->β}{k:List β}{cs:List α}(h:k.Sublist (cs.map g)):∃ q:List α,q.Sublist cs/\k=q.map g:=by
 obtain ⟨q,hq,e⟩:=List.sublist_map_iff.mp h;exact ⟨q,hq,e⟩
theorem lays_mem {rs:List Str}{n:Int}{k:List (Int × Int)}:k ∈ laysF rs n ↔ ∃ q:List (Nat × Nat),q.Sublist (shutC rs)/\k=q.map toI/\((q.length:Nat):Int)=n/\(openC rs).all (tellB rs q)=true:=by
 unfold laysF chosen;rw [List.mem_filter,List.mem_filter,mem_subs];constructor
 ·rintro ⟨⟨h1,h2⟩,h3⟩;obtain ⟨q,hq,rfl⟩:=sub_map h1;rw [fit_is ((shut_nd rs).sublist hq)] at h3;have h2:=of_decide_eq_true h2;rw [List.length_map] at h2;exact ⟨q,hq,rfl,h2,h3⟩
 ·rintro ⟨q,hq,rfl,h2,h3⟩;refine ⟨⟨hq.map toI,?_⟩,?_⟩
  ·refine decide_eq_true ?_;rw [List.length_map];exact h2
  ·rw [fit_is ((shut_nd rs).sublist hq)];exact h3
noncomputable def one (c:Nat × Nat)(m:Nat):KV1:=[(keyC c,V.int (m:Nat))]
theorem one_nums {c:Nat × Nat}{m:Nat}(h:m<=8):Nums [c] 1 (one c m):=⟨fun kv hkv=>by
 rw [List.mem_singleton.mp hkv];exact ⟨c,List.mem_singleton.mpr rfl,m,h,rfl,rfl⟩,by
 show [keyC c].Nodup;exact List.nodup_cons.mpr ⟨List.not_mem_nil,.nil⟩,Nat.le_refl _⟩
theorem dig_one (c x:Nat × Nat)(m k:Nat):dig (one c m) x k=if x=c then 48 + m else k:=by
 unfold dig one;by_cases e:x=c
 ·subst e;rw [valV_pos rfl,if_pos rfl];rfl
 ·rw [valV_neg (fun h=>e (keyC_inj h).symm),if_neg e];rfl
theorem at_put {rs:List Str}{c x:Nat × Nat}{m:Nat}{t:Str}{k:Nat}(h1:rs[x.1]?=some t)(h2:t.cps.toList[x.2]?=some k):∃ t',(putRs (one c m) rs)[x.1]?=some t'/\t'.cps.toList[x.2]?=some (if x=c then 48 + m else k):=by
 refine ⟨putT (one c m) x.1 t,putRs_at h1,?_⟩;rw [putT_list,putRow_at h2,dig_one]
theorem put_at {rs:List Str}{c x:Nat × Nat}{m:Nat}{t':Str}{k':Nat}(h1:(putRs (one c m) rs)[x.1]?=some t')(h2:t'.cps.toList[x.2]?=some k'):∃ t k,rs[x.1]?=some t/\t.cps.toList[x.2]?=some k/\k'=if x=c then 48 + m else k:=by
 cases e:rs[x.1]? with
 | none =>
  have h0:=List.getElem?_eq_none_iff.mp e;rw [List.getElem?_eq_none_iff.mpr (by rw [putRs_len]; exact h0)] at h1;cases h1
 | some t =>
  rw [putRs_at e] at h1;have et:=Option.some.inj h1;subst et;rw [putT_list] at h2;cases e2:t.cps.toList[x.2]? with
  | none =>
   have h0:=List.getElem?_eq_none_iff.mp e2;rw [List.getElem?_eq_none_iff.mpr (by unfold putRow; rw [List.length_mapIdx]; exact h0)] at h2;cases h2
  | some k =>
   rw [putRow_at e2,dig_one] at h2;exact ⟨t,k,rfl,e2,(Option.some.inj h2).symm⟩
theorem in_put {p:Nat->Bool}{rs:List Str}{c x:Nat × Nat}{m:Nat}(hc:c ∈ shutC rs):x ∈ Cells.allCs p 0 (codes (putRs (one c m) rs)) ↔ (x=c/\p (48 + m)=true)\/(x ≠ c/\x ∈ Cells.allCs p 0 (codes rs)):=by
 constructor
 ·intro h;obtain ⟨t',k',h1,h2,hp,_⟩:=cell_at_board h;obtain ⟨t,k,g1,g2,e⟩:=put_at h1 h2;by_cases ex:x=c
  ·rw [if_pos ex] at e;exact .inl ⟨ex,by rw [<- e]; exact hp⟩
  ·rw [if_neg ex] at e;exact .inr ⟨ex,on_board g1 g2 (by rw [<- e]; exact hp)⟩
 ·rintro (⟨rfl,hp⟩ | ⟨ex,h⟩)
  ·obtain ⟨t,k,h1,h2,_,_⟩:=cell_at_board hc;obtain ⟨t',g1,g2⟩:=at_put (c:=x) (m:=m) h1 h2;rw [if_pos rfl] at g2;exact on_board g1 g2 hp
  ·obtain ⟨t,k,h1,h2,hp,_⟩:=cell_at_board h;obtain ⟨t',g1,g2⟩:=at_put (c:=c) (m:=m) h1 h2;rw [if_neg ex] at g2;exact on_board g1 g2 hp
theorem shut_put {rs:List Str}{c:Nat × Nat}{m:Nat}(hc:c ∈ shutC rs)(hm:m<=8):shutC (putRs (one c m) rs)=(shutC rs).filter fun x=>!decide (x=c):=by
 refine lex_same (Cells.allCs_lex _ 0 _) ((Cells.allCs_lex _ 0 _).filter _) fun x=>?_;rw [List.mem_filter,Bool.not_eq_true',decide_eq_false_iff_not];unfold shutC;rw [in_put hc];have hp:pShut (48 + m)=false:=decide_eq_false (by omega);rw [hp];constructor
 ·rintro (⟨_,h⟩ | ⟨h1,h2⟩)
  ·cases h
  ·exact ⟨h2,h1⟩
 ·rintro ⟨h1,h2⟩;exact .inr ⟨h2,h1⟩
theorem around_put {rs:List Str}{c y:Nat × Nat}{m:Nat}(hc:c ∈ shutC rs)(hm:m<=8):aroundC (putRs (one c m) rs) y=aroundC rs y:=by
 unfold aroundC;congr 1;refine lex_same (Cells.allCs_lex _ 0 _) (Cells.allCs_lex _ 0 _) fun x=>?_;rw [in_put hc];have hp:pCell (48 + m)=true:=by
  unfold pCell;rw [decide_eq_false (by omega)];rfl
 constructor
 ·rintro (⟨rfl,_⟩ | ⟨_,h⟩)
  ·obtain ⟨t,k,h1,h2,h3,_⟩:=cell_at_board hc;refine on_board h1 h2 ?_;have e:k=63:=of_decide_eq_true h3;rw [e];rfl
  ·exact h
 ·intro h;by_cases e:x=c
  ·exact .inl ⟨e,hp⟩
  ·exact .inr ⟨e,h⟩
theorem sgn_put {rs:List Str}{c x:Nat × Nat}{m:Nat}{t:Str}{k:Nat}(h1:rs[x.1]?=some t)(h2:t.cps.toList[x.2]?=some k):Cells.sgn (codes (putRs (one c m) rs)) x=if x=c then 48 + m else k:=by
 obtain ⟨t',g1,g2⟩:=at_put (c:=c) (m:=m) h1 h2;exact Cells.sgn_at (codes_get g1) g2
theorem near_is {rs:List Str}{c:Nat × Nat}{q:List (Nat × Nat)}:nearN rs c (q.map toI)=(q.filter (nearF rs c)).length:=by
 unfold nearN;rw [List.filter_map,List.length_map];congr 1;refine List.filter_congr fun x _=>?_;show ((aroundC rs c).map toI).any (fun z=>decide (z=toI x))=nearF rs c x;unfold nearF;rw [List.any_map];congr 1;funext z;show decide (toI z=toI x)=decide (z=x);rw [decide_eq_decide];exact ⟨toI_inj,fun e=>by rw [e]⟩
theorem inL_map {q:List (Nat × Nat)}{c:Nat × Nat}:inL (q.map toI) (toI c)=true ↔ c ∈ q:=by
 unfold inL;rw [List.any_map,List.any_eq_true];constructor
 ·rintro ⟨x,hx,e⟩;have e2:toI x=toI c:=of_decide_eq_true e;rw [<- toI_inj e2];exact hx
 ·intro h;exact ⟨c,h,decide_eq_true rfl⟩
theorem lays_put {rs:List Str}{n:Int}{c:Nat × Nat}{k:List (Int × Int)}(hc:c ∈ shutC rs)(hk:k ∈ laysF rs n)(hi:inL k (toI c)=false):nearN rs c k<=8/\k ∈ laysF (putRs (one c (nearN rs c k)) rs) n:=by
 obtain ⟨q,hq,rfl,hl,ha⟩:=lays_mem.mp hk;have cq:c ∉ q:=fun h=>by
  rw [inL_map.mpr h] at hi;cases hi
 have qn:q.Nodup:=(shut_nd rs).sublist hq;have h8:nearN rs c (q.map toI)<=8:=by
  rw [near_is,<- cnt_is qn];unfold cntW;refine Nat.le_trans (List.length_filter_le _ _) ?_;unfold aroundC;exact near_few _ _
 refine ⟨h8,lays_mem.mpr ⟨q,?_,rfl,hl,?_⟩⟩
 ·rw [shut_put hc h8];have:=hq.filter fun x=>!decide (x=c);rw [List.filter_eq_self.mpr fun x hx=>?_] at this
  ·exact this
  ·have e:decide (x=c)=false:=decide_eq_false fun e=>cq (e ▸ hx);rw [e];rfl
 ·refine List.all_eq_true.mpr fun x hx=>?_;have ea:∀ y,nearF (putRs (one c (nearN rs c (q.map toI))) rs) y=nearF rs y:=fun y=>by
   unfold nearF;rw [around_put hc h8]
  unfold tellB numW;rw [ea];rcases (in_put hc).mp hx with ⟨rfl,_⟩ | ⟨ex,ho⟩
  ·obtain ⟨t,k,h1,h2,_,_⟩:=cell_at_board hc;rw [sgn_put h1 h2,if_pos rfl,near_is];refine decide_eq_true ?_;omega
  ·obtain ⟨t,k,h1,h2,_,es⟩:=cell_at_board ho;have:=List.all_eq_true.mp ha x ho;unfold tellB numW at this;rw [sgn_put h1 h2,if_neg ex,<- es];exact this
theorem subs_map {α β:Type}(g:α->β)(cs:List α):Subs.subs (cs.map g)=(Subs.subs cs).map (List.map g):=by
 rw [Subs.subs_pick,Subs.subs_pick,List.map_map,List.length_map];exact List.map_congr_left fun b _=>pick_map g cs b
noncomputable def tellL (rs:List Str)(q:List (Nat × Nat))(o:Nat × Nat):Bool:=decide ((((q.filter fun x=>Cells.near o x).length:Nat):Int)=numW rs o)
theorem tell_same {rs:List Str}{q:List (Nat × Nat)}(hq:q.Sublist (shutC rs))(o:Nat × Nat):tellL rs q o=tellB rs q o:=by
 unfold tellL tellB;have e:(q.filter fun x=>Cells.near o x)=q.filter (nearF rs o):=List.filter_congr fun x hx=>by
  rw [Bool.eq_iff_iff];unfold nearF aroundC;rw [List.any_eq_true,Cells.near_symm];constructor
  ·intro h;obtain ⟨t,k,h1,h2,h3,_⟩:=cell_at_board (hq.mem hx);refine ⟨x,List.mem_filter.mpr ⟨on_board h1 h2 ?_,h⟩,decide_eq_true rfl⟩;have ek:k=63:=of_decide_eq_true h3;rw [ek];rfl
  ·rintro ⟨y,hy,e⟩;have e:y=x:=of_decide_eq_true e;subst e;exact (List.mem_filter.mp hy).2
 rw [e]
noncomputable def allL0 (rs:List Str)(n:Int):List (List (Nat × Nat)):=(Subs.subs (shutC rs)).filter fun q=>decide (((q.length:Nat):Int)=n)
noncomputable def allLi (rs:List Str)(n:Int)(i:Nat):List (List (Nat × Nat)):=(allL0 rs n).filter fun q=>((openC rs).take i).all (tellL rs q)
theorem all_is (rs:List Str)(n:Int):(allLi rs n (openC rs).length).map (List.map toI)=laysF rs n:=by
 unfold allLi allL0 laysF chosen cellsI;rw [subs_map,List.filter_map,List.filter_map,List.take_length,List.filter_filter,List.filter_filter];congr 1;refine List.filter_congr fun q hq=>?_;have hs:=(mem_subs _).mp hq;show _=(fitB rs (q.map toI) && decide ((((q.map toI).length:Nat):Int)=n));rw [fit_is ((shut_nd rs).sublist hs),List.length_map];congr 1;rw [Bool.eq_iff_iff,List.all_eq_true,List.all_eq_true];constructor
 ·intro h o ho;rw [<- tell_same hs];exact h o ho
 ·intro h o ho;rw [tell_same hs];exact h o ho
theorem allLi_step {rs:List Str}{n:Int}{i:Nat}{o:Nat × Nat}(h:(openC rs)[i]?=some o):allLi rs n (i + 1)=(allLi rs n i).filter fun q=>tellL rs q o:=by
 unfold allLi;rw [List.filter_filter];refine List.filter_congr fun q _=>?_;rw [List.take_add_one,h,List.all_append,Bool.and_comm];show (List.all [o] (tellL rs q) && _)=_;rw [List.all_cons,List.all_nil,Bool.and_true]
theorem subs_len {α:Type}(cs:List α):(Subs.subs cs).length=2 ^ cs.length:=by
 rw [Subs.subs_pick,List.length_map,List.length_range]
noncomputable def spAllL:Sp:=fun vs H Q _=>∃ (p l:Addr) (rs:List Str) (n:Int),vs=[.ref p]/\BoardAt H p l rs n/\Rows bd.cps.toList rs/\(shutC rs).length<=8 /\
 ∀ (d:Addr) (ws:List V) (ks:List (List (Int × Int))) (H':Hp),H d=none->H' d=some (.lst ws)->Lists (fun a=>H a=none/\a ≠ d) H' ws ks->ks.Perm (laysF rs n)->Same H H'->Q (.ref d) H'
theorem q_is:("?":Str)=⟨#[63]⟩:=by decide +kernel
theorem sc_law_all:FnScope ["_law_board_here","_law_cells_here","_law_opens","_law_found","_law_cell","_law_left","_law_one","_law_number"] ["_law_board_here"] (defScope s_law_all):=⟨rfl,rfl,rfl,by decide +kernel,rfl,by decide +kernel,by decide +kernel⟩
theorem ok_law_all {f1 f2:Addr}{fd1 fd2:FuncData}(T:Txt mg)(D:DefAt K mg "_law_all" s_law_all ["_law_board_here"] f fd)(D_law_near:DefAt K mg "_law_near" s_law_near ["_law_one","_law_other"] f1 fd1)(D_law_cells:DefAt K mg "_law_cells" s_law_cells ["_law_rows","_law_signs"] f2 fd2):FnOk P w K mg base CX0 2 f fd ["_law_board_here"] spAllL:=by
 refine D.F.ok sc_law_all (fun vs H Q E h=>?_) (fun cdv A outer s H vs Q E hr h=>?_)
 ·obtain ⟨p,l,rs,n,rfl,_⟩:=h;rfl
 ·obtain ⟨p,l,rs,n,rfl,b,R,h8,q⟩:=h;refine ⟨_,(pss_cons (ps_set (i:=1) sc_law_all.nd rfl (Or.inl rfl) (pc0 (ok_law_cells T D_law_cells) hr D_law_cells (pa_cons (pe_ix ix_tup (pv 0) pe_int (fun _ _=>rfl)) (pa_cons (pe_lst (pa_cons pe_str pa_nil)) pa_nil))))
   (pss_cons (ps_set (i:=2) sc_law_all.nd rfl (Or.inl rfl) (pc0 (ok_law_cells T D_law_cells) hr D_law_cells (pa_cons (pe_ix ix_tup (pv 0) pe_int (fun _ _=>rfl)) (pa_cons (pe_callTy (call_list_text rfl) (by rfl) T.b_list PyProof.Rows.boot_list (pa_cons pe_str pa_nil)) pa_nil))))
   (pss_cons (ps_set (i:=3) sc_law_all.nd rfl (Or.inl rfl) (pe_lst (pa_cons (pe_lst pa_nil) pa_nil)))
   (pss_cons (ps_for PassesOwn.never rfl (pi_list (pv 1)) (pg_name (i:=4) sc_law_all.nd rfl (Or.inr rfl)) (pss_one (ps_set (i:=3) sc_law_all.nd rfl (Or.inl rfl) (pe_op op_cat (pv 3) (pe_comp (N:=["_law_some","_law_cell"]) (src:=[none,some 4]) (CompOk.free (O:=(defScope s_law_all).names) (XN:=["_law_board_here","_law_cells_here","_law_opens","_law_found","_law_cell","_law_left","_law_one","_law_number"]) rfl rfl ⟨_,rfl⟩ rfl rfl (by decide +kernel) (by decide +kernel) (by decide +kernel) rfl (by decide +kernel)) rfl (pi_list (pv 3)) (fun _ _ _ _ _=>(pg_name (i:=0) (by show List.Nodup (["_law_some","_law_cell"]:List Str); decide +kernel) rfl (Or.inl rfl))) (fun _ _ _ _ _=>pifs_nil) (fun _ _ _ _ _=>(pe_op op_cat (pv 0) (pe_lst (pa_cons (pv 1) pa_nil)))))))))
   (pss_cons (ps_setC (i:=5) sc_law_all.nd rfl rfl (N:=["_law_some","_law_board_here"]) (src:=[none,some 0]) (CompOk.free (O:=(defScope s_law_all).names) (XN:=["_law_board_here","_law_cells_here","_law_opens","_law_found","_law_cell","_law_left","_law_one","_law_number"]) rfl rfl ⟨_,rfl⟩ rfl rfl (by decide +kernel) (by decide +kernel) (by decide +kernel) rfl (by decide +kernel)) rfl (pi_list (pv 3)) (fun _ _ _ _ _=>(pg_name (i:=0) (by show List.Nodup (["_law_some","_law_board_here"]:List Str); decide +kernel) rfl (Or.inl rfl))) (fun _ _ _ _ _=>(pifs_one (pt_cmpR op_eq (pe_callB (call_len_seqK (K:=K) (by rfl)) (by rfl) T.b_len PySem.boot_len (pa_cons (pv 0) pa_nil)) (pe_ix (ix_tupK (K:=K) (by rfl)) (pv 1) pe_int (fun _ _=>rfl)) (nomark _)))) (fun _ _ _ _ _=>(pv 0)))
   (pss_cons (ps_for PassesOwn.never rfl (pi_list (pv 2)) (pg_name (i:=6) sc_law_all.nd rfl (Or.inr rfl)) (pss_cons (ps_set (i:=7) sc_law_all.nd rfl (Or.inr rfl) (pe_callTy call_int_str (by rfl) T.b_int PyProof.Rows.boot_int (pa_cons (pe_ix ix_str (pe_ix ix_list (pe_ix ix_tup (pv 0) pe_int (fun _ _=>rfl)) (pe_ix ix_tup (pv 6) pe_int (fun _ _=>rfl)) (fun _ _=>rfl)) (pe_ix ix_tup (pv 6) pe_int (fun _ _=>rfl)) (fun _ _=>rfl)) pa_nil)))
   (pss_one (ps_setC (i:=5) sc_law_all.nd rfl rfl (N:=["_law_some","_law_number","_law_one"]) (src:=[none,some 7,some 6]) (CompOk.free (O:=(defScope s_law_all).names) (XN:=["_law_board_here","_law_cells_here","_law_opens","_law_found","_law_cell","_law_left","_law_one","_law_number"]) rfl rfl ⟨_,rfl⟩ rfl rfl (by decide +kernel) (by decide +kernel) (by decide +kernel) rfl (by decide +kernel)) rfl (pi_list (pv 5)) (fun _ _ _ _ _=>(pg_name (i:=0) (by show List.Nodup (["_law_some","_law_number","_law_one"]:List Str); decide +kernel) rfl (Or.inl rfl))) (fun _ _ _ _ _=>(pifs_one (pt_cmpR op_eq (pe_callB (call_len_seqK (K:=K) (by rfl)) (by rfl) T.b_len PySem.boot_len (pa_cons (pe_comp (N:=["_law_cell","_law_one"]) (src:=[none,some 2]) (CompOk.byRfl rfl (by decide +kernel) (by decide +kernel) (by rfl) rfl (by rfl)) (by rfl) (pi_listK (K:=K) (by rfl) (pv 0)) (fun _ _ _ _ _=>(pg_name (i:=0) (by show List.Nodup (["_law_cell","_law_one"]:List Str); decide +kernel) rfl (Or.inl rfl))) (fun _ _ _ _ _=>(pifs_one (pt_truthK (K:=K) (by rfl) (pc0 (ok_law_near T D_law_near) hr D_law_near (pa_cons (pv 1) (pa_cons (pv 0) pa_nil))) (fun _=>rfl)))) (fun _ _ _ _ _=>(pv 0))) pa_nil)) (pv 1) (nomark _)))) (fun _ _ _ _ _=>(pv 0))))))
   (pss_one (ps_ret (pe_callB (GS.call_sortedGL hr.units) (by rfl) T.b_sorted PyProof.Rows.boot_sorted (pa_cons (pv 5) pa_nil)))))))))),?_⟩
  refine ⟨_,rfl,p,_,0,_,rfl,rfl,SqT.of b.tp,rfl,sz_1,fun sg hsg=>?_⟩;have z1:=same_new (o:=.lst [V.str "?"]) hsg;refine ⟨l,sg,_,codes rs,[63],rfl,z1 _ _ b.rw,GridAt.rows _ rs,by rw [codes_len]; exact R.hi,R.short,by rw [upd_same,q_is]; rfl,fun ca us H1 hca hca1 hc1 s1=>?_⟩;have hc1:Cel H1 us (shutC rs):=by
   have e:Cells.allCs (pZ [63]) 0 (codes rs)=shutC rs:=Cells.allCs_congr (fun k=>by
    unfold pZ pShut;rw [decide_eq_decide];exact List.mem_singleton) 0 _
   rw [<- e];exact hc1
  have s01:=z1.trans s1;have b1:=b.mono s01;refine ⟨_,rfl,p,_,0,_,rfl,rfl,SqT.of b1.tp,rfl,"012345678",rfl,by decide,fun sg2 hsg2=>?_⟩;have z2:=same_new (o:=.lst (("012345678":Str).cps.toList.map fun c=>V.str ⟨#[c]⟩)) hsg2;refine ⟨l,sg2,_,codes rs,[48,49,50,51,52,53,54,55,56],rfl,z2 _ _ b1.rw,GridAt.rows _ rs,by rw [codes_len]; exact R.hi,R.short,by rw [upd_same,nine_is],fun oa os H2 hoa hoa2 hc2 s2=>?_⟩;have ec:Cells.allCs (pZ [48,49,50,51,52,53,54,55,56]) 0 (codes rs)=openC rs:=allCs_at 0 _ fun t ht k hk=>pZ_open k (R.signsIn t ht k hk);rw [ec] at hc2;have s02:=s01.trans (z2.trans s2);have hca2:=(z2.trans s2) _ _ hca1;have hcs:=hc1.mono (z2.trans s2);have ht:Tup2 H2 us (cellsI rs):=Cel.tup2 hcs;have ul:us.length=(shutC rs).length:=hcs.length;have pl:(cellsI rs).length=(shutC rs).length:=List.length_map _;refine ⟨sz_0,fun e0 he0=>⟨sz_1,fun f0 hf0=>?_⟩⟩;have y1:=same_new (o:=.lst []) he0;have y2:=same_new (o:=.lst [.ref e0]) hf0;have y12:=y1.trans y2;have hL0:Lists (fun a=>H2 a=none) (upd (upd H2 e0 (.lst [])) f0 (.lst [.ref e0])) [.ref e0] [[]]:=.cons ⟨e0,[],rfl,he0,y2 _ _ upd_same,.nil⟩ .nil;have hf2:upd (upd H2 e0 (.lst [])) f0 (.lst [.ref e0]) f0=some (.lst [.ref e0]):=upd_same;generalize upd (upd H2 e0 (.lst [])) f0 (.lst [.ref e0])=H3 at *
  refine ⟨_,rfl,ca,rfl,⟨_,SqL.of (y12 _ _ hca2)⟩,?_⟩;refine for_list (K:=K) (a:=ca) (xs:=us) (fun i σ H'=>∃ (fa:Addr) (fs:List V) (v4 v5 v6 v7:Option V),σ=[some (.ref p),some (.ref ca),some (.ref oa),some (.ref fa),v4,v5,v6,v7]/\Same H2 H'/\H' fa=some (.lst fs)/\Lists (fun a=>H2 a=none) H' fs (Subs.subs ((cellsI rs).take i)))
   ⟨f0,_,_,_,_,_,rfl,y12,hf2,hL0⟩ (fun i σ H' _ ⟨_,_,_,_,_,_,_,z,_⟩=>SqL.of (z _ _ hca2)) ?_ ?_
  ·rintro i x σ H4 hx ⟨fa,fs,v4,v5,v6,v7,rfl,s4,hfa,hL⟩;obtain ⟨c,hc,rc⟩:=tup2_get (tup2_mono s4 ht) hx;have il:=(List.getElem?_eq_some_iff.mp hc).1;have tk:(cellsI rs).take (i + 1)=(cellsI rs).take i++[c]:=by
    rw [List.take_add_one,hc];rfl
   have fl:fs.length<=256:=by
    rw [lists_len hL,subs_len];refine Nat.pow_le_pow_right (by decide) (show ((cellsI rs).take i).length<=8 from ?_);rw [List.length_take];omega
   have dp:∀ k ∈ Subs.subs ((cellsI rs).take i),k.length<=8:=fun k hk=>by
    have h1:=((mem_subs _).mp hk).length_le;rw [List.length_take] at h1;omega
   have eF:Subs.subs ((cellsI rs).take (i + 1))=Subs.step (Subs.subs ((cellsI rs).take i)) c:=by
    rw [tk,Subs.subs_snoc]
   generalize Subs.subs ((cellsI rs).take i)=F at *
   refine ⟨_,rfl,_,rfl,fa,rfl,⟨_,SqL.of hfa⟩,fun z hz=>?_⟩;refine comp_list (K:=K) (a:=fa) (xs:=fs) (fun j σ' H'=>∃ (u0:Option V) (ys:List V),σ'=[u0,some x]/\Same H4 H'/\H' z=some (.lst ys)/\Lists (fun a=>H4 a=none/\a ≠ z) H' ys ((F.take j).map (·++[c])))
    ⟨_,[],rfl,same_new hz,upd_same,.nil⟩ (fun j σ' H' _ ⟨_,_,_,z,_⟩=>SqL.of (z _ _ hfa)) ?_ ?_
   ·rintro j v σ' H5 hv ⟨u0,ys,rfl,s5,hz5,hL5⟩;obtain ⟨k,a,ws,hk,rfl,an,ha,tw⟩:=lists_at hL hv;have wl:=tup2_len tw;have kd:=dp k (List.mem_of_getElem? hk);have jl:=(List.getElem?_eq_some_iff.mp hk).1;have tj:F.take (j + 1)=F.take j++[k]:=by
     rw [List.take_add_one,hk];rfl
    have e1:(F.take (j + 1)).map (·++[c])=(F.take j).map (·++[c])++[k++[c]]:=by
     rw [tj,List.map_append];rfl
    rw [e1];unfold gName;refine yes_if ?_;refine ⟨_,rfl,_,rfl,sz_1,fun t1 ht1=>?_⟩;have y5:=same_new (o:=.lst [x]) ht1;refine ⟨a,t1,ws,[x],rfl,rfl,y5 _ _ (s5 _ _ ha),upd_same,Nat.le_trans (show ws.length + 1<=100 by omega) (by decide),fun t2 ht2=>?_⟩;have y6:=same_new (o:=.lst (ws++[x])) ht2;have y56:=y5.trans y6;have h6:upd (upd H5 t1 (.lst [x])) t2 (.lst (ws++[x])) t2=some (.lst (ws++[x])):=upd_same;have tz:t2 ≠ z:=fun e=>by
     subst e;rw [y5 _ _ hz5] at ht2;cases ht2
    have n4:=y5.free ht2;have n3:=s5.free n4;have tw6:=tup2_app (tup2_mono (s5.trans y56) tw) (.cons (PR.mono (s5.trans y56) rc) .nil);generalize upd (upd H5 t1 (.lst [x])) t2 (.lst (ws++[x]))=H6 at *
    have hz6:=y56 _ _ hz5;have yl:ys.length<=256:=by
     rw [lists_len hL5,List.length_map,List.length_take];have:=lists_len hL;omega
    refine ⟨ys,hz6,Nat.lt_of_le_of_lt yl (by decide),_,ys++[.ref t2],rfl,fun b o e=>?_,upd_same,lists_app (lists_into hz6 (fun a h=>h.2) (lists_mono y56 hL5)) (.cons ⟨t2,ws++[x],rfl,⟨n3,tz⟩,by rw [upd_ne tz]; exact h6,tup2_into hz6 tw6⟩ .nil)⟩;rw [upd_ne (ne_of_none e hz)];exact y56 _ _ (s5 _ _ e)
   ·rintro σ' H5 ⟨u0,ys,rfl,s5,hz5,hL5⟩;rw [lists_len hL,List.take_length] at hL5;have yl:ys.length<=256:=by
     rw [lists_len hL5,List.length_map];have:=lists_len hL;omega
    refine ⟨fa,z,fs,ys,rfl,rfl,s5 _ _ hfa,hz5,Nat.le_trans (Nat.add_le_add fl yl) (by decide),fun g hg=>?_⟩;have y5:=same_new (o:=.lst (fs++ys)) hg;have s45:=s4.trans s5;refine ⟨g,fs++ys,_,_,_,_,rfl,s45.trans y5,upd_same,?_⟩;rw [eF];exact lists_app (lists_mono (s5.trans y5) hL) (lists_mono y5 (lists_weak (fun a h=>s4.free h.1) hL5))
  ·rintro σ H4 ⟨fa,fs,v4,v5,v6,v7,rfl,s4,hfa,hL⟩;rw [ul,<- pl,List.take_length] at hL;have eS:Subs.subs (cellsI rs)=(Subs.subs (shutC rs)).map (List.map toI):=subs_map toI _;rw [eS] at hL;have fl:fs.length<=256:=by
    rw [lists_len hL,List.length_map,subs_len];exact Nat.pow_le_pow_right (by decide) h8
   have s04:=s02.trans s4;have b4:=b.mono s04;refine ⟨_,rfl,fa,rfl,⟨_,SqL.of hfa⟩,fun z hz=>?_⟩;have eL:(allL0 rs n)=(Subs.subs (shutC rs)).filter fun q=>decide (((q.length:Nat):Int)=n):=rfl;generalize Subs.subs (shutC rs)=SS at *
   refine comp_list (K:=K) (a:=fa) (xs:=fs) (fun j σ' H'=>∃ (u0:Option V) (ys:List V),σ'=[u0,some (.ref p)]/\Same H4 H'/\H' z=some (.lst ys)/\Lists (fun a=>H2 a=none/\a ≠ z) H' ys (((SS.take j).filter fun q=>decide (((q.length:Nat):Int)=n)).map (List.map toI))/\ys.length<=j)
    ⟨_,[],rfl,same_new hz,upd_same,.nil,Nat.le_refl _⟩ (fun j σ' H' _ ⟨_,_,_,z,_⟩=>SqL.of (z _ _ hfa)) ?_ ?_
   ·rintro j v σ' H5 hv ⟨u0,ys,rfl,s5,hz5,hL5,yl⟩;obtain ⟨k',a,ws,hk',rfl,an,ha,tw⟩:=lists_at hL hv;rw [List.getElem?_map] at hk';obtain ⟨k,hk,rfl⟩:=Option.map_eq_some_iff.mp hk';have wl:ws.length=k.length:=by rw [tup2_len tw,List.length_map]
    have jl:=(List.getElem?_eq_some_iff.mp hv).1;have tj:SS.take (j + 1)=SS.take j++[k]:=by
     rw [List.take_add_one,hk];rfl
    refine ⟨_,rfl,a,ws,rfl,.inl (SqL.of (s5 _ _ ha)),_,rfl,p,_,1,_,rfl,rfl,SqT.of (s5 _ _ b4.tp),rfl,rfl,_,rfl,?_⟩;rw [wl,tj,List.filter_append,List.map_append];have ed:decide (V.int ((k.length:Nat):Int)=V.int n)=decide (((k.length:Nat):Int)=n):=by simp only [V.int.injEq]
    rw [ed];by_cases hlt:((k.length:Nat):Int)=n
    ·have az:a ≠ z:=ne_of_none ha hz;rw [List.filter_cons,if_pos (decide_eq_true hlt)];refine iteP (decide_eq_true hlt) ⟨_,rfl,ys,hz5,Nat.lt_of_le_of_lt (show ys.length<=256 by omega) (by decide),_,ys++[.ref a],rfl,fun b o e=>?_,upd_same,lists_app (lists_into hz5 (fun a h=>h.2) hL5) (.cons ⟨a,ws,rfl,⟨an,az⟩,by rw [upd_ne az]; exact s5 _ _ ha,tup2_into hz5 (tup2_mono s5 tw)⟩ .nil),?_⟩
     ·rw [upd_ne (ne_of_none e hz)];exact s5 _ _ e
     ·rw [List.length_append];exact Nat.succ_le_succ yl
    ·rw [List.filter_cons,if_neg (by simpa using hlt),List.filter_nil,List.map_nil,List.append_nil];exact iteN (decide_eq_false hlt) ⟨_,ys,rfl,s5,hz5,hL5,by omega⟩
   ·rintro σ' H5 ⟨u0,ys,rfl,s5,hz5,hL5,yl⟩;have fe:fs.length=SS.length:=by rw [lists_len hL,List.length_map]
    rw [fe,List.take_length,<- eL] at hL5;have s05:=s04.trans s5;have hLz:Lists (fun a=>H a=none/\a ≠ z) H5 ys ((allLi rs n 0).map (List.map toI)):=by
     have e0:allLi rs n 0=allL0 rs n:=List.filter_eq_self.mpr fun q _=>rfl;rw [e0];exact lists_weak (fun a h=>⟨s02.free h.1,h.2⟩) hL5
    have yl:ys.length<=256:=by omega
    refine ⟨_,rfl,oa,rfl,⟨_,SqL.of ((s4.trans s5) _ _ hoa2)⟩,?_⟩;have zn:H z=none:=s04.free hz;refine for_list (K:=K) (a:=oa) (xs:=os) (fun i σ H'=>∃ (la:Addr) (ls:List V) (v4 v6 v7:Option V),σ=[some (.ref p),some (.ref ca),some (.ref oa),some (.ref fa),v4,some (.ref la),v6,v7]/\Same H5 H'/\H la=none/\H' la=some (.lst ls)/\Lists (fun a=>H a=none) H' ls ((allLi rs n i).map (List.map toI))/\ls.length<=256)
     ⟨z,ys,_,_,_,rfl,Same.refl _,zn,hz5,lists_weak (fun a h=>h.1) hLz,yl⟩ (fun i σ H' _ ⟨_,_,_,_,_,_,s6,_⟩=>SqL.of (s6 _ _ ((s4.trans s5) _ _ hoa2))) ?_ ?_
    ·rintro i x σ H6 hx ⟨la,ls,v4,v6,v7,rfl,s6,lan,hla,hL6,lsl⟩;have s26:=(s4.trans s5).trans s6;obtain ⟨o,ho,ra⟩:=Cel.get (hc2.mono s26) hx;obtain ⟨xa,rfl,hxa⟩:=ra;have s06:=s05.trans s6;have b6:=b.mono s06;obtain ⟨t,sgn,ht',hj',hop,es⟩:=cell_at_board (List.mem_of_getElem? ho);obtain ⟨o1,o2⟩:=open_sign (sign_in R ht' hj') hop;have en:numW rs o=((sgn:Nat):Int) - 48:=by
      unfold numW;rw [es]
     have hat:atI (rs.map V.str) ((o.1:Nat):Int)=some (V.str t):=atI_nat (by rw [List.getElem?_map,ht']; rfl);refine ⟨_,rfl,p,_,0,_,rfl,rfl,SqT.of b6.tp,rfl,_,rfl,xa,_,0,_,rfl,rfl,SqT.of hxa,rfl,l,_,_,_,rfl,rfl,SqL.of b6.rw,hat,_,rfl,xa,_,1,_,rfl,rfl,SqT.of hxa,rfl,t,_,sgn,rfl,rfl,R.tlen ht',atI_nat hj',_,_,rfl,int_sign o1 o2,(by show 1<=640; decide),?_⟩;refine ⟨_,rfl,la,rfl,⟨_,SqL.of hla⟩,fun z2 hz2=>?_⟩;have ls2:ls.length=(allLi rs n i).length:=by rw [lists_len hL6,List.length_map]
     have estep:=allLi_step (n:=n) ho;have dpq:∀ k ∈ allLi rs n i,k.length<=8:=fun k hk=>by
      have h1:=((mem_subs _).mp (List.mem_filter.mp (List.mem_filter.mp hk).1).1).length_le;omega
     generalize allLi rs n i=LI at *
     refine comp_list (K:=K) (a:=la) (xs:=ls) (fun j σ' H'=>∃ (u0:Option V) (ys:List V),σ'=[u0,some (.int (((sgn:Nat):Int) - 48)),some (.ref xa)]/\Same H6 H'/\H' z2=some (.lst ys)/\Lists (fun a=>H a=none/\a ≠ z2) H' ys (((LI.take j).filter fun q=>tellL rs q o).map (List.map toI))/\ys.length<=j)
      ⟨_,[],rfl,same_new hz2,upd_same,.nil,Nat.le_refl _⟩ (fun j σ' H' _ ⟨_,_,_,z,_⟩=>SqL.of (z _ _ hla)) ?_ ?_
     ·rintro j v σ' H7 hv ⟨u0,ys,rfl,s7,hz7,hL7,yl7⟩;obtain ⟨k',a,ws,hk',rfl,an,ha,tw⟩:=lists_at hL6 hv;rw [List.getElem?_map] at hk';obtain ⟨k,hk,rfl⟩:=Option.map_eq_some_iff.mp hk';have jl:=(List.getElem?_eq_some_iff.mp hv).1;have k8:=dpq k (List.mem_of_getElem? hk);have tj:LI.take (j + 1)=LI.take j++[k]:=by
       rw [List.take_add_one,hk];rfl
      have cel:Cel H7 ws k:=cel_of_tup2 (tup2_mono s7 tw);have wk:ws.length=k.length:=cel.length;refine ⟨_,rfl,a,rfl,⟨_,SqL.of (s7 _ _ ha)⟩,fun y hy=>?_⟩;refine comp_list (K:=K) (a:=a) (xs:=ws) (fun m σ'' H'=>∃ (w0:Option V) (zs:List V),σ''=[w0,some (.ref xa)]/\Same H7 H'/\H' y=some (.lst zs)/\zs.length=((k.take m).filter fun x=>Cells.near o x).length)
       ⟨_,[],rfl,same_new hy,upd_same,rfl⟩ (fun m σ'' H' _ ⟨_,_,_,z,_⟩=>SqL.of (z _ _ (s7 _ _ ha))) ?_ ?_
      ·rintro m v2 σ'' H8 hv2 ⟨w0,zs,rfl,s8,hy8,zl⟩;obtain ⟨e,he,ea,rfl,hea⟩:=Cel.get (cel.mono s8) hv2;have ml:=(List.getElem?_eq_some_iff.mp hv2).1;refine ⟨_,rfl,_,rfl,xa,ea,o,e,rfl,s8 _ _ (s7 _ _ hxa),hea,_,rfl,?_⟩;have tk:k.take (m + 1)=k.take m++[e]:=by
        rw [List.take_add_one,he];rfl
       have zl2:zs.length<=64:=by
        rw [zl];refine Nat.le_trans (List.length_filter_le _ _) ?_;rw [List.length_take];omega
       by_cases hp:Cells.near o e=true
       ·refine iteP hp ⟨_,rfl,zs,hy8,Nat.lt_of_le_of_lt zl2 (by decide),_,zs++[V.ref ea],rfl,fun b o ee=>?_,upd_same,?_⟩
        ·rw [upd_ne (ne_of_none ee hy)];exact s8 _ _ ee
        ·rw [tk,List.filter_append,List.length_append,List.length_append,zl];simp only [List.filter_cons,hp,if_true,List.filter_nil,List.length_cons,List.length_nil]
       ·refine iteN (Bool.eq_false_iff.mpr hp) ⟨_,zs,rfl,s8,hy8,?_⟩;rw [tk,List.filter_append,List.length_append,zl];simp only [List.filter_cons,if_neg hp,List.filter_nil,List.length_nil,Nat.add_zero]
      ·rintro σ'' H8 ⟨w0,zs,rfl,s8,hy8,zl⟩;rw [wk,List.take_length] at zl;refine ⟨y,zs,rfl,.inl (SqL.of hy8),_,rfl,rfl,_,rfl,?_⟩;rw [zl,tj,List.filter_append,List.map_append];have ed:decide (V.int (((k.filter fun x=>Cells.near o x).length:Nat):Int)=V.int (((sgn:Nat):Int) - 48))=tellL rs k o:=by
        unfold tellL;rw [en];simp only [V.int.injEq]
       rw [ed];have s68:=s7.trans s8;by_cases hlt:tellL rs k o=true
       ·have az:a ≠ z2:=ne_of_none ha hz2;rw [List.filter_cons,if_pos hlt];have hz8:=s8 _ _ hz7;refine iteP hlt ⟨_,rfl,ys,hz8,Nat.lt_of_le_of_lt (show ys.length<=256 by omega) (by decide),_,ys++[.ref a],rfl,fun b o e=>?_,upd_same,lists_app (lists_into hz8 (fun a h=>h.2) (lists_mono s8 hL7)) (.cons ⟨a,ws,rfl,⟨an,az⟩,by rw [upd_ne az]; exact s68 _ _ ha,tup2_into hz8 (tup2_mono s68 tw)⟩ .nil),?_⟩
        ·rw [upd_ne (ne_of_none e hz2)];exact s68 _ _ e
        ·rw [List.length_append];exact Nat.succ_le_succ yl7
       ·rw [List.filter_cons,if_neg hlt,List.filter_nil,List.map_nil,List.append_nil];exact iteN (Bool.eq_false_iff.mpr hlt) ⟨_,ys,rfl,s68,s8 _ _ hz7,lists_mono s8 hL7,by omega⟩
     ·rintro σ' H7 ⟨u0,ys,rfl,s7,hz7,hL7,yl7⟩;rw [ls2,List.take_length,<- estep] at hL7;exact ⟨z2,ys,_,_,_,rfl,s6.trans s7,s06.free hz2,hz7,lists_weak (fun a h=>h.1) hL7,by omega⟩
    ·rintro σ H6 ⟨la,ls,v4,v6,v7,rfl,s6,lan,hla,hL6,lsl⟩;rw [hc2.length,all_is] at hL6;refine ⟨_,rfl,la,ls,_,rfl,SqL.of hla,lists_lst hL6,by omega,fun d us' ks' hd hp' hperm hpw hup=>?_⟩;have y5:=same_new (o:=.lst us') hd;have s06:=s05.trans s6;refine q d us' ks' _ (s06.free hd) upd_same (lists_mono y5 (lists_of hp' fun v hv=>?_)) hperm (s06.trans y5);obtain ⟨a,ws,e,na,ha⟩:=lists_has hL6 (hup.mem_iff.mp hv);exact ⟨a,e,na,ne_of_none ha hd⟩
theorem full_perm {ks ks':List (List (Int × Int))}(h:ks.Perm ks')(cs:List (Nat × Nat)):fullAll ks cs=fullAll ks' cs:=by
 unfold fullAll;exact h.all_eq
theorem thr_perm (rs:List Str):∀ (d:Nat) {ks ks':List (List (Int × Int))} (cs:List (Nat × Nat)),ks.Perm ks'->thr rs d ks cs=thr rs d ks' cs
 | 0,_,_,_,h=>h.length_eq
 | d + 1,ks,ks',cs,h=>by
  show (if fullAll ks cs=true then ks.length else maxN (cs.map fun c=>((List.range 9).map fun m=>thr rs d (grpK rs c ks ((m:Nat):Int)) (cs.filter fun x=>!decide (x=c))).sum))=(if fullAll ks' cs=true then ks'.length else maxN (cs.map fun c=>((List.range 9).map fun m=>thr rs d (grpK rs c ks' ((m:Nat):Int)) (cs.filter fun x=>!decide (x=c))).sum));rw [full_perm h,h.length_eq];congr 2;refine List.map_congr_left fun c _=>?_;congr 1;refine List.map_congr_left fun m _=>?_;exact thr_perm rs d _ (h.filter _)
theorem thX_perm (rs:List Str)(d:Nat){ks ks':List (List (Int × Int))}(h:ks.Perm ks')(c:Nat × Nat):thX rs d ks c=thX rs d ks' c:=by
 unfold thX;cases d with
 | zero=>exact h.length_eq
 | succ d =>
  show ((List.range 9).map fun m=>thr rs d (grpK rs c ks ((m:Nat):Int)) _).sum=((List.range 9).map fun m=>thr rs d (grpK rs c ks' ((m:Nat):Int)) _).sum;congr 1;refine List.map_congr_left fun m _=>?_;exact thr_perm rs d _ (h.filter _)
theorem near_put {rs:List Str}{c y:Nat × Nat}{m:Nat}(hc:c ∈ shutC rs)(hm:m<=8)(k:List (Int × Int)):nearN (putRs (one c m) rs) y k=nearN rs y k:=by
 unfold nearN;rw [around_put hc hm]
theorem thr_put {rs:List Str}{c:Nat × Nat}{m:Nat}(hc:c ∈ shutC rs)(hm:m<=8):∀ (d:Nat) (ks:List (List (Int × Int))) (cs:List (Nat × Nat)),thr (putRs (one c m) rs) d ks cs=thr rs d ks cs
 | 0,_,_=>rfl
 | d + 1,ks,cs=>by
  show (if fullAll ks cs=true then ks.length else maxN (cs.map fun c'=>((List.range 9).map fun m'=>thr (putRs (one c m) rs) d (grpK (putRs (one c m) rs) c' ks ((m':Nat):Int)) (cs.filter fun x=>!decide (x=c'))).sum))=(if fullAll ks cs=true then ks.length else maxN (cs.map fun c'=>((List.range 9).map fun m'=>thr rs d (grpK rs c' ks ((m':Nat):Int)) (cs.filter fun x=>!decide (x=c'))).sum));congr 2;refine List.map_congr_left fun c' _=>?_;congr 1;refine List.map_congr_left fun m' _=>?_;rw [thr_put hc hm d];congr 1;unfold grpK;refine List.filter_congr fun k _=>?_;unfold cndK;rw [near_put hc hm]
theorem subs_without {α:Type} [DecidableEq α](c:α)(cs:List α):Subs.subs (cs.filter fun x=>!decide (x=c))=(Subs.subs cs).filter fun q=>!decide (c ∈ q):=by
 rw [<- List.reverse_reverse cs];induction cs.reverse with
 | nil=>rfl
 | cons x r ih =>
  rw [List.reverse_cons,Subs.subs_snoc,List.filter_append];unfold Subs.step;rw [List.filter_append,List.filter_map];by_cases e:x=c
  ·subst e;rw [List.filter_cons,if_neg (by simp),List.filter_nil,List.append_nil,ih];have e0:((Subs.subs r.reverse).filter ((fun q=>!decide (x ∈ q)) ∘ fun q=>q++[x]))=[]:=List.filter_eq_nil_iff.mpr fun q _=>by simp [Function.comp]
   rw [e0,List.map_nil,List.append_nil]
  ·rw [List.filter_cons,if_pos (by simp [e]),List.filter_nil,Subs.subs_snoc,ih];unfold Subs.step;congr 2;refine List.filter_congr fun q _=>?_;show _=!decide (c ∈ q++[x]);congr 1;rw [decide_eq_decide,List.mem_append,List.mem_singleton];exact ⟨.inl,fun h=>h.resolve_right fun z=>e z.symm⟩
noncomputable def laysQ (rs:List Str)(n:Int):List (List (Nat × Nat)):=(Subs.subs (shutC rs)).filter fun q=>(openC rs).all (tellB rs q) && decide (((q.length:Nat):Int)=n)
theorem lays_Qis (rs:List Str)(n:Int):laysF rs n=(laysQ rs n).map (List.map toI):=by
 unfold laysF chosen cellsI laysQ;rw [subs_map,List.filter_map,List.filter_map,List.filter_filter];congr 1;refine List.filter_congr fun q hq=>?_;have hs:=(mem_subs _).mp hq;show (fitB rs (q.map toI) && decide ((((q.map toI).length:Nat):Int)=n))=_;rw [fit_is ((shut_nd rs).sublist hs),List.length_map]
theorem lays_put_is {rs:List Str}{n:Int}{c:Nat × Nat}{m:Nat}(hc:c ∈ shutC rs)(hm:m<=8):laysF (putRs (one c m) rs) n=grpK rs c (laysF rs n) ((m:Nat):Int):=by
 rw [lays_Qis,lays_Qis];unfold grpK;rw [List.filter_map];congr 1;unfold laysQ;rw [shut_put hc hm,subs_without,List.filter_filter,List.filter_filter];refine List.filter_congr fun q hq=>?_;have hs:=(mem_subs _).mp hq;show _=(cndK rs c ((m:Nat):Int) (q.map toI) && _);unfold cndK;have ei:inL (q.map toI) (toI c)=decide (c ∈ q):=by
  rw [Bool.eq_iff_iff,inL_map,decide_eq_true_eq]
 rw [ei];by_cases hcq:c ∈ q
 ·simp only [hcq,decide_true,Bool.not_true,Bool.and_false,Bool.false_and]
 ·rw [near_is];simp only [hcq,decide_false,Bool.not_false,Bool.and_true,Bool.true_and];have key:(openC (putRs (one c m) rs)).all (tellB (putRs (one c m) rs) q)=(decide (((((q.filter (nearF rs c)).length:Nat):Int))=((m:Nat):Int)) && (openC rs).all (tellB rs q)):=by
   rw [Bool.eq_iff_iff,Bool.and_eq_true,List.all_eq_true,List.all_eq_true,decide_eq_true_eq];have ea:∀ y,nearF (putRs (one c m) rs) y=nearF rs y:=fun y=>by
    unfold nearF;rw [around_put hc hm]
   have tc:tellB (putRs (one c m) rs) q c=decide (((((q.filter (nearF rs c)).length:Nat):Int))=((m:Nat):Int)):=by
    obtain ⟨t,k,h1,h2,_,_⟩:=cell_at_board hc;unfold tellB numW;rw [ea,sgn_put h1 h2,if_pos rfl,decide_eq_decide];omega
   have tx:∀ x ∈ openC rs,x ≠ c->tellB (putRs (one c m) rs) q x=tellB rs q x:=fun x hx ex=>by
    obtain ⟨t,k,h1,h2,_,es⟩:=cell_at_board hx;unfold tellB numW;rw [ea,sgn_put h1 h2,if_neg ex,es]
   have nc:∀ x ∈ openC rs,x ≠ c:=fun x hx e=>by
    subst e;obtain ⟨t,k,h1,h2,h3,e1⟩:=cell_at_board hx;obtain ⟨t',k',g1,g2,g3,e2⟩:=cell_at_board hc;have:k=k':=e1.symm.trans e2;have g:k'=63:=of_decide_eq_true g3;rw [this,g] at h3;exact absurd h3 (by decide)
   constructor
   ·intro h;refine ⟨?_,fun x hx=>?_⟩
    ·have:=h c ((in_put hc).mpr (.inl ⟨rfl,by
      unfold pOpen pCell;rw [decide_eq_false (by omega),decide_eq_false (by omega)];rfl⟩))
     rw [tc] at this;exact of_decide_eq_true this
    ·rw [<- tx x hx (nc x hx)];exact h x ((in_put hc).mpr (.inr ⟨nc x hx,hx⟩))
   ·rintro ⟨h1,h2⟩ x hx;rcases (in_put hc).mp hx with ⟨rfl,_⟩ | ⟨ex,ho⟩
    ·rw [tc];exact decide_eq_true h1
    ·rw [tx x ho ex];exact h2 x ho
  rw [key];cases decide (((((q.filter (nearF rs c)).length:Nat):Int))=((m:Nat):Int)) <;> cases (openC rs).all (tellB rs q) <;> cases decide (((q.length:Nat):Int)=n) <;> rfl
noncomputable def showsM (rs:List Str)(n:Int)(c:Nat × Nat)(m:Int):Prop:=∃ k ∈ laysF rs n,inL k (toI c)=false/\m=(nearN rs c k:Nat)
noncomputable def FirstC (rs:List Str)(n:Int)(d:Nat)(j:Nat)(c:Nat × Nat):Prop:=(shutC rs)[j]?=some c/\(∀ i < j,∀ c',(shutC rs)[i]?=some c'->thX rs d (laysF rs n) c' ≠ thX rs d (laysF rs n) c)/\∀ c' ∈ shutC rs,thX rs d (laysF rs n) c'<=thX rs d (laysF rs n) c
noncomputable def PlanAt (N:Addr->Prop)(n:Int)(H:Hp):Nat->List Str->V->List Addr->Prop
 | 0,_,v,as=>v=.non/\as=[]
 | d + 1,rs,v,as=>(fullAll (laysF rs n) (shutC rs)=true/\v=.non/\as=[])\/(fullAll (laysF rs n) (shutC rs)=false/\∃ (t a D:Addr) (j:Nat) (c:Nat × Nat) (ms:List Int) (f:Int->V) (sub:Int->List Addr),v=.ref t/\H t=some (.tup [.ref a,.ref D])/\H a=some (.tup [.int (c.1:Nat),.int (c.2:Nat)]) /\
   (N D/\H D=some (.dK (ms.map fun m=>((Sum.inl m:Key),f m))))/\FirstC rs n (d + 1) j c/\ms.Pairwise (· < ·)/\(∀ m:Int,m ∈ ms ↔ showsM rs n c m)/\(as=D :: (ms.map sub).flatten/\as.Nodup)/\∀ m ∈ ms,PlanAt N n H d (putRs (one c m.toNat) rs) (f m) (sub m))
theorem PlanAt.mono {N N':Addr->Prop}{n:Int}{H H':Hp}(w:∀ z,N z->N' z)(s:Same H H'):∀ {d:Nat} {rs:List Str} {v:V} {as:List Addr},PlanAt N n H d rs v as->PlanAt N' n H' d rs v as
 | 0,_,_,_,h=>h
 | d + 1,rs,v,as,h=>by
  rcases h with h | ⟨hf,t,a,D,j,c,ms,f,sub,e,h1,h2,h3,h4,h5,h6,h7,h8⟩
  ·exact .inl h
  ·exact .inr ⟨hf,t,a,D,j,c,ms,f,sub,e,s _ _ h1,s _ _ h2,⟨w D h3.1,s _ _ h3.2⟩,h4,h5,h6,h7,fun m hm=>PlanAt.mono w s (h8 m hm)⟩
theorem PlanAt.all {N:Addr->Prop}{n:Int}{H:Hp}:∀ {d:Nat} {rs:List Str} {v:V} {as:List Addr},PlanAt N n H d rs v as->∀ x ∈ as,N x/\∃ kvs,H x=some (.dK kvs)
 | 0,_,_,_,h,x,hx=>by
  rw [h.2] at hx;exact (nomatch hx)
 | d + 1,rs,v,as,h,x,hx=>by
  rcases h with h | ⟨hf,t,a,D,j,c,ms,f,sub,e,h1,h2,h3,h4,h5,h6,h7,h8⟩
  ·rw [h.2.2] at hx;exact (nomatch hx)
  ·rw [h7.1] at hx;rcases List.mem_cons.mp hx with rfl | hx
   ·exact ⟨h3.1,_,h3.2⟩
   ·obtain ⟨l,hl,hx⟩:=List.mem_flatten.mp hx;obtain ⟨m,hm,rfl⟩:=List.mem_map.mp hl;exact PlanAt.all (h8 m hm) x hx
theorem PlanAt.off {N:Addr->Prop}{n:Int}{H:Hp}{dd:Addr}{o:HO}{o':HO}(hd:H dd=some o)(ho:∀ xs,o ≠ .tup xs):∀ {d:Nat} {rs:List Str} {v:V} {as:List Addr},PlanAt N n H d rs v as->dd ∉ as->PlanAt N n (upd H dd o') d rs v as
 | 0,_,_,_,h,_=>h
 | d + 1,rs,v,as,h,hn=>by
  rcases h with h | ⟨hf,t,a,D,j,c,ms,f,sub,e,h1,h2,h3,h4,h5,h6,h7,h8⟩
  ·exact .inl h
  ·have nt:∀ {z:Addr} {xs:List V},H z=some (.tup xs)->z ≠ dd:=fun h e=>by
    rw [e,hd] at h;exact ho _ (Option.some.inj h)
   rw [h7.1,List.mem_cons,not_or] at hn;exact .inr ⟨hf,t,a,D,j,c,ms,f,sub,e,by rw [upd_ne (nt h1)]; exact h1,by rw [upd_ne (nt h2)]; exact h2,⟨h3.1,by rw [upd_ne (fun e=>hn.1 e.symm)]; exact h3.2⟩,h4,h5,h6,h7,fun m hm=>PlanAt.off hd ho (h8 m hm) fun hx=>hn.2 (List.mem_flatten.mpr ⟨_,List.mem_map.mpr ⟨m,hm,rfl⟩,hx⟩)⟩
theorem valK_none {F:Int->V}{ms:List Int}{m:Int}(h:m ∉ ms):valV (ms.map fun m=>((Sum.inl m:Key),F m)) (Sum.inl m)=none:=by
 induction ms with
 | nil=>rfl
 | cons a r ih =>
  rw [List.mem_cons,not_or] at h;rw [List.map_cons,valV_neg (fun e=>h.1 (Sum.inl.inj e).symm)];exact ih h.2
theorem first_same {cs:List (Nat × Nat)}{g:Nat × Nat->Nat}{j1 j:Nat}{c1 c:Nat × Nat}(h1:cs[j1]?=some c1)(f1:∀ i < j1,∀ c',cs[i]?=some c'->g c' ≠ g c1)(m1:∀ c' ∈ cs,g c'<=g c1)(h:cs[j]?=some c)(f:∀ i < j,∀ c',cs[i]?=some c'->g c' ≠ g c)(m:∀ c' ∈ cs,g c'<=g c):j1=j/\c1=c:=by
 have e:g c1=g c:=Nat.le_antisymm (m _ (List.mem_of_getElem? h1)) (m1 _ (List.mem_of_getElem? h));have ej:j1=j:=by
  rcases Nat.lt_trichotomy j1 j with l | l | l
  ·exact absurd e (f j1 l c1 h1)
  ·exact l
  ·exact absurd e.symm (f1 j l c h)
 subst ej;rw [h1] at h;exact ⟨rfl,Option.some.inj h⟩
theorem FirstC.same {rs:List Str}{n:Int}{d j j':Nat}{c c':Nat × Nat}(h:FirstC rs n d j c)(h':FirstC rs n d j' c'):j=j'/\c=c':=first_same (g:=thX rs d (laysF rs n)) h.1 h.2.1 h.2.2 h'.1 h'.2.1 h'.2.2
noncomputable def spPlanE (d:Nat):Sp:=fun vs H Q _=>∃ (p l:Addr) (rs:List Str) (n:Int),vs=[.ref p,.int (d:Nat)]/\BoardAt H p l rs n/\Rows bd.cps.toList rs/\(shutC rs).length<=8/\0<=n/\laysF rs n ≠ []/\∀ (v:V) (as:List Addr) (H':Hp),PlanAt (fun z=>H z=none) n H' d rs v as->Same H H'->Q v H'
noncomputable def spPlanA:Sp:=fun vs H Q E=>∃ d:Nat,d<=3/\spPlanE d vs H Q E
theorem sc_plan:FnScope ["board","depth","opening","cell","plans","number"] ["board","depth"] (defScope s_plan):=⟨rfl,rfl,rfl,by decide +kernel,rfl,by decide +kernel,by decide +kernel⟩
theorem ok_planN (D:DefAt K mg "plan" s_plan ["board","depth"] f fd)(L:Nat):FnOk P w K mg base CX0 (L + 1) f fd ["board","depth"] spNo :=
 D.F.ok sc_plan (fun vs H Q E h=>h.elim) (fun cdv A outer s H vs Q E hr h=>h.elim)
theorem ok_plan_of {L d:Nat}{spP:Sp}{f1 f2 f3 f4:Addr}{fd1 fd2 fd3 fd4:FuncData}(T:Txt mg)(D_plan:DefAt K mg "plan" s_plan ["board","depth"] f fd)(D_best:DefAt K mg "best" s_best ["board","depth"] f1 fd1)(D_told_apart:DefAt K mg "told_apart" s_told_apart ["board","found","cell"] f2 fd2)(D_layings:DefAt K mg "layings" s_layings ["board"] f3 fd3)(D_opened:DefAt K mg "opened" s_opened ["board","numbers"] f4 fd4)
  (G_best:FnOk P w K mg base CX0 L f1 fd1 ["board","depth"] spBest) (G_told_apart:FnOk P w K mg base CX0 L f2 fd2 ["board","found","cell"] spApart) (G_layings:FnOk P w K mg base CX0 L f3 fd3 ["board"] spLay) (G_opened:FnOk P w K mg base CX0 L f4 fd4 ["board","numbers"] spOpened) (G_plan:FnOk P w K mg base CX0 L f fd ["board","depth"] spP) (d3:d<=3) (hP:d=0\/spP=spPlanE (d - 1)):FnOk P w K mg base CX0 (L + 1) f fd ["board","depth"] (spPlanE d):=by
 refine D_plan.F.ok sc_plan (fun vs H Q E h=>?_) (fun cdv A outer s H vs Q E hr h=>?_)
 ·obtain ⟨p,l,rs,n,rfl,_⟩:=h;rfl
 ·obtain ⟨p,l,rs,n,rfl,b,R,h8,n0,hne,q⟩:=h;refine ⟨_,(pss_cons (ps_set (i:=2) sc_plan.nd rfl (Or.inl rfl) (pc0 (hk:=Nat.le_refl _) G_best hr D_best (pa_cons (pv 0) (pa_cons (pv 1) pa_nil))))
   (pss_cons (ps_if (PW.pt (pw_or (pt_cmpR op_eq (pv 1) pe_int (nomark _)) (pw_or1 (pt_cmpR op_isN (pv 2) pe_non (nomark _))))) (pss_one (ps_ret pe_non)) pss_nil)
   (pss_cons (ps_set (i:=3) sc_plan.nd rfl (Or.inl rfl) (pe_ix ix_tup (pv 2) pe_int (fun _ _=>rfl)))
   (pss_cons (ps_set (i:=4) sc_plan.nd rfl (Or.inl rfl) pe_dnewK)
   (pss_cons (ps_for PassesOwn.never rfl (pi_list (pe_callB (call_sortedDI hr.hd) (by rfl) T.b_sorted PyProof.Rows.boot_sorted (pa_cons (pc0 (hk:=Nat.le_refl _) G_told_apart hr D_told_apart (pa_cons (pv 0) (pa_cons (pc0 (hk:=Nat.le_refl _) G_layings hr D_layings (pa_cons (pv 0) pa_nil)) (pa_cons (pv 3) pa_nil)))) pa_nil))) (pg_name (i:=5) sc_plan.nd rfl (Or.inl rfl)) (pss_one (ps_dput (u1 hr.units) (pv 4) (pv 5) (pc0 (hk:=Nat.le_refl _) G_plan hr D_plan (pa_cons (pc0 (hk:=Nat.le_refl _) G_opened hr D_opened (pa_cons (pv 0) (pa_cons (pe_dispT (u1 hr.units) (pv 3) (pv 5)) pa_nil))) (pa_cons (pe_op op_sub (pv 1) pe_int) pa_nil))) rfl)))
   (pss_one (ps_ret (pe_tup (pa_cons (pv 3) (pa_cons (pv 4) pa_nil)))))))))),?_⟩
  refine ⟨_,rfl,_,rfl,p,l,rs,n,(d:Nat),rfl,b,R,h8,n0,⟨by omega,by omega⟩,hne,fun ks H1 hpm s1=>⟨fun hfu=>?_,fun hfu t a fp j c ht ht1 ha1 _ hj hfst hmax=>?_⟩⟩
  ·refine ⟨_,rfl,rfl,_,rfl,?_⟩;cases d with
   | zero=>exact iteP rfl (iteT (q _ [] _ ⟨rfl,rfl⟩ s1))
   | succ d=>exact iteN (decide_eq_false fun e=>absurd (V.int.inj e) (by omega)) ⟨_,rfl,rfl,_,rfl,iteT (q _ [] _ (.inl ⟨(full_perm hpm _).symm.trans hfu,rfl,rfl⟩) s1)⟩
  ·refine ⟨_,rfl,rfl,_,rfl,?_⟩;cases d with
   | zero=>exact iteP rfl (iteT (q _ [] _ ⟨rfl,rfl⟩ s1))
   | succ d =>
   have hP:spP=spPlanE d:=hP.elim (fun h=>absurd h (by omega)) id;subst hP;rw [Int.toNat_natCast] at hfst hmax;have hFC:FirstC rs n (d + 1) j c:=⟨hj,fun i hi c' hc'=>by
    rw [<- thX_perm rs (d + 1) hpm,<- thX_perm rs (d + 1) hpm];exact hfst i hi c' hc',fun c' hc'=>by
    rw [<- thX_perm rs (d + 1) hpm,<- thX_perm rs (d + 1) hpm];exact hmax c' hc'⟩
   refine iteN (decide_eq_false fun e=>absurd (V.int.inj e) (by omega)) ⟨_,rfl,rfl,_,rfl,iteF ?_⟩;refine ⟨_,rfl,t,_,0,_,rfl,rfl,SqT.of ht1,rfl,fun dd hd=>?_⟩;have s2:=same_new (o:=.dK []) hd;have s12:=s1.trans s2;have hc:c ∈ shutC rs:=List.mem_of_getElem? hj;have c64:c.1 < 64/\c.2 < 64:=shut_small R hc;refine ⟨_,rfl,_,rfl,p,l,rs,n,rfl,b.mono s12,R,by omega,n0,fun fa ws ls H3 hfa hfa3 hL3 hnd3 hpm3 hpw3 s3=>?_⟩;have hpm3:ls.Perm (laysF rs n):=hpm3;have s13:=s12.trans s3;have kl:ls.length<=256:=hpm3.length_eq ▸ lays_len rs n h8;have wl:ws.length=ls.length:=lists_len hL3;have ha3:=s3 _ _ (s2 _ _ ha1);refine ⟨_,rfl,p,l,fa,a,rs,n,c,ws,ls,_,rfl,b.mono s13,R,ha3,c64.1,c64.2,hfa3,hL3,(fun k hk=>Nat.le_trans (lays_short h8 (hpm3.mem_iff.mp hk)) (by decide)),by omega,fun g kvs gs H4 hg hg4 hG glen hsum hm _ s4=>?_⟩;refine ⟨g,kvs,gs.map (·.1),rfl,hg4,by rw [hG.e,List.map_map,List.map_map]; rfl,by rw [List.length_map]; omega,fun sa ms hsa hmp hmw=>?_⟩;have s5:=same_new (o:=.lst (ms.map V.int)) hsa;have mss:∀ m:Int,m ∈ ms ↔ showsM rs n c m:=fun m=>by
    rw [hmp.mem_iff,hm];unfold showsM;constructor
    ·rintro ⟨k,hk,e⟩;exact ⟨k,hpm3.mem_iff.mp hk,e⟩
    ·rintro ⟨k,hk,e⟩;exact ⟨k,hpm3.mem_iff.mpr hk,e⟩
   have msn:ms.Nodup:=hmp.nodup_iff.mpr hG.nd;have mst:ms.Pairwise (· < ·):=(hmw.and msn).imp fun {a b} ⟨h1,h2⟩=>by
    have h2:a ≠ b:=h2;omega
   have msl:ms.length<=256:=by
    rw [hmp.length_eq,List.length_map];omega
   have s25:Same (upd H1 dd (.dK [])) (upd H4 sa (.lst (ms.map V.int))):=s3.trans (s4.trans s5);have hsa5:upd H4 sa (.lst (ms.map V.int)) sa=some (.lst (ms.map V.int)):=upd_same;have hsn:upd H1 dd (.dK []) sa=none:=s3.free (s4.free hsa);have hd5:=s25 _ _ (show upd H1 dd (.dK []) dd=some (.dK []) from upd_same);have hsd:sa ≠ dd:=fun e=>by
    rw [e,upd_same] at hsn;cases hsn
   generalize upd H4 sa (.lst (ms.map V.int))=H5 at *
   refine ⟨sa,rfl,⟨_,SqL.of hsa5⟩,?_⟩;have s15:Same H1 H5:=s2.trans s25;refine for_list (K:=K) (a:=sa) (xs:=ms.map V.int) (fun i σ H'=>∃ (v5:Option V) (F:Int->V) (S:Int->List Addr),σ=[some (.ref p),some (.int ((d + 1:Nat):Int)),some (.ref t),some (.ref a),some (.ref dd),v5]/\H' dd=some (.dK ((ms.take i).map fun m=>((Sum.inl m:Key),F m)))/\(∀ m ∈ ms.take i,PlanAt (fun z=>H1 z=none/\z ≠ dd) n H' d (putRs (one c m.toNat) rs) (F m) (S m))/\((ms.take i).map S).flatten.Nodup/\H' sa=some (.lst (ms.map V.int))/\Same H1 H')
    ⟨_,fun _=>.non,fun _=>[],rfl,hd5,fun m hm=>(nomatch hm),.nil,hsa5,s15⟩ (fun i σ H' _ ⟨_,_,_,_,_,_,_,h,_⟩=>SqL.of h) ?_ ?_
   ·rintro i x σ H6 hx ⟨v5,F,S,rfl,hd6,hF6,hS6,hsa6,s6⟩;rw [List.getElem?_map] at hx;obtain ⟨m,hmi,rfl⟩:=Option.map_eq_some_iff.mp hx;obtain ⟨k,hk,hik,em⟩:=(mss m).mp (List.mem_of_getElem? hmi);obtain ⟨m8,hput⟩:=lays_put hc hk hik;subst em;have s06:=s1.trans s6;refine ⟨_,rfl,?_⟩;refine fun e0 he0=>?_;have s7:=same_new (o:=.dT []) he0;refine ⟨_,rfl,_,rfl,a,keyC c,rfl,s7 _ _ (s6 _ _ ha1),upd_same,?_⟩;have e7:upd (upd H6 e0 (.dT [])) e0 (.dT [(keyC c,V.int ((nearN rs c k:Nat):Int))])=upd H6 e0 (.dT (one c (nearN rs c k))):=by
     funext z;unfold upd;split <;> rfl
    rw [e7];have s8:=same_new (o:=.dT (one c (nearN rs c k))) he0;refine ⟨p,l,e0,rs,n,[c],1,one c (nearN rs c k),rfl,b.mono (s06.trans s8),R,upd_same,one_nums m8,fun p2 l2 H8 hp2 hl2 b8 s9=>?_⟩;have R8:=Rows.put (one_nums (c:=c) m8) R;have ed:V.int (((d + 1:Nat):Int) - 1)=V.int ((d:Nat):Int):=by
     congr 1;omega
    refine ⟨_,rfl,_,1,rfl,rfl,p2,l2,_,n,(by rw [<- ed]; rfl),b8,R8,?_,n0,?_,fun v9 as9 H9 hpl s10=>?_⟩
    ·rw [shut_put hc m8];exact Nat.le_trans (List.length_filter_le _ _) h8
    ·exact List.ne_nil_of_mem hput
    have s69:Same H6 H9:=s8.trans (s9.trans s10);have il:i < ms.length:=(List.getElem?_eq_some_iff.mp hmi).1;refine ⟨_,rfl,_,rfl,dd,_,rfl,DPut.k (k:=Sum.inl ((nearN rs c k:Nat):Int)) (s69 _ _ hd6) ?_,?_⟩
    ·rw [List.length_map,List.length_take];exact Nat.lt_of_le_of_lt (show min i ms.length<=256 by omega) (by decide)
    have nmem:((nearN rs c k:Nat):Int) ∉ ms.take i:=fun hm2=>by
     have:=msn;rw [<- List.take_append_drop i ms] at this;obtain ⟨_,_,h3⟩:=List.nodup_append.mp this;refine h3 _ hm2 ((nearN rs c k:Nat):Int) ?_ rfl;obtain ⟨_,e⟩:=List.getElem?_eq_some_iff.mp hmi;rw [List.drop_eq_getElem_cons il,e];exact List.mem_cons_self
    have hd9:=s69 _ _ hd6;refine ⟨_,fun x=>if x=((nearN rs c k:Nat):Int) then v9 else F x,fun x=>if x=((nearN rs c k:Nat):Int) then as9 else S x,rfl,?_,fun m' hm'=>?_,?_,?_,fun z o ez=>?_⟩
    ·rw [upd_same,putK_new _ (valK_none nmem),List.take_add_one,hmi,List.map_append];congr 3
     ·refine List.map_congr_left fun m' hm'=>?_;have e:m' ≠ ((nearN rs c k:Nat):Int):=fun e=>nmem (e ▸ hm');show _=((Sum.inl m':Key),if m'=((nearN rs c k:Nat):Int) then v9 else F m');rw [if_neg e]
     ·show [_]=[((Sum.inl ((nearN rs c k:Nat):Int):Key),if ((nearN rs c k:Nat):Int)=((nearN rs c k:Nat):Int) then v9 else F ((nearN rs c k:Nat):Int))];rw [if_pos rfl]
    ·rw [List.take_add_one,hmi] at hm';rcases List.mem_append.mp hm' with hm' | hm'
     ·have e:m' ≠ ((nearN rs c k:Nat):Int):=fun e=>nmem (e ▸ hm');show PlanAt _ n _ d _ (if m'=((nearN rs c k:Nat):Int) then v9 else F m') (if m'=((nearN rs c k:Nat):Int) then as9 else S m');rw [if_neg e,if_neg e];have hp:=PlanAt.mono (fun z h=>h) s69 (hF6 m' hm');exact PlanAt.off hd9 (fun _ z=>nomatch z) hp fun hx=>(PlanAt.all hp _ hx).1.2 rfl
     ·have e:m'=((nearN rs c k:Nat):Int):=by simpa using hm'
      subst e;show PlanAt _ n _ d _ (if ((nearN rs c k:Nat):Int)=((nearN rs c k:Nat):Int) then v9 else F ((nearN rs c k:Nat):Int)) (if ((nearN rs c k:Nat):Int)=((nearN rs c k:Nat):Int) then as9 else S ((nearN rs c k:Nat):Int));rw [if_pos rfl,if_pos rfl,Int.toNat_natCast];have hp:PlanAt (fun z=>H1 z=none/\z ≠ dd) n H9 d (putRs (one c (nearN rs c k)) rs) v9 as9:=PlanAt.mono (fun z h=>by
       have h6:H6 z=none:=(s8.trans s9).free h;exact ⟨s6.free h6,fun e=>by rw [e,hd6] at h6; cases h6⟩) (Same.refl _) hpl
      exact PlanAt.off hd9 (fun _ z=>nomatch z) hp fun hx=>(PlanAt.all hp _ hx).1.2 rfl
    ·have e1:((ms.take (i + 1)).map fun x=>if x=((nearN rs c k:Nat):Int) then as9 else S x)=(ms.take i).map S++[as9]:=by
      rw [List.take_add_one,hmi,List.map_append];congr 1
      ·refine List.map_congr_left fun m' hm'=>?_;have e:m' ≠ ((nearN rs c k:Nat):Int):=fun e=>nmem (e ▸ hm');show (if m'=((nearN rs c k:Nat):Int) then as9 else S m')=_;rw [if_neg e]
      ·show [if ((nearN rs c k:Nat):Int)=((nearN rs c k:Nat):Int) then as9 else S ((nearN rs c k:Nat):Int)]=[as9];rw [if_pos rfl]
     rw [e1,List.flatten_append];refine List.nodup_append.mpr ⟨hS6,?_,fun x hx z hz e=>?_⟩
     ·show (as9++[]).Nodup;rw [List.append_nil];cases d with
      | zero =>
       rw [hpl.2];exact .nil
      | succ d' =>
       rcases hpl with h | ⟨_,_,_,_,_,_,_,_,_,_,_,_,_,_,_,_,h7,_⟩
       ·rw [h.2.2];exact .nil
       ·exact h7.2
     ·have hz:z ∈ as9:=by simpa using hz
      subst e;obtain ⟨l,hl,hx⟩:=List.mem_flatten.mp hx;obtain ⟨m',hm',rfl⟩:=List.mem_map.mp hl;obtain ⟨_,kk,hk6⟩:=PlanAt.all (hF6 m' hm') x hx;have h9:=(PlanAt.all hpl x hz).1;rw [(s8.trans s9) _ _ hk6] at h9;cases h9
    ·rw [upd_ne hsd];exact s69 _ _ hsa6
    ·rw [upd_ne (ne_of_none ez hd)];exact s69 _ _ (s6 _ _ ez)
   ·rintro σ H6 ⟨v5,F,S,rfl,hd6,hF6,hS6,hsa6,s6⟩;rw [List.length_map,List.take_length] at hd6 hF6 hS6;refine ⟨_,rfl,_,rfl,sz_2,fun tp htp=>?_⟩;have s7:=same_new (o:=.tup [.ref a,.ref dd]) htp;refine q _ (dd :: (ms.map S).flatten) _ (.inr ⟨(full_perm hpm _).symm.trans hfu,tp,a,dd,j,c,ms,F,S,rfl,upd_same,s7 _ _ (s6 _ _ ha1),⟨s1.free hd,s7 _ _ hd6⟩,hFC,mst,mss,⟨rfl,List.nodup_cons.mpr ⟨fun hx=>?_,hS6⟩⟩,fun m hm=>?_⟩) (s1.trans (s6.trans s7))
    ·obtain ⟨l,hl,hx⟩:=List.mem_flatten.mp hx;obtain ⟨m',hm',rfl⟩:=List.mem_map.mp hl;exact (PlanAt.all (hF6 m' hm') _ hx).1.2 rfl
    ·exact PlanAt.mono (fun z h=>s1.free h.1) s7 (hF6 m hm)
theorem ok_plan {f1 f2 f3 f4:Addr}{fd1 fd2 fd3 fd4:FuncData}(T:Txt mg)(D_plan:DefAt K mg "plan" s_plan ["board","depth"] f fd)(D_best:DefAt K mg "best" s_best ["board","depth"] f1 fd1)(D_told_apart:DefAt K mg "told_apart" s_told_apart ["board","found","cell"] f2 fd2)(D_layings:DefAt K mg "layings" s_layings ["board"] f3 fd3)(D_opened:DefAt K mg "opened" s_opened ["board","numbers"] f4 fd4)
  (G_best:FnOk P w K mg base CX0 10 f1 fd1 ["board","depth"] spBest) (G_told_apart:FnOk P w K mg base CX0 2 f2 fd2 ["board","found","cell"] spApart) (G_layings:FnOk P w K mg base CX0 4 f3 fd3 ["board"] spLay) (G_opened:FnOk P w K mg base CX0 1 f4 fd4 ["board","numbers"] spOpened):FnOk P w K mg base CX0 14 f fd ["board","depth"] spPlanA:=by
 have st:∀ {L d:Nat} {spP:Sp},10<=L->d<=3->FnOk P w K mg base CX0 L f fd ["board","depth"] spP->(d=0\/spP=spPlanE (d - 1))->FnOk P w K mg base CX0 (L + 1) f fd ["board","depth"] (spPlanE d):=fun hL hd G h=>ok_plan_of T D_plan D_best D_told_apart D_layings D_opened (G_best.mono hL) (G_told_apart.mono (by omega)) (G_layings.mono (by omega)) (G_opened.mono (by omega)) G hd h;have p0:=st (L:=10) (d:=0) (by decide) (by decide) (ok_planN D_plan 9) (.inl rfl);have p1:=st (L:=11) (d:=1) (by decide) (by decide) p0 (.inr rfl);have p2:=st (L:=12) (d:=2) (by decide) (by decide) p1 (.inr rfl);have p3:=st (L:=13) (d:=3) (by decide) (by decide) p2 (.inr rfl);refine fn_ex fun d hd=>?_;have h:d=0\/d=1\/d=2\/d=3:=by omega
 rcases h with rfl | rfl | rfl | rfl
 ·exact p0.mono (by decide)
 ·exact p1.mono (by decide)
 ·exact p2.mono (by decide)
 ·exact p3
noncomputable def lawN (c:Nat × Nat)(q:List (Nat × Nat)):Nat:=(q.filter fun x=>Cells.near x c).length
theorem near_law {rs:List Str}{q:List (Nat × Nat)}(hq:q.Sublist (shutC rs))(c:Nat × Nat):nearN rs c (q.map toI)=lawN c q:=by
 rw [near_is];unfold lawN;congr 1;refine List.filter_congr fun x hx=>?_;rw [Bool.eq_iff_iff];unfold nearF aroundC;rw [List.any_eq_true];constructor
 ·rintro ⟨y,hy,e⟩;have e:y=x:=of_decide_eq_true e;subst e;exact (List.mem_filter.mp hy).2
 ·intro h;obtain ⟨t,k,h1,h2,h3,_⟩:=cell_at_board (hq.mem hx);refine ⟨x,List.mem_filter.mpr ⟨on_board h1 h2 ?_,h⟩,decide_eq_true rfl⟩;have ek:k=63:=of_decide_eq_true h3;rw [ek];rfl
noncomputable def lawC (c:Nat × Nat)(m:Nat)(q:List (Nat × Nat)):Bool:=!decide (c ∈ q) && decide (lawN c q=m)
theorem cnd_law {rs:List Str}{q:List (Nat × Nat)}(hq:q.Sublist (shutC rs))(c:Nat × Nat)(m:Nat):cndK rs c ((m:Nat):Int) (q.map toI)=lawC c m q:=by
 unfold cndK lawC;rw [near_law hq];congr 1
 ·congr 1;rw [Bool.eq_iff_iff,inL_map,decide_eq_true_eq]
 ·rw [decide_eq_decide];omega
theorem laysQ_sub {rs:List Str}{n:Int}{q:List (Nat × Nat)}(h:q ∈ laysQ rs n):q.Sublist (shutC rs):=(mem_subs _).mp (List.mem_filter.mp h).1
theorem map_toI_inj:∀ {a b:List (List (Nat × Nat))},a.map (List.map toI)=b.map (List.map toI)->a=b:=fun {a b} h=>by
 have e:∀ l:List (List (Nat × Nat)),(l.map (List.map toI)).map (List.map ofI)=l:=fun l=>by
  rw [List.map_map];refine (List.map_congr_left fun q _=>?_).trans (List.map_id l);show (q.map toI).map ofI=q;rw [List.map_map];exact (List.map_congr_left fun c _=>rfl).trans (List.map_id q)
 rw [<- e a,h,e b]
theorem lays_putQ {rs:List Str}{n:Int}{c:Nat × Nat}{m:Nat}(hc:c ∈ shutC rs)(hm:m<=8):laysQ (putRs (one c m) rs) n=(laysQ rs n).filter (lawC c m):=by
 refine map_toI_inj ?_;rw [<- lays_Qis,lays_put_is hc hm,lays_Qis];unfold grpK;rw [List.filter_map];congr 1;exact List.filter_congr fun q hq=>cnd_law (laysQ_sub hq) c m
noncomputable def firstC (rs:List Str)(n:Int)(d:Nat):Option (Nat × Nat):=(shutC rs).find? fun c=>(shutC rs).all fun c'=>decide (thX rs d (laysF rs n) c'<=thX rs d (laysF rs n) c)
theorem first_is {rs:List Str}{n:Int}{d j:Nat}{c:Nat × Nat}(h:FirstC rs n d j c):firstC rs n d=some c:=by
 refine find_at h.1 (List.all_eq_true.mpr fun c' hc'=>decide_eq_true (h.2.2 c' hc')) fun y hy=>?_;obtain ⟨i,hi⟩:=List.getElem?_of_mem hy;rw [List.getElem?_take] at hi;split at hi
 ·rename_i hij;refine Bool.eq_false_iff.mpr fun ha=>h.2.1 i hij y hi ?_;have h1:=of_decide_eq_true (List.all_eq_true.mp ha c (List.mem_of_getElem? h.1));have h2:=h.2.2 y (List.mem_of_getElem? hi);omega
 ·cases hi
theorem first_some {rs:List Str}{n:Int}{d:Nat}{c:Nat × Nat}(h:firstC rs n d=some c):c ∈ shutC rs/\∀ c' ∈ shutC rs,thX rs d (laysF rs n) c'<=thX rs d (laysF rs n) c :=
 by
 unfold firstC at h;refine ⟨List.mem_of_find?_eq_some h,fun c' hc'=>?_⟩;have h2:=List.find?_some (p:=fun c=>(shutC rs).all fun c'=>decide (thX rs d (laysF rs n) c'<=thX rs d (laysF rs n) c)) h;exact of_decide_eq_true (List.all_eq_true.mp h2 c' hc')
theorem first_ex {rs:List Str}{n:Int}{d:Nat}(h:shutC rs ≠ []):∃ c,firstC rs n d=some c:=by
 have key:∀ (l:List (Nat × Nat)) (f:Nat × Nat->Nat),l ≠ []->∃ x ∈ l,∀ y ∈ l,f y<=f x:=by
  intro l f;induction l with
  | nil=>exact fun h=>absurd rfl h
  | cons a r ih =>
   intro _;by_cases hr:r=[]
   ·subst hr;exact ⟨a,List.mem_cons_self,fun y hy=>by rw [List.mem_singleton.mp hy]; exact Nat.le_refl _⟩
   ·obtain ⟨x,hx,hm⟩:=ih hr;by_cases hl:f a<=f x
    ·exact ⟨x,List.mem_cons_of_mem _ hx,fun y hy=>(List.mem_cons.mp hy).elim (fun e=>by rw [e]; exact hl) (hm y)⟩
    ·exact ⟨a,List.mem_cons_self,fun y hy=>(List.mem_cons.mp hy).elim (fun e=>by rw [e]; exact Nat.le_refl _) fun hy=>by have:=hm y hy; omega⟩
 obtain ⟨x,hx,hm⟩:=key (shutC rs) (thX rs d (laysF rs n)) h;cases hf:firstC rs n d with
 | some c=>exact ⟨c,rfl⟩
 | none =>
  have:=List.find?_eq_none.mp hf x hx;exact absurd (List.all_eq_true.mpr fun c' hc'=>decide_eq_true (hm c' hc')) this
noncomputable def wlk (n:Int):Nat->List Str->List (Nat × Nat)->List (Nat × Nat) × Bool
 | 0,_,_=>([],true)
 | d + 1,rs,q=>if fullAll (laysF rs n) (shutC rs)=true then ([],true) else match firstC rs n (d + 1) with
  | none=>([],true)
  | some c=>if c ∈ q then ([c],false) else (c :: (wlk n d (putRs (one c (lawN c q)) rs) q).1,(wlk n d (putRs (one c (lawN c q)) rs) q).2)
theorem part_sum {α:Type}(p:α->Bool)(k:α->Nat):∀ l:List α,(∀ x ∈ l,k x < 9)->(l.filter p).length=((List.range 9).map fun m=>(l.filter fun x=>p x && decide (k x=m)).length).sum:=by
 intro l;induction l with
 | nil =>
  intro _;rfl
 | cons a r ih =>
  intro h;have ih:=ih fun x hx=>h x (List.mem_cons_of_mem _ hx);have ka:=h a List.mem_cons_self;have add:∀ (ms:List Nat) (f g:Nat->Nat),(ms.map fun m=>f m + g m).sum=(ms.map f).sum + (ms.map g).sum:=by
   intro ms f g;induction ms with
   | nil=>rfl
   | cons x s ih2 =>
    rw [List.map_cons,List.sum_cons,List.map_cons,List.sum_cons,List.map_cons,List.sum_cons,ih2];omega
  have e1:∀ m,((a :: r).filter fun x=>p x && decide (k x=m)).length=(r.filter fun x=>p x && decide (k x=m)).length + (if (p a && decide (k a=m))=true then 1 else 0):=fun m=>by
   rw [List.filter_cons];split <;> rfl
  have e2:((a :: r).filter p).length=(r.filter p).length + (if p a=true then 1 else 0):=by
   rw [List.filter_cons];split <;> rfl
  have e3:((List.range 9).map fun m=>if (p a && decide (k a=m))=true then 1 else 0).sum=if p a=true then 1 else 0:=by
   cases hp:p a with
   | false=>rfl
   | true =>
    have hk:k a=0\/k a=1\/k a=2\/k a=3\/k a=4\/k a=5\/k a=6\/k a=7\/k a=8:=by omega
    rcases hk with e | e | e | e | e | e | e | e | e <;> rw [e] <;> rfl
  rw [e2,ih,List.map_congr_left fun m _=>e1 m,add,e3]
theorem walk_count {n:Int}:∀ (d:Nat) {rs:List Str},(shutC rs).length<=8->((laysQ rs n).filter fun q=>(wlk n d rs q).2).length=thr rs d (laysF rs n) (shutC rs)
 | 0,rs,_=>by
  have e:((laysQ rs n).filter fun q=>(wlk n 0 rs q).2)=laysQ rs n:=List.filter_eq_self.mpr fun q _=>rfl;rw [e,lays_Qis];exact (List.length_map _).symm
 | d + 1,rs,h8=>by
  by_cases hf:fullAll (laysF rs n) (shutC rs)=true
  ·rw [thr_succ,if_pos hf,List.filter_eq_self.mpr fun q _=>by unfold wlk; rw [if_pos hf]];rw [lays_Qis,List.length_map]
  ·have cne:shutC rs ≠ []:=by
    intro e;rw [e] at hf;exact hf (by unfold fullAll; exact List.all_eq_true.mpr fun k _=>rfl)
   obtain ⟨c,hc⟩:=first_ex (rs:=rs) (n:=n) (d:=d + 1) cne;obtain ⟨hcm,hmx⟩:=first_some hc;have hT:thr rs (d + 1) (laysF rs n) (shutC rs)=thX rs (d + 1) (laysF rs n) c:=by
    rw [thr_succ,if_neg hf];refine max_is (List.mem_map.mpr ⟨c,hcm,rfl⟩) fun x hx=>?_;obtain ⟨c',hc',rfl⟩:=List.mem_map.mp hx;exact hmx c' hc'
   have k9:∀ q ∈ laysQ rs n,lawN c q < 9:=fun q hq=>by
    have h1:=(laysQ_sub hq).length_le;have h2:lawN c q<=q.length:=List.length_filter_le _ _;omega
   rw [hT,part_sum (fun q=>(wlk n (d + 1) rs q).2) (lawN c) _ k9];show _=((List.range 9).map fun m=>thr rs d (grpK rs c (laysF rs n) ((m:Nat):Int)) ((shutC rs).filter fun x=>!decide (x=c))).sum;congr 1;refine List.map_congr_left fun m hm=>?_;have m8:m<=8:=by
    have:=List.mem_range.mp hm;omega
   have ih:=walk_count d (rs:=putRs (one c m) rs) (n:=n) (by
    rw [shut_put hcm m8];exact Nat.le_trans (List.length_filter_le _ _) h8)
   rw [lays_putQ hcm m8,List.filter_filter,lays_put_is hcm m8,shut_put hcm m8,thr_put hcm m8] at ih;rw [<- ih];congr 1;refine List.filter_congr fun q hq=>?_;have hw:(wlk n (d + 1) rs q).2=(!decide (c ∈ q) && (wlk n d (putRs (one c (lawN c q)) rs) q).2):=by
    show (if fullAll (laysF rs n) (shutC rs)=true then (([]:List (Nat × Nat)),true) else match firstC rs n (d + 1) with
     | none=>([],true)
     | some c=>if c ∈ q then ([c],false) else (c :: (wlk n d (putRs (one c (lawN c q)) rs) q).1,(wlk n d (putRs (one c (lawN c q)) rs) q).2)).2=_
    rw [if_neg hf,hc];by_cases hq2:c ∈ q
    ·show (if c ∈ q then _ else _:List (Nat × Nat) × Bool).2=_;rw [if_pos hq2,decide_eq_true hq2];rfl
    ·show (if c ∈ q then _ else _:List (Nat × Nat) × Bool).2=_;rw [if_neg hq2,decide_eq_false hq2];rfl
   rw [hw];unfold lawC;by_cases e:lawN c q=m
   ·rw [e,decide_eq_true rfl];cases decide (c ∈ q) <;> cases (wlk n d (putRs (one c m) rs) q).2 <;> rfl
   ·rw [decide_eq_false e];cases decide (c ∈ q) <;> simp
theorem walk_stops {n:Int}:∀ (d:Nat) {rs:List Str} {q:List (Nat × Nat)},(shutC rs).length<=8->q ∈ laysQ rs n->(wlk n d rs q).2=true->(wlk n d rs q).1.length=d\/∀ c ∈ shutC rs,c ∉ (wlk n d rs q).1->∀ o ∈ laysQ rs n,(∀ c' ∈ (wlk n d rs q).1,c' ∉ o/\lawN c' o=lawN c' q)->c ∈ o
 | 0,_,_,_,_,_=>.inl rfl
 | d + 1,rs,q,h8,hq,hw=>by
  by_cases hf:fullAll (laysF rs n) (shutC rs)=true
  ·right;intro c hc _ o ho _;unfold fullAll at hf;have ho2:o.map toI ∈ laysF rs n:=by
    rw [lays_Qis];exact List.mem_map.mpr ⟨o,ho,rfl⟩
   have:=List.all_eq_true.mp (List.all_eq_true.mp hf _ ho2) c hc;have e:inL (o.map toI) (toI c)=true:=this;exact inL_map.mp e
  ·have cne:shutC rs ≠ []:=by
    intro e;rw [e] at hf;exact hf (by unfold fullAll; exact List.all_eq_true.mpr fun k _=>rfl)
   obtain ⟨c0,hc0⟩:=first_ex (rs:=rs) (n:=n) (d:=d + 1) cne;obtain ⟨hcm,_⟩:=first_some hc0;have ew:wlk n (d + 1) rs q=if c0 ∈ q then ([c0],false) else (c0 :: (wlk n d (putRs (one c0 (lawN c0 q)) rs) q).1,(wlk n d (putRs (one c0 (lawN c0 q)) rs) q).2):=by
    show (if fullAll (laysF rs n) (shutC rs)=true then (([]:List (Nat × Nat)),true) else match firstC rs n (d + 1) with
     | none=>([],true)
     | some c=>if c ∈ q then ([c],false) else (c :: (wlk n d (putRs (one c (lawN c q)) rs) q).1,(wlk n d (putRs (one c (lawN c q)) rs) q).2))=_
    rw [if_neg hf,hc0]
   rw [ew] at hw ⊢;by_cases hcq:c0 ∈ q
   ·rw [if_pos hcq] at hw;cases hw
   ·rw [if_neg hcq] at hw ⊢;have m8:lawN c0 q<=8:=by
     have h1:=(laysQ_sub hq).length_le;have h2:lawN c0 q<=q.length:=List.length_filter_le _ _;omega
    have hq2:q ∈ laysQ (putRs (one c0 (lawN c0 q)) rs) n:=by
     rw [lays_putQ hcm m8];refine List.mem_filter.mpr ⟨hq,?_⟩;unfold lawC;rw [decide_eq_false hcq,decide_eq_true rfl];rfl
    rcases walk_stops d (rs:=putRs (one c0 (lawN c0 q)) rs) (by rw [shut_put hcm m8]; exact Nat.le_trans (List.length_filter_le _ _) h8) hq2 hw with h | h
    ·exact .inl (by rw [List.length_cons,h])
    ·right;intro c hc hcn o ho hag;rw [List.mem_cons,not_or] at hcn;have hag0:=hag c0 List.mem_cons_self;refine h c ?_ hcn.2 o ?_ fun c' hc'=>hag c' (List.mem_cons_of_mem _ hc')
     ·rw [shut_put hcm m8];refine List.mem_filter.mpr ⟨hc,?_⟩;rw [decide_eq_false hcn.1];rfl
     ·rw [lays_putQ hcm m8];refine List.mem_filter.mpr ⟨ho,?_⟩;unfold lawC;rw [decide_eq_false hag0.1,decide_eq_true hag0.2];rfl
theorem g_lays (cs:List (Nat × Nat)):PyData.canLayAll0 (cs.map cData)=true:=by
 induction cs with
 | nil=>rfl
 | cons c r ih =>
  show (PyData.canLay0 (cData c) && PyData.canLayAll0 (r.map cData))=true;rw [ih];rfl
noncomputable def spToldAt:Sp:=fun vs H Q _=>∃ (la ca:Addr) (us:List V) (q:List (Nat × Nat)) (c:Nat × Nat),vs=[.ref la,.ref ca]/\H la=some (.lst us)/\Cel H us q/\q.length<=64/\H ca=some (.tup [.int (c.1:Nat),.int (c.2:Nat)])/\∀ H',Same H H'->Q (.int (lawN c q:Nat)) H'
noncomputable def spGoes:Sp:=fun vs H Q _=>∃ (v:V) (la:Addr) (us:List V) (N:Addr->Prop) (n:Int) (d:Nat) (rs:List Str) (as:List Addr) (q:List (Nat × Nat)),vs=[v,.ref la,.int (d:Nat)]/\PlanAt N n H d rs v as/\H la=some (.lst us)/\Cel H us q/\q ∈ laysQ rs n/\(shutC rs).length<=8/\d<=3 /\
 ∀ (r ga:Addr) (gus:List V) (H':Hp),H ga=none->H' r=some (.tup [.ref ga,.bl (wlk n d rs q).2])->H' ga=some (.lst gus)->Cel H' gus (wlk n d rs q).1->(∀ c ∈ (wlk n d rs q).1,c ∈ shutC rs)->(wlk n d rs q).1.length<=d->Same H H'->Q (.ref r) H'
theorem valK_some {F:Int->V}{ms:List Int}{m:Int}(h:m ∈ ms):valV (ms.map fun m=>((Sum.inl m:Key),F m)) (Sum.inl m)=some (F m):=by
 induction ms with
 | nil=>exact (nomatch h)
 | cons a r ih =>
  by_cases e:a=m
  ·subst e;exact valV_pos rfl
  ·rw [List.map_cons,valV_neg (fun z=>e (Sum.inl.inj z))];exact ih ((List.mem_cons.mp h).resolve_left fun z=>e z.symm)
theorem cel_into {H:Hp}{z:Addr}{ys ys':List V}(hz:H z=some (.lst ys)){us:List V}{cs:List (Nat × Nat)}(h:Cel H us cs):Cel (upd H z (.lst ys')) us cs:=Cel.one (fun b o nb e=>by rw [upd_ne nb]; exact e) hz h
theorem walk_step {n:Int}{d:Nat}{rs:List Str}{q:List (Nat × Nat)}{c:Nat × Nat}(hf:fullAll (laysF rs n) (shutC rs)=false)(hc:firstC rs n (d + 1)=some c):wlk n (d + 1) rs q=if c ∈ q then ([c],false) else (c :: (wlk n d (putRs (one c (lawN c q)) rs) q).1,(wlk n d (putRs (one c (lawN c q)) rs) q).2):=by
 show (if fullAll (laysF rs n) (shutC rs)=true then (([]:List (Nat × Nat)),true) else match firstC rs n (d + 1) with
  | none=>([],true)
  | some c=>if c ∈ q then ([c],false) else (c :: (wlk n d (putRs (one c (lawN c q)) rs) q).1,(wlk n d (putRs (one c (lawN c q)) rs) q).2))=_
 rw [if_neg (by rw [hf]; decide),hc]
theorem walk_full {n:Int}{d:Nat}{rs:List Str}{q:List (Nat × Nat)}(hf:fullAll (laysF rs n) (shutC rs)=true):wlk n d rs q=([],true):=by
 cases d with
 | zero=>rfl
 | succ d =>
  unfold wlk;rw [if_pos hf]
theorem sc_law_told_at:FnScope ["_law_laying","_law_cell"] ["_law_laying","_law_cell"] (defScope s_law_told_at):=⟨rfl,rfl,rfl,by decide +kernel,rfl,by decide +kernel,by decide +kernel⟩
theorem ok_law_told_at {f1:Addr}{fd1:FuncData}(T:Txt mg)(D:DefAt K mg "_law_told_at" s_law_told_at ["_law_laying","_law_cell"] f fd)(D_law_near:DefAt K mg "_law_near" s_law_near ["_law_one","_law_other"] f1 fd1):FnOk P w K mg base CX0 2 f fd ["_law_laying","_law_cell"] spToldAt:=by
 refine D.F.ok sc_law_told_at (fun vs H Q E h=>?_) (fun cdv A outer s H vs Q E hr h=>?_)
 ·obtain ⟨la,ca,us,q,c,rfl,_⟩:=h;rfl
 ·obtain ⟨la,ca,us,k,c,rfl,hla,cel,k64,hca,q⟩:=h;have ul:us.length=k.length:=cel.length;refine ⟨_,(pss_one (ps_ret (pe_callB call_len_seq (by rfl) T.b_len PySem.boot_len (pa_cons (pe_comp (N:=["_law_one","_law_cell"]) (src:=[none,some 1]) (CompOk.free (O:=(defScope s_law_told_at).names) (XN:=["_law_laying","_law_cell"]) rfl rfl ⟨_,rfl⟩ rfl rfl (by decide +kernel) (by decide +kernel) (by decide +kernel) rfl (by decide +kernel)) rfl (pi_list (pv 0)) (fun _ _ _ _ _=>(pg_name (i:=0) (by show List.Nodup (["_law_one","_law_cell"]:List Str); decide +kernel) rfl (Or.inl rfl))) (fun _ _ _ _ _=>(pifs_one (pt_truthK (K:=K) (by rfl) (pc0 (ok_law_near T D_law_near) hr D_law_near (pa_cons (pv 0) (pa_cons (pv 1) pa_nil))) (fun _=>rfl)))) (fun _ _ _ _ _=>(pv 0))) pa_nil)))),?_⟩;refine ⟨_,rfl,la,rfl,⟨_,SqL.of hla⟩,fun z hz=>?_⟩;refine comp_list (K:=K) (a:=la) (xs:=us) (fun j σ' H'=>∃ (u0:Option V) (ys:List V),σ'=[u0,some (.ref ca)]/\Same H H'/\H' z=some (.lst ys)/\ys.length=((k.take j).filter fun x=>Cells.near x c).length)
   ⟨_,[],rfl,same_new hz,upd_same,rfl⟩ (fun j σ' H' _ ⟨_,_,_,s4,_⟩=>SqL.of (s4 _ _ hla)) ?_ ?_
  ·rintro j v σ' H3 hv ⟨u0,ys,rfl,s4,hz4,yl⟩;obtain ⟨e,he,ea,rfl,hea⟩:=Cel.get (cel.mono s4) hv;have jl:=(List.getElem?_eq_some_iff.mp hv).1;refine ⟨_,rfl,_,rfl,ea,ca,e,c,rfl,hea,s4 _ _ hca,_,rfl,?_⟩;have tk:k.take (j + 1)=k.take j++[e]:=by
    rw [List.take_add_one,he];rfl
   have yl2:ys.length<=64:=by
    rw [yl];refine Nat.le_trans (List.length_filter_le _ _) ?_;rw [List.length_take];omega
   by_cases hp:Cells.near e c=true
   ·refine iteP hp ⟨_,rfl,ys,hz4,Nat.lt_of_le_of_lt yl2 (by decide),_,ys++[V.ref ea],rfl,fun b o ee=>?_,upd_same,?_⟩
    ·rw [upd_ne (ne_of_none ee hz)];exact s4 _ _ ee
    ·rw [tk,List.filter_append,List.length_append,List.length_append,yl];simp only [List.filter_cons,hp,if_true,List.filter_nil,List.length_cons,List.length_nil]
   ·refine iteN (Bool.eq_false_iff.mpr hp) ⟨_,ys,rfl,s4,hz4,?_⟩;rw [tk,List.filter_append,List.length_append,yl];simp only [List.filter_cons,if_neg hp,List.filter_nil,List.length_nil,Nat.add_zero]
  ·rintro σ' H3 ⟨u0,ys,rfl,s4,hz4,yl⟩;rw [ul,List.take_length] at yl;have yn:ys.length=lawN c k:=yl;refine ⟨z,ys,rfl,.inl (SqL.of hz4),?_⟩;rw [yn];exact q _ s4
theorem sc_law_goes:FnScope ["_law_told","_law_laying","_law_depth","_law_gone","_law_cell","_law_number"] ["_law_told","_law_laying","_law_depth"] (defScope s_law_goes):=⟨rfl,rfl,rfl,by decide +kernel,rfl,by decide +kernel,by decide +kernel⟩
theorem ok_law_goes {f1:Addr}{fd1:FuncData}(T:Txt mg)(D:DefAt K mg "_law_goes" s_law_goes ["_law_told","_law_laying","_law_depth"] f fd)(D_law_told_at:DefAt K mg "_law_told_at" s_law_told_at ["_law_laying","_law_cell"] f1 fd1)(G_law_told_at:FnOk P w K mg base CX0 2 f1 fd1 ["_law_laying","_law_cell"] spToldAt):FnOk P w K mg base CX0 3 f fd ["_law_told","_law_laying","_law_depth"] spGoes:=by
 refine D.F.ok sc_law_goes (fun vs H Q E h=>?_) (fun cdv A outer s H vs Q E hr h=>?_)
 ·obtain ⟨v,la,us,N,n,d,rs,as,q,rfl,_⟩:=h;rfl
 ·obtain ⟨v,la,us,N,n,d,rs,as,q,rfl,hpl,hla,cel,hq,h8,d3,qf⟩:=h;refine ⟨_,(pss_cons (ps_set (i:=3) sc_law_goes.nd rfl (Or.inl rfl) (pe_lst pa_nil))
   (pss_cons (ps_while PassesOwn.never (pt_cmpR op_notN (pv 0) pe_non (nomark _)) (pss_cons (ps_if (PW.pt (pw_or (pt_not (pt_truth (pe_callB call_isinst (by rfl) T.b_isinstance PyProof.Rows.boot_isinstance (pa_cons (pv 0) (pa_cons (pe_bltn (v:=.ty "tuple") (by rfl) T.b_tuple PyProof.Rows.boot_tuple (by rfl)) pa_nil))) (fun _=>rfl))) (pw_or (pt_cmpR op_ne (pe_callB call_len_seq (by rfl) T.b_len PySem.boot_len (pa_cons (pv 0) pa_nil)) pe_int (nomark _)) (pw_or1 (pt_not (pt_truth (pe_callB call_isinst (by rfl) T.b_isinstance PyProof.Rows.boot_isinstance (pa_cons (pe_ix ix_tup (pv 0) pe_int (fun _ _=>rfl)) (pa_cons (pe_bltn (v:=.ty "dict") (by rfl) T.b_dict PyProof.Rows.boot_dict (by rfl)) pa_nil))) (fun _=>rfl))))))) (pss_one (ps_ret pe_non)) pss_nil)
   (pss_cons (ps_set (i:=4) sc_law_goes.nd rfl (Or.inl rfl) (pe_ix ix_tup (pv 0) pe_int (fun _ _=>rfl)))
   (pss_cons (ps_if (PW.pt (pw_or (pt_cmpR (op_in_deep hr.units) (pv 4) (pv 3) (by rfl)) (pw_or1 (pt_cmpR op_ge (pe_callB call_len_seq (by rfl) T.b_len PySem.boot_len (pa_cons (pv 3) pa_nil)) (pv 2) (nomark _))))) (pss_one (ps_ret pe_non)) pss_nil)
   (pss_cons (ps_expr (pe_bm PySem.F.plainAttrs_list PySem.F.slot_list_append PySem.F.type_list_append mt_append (pv 3) (pa_cons (pv 4) pa_nil)))
   (pss_cons (ps_if (pt_cmpR (op_in_deep hr.units) (pv 4) (pv 1) (by rfl)) (pss_one (ps_ret (pe_tup (pa_cons (pv 3) (pa_cons pe_bl pa_nil))))) pss_nil)
   (pss_cons (ps_set (i:=5) sc_law_goes.nd rfl (Or.inl rfl) (pc0 G_law_told_at hr D_law_told_at (pa_cons (pv 1) (pa_cons (pv 4) pa_nil))))
   (pss_cons (ps_if (pt_cmp (pc_dnotin (u1 hr.units) (pv 5) (pe_ix ix_tup (pv 0) pe_int (fun _ _=>rfl)))) (pss_one (ps_ret pe_non)) pss_nil)
   (pss_one (ps_set (i:=0) sc_law_goes.nd rfl (Or.inl rfl) (pe_dget (u1 hr.units) (pe_ix ix_tup (pv 0) pe_int (fun _ _=>rfl)) (pv 5) (fun _ _=>rfl))))))))))))
   (pss_one (ps_ret (pe_tup (pa_cons (pv 3) (pa_cons pe_bl pa_nil))))))),?_⟩
  refine ⟨sz_0,fun ga hga=>?_⟩;have s0:=same_new (o:=.lst []) hga;refine ⟨fun m σ H'=>∃ (v':V) (v4 v5:Option V) (rs':List Str) (as':List Addr) (gus:List V) (g:List (Nat × Nat)),σ=[some v',some (.ref la),some (.int (d:Nat)),some (.ref ga),v4,v5]/\Same H H'/\H' ga=some (.lst gus)/\Cel H' gus g/\g.length + m=d/\PlanAt N n H m rs' v' as'/\q ∈ laysQ rs' n/\(shutC rs').length<=8/\(∀ c ∈ shutC rs',c ∈ shutC rs/\c ∉ g)/\(∀ c ∈ g,c ∈ shutC rs)/\wlk n d rs q=(g++(wlk n m rs' q).1,(wlk n m rs' q).2),⟨d,v,_,_,rs,as,[],[],rfl,s0,upd_same,.nil,by simp,hpl,hq,h8,fun c hc=>⟨hc,List.not_mem_nil⟩,fun c hc=>(nomatch hc),by simp⟩,?_⟩;rintro m σ H1 ⟨v',v4,v5,rs',as',gus,g,rfl,s1,hga1,hcg,hgm,hp',hq',h8',hsh,hgs,hwk⟩;have gl:gus.length=g.length:=hcg.length;have fin:∀ (r:Addr) (gus':List V) (H':Hp),(wlk n m rs' q).2=true->(wlk n m rs' q).1=[]->H1 r=none->Q (.ref r) (upd H1 r (.tup [.ref ga,.bl true])):=fun r gus' H' e1 e2 hr=>by
   have s2:=same_new (o:=.tup [.ref ga,.bl true]) hr;rw [e2,List.append_nil,e1] at hwk;refine qf r ga gus _ hga (by rw [hwk]; exact upd_same) (s2 _ _ hga1) (by rw [hwk]; exact hcg.mono s2) (by rw [hwk]; exact hgs) (by rw [hwk]; show g.length<=d; omega) (s1.trans s2)
  cases m with
  | zero =>
   obtain ⟨rfl,_⟩:=hp';refine ⟨_,rfl,rfl,_,rfl,iteN rfl ?_⟩;exact ⟨_,rfl,sz_2,fun r hr=>fin r gus H1 rfl rfl hr⟩
  | succ m =>
   rcases hp' with ⟨hf,rfl,_⟩ | ⟨hf,t,a,dD,j,c,ms,F,sub,rfl,ht,ha,⟨_,hD⟩,hFC,mst,mss,_,hsubs⟩
   ·refine ⟨_,rfl,rfl,_,rfl,iteN rfl ?_⟩;have ew:=walk_full (d:=m + 1) (q:=q) hf;exact ⟨_,rfl,sz_2,fun r hr=>fin r gus H1 (by rw [ew]) (by rw [ew]) hr⟩
   ·have hc:c ∈ shutC rs':=List.mem_of_getElem? hFC.1;have ew:=walk_step (q:=q) hf (first_is hFC);have qs:=laysQ_sub hq';have ht1:=s1 _ _ ht;have ha1:=s1 _ _ ha;have hD1:=s1 _ _ hD;refine ⟨_,rfl,rfl,_,rfl,iteP rfl ?_⟩;refine ⟨fun σ' H'=>∃ m',m' < m + 1/\_,fun _ _ h=>h,?_⟩;refine ⟨_,rfl,_,"tuple","tuple",true,rfl,.tup ht1,(by decide +kernel),true,rfl,iteF ?_⟩;refine ⟨_,rfl,t,_,rfl,.inr (SqT.of ht1),rfl,_,rfl,iteN rfl ?_⟩;refine ⟨_,rfl,t,_,1,_,rfl,rfl,SqT.of ht1,rfl,_,"dict","dict",true,rfl,.dK hD1,(by decide +kernel),true,rfl,iteF ?_⟩;refine ⟨_,rfl,t,_,0,_,rfl,rfl,SqT.of ht1,rfl,?_⟩;refine ⟨_,rfl,_,rfl,cData c,g.map cData,CelR.rdv ⟨a,rfl,ha1⟩,.lst (SqL.of hga1) (cRdv hcg),rfl,g_lays _,(by show 1<=60; decide),_,rfl,?_⟩;have cg:c ∉ g:=(hsh c hc).2;have e1:(if false=true then !(g.map cData).any (fun z=>PyData.eqv z (cData c)) else (g.map cData).any fun z=>PyData.eqv z (cData c))=false:=by
     show (g.map cData).any (fun z=>PyData.eqv z (cData c))=false;rw [in_cells];exact List.any_eq_false.mpr fun z hz h=>cg (by rw [<- of_decide_eq_true h]; exact hz)
    refine iteN e1 ?_;refine ⟨_,rfl,ga,_,rfl,.inl (SqL.of hga1),_,rfl,_,_,rfl,rfl,_,rfl,iteN (decide_eq_false (by omega)) ?_⟩;refine ⟨_,rfl,.inl ⟨rfl,_,SqL.of hga1⟩,_,rfl,ga,_,_,rfl,rfl,hga1,Nat.lt_of_le_of_lt (show gus.length<=3 by omega) (by decide),?_⟩;have s2:Same H (upd H1 ga (.lst (gus++[.ref a]))):=fun b o e=>by
     rw [upd_ne (ne_of_none e hga)];exact s1 _ _ e
    have na:a ≠ ga:=fun e=>by
     rw [e,hga1] at ha1;cases ha1
    have hcg2:Cel (upd H1 ga (.lst (gus++[.ref a]))) (gus++[.ref a]) (g++[c]):=pr_app (cel_into hga1 hcg) (.cons ⟨a,rfl,by rw [upd_ne na]; exact ha1⟩ .nil);have hga2:upd H1 ga (.lst (gus++[.ref a])) ga=some (.lst (gus++[.ref a])):=upd_same;generalize upd H1 ga (.lst (gus++[.ref a]))=H2 at *
    have ha2:=s2 _ _ ha;refine ⟨_,rfl,_,rfl,cData c,q.map cData,CelR.rdv ⟨a,rfl,ha2⟩,.lst (SqL.of (s2 _ _ hla)) (cRdv (cel.mono s2)),rfl,g_lays _,(by show 1<=60; decide),_,rfl,?_⟩;have e2:(if false=true then !(q.map cData).any (fun z=>PyData.eqv z (cData c)) else (q.map cData).any fun z=>PyData.eqv z (cData c))=decide (c ∈ q):=by
     show (q.map cData).any (fun z=>PyData.eqv z (cData c))=_;rw [in_cells,Bool.eq_iff_iff,List.any_eq_true,decide_eq_true_eq];constructor
     ·rintro ⟨x,hx,e⟩;rw [<- of_decide_eq_true e];exact hx
     ·intro h;exact ⟨c,h,decide_eq_true rfl⟩
    rw [e2];have hgs2:∀ x ∈ g++[c],x ∈ shutC rs:=fun x hx=>by
     rcases List.mem_append.mp hx with hx | hx
     ·exact hgs x hx
     ·rw [List.mem_singleton.mp hx];exact (hsh c hc).1
    by_cases hcq:c ∈ q
    ·refine iteP (decide_eq_true hcq) ?_;rw [ew,if_pos hcq] at hwk;refine ⟨_,rfl,sz_2,fun r hr=>?_⟩;have s3:=same_new (o:=.tup [.ref ga,.bl false]) hr;exact qf r ga _ _ hga (by rw [hwk]; exact upd_same) (s3 _ _ hga2) (by rw [hwk]; exact hcg2.mono s3) (by rw [hwk]; exact hgs2) (by rw [hwk]; show (g++[c]).length<=d; rw [List.length_append]; show g.length + 1<=d; omega) (s2.trans s3)
    ·refine iteN (decide_eq_false hcq) ?_;rw [ew,if_neg hcq] at hwk;have q64:q.length<=64:=by
      have:=qs.length_le;omega
     refine ⟨_,rfl,_,rfl,la,a,us,q,c,rfl,s2 _ _ hla,cel.mono s2,q64,ha2,fun H3 s3=>?_⟩;have s03:=s2.trans s3;have m8:lawN c q<=8:=by
      have h1:=qs.length_le;have h2:lawN c q<=q.length:=List.length_filter_le _ _;omega
     have hmm:((lawN c q:Nat):Int) ∈ ms:=(mss _).mpr ⟨q.map toI,by rw [lays_Qis]; exact List.mem_map.mpr ⟨q,hq',rfl⟩,Bool.eq_false_iff.mpr fun h=>hcq (inL_map.mp h),by rw [near_law qs]⟩;have gd:DGet H3 dD (V.int ((lawN c q:Nat):Int)) (some (F ((lawN c q:Nat):Int))):=by
      have:=DGet.k (k:=Sum.inl ((lawN c q:Nat):Int)) (s03 _ _ hD);rw [valK_some (F:=F) hmm] at this;exact this
     refine ⟨_,rfl,_,rfl,t,_,1,_,rfl,rfl,SqT.of (s03 _ _ ht),rfl,dD,_,rfl,gd,_,rfl,iteN rfl ?_⟩;refine ⟨_,rfl,t,_,1,_,rfl,rfl,SqT.of (s03 _ _ ht),rfl,_,rfl,dD,_,rfl,gd,?_⟩;have hsub:=hsubs _ hmm;rw [Int.toNat_natCast] at hsub;refine ⟨m,Nat.lt_succ_self _,_,_,_,_,_,_,g++[c],rfl,s03,s3 _ _ hga2,hcg2.mono s3,by rw [List.length_append]; show g.length + 1 + m=d; omega,hsub,?_,?_,fun x hx=>?_,hgs2,?_⟩
     ·rw [lays_putQ hc m8];refine List.mem_filter.mpr ⟨hq',?_⟩;unfold lawC;rw [decide_eq_false hcq,decide_eq_true rfl];rfl
     ·rw [shut_put hc m8];exact Nat.le_trans (List.length_filter_le _ _) h8'
     ·rw [shut_put hc m8] at hx;obtain ⟨x1,x2⟩:=List.mem_filter.mp hx;rw [Bool.not_eq_true',decide_eq_false_iff_not] at x2;refine ⟨(hsh x x1).1,fun hx2=>?_⟩;rcases List.mem_append.mp hx2 with hx2 | hx2
      ·exact (hsh x x1).2 hx2
      ·exact x2 (List.mem_singleton.mp hx2)
     ·rw [hwk,List.append_assoc];rfl
noncomputable def agrC (q o:List (Nat × Nat))(c:Nat × Nat):Bool:=!decide (c ∈ o) && decide (lawN c o=lawN c q)
noncomputable def agrL (g q o:List (Nat × Nat)):Bool:=g.all (agrC q o)
noncomputable def spStops:Sp:=fun vs H Q _=>∃ (ca sa ga la:Addr) (us ws gus lus:List V) (cs g q:List (Nat × Nat)) (QQ:List (List (Nat × Nat))) (N0:Addr->Prop) (d:Nat),vs=[.ref ca,.ref sa,.ref ga,.ref la,.int (d:Nat)]/\H ca=some (.lst us)/\Cel H us cs/\H sa=some (.lst ws)/\Lists N0 H ws (QQ.map (List.map toI))/\(∀ o ∈ QQ,o.length<=64)/\ws.length<=1000 /\
 H ga=some (.lst gus)/\Cel H gus g/\g.length<=3/\H la=some (.lst lus)/\Cel H lus q/\q.length<=64/\(g.length=d\/∀ c ∈ cs,c ∉ g->∀ o ∈ QQ,agrL g q o=true->c ∈ o)/\∀ H',Same H H'->Q (.bl true) H'
theorem inV_false:∀ l:List Bool,inV (V.bl false) (l.map V.bl)=!l.all id
 | []=>rfl
 | a :: r=>by
  have ih:=inV_false r;unfold inV at ih ⊢;rw [List.map_cons,List.any_cons,ih,List.all_cons];cases a <;> rfl
theorem flat_bls:∀ l:List Bool,(l.map V.bl).all flatV=true
 | []=>rfl
 | a :: r=>by
  rw [List.map_cons,List.all_cons,flat_bls r];rfl
theorem sc_law_stops_rightly:FnScope ["_law_cells_here","_law_some","_law_gone","_law_laying","_law_depth","_law_alike","_law_other","_law_told","_law_cell"] ["_law_cells_here","_law_some","_law_gone","_law_laying","_law_depth"] (defScope s_law_stops_rightly):=⟨rfl,rfl,rfl,by decide +kernel,rfl,by decide +kernel,by decide +kernel⟩
theorem ok_law_stops_rightly {f1:Addr}{fd1:FuncData}(T:Txt mg)(D:DefAt K mg "_law_stops_rightly" s_law_stops_rightly ["_law_cells_here","_law_some","_law_gone","_law_laying","_law_depth"] f fd)(D_law_told_at:DefAt K mg "_law_told_at" s_law_told_at ["_law_laying","_law_cell"] f1 fd1)(G_law_told_at:FnOk P w K mg base CX0 2 f1 fd1 ["_law_laying","_law_cell"] spToldAt):FnOk P w K mg base CX0 3 f fd ["_law_cells_here","_law_some","_law_gone","_law_laying","_law_depth"] spStops:=by
 refine D.F.ok sc_law_stops_rightly (fun vs H Q E h=>?_) (fun cdv A outer s H vs Q E hr h=>?_)
 ·obtain ⟨ca,sa,ga,la,us,ws,gus,lus,cs,g,q,QQ,N0,d,rfl,_⟩:=h;rfl
 ·obtain ⟨ca,sa,ga,la,us,ws,gus,lus,cs,g,q,QQ,N0,d,rfl,hca,hC,hsa,hL,o64,wl,hga,hG,g3,hla,hq,q64,hor,qf⟩:=h;have gl:gus.length=g.length:=hG.length;have wq:ws.length=QQ.length:=by rw [lists_len hL,List.length_map]
  refine ⟨_,(pss_cons (ps_if (pt_cmpR op_eq (pe_callB call_len_seq (by rfl) T.b_len PySem.boot_len (pa_cons (pv 2) pa_nil)) (pv 4) (nomark _)) (pss_one (ps_ret pe_bl)) pss_nil)
   (pss_cons (ps_set (i:=5) sc_law_stops_rightly.nd rfl (Or.inl rfl) (pe_lst pa_nil))
   (pss_cons (ps_for PassesOwn.never rfl (pi_list (pv 1)) (pg_name (i:=6) sc_law_stops_rightly.nd rfl (Or.inr rfl)) (pss_cons (ps_setC (i:=7) sc_law_stops_rightly.nd rfl rfl (N:=["_law_cell","_law_other","_law_laying"]) (src:=[none,some 6,some 3]) (CompOk.free (O:=(defScope s_law_stops_rightly).names) (XN:=["_law_cells_here","_law_some","_law_gone","_law_laying","_law_depth","_law_alike","_law_other","_law_told","_law_cell"]) rfl rfl ⟨_,rfl⟩ rfl rfl (by decide +kernel) (by decide +kernel) (by decide +kernel) rfl (by decide +kernel)) rfl (pi_list (pv 2)) (fun _ _ _ _ _=>(pg_name (i:=0) (by show List.Nodup (["_law_cell","_law_other","_law_laying"]:List Str); decide +kernel) rfl (Or.inl rfl))) (fun _ _ _ _ _=>pifs_nil) (fun _ _ _ _ _=>(pe_and (pe_cmpR (op_notIn_deepK (K:=K) (by rfl) hr.units) (pv 0) (pv 1) (by rfl)) (pe_one (pe_cmpR op_eq (pc0 G_law_told_at hr D_law_told_at (pa_cons (pv 1) (pa_cons (pv 0) pa_nil))) (pc0 G_law_told_at hr D_law_told_at (pa_cons (pv 2) (pa_cons (pv 0) pa_nil))) (nomark _))))))
   (pss_one (ps_if (pt_cmpR op_notIn_seq pe_bl (pv 7) (by rfl)) (pss_one (ps_expr (pe_bm PySem.F.plainAttrs_list PySem.F.slot_list_append PySem.F.type_list_append mt_append (pv 5) (pa_cons (pv 6) pa_nil)))) pss_nil))))
   (pss_cons (ps_for PassesOwn.never rfl (pi_list (pv 0)) (pg_name (i:=8) sc_law_stops_rightly.nd rfl (Or.inr rfl)) (pss_one (ps_if (PW.pt (pw_and (pt_cmpR (op_notIn_deep hr.units) (pv 8) (pv 2) (by rfl)) (pw_and1 (pt_cmpR (op_ne_deep hr.units) (pe_comp (N:=["_law_other","_law_cell"]) (src:=[none,some 8]) (CompOk.free (O:=(defScope s_law_stops_rightly).names) (XN:=["_law_cells_here","_law_some","_law_gone","_law_laying","_law_depth","_law_alike","_law_other","_law_told","_law_cell"]) rfl rfl ⟨_,rfl⟩ rfl rfl (by decide +kernel) (by decide +kernel) (by decide +kernel) rfl (by decide +kernel)) rfl (pi_list (pv 5)) (fun _ _ _ _ _=>(pg_name (i:=0) (by show List.Nodup (["_law_other","_law_cell"]:List Str); decide +kernel) rfl (Or.inl rfl))) (fun _ _ _ _ _=>(pifs_one (pt_cmpR (op_notIn_deepK (K:=K) (by rfl) hr.units) (pv 1) (pv 0) (by rfl)))) (fun _ _ _ _ _=>(pv 0))) (pe_lst pa_nil) (nomark _))))) (pss_one (ps_ret pe_bl)) pss_nil)))
   (pss_one (ps_ret pe_bl)))))),?_⟩
  refine ⟨_,rfl,ga,_,rfl,.inl (SqL.of hga),_,rfl,rfl,_,rfl,?_⟩;by_cases hgd:g.length=d
  ·exact iteP (decide_eq_true (by rw [gl,hgd])) (qf _ (Same.refl _))
  have hall:=hor.resolve_left hgd;refine iteN (decide_eq_false fun e=>hgd (by have:=V.int.inj e; omega)) ?_;refine ⟨sz_0,fun al hal=>?_⟩;have s0:=same_new (o:=.lst []) hal;refine ⟨_,rfl,sa,rfl,⟨_,SqL.of (s0 _ _ hsa)⟩,?_⟩;refine for_list (K:=K) (a:=sa) (xs:=ws) (fun i σ H'=>∃ (v6 v7 v8:Option V) (als:List V),σ=[some (.ref ca),some (.ref sa),some (.ref ga),some (.ref la),some (.int (d:Nat)),some (.ref al),v6,v7,v8]/\Same H H'/\H' al=some (.lst als)/\Lists (fun a=>a ≠ al) H' als (((QQ.take i).filter (agrL g q)).map (List.map toI))/\als.length<=i)
   ⟨_,_,_,[],rfl,s0,upd_same,.nil,Nat.le_refl _⟩ (fun i σ H' _ ⟨_,_,_,_,_,s2,_⟩=>SqL.of (s2 _ _ hsa)) ?_ ?_
  ·rintro i x σ H2 hx ⟨v6,v7,v8,als,rfl,s2,hal2,hLa,all⟩;obtain ⟨k',b,ts,hk',rfl,_,hb,tw⟩:=lists_at hL hx;rw [List.getElem?_map] at hk';obtain ⟨o,ho,rfl⟩:=Option.map_eq_some_iff.mp hk';have il:=(List.getElem?_eq_some_iff.mp hx).1;have ocel:Cel H ts o:=cel_of_tup2 tw;have o6:=o64 o (List.mem_of_getElem? ho);have tkk:QQ.take (i + 1)=QQ.take i++[o]:=by
    rw [List.take_add_one,ho];rfl
   refine ⟨_,rfl,ga,rfl,⟨_,SqL.of (s2 _ _ hga)⟩,fun z hz=>?_⟩;refine comp_list (K:=K) (a:=ga) (xs:=gus) (fun j σ' H'=>∃ (u0:Option V),σ'=[u0,some (.ref b),some (.ref la)]/\Same H2 H'/\H' z=some (.lst (((g.take j).map (agrC q o)).map V.bl)))
    ⟨_,rfl,same_new hz,upd_same⟩ (fun j σ' H' _ ⟨_,_,s4,_⟩=>SqL.of (s4 _ _ (s2 _ _ hga))) ?_ ?_
   ·rintro j v σ' H3 hv ⟨u0,rfl,s3,hz3⟩;have s23:=s2.trans s3;obtain ⟨c,hcj,cc,rfl,hcc⟩:=Cel.get (hG.mono s23) hv;have fin:∀ (r:Bool) (H':Hp),Same H3 H'->r=agrC q o c->∃ ys,H' z=some (.lst ys)/\ys.length < sizeLine/\∃ (u0:Option V),[some (V.ref cc),some (.ref b),some (.ref la)]=[u0,some (.ref b),some (.ref la)]/\Same H2 (upd H' z (.lst (ys++[V.bl r])))/\upd H' z (.lst (ys++[V.bl r])) z=some (.lst (((g.take (j + 1)).map (agrC q o)).map V.bl)):=fun r H' s' e=>by
     refine ⟨_,s' _ _ hz3,?_,_,rfl,fun b' o' e'=>?_,?_⟩
     ·simp only [List.length_map,List.length_take];exact Nat.lt_of_le_of_lt (show min j g.length<=100 by omega) (by decide)
     ·rw [upd_ne (ne_of_none e' hz)];exact s' _ _ (s3 _ _ e')
     ·rw [upd_same,List.take_add_one,hcj,List.map_append,List.map_append,e];rfl
    unfold gName;refine yes_if ?_;refine ⟨_,rfl,_,rfl,cData c,o.map cData,CelR.rdv ⟨cc,rfl,hcc⟩,.lst (SqL.of (s23 _ _ hb)) (cRdv (ocel.mono s23)),rfl,g_lays _,(by show 1<=60; decide),_,rfl,?_⟩;have e2:(if true=true then !(o.map cData).any (fun z=>PyData.eqv z (cData c)) else (o.map cData).any fun z=>PyData.eqv z (cData c))=!decide (c ∈ o):=by
     show (!(o.map cData).any (fun z=>PyData.eqv z (cData c)))=_;congr 1;rw [in_cells,Bool.eq_iff_iff,List.any_eq_true,decide_eq_true_eq];constructor
     ·rintro ⟨x,hx,e⟩;rw [<- of_decide_eq_true e];exact hx
     ·intro h;exact ⟨c,h,decide_eq_true rfl⟩
    rw [e2];by_cases hco:c ∈ o
    ·refine iteN (by rw [decide_eq_true hco]; rfl) ?_;exact fin false H3 (Same.refl _) (by unfold agrC; rw [decide_eq_true hco]; rfl)
    ·refine iteP (by rw [decide_eq_false hco]; rfl) ?_;refine ⟨_,rfl,_,rfl,b,cc,ts,o,c,rfl,s23 _ _ hb,ocel.mono s23,o6,hcc,fun H4 s4=>?_⟩;refine ⟨_,rfl,_,rfl,la,cc,lus,q,c,rfl,s4 _ _ (s23 _ _ hla),hq.mono (s23.trans s4),q64,s4 _ _ hcc,fun H5 s5=>?_⟩;refine ⟨rfl,fin _ H5 (s4.trans s5) ?_⟩;unfold agrC;rw [decide_eq_false hco];show _=decide (lawN c o=lawN c q);rw [decide_eq_decide];constructor
     ·intro h;have:=V.int.inj h;omega
     ·intro h;rw [h]
   ·rintro σ' H3 ⟨u0,rfl,s3,hz3⟩;rw [gl,List.take_length] at hz3;have s23:=s2.trans s3;refine ⟨_,rfl,z,_,rfl,.inl (SqL.of hz3),rfl,flat_bls _,_,rfl,?_⟩;have e3:(if true=true then !inV (V.bl false) ((g.map (agrC q o)).map V.bl) else inV (V.bl false) ((g.map (agrC q o)).map V.bl))=agrL g q o:=by
     show (!inV (V.bl false) ((g.map (agrC q o)).map V.bl))=_;rw [inV_false,Bool.not_not,List.all_map];rfl
    rw [e3,tkk,List.filter_append,List.map_append];have hal3:=s3 _ _ hal2;by_cases hag:agrL g q o=true
    ·rw [List.filter_cons,if_pos hag];have az:b ≠ al:=ne_of_none hb hal;refine iteP hag ⟨_,rfl,.inl ⟨rfl,_,SqL.of hal3⟩,_,rfl,al,als,_,rfl,rfl,hal3,Nat.lt_of_le_of_lt (show als.length<=1000 by omega) (by decide),?_⟩;refine ⟨_,_,_,als++[.ref b],rfl,fun b' o' e=>?_,upd_same,lists_app (lists_into hal3 (fun a h=>h) (lists_mono s3 hLa)) (.cons ⟨b,ts,rfl,az,by rw [upd_ne az]; exact s23 _ _ hb,tup2_into hal3 (tup2_mono s23 tw)⟩ .nil),?_⟩
     ·rw [upd_ne (ne_of_none e hal)];exact s23 _ _ e
     ·rw [List.length_append];exact Nat.succ_le_succ all
    ·rw [List.filter_cons,if_neg hag,List.filter_nil,List.map_nil,List.append_nil];exact iteN (Bool.eq_false_iff.mpr hag) ⟨_,_,_,als,rfl,s23,hal3,lists_mono s3 hLa,by omega⟩
  ·rintro σ H2 ⟨v6,v7,v8,als,rfl,s2,hal2,hLa,all⟩;rw [wq,List.take_length] at hLa;refine ⟨_,rfl,ca,rfl,⟨_,SqL.of (s2 _ _ hca)⟩,?_⟩;refine for_list (K:=K) (a:=ca) (xs:=us) (fun i σ H'=>∃ (v8:Option V),σ=[some (.ref ca),some (.ref sa),some (.ref ga),some (.ref la),some (.int (d:Nat)),some (.ref al),v6,v7,v8]/\Same H2 H')
    ⟨_,rfl,Same.refl _⟩ (fun i σ H' _ ⟨_,_,s3⟩=>SqL.of (s3 _ _ (s2 _ _ hca))) ?_ ?_
   ·rintro i x σ H3 hx ⟨v8',rfl,s3⟩;have s23:=s2.trans s3;obtain ⟨c,hci,cc,rfl,hcc⟩:=Cel.get (hC.mono s23) hx;refine ⟨_,rfl,_,rfl,cData c,g.map cData,CelR.rdv ⟨cc,rfl,hcc⟩,.lst (SqL.of (s23 _ _ hga)) (cRdv (hG.mono s23)),rfl,g_lays _,(by show 1<=60; decide),_,rfl,?_⟩;have e2:(if true=true then !(g.map cData).any (fun z=>PyData.eqv z (cData c)) else (g.map cData).any fun z=>PyData.eqv z (cData c))=!decide (c ∈ g):=by
     show (!(g.map cData).any (fun z=>PyData.eqv z (cData c)))=_;congr 1;rw [in_cells,Bool.eq_iff_iff,List.any_eq_true,decide_eq_true_eq];constructor
     ·rintro ⟨x,hx,e⟩;rw [<- of_decide_eq_true e];exact hx
     ·intro h;exact ⟨c,h,decide_eq_true rfl⟩
    rw [e2];by_cases hcg:c ∈ g
    ·exact iteN (by rw [decide_eq_true hcg]; rfl) (iteF ⟨_,rfl,s3⟩)
    ·refine iteP (by rw [decide_eq_false hcg]; rfl) ?_;refine ⟨_,rfl,al,rfl,⟨_,SqL.of (s3 _ _ hal2)⟩,fun z hz=>?_⟩;refine comp_list (K:=K) (a:=al) (xs:=als) (fun j σ' H'=>∃ (u0:Option V),σ'=[u0,some (.ref cc)]/\Same H3 H'/\H' z=some (.lst []))
      ⟨_,rfl,same_new hz,upd_same⟩ (fun j σ' H' _ ⟨_,_,s4,_⟩=>SqL.of (s4 _ _ (s3 _ _ hal2))) ?_ ?_
     ·rintro j v σ' H4 hv ⟨u0,rfl,s4,hz4⟩;obtain ⟨k',b,ts,hk',rfl,_,hb,tw⟩:=lists_at (lists_mono (s3.trans s4) hLa) hv;rw [List.getElem?_map] at hk';obtain ⟨o,ho,rfl⟩:=Option.map_eq_some_iff.mp hk';obtain ⟨ho1,ho2⟩:=List.mem_filter.mp (List.mem_of_getElem? ho);have hco:c ∈ o:=hall c (List.mem_of_getElem? hci) hcg o ho1 ho2;refine ⟨_,rfl,_,rfl,cData c,(o.map toI).map pD,CelR.rdv ⟨cc,rfl,s4 _ _ hcc⟩,.lst (SqL.of hb) (tup2_rdv tw),rfl,p_lays _,(by show 1<=60; decide),_,rfl,?_⟩;have e4:(if true=true then !((o.map toI).map pD).any (fun z=>PyData.eqv z (cData c)) else ((o.map toI).map pD).any fun z=>PyData.eqv z (cData c))=false:=by
       show (!((o.map toI).map pD).any (fun z=>PyData.eqv z (cData c)))=false;rw [in_prc];have:inL (o.map toI) (toI c)=true:=inL_map.mpr hco;unfold inL at this;rw [this];rfl
      exact iteN e4 ⟨_,rfl,s4,hz4⟩
     ·rintro σ' H4 ⟨u0,rfl,s4,hz4⟩;refine ⟨sz_0,fun e he=>?_⟩;have s5:=same_new (o:=.lst []) he;refine ⟨.list [],.list [],.lst (SqL.of (s5 _ _ hz4)) .nil,.lst (SqL.of upd_same) .nil,⟨rfl,rfl,by show 1<=64; decide⟩,_,rfl,?_⟩;exact iteN rfl ⟨_,rfl,s3.trans (s4.trans s5)⟩
   ·rintro σ H3 ⟨v8',rfl,s3⟩;exact qf _ (s2.trans s3)
noncomputable def spWalked:Sp:=fun vs H Q _=>∃ (v:V) (ca sa:Addr) (us ws:List V) (N N0:Addr->Prop) (n:Int) (d:Nat) (rs:List Str) (as:List Addr) (QQ:List (List (Nat × Nat))),vs=[v,.ref ca,.ref sa,.int (d:Nat)]/\PlanAt N n H d rs v as/\H ca=some (.lst us)/\Cel H us (shutC rs)/\H sa=some (.lst ws)/\Lists N0 H ws (QQ.map (List.map toI))/\(∀ q ∈ QQ,q ∈ laysQ rs n)/\(shutC rs).length<=8/\d<=3/\ws.length<=256 /\
 ∀ H',Same H H'->Q (.int ((QQ.filter fun q=>(wlk n d rs q).2).length:Nat)) H'
theorem sc_law_walked:FnScope ["_law_told","_law_cells_here","_law_some","_law_depth","_law_through","_law_laying","_law_found"] ["_law_told","_law_cells_here","_law_some","_law_depth"] (defScope s_law_walked):=⟨rfl,rfl,rfl,by decide +kernel,rfl,by decide +kernel,by decide +kernel⟩
theorem ok_law_walked {f1 f2:Addr}{fd1 fd2:FuncData}(T:Txt mg)(D:DefAt K mg "_law_walked" s_law_walked ["_law_told","_law_cells_here","_law_some","_law_depth"] f fd)(D_law_goes:DefAt K mg "_law_goes" s_law_goes ["_law_told","_law_laying","_law_depth"] f1 fd1)(D_law_stops_rightly:DefAt K mg "_law_stops_rightly" s_law_stops_rightly ["_law_cells_here","_law_some","_law_gone","_law_laying","_law_depth"] f2 fd2)
  (G_law_goes:FnOk P w K mg base CX0 3 f1 fd1 ["_law_told","_law_laying","_law_depth"] spGoes) (G_law_stops_rightly:FnOk P w K mg base CX0 3 f2 fd2 ["_law_cells_here","_law_some","_law_gone","_law_laying","_law_depth"] spStops):FnOk P w K mg base CX0 4 f fd ["_law_told","_law_cells_here","_law_some","_law_depth"] spWalked:=by
 refine D.F.ok sc_law_walked (fun vs H Q E h=>?_) (fun cdv A outer s H vs Q E hr h=>?_)
 ·obtain ⟨v,ca,sa,us,ws,N,N0,n,d,rs,as,QQ,rfl,_⟩:=h;rfl
 ·obtain ⟨v,ca,sa,us,ws,N,N0,n,d,rs,as,QQ,rfl,hpl,hca,hC,hsa,hL,hQ,h8,d3,wl,qf⟩:=h;have wq:ws.length=QQ.length:=by rw [lists_len hL,List.length_map]
  have q64:∀ o ∈ QQ,o.length<=64:=fun o ho=>by
   have:=(laysQ_sub (hQ o ho)).length_le;omega
  refine ⟨_,(pss_cons (ps_set (i:=4) sc_law_walked.nd rfl (Or.inl rfl) pe_int)
   (pss_cons (ps_for PassesOwn.never rfl (pi_list (pv 2)) (pg_name (i:=5) sc_law_walked.nd rfl (Or.inl rfl)) (pss_cons (ps_set (i:=6) sc_law_walked.nd rfl (Or.inl rfl) (pc0 G_law_goes hr D_law_goes (pa_cons (pv 0) (pa_cons (pv 5) (pa_cons (pv 3) pa_nil)))))
   (pss_cons (ps_if (PW.pt (pw_or (pt_cmpR op_isN (pv 6) pe_non (nomark _)) (pw_or1 (pt_cmpR (op_ne_deep hr.units) (pe_comp (N:=["_law_cell","_law_cells_here"]) (src:=[none,some 1]) (CompOk.free (O:=(defScope s_law_walked).names) (XN:=["_law_told","_law_cells_here","_law_some","_law_depth","_law_through","_law_laying","_law_found"]) rfl rfl ⟨_,rfl⟩ rfl rfl (by decide +kernel) (by decide +kernel) (by decide +kernel) rfl (by decide +kernel)) rfl (pi_list (pe_ix ix_tup (pv 6) pe_int (fun _ _=>rfl))) (fun _ _ _ _ _=>(pg_name (i:=0) (by show List.Nodup (["_law_cell","_law_cells_here"]:List Str); decide +kernel) rfl (Or.inl rfl))) (fun _ _ _ _ _=>(pifs_one (pt_cmpR (op_notIn_deepK (K:=K) (by rfl) hr.units) (pv 0) (pv 1) (by rfl)))) (fun _ _ _ _ _=>(pv 0))) (pe_lst pa_nil) (nomark _))))) (pss_one (ps_ret pe_non)) pss_nil)
   (pss_one (ps_if (pt_truth (pe_ix ix_tup (pv 6) pe_int (fun _ _=>rfl)) (fun _=>rfl)) (pss_cons (ps_set (i:=4) sc_law_walked.nd rfl (Or.inl rfl) (pe_op op_add (pv 4) pe_int))
   (pss_one (ps_if (pt_not (pt_truth (pc0 G_law_stops_rightly hr D_law_stops_rightly (pa_cons (pv 1) (pa_cons (pv 2) (pa_cons (pe_ix ix_tup (pv 6) pe_int (fun _ _=>rfl)) (pa_cons (pv 5) (pa_cons (pv 3) pa_nil)))))) (fun _=>rfl))) (pss_one (ps_ret pe_non)) pss_nil))) pss_nil)))))
   (pss_one (ps_ret (pv 4))))),?_⟩
  refine ⟨_,rfl,sa,rfl,⟨_,SqL.of hsa⟩,?_⟩;refine for_list (K:=K) (a:=sa) (xs:=ws) (fun i σ H'=>∃ (v5 v6:Option V),σ=[some v,some (.ref ca),some (.ref sa),some (.int (d:Nat)),some (.int (((QQ.take i).filter fun q=>(wlk n d rs q).2).length:Nat)),v5,v6]/\Same H H')
   ⟨_,_,rfl,Same.refl _⟩ (fun i σ H' _ ⟨_,_,_,s2⟩=>SqL.of (s2 _ _ hsa)) ?_ ?_
  ·rintro i x σ H2 hx ⟨v5,v6,rfl,s2⟩;obtain ⟨k',b,ts,hk',rfl,_,hb,tw⟩:=lists_at (lists_mono s2 hL) hx;rw [List.getElem?_map] at hk';obtain ⟨q,hq,rfl⟩:=Option.map_eq_some_iff.mp hk';have il:=(List.getElem?_eq_some_iff.mp hx).1;have hqm:=List.mem_of_getElem? hq;have qcel:Cel H2 ts q:=cel_of_tup2 tw;have tkk:((QQ.take (i + 1)).filter fun q=>(wlk n d rs q).2).length=((QQ.take i).filter fun q=>(wlk n d rs q).2).length + (if (wlk n d rs q).2=true then 1 else 0):=by
    rw [List.take_add_one,hq,List.filter_append,List.length_append];congr 1;show ([q].filter _).length=_;rw [List.filter_cons];split <;> rfl
   refine ⟨_,rfl,_,rfl,_,rfl,v,b,ts,N,n,d,rs,as,q,rfl,PlanAt.mono (fun z h=>h) s2 hpl,hb,qcel,hQ q hqm,h8,d3,fun r ga gus H3 hga hr3 hga3 hG hgs hgl s3=>?_⟩;have s23:=s2.trans s3;refine ⟨_,rfl,rfl,_,rfl,iteN rfl ?_⟩;refine ⟨_,rfl,r,_,0,_,rfl,rfl,SqT.of hr3,rfl,ga,rfl,⟨_,SqL.of hga3⟩,fun z hz=>?_⟩;refine comp_list (K:=K) (a:=ga) (xs:=gus) (fun j σ' H'=>∃ (u0:Option V),σ'=[u0,some (.ref ca)]/\Same H3 H'/\H' z=some (.lst []))
    ⟨_,rfl,same_new hz,upd_same⟩ (fun j σ' H' _ ⟨_,_,s4,_⟩=>SqL.of (s4 _ _ hga3)) ?_ ?_
   ·rintro j u σ' H4 hv ⟨u0,rfl,s4,hz4⟩;have s24:=s23.trans s4;obtain ⟨c,hcj,cc,rfl,hcc⟩:=Cel.get (hG.mono s4) hv;have hcs:=hgs c (List.mem_of_getElem? hcj);refine ⟨_,rfl,_,rfl,cData c,(shutC rs).map cData,CelR.rdv ⟨cc,rfl,hcc⟩,.lst (SqL.of (s24 _ _ hca)) (cRdv (hC.mono s24)),rfl,g_lays _,(by show 1<=60; decide),_,rfl,?_⟩;have e4:(if true=true then !((shutC rs).map cData).any (fun z=>PyData.eqv z (cData c)) else ((shutC rs).map cData).any fun z=>PyData.eqv z (cData c))=false:=by
     show (!((shutC rs).map cData).any (fun z=>PyData.eqv z (cData c)))=false;rw [in_cells];have:((shutC rs).any fun z=>decide (z=c))=true:=List.any_eq_true.mpr ⟨c,hcs,decide_eq_true rfl⟩;rw [this];rfl
    exact iteN e4 ⟨_,rfl,s4,hz4⟩
   ·rintro σ' H4 ⟨u0,rfl,s4,hz4⟩;refine ⟨sz_0,fun e he=>?_⟩;have s5:=same_new (o:=.lst []) he;refine ⟨.list [],.list [],.lst (SqL.of (s5 _ _ hz4)) .nil,.lst (SqL.of upd_same) .nil,⟨rfl,rfl,by show 1<=64; decide⟩,_,rfl,iteN rfl ?_⟩;have s35:=s4.trans s5;have s05:=s23.trans s35;generalize upd H4 e (.lst [])=H5 at *
    refine ⟨_,rfl,r,_,1,_,rfl,rfl,SqT.of (s35 _ _ hr3),rfl,(wlk n d rs q).2,rfl,?_⟩;cases hw:(wlk n d rs q).2 with
    | false =>
     refine iteF ?_;rw [hw,if_neg (by decide),Nat.add_zero] at tkk;exact ⟨some (.ref b),some (.ref r),by rw [tkk]; rfl,s05⟩
    | true =>
     refine iteT ?_;rw [hw,if_pos rfl] at tkk;refine ⟨_,rfl,_,_,rfl,rfl,?_⟩;have hst:=walk_stops d h8 (hQ q hqm) hw;refine ⟨_,rfl,_,rfl,_,rfl,r,_,0,_,rfl,rfl,SqT.of (s35 _ _ hr3),rfl,_,rfl,_,rfl,ca,sa,ga,b,us,ws,gus,ts,shutC rs,(wlk n d rs q).1,q,QQ,N0,d,rfl,s05 _ _ hca,hC.mono s05,s05 _ _ hsa,lists_mono s05 hL,q64,by omega,s35 _ _ hga3,hG.mono s35,by omega,s35 _ _ (s3 _ _ hb),qcel.mono (s3.trans s35),q64 q hqm,?_,fun H6 s6=>?_⟩
     ·rcases hst with h | h
      ·exact .inl h
      ·refine .inr fun c hc hcg o ho hag=>h c hc hcg o (hQ o ho) fun c' hc'=>?_;have:=List.all_eq_true.mp hag c' hc';unfold agrC at this;rw [Bool.and_eq_true,Bool.not_eq_true',decide_eq_false_iff_not,decide_eq_true_eq] at this;exact this
     ·refine ⟨true,rfl,iteF ⟨some (.ref b),some (.ref r),?_,s05.trans s6⟩⟩;rw [tkk];rfl
  ·rintro σ H2 ⟨v5,v6,rfl,s2⟩;rw [wq,List.take_length];exact ⟨_,rfl,qf _ s2⟩
noncomputable def mixF (c k:Int):Int:=((c % 2147483629 + 7919 * k + 11) % 2147483647) * ((c % 2147483629 + 7919 * k + 11) % 2147483647) % 2147483647 * 48271 % 2147483587 / 8
noncomputable def cellF (ns:List Int)(k:Int):Int:=if k < (ns.length:Nat) then ns.getD k.toNat 0 else 0
noncomputable def rivI (ns:List Int)(sd st:Int)(len:Nat):Nat:=(mixF (cellF ns (4 + (sd + 5 * st) % 58)) sd % (len:Nat)).toNat
noncomputable def surv (ns:List Int):Nat->Int->Int->List (Nat × Nat)->List (Nat × Nat)->Bool
 | 0,_,_,_,_=>true
 | r + 1,st,sd,left,q=>match left[rivI ns sd st left.length]? with
  | none=>true
  | some c=>!decide (c ∈ q) && surv ns r (st + 1) (9 * sd + 1 + ((lawN c q:Nat):Int)) (left.eraseIdx (rivI ns sd st left.length)) q
theorem erase_is {left:List (Nat × Nat)}(hn:left.Nodup){i:Nat}{c:Nat × Nat}(h:left[i]?=some c):left.eraseIdx i=left.filter fun x=>!decide (x=c):=by
 induction left generalizing i with
 | nil=>cases h
 | cons a r ih =>
  obtain ⟨h1,h2⟩:=List.nodup_cons.mp hn;cases i with
  | zero =>
   have e:a=c:=by simpa using h
   subst e;rw [List.eraseIdx_cons_zero,List.filter_cons,if_neg (by simp)];symm;refine List.filter_eq_self.mpr fun x hx=>?_;have:x ≠ a:=fun e=>h1 (e ▸ hx);simp [this]
  | succ i =>
   have h':r[i]?=some c:=by simpa using h
   have:a ≠ c:=fun e=>h1 (e ▸ List.mem_of_getElem? h');rw [List.eraseIdx_cons_succ,List.filter_cons,if_pos (by simp [this]),ih h2 h']
theorem sum_le:∀ (l:List Nat) (f g:Nat->Nat),(∀ m ∈ l,f m<=g m)->(l.map f).sum<=(l.map g).sum
 | [],_,_,_=>Nat.le_refl _
 | a :: r,f,g,h=>by
  rw [List.map_cons,List.sum_cons,List.map_cons,List.sum_cons];have h1:=h a List.mem_cons_self;have h2:=sum_le r f g fun m hm=>h m (List.mem_cons_of_mem _ hm);omega
theorem le_max {l:List Nat}{m:Nat}(h:m ∈ l):m<=maxN l:=(max_acc l 0).2.1 m h
theorem rivI_lt {ns:List Int}{sd st:Int}{len:Nat}(h:0 < len):rivI ns sd st len < len:=by
 unfold rivI;have h0:=Int.emod_nonneg (mixF (cellF ns (4 + (sd + 5 * st) % 58)) sd) (show ((len:Nat):Int) ≠ 0 by omega);have h1:=Int.emod_lt_of_pos (mixF (cellF ns (4 + (sd + 5 * st) % 58)) sd) (show (0:Int) < ((len:Nat):Int) by omega);omega
theorem surv_le (ns:List Int){rs:List Str}(h8:(shutC rs).length<=8):∀ (r:Nat) (st sd:Int) (left:List (Nat × Nat)) (QQ:List (List (Nat × Nat))),left.Nodup->(∀ q ∈ QQ,q.Sublist (shutC rs))->(QQ.filter (surv ns r st sd left)).length<=thr rs r (QQ.map (List.map toI)) left
 | 0,_,_,_,QQ,_,_=>by
  show _<=(QQ.map (List.map toI)).length;rw [List.length_map];exact List.length_filter_le _ _
 | r + 1,st,sd,left,QQ,hn,hs=>by
  rw [thr_succ];by_cases hf:fullAll (QQ.map (List.map toI)) left=true
  ·rw [if_pos hf,List.length_map];exact List.length_filter_le _ _
  ·rw [if_neg hf];have lne:left ≠ []:=by
    intro e;rw [e] at hf;exact hf (by unfold fullAll; exact List.all_eq_true.mpr fun k _=>rfl)
   have hi:rivI ns sd st left.length < left.length:=rivI_lt (List.length_pos_iff.mpr lne);obtain ⟨c,hc⟩:∃ c,left[rivI ns sd st left.length]?=some c:=⟨_,List.getElem?_eq_getElem hi⟩;have hcm:=List.mem_of_getElem? hc;refine Nat.le_trans ?_ (le_max (List.mem_map.mpr ⟨c,hcm,rfl⟩));have k9:∀ q ∈ QQ,lawN c q < 9:=fun q hq=>by
    have h1:=(hs q hq).length_le;have h2:lawN c q<=q.length:=List.length_filter_le _ _;omega
   rw [part_sum (surv ns (r + 1) st sd left) (lawN c) QQ k9];show _<=((List.range 9).map fun m=>thr rs r (grpK rs c (QQ.map (List.map toI)) ((m:Nat):Int)) (left.filter fun x=>!decide (x=c))).sum;refine sum_le _ _ _ fun m _=>?_;have eg:grpK rs c (QQ.map (List.map toI)) ((m:Nat):Int)=(QQ.filter (lawC c m)).map (List.map toI):=by
    unfold grpK;rw [List.filter_map];congr 1;exact List.filter_congr fun q hq=>cnd_law (hs q hq) c m
   rw [eg,<- erase_is hn hc];have ih:=surv_le ns h8 r (st + 1) (9 * sd + 1 + ((m:Nat):Int)) (left.eraseIdx (rivI ns sd st left.length)) (QQ.filter (lawC c m)) (hn.sublist (List.eraseIdx_sublist _ _)) fun q hq=>hs q (List.mem_filter.mp hq).1;refine Nat.le_trans (Nat.le_of_eq ?_) ih;rw [List.filter_filter];congr 1;refine List.filter_congr fun q hq=>?_;have es:surv ns (r + 1) st sd left q=(!decide (c ∈ q) && surv ns r (st + 1) (9 * sd + 1 + ((lawN c q:Nat):Int)) (left.eraseIdx (rivI ns sd st left.length)) q):=by
    show (match left[rivI ns sd st left.length]? with
     | none=>true
     | some c=>!decide (c ∈ q) && surv ns r (st + 1) (9 * sd + 1 + ((lawN c q:Nat):Int)) (left.eraseIdx (rivI ns sd st left.length)) q)=_
    rw [hc]
   rw [es];unfold lawC;by_cases e:lawN c q=m
   ·rw [e,decide_eq_true rfl];cases decide (c ∈ q) <;> cases surv ns r (st + 1) (9 * sd + 1 + ((m:Nat):Int)) (left.eraseIdx (rivI ns sd st left.length)) q <;> rfl
   ·rw [decide_eq_false e];cases decide (c ∈ q) <;> simp
theorem thr_deep (rs:List Str):∀ (L d:Nat) (cs:List (Nat × Nat)) (ks:List (List (Int × Int))),cs.Nodup->cs.length=L->L<=d->thr rs d ks cs=thr rs L ks cs
 | 0,d,cs,ks,_,hl,_=>by
  have e:cs=[]:=List.length_eq_zero_iff.mp hl;subst e;cases d with
  | zero=>rfl
  | succ d =>
   rw [thr_succ,if_pos (by unfold fullAll; exact List.all_eq_true.mpr fun k _=>rfl)];rfl
 | L + 1,d,cs,ks,hn,hl,hd=>by
  obtain ⟨d',rfl⟩:∃ d',d=d' + 1:=⟨d - 1,by omega⟩;show (if fullAll ks cs=true then ks.length else maxN (cs.map fun c=>((List.range 9).map fun m=>thr rs d' (grpK rs c ks ((m:Nat):Int)) (cs.filter fun x=>!decide (x=c))).sum))=(if fullAll ks cs=true then ks.length else maxN (cs.map fun c=>((List.range 9).map fun m=>thr rs L (grpK rs c ks ((m:Nat):Int)) (cs.filter fun x=>!decide (x=c))).sum));congr 2;refine List.map_congr_left fun c hc=>?_;congr 1;refine List.map_congr_left fun m _=>?_;obtain ⟨i,hi⟩:=List.getElem?_of_mem hc;have il:=(List.getElem?_eq_some_iff.mp hi).1;refine thr_deep rs L d' _ _ (hn.sublist List.filter_sublist) ?_ (by omega);rw [<- erase_is hn hi,List.length_eraseIdx_of_lt il];omega
noncomputable def spCellX (K:PySem.W.Frag):Sp:=fun vs H Q _=>∃ (a:Addr) (ns:List Int) (k:Int),vs=[.ref a,.int k]/\SqL K H a (ns.map V.int)/\0<=k/\Q (.int (cellF ns k)) H
noncomputable def spMixX:Sp:=fun vs H Q _=>∃ (c k:Int),vs=[.int c,.int k]/\Q (.int (mixF c k)) H
noncomputable def spRival (K:PySem.W.Frag):Sp:=fun vs H Q _=>∃ (a ca sa:Addr) (ns:List Int) (us ws:List V) (cs:List (Nat × Nat)) (QQ:List (List (Nat × Nat))) (N0:Addr->Prop) (d:Nat) (k:Int),vs=[.ref a,.ref ca,.ref sa,.int (d:Nat),.int k]/\SqL K H a (ns.map V.int)/\H ca=some (.lst us)/\Cel H us cs/\cs.length<=8/\H sa=some (.lst ws)/\Lists N0 H ws (QQ.map (List.map toI))/\(∀ o ∈ QQ,o.length<=64)/\ws.length<=256 /\
 ∀ H',Same H H'->Q (.int ((QQ.filter (surv ns (min d cs.length) 0 k cs)).length:Nat)) H'
theorem cel_erase {H:Hp}:∀ {us:List V} {cs:List (Nat × Nat)} (i:Nat),Cel H us cs->Cel H (us.eraseIdx i) (cs.eraseIdx i)
 | _,_,_,.nil=>.nil
 | _,_,0,.cons _ t=>t
 | _,_,i + 1,.cons h t=>.cons h (cel_erase i t)
theorem ok_law_cell_atX (T:Txt mg)(D:DefAt K mg "_law_cell_at" s_law_cell_at ["_law_script","_law_k"] f fd):FnOk P w K mg base CX0 1 f fd ["_law_script","_law_k"] (spCellX K):=by
 refine D.F.ok sc_law_cell_at (fun vs H Q E h=>?_) (fun cdv A outer s H vs Q E hr h=>?_)
 ·obtain ⟨a,ns,i,rfl,_⟩:=h;rfl
 ·obtain ⟨a,ns,i,rfl,hS,hi,k⟩:=h;refine ⟨_,(pss_cons (ps_if (pt_cmpR op_lt (pv 1) (pe_callB call_len_seq (by rfl) T.b_len PySem.boot_len (pa_cons (pv 0) pa_nil)) (nomark _)) (pss_one (ps_ret (pe_ix ix_list (pv 0) (pv 1) (fun _ _=>rfl)))) pss_nil)
   (pss_one (ps_ret pe_int))),?_⟩
  refine ⟨_,rfl,_,rfl,a,_,rfl,.inl hS,_,_,rfl,rfl,_,rfl,?_⟩;refine ite2 (fun c=>?_) (fun c=>?_)
  ·have c':i < ((ns.map V.int).length:Nat):=of_decide_eq_true c;rw [List.length_map] at c';have hl:i.toNat < ns.length:=by omega
   refine ⟨_,rfl,_,rfl,a,_,i,.int ns[i.toNat],rfl,rfl,hS,atI_lt hi (by rw [List.getElem?_map,List.getElem?_eq_getElem hl]; rfl),?_⟩;have e:cellF ns i=ns[i.toNat]:=by
    unfold cellF;rw [if_pos c',List.getD_eq_getElem?_getD,List.getElem?_eq_getElem hl];rfl
   rw [<- e];exact k
  ·have c':¬ i < ((ns.map V.int).length:Nat):=of_decide_eq_false (Bool.eq_false_iff.mpr c);rw [List.length_map] at c';have e:cellF ns i=0:=by
    unfold cellF;rw [if_neg c']
   rw [e] at k;exact k
theorem ok_law_mixedX (D:DefAt K mg "_law_mixed" s_law_mixed ["_law_cell","_law_k"] f fd):FnOk P w K mg base CX0 1 f fd ["_law_cell","_law_k"] spMixX:=by
 refine D.F.ok sc_law_mixed (fun vs H Q E h=>?_) (fun cdv A outer s H vs Q E hr h=>?_)
 ·obtain ⟨c,i,rfl,_⟩:=h;rfl
 ·obtain ⟨c,i,rfl,k⟩:=h;refine ⟨_,(pss_cons (ps_set (i:=2) sc_law_mixed.nd rfl (Or.inl rfl) (pe_op op_mod (pe_op op_add (pe_op op_add (pe_op op_mod (pv 0) pe_int) (pe_op op_mulG pe_int (pv 1))) pe_int) pe_int))
   (pss_cons (ps_set (i:=2) sc_law_mixed.nd rfl (Or.inl rfl) (pe_op op_mod (pe_op op_mulG (pe_op op_mod (pe_op op_mulG (pv 2) (pv 2)) pe_int) pe_int) pe_int))
   (pss_one (ps_ret (pe_op op_fdivG (pv 2) pe_int))))),?_⟩
  refine ⟨_,rfl,_,_,rfl,rfl,(by show (0:Int) < 2147483629; decide),_,rfl,_,_,rfl,rfl,mulL (by decide) (by decide),_,_,rfl,rfl,_,_,rfl,rfl,_,_,rfl,rfl,(by show (0:Int) < 2147483647; decide),?_⟩;have a0:=Int.emod_nonneg (c % 2147483629 + 7919 * i + 11) (show (2147483647:Int) ≠ 0 by decide);have a1:=Int.emod_lt_of_pos (c % 2147483629 + 7919 * i + 11) (show (0:Int) < 2147483647 by decide);refine ⟨_,rfl,_,rfl,_,_,rfl,rfl,mulL (Int.lt_of_lt_of_le (by decide) a0) (Int.lt_trans a1 (by decide)),_,_,rfl,rfl,(by show (0:Int) < 2147483647; decide),_,_,rfl,rfl,mulS (by decide) (by decide),_,_,rfl,rfl,(by show (0:Int) < 2147483587; decide),?_⟩;exact ⟨_,rfl,_,_,rfl,rfl,CDivG.small (by decide) (by decide),k⟩
theorem sc_law_rival:FnScope ["_law_script","_law_cells_here","_law_some","_law_depth","_law_k","_law_through","_law_laying","_law_left","_law_seed","_law_safe","_law_step","_law_cell"] ["_law_script","_law_cells_here","_law_some","_law_depth","_law_k"] (defScope s_law_rival):=⟨rfl,rfl,rfl,by decide +kernel,rfl,by decide +kernel,by decide +kernel⟩
theorem ok_law_rival {f1 f2 f3:Addr}{fd1 fd2 fd3:FuncData}(T:Txt mg)(D:DefAt K mg "_law_rival" s_law_rival ["_law_script","_law_cells_here","_law_some","_law_depth","_law_k"] f fd)(D_law_cell_at:DefAt K mg "_law_cell_at" s_law_cell_at ["_law_script","_law_k"] f1 fd1)(D_law_mixed:DefAt K mg "_law_mixed" s_law_mixed ["_law_cell","_law_k"] f2 fd2)(D_law_told_at:DefAt K mg "_law_told_at" s_law_told_at ["_law_laying","_law_cell"] f3 fd3)
  (G_law_told_at:FnOk P w K mg base CX0 2 f3 fd3 ["_law_laying","_law_cell"] spToldAt):FnOk P w K mg base CX0 3 f fd ["_law_script","_law_cells_here","_law_some","_law_depth","_law_k"] (spRival K):=by
 refine D.F.ok sc_law_rival (fun vs H Q E h=>?_) (fun cdv A outer s H vs Q E hr h=>?_)
 ·obtain ⟨a,ca,sa,ns,us,ws,cs,QQ,N0,d,k,rfl,_⟩:=h;rfl
 ·obtain ⟨a,ca,sa,ns,us,ws,cs,QQ,N0,d,k,rfl,hS,hca,hC,c8,hsa,hL,q64,wl,qf⟩:=h;have wq:ws.length=QQ.length:=by rw [lists_len hL,List.length_map]
  have ul:us.length=cs.length:=hC.length;refine ⟨_,(pss_cons (ps_set (i:=5) sc_law_rival.nd rfl (Or.inl rfl) pe_int)
   (pss_cons (ps_for PassesOwn.never rfl (pi_list (pv 2)) (pg_name (i:=6) sc_law_rival.nd rfl (Or.inl rfl)) (pss_cons (ps_set (i:=7) sc_law_rival.nd rfl (Or.inl rfl) (pe_callTy call_list_of (by rfl) T.b_list PyProof.Rows.boot_list (pa_cons (pv 1) pa_nil)))
   (pss_cons (ps_set (i:=8) sc_law_rival.nd rfl (Or.inl rfl) (pv 4))
   (pss_cons (ps_set (i:=9) sc_law_rival.nd rfl (Or.inl rfl) pe_bl)
   (pss_cons (ps_for PassesOwn.never rfl (pi_range1 (by rfl) T.b_range (pa_cons (pe_callB (call_min2 rfl) (by rfl) T.b_min PyProof.Rows.boot_min (pa_cons (pv 3) (pa_cons (pe_callB call_len_seq (by rfl) T.b_len PySem.boot_len (pa_cons (pv 1) pa_nil)) pa_nil))) pa_nil)) (pg_name (i:=10) sc_law_rival.nd rfl (Or.inl rfl)) (pss_one (ps_if (pt_truth (pv 9) (fun _=>rfl)) (pss_cons (ps_set (i:=11) sc_law_rival.nd rfl (Or.inl rfl) (pe_bm PySem.F.plainAttrs_list PySem.F.slot_list_pop PySem.F.type_list_pop mt_popAt (pv 7) (pa_cons (pe_op op_mod (pc0 (ok_law_mixedX D_law_mixed) hr D_law_mixed (pa_cons (pc0 (ok_law_cell_atX T D_law_cell_at) hr D_law_cell_at (pa_cons (pv 0) (pa_cons (pe_op op_add pe_int (pe_op op_mod (pe_op op_add (pv 8) (pe_op op_mulG pe_int (pv 10))) pe_int)) pa_nil))) (pa_cons (pv 8) pa_nil))) (pe_callB call_len_seq (by rfl) T.b_len PySem.boot_len (pa_cons (pv 7) pa_nil))) pa_nil)))
   (pss_cons (ps_set (i:=9) sc_law_rival.nd rfl (Or.inl rfl) (pe_cmpR (op_notIn_deep hr.units) (pv 11) (pv 6) (by rfl)))
   (pss_one (ps_set (i:=8) sc_law_rival.nd rfl (Or.inl rfl) (pe_op op_add (pe_op op_add (pe_op op_mulG pe_int (pv 8)) pe_int) (pc0 G_law_told_at hr D_law_told_at (pa_cons (pv 6) (pa_cons (pv 11) pa_nil)))))))) pss_nil)))
   (pss_one (ps_set (i:=5) sc_law_rival.nd rfl (Or.inl rfl) (pe_op op_add (pv 5) (pe_callTy call_int1 (by rfl) T.b_int PyProof.Rows.boot_int (pa_cons (pv 9) pa_nil))))))))))
   (pss_one (ps_ret (pv 5))))),?_⟩
  refine ⟨_,rfl,sa,rfl,⟨_,SqL.of hsa⟩,?_⟩;refine for_list (K:=K) (a:=sa) (xs:=ws) (fun i σ H'=>∃ (v6 v7 v8 v9 v10 v11:Option V),σ=[some (.ref a),some (.ref ca),some (.ref sa),some (.int (d:Nat)),some (.int k),some (.int (((QQ.take i).filter (surv ns (min d cs.length) 0 k cs)).length:Nat)),v6,v7,v8,v9,v10,v11]/\Same H H')
   ⟨_,_,_,_,_,_,rfl,Same.refl _⟩ (fun i σ H' _ ⟨_,_,_,_,_,_,_,s2⟩=>SqL.of (s2 _ _ hsa)) ?_ ?_
  ·rintro i x σ H2 hx ⟨v6,v7,v8,v9,v10,v11,rfl,s2⟩;obtain ⟨k',b,ts,hk',rfl,_,hb,tw⟩:=lists_at (lists_mono s2 hL) hx;rw [List.getElem?_map] at hk';obtain ⟨q,hq,rfl⟩:=Option.map_eq_some_iff.mp hk';have il:=(List.getElem?_eq_some_iff.mp hx).1;have hqm:=List.mem_of_getElem? hq;have qcel:Cel H2 ts q:=cel_of_tup2 tw;have tkk:((QQ.take (i + 1)).filter (surv ns (min d cs.length) 0 k cs)).length=((QQ.take i).filter (surv ns (min d cs.length) 0 k cs)).length + (if surv ns (min d cs.length) 0 k cs q=true then 1 else 0):=by
    rw [List.take_add_one,hq,List.filter_append,List.length_append];congr 1;show ([q].filter _).length=_;rw [List.filter_cons];split <;> rfl
   refine ⟨_,rfl,ca,_,rfl,.inl (SqL.of (s2 _ _ hca)),fun lf hlf=>?_⟩;have s3:=same_new (o:=.lst us) hlf;have hlf3:upd H2 lf (.lst us) lf=some (.lst us):=upd_same;have s03:=s2.trans s3;generalize upd H2 lf (.lst us)=H3 at *
   refine ⟨_,rfl,?_⟩;refine ⟨_,rfl,_,rfl,ca,us,rfl,.inl (SqL.of (s03 _ _ hca)),_,_,rfl,?_⟩;have em:(if ((us.length:Nat):Int) < ((d:Nat):Int) then ((us.length:Nat):Int) else ((d:Nat):Int))=((min d cs.length:Nat):Int):=by
    rw [ul];split <;> omega
   rw [em];refine ⟨_,rfl,by omega,by omega,?_⟩;rw [Int.toNat_natCast];refine for_range (lo:=0) (n:=min d cs.length) (fun j σ H'=>∃ (sd:Int) (sf:Bool) (v10 v11:Option V) (lus:List V) (left:List (Nat × Nat)),σ=[some (.ref a),some (.ref ca),some (.ref sa),some (.int (d:Nat)),some (.int k),some (.int (((QQ.take i).filter (surv ns (min d cs.length) 0 k cs)).length:Nat)),some (.ref b),some (.ref lf),some (.int sd),some (.bl sf),v10,v11]/\(∀ z o,H2 z=some o->H' z=some o)/\H' lf=some (.lst lus)/\Cel H' lus left/\left.length<=8/\(sf=true->left.length + j=cs.length/\surv ns (min d cs.length) 0 k cs q=surv ns (min d cs.length - j) (j:Nat) sd left q)/\(sf=false->surv ns (min d cs.length) 0 k cs q=false))
    ⟨k,true,_,_,us,cs,rfl,fun z o e=>s3 _ _ e,hlf3,hC.mono s03,c8,fun _=>⟨rfl,rfl⟩,fun h=>(nomatch h)⟩ ?_ ?_
   ·rintro j σ H4 hj ⟨sd,sf,v10',v11',lus,left,rfl,s4,hlf4,hcl,l8,ht,hf⟩;have s04:Same H H4:=fun z o e=>s4 z o (s2 _ _ e);refine ⟨_,rfl,sf,rfl,?_⟩;cases sf with
    | false =>
     refine iteF ?_;exact ⟨sd,false,_,_,lus,left,rfl,s4,hlf4,hcl,l8,fun h=>(nomatch h),fun _=>hf rfl⟩
    | true =>
     refine iteT ?_;obtain ⟨hlen,hsv⟩:=ht rfl;have lpos:0 < left.length:=by omega
     have ll:lus.length=left.length:=hcl.length;rw [Int.zero_add];have n58:=Int.emod_nonneg (sd + 5 * ((j:Nat):Int)) (show (58:Int) ≠ 0 by decide);refine ⟨_,rfl,.inl ⟨rfl,_,SqL.of hlf4⟩,_,rfl,_,rfl,_,rfl,_,_,rfl,rfl,mulL (by decide) (by decide),_,_,rfl,rfl,_,_,rfl,rfl,(by show (0:Int) < 58; decide),_,_,rfl,rfl,a,ns,_,rfl,s04.seq hS,(by show (0:Int)<=4 + (sd + 5 * ((j:Nat):Int)) % 58; omega),_,rfl,_,sd,rfl,_,rfl,lf,_,rfl,.inl (SqL.of hlf4),_,_,rfl,rfl,(by show (0:Int) < ((lus.length:Nat):Int); omega),?_⟩;have x0:=Int.emod_nonneg (mixF (cellF ns (4 + (sd + 5 * ((j:Nat):Int)) % 58)) sd) (show ((lus.length:Nat):Int) ≠ 0 by omega);have x1:=Int.emod_lt_of_pos (mixF (cellF ns (4 + (sd + 5 * ((j:Nat):Int)) % 58)) sd) (show (0:Int) < ((lus.length:Nat):Int) by omega);have eI:(mixF (cellF ns (4 + (sd + 5 * ((j:Nat):Int)) % 58)) sd % ((lus.length:Nat):Int)).toNat=rivI ns sd ((j:Nat):Int) left.length:=by
      unfold rivI;rw [ll]
     obtain ⟨X,hXe⟩:∃ X,X=mixF (cellF ns (4 + (sd + 5 * ((j:Nat):Int)) % 58)) sd % ((lus.length:Nat):Int):=⟨_,rfl⟩;rw [<- hXe] at x0 x1 eI;obtain ⟨v,hv⟩:∃ v,lus[X.toNat]?=some v:=⟨lus[X.toNat]'(by omega),List.getElem?_eq_getElem (by omega)⟩;obtain ⟨c,hcx,cc,rfl,hcc⟩:=Cel.get hcl hv;refine ⟨lf,lus,X,X.toNat,_,rfl,(by rw [hXe]),hlf4,by omega,by omega,seqIndex_of x0 x1,hv,?_⟩;have s5:∀ z o,H2 z=some o->upd H4 lf (.lst (lus.eraseIdx X.toNat)) z=some o:=fun z o e=>by
      rw [upd_ne (ne_of_none e hlf)];exact s4 z o e
     have cne:cc ≠ lf:=fun e=>by
      rw [e,hlf4] at hcc;cases hcc
     have hcc5:upd H4 lf (.lst (lus.eraseIdx X.toNat)) cc=some (.tup [.int (c.1:Nat),.int (c.2:Nat)]):=by
      rw [upd_ne cne];exact hcc
     have hcl5:Cel (upd H4 lf (.lst (lus.eraseIdx X.toNat))) (lus.eraseIdx X.toNat) (left.eraseIdx X.toNat):=cel_into hlf4 (cel_erase _ hcl);have hlf5:upd H4 lf (.lst (lus.eraseIdx X.toNat)) lf=some (.lst (lus.eraseIdx X.toNat)):=upd_same;generalize upd H4 lf (.lst (lus.eraseIdx X.toNat))=H5 at *
     have s25:Same H2 H5:=s5;have qcel5:=qcel.mono s25;refine ⟨_,rfl,_,rfl,cData c,q.map cData,CelR.rdv ⟨cc,rfl,hcc5⟩,.lst (SqL.of (s25 _ _ hb)) (cRdv qcel5),rfl,g_lays _,(by show 1<=60; decide),?_⟩;have e2:(if true=true then !(q.map cData).any (fun z=>PyData.eqv z (cData c)) else (q.map cData).any fun z=>PyData.eqv z (cData c))=!decide (c ∈ q):=by
      show (!(q.map cData).any (fun z=>PyData.eqv z (cData c)))=_;congr 1;rw [in_cells,Bool.eq_iff_iff,List.any_eq_true,decide_eq_true_eq];constructor
      ·rintro ⟨x,hx,e⟩;rw [<- of_decide_eq_true e];exact hx
      ·intro h;exact ⟨c,h,decide_eq_true rfl⟩
     rw [e2];refine ⟨_,rfl,_,_,rfl,rfl,mulL (by decide) (by decide),_,_,rfl,rfl,_,rfl,_,rfl,b,cc,ts,q,c,rfl,s25 _ _ hb,qcel5,q64 q hqm,hcc5,fun H6 s6=>⟨_,_,rfl,rfl,?_⟩⟩;have hX:X.toNat < left.length:=by omega
     have lX:(left.eraseIdx X.toNat).length=left.length - 1:=List.length_eraseIdx_of_lt hX;obtain ⟨r,hr⟩:∃ r,min d cs.length - j=r + 1:=⟨min d cs.length - j - 1,by omega⟩;have hr2:min d cs.length - (j + 1)=r:=by omega
     have es:surv ns (min d cs.length) 0 k cs q=(!decide (c ∈ q) && surv ns r (((j:Nat):Int) + 1) (9 * sd + 1 + ((lawN c q:Nat):Int)) (left.eraseIdx X.toNat) q):=by
      rw [hsv,hr];show (match left[rivI ns sd ((j:Nat):Int) left.length]? with
       | none=>true
       | some c=>!decide (c ∈ q) && surv ns r (((j:Nat):Int) + 1) (9 * sd + 1 + ((lawN c q:Nat):Int)) (left.eraseIdx (rivI ns sd ((j:Nat):Int) left.length)) q)=_
      rw [<- eI,hcx]
     refine ⟨9 * sd + 1 + ((lawN c q:Nat):Int),!decide (c ∈ q),_,_,lus.eraseIdx X.toNat,left.eraseIdx X.toNat,rfl,fun z o e=>s6 _ _ (s5 z o e),s6 _ _ hlf5,hcl5.mono s6,by omega,fun h=>⟨by omega,?_⟩,fun h=>?_⟩
     ·rw [es,h,Bool.true_and,hr2];rfl
     ·rw [es,h,Bool.false_and]
   ·rintro σ H4 ⟨sd,sf,v10',v11',lus,left,rfl,s4,hlf4,hcl,l8,ht,hf⟩;have es:surv ns (min d cs.length) 0 k cs q=sf:=by
     cases sf with
     | true =>
      obtain ⟨_,h⟩:=ht rfl;rw [h,Nat.sub_self];rfl
     | false=>exact hf rfl
    refine ⟨_,rfl,_,rfl,.inr ⟨sf,rfl,_,_,rfl,rfl,?_⟩⟩;refine ⟨some (.ref b),some (.ref lf),some (.int sd),some (.bl sf),v10',v11',?_,fun z o e=>s4 z o (s2 _ _ e)⟩;rw [tkk,es];cases sf <;> rfl
  ·rintro σ H2 ⟨v6,v7,v8,v9,v10,v11,rfl,s2⟩;rw [wq,List.take_length];exact ⟨_,rfl,qf _ s2⟩
theorem PlanAt.dks {N:Addr->Prop}{n:Int}{H:Hp}:∀ {d:Nat} {rs:List Str} {v:V} {as:List Addr},PlanAt N n H d rs v as->∀ x ∈ as,∃ (ms:List Int) (f:Int->V),H x=some (.dK (ms.map fun m=>((Sum.inl m:Key),f m)))
 | 0,_,_,_,h,x,hx=>by
  rw [h.2] at hx;exact (nomatch hx)
 | d + 1,rs,v,as,h,x,hx=>by
  rcases h with h | ⟨hf,t,a,D,j,c,ms,f,sub,e,h1,h2,h3,h4,h5,h6,h7,h8⟩
  ·rw [h.2.2] at hx;exact (nomatch hx)
  ·rw [h7.1] at hx;rcases List.mem_cons.mp hx with rfl | hx
   ·exact ⟨ms,f,h3.2⟩
   ·obtain ⟨l,hl,hx⟩:=List.mem_flatten.mp hx;obtain ⟨m,hm,rfl⟩:=List.mem_map.mp hl;exact PlanAt.dks (h8 m hm) x hx
theorem PlanAt.nodup {N:Addr->Prop}{n:Int}{H:Hp}{d:Nat}{rs:List Str}{v:V}{as:List Addr}(h:PlanAt N n H d rs v as):as.Nodup:=by
 cases d with
 | zero =>
  rw [h.2];exact .nil
 | succ d =>
  rcases h with h | ⟨_,_,_,_,_,_,_,_,_,_,_,_,_,_,_,_,h7,_⟩
  ·rw [h.2.2];exact .nil
  ·exact h7.2
theorem flat_len {α:Type}(f:Int->List α)(B:Nat):∀ ms:List Int,(∀ m ∈ ms,(f m).length<=B)->(ms.map f).flatten.length<=ms.length * B
 | [],_=>Nat.zero_le _
 | a :: r,h=>by
  rw [List.map_cons,List.flatten_cons,List.length_append,List.length_cons,Nat.succ_mul];have h1:=h a List.mem_cons_self;have h2:=flat_len f B r fun m hm=>h m (List.mem_cons_of_mem _ hm);omega
theorem nodup_lt (l:List Nat)(b:Nat)(hn:l.Nodup)(h:∀ x ∈ l,x < b):l.length<=b:=by
 have e:l.Perm ((List.range b).filter fun x=>decide (x ∈ l)):=(List.perm_ext_iff_of_nodup hn (List.nodup_range.sublist List.filter_sublist)).mpr fun x=>by
  rw [List.mem_filter,List.mem_range,decide_eq_true_eq];exact ⟨fun hx=>⟨h x hx,hx⟩,fun hx=>hx.2⟩
 rw [e.length_eq];refine Nat.le_trans (List.length_filter_le _ _) ?_;rw [List.length_range];exact Nat.le_refl _
theorem ms_few {rs:List Str}{n:Int}{c:Nat × Nat}(h8:(shutC rs).length<=8){ms:List Int}(hn:ms.Nodup)(hm:∀ m:Int,m ∈ ms->showsM rs n c m):ms.length<=9:=by
 have h:=nodup_lt (ms.map Int.toNat) 9 ?_ ?_
 ·rw [List.length_map] at h;exact h
 ·refine List.pairwise_map.mpr (hn.imp_of_mem fun {a b} ha hb e z=>e ?_);obtain ⟨_,_,_,ea⟩:=hm a ha;obtain ⟨_,_,_,eb⟩:=hm b hb;omega
 ·intro x hx;obtain ⟨m,hm2,rfl⟩:=List.mem_map.mp hx;obtain ⟨k,hk,_,e⟩:=hm m hm2;have h1:=lays_short h8 hk;have h2:=near_len rs c k;omega
theorem PlanAt.few {N:Addr->Prop}{n:Int}{H:Hp}:∀ {d:Nat} {rs:List Str} {v:V} {as:List Addr},(shutC rs).length<=8->PlanAt N n H d rs v as->as.length<=10 ^ d
 | 0,_,_,_,_,h=>by
  rw [h.2];exact Nat.zero_le _
 | d + 1,rs,v,as,h8,h=>by
  rcases h with h | ⟨hf,t,a,D,j,c,ms,f,sub,e,h1,h2,h3,h4,h5,h6,h7,h9⟩
  ·rw [h.2.2];exact Nat.zero_le _
  ·have hc:c ∈ shutC rs:=List.mem_of_getElem? h4.1;have mn:ms.Nodup:=h5.imp fun h e=>by omega
   have m9:=ms_few h8 mn fun m hm=>(h6 m).mp hm;have fl:=flat_len sub (10 ^ d) ms fun m hm=>by
    obtain ⟨k,hk,_,em⟩:=(h6 m).mp hm;have m8:m.toNat<=8:=by
     have g1:=lays_short h8 hk;have g2:=near_len rs c k;omega
    exact PlanAt.few (by rw [shut_put hc m8]; exact Nat.le_trans (List.length_filter_le _ _) h8) (h9 m hm)
   have p1:1<=10 ^ d:=Nat.one_le_pow _ _ (by decide);have fl2:ms.length * 10 ^ d<=9 * 10 ^ d:=Nat.mul_le_mul_right _ m9;rw [h7.1,List.length_cons,Nat.pow_succ];omega
noncomputable def spDicts (d:Nat):Sp:=fun vs H Q _=>∃ (v:V) (N:Addr->Prop) (n:Int) (rs:List Str) (as:List Addr),vs=[v]/\PlanAt N n H d rs v as/\(shutC rs).length<=8/\d<=3/\∀ (l:Addr) (H':Hp),H l=none->H' l=some (.lst (as.map V.ref))->Same H H'->Q (.ref l) H'
theorem sc_law_dicts:FnScope ["_law_told","_law_found","_law_number"] ["_law_told"] (defScope s_law_dicts):=⟨rfl,rfl,rfl,by decide +kernel,rfl,by decide +kernel,by decide +kernel⟩
theorem ok_law_dictsN (D:DefAt K mg "_law_dicts" s_law_dicts ["_law_told"] f fd)(L:Nat):FnOk P w K mg base CX0 (L + 1) f fd ["_law_told"] spNo :=
 D.F.ok sc_law_dicts (fun vs H Q E h=>h.elim) (fun cdv A outer s H vs Q E hr h=>h.elim)
theorem ok_law_dicts_of {L d:Nat}{spP:Sp}(T:Txt mg)(D_law_dicts:DefAt K mg "_law_dicts" s_law_dicts ["_law_told"] f fd)(G_law_dicts:FnOk P w K mg base CX0 L f fd ["_law_told"] spP)(hP:d=0\/spP=spDicts (d - 1)):FnOk P w K mg base CX0 (L + 1) f fd ["_law_told"] (spDicts d):=by
 refine D_law_dicts.F.ok sc_law_dicts (fun vs H Q E h=>?_) (fun cdv A outer s H vs Q E hr h=>?_)
 ·obtain ⟨v,N,n,rs,as,rfl,_⟩:=h;rfl
 ·obtain ⟨v,N,n,rs,as,rfl,hpl,h8,d3,q⟩:=h;have few:=PlanAt.few h8 hpl;have f3:as.length<=1000:=Nat.le_trans few (Nat.le_trans (Nat.pow_le_pow_right (by decide) d3) (by decide));refine ⟨_,(pss_cons (ps_if (pt_cmpR op_isN (pv 0) pe_non (nomark _)) (pss_one (ps_ret (pe_lst pa_nil))) pss_nil)
   (pss_cons (ps_set (i:=1) sc_law_dicts.nd rfl (Or.inl rfl) (pe_lst (pa_cons (pe_ix ix_tup (pv 0) pe_int (fun _ _=>rfl)) pa_nil)))
   (pss_cons (ps_thaw (ps_for PassesOwn.never rfl (pi_keys (pe_ix ix_tup (pv 0) pe_int (fun _ _=>rfl))) (pg_name (i:=2) sc_law_dicts.nd rfl (Or.inl rfl)) (pss_one (ps_expr (pe_bm PySem.F.plainAttrs_list PySem.F.slot_list_extend PySem.F.type_list_extend mt_extend (pv 1) (pa_cons (pc0 (hk:=Nat.le_refl _) G_law_dicts hr D_law_dicts (pa_cons (pe_dget (u1 hr.units) (pe_ix ix_tup (pv 0) pe_int (fun _ _=>rfl)) (pv 2) (fun _ _=>rfl)) pa_nil)) pa_nil))))))
   (pss_one (ps_ret (pv 1)))))),?_⟩
  have empty:v=.non->as=[]->∀ l,H l=none->Q (.ref l) (upd H l (.lst [])):=fun _ e l hl=>q l _ hl (by rw [e]; exact upd_same) (same_new hl);cases d with
  | zero =>
   obtain ⟨rfl,e⟩:=hpl;exact ⟨_,rfl,rfl,_,rfl,iteT ⟨sz_0,fun l hl=>empty rfl e l hl⟩⟩
  | succ d =>
   rcases hpl with ⟨_,rfl,e⟩ | ⟨hf,t,a,dD,j,c,ms,F,sub,rfl,ht,ha,⟨_,hD⟩,hFC,mst,mss,⟨eas,hnd⟩,hsubs⟩
   ·exact ⟨_,rfl,rfl,_,rfl,iteT ⟨sz_0,fun l hl=>empty rfl e l hl⟩⟩
   ·have hP:spP=spDicts d:=hP.elim (fun h=>absurd h (by omega)) id;subst hP;have hc:c ∈ shutC rs:=List.mem_of_getElem? hFC.1;refine ⟨_,rfl,rfl,_,rfl,iteF ?_⟩;refine ⟨_,rfl,t,_,1,_,rfl,rfl,SqT.of ht,rfl,sz_1,fun fl hfl=>?_⟩;have s1:=same_new (o:=.lst [.ref dD]) hfl;have ht1:=s1 _ _ ht;have hD1:=s1 _ _ hD;have dfl:dD ≠ fl:=ne_of_none hD hfl;refine ⟨_,rfl,t,_,1,_,rfl,rfl,SqT.of ht1,rfl,dD,_,rfl,hD1,fun o=>?_⟩;have hn1:=List.nodup_cons.mp (eas ▸ hnd);have alen:∀ k,(dD :: ((ms.take k).map sub).flatten).length<=as.length:=fun k=>by
     rw [eas,List.length_cons,List.length_cons];have e:(ms.map sub).flatten=((ms.take k).map sub).flatten++((ms.drop k).map sub).flatten:=by
      rw [<- List.flatten_append,<- List.map_append,List.take_append_drop]
     rw [e,List.length_append];omega
    refine for_keys (fun i σ H'=>∃ (v2:Option V),σ=[some (.ref t),some (.ref fl),v2]/\H' dD=some (.frz o (.dK (ms.map fun m=>((Sum.inl m:Key),F m))))/\H' fl=some (.lst ((dD :: ((ms.take i).map sub).flatten).map V.ref))/\∀ b o',b ≠ dD->b ≠ fl->H b=some o'->H' b=some o')
     ⟨_,rfl,upd_same,by rw [upd_ne (Ne.symm dfl)]; exact upd_same,fun b o' h1 h2 e=>by rw [upd_ne h1,upd_ne h2]; exact e⟩ (fun i σ H' _ ⟨_,_,h,_⟩=>h) ?_ ?_
    ·rintro i kv σ H3 hk ⟨v2,rfl,hd3,hfl3,fr⟩;rw [List.getElem?_map] at hk;obtain ⟨m,hmi,rfl⟩:=Option.map_eq_some_iff.mp hk;have hmm:=List.mem_of_getElem? hmi;have ht3:H3 t=some (.tup [.ref a,.ref dD]):=fr t _ (fun e=>by rw [e,hD] at ht; cases ht) (ne_of_none ht hfl) ht;have dsub:dD ∉ sub m:=fun hx=>hn1.1 (List.mem_flatten.mpr ⟨_,List.mem_map.mpr ⟨m,hmm,rfl⟩,hx⟩);have hp3:PlanAt N n H3 d (putRs (one c m.toNat) rs) (F m) (sub m):=by
      refine PlanAt.mono (fun z h=>h) (fun z o' e=>?_) (PlanAt.off (o':=.frz o (.dK (ms.map fun m=>((Sum.inl m:Key),F m)))) hD (fun _ z=>nomatch z) (hsubs m hmm) dsub);by_cases hz:z=dD
      ·subst hz;rw [upd_same] at e;rw [hd3,<- e]
      ·rw [upd_ne hz] at e;exact fr z o' hz (ne_of_none e hfl) e
     obtain ⟨k,hkL,_,em⟩:=(mss m).mp hmm;have m8:m.toNat<=8:=by
      have g1:=lays_short h8 hkL;have g2:=near_len rs c k;omega
     have gd:DGet H3 dD (V.int m) (some (F m)):=.inl ⟨_,Sum.inl m,.inr ⟨o,hd3⟩,rfl,(valK_some (F:=F) hmm).symm⟩;have ef:((ms.take (i + 1)).map sub).flatten=((ms.take i).map sub).flatten++sub m:=by
      rw [List.take_add_one,hmi,List.map_append,List.flatten_append];congr 1;show [sub m].flatten=_;simp
     refine ⟨_,rfl,.inl ⟨rfl,_,SqL.of hfl3⟩,_,rfl,t,_,1,_,rfl,rfl,SqT.of ht3,rfl,_,rfl,dD,F m,rfl,gd,F m,N,n,putRs (one c m.toNat) rs,sub m,rfl,hp3,?_,by omega,fun l2 H4 hl2 hl24 s4=>?_⟩
     ·rw [shut_put hc m8];exact Nat.le_trans (List.length_filter_le _ _) h8
     refine ⟨fl,l2,_,_,rfl,rfl,s4 _ _ hfl3,hl24,?_,?_⟩
     ·have g:=alen (i + 1);rw [ef,List.length_cons,List.length_append] at g;rw [List.length_map,List.length_map,List.length_cons];exact Nat.le_trans (show _<=1000 by omega) (by decide)
     ·refine ⟨_,rfl,by rw [upd_ne dfl]; exact s4 _ _ hd3,?_,fun b o' h1 h2 e=>?_⟩
      ·rw [upd_same,ef,<- List.map_append];rfl
      ·rw [upd_ne h2];exact s4 _ _ (fr b o' h1 h2 e)
    ·rintro σ H3 ⟨v2,rfl,hd3,hfl3,fr⟩;rw [List.length_map,List.take_length,<- eas] at hfl3;refine ⟨dD,o,_,hd3,fun o' u e=>?_,?_⟩
     ·rw [hD1] at e;cases e
     ·refine ⟨_,rfl,q fl _ hfl (by rw [upd_ne (Ne.symm dfl)]; exact hfl3) fun b o' e=>?_⟩;by_cases hb:b=dD
      ·subst hb;rw [upd_same,<- hD];exact e
      ·rw [upd_ne hb];exact fr b o' hb (ne_of_none e hfl) e
noncomputable def spDictsA:Sp:=fun vs H Q E=>∃ d:Nat,d<=3/\spDicts d vs H Q E
theorem ok_law_dicts (T:Txt mg)(D:DefAt K mg "_law_dicts" s_law_dicts ["_law_told"] f fd):FnOk P w K mg base CX0 5 f fd ["_law_told"] spDictsA:=by
 have p0:FnOk P w K mg base CX0 2 f fd ["_law_told"] (spDicts 0):=ok_law_dicts_of T D (ok_law_dictsN D 0) (.inl rfl);have p1:FnOk P w K mg base CX0 3 f fd ["_law_told"] (spDicts 1):=ok_law_dicts_of T D p0 (.inr rfl);have p2:FnOk P w K mg base CX0 4 f fd ["_law_told"] (spDicts 2):=ok_law_dicts_of T D p1 (.inr rfl);have p3:FnOk P w K mg base CX0 5 f fd ["_law_told"] (spDicts 3):=ok_law_dicts_of T D p2 (.inr rfl);refine fn_ex fun d hd=>?_;have h:d=0\/d=1\/d=2\/d=3:=by omega
 rcases h with rfl | rfl | rfl | rfl
 ·exact p0.mono (by decide)
 ·exact p1.mono (by decide)
 ·exact p2.mono (by decide)
 ·exact p3
noncomputable def kvOf (H:Hp)(x:Addr):List (Key × V):=match H x with
 | some (.dK kvs)=>kvs
 | _=>[]
theorem kvOf_is {H:Hp}{x:Addr}{kvs:List (Key × V)}(h:H x=some (.dK kvs)):kvOf H x=kvs:=by
 unfold kvOf;rw [h]
theorem inr_none {F:Int->V}(x:Str):∀ ms:List Int,valV (ms.map fun m=>((Sum.inl m:Key),F m)) (Sum.inr x)=none
 | []=>rfl
 | a :: r=>by
  rw [List.map_cons,valV_neg (show (Sum.inl a:Key) ≠ Sum.inr x from fun e=>nomatch e)];exact inr_none x r
theorem ints_lay (ms:List Int):PyData.canLayAll0 (ms.map PyData.int)=true:=by
 induction ms with
 | nil=>rfl
 | cons a r ih =>
  show (true && PyData.canLayAll0 (r.map PyData.int))=true;rw [ih];rfl
theorem ints_dep (ms:List Int):PyData.depthAll (ms.map PyData.int)=0:=by
 induction ms with
 | nil=>rfl
 | cons a r ih =>
  show max 0 (PyData.depthAll (r.map PyData.int))=0;rw [ih];rfl
theorem ints_cmp (ms:List Int):CmpD (.list (ms.map PyData.int)) (.list (ms.map PyData.int)):=⟨ints_lay ms,ints_lay ms,by
 show PyData.depthAll (ms.map PyData.int) + 1<=64;rw [ints_dep];decide⟩
theorem ints_rdv {K:PySem.W.Frag}{H:Hp}:∀ ms:List Int,RdvAll K H (ms.map V.int) (ms.map PyData.int)
 | []=>.nil
 | m :: r=>.cons (.int m) (ints_rdv r)
theorem PlanAt.small {N:Addr->Prop}{n:Int}{H:Hp}:∀ {d:Nat} {rs:List Str} {v:V} {as:List Addr},(shutC rs).length<=8->PlanAt N n H d rs v as->∀ x ∈ as,∃ kvs,H x=some (.dK kvs)/\kvs.length<=9
 | 0,_,_,_,_,h,x,hx=>by
  rw [h.2] at hx;exact (nomatch hx)
 | d + 1,rs,v,as,h8,h,x,hx=>by
  rcases h with h | ⟨hf,t,a,D,j,c,ms,f,sub,e,h1,h2,h3,h4,h5,h6,h7,h9⟩
  ·rw [h.2.2] at hx;exact (nomatch hx)
  ·rw [h7.1] at hx;rcases List.mem_cons.mp hx with rfl | hx
   ·refine ⟨_,h3.2,?_⟩;rw [List.length_map];exact ms_few h8 (h5.imp fun h e=>by omega) fun m hm=>(h6 m).mp hm
   ·obtain ⟨l,hl,hx⟩:=List.mem_flatten.mp hx;obtain ⟨m,hm,rfl⟩:=List.mem_map.mp hl;have hc:c ∈ shutC rs:=List.mem_of_getElem? h4.1;obtain ⟨k,hk,_,em⟩:=(h6 m).mp hm;have m8:m.toNat<=8:=by
     have g1:=lays_short h8 hk;have g2:=near_len rs c k;omega
    exact PlanAt.small (by rw [shut_put hc m8]; exact Nat.le_trans (List.length_filter_le _ _) h8) (h9 m hm) x hx
noncomputable def spOwn:Sp:=fun vs H Q _=>∃ (v:V) (N:Addr->Prop) (n:Int) (d:Nat) (rs:List Str) (as:List Addr),vs=[v]/\PlanAt N n H d rs v as/\(shutC rs).length<=8/\d<=3/\∀ H',Q (.bl true) H'
theorem sc_law_own:FnScope ["_law_told","_law_dicts_here","_law_sizes","_law_one"] ["_law_told"] (defScope s_law_own):=⟨rfl,rfl,rfl,by decide +kernel,rfl,by decide +kernel,by decide +kernel⟩
theorem ok_law_own {f1:Addr}{fd1:FuncData}(T:Txt mg)(D:DefAt K mg "_law_own" s_law_own ["_law_told"] f fd)(D_law_dicts:DefAt K mg "_law_dicts" s_law_dicts ["_law_told"] f1 fd1)(G_law_dicts:FnOk P w K mg base CX0 5 f1 fd1 ["_law_told"] spDictsA):FnOk P w K mg base CX0 6 f fd ["_law_told"] spOwn:=by
 refine D.F.ok sc_law_own (fun vs H Q E h=>?_) (fun cdv A outer s H vs Q E hr h=>?_)
 ·obtain ⟨v,N,n,d,rs,as,rfl,_⟩:=h;rfl
 ·obtain ⟨v,N,n,d,rs,as,rfl,hpl,h8,d3,q⟩:=h;have few:=PlanAt.few h8 hpl;have f3:as.length<=1000:=Nat.le_trans few (Nat.le_trans (Nat.pow_le_pow_right (by decide) d3) (by decide));have hnd:=PlanAt.nodup hpl;have hdk:=PlanAt.dks hpl;have hkv:∀ x ∈ as,H x=some (.dK (kvOf H x)):=fun x hx=>by
   obtain ⟨ms,F,h⟩:=hdk x hx;rw [kvOf_is h];exact h
  have hnew:∀ x ∈ as,(putK (kvOf H x) (Sum.inr "more":Key) V.non).length=(kvOf H x).length + 1:=fun x hx=>by
   obtain ⟨ms,F,h⟩:=hdk x hx;rw [kvOf_is h,putK_new _ (inr_none (F:=F) "more" ms),List.length_append];rfl
  have hsm:∀ x ∈ as,(kvOf H x).length < sizeLine:=fun x hx=>by
   obtain ⟨kvs,h1,h2⟩:=PlanAt.small h8 hpl x hx;rw [kvOf_is h1];exact Nat.lt_of_le_of_lt h2 (by decide)
  refine ⟨_,(pss_cons (ps_set (i:=1) sc_law_own.nd rfl (Or.inl rfl) (pc0 G_law_dicts hr D_law_dicts (pa_cons (pv 0) pa_nil)))
   (pss_cons (ps_setC (i:=2) sc_law_own.nd rfl rfl (N:=["_law_one"]) (src:=[none]) (CompOk.plain rfl (by decide +kernel) (by decide +kernel) (by decide +kernel) rfl (by decide)) rfl (pi_list (pv 1)) (fun _ _ _ _ _=>(pg_name (i:=0) (by show List.Nodup (["_law_one"]:List Str); decide +kernel) rfl (Or.inl rfl))) (fun _ _ _ _ _=>pifs_nil) (fun _ _ _ _ _=>(pe_callB call_lenD (by rfl) T.b_len PySem.boot_len (pa_cons (pv 0) pa_nil))))
   (pss_cons (ps_for PassesOwn.never rfl (pi_list (pv 1)) (pg_name (i:=3) sc_law_own.nd rfl (Or.inl rfl)) (pss_one (ps_dput (u1 hr.units) (pv 3) pe_str pe_non rfl)))
   (pss_one (ps_ret (pe_cmpR (op_eq_deep hr.units) (pe_comp (N:=["_law_one"]) (src:=[none]) (CompOk.plain rfl (by decide +kernel) (by decide +kernel) (by decide +kernel) rfl (by decide)) rfl (pi_list (pv 1)) (fun _ _ _ _ _=>(pg_name (i:=0) (by show List.Nodup (["_law_one"]:List Str); decide +kernel) rfl (Or.inl rfl))) (fun _ _ _ _ _=>pifs_nil) (fun _ _ _ _ _=>(pe_callB call_lenD (by rfl) T.b_len PySem.boot_len (pa_cons (pv 0) pa_nil)))) (pe_comp (N:=["_law_size"]) (src:=[none]) (CompOk.plain rfl (by decide +kernel) (by decide +kernel) (by decide +kernel) rfl (by decide)) rfl (pi_list (pv 2)) (fun _ _ _ _ _=>(pg_name (i:=0) (by show List.Nodup (["_law_size"]:List Str); decide +kernel) rfl (Or.inl rfl))) (fun _ _ _ _ _=>pifs_nil) (fun _ _ _ _ _=>(pe_op op_add (pv 0) pe_int))) (nomark _))))))),?_⟩
  refine ⟨_,rfl,d,d3,v,N,n,rs,as,rfl,hpl,h8,d3,fun l H1 hl hl1 s1=>?_⟩;refine ⟨_,rfl,l,rfl,⟨_,SqL.of hl1⟩,fun z hz=>?_⟩;refine comp_list (K:=K) (a:=l) (xs:=as.map V.ref) (fun i σ' H'=>∃ (u0:Option V),σ'=[u0]/\Same H1 H'/\H' z=some (.lst (((as.take i).map fun x=>(((kvOf H x).length:Nat):Int)).map V.int)))
   ⟨_,rfl,same_new hz,upd_same⟩ (fun i σ' H' _ ⟨_,_,s2,_⟩=>SqL.of (s2 _ _ hl1)) ?_ ?_
  ·rintro i x σ' H2 hx ⟨u0,rfl,s2,hz2⟩;rw [List.getElem?_map] at hx;obtain ⟨y,hy,rfl⟩:=Option.map_eq_some_iff.mp hx;have il:=(List.getElem?_eq_some_iff.mp hy).1;unfold gName;refine yes_if ?_;refine ⟨_,rfl,y,_,rfl,(s1.trans s2) _ _ (hkv y (List.mem_of_getElem? hy)),_,hz2,?_,_,rfl,fun b o e=>?_,?_⟩
   ·simp only [List.length_map,List.length_take];exact Nat.lt_of_le_of_lt (show min i as.length<=1000 by omega) (by decide)
   ·rw [upd_ne (ne_of_none e hz)];exact s2 _ _ e
   ·rw [upd_same,List.take_add_one,hy,List.map_append,List.map_append];rfl
  ·rintro σ' H2 ⟨u0,rfl,s2,hz2⟩;rw [List.length_map,List.take_length] at hz2;have s12:=s1.trans s2;have zl:H z=none:=s1.free hz;refine ⟨_,rfl,l,rfl,⟨_,SqL.of (s2 _ _ hl1)⟩,?_⟩;refine for_list (K:=K) (a:=l) (xs:=as.map V.ref) (fun i σ H'=>∃ (v3:Option V),σ=[some v,some (.ref l),some (.ref z),v3]/\H' l=some (.lst (as.map V.ref))/\H' z=some (.lst ((as.map fun x=>(((kvOf H x).length:Nat):Int)).map V.int))/\(∀ x ∈ as.take i,H' x=some (.dK (putK (kvOf H x) (Sum.inr "more":Key) V.non)))/\∀ x ∈ as.drop i,H' x=some (.dK (kvOf H x)))
    ⟨_,rfl,s2 _ _ hl1,hz2,fun x hx=>(nomatch hx),fun x hx=>s12 _ _ (hkv x hx)⟩ (fun i σ H' _ ⟨_,_,h,_⟩=>SqL.of h) ?_ ?_
   ·rintro i x σ H3 hx ⟨v3,rfl,hl3,hz3,ht,hdr⟩;rw [List.getElem?_map] at hx;obtain ⟨y,hy,rfl⟩:=Option.map_eq_some_iff.mp hx;obtain ⟨il,ey⟩:=List.getElem?_eq_some_iff.mp hy;have hym:=List.mem_of_getElem? hy;have ed:as.drop i=y :: as.drop (i + 1):=by rw [List.drop_eq_getElem_cons il,ey]
    have hy3:H3 y=some (.dK (kvOf H y)):=hdr y (by rw [ed]; exact List.mem_cons_self);have yl:y ≠ l:=fun e=>by
     rw [e,hl3] at hy3;cases hy3
    have yz:y ≠ z:=fun e=>by
     rw [e,hz3] at hy3;cases hy3
    have hsplit:as=as.take i++y :: as.drop (i + 1):=by rw [<- ed,List.take_append_drop]
    have hnd2:=hnd;rw [hsplit] at hnd2;obtain ⟨_,n2,n3⟩:=List.nodup_append.mp hnd2;refine ⟨_,rfl,y,_,rfl,DPut.k (k:=Sum.inr "more") hy3 (hsm y hym),?_⟩;refine ⟨_,rfl,by rw [upd_ne (Ne.symm yl)]; exact hl3,by rw [upd_ne (Ne.symm yz)]; exact hz3,fun x hx=>?_,fun x hx=>?_⟩
    ·rw [List.take_add_one,hy] at hx;rcases List.mem_append.mp hx with hx | hx
     ·have:x ≠ y:=fun e=>n3 x hx y List.mem_cons_self e;rw [upd_ne this];exact ht x hx
     ·have e:x=y:=by simpa using hx
      rw [e];exact upd_same
    ·have:x ≠ y:=fun e=>(List.nodup_cons.mp n2).1 (e ▸ hx);rw [upd_ne this];exact hdr x (by rw [ed]; exact List.mem_cons_of_mem _ hx)
   ·rintro σ H3 ⟨v3,rfl,hl3,hz3,ht,_⟩;rw [List.length_map,List.take_length] at ht;refine ⟨_,rfl,l,rfl,⟨_,SqL.of hl3⟩,fun z2 hz2'=>?_⟩;refine comp_list (K:=K) (a:=l) (xs:=as.map V.ref) (fun i σ' H'=>∃ (u0:Option V),σ'=[u0]/\Same H3 H'/\H' z2=some (.lst (((as.take i).map fun x=>(((kvOf H x).length:Nat):Int) + 1).map V.int)))
     ⟨_,rfl,same_new hz2',upd_same⟩ (fun i σ' H' _ ⟨_,_,s4,_⟩=>SqL.of (s4 _ _ hl3)) ?_ ?_
    ·rintro i x σ' H4 hx ⟨u0,rfl,s4,hz4⟩;rw [List.getElem?_map] at hx;obtain ⟨y,hy,rfl⟩:=Option.map_eq_some_iff.mp hx;have il:=(List.getElem?_eq_some_iff.mp hy).1;have hym:=List.mem_of_getElem? hy;unfold gName;refine yes_if ?_;refine ⟨_,rfl,y,_,rfl,s4 _ _ (ht y hym),_,hz4,?_,_,rfl,fun b o e=>?_,?_⟩
     ·simp only [List.length_map,List.length_take];exact Nat.lt_of_le_of_lt (show min i as.length<=1000 by omega) (by decide)
     ·rw [upd_ne (ne_of_none e hz2')];exact s4 _ _ e
     ·rw [upd_same,List.take_add_one,hy,List.map_append,List.map_append,hnew y hym];rfl
    ·rintro σ' H4 ⟨u0,rfl,s4,hz4⟩;rw [List.length_map,List.take_length] at hz4;refine ⟨_,rfl,z,rfl,⟨_,SqL.of (s4 _ _ hz3)⟩,fun z3 hz3'=>?_⟩;refine comp_list (K:=K) (a:=z) (xs:=(as.map fun x=>(((kvOf H x).length:Nat):Int)).map V.int) (fun i σ' H'=>∃ (u0:Option V),σ'=[u0]/\Same H4 H'/\H' z3=some (.lst (((as.take i).map fun x=>(((kvOf H x).length:Nat):Int) + 1).map V.int)))
      ⟨_,rfl,same_new hz3',upd_same⟩ (fun i σ' H' _ ⟨_,_,s5,_⟩=>SqL.of (s5 _ _ (s4 _ _ hz3))) ?_ ?_
     ·rintro i x σ' H5 hx ⟨u0,rfl,s5,hz5⟩;rw [List.getElem?_map,List.getElem?_map] at hx;obtain ⟨nn,hnn,rfl⟩:=Option.map_eq_some_iff.mp hx;obtain ⟨y,hy,rfl⟩:=Option.map_eq_some_iff.mp hnn;have il:=(List.getElem?_eq_some_iff.mp hy).1;unfold gName;refine yes_if ?_;refine ⟨_,rfl,_,_,rfl,rfl,_,hz5,?_,_,rfl,fun b o e=>?_,?_⟩
      ·simp only [List.length_map,List.length_take];exact Nat.lt_of_le_of_lt (show min i as.length<=1000 by omega) (by decide)
      ·rw [upd_ne (ne_of_none e hz3')];exact s5 _ _ e
      ·rw [upd_same,List.take_add_one,hy,List.map_append,List.map_append];rfl
     ·rintro σ' H5 ⟨u0,rfl,s5,hz5⟩;rw [List.length_map,List.length_map,List.take_length] at hz5;refine ⟨.list ((as.map fun x=>(((kvOf H x).length:Nat):Int) + 1).map PyData.int),.list ((as.map fun x=>(((kvOf H x).length:Nat):Int) + 1).map PyData.int),.lst (SqL.of (s5 _ _ hz4)) (ints_rdv _),.lst (SqL.of hz5) (ints_rdv _),ints_cmp _,?_⟩;have ee:(if false=true then !PyData.eqv (.list ((as.map fun x=>(((kvOf H x).length:Nat):Int) + 1).map PyData.int)) (.list ((as.map fun x=>(((kvOf H x).length:Nat):Int) + 1).map PyData.int)) else PyData.eqv (.list ((as.map fun x=>(((kvOf H x).length:Nat):Int) + 1).map PyData.int)) (.list ((as.map fun x=>(((kvOf H x).length:Nat):Int) + 1).map PyData.int)))=true:=by
       show PyData.eqv _ _=true;exact SeqAt.eqv_refl _ (ints_cmp _).l1
      rw [ee];exact q _
theorem fr_nat (M B:Nat):frV M B=[.int ((M / Nat.gcd M B:Nat):Int),.int ((B / Nat.gcd M B:Nat):Int)]:=by
 unfold frV;have eg:Int.gcd (M:Int) (B:Int)=Nat.gcd M B:=rfl;rw [eg,<- Int.natCast_ediv,<- Int.natCast_ediv]
theorem fr_parts {M B:Nat}(hB:0 < B):∃ g x y,0 < g/\0 < y/\M=g * x/\B=g * y/\M / Nat.gcd M B=x/\B / Nat.gcd M B=y:=by
 have g0:0 < Nat.gcd M B:=Nat.gcd_pos_of_pos_right M hB;obtain ⟨x,hx⟩:=Nat.gcd_dvd_left M B;obtain ⟨y,hy⟩:=Nat.gcd_dvd_right M B;refine ⟨Nat.gcd M B,x,y,g0,?_,hx,hy,?_,?_⟩
 ·rcases Nat.eq_zero_or_pos y with e | e
  ·rw [e,Nat.mul_zero] at hy;omega
  ·exact e
 ·have:M / Nat.gcd M B=Nat.gcd M B * x / Nat.gcd M B:=by rw [<- hx]
  rw [this,Nat.mul_div_cancel_left x g0]
 ·have:B / Nat.gcd M B=Nat.gcd M B * y / Nat.gcd M B:=by rw [<- hy]
  rw [this,Nat.mul_div_cancel_left y g0]
theorem fr_cross {M B:Nat}(hB:0 < B):(M / Nat.gcd M B) * B=M * (B / Nat.gcd M B):=by
 obtain ⟨g,x,y,g0,y0,e1,e2,e3,e4⟩:=fr_parts (M:=M) hB;rw [e3,e4,e1,e2];rw [<- Nat.mul_assoc,Nat.mul_comm x g]
theorem fr_le {M M' B:Nat}(hB:0 < B)(h:M'<=M):(M' / Nat.gcd M' B) * (B / Nat.gcd M B)<=(M / Nat.gcd M B) * (B / Nat.gcd M' B):=by
 obtain ⟨g,x,y,g0,y0,e1,e2,e3,e4⟩:=fr_parts (M:=M) hB;obtain ⟨g',x',y',g0',y0',e1',e2',e3',e4'⟩:=fr_parts (M:=M') hB;rw [e3,e4,e3',e4'];have h1:g' * x' * (g * y)<=g * x * (g' * y'):=by
  rw [<- e1',<- e2,<- e1,<- e2'];exact Nat.mul_le_mul_right B h
 have e5:g' * x' * (g * y)=(g * g') * (x' * y):=by
  rw [Nat.mul_mul_mul_comm,Nat.mul_comm g' g]
 have e6:g * x * (g' * y')=(g * g') * (x * y'):=by
  rw [Nat.mul_mul_mul_comm]
 rw [e5,e6] at h1;exact Nat.le_of_mul_le_mul_left h1 (Nat.mul_pos g0 g0')
theorem fr_inj {M M' B:Nat}(hB:0 < B)(h1:M' / Nat.gcd M' B=M / Nat.gcd M B)(h2:B / Nat.gcd M' B=B / Nat.gcd M B):M'=M:=by
 obtain ⟨g,x,y,g0,y0,e1,e2,e3,e4⟩:=fr_parts (M:=M) hB;obtain ⟨g',x',y',g0',y0',e1',e2',e3',e4'⟩:=fr_parts (M:=M') hB;rw [e3,e3'] at h1;rw [e4,e4'] at h2;subst h1 h2;have:g * y'=g' * y':=by rw [<- e2,<- e2']
 have:g=g':=Nat.eq_of_mul_eq_mul_right y0' this;rw [e1,e1',this]
noncomputable def frD (M B:Nat):Int × Int:=(((M / Nat.gcd M B:Nat):Int),((B / Nat.gcd M B:Nat):Int))
theorem fr_pr {H:Hp}{a:Addr}{M B:Nat}(h:H a=some (.tup (frV M B))):PR H (.ref a) (frD M B):=⟨a,rfl,by rw [h,fr_nat]; rfl⟩
theorem frD_eqv {M M' B:Nat}:PyData.eqv (pD (frD M' B)) (pD (frD M B))=decide (frD M' B=frD M B):=by
 have:=in_prs [frD M' B] (frD M B);simpa using this
theorem val_off:∀ {acc:List (List Key × V)} {k:List Key},k ∉ acc.map (·.1)->valV acc k=none
 | [],_,_=>rfl
 | a :: r,k,h=>by
  rw [List.map_cons,List.mem_cons,not_or] at h;rw [valV_neg (fun e=>h.1 e.symm)];exact val_off h.2
theorem puts_app:∀ (kv acc:List (List Key × V)),((acc++kv).map (·.1)).Nodup->kv.foldl (fun acc kv=>putK acc kv.1 kv.2) acc=acc++kv
 | [],acc,_=>(List.append_nil acc).symm
 | x :: r,acc,h=>by
  have hx:valV acc x.1=none:=by
   refine val_off fun hm=>?_;rw [List.map_append] at h;exact (List.nodup_append.mp h).2.2 x.1 hm x.1 (List.mem_cons_self ..) rfl
  rw [List.foldl_cons,putK_new _ hx];have e:acc++[(x.1,x.2)]++r=acc++x :: r:=by simp
  rw [puts_app r (acc++[(x.1,x.2)]) (by rw [e]; exact h),e]
theorem chR_keys {rs:List Str}{dp:Nat}{ks:List (List (Int × Int))}{H:Hp}{kv:List (List Key × V)}{cs:List (Nat × Nat)}(h:Paired (ChR rs dp ks H) kv cs):kv.map (·.1)=cs.map keyC:=by
 induction h with
 | nil=>rfl
 | cons q _ ih =>
  rw [List.map_cons,List.map_cons,ih,q.1]
theorem chR_val {rs:List Str}{dp:Nat}{ks:List (List (Int × Int))}{H:Hp}{kv:List (List Key × V)}{cs:List (Nat × Nat)}(h:Paired (ChR rs dp ks H) kv cs){c:Nat × Nat}(hc:c ∈ cs):∃ a,valV kv (keyC c)=some (.ref a)/\H a=some (.tup (frV (thX rs dp ks c) ks.length)):=by
 induction h with
 | nil=>cases hc
 | @cons x y r s q _ ih =>
  obtain ⟨e,a,e2,ha⟩:=q;by_cases hk:x.1=keyC c
  ·have ec:y=c:=keyC_inj (e.symm.trans hk);subst ec;exact ⟨a,by rw [valV_pos hk,e2],ha⟩
  ·rw [valV_neg hk];rcases List.mem_cons.mp hc with rfl | hc
   ·exact absurd e hk
   ·exact ih hc
theorem pD_cmp (p q:Int × Int):CmpD (pD p) (pD q):=⟨rfl,rfl,by show 1<=64; decide⟩
theorem thr_best {rs:List Str}{d:Nat}{ks:List (List (Int × Int))}{c:Nat × Nat}(hf:fullAll ks (shutC rs)=false)(hc:c ∈ shutC rs)(hm:∀ c' ∈ shutC rs,thX rs d ks c'<=thX rs d ks c):thr rs d ks (shutC rs)=thX rs d ks c:=by
 cases d with
 | zero=>rfl
 | succ d =>
  rw [thr_succ,if_neg (by rw [hf]; decide)];refine max_is (List.mem_map.mpr ⟨c,hc,rfl⟩) fun x hx=>?_;obtain ⟨c',hc',rfl⟩:=List.mem_map.mp hx;exact hm c' hc'
theorem thr_full {rs:List Str}{d:Nat}{ks:List (List (Int × Int))}{cs:List (Nat × Nat)}(hf:fullAll ks cs=true):thr rs d ks cs=ks.length:=by
 cases d with
 | zero=>rfl
 | succ d=>rw [thr_succ,if_pos hf]
theorem chR_perm {rs:List Str}{dp:Nat}{ks ks':List (List (Int × Int))}(hp:ks.Perm ks'){H:Hp}{kv:List (List Key × V)}{cs:List (Nat × Nat)}(h:Paired (ChR rs dp ks H) kv cs):Paired (ChR rs dp ks' H) kv cs:=by
 induction h with
 | nil=>exact .nil
 | cons q _ ih =>
  obtain ⟨e,a,e2,h⟩:=q;refine .cons ⟨e,a,e2,?_⟩ ih;rw [<- thX_perm rs dp hp,<- hp.length_eq];exact h
theorem lays_Q {ks:List (List (Int × Int))}{rs:List Str}{n:Int}(h:ks.Perm (laysF rs n)):∃ QQ:List (List (Nat × Nat)),ks=QQ.map (List.map toI)/\QQ.Perm (laysQ rs n):=by
 have e:∀ l:List (List (Nat × Nat)),(l.map (List.map toI)).map (List.map ofI)=l:=fun l=>by
  rw [List.map_map];refine (List.map_congr_left fun q _=>?_).trans (List.map_id l);show (q.map toI).map ofI=q;rw [List.map_map];exact (List.map_congr_left fun c _=>rfl).trans (List.map_id q)
 refine ⟨ks.map (List.map ofI),?_,?_⟩
 ·rw [List.map_map];refine (List.map_id ks).symm.trans (List.map_congr_left fun k hk=>?_);obtain ⟨q,_,rfl,_⟩:=lays_mem.mp (h.mem_iff.mp hk);show q.map toI=((q.map toI).map ofI).map toI;rw [List.map_map,List.map_map];exact List.map_congr_left fun c _=>rfl
 ·have:=h.map (List.map ofI);rw [lays_Qis,e] at this;exact this
theorem cData_ne (c:Nat × Nat):(if true=true then !PyData.eqv (cData c) (cData c) else PyData.eqv (cData c) (cData c))=false:=by
 show (!PyData.eqv (cData c) (cData c))=false;rw [cData_eqv];simp
noncomputable def spLaw (K:PySem.W.Frag):Sp:=fun vs H Q _=>∃ (a:Addr) (ns:List Int),vs=[.ref a]/\SqL K H a (ns.map V.int)/\ns.length<=63/\∀ H',Q (.bl true) H'
theorem sc_law:FnScope ["_law_script","_law_board_here","_law_depth","_law_some","_law_cells_here","_law_told","_law_through","_law_found","_law_top","_law_bottom","_law_each","_law_cell","_law_k"] ["_law_script"] (defScope s_law):=⟨rfl,rfl,rfl,by decide +kernel,rfl,by decide +kernel,by decide +kernel⟩
theorem ok_law (T:Txt mg)(Z:Prog K mg)(D:DefAt K mg "law" s_law ["_law_script"] f fd):FnOk P w K mg base CX0 20 f fd ["_law_script"] (spLaw K):=by
 obtain ⟨f_closed,fd_closed,D_closed⟩:=Z.closed;obtain ⟨f_open_cells,fd_open_cells,D_open_cells⟩:=Z.open_cells;obtain ⟨f_around,fd_around,D_around⟩:=Z.around;obtain ⟨f_number_at,fd_number_at,D_number_at⟩:=Z.number_at;obtain ⟨f_opened,fd_opened,D_opened⟩:=Z.opened;obtain ⟨f_cells_of,fd_cells_of,D_cells_of⟩:=Z.cells_of;obtain ⟨f_sign_at,fd_sign_at,D_sign_at⟩:=Z.sign_at;obtain ⟨f_fraction,fd_fraction,D_fraction⟩:=Z.fraction;obtain ⟨f_greatest_divisor,fd_greatest_divisor,D_greatest_divisor⟩:=Z.greatest_divisor;obtain ⟨f_layings,fd_layings,D_layings⟩:=Z.layings;obtain ⟨f_numbers_told,fd_numbers_told,D_numbers_told⟩:=Z.numbers_told;obtain ⟨f_wrong_number,fd_wrong_number,D_wrong_number⟩:=Z.wrong_number;obtain ⟨f_picks,fd_picks,D_picks⟩:=Z.picks;obtain ⟨f_chances,fd_chances,D_chances⟩:=Z.chances;obtain ⟨f_best,fd_best,D_best⟩:=Z.best;obtain ⟨f_plan,fd_plan,D_plan⟩:=Z.plan;obtain ⟨f_known_layings,fd_known_layings,D_known_layings⟩:=Z.known_layings;obtain ⟨f_through,fd_through,D_through⟩:=Z.through;obtain ⟨f_through_by,fd_through_by,D_through_by⟩:=Z.through_by;obtain ⟨f_told_apart,fd_told_apart,D_told_apart⟩:=Z.told_apart;obtain ⟨f_all_full,fd_all_full,D_all_full⟩:=Z.all_full;obtain ⟨f_law_cell_at,fd_law_cell_at,D_law_cell_at⟩:=Z.law_cell_at;obtain ⟨f_law_mixed,fd_law_mixed,D_law_mixed⟩:=Z.law_mixed;obtain ⟨f_law_mark,fd_law_mark,D_law_mark⟩:=Z.law_mark;obtain ⟨f_law_drawn,fd_law_drawn,D_law_drawn⟩:=Z.law_drawn;obtain ⟨f_law_cells,fd_law_cells,D_law_cells⟩:=Z.law_cells;obtain ⟨f_law_near,fd_law_near,D_law_near⟩:=Z.law_near;obtain ⟨f_law_board,fd_law_board,D_law_board⟩:=Z.law_board;obtain ⟨f_law_bent,fd_law_bent,D_law_bent⟩:=Z.law_bent;obtain ⟨f_law_all,fd_law_all,D_law_all⟩:=Z.law_all;obtain ⟨f_law_told_at,fd_law_told_at,D_law_told_at⟩:=Z.law_told_at;obtain ⟨f_law_goes,fd_law_goes,D_law_goes⟩:=Z.law_goes;obtain ⟨f_law_stops_rightly,fd_law_stops_rightly,D_law_stops_rightly⟩:=Z.law_stops_rightly;obtain ⟨f_law_walked,fd_law_walked,D_law_walked⟩:=Z.law_walked;obtain ⟨f_law_rival,fd_law_rival,D_law_rival⟩:=Z.law_rival;obtain ⟨f_law_dicts,fd_law_dicts,D_law_dicts⟩:=Z.law_dicts;obtain ⟨f_law_own,fd_law_own,D_law_own⟩:=Z.law_own;have  G_closed:FnOk P w K mg base CX0 2 f_closed fd_closed ["board"] (spList pShut):=ok_closed T D_closed D_cells_of D_sign_at;have  G_layings:FnOk P w K mg base CX0 4 f_layings fd_layings ["board"] spLay:=ok_layings T D_layings D_around D_sign_at D_cells_of D_closed D_open_cells D_number_at D_numbers_told D_wrong_number D_picks;have  G_known_layings:FnOk P w K mg base CX0 5 f_known_layings fd_known_layings ["board","depth"] spKnown:=ok_known_layings T D_known_layings D_around D_sign_at D_cells_of D_closed D_open_cells D_number_at D_numbers_told D_wrong_number D_picks D_layings;have  G_fraction:FnOk P w K mg base CX0 2 f_fraction fd_fraction ["top","bottom"] spFr:=ok_fraction D_fraction D_greatest_divisor;have  G_all_full:FnOk P w K mg base CX0 1 f_all_full fd_all_full ["found","cells"] spFull:=ok_all_full T D_all_full;have  G_told_apart:FnOk P w K mg base CX0 2 f_told_apart fd_told_apart ["board","found","cell"] spApart:=ok_told_apart T D_told_apart D_around;have  G_through_by:FnOk P w K mg base CX0 9 f_through_by fd_through_by ["board","found","cells","depth","cell"] spThBA:=ok_through_by T D_through_by D_all_full D_through D_told_apart G_all_full G_told_apart;have  G_opened:FnOk P w K mg base CX0 1 f_opened fd_opened ["board","numbers"] spOpened:=ok_opened T D_opened;have  G_chances:FnOk P w K mg base CX0 10 f_chances fd_chances ["board","depth"] spChances:=ok_chances T D_chances D_known_layings D_closed D_fraction D_through_by G_known_layings G_closed G_fraction G_through_by;have  G_best:FnOk P w K mg base CX0 10 f_best fd_best ["board","depth"] spBest:=ok_best T D_best D_known_layings D_closed D_fraction D_through_by D_all_full G_known_layings G_closed G_fraction G_through_by G_all_full;have  G_plan:FnOk P w K mg base CX0 14 f_plan fd_plan ["board","depth"] spPlanA:=ok_plan T D_plan D_best D_told_apart D_layings D_opened G_best G_told_apart G_layings G_opened;have  G_law_cell_at:FnOk P w K mg base CX0 1 f_law_cell_at fd_law_cell_at ["_law_script","_law_k"] (spCell K):=ok_law_cell_at T D_law_cell_at;have  G_law_drawn:FnOk P w K mg base CX0 2 f_law_drawn fd_law_drawn ["_law_script","_law_most","_law_limit"] (spDrawn K):=ok_law_drawn T D_law_drawn D_law_cell_at D_law_mixed D_law_mark;have  G_law_board:FnOk P w K mg base CX0 2 f_law_board fd_law_board ["_law_marks"] spBoardL:=ok_law_board T D_law_board D_law_near D_law_cells;have  G_law_bent:FnOk P w K mg base CX0 2 f_law_bent fd_law_bent ["_law_board_here","_law_cell"] spBentL:=ok_law_bent T D_law_bent D_law_cells;have  G_law_cells:FnOk P w K mg base CX0 1 f_law_cells fd_law_cells ["_law_rows","_law_signs"] spLCells:=ok_law_cells T D_law_cells;have  G_law_all:FnOk P w K mg base CX0 2 f_law_all fd_law_all ["_law_board_here"] spAllL:=ok_law_all T D_law_all D_law_near D_law_cells;have  G_law_told_at:FnOk P w K mg base CX0 2 f_law_told_at fd_law_told_at ["_law_laying","_law_cell"] spToldAt:=ok_law_told_at T D_law_told_at D_law_near;have  G_law_goes:FnOk P w K mg base CX0 3 f_law_goes fd_law_goes ["_law_told","_law_laying","_law_depth"] spGoes:=ok_law_goes T D_law_goes D_law_told_at G_law_told_at;have  G_law_stops_rightly:FnOk P w K mg base CX0 3 f_law_stops_rightly fd_law_stops_rightly ["_law_cells_here","_law_some","_law_gone","_law_laying","_law_depth"] spStops:=ok_law_stops_rightly T D_law_stops_rightly D_law_told_at G_law_told_at;have  G_law_walked:FnOk P w K mg base CX0 4 f_law_walked fd_law_walked ["_law_told","_law_cells_here","_law_some","_law_depth"] spWalked:=ok_law_walked T D_law_walked D_law_goes D_law_stops_rightly G_law_goes G_law_stops_rightly;have  G_law_rival:FnOk P w K mg base CX0 3 f_law_rival fd_law_rival ["_law_script","_law_cells_here","_law_some","_law_depth","_law_k"] (spRival K):=ok_law_rival T D_law_rival D_law_cell_at D_law_mixed D_law_told_at G_law_told_at;have  G_law_dicts:FnOk P w K mg base CX0 5 f_law_dicts fd_law_dicts ["_law_told"] spDictsA:=ok_law_dicts T D_law_dicts;have  G_law_own:FnOk P w K mg base CX0 6 f_law_own fd_law_own ["_law_told"] spOwn:=ok_law_own T D_law_own D_law_dicts G_law_dicts;refine D.F.ok sc_law (fun vs H Q E h=>?_) (fun cdv A outer s H vs Q E hr h=>?_)
 ·obtain ⟨a,ns,rfl,_⟩:=h;rfl
 ·obtain ⟨a,ns,rfl,hS,hlen,q⟩:=h;refine ⟨_,(pss_cons (ps_set (i:=1) sc_law.nd rfl (Or.inl rfl) (pc0 G_law_bent hr D_law_bent (pa_cons (pc0 G_law_board hr D_law_board (pa_cons (pc0 G_law_drawn hr D_law_drawn (pa_cons (pv 0) (pa_cons pe_int (pa_cons pe_int pa_nil)))) pa_nil)) (pa_cons (pc0 G_law_cell_at hr D_law_cell_at (pa_cons (pv 0) (pa_cons pe_int pa_nil))) pa_nil))))
   (pss_cons (ps_set (i:=2) sc_law.nd rfl (Or.inl rfl) (pe_op op_mod (pc0 G_law_cell_at hr D_law_cell_at (pa_cons (pv 0) (pa_cons pe_int pa_nil))) pe_int))
   (pss_cons (ps_set (i:=3) sc_law.nd rfl (Or.inl rfl) (pc0 G_law_all hr D_law_all (pa_cons (pv 1) pa_nil)))
   (pss_cons (ps_if (pt_cmpR (op_eq_deep hr.units) (pv 3) (pe_lst pa_nil) (nomark _)) (pss_one (ps_ret pe_bl)) pss_nil)
   (pss_cons (ps_set (i:=4) sc_law.nd rfl (Or.inl rfl) (pc0 G_law_cells hr D_law_cells (pa_cons (pe_ix ix_tup (pv 1) pe_int (fun _ _=>rfl)) (pa_cons (pe_lst (pa_cons pe_str pa_nil)) pa_nil))))
   (pss_cons (ps_set (i:=5) sc_law.nd rfl (Or.inl rfl) (pc0 G_plan hr D_plan (pa_cons (pv 1) (pa_cons (pv 2) pa_nil))))
   (pss_cons (ps_set (i:=6) sc_law.nd rfl (Or.inl rfl) (pc0 G_law_walked hr D_law_walked (pa_cons (pv 5) (pa_cons (pv 4) (pa_cons (pv 3) (pa_cons (pv 2) pa_nil))))))
   (pss_cons (ps_if (pt_cmpR op_isN (pv 6) pe_non (nomark _)) (pss_one (ps_ret pe_bl)) pss_nil)
   (pss_cons (ps_set (i:=7) sc_law.nd rfl (Or.inr rfl) (pc0 G_best hr D_best (pa_cons (pv 1) (pa_cons (pv 2) pa_nil))))
   (pss_cons (ps_if (pt_cmpR op_isN (pv 7) pe_non (nomark _)) (pss_one (ps_ret (pe_and (pe_cmpR op_isN (pv 5) pe_non (nomark _)) (pe_one (pe_cmpR op_eq (pv 6) (pe_callB call_len_seq (by rfl) T.b_len PySem.boot_len (pa_cons (pv 3) pa_nil)) (nomark _)))))) pss_nil)
   (pss_cons (ps_if (pt_cmpR op_ne (pe_op op_mulG (pe_ix ix_tup (pe_ix ix_tup (pv 7) pe_int (fun _ _=>rfl)) pe_int (fun _ _=>rfl)) (pe_callB call_len_seq (by rfl) T.b_len PySem.boot_len (pa_cons (pv 3) pa_nil))) (pe_op op_mulG (pv 6) (pe_ix ix_tup (pe_ix ix_tup (pv 7) pe_int (fun _ _=>rfl)) pe_int (fun _ _=>rfl))) (nomark _)) (pss_one (ps_ret pe_bl)) pss_nil)
   (pss_cons (ps_asg (pe_ix ix_tup (pv 7) pe_int (fun _ _=>rfl)) (pg_tup rfl (pgs_cons (pg_name (i:=8) sc_law.nd rfl (Or.inl rfl)) (pgs_cons (pg_name (i:=9) sc_law.nd rfl (Or.inl rfl)) pgs_nil))))
   (pss_cons (ps_set (i:=10) sc_law.nd rfl (Or.inr rfl) (pc0 G_chances hr D_chances (pa_cons (pv 1) (pa_cons (pv 2) pa_nil))))
   (pss_cons (ps_if (pt_cmpR (op_ne_deep hr.units) (pe_dget (u1 hr.units) (pv 10) (pe_ix ix_tup (pv 7) pe_int (fun _ _=>rfl)) (fun _ _=>rfl)) (pe_ix ix_tup (pv 7) pe_int (fun _ _=>rfl)) (nomark _)) (pss_one (ps_ret pe_bl)) pss_nil)
   (pss_cons (ps_for PassesOwn.never rfl (pi_list (pv 4)) (pg_name (i:=11) sc_law.nd rfl (Or.inl rfl)) (pss_one (ps_if (pt_cmpR op_gt (pe_op op_mulG (pe_ix ix_tup (pe_dget (u1 hr.units) (pv 10) (pv 11) (fun _ _=>rfl)) pe_int (fun _ _=>rfl)) (pv 9)) (pe_op op_mulG (pv 8) (pe_ix ix_tup (pe_dget (u1 hr.units) (pv 10) (pv 11) (fun _ _=>rfl)) pe_int (fun _ _=>rfl))) (nomark _)) (pss_one (ps_ret pe_bl)) pss_nil)))
   (pss_cons (ps_if (pt_cmpR (op_ne_deep hr.units) (pe_comp (N:=["_law_cell","_law_found","_law_each"]) (src:=[none,some 7,some 10]) (CompOk.free (O:=(defScope s_law).names) (XN:=["_law_script","_law_board_here","_law_depth","_law_some","_law_cells_here","_law_told","_law_through","_law_found","_law_top","_law_bottom","_law_each","_law_cell","_law_k"]) rfl rfl ⟨_,rfl⟩ rfl rfl (by decide +kernel) (by decide +kernel) (by decide +kernel) rfl (by decide +kernel)) rfl (pi_list (pv 4)) (fun _ _ _ _ _=>(pg_name (i:=0) (by show List.Nodup (["_law_cell","_law_found","_law_each"]:List Str); decide +kernel) rfl (Or.inl rfl))) (fun _ _ _ _ _=>(pifs_one (PW.pt (pw_and (pt_cmpR (op_lt_deep hr.units) (pv 0) (pe_ix (ix_tupK (K:=K) (by rfl)) (pv 1) pe_int (fun _ _=>rfl)) (nomark _)) (pw_and1 (pt_cmpR (op_eq_deepK (K:=K) (by rfl) hr.units) (pe_dget (u1 hr.units) (pv 2) (pv 0) (fun _ _=>rfl)) (pe_ix (ix_tupK (K:=K) (by rfl)) (pv 1) pe_int (fun _ _=>rfl)) (nomark _))))))) (fun _ _ _ _ _=>(pv 0))) (pe_lst pa_nil) (nomark _)) (pss_one (ps_ret pe_bl)) pss_nil)
   (pss_cons (ps_if (PW.pt (pw_and (pt_cmpR op_notN (pv 5) pe_non (nomark _)) (pw_and1 (pt_cmpR (op_ne_deep hr.units) (pe_ix ix_tup (pv 5) pe_int (fun _ _=>rfl)) (pe_ix ix_tup (pv 7) pe_int (fun _ _=>rfl)) (nomark _))))) (pss_one (ps_ret pe_bl)) pss_nil)
   (pss_cons (ps_for PassesOwn.never rfl (pi_range1 (by rfl) T.b_range (pa_cons pe_int pa_nil)) (pg_name (i:=12) sc_law.nd rfl (Or.inl rfl)) (pss_one (ps_if (pt_cmpR op_gt (pc0 G_law_rival hr D_law_rival (pa_cons (pv 0) (pa_cons (pv 4) (pa_cons (pv 3) (pa_cons (pv 2) (pa_cons (pv 12) pa_nil)))))) (pv 6) (nomark _)) (pss_one (ps_ret pe_bl)) pss_nil)))
   (pss_one (ps_ret (pc0 G_law_own hr D_law_own (pa_cons (pv 5) pa_nil)))))))))))))))))))))),?_⟩
  refine ⟨_,rfl,a,ns,rfl,hS,fun d us gs H1 hd hd1 hM M s1=>?_⟩;refine ⟨d,us,gs,rfl,hd1,hM,M,fun p0 l0 rs0 H2 hp0 hl0 B0 er s2=>?_⟩;have R0:=M.rows er;refine ⟨_,rfl,a,ns,_,rfl,(s1.trans s2).seq hS,by decide,fun c2=>?_⟩;refine ⟨p0,l0,rs0,_,c2,rfl,B0,R0,fun p l rs n H3 B R esh s3=>?_⟩;have few:(shutC rs).length<=8:=by
   rw [esh];exact M.few8 er
  have s03:=(s1.trans s2).trans s3;clear hM M B0 R0 esh er hd hd1 hp0 hl0 s1 s2 s3;refine ⟨_,rfl,a,ns,_,rfl,s03.seq hS,by decide,fun c3=>⟨_,_,rfl,rfl,(by show (0:Int) < 4; decide),?_⟩⟩;obtain ⟨d,hd,d3⟩:∃ d:Nat,V.int (c3 % 4)=V.int ((d:Nat):Int)/\d<=3:=by
   have h0:=Int.emod_nonneg c3 (show (4:Int) ≠ 0 by decide);have h1:=Int.emod_lt_of_pos c3 (show (0:Int) < 4 by decide);refine ⟨(c3 % 4).toNat,?_,by omega⟩;congr 1;omega
  refine ⟨_,rfl,p,l,rs,n,rfl,B,R,few,fun sa ws ks H4 hsa hsa4 hL4 hpm s4=>?_⟩;refine ⟨_,rfl,sz_0,fun e he=>?_⟩;have z5:=same_new (o:=.lst []) he;refine ⟨.list (ks.map lk1),.list [],.lst (SqL.of (z5 _ _ hsa4)) (lists_rdv (lists_mono z5 hL4)),.lst (SqL.of upd_same) .nil,lk_cmp _,_,rfl,?_⟩;rw [lk_nil];cases hke:ks.isEmpty with
  | true=>exact iteT (q _)
  | false =>
   refine iteF ?_;have hne:laysF rs n ≠ []:=fun h=>by
    rw [h] at hpm;rw [List.perm_nil.mp hpm] at hke;cases hke
   have n0:0<=n:=by
    obtain ⟨k,hk⟩:=List.exists_mem_of_ne_nil _ hne;obtain ⟨q,_,_,e,_⟩:=lays_mem.mp hk;omega
   obtain ⟨QQ,eQ,hQp⟩:=lays_Q hpm;have B5:=(B.mono s4).mono z5;have hsa5:=z5 _ _ hsa4;have hL5:=lists_mono z5 hL4;have s05:=(s03.trans s4).trans z5;generalize upd H4 e (.lst [])=H5 at *
   clear z5 hL4 hsa4 s4 B;refine ⟨_,rfl,p,_,0,_,rfl,rfl,SqT.of B5.tp,rfl,sz_1,fun sg hsg=>?_⟩;have z6:=same_new (o:=.lst [V.str "?"]) hsg;refine ⟨l,sg,_,codes rs,[63],rfl,z6 _ _ B5.rw,GridAt.rows _ rs,by rw [codes_len]; exact R.hi,R.short,by rw [upd_same,q_is]; rfl,fun ca us H8 hca hca8 hc7 s7=>?_⟩;have hC8:Cel H8 us (shutC rs):=by
    have e:Cells.allCs (pZ [63]) 0 (codes rs)=shutC rs:=Cells.allCs_congr (fun k=>by
     unfold pZ pShut;rw [decide_eq_decide];exact List.mem_singleton) 0 _
    rw [<- e];exact hc7
   have s58:=z6.trans s7;have B8:=B5.mono s58;have hsa8:=s58 _ _ hsa5;have hL8:=lists_mono s58 hL5;have s08:=s05.trans s58;clear hL5 hsa5 B5 hc7 s7 z6;have ul:us.length=(shutC rs).length:=hC8.length;have wl:ws.length=ks.length:=lists_len hL8;have wl':ws.length=(laysF rs n).length:=wl.trans hpm.length_eq;have kl:ks.length<=256:=hpm.length_eq ▸ lays_len rs n few;have k0:0 < (laysF rs n).length:=List.length_pos_iff.mpr hne;have hLQ:Lists (fun a=>H3 a=none/\a ≠ sa) H8 ws (QQ.map (List.map toI)):=eQ ▸ hL8;have hQm:∀ q ∈ QQ,q ∈ laysQ rs n:=fun q hq=>hQp.mem_iff.mp hq;have q64:∀ o ∈ QQ,o.length<=64:=fun o ho=>by
    have:=(laysQ_sub (hQm o ho)).length_le;omega
   have eW:(QQ.filter fun q=>(wlk n d rs q).2).length=thr rs d (laysF rs n) (shutC rs):=by
    rw [(hQp.filter _).length_eq];exact walk_count d few
   refine ⟨_,rfl,_,rfl,d,d3,p,l,rs,n,(by rw [<- hd]; rfl),B8,R,few,n0,hne,fun v as H9 hpl s9=>?_⟩;refine ⟨_,rfl,_,rfl,_,rfl,_,rfl,v,ca,sa,us,ws,_,_,n,d,rs,as,QQ,(by rw [<- hd]; rfl),hpl,s9 _ _ hca8,hC8.mono s9,s9 _ _ hsa8,lists_mono s9 hLQ,hQm,few,d3,by omega,fun H10 s10=>?_⟩;rw [eW];have s810:=s9.trans s10;have hpl10:=PlanAt.mono (fun z h=>h) s10 hpl;refine ⟨_,rfl,rfl,_,rfl,iteN rfl ?_⟩;refine ⟨_,rfl,_,rfl,p,l,rs,n,((d:Nat):Int),(by rw [<- hd]; rfl),B8.mono s810,R,few,n0,⟨by omega,by omega⟩,hne,fun ks1 H11 hp1 s11=>⟨fun hf=>?_,fun hf t a1 fp j c ht ht11 ha11 hfp11 hj hfs hmx=>?_⟩⟩
   ·rw [full_perm hp1] at hf;have hv:v=.non:=by
     cases d with
     | zero=>exact hpl.1
     | succ d' =>
      rcases hpl with h | ⟨h,_⟩
      ·exact h.2.1
      ·rw [hf] at h;cases h
    subst hv;refine ⟨_,rfl,rfl,_,rfl,iteP rfl ?_⟩;refine ⟨_,rfl,rfl,_,rfl,iteT ?_⟩;refine ⟨_,rfl,_,rfl,sa,ws,rfl,.inl (SqL.of ((s810.trans s11) _ _ hsa8)),rfl,?_⟩;have e:decide (V.int ((thr rs d (laysF rs n) (shutC rs):Nat):Int)=V.int ((ws.length:Nat):Int))=true:=decide_eq_true (by rw [thr_full hf,wl']);rw [e];exact q _
   ·rw [full_perm hp1] at hf;rw [Int.toNat_natCast] at hfp11 hfs hmx;rw [thX_perm rs d hp1,hp1.length_eq] at hfp11;have hFC:FirstC rs n d j c:=⟨hj,fun i hi c' hc'=>by
     rw [<- thX_perm rs d hp1,<- thX_perm rs d hp1];exact hfs i hi c' hc',fun c' hc'=>by
     rw [<- thX_perm rs d hp1,<- thX_perm rs d hp1];exact hmx c' hc'⟩
    have hcm:=List.mem_of_getElem? hj;have eT:thr rs d (laysF rs n) (shutC rs)=thX rs d (laysF rs n) c:=thr_best hf hcm hFC.2.2;have s811:=s810.trans s11;have hfpN:=hfp11;rw [fr_nat] at hfpN;have gB:∀ M:Nat,(laysF rs n).length / Nat.gcd M (laysF rs n).length<=256:=fun M=>Nat.le_trans (Nat.div_le_self _ _) (by omega);have small:∀ M:Nat,-(2 ^ 64:Int) < (((laysF rs n).length / Nat.gcd M (laysF rs n).length:Nat):Int)/\(((laysF rs n).length / Nat.gcd M (laysF rs n).length:Nat):Int) < 2 ^ 64:=fun M=>⟨Int.lt_of_lt_of_le (by decide) (Int.natCast_nonneg _),Int.lt_of_le_of_lt (Int.ofNat_le.mpr (gB M)) (by decide)⟩;refine ⟨_,rfl,rfl,_,rfl,iteN rfl ?_⟩;refine ⟨_,rfl,t,_,1,_,rfl,rfl,SqT.of ht11,rfl,fp,_,0,_,rfl,rfl,SqT.of hfpN,rfl,_,rfl,sa,ws,rfl,.inl (SqL.of (s811 _ _ hsa8)),_,_,rfl,rfl,mulS (by omega) (by omega),_,rfl,_,rfl,t,_,1,_,rfl,rfl,SqT.of ht11,rfl,fp,_,1,_,rfl,rfl,SqT.of hfpN,rfl,_,_,rfl,rfl,mulS (small _).1 (small _).2,rfl,_,rfl,iteN ?_ ?_⟩
    ·have e:(((thX rs d (laysF rs n) c / Nat.gcd (thX rs d (laysF rs n) c) (laysF rs n).length:Nat):Int)) * ((ws.length:Nat):Int)=((thr rs d (laysF rs n) (shutC rs):Nat):Int) * (((laysF rs n).length / Nat.gcd (thX rs d (laysF rs n) c) (laysF rs n).length:Nat):Int):=by
      rw [wl',eT,<- Int.natCast_mul,<- Int.natCast_mul,fr_cross k0]
     show (!decide (V.int _=V.int _))=false;rw [e,decide_eq_true rfl];rfl
    refine ⟨_,rfl,t,_,1,_,rfl,rfl,SqT.of ht11,rfl,fp,_,rfl,SqT.of hfpN,rfl,_,_,rfl,_,_,rfl,rfl,?_⟩;refine ⟨_,rfl,_,rfl,p,l,rs,n,((d:Nat):Int),(by rw [<- hd]; rfl),B8.mono s811,R,few,n0,⟨by omega,by omega⟩,hne,fun td kv ks2 H12 htd htd12 hch hp2 s12=>?_⟩;rw [Int.toNat_natCast] at hch;have hch:Paired (ChR rs d (laysF rs n) H12) kv (shutC rs):=chR_perm hp2 hch;have pe:putsT kv=kv:=by
     have:=puts_app kv [] (by
      rw [List.nil_append,chR_keys hch];exact List.pairwise_map.mpr ((Cells.allCs_lex pShut 0 (codes rs)).imp fun {a b} z e=>by
       have:=keyC_inj e;subst this;unfold Cells.lex at z;omega))
     exact this
    rw [pe] at htd12;have s812:=s811.trans s12;have ht12:=s12 _ _ ht11;have ha12:=s12 _ _ ha11;have hfp12:=s12 _ _ hfp11;have hfpN12:=s12 _ _ hfpN;obtain ⟨fa,hva,hfa⟩:=chR_val hch hcm;have hg:DGet H12 td (.ref a1) (some (.ref fa)):=by
     rw [<- hva];exact DGet.t (k:=keyC c) htd12 ha12
    refine ⟨_,rfl,_,rfl,t,_,0,_,rfl,rfl,SqT.of ht12,rfl,td,_,rfl,hg,_,rfl,t,_,1,_,rfl,rfl,SqT.of ht12,rfl,pD (frD (thX rs d (laysF rs n) c) (laysF rs n).length),pD (frD (thX rs d (laysF rs n) c) (laysF rs n).length),(fr_pr hfa).rdv,(fr_pr hfp12).rdv,pD_cmp _ _,_,rfl,iteN ?_ ?_⟩
    ·show (!PyData.eqv _ _)=false;rw [frD_eqv,decide_eq_true rfl];rfl
    refine ⟨_,rfl,ca,rfl,⟨_,SqL.of (s812 _ _ hca8)⟩,?_⟩;refine for_list (K:=K) (a:=ca) (xs:=us) (fun i σ H'=>∃ (v11 v12:Option V),σ=[some (.ref a),some (.ref p),some (.int ((d:Nat):Int)),some (.ref sa),some (.ref ca),some v,some (.int ((thr rs d (laysF rs n) (shutC rs):Nat):Int)),some (.ref t),some (.int (((thX rs d (laysF rs n) c) / Nat.gcd (thX rs d (laysF rs n) c) (laysF rs n).length:Nat):Int)),some (.int (((laysF rs n).length / Nat.gcd (thX rs d (laysF rs n) c) (laysF rs n).length:Nat):Int)),some (.ref td),v11,v12]/\Same H12 H')
     ⟨_,_,by rw [<- hd]; rfl,Same.refl _⟩ (fun i σ H' _ ⟨_,_,_,s13⟩=>SqL.of (s13 _ _ (s812 _ _ hca8))) ?_ ?_
    ·rintro i x σ H13 hx ⟨v11,v12,rfl,s13⟩;obtain ⟨c',hc',cc,rfl,hcc⟩:=Cel.get (hC8.mono (s812.trans s13)) hx;obtain ⟨fb,hvb,hfb⟩:=chR_val hch (List.mem_of_getElem? hc');have hfb13:=s13 _ _ hfb;rw [fr_nat] at hfb13;have hgb:DGet H13 td (.ref cc) (some (.ref fb)):=by
      rw [<- hvb];exact DGet.t (k:=keyC c') (s13 _ _ htd12) hcc
     refine ⟨_,rfl,_,rfl,td,_,rfl,hgb,fb,_,0,_,rfl,rfl,SqT.of hfb13,rfl,_,rfl,_,_,rfl,rfl,mulS (small _).1 (small _).2,_,rfl,_,rfl,_,rfl,td,_,rfl,hgb,fb,_,1,_,rfl,rfl,SqT.of hfb13,rfl,_,_,rfl,rfl,mulS (small _).1 (small _).2,_,_,rfl,rfl,_,rfl,iteN (decide_eq_false ?_) ⟨_,_,rfl,s13⟩⟩;have h:=fr_le k0 (hFC.2.2 c' (List.mem_of_getElem? hc'));have h2:(((thX rs d (laysF rs n) c') / Nat.gcd (thX rs d (laysF rs n) c') (laysF rs n).length:Nat):Int) * (((laysF rs n).length / Nat.gcd (thX rs d (laysF rs n) c) (laysF rs n).length:Nat):Int)<=(((thX rs d (laysF rs n) c) / Nat.gcd (thX rs d (laysF rs n) c) (laysF rs n).length:Nat):Int) * (((laysF rs n).length / Nat.gcd (thX rs d (laysF rs n) c') (laysF rs n).length:Nat):Int):=by
      rw [<- Int.natCast_mul,<- Int.natCast_mul];exact Int.ofNat_le.mpr h
     exact Int.not_lt.mpr h2
    ·rintro σ H13 ⟨v11,v12,rfl,s13⟩;refine ⟨_,rfl,ca,rfl,⟨_,SqL.of ((s812.trans s13) _ _ hca8)⟩,fun z hz=>?_⟩;refine comp_list (K:=K) (a:=ca) (xs:=us) (fun i σ' H'=>∃ (u0:Option V),σ'=[u0,some (.ref t),some (.ref td)]/\Same H13 H'/\H' z=some (.lst []))
      ⟨_,rfl,same_new hz,upd_same⟩ (fun i σ' H' _ ⟨_,_,s14,_⟩=>SqL.of (s14 _ _ ((s812.trans s13) _ _ hca8))) ?_ ?_
     ·rintro i x σ' H14 hx ⟨u0,rfl,s14,hz14⟩;have s1214:=s13.trans s14;obtain ⟨c',hc',cc,rfl,hcc⟩:=Cel.get (hC8.mono (s812.trans s1214)) hx;obtain ⟨fb,hvb,hfb⟩:=chR_val hch (List.mem_of_getElem? hc');have hgb:DGet H14 td (.ref cc) (some (.ref fb)):=by
       rw [<- hvb];exact DGet.t (k:=keyC c') (s1214 _ _ htd12) hcc
      refine ⟨_,rfl,_,rfl,t,_,0,_,rfl,rfl,SqT.of (s1214 _ _ ht12),rfl,cc,a1,toI c',toI c,rfl,rfl,hcc,s1214 _ _ ha12,_,rfl,?_⟩;by_cases hlt:lt2 (toI c') (toI c)=true
      ·refine iteP hlt ⟨_,rfl,_,rfl,td,_,rfl,hgb,_,rfl,t,_,1,_,rfl,rfl,SqT.of (s1214 _ _ ht12),rfl,pD (frD (thX rs d (laysF rs n) c') (laysF rs n).length),pD (frD (thX rs d (laysF rs n) c) (laysF rs n).length),(fr_pr (s1214 _ _ hfb)).rdv,(fr_pr (s1214 _ _ hfp12)).rdv,pD_cmp _ _,_,rfl,iteN ?_ ⟨_,rfl,s14,hz14⟩⟩;show PyData.eqv _ _=false;rw [frD_eqv];refine decide_eq_false fun e=>?_;have e1:(((thX rs d (laysF rs n) c') / Nat.gcd (thX rs d (laysF rs n) c') (laysF rs n).length:Nat):Int)=(((thX rs d (laysF rs n) c) / Nat.gcd (thX rs d (laysF rs n) c) (laysF rs n).length:Nat):Int):=congrArg (·.1) e;have e2:(((laysF rs n).length / Nat.gcd (thX rs d (laysF rs n) c') (laysF rs n).length:Nat):Int)=(((laysF rs n).length / Nat.gcd (thX rs d (laysF rs n) c) (laysF rs n).length:Nat):Int):=congrArg (·.2) e;have eM:=fr_inj k0 (Int.ofNat_inj.mp e1) (Int.ofNat_inj.mp e2);have hij:i < j:=by
        refine Nat.lt_of_not_le fun hji=>?_;have hl:=lt2_lex.mp hlt;rcases Nat.eq_or_lt_of_le hji with e | e
        ·subst e;rw [hc'] at hj;have:=Option.some.inj hj;subst this;unfold Cells.lex at hl;omega
        ·have hp:=Cells.allCs_lex pShut 0 (codes rs);obtain ⟨l1,g1⟩:=List.getElem?_eq_some_iff.mp hj;obtain ⟨l2,g2⟩:=List.getElem?_eq_some_iff.mp hc';have:=(List.pairwise_iff_getElem.mp hp) j i l1 l2 e;have h3:Cells.lex c c':=by
          rw [<- g1,<- g2];exact this
         unfold Cells.lex at hl h3;omega
       exact hFC.2.1 i hij c' hc' eM
      ·exact iteN (Bool.eq_false_iff.mpr hlt) (iteF ⟨_,rfl,s14,hz14⟩)
     ·rintro σ' H14 ⟨u0,rfl,s14,hz14⟩;refine ⟨sz_0,fun e he=>?_⟩;have z15:=same_new (o:=.lst []) he;refine ⟨.list [],.list [],.lst (SqL.of (z15 _ _ hz14)) .nil,.lst (SqL.of upd_same) .nil,⟨rfl,rfl,by show 1<=64; decide⟩,_,rfl,iteN rfl ?_⟩;have s1215:=s13.trans (s14.trans z15);generalize upd H14 e (.lst [])=H15 at *
      have s815:=s812.trans s1215;have s1015:=s11.trans (s12.trans s1215);have key:v=.non\/∃ t4 a4 dD:Addr,v=.ref t4/\H15 t4=some (.tup [.ref a4,.ref dD])/\H15 a4=some (.tup [.int (c.1:Nat),.int (c.2:Nat)]):=by
       have hp15:=PlanAt.mono (fun z h=>h) s1015 hpl10;clear hpl hpl10;cases d with
       | zero=>exact .inl hp15.1
       | succ d' =>
        rcases hp15 with h | ⟨_,t4,a4,dD,j4,c4,ms,F,sub,e1,e2,e3,_,hF4,_⟩
        ·exact .inl h.2.1
        ·obtain ⟨_,ec⟩:=hFC.same hF4;subst ec;exact .inr ⟨t4,a4,dD,e1,e2,e3⟩
      rcases key with hv | ⟨t4,a4,dD,hv,ht4,ha4⟩
      case' inl=>refine ⟨_,rfl,rfl,_,rfl,iteN (by rw [hv]; rfl) (iteF ?_)⟩
      case' inr=>refine ⟨_,rfl,rfl,_,rfl,iteP (by rw [hv]; rfl) ⟨_,rfl,t4,_,0,_,hv,rfl,SqT.of ht4,rfl,_,rfl,t,_,0,_,rfl,rfl,SqT.of (s1215 _ _ ht12),rfl,cData c,cData c,CelR.rdv ⟨a4,rfl,ha4⟩,CelR.rdv ⟨a1,rfl,s1215 _ _ ha12⟩,cData_cmp c c,_,rfl,iteN (cData_ne c) ?_⟩⟩
      all_goals
       refine ⟨_,rfl,by decide,by decide,?_⟩
       refine for_range (lo:=0) (n:=3) (fun i σ H'=>∃ (v11 v12:Option V),σ=[some (.ref a),some (.ref p),some (.int ((d:Nat):Int)),some (.ref sa),some (.ref ca),some v,some (.int ((thr rs d (laysF rs n) (shutC rs):Nat):Int)),some (.ref t),some (.int (((thX rs d (laysF rs n) c) / Nat.gcd (thX rs d (laysF rs n) c) (laysF rs n).length:Nat):Int)),some (.int (((laysF rs n).length / Nat.gcd (thX rs d (laysF rs n) c) (laysF rs n).length:Nat):Int)),some (.ref td),v11,v12]/\Same H15 H') ⟨_,_,rfl,Same.refl _⟩ ?_ ?_
       ·rintro i σ H16 hi ⟨v11',v12',rfl,s16⟩;have s816:=s815.trans s16;refine ⟨_,rfl,_,rfl,_,rfl,_,rfl,_,rfl,a,ca,sa,ns,us,ws,shutC rs,QQ,_,d,_,rfl,(s08.trans s816).seq hS,s816 _ _ hca8,hC8.mono s816,few,s816 _ _ hsa8,lists_mono s816 hLQ,q64,by omega,fun H17 s17=>?_⟩;have hle:=surv_le ns few (min d (shutC rs).length) 0 (0 + (i:Int)) (shutC rs) QQ (shut_nd rs) fun q hq=>laysQ_sub (hQm q hq);have hdeep:thr rs (min d (shutC rs).length) (QQ.map (List.map toI)) (shutC rs)=thr rs d (laysF rs n) (shutC rs):=by
         rw [thr_perm rs _ _ (eQ ▸ hpm)];rcases Nat.le_total d (shutC rs).length with h | h
         ·rw [Nat.min_eq_left h]
         ·rw [Nat.min_eq_right h];exact (thr_deep rs (shutC rs).length d (shutC rs) _ (shut_nd rs) rfl h).symm
        rw [hdeep] at hle;refine ⟨_,rfl,_,_,rfl,rfl,_,rfl,iteN (decide_eq_false ?_) ⟨_,_,rfl,s16.trans s17⟩⟩;exact Int.not_lt.mpr (Int.ofNat_le.mpr hle)
       ·rintro σ H16 ⟨v11',v12',rfl,s16⟩;exact ⟨_,rfl,v,_,n,d,rs,as,rfl,PlanAt.mono (fun z h=>h) (s1015.trans s16) hpl10,few,d3,q⟩
theorem all_mk {l:PySem.W.OpenLaw}{w:World}{K:PySem.W.Frag}{h:Heap}{mg:Str->Option Value}{fa:Addr}{t_CLOSED_SIGN:Tok}{t_MOST_CLOSED_chances:Tok}{t_MOST_CLOSED_layings:Tok}{t_MOST_DEPTH:Tok}{t_NO_CELL_SIGN:Tok}(X:K.In h)(G:h.Ns mainGlobals mg)(hfa:mg "law"=some (.ref fa))
  (h_closed:HasDef K "closed" s_closed)
  (h_open_cells:HasDef K "open_cells" s_open_cells)
  (h_around:HasDef K "around" s_around)
  (h_number_at:HasDef K "number_at" s_number_at)
  (h_opened:HasDef K "opened" s_opened)
  (h_cells_of:HasDef K "cells_of" s_cells_of)
  (h_sign_at:HasDef K "sign_at" s_sign_at)
  (h_fraction:HasDef K "fraction" s_fraction)
  (h_greatest_divisor:HasDef K "greatest_divisor" s_greatest_divisor)
  (h_layings:HasDef K "layings" s_layings)
  (h_numbers_told:HasDef K "numbers_told" s_numbers_told)
  (h_wrong_number:HasDef K "wrong_number" s_wrong_number)
  (h_picks:HasDef K "picks" s_picks)
  (h_chances:HasDef K "chances" s_chances)
  (h_best:HasDef K "best" s_best)
  (h_plan:HasDef K "plan" s_plan)
  (h_known_layings:HasDef K "known_layings" s_known_layings)
  (h_through:HasDef K "through" s_through)
  (h_through_by:HasDef K "through_by" s_through_by)
  (h_told_apart:HasDef K "told_apart" s_told_apart)
  (h_all_full:HasDef K "all_full" s_all_full)
  (h_law_cell_at:HasDef K "_law_cell_at" s_law_cell_at)
  (h_law_mixed:HasDef K "_law_mixed" s_law_mixed)
  (h_law_mark:HasDef K "_law_mark" s_law_mark)
  (h_law_drawn:HasDef K "_law_drawn" s_law_drawn)
  (h_law_cells:HasDef K "_law_cells" s_law_cells)
  (h_law_near:HasDef K "_law_near" s_law_near)
  (h_law_board:HasDef K "_law_board" s_law_board)
  (h_law_bent:HasDef K "_law_bent" s_law_bent)
  (h_law_all:HasDef K "_law_all" s_law_all)
  (h_law_told_at:HasDef K "_law_told_at" s_law_told_at)
  (h_law_goes:HasDef K "_law_goes" s_law_goes)
  (h_law_stops_rightly:HasDef K "_law_stops_rightly" s_law_stops_rightly)
  (h_law_walked:HasDef K "_law_walked" s_law_walked)
  (h_law_rival:HasDef K "_law_rival" s_law_rival)
  (h_law_dicts:HasDef K "_law_dicts" s_law_dicts)
  (h_law_own:HasDef K "_law_own" s_law_own)
  (h_law:HasDef K "law" s_law)
  (z_abs:PySem.W.nsIn K mainGlobals "abs"=some none)
  (z_all:PySem.W.nsIn K mainGlobals "all"=some none)
  (z_dict:PySem.W.nsIn K mainGlobals "dict"=some none)
  (z_enumerate:PySem.W.nsIn K mainGlobals "enumerate"=some none)
  (z_int:PySem.W.nsIn K mainGlobals "int"=some none)
  (z_isinstance:PySem.W.nsIn K mainGlobals "isinstance"=some none)
  (z_len:PySem.W.nsIn K mainGlobals "len"=some none)
  (z_list:PySem.W.nsIn K mainGlobals "list"=some none)
  (z_max:PySem.W.nsIn K mainGlobals "max"=some none)
  (z_min:PySem.W.nsIn K mainGlobals "min"=some none)
  (z_range:PySem.W.nsIn K mainGlobals "range"=some none)
  (z_sorted:PySem.W.nsIn K mainGlobals "sorted"=some none)
  (z_str:PySem.W.nsIn K mainGlobals "str"=some none)
  (z_sum:PySem.W.nsIn K mainGlobals "sum"=some none)
  (z_tuple:PySem.W.nsIn K mainGlobals "tuple"=some none)
  (g_CLOSED_SIGN:PySem.W.nsIn K mainGlobals "CLOSED_SIGN"=some (some (.str "?" t_CLOSED_SIGN)))
  (g_MOST_CLOSED_chances:PySem.W.nsIn K mainGlobals "MOST_CLOSED_chances"=some (some (.int 8 t_MOST_CLOSED_chances)))
  (g_MOST_CLOSED_layings:PySem.W.nsIn K mainGlobals "MOST_CLOSED_layings"=some (some (.int 12 t_MOST_CLOSED_layings)))
  (g_MOST_DEPTH:PySem.W.nsIn K mainGlobals "MOST_DEPTH"=some (some (.int 3 t_MOST_DEPTH)))
  (g_NO_CELL_SIGN:PySem.W.nsIn K mainGlobals "NO_CELL_SIGN"=some (some (.str "#" t_NO_CELL_SIGN))) :
  ∃ fd:FuncData,(∀ (s:Shared) (v:Value),BindsTo s fd ⟨[v],[]⟩ [("_law_script",v)])/\∀ base:Heap,K.In base->base.Ns mainGlobals mg->FnOk l.prog w K mg base CX0 20 fa fd ["_law_script"] (spLaw K):=by
 obtain ⟨f,oc,od,an,sl,kV,dc,pm,cd,ct,a,l0,c,k⟩:=h_law;have e:=hfa.symm.trans (PySem.W.mg_of X G a);cases e;have T:Txt mg:=⟨PySem.W.mg_none_of X G z_abs,PySem.W.mg_none_of X G z_all,PySem.W.mg_none_of X G z_dict,PySem.W.mg_none_of X G z_enumerate,PySem.W.mg_none_of X G z_int,PySem.W.mg_none_of X G z_isinstance,PySem.W.mg_none_of X G z_len,PySem.W.mg_none_of X G z_list,PySem.W.mg_none_of X G z_max,PySem.W.mg_none_of X G z_min,PySem.W.mg_none_of X G z_range,PySem.W.mg_none_of X G z_sorted,PySem.W.mg_none_of X G z_str,PySem.W.mg_none_of X G z_sum,PySem.W.mg_none_of X G z_tuple,⟨_,PySem.W.mg_of X G g_CLOSED_SIGN⟩,⟨_,PySem.W.mg_of X G g_MOST_CLOSED_chances⟩,⟨_,PySem.W.mg_of X G g_MOST_CLOSED_layings⟩,⟨_,PySem.W.mg_of X G g_MOST_DEPTH⟩,⟨_,PySem.W.mg_of X G g_NO_CELL_SIGN⟩⟩;have Z:Prog K mg:=⟨h_closed.at X G (fun _ _ _ _ _ _=>us1 fun _=>rfl),h_open_cells.at X G (fun _ _ _ _ _ _=>us1 fun _=>rfl),h_around.at X G (fun _ _ _ _ _ _=>us2 fun _ _=>rfl),h_number_at.at X G (fun _ _ _ _ _ _=>us2 fun _ _=>rfl),h_opened.at X G (fun _ _ _ _ _ _=>us2 fun _ _=>rfl),h_cells_of.at X G (fun _ _ _ _ _ _=>us1 fun _=>rfl),h_sign_at.at X G (fun _ _ _ _ _ _=>us2 fun _ _=>rfl),h_fraction.at X G (fun _ _ _ _ _ _=>us2 fun _ _=>rfl),h_greatest_divisor.at X G (fun _ _ _ _ _ _=>us2 fun _ _=>rfl),h_layings.at X G (fun _ _ _ _ _ _=>us1 fun _=>rfl),h_numbers_told.at X G (fun _ _ _ _ _ _=>us1 fun _=>rfl),h_wrong_number.at X G (fun _ _ _ _ _ _=>us2 fun _ _=>rfl),h_picks.at X G (fun _ _ _ _ _ _=>us2 fun _ _=>rfl),h_chances.at X G (fun _ _ _ _ _ _=>us2 fun _ _=>rfl),h_best.at X G (fun _ _ _ _ _ _=>us2 fun _ _=>rfl),h_plan.at X G (fun _ _ _ _ _ _=>us2 fun _ _=>rfl),h_known_layings.at X G (fun _ _ _ _ _ _=>us2 fun _ _=>rfl),h_through.at X G (fun _ _ _ _ _ _=>us4 fun _ _ _ _=>rfl),h_through_by.at X G (fun _ _ _ _ _ _=>us5 fun _ _ _ _ _=>rfl),h_told_apart.at X G (fun _ _ _ _ _ _=>us3 fun _ _ _=>rfl),h_all_full.at X G (fun _ _ _ _ _ _=>us2 fun _ _=>rfl),h_law_cell_at.at X G (fun _ _ _ _ _ _=>us2 fun _ _=>rfl),h_law_mixed.at X G (fun _ _ _ _ _ _=>us2 fun _ _=>rfl),h_law_mark.at X G (fun _ _ _ _ _ _=>us4 fun _ _ _ _=>rfl),h_law_drawn.at X G (fun _ _ _ _ _ _=>us3 fun _ _ _=>rfl),h_law_cells.at X G (fun _ _ _ _ _ _=>us2 fun _ _=>rfl),h_law_near.at X G (fun _ _ _ _ _ _=>us2 fun _ _=>rfl),h_law_board.at X G (fun _ _ _ _ _ _=>us1 fun _=>rfl),h_law_bent.at X G (fun _ _ _ _ _ _=>us2 fun _ _=>rfl),h_law_all.at X G (fun _ _ _ _ _ _=>us1 fun _=>rfl),h_law_told_at.at X G (fun _ _ _ _ _ _=>us2 fun _ _=>rfl),h_law_goes.at X G (fun _ _ _ _ _ _=>us3 fun _ _ _=>rfl),h_law_stops_rightly.at X G (fun _ _ _ _ _ _=>us5 fun _ _ _ _ _=>rfl),h_law_walked.at X G (fun _ _ _ _ _ _=>us4 fun _ _ _ _=>rfl),h_law_rival.at X G (fun _ _ _ _ _ _=>us5 fun _ _ _ _ _=>rfl),h_law_dicts.at X G (fun _ _ _ _ _ _=>us1 fun _=>rfl),h_law_own.at X G (fun _ _ _ _ _ _=>us1 fun _=>rfl)⟩;have F:=fun_mk (st:=s_law) l0 c k;have D:DefAt K mg "law" s_law ["_law_script"] _ _:=⟨F,PySem.W.mg_of X G a,F.binds (ps:=["_law_script"]) (fun _ _ _ _ _ _=>us1 fun _=>rfl)⟩;exact ⟨_,fun s v=>.of_eq rfl,fun base _ _=>ok_law T Z D⟩
theorem walk {l:PySem.W.OpenLaw}{q:Program}{loose:List Str}{XP:(Str->Option Value)->Heap->Prop}{YP:World->Heap->Prop}{d:DefRec}{K:Params->PySem.W.Frag}(hn:l.most=some 63)(hdf:d.params.defaults=[])
  (hY:∀ (w:World) (h:Heap),YP w h->(K w.params).In h)
  (F:∀ (w:World) (mg:Str->Option Value) (fa:Addr) (h:Heap),(K w.params).In h->h.Ns mainGlobals mg->mg d.name=some (.ref fa) ->
   ∃ fd:FuncData,(∀ (s:Shared) (u:Value),BindsTo s fd ⟨[u],[]⟩ [("_law_script",u)])/\∀ base:Heap,(K w.params).In base->base.Ns mainGlobals mg->FnOk l.prog w (K w.params) mg base CX0 20 fa fd ["_law_script"] (spLaw (K w.params))) :
  PySem.W.WalkO q loose XP YP l.row.toRowW d [] (fun f vs=>PySem.call f vs) :=
 L2.walk_of (n:=63) (k:=20) (x:="_law_script") (CX:=fun _=>CX0) (sp:=fun w=>spLaw (K w.params)) hn (by decide) hdf ⟨rfl,by decide,by decide⟩ hY F (fun _ _ a ns hl _ hS=>⟨a,ns,rfl,hS,hl,fun _=>rfl⟩) fun _ _ _ _ _ z=>z
end K73
open PySem PySem.W PyProof.Rows
set_option maxRecDepth 100000 in
set_option maxHeartbeats 0 in
theorem PySem.Challenge.cw_stonelay_k73_whole_plans_walked_holds : PySem.Challenge.rw_stonelay_k73_whole_plans_walked.Holds := by
 refine K73E.early fun {q XP YP d K} hdf hY hn F=>?_;refine K73.walk (l:=PySem.Challenge.rw_stonelay_k73_whole_plans_walked) rfl hdf hY fun w mg fa h KX G hmg=>?_;rw [hn] at hmg;obtain ⟨h_closed,h_open_cells,h_around,h_number_at,h_opened,h_cells_of,h_sign_at,h_fraction,h_greatest_divisor,h_layings,h_numbers_told,h_wrong_number,h_picks,h_chances,h_best,h_plan,h_known_layings,h_through,h_through_by,h_told_apart,h_all_full,h_law_cell_at,h_law_mixed,h_law_mark,h_law_drawn,h_law_cells,h_law_near,h_law_board,h_law_bent,h_law_all,h_law_told_at,h_law_goes,h_law_stops_rightly,h_law_walked,h_law_rival,h_law_dicts,h_law_own,h_law,z_abs,z_all,z_dict,z_enumerate,z_int,z_isinstance,z_len,z_list,z_max,z_min,z_range,z_sorted,z_str,z_sum,z_tuple,⟨_,g_CLOSED_SIGN⟩,⟨_,g_MOST_CLOSED_chances⟩,⟨_,g_MOST_CLOSED_layings⟩,⟨_,g_MOST_DEPTH⟩,⟨_,g_NO_CELL_SIGN⟩⟩:=F w;exact K73.all_mk KX G hmg h_closed h_open_cells h_around h_number_at h_opened h_cells_of h_sign_at h_fraction h_greatest_divisor h_layings h_numbers_told h_wrong_number h_picks h_chances h_best h_plan h_known_layings h_through h_through_by h_told_apart h_all_full h_law_cell_at h_law_mixed h_law_mark h_law_drawn h_law_cells h_law_near h_law_board h_law_bent h_law_all h_law_told_at h_law_goes h_law_stops_rightly h_law_walked h_law_rival h_law_dicts h_law_own h_law z_abs z_all z_dict z_enumerate z_int z_isinstance z_len z_list z_max z_min z_range z_sorted z_str z_sum z_tuple g_CLOSED_SIGN g_MOST_CLOSED_chances g_MOST_CLOSED_layings g_MOST_DEPTH g_NO_CELL_SIGN