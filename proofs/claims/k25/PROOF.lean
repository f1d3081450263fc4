import PyProof.Rows.All
import Wide.All
import OpenK.AllK
import Wide.FinOn
import Lean
import PyProof.EqAt
import PyProof.EqKinds
import PyProof.TupleCall
import PySem.Challenge.RW_stonelay_k25_counts_at_all_cells
set_option Elab.async false
set_option linter.all false
set_option maxRecDepth 100000
namespace K25E
open PySem PySem.W
noncomputable def sel:List Nat->Nat->List Stmt->List Stmt
 | _,_,[]=>[]
 | ns,i,x :: xs=>match ns.contains i with
  | true=>sel ns (i + 1) xs
  | false=>x :: sel ns (i + 1) xs
theorem head_once {r:OpenRow}{q:Program}{H:Hook}{d:DefRec}{kwd:List (PySem.Str × Expr)}{N:Nat}(left:LeftO r.prog q [] (fun s=>xlAt q [] s && recOk (RowW.records r.toRowW) s) (Hook.obs H) (Hook.val H) N)
  (hdef:defOf q r.name=some (d,kwd)) (hp:r.prog.theDef r.name=some (d.params,d.body,d.scope)) (hk:kwWritten? d.params.kwonlyargs d.params.kw_defaults=some kwd) (hwr:(!r.writes || r.records.isEmpty)=true)
  (k1:r.wellSaid=true) (ok:(chainsOk q && opensWell r.prog && (frees r.toRowW && r.within.isEmpty))=true) (hb:r.prog.bare) (hw:r.toRowW.promised)
  (call:WalkO q [] (XL q []) (Hook.says H) r.toRowW d kwd fun f vs=>PySem.call f vs):r.Holds :=
 holds_open (q:=q) (loose:=[]) (Xt:=fun s=>xlAt q [] s && recOk (RowW.records r.toRowW) s) (XP:=XL q []) (Yf:=Hook.obs H) (Ya:=Hook.val H) (YP:=Hook.says H) (N:=N) left (Hook.of H) (Hook.keeps H) (fun s e=>xl_of s (Bool.and_eq_true_iff.mp e).1) XL.keeps hdef hp hk
  (fun s e=>recFacts_of (Bool.and_eq_true_iff.mp e).2) hwr k1 ok hb hw call
noncomputable def top (i:Nat):Stmt:=PySem.Challenge.pw_stonelay_k25_counts_at_all_cells.main.body.getD i (.Pass ⟨0,0,0,0⟩)
noncomputable def defArgs (s:Stmt):Arguments:=match s with
 | .FunctionDef _ a _ _ _ _ _ _ _ _=>a
 | _=>{ posonlyargs:=[],args:=[],vararg:=none,kwonlyargs:=[],kw_defaults:=[],kwarg:=none,defaults:=[] }
noncomputable def defBody (s:Stmt):List Stmt:=match s with
 | .FunctionDef _ _ b _ _ _ _ _ _ _=>b
 | _=>[]
noncomputable def defScope (s:Stmt):Scope:=match s with
 | .FunctionDef _ _ _ _ _ _ sc _ _ _=>sc
 | _=>{ kind:=.function,names:=[],isGenerator:=false,isCoroutine:=false }
noncomputable def HD (K:PySem.W.Frag)(x:Str)(i:Nat):Prop:=∃ (f:Addr) (oc:Value) (od an:Option Addr) (sl:Array (Option Value)) (kV dc pm cd ct:Value),PySem.W.nsIn K mainGlobals x=some (some (.ref f))/\K.lookup f=some ⟨oc,od,.func (PySem.W.fnOf x x (defArgs (top i)) (defBody (top i)) (defScope (top i)) .none kV dc pm an cd ct),sl⟩/\PySem.W.codeIn K cd x=true/\PySem.W.keepIn K (.ref f)=true
structure Facts (K:PySem.W.Frag):Prop where
 h_open_cells:HD K "open_cells" 6
 h_around:HD K "around" 7
 h_number_at:HD K "number_at" 8
 h_cells_of:HD K "cells_of" 9
 h_sign_at:HD K "sign_at" 10
 h_numbers_of:HD K "numbers_of" 12
 h_part_layings:HD K "part_layings" 15
 h_needs_at:HD K "needs_at" 16
 h_may_fit:HD K "may_fit" 17
 h_part_counts:HD K "part_counts" 18
 h_part_counts_at:HD K "part_counts_at" 19
 h_counted:HD K "counted" 20
 h_counted_at:HD K "counted_at" 21
 h_law_cell_at:HD K "_law_cell_at" 23
 h_law_sign:HD K "_law_sign" 24
 h_law_signs:HD K "_law_signs" 25
 h_law_near:HD K "_law_near" 26
 h_law_rows:HD K "_law_rows" 27
 h_law_bent:HD K "_law_bent" 28
 h_law_board:HD K "_law_board" 29
 h_law_cells:HD K "_law_cells" 30
 h_law_around:HD K "_law_around" 31
 h_law_parts:HD K "_law_parts" 32
 h_law_case:HD K "_law_case" 33
 h_law_fits:HD K "_law_fits" 34
 h_law_right:HD K "_law_right" 35
 h_law_is_true:HD K "_law_is_true" 36
 h_law:HD K "law" 37
 z_any:PySem.W.nsIn K mainGlobals "any"=some none
 z_enumerate:PySem.W.nsIn K mainGlobals "enumerate"=some none
 z_int:PySem.W.nsIn K mainGlobals "int"=some none
 z_len:PySem.W.nsIn K mainGlobals "len"=some none
 z_list:PySem.W.nsIn K mainGlobals "list"=some none
 z_max:PySem.W.nsIn K mainGlobals "max"=some none
 z_min:PySem.W.nsIn K mainGlobals "min"=some none
 z_range:PySem.W.nsIn K mainGlobals "range"=some none
 z_sorted:PySem.W.nsIn K mainGlobals "sorted"=some none
 z_str:PySem.W.nsIn K mainGlobals "str"=some none
 z_zip:PySem.W.nsIn K mainGlobals "zip"=some none
 g_CLOSED_SIGN:∃ t,PySem.W.nsIn K mainGlobals "CLOSED_SIGN"=some (some (.str "?" t))
 g_MOST_OF_PART:∃ t,PySem.W.nsIn K mainGlobals "MOST_OF_PART"=some (some (.int 14 t))
 g_NO_CELL_SIGN:∃ t,PySem.W.nsIn K mainGlobals "NO_CELL_SIGN"=some (some (.str "#" t))
end K25E
noncomputable def K25E.view:PySem.Program:={ PySem.Challenge.rw_stonelay_k25_counts_at_all_cells.prog with main:={ PySem.Challenge.rw_stonelay_k25_counts_at_all_cells.prog.main with body:=K25E.sel [0,3,11,13,22] 0 PySem.Challenge.rw_stonelay_k25_counts_at_all_cells.prog.main.body } }
local macro_rules | `(tactic| o_head $H)=>`(tactic| (refine' K25E.head_once (q:=K25E.view) (H:=$H) (N:=2676) (fun _=>by kernel_rfl) (by rfl) (by rfl) (by rfl) (by rfl) (by first | assumption | decide +kernel) (by decide +kernel) ⟨rfl,rfl,rfl,rfl,rfl,by decide +kernel⟩ ?_ ?_))
open PySem PySem.W PyProof.Rows in
set_option maxRecDepth 100000 in
set_option maxHeartbeats 0 in
theorem K25E.look:PySem.Challenge.rw_stonelay_k25_counts_at_all_cells.wellSaid=true:=by kernel_rfl
open PySem PySem.W PyProof.Rows in
set_option maxRecDepth 100000 in
set_option maxHeartbeats 0 in
theorem K25E.early (h:∀ {q:Program} {XP:(Str->Option Value)->Heap->Prop} {YP:World->Heap->Prop} {d:DefRec} {K:Params->PySem.W.Frag},d.params.defaults=[]->(∀ (w:World) (h:Heap),YP w h->(K w.params).In h)->d.name="law"->(∀ w:World,K25E.Facts (K w.params))->PySem.W.WalkO q [] XP YP PySem.Challenge.rw_stonelay_k25_counts_at_all_cells.row.toRowW d [] (fun f vs=>PySem.call f vs)):PySem.Challenge.rw_stonelay_k25_counts_at_all_cells.Holds:=by
 w_on; refine holds_law K25E.look fun said=>?_
 k_head; w_witness2
 k_fill
 refine h rfl (fun w h Y=>PySem.W.kIn_of Y) rfl fun w=>?_
 constructor
 all_goals first | k_is | exact ⟨_,_,_,_,_,_,_,_,_,_,by k_is,by k_is,by k_is,by k_is⟩ | exact ⟨_,by k_is⟩
namespace L2
open PySem PySem.Spec PyProof.Rows
noncomputable abbrev Key:=Sum Int Str
noncomputable def keyIs:Key->Value->Bool
 | .inl k,v=>Value.isInt k v
 | .inr x,v=>Value.isStrOf x v
noncomputable def keyH (w:World):Key->Int
 | .inl k=>hashInt k
 | .inr x=>hashStr w x
theorem keyIs_shape:∀ {k:Key} {v:Value},keyIs k v=true->(∃ i t,k=Sum.inl i/\v=Value.int i t)\/(∃ x t,k=Sum.inr x/\v=Value.str x t)
 | .inl i,v,h=>by
  obtain ⟨t,e⟩:=Value.isInt_shape (k:=i) (v:=v) h
  exact .inl ⟨i,t,rfl,e⟩
 | .inr x,v,h=>by
  obtain ⟨t,e⟩:=Value.isStrOf_shape (x:=x) (v:=v) h
  exact .inr ⟨x,t,rfl,e⟩
theorem key_ll (a b:Int):decide ((Sum.inl a:Key)=Sum.inl b)=(a == b):=by
 by_cases e:a=b
 ·subst e; simp
 ·have h:¬ (Sum.inl a:Key)=Sum.inl b:=fun q=>e (Sum.inl.inj q)
  rw [decide_eq_false h]
  exact (beq_eq_false_iff_ne.mpr e).symm
theorem key_rr (a b:Str):decide ((Sum.inr a:Key)=Sum.inr b)=decide (a=b):=by
 by_cases e:a=b
 ·subst e; simp
 ·have h:¬ (Sum.inr a:Key)=Sum.inr b:=fun q=>e (Sum.inr.inj q)
  rw [decide_eq_false h,decide_eq_false e]
theorem key_lr (a:Int)(b:Str):decide ((Sum.inl a:Key)=Sum.inr b)=false:=decide_eq_false (fun q=>nomatch q)
theorem key_rl (a:Str)(b:Int):decide ((Sum.inr a:Key)=Sum.inl b)=false:=decide_eq_false (fun q=>nomatch q)
noncomputable def mixKind (prog:Program)(w:World):PySem.KeyKind prog w Key where
 is:=keyIs
 hash:=keyH w
 inj:=fun v a b ha hb=>by
  rcases keyIs_shape ha with ⟨i,t,rfl,rfl⟩ | ⟨x,t,rfl,rfl⟩
  ·rcases keyIs_shape hb with ⟨j,u,rfl,e⟩ | ⟨y,u,rfl,e⟩
   ·injection e with e1 _; rw [e1]
   ·exact nomatch e
  ·rcases keyIs_shape hb with ⟨j,u,rfl,e⟩ | ⟨y,u,rfl,e⟩
   ·exact nomatch e
   ·injection e with e1 _; rw [e1]
 byValue:=fun k v h=>by
  rcases keyIs_shape h with ⟨i,t,rfl,rfl⟩ | ⟨x,t,rfl,rfl⟩ <;> rfl
 pyHash:=fun hv h=>by
  rcases keyIs_shape hv with ⟨i,t,rfl,rfl⟩ | ⟨x,t,rfl,rfl⟩
  ·exact wpAny_pyHash_int h
  ·exact wpAny_pyHash_str h
 eqBool:=fun hu hv h=>by
  rcases keyIs_shape hu with ⟨i,t,rfl,rfl⟩ | ⟨x,t,rfl,rfl⟩
  ·rcases keyIs_shape hv with ⟨j,u,rfl,rfl⟩ | ⟨y,u,rfl,rfl⟩
   ·rw [key_ll] at h; exact wpAny_eqBool_int h
   ·rw [key_lr] at h; exact SeqAt.EqAt.int_str i t y u _ _ _ _ h
  ·rcases keyIs_shape hv with ⟨j,u,rfl,rfl⟩ | ⟨y,u,rfl,rfl⟩
   ·rw [key_rl] at h; exact SeqAt.EqAt.str_int x t j u _ _ _ _ h
   ·rw [key_rr] at h; exact wpAny_eqBool_str h
 «strs»:=fun k x t v h=>by
  rcases keyIs_shape h with ⟨i,u,rfl,e⟩ | ⟨y,u,rfl,e⟩
  ·exact nomatch e
  ·injection e with e1 _
   subst e1
   cases v <;> rfl
end L2
namespace L2
open PySem PySem.Spec PyProof.Rows
inductive V where
 | non | bl (b:Bool) | int (i:Int) | str (x:Str) | byt (b:Array UInt8) | flt (b:UInt64) | ref (a:Addr) | ty (n:String)
 deriving DecidableEq
noncomputable def RelV:V->Value->Prop
 | .non,u=>u=Value.none
 | .bl b,u=>u=Value.bool b
 | .int i,u=>∃ t,u=Value.int i t
 | .str x,u=>∃ t,u=Value.str x t
 | .byt b,u=>∃ t,u=Value.bytes b t
 | .flt b,u=>∃ t,u=Value.float b t
 | .ref a,u=>u=Value.ref a
 | .ty n,u=>u=Value.type n
noncomputable abbrev Vals:List V->List Value->Prop:=Paired RelV
theorem Vals.length {xs:List V}{us:List Value}(r:Vals xs us):xs.length=us.length:=Paired.length r
theorem Vals.get:∀ {xs:List V} {us:List Value} {i:Nat} {x:V},Vals xs us->xs[i]?=some x->∃ u,us[i]?=some u/\RelV x u
 | _,_,_,_,.nil,e=>by simp at e
 | _,_,0,_,.cons r _,e=>by simp at e; subst e; exact ⟨_,rfl,r⟩
 | _,_,i + 1,x,.cons _ t,e=>by
  obtain ⟨u,h1,h2⟩:=Vals.get (i:=i) (x:=x) t (by simpa using e)
  exact ⟨u,by simpa using h1,h2⟩
theorem Vals.set {x:V}{u:Value}(r:RelV x u):∀ {xs:List V} {us:List Value} (i:Nat),Vals xs us->Vals (xs.set i x) (us.set i u)
 | _,_,_,.nil=>.nil
 | _,_,0,.cons _ t=>.cons r t
 | _,_,i + 1,.cons q t=>.cons q (Vals.set r i t)
theorem Vals.append:∀ {xs ys:List V} {us ws:List Value},Vals xs us->Vals ys ws->Vals (xs++ys) (us++ws)
 | _,_,_,_,.nil,s=>s
 | _,_,_,_,.cons r t,s=>.cons r (Vals.append t s)
theorem Vals.take:∀ {xs:List V} {us:List Value} (n:Nat),Vals xs us->Vals (xs.take n) (us.take n)
 | _,_,0,_=>.nil
 | _,_,_ + 1,.nil=>.nil
 | _,_,n + 1,.cons r t=>.cons r (Vals.take n t)
theorem Vals.drop:∀ {xs:List V} {us:List Value} (n:Nat),Vals xs us->Vals (xs.drop n) (us.drop n)
 | _,_,0,r=>r
 | _,_,_ + 1,.nil=>.nil
 | _,_,n + 1,.cons _ t=>Vals.drop n t
noncomputable def RelO:Option V->Option Value->Prop
 | some v,some u=>RelV v u
 | none,none=>True
 | _,_=>False
noncomputable def KV {κ:Type}:List (κ × V)->List (κ × Value)->Prop:=Paired fun (p:κ × V) (q:κ × Value)=>p.1=q.1/\RelV p.2 q.2
noncomputable def kV:Key->V
 | .inl i=>.int i
 | .inr x=>.str x
inductive HO where
  | lst (xs:List V)
  | tup (xs:List V)
  | dK (kvs:List (Key × V)) | dT (kvs:List (List Key × V))
  | set (S:Int->Bool) (n:Nat)
  | ins (C dx:Addr) (fs:List (Str × V))
  | own (x:Addr)
  | xd (fs:List (Str × V))
  | met (f x:Addr)
  | rng (lo hi:Int)
  | frz (o:Obj) (u:HO)
  | tbl (ps:Array Value)
  | ext (φ:Heap->Prop)
noncomputable abbrev Hp:=Addr->Option HO
noncomputable def upd (H:Hp)(a:Addr)(o:HO):Hp:=fun b=>if b=a then some o else H b
theorem upd_same {H:Hp}{a:Addr}{o:HO}:upd H a o a=some o:=by unfold upd; rw [if_pos rfl]
theorem upd_ne {H:Hp}{a b:Addr}{o:HO}(h:b ≠ a):upd H a o b=H b:=by unfold upd; rw [if_neg h]
theorem ne_of {H:Hp}{a b:Addr}{o u:HO}(h:H a=some o)(h':H b=some u)(d:o ≠ u):a ≠ b:=by
 intro e; subst e; rw [h] at h'; exact d (Option.some.inj h')
theorem ne_of_none {H:Hp}{a b:Addr}{o:HO}(h:H a=some o)(h':H b=none):a ≠ b:=by
 intro e; subst e; rw [h] at h'; cases h'
section
variable (P:Program)(w:World)
noncomputable def ObjOk (H:Hp)(h:Heap)(a:Addr):HO->Prop
 | .lst xs=>xs.length<=sizeLine/\∃ (its:List Value) (n:Nat),Vals xs its/\h.get? a=some { cls:=.type "list",data:=.seq its.toArray n }
 | .tup xs=>xs.length<=sizeLine/\∃ its:List Value,Vals xs its/\IsTup h a its.toArray
 | .dK kvs=>kvs.length<=sizeLine/\(a == sysModules)=false/\∃ vs,KV kvs vs/\h.DictOf (mixKind P w) a vs
 | .dT kvs=>kvs.length<=sizeLine/\(a == sysModules)=false/\∃ xs:List (List Key × Addr × Value),
   Paired (fun (p:List Key × V) (q:List Key × Addr × Value)=>p.1=q.1/\H q.2.1=some (.tup (p.1.map kV))/\RelV p.2 q.2.2) kvs xs /\
   ∃ o es ep,h.get? a=some o/\o.ExactDict/\o.data=.dict es ep/\es.toList=xs.map (entryOfKey (tupleKind (mixKind P w)))/\(xs.map (·.1)).Nodup
 | .set S n=>h.SetOf (intKind P w) a S n
 | .ins C dx fs=>H dx=some (.own a)/\fs.length<=1000/\dx ≠ a/\h.get? a=some (PySem.W.instObj C dx) /\
   ∃ mA,h.Ns1 dx mA/\(∀ f,RelO (fs.lookup f) (mA f))/\PySem.Within mA (fs.map (·.1))
 | .own _=>∃ o,h.get? a=some o
 | .xd fs=>∃ mA,h.Ns1 a mA/\∀ f,RelO (fs.lookup f) (mA f)
 | .rng lo hi=>∃ t u v,h.get? a=some { cls:=.type "range",data:=.fields #[.int lo t,.int hi u,.int 1 v] }
 | .frz o u=>h.get? a=some o/\ObjOk H h a u
 | .tbl ps=>h.get? a=some { cls:=.none,data:=.fields ps }
 | .met f x=>h.get? a=some (PySem.W.methodObj (.ref f) (.ref x))
 | .ext φ=>φ h/\(∃ o,h.get? a=some o)/\∀ h1 h2:Heap,φ h1->(∀ o,h1.get? a=some o->h2.get? a=some o)->φ h2
noncomputable def HOk (H:Hp)(h:Heap):Prop:=∀ a o,H a=some o->ObjOk P w H h a o
end
section
variable {P:Program}{w:World}{H H':Hp}{h h':Heap}{a:Addr}{o:HO}
theorem ObjOk.lt (x:ObjOk P w H h a o):a < h.objs.size:=by
 cases o with
 | lst xs=>obtain ⟨_,_,_,_,e⟩:=x; exact Heap.lt_size e
 | tup xs=>obtain ⟨_,_,_,p⟩:=x; exact p.lt
 | dK kvs=>obtain ⟨_,_,_,_,o,_,_,e,_⟩:=x; exact Heap.lt_size e
 | dT kvs=>obtain ⟨_,_,_,_,o,_,_,e,_⟩:=x; exact Heap.lt_size e
 | set S n=>obtain ⟨o,_,_,_,e,_⟩:=x; exact Heap.lt_size e
 | ins C dx fs=>obtain ⟨_,_,_,e,_⟩:=x; exact Heap.lt_size e
 | own y=>obtain ⟨_,e⟩:=x; exact Heap.lt_size e
 | xd fs=>obtain ⟨_,⟨_,_,_,e,_⟩,_⟩:=x; exact Heap.lt_size e
 | rng lo hi=>obtain ⟨_,_,_,e⟩:=x; exact Heap.lt_size e
 | frz ob u=>obtain ⟨e,_⟩:=x; exact Heap.lt_size e
 | tbl ps=>exact Heap.lt_size (show h.get? a=some _ from x)
 | met f y=>exact Heap.lt_size (show h.get? a=some _ from x)
 | ext φ=>obtain ⟨_,⟨_,e⟩,_⟩:=x; exact Heap.lt_size e
theorem Paired.mapP {α β:Type}{F G:α->β->Prop}:∀ {l₁:List α} {l₂:List β},Paired F l₁ l₂->(∀ a b,F a b->G a b)->Paired G l₁ l₂
 | _,_,.nil,_=>.nil
 | _,_,.cons r t,f=>.cons (f _ _ r) (Paired.mapP t f)
theorem ObjOk.stay (x:ObjOk P w H h a o)(k:∀ b u,(b=a\/H b=some (.own a))->h.get? b=some u->h'.get? b=some u)
  (ho:∀ b,H b=some (.own a)->H' b=some (.own a)) (ht:∀ b xs,H b=some (.tup xs)->H' b=some (.tup xs)):ObjOk P w H' h' a o:=by
 induction o with
 | lst xs=>obtain ⟨z,its,n,r,e⟩:=x; exact ⟨z,its,n,r,k _ _ (.inl rfl) e⟩
 | tup xs=>obtain ⟨z,its,r,ob,e,c⟩:=x; exact ⟨z,its,r,ob,k _ _ (.inl rfl) e,c⟩
 | dK kvs=>obtain ⟨z,y,vs,r,ob,es,ep,e,c⟩:=x; exact ⟨z,y,vs,r,ob,es,ep,k _ _ (.inl rfl) e,c⟩
 | dT kvs =>
  obtain ⟨z,y,xs,r,ob,es,ep,e,c⟩:=x
  exact ⟨z,y,xs,Paired.mapP r fun p q z=>⟨z.1,ht _ _ z.2.1,z.2.2⟩,ob,es,ep,k _ _ (.inl rfl) e,c⟩
 | set S n=>obtain ⟨ob,es,ep,t,e,c⟩:=x; exact ⟨ob,es,ep,t,k _ _ (.inl rfl) e,c⟩
 | ins C dx fs =>
  obtain ⟨d,z,ne,e,mA,⟨od,es,ep,e2,c⟩,r⟩:=x
  exact ⟨ho _ d,z,ne,k _ _ (.inl rfl) e,mA,⟨od,es,ep,k _ _ (.inr d) e2,c⟩,r⟩
 | own y=>obtain ⟨ob,e⟩:=x; exact ⟨ob,k _ _ (.inl rfl) e⟩
 | xd fs=>obtain ⟨mA,⟨od,es,ep,e,c⟩,r⟩:=x; exact ⟨mA,⟨od,es,ep,k _ _ (.inl rfl) e,c⟩,r⟩
 | rng lo hi=>obtain ⟨t,u,v,e⟩:=x; exact ⟨t,u,v,k _ _ (.inl rfl) e⟩
 | frz ob u ih=>obtain ⟨e,q⟩:=x; exact ⟨k _ _ (.inl rfl) e,ih q⟩
 | tbl ps =>
  have e:h.get? a=some { cls:=.none,data:=.fields ps }:=x
  show h'.get? a=some { cls:=.none,data:=.fields ps }
  exact k a _ (.inl rfl) e
 | met f y =>
  have e:h.get? a=some (PySem.W.methodObj (.ref f) (.ref y)):=x
  show h'.get? a=some (PySem.W.methodObj (.ref f) (.ref y))
  exact k a _ (.inl rfl) e
 | ext φ=>obtain ⟨p,⟨o,e⟩,st⟩:=x; exact ⟨st _ _ p fun o q=>k _ _ (.inl rfl) q,⟨o,k _ _ (.inl rfl) e⟩,st⟩
theorem HOk.lt (x:HOk P w H h)(e:H a=some o):a < h.objs.size:=(x a o e).lt
theorem HOk.fresh (x:HOk P w H h)(e:h.objs.size<=a):H a=none:=by
 cases q:H a with
 | none=>rfl
 | some u=>exact absurd (Nat.lt_of_lt_of_le (x.lt q) e) (Nat.lt_irrefl _)
theorem HOk.kept (x:HOk P w H h)(k:∀ b u,h.get? b=some u->h'.get? b=some u):HOk P w H h':=fun a o e =>
 (x a o e).stay (fun b u _ q=>k b u q) (fun _ q=>q) fun _ _ q=>q
theorem HOk.laid (x:HOk P w H h)(k:∀ b u,h.get? b=some u->h'.get? b=some u)(hp:h.objs.size<=a)(new:ObjOk P w (upd H a o) h' a o):HOk P w (upd H a o) h':=fun b u e=>by
 have hn:=x.fresh hp
 by_cases hb:b=a
 ·subst hb; rw [upd_same] at e; cases e; exact new
 ·rw [upd_ne hb] at e
  exact (x b u e).stay (fun c v _ q=>k c v q) (fun c q=>by rw [upd_ne (ne_of_none q hn)]; exact q) fun c xs q=>by rw [upd_ne (ne_of_none q hn)]; exact q
end
noncomputable def Rd (H:Hp)(a:Addr)(u:HO):Prop:=H a=some u\/∃ o,H a=some (.frz o u)
theorem Rd.ok {P:Program}{w:World}{H:Hp}{h:Heap}{a:Addr}{u:HO}(r:Rd H a u)(x:HOk P w H h):ObjOk P w H h a u:=by
 rcases r with r | ⟨o,r⟩
 ·exact x a u r
 ·obtain ⟨_,q⟩:=x a _ r
  exact q
noncomputable def Mut:Option HO->Prop
 | some (.lst _)=>True
 | some (.dK _)=>True
 | some (.dT _)=>True
 | some (.set _ _)=>True
 | some (.ins _ _ _)=>True
 | some (.ext _)=>True
 | _=>False
section
variable {P:Program}{w:World}{H:Hp}{h h':Heap}{x e:Addr}{o':HO}
theorem HOk.write (ok:HOk P w H h)(mu:Mut (H x))(he:e=x\/H e=some (.own x))(k:∀ b u,b ≠ e->h.get? b=some u->h'.get? b=some u)(heo:∃ u,h'.get? e=some u)
  (new:ObjOk P w (upd H x o') h' x o'):HOk P w (upd H x o') h':=fun b u q=>by
 have nown:∀ c y,H c=some (.own y)->c ≠ x:=fun c y r z=>by subst z; rw [r] at mu; exact mu
 have ntup:∀ c xs,H c=some (.tup xs)->c ≠ x:=fun c xs r z=>by subst z; rw [r] at mu; exact mu
 by_cases hb:b=x
 ·subst hb; rw [upd_same] at q; cases q; exact new
 ·rw [upd_ne hb] at q
  by_cases hbe:b=e
  ·have q':H b=some (.own x):=by
    rcases he with z | z
    ·exact absurd (hbe.trans z) hb
    ·rw [hbe]; exact z
   rw [q] at q'; cases q'
   obtain ⟨v,hv⟩:=heo
   exact ⟨v,by rw [hbe]; exact hv⟩
  ·refine (ok b u q).stay (fun c v hc r=>k c v ?_ r) (fun c r=>by rw [upd_ne (nown c b r)]; exact r) fun c xs r=>by rw [upd_ne (ntup c xs r)]; exact r
   rcases hc with rfl | hc
   ·exact hbe
   ·rintro rfl
    rcases he with z | z
    ·exact nown c b hc z
    ·rw [hc] at z; cases z; exact hb rfl
end
structure Un (fs ex:List Addr)(H H':Hp)(h h':Heap):Prop where
 keep:∀ b o,h.get? b=some o->H b=none->b ∉ fs->b ∉ ex->h'.get? b=some o
 slot:∀ b o,h.get? b=some o->H b=none->b ∈ fs->b ∉ ex->∃ sl,h'.get? b=some { o with slots:=sl }
 free:∀ b o,h.get? b=some o->H b=none->b ∉ ex->H' b=none
 there:∀ b o,h.get? b=some o->b ∉ ex->∃ o',h'.get? b=some o'
 tups:∀ b xs,H b=some (.tup xs)->H' b=some (.tup xs)
 frzs:∀ b o u,H b=some (.frz o u)->H' b=some (.frz o u)
 tbls:∀ b ps,H b=some (.tbl ps)->∃ more,H' b=some (.tbl (ps++more))
section
variable {fs fs' ex ex':List Addr}{H H1 H2:Hp}{h h1 h2 h':Heap}{a x e:Addr}{o:HO}
theorem Un.any (u:Un fs ex H H1 h h1){b:Addr}{ob:Obj}(q:h.get? b=some ob)(n:H b=none)(hx:b ∉ ex):∃ sl,h1.get? b=some { ob with slots:=sl }:=by
 by_cases hb:b ∈ fs
 ·exact u.slot b ob q n hb hx
 ·exact ⟨ob.slots,u.keep b ob q n hb hx⟩
theorem Un.kept (k:∀ b u,h.get? b=some u->h'.get? b=some u):Un fs ex H H h h' :=
 ⟨fun b ob q _ _ _=>k b ob q,fun b ob q _ _ _=>⟨ob.slots,k b ob q⟩,fun _ _ _ n _=>n,fun b ob q _=>⟨ob,k b ob q⟩,fun _ _ q=>q,fun _ _ _ q=>q,fun _ ps q=>⟨#[],by rw [q]; simp⟩⟩
theorem Un.refl:Un fs ex H H h h:=Un.kept fun _ _ q=>q
theorem Un.laid (k:∀ b u,h.get? b=some u->h'.get? b=some u)(hp:h.objs.size<=a)(hn:H a=none):Un fs ex H (upd H a o) h h' where
 keep:=fun b u q _ _ _=>k b u q
 slot:=fun b u q _ _ _=>⟨u.slots,k b u q⟩
 free:=fun b u q n _=>by rw [upd_ne (Nat.ne_of_lt (Nat.lt_of_lt_of_le (Heap.lt_size q) hp))]; exact n
 there:=fun b u q _=>⟨u,k b u q⟩
 tups:=fun b xs q=>by rw [upd_ne (ne_of_none q hn)]; exact q
 frzs:=fun b u xs q=>by rw [upd_ne (ne_of_none q hn)]; exact q
 tbls:=fun b ps q=>⟨#[],by rw [upd_ne (ne_of_none q hn),q]; simp⟩
theorem Un.write (mu:Mut (H x))(he:e=x\/H e=some (.own x))(k:∀ b u,b ≠ e->h.get? b=some u->h'.get? b=some u)(heo:∃ u,h'.get? e=some u):Un fs ex H (upd H x o) h h':=by
 have hx:∀ b,H b=none->b ≠ x:=fun b n z=>by subst z; rw [n] at mu; exact mu
 have hb:∀ b,H b=none->b ≠ e:=fun b n z=>by
  subst z
  rcases he with r | r
  ·exact hx b n r
  ·rw [n] at r; cases r
 have hm:∀ b u,H b=some u->¬ Mut (some u)->b ≠ x:=fun b u q nm z=>by subst z; rw [q] at mu; exact nm mu
 refine ⟨fun b u q n _ _=>k b u (hb b n) q,fun b u q n _ _=>⟨u.slots,k b u (hb b n) q⟩,fun b u q n _=>by rw [upd_ne (hx b n)]; exact n,fun b u q _=>?_,
  fun b xs q=>by rw [upd_ne (hm b _ q fun z=>z)]; exact q,fun b u xs q=>by rw [upd_ne (hm b _ q fun z=>z)]; exact q,fun b ps q=>⟨#[],by rw [upd_ne (hm b _ q fun z=>z),q]; simp⟩⟩
 by_cases hbe:b=e
 ·subst hbe; exact heo
 ·exact ⟨u,k b u hbe q⟩
end
noncomputable def trk (h:Heap)(H:Hp):List Addr:=(List.range h.objs.size).filter fun a=>(H a).isSome
noncomputable def hidT (h:Heap)(H:Hp):Heap:=PySem.W.hideAll h (trk h H)
theorem hidT_size (h:Heap)(H:Hp):(hidT h H).objs.size=h.objs.size:=PySem.W.hideAll_size _ _
theorem hidT_get {h:Heap}{H:Hp}{b:Addr}{o:Obj}(e:h.get? b=some o)(n:H b=none):(hidT h H).get? b=some o :=
 PySem.W.hideAll_get _ e fun hm=>by
  have q:(H b).isSome=true:=(List.mem_filter.mp hm).2
  rw [n] at q; simp at q
theorem of_hidT {h:Heap}{H:Hp}{b:Addr}{o:Obj}(e:(hidT h H).get? b=some o):h.get? b=some o/\H b=none:=by
 have e':h.get? b=some o:=PySem.W.of_hideAll (trk h H) e
 refine ⟨e',?_⟩
 cases q:H b with
 | none=>rfl
 | some x =>
  have hm:b ∈ trk h H:=List.mem_filter.mpr ⟨List.mem_range.mpr (Heap.lt_size e'),by simp [q]⟩
  have z:(hidT h H).get? b=none:=PySem.W.hideAll_none (trk h H) hm
  rw [z] at e; cases e
end L2
namespace L2
open PySem PySem.Spec PyProof.Rows
structure Mod (K:PySem.W.Frag)(mg:Str->Option Value)(base:Heap):Prop where
 kin:K.In base
 glob:base.Ns mainGlobals mg
 blt:∃ mb,base.Ns builtinsNs mb/\∀ x:Str,x ≠ "__name__"->mb x=bootBuiltins x
 nolimit:base.NoLimit
structure Cx where
 prog:Program
 w:World
 K:PySem.W.Frag
 mg:Str->Option Value
 base:Heap
 A:Around
 N:List Str
 s₀:Shared
 H₀:Hp
 env:Env
 outer:List Env
 stack:List Env
 ex:List Addr
 fn:Str->Bool
 calm:Bool
 pn:List (Addr × Obj)
 xe:Value->Shared->Prop
noncomputable def frs (l:List Env):List Addr:=l.filterMap (·.frame)
noncomputable abbrev Cx.fs (X:Cx):List Addr:=frs X.outer
noncomputable def Vis (sc:Scope)(x:Str):Prop:=sc.names.lookup x=some .local\/sc.names.lookup x=some .cell\/sc.names.lookup x=some .free
noncomputable def Loc (sc:Scope)(x:Str):Prop:=sc.names.lookup x=some .local\/sc.names.lookup x=some .cell
noncomputable def Look (env:Env)(h:Heap)(m:Str->Option Value)(x:Str)(u:Value):Prop :=
 (env.kindOf x=some .local/\m x=some u)\/((env.kindOf x=some .cell\/env.kindOf x=some .free)/\∃ c,env.cells.lookup x=some c/\h.IsCell c (some u))
structure Cx.Ok (X:Cx):Prop where
 mod:Mod X.K X.mg X.base
 kind:X.env.scope.kind=.function
 glob:X.env.globals=mainGlobals
 blt:X.env.builtins=builtinsNs
 above:X.s₀.heap.objs.size<=X.env.locals
 inj:∀ x y c,X.env.cells.lookup x=some c->X.env.cells.lookup y=some c->x=y
 has:∀ x,(X.env.kindOf x=some .cell\/X.env.kindOf x=some .free)->∃ c,X.env.cells.lookup x=some c
 cab:∀ x c,X.fn x=true->X.env.cells.lookup x=some c->X.s₀.heap.objs.size<=c
 hd:X.calm=true->X.A.handled=none
 frames:X.A.frames=some X.stack
 stk:X.stack=X.outer\/(X.stack=X.env :: X.outer/\X.env.frame=some X.env.locals)
 exf:∀ b ∈ X.ex,b ≠ X.env.locals/\∀ x c,X.env.cells.lookup x=some c->c ≠ b
 bs:∀ b o,X.base.get? b=some o->X.s₀.heap.get? b=some o/\X.H₀ b=none
 bsz:X.base.objs.size<=X.s₀.heap.objs.size
 noex:∀ b o,X.base.get? b=some o->b ∉ X.ex
 exfs:∀ b ∈ X.ex,b ∉ X.fs
 funs:X.s₀.heap.FunFrames X.base X.outer
 frf:∀ b ∈ X.fs,X.H₀ b=none
structure Inv (X:Cx)(pins:List (Addr × Obj))(σ:List (Option V))(H:Hp)(s:Shared):Prop where
 ok:X.Ok
 os:s.os=X.s₀.os
 bare:AllBare s.gens
 base:Un X.fs X.ex X.H₀ H X.s₀.heap s.heap
 loc:∃ m,s.heap.Ns X.env.locals m/\∀ (i:Nat) (x:Str) (v:V),X.N[i]?=some x->σ[i]?=some (some v)->Vis X.env.scope x->∃ u,RelV v u/\Look X.env s.heap m x u
 cell:∀ x c,X.env.cells.lookup x=some c->∃ v,s.heap.IsCell c v
 free:H X.env.locals=none
 freeC:∀ x c,X.env.cells.lookup x=some c->H c=none
 pin:∀ p ∈ X.pn++pins,s.heap.get? p.1=some p.2/\H p.1=none/\p.1 ≠ X.env.locals/\p.1 ∉ X.fs/\∀ v,p.2.data ≠ .cell v
 hok:HOk X.prog X.w H s.heap
 len:σ.length=X.N.length
section
variable {X:Cx}{pins:List (Addr × Obj)}{σ:List (Option V)}{H H':Hp}{s:Shared}{h':Heap}
theorem Cx.Ok.nofr (ok:X.Ok){b:Addr}{o:Obj}(e:X.base.get? b=some o):b ∉ X.fs:=fun hb=>by
 have:=(ok.funs.mem hb).1
 rw [e] at this; cases this
theorem Inv.bs (I:Inv X pins σ H s):∀ b o,X.base.get? b=some o->s.heap.get? b=some o/\H b=none:=fun b o e =>
 ⟨I.base.keep b o (I.ok.bs b o e).1 (I.ok.bs b o e).2 (I.ok.nofr e) (I.ok.noex b o e),I.base.free b o (I.ok.bs b o e).1 (I.ok.bs b o e).2 (I.ok.noex b o e)⟩
theorem Inv.bk (I:Inv X pins σ H s):∀ b o,X.base.get? b=some o->s.heap.get? b=some o:=fun b o e=>(I.bs b o e).1
theorem Inv.mod (I:Inv X pins σ H s):Mod X.K X.mg X.base:=I.ok.mod
theorem Inv.kIn (I:Inv X pins σ H s):X.K.In s.heap:=I.ok.mod.kin.keeps I.bk
theorem Inv.lt (I:Inv X pins σ H s):X.env.locals < s.heap.objs.size:=let ⟨_,hn,_⟩:=I.loc; hn.lt
theorem Inv.sz (I:Inv X pins σ H s):X.s₀.heap.objs.size<=s.heap.objs.size:=Nat.le_trans I.ok.above (Nat.le_of_lt I.lt)
theorem Inv.nofs (I:Inv X pins σ H s){a:Addr}(h:s.heap.objs.size<=a):a ∉ X.fs:=fun hb=>by
 obtain ⟨_,o,ho,_⟩:=I.ok.funs.mem hb
 exact absurd (Nat.lt_of_lt_of_le (Heap.lt_size ho) (Nat.le_trans I.sz h)) (Nat.lt_irrefl _)
theorem Inv.cne (I:Inv X pins σ H s):∀ x c,X.env.cells.lookup x=some c->c ≠ X.env.locals:=fun x c e z=>by
 obtain ⟨v,o,ho,hd⟩:=I.cell x c e
 obtain ⟨m,⟨o',es,ep,ho',hd',_⟩,_⟩:=I.loc
 rw [z,ho'] at ho; cases ho; rw [hd'] at hd; cases hd
theorem Inv.funs (I:Inv X pins σ H s):s.heap.FunFrames X.base X.outer:=by
 have all:∀ (l:List Env),(∀ b ∈ frs l,b ∈ X.fs)->X.s₀.heap.FunFrames X.base l->s.heap.FunFrames X.base l:=by
  intro l
  induction l with
  | nil=>intro _ _; trivial
  | cons env r ih =>
   intro hs hl
   obtain ⟨hk,⟨L,o,hf,hn,ho,hd⟩,hr⟩:=hl
   have hL:L ∈ X.fs:=hs L (by unfold frs; rw [List.filterMap_cons,hf]; exact List.mem_cons_self)
   obtain ⟨sl,e⟩:=I.base.slot L o ho (I.ok.frf L hL) hL fun z=>I.ok.exfs L z hL
   exact ⟨hk,⟨L,_,hf,hn,e,hd⟩,ih (fun b hb=>hs b (by unfold frs; rw [List.filterMap_cons,hf]; exact List.mem_cons_of_mem _ hb)) hr⟩
 exact all X.outer (fun _ hb=>hb) I.ok.funs
theorem Inv.stack (I:Inv X pins σ H s):s.heap.FunFrames X.base X.stack:=by
 rcases I.ok.stk with e | ⟨e,hf⟩
 ·rw [e]; exact I.funs
 ·rw [e]
  obtain ⟨m,hn,_⟩:=I.loc
  refine .cons (by rw [I.ok.kind]; decide) hf hn ?_ I.funs
  exact Heap.get?_none_of_le (Nat.le_trans I.ok.bsz I.ok.above)
theorem Inv.stkSub (I:Inv X pins σ H s):∀ b ∈ frs X.stack,b ∈ X.env.locals :: X.fs:=fun b hb=>by
 rcases I.ok.stk with e | ⟨e,hf⟩
 ·rw [e] at hb; exact List.mem_cons_of_mem _ hb
 ·rw [e] at hb
  unfold frs at hb
  rw [List.filterMap_cons,hf] at hb
  exact hb
theorem Inv.stkFree (I:Inv X pins σ H s):∀ b ∈ frs X.stack,H b=none:=fun b hb=>by
 rcases List.mem_cons.mp (I.stkSub b hb) with e | hb
 ·rw [e]; exact I.free
 ·obtain ⟨_,o,ho,_⟩:=I.ok.funs.mem hb
  exact I.base.free b o ho (I.ok.frf b hb) fun z=>I.ok.exfs b z hb
theorem Inv.step {g':Array GenState}{t':Nat}{d':Drawn}{ch:List Addr}(I:Inv X pins σ H s)
  (hch:∀ b ∈ ch,(b ∈ X.ex\/X.s₀.heap.objs.size<=b)/\b ≠ X.env.locals/\(∀ x c,X.env.cells.lookup x=some c->c ≠ b)/\∀ p ∈ X.pn++pins,p.1 ≠ b)
  (keep:∀ b o,b ≠ X.env.locals->b ∉ X.fs->b ∉ ch->s.heap.get? b=some o->H b=none->h'.get? b=some o)
  (slot:∀ b o,b ≠ X.env.locals->b ∈ X.fs->b ∉ ch->s.heap.get? b=some o->H b=none->∃ sl,h'.get? b=some { o with slots:=sl }) (free:∀ b o,b ∉ ch->s.heap.get? b=some o->H b=none->H' b=none)
  (there:∀ b o,b ∉ ch->s.heap.get? b=some o->∃ o',h'.get? b=some o')
  (tups:∀ b xs,H b=some (.tup xs)->H' b=some (.tup xs)) (frzs:∀ b o u,H b=some (.frz o u)->H' b=some (.frz o u)) (tbls:∀ b ps,H b=some (.tbl ps)->∃ more,H' b=some (.tbl (ps++more)))
  (ns:∀ m,s.heap.Ns X.env.locals m->h'.Ns X.env.locals m) (hok:HOk X.prog X.w H' h') (hg:AllBare g') :
  Inv X pins σ H' { s with heap:=h',gens:=g',drawn:=d',toks:=t' }:=by
 have neL:∀ b o,X.s₀.heap.get? b=some o->b ≠ X.env.locals:=fun b o e=>Nat.ne_of_lt (Nat.lt_of_lt_of_le (Heap.lt_size e) I.ok.above)
 have neC:∀ b o,X.s₀.heap.get? b=some o->b ∉ X.ex->b ∉ ch:=fun b o e hx hb=>by
  rcases (hch b hb).1 with z | z
  ·exact hx z
  ·exact absurd (Nat.lt_of_lt_of_le (Heap.lt_size e) z) (Nat.lt_irrefl _)
 have cellK:∀ x c,X.env.cells.lookup x=some c->∀ v,s.heap.IsCell c v->h'.IsCell c v:=fun x c e v ⟨o,ho,hd⟩=>by
  have nch:c ∉ ch:=fun z=>(hch c z).2.2.1 x c e rfl
  by_cases hc:c ∈ X.fs
  ·obtain ⟨sl,q⟩:=slot c o (I.cne x c e) hc nch ho (I.freeC x c e)
   exact ⟨_,q,hd⟩
  ·exact ⟨o,keep c o (I.cne x c e) hc nch ho (I.freeC x c e),hd⟩
 refine ⟨I.ok,I.os,hg,⟨fun b o e n hb hx=>?_,fun b o e n hb hx=>?_,fun b o e n hx=>?_,fun b o e hx=>?_,fun b xs e=>tups b xs (I.base.tups b xs e),fun b o xs e=>frzs b o xs (I.base.frzs b o xs e),fun b ps e=>?_⟩,?_,fun x c e=>?_,?_,fun x c e=>?_,fun p hp=>?_,hok,I.len⟩
 ·exact keep b o (neL b o e) hb (neC b o e hx) (I.base.keep b o e n hb hx) (I.base.free b o e n hx)
 ·obtain ⟨sl,e1⟩:=I.base.slot b o e n hb hx
  obtain ⟨sl',e2⟩:=slot b _ (neL b o e) hb (neC b o e hx) e1 (I.base.free b o e n hx)
  exact ⟨sl',e2⟩
 ·obtain ⟨o',e1⟩:=I.base.there b o e hx
  exact free b o' (neC b o e hx) e1 (I.base.free b o e n hx)
 ·obtain ⟨o',e1⟩:=I.base.there b o e hx
  exact there b o' (neC b o e hx) e1
 ·obtain ⟨m1,e1⟩:=I.base.tbls b ps e
  obtain ⟨m2,e2⟩:=tbls b _ e1
  exact ⟨m1++m2,by rw [e2,Array.append_assoc]⟩
 ·obtain ⟨m,hn,hl⟩:=I.loc
  refine ⟨m,ns m hn,fun i x v e1 e2 e3=>?_⟩
  obtain ⟨u,r,l⟩:=hl i x v e1 e2 e3
  refine ⟨u,r,?_⟩
  rcases l with l | ⟨k,c,e,z⟩
  ·exact .inl l
  ·exact .inr ⟨k,c,e,cellK x c e _ z⟩
 ·obtain ⟨v,z⟩:=I.cell x c e
  exact ⟨v,cellK x c e v z⟩
 ·obtain ⟨m,⟨o,_,_,ho,_⟩,_⟩:=I.loc
  exact free _ o (fun z=>(hch _ z).2.1 rfl) ho I.free
 ·obtain ⟨v,o,ho,hd⟩:=I.cell x c e
  exact free c o (fun z=>(hch c z).2.2.1 x c e rfl) ho (I.freeC x c e)
 ·obtain ⟨e,n,ne,nf,d⟩:=I.pin p hp
  have nch:p.1 ∉ ch:=fun z=>(hch p.1 z).2.2.2 p hp rfl
  exact ⟨keep p.1 p.2 ne nf nch e n,free p.1 p.2 nch e n,ne,nf,d⟩
theorem Inv.un {t':Nat}(I:Inv X pins σ H s)(u:Un X.fs [] H H' s.heap h')(hok:HOk X.prog X.w H' h'):Inv X pins σ H' { s with heap:=h',toks:=t' }:=by
 obtain ⟨m,⟨o,es,ep,ho,r⟩,_⟩:=id I.loc
 obtain ⟨sl,hL⟩:=u.any ho I.free (by simp)
 exact I.step (g':=s.gens) (d':=s.drawn) (ch:=[]) (fun _ z=>nomatch z) (fun b o _ hb _ e n=>u.keep b o e n hb (by simp)) (fun b o _ hb _ e n=>u.slot b o e n hb (by simp)) (fun b o _ e n=>u.free b o e n (by simp)) (fun b o _ e=>u.there b o e (by simp)) u.tups u.frzs u.tbls (fun m' hm=>by
  obtain ⟨o',es',ep',ho',r'⟩:=hm
  rw [ho] at ho'; cases ho'
  exact ⟨_,es',ep',hL,r'⟩) hok I.bare
theorem Inv.call {g':Array GenState}{t':Nat}{d':Drawn}{ch:List Addr}(I:Inv X pins σ H s)(u:Un (frs X.stack) ch H H' s.heap h')(hok:HOk X.prog X.w H' h')(hg:AllBare g')
  (hch:∀ b ∈ ch,(b ∈ X.ex\/X.s₀.heap.objs.size<=b)/\b ≠ X.env.locals/\(∀ x c,X.env.cells.lookup x=some c->c ≠ b)/\∀ p ∈ X.pn++pins,p.1 ≠ b) :
  Inv X pins σ H' { s with heap:=h',gens:=g',drawn:=d',toks:=t' }:=by
 obtain ⟨m,⟨o,es,ep,ho,r⟩,_⟩:=id I.loc
 obtain ⟨sl,hL⟩:=u.any ho I.free fun z=>(hch _ z).2.1 rfl
 exact I.step (ch:=ch) hch (fun b o hL hb hc e n=>u.keep b o e n (fun z=>(List.mem_cons.mp (I.stkSub b z)).elim hL hb) hc) (fun b o _ _ hc e n=>u.any e n hc) (fun b o hc e n=>u.free b o e n hc) (fun b o hc e=>u.there b o e hc) u.tups u.frzs u.tbls (fun m' hm=>by
  obtain ⟨o',es',ep',ho',r'⟩:=hm
  rw [ho] at ho'; cases ho'
  exact ⟨_,es',ep',hL,r'⟩) hok hg
theorem Inv.turned {t':Nat}{it:Addr}(I:Inv X pins σ H s)(k:∀ b o,b ≠ it->s.heap.get? b=some o->h'.get? b=some o)(hn:H it=none)(hL:it ≠ X.env.locals)
  (h1:it ∈ X.ex\/X.s₀.heap.objs.size<=it) (h2:∀ x c,X.env.cells.lookup x=some c->c ≠ it) (h3:∀ p ∈ X.pn++pins,p.1 ≠ it):Inv X pins σ H { s with heap:=h',toks:=t' }:=by
 have nit:∀ b u,H b=some u->b ≠ it:=fun b u e z=>by rw [z,hn] at e; cases e
 refine I.step (g':=s.gens) (d':=s.drawn) (ch:=[it]) (fun b hb=>?_) (fun b o _ _ hc e _=>k b o (fun z=>hc (by simp [z])) e) (fun b o _ _ hc e _=>⟨o.slots,k b o (fun z=>hc (by simp [z])) e⟩) (fun _ _ _ _ n=>n)
  (fun b o hc e=>⟨o,k b o (fun z=>hc (by simp [z])) e⟩) (fun _ _ e=>e) (fun _ _ _ e=>e) (fun b ps e=>⟨#[],by rw [e]; simp⟩) (fun m hm=>?_) (fun b u e=>?_) I.bare
 ·have e:b=it:=by simpa using hb
  subst e
  exact ⟨h1,hL,h2,h3⟩
 ·obtain ⟨o,es,ep,ho,r⟩:=hm
  exact ⟨o,es,ep,k _ o (Ne.symm hL) ho,r⟩
 ·refine (I.hok b u e).stay (fun c v hc q=>k c v ?_ q) (fun _ q=>q) fun _ _ q=>q
  rcases hc with z | z
  ·rw [z]; exact nit b u e
  ·exact nit c _ z
theorem Inv.tok (I:Inv X pins σ H s)(t:Nat):Inv X pins σ H { s with toks:=t }:=I.un (h':=s.heap) (t':=t) Un.refl I.hok
theorem Inv.kept {t':Nat}(I:Inv X pins σ H s)(k:∀ b u,s.heap.get? b=some u->h'.get? b=some u):Inv X pins σ H { s with heap:=h',toks:=t' }:=I.un (Un.kept k) (I.hok.kept k)
theorem Inv.laid {a:Addr}{o:HO}{t':Nat}(I:Inv X pins σ H s)(k:∀ b u,s.heap.get? b=some u->h'.get? b=some u)(hp:s.heap.objs.size<=a)(new:ObjOk X.prog X.w (upd H a o) h' a o) :
  Inv X pins σ (upd H a o) { s with heap:=h',toks:=t' }:=I.un (Un.laid k hp (I.hok.fresh hp)) (I.hok.laid k hp new)
theorem Inv.write {x e:Addr}{o:HO}{t':Nat}(I:Inv X pins σ H s)(mu:Mut (H x))(he:e=x\/H e=some (.own x))(k:∀ b u,b ≠ e->s.heap.get? b=some u->h'.get? b=some u)(heo:∃ u,h'.get? e=some u)
  (new:ObjOk X.prog X.w (upd H x o) h' x o):Inv X pins σ (upd H x o) { s with heap:=h',toks:=t' }:=I.un (Un.write mu he k heo) (I.hok.write mu he k heo new)
theorem Inv.pins_of {pins':List (Addr × Obj)}(I:Inv X pins σ H s)(h:∀ p ∈ pins',s.heap.get? p.1=some p.2/\H p.1=none/\p.1 ≠ X.env.locals/\p.1 ∉ X.fs/\∀ v,p.2.data ≠ .cell v):Inv X pins' σ H s :=
 ⟨I.ok,I.os,I.bare,I.base,I.loc,I.cell,I.free,I.freeC,fun p hp=>(List.mem_append.mp hp).elim (fun z=>I.pin p (List.mem_append_left _ z)) (h p),I.hok,I.len⟩
theorem nodup_ix {N:List Str}(hN:N.Nodup){i j:Nat}{x:Str}(a:N[i]?=some x)(b:N[j]?=some x):i=j:=by
 obtain ⟨h1,e1⟩:=List.getElem?_eq_some_iff.mp a
 obtain ⟨h2,e2⟩:=List.getElem?_eq_some_iff.mp b
 exact (List.getElem_inj hN).mp (e1.trans e2.symm)
theorem store_ok2 {M:Model}{A:Around}{E:Value->Shared->Prop}{i:Nat}{x:Str}{v:V}{u:Value}{Q:Unit->Shared->Prop}(I:Inv X pins σ H s)(hN:X.N.Nodup)(hi:X.N[i]?=some x)(hx:Loc X.env.scope x)(r:RelV v u)
  (h:∀ s',Inv X pins (σ.set i (some v)) H s'->(∃ a,Heap.SameBut a s.heap s'.heap/\(a=X.env.locals\/X.env.cells.lookup x=some a))->Q () s') (hf:X.fn x=true\/X.env.scope.names.lookup x=some .local:=by first | exact .inl rfl | exact .inr rfl | assumption):wpAny M A (storeName X.env x u) Q E s:=by
 obtain ⟨m,hn,hl⟩:=id I.loc
 have hcls:(X.env.scope.kind == .class || (X.env.scope.kind == .module && X.env.locals != X.env.globals))=false:=by rw [I.ok.kind]; rfl
 have hiσ:i < σ.length:=by rw [I.len]; exact (List.getElem?_eq_some_iff.mp hi).1
 have cne:=I.cne
 have tracked:∀ {a:Addr} {h':Heap},(∃ o,s.heap.get? a=some o/\H a=none)->Heap.SameBut a s.heap h'->HOk X.prog X.w H h':=fun {a h'} ha hs b ob e=>by
  obtain ⟨_,_,hfree⟩:=ha
  refine (I.hok b ob e).stay (fun c w' hc q=>(hs.2 c ?_).trans q) (fun _ q=>q) fun _ _ q=>q
  rintro rfl
  rcases hc with rfl | hc
  ·rw [hfree] at e; cases e
  ·rw [hfree] at hc; cases hc
 rcases hx with hk | hk
 ·refine wpAny_storeName_local hk hn (fun h' hn' hs=>?_) hcls
  obtain ⟨oL,_,_,hoL,_⟩:=id hn
  refine h _ ⟨I.ok,I.os,I.bare,⟨fun b o e n hb hx=>?_,fun b o e n hb hx=>?_,I.base.free,fun b o e hx=>?_,I.base.tups,I.base.frzs,I.base.tbls⟩,⟨_,hn',fun j y v' e1 e2 e3=>?_⟩,fun y c e=>?_,I.free,I.freeC,fun p hp=>?_,tracked ⟨oL,hoL,I.free⟩ hs,by simpa using I.len⟩ ⟨_,hs,.inl rfl⟩
  ·exact (hs.2 b (Nat.ne_of_lt (Nat.lt_of_lt_of_le (Heap.lt_size e) I.ok.above))).trans (I.base.keep b o e n hb hx)
  ·obtain ⟨sl,e1⟩:=I.base.slot b o e n hb hx
   exact ⟨sl,(hs.2 b (Nat.ne_of_lt (Nat.lt_of_lt_of_le (Heap.lt_size e) I.ok.above))).trans e1⟩
  ·obtain ⟨o',e1⟩:=I.base.there b o e hx
   exact ⟨o',(hs.2 b (Nat.ne_of_lt (Nat.lt_of_lt_of_le (Heap.lt_size e) I.ok.above))).trans e1⟩
  ·by_cases hj:j=i
   ·subst hj
    rw [hi] at e1; cases e1
    rw [List.getElem?_set_self hiσ] at e2
    cases e2
    exact ⟨u,r,.inl ⟨hk,by simp⟩⟩
   ·rw [List.getElem?_set_ne (Ne.symm hj)] at e2
    obtain ⟨u',r',q⟩:=hl j y v' e1 e2 e3
    refine ⟨u',r',?_⟩
    rcases q with ⟨k,e⟩ | ⟨k,c,e,z⟩
    ·refine .inl ⟨k,?_⟩
     have:y ≠ x:=fun e=>hj (nodup_ix hN e1 (e ▸ hi))
     simp [this,e]
    ·exact .inr ⟨k,c,e,z.sameBut hs (cne y c e)⟩
  ·obtain ⟨w',z⟩:=I.cell y c e
   exact ⟨w',z.sameBut hs (cne y c e)⟩
  ·obtain ⟨e,n,ne,nf,d⟩:=I.pin p hp
   exact ⟨(hs.2 p.1 ne).trans e,n,ne,nf,d⟩
 ·have hfn:X.fn x=true:=by
   rcases hf with z | z
   ·exact z
   ·rw [z] at hk; cases hk
  obtain ⟨c,hc⟩:=I.ok.has x (.inl hk)
  obtain ⟨w',z⟩:=I.cell x c hc
  refine wpAny_storeName_cell I.ok.kind hk hc z (fun h' hc' hs=>?_)
  obtain ⟨oc,hoc,hocd⟩:=id z
  refine h { s with heap:=h' } ⟨I.ok,I.os,I.bare,⟨fun b o e n hb hx=>?_,fun b o e n hb hx=>?_,I.base.free,fun b o e hx=>?_,I.base.tups,I.base.frzs,I.base.tbls⟩,⟨m,hn.sameBut hs (Ne.symm (cne x c hc)),fun j y v' e1 e2 e3=>?_⟩,fun y c' e=>?_,I.free,I.freeC,fun p hp=>?_,tracked ⟨oc,hoc,I.freeC x c hc⟩ hs,by simpa using I.len⟩ ⟨c,hs,.inr hc⟩
  ·exact (hs.2 b (Nat.ne_of_lt (Nat.lt_of_lt_of_le (Heap.lt_size e) (I.ok.cab x c hfn hc)))).trans (I.base.keep b o e n hb hx)
  ·obtain ⟨sl,e1⟩:=I.base.slot b o e n hb hx
   exact ⟨sl,(hs.2 b (Nat.ne_of_lt (Nat.lt_of_lt_of_le (Heap.lt_size e) (I.ok.cab x c hfn hc)))).trans e1⟩
  ·obtain ⟨o',e1⟩:=I.base.there b o e hx
   exact ⟨o',(hs.2 b (Nat.ne_of_lt (Nat.lt_of_lt_of_le (Heap.lt_size e) (I.ok.cab x c hfn hc)))).trans e1⟩
  ·by_cases hj:j=i
   ·subst hj
    rw [hi] at e1; cases e1
    rw [List.getElem?_set_self hiσ] at e2
    cases e2
    exact ⟨u,r,.inr ⟨.inl hk,c,hc,hc'⟩⟩
   ·rw [List.getElem?_set_ne (Ne.symm hj)] at e2
    obtain ⟨u',r',q⟩:=hl j y v' e1 e2 e3
    refine ⟨u',r',?_⟩
    rcases q with q | ⟨k,c',e,z'⟩
    ·exact .inl q
    ·refine .inr ⟨k,c',e,z'.sameBut hs ?_⟩
     rintro rfl
     exact hj (nodup_ix hN e1 (I.ok.inj _ _ _ e hc ▸ hi))
  ·by_cases hcc:c'=c
   ·subst hcc; exact ⟨_,hc'⟩
   ·obtain ⟨w2,z2⟩:=I.cell y c' e
    exact ⟨w2,z2.sameBut hs hcc⟩
  ·obtain ⟨e,n,ne,nf,d⟩:=I.pin p hp
   refine ⟨(hs.2 p.1 ?_).trans e,n,ne,nf,d⟩
   intro q
   rw [q,hoc] at e
   have q':oc=p.2:=Option.some.inj e
   exact d w' (by rw [<- q']; exact hocd)
theorem store_ok {M:Model}{A:Around}{E:Value->Shared->Prop}{i:Nat}{x:Str}{v:V}{u:Value}{Q:Unit->Shared->Prop}(I:Inv X pins σ H s)(hN:X.N.Nodup)(hi:X.N[i]?=some x)(hx:Loc X.env.scope x)(r:RelV v u)
  (h:∀ s',Inv X pins (σ.set i (some v)) H s'->Q () s') (hf:X.fn x=true\/X.env.scope.names.lookup x=some .local:=by first | exact .inl rfl | exact .inr rfl | assumption):wpAny M A (storeName X.env x u) Q E s :=
 store_ok2 I hN hi hx r (fun s' I' _=>h s' I') hf
theorem Inv.call' {s':Shared}{ch:List Addr}(I:Inv X pins σ H s)(ho:s'.os=s.os)(u:Un (frs X.stack) ch H H' s.heap s'.heap)(hok:HOk X.prog X.w H' s'.heap)(hg:AllBare s'.gens)
  (hch:∀ b ∈ ch,(b ∈ X.ex\/X.s₀.heap.objs.size<=b)/\b ≠ X.env.locals/\(∀ x c,X.env.cells.lookup x=some c->c ≠ b)/\∀ p ∈ X.pn++pins,p.1 ≠ b):Inv X pins σ H' s':=by
 obtain ⟨h',g',d',t',o'⟩:=s'
 have e:o'=s.os:=ho
 subst e
 exact I.call (g':=g') (t':=t') (d':=d') u hok hg hch
end
noncomputable abbrev XK:=Value->Option Addr->Hp->Prop
noncomputable abbrev St:=List (Option V)
noncomputable abbrev VK:=V->Hp->Prop
noncomputable abbrev TE:=St->Hp->VK->Prop
noncomputable abbrev TT:=St->Hp->(Bool->Hp->Prop)->Prop
noncomputable abbrev TA:=St->Hp->(List V->Hp->Prop)->Prop
structure Ends where
 nx:St->Hp->Prop
 rt:VK
 bk:St->Hp->Prop:=fun _ _=>False
 ct:St->Hp->Prop:=fun _ _=>False
noncomputable abbrev TS:=Ends->St->Hp->Prop
noncomputable def EP (X:Cx)(pins:List (Addr × Obj))(σ:St)(Q:VK)(u:Value)(s':Shared):Prop:=∃ v H',Inv X pins σ H' s'/\RelV v u/\Q v H'
noncomputable def TP (X:Cx)(pins:List (Addr × Obj))(σ:St)(Q:Bool->Hp->Prop)(b:Bool)(s':Shared):Prop:=∃ H',Inv X pins σ H' s'/\Q b H'
noncomputable def AP (X:Cx)(pins:List (Addr × Obj))(σ:St)(Q:List V->Hp->Prop)(us:List Value)(s':Shared):Prop:=∃ vs H',Inv X pins σ H' s'/\Vals vs us/\Q vs H'
noncomputable def SP (X:Cx)(pins:List (Addr × Obj))(D:Ends)(f:Flow)(s':Shared):Prop :=
 match f with
 | .next=>∃ σ' H',Inv X pins σ' H' s'/\D.nx σ' H'
 | .brk=>∃ σ' H',Inv X pins σ' H' s'/\D.bk σ' H'
 | .cont=>∃ σ' H',Inv X pins σ' H' s'/\D.ct σ' H'
 | .ret u=>∃ v σ' H',Inv X pins σ' H' s'/\RelV v u/\D.rt v H'
noncomputable def PE (X:Cx)(e:Expr)(t:TE):Prop :=
 ∀ (pins:List (Addr × Obj)) (s:Shared) (σ:St) (H:Hp) (Q:VK),Inv X pins σ H s->t σ H Q->wpAny (model X.prog X.w) X.A (eval e X.env) (EP X pins σ Q) X.xe s
noncomputable def PT (X:Cx)(e:Expr)(t:TT):Prop :=
 ∀ (pins:List (Addr × Obj)) (s:Shared) (σ:St) (H:Hp) (Q:Bool->Hp->Prop),Inv X pins σ H s->t σ H Q->wpAny (model X.prog X.w) X.A (isTrue e X.env (eval e X.env)) (TP X pins σ Q) X.xe s
noncomputable def PW (X:Cx)(e:Expr)(t:TT):Prop :=
 ∀ (whole:Sem Value) (pins:List (Addr × Obj)) (s:Shared) (σ:St) (H:Hp) (Q:Bool->Hp->Prop),Inv X pins σ H s->t σ H Q->wpAny (model X.prog X.w) X.A (isTrue e X.env whole) (TP X pins σ Q) X.xe s
theorem PW.pt {X:Cx}{e:Expr}{t:TT}(h:PW X e t):PT X e t:=h _
noncomputable def PA (X:Cx)(es:List Expr)(t:TA):Prop :=
 ∀ (pos:Pos) (pins:List (Addr × Obj)) (s:Shared) (σ:St) (H:Hp) (Q:List V->Hp->Prop),Inv X pins σ H s->t σ H Q->wpAny (model X.prog X.w) X.A (spliced (backTo pos (starEach es X.env))) (AP X pins σ Q) X.xe s
noncomputable def PS (X:Cx)(st:Stmt)(t:TS):Prop :=
 ∀ (pins:List (Addr × Obj)) (s:Shared) (σ:St) (H:Hp) (D:Ends),Inv X pins σ H s->t D σ H->wpAny (model X.prog X.w) X.A (exec st X.env) (SP X pins D) X.xe s
noncomputable def PSs (X:Cx)(st:List Stmt)(t:TS):Prop :=
 ∀ (pins:List (Addr × Obj)) (s:Shared) (σ:St) (H:Hp) (D:Ends),Inv X pins σ H s->t D σ H->wpAny (model X.prog X.w) X.A (execs st X.env) (SP X pins D) X.xe s
theorem thn {α:Type}{t:Sem α}{Q Q':α->Shared->Prop}{M:Model}{A:Around}{E:Value->Shared->Prop}{s:Shared}(h:wpAny M A t Q E s)(hQ:∀ a s,Q a s->Q' a s):wpAny M A t Q' E s:=wpAny_mono h hQ fun _ _ x=>x
end L2
namespace L2
open PySem PySem.Spec PyProof.Rows
section
variable {X:Cx}
noncomputable def tVar (i:Nat):TE:=fun σ H Q=>∃ v,σ[i]?=some (some v)/\Q v H
noncomputable def tC (v:V):TE:=fun _ H Q=>Q v H
theorem pe_var {i:Nat}{x:Str}{pos:Pos}(hN:X.N[i]?=some x)(hv:Vis X.env.scope x)(hd:(x == ("__debug__":Str))=false:=by decide)(hcd:(x == ("__classdict__":Str))=false:=by decide):PE X (.Name x pos) (tVar i):=by
 intro pins s σ H Q I h
 obtain ⟨v,e,h⟩:=h
 obtain ⟨m,hn,hl⟩:=I.loc
 obtain ⟨u,r,l⟩:=hl i x v hN e hv
 have fin:EP X pins σ Q u s:=⟨v,H,I,r,h⟩
 rcases l with ⟨hk,hm⟩ | ⟨hk,c,hc,hcell⟩
 ·exact wpAny_Name (wpAny_loadName_local I.ok.kind hk hn hm fin) hd
 ·rcases hk with hk | hk
  ·exact wpAny_Name (wpAny_loadName_cell I.ok.kind hk hc hcell fin) hd
  ·exact wpAny_Name (wpAny_loadName_free I.ok.kind hk hc hcell fin hcd) hd
theorem pe_int {i j pos}:PE X (.Constant (.int i) j pos) (tC (.int i)):=fun _ _ _ H _ I h=>wpAny_Constant_int ⟨.int i,H,I.tok _,⟨_,rfl⟩,h⟩
theorem pe_bl {b j pos}:PE X (.Constant (.bool b) j pos) (tC (.bl b)):=fun _ _ _ H _ I h=>Constant_bool ⟨.bl b,H,I,rfl,h⟩
theorem pe_str {x j pos}:PE X (.Constant (.str x) j pos) (tC (.str x)):=fun _ _ _ H _ I h=>Calls.Constant_str ⟨.str x,H,I.tok _,⟨_,rfl⟩,h⟩
noncomputable def Gl (X:Cx)(x:Str):Prop:=X.env.kindOf x=some .globalImplicit
theorem ld_glob {E:Value->Shared->Prop}{pins:List (Addr × Obj)}{s:Shared}{σ:St}{H:Hp}{x:Str}{u:Value}{pos:Pos}{Q:Value->Shared->Prop}(I:Inv X pins σ H s)(hg:Gl X x)(hm:X.mg x=some u)(h:Q u s)
  (hd:(x == ("__debug__":Str))=false:=by decide):wpAny (model X.prog X.w) X.A (eval (.Name x pos) X.env) Q E s :=
 Calls.Name_function_global I.ok.kind hg (Calls.loadGlobal_global (by rw [I.ok.glob]; exact I.mod.glob.keeps I.bk) hm h) hd
theorem ld_blt {E:Value->Shared->Prop}{pins:List (Addr × Obj)}{s:Shared}{σ:St}{H:Hp}{x:Str}{u:Value}{pos:Pos}{Q:Value->Shared->Prop}(I:Inv X pins σ H s)(hg:Gl X x)(hm:X.mg x=none)(hv:bootBuiltins x=some u)(h:Q u s)
  (hn:x ≠ "__name__":=by decide) (hd:(x == ("__debug__":Str))=false:=by decide):wpAny (model X.prog X.w) X.A (eval (.Name x pos) X.env) Q E s:=by
 obtain ⟨mb,h1,h2⟩:=I.mod.blt
 exact Calls.Name_function_global I.ok.kind hg (Calls.loadGlobal_builtin (by rw [I.ok.glob]; exact I.mod.glob.keeps I.bk) hm (by rw [I.ok.blt]; exact h1.keeps I.bk) ((h2 x hn).trans hv) h) hd
theorem pe_glob {x:Str}{v:V}{u:Value}{pos:Pos}(hg:Gl X x)(hm:X.mg x=some u)(r:RelV v u)(hd:(x == ("__debug__":Str))=false:=by decide):PE X (.Name x pos) (tC v) :=
 fun _ _ _ H _ I h=>ld_glob I hg hm ⟨v,H,I,r,h⟩ hd
variable {a b:Expr}{ta tb:TE}{pos:Pos}
variable {tA tB':TT}{rest:List Expr}
noncomputable def tAnd (t u:TT):TT:=fun σ H Q=>t σ H fun c H1=>if c=true then u σ H1 Q else Q false H1
noncomputable def tOr (t u:TT):TT:=fun σ H Q=>t σ H fun c H1=>if c=true then Q true H1 else u σ H1 Q
noncomputable def tNot (t:TT):TT:=fun σ H Q=>t σ H fun c H1=>Q (!c) H1
theorem pw_and1 (ha:PT X a tA):PW X (.BoolOp .And [a] pos) tA:=by
 intro wh pins s σ H Q I h
 refine isTrue_and (thn (ha pins s σ H Q I h) fun c s1 e=>?_)
 cases c with
 | true=>exact isTrue_and_nil e
 | false=>exact e
theorem pw_or1 (ha:PT X a tA):PW X (.BoolOp .Or [a] pos) tA:=by
 intro wh pins s σ H Q I h
 refine isTrue_or (thn (ha pins s σ H Q I h) fun c s1 e=>?_)
 cases c with
 | false=>exact isTrue_or_nil e
 | true=>exact e
theorem pw_and (ha:PT X a tA)(hb:PW X (.BoolOp .And (b :: rest) pos) tB'):PW X (.BoolOp .And (a :: b :: rest) pos) (tAnd tA tB'):=by
 intro wh pins s σ H Q I h
 refine isTrue_and (thn (ha pins s σ H _ I h) fun c s1 ⟨H1,I1,q1⟩=>?_)
 cases c with
 | true=>exact hb wh pins s1 σ H1 Q I1 q1
 | false=>exact ⟨H1,I1,q1⟩
theorem pw_or (ha:PT X a tA)(hb:PW X (.BoolOp .Or (b :: rest) pos) tB'):PW X (.BoolOp .Or (a :: b :: rest) pos) (tOr tA tB'):=by
 intro wh pins s σ H Q I h
 refine isTrue_or (thn (ha pins s σ H _ I h) fun c s1 ⟨H1,I1,q1⟩=>?_)
 cases c with
 | true=>exact ⟨H1,I1,q1⟩
 | false=>exact hb wh pins s1 σ H1 Q I1 q1
theorem pt_not (ha:PT X a tA):PT X (.UnaryOp .Not a pos) (tNot tA):=by
 intro pins s σ H Q I h
 exact isTrue_not (ha pins s σ H (fun c H1=>Q (!c) H1) I h)
noncomputable def tOrV (ta tb:TE):TE:=fun σ H Q=>ta σ H fun x H1=>∃ c,x=.bl c/\if c=true then Q (.bl true) H1 else tb σ H1 Q
noncomputable def tNotV (ta:TE):TE:=fun σ H Q=>ta σ H fun x H1=>∃ c,x=.bl c/\Q (.bl (!c)) H1
theorem pe_one {op}{t:TE}(h:PE X a t):PE X (.BoolOp op [a] pos) t:=fun pins s σ H Q I hw=>BoolOp_one (h pins s σ H Q I hw)
theorem pe_or (ha:PE X a ta)(hb:PE X (.BoolOp .Or (b :: rest) pos) tb):PE X (.BoolOp .Or (a :: b :: rest) pos) (tOrV ta tb):=by
 intro pins s σ H Q I h
 refine BoolOp_or (thn (ha pins s σ H _ I h) fun v s1 ⟨x,H1,I1,r1,q1⟩=>?_)
 obtain ⟨c,rfl,q1⟩:=q1
 cases r1
 refine wpAny_truthy_bool ?_
 cases c with
 | false=>exact hb pins s1 σ H1 Q I1 q1
 | true=>exact ⟨.bl true,H1,I1,rfl,q1⟩
theorem pe_not (ha:PE X a ta):PE X (.UnaryOp .Not a pos) (tNotV ta):=by
 intro pins s σ H Q I h
 refine UnaryOp_ (thn (ha pins s σ H _ I h) fun v s1 ⟨x,H1,I1,r1,q1⟩=>?_)
 obtain ⟨c,rfl,q1⟩:=q1
 cases r1
 exact not_of (wpAny_truthy_bool ⟨.bl (!c),H1,I1,rfl,q1⟩)
end
end L2
namespace L2
open PySem PySem.Spec PyProof.Rows
noncomputable def SqL (K:PySem.W.Frag)(H:Hp)(a:Addr)(xs:List V):Prop :=
 Rd H a (.lst xs) \/
  ∃ (o:Obj) (its:Array Value) (n:Nat),K.lookup a=some o/\o.cls=.type "list"/\o.dict=none/\o.data=.seq its n/\its.size<=sizeLine/\Vals xs its.toList
noncomputable def SqT (K:PySem.W.Frag)(H:Hp)(a:Addr)(xs:List V):Prop :=
 Rd H a (.tup xs) \/
  ∃ (o:Obj) (its:Array Value) (n:Nat),K.lookup a=some o/\o.cls=.type "tuple"/\o.data=.seq its n/\its.size<=sizeLine/\Vals xs its.toList
noncomputable def absV:Value->Option V
 | .none=>some .non
 | .bool b=>some (.bl b)
 | .int i _=>some (.int i)
 | .str x _=>some (.str x)
 | .bytes b _=>some (.byt b)
 | .float b _=>some (.flt b)
 | .ref a=>some (.ref a)
 | .type n=>some (.ty n)
 | _=>none
theorem RelV.abs {x:V}{u:Value}(r:RelV x u):absV u=some x:=by
 cases x with
 | non=>cases r; rfl
 | bl _=>cases r; rfl
 | int _=>obtain ⟨t,rfl⟩:=r; rfl
 | str _=>obtain ⟨t,rfl⟩:=r; rfl
 | byt _=>obtain ⟨t,rfl⟩:=r; rfl
 | flt _=>obtain ⟨t,rfl⟩:=r; rfl
 | ref _=>cases r; rfl
 | ty _=>cases r; rfl
theorem RelV.inj {x y:V}{u:Value}(r:RelV x u)(q:RelV y u):x=y:=Option.some.inj (r.abs.symm.trans q.abs)
theorem Vals.inj:∀ {xs ys:List V} {us:List Value},Vals xs us->Vals ys us->xs=ys
 | _,_,_,.nil,.nil=>rfl
 | _,_,_,.cons r t,.cons r' t'=>by rw [r.inj r',Vals.inj t t']
section
variable {X:Cx}{pins:List (Addr × Obj)}{σ:St}{H:Hp}{s:Shared}{a:Addr}{xs ys:List V}
theorem SqL.of {K:PySem.W.Frag}(h:H a=some (.lst xs)):SqL K H a xs:=.inl (.inl h)
theorem SqT.of {K:PySem.W.Frag}(h:H a=some (.tup xs)):SqT K H a xs:=.inl (.inl h)
theorem Inv.list (I:Inv X pins σ H s)(h:SqL X.K H a xs):∃ its:List Value,Vals xs its/\PlainL s.heap a its.toArray/\xs.length<=sizeLine:=by
 rcases h with h | ⟨o,its,n,hk,hc,hd,hs,hz,r⟩
 ·obtain ⟨z,its,n,r,e⟩:=h.ok I.hok
  exact ⟨its,r,⟨_,n,e,rfl,rfl,rfl⟩,z⟩
 ·refine ⟨its.toList,r,⟨o,n,I.kIn a o hk,hc,hd,by simpa using hs⟩,?_⟩
  have e:=r.length
  simp only [Array.length_toList] at e
  omega
theorem Inv.tuple (I:Inv X pins σ H s)(h:SqT X.K H a xs):∃ its:List Value,Vals xs its/\IsTup s.heap a its.toArray/\xs.length<=sizeLine:=by
 rcases h with h | ⟨o,its,n,hk,hc,hs,hz,r⟩
 ·obtain ⟨z,its,r,p⟩:=h.ok I.hok
  exact ⟨its,r,p,z⟩
 ·refine ⟨its.toList,r,⟨o,I.kIn a o hk,hc,n,by simpa using hs⟩,?_⟩
  have e:=r.length
  simp only [Array.length_toList] at e
  omega
theorem Inv.list_inj (I:Inv X pins σ H s)(h:SqL X.K H a xs)(h':SqL X.K H a ys):xs=ys:=by
 obtain ⟨its,r,⟨o,n,e,_,_,d⟩,_⟩:=I.list h
 obtain ⟨its',r',⟨o',n',e',_,_,d'⟩,_⟩:=I.list h'
 rw [e] at e'; cases e'
 rw [d] at d'
 injection d' with d1 _
 have:its=its':=by simpa using congrArg Array.toList d1
 subst this
 exact r.inj r'
end
noncomputable abbrev Cx.wish (X:Cx)(E:Value->Shared->Prop):Cx:={ X with xe:=E }
noncomputable abbrev Cx.nox (X:Cx):Cx:=X.wish fun _ _=>False
theorem Cx.Ok.wish {X:Cx}(ok:X.Ok)(E:Value->Shared->Prop):(X.wish E).Ok :=
 ⟨ok.mod,ok.kind,ok.glob,ok.blt,ok.above,ok.inj,ok.has,ok.cab,ok.hd,ok.frames,ok.stk,ok.exf,ok.bs,ok.bsz,ok.noex,ok.exfs,ok.funs,ok.frf⟩
theorem Cx.Ok.unwish {X:Cx}{E:Value->Shared->Prop}(ok:(X.wish E).Ok):X.Ok :=
 ⟨ok.mod,ok.kind,ok.glob,ok.blt,ok.above,ok.inj,ok.has,ok.cab,ok.hd,ok.frames,ok.stk,ok.exf,ok.bs,ok.bsz,ok.noex,ok.exfs,ok.funs,ok.frf⟩
section
variable {X:Cx}{pins:List (Addr × Obj)}{σ:St}{H:Hp}{s:Shared}{E:Value->Shared->Prop}
theorem Inv.wish (I:Inv X pins σ H s)(E:Value->Shared->Prop):Inv (X.wish E) pins σ H s:=⟨I.ok.wish E,I.os,I.bare,I.base,I.loc,I.cell,I.free,I.freeC,I.pin,I.hok,I.len⟩
theorem Inv.unwish (I:Inv (X.wish E) pins σ H s):Inv X pins σ H s:=⟨I.ok.unwish,I.os,I.bare,I.base,I.loc,I.cell,I.free,I.freeC,I.pin,I.hok,I.len⟩
theorem SP.unwish {D:Ends}{f:Flow}{s':Shared}(h:SP (X.wish E) pins D f s'):SP X pins D f s':=by
 cases f with
 | next=>obtain ⟨σ',H',I,q⟩:=h; exact ⟨σ',H',I.unwish,q⟩
 | brk=>obtain ⟨σ',H',I,q⟩:=h; exact ⟨σ',H',I.unwish,q⟩
 | cont=>obtain ⟨σ',H',I,q⟩:=h; exact ⟨σ',H',I.unwish,q⟩
 | ret u=>obtain ⟨v,σ',H',I,r,q⟩:=h; exact ⟨v,σ',H',I.unwish,r,q⟩
theorem PSs.nox {st:List Stmt}{t:TS}(h:PSs X.nox st t):PSs X st t:=fun pins s σ H D I hw =>
 wpAny_mono (h pins s σ H D (I.wish _) hw) (fun _ _ q=>q.unwish) fun _ _ z=>False.elim z
end
section
variable {X:Cx}{st:Stmt}{rest:List Stmt}{t u:TS}{e:Expr}{te:TE}{pos:Pos}
noncomputable def tNext:TS:=fun D σ H=>D.nx σ H
noncomputable def tSeq (t u:TS):TS:=fun D σ H=>t { D with nx:=u D } σ H
theorem pss_nil:PSs X [] tNext:=fun _ _ σ H _ I h=>wpAny_execs_nil ⟨σ,H,I,h⟩
theorem pss_cons (h1:PS X st t)(h2:PSs X rest u):PSs X (st :: rest) (tSeq t u):=by
 intro pins s σ H D I h
 refine wpAny_execs_cons (thn (h1 pins s σ H { D with nx:=u D } I h) fun f s1 q=>?_)
 cases f with
 | next =>
  obtain ⟨σ',H',I',q⟩:=q
  exact h2 pins s1 σ' H' D I' q
 | ret v=>exact q
 | brk=>exact q
 | cont=>exact q
theorem pss_one (h1:PS X st t):PSs X [st] t:=by
 intro pins s σ H D I h
 refine wpAny_execs_cons (thn (h1 pins s σ H D I h) fun f s1 q=>?_)
 cases f with
 | next=>exact wpAny_execs_nil q
 | ret v=>exact q
 | brk=>exact q
 | cont=>exact q
theorem Inv.quiet {pins:List (Addr × Obj)}{σ:St}{H:Hp}{s:Shared}(I:Inv X pins σ H s):interactive X.env=false:=by simp [interactive,I.ok.kind]
noncomputable def tDrop (te:TE):TS:=fun D σ H=>te σ H fun _ H1=>D.nx σ H1
theorem ps_expr (he:PE X e te)(hs:swapsWith e none pos.line X.env=pure false:=by rfl):PS X (.Expr e pos) (tDrop te):=by
 intro pins s σ H D I h
 exact wpAny_Expr_any (thn (he pins s σ H _ I h) fun v s1 ⟨x,H1,I1,r1,q1⟩=>⟨σ,H1,I1,q1⟩) I.quiet hs
noncomputable def tRet (te:TE):TS:=fun D σ H=>te σ H D.rt
theorem ps_ret (he:PE X e te):PS X (.Return (some e) pos) (tRet te):=by
 intro pins s σ H D I h
 exact wpAny_Return_some (thn (he pins s σ H _ I h) fun v s1 ⟨x,H1,I1,r1,q1⟩=>⟨x,σ,H1,I1,r1,q1⟩)
noncomputable def tIfS (c:TT)(t u:TS):TS:=fun D σ H=>c σ H fun b H1=>if b=true then t D σ H1 else u D σ H1
theorem ps_if {c:Expr}{a b:List Stmt}{tc:TT}(hc:PT X c tc)(ha:PSs X a t)(hb:PSs X b u):PS X (.If c a b pos) (tIfS tc t u):=by
 intro pins s σ H D I h
 refine wpAny_If (thn (hc pins s σ H _ I h) fun d s1 ⟨H1,I1,q1⟩=>?_)
 cases d with
 | true=>exact ha pins s1 σ H1 D I1 q1
 | false=>exact hb pins s1 σ H1 D I1 q1
noncomputable def tNever:TS:=fun _ _ _=>False
theorem ps_never:PS X st tNever:=fun _ _ _ _ _ _ h=>h.elim
end
noncomputable abbrev TG:=V->St->Hp->(St->Hp->Prop)->Prop
noncomputable abbrev TGs:=List V->St->Hp->(St->Hp->Prop)->Prop
noncomputable def PG (X:Cx)(target:Expr)(t:TG):Prop :=
 ∀ (pins:List (Addr × Obj)) (s:Shared) (σ:St) (H:Hp) (v:V) (u:Value) (Q:St->Hp->Prop),Inv X pins σ H s->RelV v u->t v σ H Q ->
  wpAny (model X.prog X.w) X.A (assign target X.env u) (fun _ s'=>∃ σ' H',Inv X pins σ' H' s'/\Q σ' H') X.xe s
noncomputable def PGs (X:Cx)(ts:List Expr)(t:TGs):Prop :=
 ∀ (pins:List (Addr × Obj)) (s:Shared) (σ:St) (H:Hp) (vs:List V) (us:List Value) (Q:St->Hp->Prop),Inv X pins σ H s->Vals vs us->t vs σ H Q ->
  wpAny (model X.prog X.w) X.A (assignInOrder ((assignEach ts X.env).map (·.2)) us) (fun _ s'=>∃ σ' H',Inv X pins σ' H' s'/\Q σ' H') X.xe s
noncomputable abbrev TSet:=V->V->V->Hp->(Hp->Prop)->Prop
noncomputable def PSet (X:Cx)(t:TSet):Prop :=
 ∀ (pins:List (Addr × Obj)) (s:Shared) (σ:St) (H:Hp) (o i v:V) (ov iv u:Value) (Q:Hp->Prop),Inv X pins σ H s->RelV o ov->RelV i iv->RelV v u->t o i v H Q ->
  wpAny (model X.prog X.w) X.A (setItem ov iv u) (fun _ s'=>∃ H',Inv X pins σ H' s'/\Q H') X.xe s
noncomputable abbrev TIp:=V->V->Hp->VK->Prop
noncomputable def PIp (X:Cx)(op:Operator)(t:TIp):Prop :=
 ∀ (pins:List (Addr × Obj)) (s:Shared) (σ:St) (H:Hp) (x y:V) (v u:Value) (Q:VK),Inv X pins σ H s->RelV x v->RelV y u->t x y H Q ->
  wpAny (model X.prog X.w) X.A (inplaceOp op v u) (EP X pins σ Q) X.xe s
section
variable {X:Cx}{pos:Pos}
noncomputable def gName (i:Nat):TG:=fun v σ H Q=>Q (σ.set i (some v)) H
theorem pg_name {i:Nat}{x:Str}(hN:X.N.Nodup)(hi:X.N[i]?=some x)(hx:Loc X.env.scope x)(hf:X.fn x=true\/X.env.scope.names.lookup x=some .local:=by first | exact .inl rfl | exact .inr rfl | assumption):PG X (.Name x pos) (gName i):=by
 intro pins s σ H v u Q I r h
 exact wpAny_assign_Name (store_ok I hN hi hx r (fun s' I'=>⟨_,H,I',h⟩) hf)
noncomputable def gNil:TGs:=fun vs σ H Q=>vs=[]/\Q σ H
noncomputable def gCons (t:TG)(u:TGs):TGs:=fun vs σ H Q=>∃ v r,vs=v :: r/\t v σ H fun σ' H'=>u r σ' H' Q
theorem pgs_nil:PGs X [] gNil:=by
 intro pins s σ H vs us Q I r h
 obtain ⟨e,h⟩:=h
 subst e
 cases r
 exact assignInOrder_nil ⟨σ,H,I,h⟩
theorem pgs_cons {e:Expr}{es:List Expr}{t:TG}{u:TGs}(h1:PG X e t)(h2:PGs X es u)
  (hs:(assignEach (e :: es) X.env).map (·.2)=assign e X.env :: (assignEach es X.env).map (·.2):=by rfl):PGs X (e :: es) (gCons t u):=by
 intro pins s σ H vs us Q I r h
 obtain ⟨v,vr,e1,h⟩:=h
 subst e1
 cases r with
 | cons r rr =>
  rw [hs]
  refine assignInOrder_cons (thn (h1 pins s σ H _ _ _ I r h) fun _ s1 ⟨σ1,H1,I1,q1⟩=>?_)
  exact h2 pins s1 σ1 H1 _ _ Q I1 rr q1
noncomputable def gTup (K:PySem.W.Frag)(n:Nat)(t:TGs):TG:=fun v σ H Q=>∃ a xs,v=.ref a/\SqT K H a xs/\xs.length=n/\t xs σ H Q
theorem pg_tup {es:List Expr}{k:Nat}{t:TGs}{n:Nat}(hc:X.calm=true)(h:PGs X es t)
  (hn:(assignEach es X.env).length=n:=by rfl) (hst:(assignEach es X.env).findIdx? (·.1)=none:=by rfl):PG X (.Tuple es k pos) (gTup X.K n t):=by
 intro pins s σ H v u Q I r hw
 obtain ⟨a,xs,e1,hq,hl,hw⟩:=hw
 subst e1
 cases r
 obtain ⟨its,rv,ht,hz⟩:=I.tuple hq
 refine assign_Tuple_tuple (I.ok.hd hc) ht (by simp [hn,<- hl,rv.length]) hst fun h' hx=>?_
 have I1:Inv X pins σ H { s with heap:=h' }:=I.kept (t':=s.toks) fun b o e=>hx b o (Nat.ne_of_lt (Heap.lt_size e)) e
 exact h pins _ σ H xs _ Q I1 (by simpa using rv) hw
noncomputable def gSub (to ti:TE)(t:TSet):TG:=fun v σ H Q=>to σ H fun o H1=>ti σ H1 fun i H2=>t o i v H2 fun H3=>Q σ H3
theorem pg_sub {o i:Expr}{to ti:TE}{t:TSet}(ho:PE X o to)(hi:PE X i ti)(hs:PSet X t)
  (ha:∀ v,assign (.Subscript o i pos) X.env v=(do
   let ov <- holding [v] (eval o X.env)
   let iv <- holding [v,ov] (eval i X.env)
   standAt pos
   holding [v,ov,iv] (setItem ov iv v)
   release [v,ov,iv] []):=by intro _; rfl):PG X (.Subscript o i pos) (gSub to ti t):=by
 intro pins s σ H v u Q I r h
 rw [ha]
 refine wpAny_bind (wpAny_holding (thn (ho pins s σ H _ I h) fun ov s1 ⟨x,H1,I1,r1,q1⟩=>?_))
 refine wpAny_bind (wpAny_holding (thn (hi pins s1 σ H1 _ I1 q1) fun iv s2 ⟨y,H2,I2,r2,q2⟩=>?_))
 refine wpAny_bind (wpAny_standAt (wpAny_bind (wpAny_holding (thn (hs pins s2 σ H2 x y v ov iv u _ I2 r1 r2 r q2) fun _ s3 ⟨H3,I3,q3⟩=>?_))))
 exact wpAny_release ⟨σ,H3,I3,q3⟩
noncomputable def tAsg (te:TE)(g:TG):TS:=fun D σ H=>te σ H fun x H1=>g x σ H1 D.nx
theorem ps_asg {tg e:Expr}{te:TE}{g:TG}(he:PE X e te)(hg:PG X tg g)(hs:swapsWithSole [tg] e pos.line X.env=pure false:=by rfl)(hw:swappedStores [tg] e X.env=pure none:=by rfl)
  (h1:(assignEach [tg] X.env).map (·.2)=[assign tg X.env]:=by rfl):PS X (.Assign [tg] e pos) (tAsg te g):=by
 intro pins s σ H D I h
 refine wpAny_Assign_stores (thn (he pins s σ H _ I h) fun v s1 ⟨x,H1,I1,r1,q1⟩=>?_) hs hw
 rw [h1]
 exact thn (hg pins s1 σ H1 x v _ I1 r1 q1) fun _ s2 q=>q
theorem ps_set {i:Nat}{x:Str}{e:Expr}{te:TE}{pos':Pos}(hN:X.N.Nodup)(hi:X.N[i]?=some x)(hx:Loc X.env.scope x)(he:PE X e te)(hs:swapsWith e (some (.Name x pos')) pos.line X.env=pure false:=by rfl)(hf:X.fn x=true\/X.env.scope.names.lookup x=some .local:=by first | exact .inl rfl | exact .inr rfl | assumption) :
  PS X (.Assign [.Name x pos'] e pos) (tAsg te (gName i)):=by
 intro pins s σ H D I h
 refine wpAny_Assign_Name (thn (he pins s σ H _ I h) fun v s1 ⟨y,H1,I1,r1,q1⟩=>?_) hs
 exact store_ok I1 hN hi hx r1 (fun s2 I2=>⟨_,H1,I2,q1⟩) hf
noncomputable def tAugS (to ti te:TE)(tget:V->V->Hp->VK->Prop)(tip:TIp)(tset:TSet):TS:=fun D σ H=>to σ H fun o H1=>ti σ H1 fun i H2=>tget o i H2 fun x H3=>te σ H3 fun y H4=>tip x y H4 fun z H5=>tset o i z H5 fun H6=>D.nx σ H6
noncomputable def PGet (X:Cx)(t:V->V->Hp->VK->Prop):Prop :=
 ∀ (pins:List (Addr × Obj)) (s:Shared) (σ:St) (H:Hp) (o i:V) (ov iv:Value) (Q:VK),Inv X pins σ H s->RelV o ov->RelV i iv->t o i H Q ->
  wpAny (model X.prog X.w) X.A (getItem ov iv) (EP X pins σ Q) X.xe s
theorem ps_augS {o i e:Expr}{to ti te:TE}{tget:V->V->Hp->VK->Prop}{tip:TIp}{tset:TSet}{op:Operator}{tpos:Pos}(ho:PE X o to)(hi:PE X i ti)(hg:PGet X tget)(he:PE X e te)(hp:PIp X op tip)(hs:PSet X tset)
  (ha:∀ ov iv new,augStore i ov iv new=(do holding [new,ov,iv] (setItem ov iv new); release [new,ov,iv] []; pure .next):=by intros; rfl):PS X (.AugAssign (.Subscript o i tpos) op e pos) (tAugS to ti te tget tip tset):=by
 intro pins s σ H D I h
 refine wpAny_AugAssign_SubscriptAny (thn (ho pins s σ H _ I h) fun ov s1 ⟨x1,H1,I1,r1,q1⟩=>?_) ha
 refine thn (hi pins s1 σ H1 _ I1 q1) fun iv s2 ⟨x2,H2,I2,r2,q2⟩=>?_
 refine thn (hg pins s2 σ H2 x1 x2 ov iv _ I2 r1 r2 q2) fun old s3 ⟨x3,H3,I3,r3,q3⟩=>?_
 refine thn (he pins s3 σ H3 _ I3 q3) fun v s4 ⟨x4,H4,I4,r4,q4⟩=>?_
 refine thn (hp pins s4 σ H4 x3 x4 old v _ I4 r3 r4 q4) fun new s5 ⟨x5,H5,I5,r5,q5⟩=>?_
 exact thn (hs pins s5 σ H5 x1 x2 x5 ov iv new _ I5 r1 r2 r5 q5) fun _ s6 ⟨H6,I6,q6⟩=>⟨σ,H6,I6,q6⟩
noncomputable def ipI (f:Int->Int->Int):TIp:=fun x y H Q=>∃ i j,x=.int i/\y=.int j/\Q (.int (f i j)) H
theorem ip_add:PIp X .Add (ipI fun i j=>i + j):=by
 intro pins s σ H x y v u Q I r1 r2 h
 obtain ⟨i,j,e1,e2,q⟩:=h
 subst e1; subst e2
 obtain ⟨t,rfl⟩:=r1
 obtain ⟨t',rfl⟩:=r2
 exact iadd_int ⟨.int _,H,I.tok _,⟨_,rfl⟩,q⟩
end
section
variable {X:Cx}{pos:Pos}
end
structure It where
 go:Nat->Hp->Prop
 yld:Nat->Hp->V->Hp->Prop
 stop:Nat->Hp->Prop
noncomputable def FpOk (X:Cx)(pins:List (Addr × Obj))(H:Hp)(b:Addr):Prop :=
 H b=none/\b ≠ X.env.locals/\b ∉ X.fs/\(b ∈ X.ex\/X.s₀.heap.objs.size<=b)/\(∀ x c,X.env.cells.lookup x=some c->c ≠ b)/\∀ p ∈ X.pn++pins,p.1 ≠ b
theorem Inv.fpOk {X:Cx}{pins:List (Addr × Obj)}{σ:St}{H H':Hp}{s:Shared}{b:Addr}(I:Inv X pins σ H s)(hb:s.heap.objs.size<=b)(hn:H' b=none):FpOk X pins H' b:=by
 refine ⟨hn,Nat.ne_of_gt (Nat.lt_of_lt_of_le I.lt hb),I.nofs hb,.inr (Nat.le_trans I.sz hb),fun x c e z=>?_,fun p hp z=>?_⟩
 ·obtain ⟨v,q⟩:=I.cell x c e
  exact absurd (Nat.lt_of_lt_of_le q.lt (by rw [z]; exact hb)) (Nat.lt_irrefl _)
 ·exact absurd (Nat.lt_of_lt_of_le (Heap.lt_size (I.pin p hp).1) (by rw [z]; exact hb)) (Nat.lt_irrefl _)
structure Turn (P:Program)(w:World)(K:PySem.W.Frag)(tg:Expr)(J:It)(fp:List Addr)(it:Addr)(tn:Nat->Heap->Prop):Prop where
 mem:it ∈ fp
 obj:∀ i h,tn i h->∀ b ∈ fp,∃ o,h.get? b=some o/\∀ v,o.data ≠ .cell v
 keep:∀ i h h',tn i h->(∀ b ∈ fp,∀ o,h.get? b=some o->h'.get? b=some o)->tn i h'
 item:∀ (X:Cx),X.prog=P->X.w=w->X.K=K->X.calm=true->∀ (i:Nat) (pins:List (Addr × Obj)) (s:Shared) (σ:St) (H:Hp) (E:Value->Shared->Prop),Inv X pins σ H s->(∀ b ∈ fp,FpOk X pins H b)->tn i s.heap->J.go i H ->
  wpAny (model P w) X.A (pyNext (.ref it)) (fun r s1=>∃ u,r=some u /\
   wpAny (model P w) X.A (letOwnedTupleGo tg (.ref it) u) (fun _ s2=>∃ x H',Inv X pins σ H' s2/\RelV x u/\J.yld i H x H'/\tn (i + 1) s2.heap/\∀ b ∈ fp,H' b=none) E s1) E s
 done:∀ (X:Cx),X.prog=P->X.w=w->X.K=K->X.calm=true->∀ (i:Nat) (pins:List (Addr × Obj)) (s:Shared) (σ:St) (H:Hp) (E:Value->Shared->Prop),Inv X pins σ H s->(∀ b ∈ fp,FpOk X pins H b)->tn i s.heap->J.stop i H ->
  wpAny (model P w) X.A (pyNext (.ref it)) (fun r s1=>r=none/\Inv X pins σ H s1) E s
 self:∀ (A:Around) (i:Nat) (s:Shared) (Q:Value->Shared->Prop) (E:Value->Shared->Prop),tn i s.heap->Q (.ref it) s->wpAny (model P w) A (pyIter (.ref it)) Q E s
noncomputable abbrev TI:=St->Hp->(It->Hp->Prop)->Prop
noncomputable def PIE (X:Cx)(pins:List (Addr × Obj))(σ:St)(tg:Expr)(R:It->Hp->Prop)(itv:Value)(s2:Shared):Prop :=
 ∃ (it:Addr) (fp:List Addr) (tn:Nat->Heap->Prop) (J:It) (H':Hp),itv=.ref it/\Inv X pins σ H' s2/\Turn X.prog X.w X.K tg J fp it tn/\tn 0 s2.heap/\(∀ b ∈ fp,FpOk X pins H' b)/\R J H'
noncomputable def PI (X:Cx)(tg iter:Expr)(wi:TI):Prop :=
 ∀ (pins:List (Addr × Obj)) (s:Shared) (σ:St) (H:Hp) (R:It->Hp->Prop),Inv X pins σ H s->wi σ H R ->
  wpAny (model X.prog X.w) X.A (eval iter X.env) (fun v s1=>wpAny (model X.prog X.w) X.A (pyIter v) (PIE X pins σ tg R) X.xe s1) X.xe s
theorem go_of {M:Model}{A:Around}{E:Value->Shared->Prop}{s:Shared}{tg:Expr}{it:Addr}{u:Value}{o:Obj}{n:String}{vs:Array Value}{Q:Unit->Shared->Prop}(ho:s.heap.get? it=some o)(hc:o.cls=.type n)(hd:o.data=.fields vs)
    (hn:["enumerate","zip","dict_itemiterator","dict_reverseitemiterator","odict_iterator","itertools.zip_longest","itertools.pairwise"].contains n=false) (hQ:Q () s):wpAny M A (letOwnedTupleGo tg (.ref it) u) Q E s:=by
  unfold letOwnedTupleGo
  cases tg <;> first
    | exact wpAny_pure hQ
    | (cases u <;> first
        | exact wpAny_pure hQ
        | (refine wpAny_bind (wpAny_load ho ?_)
           rw [hc,hd]
           show wpAny M A (if (["enumerate","zip","dict_itemiterator","dict_reverseitemiterator","odict_iterator","itertools.zip_longest","itertools.pairwise"].contains n && vs[0]? == some (rawInt _))=true then _ else _) Q E s
           rw [if_neg (by intro h; rw [hn,Bool.false_and] at h; cases h)]
           exact wpAny_pure hQ))
noncomputable def Itl (K:PySem.W.Frag)(a:Addr):It :=
 ⟨fun i H=>∃ xs x,SqL K H a xs/\xs[i]?=some x,fun i H x H'=>H'=H/\∀ xs,SqL K H a xs->xs[i]?=some x,fun i H=>∃ xs,SqL K H a xs/\xs.length<=i⟩
noncomputable def Itr (lo:Int)(n:Nat):It:=⟨fun i _=>i < n,fun i H x H'=>H'=H/\x=.int (lo + i),fun i _=>n<=i⟩
theorem turn_list {P:Program}{w:World}{K:PySem.W.Frag}{tg:Expr}(a it:Addr):Turn P w K tg (Itl K a) [it] it (fun i h=>h.IsListIter it a i) where
 mem:=by simp
 obj:=fun i h st b hb=>by
  have e:b=it:=by simpa using hb
  subst e
  obtain ⟨o,e,c,d⟩:=st
  exact ⟨o,e,fun v z=>by rw [d] at z; cases z⟩
 keep:=fun i h h' st k=>st.at fun o e=>k it (by simp) o e
 item:=by
  intro X hP hw hK hc i pins s σ H E I hf st hg
  subst hP hw hK
  obtain ⟨xs,x,hq,hx⟩:=hg
  obtain ⟨its,rv,p,hz⟩:=I.list hq
  obtain ⟨u,hu,ru⟩:=rv.get hx
  obtain ⟨f0,f1,f2,f3,f4,f5⟩:=hf it (by simp)
  refine wpAny_pyNext_list_item st p.isList (x:=u) (by simpa using hu) fun h' st' sb=>?_
  have I1:Inv X pins σ H { s with heap:=h' }:=I.turned (t':=s.toks) (fun b o hb e=>(sb.2 b hb).trans e) f0 f1 f3 f4 f5
  obtain ⟨o,e,c,d⟩:=id st'
  exact ⟨u,rfl,go_of (s:={ s with heap:=h' }) e c d (by decide) ⟨x,H,I1,ru,⟨rfl,fun ys hy=>by rw [I.list_inj hy hq]; exact hx⟩,st',fun b hb=>(hf b hb).1⟩⟩
 done:=by
  intro X hP hw hK hc i pins s σ H E I hf st hg
  subst hP hw hK
  obtain ⟨xs,hq,hx⟩:=hg
  obtain ⟨its,rv,p,hz⟩:=I.list hq
  obtain ⟨f0,f1,f2,f3,f4,f5⟩:=hf it (by simp)
  have hl:=rv.length
  exact wpAny_pyNext_list_end (I.ok.hd hc) st p.isList (by simp; omega) fun h' eb=>⟨rfl,I.turned (t':=s.toks) (fun b o hb e=>eb b o hb e) f0 f1 f3 f4 f5⟩
 self:=fun _ _ _ _ _ st h=>wpAny_pyIter_listiter st h
theorem turn_range {P:Program}{w:World}{K:PySem.W.Frag}{tg:Expr}(it:Addr)(lo:Int)(n:Nat):Turn P w K tg (Itr lo n) [it] it (fun i h=>IsRangeIter h it (lo + (i:Nat) * 1) ((n:Int) - (i:Nat)) 1) where
 mem:=by simp
 obj:=fun i h st b hb=>by
  have e:b=it:=by simpa using hb
  subst e
  exact ⟨_,st,fun v z=>by
   have z':Data.fields _=Data.cell v:=z
   cases z'⟩
 keep:=fun i h h' st k=>k it (by simp) _ st
 item:=by
  intro X hP hw hK hc i pins s σ H E I hf st hg
  subst hP hw hK
  obtain ⟨f0,f1,f2,f3,f4,f5⟩:=hf it (by simp)
  have W:=Walks.range (prog:=X.prog) (w:=X.w) (I.ok.hd hc) it lo 1 n
  refine W.item i s _ _ hg st fun v h' tk hv st' kk=>?_
  obtain ⟨t,rfl⟩:=hv
  have I1:Inv X pins σ H { s with heap:=h',toks:=tk }:=I.turned (fun b o hb e=>kk b o (by simpa using hb) e) f0 f1 f3 f4 f5
  refine ⟨_,rfl,go_of (s:={ s with heap:=h',toks:=tk }) (n:="range_iterator") st' rfl rfl (by decide) ⟨.int (lo + i),H,I1,⟨t,?_⟩,⟨rfl,rfl⟩,st',fun b hb=>(hf b hb).1⟩⟩
  rw [Int.mul_one]
 done:=by
  intro X hP hw hK hc i pins s σ H E I hf st hg
  subst hP hw hK
  obtain ⟨f0,f1,f2,f3,f4,f5⟩:=hf it (by simp)
  exact wpAny_pyNext_range_end (I.ok.hd hc) st (by have:n<=i:=hg; omega) fun h' eb=>⟨rfl,I.turned (t':=s.toks) (fun b o hb e=>eb b o hb e) f0 f1 f3 f4 f5⟩
 self:=fun _ _ _ _ _ st h=>wpAny_pyIter_rangeiter st h
end L2
namespace L2
open PySem PySem.Spec PyProof.Rows
section
variable {X:Cx}{tg:Expr}
noncomputable def iList (K:PySem.W.Frag)(tl:TE):TI:=fun σ H R=>tl σ H fun x H1=>∃ a,x=.ref a/\(∃ xs,SqL K H1 a xs)/\R (Itl K a) H1
theorem pi_list {l:Expr}{tl:TE}(hl:PE X l tl):PI X tg l (iList X.K tl):=by
 intro pins s σ H R I h
 refine thn (hl pins s σ H _ I h) fun v s1 ⟨x,H1,I1,r1,q1⟩=>?_
 obtain ⟨a,e,⟨xs,hq⟩,q⟩:=q1
 subst e
 cases r1
 obtain ⟨its,rv,p,hz⟩:=I1.list hq
 refine wpAny_pyIter_list p.isList ?_
 refine ⟨s1.heap.objs.size,[s1.heap.objs.size],_,_,H1,rfl,I1.kept (t':=s1.toks) fun b o e=>Heap.get?_push_of_some _ e,turn_list a _,⟨_,Heap.get?_push_size _ rfl,rfl,rfl⟩,fun b hb=>?_,q⟩
 have e:b=s1.heap.objs.size:=by simpa using hb
 subst e
 exact I1.fpOk (Nat.le_refl _) (I1.hok.fresh (Nat.le_refl _))
theorem range_it {pins:List (Addr × Obj)}{σ:St}{H:Hp}{s:Shared}{R:It->Hp->Prop}{E:Value->Shared->Prop}{lo hi:Int}{t u v:Tok}{tk:Nat}(I:Inv X pins σ H s)(h1:-(2 ^ 62)<=lo)(h2:lo < 2 ^ 62)(h3:-(2 ^ 62)<=hi)(h4:hi < 2 ^ 62)
  (q:R (Itr lo (hi - lo).toNat) H):wpAny (model X.prog X.w) X.A (pyIter (.ref s.heap.objs.size)) (PIE X pins σ tg R) E { s with heap:=s.heap.push { cls:=.type "range",data:=.fields #[.int lo t,.int hi u,.int 1 v] },toks:=tk }:=by
 refine wpAny_pyIter_range (IsRange.new ..) (small_one h1 h2 h3 h4) ?_
 have I1:Inv X pins σ H { s with heap:=s.heap.push { cls:=.type "range",data:=.fields #[.int lo t,.int hi u,.int 1 v] },toks:=tk }:=I.kept fun b o e=>Heap.get?_push_of_some _ e
 refine ⟨(s.heap.push { cls:=.type "range",data:=.fields #[.int lo t,.int hi u,.int 1 v] }).objs.size,[(s.heap.push { cls:=.type "range",data:=.fields #[.int lo t,.int hi u,.int 1 v] }).objs.size],_,_,H,rfl,
  I1.kept (t':=tk) fun b o e=>Heap.get?_push_of_some _ e,turn_range _ lo (hi - lo).toNat,?_,fun b hb=>?_,q⟩
 ·have e1:lo + ((0:Nat):Int) * 1=lo:=by simp
  have e2:(((hi - lo).toNat:Nat):Int) - ((0:Nat):Int)=Builtin.Range.rangeSize lo hi 1:=by rw [rangeSize_one]; split <;> omega
  show IsRangeIter _ _ (lo + ((0:Nat):Int) * 1) ((((hi - lo).toNat:Nat):Int) - ((0:Nat):Int)) 1
  rw [e1,e2]
  exact Heap.get?_push_size _ rfl
 ·have e:b=(s.heap.push { cls:=.type "range",data:=.fields #[.int lo t,.int hi u,.int 1 v] }).objs.size:=by simpa using hb
  subst e
  exact I1.fpOk (Nat.le_refl _) (I1.hok.fresh (Nat.le_refl _))
noncomputable def iRng1 (ta:TA):TI:=fun σ H R=>ta σ H fun vs H1=>∃ j:Int,vs=[.int j]/\-(2 ^ 62)<=j/\j < 2 ^ 62/\R (Itr 0 j.toNat) H1
noncomputable def iRng2 (ta:TA):TI:=fun σ H R=>ta σ H fun vs H1=>∃ i j:Int,vs=[.int i,.int j]/\(-(2 ^ 62)<=i/\i < 2 ^ 62/\-(2 ^ 62)<=j/\j < 2 ^ 62)/\R (Itr i (j - i).toNat) H1
theorem pi_range1 {a:Expr}{ta:TA}{p pos:Pos}(hg:Gl X "range")(hm:X.mg "range"=none)(ha:PA X [a] ta)(hs:starEach [a] X.env=[(false,eval a X.env)]:=by rfl):PI X tg (.Call (.Name "range" p) [a] [] pos) (iRng1 ta):=by
 intro pins s σ H R I h
 refine Call_ (ld_blt I hg hm boot_range (PyProof.Rows.callWith_type1 (thn (ha pos pins s σ H _ I h) fun us s1 ⟨vs,H1,I1,r1,q1⟩=>?_) hs rfl))
 obtain ⟨j,e,q1,q2,q⟩:=q1
 subst e
 cases r1 with
 | cons r rr =>
  cases rr
  obtain ⟨t,rfl⟩:=r
  exact call_range_1 (range_it I1 (by omega) (by omega) q1 q2 (by simpa using q))
theorem pi_range2 {a b:Expr}{ta:TA}{p pos:Pos}(hg:Gl X "range")(hm:X.mg "range"=none)(ha:PA X [a,b] ta)(hs:starEach [a,b] X.env=[(false,eval a X.env),(false,eval b X.env)]:=by rfl)(hs2:starEach [b] X.env=[(false,eval b X.env)]:=by rfl) :
  PI X tg (.Call (.Name "range" p) [a,b] [] pos) (iRng2 ta):=by
 intro pins s σ H R I h
 refine Call_ (ld_blt I hg hm boot_range (PyProof.Rows.callWith_type1 (thn (ha pos pins s σ H _ I h) fun us s1 ⟨vs,H1,I1,r1,q1⟩=>?_) (by rw [hs,hs2]) (by rw [hs2]; rfl)))
 obtain ⟨i,j,e,⟨q1,q2,q3,q4⟩,q⟩:=q1
 subst e
 cases r1 with
 | cons r rr =>
  cases rr with
  | cons r' rr =>
   cases rr
   obtain ⟨t,rfl⟩:=r
   obtain ⟨t',rfl⟩:=r'
   exact call_range_2 (range_it I1 q1 q2 q3 q4 q)
noncomputable def tFor (wi:TI)(g:TG)(tb:TS):TS:=fun D σ H=>wi σ H fun J H1=>∃ W:Nat->Nat->St->Hp->Prop,(∃ m,W 0 m σ H1)/\∀ i m σ H,W i m σ H ->
 (J.stop i H/\D.nx σ H)\/(J.go i H/\∃ N:St->Hp->Prop,(∀ σ' H',N σ' H'->∃ m',m' < m/\W (i + 1) m' σ' H')/\∀ x H',J.yld i H x H'->g x σ H' fun σ2 H2=>tb { D with nx:=N,ct:=N,bk:=D.nx } σ2 H2)
noncomputable def pinsAt (fp:List Addr)(h:Heap):List (Addr × Obj):=fp.filterMap fun b=>(h.get? b).map fun o=>(b,o)
theorem mem_pinsAt {fp:List Addr}{h:Heap}{b:Addr}{o:Obj}(hb:b ∈ fp)(e:h.get? b=some o):(b,o) ∈ pinsAt fp h:=List.mem_filterMap.mpr ⟨b,hb,by rw [e]; rfl⟩
theorem of_pinsAt {fp:List Addr}{h:Heap}{p:Addr × Obj}(hp:p ∈ pinsAt fp h):p.1 ∈ fp/\h.get? p.1=some p.2:=by
 obtain ⟨b,hb,e⟩:=List.mem_filterMap.mp hp
 cases q:h.get? b with
 | none=>rw [q] at e; cases e
 | some o =>
  rw [q] at e
  have e':(b,o)=p:=Option.some.inj e
  subst e'
  exact ⟨hb,q⟩
theorem Inv.pinned {pins:List (Addr × Obj)}{σ:St}{H:Hp}{s:Shared}{fp:List Addr}(I:Inv X pins σ H s)(hf:∀ b ∈ fp,FpOk X pins H b)(ho:∀ b ∈ fp,∃ o,s.heap.get? b=some o/\∀ v,o.data ≠ .cell v):Inv X (pins++pinsAt fp s.heap) σ H s :=
 I.pins_of fun p hp=>(List.mem_append.mp hp).elim (fun z=>I.pin p (List.mem_append_right _ z)) fun z=>by
  obtain ⟨hb,e⟩:=of_pinsAt z
  obtain ⟨f0,f1,f2,_⟩:=hf p.1 hb
  obtain ⟨o,e',d⟩:=ho p.1 hb
  rw [e] at e'; cases e'
  exact ⟨e,f0,f1,f2,d⟩
theorem Inv.unpinned {pins pl:List (Addr × Obj)}{σ:St}{H:Hp}{s:Shared}(I:Inv X (pins++pl) σ H s):Inv X pins σ H s:=I.pins_of fun p hp=>I.pin p (List.mem_append_right _ (List.mem_append_left _ hp))
theorem ps_for {iter:Expr}{body:List Stmt}{wi:TI}{g:TG}{tb:TS}{pos:Pos}(hp:PassesOwn (model X.prog X.w) X.A X.env X.xe)(hc:X.calm=true)(hi:PI X tg iter wi)(hg:PG X tg g)(hb:PSs X body tb)
  (hs:∀ x,foldedSetIterable iter X.env x=pure x:=by intro _; rfl):PS X (.For tg iter body [] pos) (tFor wi g tb):=by
 intro pins s σ H D I h
 refine wpAny_For (thn (hi pins s σ H _ I h) fun v s1 h1=>thn h1 fun itv s2 h2=>?_) hs
 obtain ⟨it,fp,tn,J,H2,e,I2,T,st2,f2,W,⟨m0,w0⟩,turn⟩:=h2
 subst e
 have stat:∀ {H':Hp},(∀ b ∈ fp,H' b=none)->∀ b ∈ fp,FpOk X pins H' b:=fun hn b hb=>⟨hn b hb,(f2 b hb).2⟩
 refine codeAny_forLoop_any (fun n s'=>∃ i σ' H',Inv X pins σ' H' s'/\tn i s'.heap/\(∀ b ∈ fp,H' b=none)/\W i n σ' H') ?_ m0 ⟨0,σ,H2,I2,st2,fun b hb=>(f2 b hb).1,w0⟩
 rintro n s3 ⟨i,σ3,H3,I3,st3,fr3,w3⟩
 rcases turn i n σ3 H3 w3 with ⟨stop,qn⟩ | ⟨go,N,hN,step⟩
 ·refine wpAny_passesOwn hp (thn (T.done X rfl rfl rfl hc i pins s3 σ3 H3 X.xe I3 (stat fr3) st3 stop) fun r s4 ⟨hr,I4⟩=>?_)
  subst hr
  exact wpAny_execs_nil ⟨σ3,H3,I4,qn⟩
 ·refine wpAny_passesOwn hp (thn (T.item X rfl rfl rfl hc i pins s3 σ3 H3 X.xe I3 (stat fr3) st3 go) fun r s4 ⟨u,hr,h4⟩=>?_)
  subst hr
  refine wpAny_passesOwn hp (thn h4 fun _ s5 ⟨x,H5,I5,r5,y5,st5,fr5⟩=>?_)
  have I5':=I5.pinned (stat fr5) (T.obj _ _ st5)
  refine wpAny_passesOwn hp (thn (hg _ s5 σ3 H5 x u _ I5' r5 (step x H5 y5)) fun _ s6 ⟨σ6,H6,I6,q6⟩=>?_)
  refine wpAny_passesOwn hp (thn (hb _ s6 σ6 H6 _ I6 q6) fun f s7 q7=>?_)
  have again:∀ {σ7:St} {H7:Hp},Inv X (pins++pinsAt fp s5.heap) σ7 H7 s7->N σ7 H7->∃ m,m < n/\∃ i σ' H',Inv X pins σ' H' s7/\tn i s7.heap/\(∀ b ∈ fp,H' b=none)/\W i m σ' H':=fun {σ7 H7} I7 n7=>by
   obtain ⟨m',hm,w7⟩:=hN σ7 H7 n7
   refine ⟨m',hm,i + 1,σ7,H7,I7.unpinned,T.keep _ _ _ st5 fun b hb o e=>(I7.pin (b,o) (List.mem_append_right _ (List.mem_append_right _ (mem_pinsAt hb e)))).1,fun b hb=>?_,w7⟩
   obtain ⟨o,e,d⟩:=T.obj _ _ st5 b hb
   exact (I7.pin (b,o) (List.mem_append_right _ (List.mem_append_right _ (mem_pinsAt hb e)))).2.1
  cases f with
  | next=>obtain ⟨σ7,H7,I7,n7⟩:=q7; exact again I7 n7
  | cont=>obtain ⟨σ7,H7,I7,n7⟩:=q7; exact again I7 n7
  | brk=>obtain ⟨σ7,H7,I7,q7⟩:=q7; exact ⟨σ7,H7,I7.unpinned,q7⟩
  | ret v=>obtain ⟨x7,σ7,H7,I7,r7,q7⟩:=q7; exact ⟨x7,σ7,H7,I7.unpinned,r7,q7⟩
end
theorem for_list {K:PySem.W.Frag}{a:Addr}{xs:List V}{g:TG}{tb:TS}{D:Ends}{σ:St}{H:Hp}(Pv:Nat->St->Hp->Prop)(h0:Pv 0 σ H)(hl:∀ i σ H,i<=xs.length->Pv i σ H->SqL K H a xs)
  (hs:∀ i x σ H,xs[i]?=some x->Pv i σ H->g x σ H fun σ2 H2=>tb { D with nx:=Pv (i + 1),ct:=Pv (i + 1),bk:=D.nx } σ2 H2) (hd:∀ σ H,Pv xs.length σ H->D.nx σ H) :
  ∃ W:Nat->Nat->St->Hp->Prop,(∃ m,W 0 m σ H)/\∀ i m σ H,W i m σ H ->
   ((Itl K a).stop i H/\D.nx σ H)\/((Itl K a).go i H/\∃ N:St->Hp->Prop,(∀ σ' H',N σ' H'->∃ m',m' < m/\W (i + 1) m' σ' H')/\∀ x H',(Itl K a).yld i H x H'->g x σ H' fun σ2 H2=>tb { D with nx:=N,ct:=N,bk:=D.nx } σ2 H2):=by
 refine ⟨fun i m σ H=>m=xs.length - i/\i<=xs.length/\Pv i σ H,⟨xs.length,by simp,Nat.zero_le _,h0⟩,?_⟩
 rintro i m σ H ⟨rfl,hi,p⟩
 have q:=hl i σ H hi p
 by_cases hlt:i < xs.length
 ·refine .inr ⟨⟨xs,xs[i],q,by simp [hlt]⟩,Pv (i + 1),fun σ' H' p'=>⟨xs.length - (i + 1),by omega,rfl,hlt,p'⟩,fun x H' y=>?_⟩
  obtain ⟨e,y⟩:=y
  subst e
  exact hs i x σ _ (y xs q) p
 ·have e:i=xs.length:=by omega
  subst e
  exact .inl ⟨⟨xs,q,Nat.le_refl _⟩,hd σ H p⟩
theorem for_range {lo:Int}{n:Nat}{g:TG}{tb:TS}{D:Ends}{σ:St}{H:Hp}(Pv:Nat->St->Hp->Prop)(h0:Pv 0 σ H)
  (hs:∀ i σ H,i < n->Pv i σ H->g (.int (lo + i)) σ H fun σ2 H2=>tb { D with nx:=Pv (i + 1),ct:=Pv (i + 1),bk:=D.nx } σ2 H2) (hd:∀ σ H,Pv n σ H->D.nx σ H) :
  ∃ W:Nat->Nat->St->Hp->Prop,(∃ m,W 0 m σ H)/\∀ i m σ H,W i m σ H ->
   ((Itr lo n).stop i H/\D.nx σ H)\/((Itr lo n).go i H/\∃ N:St->Hp->Prop,(∀ σ' H',N σ' H'->∃ m',m' < m/\W (i + 1) m' σ' H')/\∀ x H',(Itr lo n).yld i H x H'->g x σ H' fun σ2 H2=>tb { D with nx:=N,ct:=N,bk:=D.nx } σ2 H2):=by
 refine ⟨fun i m σ H=>m=n - i/\i<=n/\Pv i σ H,⟨n,by simp,Nat.zero_le _,h0⟩,?_⟩
 rintro i m σ H ⟨rfl,hi,p⟩
 by_cases hlt:i < n
 ·refine .inr ⟨hlt,Pv (i + 1),fun σ' H' p'=>⟨n - (i + 1),by omega,rfl,hlt,p'⟩,fun x H' y=>?_⟩
  obtain ⟨e,y⟩:=y
  subst e y
  exact hs i σ _ hlt p
 ·have e:i=n:=by omega
  subst e
  exact .inl ⟨Nat.le_refl _,hd σ H p⟩
end L2
namespace L2
open PySem PySem.Spec PyProof.Rows
noncomputable abbrev R2:=V->V->Hp->VK->Prop
noncomputable def OpR (X:Cx)(f:Value->Value->Sem Value)(r:R2):Prop :=
 ∀ (pins:List (Addr × Obj)) (s:Shared) (σ:St) (H:Hp) (x y:V) (v u:Value) (Q:VK),Inv X pins σ H s->RelV x v->RelV y u->r x y H Q ->
  wpAny (model X.prog X.w) X.A (f v u) (EP X pins σ Q) X.xe s
noncomputable def UnR (X:Cx)(f:Value->Sem Value)(r:V->Hp->VK->Prop):Prop :=
 ∀ (pins:List (Addr × Obj)) (s:Shared) (σ:St) (H:Hp) (x:V) (v:Value) (Q:VK),Inv X pins σ H s->RelV x v->r x H Q ->
  wpAny (model X.prog X.w) X.A (f v) (EP X pins σ Q) X.xe s
noncomputable def CallR (X:Cx)(f:Value)(r:List V->Hp->VK->Prop):Prop :=
 ∀ (pins:List (Addr × Obj)) (s:Shared) (σ:St) (H:Hp) (xs:List V) (us:List Value) (Q:VK),Inv X pins σ H s->Vals xs us->r xs H Q ->
  wpAny (model X.prog X.w) X.A (call f us) (EP X pins σ Q) X.xe s
noncomputable def TruR (X:Cx)(r:V->Hp->(Bool->Hp->Prop)->Prop):Prop :=
 ∀ (pins:List (Addr × Obj)) (s:Shared) (σ:St) (H:Hp) (x:V) (v:Value) (Q:Bool->Hp->Prop),Inv X pins σ H s->RelV x v->r x H Q ->
  wpAny (model X.prog X.w) X.A (truthy v) (TP X pins σ Q) X.xe s
noncomputable def tOp (r:R2)(ta tb:TE):TE:=fun σ H Q=>ta σ H fun x H1=>tb σ H1 fun y H2=>r x y H2 Q
noncomputable def tUn (r:V->Hp->VK->Prop)(ta:TE):TE:=fun σ H Q=>ta σ H fun x H1=>r x H1 Q
noncomputable def rI (C:Int->Int->Prop)(g:Int->Int->V):R2:=fun x y H Q=>∃ i j,x=.int i/\y=.int j/\C i j/\Q (g i j) H
noncomputable def rI0 (g:Int->Int->V):R2:=fun x y H Q=>∃ i j,x=.int i/\y=.int j/\Q (g i j) H
noncomputable def rU (g:Int->V):V->Hp->VK->Prop:=fun x H Q=>∃ i,x=.int i/\Q (g i) H
section
variable {X:Cx}{a b c:Expr}{ta tb tc:TE}{pos:Pos}
theorem binT (ha:PE X a ta)(hb:PE X b tb){pins:List (Addr × Obj)}{s:Shared}{σ:St}{H:Hp}{R:V->V->Hp->Prop}(I:Inv X pins σ H s)
  (h:ta σ H fun x H1=>tb σ H1 fun y H2=>R x y H2) {Q:Value->Shared->Prop} {f:Value->Value->Sem Value}
  (hf:∀ v u s2 x y H2,Inv X pins σ H2 s2->RelV x v->RelV y u->R x y H2->wpAny (model X.prog X.w) X.A (f v u) Q X.xe s2) :
  wpAny (model X.prog X.w) X.A (eval a X.env) (fun v s₁=>wpAny (model X.prog X.w) X.A (eval b X.env) (fun u s₂=>wpAny (model X.prog X.w) X.A (f v u) Q X.xe s₂) X.xe s₁) X.xe s:=by
 refine thn (ha pins s σ H _ I h) fun v s1 ⟨x,H1,I1,r1,q1⟩=>?_
 refine thn (hb pins s1 σ H1 _ I1 q1) fun u s2 ⟨y,H2,I2,r2,q2⟩=>?_
 exact hf v u s2 x y H2 I2 r1 r2 q2
theorem pe_op {op:Operator}{r:R2}(ho:OpR X (binaryOp op) r)(ha:PE X a ta)(hb:PE X b tb):PE X (.BinOp a op b pos) (tOp r ta tb):=by
 intro pins s σ H Q I h
 exact wpAny_BinOp (binT ha hb I h fun v u s2 x y H2 I2 rx ry q=>ho pins s2 σ H2 x y v u Q I2 rx ry q)
theorem pe_un {op:UnaryOp}{r:V->Hp->VK->Prop}(ho:UnR X (unaryOp op) r)(ha:PE X a ta):PE X (.UnaryOp op a pos) (tUn r ta):=by
 intro pins s σ H Q I h
 exact UnaryOp_ (thn (ha pins s σ H _ I h) fun v s1 ⟨x,H1,I1,r1,q1⟩=>ho pins s1 σ H1 x v Q I1 r1 q1)
theorem opI {f:Value->Value->Sem Value}{C:Int->Int->Prop}{g:Int->Int->Int}
  (rule:∀ (i j:Int) (t u:Tok) (s:Shared) (Q:Value->Shared->Prop) (E:Value->Shared->Prop),C i j->Q (.int (g i j) s.toks) { s with toks:=s.toks + 1 }->wpAny (model X.prog X.w) X.A (f (.int i t) (.int j u)) Q E s) :
  OpR X f (rI C fun i j=>.int (g i j)):=by
 intro pins s σ H x y v u Q I rx ry h
 obtain ⟨i,j,rfl,rfl,hc,q⟩:=h
 obtain ⟨t,rfl⟩:=rx
 obtain ⟨t',rfl⟩:=ry
 exact rule i j t t' s _ _ hc ⟨.int (g i j),H,I.tok _,⟨_,rfl⟩,q⟩
theorem opI0 {f:Value->Value->Sem Value}{g:Int->Int->Int}
  (rule:∀ (i j:Int) (t u:Tok) (s:Shared) (Q:Value->Shared->Prop) (E:Value->Shared->Prop),Q (.int (g i j) s.toks) { s with toks:=s.toks + 1 }->wpAny (model X.prog X.w) X.A (f (.int i t) (.int j u)) Q E s) :
  OpR X f (rI0 fun i j=>.int (g i j)):=by
 intro pins s σ H x y v u Q I rx ry h
 obtain ⟨i,j,rfl,rfl,q⟩:=h
 obtain ⟨t,rfl⟩:=rx
 obtain ⟨t',rfl⟩:=ry
 exact rule i j t t' s _ _ ⟨.int (g i j),H,I.tok _,⟨_,rfl⟩,q⟩
theorem opB0 {f:Value->Value->Sem Value}{g:Int->Int->Bool}
  (rule:∀ (i j:Int) (t u:Tok) (s:Shared) (Q:Value->Shared->Prop) (E:Value->Shared->Prop),Q (.bool (g i j)) s->wpAny (model X.prog X.w) X.A (f (.int i t) (.int j u)) Q E s) :
  OpR X f (rI0 fun i j=>.bl (g i j)):=by
 intro pins s σ H x y v u Q I rx ry h
 obtain ⟨i,j,rfl,rfl,q⟩:=h
 obtain ⟨t,rfl⟩:=rx
 obtain ⟨t',rfl⟩:=ry
 exact rule i j t t' s _ _ ⟨.bl (g i j),H,I,rfl,q⟩
theorem op_add:OpR X (binaryOp .Add) (rI0 fun i j=>.int (i + j)):=opI0 fun _ _ _ _ _ _ _ q=>add_int q
theorem op_sub:OpR X (binaryOp .Sub) (rI0 fun i j=>.int (i - j)):=opI0 fun _ _ _ _ _ _ _ q=>sub_int q
theorem op_mod:OpR X (binaryOp .Mod) (rI (fun _ j=>0 < j) fun i j=>.int (i % j)):=opI fun i j _ _ _ _ _ hc q=>by
 have h1:(0:Int) < j:=hc
 exact mod_int' (by omega) (by rw [Int.fmod_eq_emod_of_nonneg i (by omega)]; exact q)
theorem unI {f:Value->Sem Value}{g:Int->Int}
  (rule:∀ (i:Int) (t:Tok) (s:Shared) (Q:Value->Shared->Prop) (E:Value->Shared->Prop),Q (.int (g i) s.toks) { s with toks:=s.toks + 1 }->wpAny (model X.prog X.w) X.A (f (.int i t)) Q E s) :
  UnR X f (rU fun i=>.int (g i)):=by
 intro pins s σ H x v Q I rx h
 obtain ⟨i,rfl,q⟩:=h
 obtain ⟨t,rfl⟩:=rx
 exact rule i t s _ _ ⟨.int (g i),H,I.tok _,⟨_,rfl⟩,q⟩
theorem un_neg:UnR X (unaryOp .USub) (rU fun i=>.int (-i)):=unI fun _ _ _ _ _ q=>neg_int q
end
noncomputable def scal:V->V->Bool
 | .non,.non=>true | .non,.int _=>true | .int _,.non=>true | .non,.bl _=>true | .bl _,.non=>true | .non,.str _=>true | .str _,.non=>true
 | .int _,.int _=>true | .bl _,.bl _=>true | .str _,.str _=>true | .byt _,.byt _=>true
 | .int _,.str _=>true | .str _,.int _=>true | .bl _,.str _=>true | .str _,.bl _=>true
 | _,_=>false
noncomputable def rEq:R2:=fun x y H Q=>scal x y=true/\Q (.bl (decide (x=y))) H
noncomputable def rNe:R2:=fun x y H Q=>scal x y=true/\Q (.bl (!decide (x=y))) H
theorem dec_int {i j:Int}:decide (V.int i=V.int j)=(i == j):=by
 rw [Bool.eq_iff_iff]
 simp
theorem dec_bl {i j:Bool}:decide (V.bl i=V.bl j)=(i == j):=by
 rw [Bool.eq_iff_iff]
 simp
theorem dec_str {i j:Str}:decide (V.str i=V.str j)=(i == j):=by
 rw [Bool.eq_iff_iff]
 simp
theorem dec_byt {i j:Array UInt8}:decide (V.byt i=V.byt j)=(i.toList == j.toList):=by
 rw [Bool.eq_iff_iff]
 cases i
 cases j
 simp
section
variable {X:Cx}{a b c:Expr}{ta tb tc:TE}{pos:Pos}
theorem fin_bl {pins:List (Addr × Obj)}{σ:St}{H:Hp}{s:Shared}{Q:VK}{k k':Bool}(I:Inv X pins σ H s)(q:Q (.bl k) H)(e:k=k'):EP X pins σ Q (.bool k') s:=by
 subst e
 exact ⟨.bl k,H,I,rfl,q⟩
theorem op_eq:OpR X (compareOp .Eq) rEq:=by
 intro pins s σ H x y v u Q I rx ry h
 obtain ⟨hs,q⟩:=h
 cases x with
 | non =>
  cases rx
  cases y with
  | non=>cases ry; exact PySem.EqNone.eq_none_none (fin_bl I q (by simp))
  | bl j=>cases ry; exact PySem.EqNone.eq_none_bool (fin_bl I q (by simp))
  | int j=>obtain ⟨t',rfl⟩:=ry; exact PySem.EqNone.eq_none_int (fin_bl I q (by simp))
  | str j=>obtain ⟨t',rfl⟩:=ry; exact PySem.EqNone.eq_none_str (fin_bl I q (by simp))
  | _=>exact absurd (show false=true from hs) Bool.false_ne_true
 | bl i =>
  cases rx
  cases y with
  | non=>cases ry; exact PySem.EqNone.eq_bool_none (fin_bl I q (by simp))
  | bl j=>cases ry; exact eq_bool (fin_bl I q dec_bl)
  | str j=>obtain ⟨t',rfl⟩:=ry; exact PySem.EqMixed.eq_bool_str (fin_bl I q (by simp))
  | _=>exact absurd (show false=true from hs) Bool.false_ne_true
 | int i =>
  obtain ⟨t,rfl⟩:=rx
  cases y with
  | non=>cases ry; exact PySem.EqNone.eq_int_none (fin_bl I q (by simp))
  | int j=>obtain ⟨t',rfl⟩:=ry; exact eq_int (fin_bl I q dec_int)
  | str j=>obtain ⟨t',rfl⟩:=ry; exact PySem.EqMixed.eq_int_str (fin_bl I q (by simp))
  | _=>exact absurd (show false=true from hs) Bool.false_ne_true
 | str i =>
  obtain ⟨t,rfl⟩:=rx
  cases y with
  | non=>cases ry; exact PySem.EqNone.eq_str_none (fin_bl I q (by simp))
  | bl j=>cases ry; exact PySem.EqMixed.eq_str_bool (fin_bl I q (by simp))
  | int j=>obtain ⟨t',rfl⟩:=ry; exact PySem.EqMixed.eq_str_int (fin_bl I q (by simp))
  | str j=>obtain ⟨t',rfl⟩:=ry; exact eq_str (fin_bl I q dec_str)
  | _=>exact absurd (show false=true from hs) Bool.false_ne_true
 | byt i =>
  obtain ⟨t,rfl⟩:=rx
  cases y with
  | byt j=>obtain ⟨t',rfl⟩:=ry; exact PySem.W.eq_bytes (fin_bl I q dec_byt)
  | _=>exact absurd (show false=true from hs) Bool.false_ne_true
 | _=>cases y <;> exact absurd (show false=true from hs) Bool.false_ne_true
theorem op_ne:OpR X (compareOp .NotEq) rNe:=by
 intro pins s σ H x y v u Q I rx ry h
 obtain ⟨hs,q⟩:=h
 cases x with
 | non =>
  cases rx
  cases y with
  | non=>cases ry; exact PySem.EqNone.ne_none_none (fin_bl I q (by simp))
  | bl j=>cases ry; exact PySem.EqNone.ne_none_bool (fin_bl I q (by simp))
  | int j=>obtain ⟨t',rfl⟩:=ry; exact PySem.EqNone.ne_none_int (fin_bl I q (by simp))
  | str j=>obtain ⟨t',rfl⟩:=ry; exact PySem.EqNone.ne_none_str (fin_bl I q (by simp))
  | _=>exact absurd (show false=true from hs) Bool.false_ne_true
 | bl i =>
  cases rx
  cases y with
  | non=>cases ry; exact PySem.EqNone.ne_bool_none (fin_bl I q (by simp))
  | bl j=>cases ry; exact ne_bool (fin_bl I q (congrArg not dec_bl))
  | str j=>obtain ⟨t',rfl⟩:=ry; exact PySem.EqMixed.ne_bool_str (fin_bl I q (by simp))
  | _=>exact absurd (show false=true from hs) Bool.false_ne_true
 | int i =>
  obtain ⟨t,rfl⟩:=rx
  cases y with
  | non=>cases ry; exact PySem.EqNone.ne_int_none (fin_bl I q (by simp))
  | int j=>obtain ⟨t',rfl⟩:=ry; exact ne_int (fin_bl I q (congrArg not dec_int))
  | str j=>obtain ⟨t',rfl⟩:=ry; exact PySem.EqMixed.ne_int_str (fin_bl I q (by simp))
  | _=>exact absurd (show false=true from hs) Bool.false_ne_true
 | str i =>
  obtain ⟨t,rfl⟩:=rx
  cases y with
  | non=>cases ry; exact PySem.EqNone.ne_str_none (fin_bl I q (by simp))
  | bl j=>cases ry; exact PySem.EqMixed.ne_str_bool (fin_bl I q (by simp))
  | int j=>obtain ⟨t',rfl⟩:=ry; exact PySem.EqMixed.ne_str_int (fin_bl I q (by simp))
  | str j=>obtain ⟨t',rfl⟩:=ry; exact ne_str (fin_bl I q (congrArg not dec_str))
  | _=>exact absurd (show false=true from hs) Bool.false_ne_true
 | byt i =>
  obtain ⟨t,rfl⟩:=rx
  cases y with
  | byt j=>obtain ⟨t',rfl⟩:=ry; exact PySem.W.ne_bytes (fin_bl I q (congrArg not dec_byt))
  | _=>exact absurd (show false=true from hs) Bool.false_ne_true
 | _=>cases y <;> exact absurd (show false=true from hs) Bool.false_ne_true
theorem op_lt:OpR X (compareOp .Lt) (rI0 fun i j=>.bl (decide (i < j))):=opB0 fun _ _ _ _ _ _ _ q=>lt_int q
theorem op_le:OpR X (compareOp .LtE) (rI0 fun i j=>.bl (decide (i<=j))):=opB0 fun _ _ _ _ _ _ _ q=>le_int q
theorem op_gt:OpR X (compareOp .Gt) (rI0 fun i j=>.bl (decide (j < i))):=opB0 fun _ _ _ _ _ _ _ q=>gt_int q
theorem op_in_str:OpR X (compareOp .In) (fun x y H Q=>∃ i j,x=.str i/\y=.str j/\Q (.bl (!(Builtin.Str.occurrences j i 0 j.length 1).isEmpty)) H):=by
 intro pins s σ H x y v u Q I rx ry h
 obtain ⟨i,j,rfl,rfl,q⟩:=h
 obtain ⟨t,rfl⟩:=rx
 obtain ⟨t',rfl⟩:=ry
 exact in_str (fin_bl I q rfl)
theorem nomark (b:Expr){op:CmpOp}(h:op ≠ .In:=by decide)(h2:op ≠ .NotIn:=by decide):behindInMarks op b=false:=by
 have e1:(op == CmpOp.In)=false:=by cases op <;> first | rfl | exact absurd rfl h
 have e2:(op == CmpOp.NotIn)=false:=by cases op <;> first | rfl | exact absurd rfl h2
 cases b <;> simp [behindInMarks,e1,e2]
theorem pe_cmpR {op:CmpOp}{r:R2}(ho:OpR X (compareOp op) r)(ha:PE X a ta)(hb:PE X b tb)(hm:behindInMarks op b=false):PE X (.Compare a [op] [b] pos) (tOp r ta tb):=by
 intro pins s σ H Q I h
 exact wpAny_Compare1 (binT ha hb I h fun v u s2 x y H2 I2 rx ry q=>ho pins s2 σ H2 x y v u Q I2 rx ry q) hm
noncomputable def tTest (t:TE):TT:=fun σ H Q=>t σ H fun x H'=>∃ k,x=.bl k/\Q k H'
theorem pt_cmpR {op:CmpOp}{r:R2}(ho:OpR X (compareOp op) r)(ha:PE X a ta)(hb:PE X b tb)(hm:behindInMarks op b=false):PT X (.Compare a [op] [b] pos) (tTest (tOp r ta tb)):=by
 intro pins s σ H Q I h
 refine wpAny_isTrue_Compare1 (thn (ha pins s σ H _ I h) fun v s1 ⟨x,H1,I1,r1,q1⟩=>thn (hb pins s1 σ H1 _ I1 q1) fun u s2 ⟨y,H2,I2,r2,q2⟩ =>
  thn (ho pins s2 σ H2 x y v u _ I2 r1 r2 q2) fun c s3 ⟨z,H3,I3,r3,k,e,q3⟩=>?_) hm
 subst e
 cases r3
 exact wpAny_truthy_bool ⟨H3,I3,q3⟩
noncomputable def tChain (r r':R2)(ta tb tc:TE):TE:=fun σ H Q=>ta σ H fun x H1=>tb σ H1 fun y H2=>r x y H2 fun z H3=>∃ k,z=.bl k /\
 (if k=true then tc σ H3 fun w' H4=>r' y w' H4 Q else Q (.bl false) H3)
theorem pt_chain {op op':CmpOp}{r r':R2}(ho:OpR X (compareOp op) r)(ho':OpR X (compareOp op') r')(ha:PE X a ta)(hb:PE X b tb)(hc:PE X c tc)
  (hm:lastMarks [op,op'] [b,c]=false:=by with_unfolding_all rfl):PT X (.Compare a [op,op'] [b,c] pos) (tTest (tChain r r' ta tb tc)):=by
 intro pins s σ H Q I h
 refine isTrue_chain (thn (ha pins s σ H _ I h) fun v s1 ⟨x,H1,I1,r1,q1⟩=>test_link (thn (hb pins s1 σ H1 _ I1 q1) fun u s2 ⟨y,H2,I2,r2,q2⟩ =>
  thn (ho pins s2 σ H2 x y v u _ I2 r1 r2 q2) fun d s3 ⟨z,H3,I3,r3,k,e,q3⟩=>?_)) hm
 subst e
 cases r3
 refine wpAny_truthy_bool ?_
 cases k with
 | false =>
  obtain ⟨k',e',q'⟩:=q3
  cases e'
  exact ite_ff ⟨H3,I3,q'⟩
 | true =>
  refine ite_tt (test_last (thn (hc pins s3 σ H3 _ I3 q3) fun w' s4 ⟨z',H4,I4,r4,q4⟩=>thn (ho' pins s4 σ H4 y z' u w' _ I4 r2 r4 q4) fun d' s5 ⟨z2,H5,I5,r5,k2,e2,q5⟩=>?_))
  subst e2
  cases r5
  exact wpAny_truthy_bool ⟨H5,I5,q5⟩
noncomputable def TruV (K:PySem.W.Frag)(x:V)(H:Hp)(k:Bool):Prop :=
 match x with
 | .non=>k=false
 | .bl b=>k=b
 | .int i=>k=(i != 0)
 | .str y=>y.length<=sizeLine/\k=((y.length:Int) != 0)
 | .byt y=>y.size<=sizeLine/\k=((y.size:Int) != 0)
 | .ref p=>(∃ xs,SqL K H p xs/\k=!xs.isEmpty)\/(∃ xs,SqT K H p xs/\k=!xs.isEmpty)\/∃ kvs,H p=some (.dK kvs)/\k=!kvs.isEmpty
 | _=>False
theorem isEmpty_kv {κ:Type}{kvs:List (κ × V)}{vs:List (κ × Value)}(r:KV kvs vs):(!vs.isEmpty)=!kvs.isEmpty:=by
 cases r <;> rfl
theorem isEmpty_of {xs:List V}{its:List Value}(r:Vals xs its):(!its.toArray.isEmpty)=!xs.isEmpty:=by
 cases r <;> simp
theorem line63:(sizeLine:Nat) < 2 ^ 63:=by rw [sizeLine_eq]; decide
theorem tru_ok:TruR X (fun x H Q=>∃ k,TruV X.K x H k/\Q k H):=by
 intro pins s σ H x v Q I rx h
 obtain ⟨k,e,q⟩:=h
 have hl:=line63
 have hs:sizeLine=16777216:=sizeLine_eq
 cases x with
 | non =>
  cases rx
  have e':k=false:=e
  subst e'
  exact truthy_none ⟨H,I,q⟩
 | bl b =>
  cases rx
  have e':k=b:=e
  subst e'
  exact wpAny_truthy_bool ⟨H,I,q⟩
 | int i =>
  obtain ⟨t,rfl⟩:=rx
  have e':k=(i != 0):=e
  subst e'
  exact PySem.P.truthy_int ⟨H,I,q⟩
 | str y =>
  obtain ⟨t,rfl⟩:=rx
  obtain ⟨hy,e'⟩:y.length<=sizeLine/\k=((y.length:Int) != 0):=e
  subst e'
  exact PySem.P.truthy_str (by omega) ⟨H,I.tok _,q⟩
 | byt y =>
  obtain ⟨t,rfl⟩:=rx
  obtain ⟨hy,e'⟩:y.size<=sizeLine/\k=((y.size:Int) != 0):=e
  subst e'
  exact PySem.W.truthy_bytes (by omega) ⟨H,I.tok _,q⟩
 | ref p =>
  cases rx
  have e':(∃ xs,SqL X.K H p xs/\k=!xs.isEmpty)\/(∃ xs,SqT X.K H p xs/\k=!xs.isEmpty)\/∃ kvs,H p=some (.dK kvs)/\k=!kvs.isEmpty:=e
  rcases e' with ⟨xs,hx,e'⟩ | ⟨xs,hx,e'⟩ | ⟨kvs,hx,e'⟩
  ·subst e'
   obtain ⟨its,r,pl,hz⟩:=I.list hx
   have hlen:=r.length
   exact wpAny_truthy_list pl.isList (by simp only [List.size_toArray]; omega) ⟨H,I.tok _,by rw [isEmpty_of r]; exact q⟩
  ·subst e'
   obtain ⟨its,r,pl,hz⟩:=I.tuple hx
   have hlen:=r.length
   exact truthy_tuple pl (by simp only [List.size_toArray]; omega) ⟨H,I.tok _,by rw [isEmpty_of r]; exact q⟩
  ·subst e'
   obtain ⟨hz,hS,vs,r,m⟩:kvs.length<=sizeLine/\(p == sysModules)=false/\∃ vs,KV kvs vs/\s.heap.DictOf (mixKind X.prog X.w) p vs:=I.hok p _ hx
   have hlen:kvs.length=vs.length:=Paired.length r
   exact wpAny_truthy_dict hS m (by omega) ⟨H,I.tok _,by rw [isEmpty_kv r]; exact q⟩
 | _=>exact (show False from e).elim
theorem pt_truth (ha:PE X a ta)(he:∀ whole,isTrue a X.env whole=(do let v <- whole; standAt a.pos; holding [v] (truthy v))) :
  PT X a (fun σ H Q=>ta σ H fun x H'=>∃ k,TruV X.K x H' k/\Q k H'):=by
 intro pins s σ H Q I h
 exact isTrue_plain (thn (ha pins s σ H _ I h) fun v s1 ⟨x,H1,I1,r1,q1⟩=>tru_ok pins s1 σ H1 x v Q I1 r1 q1) (he _)
theorem op_add_str:OpR X (binaryOp .Add) (fun x y H Q=>∃ i j,x=.str i/\y=.str j/\i.length + j.length<=sizeLine/\Q (.str (i++j)) H):=by
 intro pins s σ H x y v u Q I rx ry h
 obtain ⟨i,j,rfl,rfl,hz,q⟩:=h
 obtain ⟨t,rfl⟩:=rx
 obtain ⟨t',rfl⟩:=ry
 exact add_str (fun t' tk=>⟨.str (i++j),H,I.tok _,⟨_,rfl⟩,q⟩) hz
theorem vals1 {x:V}{us:List Value}(r:Vals [x] us):∃ u,us=[u]/\RelV x u:=by
 cases r with
 | cons r1 r2=>cases r2; exact ⟨_,rfl,r1⟩
theorem vals2 {x y:V}{us:List Value}(r:Vals [x,y] us):∃ u w',us=[u,w']/\RelV x u/\RelV y w':=by
 cases r with
 | cons r1 r2 =>
  cases r2 with
  | cons r3 r4=>cases r4; exact ⟨_,_,rfl,r1,r3⟩
theorem call_max2 (hc:X.calm=true):CallR X (.builtin "max") (fun xs H Q=>∃ i j,xs=[.int i,.int j]/\Q (.int (if j > i then j else i)) H):=by
 intro pins s σ H xs us Q I r h
 obtain ⟨i,j,rfl,q⟩:=h
 obtain ⟨u,w',rfl,⟨t,rfl⟩,⟨t',rfl⟩⟩:=vals2 r
 refine max_two_ints (I.ok.hd hc) fun h' tk k=>⟨_,H,I.kept k,?_,q⟩
 by_cases hj:j > i
 ·rw [if_pos hj,if_pos hj]; exact ⟨_,rfl⟩
 ·rw [if_neg hj,if_neg hj]; exact ⟨_,rfl⟩
theorem call_min2 (hc:X.calm=true):CallR X (.builtin "min") (fun xs H Q=>∃ i j,xs=[.int i,.int j]/\Q (.int (if j < i then j else i)) H):=by
 intro pins s σ H xs us Q I r h
 obtain ⟨i,j,rfl,q⟩:=h
 obtain ⟨u,w',rfl,⟨t,rfl⟩,⟨t',rfl⟩⟩:=vals2 r
 refine min_two_ints (I.ok.hd hc) fun h' tk k=>⟨_,H,I.kept k,?_,q⟩
 by_cases hj:j < i
 ·rw [if_pos hj,if_pos hj]; exact ⟨_,rfl⟩
 ·rw [if_neg hj,if_neg hj]; exact ⟨_,rfl⟩
theorem call_int1:CallR X (.type "int") (fun xs H Q=>(∃ i,xs=[.int i]/\Q (.int i) H)\/∃ k,xs=[.bl k]/\Q (.int (if k then 1 else 0)) H):=by
 intro pins s σ H xs us Q I r h
 rcases h with ⟨i,rfl,q⟩ | ⟨k,rfl,q⟩
 ·obtain ⟨u,rfl,t,rfl⟩:=vals1 r
  exact call_int_int ⟨.int i,H,I,⟨_,rfl⟩,q⟩
 ·obtain ⟨u,rfl,r1⟩:=vals1 r
  cases r1
  exact call_int_bool ⟨.int (if k then 1 else 0),H,I.tok _,⟨_,rfl⟩,q⟩
theorem call_str_int:CallR X (.type "str") (fun xs H Q=>∃ i,xs=[.int i]/\i.natAbs.log2 < 1920/\Q (.str (toString i)) H):=by
 intro pins s σ H xs us Q I r h
 obtain ⟨i,rfl,hz,q⟩:=h
 obtain ⟨u,rfl,t,rfl⟩:=vals1 r
 exact PySem.P.str_of_int hz ⟨.str _,H,I.tok _,⟨_,rfl⟩,q⟩
end
end L2
namespace L2
open PySem PySem.Spec PyProof.Rows
section
variable {prog:Program}{w:World}{A:Around}{E:Value->Shared->Prop}{s:Shared}{K:PySem.W.Frag}{x dx C f:Addr}{mA:Str->Option Value}{name:Str}{v:Value}
end
section
variable {P:Program}{w:World}{H H':Hp}{h h':Heap}{a C dx:Addr}{fs fs':List (Str × V)}
end
section
variable {X:Cx}{pins:List (Addr × Obj)}{σ:St}{H:Hp}{s:Shared}{a C dx:Addr}{fs:List (Str × V)}{f:Str}{v:V}{A:Around}{E:Value->Shared->Prop}
end
section
variable {X:Cx}{o e value:Expr}{f:Str}{pos pos' tpos:Pos}{ta tv:TE}
end
section
variable {X:Cx}{pins:List (Addr × Obj)}{σ:St}{H:Hp}{s:Shared}{A:Around}{E:Value->Shared->Prop}{Q:Value->Shared->Prop}{c:Value}{b:Bool}
end
end L2
namespace L2
open PySem PySem.Spec PyProof.Rows
structure Room (k:Nat)(A:Around):Prop where
 hd:A.handled=none
 dp:A.depth + 3 * k + 5 < recursionLimit
 un:A.units + 16 * k + 200 < cLine
theorem Room.mono {j k:Nat}{A:Around}(r:Room k A)(h:j<=k):Room j A:=⟨r.hd,by have:=r.dp; omega,by have:=r.un; omega⟩
theorem Room.deeper {k:Nat}{A:Around}(r:Room (k + 1) A)(env:Env):Room k (A.deeper env) :=
 ⟨r.hd,by have:=r.dp; show A.depth + 1 + 3 * k + 5 < _; omega,by have:=r.un; show A.units + 3 + 16 * k + 200 < _; omega⟩
theorem Room.depth {k:Nat}{A:Around}(r:Room k A):A.depth < recursionLimit:=by have:=r.dp; omega
theorem Room.units {k:Nat}{A:Around}(r:Room k A):A.units + 64 < cLine:=by have:=r.un; omega
noncomputable def tNil:TA:=fun _ H Q=>Q [] H
noncomputable def tCons (ta:TE)(tr:TA):TA:=fun σ H Q=>ta σ H fun x H1=>tr σ H1 fun xs H2=>Q (x :: xs) H2
section
variable {X:Cx}{e:Expr}{es:List Expr}{te:TE}{t:TA}{pos:Pos}
theorem pa_nil:PA X [] tNil:=fun _ _ _ _ H Q I h=>Calls.spliced_nil ⟨[],H,I,.nil,h⟩
theorem pa_cons (ha:PE X e te)(hr:PA X es t)(hs:starEach (e :: es) X.env=(false,eval e X.env) :: starEach es X.env:=by rfl):PA X (e :: es) (tCons te t):=by
 intro pos pins s σ H Q I h
 rw [hs]
 show wpAny _ _ (spliced ((false,eval e X.env) :: backTo pos (starEach es X.env))) _ _ s
 refine Calls.spliced_cons (thn (ha pins s σ H _ I h) fun u s1 ⟨x,H1,I1,r1,q1⟩=>?_)
 exact thn (hr pos pins s1 σ H1 _ I1 q1) fun us s2 ⟨xs,H2,I2,r2,q2⟩=>⟨x :: xs,H2,I2,.cons r1 r2,q2⟩
noncomputable def tTup (t:TA):TE:=fun σ H Q=>t σ H fun xs H1=>xs.length<=sizeLine/\∀ p,H1 p=none->Q (.ref p) (upd H1 p (.tup xs))
noncomputable def tLst (t:TA):TE:=fun σ H Q=>t σ H fun xs H1=>xs.length<=sizeLine/\∀ p,H1 p=none->Q (.ref p) (upd H1 p (.lst xs))
theorem pe_tup {x1}(h:PA X es t):PE X (.Tuple es x1 pos) (tTup t):=by
 intro pins s σ H Q I hq
 refine wpAny_Tuple_spliced (thn (h pos pins s σ H _ I hq) fun us s1 ⟨xs,H1,I1,r,z,q⟩=>⟨by rw [<- r.length]; exact z,?_⟩)
 have hf:H1 s1.heap.objs.size=none:=I1.hok.fresh (Nat.le_refl _)
 refine ⟨.ref s1.heap.objs.size,upd H1 s1.heap.objs.size (.tup xs),I1.laid (t':=s1.toks) (fun b u e=>Heap.get?_push_of_some _ e) (Nat.le_refl _) ?_,rfl,q _ hf⟩
 exact ⟨z,us,r,⟨_,Heap.get?_push_size _ rfl,rfl,_,rfl⟩⟩
theorem pe_lst (h:PA X es t):PE X (.List es pos) (tLst t):=by
 intro pins s σ H Q I hq
 refine wpAny_List_spliced (thn (h pos pins s σ H _ I hq) fun us s1 ⟨xs,H1,I1,r,z,q⟩=>⟨by rw [<- r.length]; exact z,?_⟩)
 have hf:H1 s1.heap.objs.size=none:=I1.hok.fresh (Nat.le_refl _)
 refine ⟨.ref s1.heap.objs.size,upd H1 s1.heap.objs.size (.lst xs),I1.laid (t':=s1.toks) (fun b u e=>Heap.get?_push_of_some _ e) (Nat.le_refl _) ?_,rfl,q _ hf⟩
 exact ⟨z,us,0,r,Heap.get?_push_size _ rfl⟩
end
noncomputable abbrev Sp:=List V->Hp->VK->XK->Prop
noncomputable abbrev CXT:=List Env->Hp->Shared->XK->Value->Shared->Prop
structure Env0 (P:Program)(w:World)(K:PySem.W.Frag)(mg:Str->Option Value)(base:Heap)(A:Around)(outer:List Env)(s:Shared)(H:Hp):Prop where
 frames:A.frames=some outer
 mod:Mod K mg base
 bs:∀ b o,base.get? b=some o->s.heap.get? b=some o/\H b=none
 bsz:base.objs.size<=s.heap.objs.size
 funs:s.heap.FunFrames base outer
 frf:∀ b ∈ frs outer,H b=none
 hok:HOk P w H s.heap
 bare:AllBare s.gens
noncomputable def CE (outer:List Env)(P:Program)(w:World)(H:Hp)(s:Shared)(Q:VK)(u:Value)(s':Shared):Prop :=
 ∃ v H',s'.os=s.os/\AllBare s'.gens/\Un (frs outer) [] H H' s.heap s'.heap/\HOk P w H' s'.heap/\RelV v u/\Q v H'
noncomputable def CR (CX:CXT)(outer:List Env)(P:Program)(w:World)(H:Hp)(s:Shared)(Q:VK)(E:XK)(r:Result)(s':Shared):Prop :=
 match r with
 | .ok (.ret u)=>CE outer P w H s Q u s'
 | .ok _=>False
 | .error e=>CX outer H s E e s'
structure FnOk (P:Program)(w:World)(K:PySem.W.Frag)(mg:Str->Option Value)(base:Heap)(CX:CXT)(k:Nat)(f:Addr)(fd:FuncData)(ps:List Str)(sp:Sp):Prop where
 len:∀ vs H Q E,sp vs H Q E->vs.length=ps.length
 run:∀ (A:Around) (outer:List Env) (s:Shared) (H:Hp) (args:Args) (us:List Value) (vs:List V) (Q:VK) (E:XK),Room k A->Env0 P w K mg base A outer s H->BindsTo s fd args (ps.zip us)->Vals vs us->sp vs H Q E ->
  codeAny (model P w) A (.call (.ref f) args) (CR CX outer P w H s Q E) s
section
variable {X:Cx}{pins:List (Addr × Obj)}{σ:St}{H:Hp}{s s':Shared}
theorem Inv.env0 (I:Inv X pins σ H s):Env0 X.prog X.w X.K X.mg X.base X.A X.stack s H :=
 ⟨I.ok.frames,I.ok.mod,I.bs,Nat.le_trans I.ok.bsz I.sz,I.stack,I.stkFree,I.hok,I.bare⟩
theorem Inv.after {Q:VK}{u:Value}(I:Inv X pins σ H s)(h:CE X.stack X.prog X.w H s Q u s'):EP X pins σ Q u s':=by
 obtain ⟨v,H',os,bare,un,hok,r,q⟩:=h
 obtain ⟨hh,g,d,t,os'⟩:=s'
 obtain rfl:os'=s.os:=os
 exact ⟨v,H',I.call (h':=hh) (g':=g) (d':=d) (t':=t) (ch:=[]) un hok bare (fun b z=>absurd z (by simp)),r,q⟩
end
noncomputable def tCall (sp:Sp)(dvs:List V)(E:XK)(t:TA):TE:=fun σ H Q=>t σ H fun vs H1=>sp (vs++dvs) H1 Q E
noncomputable def Binds (K:PySem.W.Frag)(fd:FuncData)(ps:List Str)(ds:List Value):Prop :=
 ∀ (s:Shared) (us:List Value),K.In s.heap->(us++ds).length=ps.length->BindsTo s fd ⟨us,[]⟩ (ps.zip (us++ds))
theorem Binds.all {K:PySem.W.Frag}{fd:FuncData}{ps:List Str}(h:∀ us:List Value,us.length=ps.length->bindArgs fd ⟨us,[]⟩=pure (ps.zip us)):Binds K fd ps []:=fun s us _ hl=>by
 rw [List.append_nil] at hl ⊢
 exact .of_eq (h us hl)
noncomputable def Passes (CX:CXT)(X:Cx)(E:XK):Prop:=∀ (pins:List (Addr × Obj)) (σ:St) (H:Hp) (s:Shared) (e:Value) (s':Shared),Inv X pins σ H s->CX X.stack H s E e s'->X.xe e s'
section
variable {X:Cx}{CX:CXT}{k:Nat}{f C:Addr}{fd:FuncData}{ps:List Str}{sp:Sp}{dvs:List V}{ds:List Value}{E:XK}{x m:Str}{p pos apos:Pos}{e o:Expr}{es:List Expr}{ta:TE}{t:TA}
theorem run_fn {pins:List (Addr × Obj)}{σ:St}{H:Hp}{s:Shared}{Q:VK}{us:List Value}{vs:List V}(F:FnOk X.prog X.w X.K X.mg X.base CX k f fd ps sp)(hr:Room k X.A)(hb:Binds X.K fd ps ds)(hd:Vals dvs ds)(hx:Passes CX X E)
  (I:Inv X pins σ H s) (r:Vals vs us) (h:sp (vs++dvs) H Q E):wpAny (model X.prog X.w) X.A (call (.ref f) us) (EP X pins σ Q) X.xe s:=by
 have r2:Vals (vs++dvs) (us++ds):=r.append hd
 have hl:(us++ds).length=ps.length:=by rw [<- r2.length]; exact F.len _ _ _ _ h
 refine wpAny_call (codeAny_mono (F.run X.A X.stack s H ⟨us,[]⟩ (us++ds) (vs++dvs) Q E hr I.env0 (hb s us I.kIn hl) r2 h) fun r s' hq=>?_)
 cases r with
 | error e=>exact hx pins σ H s e s' I hq
 | ok fl =>
  cases fl with
  | ret u=>exact I.after hq
  | next=>exact False.elim hq
  | brk=>exact False.elim hq
  | cont=>exact False.elim hq
theorem pe_call (F:FnOk X.prog X.w X.K X.mg X.base CX k f fd ps sp)(hr:Room k X.A)(hg:Gl X x)(hm:X.mg x=some (.ref f))(hk:PySem.W.keepIn X.K (.ref f)=true)(hb:Binds X.K fd ps ds)(hd:Vals dvs ds)(hx:Passes CX X E)
  (ha:PA X (e :: es) t) (hdb:(x == ("__debug__":Str))=false:=by decide) (he:starEach (e :: es) X.env=(false,eval e X.env) :: starEach es X.env:=by rfl) (hpl:(backTo pos (starEach es X.env)).any (·.1)=false:=by rfl) :
  PE X (.Call (.Name x p) (e :: es) [] pos) (tCall sp dvs E t):=by
 intro pins s σ H Q I h
 refine wpAny_Call_Name_kw (ld_glob I hg hm ?_ hdb)
 refine PySem.W.callWith_K (h₀:=X.base) I.ok.mod.kin hk (thn (ha pos pins s σ H _ I h) fun us s1 ⟨vs,H1,I1,r,q⟩=>⟨I1.kIn,?_⟩) he hpl
 exact run_fn F hr hb hd hx I1 r q
end
section
variable {X:Cx}{CX:CXT}{k:Nat}{f C:Addr}{fd:FuncData}{ps ks:List Str}{sp:Sp}{E:XK}{x m:Str}{p pos apos kpos:Pos}{e o:Expr}{es:List Expr}{kws:List Keyword}{te ta:TE}{t tk:TA}{nm:Option Str}
variable {g:List Value->List Value->List Value}{gV:List V->List V->List V}
end
structure FnScope (N P:List Str)(sc:Scope):Prop where
 kind:sc.kind=.function
 co:sc.isCoroutine=false
 gen:sc.isGenerator=false
 nd:N.Nodup
 pre:N.take P.length=P
 par:∀ x ∈ P,sc.names.lookup x=some .local\/sc.names.lookup x=some .cell
 nofree:∀ y ∈ sc.names,y.2 ≠ .free
theorem bindL_out {kindOf:Str->Option NameKind}{x:Str}:∀ {binds:List (Str × Value)} {m:Str->Option Value},(∀ v,(x,v) ∉ binds)->bindL kindOf binds m x=m x
 | [],_,_=>rfl
 | (n,v) :: r,m,h=>by
  unfold bindL
  rw [bindL_out fun w hw=>h w (List.mem_cons_of_mem _ hw)]
  split
  ·have:x ≠ n:=by rintro rfl; exact h v List.mem_cons_self
   simp [this]
  ·rfl
theorem bindC_out {kindOf:Str->Option NameKind}{x:Str}:∀ {binds:List (Str × Value)} {m:Str->Option Value},(∀ v,(x,v) ∉ binds)->bindC kindOf binds m x=m x
 | [],_,_=>rfl
 | (n,v) :: r,m,h=>by
  unfold bindC
  rw [bindC_out fun w hw=>h w (List.mem_cons_of_mem _ hw)]
  split
  ·rfl
  ·have:x ≠ n:=by rintro rfl; exact h v List.mem_cons_self
   simp [this]
theorem bindL_get {kindOf:Str->Option NameKind}{x:Str}{v:Value}:∀ {P:List Str} {vs:List Value} {i:Nat} {m:Str->Option Value},P.Nodup->P[i]?=some x->vs[i]?=some v->kindOf x=some .local ->
  bindL kindOf (P.zip vs) m x=some v
 | [],_,_,_,_,h,_,_=>by simp at h
 | _ :: _,[],_,_,_,_,h,_=>by simp at h
 | p :: P,w :: vs,0,m,nd,h1,h2,hk=>by
  simp at h1 h2; subst h1; subst h2
  show bindL kindOf ((p,w) :: P.zip vs) m p=_
  unfold bindL
  rw [bindL_out fun v hv=>(List.nodup_cons.mp nd).1 (List.of_mem_zip hv).1,if_pos hk]
  simp
 | p :: P,w :: vs,i + 1,m,nd,h1,h2,hk=>by
  show bindL kindOf ((p,w) :: P.zip vs) m x=_
  unfold bindL
  exact bindL_get (i:=i) (List.nodup_cons.mp nd).2 (by simpa using h1) (by simpa using h2) hk
theorem bindC_get {kindOf:Str->Option NameKind}{x:Str}{v:Value}:∀ {P:List Str} {vs:List Value} {i:Nat} {m:Str->Option Value},P.Nodup->P[i]?=some x->vs[i]?=some v->kindOf x ≠ some .local ->
  bindC kindOf (P.zip vs) m x=some v
 | [],_,_,_,_,h,_,_=>by simp at h
 | _ :: _,[],_,_,_,_,h,_=>by simp at h
 | p :: P,w :: vs,0,m,nd,h1,h2,hk=>by
  simp at h1 h2; subst h1; subst h2
  show bindC kindOf ((p,w) :: P.zip vs) m p=_
  unfold bindC
  rw [bindC_out fun v hv=>(List.nodup_cons.mp nd).1 (List.of_mem_zip hv).1,if_neg hk]
  simp
 | p :: P,w :: vs,i + 1,m,nd,h1,h2,hk=>by
  show bindC kindOf ((p,w) :: P.zip vs) m x=_
  unfold bindC
  exact bindC_get (i:=i) (List.nodup_cons.mp nd).2 (by simpa using h1) (by simpa using h2) hk
noncomputable def start (N:List Str)(vs:List V):St:=vs.map some++List.replicate (N.length - vs.length) none
noncomputable def cxOf (CX:CXT)(P:Program)(w:World)(K:PySem.W.Frag)(mg:Str->Option Value)(base:Heap)(N:List Str)(qual:Str)(scope:Scope)(f:Addr)(cd:Value)(A:Around)(outer:List Env)(s:Shared)(H:Hp)(E:XK):Cx where
 prog:=P
 w:=w
 K:=K
 mg:=mg
 base:=base
 A:=A.deeper (envOfC qual scope s.heap.objs.size f cd)
 N:=N
 s₀:=s
 H₀:=H
 env:=envOfC qual scope s.heap.objs.size f cd
 outer:=outer
 stack:=envOfC qual scope s.heap.objs.size f cd :: outer
 ex:=[]
 calm:=true
 fn:=fun _=>true
 pn:=[]
 xe:=fun e s'=>wpAny (model P w) (A.deeper (envOfC qual scope s.heap.objs.size f cd)) (leaving (envOfC qual scope s.heap.objs.size f cd) e) (fun _ s''=>CX outer H s E e s'') (fun e' s''=>CX outer H s E e' s'') s'
theorem cell_has {sc:Scope}{n:Nat}{x:Str}(h:sc.names.lookup x=some .cell):∃ c,(cellsFrom n sc.names []).lookup x=some c:=by
 have q:=PySem.W.cellsFrom_some sc.names n [] (.inl h)
 exact Option.isSome_iff_exists.mp q
theorem inv_start {CX:CXT}{P:Program}{w:World}{K:PySem.W.Frag}{mg:Str->Option Value}{base:Heap}{N ps:List Str}{qual:Str}{scope:Scope}{f:Addr}{cd:Value}{A:Around}{outer:List Env}{s s1:Shared}{H:Hp}{E:XK}{us:List Value}{vs:List V}
  (S:FnScope N ps scope) (hd:A.handled=none) (e0:Env0 P w K mg base A outer s H) (hl:vs.length=ps.length) (r:Vals vs us)
  (x:InCallC s s.heap.objs.size (bindL (envOfC qual scope s.heap.objs.size f cd).kindOf (ps.zip us) fun _=>none) (cellsFrom (s.heap.objs.size + 1) scope.names []) (bindC (envOfC qual scope s.heap.objs.size f cd).kindOf (ps.zip us) fun _=>none) s1) :
  Inv (cxOf CX P w K mg base N qual scope f cd A outer s H E) [] (start N vs) H s1:=by
 have hpl:ps.length<=N.length:=by have:=congrArg List.length S.pre; rw [List.length_take] at this; omega
 obtain ⟨h1,tk,rfl,hk⟩:=x.done
 have noA:∀ b:Addr,b ∉ (cxOf CX P w K mg base N qual scope f cd A outer s H E).ex:=fun b z=>absurd (show b ∈ ([]:List Addr) from z) (by simp)
 refine ⟨⟨e0.mod,S.kind,rfl,rfl,Nat.le_refl _,fun y z c h1 h2=>?_,fun y hy=>?_,fun y c _ h=>?_,fun _=>hd,Around.frames_deeper e0.frames,.inr ⟨rfl,rfl⟩,fun b z=>absurd z (noA b),e0.bs,e0.bsz,fun b _ _=>noA b,fun b z=>absurd z (noA b),e0.funs,e0.frf⟩,
  rfl,e0.bare,Un.kept hk,⟨_,x.toInCall.ns,fun i y v h1 h2 h3=>?_⟩,fun y c h=>⟨_,x.cell y c h⟩,e0.hok.fresh (Nat.le_refl _),fun y c h=>?_,fun p hp=>absurd (show p ∈ ([]:List (Addr × Obj)) from hp) (by simp),e0.hok.kept hk,?_⟩
 ·exact name_of_addr x.apart (PySem.mem_of_lookup h1) (PySem.mem_of_lookup h2)
 ·have hy:scope.names.lookup y=some .cell\/scope.names.lookup y=some .free:=hy
  rcases hy with hy | hy
  ·exact cell_has hy
  ·exact absurd rfl (S.nofree _ (PySem.mem_of_lookup hy))
 ·exact Nat.le_of_lt (x.above y c (PySem.mem_of_lookup h))
 ·have hi:i < vs.length:=by
   unfold start at h2
   by_cases hi:i < vs.length
   ·exact hi
   ·rw [List.getElem?_append_right (by simpa using hi)] at h2
    rw [List.getElem?_replicate] at h2
    split at h2 <;> cases h2
  have ha:vs[i]?=some v:=by
   unfold start at h2
   rw [List.getElem?_append_left (by simpa using hi),List.getElem?_map] at h2
   cases e:vs[i]? with
   | none=>rw [e] at h2; cases h2
   | some a=>rw [e] at h2; cases h2; rfl
  obtain ⟨u,hu,rv⟩:=r.get ha
  have hp:ps[i]?=some y:=by
   rw [<- S.pre,List.getElem?_take_of_lt (by omega)]; exact h1
  have ndP:ps.Nodup:=by rw [<- S.pre]; exact S.nd.sublist (List.take_sublist _ _)
  refine ⟨u,rv,?_⟩
  rcases S.par y (List.mem_of_getElem? hp) with k | k
  ·exact .inl ⟨k,bindL_get ndP hp hu k⟩
  ·obtain ⟨c,e⟩:=cell_has (n:=s.heap.objs.size + 1) k
   refine .inr ⟨.inl k,c,e,?_⟩
   have q:=x.cell y c e
   rw [bindC_get ndP hp hu (by show scope.names.lookup y ≠ _; rw [k]; decide)] at q
   exact q
 ·exact e0.hok.fresh (Nat.le_of_lt (x.above y c (PySem.mem_of_lookup h)))
 ·unfold start
  show _=N.length
  rw [List.length_append,List.length_map,List.length_replicate]
  omega
theorem fn_of {CX:CXT}{P:Program}{w:World}{K:PySem.W.Frag}{mg:Str->Option Value}{base:Heap}{k:Nat}{f:Addr}{name qual:Str}{params:Arguments}{body:List Stmt}{scope:Scope}{dV kV doc pm cdv ct oc:Value}{an od:Option Addr}
  {osl:Array (Option Value)} {N ps:List Str} {sp:Sp} (lk:K.lookup f=some ⟨oc,od,.func (PySem.W.fnOf name qual params body scope dV kV doc pm an cdv ct),osl⟩) (hcd:PySem.W.codeIn K cdv qual=true) (S:FnScope N ps scope)
  (len:∀ vs H Q E,sp vs H Q E->vs.length=ps.length)
  (hbody:∀ (A:Around) (outer:List Env) (s:Shared) (H:Hp) (vs:List V) (Q:VK) (E:XK),Room k (A.deeper (envOfC qual scope s.heap.objs.size f cdv))->sp vs H Q E ->
   ∃ t,PSs (cxOf CX P w K mg base N qual scope f cdv A outer s H E) body t/\t { nx:=fun _ H'=>Q .non H',rt:=Q } (start N vs) H) :
  FnOk P w K mg base CX (k + 1) f (PySem.W.fnOf name qual params body scope dV kV doc pm an cdv ct) ps sp:=by
 refine ⟨len,fun A outer s H args us vs Q E hr e0 hb r hsp=>?_⟩
 have hl:=len _ _ _ _ hsp
 have KX:K.In s.heap:=e0.mod.kin.keeps fun b o e=>(e0.bs b o e).1
 have lim:s.heap.NoLimit:=e0.mod.nolimit.keeps fun b o e=>(e0.bs b o e).1
 have hkind:∀ y ∈ ps.zip us,scope.names.lookup y.1=some .local\/(scope.names.lookup y.1=some .cell/\((cellsFrom (s.heap.objs.size + 1) scope.names []).lookup y.1).isSome=true):=fun ⟨n,v⟩ hy=>by
  rcases S.par n (List.of_mem_zip hy).1 with q | q
  ·exact .inl q
  ·exact .inr ⟨q,PySem.W.cellsFrom_some _ _ _ (.inl q)⟩
 refine codeAny_call_function hr.depth (KX _ _ lk) rfl S.co S.gen rfl (PySem.W.codeRec_of KX hcd) (hb _ _ _ _ ?_)
 refine wpAny_newFunctionEnv_cells S.kind hkind fun env he s1 x=>?_
 subst he
 refine ⟨lim.keeps x.toInCall.keep,codeAny_func ?_⟩
 obtain ⟨t,ht,hq⟩:=hbody A outer s H vs Q E (hr.deeper _) hsp
 have I:Inv (cxOf CX P w K mg base N qual scope f cdv A outer s H E) [] (start N vs) H s1:=inv_start S hr.hd e0 hl r x
 refine wpAny_mono (ht [] s1 (start N vs) H _ I hq) (fun fl s' hs=>?_) fun e s' hs=>hs
 have fin:∀ {σ':St} {H':Hp} {v:V} {u:Value},Inv (cxOf CX P w K mg base N qual scope f cdv A outer s H E) [] σ' H' s'->RelV v u->Q v H'->CE outer P w H s Q u s' :=
  fun {σ' H' v u} J rv q=>⟨v,H',J.os,J.bare,J.base,J.hok,rv,q⟩
 cases fl with
 | ret u =>
  obtain ⟨v,σ',H',J,rv,q⟩:=hs
  exact fin J rv q
 | next =>
  obtain ⟨σ',H',J,q⟩:=hs
  exact fin (v:=V.non) (u:=Value.none) J rfl q
 | brk =>
  obtain ⟨_,_,_,q⟩:=hs
  exact False.elim q
 | cont =>
  obtain ⟨_,_,_,q⟩:=hs
  exact False.elim q
end L2
namespace L2
open PySem PySem.Spec PyProof.Rows
section
variable {X:Cx}{x:Str}{p pos:Pos}{e:Expr}{es:List Expr}{t:TA}{id T:String}{r:List V->Hp->VK->Prop}
noncomputable def tCB (r:List V->Hp->VK->Prop)(t:TA):TE:=fun σ H Q=>t σ H fun vs H1=>r vs H1 Q
theorem pe_callB (hc:CallR X (.builtin id) r)(hg:Gl X x)(hm:X.mg x=none)(hv:bootBuiltins x=some (.builtin id))(ha:PA X (e :: es) t)(hn:x ≠ "__name__":=by decide)(hdb:(x == ("__debug__":Str))=false:=by decide)
  (he:starEach (e :: es) X.env=(false,eval e X.env) :: starEach es X.env:=by rfl) (hpl:(backTo pos (starEach es X.env)).any (·.1)=false:=by rfl):PE X (.Call (.Name x p) (e :: es) [] pos) (tCB r t):=by
 intro pins s σ H Q I h
 refine wpAny_Call_Name_kw (ld_blt I hg hm hv ?_ hn hdb)
 exact PyProof.Rows.callWith_builtin1 (thn (ha pos pins s σ H _ I h) fun us s1 ⟨vs,H1,I1,r1,q1⟩=>hc pins s1 σ H1 vs us Q I1 r1 q1) he hpl
theorem pe_callTy (hc:CallR X (.type T) r)(hg:Gl X x)(hm:X.mg x=none)(hv:bootBuiltins x=some (.type T))(ha:PA X (e :: es) t)(hn:x ≠ "__name__":=by decide)(hdb:(x == ("__debug__":Str))=false:=by decide)
  (he:starEach (e :: es) X.env=(false,eval e X.env) :: starEach es X.env:=by rfl) (hpl:(backTo pos (starEach es X.env)).any (·.1)=false:=by rfl):PE X (.Call (.Name x p) (e :: es) [] pos) (tCB r t):=by
 intro pins s σ H Q I h
 refine wpAny_Call_Name_kw (ld_blt I hg hm hv ?_ hn hdb)
 exact PyProof.Rows.callWith_type1 (thn (ha pos pins s σ H _ I h) fun us s1 ⟨vs,H1,I1,r1,q1⟩=>hc pins s1 σ H1 vs us Q I1 r1 q1) he hpl
end
end L2
namespace HT
open PySem PyProof.Rows
section
open PySem.SeqAt
open PySem.AutoSeq1 (wpAny_loadPart')
open PySem.MeetsSeq PySem.MeetsSeq2 PySem.MeetsSeq3
end
section
variable {prog:Program}{w:World}{A:Around}{E:Value->Shared->Prop}{s:Shared}
noncomputable def sIx (n d:Nat):Option Int->Nat
 | none=>d
 | some v=>if v < 0 then (v + (n:Int)).toNat else min v.toNat n
theorem sIx_nat (n d k:Nat):sIx n d (some (k:Int))=min k n:=by
 show (if (k:Int) < 0 then ((k:Int) + (n:Int)).toNat else min (k:Int).toNat n)=min k n
 rw [if_neg (by omega),Int.toNat_natCast]
theorem sIx_le (n d:Nat)(hd:d<=n)(o:Option Int):sIx n d o<=n:=by
 cases o with
 | none=>exact hd
 | some v =>
  show (if v < 0 then (v + (n:Int)).toNat else min v.toNat n)<=n
  by_cases hv:v < 0
  ·rw [if_pos hv]; omega
  ·rw [if_neg hv]; exact Nat.min_le_right _ _
end
end HT
namespace L2
open PySem PySem.Spec PyProof.Rows
noncomputable abbrev TO:=St->Hp->(Option Int->Hp->Prop)->Prop
noncomputable def PO (X:Cx)(e:Option Expr)(t:TO):Prop :=
 ∀ (pins:List (Addr × Obj)) (s:Shared) (σ:St) (H:Hp) (Q:Option Int->Hp->Prop),Inv X pins σ H s->t σ H Q ->
  wpAny (model X.prog X.w) X.A (evalPart e X.env) (fun u s'=>∃ o H',Inv X pins σ H' s'/\IsPart u o/\Q o H') X.xe s
noncomputable def tNoPart:TO:=fun _ H Q=>Q none H
noncomputable def tPart (t:TE):TO:=fun σ H Q=>t σ H fun x H1=>∃ i,x=.int i/\Q (some i) H1
section
variable {X:Cx}{e:Expr}{te:TE}{lo hi:Option Expr}{tl th:TO}{pos p2:Pos}
theorem po_none:PO X none tNoPart:=by
 intro pins s σ H Q I h
 rw [evalPart_none]
 exact wpAny_pure ⟨none,H,I,.none,h⟩
theorem po_some (h:PE X e te):PO X (some e) (tPart te):=by
 intro pins s σ H Q I hw
 rw [evalPart_some]
 refine thn (h pins s σ H _ I hw) fun u s1 ⟨x,H1,I1,r1,q1⟩=>?_
 obtain ⟨i,rfl,q⟩:=q1
 obtain ⟨t,rfl⟩:=r1
 exact ⟨some i,H1,I1,.int i t,q⟩
noncomputable def SlR (X:Cx)(r:V->Option Int->Option Int->Hp->VK->Prop):Prop :=
 ∀ (pins:List (Addr × Obj)) (s:Shared) (σ:St) (H:Hp) (x:V) (v vl vu:Value) (lo hi:Option Int) (sl:Addr) (Q:VK),Inv X pins σ H s->RelV x v->s.heap.IsSliceOf sl vl vu .none->IsPart vl lo->IsPart vu hi->r x lo hi H Q ->
  ∃ T id,typeLookup (.type T) "__getitem__"=pure (some (.builtin id))/\s.TypeIs v T/\wpAny (model X.prog X.w) X.A (getItem v (.ref sl)) (EP X pins σ Q) X.xe s
noncomputable def tSl (r:V->Option Int->Option Int->Hp->VK->Prop)(te:TE)(tl th:TO):TE:=fun σ H Q=>te σ H fun x H1=>tl σ H1 fun l H2=>th σ H2 fun u H3=>r x l u H3 Q
theorem pe_slice {r:V->Option Int->Option Int->Hp->VK->Prop}(hr:SlR X r)(he:PE X e te)(hl:PO X lo tl)(hu:PO X hi th):PE X (.Subscript e (.Slice lo hi none p2) pos) (tSl r te tl th):=by
 intro pins s σ H Q I h
 refine Subscript_ (thn (he pins s σ H _ I h) fun v s1 ⟨x,H1,I1,r1,q1⟩=>?_)
 refine wpAny_Slice (thn (hl pins s1 σ H1 _ I1 q1) fun vl s2 ⟨l,H2,I2,pl,q2⟩=>thn (hu pins s2 σ H2 _ I2 q2) fun vu s3 ⟨u,H3,I3,pu,q3⟩=>?_)
 rw [evalPart_none]
 refine wpAny_pure ?_
 have I4:Inv X pins σ H3 { s3 with heap:=s3.heap.push { cls:=.type "slice",data:=.fields #[vl,vu,.none] } }:=I3.kept (t':=s3.toks) fun b ob q=>Heap.get?_push_of_some _ q
 obtain ⟨T,id,hT,ht,hg⟩:=hr pins { s3 with heap:=s3.heap.push { cls:=.type "slice",data:=.fields #[vl,vu,.none] } } σ H3 x v vl vu l u s3.heap.objs.size Q I4 r1 (Heap.IsSliceOf.new ..) pl pu q3
 show wpAny (model X.prog X.w) X.A (subscriptTail e (.Slice lo hi none p2) v (.ref s3.heap.objs.size)) (EP X pins σ Q) X.xe { s3 with heap:=s3.heap.push { cls:=.type "slice",data:=.fields #[vl,vu,.none] } }
 exact tail_any (ops:=[.ref s3.heap.objs.size,v]) ht hT hg (by with_unfolding_all rfl)
noncomputable def cutV (xs:List V)(lo hi:Option Int):List V:=(xs.drop (HT.sIx xs.length 0 lo)).take (HT.sIx xs.length xs.length hi - HT.sIx xs.length 0 lo)
theorem cutV_length (xs:List V)(lo hi:Option Int):(cutV xs lo hi).length<=xs.length:=by
 unfold cutV
 rw [List.length_take,List.length_drop]
 omega
end
end L2
namespace L2
open PySem PySem.Spec PyProof.Rows
noncomputable def ixN (n:Nat)(i:Int):Option Nat:=if 0<=i then (if i < n then some i.toNat else none) else if -(n:Int)<=i then some (i + n).toNat else none
noncomputable def atI {α:Type}(xs:List α)(i:Int):Option α:=(ixN xs.length i).bind fun j=>xs[j]?
theorem ixN_seq {n:Nat}{i:Int}{j:Nat}(h:ixN n i=some j):seqIndex? i n=some j/\j < n/\-(n:Int)<=i/\i < n:=by
 unfold ixN at h
 by_cases h0:0<=i
 ·rw [if_pos h0] at h
  by_cases h1:i < n
  ·rw [if_pos h1] at h
   have e:i.toNat=j:=Option.some.inj h
   exact ⟨by rw [seqIndex_of h0 h1,e],by omega,by omega,h1⟩
  ·rw [if_neg h1] at h; cases h
 ·rw [if_neg h0] at h
  by_cases h1:-(n:Int)<=i
  ·rw [if_pos h1] at h
   have e:(i + n).toNat=j:=Option.some.inj h
   exact ⟨by rw [seqIndex_neg (by omega) h1,e],by omega,h1,by omega⟩
  ·rw [if_neg h1] at h; cases h
theorem atI_get {α:Type}{xs:List α}{i:Int}{v:α}(h:atI xs i=some v):∃ j,seqIndex? i xs.length=some j/\xs[j]?=some v/\j < xs.length/\-(xs.length:Int)<=i/\i < xs.length:=by
 unfold atI at h
 cases e:ixN xs.length i with
 | none=>rw [e] at h; cases h
 | some j =>
  rw [e] at h
  obtain ⟨h1,h2,h3,h4⟩:=ixN_seq e
  exact ⟨j,h1,h,h2,h3,h4⟩
theorem atI_nat {α:Type}{xs:List α}{j:Nat}{v:α}(h:xs[j]?=some v):atI xs (j:Int)=some v:=by
 have hj:j < xs.length:=(List.getElem?_eq_some_iff.mp h).1
 have e:ixN xs.length (j:Int)=some j:=by
  unfold ixN
  rw [if_pos (by omega),if_pos (by omega)]; simp
 unfold atI; rw [e]; exact h
noncomputable def PlainIx (b:Expr):Prop:=∀ o i,subscripted b false o i=operate [o,i] (getItem o i)
noncomputable def IxR (X:Cx)(r:R2):Prop :=
 ∀ (value slice:Expr) (pins:List (Addr × Obj)) (s:Shared) (σ:St) (H:Hp) (x y:V) (v u:Value) (Q:VK),Inv X pins σ H s->RelV x v->RelV y u->r x y H Q ->
  subscripted slice false v u=operate [v,u] (getItem v u)->wpAny (model X.prog X.w) X.A (subscriptTail value slice v u) (EP X pins σ Q) X.xe s
noncomputable def MtR (X:Cx)(id:String)(r:V->List V->Hp->VK->Prop):Prop :=
 ∀ (pins:List (Addr × Obj)) (s:Shared) (σ:St) (H:Hp) (x:V) (xs:List V) (v:Value) (us:List Value) (Q:VK),Inv X pins σ H s->RelV x v->Vals xs us->r x xs H Q ->
  wpAny (model X.prog X.w) X.A (call (.builtin id) (v :: us)) (EP X pins σ Q) X.xe s
section
variable {X:Cx}{a b:Expr}{ta tb:TE}{pos:Pos}
theorem pe_ix {r:R2}(hr:IxR X r)(ha:PE X a ta)(hb:PE X b tb)(hs:PlainIx b):PE X (.Subscript a b pos) (tOp r ta tb):=by
 intro pins s σ H Q I h
 exact Subscript_ (binT ha hb I h fun v u s2 x y H2 I2 rx ry q=>hr a b pins s2 σ H2 x y v u Q I2 rx ry q (hs _ _))
noncomputable def rIxL (K:PySem.W.Frag):R2:=fun x y H Q=>∃ p xs i v,x=.ref p/\y=.int i/\SqL K H p xs/\atI xs i=some v/\Q v H
noncomputable def rIxT (K:PySem.W.Frag):R2:=fun x y H Q=>∃ p xs i v,x=.ref p/\y=.int i/\SqT K H p xs/\atI xs i=some v/\Q v H
noncomputable def rIxS:R2:=fun x y H Q=>∃ z i c,x=.str z/\y=.int i/\z.length<=sizeLine/\atI z.cps.toList i=some c/\Q (.str ⟨#[c]⟩) H
theorem ix_list:IxR X (rIxL X.K):=by
 intro value slice pins s σ H x y v u Q I rx ry h hs
 obtain ⟨p,xs,i,z,rfl,rfl,hq,he,q⟩:=h
 cases rx
 obtain ⟨t,rfl⟩:=ry
 obtain ⟨its,r,pl,hz⟩:=I.list hq
 obtain ⟨j,h1,h2,h3,h4,h5⟩:=atI_get he
 obtain ⟨w,ew,rw'⟩:=r.get h2
 have hl:=r.length
 have hn:=line63
 have fin:EP X pins σ Q w s:=⟨z,H,I,rw',q⟩
 by_cases h0:0<=i
 ·have hj:i.toNat=j:=by
   rw [seqIndex_of h0 h5] at h1
   exact Option.some.inj h1
  exact item_listR pl.isList h0 (by omega) (by rw [hj]; simpa using ew) fin hs
 ·have hj:(i + (its.toArray.size:Int)).toNat=j:=by
   rw [seqIndex_neg (by omega) h4] at h1
   rw [List.size_toArray,<- hl]
   exact Option.some.inj h1
  exact subscriptTail_builtinR (x:=w) pl.isList.typeIs slot_list_getitem.lookup
   (wpAny_getItem_list_neg (Q:=fun r s'=>r=w/\EP X pins σ Q r s') pl.isList (by omega) (by rw [List.size_toArray] <;> omega) (by omega) (by rw [hj]; simpa using ew) ⟨rfl,fin⟩) hs
theorem ix_tup:IxR X (rIxT X.K):=by
 intro value slice pins s σ H x y v u Q I rx ry h hs
 obtain ⟨p,xs,i,z,rfl,rfl,hq,he,q⟩:=h
 cases rx
 obtain ⟨t,rfl⟩:=ry
 obtain ⟨its,r,pl,hz⟩:=I.tuple hq
 obtain ⟨j,h1,h2,h3,h4,h5⟩:=atI_get he
 obtain ⟨w,ew,rw'⟩:=r.get h2
 have hl:=r.length
 have hn:=line63
 have fin:EP X pins σ Q w s:=⟨z,H,I,rw',q⟩
 exact subscriptTail_builtinR (x:=w) pl.typeIs slot_tuple_getitem.lookup
  (getItem_tuple (j:=j) (Q:=fun r s'=>r=w/\EP X pins σ Q r s') pl (by omega) (by omega) (by rw [List.size_toArray,<- hl]; exact h1) (by simpa using ew) ⟨rfl,fin⟩) hs
theorem ix_str:IxR X rIxS:=by
 intro value slice pins s σ H x y v u Q I rx ry h hs
 obtain ⟨z,i,c,rfl,rfl,hz,he,q⟩:=h
 obtain ⟨t,rfl⟩:=rx
 obtain ⟨t',rfl⟩:=ry
 obtain ⟨j,h1,h2,h3,h4,h5⟩:=atI_get he
 have hl:z.cps.toList.length=z.length:=by simp [Str.length]
 rw [hl] at h1 h4 h5
 have hn:=line63
 exact tail_any (typeIs_str s z t) slot_str_getitem.lookup (getItem_str (c:=c) (by
  have e1:decide (i < -(2 ^ 63:Int))=false:=decide_eq_false (by omega)
  have e2:decide (i >= 2 ^ 63)=false:=decide_eq_false (by omega)
  rw [e1,e2,Bool.or_false]) (by rw [h1]; simpa using h2) ⟨.str ⟨#[c]⟩,H,I.tok _,⟨_,rfl⟩,q⟩) hs
theorem mapSeq_set (its:List Value)(n j:Nat)(u:Value):Obj.mapSeq (·.setIfInBounds j u) { cls:=.type "list",data:=.seq its.toArray n }={ cls:=.type "list",data:=.seq (its.set j u).toArray n }:=by
 simp [Obj.mapSeq]
theorem Inv.lst {pins:List (Addr × Obj)}{σ:St}{H:Hp}{s:Shared}{p:Addr}{xs:List V}(I:Inv X pins σ H s)(h:H p=some (.lst xs)) :
  ∃ (its:List Value) (n:Nat),Vals xs its/\s.heap.get? p=some { cls:=.type "list",data:=.seq its.toArray n }/\xs.length<=sizeLine:=by
 obtain ⟨z,its,n,r,e⟩:=I.hok p _ h
 exact ⟨its,n,r,e,z⟩
theorem Inv.lstUpd {pins:List (Addr × Obj)}{σ:St}{H:Hp}{s:Shared}{p:Addr}{xs ys:List V}{its its':List Value}{n n':Nat}{f:Obj->Obj}(I:Inv X pins σ H s)(h:H p=some (.lst xs))
  (ho:s.heap.get? p=some { cls:=.type "list",data:=.seq its.toArray n }) (hf:f { cls:=.type "list",data:=.seq its.toArray n }={ cls:=.type "list",data:=.seq its'.toArray n' }) (r:Vals ys its') (hz:ys.length<=sizeLine) (t:Nat) :
  Inv X pins σ (upd H p (.lst ys)) { s with heap:=s.heap.update p f,toks:=t }:=by
 have e:(s.heap.update p f).get? p=some { cls:=.type "list",data:=.seq its'.toArray n' }:=by
  rw [Heap.get?_update_self f ho (by rw [hf] <;> rfl),hf]
 refine I.write (x:=p) (e:=p) (by rw [h]; trivial) (.inl rfl) (fun b u hb q=>(Heap.get?_update_other _ _ (Ne.symm hb)).trans q) ⟨_,e⟩ ?_
 exact ⟨hz,its',n',r,e⟩
noncomputable def rSetL:V->V->V->Hp->(Hp->Prop)->Prop:=fun o i v H Q=>∃ p xs k j,o=.ref p/\i=.int k/\H p=some (.lst xs)/\ixN xs.length k=some j/\Q (upd H p (.lst (xs.set j v)))
theorem set_list:PSet X rSetL:=by
 intro pins s σ H o i v ov iv u Q I ro ri rv h
 obtain ⟨p,xs,k,j,rfl,rfl,hp,hj,q⟩:=h
 cases ro
 obtain ⟨t,rfl⟩:=ri
 obtain ⟨its,n,r,ho,hz⟩:=I.lst hp
 obtain ⟨h1,h2,h3,h4⟩:=ixN_seq hj
 have hl:=r.length
 have hn:=line63
 have I':Inv X pins σ (upd H p (.lst (xs.set j v))) { s with heap:=s.heap.update p (Obj.mapSeq (·.setIfInBounds j u)) } :=
  I.lstUpd hp ho (mapSeq_set its n j u) (r.set rv j) (by rw [List.length_set]; exact hz) s.toks
 by_cases h0:0<=k
 ·have hk:k.toNat=j:=by
   rw [seqIndex_of h0 h4] at h1
   exact Option.some.inj h1
  exact PySem.W.ki_setAt ho h0 (by omega) (by rw [List.size_toArray,<- hl]; exact h4) (by rw [hk]; exact ⟨_,I',q⟩)
 ·have hk:(k + (its.toArray.size:Int)).toNat=j:=by
   rw [seqIndex_neg (by omega) h3] at h1
   rw [List.size_toArray,<- hl]
   exact Option.some.inj h1
  exact PySem.W.ki_setBack ho (by omega) (by rw [List.size_toArray,<- hl]; exact h3) (by omega) (by rw [hk]; exact ⟨_,I',q⟩)
theorem slice_bounds (lo hi:Option Int)(n:Nat):(sliceBounds lo hi none n).1=((HT.sIx n 0 lo:Nat):Int)/\(sliceBounds lo hi none n).2.1=((HT.sIx n n hi:Nat):Int)/\(sliceBounds lo hi none n).2.2=1:=by
 refine ⟨?_,?_,rfl⟩
 ·cases lo with
  | none=>simp [sliceBounds,HT.sIx]
  | some i =>
   simp only [sliceBounds,HT.sIx,Option.getD_none,show (1:Int) > 0 by decide,if_true]
   by_cases h:i < 0
   ·simp only [h,if_true] <;> omega
   ·simp only [h,if_false] <;> omega
 ·cases hi with
  | none=>simp [sliceBounds,HT.sIx]
  | some i =>
   simp only [sliceBounds,HT.sIx,Option.getD_none,show (1:Int) > 0 by decide,if_true]
   by_cases h:i < 0
   ·simp only [h,if_true] <;> omega
   ·simp only [h,if_false] <;> omega
theorem slicePick_cut (its:List Value)(lo hi:Option Int):slicePick its.toArray lo hi none=((its.drop (HT.sIx its.length 0 lo)).take (HT.sIx its.length its.length hi - HT.sIx its.length 0 lo)).toArray:=by
 obtain ⟨h1,h2,h3⟩:=slice_bounds lo hi its.toArray.size
 unfold slicePick
 rw [h1,h2,h3]
 simp only [sliceRange_one,pick_run,List.size_toArray] <;> rfl
noncomputable def rSlL (K:PySem.W.Frag):V->Option Int->Option Int->Hp->VK->Prop:=fun x lo hi H Q=>∃ a xs,x=.ref a/\SqL K H a xs/\∀ p,H p=none->Q (.ref p) (upd H p (.lst (cutV xs lo hi)))
theorem sl_list:SlR X (rSlL X.K):=by
 intro pins s σ H x v vl vu lo hi sl Q I rx hs pl pu h
 obtain ⟨a,xs,rfl,hx,q⟩:=h
 cases rx
 obtain ⟨its,r,ht,hz⟩:=I.list hx
 have hlen:=r.length
 refine ⟨"list",_,slot_list_getitem.lookup,ht.isList.typeIs,?_⟩
 refine wpAny_getItem_list_slice ht.isList hs pl pu .none (by simp) ?_ (by rw [List.size_toArray] <;> omega)
 rw [slicePick_cut,<- hlen]
 refine ⟨.ref s.heap.objs.size,_,I.laid (t':=s.toks) (o:=.lst (cutV xs lo hi)) (fun b ob q=>Heap.get?_push_of_some _ q) (Nat.le_refl _) ?_,rfl,q _ (I.hok.fresh (Nat.le_refl _))⟩
 exact ⟨Nat.le_trans (cutV_length xs lo hi) hz,_,0,(r.drop (HT.sIx xs.length 0 lo)).take (HT.sIx xs.length xs.length hi - HT.sIx xs.length 0 lo),Heap.get?_push_size _ rfl⟩
theorem call_len_seq:CallR X (.builtin "len") (fun xs H Q=>∃ p ys,xs=[.ref p]/\(SqL X.K H p ys\/SqT X.K H p ys)/\Q (.int ys.length) H):=by
 intro pins s σ H xs us Q I r h
 obtain ⟨p,ys,rfl,hq,q⟩:=h
 obtain ⟨u,rfl,rx⟩:=vals1 r
 cases rx
 have hn:=line63
 rcases hq with hq | hq
 ·obtain ⟨its,r',pl,hz⟩:=I.list hq
  have hlen:=r'.length
  exact Calls.call_len_list pl.isList (by simp only [List.size_toArray] <;> omega) ⟨.int ys.length,H,I.tok _,⟨s.toks + 1,by rw [List.size_toArray,hlen]⟩,q⟩
 ·obtain ⟨its,r',pl,hz⟩:=I.tuple hq
  have hlen:=r'.length
  exact len_tuple pl (by simp only [List.size_toArray] <;> omega) ⟨.int ys.length,H,I.tok _,⟨s.toks + 1,by rw [List.size_toArray,hlen]⟩,q⟩
theorem call_len_str:CallR X (.builtin "len") (fun xs H Q=>∃ z,xs=[.str z]/\z.length<=sizeLine/\Q (.int z.length) H):=by
 intro pins s σ H xs us Q I r h
 obtain ⟨z,rfl,hz,q⟩:=h
 obtain ⟨u,rfl,t,rfl⟩:=vals1 r
 have hn:=line63
 exact len_str (by omega) ⟨.int z.length,H,I.tok _,⟨_,rfl⟩,q⟩
theorem call_list_of:CallR X (.type "list") (fun xs H Q=>∃ p ys,xs=[.ref p]/\(SqL X.K H p ys\/SqT X.K H p ys)/\∀ l,H l=none->Q (.ref l) (upd H l (.lst ys))):=by
 intro pins s σ H xs us Q I r h
 obtain ⟨p,ys,rfl,hq,q⟩:=h
 obtain ⟨u,rfl,rx⟩:=vals1 r
 cases rx
 have fin:∀ (its:List Value),Vals ys its->ys.length<=sizeLine->∀ (h':Heap) (c':Nat),(∀ b o',s.heap.get? b=some o'->h'.get? b=some o') ->
   h'.get? s.heap.objs.size=some { cls:=.type "list",dict:=none,data:=.seq its.toArray c',slots:=#[] }->EP X pins σ Q (.ref s.heap.objs.size) { s with heap:=h' }:=fun its r' hz h' c' kp e =>
  ⟨.ref s.heap.objs.size,_,I.laid (t':=s.toks) kp (Nat.le_refl _) (show ObjOk X.prog X.w _ h' _ (.lst ys) from ⟨hz,its,c',r',e⟩),rfl,q _ (I.hok.fresh (Nat.le_refl _))⟩
 rcases hq with hq | hq
 ·obtain ⟨its,r',pl,hz⟩:=I.list hq
  have hlen:=r'.length
  obtain ⟨o,ho,hc,n,hd⟩:=pl.isList
  exact call_list_seq p (.inl rfl) ho hc hd (fun h' c' kp e=>fin its r' hz h' c' kp e) (by simp only [List.size_toArray] <;> omega)
 ·obtain ⟨its,r',pl,hz⟩:=I.tuple hq
  have hlen:=r'.length
  obtain ⟨o,ho,hc,n,hd⟩:=pl
  exact call_list_seq p (.inr rfl) ho hc hd (fun h' c' kp e=>fin its r' hz h' c' kp e) (by simp only [List.size_toArray] <;> omega)
noncomputable def tyV (K:PySem.W.Frag)(T:String)(x:V)(H:Hp):Prop:=match x with
 | .str _=>T="str"
 | .int _=>T="int"
 | .ref p=>(T="list"/\∃ xs,SqL K H p xs)\/(T="tuple"/\∃ o,K.lookup p=some o/\o.cls=.type "tuple"/\o.dict=none) \/
   (T="dict"/\((∃ kvs,H p=some (.dK kvs))\/∃ kvs,H p=some (.dT kvs)))\/(T="set"/\∃ S n,H p=some (.set S n))
 | _=>False
theorem tyV_is {pins:List (Addr × Obj)}{σ:St}{H:Hp}{s:Shared}{T:String}{x:V}{v:Value}(I:Inv X pins σ H s)(r:RelV x v)(ty:tyV X.K T x H) :
  s.TypeIs v T/\∀ a,v=.ref a->∃ ob,s.heap.get? a=some ob/\ob.dict=none:=by
 cases x with
 | str z =>
  obtain ⟨t,rfl⟩:=r
  cases (show T="str" from ty)
  exact ⟨typeIs_str s z t,fun _ e=>nomatch e⟩
 | int i =>
  obtain ⟨t,rfl⟩:=r
  cases (show T="int" from ty)
  exact ⟨typeIs_int s i t,fun _ e=>nomatch e⟩
 | ref p =>
  cases r
  rcases ty with ⟨rfl,xs,hq⟩ | ⟨rfl,o,hk,hc,hd⟩ | ⟨rfl,hk⟩ | ⟨rfl,S,n,hk⟩
  ·obtain ⟨its,_,pl,_⟩:=I.list hq
   refine ⟨pl.isList.typeIs,fun a e=>?_⟩
   cases e
   obtain ⟨o,n,e,c,hd,_⟩:=pl
   exact ⟨o,e,hd⟩
  ·refine ⟨⟨o,I.kIn p o hk,hc⟩,fun a e=>?_⟩
   cases e
   exact ⟨o,I.kIn _ o hk,hd⟩
  ·have z:∃ o,s.heap.get? p=some o/\o.ExactDict:=by
    rcases hk with ⟨kvs,hk⟩ | ⟨kvs,hk⟩
    ·obtain ⟨_,_,_,_,o,_,_,e,ex,_⟩:=I.hok p _ hk
     exact ⟨o,e,ex⟩
    ·obtain ⟨_,_,_,_,o,_,_,e,ex,_⟩:=I.hok p _ hk
     exact ⟨o,e,ex⟩
   obtain ⟨o,e,ex⟩:=z
   refine ⟨⟨o,e,ex.1⟩,fun a e2=>?_⟩
   cases e2
   exact ⟨o,e,ex.2.1⟩
  ·obtain ⟨o,_,_,_,e,ex,_⟩:=I.hok p _ hk
   refine ⟨⟨o,e,ex.1⟩,fun a e2=>?_⟩
   cases e2
   exact ⟨o,e,ex.2.1⟩
 | _=>exact False.elim ty
noncomputable def tBM (K:PySem.W.Frag)(T:String)(r:V->List V->Hp->VK->Prop)(to:TE)(t:TA):TE:=fun σ H Q=>to σ H fun x H1=>tyV K T x H1/\t σ H1 fun xs H2=>r x xs H2 Q
variable {o e:Expr}{es:List Expr}{to:TE}{t:TA}{name:Str}{apos cpos:Pos}{T id:String}{r:V->List V->Hp->VK->Prop}
theorem pe_bm (pa:PlainAttrs T)(slot:Slot T name id)(hty:typeOf (.builtin id)=pure (.type "method_descriptor"))(hm:MtR X id r)(ho:PE X o to)(ha:PA X (e :: es) t)
  (hbase:attributeBase o name X.env (eval o X.env)=eval o X.env:=by rfl)
  (hfew:((backTo cpos (starEach (e :: es) X.env)).all (fun x=>!x.1) && (backToKw cpos (keywordEach [] X.env)).all (fun x=>x.1.isSome)
   && decide ((e :: es).length + ([]:List Keyword).length + (if ([]:List Keyword).isEmpty then 0 else 1) < 30))=true:=by rfl)
  (hline:(apos.endLine == cpos.line)=true:=by rfl) (hs:starEach (e :: es) X.env=(false,eval e X.env) :: starEach es X.env:=by rfl) (hplain:(backTo cpos (starEach es X.env)).any (·.1)=false:=by rfl) :
  PE X (.Call (.Attribute o name apos) (e :: es) [] cpos) (tBM X.K T r to t):=by
 intro pins s σ H Q I h
 refine wpAny_Call_method_late hbase hfew hline rfl (thn (ho pins s σ H _ I h) fun v s1 ⟨x,H1,I1,r1,ty,q1⟩=>?_)
 obtain ⟨h1,h2⟩:=tyV_is I1 r1 ty
 refine ⟨T,id,pa,slot,hty,h1,h2,?_⟩
 have hA:=ha cpos pins s1 σ H1 _ I1 q1
 rw [hs] at hA ⊢
 refine Calls.callWith_builtin (by show (false || (backTo cpos (starEach es X.env)).any (·.1))=false; rw [hplain] <;> rfl) (Calls.evalArgs_plain ?_)
 exact thn hA fun us s2 ⟨vs,H2,I2,r2,q2⟩=>hm pins s2 σ H2 x vs v us Q I2 r1 r2 q2
/- xs.append(e),list.index on a module's tuple .. are MtR facts of 06m -/
end
end L2
namespace L2
open PySem PySem.Spec PyProof.Rows
noncomputable def MtM (X:Cx)(id:String)(r:V->List V->Hp->VK->Prop):Prop :=
 ∀ (pins:List (Addr × Obj)) (s:Shared) (σ:St) (H:Hp) (x:V) (xs:List V) (v:Value) (us:List Value) (Q:VK),Inv X pins σ H s->RelV x v->Vals xs us->r x xs H Q ->
  wpAny (model X.prog X.w) X.A (call (.builtin id) (v :: us)) (EP X pins σ Q) X.xe s
theorem Vals.one:∀ {x:V} {us:List Value},Vals [x] us->∃ u,us=[u]/\RelV x u
 | _,_,.cons r .nil=>⟨_,rfl,r⟩
theorem Vals.two:∀ {x y:V} {us:List Value},Vals [x,y] us->∃ u v,us=[u,v]/\RelV x u/\RelV y v
 | _,_,_,.cons r (.cons q .nil)=>⟨_,_,rfl,r,q⟩
theorem Vals.rep {xs:List V}{us:List Value}(h:Vals xs us):∀ k:Nat,Vals (List.replicate k xs).flatten (List.replicate k us).flatten
 | 0=>.nil
 | k + 1=>by
  rw [List.replicate_succ,List.replicate_succ,List.flatten_cons,List.flatten_cons]
  exact Vals.append h (Vals.rep h k)
theorem foldl_rep (its:List Value):∀ (k:Nat) (acc:List Value),
  List.foldl (fun x1 x2=>x1++x2) acc.toArray (List.replicate k its.toArray)=(acc++(List.replicate k its).flatten).toArray
 | 0,acc=>by simp
 | k + 1,acc=>by
  have e:acc.toArray++its.toArray=(acc++its).toArray:=by simp
  have e2:(acc++its)++(List.replicate k its).flatten=acc++(List.replicate (k + 1) its).flatten:=by
   rw [List.replicate_succ,List.flatten_cons,List.append_assoc]
  rw [<- e2,<- foldl_rep its k (acc++its),<- e,List.replicate_succ,List.foldl_cons]
section
variable {X:Cx}{pins:List (Addr × Obj)}{σ:St}{H:Hp}{s:Shared}{l b:Addr}{xs ys zs:List V}
theorem Inv.lset {its its':List Value}{n:Nat}{f:Array Value->Array Value}{t':Nat}(I:Inv X pins σ H s)(hH:H l=some (.lst xs))
  (e:s.heap.get? l=some { cls:=.type "list",data:=.seq its.toArray n }) (hf:f its.toArray=its'.toArray) (hv:Vals ys its') (hz:ys.length<=sizeLine) :
  Inv X pins σ (upd H l (.lst ys)) { s with heap:=s.heap.update l (Obj.mapSeq f),toks:=t' }:=by
 have q:=PySem.IsL.update e f
 rw [hf] at q
 refine I.write (x:=l) (e:=l) (by rw [hH]; exact trivial) (.inl rfl) (fun b' u hb hu=>(Heap.get?_update_other s.heap (Obj.mapSeq f) (Ne.symm hb)).trans hu) ⟨_,q⟩ ?_
 exact ⟨hz,its',_,hv,q⟩
theorem Inv.lnew {its:List Value}{t':Nat}(I:Inv X pins σ H s)(hv:Vals ys its)(hz:ys.length<=sizeLine) :
  Inv X pins σ (upd H s.heap.objs.size (.lst ys)) { s with heap:=s.heap.push { cls:=.type "list",data:=.seq its.toArray },toks:=t' } :=
 I.laid (fun _ _ q=>Heap.get?_push_of_some _ q) (Nat.le_refl _) ⟨hz,its,0,hv,Heap.get?_push_size _ rfl⟩
theorem Inv.fresh (I:Inv X pins σ H s):H s.heap.objs.size=none:=I.hok.fresh (Nat.le_refl _)
theorem Inv.lstM (I:Inv X pins σ H s)(hH:H l=some (.lst xs)):xs.length<=sizeLine/\∃ (its:List Value) (n:Nat),Vals xs its/\xs.length=its.length/\s.heap.get? l=some { cls:=.type "list",data:=.seq its.toArray n }:=by
 obtain ⟨z,its,n,r,e⟩:=I.hok l _ hH
 exact ⟨z,its,n,r,r.length,e⟩
theorem notLongL {n:Nat}(h:n<=sizeLine):Builtin.List.listTooLong n=false:=by
 unfold Builtin.List.listTooLong
 exact decide_eq_false (by omega)
end
section
variable {X:Cx}
noncomputable def rAppend:V->List V->Hp->VK->Prop:=fun x vs H Q=>∃ l xs y,x=.ref l/\vs=[y]/\H l=some (.lst xs)/\xs.length < sizeLine/\Q .non (upd H l (.lst (xs++[y])))
theorem mt_append:MtM X "list.append" rAppend:=by
 intro pins s σ H x vs v us Q I rx rv h
 obtain ⟨l,xs,y,rfl,rfl,hH,hz,q⟩:=h
 cases rx
 obtain ⟨u,rfl,ru⟩:=rv.one
 obtain ⟨z,its,n,r,hl,e⟩:=I.lstM hH
 refine call_meets F.slot_list_append ⟨_,e,rfl⟩ F.entry_list_append (F.args_list_append_2 _ _) (PySem.list_append l its.toArray n u (by rw [List.size_toArray]; omega)) ⟨e,?_⟩
 refine ⟨.non,_,I.lset (its':=its++[u]) hH e (by simp) (r.append (.cons ru .nil)) ?_,rfl,q⟩
 rw [List.length_append,List.length_singleton]
 omega
noncomputable def rExtend:V->List V->Hp->VK->Prop:=fun x vs H Q=>∃ l b xs zs,x=.ref l/\vs=[.ref b]/\H l=some (.lst xs)/\H b=some (.lst zs)/\xs.length + zs.length<=sizeLine/\Q .non (upd H l (.lst (xs++zs)))
theorem mt_extend:MtM X "list.extend" rExtend:=by
 intro pins s σ H x vs v us Q I rx rv h
 obtain ⟨l,b,xs,zs,rfl,rfl,hH,hB,hz,q⟩:=h
 cases rx
 obtain ⟨u,rfl,ru⟩:=rv.one
 cases ru
 obtain ⟨z,its,n,r,hl,e⟩:=I.lstM hH
 obtain ⟨z2,its2,n2,r2,hl2,e2⟩:=I.lstM hB
 have hsz:its.toArray.size + its2.toArray.size<=sizeLine:=by rw [List.size_toArray,List.size_toArray]; omega
 have hlong:¬ (!its.toArray.isEmpty && Builtin.List.listTooLong (its.toArray.size + its2.toArray.size))=true:=by
  rw [notLongL hsz,Bool.and_false]
  exact Bool.false_ne_true
 refine call_meets F.slot_list_extend ⟨_,e,rfl⟩ F.entry_list_extend (F.args_list_extend_2 _ _)
  (AutoSeq1.list_extend_list_list_0 l its.toArray n b its2.toArray n2 hlong (by rw [List.size_toArray]; omega) (by omega)) ⟨e,e2,?_⟩
 refine ⟨.non,_,I.lset (its':=its++its2) hH e (by simp) (r.append r2) ?_,rfl,q⟩
 rw [List.length_append]
 omega
noncomputable def rCat:R2:=fun x y H Q=>∃ l b xs zs,x=.ref l/\y=.ref b/\H l=some (.lst xs)/\H b=some (.lst zs)/\xs.length + zs.length<=sizeLine/\∀ p,H p=none->Q (.ref p) (upd H p (.lst (xs++zs)))
theorem op_cat:OpR X (binaryOp .Add) rCat:=by
 intro pins s σ H x y v u Q I rx ry h
 obtain ⟨l,b,xs,zs,rfl,rfl,hH,hB,hz,q⟩:=h
 cases rx
 cases ry
 obtain ⟨z,its,n,r,hl,e⟩:=I.lstM hH
 obtain ⟨z2,its2,n2,r2,hl2,e2⟩:=I.lstM hB
 refine PySem.P.add_list e e2 ?_ (by rw [List.size_toArray,List.size_toArray]; omega)
 have ea:its.toArray++its2.toArray=(its++its2).toArray:=by simp
 rw [ea]
 exact ⟨.ref _,_,I.lnew (t':=s.toks) (r.append r2) (by rw [List.length_append]; omega),rfl,q _ I.fresh⟩
noncomputable def rRep:R2:=fun x y H Q=>∃ l k xs,x=.ref l/\y=.int k/\H l=some (.lst xs)/\-(2 ^ 63)<=k/\k < 2 ^ 63/\xs.length * k.toNat<=sizeLine /\
 ∀ p,H p=none->Q (.ref p) (upd H p (.lst (List.replicate k.toNat xs).flatten))
theorem len_rep {α:Type}(xs:List α)(k:Nat):(List.replicate k xs).flatten.length=k * xs.length:=by
 induction k with
 | zero=>simp
 | succ k ih=>rw [List.replicate_succ,List.flatten_cons,List.length_append,ih,Nat.succ_mul,Nat.add_comm]
theorem op_rep:OpR X (binaryOp .Mult) rRep:=by
 intro pins s σ H x y v u Q I rx ry h
 obtain ⟨l,k,xs,rfl,rfl,hH,h1,h2,hz,q⟩:=h
 cases rx
 obtain ⟨t,rfl⟩:=ry
 obtain ⟨z,its,n,r,hl,e⟩:=I.lstM hH
 have hlen:its.toArray.size * k.toNat<=sizeLine:=by rw [List.size_toArray,<- hl]; exact hz
 have hcap:¬ its.toArray.size * k.toNat > (2 ^ 63 - 1) / 8:=by
  have:(sizeLine:Nat)<=(2 ^ 63 - 1) / 8:=by decide
  omega
 have hfit:¬ (!Builtin.List.listFitsIndex k)=true:=by
  rw [fitsIndex_both h1 h2]
  exact Bool.false_ne_true
 have hlong:¬ Builtin.List.listTooLong (its.toArray.size * k.toNat)=true:=by
  rw [notLongL hlen]
  exact Bool.false_ne_true
 have hnew:List.foldl (fun x1 x2=>x1++x2) #[] (List.replicate (if its.toArray.isEmpty=true then 0 else k.toNat) its.toArray)=(List.replicate k.toNat its).flatten.toArray:=by
  have f0:∀ m:Nat,List.foldl (fun x1 x2=>x1++x2) #[] (List.replicate m its.toArray)=(List.replicate m its).flatten.toArray:=fun m=>by
   have:=foldl_rep its m []
   rw [List.nil_append] at this
   exact this
  rw [f0]
  cases its with
  | nil=>simp
  | cons a r'=>rw [if_neg (by simp)]
 refine wpAny_binaryOp_repeat_ref (T:="list") (U:="int") (by decide) ⟨_,e,rfl⟩ (fun s'=>typeIs_int s' k t) noFill_list_mul F.fills_int_mul F.slot_int_rmul repeat_list F.slot_int_index.lookup
  (call_meets F.slot_int_rmul (typeIs_int s k t) F.entry_int_rmul (F.args_int_rmul_2 _ _) (int___rmul___int_list k t l its.toArray n)
   ⟨e,rfl,⟨_,e,rfl⟩,call_meets F.slot_list_mul ⟨_,e,rfl⟩ F.entry_list_mul (F.args_list_mul_2 _ _) (AutoListH.list___mul___list_int_3 l its.toArray n k t hfit hcap hlong) ⟨e,?_⟩⟩)
 rw [hnew]
 exact ⟨.ref _,_,I.lnew (t':=s.toks) (r.rep k.toNat) (by rw [len_rep,Nat.mul_comm]; exact hz),rfl,q _ I.fresh⟩
end
section
variable {prog:Program}{w:World}{A:Around}{E:Value->Shared->Prop}{s:Shared}
end
section
variable {X:Cx}
end
end L2
namespace Att
open PySem PySem.W PySem.Calls PyProof.Rows
theorem ints_of_wellAll {P:Params}{h:Heap}:∀ (ns:List Int) (vs:List Value),WellAll P h vs (ns.map WData.int)->IntsAre vs ns:=by
 intro ns
 induction ns with
 | nil =>
  intro vs w
  rw [List.map_nil] at w
  cases w
  exact .nil
 | cons n ns ih =>
  intro vs w
  rw [List.map_cons] at w
  cases w with
  | cons a b =>
   cases a
   exact .cons _ _ (ih _ b)
theorem script_of {l:OpenLaw}{n:Nat}(hn:l.most=some n){P:Params}{h:Heap}{args:List WData}{vals:List Value}
  (hpre:l.row.toRowW.claim.pre args=true) (hwl:WellAll P h vals args) :
  ∃ a vs ns,vals=[Value.ref a]/\args=[WData.list (ns.map WData.int)]/\h.get? a=some { cls:=.type "list",data:=.seq vs.toArray }/\IntsAre vs ns/\ns.length<=n:=by
 have hsh:WShape.hasAll [] args [.list .int]=true:=(pre_splitW hpre).1
 have hc:l.pre.holds [] { args:=args }=true:=(pre_splitW hpre).2
 obtain ⟨d,r,rfl,h1,h2⟩:=hasAllW_cons hsh
 obtain rfl:=hasAllW_nil h2
 obtain ⟨xs,rfl,h3⟩:=hasW_list h1
 obtain ⟨ns,rfl⟩:=items_int h3
 have hlen:ns.length<=n:=by
  unfold OpenLaw.pre at hc
  have h4:(WTm.not (.lt (.lit (.int (n:Int))) (.len (.arg 0)))).holds [] { args:=[.list (ns.map .int)] }=true:=by
   have h4:=(holds_andW hc).1
   rw [hn] at h4
   exact h4
  have h5:=condW_of h4 (w_not (w_lt w_lit (w_len_list (w_arg rfl))))
  rw [List.length_map] at h5
  refine Nat.le_of_not_lt fun q=>?_
  have q':(n:Int) < ((ns.length:Nat):Int):=by omega
  first
   | (rw [decide_eq_true q'] at h5; exact absurd h5 (by decide))
   | (simp at h5; omega)
 cases hwl with
 | cons w1 w2 =>
  cases w2
  cases w1 with
  | list ho hall=>exact ⟨_,_,ns,rfl,rfl,ho,ints_of_wellAll ns _ hall,hlen⟩
theorem post_true (l:OpenLaw)(args:List WData):l.row.toRowW.claim.post args (.bool true) args=true :=
 postW_of (r:=l.row.toRowW) (X:=(true == true))
  (show WShape.has [] (.bool true) .bool=true by first | rfl | decide | simp [WShape.has,WShape.arms,WShape.armsAll])
  (show (WTm.eq .res (.lit (.bool true))).value [] { args:=args,res:=some (.bool true),after:=args }=some (.bool (true == true)) from w_eq_bool (w_res rfl) w_lit) rfl
theorem attach_call {l:OpenLaw}{n:Nat}{q:Program}{loose:List Str}{XP:(Str->Option Value)->Heap->Prop}{YP:World->Heap->Prop}{d:DefRec}
  (hn:l.most=some n) (hdf:d.params.defaults=[])
  (call:∀ (w:World) (s₀ s₁:Shared) (mg mb:Str->Option Value) (fa:Addr) (o:Obj) (pm cd doc:Value) (a:Addr) (vs:List Value) (ns:List Int),
   Ground q loose [] XP w s₀ mg mb s₁.heap->YP w s₁.heap ->
   s₁.heap.get? fa=some o->o.data=.func (docDef d.name d.params d.body d.scope pm cd doc)->s₁.heap.CodeRec cd d.name->mg d.name=some (.ref fa) ->
   s₁.heap.get? a=some { cls:=.type "list",data:=.seq vs.toArray }->IntsAre vs ns->ns.length<=n->s₁.gens=#[] ->
   codeAny (model l.prog w) callerA (.call (.ref fa) ⟨[.ref a],[]⟩) (fun r s'=>r=.ok (.ret (.bool true))/\OldK s₁.heap s'.heap/\s'.os=s₁.os/\AllBare s'.gens) s₁) :
  WalkO q loose XP YP l.row.toRowW d [] (fun f vs=>PySem.call f vs):=by
 intro w s₀ s₁ mg mb G Y fa o pm cd doc dV kV ho hd hcd hD hmg hg args vals as hpre hlay hrd hwl hlo
 obtain rfl:dV=.none:=Dflts.none hD hdf
 obtain rfl:kV=.none:=Dflts.noKw hD
 obtain ⟨a,vs,ns,rfl,rfl,hobj,hints,hlen⟩:=script_of hn hpre hwl
 refine enter_call (codeAny_mono (call w s₀ s₁ mg mb fa o pm cd doc a vs ns G Y ho (fd_plain hd) hcd hmg hobj hints hlen hg) fun r s' hq=>?_)
 obtain ⟨rfl,h2,h3,h4⟩:=hq
 exact ⟨.inl ⟨.bool true,.bool true,[],rfl,fun _=>rfl,.bool true,post_true l _,fun _=>⟨List.Pairwise.nil,fun _ hm=>(nomatch hm)⟩⟩,h2,h3,h4⟩
section
variable {prog:Program}{w:World}{A:Around}{E:Value->Shared->Prop}{s:Shared}{K:Frag}
end
end Att
namespace L2
open PySem PySem.Spec PyProof.Rows
theorem vals_ints:∀ {vs:List Value} {ns:List Int},IntsAre vs ns->Vals (ns.map V.int) vs
 | _,_,.nil=>.nil
 | _,_,.cons n t h=>.cons ⟨t,rfl⟩ (vals_ints h)
noncomputable def Only (H:Hp):Prop:=∀ b,H b=none\/∃ o xs,H b=some (.frz o (.lst xs))
theorem law_call {P:Program}{w:World}{K:PySem.W.Frag}{mg mb:Str->Option Value}{CX:CXT}{k:Nat}{fa a:Addr}{fd:FuncData}{x:Str}{sp:Sp}{s₁:Shared}{vs:List Value}{ns:List Int}
  (KX:K.In s₁.heap) (hns:s₁.heap.Ns mainGlobals mg) (hb:s₁.heap.Ns builtinsNs mb) (hbb:∀ x:Str,x ≠ "__name__"->mb x=bootBuiltins x) (hlim:s₁.heap.NoLimit) (hg:s₁.gens=#[])
  (ha:s₁.heap.get? a=some { cls:=.type "list",data:=.seq vs.toArray }) (hi:IntsAre vs ns) (hl:ns.length<=sizeLine) (hr:Room k callerA)
  (F:∀ base:Heap,K.In base->base.Ns mainGlobals mg->FnOk P w K mg base CX k fa fd [x] sp) (hbind:∀ (s:Shared) (u:Value),BindsTo s fd ⟨[u],[]⟩ [(x,u)])
  (hsp:∀ H:Hp,Only H->SqL K H a (ns.map V.int)->sp [.ref a] H (fun v _=>v=.bl true) fun _ _ _=>False)
  (hCX:∀ H e s',CX [] H s₁ (fun _ _ _=>False) e s'->False) :
  codeAny (model P w) callerA (.call (.ref fa) ⟨[.ref a],[]⟩) (fun r s'=>r=.ok (.ret (.bool true))/\OldK s₁.heap s'.heap/\s'.os=s₁.os/\AllBare s'.gens) s₁:=by
 have rv:=vals_ints hi
 have lenV:=hi.length
 have core:∀ H:Hp,Only H->SqL K H a (ns.map V.int)->HOk P w H s₁.heap->(∀ b,H b ≠ none->b=a)->(H a ≠ none->K.lookup a=none) ->
   codeAny (model P w) callerA (.call (.ref fa) ⟨[.ref a],[]⟩) (fun r s'=>r=.ok (.ret (.bool true))/\OldK s₁.heap s'.heap/\s'.os=s₁.os/\AllBare s'.gens) s₁:=by
  intro H hO hS hok hA hK
  have base_of:∀ {b:Addr} {o:Obj},s₁.heap.get? b=some o->H b=none->(hidT s₁.heap H).get? b=some o:=fun e n=>hidT_get e n
  have noA:∀ {b:Addr} {o:Obj} {es:Array DictEntry} {ep:Nat},s₁.heap.get? b=some o->o.data=.dict es ep->H b=none:=fun {b o es ep} e d=>by
   cases q:H b with
   | none=>rfl
   | some u =>
    have e':b=a:=hA b (by rw [q]; simp)
    subst e'
    rw [ha] at e; cases e
    have d':Data.seq vs.toArray _=Data.dict es ep:=d
    cases d'
  have nsK:∀ {b:Addr} {m:Str->Option Value},s₁.heap.Ns b m->(hidT s₁.heap H).Ns b m:=fun {b m} ⟨o,es,ep,e,d,r⟩=>⟨o,es,ep,base_of e (noA e d),d,r⟩
  have hKb:K.In (hidT s₁.heap H):=fun b o e=>base_of (KX b o e) (by
   cases q:H b with
   | none=>rfl
   | some u =>
    have e':b=a:=hA b (by rw [q]; simp)
    subst e'
    rw [hK (by rw [q]; simp)] at e; cases e)
  have hM:Mod K mg (hidT s₁.heap H):=⟨hKb,nsK hns,⟨mb,nsK hb,hbb⟩,let ⟨mc,h1,h2⟩:=hlim; ⟨mc,nsK h1,h2⟩⟩
  have e0:Env0 P w K mg (hidT s₁.heap H) callerA [] s₁ H:=⟨rfl,hM,fun b o e=>of_hidT e,Nat.le_of_eq (hidT_size _ _),trivial,fun b hb=>absurd (show b ∈ ([]:List Addr) from hb) (by simp),hok,.of_eq hg⟩
  refine codeAny_mono ((F _ hKb (nsK hns)).run callerA [] s₁ H ⟨[.ref a],[]⟩ [.ref a] [.ref a] _ _ hr e0 (hbind s₁ (.ref a)) (.cons rfl .nil) (hsp H hO hS)) fun r s' h=>?_
  cases r with
  | error e=>exact (hCX H e s' h).elim
  | ok fl =>
   cases fl with
   | next=>exact False.elim h
   | brk=>exact False.elim h
   | cont=>exact False.elim h
   | ret u =>
    obtain ⟨v,H',os,bare,un,hok',r',q⟩:=h
    have q':v=.bl true:=q
    subst q'
    obtain rfl:u=Value.bool true:=r'
    refine ⟨rfl,OldK.of_keep fun b o e=>?_,os,bare⟩
    cases q:H b with
    | none=>exact un.keep b o e q (by intro z; exact absurd (show b ∈ ([]:List Addr) from z) (by simp)) (by simp)
    | some u =>
     rcases hO b with z | ⟨ob,xs,z⟩
     ·rw [q] at z; cases z
     ·have z2:=un.frzs b ob _ z
      obtain ⟨e1,_⟩:=hok b _ z
      obtain ⟨e2,_⟩:=hok' b _ z2
      rw [e] at e1; cases e1
      exact e2
 cases hk:K.lookup a with
 | some o =>
  have e:=KX a o hk
  rw [ha] at e
  cases e
  refine core (fun _=>none) (fun _=>.inl rfl) (.inr ⟨_,vs.toArray,_,hk,rfl,rfl,rfl,by rw [List.size_toArray,lenV]; exact hl,by simpa using rv⟩) (fun b u z=>by have z':(none:Option HO)=some u:=z; cases z') (fun b z=>absurd rfl z) fun z=>absurd rfl z
 | none =>
  refine core (fun b=>if b=a then some (.frz { cls:=.type "list",data:=.seq vs.toArray } (.lst (ns.map V.int))) else none) (fun b=>?_) (.inl (.inr ⟨{ cls:=.type "list",data:=.seq vs.toArray },if_pos rfl⟩)) (fun b u z=>?_) (fun b z=>?_) fun _=>hk
  ·by_cases hb:b=a
   ·exact .inr ⟨_,_,if_pos hb⟩
   ·exact .inl (if_neg hb)
  ·by_cases hb:b=a
   ·have z':=(if_pos hb).symm.trans z
    cases z'
    subst hb
    exact ⟨ha,by rw [List.length_map]; exact hl,vs,_,rv,ha⟩
   ·have z':=(if_neg hb).symm.trans z
    cases z'
  ·by_cases hb:b=a
   ·exact hb
   ·exact absurd (if_neg hb) z
end L2
namespace L2
open PySem PySem.Spec PyProof.Rows
theorem walk_of {l:PySem.W.OpenLaw}{n k:Nat}{q:Program}{loose:List Str}{XP:(Str->Option Value)->Heap->Prop}{YP:World->Heap->Prop}{d:DefRec}{K:Params->PySem.W.Frag}{CX:World->CXT}{sp:World->Sp}{x:Str}
  (hn:l.most=some n) (hn2:n<=sizeLine) (hdf:d.params.defaults=[]) (hr:Room k callerA)
  (hY:∀ (w:World) (h:Heap),YP w h->(K w.params).In h)
  (F:∀ (w:World) (mg:Str->Option Value) (fa:Addr) (h:Heap),(K w.params).In h->h.Ns mainGlobals mg->mg d.name=some (.ref fa) ->
   ∃ fd:FuncData,(∀ (s:Shared) (u:Value),BindsTo s fd ⟨[u],[]⟩ [(x,u)]) /\
    ∀ base:Heap,(K w.params).In base->base.Ns mainGlobals mg->FnOk l.prog w (K w.params) mg base (CX w) k fa fd [x] (sp w))
  (hsp:∀ (w:World) (H:Hp) (a:Addr) (ns:List Int),ns.length<=n->Only H->SqL (K w.params) H a (ns.map V.int)->sp w [.ref a] H (fun v _=>v=.bl true) fun _ _ _=>False)
  (hCX:∀ (w:World) (H:Hp) (s:Shared) (e:Value) (s':Shared),CX w [] H s (fun _ _ _=>False) e s'->False) :
  PySem.W.WalkO q loose XP YP l.row.toRowW d [] (fun f vs=>PySem.call f vs):=by
 refine Att.attach_call hn hdf fun w s₀ s₁ mg mb fa o pm cd doc a vs ns G Y ho hd hcd hmg hobj hints hlen hg=>?_
 have KX:=hY w _ Y
 obtain ⟨fd,hb,hF⟩:=F w mg fa _ KX G.T.g hmg
 exact law_call KX G.T.g G.T.b G.T.builtins G.T.nolimit hg hobj hints (Nat.le_trans hlen hn2) hr hF hb (fun H hO hS=>hsp w H a ns hlen hO hS) fun H e s'=>hCX w H s₁ e s'
end L2
/- THE LAST THEOREM (shape; LID,My.* are yours):
   My.Adr: a structure of the addresses that your layer names (classes,functions); My.Txt K t: a structure (Prop) of the equations over K;
   My.txt_mk:{K} {implicit addresses ..} (e1:nsIn K mainGlobals "law"=some (some (.ref f))) (e2:K.lookup f=some ⟨oc,od,.func (fnOf "law" "law" params body scope dV kV doc pm an cdv ct),sl⟩) (e3:codeIn K cdv "law"=true) ..:∃ t,My.Txt K t
set_option maxRecDepth 100000 in
set_option maxHeartbeats 0 in
theorem PySem.Challenge.cw_LID_holds : PySem.Challenge.rw_LID.Holds := by
 w_on; o_law; k_head; (case hw=>w_witness2)
 k_fill
 refine L2.walk_of (l:=PySem.Challenge.rw_LID) (n:=63) (k:=40) (x:="script") (CX:=fun w=>..) (sp:=fun _=>My.sp_law) rfl (by decide) rfl ⟨rfl,by decide,by decide⟩ (fun w h Y=>PySem.W.kIn_of Y) ?F ?S ?C
 case F =>
  intro w mg fa h KX G hmg
  have T:∃ t,My.Txt (L2.KOf KX) t:=by
   dsimp only [L2.KOf]                          -- K must stand as «<heap const> w.params» for k_is
   refine' My.txt_mk ?e1 ?e2 ?e3 ..
   (case e1=>PySem.W.k_is)                    -- in the order: a name->its address->its object->its parts
   (case e2=>PySem.W.k_is)
   ..
  obtain ⟨t,T⟩:=T
  have e0:=hmg.symm.trans (PySem.W.mg_of KX G T.law)
  cases e0                                       -- fa is the law's own address
  exact ⟨_,fun s u=>.of_eq rfl,fun base kb nb=>My.law_fn T kb nb⟩     -- if «.of_eq rfl» comes too early: refine' ⟨_,?b,fun base kb nb=>My.law_fn T kb nb⟩; exact fun s u=>.of_eq rfl
 case S=>exact fun w H a ns hl hO hS=>..
 case C=>exact ..
(the tactic k_is has no namespace: write k_is) -/
namespace L2
open PySem PySem.Spec PyProof.Rows
noncomputable def defArgs (s:Stmt):Arguments:=match s with
 | .FunctionDef _ a _ _ _ _ _ _ _ _=>a
 | _=>{ posonlyargs:=[],args:=[],vararg:=none,kwonlyargs:=[],kw_defaults:=[],kwarg:=none,defaults:=[] }
noncomputable def defBody (s:Stmt):List Stmt:=match s with
 | .FunctionDef _ _ b _ _ _ _ _ _ _=>b
 | _=>[]
noncomputable def defScope (s:Stmt):Scope:=match s with
 | .FunctionDef _ _ _ _ _ _ sc _ _ _=>sc
 | _=>{ kind:=.function,names:=[],isGenerator:=false,isCoroutine:=false }
noncomputable abbrev CX0:CXT:=fun _ _ _ _ _ _=>False
noncomputable abbrev E0:XK:=fun _ _ _=>False
theorem pass0 {X:Cx}:Passes CX0 X E0:=fun _ _ _ _ _ _ _ h=>h.elim
structure Fun (K:PySem.W.Frag)(x qual:Str)(st:Stmt)(f:Addr)(fd:FuncData):Prop where
 ex:∃ (oc:Value) (od:Option Addr) (kV doc pm:Value) (an:Option Addr) (cdv ct:Value) (osl:Array (Option Value)),
  fd=PySem.W.fnOf x qual (defArgs st) (defBody st) (defScope st) .none kV doc pm an cdv ct/\K.lookup f=some ⟨oc,od,.func fd,osl⟩/\PySem.W.codeIn K cdv qual=true
 kp:PySem.W.keepIn K (.ref f)=true
section
variable {P:Program}{w:World}{K:PySem.W.Frag}{mg:Str->Option Value}{base:Heap}
theorem Fun.ok {x qual:Str}{st:Stmt}{f:Addr}{fd:FuncData}{N ps:List Str}{k:Nat}{sp:Sp}(F:Fun K x qual st f fd)(S:FnScope N ps (defScope st))(len:∀ vs H Q E,sp vs H Q E->vs.length=ps.length)
  (hbody:∀ (cdv:Value) (A:Around) (outer:List Env) (s:Shared) (H:Hp) (vs:List V) (Q:VK) (E:XK),Room k (A.deeper (envOfC qual (defScope st) s.heap.objs.size f cdv))->sp vs H Q E ->
   ∃ t,PSs (cxOf CX0 P w K mg base N qual (defScope st) f cdv A outer s H E).nox (defBody st) t/\t { nx:=fun _ H'=>Q .non H',rt:=Q } (start N vs) H):FnOk P w K mg base CX0 (k + 1) f fd ps sp:=by
 obtain ⟨oc,od,kV,doc,pm,an,cdv,ct,osl,rfl,lk,hcd⟩:=F.ex
 refine fn_of lk hcd S len fun A outer s H vs Q E hr hsp=>?_
 obtain ⟨t,h,q⟩:=hbody cdv A outer s H vs Q E hr hsp
 exact ⟨t,h.nox,q⟩
theorem Fun.binds {x qual:Str}{st:Stmt}{f:Addr}{fd:FuncData}{ps:List Str}(F:Fun K x qual st f fd)
  (h:∀ (kV doc pm:Value) (an:Option Addr) (cdv ct:Value) (us:List Value),us.length=ps.length->bindArgs (PySem.W.fnOf x qual (defArgs st) (defBody st) (defScope st) .none kV doc pm an cdv ct) ⟨us,[]⟩=pure (ps.zip us)):Binds K fd ps []:=by
 obtain ⟨oc,od,kV,doc,pm,an,cdv,ct,osl,rfl,lk,hcd⟩:=F.ex
 exact .all (h kV doc pm an cdv ct)
theorem fun_mk {x qual:Str}{st:Stmt}{f:Addr}{oc:Value}{od an:Option Addr}{osl:Array (Option Value)}{kV doc pm cdv ct:Value}(l:K.lookup f=some ⟨oc,od,.func (PySem.W.fnOf x qual (defArgs st) (defBody st) (defScope st) .none kV doc pm an cdv ct),osl⟩)
  (c:PySem.W.codeIn K cdv qual=true) (k:PySem.W.keepIn K (.ref f)=true):Fun K x qual st f (PySem.W.fnOf x qual (defArgs st) (defBody st) (defScope st) .none kV doc pm an cdv ct):=⟨⟨oc,od,kV,doc,pm,an,cdv,ct,osl,rfl,l,c⟩,k⟩
end
section
variable {X:Cx}
theorem pv (i:Nat){x:Str}{pos:Pos}(hN:X.N[i]?=some x:=by rfl)(hv:Vis X.env.scope x:=by first | exact Or.inl rfl | exact Or.inr (Or.inl rfl) | exact Or.inr (Or.inr rfl))(hd:(x == ("__debug__":Str))=false:=by decide)
  (hcd:(x == ("__classdict__":Str))=false:=by decide):PE X (.Name x pos) (tVar i):=pe_var hN hv hd hcd
end
theorem iteF {A B:Prop}(h:B):if false=true then A else B:=by
 rw [if_neg Bool.false_ne_true]
 exact h
theorem iteT {A B:Prop}(h:A):if true=true then A else B:=by
 rw [if_pos rfl]
 exact h
theorem ite2 {c A B:Prop} [Decidable c](h1:c->A)(h2:¬ c->B):if c then A else B:=by
 by_cases h:c
 ·rw [if_pos h]
  exact h1 h
 ·rw [if_neg h]
  exact h2 h
noncomputable def Same (H H':Hp):Prop:=∀ b o,H b=some o->H' b=some o
theorem Same.refl (H:Hp):Same H H:=fun _ _ h=>h
theorem Same.trans {H H1 H2:Hp}(a:Same H H1)(b:Same H1 H2):Same H H2:=fun c o h=>b c o (a c o h)
theorem Same.free {H H':Hp}(e:Same H H'){l:Addr}(h:H' l=Option.none):H l=Option.none:=by
 cases q:H l with
 | none=>rfl
 | some o =>
  rw [e l o q] at h
  cases h
theorem Same.seq {K:PySem.W.Frag}{H H':Hp}{a:Addr}{xs:List V}(e:Same H H')(h:SqL K H a xs):SqL K H' a xs:=by
 rcases h with (h | ⟨o,h⟩) | h
 ·exact .inl (.inl (e _ _ h))
 ·exact .inl (.inr ⟨o,e _ _ h⟩)
 ·exact .inr h
end L2
set_option maxHeartbeats 4000000
namespace L2
open PySem PySem.Spec PyProof.Rows
section
variable {X:Cx}
theorem op_mulG:OpR X (binaryOp .Mult) (rI IntMulOk fun i j=>.int (i * j)):=opI fun _ _ _ _ _ _ _ hc q=>mul_int q hc
noncomputable def CDivG (_ j:Int):Prop:=0 < j/\j.natAbs.log2 < 9000
theorem op_fdivG:OpR X (binaryOp .FloorDiv) (rI CDivG fun i j=>.int (i / j)):=opI fun i j _ _ _ _ _ hc q=>by
 have h1:(0:Int) < j:=hc.1
 exact floordiv_int (by omega) (by rw [Int.fdiv_eq_ediv_of_nonneg i (by omega)]; exact q) (.inl (PyProof.noPylong_of_log2 hc.2))
theorem CDivG.small {i j:Int}(h:0 < j)(h':j < 1073741824):CDivG i j:=by
 refine ⟨h,?_⟩
 have h0:j.natAbs ≠ 0:=by omega
 have:j.natAbs.log2 < 30:=(Nat.log2_lt h0).mpr (by omega)
 omega
theorem mulS {i j:Int}(h1:-(2 ^ 64) < j)(h2:j < 2 ^ 64):IntMulOk i j:=IntMulOk.of_right (intBits_le_64 h1 h2)
theorem mulL {i j:Int}(h1:-(2 ^ 64) < i)(h2:i < 2 ^ 64):IntMulOk i j:=IntMulOk.of_left (intBits_le_64 h1 h2)
end
theorem iteP {b:Bool}{A B:Prop}(e:b=true)(h:A):if b=true then A else B:=by
 rw [if_pos e]
 exact h
theorem iteN {b:Bool}{A B:Prop}(e:b=false)(h:B):if b=true then A else B:=by
 subst e
 exact iteF h
structure DefAt (K:PySem.W.Frag)(mg:Str->Option Value)(x:Str)(st:Stmt)(ps:List Str)(f:Addr)(fd:FuncData):Prop where
 F:Fun K x x st f fd
 g:mg x=some (.ref f)
 b:Binds K fd ps []
theorem atI_lt {α:Type}{xs:List α}{i:Int}{v:α}(h:0<=i)(e:xs[i.toNat]?=some v):atI xs i=some v:=by
 have:=atI_nat e
 rwa [Int.toNat_of_nonneg h] at this
noncomputable def tMid (t u:TS):TS:=fun D σ H=>∃ M:St->Hp->Prop,t { D with nx:=M } σ H/\∀ σ' H',M σ' H'->u D σ' H'
theorem pss_mid {X:Cx}{st:Stmt}{rest:List Stmt}{t u:TS}(h1:PS X st t)(h2:PSs X rest u):PSs X (st :: rest) (tMid t u):=by
 intro pins s σ H D I h
 obtain ⟨M,h3,h4⟩:=h
 refine wpAny_execs_cons (thn (h1 pins s σ H _ I h3) fun f s1 q=>?_)
 cases f with
 | next =>
  obtain ⟨σ1,H1,I1,q1⟩:=q
  exact h2 pins s1 σ1 H1 D I1 (h4 σ1 H1 q1)
 | brk=>exact q
 | cont=>exact q
 | ret v=>exact q
theorem same_new {H:Hp}{l:Addr}{o:HO}(h:H l=none):Same H (upd H l o):=fun b u e=>by rw [upd_ne (ne_of_none e h)]; exact e
end L2
namespace L2
open PySem PySem.Spec PyProof.Rows
section
variable {X:Cx}{tg:Expr}
end
mutual
inductive Rdv (K:PySem.W.Frag)(H:Hp):V->PyData->Prop
 | non:Rdv K H .non .none
 | bl (b:Bool):Rdv K H (.bl b) (.bool b)
 | int (i:Int):Rdv K H (.int i) (.int i)
 | str (x:Str):Rdv K H (.str x) (.str x)
 | lst {a:Addr} {xs:List V} {ds:List PyData}:SqL K H a xs->RdvAll K H xs ds->Rdv K H (.ref a) (.list ds)
 | tup {a:Addr} {xs:List V} {ds:List PyData}:SqT K H a xs->RdvAll K H xs ds->Rdv K H (.ref a) (.tuple ds)
inductive RdvAll (K:PySem.W.Frag)(H:Hp):List V->List PyData->Prop
 | nil:RdvAll K H [] []
 | cons {x:V} {d:PyData} {xs:List V} {ds:List PyData}:Rdv K H x d->RdvAll K H xs ds->RdvAll K H (x :: xs) (d :: ds)
end
section
variable {X:Cx}{pins:List (Addr × Obj)}{σ:St}{H:Hp}{s:Shared}
theorem reads_lst {a:Addr}{xs:List V}{ds:List PyData}(I:Inv X pins σ H s)(hq:SqL X.K H a xs)(h:∀ us,Vals xs us->∃ as,ReadsAll s.heap us ds as):∀ u,RelV (.ref a) u->∃ as,Reads s.heap u (.list ds) as:=by
 intro u r
 cases r
 obtain ⟨its,rv,p,hz⟩:=I.list hq
 obtain ⟨as,ra⟩:=h _ rv
 obtain ⟨o,ho,hc,n,hd⟩:=p.isList
 exact ⟨_,.list ho hc hd (by simpa using ra)⟩
theorem reads_tup {a:Addr}{xs:List V}{ds:List PyData}(I:Inv X pins σ H s)(hq:SqT X.K H a xs)(h:∀ us,Vals xs us->∃ as,ReadsAll s.heap us ds as):∀ u,RelV (.ref a) u->∃ as,Reads s.heap u (.tuple ds) as:=by
 intro u r
 cases r
 obtain ⟨its,rv,p,hz⟩:=I.tuple hq
 obtain ⟨as,ra⟩:=h _ rv
 obtain ⟨o,ho,hc,n,hd⟩:=p
 exact ⟨_,.tuple ho hc hd (by simpa using ra)⟩
theorem reads_cons {v:V}{vs:List V}{d:PyData}{ds:List PyData}(h:∀ u,RelV v u->∃ as,Reads s.heap u d as)(t:∀ us,Vals vs us->∃ as,ReadsAll s.heap us ds as):∀ us,Vals (v :: vs) us->∃ as,ReadsAll s.heap us (d :: ds) as:=by
 intro us r
 cases r with
 | cons r1 r2 =>
  obtain ⟨as,ra⟩:=h _ r1
  obtain ⟨bs,rb⟩:=t _ r2
  exact ⟨_,.cons ra rb⟩
theorem Rdv.reads (I:Inv X pins σ H s){v:V}{d:PyData}{u:Value}(h:Rdv X.K H v d):RelV v u->∃ as,Reads s.heap u d as :=
 Rdv.rec (motive_1:=fun v d _=>∀ u,RelV v u->∃ as,Reads s.heap u d as) (motive_2:=fun vs ds _=>∀ us,Vals vs us->∃ as,ReadsAll s.heap us ds as)
  (fun u r=>by cases r; exact ⟨_,.none⟩) (fun b u r=>by cases r; exact ⟨_,.bool b⟩) (fun i u r=>by obtain ⟨t,rfl⟩:=r; exact ⟨_,.int i t⟩) (fun x u r=>by obtain ⟨t,rfl⟩:=r; exact ⟨_,.str x t⟩)
  (fun hq _ h=>reads_lst I hq h) (fun hq _ h=>reads_tup I hq h) (fun us r=>by cases r; exact ⟨_,.nil⟩) (fun _ _ h t=>reads_cons h t) h u
structure CmpD (x y:PyData):Prop where
 l1:x.canLay0=true
 l2:y.canLay0=true
 dp:x.depth<=64
noncomputable def rEqD (K:PySem.W.Frag)(neg:Bool):R2:=fun x y H Q=>∃ dx dy,Rdv K H x dx/\Rdv K H y dy/\CmpD dx dy/\Q (.bl (if neg then !PyData.eqv dx dy else PyData.eqv dx dy)) H
theorem op_eq_deep (hu:X.A.units + 64 < cLine):OpR X (compareOp .Eq) (rEqD X.K false):=by
 intro pins s σ H x y v u Q I rx ry h
 obtain ⟨dx,dy,hx,hy,c,q⟩:=h
 obtain ⟨as,ra⟩:=hx.reads I rx
 obtain ⟨bs,rb⟩:=hy.reads I ry
 have:=c.dp
 exact SeqAt.compareEq_reads ra rb c.l1 c.l2 (by omega) ⟨.bl _,H,I,rfl,q⟩
theorem op_ne_deep (hu:X.A.units + 64 < cLine):OpR X (compareOp .NotEq) (rEqD X.K true):=by
 intro pins s σ H x y v u Q I rx ry h
 obtain ⟨dx,dy,hx,hy,c,q⟩:=h
 obtain ⟨as,ra⟩:=hx.reads I rx
 obtain ⟨bs,rb⟩:=hy.reads I ry
 have:=c.dp
 exact SeqAt.compareNe_reads ra rb c.l1 c.l2 (by omega) ⟨.bl _,H,I,rfl,q⟩
noncomputable def rInD (K:PySem.W.Frag)(neg:Bool):R2:=fun x y H Q=>∃ d ds,Rdv K H x d/\Rdv K H y (.list ds)/\d.canLay0=true/\PyData.canLayAll0 ds=true/\d.depth<=60/\Q (.bl (if neg then !ds.any (fun z=>PyData.eqv z d) else ds.any fun z=>PyData.eqv z d)) H
theorem op_in_deep (hu:X.A.units + 64 < cLine):OpR X (compareOp .In) (rInD X.K false):=by
 intro pins s σ H x y v u Q I rx ry h
 obtain ⟨d,ds,hx,hy,c1,c2,c3,q⟩:=h
 obtain ⟨as,ra⟩:=hx.reads I rx
 obtain ⟨bs,rb⟩:=hy.reads I ry
 exact SeqAt.in_list_reads rb ra c2 c1 (by omega) ⟨.bl _,H,I,rfl,q⟩
theorem op_notIn_deep (hu:X.A.units + 64 < cLine):OpR X (compareOp .NotIn) (rInD X.K true):=by
 intro pins s σ H x y v u Q I rx ry h
 obtain ⟨d,ds,hx,hy,c1,c2,c3,q⟩:=h
 obtain ⟨as,ra⟩:=hx.reads I rx
 obtain ⟨bs,rb⟩:=hy.reads I ry
 exact SeqAt.notIn_list_reads rb ra c2 c1 (by omega) ⟨.bl _,H,I,rfl,q⟩
end
end L2
namespace L2
open PySem PySem.Spec PyProof.Rows
noncomputable def compCx (X:Cx)(N:List Str)(scope:Scope)(cl:List (Str × Addr))(C:Addr)(fp:List Addr)(pins:List (Addr × Obj))(s:Shared)(H:Hp):Cx where
 prog:=X.prog
 w:=X.w
 K:=X.K
 mg:=X.mg
 base:=X.base
 A:=X.A
 N:=N
 s₀:=s
 H₀:=H
 env:=compEnvC scope cl C X.env
 outer:=X.stack
 stack:=X.stack
 ex:=fp
 fn:=fun _=>false
 calm:=X.calm
 pn:=X.pn++pins
 xe:=fun _ _=>False
noncomputable def pull (src:List (Option Nat))(σ:St):St:=src.map fun o=>match o with
 | some j=>(σ[j]?).getD none
 | none=>none
structure CompOk (X:Cx)(N:List Str)(src:List (Option Nat))(scope:Scope)(cl:List (Str × Addr)):Prop where
 kind:scope.kind=.function
 nocell:∀ y ∈ scope.names,y.2 ≠ .cell
 names:∀ y ∈ scope.names,y.2=.local->scope.names.lookup y.1=some .local
 clos:closureFor scope X.env=pure cl
 sub:∀ x c,cl.lookup x=some c->X.env.cells.lookup x=some c
 has:∀ x,((relabel scope X.env).names.lookup x=some .cell\/(relabel scope X.env).names.lookup x=some .free)->∃ c,cl.lookup x=some c
 len:src.length=N.length
 pulls:∀ (i j:Nat) (x:Str),N[i]?=some x->src[i]?=some (some j)->X.N[j]?=some x/\(X.env.kindOf x=some .cell\/X.env.kindOf x=some .free)/\((relabel scope X.env).names.lookup x=some .cell\/(relabel scope X.env).names.lookup x=some .free)
theorem relabel_plain {scope:Scope}{env:Env}(nf:∀ y ∈ scope.names,y.2 ≠ .free):(relabel scope env).names=scope.names:=by
 show scope.names.map _=scope.names
 refine map_eq_self fun x hx=>?_
 obtain ⟨n,k⟩:=x
 have:(k == NameKind.free)=false:=by simpa using nf _ hx
 simp [this]
theorem CompOk.plain {X:Cx}{N:List Str}{src:List (Option Nat)}{scope:Scope}(kind:scope.kind=.function)(nocell:∀ y ∈ scope.names,y.2 ≠ .cell)(nofree:∀ y ∈ scope.names,y.2 ≠ .free)
  (names:∀ y ∈ scope.names,y.2=.local->scope.names.lookup y.1=some .local) (len:src.length=N.length) (none:∀ o ∈ src,o=none):CompOk X N src scope [] where
 kind:=kind
 nocell:=nocell
 names:=names
 clos:=closureFor_none nofree
 sub:=fun x c h=>nomatch h
 has:=fun x h=>by
  rw [relabel_plain nofree] at h
  rcases h with h | h
  ·exact absurd rfl (nocell _ (PySem.mem_of_lookup h))
  ·exact absurd rfl (nofree _ (PySem.mem_of_lookup h))
 len:=len
 pulls:=fun i j x _ h=>by
  have:=none _ (List.mem_of_getElem? h)
  cases this
noncomputable def PIfs (X:Cx)(ifs:List Expr)(t:TT):Prop :=
 ∀ (pins:List (Addr × Obj)) (s:Shared) (σ:St) (H:Hp) (Q:Bool->Hp->Prop),Inv X pins σ H s->t σ H Q ->
  wpAny (model X.prog X.w) X.A (forIn ifs true fun c r=>if r=true then do let ok <- isTrue c X.env (eval c X.env); pure (ForInStep.yield ok) else pure (ForInStep.yield r)) (TP X pins σ Q) X.xe s
noncomputable def tYes:TT:=fun _ H Q=>Q true H
theorem pifs_nil {X:Cx}:PIfs X [] tYes:=fun _ _ _ H _ I h=>wpAny_tests_nil ⟨H,I,h⟩
theorem pifs_one {X:Cx}{c:Expr}{t:TT}(h:PT X c t):PIfs X [c] t:=fun pins s σ H Q I hq=>wpAny_tests_one (h pins s σ H Q I hq)
noncomputable def CompGoes (J:It)(g:TG)(tc:TT)(te:TE)(Q:VK)(D:Addr)(σ0:St)(H0:Hp):Prop :=
 ∃ W:Nat->Nat->St->Hp->Prop,(∃ m,W 0 m σ0 H0)/\∀ i m σ' H',W i m σ' H' ->
  (J.stop i H'/\Q (.ref D) H')\/(J.go i H'/\∃ N:St->Hp->Prop,(∀ σ'' H'',N σ'' H''->∃ m',m' < m/\W (i + 1) m' σ'' H'') /\
   ∀ x H2,J.yld i H' x H2->g x σ' H2 fun σ2 H3=>tc σ2 H3 fun b H4=>if b=true then te σ2 H4 fun y H5=>∃ ys,H5 D=some (.lst ys)/\ys.length < sizeLine/\N σ2 (upd H5 D (.lst (ys++[y]))) else N σ2 H4)
noncomputable def tComp (wi:TI)(src:List (Option Nat))(g:TG)(tc:TT)(te:TE):TE:=fun σ H Q=>wi σ H fun J H1=>∀ D,H1 D=none->CompGoes J g tc te Q D (pull src σ) (upd H1 D (.lst []))
theorem Un.but {fs ex:List Addr}{H H1:Hp}{h h1 h2:Heap}{C:Addr}(u:Un fs ex H H1 h h1)(hC:h.objs.size<=C)(sb:Heap.SameBut C h1 h2):Un fs ex H H1 h h2:=by
 have ne:∀ b o,h.get? b=some o->b ≠ C:=fun b o e=>Nat.ne_of_lt (Nat.lt_of_lt_of_le (Heap.lt_size e) hC)
 refine ⟨fun b o e n hb hx=>(sb.2 b (ne b o e)).trans (u.keep b o e n hb hx),fun b o e n hb hx=>?_,u.free,fun b o e hx=>?_,u.tups,u.frzs,u.tbls⟩
 ·obtain ⟨sl,q⟩:=u.slot b o e n hb hx
  exact ⟨sl,(sb.2 b (ne b o e)).trans q⟩
 ·obtain ⟨o',q⟩:=u.there b o e hx
  exact ⟨o',(sb.2 b (ne b o e)).trans q⟩
theorem HOk.but {P:Program}{w:World}{H:Hp}{h h':Heap}{C:Addr}(ok:HOk P w H h)(hn:H C=none)(sb:Heap.SameBut C h h'):HOk P w H h':=fun b ob e=>by
 refine (ok b ob e).stay (fun c w' hc q=>(sb.2 c ?_).trans q) (fun _ q=>q) fun _ _ q=>q
 rintro rfl
 rcases hc with rfl | hc
 ·rw [hn] at e; cases e
 ·rw [hn] at hc; cases hc
section
variable {X:Cx}{tg iter elt:Expr}{ifs:List Expr}{scope:Scope}{pos:Pos}{N:List Str}{src:List (Option Nat)}{cl:List (Str × Addr)}{wi:TI}{g:TG}{tc:TT}{te:TE}
theorem comp_start {pins:List (Addr × Obj)}{σ:St}{H:Hp}{s:Shared}{fp:List Addr}{h1:Heap}{C:Addr}{tk:Nat}(ok:CompOk X N src scope cl)(I:Inv X pins σ H s)(hf:∀ b ∈ fp,FpOk X pins H b)(ho:∀ b ∈ fp,∃ o,s.heap.get? b=some o)
  (hC:C=s.heap.objs.size + 1) (k:∀ b u,s.heap.get? b=some u->h1.get? b=some u) (hD:h1.get? s.heap.objs.size=some { cls:=.type "list",data:=.seq #[] }) {m:Str->Option Value} (hn:h1.Ns C m) :
  Inv (compCx X N scope cl C fp pins s H) [] (pull src σ) (upd H s.heap.objs.size (.lst [])) { s with heap:=h1,toks:=tk }:=by
 have lt:∀ b o,s.heap.get? b=some o->b < s.heap.objs.size:=fun b o e=>Heap.lt_size e
 have nC:∀ b o,s.heap.get? b=some o->b ≠ C:=fun b o e=>by rw [hC]; exact Nat.ne_of_lt (Nat.lt_succ_of_lt (lt b o e))
 have nD:∀ b o,s.heap.get? b=some o->b ≠ s.heap.objs.size:=fun b o e=>Nat.ne_of_lt (lt b o e)
 have fr:∀ b,s.heap.objs.size<=b->H b=none:=fun b hb=>I.hok.fresh hb
 have nst:∀ b,b ≠ X.env.locals->b ∉ X.fs->b ∉ frs X.stack:=fun b h1 h2 z=>(List.mem_cons.mp (I.stkSub b z)).elim h1 h2
 have sub:=ok.sub
 refine ⟨⟨I.ok.mod,ok.kind,I.ok.glob,I.ok.blt,by rw [show (compCx X N scope cl C fp pins s H).env.locals=C from rfl,hC]; exact Nat.le_succ _,fun x y c e1 e2=>I.ok.inj x y c (sub x c e1) (sub y c e2),ok.has,(fun x c z _=>nomatch z),I.ok.hd,I.ok.frames,.inl rfl,fun b hb=>?_,I.bs,Nat.le_trans I.ok.bsz I.sz,fun b o e hb=>?_,fun b hb hz=>?_,I.stack,I.stkFree⟩,
  rfl,I.bare,Un.laid k (Nat.le_refl _) (fr _ (Nat.le_refl _)),⟨m,hn,fun i x v e1 e2 e3=>?_⟩,fun x c e=>?_,?_,fun x c e=>?_,fun p hp=>?_,I.hok.laid k (Nat.le_refl _) ⟨Nat.zero_le _,[],0,.nil,hD⟩,?_⟩
 ·obtain ⟨o,e⟩:=ho b hb
  exact ⟨nC b o e,fun x c z=>(hf b hb).2.2.2.2.1 x c (sub x c z)⟩
 ·rcases (hf b hb).2.2.2.1 with z | z
  ·exact I.ok.noex b o e z
  ·exact absurd (Nat.lt_of_lt_of_le (Heap.lt_size (I.ok.bs b o e).1) z) (Nat.lt_irrefl _)
 ·exact nst b (hf b hb).2.1 (hf b hb).2.2.1 hz
 ·have hi:i < src.length:=by
   have:=(List.getElem?_eq_some_iff.mp e2).1
   unfold pull at this
   rw [List.length_map] at this
   exact this
  unfold pull at e2
  rw [List.getElem?_map,List.getElem?_eq_getElem hi] at e2
  cases q:src[i] with
  | none=>rw [q] at e2; cases e2
  | some j =>
   rw [q] at e2
   have e2':(σ[j]?).getD none=some v:=Option.some.inj e2
   have e4:σ[j]?=some (some v):=by
    cases z:σ[j]? with
    | none=>rw [z] at e2'; cases e2'
    | some o=>rw [z] at e2'; exact congrArg some e2'
   obtain ⟨p1,p2,p3⟩:=ok.pulls i j x e1 (by rw [List.getElem?_eq_getElem hi,q])
   obtain ⟨m',hn',hl⟩:=I.loc
   obtain ⟨u,r,l⟩:=hl j x v p1 e4 (by
    rcases p2 with z | z
    ·exact .inr (.inl z)
    ·exact .inr (.inr z))
   refine ⟨u,r,.inr ⟨p3,?_⟩⟩
   obtain ⟨c,hc⟩:=ok.has x p3
   refine ⟨c,hc,?_⟩
   rcases l with ⟨z,_⟩ | ⟨_,c',hc',o,ho',hd'⟩
   ·rcases p2 with y | y <;> rw [z] at y <;> cases y
   ·rw [sub x c hc] at hc'
    cases hc'
    exact ⟨o,k _ o ho',hd'⟩
 ·obtain ⟨v,o,e1,e2⟩:=I.cell x c (sub x c e)
  exact ⟨v,o,k c o e1,e2⟩
 ·show upd H s.heap.objs.size (.lst []) C=none
  rw [hC,upd_ne (Nat.succ_ne_self _)]
  exact fr _ (Nat.le_succ _)
 ·show upd H s.heap.objs.size (.lst []) c=none
  obtain ⟨v,o,e1,e2⟩:=I.cell x c (sub x c e)
  rw [upd_ne (nD c o e1)]
  exact I.freeC x c (sub x c e)
 ·have hp':p ∈ X.pn++pins:=by
   have:p ∈ (X.pn++pins)++[]:=hp
   simpa using this
  obtain ⟨e1,e2,e3,e4,e5⟩:=I.pin p hp'
  refine ⟨k _ _ e1,?_,nC _ _ e1,nst _ e3 e4,e5⟩
  show upd H s.heap.objs.size (.lst []) p.1=none
  rw [upd_ne (nD _ _ e1)]
  exact e2
 ·unfold pull
  rw [List.length_map]
  exact ok.len
theorem pe_comp (ok:CompOk X N src scope cl)(hcalm:X.calm=true)(hi:PI X tg iter wi)
  (hg:∀ C fp pins s H,PG (compCx X N scope cl C fp pins s H) tg g) (hc:∀ C fp pins s H,PIfs (compCx X N scope cl C fp pins s H) ifs tc) (he:∀ C fp pins s H,PE (compCx X N scope cl C fp pins s H) elt te)
  (hs:∀ x,foldedSetIterable iter X.env x=pure x:=by intro _; rfl):PE X (.ListComp elt [⟨tg,iter,ifs,0⟩] scope pos) (tComp wi src g tc te):=by
 intro pins s σ H Q I h
 rw [eval_ListComp]
 refine wpAny_comprehension_free (use:=none) rfl hs ok.clos ok.kind ok.names (thn (hi pins s σ H _ I h) fun xv s1 h1=>thn h1 fun itv s2 h2=>?_)
 obtain ⟨it,fp,tn,J,H2,e,I2,T,st2,f2,q2⟩:=h2
 subst e
 refine wpAny_newObj_type (wpAny_newFunctionEnv ok.nocell (by intro y hy; simp at hy) (fun h₁ hns₁ hsb₁=>?_) ok.kind)
 dsimp only at hns₁ hsb₁ ⊢
 generalize hP:s2.heap.push { cls:=.type "list",dict:=none,data:=.seq ([]:List Value).toArray }=P2 at hns₁ hsb₁ ⊢
 have hC:P2.objs.size=s2.heap.objs.size + 1:=by rw [<- hP,Heap.size_push]
 have k:∀ b u,s2.heap.get? b=some u->h₁.get? b=some u:=fun b u e=>by
  have lt:=Heap.lt_size e
  exact (hsb₁.2 b (by rw [hC]; exact Nat.ne_of_lt (Nat.lt_succ_of_lt lt))).trans (Heap.get?_push_of_some _ (hP ▸ Heap.get?_push_of_some _ e))
 have hD:h₁.get? s2.heap.objs.size=some { cls:=.type "list",data:=.seq #[] }:=(hsb₁.2 _ (by rw [hC]; exact (Nat.succ_ne_self _).symm)).trans (Heap.get?_push_of_some _ (hP ▸ Heap.get?_push_size _ rfl))
 have ho:∀ b ∈ fp,∃ o,s2.heap.get? b=some o:=fun b hb=>let ⟨o,e,_⟩:=T.obj 0 _ st2 b hb; ⟨o,e⟩
 obtain ⟨W,⟨m0,w0⟩,turn⟩:=q2 s2.heap.objs.size (I2.hok.fresh (Nat.le_refl _))
 have I0:=comp_start (tk:=s2.toks + ([]:List (Str × Value)).length) ok I2 f2 ho hC k hD hns₁
 have st0:tn 0 h₁:=T.keep 0 _ _ st2 fun b _ o e=>k b o e
 have fr0:∀ b ∈ fp,upd H2 s2.heap.objs.size (.lst []) b=none:=fun b hb=>by
  obtain ⟨o,e⟩:=ho b hb
  rw [upd_ne (Nat.ne_of_lt (Heap.lt_size e))]
  exact (f2 b hb).1
 have stat:∀ {H':Hp},(∀ b ∈ fp,H' b=none)->∀ b ∈ fp,FpOk (compCx X N scope cl P2.objs.size fp pins s2 H2) [] H' b:=fun {H'} hn b hb=>by
  obtain ⟨o,e⟩:=ho b hb
  have lt:=Heap.lt_size e
  refine ⟨hn b hb,?_,fun z=>(List.mem_cons.mp (I2.stkSub b z)).elim (f2 b hb).2.1 (f2 b hb).2.2.1,.inl hb,fun x c z=>(f2 b hb).2.2.2.2.1 x c (ok.sub x c z),fun p hp=>?_⟩
  ·show b ≠ P2.objs.size
   rw [hC]
   exact Nat.ne_of_lt (Nat.lt_succ_of_lt lt)
  ·have hp':p ∈ X.pn++pins:=by
    have:p ∈ (X.pn++pins)++[]:=hp
    simpa using this
   exact (f2 b hb).2.2.2.2.2 p hp'
 have loop:∀ s₃:Shared,s₃={ s2 with heap:=h₁,toks:=s2.toks + ([]:List (Str × Value)).length } ->
   codeAny (model X.prog X.w) X.A (.compLoop (.ListComp elt [⟨tg,iter,ifs,0⟩] scope pos) 0 (.ref it) (.ref s2.heap.objs.size) (compEnvC scope cl P2.objs.size X.env))
    (compPost (model X.prog X.w) X.A X.xe none (EP X pins σ Q) (.ref s2.heap.objs.size) P2.objs.size) s₃:=by
  rintro s₃ rfl
  refine codeAny_loop rfl (fun n s'=>∃ i σ' H',Inv (compCx X N scope cl P2.objs.size fp pins s2 H2) [] σ' H' s'/\tn i s'.heap/\(∀ b ∈ fp,H' b=none)/\W i n σ' H') ?_ m0 ⟨0,_,_,I0,st0,fr0,w0⟩
  rintro n s3 ⟨i,σ3,H3,I3,st3,fr3,w3⟩
  show wpAny _ X.A ((compTurn (.ListComp elt [⟨tg,iter,ifs,0⟩] scope pos) 0 (.ref it) (.ref s2.heap.objs.size) (compEnvC scope cl P2.objs.size X.env)).onRaise (fun x=>do noteFrame x (compEnvC scope cl P2.objs.size X.env); theTreesLotGoes x)) _ _ s3
  refine wpAny_noted ?_
  rw [compTurn_list]
  rcases turn i n σ3 H3 w3 with ⟨stop,qn⟩ | ⟨go,N',hN,step⟩
  ·refine wpAny_bind (wpAny_standAt (wpAny_bind (thn (T.done (compCx X N scope cl P2.objs.size fp pins s2 H2) rfl rfl rfl hcalm i [] s3 σ3 H3 _ I3 (stat fr3) st3 stop) fun r s4 ⟨hr,I4⟩=>?_)))
   subst hr
   refine wpAny_pure ?_
   obtain ⟨m,hm,_⟩:=I4.loc
   refine ⟨m,hm,fun h' sb=>⟨.ref s2.heap.objs.size,H3,?_,rfl,qn⟩⟩
   have un:Un (frs X.stack) fp H2 H3 s2.heap h':=Un.but I4.base (by show s2.heap.objs.size<=P2.objs.size; rw [hC]; exact Nat.le_succ _) sb
   have hok:HOk X.prog X.w H3 h':=HOk.but I4.hok I4.free sb
   exact I2.call' (s':={ s4 with heap:=h' }) (ch:=fp) I4.os un hok I4.bare fun b hb=>⟨(f2 b hb).2.2.2.1,(f2 b hb).2.1,(f2 b hb).2.2.2.2.1,(f2 b hb).2.2.2.2.2⟩
  ·refine wpAny_bind (wpAny_standAt (wpAny_bind (thn (T.item (compCx X N scope cl P2.objs.size fp pins s2 H2) rfl rfl rfl hcalm i [] s3 σ3 H3 _ I3 (stat fr3) st3 go) fun r s4 ⟨u,hr,h4⟩=>?_)))
   subst hr
   dsimp only
   refine wpAny_bind (thn h4 fun _ s5 ⟨x,H5,I5,r5,y5,st5,fr5⟩=>?_)
   have I5':=I5.pinned (stat fr5) (T.obj _ _ st5)
   refine wpAny_bind (wpAny_mono (hg P2.objs.size fp pins s2 H2 _ s5 σ3 H5 x u _ I5' r5 (step x H5 y5)) (fun _ s6 ⟨σ6,H6,I6,q6⟩=>?_) fun _ _ z=>False.elim z)
   have again:∀ {s7:Shared} {σ7:St} {H7:Hp},Inv (compCx X N scope cl P2.objs.size fp pins s2 H2) ([]++pinsAt fp s5.heap) σ7 H7 s7->N' σ7 H7->∃ m,m < n/\∃ i σ' H',Inv (compCx X N scope cl P2.objs.size fp pins s2 H2) [] σ' H' s7/\tn i s7.heap/\(∀ b ∈ fp,H' b=none)/\W i m σ' H':=fun {s7 σ7 H7} I7 n7=>by
    obtain ⟨m',hm,w7⟩:=hN σ7 H7 n7
    refine ⟨m',hm,i + 1,σ7,H7,I7.unpinned,T.keep _ _ _ st5 fun b hb o e=>(I7.pin (b,o) (List.mem_append_right _ (List.mem_append_right _ (mem_pinsAt hb e)))).1,fun b hb=>?_,w7⟩
    obtain ⟨o,e,d⟩:=T.obj _ _ st5 b hb
    exact (I7.pin (b,o) (List.mem_append_right _ (List.mem_append_right _ (mem_pinsAt hb e)))).2.1
   refine wpAny_bind (wpAny_mono (hc P2.objs.size fp pins s2 H2 _ s6 σ6 H6 _ I6 q6) (fun b s7 ⟨H7,I7,q7⟩=>?_) fun _ _ z=>False.elim z)
   cases b with
   | false =>
    rw [if_neg Bool.false_ne_true] at q7
    exact wpAny_pure ⟨rfl,again I7 q7⟩
   | true =>
    rw [if_pos rfl] at q7
    refine wpAny_bind (wpAny_bind (wpAny_mono (he P2.objs.size fp pins s2 H2 _ s7 σ6 H7 _ I7 q7) (fun y s8 ⟨v8,H8,I8,r8,ys,hys,hlen,q8⟩=>?_) fun _ _ z=>False.elim z))
    refine wpAny_bind (wpAny_mono (mt_append (X:=compCx X N scope cl P2.objs.size fp pins s2 H2) _ s8 σ6 H8 (.ref s2.heap.objs.size) [v8] (.ref s2.heap.objs.size) [y] (fun _ H9=>N' σ6 H9) I8 rfl (.cons r8 .nil) ⟨_,ys,v8,rfl,rfl,hys,hlen,q8⟩) (fun _ s9 ⟨v9,H9,I9,_,q9⟩=>?_) fun _ _ z=>False.elim z)
    exact wpAny_pure (wpAny_pure ⟨rfl,again I9 q9⟩)
 exact codeAny_compStart_list (loop _ rfl) (T.self _ 0 _ _ _ st0 (loop _ rfl))
end
end L2
namespace L2
open PySem PySem.Spec PyProof.Rows
section
variable {K:PySem.W.Frag}{src:List (Option Nat)}{g:TG}{tc:TT}{te:TE}{Q:VK}{σ:St}{H:Hp}{D:Addr}
theorem comp_list {a:Addr}{xs:List V}(Pv:Nat->St->Hp->Prop)(h0:Pv 0 σ H)(hl:∀ i σ H,i<=xs.length->Pv i σ H->SqL K H a xs)
  (hs:∀ i x σ H,xs[i]?=some x->Pv i σ H->g x σ H fun σ2 H3=>tc σ2 H3 fun b H4=>if b=true then te σ2 H4 fun y H5=>∃ ys,H5 D=some (.lst ys)/\ys.length < sizeLine/\Pv (i + 1) σ2 (upd H5 D (.lst (ys++[y]))) else Pv (i + 1) σ2 H4)
  (hd:∀ σ H,Pv xs.length σ H->Q (.ref D) H):CompGoes (Itl K a) g tc te Q D σ H:=by
 refine ⟨fun i m σ H=>m=xs.length - i/\i<=xs.length/\Pv i σ H,⟨xs.length,by simp,Nat.zero_le _,h0⟩,?_⟩
 rintro i m σ H ⟨rfl,hi,p⟩
 have q:=hl i σ H hi p
 by_cases hlt:i < xs.length
 ·refine .inr ⟨⟨xs,xs[i],q,by simp [hlt]⟩,Pv (i + 1),fun σ' H' p'=>⟨xs.length - (i + 1),by omega,rfl,hlt,p'⟩,fun x H' y=>?_⟩
  obtain ⟨e,y⟩:=y
  subst e
  exact hs i x σ _ (y xs q) p
 ·have e:i=xs.length:=by omega
  subst e
  exact .inl ⟨⟨xs,q,Nat.le_refl _⟩,hd σ H p⟩
theorem comp_range {lo:Int}{n:Nat}(Pv:Nat->St->Hp->Prop)(h0:Pv 0 σ H)
  (hs:∀ i σ H,i < n->Pv i σ H->g (.int (lo + i)) σ H fun σ2 H3=>tc σ2 H3 fun b H4=>if b=true then te σ2 H4 fun y H5=>∃ ys,H5 D=some (.lst ys)/\ys.length < sizeLine/\Pv (i + 1) σ2 (upd H5 D (.lst (ys++[y]))) else Pv (i + 1) σ2 H4)
  (hd:∀ σ H,Pv n σ H->Q (.ref D) H):CompGoes (Itr lo n) g tc te Q D σ H:=by
 refine ⟨fun i m σ H=>m=n - i/\i<=n/\Pv i σ H,⟨n,by simp,Nat.zero_le _,h0⟩,?_⟩
 rintro i m σ H ⟨rfl,hi,p⟩
 by_cases hlt:i < n
 ·refine .inr ⟨hlt,Pv (i + 1),fun σ' H' p'=>⟨n - (i + 1),by omega,rfl,hlt,p'⟩,fun x H' y=>?_⟩
  obtain ⟨e,y⟩:=y
  subst e y
  exact hs i σ _ hlt p
 ·have e:i=n:=by omega
  subst e
  exact .inl ⟨Nat.le_refl _,hd σ H p⟩
end
end L2
namespace L2
open PySem PySem.Spec PyProof.Rows
section
variable {X:Cx}{K:PySem.W.Frag}
theorem pt_truthK {a:Expr}{ta:TE}(hK:X.K=K)(ha:PE X a ta)(he:∀ whole,isTrue a X.env whole=(do let v <- whole; standAt a.pos; holding [v] (truthy v))) :
  PT X a (fun σ H Q=>ta σ H fun x H'=>∃ k,TruV K x H' k/\Q k H'):=by
 subst hK
 exact pt_truth ha he
theorem ix_listK (hK:X.K=K):IxR X (rIxL K):=by
 subst hK
 exact ix_list
theorem ix_tupK (hK:X.K=K):IxR X (rIxT K):=by
 subst hK
 exact ix_tup
theorem call_len_seqK (hK:X.K=K):CallR X (.builtin "len") (fun xs H Q=>∃ p ys,xs=[.ref p]/\(SqL K H p ys\/SqT K H p ys)/\Q (.int ys.length) H):=by
 subst hK
 exact call_len_seq
theorem op_ne_deepK (hK:X.K=K)(hu:X.A.units + 64 < cLine):OpR X (compareOp .NotEq) (rEqD K true):=by
 subst hK
 exact op_ne_deep hu
theorem op_in_deepK (hK:X.K=K)(hu:X.A.units + 64 < cLine):OpR X (compareOp .In) (rInD K false):=by
 subst hK
 exact op_in_deep hu
theorem op_notIn_deepK (hK:X.K=K)(hu:X.A.units + 64 < cLine):OpR X (compareOp .NotIn) (rInD K true):=by
 subst hK
 exact op_notIn_deep hu
theorem pg_tupK {es:List Expr}{k:Nat}{t:TGs}{n:Nat}{pos:Pos}(hK:X.K=K)(hc:X.calm=true)(h:PGs X es t)
  (hn:(assignEach es X.env).length=n:=by rfl) (hst:(assignEach es X.env).findIdx? (·.1)=none:=by rfl):PG X (.Tuple es k pos) (gTup K n t):=by
 subst hK
 exact pg_tup hc h hn hst
end
end L2
namespace L2
open PySem PySem.Spec PyProof.Rows
section
variable {fs ch:List Addr}{H:Hp}{h h':Heap}{a:Addr}{o:HO}
theorem Un.laidX (k:∀ b u,b ∉ ch->h.get? b=some u->h'.get? b=some u)(hp:h.objs.size<=a)(hn:H a=none):Un fs ch H (upd H a o) h h' where
 keep:=fun b u q _ _ hx=>k b u hx q
 slot:=fun b u q _ _ hx=>⟨u.slots,k b u hx q⟩
 free:=fun b u q n _=>by rw [upd_ne (Nat.ne_of_lt (Nat.lt_of_lt_of_le (Heap.lt_size q) hp))]; exact n
 there:=fun b u q hx=>⟨u,k b u hx q⟩
 tups:=fun b xs q=>by rw [upd_ne (ne_of_none q hn)]; exact q
 frzs:=fun b u xs q=>by rw [upd_ne (ne_of_none q hn)]; exact q
 tbls:=fun b ps q=>⟨#[],by rw [upd_ne (ne_of_none q hn),q]; simp⟩
theorem Un.keptX (k:∀ b u,b ∉ ch->h.get? b=some u->h'.get? b=some u):Un fs ch H H h h' :=
 ⟨fun b ob q _ _ hx=>k b ob hx q,fun b ob q _ _ hx=>⟨ob.slots,k b ob hx q⟩,fun _ _ _ n _=>n,fun b ob q hx=>⟨ob,k b ob hx q⟩,fun _ _ q=>q,fun _ _ _ q=>q,fun _ ps q=>⟨#[],by rw [q]; simp⟩⟩
theorem HOk.keptX {P:Program}{w:World}(x:HOk P w H h)(k:∀ b u,b ∉ ch->h.get? b=some u->h'.get? b=some u)(hch:∀ b ∈ ch,H b=none):HOk P w H h':=fun b u e=>by
 refine (x b u e).stay (fun c v hc q=>k c v (fun z=>?_) q) (fun _ q=>q) fun _ _ q=>q
 have n:=hch c z
 rcases hc with rfl | hc
 ·rw [n] at e; cases e
 ·rw [n] at hc; cases hc
theorem HOk.laidX {P:Program}{w:World}(x:HOk P w H h)(k:∀ b u,b ∉ ch->h.get? b=some u->h'.get? b=some u)(hch:∀ b ∈ ch,H b=none)(hp:h.objs.size<=a)(new:ObjOk P w (upd H a o) h' a o):HOk P w (upd H a o) h':=fun b u e=>by
 have hn:=x.fresh hp
 by_cases hb:b=a
 ·subst hb; rw [upd_same] at e; cases e; exact new
 ·rw [upd_ne hb] at e
  refine (x b u e).stay (fun c v hc q=>k c v (fun z=>?_) q) (fun c q=>by rw [upd_ne (ne_of_none q hn)]; exact q) fun c xs q=>by rw [upd_ne (ne_of_none q hn)]; exact q
  have n:=hch c z
  rcases hc with rfl | hc
  ·rw [n] at e; cases e
  ·rw [n] at hc; cases hc
end
section
variable {X:Cx}{pins:List (Addr × Obj)}{s:Shared}{σ:St}{H:Hp}{E:Value->Shared->Prop}{fp wr FP:List Addr}{elts:List Expr}{k:Nat}{pos:Pos}{e:Addr}{n i:Nat}{Pt:Nat->Array Value->Prop}{Sn:Nat->Heap->Prop}{Mid:Nat->Addr->Heap->Prop}{J:It}{tn:Nat->Heap->Prop}
theorem item_T (I:Inv X pins σ H s)(hf:∀ b ∈ fp,FpOk X pins H b)(ho:∀ b ∈ fp,∃ o,s.heap.get? b=some o)(hwr:∀ b ∈ wr,b ∈ fp)(W:WalksT X.prog X.w X.A e FP wr n Pt Sn Mid)(hi:i < n)(st:Sn i s.heap)
  (y:∀ T vals,H T=none->Pt i vals->∃ vs,Vals vs vals.toList/\vs.length<=sizeLine/\J.yld i H (.ref T) (upd H T (.tup vs))) (nx:∀ h'',Sn (i + 1) h''->tn (i + 1) h'') :
  wpAny (model X.prog X.w) X.A (pyNext (.ref e)) (fun r s1=>∃ u,r=some u /\
   wpAny (model X.prog X.w) X.A (letOwnedTupleGo (.Tuple elts k pos) (.ref e) u) (fun _ s2=>∃ x H',Inv X pins σ H' s2/\RelV x u/\J.yld i H x H'/\tn (i + 1) s2.heap/\∀ b ∈ fp,H' b=none) E s1) E s:=by
 refine W.item i s _ E hi st fun T vals h' tk hP hT0 hT hm kk=>⟨.ref T,rfl,?_⟩
 have hn:H T=none:=I.hok.fresh hT0
 obtain ⟨vs,hv,hl,hy⟩:=y T vals hn hP
 refine W.go elts k pos i T { s with heap:=h',toks:=tk } _ E hm fun h'' st'' kk2=>?_
 have k2:∀ b o,b ∉ wr->s.heap.get? b=some o->h''.get? b=some o:=fun b o hb e=>kk2 b o hb (kk b o hb e)
 have hTup:IsTup h'' T vals:=by
  obtain ⟨o,e1,c,m,d⟩:=hT
  exact ⟨o,kk2 T o (W.apart i T _ hm) e1,c,m,d⟩
 have hch:∀ b ∈ wr,H b=none:=fun b hb=>(hf b (hwr b hb)).1
 refine ⟨.ref T,upd H T (.tup vs),?_,rfl,hy,nx _ st'',fun b hb=>?_⟩
 ·exact I.call' (s':={ s with heap:=h'',toks:=tk }) (ch:=wr) rfl (Un.laidX k2 hT0 hn) (HOk.laidX I.hok k2 hch hT0 ⟨hl,vals.toList,hv,by simpa using hTup⟩) I.bare fun b hb=>let f:=hf b (hwr b hb); ⟨f.2.2.2.1,f.2.1,f.2.2.2.2.1,f.2.2.2.2.2⟩
 ·obtain ⟨o,e1⟩:=ho b hb
  rw [upd_ne (Nat.ne_of_lt (Nat.lt_of_lt_of_le (Heap.lt_size e1) hT0))]
  exact (hf b hb).1
theorem done_T (I:Inv X pins σ H s)(hf:∀ b ∈ fp,FpOk X pins H b)(hwr:∀ b ∈ wr,b ∈ fp)(W:WalksT X.prog X.w X.A e FP wr n Pt Sn Mid)(st:Sn n s.heap) :
  wpAny (model X.prog X.w) X.A (pyNext (.ref e)) (fun r s1=>r=none/\Inv X pins σ H s1) E s :=
 W.done s _ E st fun h' tk kk=>⟨rfl,I.call' (s':={ s with heap:=h',toks:=tk }) (ch:=wr) rfl (Un.keptX kk) (HOk.keptX I.hok kk fun b hb=>(hf b (hwr b hb)).1) I.bare fun b hb=>let f:=hf b (hwr b hb); ⟨f.2.2.2.1,f.2.1,f.2.2.2.2.1,f.2.2.2.2.2⟩⟩
end
theorem not_cell {h:Heap}{b:Addr}{o:Obj}{vs:Array Value}(e:h.get? b=some o)(d:o.data=.fields vs):∃ o,h.get? b=some o/\∀ v,o.data ≠ .cell v:=⟨o,e,fun v z=>by rw [d] at z; cases z⟩
noncomputable def Ite (K:PySem.W.Frag)(l:Addr):It:=⟨fun i H=>∃ xs,SqL K H l xs/\i < xs.length,fun i H x H'=>∃ T,x=.ref T/\H T=none/\∀ xs,SqL K H l xs->∃ v,xs[i]?=some v/\H'=upd H T (.tup [.int i,v]),fun i H=>∃ xs,SqL K H l xs/\i=xs.length⟩
theorem turn_enum {P:Program}{w:World}{K:PySem.W.Frag}{elts:List Expr}{k:Nat}{pos:Pos}(e it l:Addr)(hei:e ≠ it)(hle:l ≠ e)(hli:l ≠ it) :
  Turn P w K (.Tuple elts k pos) (Ite K l) [e,it] e (fun i h=>(∃ old,IsEnum h e it i old)/\h.IsListIter it l i) where
 mem:=by simp
 obj:=fun i h st b hb=>by
  obtain ⟨⟨old,he⟩,o,e2,c,d⟩:=st
  rcases List.mem_cons.mp hb with rfl | hb
  ·exact not_cell he rfl
  ·have z:b=it:=by simpa using hb
   subst z
   exact not_cell e2 d
 keep:=fun i h h' st kk=>by
  obtain ⟨⟨old,he⟩,o,e2,r⟩:=st
  exact ⟨⟨old,kk e (by simp) _ he⟩,o,kk it (by simp) o e2,r⟩
 item:=by
  intro X hP hw hK hc i pins s σ H E I hf st hg
  subst hP hw hK
  obtain ⟨xs,hq,hlt⟩:=hg
  obtain ⟨its,rv,p,hz⟩:=I.list hq
  have hl:=rv.length
  obtain ⟨⟨old,he⟩,o2,e2,c2,d2⟩:=id st
  refine item_T (wr:=[e,it]) (J:=Ite X.K l) (tn:=fun i h=>(∃ old,IsEnum h e it i old)/\h.IsListIter it l i) I hf (fun b hb=>?_) (fun b hb=>hb) (WalksT.enumerate (I.ok.hd hc) e it l hei hle hli its.toArray) (by simp; omega) ⟨st.1,st.2,p.isList⟩ (fun T vals hn hp=>?_) fun h'' q=>⟨q.1,q.2.1⟩
  ·rcases List.mem_cons.mp hb with rfl | hb
   ·exact ⟨_,he⟩
   ·have z:b=it:=by simpa using hb
    subst z
    exact ⟨_,e2⟩
  ·obtain ⟨t,x,hx,rfl⟩:=hp
   have hx':its[i]?=some x:=by simpa using hx
   obtain ⟨u,hu,ru⟩:=rv.get (i:=i) (x:=xs[i]) (by rw [List.getElem?_eq_getElem hlt])
   rw [hu] at hx'
   cases hx'
   exact ⟨[.int i,xs[i]],.cons ⟨t,rfl⟩ (.cons ru .nil),(by show 2<=sizeLine; decide),T,rfl,hn,fun ys hy=>⟨xs[i],by rw [I.list_inj hy hq,List.getElem?_eq_getElem hlt],rfl⟩⟩
 done:=by
  intro X hP hw hK hc i pins s σ H E I hf st hg
  subst hP hw hK
  obtain ⟨xs,hq,rfl⟩:=hg
  obtain ⟨its,rv,p,hz⟩:=I.list hq
  have hl:its.toArray.size=xs.length:=by simp [rv.length]
  refine done_T (fp:=[e,it]) (wr:=[e,it]) I hf (fun b hb=>hb) (WalksT.enumerate (I.ok.hd hc) e it l hei hle hli its.toArray) ?_
  rw [hl]
  exact ⟨st.1,st.2,p.isList⟩
 self:=fun A i s Q E st h=>by
  obtain ⟨⟨old,he⟩,_⟩:=st
  exact wpAny_pyIter_enum he h
noncomputable def Ites (x:Str):It:=⟨fun i _=>i < x.cps.size,fun i H v H'=>∃ T c,v=.ref T/\H T=none/\x.cps[i]?=some c/\H'=upd H T (.tup [.int i,.str ⟨#[c]⟩]),fun i _=>i=x.cps.size⟩
theorem turn_enumS {P:Program}{w:World}{K:PySem.W.Frag}{elts:List Expr}{k:Nat}{pos:Pos}(e it:Addr)(x:Str)(t:Tok)(n:String)(hei:e ≠ it)
  (D:∀ A:Around,A.handled=none->Draws P w A it [it] x.cps.size (fun i v=>∃ c u,x.cps[i]?=some c/\v=.str ⟨#[c]⟩ u) (fun i h=>h.IsStrIter it n x t i)) :
  Turn P w K (.Tuple elts k pos) (Ites x) [e,it] e (fun i h=>(∃ old,IsEnum h e it i old)/\h.IsStrIter it n x t i) where
 mem:=by simp
 obj:=fun i h st b hb=>by
  obtain ⟨⟨old,he⟩,o,e2,c,d⟩:=st
  rcases List.mem_cons.mp hb with rfl | hb
  ·exact not_cell he rfl
  ·have z:b=it:=by simpa using hb
   subst z
   exact not_cell e2 d
 keep:=fun i h h' st kk=>by
  obtain ⟨⟨old,he⟩,o,e2,r⟩:=st
  exact ⟨⟨old,kk e (by simp) _ he⟩,o,kk it (by simp) o e2,r⟩
 item:=by
  intro X hP hw hK hc i pins s σ H E I hf st hg
  subst hP hw hK
  obtain ⟨⟨old,he⟩,o2,e2,c2,d2⟩:=id st
  refine item_T (wr:=[e,it]) (J:=Ites x) (tn:=fun i h=>(∃ old,IsEnum h e it i old)/\h.IsStrIter it n x t i) I hf (fun b hb=>?_) (fun b hb=>hb) (WalksT.enumerateD (D X.A.in1 (I.ok.hd hc)) e hei (by simpa using hei) (by simp)) hg st (fun T vals hn hp=>?_) fun h'' q=>q
  ·rcases List.mem_cons.mp hb with rfl | hb
   ·exact ⟨_,he⟩
   ·have z:b=it:=by simpa using hb
    subst z
    exact ⟨_,e2⟩
  ·obtain ⟨t',v,⟨c,u,hx,rfl⟩,rfl⟩:=hp
   exact ⟨[.int i,.str ⟨#[c]⟩],.cons ⟨t',rfl⟩ (.cons ⟨u,rfl⟩ .nil),(by show 2<=sizeLine; decide),T,c,rfl,hn,hx,rfl⟩
 done:=by
  intro X hP hw hK hc i pins s σ H E I hf st hg
  subst hP hw hK
  have z:i=x.cps.size:=hg
  subst z
  exact done_T (fp:=[e,it]) (wr:=[e,it]) I hf (fun b hb=>hb) (WalksT.enumerateD (D X.A.in1 (I.ok.hd hc)) e hei (by simpa using hei) (by simp)) st
 self:=fun A i s Q E st h=>by
  obtain ⟨⟨old,he⟩,_⟩:=st
  exact wpAny_pyIter_enum he h
noncomputable def Itz (K:PySem.W.Frag)(l1 l2:Addr):It:=⟨fun i H=>∃ xs ys,SqL K H l1 xs/\SqL K H l2 ys/\i < xs.length/\i < ys.length,
 fun i H x H'=>∃ T,x=.ref T/\H T=none/\∀ xs ys,SqL K H l1 xs->SqL K H l2 ys->∃ v v',xs[i]?=some v/\ys[i]?=some v'/\H'=upd H T (.tup [v,v']),fun i H=>∃ xs ys,SqL K H l1 xs/\SqL K H l2 ys/\i=min xs.length ys.length⟩
theorem turn_zip {P:Program}{w:World}{K:PySem.W.Frag}{elts:List Expr}{k:Nat}{pos:Pos}(z TI TO i1 i2 l1 l2:Addr)(D:ZipApart z TI TO i1 i2 l1 l2) :
  Turn P w K (.Tuple elts k pos) (Itz K l1 l2) [z,TI,TO,i1,i2] z (fun i h=>IsZip h z TI TO .none/\IsPair h TI (.ref i1) (.ref i2)/\(∃ a b,IsPair h TO a b)/\h.IsListIter i1 l1 i/\h.IsListIter i2 l2 i) where
 mem:=by simp
 obj:=fun i h st b hb=>by
  obtain ⟨hz,hTI,⟨a,b',hTO⟩,⟨o1,e1,c1,d1⟩,⟨o2,e2,c2,d2⟩⟩:=st
  simp only [List.mem_cons,List.not_mem_nil,or_false] at hb
  rcases hb with rfl | rfl | rfl | rfl | rfl
  ·exact not_cell hz rfl
  ·exact ⟨_,hTI,fun v q=>by cases q⟩
  ·exact ⟨_,hTO,fun v q=>by cases q⟩
  ·exact not_cell e1 d1
  ·exact not_cell e2 d2
 keep:=fun i h h' st kk=>by
  obtain ⟨hz,hTI,⟨a,b',hTO⟩,⟨o1,e1,r1⟩,⟨o2,e2,r2⟩⟩:=st
  exact ⟨kk z (by simp) _ hz,kk TI (by simp) _ hTI,⟨a,b',kk TO (by simp) _ hTO⟩,⟨o1,kk i1 (by simp) _ e1,r1⟩,⟨o2,kk i2 (by simp) _ e2,r2⟩⟩
 item:=by
  intro X hP hw hK hc i pins s σ H E I hf st hg
  subst hP hw hK
  obtain ⟨xs,ys,hq1,hq2,hlt1,hlt2⟩:=hg
  obtain ⟨its1,rv1,p1,hz1⟩:=I.list hq1
  obtain ⟨its2,rv2,p2,hz2⟩:=I.list hq2
  have g1:=rv1.length
  have g2:=rv2.length
  obtain ⟨hz,hTI,⟨a,b',hTO⟩,⟨o1,e1,r1⟩,⟨o2,e2,r2⟩⟩:=id st
  refine item_T (wr:=[z,TO,i1,i2]) (J:=Itz X.K l1 l2) (tn:=fun i h=>IsZip h z TI TO .none/\IsPair h TI (.ref i1) (.ref i2)/\(∃ a b,IsPair h TO a b)/\h.IsListIter i1 l1 i/\h.IsListIter i2 l2 i) I hf (fun b hb=>?_) (fun b hb=>?_) (WalksT.zip2 (I.ok.hd hc) z TI TO i1 i2 l1 l2 D its1.toArray its2.toArray) (by simp; omega) ⟨st.1,st.2.1,st.2.2.1,st.2.2.2.1,st.2.2.2.2,p1.isList,p2.isList⟩ (fun T vals hn hp=>?_) fun h'' q=>⟨q.1,q.2.1,q.2.2.1,q.2.2.2.1,q.2.2.2.2.1⟩
  ·simp only [List.mem_cons,List.not_mem_nil,or_false] at hb
   rcases hb with rfl | rfl | rfl | rfl | rfl
   ·exact ⟨_,hz⟩
   ·exact ⟨_,hTI⟩
   ·exact ⟨_,hTO⟩
   ·exact ⟨_,e1⟩
   ·exact ⟨_,e2⟩
  ·simp only [List.mem_cons,List.not_mem_nil,or_false] at hb ⊢
   rcases hb with rfl | rfl | rfl | rfl <;> simp
  ·obtain ⟨x,y,hx,hy,rfl⟩:=hp
   have hx':its1[i]?=some x:=by simpa using hx
   have hy':its2[i]?=some y:=by simpa using hy
   obtain ⟨u,hu,ru⟩:=rv1.get (i:=i) (x:=xs[i]) (by rw [List.getElem?_eq_getElem hlt1])
   obtain ⟨u',hu',ru'⟩:=rv2.get (i:=i) (x:=ys[i]) (by rw [List.getElem?_eq_getElem hlt2])
   rw [hu] at hx'
   rw [hu'] at hy'
   cases hx'
   cases hy'
   exact ⟨[xs[i],ys[i]],.cons ru (.cons ru' .nil),(by show 2<=sizeLine; decide),T,rfl,hn,fun xs' ys' h1 h2=>⟨xs[i],ys[i],by rw [I.list_inj h1 hq1,List.getElem?_eq_getElem hlt1],by rw [I.list_inj h2 hq2,List.getElem?_eq_getElem hlt2],rfl⟩⟩
 done:=by
  intro X hP hw hK hc i pins s σ H E I hf st hg
  subst hP hw hK
  obtain ⟨xs,ys,hq1,hq2,rfl⟩:=hg
  obtain ⟨its1,rv1,p1,hz1⟩:=I.list hq1
  obtain ⟨its2,rv2,p2,hz2⟩:=I.list hq2
  have g1:min its1.toArray.size its2.toArray.size=min xs.length ys.length:=by simp [rv1.length,rv2.length]
  refine done_T (fp:=[z,TI,TO,i1,i2]) (wr:=[z,TO,i1,i2]) I hf (fun b hb=>?_) (WalksT.zip2 (I.ok.hd hc) z TI TO i1 i2 l1 l2 D its1.toArray its2.toArray) ?_
  ·simp only [List.mem_cons,List.not_mem_nil,or_false] at hb ⊢
   rcases hb with rfl | rfl | rfl | rfl <;> simp
  ·rw [g1]
   exact ⟨st.1,st.2.1,st.2.2.1,st.2.2.2.1,st.2.2.2.2,p1.isList,p2.isList⟩
 self:=fun A i s Q E st h=>wpAny_pyIter_zip st.1 h
section
variable {X:Cx}{elts:List Expr}{k:Nat}{tpos:Pos}
noncomputable def iEnumL (K:PySem.W.Frag)(ta:TA):TI:=fun σ H R=>ta σ H fun vs H1=>∃ l,vs=[.ref l]/\(∃ xs,SqL K H1 l xs)/\R (Ite K l) H1
theorem pi_enumL {a:Expr}{ta:TA}{p pos:Pos}(hg:Gl X "enumerate")(hm:X.mg "enumerate"=none)(ha:PA X [a] ta)(hs:starEach [a] X.env=[(false,eval a X.env)]:=by rfl):PI X (.Tuple elts k tpos) (.Call (.Name "enumerate" p) [a] [] pos) (iEnumL X.K ta):=by
 intro pins s σ H R I h
 refine Call_ (ld_blt I hg hm boot_enumerate (PyProof.Rows.callWith_type1 (thn (ha pos pins s σ H _ I h) fun us s1 ⟨vs,H1,I1,r1,q1⟩=>?_) hs rfl))
 obtain ⟨l,rfl,⟨xs,hq⟩,q⟩:=q1
 obtain ⟨u,rfl,ru⟩:=vals1 r1
 cases ru
 obtain ⟨its,rv,pl,hz⟩:=I1.list hq
 obtain ⟨ol,hol,_⟩:=pl.isList
 have hlt:=Heap.lt_size hol
 refine call_enumerate_list pl.isList fun h' he hit hsz kk=>?_
 have I2:Inv X pins σ H1 { s1 with heap:=h' }:=I1.kept (t':=s1.toks) kk
 refine wpAny_pyIter_enum he ?_
 refine ⟨s1.heap.objs.size + 1,[s1.heap.objs.size + 1,s1.heap.objs.size],_,_,H1,rfl,I2,turn_enum (s1.heap.objs.size + 1) s1.heap.objs.size l (Nat.succ_ne_self _) (Nat.ne_of_lt (Nat.lt_succ_of_lt hlt)) (Nat.ne_of_lt hlt),⟨⟨_,he⟩,hit⟩,fun b hb=>?_,q⟩
 have hb':s1.heap.objs.size<=b:=by
  rcases List.mem_cons.mp hb with e | hb
  ·rw [e]; exact Nat.le_succ _
  ·have e:b=s1.heap.objs.size:=by simpa using hb
   rw [e]; exact Nat.le_refl _
 exact I1.fpOk hb' (I1.hok.fresh hb')
noncomputable def iEnumS (ta:TA):TI:=fun σ H R=>ta σ H fun vs H1=>∃ z,vs=[.str z]/\R (Ites z) H1
theorem pi_enumS {a:Expr}{ta:TA}{p pos:Pos}(hg:Gl X "enumerate")(hm:X.mg "enumerate"=none)(ha:PA X [a] ta)(hs:starEach [a] X.env=[(false,eval a X.env)]:=by rfl):PI X (.Tuple elts k tpos) (.Call (.Name "enumerate" p) [a] [] pos) (iEnumS ta):=by
 intro pins s σ H R I h
 refine Call_ (ld_blt I hg hm boot_enumerate (PyProof.Rows.callWith_type1 (thn (ha pos pins s σ H _ I h) fun us s1 ⟨vs,H1,I1,r1,q1⟩=>?_) hs rfl))
 obtain ⟨z,rfl,q⟩:=q1
 obtain ⟨u,rfl,t,rfl⟩:=vals1 r1
 refine call_enumerate_str fun h' he hit hsz kk=>?_
 have I2:Inv X pins σ H1 { s1 with heap:=h' }:=I1.kept (t':=s1.toks) kk
 refine wpAny_pyIter_enum he ?_
 have fpk:∀ b ∈ [s1.heap.objs.size + 1,s1.heap.objs.size],FpOk X pins H1 b:=fun b hb=>by
  have hb':s1.heap.objs.size<=b:=by
   rcases List.mem_cons.mp hb with e | hb
   ·rw [e]; exact Nat.le_succ _
   ·have e:b=s1.heap.objs.size:=by simpa using hb
    rw [e]; exact Nat.le_refl _
  exact I1.fpOk hb' (I1.hok.fresh hb')
 unfold strIterType at hit
 by_cases ha:z.cps.all (· < 128)=true
 ·rw [if_pos ha] at hit
  exact ⟨s1.heap.objs.size + 1,[s1.heap.objs.size + 1,s1.heap.objs.size],_,_,H1,rfl,I2,turn_enumS (s1.heap.objs.size + 1) s1.heap.objs.size z t "str_ascii_iterator" (Nat.succ_ne_self _) (fun A hA=>Draws.strAscii hA _ z t),⟨⟨_,he⟩,hit⟩,fpk,q⟩
 ·rw [if_neg ha] at hit
  exact ⟨s1.heap.objs.size + 1,[s1.heap.objs.size + 1,s1.heap.objs.size],_,_,H1,rfl,I2,turn_enumS (s1.heap.objs.size + 1) s1.heap.objs.size z t "str_iterator" (Nat.succ_ne_self _) (fun A hA=>Draws.strWide hA _ z t),⟨⟨_,he⟩,hit⟩,fpk,q⟩
noncomputable def iZip (K:PySem.W.Frag)(ta:TA):TI:=fun σ H R=>ta σ H fun vs H1=>∃ l1 l2,vs=[.ref l1,.ref l2]/\(∃ xs,SqL K H1 l1 xs)/\(∃ ys,SqL K H1 l2 ys)/\R (Itz K l1 l2) H1
theorem pi_zip {a b:Expr}{ta:TA}{p pos:Pos}(hg:Gl X "zip")(hm:X.mg "zip"=none)(ha:PA X [a,b] ta)(hs:starEach [a,b] X.env=[(false,eval a X.env),(false,eval b X.env)]:=by rfl)(hs2:starEach [b] X.env=[(false,eval b X.env)]:=by rfl) :
  PI X (.Tuple elts k tpos) (.Call (.Name "zip" p) [a,b] [] pos) (iZip X.K ta):=by
 intro pins s σ H R I h
 refine Call_ (ld_blt I hg hm boot_zip (PyProof.Rows.callWith_type1 (thn (ha pos pins s σ H _ I h) fun us s1 ⟨vs,H1,I1,r1,q1⟩=>?_) (by rw [hs,hs2]) (by rw [hs2]; rfl)))
 obtain ⟨l1,l2,rfl,⟨xs,hq1⟩,⟨ys,hq2⟩,q⟩:=q1
 obtain ⟨u,u',rfl,ru,ru'⟩:=vals2 r1
 cases ru
 cases ru'
 obtain ⟨its1,rv1,p1,hz1⟩:=I1.list hq1
 obtain ⟨its2,rv2,p2,hz2⟩:=I1.list hq2
 obtain ⟨o1,ho1,_⟩:=p1.isList
 obtain ⟨o2,ho2,_⟩:=p2.isList
 have lt1:@LT.lt Nat _ l1 s1.heap.objs.size:=Heap.lt_size ho1
 have lt2:@LT.lt Nat _ l2 s1.heap.objs.size:=Heap.lt_size ho2
 refine call_zip_2 p1.isList p2.isList fun h' hz hTI hTO hi1 hi2 hsz kk=>?_
 have I2:Inv X pins σ H1 { s1 with heap:=h' }:=I1.kept (t':=s1.toks) kk
 refine wpAny_pyIter_zip hz ?_
 generalize hN:s1.heap.objs.size=N at *
 have apart:ZipApart (N + 4) (N + 2) (N + 3) N (N + 1) l1 l2:=by
  constructor <;> first
   | exact Nat.ne_of_lt (by omega)
   | exact Nat.ne_of_gt (by omega)
 refine ⟨N + 4,[N + 4,N + 2,N + 3,N,N + 1],_,_,H1,rfl,I2,turn_zip (N + 4) (N + 2) (N + 3) N (N + 1) l1 l2 apart,⟨hz,hTI,⟨_,_,hTO⟩,hi1,hi2⟩,fun b hb=>?_,q⟩
 have hb':s1.heap.objs.size<=b:=by
  rw [hN]
  simp only [List.mem_cons,List.not_mem_nil,or_false] at hb
  rcases hb with rfl | rfl | rfl | rfl | rfl <;> omega
 exact I1.fpOk hb' (I1.hok.fresh hb')
theorem call_int_str:CallR X (.type "int") (fun xs H Q=>∃ x n,xs=[.str x]/\PySem.intText? x=some n/\x.length<=640/\Q (.int n) H):=by
 intro pins s σ H xs us Q I r h
 obtain ⟨x,n,rfl,hn,hl,q⟩:=h
 obtain ⟨u,rfl,t,rfl⟩:=vals1 r
 exact PySem.W.KIN.call_text hn hl ⟨.int n,H,I.tok _,⟨_,rfl⟩,q⟩
end
theorem for_enumL {K:PySem.W.Frag}{l:Addr}{xs:List V}{g:TG}{tb:TS}{D:Ends}{σ:St}{H:Hp}(Pv:Nat->St->Hp->Prop)(h0:Pv 0 σ H)(hl:∀ i σ H,i<=xs.length->Pv i σ H->SqL K H l xs)
  (hs:∀ i x T σ H,xs[i]?=some x->H T=none->Pv i σ H->g (.ref T) σ (upd H T (.tup [.int i,x])) fun σ2 H2=>tb { D with nx:=Pv (i + 1),ct:=Pv (i + 1),bk:=D.nx } σ2 H2) (hd:∀ σ H,Pv xs.length σ H->D.nx σ H) :
  ∃ W:Nat->Nat->St->Hp->Prop,(∃ m,W 0 m σ H)/\∀ i m σ H,W i m σ H ->
   ((Ite K l).stop i H/\D.nx σ H)\/((Ite K l).go i H/\∃ N:St->Hp->Prop,(∀ σ' H',N σ' H'->∃ m',m' < m/\W (i + 1) m' σ' H')/\∀ x H',(Ite K l).yld i H x H'->g x σ H' fun σ2 H2=>tb { D with nx:=N,ct:=N,bk:=D.nx } σ2 H2):=by
 refine ⟨fun i m σ H=>m=xs.length - i/\i<=xs.length/\Pv i σ H,⟨xs.length,by simp,Nat.zero_le _,h0⟩,?_⟩
 rintro i m σ H ⟨rfl,hi,p⟩
 have q:=hl i σ H hi p
 by_cases hlt:i < xs.length
 ·refine .inr ⟨⟨xs,q,hlt⟩,Pv (i + 1),fun σ' H' p'=>⟨xs.length - (i + 1),by omega,rfl,hlt,p'⟩,fun x H' y=>?_⟩
  obtain ⟨T,rfl,hT,y⟩:=y
  obtain ⟨v,hv,rfl⟩:=y xs q
  exact hs i v T σ H hv hT p
 ·have e:i=xs.length:=by omega
  subst e
  exact .inl ⟨⟨xs,q,rfl⟩,hd σ H p⟩
theorem for_zip {K:PySem.W.Frag}{l1 l2:Addr}{xs ys:List V}{g:TG}{tb:TS}{D:Ends}{σ:St}{H:Hp}(Pv:Nat->St->Hp->Prop)(he:xs.length=ys.length)(h0:Pv 0 σ H)(hl:∀ i σ H,i<=xs.length->Pv i σ H->SqL K H l1 xs/\SqL K H l2 ys)
  (hs:∀ i x y T σ H,xs[i]?=some x->ys[i]?=some y->H T=none->Pv i σ H->g (.ref T) σ (upd H T (.tup [x,y])) fun σ2 H2=>tb { D with nx:=Pv (i + 1),ct:=Pv (i + 1),bk:=D.nx } σ2 H2) (hd:∀ σ H,Pv xs.length σ H->D.nx σ H) :
  ∃ W:Nat->Nat->St->Hp->Prop,(∃ m,W 0 m σ H)/\∀ i m σ H,W i m σ H ->
   ((Itz K l1 l2).stop i H/\D.nx σ H)\/((Itz K l1 l2).go i H/\∃ N:St->Hp->Prop,(∀ σ' H',N σ' H'->∃ m',m' < m/\W (i + 1) m' σ' H')/\∀ x H',(Itz K l1 l2).yld i H x H'->g x σ H' fun σ2 H2=>tb { D with nx:=N,ct:=N,bk:=D.nx } σ2 H2):=by
 refine ⟨fun i m σ H=>m=xs.length - i/\i<=xs.length/\Pv i σ H,⟨xs.length,by simp,Nat.zero_le _,h0⟩,?_⟩
 rintro i m σ H ⟨rfl,hi,p⟩
 obtain ⟨q1,q2⟩:=hl i σ H hi p
 by_cases hlt:i < xs.length
 ·refine .inr ⟨⟨xs,ys,q1,q2,hlt,by omega⟩,Pv (i + 1),fun σ' H' p'=>⟨xs.length - (i + 1),by omega,rfl,hlt,p'⟩,fun x H' y=>?_⟩
  obtain ⟨T,rfl,hT,y⟩:=y
  obtain ⟨v,v',hv,hv',rfl⟩:=y xs ys q1 q2
  exact hs i v v' T σ H hv hv' hT p
 ·have e:i=xs.length:=by omega
  subst e
  exact .inl ⟨⟨xs,ys,q1,q2,by omega⟩,hd σ H p⟩
theorem comp_enumS {g:TG}{tc:TT}{te:TE}{Q:VK}{σ:St}{H:Hp}{D:Addr}{x:Str}(Pv:Nat->St->Hp->Prop)(h0:Pv 0 σ H)
  (hs:∀ i c T σ H,x.cps[i]?=some c->H T=none->Pv i σ H->g (.ref T) σ (upd H T (.tup [.int i,.str ⟨#[c]⟩])) fun σ2 H3=>tc σ2 H3 fun b H4=>if b=true then te σ2 H4 fun y H5=>∃ ys,H5 D=some (.lst ys)/\ys.length < sizeLine/\Pv (i + 1) σ2 (upd H5 D (.lst (ys++[y]))) else Pv (i + 1) σ2 H4)
  (hd:∀ σ H,Pv x.cps.size σ H->Q (.ref D) H):CompGoes (Ites x) g tc te Q D σ H:=by
 refine ⟨fun i m σ H=>m=x.cps.size - i/\i<=x.cps.size/\Pv i σ H,⟨x.cps.size,by simp,Nat.zero_le _,h0⟩,?_⟩
 rintro i m σ H ⟨rfl,hi,p⟩
 by_cases hlt:i < x.cps.size
 ·refine .inr ⟨hlt,Pv (i + 1),fun σ' H' p'=>⟨x.cps.size - (i + 1),by omega,rfl,hlt,p'⟩,fun v H' y=>?_⟩
  obtain ⟨T,c,rfl,hT,hc,rfl⟩:=y
  exact hs i c T σ H hc hT p
 ·have e:i=x.cps.size:=by omega
  subst e
  exact .inl ⟨rfl,hd σ H p⟩
end L2
namespace L2
open PySem PySem.Spec PyProof.Rows
noncomputable def clOf (look:Str->Option Addr):List (Str × NameKind)->List (Str × Addr)->List (Str × Addr)
 | [],acc=>acc
 | (n,k) :: r,acc=>if k == .free then (match look n with
  | some c=>clOf look r ((n,c) :: acc)
  | none=>clOf look r acc) else clOf look r acc
theorem clOf_mem {look:Str->Option Addr}:∀ (names:List (Str × NameKind)) (acc:List (Str × Addr)) (p:Str × Addr),p ∈ clOf look names acc->p ∈ acc\/look p.1=some p.2
 | [],acc,p,h=>.inl h
 | (n,k) :: r,acc,p,h=>by
  unfold clOf at h
  split at h
  ·cases e:look n with
   | none =>
    rw [e] at h
    exact clOf_mem r acc p h
   | some c =>
    rw [e] at h
    rcases clOf_mem r _ p h with h | h
    ·rcases List.mem_cons.mp h with h | h
     ·subst h
      exact .inr e
     ·exact .inl h
    ·exact .inr h
  ·exact clOf_mem r acc p h
theorem lookup_cons_some {x n:Str}{c:Addr}{acc:List (Str × Addr)}(h:(acc.lookup x).isSome=true\/x=n):(List.lookup x ((n,c) :: acc)).isSome=true:=by
 rw [List.lookup_cons]
 cases e:x == n with
 | true=>rfl
 | false =>
  rcases h with h | h
  ·exact h
  ·subst h
   simp at e
theorem clOf_has {look:Str->Option Addr}{x:Str}(names:List (Str × NameKind))(acc:List (Str × Addr))(h:(acc.lookup x).isSome=true\/((x,NameKind.free) ∈ names/\(look x).isSome=true)):((clOf look names acc).lookup x).isSome=true:=by
 induction names generalizing acc with
 | nil =>
  rcases h with h | h
  ·exact h
  ·cases h.1
 | cons y r ih =>
  obtain ⟨n,k⟩:=y
  unfold clOf
  split
  ·rename_i hk
   cases e:look n with
   | none =>
    refine ih acc ?_
    rcases h with h | ⟨h,h2⟩
    ·exact .inl h
    ·rcases List.mem_cons.mp h with h | h
     ·cases h
      rw [e] at h2
      cases h2
     ·exact .inr ⟨h,h2⟩
   | some c =>
    refine ih _ ?_
    rcases h with h | ⟨h,h2⟩
    ·exact .inl (lookup_cons_some (.inl h))
    ·rcases List.mem_cons.mp h with h | h
     ·cases h
      exact .inl (lookup_cons_some (.inr rfl))
     ·exact .inr ⟨h,h2⟩
  ·rename_i hk
   refine ih acc ?_
   rcases h with h | ⟨h,h2⟩
   ·exact .inl h
   ·rcases List.mem_cons.mp h with h | h
    ·cases h
     exact absurd rfl hk
    ·exact .inr ⟨h,h2⟩
theorem closureFor_free {scope:Scope}{env:Env}(h:∀ y ∈ scope.names,y.2=.free->(env.cells.lookup y.1).isSome=true):closureFor scope env=pure (clOf (fun x=>env.cells.lookup x) scope.names []):=by
 have go:∀ (names:List (Str × NameKind)) (acc:List (Str × Addr)),(∀ y ∈ names,y.2=.free->(env.cells.lookup y.1).isSome=true) ->
   (forIn names acc fun x cs=>(match x with
    | (name,kind)=>if (kind == .free)=true then do let a <- cellOf env name; pure (ForInStep.yield ((name,a) :: cs)) else pure (ForInStep.yield cs):Sem (ForInStep (List (Str × Addr)))))=(pure (clOf (fun x=>env.cells.lookup x) names acc):Sem _):=by
  intro names
  induction names with
  | nil=>intro acc _; rfl
  | cons y r ih =>
   intro acc hy
   obtain ⟨n,k⟩:=y
   have hr:∀ y ∈ r,y.2=.free->(env.cells.lookup y.1).isSome=true:=fun y hm=>hy y (List.mem_cons_of_mem _ hm)
   rw [List.forIn_cons]
   unfold clOf
   by_cases hk:(k == NameKind.free)=true
   ·have hk':k=.free:=by simpa using hk
    have hs:=hy (n,k) List.mem_cons_self hk'
    obtain ⟨c,hc⟩:=Option.isSome_iff_exists.mp hs
    have hc':List.lookup n env.cells=some c:=hc
    have e1:cellOf env n=pure c:=by
     unfold cellOf
     rw [hc']
    simp only [hk,if_true,e1,hc',pure_bind]
    exact ih _ hr
   ·simp only [hk,Bool.false_eq_true,if_false,pure_bind]
    exact ih _ hr
 simp only [closureFor]
 exact Eq.trans (congrArg (fun m:Sem (List (Str × Addr))=>m >>= fun cs=>pure cs) (go scope.names [] h)) rfl
theorem relabel_mem {scope:Scope}{env:Env}{x:Str}{k:NameKind}(h:(x,k) ∈ (relabel scope env).names)(hk:k=.cell\/k=.free):(x,NameKind.cell) ∈ scope.names\/(x,NameKind.free) ∈ scope.names:=by
 obtain ⟨y,hy,e⟩:=List.mem_map.mp h
 obtain ⟨n,k0⟩:=y
 by_cases c:(k0 == NameKind.free && env.scope.kind == .function && env.kindOf n == some .cell)=true
 ·have e':(if (k0 == NameKind.free && env.scope.kind == .function && env.kindOf n == some .cell)=true then (n,NameKind.cell) else (n,k0))=(x,k):=e
  rw [if_pos c] at e'
  cases e'
  have c1:k0=.free:=by
   have:=(Bool.and_eq_true_iff.mp (Bool.and_eq_true_iff.mp c).1).1
   simpa using this
  subst c1
  exact .inr hy
 ·have e':(if (k0 == NameKind.free && env.scope.kind == .function && env.kindOf n == some .cell)=true then (n,NameKind.cell) else (n,k0))=(x,k):=e
  rw [if_neg c] at e'
  cases e'
  rcases hk with rfl | rfl
  ·exact .inl hy
  ·exact .inr hy
theorem relabel_free {scope:Scope}{env:Env}{x:Str}(hk:env.scope.kind=.function)(ho:env.kindOf x=some .cell)(h:scope.names.lookup x=some .free):(relabel scope env).names.lookup x=some .cell:=by
 have go:∀ names:List (Str × NameKind),names.lookup x=some .free->(names.map fun (n,k)=>if (k == NameKind.free && env.scope.kind == .function && env.kindOf n == some .cell)=true then (n,NameKind.cell) else (n,k)).lookup x=some .cell:=by
  intro names
  induction names with
  | nil=>intro h; cases h
  | cons y r ih =>
   obtain ⟨n,k⟩:=y
   intro h
   show List.lookup x ((if (k == NameKind.free && env.scope.kind == .function && env.kindOf n == some .cell)=true then (n,NameKind.cell) else (n,k)) :: _)=_
   rw [List.lookup_cons] at h
   cases e:x == n with
   | true =>
    rw [e] at h
    have hk':k=.free:=Option.some.inj h
    have hn:x=n:=by simpa using e
    subst hk' hn
    rw [if_pos (by rw [hk,ho]; rfl),List.lookup_cons,beq_self_eq_true]
   | false =>
    rw [e] at h
    by_cases c:(k == NameKind.free && env.scope.kind == .function && env.kindOf n == some .cell)=true
    ·rw [if_pos c,List.lookup_cons,e]
     exact ih h
    ·rw [if_neg c,List.lookup_cons,e]
     exact ih h
 exact go scope.names h
theorem CompOk.free {X:Cx}{N:List Str}{src:List (Option Nat)}{scope:Scope}{O:List (Str × NameKind)}{XN:List Str}(hO:X.env.scope.names=O)(hK:X.env.scope.kind=.function)(hC:∃ n,X.env.cells=cellsFrom n O [])(hX:X.N=XN)
  (kind:scope.kind=.function) (nocell:∀ y ∈ scope.names,y.2 ≠ .cell) (names:∀ y ∈ scope.names,y.2=.local->scope.names.lookup y.1=some .local) (fr:∀ y ∈ scope.names,y.2=.free->O.lookup y.1=some .cell) (len:src.length=N.length)
  (pc:∀ q ∈ N.zip src,q.2=none\/(∃ j ∈ List.range XN.length,q.2=some j/\XN[j]?=some q.1/\O.lookup q.1=some .cell/\scope.names.lookup q.1=some .free)):CompOk X N src scope (clOf (fun x=>X.env.cells.lookup x) scope.names []):=by
 have hs:∀ y ∈ scope.names,y.2=.free->(X.env.cells.lookup y.1).isSome=true:=fun y hy e=>by
  obtain ⟨n,hn⟩:=hC
  rw [hn]
  exact PySem.W.cellsFrom_some O n [] (.inl (fr y hy e))
 refine ⟨kind,nocell,names,closureFor_free hs,fun x c h=>?_,fun x h=>?_,len,fun i j x h1 h2=>?_⟩
 ·rcases clOf_mem _ _ _ (PySem.mem_of_lookup h) with z | z
  ·cases z
  ·exact z
 ·refine Option.isSome_iff_exists.mp (clOf_has _ _ (.inr ?_))
  have hm:(x,NameKind.cell) ∈ scope.names\/(x,NameKind.free) ∈ scope.names:=by
   rcases h with h | h
   ·exact relabel_mem (PySem.mem_of_lookup h) (.inl rfl)
   ·exact relabel_mem (PySem.mem_of_lookup h) (.inr rfl)
  rcases hm with hm | hm
  ·exact absurd rfl (nocell _ hm)
  ·exact ⟨hm,hs _ hm rfl⟩
 ·have hm:(x,some j) ∈ N.zip src:=by
   refine List.mem_of_getElem? (i:=i) ?_
   rw [List.getElem?_zip_eq_some]
   exact ⟨h1,h2⟩
  rcases pc _ hm with z | ⟨j',_,e,e1,e2,e3⟩
  ·cases z
  ·cases e
   have ko:X.env.kindOf x=some .cell:=by
    show X.env.scope.names.lookup x=some .cell
    rw [hO]
    exact e2
   exact ⟨by rw [hX]; exact e1,.inl ko,.inl (relabel_free hK ko e3)⟩
end L2
namespace L2
open PySem PySem.Spec PyProof.Rows PySem.W
section
variable {prog:Program}{w:World}{A:Around}{E:Value->Shared->Prop}{s:Shared}
theorem srt_list {a:Addr}{vs:List Value}{n:Nat}{P:PySem.Fin->Shared->Prop}(ho:s.heap.get? a=some (seqObj "list" vs.toArray n))(h64:vs.length < 64)(Good:Array Nat->Prop)(h1:vs.length < 2->Good (List.toArray (List.range vs.length)))
  (hk:2<=vs.length->∀ s':Shared,(∀ b o,b ≠ a->s.heap.get? b=some o->s'.heap.get? b=some o)->wpAny (model prog w) A (keyKind' vs.toArray) (fun κ s2=>s2=s'/\(kas_sort vs.length).kasWp (kas_cmp prog w A κ (pairsOf vs)) (fun p s3=>s3=s'/\Good p) s') (fun _ _=>False) s')
  (h:∀ (p:Array Nat) (h':Heap) (c:Nat),p.size=vs.length->Good p->(∀ b o,b ≠ a->s.heap.get? b=some o->h'.get? b=some o)->h'.get? a=some (seqObj "list" (List.toArray (p.toList.map fun i=>vs.getD i Value.none)) c)->P (.done (.ret .none)) { s with heap:=h' }) :
  wpAny (model prog w) A (Builtin.«list.sort» ⟨[.ref a],[]⟩) P E s:=by
 have lta:a < s.heap.objs.size:=Heap.lt_size ho
 have small:vs.length<=sizeLine:=by rw [sizeLine_eq]; omega
 have hu1:=get?_update_seq ho fun _=>(#[]:Array Value)
 generalize hX:s.heap.update a (Obj.mapSeq fun _=>(#[]:Array Value))=X1 at hu1
 have zX:X1.objs.size=s.heap.objs.size:=by rw [<- hX,Heap.size_update]
 have kX:∀ b o,b ≠ a->s.heap.get? b=some o->X1.get? b=some o:=fun b o hb e=>by
  rw [<- hX,Heap.get?_update_ne _ _ _ _ hb]
  exact e
 obtain ⟨e1,hu⟩:∃ e1,X1.get? a=some (seqObj "list" #[] e1):=⟨_,hu1⟩
 generalize hY:(X1.push (seqObj "tuple" vs.toArray 0)).push (seqObj "list" #[] 0)=Y
 have hYa:Y.get? a=some (seqObj "list" #[] e1):=by
  rw [<- hY]
  exact Heap.get?_push_of_some _ (Heap.get?_push_of_some _ hu)
 have kY:∀ b o,b ≠ a->s.heap.get? b=some o->Y.get? b=some o:=fun b o hb e=>by
  rw [<- hY]
  exact Heap.get?_push_of_some _ (Heap.get?_push_of_some _ (kX b o hb e))
 have last:∀ (p:Array Nat) (st:SortSt),p.size=vs.length->Good p->arrOf st=p.map (kas_item (pairsOf vs))->failedOf st=none ->
   wpAny (model prog w) A (do
    let touched:=(<- seqEpoch a) != e1
    Builtin.List.listUpdate (.ref a) fun _=>(arrOf st).map (·.2)
    if let some e:=failedOf st then rule "list.sort.comparison-raised"; throw e
    if touched then rule "list.sort.modified"; raiseError "ValueError" "list modified during sort"
    ret .none) P E { s with heap:=Y }:=by
  intro p st hp hg har hf
  have hout:(arrOf st).map (·.2)=List.toArray (p.toList.map fun i=>vs.getD i Value.none):=by
   apply Array.toList_inj.mp
   rw [har,Array.map_map,Array.toList_map]
   refine List.map_congr_left fun i _=>?_
   show (kas_item (pairsOf vs) i).2=_
   rw [kas_item_eq]
  have hlen:(List.toArray (p.toList.map fun i=>vs.getD i Value.none)).size=vs.length:=by rw [List.size_toArray,List.length_map,Array.length_toList,hp]
  rw [hout,hf]
  have hu2:=get?_update_seq hYa fun _=>List.toArray (p.toList.map fun i=>vs.getD i Value.none)
  refine wpAny_bind (seqEpoch_at hYa rfl (wpAny_bind (listUpdate_at hYa rfl ?_ (Nat.zero_le _) (by rw [hlen]; omega))))
  simp only [bne_self_eq_false,Bool.false_eq_true,if_false]
  refine wpAny_pure (h p _ _ hp hg (fun b o hb e=>?_) hu2)
  rw [Heap.get?_update_ne _ _ _ _ hb]
  exact kY b o hb e
 rw [list_sort_plain]
 refine wpAny_bind (listItems_at ho rfl (wpAny_bind (listUpdate_at ho rfl ?_ (by rw [List.size_toArray]; exact small) (Nat.zero_le _))))
 rw [hX]
 refine wpAny_bind (seqEpoch_at hu rfl (wpAny_bind (wpAny_newTuple (wpAny_bind (wpAny_newList ?_ (Nat.zero_le _))) small)))
 show wpAny (model prog w) A _ P E { s with heap:=(X1.push (seqObj "tuple" vs.toArray 0)).push (seqObj "list" #[] 0) }
 rw [hY]
 refine wpAny_holding ?_
 dsimp only
 by_cases c2:vs.toArray.size < 2
 ·have c2':vs.length < 2:=by rw [List.size_toArray] at c2; exact c2
  rw [if_pos c2,if_pos c2]
  refine wpAny_bind (wpAny_pure ?_)
  rw [StateT.run_pure]
  refine wpAny_bind (wpAny_pure ?_)
  refine last (List.toArray (List.range vs.length)) _ (by simp) (h1 c2') ?_ rfl
  have e:=kas_range (pairsOf vs)
  rw [pairsOf_size] at e
  rw [e]
  rfl
 ·have c2':2<=vs.length:=by rw [List.size_toArray] at c2; omega
  rw [if_neg c2,if_neg c2]
  refine wpAny_bind (wpAny_mono (hk c2' { s with heap:=Y } kY) (fun κ s2 ⟨e2,hw⟩=>?_) fun _ _ x=>x.elim)
  subst e2
  have run:=kas_runs (E:=E) (Q:=fun _ st' s'=>∃ p:Array Nat,s'={ s with heap:=Y }/\p.size=vs.length/\Good p/\arrOf st'=p.map (kas_item (pairsOf vs))/\failedOf st'=none) c2' h64 (fun p' st' s' x1 x2 x3 x4=>⟨p',x4.1,x1,x4.2,x2,x3⟩) hw
  have est:SortSt.mk' κ (vs.toArray.zip vs.toArray) #[] 7 none=kas_st κ (pairsOf vs) (List.toArray (List.range vs.length)):=by
   have e:=kas_range (pairsOf vs)
   rw [pairsOf_size] at e
   unfold kas_st
   rw [e]
   rfl
  rw [<- est] at run
  refine wpAny_bind (wpAny_mono run ?_ fun _ _ z=>z)
  rintro ⟨⟨⟩,st'⟩ s' ⟨p,rfl,hp,hg,har,hf⟩
  exact last p st' hp hg har hf
theorem srt_call {l:Addr}{vs:List Value}{Q:Value->Shared->Prop}(hl:s.heap.IsList l vs.toArray)(h64:vs.length < 64)(Good:Array Nat->Prop)(h1:vs.length < 2->Good (List.toArray (List.range vs.length)))
  (hk:2<=vs.length->∀ s':Shared,(∀ b o,s.heap.get? b=some o->s'.heap.get? b=some o)->wpAny (model prog w) A.in1.in1 (keyKind' vs.toArray) (fun κ s2=>s2=s'/\(kas_sort vs.length).kasWp (kas_cmp prog w A.in1.in1 κ (pairsOf vs)) (fun p s3=>s3=s'/\Good p) s') (fun _ _=>False) s')
  (h:∀ (p:Array Nat) (h':Heap) (c:Nat),p.size=vs.length->Good p->(∀ b o,s.heap.get? b=some o->h'.get? b=some o)->h'.get? (s.heap.objs.size + 1)=some (seqObj "list" (List.toArray (p.toList.map fun i=>vs.getD i Value.none)) c)->Q (.ref (s.heap.objs.size + 1)) { s with heap:=h' }) :
  wpAny (model prog w) A (call (.builtin "sorted") [.ref l]) Q E s:=by
 have small:vs.length<=sizeLine:=by rw [sizeLine_eq]; omega
 generalize hX:(s.heap.push (seqObj "list" #[] 0)).update s.heap.objs.size (Obj.mapSeq (·++vs.toArray))=X1
 have zX:X1.objs.size=s.heap.objs.size + 1:=by rw [<- hX,Heap.size_update,Heap.size_push]
 have kX:∀ b o,s.heap.get? b=some o->X1.get? b=some o:=fun b o e=>by
  have lt:=Heap.lt_size e
  rw [<- hX,Heap.get?_update_ne _ _ _ _ (Nat.ne_of_lt lt)]
  exact Heap.get?_push_of_some _ e
 apply Calls.call_function_entry kind_sorted plain_sorted entry_sorted (args_sorted1 _)
 unfold Builtin.«sorted»
 refine wpAny_bind (m:=checkCount "sorted" 1 1 _) (wpAny_pure (wpAny_bind (collect_list hl ?_ small)))
 rw [hX]
 refine wpAny_bind (wpAny_newList ?_ small)
 show wpAny _ _ _ _ _ { s with heap:=X1.push (seqObj "list" vs.toArray 0) }
 have hoL:(X1.push (seqObj "list" vs.toArray 0)).get? (s.heap.objs.size + 1)=some (seqObj "list" vs.toArray 0):=by
  rw [<- zX]
  exact Heap.get?_push_size _ rfl
 have kL:∀ b o,s.heap.get? b=some o->(X1.push (seqObj "list" vs.toArray 0)).get? b=some o:=fun b o e=>Heap.get?_push_of_some _ (kX b o e)
 have ne:∀ b o,s.heap.get? b=some o->b ≠ s.heap.objs.size + 1:=fun b o e=>Nat.ne_of_lt (Nat.lt_succ_of_lt (Heap.lt_size e))
 rw [zX]
 refine wpAny_bind (wpAny_holding (wpAny_call_entry slot_list_sort ⟨_,hoL,rfl⟩ entry_list_sort (srt_list (s:={ s with heap:=X1.push (seqObj "list" vs.toArray 0) }) hoL h64 Good h1 (fun c s' k=>hk c s' fun b o e=>k b o (ne b o e) (kL b o e)) ?_) (args_list_sort _)))
 intro p h' c hp hg kk ha
 exact ⟨_,rfl,wpAny_pure ⟨_,rfl,h p h' c hp hg (fun b o e=>kk b o (ne b o e) (kL b o e)) ha⟩⟩
end
end L2
namespace L2
open PySem PySem.Spec PyProof.Rows PySem.W
section
variable {α β:Type}{R:α->β->Prop}{us us':List α}{cs cs':List β}{i:Nat}{v:α}{c:β}
theorem pr_app (h:Paired R us cs)(k:Paired R us' cs'):Paired R (us++us') (cs++cs'):=by
 induction h with
 | nil=>exact k
 | cons q _ ih=>exact .cons q ih
theorem pr_at (h:Paired R us cs)(e:us[i]?=some v):∃ c,cs[i]?=some c/\R v c:=by
 induction h generalizing i with
 | nil=>cases e
 | cons q _ ih =>
  cases i with
  | zero =>
   cases e
   exact ⟨_,rfl,q⟩
  | succ i=>exact ih (i:=i) e
theorem pr_mem (h:Paired R us cs)(e:v ∈ us):∃ c ∈ cs,R v c:=by
 induction h with
 | nil=>cases e
 | cons q _ ih =>
  rcases List.mem_cons.mp e with rfl | e
  ·exact ⟨_,List.mem_cons_self,q⟩
  ·obtain ⟨c,h,r⟩:=ih e
   exact ⟨c,List.mem_cons_of_mem _ h,r⟩
end
noncomputable def Tup2 (H:Hp):List V->List (Int × Int)->Prop:=Paired fun v p=>∃ a,v=V.ref a/\H a=some (.tup [.int p.1,.int p.2])
noncomputable def lt2 (p q:Int × Int):Bool:=if p.1=q.1 then decide (p.2 < q.2) else decide (p.1 < q.1)
structure IntPair (h:Heap)(v:Value)(p:Int × Int):Prop where
 ex:∃ a o n t u,v=.ref a/\h.get? a=some o/\o.cls=.type "tuple"/\o.data=.seq #[.int p.1 t,.int p.2 u] n
section
variable {X:Cx}{pins:List (Addr × Obj)}{σ:St}{H:Hp}{s:Shared}
theorem Tup2.pairs (I:Inv X pins σ H s){us:List V}{ps:List (Int × Int)}{its:List Value}(hp:Tup2 H us ps)(r:Vals us its):Paired (IntPair s.heap) its ps:=by
 induction hp generalizing its with
 | nil =>
  cases r
  exact .nil
 | cons q _ ih =>
  obtain ⟨a,e,h⟩:=q
  subst e
  cases r with
  | cons r1 r2 =>
   cases r1
   refine .cons ?_ (ih r2)
   obtain ⟨items,rv,tp,_⟩:=I.tuple (SqT.of h)
   obtain ⟨u1,u2,rfl,⟨t1,rfl⟩,⟨t2,rfl⟩⟩:=vals2 rv
   obtain ⟨ob,e1,c1,n,d1⟩:=tp
   exact ⟨a,ob,n,t1,t2,rfl,e1,c1,d1⟩
end
theorem pairs_kept {h h':Heap}(k:∀ b o,h.get? b=some o->h'.get? b=some o):∀ {its:List Value} {ps:List (Int × Int)},Paired (IntPair h) its ps->Paired (IntPair h') its ps
 | _,_,.nil=>.nil
 | _,_,.cons ⟨a,o,n,t,u,e,e1,r⟩ tl=>.cons ⟨a,o,n,t,u,e,k _ _ e1,r⟩ (pairs_kept k tl)
theorem pairs_firsts {h:Heap}:∀ {its:List Value} {ps:List (Int × Int)},Paired (IntPair h) its ps->∃ fs:List Value,KatTups h its fs/\fs.length=its.length/\∀ v ∈ fs,∃ x t,v=Value.int x t
 | _,_,.nil=>⟨[],.nil,rfl,fun _ z=>nomatch z⟩
 | _,_,.cons ⟨a,o,n,t,u,e,e1,c,d⟩ tl=>by
  obtain ⟨fs,k,l,q⟩:=pairs_firsts tl
  subst e
  refine ⟨.int _ t :: fs,KatTups.cons e1 c d rfl k,by simp [l],fun v hv=>?_⟩
  rcases List.mem_cons.mp hv with rfl | hv
  ·exact ⟨_,t,rfl⟩
  ·exact q v hv
theorem pairs_get {h:Heap}:∀ {its:List Value} {ps:List (Int × Int)} {i:Nat} {p:Int × Int},Paired (IntPair h) its ps->ps[i]?=some p->IntPair h (its.getD i Value.none) p
 | _,_,_,_,.nil,e=>by simp at e
 | _,_,0,_,.cons r _,e=>by
  simp at e
  subst e
  exact r
 | _,_,i + 1,p,.cons _ t,e=>by
  have:=pairs_get (i:=i) (p:=p) t (by simpa using e)
  simpa using this
section
variable {prog:Program}{w:World}{A:Around}{E:Value->Shared->Prop}{s:Shared}
theorem pair_lt {v v':Value}{p q:Int × Int}{C:Bool->Shared->Prop}(hv:IntPair s.heap v p)(hv':IntPair s.heap v' q)(h:C (lt2 p q) s):wpAny (model prog w) A (keyLt' (tuples' true) v v') C E s:=by
 obtain ⟨a,o,n,t,u,rfl,e1,c1,d1⟩:=hv
 obtain ⟨a',o',n',t',u',rfl,e1',c1',d1'⟩:=hv'
 refine kat_lt e1 d1 e1' d1' ?_
 show KatLex prog w A true _ C [(Value.int p.1 t,Value.int q.1 t'),(Value.int p.2 u,Value.int q.2 u')] 0 s
 unfold lt2 at h
 refine kat_cons (SeqAt.EqAt.int_int _ _ _ _ prog w _ _ (kat_go (fun ee=>kat_yes ?_) fun ee=>kat_no ?_))
 ·have e:p.1=q.1:=by simpa using ee
  rw [if_pos e] at h
  refine kat_cons (SeqAt.EqAt.int_int _ _ _ _ prog w _ _ (kat_go (fun e2=>kat_yes (kat_nil ?_)) fun e2=>kat_no ?_))
  ·have e3:p.2=q.2:=by simpa using e2
   have e4:decide (p.2 < q.2)=false:=decide_eq_false (by omega)
   rw [e4] at h
   exact h
  ·exact kat_one _ _ (lt_int h)
 ·have e:¬ p.1=q.1:=by simpa using ee
  rw [if_neg e] at h
  exact oneLt_int h
end
section
variable {X:Cx}
end
end L2
namespace L2
open PySem PySem.Spec PyProof.Rows
section
variable {X:Cx}
theorem get_list:PGet X (rIxL X.K):=by
 intro pins s σ H x y v u Q I rx ry h
 obtain ⟨p,xs,i,z,rfl,rfl,hq,he,q⟩:=h
 cases rx
 obtain ⟨t,rfl⟩:=ry
 obtain ⟨its,r,pl,hz⟩:=I.list hq
 obtain ⟨j,h1,h2,h3,h4,h5⟩:=atI_get he
 obtain ⟨w,ew,rw'⟩:=r.get h2
 have hl:=r.length
 have hn:=line63
 have fin:EP X pins σ Q w s:=⟨z,H,I,rw',q⟩
 by_cases h0:0<=i
 ·have hj:i.toNat=j:=by
   rw [seqIndex_of h0 h5] at h1
   exact Option.some.inj h1
  exact wpAny_getItem_list pl.isList h0 (by omega) (by rw [hj]; simpa using ew) fin
 ·have hj:(i + (its.toArray.size:Int)).toNat=j:=by
   rw [seqIndex_neg (by omega) h4] at h1
   rw [List.size_toArray,<- hl]
   exact Option.some.inj h1
  exact wpAny_getItem_list_neg pl.isList (by omega) (by rw [List.size_toArray] <;> omega) (by omega) (by rw [hj]; simpa using ew) fin
theorem bools_get {bs:List Bool}{its:List Value}(r:Vals (bs.map V.bl) its){i:Nat}{v:Value}(e:its[i]?=some v):∃ b,bs[i]?=some b/\v=.bool b:=by
 have hl:=r.length
 rw [List.length_map] at hl
 have hi:i < bs.length:=by
  have:=(List.getElem?_eq_some_iff.mp e).1
  omega
 obtain ⟨u,hu,ru⟩:=r.get (i:=i) (x:=.bl bs[i]) (by rw [List.getElem?_map,List.getElem?_eq_getElem hi]; rfl)
 rw [hu] at e
 cases e
 exact ⟨bs[i],List.getElem?_eq_getElem hi,ru⟩
theorem call_any (hc:X.calm=true):CallR X (.builtin "any") (fun xs H Q=>∃ (l:Addr) (bs:List Bool),xs=[.ref l]/\SqL X.K H l (bs.map V.bl)/\Q (.bl (bs.any id)) H):=by
 intro pins s σ H xs us Q I r h
 obtain ⟨l,bs,rfl,hq,q⟩:=h
 obtain ⟨u,rfl,ru⟩:=vals1 r
 cases ru
 obtain ⟨its,rv,pl,hz⟩:=I.list hq
 have hl:=pl.isList
 have hlt:l < s.heap.objs.size:=let ⟨_,he,_⟩:=hl; Heap.lt_size he
 have hln:=rv.length
 rw [List.length_map] at hln
 refine call_any_walk (wpAny_pyIter_list hl ?_)
 refine ⟨s.heap.objs.size,[s.heap.objs.size,l],[s.heap.objs.size],its.toArray.size,_,_,fun i=>(bs[i]?).getD false,rfl,Walks.list (A:=X.A.in1) (I.ok.hd hc) _ l (Nat.ne_of_lt hlt) its.toArray,
  ⟨⟨_,Heap.get?_push_size _ rfl,rfl,rfl⟩,hl.push _⟩,fun i v s' Q' E' hP hQ=>?_,fun h' tk hk=>?_⟩
 ·obtain ⟨b,eb,rfl⟩:=bools_get rv (i:=i) (v:=v) (by simpa using hP)
  simp only [eb,Option.getD_some] at hQ
  exact wpAny_truthy_bool hQ
 ·have e:((List.range its.toArray.size).any fun i=>(bs[i]?).getD false)=bs.any id:=by
   rw [List.size_toArray,<- hln]; exact LSm.range_any bs
  rw [e]
  exact ⟨.bl _,H,I.kept (LSm.kept_iter hk),rfl,q⟩
end
end L2
namespace L2
open PySem PySem.Spec PyProof.Rows
mutual
inductive Rdn (N:Addr->Prop)(H:Hp):V->PyData->Prop
 | non:Rdn N H .non .none
 | bl (b:Bool):Rdn N H (.bl b) (.bool b)
 | int (i:Int):Rdn N H (.int i) (.int i)
 | str (x:Str):Rdn N H (.str x) (.str x)
 | lst {a:Addr} {xs:List V} {ds:List PyData}:N a->H a=some (.lst xs)->RdnAll N H xs ds->Rdn N H (.ref a) (.list ds)
 | tup {a:Addr} {xs:List V} {ds:List PyData}:H a=some (.tup xs)->RdnAll N H xs ds->Rdn N H (.ref a) (.tuple ds)
inductive RdnAll (N:Addr->Prop)(H:Hp):List V->List PyData->Prop
 | nil:RdnAll N H [] []
 | cons {x:V} {d:PyData} {xs:List V} {ds:List PyData}:Rdn N H x d->RdnAll N H xs ds->RdnAll N H (x :: xs) (d :: ds)
end
section
variable {K:PySem.W.Frag}{N N':Addr->Prop}{H H':Hp}
theorem RdnAll.rdv {vs:List V}{ds:List PyData}(h:RdnAll N H vs ds):RdvAll K H vs ds :=
 RdnAll.rec (motive_1:=fun v d _=>Rdv K H v d) (motive_2:=fun vs ds _=>RdvAll K H vs ds) .non .bl .int .str (fun _ h _ t=>.lst (SqL.of h) t) (fun h _ t=>.tup (SqT.of h) t) .nil (fun _ _ a t=>.cons a t) h
theorem RdnAll.mono (s:Same H H')(i:∀ a,N a->N' a){vs:List V}{ds:List PyData}(h:RdnAll N H vs ds):RdnAll N' H' vs ds :=
 RdnAll.rec (motive_1:=fun v d _=>Rdn N' H' v d) (motive_2:=fun vs ds _=>RdnAll N' H' vs ds) .non .bl .int .str (fun n h _ t=>.lst (i _ n) (s _ _ h) t) (fun h _ t=>.tup (s _ _ h) t) .nil (fun _ _ a t=>.cons a t) h
theorem RdnAll.into {D:Addr}{o:HO}{old:List V}(hD:H D=some (.lst old))(i:∀ a,N a->a ≠ D){vs:List V}{ds:List PyData}(h:RdnAll N H vs ds):RdnAll N (upd H D o) vs ds :=
 RdnAll.rec (motive_1:=fun v d _=>Rdn N (upd H D o) v d) (motive_2:=fun vs ds _=>RdnAll N (upd H D o) vs ds) .non .bl .int .str (fun n h _ t=>.lst n (by rw [upd_ne (i _ n)]; exact h) t) (fun h _ t=>.tup (by rw [upd_ne (ne_of h hD (by intro z; cases z))]; exact h) t) .nil (fun _ _ a t=>.cons a t) h
theorem RdnAll.keep (s:Same H H'){vs:List V}{ds:List PyData}(h:RdnAll N H vs ds):RdnAll N H' vs ds:=h.mono s fun _ n=>n
theorem RdnAll.append {vs ws:List V}{ds es:List PyData}(h:RdnAll N H vs ds)(k:RdnAll N H ws es):RdnAll N H (vs++ws) (ds++es) :=
 RdnAll.rec (motive_1:=fun _ _ _=>True) (motive_2:=fun vs ds _=>RdnAll N H (vs++ws) (ds++es))
  trivial (fun _=>trivial) (fun _=>trivial) (fun _=>trivial) (fun _ _ _ _=>trivial) (fun _ _ _=>trivial) k (fun a _ _ t=>.cons a t) h
theorem RdnAll.snoc {vs:List V}{ds:List PyData}{v:V}{d:PyData}(h:RdnAll N H vs ds)(k:Rdn N H v d):RdnAll N H (vs++[v]) (ds++[d]):=h.append (.cons k .nil)
end
section
variable {K:PySem.W.Frag}{g:TG}{tc:TT}{te:TE}{Q:VK}{σ0:St}{H1:Hp}{D:Addr}
noncomputable def TurnYes (N:Addr->Prop)(inv:St->Prop)(H:Hp)(o:Option PyData)(Y:St->V->Hp->Prop):Prop:=∀ d y σ2 H5,o=some d->inv σ2->Same H H5->Rdn N H5 y d->Y σ2 y H5
noncomputable def TurnNo (inv:St->Prop)(H:Hp)(o:Option PyData)(Z:St->Hp->Prop):Prop:=∀ σ2 H4,o=none->inv σ2->Same H H4->Z σ2 H4
theorem comp_data {a:Addr}{xs:List V}(N:Addr->Prop)(outs:List (Option PyData))(inv:St->Prop)(hD:H1 D=none)(hN:∀ a,N a->a ≠ D)(h0:inv σ0)(hlen:outs.length=xs.length)(hz:xs.length<=100000)
  (hl:SqL K H1 a xs)
  (hs:∀ (i:Nat) (x:V) (o:Option PyData) (σ:St) (H:Hp),xs[i]?=some x->outs[i]?=some o->Same H1 H->H D ≠ none->inv σ->∀ Y Z,TurnYes N inv H o Y->TurnNo inv H o Z ->
   g x σ H fun σ2 H3=>tc σ2 H3 fun b H4=>if b=true then te σ2 H4 fun y H5=>Y σ2 y H5 else Z σ2 H4)
  (hd:∀ ys H',Same H1 H'->H' D=some (.lst ys)->RdnAll N H' ys (outs.filterMap id)->Q (.ref D) H'):CompGoes (Itl K a) g tc te Q D σ0 (upd H1 D (.lst [])):=by
 refine comp_list (K:=K) (a:=a) (xs:=xs) (fun i σ H'=>inv σ/\Same H1 H'/\∃ ys,H' D=some (.lst ys)/\ys.length<=i/\RdnAll N H' ys ((outs.take i).filterMap id)) ⟨h0,same_new hD,[],upd_same,Nat.le_refl _,.nil⟩ (fun i σ H' _ ⟨_,s,_⟩=>s.seq hl) ?_ ?_
 ·rintro i x σ H hx ⟨hi,s,ys,hy,yl,hr⟩
  have hil:i < xs.length:=(List.getElem?_eq_some_iff.mp hx).1
  obtain ⟨o,ho⟩:∃ o,outs[i]?=some o:=⟨outs[i]'(by omega),List.getElem?_eq_getElem (by omega)⟩
  have step:(outs.take (i + 1)).filterMap id=(outs.take i).filterMap id++o.toList:=by
   rw [List.take_add_one,ho,List.filterMap_append]
   cases o <;> rfl
  refine hs i x o σ H hx ho s (by rw [hy]; exact fun z=>nomatch z) hi _ _ (fun d y σ2 H5 e hi2 s5 hr5=>?_) (fun σ2 H4 e hi2 s4=>?_)
  ·subst e
   refine ⟨ys,s5 _ _ hy,Nat.lt_of_le_of_lt yl (Nat.lt_of_lt_of_le hil (Nat.le_trans hz (by decide))),hi2,fun b ob e=>?_,ys++[y],upd_same,?_,?_⟩
   ·rw [upd_ne (ne_of_none e hD)]
    exact s5 _ _ (s _ _ e)
   ·rw [List.length_append]
    exact Nat.add_le_add_right yl 1
   ·rw [step]
    exact RdnAll.into (s5 _ _ hy) hN (RdnAll.snoc (hr.keep s5) hr5)
  ·subst e
   refine ⟨hi2,s.trans s4,ys,s4 _ _ hy,Nat.le_succ_of_le yl,?_⟩
   rw [step]
   simpa using hr.keep s4
 ·rintro σ H ⟨_,s,ys,hy,_,hr⟩
  rw [<- hlen,List.take_length] at hr
  exact hd ys H s hy hr
theorem tYes_it {i:Nat}{v:V}{σ:St}{H:Hp}{A B:St->Hp->Prop}(h:A (σ.set i (some v)) H):gName i v σ H fun σ2 H3=>tYes σ2 H3 fun b H4=>if b=true then A σ2 H4 else B σ2 H4:=by
 show if true=true then A (σ.set i (some v)) H else B (σ.set i (some v)) H
 exact iteT h
end
end L2
namespace L2
open PySem PySem.Spec PyProof.Rows
noncomputable def cutS (z:Str)(lo hi:Option Int):Str:=⟨((z.cps.toList.drop (HT.sIx z.length 0 lo)).take (HT.sIx z.length z.length hi - HT.sIx z.length 0 lo)).toArray⟩
theorem slice_ix (lo hi:Option Int)(n:Nat):Builtin.Str.strSliceIndices lo hi 1 n=(List.range (HT.sIx n n hi - HT.sIx n 0 lo)).map (HT.sIx n 0 lo + ·):=by
 rw [<- sliceRange_one]
 unfold Builtin.Str.strSliceIndices
 simp only [show (1:Int) > 0 by decide,if_true]
 have clip:∀ (v:Option Int) (d:Nat),(match v with | none=>(d:Int) | some i=>max 0 (min (if i < 0 then i + (n:Int) else i) (n:Int)))=((HT.sIx n d v:Nat):Int):=fun v d=>by
  cases v with
  | none=>rfl
  | some i =>
   simp only [HT.sIx]
   by_cases h:i < 0
   ·simp only [h,if_true]
    omega
   ·simp only [h,if_false]
    omega
 have e1:=clip lo 0
 have e2:=clip hi n
 rw [<- e1,<- e2]
 rfl
theorem sIx_top (n:Nat)(hi:Option Int):HT.sIx n n hi<=n:=HT.sIx_le n n (Nat.le_refl _) hi
theorem slice_is (z:Str)(lo hi:Option Int):Txt.slice z lo hi=cutS z lo hi:=by
 unfold Txt.slice cutS
 rw [slice_ix,pick_run]
 by_cases c:((1:Int) == 1 && ((List.range (HT.sIx z.length z.length hi - HT.sIx z.length 0 lo)).map (HT.sIx z.length 0 lo + ·)).length == z.length)=true
 ·rw [if_pos c]
  have c2:HT.sIx z.length z.length hi - HT.sIx z.length 0 lo=z.length:=by
   simp only [List.length_map,List.length_range] at c
   simpa using c
  have h1:=sIx_top z.length hi
  have e1:HT.sIx z.length z.length hi=z.length:=by omega
  have e0:HT.sIx z.length 0 lo=0\/z.length=0:=by omega
  have el:z.cps.toList.length=z.length:=Array.length_toList
  rw [c2]
  rcases e0 with e0 | e0
  ·rw [e0,List.drop_zero,List.take_of_length_le (by omega)]
  ·have e2:z.cps.toList=[]:=List.length_eq_zero_iff.mp (by omega)
   rw [e2]
   simp only [List.drop_nil,List.take_nil]
   cases z with
   | mk cps =>
    have e3:cps=#[]:=by simpa using e2
    rw [e3]
 ·rw [if_neg c]
section
variable {X:Cx}
noncomputable def rSlS:V->Option Int->Option Int->Hp->VK->Prop:=fun x lo hi H Q=>∃ z,x=.str z/\z.length<=sizeLine/\Q (.str (cutS z lo hi)) H
theorem part_tok {v:Value}{o:Option Int}(h:IsPart v o):∃ p:Option (Int × Tok),v=partValue p/\p.map (·.1)=o:=by
 cases h with
 | none=>exact ⟨none,rfl,rfl⟩
 | int i t=>exact ⟨some (i,t),rfl,rfl⟩
theorem sl_str:SlR X rSlS:=by
 intro pins s σ H x v vl vu lo hi sl Q I rx hs pl pu h
 obtain ⟨z,rfl,hz,q⟩:=h
 obtain ⟨t,rfl⟩:=rx
 obtain ⟨p1,rfl,e1⟩:=part_tok pl
 obtain ⟨p2,rfl,e2⟩:=part_tok pu
 refine ⟨"str",_,F.slot_str_getitem.lookup,typeIs_str _ _ _,wpAny_getItem_str_slice (l:=p1) (u:=p2) (st:=none) hs rfl ?_⟩
 have e:sliceMade z t p1 p2 none=if ((1:Int) == 1 && (Builtin.Str.strSliceIndices lo hi 1 z.length).length == z.length)=true then Made.val (.str z t) else Made.str ⟨((Builtin.Str.strSliceIndices lo hi 1 z.length).filterMap (z.cps[·]?)).toArray⟩:=by
  rw [<- e1,<- e2]
  rfl
 rw [e]
 refine post_val_or_str ⟨Nat.le_trans (Txt.slice_le z lo hi) hz,fun t' k=>?_⟩
 rw [<- slice_is] at q
 exact ⟨.str (Txt.slice z lo hi),H,I.tok k,⟨_,rfl⟩,q⟩
end
end L2
namespace L2
open PySem PySem.Spec PyProof.Rows
section
variable {X:Cx}{tg iter elt:Expr}{ifs:List Expr}{scope:Scope}{pos:Pos}{N:List Str}{src:List (Option Nat)}{cl:List (Str × Addr)}{wi:TI}{g:TG}{tc:TT}{te:TE}
theorem ps_setC {i:Nat}{x:Str}{xpos spos:Pos}(hN:X.N.Nodup)(hix:X.N[i]?=some x)(hlx:X.env.scope.names.lookup x=some .local)(ok:CompOk X N src scope cl)(hcalm:X.calm=true)(hi:PI X tg iter wi)
  (hg:∀ C fp pins s H,PG (compCx X N scope cl C fp pins s H) tg g) (hc:∀ C fp pins s H,PIfs (compCx X N scope cl C fp pins s H) ifs tc) (he:∀ C fp pins s H,PE (compCx X N scope cl C fp pins s H) elt te)
  (hs:∀ x,foldedSetIterable iter X.env x=pure x:=by intro _; rfl) (hsw:swapsWith (.ListComp elt [⟨tg,iter,ifs,0⟩] scope pos) (some (.Name x xpos)) spos.line X.env=pure true:=by rfl) :
  PS X (.Assign [.Name x xpos] (.ListComp elt [⟨tg,iter,ifs,0⟩] scope pos) spos) (tAsg (tComp wi src g tc te) (gName i)):=by
 intro pins s σ H D I h
 rw [exec_Assign_Name_used _ _ _ _ hsw]
 refine wpAny_bind (wpAny_standAt (wpAny_bind ?_))
 unfold evalThenUse
 refine wpAny_bind (wpAny_mono (Q:=fun _ s''=>∃ σ' H',Inv X pins σ' H' s''/\D.nx σ' H') ?_ (fun _ s'' ⟨σ',H',I',q'⟩=>wpAny_pure (wpAny_pure ⟨σ',H',I',q'⟩)) fun _ _ z=>z)
 refine wpAny_comprehension_free (use:=some (assign (.Name x xpos) X.env)) rfl hs ok.clos ok.kind ok.names (thn (hi pins s σ H _ I h) fun xv s1 h1=>thn h1 fun itv s2 h2=>?_)
 obtain ⟨it,fp,tn,J,H2,e,I2,T,st2,f2,q2⟩:=h2
 subst e
 refine wpAny_newObj_type (wpAny_newFunctionEnv ok.nocell (by intro y hy; simp at hy) (fun h₁ hns₁ hsb₁=>?_) ok.kind)
 dsimp only at hns₁ hsb₁ ⊢
 generalize hP:s2.heap.push { cls:=.type "list",dict:=none,data:=.seq ([]:List Value).toArray }=P2 at hns₁ hsb₁ ⊢
 have hC:P2.objs.size=s2.heap.objs.size + 1:=by rw [<- hP,Heap.size_push]
 have k:∀ b u,s2.heap.get? b=some u->h₁.get? b=some u:=fun b u e=>by
  have lt:=Heap.lt_size e
  exact (hsb₁.2 b (by rw [hC]; exact Nat.ne_of_lt (Nat.lt_succ_of_lt lt))).trans (Heap.get?_push_of_some _ (hP ▸ Heap.get?_push_of_some _ e))
 have hD:h₁.get? s2.heap.objs.size=some { cls:=.type "list",data:=.seq #[] }:=(hsb₁.2 _ (by rw [hC]; exact (Nat.succ_ne_self _).symm)).trans (Heap.get?_push_of_some _ (hP ▸ Heap.get?_push_size _ rfl))
 have ho:∀ b ∈ fp,∃ o,s2.heap.get? b=some o:=fun b hb=>let ⟨o,e,_⟩:=T.obj 0 _ st2 b hb; ⟨o,e⟩
 obtain ⟨W,⟨m0,w0⟩,turn⟩:=q2 s2.heap.objs.size (I2.hok.fresh (Nat.le_refl _))
 have I0:=comp_start (tk:=s2.toks + ([]:List (Str × Value)).length) ok I2 f2 ho hC k hD hns₁
 have st0:tn 0 h₁:=T.keep 0 _ _ st2 fun b _ o e=>k b o e
 have fr0:∀ b ∈ fp,upd H2 s2.heap.objs.size (.lst []) b=none:=fun b hb=>by
  obtain ⟨o,e⟩:=ho b hb
  rw [upd_ne (Nat.ne_of_lt (Heap.lt_size e))]
  exact (f2 b hb).1
 have stat:∀ {H':Hp},(∀ b ∈ fp,H' b=none)->∀ b ∈ fp,FpOk (compCx X N scope cl P2.objs.size fp pins s2 H2) [] H' b:=fun {H'} hn b hb=>by
  obtain ⟨o,e⟩:=ho b hb
  have lt:=Heap.lt_size e
  refine ⟨hn b hb,?_,fun z=>(List.mem_cons.mp (I2.stkSub b z)).elim (f2 b hb).2.1 (f2 b hb).2.2.1,.inl hb,fun x c z=>(f2 b hb).2.2.2.2.1 x c (ok.sub x c z),fun p hp=>?_⟩
  ·show b ≠ P2.objs.size
   rw [hC]
   exact Nat.ne_of_lt (Nat.lt_succ_of_lt lt)
  ·have hp':p ∈ X.pn++pins:=by
    have:p ∈ (X.pn++pins)++[]:=hp
    simpa using this
   exact (f2 b hb).2.2.2.2.2 p hp'
 have loop:∀ s₃:Shared,s₃={ s2 with heap:=h₁,toks:=s2.toks + ([]:List (Str × Value)).length } ->
   codeAny (model X.prog X.w) X.A (.compLoop (.ListComp elt [⟨tg,iter,ifs,0⟩] scope pos) 0 (.ref it) (.ref s2.heap.objs.size) (compEnvC scope cl P2.objs.size X.env))
    (compPost (model X.prog X.w) X.A X.xe (some (assign (.Name x xpos) X.env)) (fun _ s''=>∃ σ' H',Inv X pins σ' H' s''/\D.nx σ' H') (.ref s2.heap.objs.size) P2.objs.size) s₃:=by
  rintro s₃ rfl
  refine codeAny_loop rfl (fun n s'=>∃ i σ' H',Inv (compCx X N scope cl P2.objs.size fp pins s2 H2) [] σ' H' s'/\tn i s'.heap/\(∀ b ∈ fp,H' b=none)/\W i n σ' H') ?_ m0 ⟨0,_,_,I0,st0,fr0,w0⟩
  rintro n s3 ⟨i,σ3,H3,I3,st3,fr3,w3⟩
  show wpAny _ X.A ((compTurn (.ListComp elt [⟨tg,iter,ifs,0⟩] scope pos) 0 (.ref it) (.ref s2.heap.objs.size) (compEnvC scope cl P2.objs.size X.env)).onRaise (fun x=>do noteFrame x (compEnvC scope cl P2.objs.size X.env); theTreesLotGoes x)) _ _ s3
  refine wpAny_noted ?_
  rw [compTurn_list]
  rcases turn i n σ3 H3 w3 with ⟨stop,qn⟩ | ⟨go,N',hN,step⟩
  ·refine wpAny_bind (wpAny_standAt (wpAny_bind (thn (T.done (compCx X N scope cl P2.objs.size fp pins s2 H2) rfl rfl rfl hcalm i [] s3 σ3 H3 _ I3 (stat fr3) st3 stop) fun r s4 ⟨hr,I4⟩=>?_)))
   subst hr
   refine wpAny_pure ?_
   obtain ⟨m,hm,_⟩:=I4.loc
   have leC:s2.heap.objs.size<=P2.objs.size:=by rw [hC]; exact Nat.le_succ _
   have IX:Inv X pins σ H3 s4:=I2.call' (s':=s4) (ch:=fp) I4.os I4.base I4.hok I4.bare fun b hb=>⟨(f2 b hb).2.2.2.1,(f2 b hb).2.1,(f2 b hb).2.2.2.2.1,(f2 b hb).2.2.2.2.2⟩
   have cellLt:∀ y c,X.env.cells.lookup y=some c->c ≠ P2.objs.size:=fun y c e z=>by
    obtain ⟨_,o,e1,_⟩:=I2.cell y c e
    have:=Heap.lt_size e1
    rw [z] at this
    exact Nat.lt_irrefl _ (Nat.lt_of_lt_of_le this leC)
   have locNe:X.env.locals ≠ P2.objs.size:=fun z=>by
    have:=I2.lt
    rw [z] at this
    exact Nat.lt_irrefl _ (Nat.lt_of_lt_of_le this leC)
   refine wpAny_assign_Name (store_ok2 IX hN hix (.inl hlx) (v:=.ref s2.heap.objs.size) rfl (fun s5 I5 ⟨a5,sb5,ha5⟩=>?_) (.inr hlx))
   have na:a5 ≠ P2.objs.size:=by
    rcases ha5 with z | z
    ·rw [z]
     exact locNe
    ·exact cellLt _ _ z
   refine ⟨m,hm.sameBut sb5 (Ne.symm na),fun h' sb=>⟨_,H3,?_,qn⟩⟩
   exact I5.turned (t':=s5.toks) (it:=P2.objs.size) (fun b o hb e=>(sb.2 b hb).trans e) I4.free (Ne.symm locNe) (.inr (Nat.le_trans I2.sz leC)) cellLt fun p hp z=>by
    obtain ⟨e1,_⟩:=I2.pin p hp
    have:=Heap.lt_size e1
    rw [z] at this
    exact Nat.lt_irrefl _ (Nat.lt_of_lt_of_le this leC)
  ·refine wpAny_bind (wpAny_standAt (wpAny_bind (thn (T.item (compCx X N scope cl P2.objs.size fp pins s2 H2) rfl rfl rfl hcalm i [] s3 σ3 H3 _ I3 (stat fr3) st3 go) fun r s4 ⟨u,hr,h4⟩=>?_)))
   subst hr
   dsimp only
   refine wpAny_bind (thn h4 fun _ s5 ⟨x,H5,I5,r5,y5,st5,fr5⟩=>?_)
   have I5':=I5.pinned (stat fr5) (T.obj _ _ st5)
   refine wpAny_bind (wpAny_mono (hg P2.objs.size fp pins s2 H2 _ s5 σ3 H5 x u _ I5' r5 (step x H5 y5)) (fun _ s6 ⟨σ6,H6,I6,q6⟩=>?_) fun _ _ z=>False.elim z)
   have again:∀ {s7:Shared} {σ7:St} {H7:Hp},Inv (compCx X N scope cl P2.objs.size fp pins s2 H2) ([]++pinsAt fp s5.heap) σ7 H7 s7->N' σ7 H7->∃ m,m < n/\∃ i σ' H',Inv (compCx X N scope cl P2.objs.size fp pins s2 H2) [] σ' H' s7/\tn i s7.heap/\(∀ b ∈ fp,H' b=none)/\W i m σ' H':=fun {s7 σ7 H7} I7 n7=>by
    obtain ⟨m',hm,w7⟩:=hN σ7 H7 n7
    refine ⟨m',hm,i + 1,σ7,H7,I7.unpinned,T.keep _ _ _ st5 fun b hb o e=>(I7.pin (b,o) (List.mem_append_right _ (List.mem_append_right _ (mem_pinsAt hb e)))).1,fun b hb=>?_,w7⟩
    obtain ⟨o,e,d⟩:=T.obj _ _ st5 b hb
    exact (I7.pin (b,o) (List.mem_append_right _ (List.mem_append_right _ (mem_pinsAt hb e)))).2.1
   refine wpAny_bind (wpAny_mono (hc P2.objs.size fp pins s2 H2 _ s6 σ6 H6 _ I6 q6) (fun b s7 ⟨H7,I7,q7⟩=>?_) fun _ _ z=>False.elim z)
   cases b with
   | false =>
    rw [if_neg Bool.false_ne_true] at q7
    exact wpAny_pure ⟨rfl,again I7 q7⟩
   | true =>
    rw [if_pos rfl] at q7
    refine wpAny_bind (wpAny_bind (wpAny_mono (he P2.objs.size fp pins s2 H2 _ s7 σ6 H7 _ I7 q7) (fun y s8 ⟨v8,H8,I8,r8,ys,hys,hlen,q8⟩=>?_) fun _ _ z=>False.elim z))
    refine wpAny_bind (wpAny_mono (mt_append (X:=compCx X N scope cl P2.objs.size fp pins s2 H2) _ s8 σ6 H8 (.ref s2.heap.objs.size) [v8] (.ref s2.heap.objs.size) [y] (fun _ H9=>N' σ6 H9) I8 rfl (.cons r8 .nil) ⟨_,ys,v8,rfl,rfl,hys,hlen,q8⟩) (fun _ s9 ⟨v9,H9,I9,_,q9⟩=>?_) fun _ _ z=>False.elim z)
    exact wpAny_pure (wpAny_pure ⟨rfl,again I9 q9⟩)
 exact codeAny_compStart_list (loop _ rfl) (T.self _ 0 _ _ _ st0 (loop _ rfl))
end
end L2
namespace L2
open PySem PySem.Spec PyProof.Rows
theorem CompOk.byRfl {X:Cx}{N:List Str}{src:List (Option Nat)}{scope:Scope}(kind:scope.kind=.function)(nocell:∀ y ∈ scope.names,y.2 ≠ .cell)(names:∀ y ∈ scope.names,y.2=.local->scope.names.lookup y.1=some .local)
  (hs:(scope.names.all fun y=>y.2 != .free || (X.env.cells.lookup y.1).isSome)=true) (len:src.length=N.length)
  (pc:((N.zip src).all fun q=>match q.2 with | none=>true | some j=>X.N[j]? == some q.1 && X.env.kindOf q.1 == some .cell && (relabel scope X.env).names.lookup q.1 == some .cell)=true):CompOk X N src scope (clOf (fun x=>X.env.cells.lookup x) scope.names []):=by
 have hs':∀ y ∈ scope.names,y.2=.free->(X.env.cells.lookup y.1).isSome=true:=fun y hy e=>by
  have z:=List.all_eq_true.mp hs y hy
  rw [e] at z
  simpa using z
 refine ⟨kind,nocell,names,closureFor_free hs',fun x c h=>?_,fun x h=>?_,len,fun i j x h1 h2=>?_⟩
 ·rcases clOf_mem _ _ _ (PySem.mem_of_lookup h) with z | z
  ·cases z
  ·exact z
 ·refine Option.isSome_iff_exists.mp (clOf_has _ _ (.inr ?_))
  have hm:(x,NameKind.cell) ∈ scope.names\/(x,NameKind.free) ∈ scope.names:=by
   rcases h with h | h
   ·exact relabel_mem (PySem.mem_of_lookup h) (.inl rfl)
   ·exact relabel_mem (PySem.mem_of_lookup h) (.inr rfl)
  rcases hm with hm | hm
  ·exact absurd rfl (nocell _ hm)
  ·exact ⟨hm,hs' _ hm rfl⟩
 ·have hm:(x,some j) ∈ N.zip src:=List.mem_of_getElem? (i:=i) (by rw [List.getElem?_zip_eq_some]; exact ⟨h1,h2⟩)
  have z:=List.all_eq_true.mp pc _ hm
  simp only [Bool.and_eq_true,beq_iff_eq] at z
  exact ⟨z.1.1,.inl z.1.2,.inl z.2⟩
section
variable {X:Cx}{tg iter elt:Expr}{ifs:List Expr}{scope:Scope}{pos:Pos}{N:List Str}{src:List (Option Nat)}{cl:List (Str × Addr)}{wi:TI}{g:TG}{tc:TT}{te:TE}{y:Str}
end
end L2
namespace L2
open PySem PySem.Spec PyProof.Rows
section
variable {X:Cx}{K:PySem.W.Frag}
theorem call_anyK (hK:X.K=K)(hc:X.calm=true):CallR X (.builtin "any") (fun xs H Q=>∃ (l:Addr) (bs:List Bool),xs=[.ref l]/\SqL K H l (bs.map V.bl)/\Q (.bl (bs.any id)) H):=by
 subst hK
 exact call_any hc
theorem pi_listK {tg l:Expr}{tl:TE}(hK:X.K=K)(hl:PE X l tl):PI X tg l (iList K tl):=by
 subst hK
 exact pi_list hl
end
end L2
namespace L2
open PySem PySem.Spec PyProof.Rows
noncomputable def PEp (X:Cx)(e:Expr)(t:TE):Prop :=
 ∀ (pins:List (Addr × Obj)) (s:Shared) (σ:St) (H:Hp) (Q:VK),Inv X pins σ H s->0 < s.toks->t σ H Q->wpAny (model X.prog X.w) X.A (eval e X.env) (EP X pins σ Q) X.xe s
noncomputable def PSsp (X:Cx)(st:List Stmt)(t:TS):Prop :=
 ∀ (pins:List (Addr × Obj)) (s:Shared) (σ:St) (H:Hp) (D:Ends),Inv X pins σ H s->0 < s.toks->t D σ H->wpAny (model X.prog X.w) X.A (execs st X.env) (SP X pins D) X.xe s
section
variable {X:Cx}
theorem name_keeps {i:Nat}{x:Str}{pos:Pos}{v:V}{pins:List (Addr × Obj)}{s:Shared}{σ:St}{H:Hp}{Q:Value->Shared->Prop}(hN:X.N[i]?=some x)(hv:Vis X.env.scope x)(hd:(x == ("__debug__":Str))=false)(hcd:(x == ("__classdict__":Str))=false)
  (I:Inv X pins σ H s) (e:σ[i]?=some (some v)) (q:∀ u,RelV v u->Q u s):wpAny (model X.prog X.w) X.A (eval (.Name x pos) X.env) Q X.xe s:=by
 obtain ⟨m,hn,hl⟩:=I.loc
 obtain ⟨u,r,l⟩:=hl i x v hN e hv
 have fin:Q u s:=q u r
 rcases l with ⟨hk,hm⟩ | ⟨hk,c,hc,hcell⟩
 ·exact wpAny_Name (wpAny_loadName_local I.ok.kind hk hn hm fin) hd
 ·rcases hk with hk | hk
  ·exact wpAny_Name (wpAny_loadName_cell I.ok.kind hk hc hcell fin) hd
  ·exact wpAny_Name (wpAny_loadName_free I.ok.kind hk hc hcell fin hcd) hd
noncomputable def tRepl (i:Nat)(y z:Str):TE:=fun σ H Q=>∃ v,σ[i]?=some (some v)/\∃ t:Str,v=.str t/\t.length<=1000000/\Q (.str (PySem.Txt.replace t y z)) H
theorem pep_rep (i:Nat){x y z:Str}{p apos cpos p1 p2:Pos}{j1 j2:Nat}(hyz:(y == z)=false)(hz:z.length<=14)(hN:X.N[i]?=some x:=by rfl)(hv:Vis X.env.scope x:=by first | exact Or.inl rfl | exact Or.inr (Or.inl rfl) | exact Or.inr (Or.inr rfl))(hd:(x == ("__debug__":Str))=false:=by decide)(hcd:(x == ("__classdict__":Str))=false:=by decide)
  (hbase:attributeBase (.Name x p) "replace" X.env (eval (.Name x p) X.env)=eval (.Name x p) X.env:=by rfl)
  (hfew:((backTo cpos (starEach [.Constant (.str y) j1 p1,.Constant (.str z) j2 p2] X.env)).all (fun x=>!x.1) && (backToKw cpos (keywordEach [] X.env)).all (fun x=>x.1.isSome)
   && decide (([.Constant (.str y) j1 p1,.Constant (.str z) j2 p2]:List Expr).length + ([]:List Keyword).length + (if ([]:List Keyword).isEmpty then 0 else 1) < 30))=true:=by rfl)
  (hline:(apos.endLine == cpos.line)=true:=by rfl) :
  PEp X (.Call (.Attribute (.Name x p) "replace" apos) [.Constant (.str y) j1 p1,.Constant (.str z) j2 p2] [] cpos) (tRepl i y z):=by
 intro pins s σ H Q I pos h
 obtain ⟨v,e,t,rfl,ht,q⟩:=h
 refine wpAny_Call_method_late hbase hfew hline rfl (name_keeps hN hv hd hcd I e fun u r=>?_)
 obtain ⟨tk,rfl⟩:=r
 refine ⟨"str","str.replace",F.plainAttrs_str,F.slot_str_replace,F.type_str_replace,typeIs_str _ _ _,(fun a e=>by cases e),?_⟩
 have hs:starEach [.Constant (.str y) j1 p1,.Constant (.str z) j2 p2] X.env=[(false,eval (.Constant (.str y) j1 p1) X.env),(false,eval (.Constant (.str z) j2 p2) X.env)]:=rfl
 rw [hs]
 refine Calls.callWith_builtin rfl (Calls.evalArgs_plain ?_)
 show wpAny _ _ (spliced ((false,eval (.Constant (.str y) j1 p1) X.env) :: backTo cpos [(false,eval (.Constant (.str z) j2 p2) X.env)])) _ _ s
 refine Calls.spliced_cons (Calls.Constant_str ?_)
 show wpAny _ _ (spliced ((false,eval (.Constant (.str z) j2 p2) X.env) :: backTo cpos [])) _ _ _
 refine Calls.spliced_cons (Calls.Constant_str ?_)
 refine Calls.spliced_nil ?_
 exact PySem.SC.replaceW (by show s.toks ≠ 0; omega) (by show s.toks + 1 ≠ 0; omega) (by show s.toks ≠ s.toks + 1; omega) hyz (by omega) hz fun t' k=>⟨.str _,H,I.tok k,⟨_,rfl⟩,q⟩
theorem pep_opN {op:Operator}{r:R2}(i:Nat){x:Str}{p pos:Pos}{b:Expr}{tb:TE}(ho:OpR X (binaryOp op) r)(hb:PEp X b tb)(hN:X.N[i]?=some x:=by rfl)(hv:Vis X.env.scope x:=by first | exact Or.inl rfl | exact Or.inr (Or.inl rfl) | exact Or.inr (Or.inr rfl))(hd:(x == ("__debug__":Str))=false:=by decide)(hcd:(x == ("__classdict__":Str))=false:=by decide) :
  PEp X (.BinOp (.Name x p) op b pos) (tOp r (tVar i) tb):=by
 intro pins s σ H Q I pos h
 obtain ⟨v,e,h⟩:=h
 refine wpAny_BinOp (name_keeps hN hv hd hcd I e fun u ru=>?_)
 exact thn (hb pins s σ H _ I pos h) fun u2 s2 ⟨y,H2,I2,r2,q2⟩=>ho pins s2 σ H2 v y u u2 Q I2 ru r2 q2
theorem pssp_set {i:Nat}{x:Str}{e:Expr}{te:TE}{pos pos':Pos}{rest:List Stmt}{u:TS}(hN:X.N.Nodup)(hi:X.N[i]?=some x)(hx:Loc X.env.scope x)(he:PEp X e te)(hr:PSs X rest u)(hs:swapsWith e (some (.Name x pos')) pos.line X.env=pure false:=by rfl)(hf:X.fn x=true\/X.env.scope.names.lookup x=some .local:=by first | exact .inl rfl | exact .inr rfl | assumption) :
  PSsp X (.Assign [.Name x pos'] e pos :: rest) (tSeq (tAsg te (gName i)) u):=by
 intro pins s σ H D I ps h
 refine wpAny_execs_cons (wpAny_Assign_Name (thn (he pins s σ H _ I ps h) fun v s1 ⟨y,H1,I1,r1,q1⟩=>?_) hs)
 refine store_ok I1 hN hi hx r1 (fun s2 I2=>?_) hf
 exact hr pins s2 _ H1 D I2 q1
noncomputable def tIfP (i:Nat)(c:Str)(tb tr tp:TS):TS:=fun D σ H=>∃ v,σ[i]?=some (some v)/\∃ t:Str,v=.str t/\if (t == c)=true then tSeq tb tr D σ H else tp D σ H
theorem pss_ifP (i:Nat){x c:Str}{p p1 p2 pos:Pos}{j:Nat}{body rest:List Stmt}{tb tr tp:TS}(hb:PSs X body tb)(hr:PSs X rest tr)(hp:PSsp X rest tp)(hN:X.N[i]?=some x:=by rfl)(hv:Vis X.env.scope x:=by first | exact Or.inl rfl | exact Or.inr (Or.inl rfl) | exact Or.inr (Or.inr rfl))(hd:(x == ("__debug__":Str))=false:=by decide)(hcd:(x == ("__classdict__":Str))=false:=by decide) :
  PSs X (.If (.Compare (.Name x p) [.Eq] [.Constant (.str c) j p1] p2) body [] pos :: rest) (tIfP i c tb tr tp):=by
 intro pins s σ H D I h
 obtain ⟨v,e,t,rfl,h⟩:=h
 refine wpAny_execs_cons (wpAny_If (wpAny_isTrue_Compare1 (name_keeps hN hv hd hcd I e fun u r=>?_) (nomark _)))
 obtain ⟨tk,rfl⟩:=r
 refine Calls.Constant_str ?_
 refine PyProof.Rows.eq_str (wpAny_truthy_bool ?_)
 have I2:=I.tok (s.toks + 1)
 cases hc:(t == c) with
 | true =>
  rw [hc,if_pos rfl] at h
  refine thn (hb pins _ σ H _ I2 h) fun f s1 q=>?_
  cases f with
  | next =>
   obtain ⟨σ',H',I',q⟩:=q
   exact hr pins s1 σ' H' D I' q
  | ret v=>exact q
  | brk=>exact q
  | cont=>exact q
 | false =>
  rw [hc,if_neg Bool.false_ne_true] at h
  exact wpAny_execs_nil (hp pins _ σ H D I2 (Nat.succ_pos _) h)
theorem mt_replaceNo:MtR X "str.replace" (fun x xs H Q=>∃ t y z,x=.str t/\xs=[.str y,.str z]/\(Builtin.Str.occurrences t y 0 t.length (t.length + 1)).isEmpty=true/\Q (.str t) H):=by
 intro pins s σ H x xs v us Q I rx rv h
 obtain ⟨t,y,z,rfl,rfl,ho,q⟩:=h
 obtain ⟨tk,rfl⟩:=rx
 obtain ⟨u1,u2,rfl,⟨k1,rfl⟩,⟨k2,rfl⟩⟩:=rv.two
 have hc:((Builtin.Str.occurrences t y 0 t.length (t.length + 1)).isEmpty || (y.length == 0 && z.length == 0))=true:=by rw [ho]; rfl
 refine call_gives F.slot_str_replace (typeIs_str _ _ _) F.entry_str_replace (F.args_str_replace_3 _ _ _) (gives_str_replace t y z tk k1 k2 fun h=>absurd (hc.symm.trans h) (by decide)) ?_
 rw [if_pos hc]
 exact ⟨.str t,H,I,⟨_,rfl⟩,q⟩
theorem mt_count:MtM X "list.count" (fun x vs H Q=>∃ (l:Addr) (ts:List Str) (y:Str),x=.ref l/\vs=[.str y]/\H l=some (.lst (ts.map V.str))/\Q (.int ((ts.countP fun t=>t == y:Nat):Int)) H):=by
 intro pins s σ H x vs v us Q I rx rv h
 obtain ⟨l,ts,y,rfl,rfl,hH,q⟩:=h
 cases rx
 obtain ⟨u,rfl,t,rfl⟩:=rv.one
 obtain ⟨z,its,n,r,hl,e⟩:=I.lstM hH
 have hv:∃ f:Value->Bool,(∀ w ∈ its,∃ a k,w=.str a k/\f w=(a == y))/\its.countP f=ts.countP fun t=>t == y:=by
  refine ⟨fun w=>match w with | .str a _=>a == y | _=>false,?_⟩
  clear hl e z hH q
  generalize ew:ts.map V.str=ws at r
  induction r generalizing ts with
  | nil =>
   cases ts with
   | nil=>exact ⟨(fun _ h=>nomatch h),rfl⟩
   | cons a b=>cases ew
  | cons r1 r2 ih =>
   cases ts with
   | nil=>cases ew
   | cons a b =>
    rw [List.map_cons] at ew
    obtain ⟨e1,e2⟩:=List.cons.inj ew
    subst e1
    obtain ⟨k,rfl⟩:=r1
    obtain ⟨h1,h2⟩:=ih b e2
    refine ⟨fun w hw=>?_,?_⟩
    ·rcases List.mem_cons.mp hw with rfl | hw
     ·exact ⟨a,k,rfl,rfl⟩
     ·exact h1 w hw
    ·rw [List.countP_cons,List.countP_cons,h2]
 obtain ⟨f,hf,hc⟩:=hv
 refine call_meets F.slot_list_count ⟨_,e,rfl⟩ F.entry_list_count (F.args_list_count_2 _ _) (PySem.SeqAt.list_countAt l its.toArray n none #[] (.str y t) f) ⟨e,fun w hw=>?_,?_⟩
 ·obtain ⟨a,k,rfl,h2⟩:=hf w (by simpa using hw)
  rw [h2]
  exact PySem.SeqAt.EqAt.str_str a k y t
 ·refine ⟨.int _,H,I.tok _,⟨_,rfl⟩,?_⟩
  show Q (.int ((its.countP f:Nat):Int)) H
  rw [hc]
  exact q
end
end L2
namespace L2
open PySem PyProof.Rows PySem.W
section
variable {n:Nat}{lt:Nat->Nat->Bool}{cmp:Nat->Nat->(Bool->Shared->Prop)->Shared->Prop}{s:Shared}
structure Ord (n:Nat)(lt:Nat->Nat->Bool):Prop where
 tot:∀ i j,i < n->j < n->i ≠ j->lt j i=!lt i j
 tr:∀ i j k,i < n->j < n->k < n->lt i j=true->lt j k=true->lt i k=true
noncomputable def Mix (n:Nat)(p:Array Nat):Prop:=p.toList.Perm (List.range n)
theorem Mix.size {p:Array Nat}(h:Mix n p):p.size=n:=by
 have:=h.length_eq
 rwa [List.length_range,Array.length_toList] at this
theorem getD_at {p:Array Nat}{i:Nat}(h:i < p.size):p[i]?=some (p.getD i 0):=by
 rw [Array.getElem?_eq_getElem h]
 simp [Array.getD,h]
theorem Mix.below {p:Array Nat}(h:Mix n p){i:Nat}(hi:i < n):p.getD i 0 < n:=by
 have e:=getD_at (p:=p) (i:=i) (by rw [h.size]; exact hi)
 have m:p.getD i 0 ∈ p.toList:=List.mem_of_getElem? (by rw [Array.getElem?_toList]; exact e)
 exact List.mem_range.mp (h.mem_iff.mp m)
theorem Mix.ne {p:Array Nat}(h:Mix n p){i j:Nat}(hi:i < n)(hj:j < n)(hij:i ≠ j):p.getD i 0 ≠ p.getD j 0:=by
 intro e
 have nd:p.toList.Nodup:=h.nodup_iff.mpr List.nodup_range
 have hz:=h.size
 have e1:p.toList[i]'(by rw [Array.length_toList]; omega)=p.getD i 0:=by
  have:=getD_at (p:=p) (i:=i) (by omega)
  rw [<- Array.getElem?_toList,List.getElem?_eq_getElem (by rw [Array.length_toList]; omega)] at this
  exact Option.some.inj this
 have e2:p.toList[j]'(by rw [Array.length_toList]; omega)=p.getD j 0:=by
  have:=getD_at (p:=p) (i:=j) (by omega)
  rw [<- Array.getElem?_toList,List.getElem?_eq_getElem (by rw [Array.length_toList]; omega)] at this
  exact Option.some.inj this
 exact hij ((List.getElem_inj nd).mp (by rw [e1,e2,e]))
noncomputable def Asc (lt:Nat->Nat->Bool)(p:Array Nat)(m:Nat):Prop:=∀ i j,i < j->j < m->lt (p.getD i 0) (p.getD j 0)=true
theorem asc_of (O:Ord n lt){p:Array Nat}(M:Mix n p):∀ {m:Nat},m<=n->(∀ i,1<=i->i < m->lt (p.getD (i - 1) 0) (p.getD i 0)=true)->Asc lt p m
 | 0,_,_=>fun _ _ _ h=>absurd h (by omega)
 | m + 1,hm,h=>by
  have ih:=asc_of O M (m:=m) (by omega) fun i h1 h2=>h i h1 (by omega)
  intro i j hij hj
  by_cases e:j=m
  ·subst e
   by_cases e2:i=j - 1
   ·subst e2
    exact h j (by omega) (by omega)
   ·exact O.tr _ _ _ (M.below (by omega)) (M.below (i:=j - 1) (by omega)) (M.below (by omega)) (ih i (j - 1) (by omega) (by omega)) (h j (by omega) (by omega))
  ·exact ih i j hij (by omega)
noncomputable def Says (n:Nat)(lt:Nat->Nat->Bool)(cmp:Nat->Nat->(Bool->Shared->Prop)->Shared->Prop)(s:Shared):Prop:=∀ i j,i < n->j < n->i ≠ j->∀ C:Bool->Shared->Prop,C (lt i j) s->cmp i j C s
theorem asc_wp (S:Says n lt cmp s){p:Array Nat}(M:Mix n p){G:Nat->Shared->Prop}:∀ (f m:Nat),1<=m->m + f<=n ->
  (∀ k,m<=k->k<=m + f->(∀ i,m<=i->i < k->lt (p.getD i 0) (p.getD (i - 1) 0)=false)->(k < m + f->lt (p.getD k 0) (p.getD (k - 1) 0)=true)->G k s)->(kas_asc p f m).kasWp cmp G s
 | 0,m,_,_,h=>h m (Nat.le_refl _) (Nat.le_refl _) (fun i h1 h2=>absurd h2 (by omega)) (fun z=>absurd z (by omega))
 | f + 1,m,h1,hm,h=>by
  refine S _ _ (M.below (by omega)) (M.below (by omega)) (M.ne (by omega) (by omega) (by omega)) _ ?_
  cases e:lt (p.getD m 0) (p.getD (m - 1) 0) with
  | true=>exact h m (Nat.le_refl _) (by omega) (fun i a b=>absurd b (by omega)) fun _=>e
  | false =>
   refine asc_wp S M f (m + 1) (by omega) (by omega) fun k a b c d=>h k (by omega) (by omega) (fun i x y=>?_) fun z=>d (by omega)
   by_cases ei:i=m
   ·subst ei
    exact e
   ·exact c i (by omega) y
theorem desc_wp (O:Ord n lt)(S:Says n lt cmp s){p:Array Nat}(M:Mix n p){G:Array Nat × Nat × Nat->Shared->Prop}:∀ (f m:Nat),1<=m->m + f<=n ->
  (∀ k,m<=k->k<=m + f->(∀ i,m<=i->i < k->lt (p.getD i 0) (p.getD (i - 1) 0)=true)->G (p,k,0) s)->(kas_desc f p m 0).kasWp cmp G s
 | 0,m,_,_,h=>h m (Nat.le_refl _) (Nat.le_refl _) fun i a b=>absurd b (by omega)
 | f + 1,m,h1,hm,h=>by
  refine S _ _ (M.below (by omega)) (M.below (by omega)) (M.ne (by omega) (by omega) (by omega)) _ ?_
  cases e:lt (p.getD m 0) (p.getD (m - 1) 0) with
  | true =>
   show (if 0 > 0 then kas_desc f (kas_rev p (m - (0 + 1)) m) (m + 1) 0 else kas_desc f p (m + 1) 0).kasWp cmp G s
   rw [if_neg (by decide)]
   refine desc_wp O S M f (m + 1) (by omega) (by omega) fun k a b c=>h k (by omega) (by omega) fun i x y=>?_
   by_cases ei:i=m
   ·subst ei
    exact e
   ·exact c i (by omega) y
  | false =>
   have e2:lt (p.getD (m - 1) 0) (p.getD m 0)=true:=by
    rw [O.tot _ _ (M.below (i:=m) (by omega)) (M.below (i:=m - 1) (by omega)) (M.ne (by omega) (by omega) (by omega)),e]
    rfl
   refine S _ _ (M.below (i:=m - 1) (by omega)) (M.below (by omega)) (M.ne (by omega) (by omega) (by omega)) _ ?_
   rw [e2]
   exact h m (Nat.le_refl _) (by omega) fun i a b=>absurd b (by omega)
theorem Mix.rev {p:Array Nat}(M:Mix n p)(i j:Nat):Mix n (kas_rev p i j):=(Array.perm_iff_toList_perm.mp (mirror_perm p i j _)).trans M
theorem rev_at {p:Array Nat}{m i:Nat}(hm:m<=p.size)(hi:i < m):(kas_rev p 0 m).getD i 0=p.getD (m - 1 - i) 0:=by
 have e:=getElem?_mirror_all (xs:=p) (i:=0) (j:=m) hm i
 rw [if_pos ⟨Nat.zero_le _,hi⟩,Nat.zero_add,getD_at (p:=p) (i:=m - 1 - i) (by omega)] at e
 have e2:=getD_at (p:=kas_rev p 0 m) (i:=i) (by show i < (mirror p 0 m _).size; rw [mirror_size]; omega)
 exact Option.some.inj (e2.symm.trans e)
theorem tail3_wp (O:Ord n lt)(S:Says n lt cmp s){p:Array Nat}(M:Mix n p){m:Nat}(h1:1<=m)(hm:m<=n)(hd:∀ i,1<=i->i < m->lt (p.getD i 0) (p.getD (i - 1) 0)=true){G:Nat × Array Nat->Shared->Prop}
  (h:∀ k p',1<=k->k<=n->Mix n p'->Asc lt p' k->G (k,p') s):(kas_tail3 m n p).kasWp cmp G s:=by
 have hz:=M.size
 have M':=M.rev 0 m
 unfold kas_tail3
 rw [KasT.kasWp_bind]
 refine asc_wp S M' (n - m) m h1 (by omega) fun k a b c _=>h k _ (by omega) (by omega) M' (asc_of O M' (by omega) fun i x y=>?_)
 by_cases ei:i < m
 ·rw [rev_at (by omega) (show i - 1 < m by omega),rev_at (by omega) ei]
  have:=hd (m - i) (by omega) (by omega)
  rw [show m - 1 - (i - 1)=m - i by omega,show m - 1 - i=m - i - 1 by omega]
  exact this
 ·have:=c i (by omega) y
  rw [O.tot _ _ (M'.below (i:=i) (by omega)) (M'.below (i:=i - 1) (by omega)) (M'.ne (by omega) (by omega) (by omega)),this]
  rfl
theorem count_wp (O:Ord n lt)(S:Says n lt cmp s){p:Array Nat}(M:Mix n p)(h2:2<=n){G:Nat × Array Nat->Shared->Prop}(h:∀ k p',1<=k->k<=n->Mix n p'->Asc lt p' k->G (k,p') s):(kas_count n p).kasWp cmp G s:=by
 unfold kas_count
 rw [KasT.kasWp_bind]
 refine asc_wp S M (n - 1) 1 (Nat.le_refl _) (by omega) fun k a b c d=>?_
 have hA:Asc lt p k:=asc_of O M (by omega) fun i x y=>by
  have:=c i x y
  rw [O.tot _ _ (M.below (i:=i) (by omega)) (M.below (i:=i - 1) (by omega)) (M.ne (by omega) (by omega) (by omega)),this]
  rfl
 by_cases e:k=n
 ·subst e
  rw [if_pos (by simp)]
  exact h k p a (by omega) M hA
 ·rw [if_neg (by simpa using e)]
  by_cases k1:k > 1
  ·rw [if_pos k1]
   refine S _ _ (M.below (by omega)) (M.below (by omega)) (M.ne (by omega) (by omega) (by omega)) _ ?_
   rw [hA 0 (k - 1) (by omega) (by omega)]
   exact h k p a (by omega) M hA
  ·rw [if_neg k1]
   have ek:k=1:=by omega
   subst ek
   unfold kas_descPart
   rw [KasT.kasWp_bind]
   refine desc_wp O S M (n - (1 + 1)) (1 + 1) (by omega) (by omega) fun k a b c=>?_
   show (if 0 > 0 then kas_tail3 k n (kas_rev p (k - (0 + 1)) k) else kas_tail3 k n p).kasWp cmp G s
   rw [if_neg (by decide)]
   refine tail3_wp O S M (by omega) (by omega) (fun i x y=>?_) h
   by_cases ei:i=1
   ·subst ei
    exact d (by omega)
   ·exact c i (by omega) y
theorem place_wp (O:Ord n lt)(S:Says n lt cmp s){p:Array Nat}(M:Mix n p){k:Nat}(hk:k < n)(hA:Asc lt p k){G:Nat->Shared->Prop}
  (h:∀ l,l<=k->(∀ i,i < l->lt (p.getD i 0) (p.getD k 0)=true)->(∀ i,l<=i->i < k->lt (p.getD k 0) (p.getD i 0)=true)->G l s) :
  ∀ (f l r:Nat),l<=r->r<=k->r - l<=f->(∀ i,i < l->lt (p.getD i 0) (p.getD k 0)=true)->(∀ i,r<=i->i < k->lt (p.getD k 0) (p.getD i 0)=true)->(kas_place p k f l r).kasWp cmp G s
 | 0,l,r,hlr,hr,hf,a,b=>h l (by omega) a fun i x y=>b i (by omega) y
 | f + 1,l,r,hlr,hr,hf,a,b=>by
  unfold kas_place
  by_cases c:l >= r
  ·rw [if_pos c]
   exact h l (by omega) a fun i x y=>b i (by omega) y
  ·rw [if_neg c]
   refine S _ _ (M.below (by omega)) (M.below (by omega)) (M.ne (by omega) (by omega) (by omega)) _ ?_
   cases e:lt (p.getD k 0) (p.getD ((l + r) / 2) 0) with
   | true =>
    refine place_wp O S M hk hA h f l ((l + r) / 2) (by omega) (by omega) (by omega) a fun i x y=>?_
    by_cases ei:i=(l + r) / 2
    ·subst ei
     exact e
    ·exact O.tr _ _ _ (M.below (by omega)) (M.below (i:=(l + r) / 2) (by omega)) (M.below (by omega)) e (hA _ _ (by omega) y)
   | false =>
    have e2:lt (p.getD ((l + r) / 2) 0) (p.getD k 0)=true:=by
     rw [O.tot _ _ (M.below (i:=k) (by omega)) (M.below (i:=(l + r) / 2) (by omega)) (M.ne (by omega) (by omega) (by omega)),e]
     rfl
    refine place_wp O S M hk hA h f ((l + r) / 2 + 1) r (by omega) hr (by omega) (fun i x=>?_) b
    by_cases ei:i=(l + r) / 2
    ·subst ei
     exact e2
    ·exact O.tr _ _ _ (M.below (by omega)) (M.below (i:=(l + r) / 2) (by omega)) (M.below (by omega)) (hA _ _ (by omega) (by omega)) e2
theorem bub_at {p:Array Nat}{k l i:Nat}(hk:k < p.size)(hl:l<=k)(hi:i < p.size):(bubble p k (k - l)).getD i 0=if i=l then p.getD k 0 else if l < i/\i<=k then p.getD (i - 1) 0 else p.getD i 0:=by
 have e:=getElem?_bubble hk (k - l) (by omega) i
 rw [show k - (k - l)=l by omega,getD_at (p:=bubble p k (k - l)) (i:=i) (by rw [bubble_size]; exact hi),getD_at hk,getD_at hi] at e
 by_cases c1:i=l
 ·rw [if_pos c1] at e ⊢
  exact Option.some.inj e
 ·rw [if_neg c1] at e ⊢
  by_cases c2:l < i/\i<=k
  ·rw [if_pos c2,getD_at (p:=p) (i:=i - 1) (by omega)] at e
   rw [if_pos c2]
   exact Option.some.inj e
  ·rw [if_neg c2] at e ⊢
   exact Option.some.inj e
theorem Mix.bub {p:Array Nat}(M:Mix n p)(k d:Nat):Mix n (bubble p k d):=(Array.perm_iff_toList_perm.mp (bubble_perm p k d)).trans M
theorem bin_wp (O:Ord n lt)(S:Says n lt cmp s){G:Array Nat->Shared->Prop}(h:∀ p',Mix n p'->Asc lt p' n->G p' s):∀ (f:Nat) (p:Array Nat) (k:Nat),Mix n p->k + f=n->Asc lt p k->(kas_bin f p k).kasWp cmp G s
 | 0,p,k,M,hk,hA=>h p M (by rw [show n=k by omega]; exact hA)
 | f + 1,p,k,M,hk,hA=>by
  have hz:=M.size
  unfold kas_bin
  rw [KasT.kasWp_bind]
  refine place_wp O S M (by omega) hA (fun l hl a b=>?_) k 0 k (Nat.zero_le _) (Nat.le_refl _) (by omega) (fun i x=>absurd x (by omega)) (fun i x y=>absurd y (by omega))
  refine bin_wp O S h f _ (k + 1) (M.bub k (k - l)) (by omega) fun i j hij hj=>?_
  rw [bub_at (by omega) hl (by omega),bub_at (by omega) hl (by omega)]
  by_cases ci:i=l
  ·rw [if_pos ci,if_neg (by omega),if_pos ⟨by omega,by omega⟩]
   exact b (j - 1) (by omega) (by omega)
  ·rw [if_neg ci]
   by_cases cj:j=l
   ·rw [if_pos cj,if_neg (by omega)]
    exact a i (by omega)
   ·rw [if_neg cj]
    by_cases c2:l < j/\j<=k
    ·rw [if_pos c2]
     by_cases c3:l < i/\i<=k
     ·rw [if_pos c3]
      exact hA _ _ (by omega) (by omega)
     ·rw [if_neg c3]
      exact hA _ _ (by omega) (by omega)
    ·rw [if_neg c2]
     by_cases c3:l < i/\i<=k
     ·omega
     ·rw [if_neg c3]
      exact hA _ _ hij (by omega)
theorem sort_wp (O:Ord n lt)(S:Says n lt cmp s)(h2:2<=n){G:Array Nat->Shared->Prop}(h:∀ p',Mix n p'->Asc lt p' n->G p' s):(kas_sort n).kasWp cmp G s:=by
 unfold kas_sort
 rw [KasT.kasWp_bind]
 have M0:Mix n (List.toArray (List.range n)):=by
  show (List.toArray (List.range n)).toList.Perm _
  rw [List.toList_toArray]
 refine count_wp O S M0 h2 fun k p' a b M hA=>?_
 by_cases c:k < n
 ·show (if k < n then kas_bin (n - max k 1) p' (max k 1) else KasT.ret p').kasWp cmp G s
  rw [if_pos c]
  rw [show max k 1=k by omega]
  exact bin_wp O S h _ _ _ M (by omega) hA
 ·show (if k < n then kas_bin (n - max k 1) p' (max k 1) else KasT.ret p').kasWp cmp G s
  rw [if_neg c]
  exact h p' M (by rw [show n=k by omega]; exact hA)
end
end L2
namespace L2
open PySem PySem.Spec PyProof.Rows PySem.W
theorem pick_paired {α β:Type}{R:α->β->Prop}(da:α)(db:β){xs:List α}{ys:List β}(h:Paired R xs ys):∀ (q:List Nat),(∀ i ∈ q,i < xs.length)->Paired R (q.map fun i=>xs.getD i da) (q.map fun i=>ys.getD i db)
 | [],_=>.nil
 | i :: q,hq=>by
  refine .cons ?_ (pick_paired da db h q fun j hj=>hq j (List.mem_cons_of_mem _ hj))
  have hi:=hq i List.mem_cons_self
  clear hq
  induction h generalizing i with
  | nil=>exact absurd hi (by simp)
  | cons r t ih =>
   cases i with
   | zero=>exact r
   | succ i =>
    have:=ih i (by simpa using hi)
    simpa using this
theorem pick_range {α:Type}(d:α)(xs:List α):((List.range xs.length).map fun i=>xs.getD i d)=xs:=by
 refine List.ext_getElem (by simp) fun i h1 h2=>?_
 simp [h2]
theorem lt2_irr (p:Int × Int):lt2 p p=false:=by
 unfold lt2
 rw [if_pos rfl,decide_eq_false (by omega)]
theorem lt2_tot {p q:Int × Int}(h:p ≠ q):lt2 q p=!lt2 p q:=by
 unfold lt2
 obtain ⟨a,b⟩:=p
 obtain ⟨c,d⟩:=q
 simp only
 by_cases e:a=c
 ·subst e
  rw [if_pos rfl,if_pos rfl]
  have hb:b ≠ d:=fun z=>h (by rw [z])
  by_cases l:b < d
  ·rw [decide_eq_true l,decide_eq_false (by omega)]
   rfl
  ·rw [decide_eq_false l,decide_eq_true (by omega)]
   rfl
 ·rw [if_neg e,if_neg (fun z=>e z.symm)]
  by_cases l:a < c
  ·rw [decide_eq_true l,decide_eq_false (by omega)]
   rfl
  ·rw [decide_eq_false l,decide_eq_true (by omega)]
   rfl
theorem lt2_tr {p q r:Int × Int}(h1:lt2 p q=true)(h2:lt2 q r=true):lt2 p r=true:=by
 unfold lt2 at *
 obtain ⟨a,b⟩:=p
 obtain ⟨c,d⟩:=q
 obtain ⟨e,f⟩:=r
 simp only at *
 by_cases e1:a=c
 ·subst e1
  rw [if_pos rfl,decide_eq_true_eq] at h1
  by_cases e2:a=e
  ·subst e2
   rw [if_pos rfl,decide_eq_true_eq] at h2 ⊢
   omega
  ·rw [if_neg e2] at h2 ⊢
   exact h2
 ·rw [if_neg e1,decide_eq_true_eq] at h1
  by_cases e2:c=e
  ·subst e2
   rw [if_neg e1,decide_eq_true_eq]
   exact h1
  ·rw [if_neg e2,decide_eq_true_eq] at h2
   rw [if_neg (by omega),decide_eq_true_eq]
   omega
noncomputable def Up2 (ps:List (Int × Int)):Prop:=ps.Pairwise fun p q=>lt2 p q=true
section
variable {X:Cx}
theorem call_sorted2:CallR X (.builtin "sorted") (fun xs H Q=>∃ l us ps,xs=[.ref l]/\SqL X.K H l us/\Tup2 H us ps/\ps.Nodup/\us.length < 64 /\
  ∀ d us' ps',H d=none->Tup2 H us' ps'->ps'.Perm ps->Up2 ps'->Q (.ref d) (upd H d (.lst us'))):=by
 intro pins s σ H xs us' Q I r h
 obtain ⟨l,us,ps,rfl,hq,ht,hnd,h64,q⟩:=h
 obtain ⟨u,rfl,ru⟩:=vals1 r
 cases ru
 obtain ⟨its,rv,pl,hz⟩:=I.list hq
 have hl:=rv.length
 have hp:=Tup2.pairs I ht rv
 have hlp:its.length=ps.length:=Paired.length hp
 have at_:∀ {i:Nat},i < its.length->ps[i]?=some (ps.getD i (0,0)):=fun {i} hi=>by
  rw [List.getElem?_eq_getElem (by omega)]
  simp [List.getD,List.getElem?_eq_getElem (show i < ps.length by omega)]
 have O:Ord its.length (fun i j=>lt2 (ps.getD i (0,0)) (ps.getD j (0,0))):=by
  refine ⟨fun i j hi hj hij=>lt2_tot fun e=>hij ?_,fun i j k _ _ _ a b=>lt2_tr a b⟩
  have e1:=at_ hi
  have e2:=at_ hj
  rw [List.getElem?_eq_getElem (by omega)] at e1 e2
  exact (List.getElem_inj hnd).mp ((Option.some.inj e1).trans (e.trans (Option.some.inj e2).symm))
 refine srt_call (vs:=its) pl.isList (by omega) (fun p=>Mix its.length p/\Asc (fun i j=>lt2 (ps.getD i (0,0)) (ps.getD j (0,0))) p its.length) (fun h2=>⟨?_,fun i j hij hj=>absurd hij (by omega)⟩) (fun h2 s' kk=>?_) fun p h' c hps hg kk ha=>?_
 ·show (List.toArray (List.range its.length)).toList.Perm _
  rw [List.toList_toArray]
 ·have hp':=pairs_kept kk hp
  obtain ⟨fs,hk,hfl,hint⟩:=pairs_firsts hp'
  refine kat_kind (T:=.type "int") hk (by omega) (fun v hv=>?_) (by decide) ⟨rfl,sort_wp O (fun i j hi hj _ C hC=>?_) h2 fun p' M hA=>⟨rfl,M,hA⟩⟩
  ·obtain ⟨x,t,rfl⟩:=hint v hv
   exact Looks.of_pure rfl
  ·unfold kas_cmp
   rw [kas_item_eq,kas_item_eq]
   show wpAny _ _ (keyLt' (tuples' true) (its.getD i Value.none) (its.getD j Value.none)) C _ _
   exact pair_lt (pairs_get hp' (at_ hi)) (pairs_get hp' (at_ hj)) hC
 ·obtain ⟨M,hA⟩:=hg
  have hm:∀ i ∈ p.toList,i < its.length:=fun i hi=>List.mem_range.mp (M.mem_iff.mp hi)
  have hD:H (s.heap.objs.size + 1)=none:=I.hok.fresh (Nat.le_succ _)
  have rv':Vals (p.toList.map fun i=>us.getD i V.non) (p.toList.map fun i=>its.getD i Value.none):=pick_paired V.non Value.none rv p.toList fun i hi=>by rw [hl]; exact hm i hi
  have ht':Tup2 H (p.toList.map fun i=>us.getD i V.non) (p.toList.map fun i=>ps.getD i (0,0)):=pick_paired V.non (0,0) ht p.toList fun i hi=>by rw [hl]; exact hm i hi
  have hperm:(p.toList.map fun i=>ps.getD i (0,0)).Perm ps:=by
   have:=List.Perm.map (fun i=>ps.getD i (0,0)) M
   rw [hlp,pick_range] at this
   exact this
  have hup:Up2 (p.toList.map fun i=>ps.getD i (0,0)):=by
   unfold Up2
   rw [List.pairwise_iff_getElem]
   intro i j hi hj hij
   rw [List.length_map,Array.length_toList] at hi hj
   have:=hA i j hij (by omega)
   simp only [List.getElem_map,Array.getElem_toList]
   simpa [Array.getD,hi,hj] using this
  refine ⟨.ref (s.heap.objs.size + 1),upd H (s.heap.objs.size + 1) (.lst (p.toList.map fun i=>us.getD i V.non)),I.laid (t':=s.toks) kk (Nat.le_succ _) ⟨?_,_,c,rv',ha⟩,rfl,q _ _ _ hD ht' hperm hup⟩
  rw [List.length_map,Array.length_toList,hps]
  exact Nat.le_trans (show its.length<=64 by omega) (by decide)
end
end L2
namespace PySem.SeqAt
open L2 AutoSeq1 MeetsSeq MeetsSeq2 MeetsSeq3
noncomputable def RcLtAt (A:Around)(s:Shared)(y x:Value)(b:Bool):Prop:=∀ (prog:Program) (w:World) (E:Value->Shared->Prop) (Q:Value->Shared->Prop),Q (.bool b) s->wpAny (model prog w) A (richCompare .Lt y x) Q E s
theorem RcLtAt.int_int {A:Around}{s:Shared}(a:Int)(t:Tok)(b:Int)(u:Tok):RcLtAt A s (.int a t) (.int b u) (decide (a < b)):=fun prog w E Q h=>wpAny_lt_int h
theorem tuple_ltAt (l b:Addr)(x y x2 y2:Int)(t u t2 u2:Tok)(n n2:Nat)(dd dd2:Option Addr)(sl sl2:Array (Option Value)) :
  Meets (Builtin.«tuple.__lt__» ⟨[.ref l,.ref b],[]⟩)
   (fun _ R s=>s.heap.get? l=some { cls:=.type "tuple",dict:=dd,data:=.seq #[.int x t,.int y u] n,slots:=sl }/\s.heap.get? b=some { cls:=.type "tuple",dict:=dd2,data:=.seq #[.int x2 t2,.int y2 u2] n2,slots:=sl2 } /\
    R (.ok (.ret (.bool (lt2 (x,y) (x2,y2))))) s) :=
 .of_wp fun prog w A R s h=>by
  obtain ⟨hp1,g1,d1,tk1,os1⟩:=s
  obtain ⟨hL,hB,h⟩:=h
  have fT:=sub_tuple_tuple
  wp_walk using wpAny_loadPart' hL,wpAny_loadPart' hB
  refine EqAt.int_int x t x2 t2 prog w _ _ ?_
  unfold lt2 at h
  by_cases e:x=x2
  ·have e':(x == x2)=true:=by simpa using e
   rw [e']
   rw [if_pos e] at h
   wp_walk
   refine EqAt.int_int y u y2 u2 prog w _ _ ?_
   by_cases e2:y=y2
   ·have e2':(y == y2)=true:=by simpa using e2
    rw [e2']
    rw [decide_eq_false (by show ¬ y < y2; omega)] at h
    wp_walk
    exact ⟨_,rfl,h⟩
   ·have e2':(y == y2)=false:=by simpa using e2
    rw [e2']
    simp only [Bool.not_false,if_true]
    refine wpAny_bind (wpAny_rule (wpAny_bind (RcLtAt.int_int y u y2 u2 prog w _ _ ?_)))
    wp_walk
    exact ⟨_,rfl,h⟩
  ·have e':(x == x2)=false:=by simpa using e
   rw [e']
   rw [if_neg e] at h
   simp only [Bool.not_false,if_true]
   refine wpAny_bind (wpAny_rule (wpAny_bind (RcLtAt.int_int x t x2 t2 prog w _ _ ?_)))
   wp_walk
   exact ⟨_,rfl,h⟩
theorem list_ltAt (l b:Addr)(items items2:Array Value)(n n2:Nat)(dd dd2:Option Addr)(sl sl2:Array (Option Value))(x y:Value)(hx:items[0]?=some x)(hy:items2[0]?=some y)(r:Bool) :
  Meets (Builtin.«list.__lt__» ⟨[.ref l,.ref b],[]⟩)
   (fun A R s=>s.heap.get? l=some { cls:=.type "list",dict:=dd,data:=.seq items n,slots:=sl }/\s.heap.get? b=some { cls:=.type "list",dict:=dd2,data:=.seq items2 n2,slots:=sl2 } /\
    EqAt A.in1 s x y false/\RcLtAt A.in1 s x y r/\R (.ok (.ret (.bool r))) s):=by
 intro prog w A R s h
 obtain ⟨hp1,g1,d1,tk1,os1⟩:=s
 obtain ⟨hL,hB,he,hr,h⟩:=h
 have fL:=sub_list_list
 wp_walk using wpAny_loadPart' hL,wpAny_loadPart' hB
 refine ⟨plainId_quiet plain_eq_loop _,codeAny_builtin entry_eq_loop ?_⟩
 rw [Around.under_plainId (id:="list.__eq__.loop") plain_eq_loop]
 wp_walk using wpAny_loadPart' hL,wpAny_loadPart' hB
 have h0:items[Int.toNat 0]?=some x:=hx
 have h1:items2[Int.toNat 0]?=some y:=hy
 rw [h0,h1]
 refine wpAny_bind (he prog w _ _ ?_)
 simp only [Bool.false_eq_true,if_false]
 refine wpAny_bind (PyProof.Rows.listItems_at hL rfl (wpAny_bind (PyProof.Rows.listItems_at hB rfl ?_)))
 rw [h0,h1]
 exact wpAny_bind (hr prog w _ _ (wpAny_pure h))
theorem RcLtAt.pairs {A:Around}{s:Shared}{v v':Value}{p q:Int × Int}(hv:IntPair s.heap v p)(hv':IntPair s.heap v' q)(hu:A.units < cLine):RcLtAt A s v v' (lt2 p q):=fun prog w E Q h=>by
 obtain ⟨a,⟨cls,dd,data,sl⟩,n,t,u,rfl,e1,c1,d1⟩:=hv
 obtain ⟨a',⟨cls2,dd2,data2,sl2⟩,n',t',u',rfl,e1',c1',d1'⟩:=hv'
 simp only at c1 d1 c1' d1'
 subst c1 d1 c1' d1'
 exact richCompare_meets_room (op:=.Lt) ⟨_,e1,rfl⟩ ⟨_,e1',rfl⟩ F.slot_tuple_lt F.entry_tuple_lt (F.args_tuple_lt_2 _ _) (tuple_ltAt a a' p.1 p.2 q.1 q.2 t u t' u' n n' dd dd2 sl sl2)
  ⟨e1,e1',show Value.bool (lt2 p q) ≠ Value.notImplemented/\Q (.bool (lt2 p q)) s from ⟨(fun x=>nomatch x),h⟩⟩ hu
theorem intPair_reads {h:Heap}{v:Value}{p:Int × Int}(hv:IntPair h v p):∃ as,Reads h v (.tuple [.int p.1,.int p.2]) as:=by
 obtain ⟨a,o,n,t,u,rfl,e1,c1,d1⟩:=hv
 exact ⟨_,.tuple e1 c1 d1 (.cons (.int _ _) (.cons (.int _ _) .nil))⟩
theorem pairs_eqv (p q:Int × Int):PyData.eqv (.tuple [.int p.1,.int p.2]) (.tuple [.int q.1,.int q.2])=decide (p=q):=by
 obtain ⟨a,b⟩:=p
 obtain ⟨c,d⟩:=q
 show ((a == c) && ((b == d) && true))=_
 by_cases h1:a=c
 ·by_cases h2:b=d
  ·subst h1 h2
   simp
  ·simp [h2]
 ·simp [h1]
structure FirstPair (h:Heap)(v:Value)(p:Int × Int):Prop where
 ex:∃ a o xs n f,v=.ref a/\h.get? a=some o/\o.cls=.type "list"/\o.data=.seq xs n/\xs[0]?=some f/\IntPair h f p
theorem firsts_lt {prog:Program}{w:World}{A:Around}{E:Value->Shared->Prop}{s:Shared}{v v':Value}{p q:Int × Int}{C:Bool->Shared->Prop}(hv:FirstPair s.heap v p)(hv':FirstPair s.heap v' q)(hne:p ≠ q)(hu:A.units + 10 < cLine)(h:C (lt2 p q) s) :
  wpAny (model prog w) A (PyProof.Rows.keyLt' PyProof.Rows.oneType' v v') C E s:=by
 obtain ⟨a,⟨cls,dd,data,sl⟩,xs,n,f,rfl,e1,c1,d1,x1,p1⟩:=hv
 obtain ⟨a',⟨cls2,dd2,data2,sl2⟩,xs',n',f',rfl,e1',c1',d1',x1',p1'⟩:=hv'
 simp only at c1 d1 c1' d1'
 subst c1 d1 c1' d1'
 rw [PyProof.Rows.keyLt'_oneType,PyProof.Rows.oneLt'_eq]
 simp only [if_true]
 refine wpAny_bind (wpAny_cRoomFor (by omega) ?_)
 refine wpAny_bind (wpAny_callSpecialIfBound?_slot (T:="list") ⟨_,e1,rfl⟩ F.slot_list_lt ?_)
 refine call_meets F.slot_list_lt ⟨_,e1,rfl⟩ F.entry_list_lt (F.args_list_lt_2 _ _) (list_ltAt a a' xs xs' n n' dd dd2 sl sl2 f f' x1 x1' (lt2 p q)) ⟨e1,e1',?_,RcLtAt.pairs p1 p1' (by show A.units + 1 < cLine; omega),?_⟩
 ·obtain ⟨as,ra⟩:=intPair_reads p1
  obtain ⟨bs,rb⟩:=intPair_reads p1'
  have:=eqAt_reads _ _ A.in1 s _ _ as bs ra rb rfl rfl (by show A.units + 1 + min 1 1 < cLine; omega)
  rw [pairs_eqv,decide_eq_false hne] at this
  exact this
 ·exact wpAny_truthy_bool h
end PySem.SeqAt
namespace L2
open PySem PySem.Spec PyProof.Rows PySem.W PySem.SeqAt
noncomputable def Firsts (H:Hp):List V->List (Int × Int)->Prop:=Paired fun v p=>∃ a ws b,v=V.ref a/\H a=some (.lst (.ref b :: ws))/\H b=some (.tup [.int p.1,.int p.2])
section
variable {X:Cx}{pins:List (Addr × Obj)}{σ:St}{H:Hp}{s:Shared}
theorem Firsts.pairs (I:Inv X pins σ H s):∀ {us:List V} {ps:List (Int × Int)} {its:List Value},Firsts H us ps->Vals us its->Paired (FirstPair s.heap) its ps
 | _,_,_,.nil,r=>by
  cases r
  exact .nil
 | _,_,_,.cons ⟨a,ws,b,e,h,hb⟩ t,r=>by
  subst e
  cases r with
  | cons r1 r2 =>
   cases r1
   refine .cons ?_ (Firsts.pairs I t r2)
   obtain ⟨z,its,n,rv,hl,e⟩:=I.lstM h
   cases rv with
   | cons q1 q2 =>
    cases q1
    obtain ⟨items,rv2,tp,_⟩:=I.tuple (SqT.of hb)
    obtain ⟨u1,u2,rfl,⟨t1,rfl⟩,⟨t2,rfl⟩⟩:=vals2 rv2
    obtain ⟨ob,e1,c1,n2,d1⟩:=tp
    exact ⟨a,_,_,n,.ref b,rfl,e,rfl,rfl,rfl,⟨b,ob,n2,t1,t2,rfl,e1,c1,d1⟩⟩
end
theorem firsts_kept {h h':Heap}(k:∀ b o,h.get? b=some o->h'.get? b=some o):∀ {its:List Value} {ps:List (Int × Int)},Paired (FirstPair h) its ps->Paired (FirstPair h') its ps
 | _,_,.nil=>.nil
 | _,_,.cons ⟨a,o,xs,n,f,e,e1,c,d,x,⟨b,ob,m,t,u,eb,e2,r⟩⟩ tl=>.cons ⟨a,o,xs,n,f,e,k _ _ e1,c,d,x,⟨b,ob,m,t,u,eb,k _ _ e2,r⟩⟩ (firsts_kept k tl)
theorem firsts_get {h:Heap}:∀ {its:List Value} {ps:List (Int × Int)} {i:Nat} {p:Int × Int},Paired (FirstPair h) its ps->ps[i]?=some p->FirstPair h (its.getD i Value.none) p
 | _,_,_,_,.nil,e=>by simp at e
 | _,_,0,_,.cons r _,e=>by
  simp at e
  subst e
  exact r
 | _,_,i + 1,p,.cons _ t,e=>by
  have:=firsts_get (i:=i) (p:=p) t (by simpa using e)
  simpa using this
theorem firsts_list {h:Heap}:∀ {its:List Value} {ps:List (Int × Int)},Paired (FirstPair h) its ps->∀ v ∈ its,∃ a o,v=Value.ref a/\h.get? a=some o/\o.cls=.type "list"
 | _,_,.nil,_,hv=>nomatch hv
 | _,_,.cons ⟨a,o,xs,n,f,e,e1,c,d,_⟩ tl,v,hv=>by
  rcases List.mem_cons.mp hv with rfl | hv
  ·exact ⟨a,o,e,e1,c⟩
  ·exact firsts_list tl v hv
section
variable {X:Cx}
theorem call_sortedL (hu:X.A.units + 64 < cLine):CallR X (.builtin "sorted") (fun xs H Q=>∃ l us ps,xs=[.ref l]/\SqL X.K H l us/\Firsts H us ps/\ps.Nodup/\us.length < 64 /\
  ∀ d (is:List Nat),H d=none->is.Perm (List.range us.length)->Up2 (is.map fun i=>ps.getD i (0,0))->Q (.ref d) (upd H d (.lst (is.map fun i=>us.getD i .non)))):=by
 intro pins s σ H xs us' Q I r h
 obtain ⟨l,us,ps,rfl,hq,ht,hnd,h64,q⟩:=h
 obtain ⟨u,rfl,ru⟩:=vals1 r
 cases ru
 obtain ⟨its,rv,pl,hz⟩:=I.list hq
 have hl:=rv.length
 have hp:=Firsts.pairs I ht rv
 have hlp:its.length=ps.length:=Paired.length hp
 have at_:∀ {i:Nat},i < its.length->ps[i]?=some (ps.getD i (0,0)):=fun {i} hi=>by
  rw [List.getElem?_eq_getElem (by omega)]
  simp [List.getD,List.getElem?_eq_getElem (show i < ps.length by omega)]
 have inj:∀ i j,i < its.length->j < its.length->i ≠ j->ps.getD i (0,0) ≠ ps.getD j (0,0):=fun i j hi hj hij e=>hij (by
  have e1:=at_ hi
  have e2:=at_ hj
  rw [List.getElem?_eq_getElem (by omega)] at e1 e2
  exact (List.getElem_inj hnd).mp ((Option.some.inj e1).trans (e.trans (Option.some.inj e2).symm)))
 have O:Ord its.length (fun i j=>lt2 (ps.getD i (0,0)) (ps.getD j (0,0))):=⟨fun i j hi hj hij=>lt2_tot (inj i j hi hj hij),fun i j k _ _ _ a b=>lt2_tr a b⟩
 refine srt_call (vs:=its) pl.isList (by omega) (fun p=>Mix its.length p/\Asc (fun i j=>lt2 (ps.getD i (0,0)) (ps.getD j (0,0))) p its.length) (fun h2=>⟨?_,fun i j hij hj=>absurd hij (by omega)⟩) (fun h2 s' kk=>?_) fun p h' c hps hg kk ha=>?_
 ·show (List.toArray (List.range its.length)).toList.Perm _
  rw [List.toList_toArray]
 ·have hp':=firsts_kept kk hp
  refine kas_kind (T:=.type "list") h2 (fun v hv=>?_) (by decide) (by decide) ⟨rfl,sort_wp O (fun i j hi hj hij C hC=>?_) h2 fun p' M hA=>⟨rfl,M,hA⟩⟩
  ·obtain ⟨a,o,rfl,e1,c1⟩:=firsts_list hp' v hv
   exact c1 ▸ (Looks.ld e1).andThen .now
  ·unfold kas_cmp
   rw [kas_item_eq,kas_item_eq]
   show wpAny _ _ (keyLt' oneType' (its.getD i Value.none) (its.getD j Value.none)) C _ _
   exact firsts_lt (firsts_get hp' (at_ hi)) (firsts_get hp' (at_ hj)) (inj i j hi hj hij) (by show X.A.units + 1 + 1 + 10 < cLine; omega) hC
 ·obtain ⟨M,hA⟩:=hg
  have hm:∀ i ∈ p.toList,i < its.length:=fun i hi=>List.mem_range.mp (M.mem_iff.mp hi)
  have hD:H (s.heap.objs.size + 1)=none:=I.hok.fresh (Nat.le_succ _)
  have rv':Vals (p.toList.map fun i=>us.getD i V.non) (p.toList.map fun i=>its.getD i Value.none):=pick_paired V.non Value.none rv p.toList fun i hi=>by rw [hl]; exact hm i hi
  have hup:Up2 (p.toList.map fun i=>ps.getD i (0,0)):=by
   unfold Up2
   rw [List.pairwise_iff_getElem]
   intro i j hi hj hij
   rw [List.length_map,Array.length_toList] at hi hj
   have:=hA i j hij (by omega)
   simp only [List.getElem_map,Array.getElem_toList]
   simpa [Array.getD,hi,hj] using this
  refine ⟨.ref (s.heap.objs.size + 1),upd H (s.heap.objs.size + 1) (.lst (p.toList.map fun i=>us.getD i V.non)),I.laid (t':=s.toks) kk (Nat.le_succ _) ⟨?_,_,c,rv',ha⟩,rfl,q _ p.toList hD (by rw [hl]; exact M) hup⟩
  rw [List.length_map,Array.length_toList,hps]
  exact Nat.le_trans (show its.length<=64 by omega) (by decide)
end
end L2
namespace L2
open PySem PySem.Spec PyProof.Rows PySem.W
namespace ST
theorem perm_map {α β:Type}(f:α->β){l l':List β}(h:l.Perm l'):∀ ks:List α,l'=ks.map f->∃ js:List α,js.Perm ks/\l=js.map f:=by
 induction h with
 | nil=>exact fun ks e=>⟨ks,List.Perm.refl _,e⟩
 | cons x h ih =>
  intro ks e
  cases ks with
  | nil=>simp at e
  | cons k ks =>
   rw [List.map_cons] at e
   injection e with e1 e2
   obtain ⟨js,h1,h2⟩:=ih ks e2
   exact ⟨k :: js,h1.cons k,by rw [List.map_cons,e1,h2]⟩
 | swap x y l =>
  intro ks e
  match ks,e with
  | [],e=>simp at e
  | [k],e=>simp at e
  | k1 :: k2 :: ks,e =>
   rw [List.map_cons,List.map_cons] at e
   injection e with e1 e2
   injection e2 with e2 e3
   exact ⟨k2 :: k1 :: ks,List.Perm.swap k1 k2 ks,by rw [List.map_cons,List.map_cons,e1,e2,e3]⟩
 | trans h1 h2 ih1 ih2 =>
  intro ks e
  obtain ⟨js,a,b⟩:=ih2 ks e
  obtain ⟨is,c,d⟩:=ih1 js b
  exact ⟨is,c.trans a,d⟩
section
variable {X:Cx}
end
end ST
end L2
namespace L2
open PySem PySem.Spec PyProof.Rows PySem.W
namespace GS
section
variable {prog:Program}{w:World}{A:Around}{E:Value->Shared->Prop}{s:Shared}{rk:Keyed->Int}{κ:SortKind}{a0:Array Keyed}
noncomputable def Rk (rk:Keyed->Int)(xs:Array Keyed)(i:Nat):Int:=match xs[i]? with
 | some p=>rk p
 | none=>0
theorem Rk_congr {xs ys:Array Keyed}{i j:Nat}(h:xs[i]?=ys[j]?):Rk rk xs i=Rk rk ys j:=by
 unfold Rk
 rw [h]
noncomputable def Up (rk:Keyed->Int)(xs:Array Keyed)(lo hi:Nat):Prop:=∀ i j,lo<=i->i<=j->j < hi->Rk rk xs i<=Rk rk xs j
noncomputable def Tells (prog:Program)(w:World)(A:Around)(s:Shared)(κ:SortKind)(rk:Keyed->Int)(a0:Array Keyed):Prop :=
 ∀ x ∈ a0.toList,∀ y ∈ a0.toList,∀ C:Bool->Shared->Prop,C (decide (rk x < rk y)) s->wpAny (model prog w) A (keyLt' κ x.1 y.1) C (fun _ _=>False) s
structure Ok (κ:SortKind)(a0:Array Keyed)(st:SortSt):Prop where
 perm:(arrOf st).Perm a0
 kind:kindOf st=κ
 good:failedOf st=none
theorem Ok.size {st:SortSt}(h:Ok κ a0 st):(arrOf st).size=a0.size:=h.perm.size_eq
theorem Ok.at {st:SortSt}(h:Ok κ a0 st){i:Nat}(hi:i < a0.size):∃ x,(arrOf st)[i]?=some x/\x ∈ a0.toList/\Rk rk (arrOf st) i=rk x:=by
 have hi':i < (arrOf st).size:=by rw [h.size]; exact hi
 have e:(arrOf st)[i]?=some (arrOf st)[i]:=getElem?_pos _ i hi'
 refine ⟨(arrOf st)[i],e,(Array.perm_iff_toList_perm.mp h.perm).mem_iff.mp (by simp),?_⟩
 unfold Rk
 rw [e]
theorem s_lt {st:SortSt}{x y:Keyed}{Q:Option Bool->SortSt->Prop}(T:Tells prog w A s κ rk a0)(hk:kindOf st=κ)(hx:x ∈ a0.toList)(hy:y ∈ a0.toList)(h:Q (some (decide (rk x < rk y))) st):wpS (model prog w) A E s (lt' x y) Q st:=by
 rw [lt'_eq]
 refine wpS_bind (wpS_get ?_)
 rw [hk]
 refine wpS_bind (wpS_lift (wpAny_attempt (wpAny_mono (T x hx y hy (fun b s'=>s'=s/\b=decide (rk x < rk y)) ⟨rfl,rfl⟩) (fun b s' hb=>⟨hb.1,?_⟩) fun _ _ hF=>hF.elim)))
 rw [hb.2]
 exact wpS_pure h
theorem s_elem {st:SortSt}{xs:Array Keyed}{i:Nat}{x:Keyed}{Q:Keyed->SortSt->Prop}(e:xs[i]?=some x)(h:Q x st):wpS (model prog w) A E s (elem' xs i) Q st:=by
 rw [elem'_eq,e]
 exact wpS_pure h
theorem s_ltAt {st:SortSt}{i j:Nat}{Q:Option Bool->SortSt->Prop}(T:Tells prog w A s κ rk a0)(O:Ok κ a0 st)(hi:i < a0.size)(hj:j < a0.size)(h:Q (some (decide (Rk rk (arrOf st) i < Rk rk (arrOf st) j))) st):wpS (model prog w) A E s (ltAt' i j) Q st:=by
 obtain ⟨x,e1,m1,r1⟩:=O.at (rk:=rk) hi
 obtain ⟨y,e2,m2,r2⟩:=O.at (rk:=rk) hj
 rw [r1,r2] at h
 rw [ltAt'_eq]
 refine wpS_bind (wpS_get ?_)
 exact wpS_bind (s_elem e1 (wpS_bind (s_elem e2 (s_lt T O.kind m1 m2 h))))
structure Step (κ:SortKind)(a0:Array Keyed)(lo:Nat)(st st':SortSt):Prop where
 ok:Ok κ a0 st'
 pend:pendingOf st'=pendingOf st
 low:∀ i:Nat,i < lo->(arrOf st')[i]?=(arrOf st)[i]?
theorem Step.refl {lo:Nat}{st:SortSt}(O:Ok κ a0 st):Step κ a0 lo st st:=⟨O,rfl,fun _ _=>rfl⟩
theorem Rk_mirror {xs:Array Keyed}{i j:Nat}(hj:j<=xs.size)(k:Nat):Rk rk (mirror xs i j ((j - i) / 2)) k=if i<=k/\k < j then Rk rk xs (i + j - 1 - k) else Rk rk xs k:=by
 have e:=getElem?_mirror_all (i:=i) hj k
 by_cases h1:i<=k/\k < j
 ·rw [if_pos h1] at e ⊢
  exact Rk_congr e
 ·rw [if_neg h1] at e ⊢
  exact Rk_congr e
theorem Rk_mirror_same {xs:Array Keyed}{i j:Nat}(hj:j<=xs.size)(heq:∀ k,i<=k->k < j->Rk rk xs k=Rk rk xs (j - 1))(k:Nat):Rk rk (mirror xs i j ((j - i) / 2)) k=Rk rk xs k:=by
 rw [Rk_mirror hj]
 split
 ·rw [heq _ (by omega) (by omega),heq k (by omega) (by omega)]
 ·rfl
theorem Step.mirror {lo i j:Nat}{st st':SortSt}(x:Step κ a0 lo st st')(hi:lo<=i)(hj:j<=a0.size):Step κ a0 lo st (setArr st' (mirror (arrOf st') i j ((j - i) / 2))):=by
 refine ⟨⟨(mirror_perm _ _ _ _).trans x.ok.perm,x.ok.kind,x.ok.good⟩,x.pend,fun k hk=>?_⟩
 show (PyProof.Rows.mirror (arrOf st') i j ((j - i) / 2))[k]?=_
 rw [getElem?_mirror_all (by rw [x.ok.size]; exact hj),if_neg (by omega)]
 exact x.low k hk
theorem s_rev {st:SortSt}{i j:Nat}{Q:Unit->SortSt->Prop}(h:Q () (setArr st (mirror (arrOf st) i j ((j - i) / 2)))):wpS (model prog w) A E s (reverseSlice' i j) Q st:=by
 rw [reverseSlice'_eq]
 exact wpS_modify h
noncomputable def up1 (lo a nrem:Nat):StateT SortSt Sem AscSt :=
 forIn [a:nrem] ((none,a):AscSt) fun _ c=>do
  let x <- ltAt' (lo + c.snd) (lo + c.snd - 1)
  match x with
  | some b=>if b=true then pure (ForInStep.done (none,c.snd)) else pure (ForInStep.yield (none,c.snd + 1))
  | _=>pure (ForInStep.done (some none,c.snd))
noncomputable def end3 (lo n nrem:Nat):StateT SortSt Sem (Option Nat):=do
 reverseSlice' lo (lo + n)
 let c <- up1 lo n nrem
 match c.fst with
 | some r=>pure r
 | none=>pure (some c.snd)
noncomputable def down1 (lo n nrem:Nat):StateT SortSt Sem DescSt :=
 forIn [n:nrem] ((none,n,0):DescSt) fun _ c=>do
  let x <- ltAt' (lo + c.snd.fst) (lo + c.snd.fst - 1)
  match x with
  | some b =>
   if b=true then
    if c.snd.snd > 0 then do
     reverseSlice' (lo + c.snd.fst - (c.snd.snd + 1)) (lo + c.snd.fst)
     pure (ForInStep.yield (none,c.snd.fst + 1,0))
    else pure (ForInStep.yield (none,c.snd.fst + 1,0))
   else do
    let x <- ltAt' (lo + c.snd.fst - 1) (lo + c.snd.fst)
    match x with
    | some b =>
     if b=true then pure (ForInStep.done (none,c.snd.fst,c.snd.snd))
     else pure (ForInStep.yield (none,c.snd.fst + 1,c.snd.snd + 1))
    | _=>pure (ForInStep.done (some none,c.snd.fst,c.snd.snd))
  | _=>pure (ForInStep.done (some none,c.snd.fst,c.snd.snd))
noncomputable def part2 (lo n nrem:Nat):StateT SortSt Sem (Option Nat):=do
 liftM (rule "list.sort.descending-run")
 let c <- down1 lo (n + 1) nrem
 match c.fst with
 | some r=>pure r
 | none =>
  if c.snd.snd > 0 then do
   reverseSlice' (lo + c.snd.fst - (c.snd.snd + 1)) (lo + c.snd.fst)
   end3 lo c.snd.fst nrem
  else end3 lo c.snd.fst nrem
theorem run_eq (lo nrem:Nat):countRun' lo nrem=(do
  let c <- up1 lo 1 nrem
  match c.fst with
  | some r=>pure r
  | none =>
   if (c.snd == nrem)=true then pure (some c.snd)
   else if c.snd > 1 then do
    let x <- ltAt' lo (lo + c.snd - 1)
    match x with
    | some b=>if b=true then pure (some c.snd) else do
      reverseSlice' lo (lo + c.snd)
      part2 lo c.snd nrem
    | _=>pure none
   else part2 lo c.snd nrem):=by
 rw [countRun'_eq]
 unfold part2 end3 down1 up1
 refine bind_congr fun c=>?_
 obtain ⟨r,n⟩:=c
 cases r with
 | some r=>rfl
 | none =>
  dsimp only
  split
  ·rfl
  ·split
   ·refine bind_congr fun x=>?_
    cases x with
    | none=>rfl
    | some b =>
     dsimp only
     split
     ·rfl
     ·refine bind_congr fun _=>bind_congr fun _=>bind_congr fun c2=>?_
      obtain ⟨r2,n2,q2⟩:=c2
      cases r2 with
      | some r2=>rfl
      | none =>
       dsimp only
       split
       ·refine bind_congr fun _=>bind_congr fun _=>bind_congr fun c3=>?_
        obtain ⟨r3,n3⟩:=c3
        cases r3 <;> rfl
       ·refine bind_congr fun _=>bind_congr fun c3=>?_
        obtain ⟨r3,n3⟩:=c3
        cases r3 <;> rfl
   ·refine bind_congr fun _=>bind_congr fun c2=>?_
    obtain ⟨r2,n2,q2⟩:=c2
    cases r2 with
    | some r2=>rfl
    | none =>
     dsimp only
     split
     ·refine bind_congr fun _=>bind_congr fun _=>bind_congr fun c3=>?_
      obtain ⟨r3,n3⟩:=c3
      cases r3 <;> rfl
     ·refine bind_congr fun _=>bind_congr fun c3=>?_
      obtain ⟨r3,n3⟩:=c3
      cases r3 <;> rfl
end
end GS
end L2
namespace L2
open PySem PySem.Spec PyProof.Rows PySem.W
namespace GS
section
variable {prog:Program}{w:World}{A:Around}{E:Value->Shared->Prop}{s:Shared}{rk:Keyed->Int}{κ:SortKind}{a0:Array Keyed}
noncomputable def Down (rk:Keyed->Int)(xs:Array Keyed)(lo n:Nat):Prop:=∀ i j,i<=j->j < n->Rk rk xs (lo + j)<=Rk rk xs (lo + i)
theorem s_up1 {st:SortSt}{lo a nrem:Nat}{Q:AscSt->SortSt->Prop}(T:Tells prog w A s κ rk a0)(O:Ok κ a0 st)(hn:lo + nrem<=a0.size)(ha:1<=a)(han:a<=nrem)(hs:Up rk (arrOf st) lo (lo + a))
  (h:∀ n,a<=n->n<=nrem->Up rk (arrOf st) lo (lo + n)->(n=nrem\/Rk rk (arrOf st) (lo + n) < Rk rk (arrOf st) (lo + n - 1))->Q (none,n) st):wpS (model prog w) A E s (up1 lo a nrem) Q st:=by
 unfold up1
 refine wpS_forRange (I:=fun x c st'=>st'=st/\c=(none,x)/\Up rk (arrOf st) lo (lo + x)) ?step ?fin ⟨rfl,rfl,hs⟩
 case fin =>
  rintro c st' ⟨rfl,rfl,hs'⟩
  rw [show max a nrem=nrem by omega] at hs' ⊢
  exact h nrem han (Nat.le_refl _) hs' (.inl rfl)
 case step =>
  rintro x c st' hax hxn ⟨rfl,rfl,hs'⟩
  dsimp only
  refine wpS_bind (s_ltAt T O (by omega) (by omega) ?_)
  by_cases hless:Rk rk (arrOf st') (lo + x) < Rk rk (arrOf st') (lo + x - 1)
  ·simp only [hless,decide_true,if_true]
   exact wpS_pure (h x hax (by omega) hs' (.inr hless))
  ·simp only [hless,decide_false,Bool.false_eq_true,if_false]
   refine wpS_pure ⟨rfl,rfl,fun i j hi hij hj=>?_⟩
   by_cases hjx:j < lo + x
   ·exact hs' i j hi hij hjx
   ·obtain rfl:j=lo + x:=by omega
    by_cases hi':i=lo + x
    ·subst hi'
     exact Int.le_refl _
    ·exact Int.le_trans (hs' i (lo + x - 1) hi (by omega) (by omega)) (Int.not_lt.mp hless)
theorem s_end3 {st0 st:SortSt}{lo n nrem:Nat}{Q:Option Nat->SortSt->Prop}(T:Tells prog w A s κ rk a0)(S:Step κ a0 lo st0 st)(hn:lo + nrem<=a0.size)(h1:1<=n)(hnn:n<=nrem)(hs:Down rk (arrOf st) lo n)
  (h:∀ m st',Step κ a0 lo st0 st'->1<=m->m<=nrem->Up rk (arrOf st') lo (lo + m)->Q (some m) st'):wpS (model prog w) A E s (end3 lo n nrem) Q st:=by
 unfold end3
 refine wpS_bind (s_rev ?_)
 have S':=S.mirror (i:=lo) (j:=lo + n) (Nat.le_refl _) (by omega)
 refine wpS_bind (s_up1 T S'.ok hn h1 hnn ?_ fun m hm1 hm2 hsm _=>wpS_pure (h m _ S' (by omega) hm2 hsm))
 intro i j hi hij hj
 have hsz:lo + n<=(arrOf st).size:=by
  rw [S.ok.size]
  omega
 show Rk rk (mirror (arrOf st) lo (lo + n) ((lo + n - lo) / 2)) i<=Rk rk (mirror (arrOf st) lo (lo + n) ((lo + n - lo) / 2)) j
 rw [Rk_mirror hsz,Rk_mirror hsz,if_pos (by omega),if_pos (by omega)]
 have:=hs (lo + n - 1 - j) (lo + n - 1 - i) (by omega) (by omega)
 rw [show lo + (lo + n - 1 - j)=lo + (lo + n) - 1 - j by omega,show lo + (lo + n - 1 - i)=lo + (lo + n) - 1 - i by omega] at this
 exact this
theorem s_down1 {st0 st:SortSt}{lo n nrem:Nat}{Q:DescSt->SortSt->Prop}(T:Tells prog w A s κ rk a0)(S:Step κ a0 lo st0 st)(hn:lo + nrem<=a0.size)(h1:1<=n)(hnn:n<=nrem)(hs:Down rk (arrOf st) lo n)
  (h:∀ m q st',Step κ a0 lo st0 st'->n<=m->m<=nrem->Down rk (arrOf st') lo m->q + 1<=m->(∀ i,m - (q + 1)<=i->i < m->Rk rk (arrOf st') (lo + i)=Rk rk (arrOf st') (lo + (m - 1)))->Q (none,m,q) st'):wpS (model prog w) A E s (down1 lo n nrem) Q st:=by
 unfold down1
 refine wpS_forRange (I:=fun x c st'=>∃ q,c=(none,x,q)/\Step κ a0 lo st0 st'/\Down rk (arrOf st') lo x/\q + 1<=x /\
   (∀ i,x - (q + 1)<=i->i < x->Rk rk (arrOf st') (lo + i)=Rk rk (arrOf st') (lo + (x - 1)))) ?step ?fin ⟨0,rfl,S,hs,by omega,fun i h1 h2=>by congr 1; omega⟩
 case fin =>
  rintro c st' ⟨q,rfl,S',hs',hq,he⟩
  rw [show max n nrem=nrem by omega] at hs' hq he ⊢
  exact h nrem q st' S' hnn (Nat.le_refl _) hs' hq he
 case step =>
  rintro x c st' hax hxn ⟨q,rfl,S',hs',hq,he⟩
  dsimp only
  have hsz:lo + x<=(arrOf st').size:=by
   rw [S'.ok.size]
   omega
  refine wpS_bind (s_ltAt T S'.ok (by omega) (by omega) ?_)
  by_cases hless:Rk rk (arrOf st') (lo + x) < Rk rk (arrOf st') (lo + x - 1)
  ·simp only [hless,decide_true,if_true]
   have step1:∀ xs:Array Keyed,(∀ k,Rk rk xs k=Rk rk (arrOf st') k)->Down rk xs lo (x + 1):=by
    intro xs hk i j hij hj
    rw [hk,hk]
    by_cases hjx:j < x
    ·exact hs' i j hij hjx
    ·obtain rfl:j=x:=by omega
     by_cases hi':i=j
     ·subst hi'
      exact Int.le_refl _
     ·have a1:=hs' i (j - 1) (by omega) (by omega)
      rw [show lo + (j - 1)=lo + j - 1 by omega] at a1
      exact Int.le_trans (Int.le_of_lt hless) a1
   by_cases hq0:q > 0
   ·rw [if_pos hq0]
    refine wpS_bind (s_rev (wpS_pure ⟨0,rfl,S'.mirror (by omega) (by omega),step1 _ (Rk_mirror_same hsz fun k k1 k2=>?_),by omega,fun i h1 h2=>by congr 1; omega⟩))
    have a1:=he (k - lo) (by omega) (by omega)
    rw [show lo + (k - lo)=k by omega,show lo + (x - 1)=lo + x - 1 by omega] at a1
    exact a1
   ·rw [if_neg hq0]
    exact wpS_pure ⟨0,rfl,S',step1 _ (fun _=>rfl),by omega,fun i h1 h2=>by congr 1; omega⟩
  ·simp only [hless,decide_false,Bool.false_eq_true,if_false]
   refine wpS_bind (s_ltAt T S'.ok (by omega) (by omega) ?_)
   by_cases hmore:Rk rk (arrOf st') (lo + x - 1) < Rk rk (arrOf st') (lo + x)
   ·simp only [hmore,decide_true,if_true]
    exact wpS_pure (h x q st' S' hax (by omega) hs' hq he)
   ·simp only [hmore,decide_false,Bool.false_eq_true,if_false]
    have heqx:Rk rk (arrOf st') (lo + x)=Rk rk (arrOf st') (lo + (x - 1)):=by
     rw [show lo + (x - 1)=lo + x - 1 by omega]
     omega
    refine wpS_pure ⟨q + 1,rfl,S',fun i j hij hj=>?_,by omega,fun i h1 h2=>?_⟩
    ·by_cases hjx:j < x
     ·exact hs' i j hij hjx
     ·obtain rfl:j=x:=by omega
      by_cases hi':i=j
      ·subst hi'
       exact Int.le_refl _
      ·rw [heqx]
       exact hs' i (j - 1) (by omega) (by omega)
    ·rw [show x + 1 - 1=x by omega]
     by_cases hix:i=x
     ·subst hix
      rfl
     ·rw [heqx]
      exact he i (by omega) (by omega)
theorem s_part2 {st0 st:SortSt}{lo n nrem:Nat}{Q:Option Nat->SortSt->Prop}(T:Tells prog w A s κ rk a0)(S:Step κ a0 lo st0 st)(hn:lo + nrem<=a0.size)(hnn:n + 1<=nrem)(hs:Down rk (arrOf st) lo (n + 1))
  (h:∀ m st',Step κ a0 lo st0 st'->1<=m->m<=nrem->Up rk (arrOf st') lo (lo + m)->Q (some m) st'):wpS (model prog w) A E s (part2 lo n nrem) Q st:=by
 unfold part2
 refine wpS_bind (wpS_lift (wpAny_rule ⟨rfl,?_⟩))
 refine wpS_bind (s_down1 T S hn (by omega) hnn hs fun m q st' S' hm1 hm2 hs' hq he=>?_)
 dsimp only
 have hsz:lo + m<=(arrOf st').size:=by
  rw [S'.ok.size]
  omega
 by_cases hq0:q > 0
 ·rw [if_pos hq0]
  refine wpS_bind (s_rev (s_end3 T (S'.mirror (by omega) (by omega)) hn (by omega) hm2 ?_ h))
  intro i j hij hj
  show Rk rk (mirror (arrOf st') _ _ _) (lo + j)<=Rk rk (mirror (arrOf st') _ _ _) (lo + i)
  have same:∀ k,lo + m - (q + 1)<=k->k < lo + m->Rk rk (arrOf st') k=Rk rk (arrOf st') (lo + m - 1):=fun k k1 k2=>by
   have a1:=he (k - lo) (by omega) (by omega)
   rw [show lo + (k - lo)=k by omega,show lo + (m - 1)=lo + m - 1 by omega] at a1
   exact a1
  rw [Rk_mirror_same hsz same,Rk_mirror_same hsz same]
  exact hs' i j hij hj
 ·rw [if_neg hq0]
  exact s_end3 T S' hn (by omega) hm2 hs' h
theorem s_run {st:SortSt}{lo nrem:Nat}{Q:Option Nat->SortSt->Prop}(T:Tells prog w A s κ rk a0)(O:Ok κ a0 st)(hn:lo + nrem<=a0.size)(h1:1<=nrem)
  (h:∀ m st',Step κ a0 lo st st'->1<=m->m<=nrem->Up rk (arrOf st') lo (lo + m)->Q (some m) st'):wpS (model prog w) A E s (countRun' lo nrem) Q st:=by
 have S:=Step.refl (lo:=lo) O
 rw [run_eq]
 refine wpS_bind (s_up1 T O hn (Nat.le_refl 1) h1 (fun i j hi hij hj=>by
  obtain rfl:i=j:=by omega
  exact Int.le_refl _) fun n hn1 hn2 hsn hor=>?_)
 dsimp only
 by_cases hnn:n=nrem
 ·rw [if_pos (by simpa using hnn)]
  exact wpS_pure (h n st S hn1 hn2 hsn)
 ·rw [if_neg (by simpa using hnn)]
  have hlt:Rk rk (arrOf st) (lo + n) < Rk rk (arrOf st) (lo + n - 1):=hor.resolve_left hnn
  have hsz:lo + n<=(arrOf st).size:=by
   rw [O.size]
   omega
  by_cases hgt:n > 1
  ·rw [if_pos hgt]
   refine wpS_bind (s_ltAt T O (by omega) (by omega) ?_)
   by_cases hrose:Rk rk (arrOf st) lo < Rk rk (arrOf st) (lo + n - 1)
   ·simp only [hrose,decide_true,if_true]
    exact wpS_pure (h n st S hn1 hn2 hsn)
   ·simp only [hrose,decide_false,Bool.false_eq_true,if_false]
    have hall:∀ k,lo<=k->k < lo + n->Rk rk (arrOf st) k=Rk rk (arrOf st) (lo + n - 1):=by
     intro k k1 k2
     have a1:=hsn lo k (Nat.le_refl _) k1 k2
     have a2:=hsn k (lo + n - 1) k1 (by omega) (by omega)
     omega
    refine wpS_bind (s_rev (s_part2 T (S.mirror (Nat.le_refl _) (by omega)) hn (by omega) ?_ h))
    intro i j hij hj
    show Rk rk (mirror (arrOf st) _ _ _) (lo + j)<=Rk rk (mirror (arrOf st) _ _ _) (lo + i)
    rw [Rk_mirror_same hsz hall,Rk_mirror_same hsz hall]
    by_cases hjn:j < n
    ·rw [hall (lo + i) (by omega) (by omega),hall (lo + j) (by omega) (by omega)]
     exact Int.le_refl _
    ·obtain rfl:j=n:=by omega
     by_cases hi':i=j
     ·subst hi'
      exact Int.le_refl _
     ·rw [hall (lo + i) (by omega) (by omega)]
      exact Int.le_of_lt hlt
  ·rw [if_neg hgt]
   obtain rfl:n=1:=by omega
   refine s_part2 T S hn (by omega) ?_ h
   intro i j hij hj
   by_cases hi':i=j
   ·subst hi'
    exact Int.le_refl _
   ·obtain rfl:i=0:=by omega
    obtain rfl:j=1:=by omega
    rw [Nat.add_sub_cancel] at hlt
    exact Int.le_of_lt hlt
theorem Rk_bubble {xs:Array Keyed}{src d:Nat}(hs:src < xs.size)(hd:d<=src)(k:Nat):Rk rk (bubble xs src d) k=if k=src - d then Rk rk xs src else if src - d < k/\k<=src then Rk rk xs (k - 1) else Rk rk xs k:=by
 have e:=getElem?_bubble hs d hd k
 by_cases h1:k=src - d
 ·rw [if_pos h1] at e ⊢
  exact Rk_congr e
 ·rw [if_neg h1] at e ⊢
  by_cases h2:src - d < k/\k<=src
  ·rw [if_pos h2] at e ⊢
   exact Rk_congr e
  ·rw [if_neg h2] at e ⊢
   exact Rk_congr e
theorem s_bin {st:SortSt}{lo n ok:Nat}{Q:Bool->SortSt->Prop}(T:Tells prog w A s κ rk a0)(O:Ok κ a0 st)(hn:lo + n<=a0.size)(hok:ok<=n)(hs:Up rk (arrOf st) lo (lo + ok))
  (h:∀ st',Step κ a0 lo st st'->Up rk (arrOf st') lo (lo + n)->Q true st'):wpS (model prog w) A E s (binarySort' lo n ok) Q st:=by
 rw [binarySort'_eq]
 refine wpS_bind (wpS_mono (wpS_forRange (I:=fun k c st'=>c=(none,())/\Step κ a0 lo st st'/\Up rk (arrOf st') lo (lo + min k n))
  (Q:=fun c st'=>c=(none,())/\Step κ a0 lo st st'/\Up rk (arrOf st') lo (lo + n)) ?step ?fin ?init) ?post)
 case post =>
  rintro c st' ⟨rfl,S',hs'⟩
  exact wpS_pure (h st' S' hs')
 case init =>
  refine ⟨rfl,Step.refl O,fun i j hi hij hj=>?_⟩
  by_cases h1:ok=0
  ·obtain rfl:i=j:=by omega
   exact Int.le_refl _
  ·exact hs i j hi hij (by omega)
 case fin =>
  rintro c st' ⟨hc,S',hs'⟩
  refine ⟨hc,S',?_⟩
  rwa [show min (max (max ok 1) n) n=n by omega] at hs'
 case step =>
  rintro k c st' hak hkn ⟨rfl,S',hs'⟩
  rw [show min k n=k by omega] at hs'
  have O':=S'.ok
  have hk:lo + k < a0.size:=by omega
  refine wpS_bind (wpS_mono (wpS_forRange (I:=fun x c st''=>st''=st'/\∃ l r,c=(none,l,r)/\l<=r/\r<=k/\r - l<=k - x /\
    (∀ i,i < l->Rk rk (arrOf st') (lo + i)<=Rk rk (arrOf st') (lo + k))/\(∀ i,r<=i->i < k->Rk rk (arrOf st') (lo + k) < Rk rk (arrOf st') (lo + i)))
   (Q:=fun c st''=>st''=st'/\∃ l r,c=(none,l,r)/\l<=k /\
    (∀ i,i < l->Rk rk (arrOf st') (lo + i)<=Rk rk (arrOf st') (lo + k))/\(∀ i,l<=i->i < k->Rk rk (arrOf st') (lo + k) < Rk rk (arrOf st') (lo + i))) ?istep ?ifin ?iinit) ?ipost)
  case iinit=>exact ⟨rfl,0,k,rfl,by omega,by omega,by omega,fun i hi=>by omega,fun i h1 h2=>by omega⟩
  case ifin =>
   rintro c st'' ⟨rfl,l,r,rfl,hlr,hrk,hm,hlo,hhi⟩
   obtain rfl:l=r:=by omega
   exact ⟨rfl,l,l,rfl,hrk,hlo,hhi⟩
  case istep =>
   rintro x c st'' _ hxk ⟨rfl,l,r,rfl,hlr,hrk,hm,hlo,hhi⟩
   dsimp only
   by_cases hge:l >= r
   ·rw [if_pos hge]
    obtain rfl:l=r:=by omega
    exact wpS_pure ⟨rfl,l,l,rfl,hrk,hlo,hhi⟩
   ·rw [if_neg hge]
    refine wpS_bind (s_ltAt T O' hk (by omega) ?_)
    by_cases hless:Rk rk (arrOf st'') (lo + k) < Rk rk (arrOf st'') (lo + (l + r) / 2)
    ·simp only [hless,decide_true,if_true]
     refine wpS_pure ⟨rfl,l,(l + r) / 2,rfl,by omega,by omega,by omega,hlo,fun i h1 h2=>?_⟩
     exact Int.lt_of_lt_of_le hless (hs' _ _ (by omega) (by omega) (by omega))
    ·simp only [hless,decide_false,Bool.false_eq_true,if_false]
     refine wpS_pure ⟨rfl,(l + r) / 2 + 1,r,rfl,by omega,by omega,by omega,fun i h1=>?_,hhi⟩
     exact Int.le_trans (hs' (lo + i) (lo + (l + r) / 2) (by omega) (by omega) (by omega)) (Int.not_lt.mp hless)
  case ipost =>
   rintro c st'' ⟨rfl,l,r,rfl,hlk,hlo,hhi⟩
   show wpS _ _ _ _ (do moveDown' (lo + k) (lo + l); pure (ForInStep.yield (none,()))) _ _
   rw [moveDown'_eq]
   have hks:lo + k < (arrOf st'').size:=by
    rw [O'.size]
    exact hk
   refine wpS_bind (wpS_modify (wpS_pure ⟨rfl,⟨⟨(bubble_perm _ _ _).trans O'.perm,O'.kind,O'.good⟩,S'.pend,fun i hi=>?_⟩,?_⟩))
   ·show (bubble (arrOf st'') (lo + k) (lo + k - (lo + l)))[i]?=_
    rw [getElem?_bubble hks _ (by omega),if_neg (by omega),if_neg (by omega)]
    exact S'.low i hi
   ·rw [show min (k + 1) n=k + 1 by omega]
    intro i j hi hij hj
    show Rk rk (bubble (arrOf st'') (lo + k) (lo + k - (lo + l))) i<=Rk rk (bubble (arrOf st'') (lo + k) (lo + k - (lo + l))) j
    rw [Rk_bubble hks (by omega),Rk_bubble hks (by omega),show lo + k - (lo + k - (lo + l))=lo + l by omega]
    have up:∀ a b,lo<=a->a<=b->b < lo + k->Rk rk (arrOf st'') a<=Rk rk (arrOf st'') b:=hs'
    have low:∀ a,lo<=a->a < lo + l->Rk rk (arrOf st'') a<=Rk rk (arrOf st'') (lo + k):=fun a a1 a2=>by
     have:=hlo (a - lo) (by omega)
     rwa [show lo + (a - lo)=a by omega] at this
    have high:∀ a,lo + l<=a->a < lo + k->Rk rk (arrOf st'') (lo + k) < Rk rk (arrOf st'') a:=fun a a1 a2=>by
     have:=hhi (a - lo) (by omega) (by omega)
     rwa [show lo + (a - lo)=a by omega] at this
    repeat' split
    all_goals first
     | (exfalso; omega)
     | exact Int.le_refl _
     | exact low _ (by omega) (by omega)
     | exact Int.le_of_lt (high _ (by omega) (by omega))
     | exact up _ _ (by omega) (by omega) (by omega)
end
end GS
end L2
namespace L2
open PySem PySem.Spec PyProof.Rows PySem.W
namespace GS
noncomputable def gallop':Bool->Keyed->Array Keyed->Nat->Nat->Nat->StateT SortSt Sem (Option Nat):=sortPriv% PySem.Builtin.gallop
noncomputable def mergeLo':Array Keyed->Array Keyed->StateT SortSt Sem (Array Keyed):=sortPriv% PySem.Builtin.mergeLo
noncomputable def mergeHi':Array Keyed->Array Keyed->StateT SortSt Sem (Array Keyed):=sortPriv% PySem.Builtin.mergeHi
section
variable {prog:Program}{w:World}{A:Around}{E:Value->Shared->Prop}{s:Shared}{rk:Keyed->Int}{κ:SortKind}{a0:Array Keyed}
noncomputable def bey (rk:Keyed->Int)(left:Bool)(key x:Keyed):Bool:=if left then decide (rk x < rk key) else !decide (rk key < rk x)
theorem s_gallop {st:SortSt}{left:Bool}{key:Keyed}{arr:Array Keyed}{base n hint:Nat}{Q:Option Nat->SortSt->Prop}(T:Tells prog w A s κ rk a0)(hk:kindOf st=κ)(hkey:key ∈ a0.toList)(b:Nat->Bool)
  (he:∀ i,i < n->∃ x,arr[base + i]?=some x/\x ∈ a0.toList/\b i=bey rk left key x) (mono:∀ i j,i<=j->j < n->b j=true->b i=true) (hh:hint < n)
  (h:∀ k,k<=n->(∀ i,i < k->b i=true)->(∀ i,k<=i->i < n->b i=false)->Q (some k) st):wpS (model prog w) A E s (gallop' left key arr base n hint) Q st:=by
 have one:∀ {i:Nat} {Q':Option Bool->SortSt->Prop},i < n->Q' (some (b i)) st->wpS (model prog w) A E s (do
   let x <- elem' arr (base + i)
   if left=true then lt' x key
    else do
     let r <- lt' key x
     pure (Option.map (fun x=>!x) r)) Q' st:=by
  intro i Q' hi hq
  obtain ⟨x,e1,e2,e3⟩:=he i hi
  refine wpS_bind (s_elem e1 ?_)
  unfold bey at e3
  cases left with
  | true =>
   rw [if_pos rfl] at e3 ⊢
   rw [e3] at hq
   exact s_lt T hk e2 hkey hq
  | false =>
   rw [if_neg Bool.false_ne_true] at e3 ⊢
   rw [e3] at hq
   exact wpS_bind (s_lt T hk hkey e2 (wpS_pure hq))
 have last:∀ {f:Nat->Option (Option Nat) × Nat × Nat->StateT SortSt Sem (ForInStep (Option (Option Nat) × Nat × Nat))} {g:Option (Option Nat) × Nat × Nat->StateT SortSt Sem (Option Nat)},
   (∀ x l r (R:ForInStep (Option (Option Nat) × Nat × Nat)->SortSt->Prop),l >= r->R (.done (none,l,r)) st->wpS (model prog w) A E s (f x (none,l,r)) R st) ->
   (∀ x l r (R:ForInStep (Option (Option Nat) × Nat × Nat)->SortSt->Prop),l < r->r<=n->R (.yield (if b (l + (r - l) / 2)=true then (none,l + (r - l) / 2 + 1,r) else (none,l,l + (r - l) / 2))) st->wpS (model prog w) A E s (f x (none,l,r)) R st) ->
   (∀ l r,Q (some r) st->wpS (model prog w) A E s (g (none,l,r)) Q st) ->
   ∀ (lo hi:Nat),lo<=hi->hi<=n->(∀ i,i < lo->b i=true)->(∀ i,hi<=i->i < n->b i=false)->wpS (model prog w) A E s (forIn [:n] ((none,lo,hi):Option (Option Nat) × Nat × Nat) f >>= g) Q st:=by
  intro f g f1 f2 g1 lo hi h1 h2 h3 h4
  refine wpS_bind (wpS_mono (wpS_forRange (I:=fun x c st'=>st'=st/\∃ l r,c=(none,l,r)/\l<=r/\r<=n/\r - l<=n - x/\(∀ i,i < l->b i=true)/\(∀ i,r<=i->i < n->b i=false))
   (Q:=fun c st'=>st'=st/\∃ l,c=(none,l,l)/\l<=n/\(∀ i,i < l->b i=true)/\(∀ i,l<=i->i < n->b i=false)) ?step ?fin ⟨rfl,lo,hi,rfl,h1,h2,by omega,h3,h4⟩) ?post)
  case fin =>
   rintro c st' ⟨rfl,l,r,rfl,a1,a2,a3,a4,a5⟩
   obtain rfl:l=r:=by omega
   exact ⟨rfl,l,rfl,a2,a4,a5⟩
  case post =>
   rintro c st' ⟨rfl,l,rfl,a2,a4,a5⟩
   exact g1 l l (h l a2 a4 a5)
  case step =>
   rintro x c st' _ hx ⟨rfl,l,r,rfl,a1,a2,a3,a4,a5⟩
   by_cases hge:l >= r
   ·obtain rfl:l=r:=by omega
    exact f1 x l l _ hge ⟨rfl,l,rfl,a2,a4,a5⟩
   ·refine f2 x l r _ (by omega) a2 ?_
    cases hb:b (l + (r - l) / 2) with
    | true =>
     rw [if_pos rfl]
     exact ⟨rfl,l + (r - l) / 2 + 1,r,rfl,by omega,a2,by omega,fun i hi=>mono i _ (by omega) (by omega) hb,a5⟩
    | false =>
     rw [if_neg Bool.false_ne_true]
     refine ⟨rfl,l,l + (r - l) / 2,rfl,by omega,by omega,by omega,a4,fun i i1 i2=>?_⟩
     cases hbi:b i with
     | false=>rfl
     | true =>
      have:=mono _ i i1 i2 hbi
      rw [hb] at this
      cases this
 refine wpS_bind (one hh ?_)
 dsimp only
 cases hb:b hint with
 | true =>
  rw [if_pos rfl]
  refine wpS_bind (wpS_mono (wpS_forRange (I:=fun x c st'=>st'=st/\∃ l o,c=(none,l,o)/\l < o/\hint + l < n/\b (hint + l)=true/\x + 1<=o)
   (Q:=fun c st'=>st'=st/\∃ l o,c=(none,l,o)/\l < o/\hint + l < n/\b (hint + l)=true/\(o >= n - hint\/(hint + o < n/\b (hint + o)=false))) ?step ?fin ⟨rfl,0,1,rfl,by omega,hh,hb,by omega⟩) ?post)
  case fin =>
   rintro c st' ⟨rfl,l,o,rfl,a1,a2,a3,a4⟩
   exact ⟨rfl,l,o,rfl,a1,a2,a3,.inl (by omega)⟩
  case step =>
   rintro x c st' _ hx ⟨rfl,l,o,rfl,a1,a2,a3,a4⟩
   dsimp only
   by_cases hge:o >= n - hint
   ·rw [if_pos hge]
    exact wpS_pure ⟨rfl,l,o,rfl,a1,a2,a3,.inl hge⟩
   ·rw [if_neg hge]
    refine wpS_bind (one (by omega) ?_)
    dsimp only
    cases hbo:b (hint + o) with
    | false =>
     rw [if_pos (by decide)]
     exact wpS_pure ⟨rfl,l,o,rfl,a1,a2,a3,.inr ⟨by omega,hbo⟩⟩
    | true =>
     rw [if_neg (by decide)]
     exact wpS_pure ⟨rfl,o,2 * o + 1,rfl,by omega,by omega,hbo,by omega⟩
  case post =>
   rintro c st' ⟨rfl,l,o,rfl,a1,a2,a3,a4⟩
   refine last (fun x l r R hge hR=>?_) (fun x l r R hlt hr hR=>?_) (fun l r hq=>wpS_pure hq) (hint + l + 1) (hint + min o (n - hint)) (by omega) (by omega) (fun i hi=>mono i (hint + l) (by omega) a2 a3) fun i i1 i2=>?_
   ·dsimp only
    rw [if_pos hge]
    exact wpS_pure hR
   ·dsimp only
    rw [if_neg (by omega)]
    refine wpS_bind (one (by omega) ?_)
    dsimp only
    cases hbm:b (l + (r - l) / 2) with
    | true =>
     rw [hbm,if_pos rfl] at hR
     rw [if_pos rfl]
     exact wpS_pure hR
    | false =>
     rw [hbm,if_neg Bool.false_ne_true] at hR
     rw [if_neg Bool.false_ne_true]
     exact wpS_pure hR
   ·rcases a4 with a4 | ⟨a4,a5⟩
    ·omega
    ·cases hbi:b i with
     | false=>rfl
     | true =>
      have:=mono _ i (show hint + o<=i by omega) i2 hbi
      rw [a5] at this
      cases this
 | false =>
  rw [if_neg Bool.false_ne_true]
  refine wpS_bind (wpS_mono (wpS_forRange (I:=fun x c st'=>st'=st/\∃ l o,c=(none,l,o)/\l < o/\l<=hint/\b (hint - l)=false/\x + 1<=o)
   (Q:=fun c st'=>st'=st/\∃ l o,c=(none,l,o)/\l < o/\l<=hint/\b (hint - l)=false/\(o >= hint + 1\/(o<=hint/\b (hint - o)=true))) ?step ?fin ⟨rfl,0,1,rfl,by omega,by omega,hb,by omega⟩) ?post)
  case fin =>
   rintro c st' ⟨rfl,l,o,rfl,a1,a2,a3,a4⟩
   exact ⟨rfl,l,o,rfl,a1,a2,a3,.inl (by omega)⟩
  case step =>
   rintro x c st' _ hx ⟨rfl,l,o,rfl,a1,a2,a3,a4⟩
   dsimp only
   by_cases hge:o >= hint + 1
   ·rw [if_pos hge]
    exact wpS_pure ⟨rfl,l,o,rfl,a1,a2,a3,.inl hge⟩
   ·rw [if_neg hge]
    refine wpS_bind (one (by omega) ?_)
    dsimp only
    cases hbo:b (hint - o) with
    | true =>
     rw [if_pos rfl]
     exact wpS_pure ⟨rfl,l,o,rfl,a1,a2,a3,.inr ⟨by omega,hbo⟩⟩
    | false =>
     rw [if_neg (by decide)]
     exact wpS_pure ⟨rfl,o,2 * o + 1,rfl,by omega,by omega,hbo,by omega⟩
  case post =>
   rintro c st' ⟨rfl,l,o,rfl,a1,a2,a3,a4⟩
   refine last (fun x l r R hge hR=>?_) (fun x l r R hlt hr hR=>?_) (fun l r hq=>wpS_pure hq) (hint + 1 - min o (hint + 1)) (hint - l) (by omega) (by omega) (fun i hi=>?_) fun i i1 i2=>?_
   ·dsimp only
    rw [if_pos hge]
    exact wpS_pure hR
   ·dsimp only
    rw [if_neg (by omega)]
    refine wpS_bind (one (by omega) ?_)
    dsimp only
    cases hbm:b (l + (r - l) / 2) with
    | true =>
     rw [hbm,if_pos rfl] at hR
     rw [if_pos rfl]
     exact wpS_pure hR
    | false =>
     rw [hbm,if_neg Bool.false_ne_true] at hR
     rw [if_neg Bool.false_ne_true]
     exact wpS_pure hR
   ·rcases a4 with a4 | ⟨a4,a5⟩
    ·omega
    ·exact mono i (hint - o) (by omega) (by omega) a5
   ·cases hbi:b i with
    | false=>rfl
    | true =>
     have:=mono _ i i1 i2 hbi
     rw [a3] at this
     cases this
end
end GS
end L2
namespace L2
open PySem PySem.Spec PyProof.Rows PySem.W
namespace GS
structure MI (rk:Keyed->Int)(aL bL:List Keyed)(ia ib:Nat)(oL:List Keyed):Prop where
 perm:oL.Perm (aL.take ia++bL.take ib)
 srt:oL.Pairwise fun x y=>rk x<=rk y
 la:∀ x ∈ oL,∀ y ∈ aL.drop ia,rk x<=rk y
 lb:∀ x ∈ oL,∀ y ∈ bL.drop ib,rk x<=rk y
section
variable {rk:Keyed->Int}{aL bL oL:List Keyed}{ia ib:Nat}
theorem MI.swap (M:MI rk aL bL ia ib oL):MI rk bL aL ib ia oL:=⟨M.perm.trans List.perm_append_comm,M.srt,M.lb,M.la⟩
theorem take_more (l:List Keyed)(i k:Nat):l.take (i + k)=l.take i++(l.drop i).take k:=by
 rw [List.take_add]
theorem MI.takeA (M:MI rk aL bL ia ib oL)(sa:aL.Pairwise fun x y=>rk x<=rk y)(k:Nat)(h:∀ x ∈ (aL.drop ia).take k,∀ y ∈ bL.drop ib,rk x<=rk y):MI rk aL bL (ia + k) ib (oL++(aL.drop ia).take k):=by
 have sd:(aL.drop ia).Pairwise fun x y=>rk x<=rk y:=sa.sublist (List.drop_sublist _ _)
 have e2:(aL.drop ia).drop k=aL.drop (ia + k):=List.drop_drop
 refine ⟨?_,?_,fun x hx y hy=>?_,fun x hx y hy=>?_⟩
 ·rw [take_more,List.append_assoc]
  refine (M.perm.append_right _).trans ?_
  rw [List.append_assoc]
  exact List.Perm.append_left _ List.perm_append_comm
 ·rw [List.pairwise_append]
  exact ⟨M.srt,sd.sublist (List.take_sublist _ _),fun x hx y hy=>M.la x hx y (List.mem_of_mem_take hy)⟩
 ·rw [<- e2] at hy
  rcases List.mem_append.mp hx with hx | hx
  ·exact M.la x hx y (List.mem_of_mem_drop hy)
  ·have:=sd
   rw [<- List.take_append_drop k (aL.drop ia),List.pairwise_append] at this
   exact this.2.2 x hx y hy
 ·rcases List.mem_append.mp hx with hx | hx
  ·exact M.lb x hx y hy
  ·exact h x hx y hy
theorem MI.takeB (M:MI rk aL bL ia ib oL)(sb:bL.Pairwise fun x y=>rk x<=rk y)(k:Nat)(h:∀ x ∈ (bL.drop ib).take k,∀ y ∈ aL.drop ia,rk x<=rk y):MI rk aL bL ia (ib + k) (oL++(bL.drop ib).take k):=(M.swap.takeA sb k h).swap
noncomputable def Mg (rk:Keyed->Int)(aL bL oL:List Keyed):Prop:=oL.Perm (aL++bL)/\oL.Pairwise fun x y=>rk x<=rk y
theorem MI.all (M:MI rk aL bL ia ib oL)(ha:aL.length<=ia)(hb:bL.length<=ib):Mg rk aL bL oL:=by
 have:=M.perm
 rw [List.take_of_length_le ha,List.take_of_length_le hb] at this
 exact ⟨this,M.srt⟩
theorem MI.doneB (M:MI rk aL bL ia ib oL)(sa:aL.Pairwise fun x y=>rk x<=rk y)(hb:bL.length<=ib):Mg rk aL bL (oL++aL.drop ia):=by
 have:=M.takeA sa (aL.drop ia).length (fun x _ y hy=>by
  rw [List.drop_eq_nil_of_le hb] at hy
  cases hy)
 rw [List.take_length] at this
 exact this.all (by rw [List.length_drop]; omega) hb
theorem MI.lastA (M:MI rk aL bL ia ib oL)(sa:aL.Pairwise fun x y=>rk x<=rk y)(sb:bL.Pairwise fun x y=>rk x<=rk y)(h:∀ x ∈ bL,∀ y ∈ aL.drop ia,rk x<=rk y):Mg rk aL bL (oL++bL.drop ib++aL.drop ia):=by
 have M2:=M.takeB sb (bL.drop ib).length (fun x hx y hy=>h x (List.mem_of_mem_drop (List.mem_of_mem_take hx)) y hy)
 rw [List.take_length] at M2
 exact M2.doneB sa (by rw [List.length_drop]; omega)
theorem ext_toList (a:Array Keyed)(i j:Nat)(hj:i<=j):(a.extract i j).toList=(a.toList.drop i).take (j - i):=by
 rw [Array.toList_extract,List.extract_eq_take_drop]
theorem ext_end (a:Array Keyed)(i:Nat):(a.extract i a.size).toList=a.toList.drop i:=by
 rw [Array.toList_extract,List.extract_eq_take_drop,List.take_of_length_le]
 rw [List.length_drop,Array.length_toList]
 exact Nat.le_refl _
theorem one_at {a:Array Keyed}{i:Nat}{x:Keyed}(h:a[i]?=some x):(a.toList.drop i).take 1=[x]:=by
 have hi:i < a.toList.length:=by
  rw [Array.length_toList]
  exact (Array.getElem?_eq_some_iff.mp h).1
 rw [List.drop_eq_getElem_cons hi,List.take_succ_cons,List.take_zero]
 have:a.toList[i]?=some x:=by rw [Array.getElem?_toList]; exact h
 rw [List.getElem?_eq_getElem hi] at this
 rw [Option.some.inj this]
end
section
variable {prog:Program}{w:World}{A:Around}{E:Value->Shared->Prop}{s:Shared}{rk:Keyed->Int}{κ:SortKind}{a0:Array Keyed}
structure Kept (st st':SortSt):Prop where
 arr:arrOf st'=arrOf st
 kind:kindOf st'=kindOf st
 pend:pendingOf st'=pendingOf st
 bad:failedOf st'=failedOf st
noncomputable def setG':Nat->StateT SortSt Sem Unit:=sortPriv% PySem.Builtin.setMinGallop
theorem Kept.refl (st:SortSt):Kept st st:=⟨rfl,rfl,rfl,rfl⟩
theorem s_setG {st0 st:SortSt}{g:Nat}{Q:Unit->SortSt->Prop}(k:Kept st0 st)(h:∀ st',Kept st0 st'->Q () st'):wpS (model prog w) A E s (setG' g) Q st:=by
 have e:setG' g=modify fun c=>SortSt.mk' (kindOf c) (arrOf c) (pendingOf c) g (failedOf c):=rfl
 rw [e]
 exact wpS_modify (h _ ⟨k.arr,k.kind,k.pend,k.bad⟩)
theorem s_ite {α:Type}{c:Prop} [Decidable c]{x y:StateT SortSt Sem α}{Q:α->SortSt->Prop}{st:SortSt}(h1:c->wpS (model prog w) A E s x Q st)(h2:¬ c->wpS (model prog w) A E s y Q st):wpS (model prog w) A E s (if c then x else y) Q st:=by
 by_cases hc:c
 ·rw [if_pos hc]
  exact h1 hc
 ·rw [if_neg hc]
  exact h2 hc
theorem get_at {a:Array Keyed}{i:Nat}(h:i < a.size):∃ x,a[i]?=some x/\x ∈ a.toList:=⟨a[i],getElem?_pos a i h,by simp⟩
theorem head_le {a:Array Keyed}(sa:a.toList.Pairwise fun x y=>rk x<=rk y){i:Nat}{x:Keyed}(e:a[i]?=some x):∀ y ∈ a.toList.drop i,rk x<=rk y:=by
 have hi:i < a.toList.length:=by
  rw [Array.length_toList]
  exact (Array.getElem?_eq_some_iff.mp e).1
 have e':a.toList[i]?=some x:=by rw [Array.getElem?_toList]; exact e
 rw [List.getElem?_eq_getElem hi] at e'
 have ex:=Option.some.inj e'
 have sd:=sa.sublist (List.drop_sublist i a.toList)
 rw [List.drop_eq_getElem_cons hi,ex,List.pairwise_cons] at sd
 rw [List.drop_eq_getElem_cons hi,ex]
 intro y hy
 rcases List.mem_cons.mp hy with rfl | hy
 ·exact Int.le_refl _
 ·exact sd.1 y hy
theorem done_arr {a b out:Array Keyed}{ia ib:Nat}(M:MI rk a.toList b.toList ia ib out.toList)(sa:a.toList.Pairwise fun x y=>rk x<=rk y)(hb:b.size<=ib):Mg rk a.toList b.toList (out++a.extract ia a.size++b.extract ib b.size).toList:=by
 rw [Array.toList_append,Array.toList_append,ext_end,ext_end,List.drop_eq_nil_of_le (as:=b.toList) (by rw [Array.length_toList]; exact hb),List.append_nil]
 exact M.doneB sa (by rw [Array.length_toList]; exact hb)
theorem last_arr {a b out:Array Keyed}{ia ib:Nat}(M:MI rk a.toList b.toList ia ib out.toList)(sa:a.toList.Pairwise fun x y=>rk x<=rk y)(sb:b.toList.Pairwise fun x y=>rk x<=rk y)(hl:∀ x ∈ b.toList,∀ y,a[a.size - 1]?=some y->rk x<=rk y)(ha:ia + 1=a.size):Mg rk a.toList b.toList (out++b.extract ib b.size++a.extract ia a.size).toList:=by
 rw [Array.toList_append,Array.toList_append,ext_end,ext_end]
 refine M.lastA sa sb fun x hx y hy=>?_
 have hi:ia < a.toList.length:=by rw [Array.length_toList]; omega
 rw [List.drop_eq_getElem_cons hi,List.drop_eq_nil_of_le (by rw [Array.length_toList]; omega)] at hy
 have ey:y=a.toList[ia]:=by simpa using hy
 refine hl x hx y ?_
 rw [show a.size - 1=ia by omega,<- Array.getElem?_toList,List.getElem?_eq_getElem hi,ey]
theorem push_list (out:Array Keyed)(x:Keyed):(out.push x).toList=out.toList++[x]:=Array.toList_push ..
theorem MI.oneB {a b out:Array Keyed}{ia ib:Nat}{x:Keyed}(M:MI rk a.toList b.toList ia ib out.toList)(sb:b.toList.Pairwise fun x y=>rk x<=rk y)(e:b[ib]?=some x)(h:∀ y ∈ a.toList.drop ia,rk x<=rk y):MI rk a.toList b.toList ia (ib + 1) (out.push x).toList:=by
 rw [push_list,<- one_at e]
 refine M.takeB sb 1 fun z hz y hy=>?_
 rw [one_at e] at hz
 have ez:z=x:=by simpa using hz
 rw [ez]
 exact h y hy
theorem MI.oneA {a b out:Array Keyed}{ia ib:Nat}{x:Keyed}(M:MI rk a.toList b.toList ia ib out.toList)(sa:a.toList.Pairwise fun x y=>rk x<=rk y)(e:a[ia]?=some x)(h:∀ y ∈ b.toList.drop ib,rk x<=rk y):MI rk a.toList b.toList (ia + 1) ib (out.push x).toList:=(MI.oneB M.swap sa e h).swap
theorem MI.someA {a b out:Array Keyed}{ia ib k:Nat}{y:Keyed}(M:MI rk a.toList b.toList ia ib out.toList)(sa:a.toList.Pairwise fun x y=>rk x<=rk y)(sb:b.toList.Pairwise fun x y=>rk x<=rk y)(e:b[ib]?=some y)(h:∀ i x,i < k->a[ia + i]?=some x->rk x<=rk y):MI rk a.toList b.toList (ia + k) ib (out++a.extract ia (ia + k)).toList:=by
 rw [Array.toList_append,ext_toList _ _ _ (Nat.le_add_right _ _),Nat.add_sub_cancel_left]
 refine M.takeA sa k fun x hx z hz=>Int.le_trans ?_ (head_le sb e z hz)
 obtain ⟨i,hi,ex⟩:=List.getElem_of_mem hx
 have hik:i < k:=by
  rw [List.length_take] at hi
  omega
 refine h i x hik ?_
 have:((a.toList.drop ia).take k)[i]?=some x:=by rw [List.getElem?_eq_getElem hi,ex]
 rw [List.getElem?_take,if_pos hik,List.getElem?_drop,Array.getElem?_toList] at this
 exact this
theorem MI.someB {a b out:Array Keyed}{ia ib k:Nat}{y:Keyed}(M:MI rk a.toList b.toList ia ib out.toList)(sa:a.toList.Pairwise fun x y=>rk x<=rk y)(sb:b.toList.Pairwise fun x y=>rk x<=rk y)(e:a[ia]?=some y)(h:∀ i x,i < k->b[ib + i]?=some x->rk x<=rk y):MI rk a.toList b.toList ia (ib + k) (out++b.extract ib (ib + k)).toList:=(MI.someA M.swap sb sa e h).swap
end
end GS
end L2
namespace L2
open PySem PySem.Spec PyProof.Rows PySem.W
namespace GS
section
variable {prog:Program}{w:World}{A:Around}{E:Value->Shared->Prop}{s:Shared}{rk:Keyed->Int}{κ:SortKind}{a0:Array Keyed}
theorem s_gallopR {st:SortSt}{key:Keyed}{a:Array Keyed}{base n hint:Nat}{Q:Option Nat->SortSt->Prop}(T:Tells prog w A s κ rk a0)(hk:kindOf st=κ)(hkey:key ∈ a0.toList)(ma:∀ x ∈ a.toList,x ∈ a0.toList)(up:∀ i j x y,base<=i->i<=j->j < base + n->a[i]?=some x->a[j]?=some y->rk x<=rk y)(hn:base + n<=a.size)(hh:hint < n)
  (h:∀ k,k<=n->(∀ i x,i < k->a[base + i]?=some x->rk x<=rk key)->(∀ i x,k<=i->i < n->a[base + i]?=some x->rk key < rk x)->Q (some k) st):wpS (model prog w) A E s (gallop' false key a base n hint) Q st:=by
 have he:∀ i,i < n->∃ x,a[base + i]?=some x/\x ∈ a.toList:=fun i hi=>get_at (by omega)
 refine s_gallop T hk hkey (fun i=>match a[base + i]? with | some x=>bey rk false key x | none=>false) (fun i hi=>?_) (fun i j hij hj hb=>?_) hh fun k hk1 h1 h2=>h k hk1 (fun i x hi e=>?_) fun i x hi1 hi2 e=>?_
 ·obtain ⟨x,e,m⟩:=he i hi
  refine ⟨x,e,ma x m,?_⟩
  try dsimp only
  rw [e]
 ·obtain ⟨x,ex,_⟩:=he i (by omega)
  obtain ⟨y,ey,_⟩:=he j hj
  try dsimp only at hb ⊢
  rw [ey] at hb
  rw [ex]
  have:=up (base + i) (base + j) x y (by omega) (by omega) (by omega) ex ey
  unfold bey at hb ⊢
  simp only [Bool.false_eq_true,if_false,Bool.not_eq_true',decide_eq_false_iff_not] at hb ⊢
  omega
 ·have:=h1 i hi
  try dsimp only at this
  rw [e] at this
  unfold bey at this
  simp only [Bool.false_eq_true,if_false,Bool.not_eq_true',decide_eq_false_iff_not] at this
  omega
 ·have:=h2 i hi1 hi2
  try dsimp only at this
  rw [e] at this
  unfold bey at this
  simp only [Bool.false_eq_true,if_false,Bool.not_eq_false',decide_eq_true_eq] at this
  exact this
theorem s_gallopL {st:SortSt}{key:Keyed}{a:Array Keyed}{base n hint:Nat}{Q:Option Nat->SortSt->Prop}(T:Tells prog w A s κ rk a0)(hk:kindOf st=κ)(hkey:key ∈ a0.toList)(ma:∀ x ∈ a.toList,x ∈ a0.toList)(up:∀ i j x y,base<=i->i<=j->j < base + n->a[i]?=some x->a[j]?=some y->rk x<=rk y)(hn:base + n<=a.size)(hh:hint < n)
  (h:∀ k,k<=n->(∀ i x,i < k->a[base + i]?=some x->rk x < rk key)->(∀ i x,k<=i->i < n->a[base + i]?=some x->rk key<=rk x)->Q (some k) st):wpS (model prog w) A E s (gallop' true key a base n hint) Q st:=by
 have he:∀ i,i < n->∃ x,a[base + i]?=some x/\x ∈ a.toList:=fun i hi=>get_at (by omega)
 refine s_gallop T hk hkey (fun i=>match a[base + i]? with | some x=>bey rk true key x | none=>false) (fun i hi=>?_) (fun i j hij hj hb=>?_) hh fun k hk1 h1 h2=>h k hk1 (fun i x hi e=>?_) fun i x hi1 hi2 e=>?_
 ·obtain ⟨x,e,m⟩:=he i hi
  refine ⟨x,e,ma x m,?_⟩
  try dsimp only
  rw [e]
 ·obtain ⟨x,ex,_⟩:=he i (by omega)
  obtain ⟨y,ey,_⟩:=he j hj
  try dsimp only at hb ⊢
  rw [ey] at hb
  rw [ex]
  have:=up (base + i) (base + j) x y (by omega) (by omega) (by omega) ex ey
  unfold bey at hb ⊢
  simp only [if_true,decide_eq_true_eq] at hb ⊢
  omega
 ·have:=h1 i hi
  try dsimp only at this
  rw [e] at this
  unfold bey at this
  simp only [if_true,decide_eq_true_eq] at this
  exact this
 ·have:=h2 i hi1 hi2
  try dsimp only at this
  rw [e] at this
  unfold bey at this
  simp only [if_true,decide_eq_false_iff_not] at this
  omega
theorem up_at {a:Array Keyed}(sa:a.toList.Pairwise fun x y=>rk x<=rk y){i j:Nat}{x y:Keyed}(hij:i<=j)(ex:a[i]?=some x)(ey:a[j]?=some y):rk x<=rk y:=by
 refine head_le sa ex y ?_
 have hj:j < a.toList.length:=by
  rw [Array.length_toList]
  exact (Array.getElem?_eq_some_iff.mp ey).1
 refine List.mem_of_getElem? (i:=j - i) ?_
 rw [List.getElem?_drop,Array.getElem?_toList,show i + (j - i)=j by omega]
 exact ey
set_option maxHeartbeats 8000000 in
theorem via {P:Prop}(h:∀ G:Prop,(P->G)->G):P:=h P id
structure Key (P:Prop):Prop where
 get:P
theorem cut {P R:Prop}(k:P)(h:Key P->R):R:=h ⟨k⟩
theorem s_mergeLo {st0:SortSt}{a b:Array Keyed}{Q:Array Keyed->SortSt->Prop}(T:Tells prog w A s κ rk a0)(hk:kindOf st0=κ)(ma:∀ x ∈ a.toList,x ∈ a0.toList)(mb:∀ x ∈ b.toList,x ∈ a0.toList)(sa:a.toList.Pairwise fun x y=>rk x<=rk y)(sb:b.toList.Pairwise fun x y=>rk x<=rk y)
  (ha:0 < a.size) (hb:0 < b.size) (h0:∀ x y,b[0]?=some x->y ∈ a.toList->rk x<=rk y) (hl':∀ x ∈ b.toList,∀ y,a[a.size - 1]?=some y->rk x < rk y)
  (h:∀ out st',Kept st0 st'->Mg rk a.toList b.toList out.toList->Q out st'):wpS (model prog w) A E s (mergeLo' a b) Q st0:=by
 have hl:∀ x ∈ b.toList,∀ y,a[a.size - 1]?=some y->rk x<=rk y:=fun x hx y hy=>Int.le_of_lt (hl' x hx y hy)
 refine wpS_bind (wpS_lift (wpAny_rule ⟨rfl,?_⟩))
 obtain ⟨b0,eb0,_⟩:=get_at hb
 refine wpS_bind (s_elem eb0 ?_)
 have M0:MI rk a.toList b.toList 0 0 (#[]:Array Keyed).toList:=⟨by simp,List.Pairwise.nil,(fun x hx=>nomatch hx),(fun x hx=>nomatch hx)⟩
 have M1:MI rk a.toList b.toList 0 1 (#[b0]:Array Keyed).toList:=MI.oneB M0 sb eb0 fun y hy=>h0 b0 y eb0 (by simpa using hy)
 dsimp -zeta only
 refine s_ite (fun hc=>wpS_pure (h _ _ (Kept.refl _) (done_arr M1 sa (by rw [show 1=b.size by simpa using hc]; exact Nat.le_refl _)))) fun hc=>?_
 refine s_ite (fun hc2=>wpS_pure (h _ _ (Kept.refl _) (last_arr M1 sa sb hl (by simpa using hc2)))) fun hc2=>?_
 have hb2:1 < b.size:=by
  have:¬ 1=b.size:=by simpa using hc
  omega
 have ha2:0 + 1 < a.size:=by
  have:¬ 0 + 1=a.size:=by simpa using hc2
  omega
 refine wpS_bind (wpS_get ?_)
 refine wpS_bind (wpS_mono (wpS_forRange (I:=fun x c st'=>∃ out ia ib mg,c=(none,out,ia,ib,mg)/\MI rk a.toList b.toList ia ib out.toList/\ia + 1 < a.size/\ib < b.size/\x + 1<=ia + ib/\Kept st0 st')
  (Q:=fun c st'=>∃ res,c.1=some res/\Mg rk a.toList b.toList res.toList/\Kept st0 st') ?step ?fin ⟨_,0,1,_,rfl,M1,ha2,hb2,by omega,Kept.refl _⟩) ?post)
 case fin =>
  rintro c st' ⟨out,ia,ib,mg,rfl,M,h1,h2,h3,k⟩
  omega
 case post =>
  rintro ⟨c1,c2⟩ st' ⟨res,e,hM,k⟩
  dsimp only at e ⊢
  subst e
  exact wpS_pure (h _ _ k hM)
 case step =>
  intro x0 c st1 _ hx0 hI
  refine via fun G hG=>?_
  obtain ⟨out,ia,ib,mg,rfl,M,h1,h2,h3,k1⟩:=hI
  refine hG ?_
  clear hG
  have hk1:kindOf st1=κ:=k1.kind.trans hk
  dsimp -zeta only
  refine wpS_bind (wpS_mono (wpS_forRange (I:=fun x c st'=>st'=st1/\∃ out ia ib ac bc,c=(none,out,ia,ib,ac,bc)/\MI rk a.toList b.toList ia ib out.toList/\ia + 1 < a.size/\ib < b.size/\x0 + 1 + x<=ia + ib)
   (Q:=fun c st'=>st'=st1/\((∃ res,c.1=some res/\Mg rk a.toList b.toList res.toList)\/∃ out ia ib ac bc,c=(none,out,ia,ib,ac,bc)/\MI rk a.toList b.toList ia ib out.toList/\ia + 1 < a.size/\ib < b.size/\x0 + 2<=ia + ib)) ?step1 ?fin1 ⟨rfl,_,_,_,_,_,rfl,M,h1,h2,by omega⟩) ?post1)
  case fin1 =>
   rintro c st' ⟨rfl,out,ia,ib,ac,bc,rfl,M,h1,h2,h3⟩
   exact ⟨rfl,.inr ⟨out,ia,ib,ac,bc,rfl,M,h1,h2,by omega⟩⟩
  case step1 =>
   intro x c st' _ hx hI
   refine via fun G hG=>?_
   obtain ⟨rfl,out,ia,ib,ac,bc,rfl,M,h1,h2,h3⟩:=hI
   obtain ⟨y,ey,my⟩:=get_at h2
   obtain ⟨z,ez,mz⟩:=get_at (a:=a) (i:=ia) (by omega)
   refine hG ?_
   clear hG
   dsimp -zeta only
   refine wpS_bind (s_elem ey (wpS_bind (s_elem ez (wpS_bind (s_lt T hk1 (mb y my) (ma z mz) ?_)))))
   dsimp -zeta only
   refine s_ite (fun hlt=>?_) fun hlt=>?_
   ·have hlt':rk y < rk z:=of_decide_eq_true hlt
    have M2:=MI.oneB M sb ey fun v hv=>Int.le_trans (Int.le_of_lt hlt') (head_le sa ez v hv)
    refine wpS_bind (s_elem ey ?_)
    refine s_ite (fun he=>wpS_pure ⟨rfl,.inl ⟨_,rfl,done_arr M2 sa (by rw [show ib + 1=b.size by simpa using he]; exact Nat.le_refl _)⟩⟩) fun he=>?_
    have hb3:ib + 1 < b.size:=by
     have:¬ ib + 1=b.size:=by simpa using he
     omega
    exact s_ite (fun _=>wpS_pure ⟨rfl,.inr ⟨_,_,_,_,_,rfl,M2,h1,hb3,by omega⟩⟩) fun _=>wpS_pure ⟨rfl,_,_,_,_,_,rfl,M2,h1,hb3,by omega⟩
   ·have hlt':¬ rk y < rk z:=fun q=>hlt (decide_eq_true q)
    have M2:=MI.oneA M sa ez fun v hv=>Int.le_trans (Int.not_lt.mp hlt') (head_le sb ey v hv)
    refine wpS_bind (s_elem ez ?_)
    refine s_ite (fun he=>wpS_pure ⟨rfl,.inl ⟨_,rfl,last_arr M2 sa sb hl (by simpa using he)⟩⟩) fun he=>?_
    have ha3:ia + 1 + 1 < a.size:=by
     have:¬ ia + 1 + 1=a.size:=by simpa using he
     omega
    exact s_ite (fun _=>wpS_pure ⟨rfl,.inr ⟨_,_,_,_,_,rfl,M2,ha3,h2,by omega⟩⟩) fun _=>wpS_pure ⟨rfl,_,_,_,_,_,rfl,M2,ha3,h2,by omega⟩
  case post1 =>
   intro c st' hI
   refine via fun G hG=>?_
   rcases hI with ⟨rfl,hc1 | ⟨out,ia,ib,ac,bc,rfl,M,h1,h2,h3⟩⟩
   all_goals (refine hG ?_; clear hG)
   ·obtain ⟨res,e,hM⟩:=hc1
    obtain ⟨c1,c2⟩:=c
    dsimp only at e ⊢
    subst e
    exact wpS_pure ⟨res,rfl,hM,k1⟩
   dsimp -zeta only
   refine wpS_bind (wpS_lift (wpAny_rule ⟨rfl,?_⟩))
   refine wpS_bind (wpS_mono (wpS_forRange (I:=fun x c st2=>∃ out ia ib mg ac bc,c=(none,out,ia,ib,mg,ac,bc)/\MI rk a.toList b.toList ia ib out.toList/\ia + 1 < a.size/\ib < b.size/\x0 + 2<=ia + ib/\Kept st0 st2)
    (Q:=fun c st2=>(∃ res,c.1=some res/\Mg rk a.toList b.toList res.toList/\Kept st0 st2)\/∃ out ia ib mg ac bc,c=(none,out,ia,ib,mg,ac,bc)/\MI rk a.toList b.toList ia ib out.toList/\ia + 1 < a.size/\ib < b.size/\x0 + 2<=ia + ib/\Kept st0 st2) ?step2 ?fin2 ⟨_,_,_,_,_,_,rfl,M,h1,h2,h3,k1⟩) ?post2)
   case fin2 =>
    rintro c st2 hc
    exact .inr hc
   case post2 =>
    rintro c st2 (⟨res,e,hM,k2⟩ | ⟨out,ia,ib,mg,ac,bc,rfl,M,h1,h2,h3,k2⟩)
    ·obtain ⟨c1,c2⟩:=c
     dsimp only at e ⊢
     subst e
     exact wpS_pure ⟨res,rfl,hM,k2⟩
    ·dsimp -zeta only
     exact wpS_bind (s_setG k2 fun st3 k3=>wpS_pure ⟨_,_,_,_,rfl,M,h1,h2,by omega,k3⟩)
   case step2 =>
    intro x c st2 _ hx hI
    refine via fun G hG=>?_
    obtain ⟨out,ia,ib,mg,ac,bc,rfl,M,h1,h2,h3,k2⟩:=hI
    obtain ⟨y,ey,my⟩:=get_at h2
    refine hG ?_
    clear hG
    dsimp -zeta only
    refine' cut ?key1 fun key=>s_ite (fun hmg=>?a1) fun hmg=>?b1
    case a1 =>
     generalize mg - 1=mg1
     revert mg1
     exact key.get
    case b1=>exact key.get mg
    intro mg1
    dsimp -zeta only
    refine wpS_bind (s_setG k2 fun st3 k3=>?_)
    have hk3:kindOf st3=κ:=k3.kind.trans hk
    refine wpS_bind (s_elem ey (wpS_bind (s_gallopR T hk3 (mb y my) ma (fun i j u v _ hij _ eu ev=>up_at sa hij eu ev) (by omega) (by omega) fun k hk4 g1 g2=>?_)))
    dsimp -zeta only
    refine' cut ?key2 fun key=>s_ite (fun hk0=>?a2) fun hk0=>?b2
    case a2 =>
     have M2:=MI.someA M sa sb ey g1
     refine s_ite (fun he=>wpS_pure (.inl ⟨_,rfl,last_arr M2 sa sb hl (by simpa using he),k3⟩)) fun he=>?_
     have ne1:¬ ia + k + 1=a.size:=by simpa using he
     have kl:ia + k < a.size:=by
      refine Nat.lt_of_not_le fun hge=>?_
      obtain ⟨v,ev,mv⟩:=get_at (a:=a) (i:=a.size - 1) (by omega)
      have q1:=g1 (a.size - 1 - ia) v (by omega) (by rw [show ia + (a.size - 1 - ia)=a.size - 1 by omega]; exact ev)
      have q2:=hl' y my v ev
      omega
     refine s_ite (fun he2=>absurd (show ia + k=a.size by simpa using he2) (by omega)) fun he2=>?_
     have h1':ia + k + 1 < a.size:=by omega
     have h3':x0 + 2<=ia + k + ib:=by omega
     have g2':∀ z,a[ia + k]?=some z->rk y<=rk z:=fun z ez=>Int.le_of_lt (g2 k z (Nat.le_refl _) (by omega) ez)
     generalize out++a.extract ia (ia + k)=out1 at M2 ⊢
     generalize ia + k=ia1 at M2 h1' h3' g2' ⊢
     revert g2'; revert h3'; revert h1'; revert M2; revert ia1; revert out1
     exact key.get
    case b2=>exact key.get out ia M h1 h3 fun z ez=>Int.le_of_lt (g2 0 z (by omega) (by omega) (by simpa using ez))
    intro out1 ia1 M2 h1' h3' g2'
    refine via fun G hG=>?_
    obtain ⟨z,ez,mz⟩:=get_at (a:=a) (i:=ia1) (by omega)
    refine hG ?_
    clear hG
    have M3:=MI.oneB M2 sb ey fun v hv=>Int.le_trans (g2' z ez) (head_le sa ez v hv)
    refine wpS_bind (s_elem ey ?_)
    refine s_ite (fun he=>wpS_pure (.inl ⟨_,rfl,done_arr M3 sa (by rw [show ib + 1=b.size by simpa using he]; exact Nat.le_refl _),k3⟩)) fun he=>?_
    have hb3:ib + 1 < b.size:=by
     have:¬ ib + 1=b.size:=by simpa using he
     omega
    refine wpS_bind (s_elem ez (wpS_bind (s_gallopL T hk3 (ma z mz) mb (fun i j u v _ hij _ eu ev=>up_at sb hij eu ev) (by omega) (by omega) fun k' hk5 g3 g4=>?_)))
    dsimp -zeta only
    refine' cut ?key3 fun key=>s_ite (fun hk0'=>?a3) fun hk0'=>?b3
    case a3 =>
     have M4:=MI.someB M3 sa sb ez fun i u hi eu=>Int.le_of_lt (g3 i u hi eu)
     refine s_ite (fun he=>wpS_pure (.inl ⟨_,rfl,done_arr M4 sa (by rw [show ib + 1 + k'=b.size by simpa using he]; exact Nat.le_refl _),k3⟩)) fun he=>?_
     have hb4:ib + 1 + k' < b.size:=by
      have:¬ ib + 1 + k'=b.size:=by simpa using he
      omega
     have g4':∀ v,b[ib + 1 + k']?=some v->rk z<=rk v:=fun v ev=>g4 k' v (Nat.le_refl _) (by omega) ev
     have h3'':x0 + 2<=ia1 + (ib + 1 + k'):=by omega
     generalize out1.push y++b.extract (ib + 1) (ib + 1 + k')=out2 at M4 ⊢
     generalize ib + 1 + k'=ib1 at M4 hb4 g4' h3'' ⊢
     revert h3''; revert g4'; revert hb4; revert M4; revert ib1; revert out2
     exact key.get
    case b3=>exact key.get (out1.push y) (ib + 1) M3 hb3 (fun v ev=>g4 0 v (by omega) (by omega) (by simpa using ev)) (by omega)
    intro out2 ib1 M4 hb4 g4' h3''
    refine via fun G hG=>?_
    obtain ⟨v,ev,mv⟩:=get_at (a:=b) (i:=ib1) hb4
    refine hG ?_
    clear hG
    have M5:=MI.oneA M4 sa ez fun u hu=>Int.le_trans (g4' v ev) (head_le sb ev u hu)
    refine wpS_bind (s_elem ez ?_)
    refine s_ite (fun he=>wpS_pure (.inl ⟨_,rfl,last_arr M5 sa sb hl (by simpa using he),k3⟩)) fun he=>?_
    have ha3:ia1 + 1 + 1 < a.size:=by
     have:¬ ia1 + 1 + 1=a.size:=by simpa using he
     omega
    exact s_ite (fun _=>wpS_pure (.inr ⟨_,_,_,_,_,_,rfl,M5,ha3,hb4,by omega,k3⟩)) fun _=>wpS_pure ⟨_,_,_,_,_,_,rfl,M5,ha3,hb4,by omega,k3⟩
end
end GS
end L2
namespace L2
open PySem PySem.Spec PyProof.Rows PySem.W
namespace GS
noncomputable def neg (rk:Keyed->Int):Keyed->Int:=fun x=>- rk x
theorem rev_get {a:Array Keyed}{j:Nat}(h:j < a.size):a.reverse[j]?=a[a.size - 1 - j]?:=by
 rw [Array.getElem?_reverse h]
noncomputable def Hi (rk:Keyed->Int)(a b:Array Keyed)(na nb:Nat)(out:Array Keyed):Prop:=MI (neg rk) a.reverse.toList b.reverse.toList (a.size - na) (b.size - nb) out.toList
section
variable {rk:Keyed->Int}{a b out:Array Keyed}{na nb:Nat}
theorem neg_up (sa:a.toList.Pairwise fun x y=>rk x<=rk y):a.reverse.toList.Pairwise fun x y=>neg rk x<=neg rk y:=by
 rw [Array.toList_reverse,List.pairwise_reverse]
 exact sa.imp fun h=>Int.neg_le_neg h
theorem at_rev {i:Nat}{x:Keyed}(h1:1<=i)(h2:i<=a.size)(e:a[i - 1]?=some x):a.reverse[a.size - i]?=some x:=by
 rw [rev_get (by omega),show a.size - 1 - (a.size - i)=i - 1 by omega]
 exact e
theorem Hi.oneA {x y:Keyed}(M:Hi rk a b na nb out)(sa:a.toList.Pairwise fun x y=>rk x<=rk y)(sb:b.toList.Pairwise fun x y=>rk x<=rk y)(h1:1<=na)(h2:na<=a.size)(h3:1<=nb)(h4:nb<=b.size)(ex:a[na - 1]?=some x)(ey:b[nb - 1]?=some y)(h:rk y<=rk x):Hi rk a b (na - 1) nb (out.push x):=by
 have:=MI.oneA (rk:=neg rk) M (neg_up sa) (at_rev h1 h2 ex) fun v hv=>Int.le_trans (Int.neg_le_neg h) (head_le (neg_up sb) (at_rev h3 h4 ey) v hv)
 unfold Hi
 rw [show a.size - (na - 1)=a.size - na + 1 by omega]
 exact this
theorem Hi.oneB {x y:Keyed}(M:Hi rk a b na nb out)(sa:a.toList.Pairwise fun x y=>rk x<=rk y)(sb:b.toList.Pairwise fun x y=>rk x<=rk y)(h1:1<=na)(h2:na<=a.size)(h3:1<=nb)(h4:nb<=b.size)(ex:a[na - 1]?=some x)(ey:b[nb - 1]?=some y)(h:rk x<=rk y):Hi rk a b na (nb - 1) (out.push y):=by
 have:=MI.oneB (rk:=neg rk) M (neg_up sb) (at_rev h3 h4 ey) fun v hv=>Int.le_trans (Int.neg_le_neg h) (head_le (neg_up sa) (at_rev h1 h2 ex) v hv)
 unfold Hi
 rw [show b.size - (nb - 1)=b.size - nb + 1 by omega]
 exact this
theorem ext_rev {i j:Nat}(h1:i<=j)(h2:j<=a.size):(a.extract i j).reverse=a.reverse.extract (a.size - j) (a.size - j + (j - i)):=by
 apply Array.ext_getElem?
 intro k
 by_cases hk:k < j - i
 ·rw [Array.getElem?_reverse (by rw [Array.size_extract]; omega),Array.getElem?_extract,Array.getElem?_extract,Array.size_extract]
  rw [if_pos (by omega),if_pos (by rw [Array.size_reverse]; omega),rev_get (by omega)]
  congr 1
  omega
 ·rw [Array.getElem?_eq_none (by rw [Array.size_reverse,Array.size_extract]; omega),Array.getElem?_eq_none (by rw [Array.size_extract,Array.size_reverse]; omega)]
theorem Hi.someA {i:Nat}{y:Keyed}(M:Hi rk a b na nb out)(sa:a.toList.Pairwise fun x y=>rk x<=rk y)(sb:b.toList.Pairwise fun x y=>rk x<=rk y)(h1:i<=na)(h2:na<=a.size)(h3:1<=nb)(h4:nb<=b.size)(ey:b[nb - 1]?=some y)(h:∀ j x,i<=j->j < na->a[j]?=some x->rk y<=rk x):Hi rk a b i nb (out++(a.extract i na).reverse):=by
 have:=MI.someA (rk:=neg rk) (k:=na - i) M (neg_up sa) (neg_up sb) (at_rev h3 h4 ey) fun j x hj ex=>Int.neg_le_neg (h (na - 1 - j) x (by omega) (by omega) (by
  rw [rev_get (by omega)] at ex
  rw [<- ex]
  congr 1
  omega))
 unfold Hi
 rw [ext_rev h1 h2,show a.size - i=a.size - na + (na - i) by omega]
 exact this
theorem Hi.someB {i:Nat}{y:Keyed}(M:Hi rk a b na nb out)(sa:a.toList.Pairwise fun x y=>rk x<=rk y)(sb:b.toList.Pairwise fun x y=>rk x<=rk y)(h1:i<=nb)(h2:nb<=b.size)(h3:1<=na)(h4:na<=a.size)(ey:a[na - 1]?=some y)(h:∀ j x,i<=j->j < nb->b[j]?=some x->rk y<=rk x):Hi rk a b na i (out++(b.extract i nb).reverse):=(Hi.someA (a:=b) (b:=a) M.swap sb sa h1 h2 h3 h4 ey h).swap
theorem mg_rev {oL:List Keyed}(h:Mg (neg rk) b.reverse.toList a.reverse.toList oL):Mg rk a.toList b.toList oL.reverse:=by
 obtain ⟨p,q⟩:=h
 rw [Array.toList_reverse,Array.toList_reverse] at p
 refine ⟨?_,?_⟩
 ·refine (List.reverse_perm _).trans (p.trans (List.perm_append_comm.trans ?_))
  exact List.Perm.append (List.reverse_perm _) (List.reverse_perm _)
 ·rw [List.pairwise_reverse]
  refine q.imp fun {x y} h=>?_
  have h':- rk x<=- rk y:=h
  omega
theorem rev_end {i:Nat}(h:i<=a.size):(a.reverse.extract (a.size - i) a.reverse.size).toList.reverse=(a.extract 0 i).toList:=by
 rw [ext_end,Array.toList_reverse,ext_toList _ _ _ (Nat.zero_le _),List.drop_zero,Nat.sub_zero]
 have:=List.reverse_take (l:=a.toList) (i:=i)
 rw [Array.length_toList] at this
 rw [<- this,List.reverse_reverse]
theorem Hi.done (M:Hi rk a b 0 nb out)(sb:b.toList.Pairwise fun x y=>rk x<=rk y)(h:nb<=b.size):Mg rk a.toList b.toList (a.extract 0 0++b.extract 0 nb++out.reverse).toList:=by
 have h1:=done_arr (rk:=neg rk) (a:=b.reverse) (b:=a.reverse) M.swap (neg_up sb) (by rw [Array.size_reverse]; omega)
 have h2:=mg_rev h1
 rw [Array.toList_append,Array.toList_append,List.reverse_append,List.reverse_append,rev_end h] at h2
 have e0:=rev_end (a:=a) (i:=0) (Nat.zero_le _)
 rw [e0] at h2
 rw [Array.toList_append,Array.toList_append,Array.toList_reverse,List.append_assoc]
 exact h2
theorem Hi.first (M:Hi rk a b na 1 out)(sa:a.toList.Pairwise fun x y=>rk x<=rk y)(sb:b.toList.Pairwise fun x y=>rk x<=rk y)(hb:0 < b.size)(h:na<=a.size)(h0:∀ x y,b[0]?=some x->y ∈ a.toList->rk x < rk y):Mg rk a.toList b.toList (b.extract 0 1++a.extract 0 na++out.reverse).toList:=by
 have h1:=last_arr (rk:=neg rk) (a:=b.reverse) (b:=a.reverse) M.swap (neg_up sb) (neg_up sa) (fun x hx y ey=>by
  rw [Array.size_reverse,rev_get (by omega),show b.size - 1 - (b.size - 1)=0 by omega] at ey
  have hx':x ∈ a.toList:=by simpa using hx
  exact Int.neg_le_neg (Int.le_of_lt (h0 y x ey hx'))) (by rw [Array.size_reverse]; omega)
 have h2:=mg_rev h1
 rw [Array.toList_append,Array.toList_append,List.reverse_append,List.reverse_append,rev_end h,rev_end (by omega)] at h2
 rw [Array.toList_append,Array.toList_append,Array.toList_reverse,List.append_assoc]
 exact h2
end
section
variable {prog:Program}{w:World}{A:Around}{E:Value->Shared->Prop}{s:Shared}{rk:Keyed->Int}{κ:SortKind}{a0:Array Keyed}
set_option maxHeartbeats 8000000 in
theorem s_mergeHi {st0:SortSt}{a b:Array Keyed}{Q:Array Keyed->SortSt->Prop}(T:Tells prog w A s κ rk a0)(hk:kindOf st0=κ)(ma:∀ x ∈ a.toList,x ∈ a0.toList)(mb:∀ x ∈ b.toList,x ∈ a0.toList)(sa:a.toList.Pairwise fun x y=>rk x<=rk y)(sb:b.toList.Pairwise fun x y=>rk x<=rk y)
  (ha:0 < a.size) (hb:0 < b.size) (h0:∀ x y,b[0]?=some x->y ∈ a.toList->rk x < rk y) (hl:∀ x ∈ b.toList,∀ y,a[a.size - 1]?=some y->rk x < rk y)
  (h:∀ out st',Kept st0 st'->Mg rk a.toList b.toList out.toList->Q out st'):wpS (model prog w) A E s (mergeHi' a b) Q st0:=by
 refine wpS_bind (wpS_lift (wpAny_rule ⟨rfl,?_⟩))
 obtain ⟨z0,ez0,_⟩:=get_at (a:=a) (i:=a.size - 1) (by omega)
 obtain ⟨y0,ey0,my0⟩:=get_at (a:=b) (i:=b.size - 1) (by omega)
 refine wpS_bind (s_elem ez0 ?_)
 have M0:Hi rk a b a.size b.size #[]:=by
  unfold Hi
  rw [Nat.sub_self,Nat.sub_self]
  exact ⟨by simp,List.Pairwise.nil,(fun x hx=>nomatch hx),(fun x hx=>nomatch hx)⟩
 have M1:Hi rk a b (a.size - 1) b.size #[z0]:=M0.oneA sa sb (by omega) (Nat.le_refl _) (by omega) (Nat.le_refl _) ez0 ey0 (Int.le_of_lt (hl y0 my0 z0 ez0))
 dsimp -zeta only
 refine s_ite (fun hc=>wpS_pure (h _ _ (Kept.refl _) ?_)) fun hc=>?_
 ·have e:a.size - 1=0:=by simpa using hc
  rw [e] at M1 ⊢
  exact M1.done sb (Nat.le_refl _)
 refine s_ite (fun hc2=>wpS_pure (h _ _ (Kept.refl _) ?_)) fun hc2=>?_
 ·have e:b.size=1:=by simpa using hc2
  rw [e] at M1 ⊢
  exact M1.first sa sb hb (by omega) h0
 have ha2:1<=a.size - 1:=by
  have:¬ a.size - 1=0:=by simpa using hc
  omega
 have hb2:1 < b.size:=by
  have:¬ b.size=1:=by simpa using hc2
  omega
 refine wpS_bind (wpS_get ?_)
 refine wpS_bind (wpS_mono (wpS_forRange (I:=fun x c st'=>∃ na nb out mg,c=(none,na,nb,out,mg)/\Hi rk a b na nb out/\1<=na/\na < a.size/\1 < nb/\nb<=b.size/\na + nb + x + 1<=a.size + b.size/\Kept st0 st')
  (Q:=fun c st'=>∃ res,c.1=some res/\Mg rk a.toList b.toList res.toList/\Kept st0 st') ?step ?fin ⟨_,_,_,_,rfl,M1,ha2,by omega,hb2,Nat.le_refl _,by omega,Kept.refl _⟩) ?post)
 case fin =>
  rintro c st' ⟨na,nb,out,mg,rfl,M,h1,h2,h3,h4,h5,k⟩
  omega
 case post =>
  rintro ⟨c1,c2⟩ st' ⟨res,e,hM,k⟩
  dsimp only at e ⊢
  subst e
  exact wpS_pure (h _ _ k hM)
 case step =>
  intro x0 c st1 _ hx0 hI
  refine via fun G hG=>?_
  obtain ⟨na,nb,out,mg,rfl,M,h1,h2,h3,h4,h5,k1⟩:=hI
  refine hG ?_
  clear hG
  have hk1:kindOf st1=κ:=k1.kind.trans hk
  dsimp -zeta only
  refine wpS_bind (wpS_mono (wpS_forRange (I:=fun x c st'=>st'=st1/\∃ na nb out ac bc,c=(none,na,nb,out,ac,bc)/\Hi rk a b na nb out/\1<=na/\na < a.size/\1 < nb/\nb<=b.size/\na + nb + x0 + 1 + x<=a.size + b.size)
   (Q:=fun c st'=>st'=st1/\((∃ res,c.1=some res/\Mg rk a.toList b.toList res.toList)\/∃ na nb out ac bc,c=(none,na,nb,out,ac,bc)/\Hi rk a b na nb out/\1<=na/\na < a.size/\1 < nb/\nb<=b.size/\na + nb + x0 + 2<=a.size + b.size)) ?step1 ?fin1 ⟨rfl,_,_,_,_,_,rfl,M,h1,h2,h3,h4,by omega⟩) ?post1)
  case fin1 =>
   rintro c st' ⟨rfl,na,nb,out,ac,bc,rfl,M,h1,h2,h3,h4,h5⟩
   exact ⟨rfl,.inr ⟨na,nb,out,ac,bc,rfl,M,h1,h2,h3,h4,by omega⟩⟩
  case step1 =>
   intro x c st' _ hx hI
   refine via fun G hG=>?_
   obtain ⟨rfl,na,nb,out,ac,bc,rfl,M,h1,h2,h3,h4,h5⟩:=hI
   obtain ⟨y,ey,my⟩:=get_at (a:=b) (i:=nb - 1) (by omega)
   obtain ⟨z,ez,mz⟩:=get_at (a:=a) (i:=na - 1) (by omega)
   refine hG ?_
   clear hG
   dsimp -zeta only
   refine wpS_bind (s_elem ey (wpS_bind (s_elem ez (wpS_bind (s_lt T hk1 (mb y my) (ma z mz) ?_)))))
   dsimp -zeta only
   refine s_ite (fun hlt=>?_) fun hlt=>?_
   ·have hlt':rk y < rk z:=of_decide_eq_true hlt
    have M2:=M.oneA sa sb h1 (by omega) (by omega) h4 ez ey (Int.le_of_lt hlt')
    refine wpS_bind (s_elem ez ?_)
    refine s_ite (fun he=>wpS_pure ⟨rfl,.inl ⟨_,rfl,?_⟩⟩) fun he=>?_
    ·have e:na - 1=0:=by simpa using he
     rw [e] at M2 ⊢
     exact M2.done sb h4
    have hn:1<=na - 1:=by
     have:¬ na - 1=0:=by simpa using he
     omega
    exact s_ite (fun _=>wpS_pure ⟨rfl,.inr ⟨_,_,_,_,_,rfl,M2,hn,by omega,h3,h4,by omega⟩⟩) fun _=>wpS_pure ⟨rfl,_,_,_,_,_,rfl,M2,hn,by omega,h3,h4,by omega⟩
   ·have hlt':¬ rk y < rk z:=fun q=>hlt (decide_eq_true q)
    have M2:=M.oneB sa sb h1 (by omega) (by omega) h4 ez ey (Int.not_lt.mp hlt')
    refine wpS_bind (s_elem ey ?_)
    refine s_ite (fun he=>wpS_pure ⟨rfl,.inl ⟨_,rfl,?_⟩⟩) fun he=>?_
    ·have e:nb - 1=1:=by simpa using he
     rw [e] at M2 ⊢
     exact M2.first sa sb hb (by omega) h0
    have hn:1 < nb - 1:=by
     have:¬ nb - 1=1:=by simpa using he
     omega
    exact s_ite (fun _=>wpS_pure ⟨rfl,.inr ⟨_,_,_,_,_,rfl,M2,h1,h2,hn,by omega,by omega⟩⟩) fun _=>wpS_pure ⟨rfl,_,_,_,_,_,rfl,M2,h1,h2,hn,by omega,by omega⟩
  case post1 =>
   intro c st' hI
   refine via fun G hG=>?_
   rcases hI with ⟨rfl,hc1 | ⟨na,nb,out,ac,bc,rfl,M,h1,h2,h3,h4,h5⟩⟩
   all_goals (refine hG ?_; clear hG)
   ·obtain ⟨res,e,hM⟩:=hc1
    obtain ⟨c1,c2⟩:=c
    dsimp only at e ⊢
    subst e
    exact wpS_pure ⟨res,rfl,hM,k1⟩
   dsimp -zeta only
   refine wpS_bind (wpS_lift (wpAny_rule ⟨rfl,?_⟩))
   refine wpS_bind (wpS_mono (wpS_forRange (I:=fun x c st2=>∃ na nb out mg ac bc,c=(none,na,nb,out,mg,ac,bc)/\Hi rk a b na nb out/\1<=na/\na < a.size/\1 < nb/\nb<=b.size/\na + nb + x0 + 2<=a.size + b.size/\Kept st0 st2)
    (Q:=fun c st2=>(∃ res,c.1=some res/\Mg rk a.toList b.toList res.toList/\Kept st0 st2)\/∃ na nb out mg ac bc,c=(none,na,nb,out,mg,ac,bc)/\Hi rk a b na nb out/\1<=na/\na < a.size/\1 < nb/\nb<=b.size/\na + nb + x0 + 2<=a.size + b.size/\Kept st0 st2) ?step2 ?fin2 ⟨_,_,_,_,_,_,rfl,M,h1,h2,h3,h4,h5,k1⟩) ?post2)
   case fin2 =>
    rintro c st2 hc
    exact .inr hc
   case post2 =>
    rintro c st2 (⟨res,e,hM,k2⟩ | ⟨na,nb,out,mg,ac,bc,rfl,M,h1,h2,h3,h4,h5,k2⟩)
    ·obtain ⟨c1,c2⟩:=c
     dsimp only at e ⊢
     subst e
     exact wpS_pure ⟨res,rfl,hM,k2⟩
    ·dsimp -zeta only
     exact wpS_bind (s_setG k2 fun st3 k3=>wpS_pure ⟨_,_,_,_,rfl,M,h1,h2,h3,h4,by omega,k3⟩)
   case step2 =>
    intro x c st2 _ hx hI
    refine via fun G hG=>?_
    obtain ⟨na,nb,out,mg,ac,bc,rfl,M,h1,h2,h3,h4,h5,k2⟩:=hI
    obtain ⟨y,ey,my⟩:=get_at (a:=b) (i:=nb - 1) (by omega)
    refine hG ?_
    clear hG
    dsimp -zeta only
    refine' cut ?key1 fun key=>s_ite (fun hmg=>?a1) fun hmg=>?b1
    case a1 =>
     generalize mg - 1=mg1
     revert mg1
     exact key.get
    case b1=>exact key.get mg
    intro mg1
    dsimp -zeta only
    refine wpS_bind (s_setG k2 fun st3 k3=>?_)
    have hk3:kindOf st3=κ:=k3.kind.trans hk
    refine wpS_bind (s_elem ey (wpS_bind (s_gallopR T hk3 (mb y my) ma (fun i j u v _ hij _ eu ev=>up_at sa hij eu ev) (by omega) (by omega) fun k hk4 g1 g2=>?_)))
    dsimp -zeta only
    refine' cut ?key2 fun key=>s_ite (fun hk0=>?a2) fun hk0=>?b2
    case a2 =>
     have M2:=M.someA sa sb (i:=k) (by omega) (by omega) (by omega) h4 ey fun j u hj1 hj2 eu=>Int.le_of_lt (g2 j u hj1 hj2 (by simpa using eu))
     refine s_ite (fun he=>wpS_pure (.inl ⟨_,rfl,(by
      have e:k=0:=by simpa using he
      rw [e] at M2 ⊢
      exact M2.done sb h4),k3⟩)) fun he=>?_
     have h1':1<=k:=by
      have:¬ k=0:=by simpa using he
      omega
     have h2':k < a.size:=by omega
     have h5':k + nb + x0 + 2<=a.size + b.size:=by omega
     have g1':∀ z,a[k - 1]?=some z->rk z<=rk y:=fun z ez=>g1 (k - 1) z (by omega) (by simpa using ez)
     generalize out++(a.extract k na).reverse=out1 at M2 ⊢
     generalize na - k=kk
     generalize k=na1 at M2 h1' h2' h5' g1' ⊢
     revert g1'; revert h5'; revert h2'; revert h1'; revert M2; revert na1; revert kk; revert out1
     exact key.get
    case b2=>exact key.get out (na - k) na M h1 h2 h5 fun z ez=>g1 (na - 1) z (by omega) (by simpa using ez)
    intro out1 kk na1 M2 h1' h2' h5' g1'
    refine via fun G hG=>?_
    obtain ⟨z,ez,mz⟩:=get_at (a:=a) (i:=na1 - 1) (by omega)
    refine hG ?_
    clear hG
    have M3:=M2.oneB sa sb h1' (by omega) (by omega) h4 ez ey (g1' z ez)
    refine wpS_bind (s_elem ey ?_)
    refine s_ite (fun he=>wpS_pure (.inl ⟨_,rfl,(by
     have e:nb - 1=1:=by simpa using he
     rw [e] at M3 ⊢
     exact M3.first sa sb hb (by omega) h0),k3⟩)) fun he=>?_
    have hn:1 < nb - 1:=by
     have:¬ nb - 1=1:=by simpa using he
     omega
    refine wpS_bind (s_elem ez (wpS_bind (s_gallopL T hk3 (ma z mz) mb (fun i j u v _ hij _ eu ev=>up_at sb hij eu ev) (by omega) (by omega) fun k' hk5 g3 g4=>?_)))
    dsimp -zeta only
    refine' cut ?key3 fun key=>s_ite (fun hk0'=>?a3) fun hk0'=>?b3
    case a3 =>
     have M4:=M3.someB sa sb (i:=k') (by omega) (by omega) h1' (by omega) ez fun j u hj1 hj2 eu=>g4 j u hj1 hj2 (by simpa using eu)
     refine s_ite (fun he=>wpS_pure (.inl ⟨_,rfl,(by
      have e:k'=1:=by simpa using he
      rw [e] at M4 ⊢
      exact M4.first sa sb hb (by omega) h0),k3⟩)) fun he=>?_
     have k1':1<=k':=by
      refine Nat.one_le_iff_ne_zero.mpr fun hz=>?_
      obtain ⟨v,ev,mv⟩:=get_at (a:=b) (i:=0) hb
      have q1:=g4 0 v (by omega) (by omega) (by simpa using ev)
      have q2:=h0 v z ev mz
      omega
     refine s_ite (fun he2=>absurd (show k'=0 by simpa using he2) (by omega)) fun he2=>?_
     have hn':1 < k':=by
      have:¬ k'=1:=by simpa using he
      omega
     have hb':k'<=b.size:=by omega
     have h5'':na1 + k' + x0 + 2<=a.size + b.size:=by omega
     have g3':∀ v,b[k' - 1]?=some v->rk v<=rk z:=fun v ev=>Int.le_of_lt (g3 (k' - 1) v (by omega) (by simpa using ev))
     generalize out1.push y++(b.extract k' (nb - 1)).reverse=out2 at M4 ⊢
     generalize nb - 1 - k'=kk'
     generalize k'=nb1 at M4 hn' hb' h5'' g3' ⊢
     revert g3'; revert h5''; revert hb'; revert hn'; revert M4; revert nb1; revert kk'; revert out2
     exact key.get
    case b3=>exact key.get (out1.push y) (nb - 1 - k') (nb - 1) M3 hn (by omega) (by omega) fun v ev=>Int.le_of_lt (g3 (nb - 1 - 1) v (by omega) (by simpa using ev))
    intro out2 kk' nb1 M4 hn' hb' h5'' g3'
    obtain ⟨v,ev,mv⟩:=get_at (a:=b) (i:=nb1 - 1) (by omega)
    have M5:=M4.oneA sa sb h1' (by omega) (by omega) hb' ez ev (g3' v ev)
    refine wpS_bind (s_elem ez ?_)
    refine s_ite (fun he=>wpS_pure (.inl ⟨_,rfl,(by
     have e:na1 - 1=0:=by simpa using he
     rw [e] at M5 ⊢
     exact M5.done sb hb'),k3⟩)) fun he=>?_
    have hn2:1<=na1 - 1:=by
     have:¬ na1 - 1=0:=by simpa using he
     omega
    exact s_ite (fun _=>wpS_pure (.inr ⟨_,_,_,_,_,_,rfl,M5,hn2,by omega,hn',hb',by omega,k3⟩)) fun _=>wpS_pure ⟨_,_,_,_,_,_,rfl,M5,hn2,by omega,hn',hb',by omega,k3⟩
end
end GS
end L2
namespace L2
open PySem PySem.Spec PyProof.Rows PySem.W
namespace GS
theorem puts_size (sa:Nat):∀ (l:List Keyed) (j:Nat) (arr:Array Keyed),((l.zipIdx j).foldl (fun a (p:Keyed × Nat)=>a.setIfInBounds (sa + p.2) p.1) arr).size=arr.size
 | [],_,_=>rfl
 | x :: l,j,arr=>by
  rw [List.zipIdx_cons,List.foldl_cons,puts_size sa l (j + 1)]
  exact Array.size_setIfInBounds
theorem puts_at (sa:Nat):∀ (l:List Keyed) (j:Nat) (arr:Array Keyed) (i:Nat),sa + j + l.length<=arr.size->((l.zipIdx j).foldl (fun a (p:Keyed × Nat)=>a.setIfInBounds (sa + p.2) p.1) arr)[i]?=if sa + j<=i/\i < sa + j + l.length then l[i - (sa + j)]? else arr[i]?:=by
 intro l
 induction l with
 | nil =>
  intro j arr i h
  rw [if_neg (by simp only [List.length_nil]; omega)]
  rfl
 | cons x l ih =>
  intro j arr i h
  rw [List.length_cons] at h
  rw [List.zipIdx_cons,List.foldl_cons,ih (j + 1) _ i (by rw [Array.size_setIfInBounds]; omega),List.length_cons]
  by_cases h1:sa + (j + 1)<=i/\i < sa + (j + 1) + l.length
  ·rw [if_pos h1,if_pos (by omega),show i - (sa + j)=(i - (sa + (j + 1))) + 1 by omega,List.getElem?_cons_succ]
  ·rw [if_neg h1]
   by_cases h2:i=sa + j
   ·subst h2
    rw [if_pos (by omega),Nat.sub_self,List.getElem?_cons_zero]
    show (arr.setIfInBounds (sa + j) x)[sa + j]?=some x
    rw [Array.getElem?_setIfInBounds,if_pos rfl,if_pos (by omega)]
   ·rw [if_neg (by omega)]
    show (arr.setIfInBounds (sa + j) x)[i]?=arr[i]?
    rw [Array.getElem?_setIfInBounds,if_neg (fun e=>h2 e.symm)]
section
variable {prog:Program}{w:World}{A:Around}{E:Value->Shared->Prop}{s:Shared}{rk:Keyed->Int}{κ:SortKind}{a0:Array Keyed}
theorem up_get {xs:Array Keyed}{lo hi:Nat}(u:Up rk xs lo hi){i j:Nat}{x y:Keyed}(h1:lo<=i)(h2:i<=j)(h3:j < hi)(ex:xs[i]?=some x)(ey:xs[j]?=some y):rk x<=rk y:=by
 have:=u i j h1 h2 h3
 unfold Rk at this
 rw [ex,ey] at this
 exact this
theorem up_of {xs:Array Keyed}{lo hi:Nat}(hz:hi<=xs.size)(h:∀ i j x y,lo<=i->i<=j->j < hi->xs[i]?=some x->xs[j]?=some y->rk x<=rk y):Up rk xs lo hi:=fun i j h1 h2 h3=>by
 obtain ⟨x,ex,_⟩:=get_at (a:=xs) (i:=i) (by omega)
 obtain ⟨y,ey,_⟩:=get_at (a:=xs) (i:=j) (by omega)
 unfold Rk
 rw [ex,ey]
 exact h i j x y h1 h2 h3 ex ey
theorem mem_arr {xs:Array Keyed}{i:Nat}{x:Keyed}(e:xs[i]?=some x):x ∈ xs.toList:=List.mem_of_getElem? (by rw [Array.getElem?_toList]; exact e)
theorem ext_get {xs:Array Keyed}{i j k:Nat}(h1:i<=j)(h2:j<=xs.size)(hk:k < j - i):(xs.extract i j)[k]?=xs[i + k]?:=by
 rw [Array.getElem?_extract,if_pos (by omega)]
theorem ext_size {xs:Array Keyed}{i j:Nat}(h2:j<=xs.size):(xs.extract i j).size=j - i:=by
 rw [Array.size_extract]
 omega
theorem ext_up {xs:Array Keyed}{lo hi i j:Nat}(u:Up rk xs lo hi)(h1:lo<=i)(h2:j<=hi)(h3:j<=xs.size):(xs.extract i j).toList.Pairwise fun x y=>rk x<=rk y:=by
 rw [List.pairwise_iff_getElem]
 intro m n hm hn hmn
 rw [Array.length_toList,ext_size h3] at hm hn
 have em:=ext_get (xs:=xs) (i:=i) (j:=j) (k:=m) (by omega) h3 hm
 have en:=ext_get (xs:=xs) (i:=i) (j:=j) (k:=n) (by omega) h3 hn
 refine up_get u (i:=i + m) (j:=i + n) (by omega) (by omega) (by omega) ?_ ?_
 ·rw [<- em,Array.getElem_toList]
  exact getElem?_pos _ _ _
 ·rw [<- en,Array.getElem_toList]
  exact getElem?_pos _ _ _
theorem ext_mem {xs:Array Keyed}{i j:Nat}{x:Keyed}(h3:j<=xs.size)(h:x ∈ (xs.extract i j).toList):∃ k,i<=k/\k < j/\xs[k]?=some x:=by
 obtain ⟨k,hk,e⟩:=List.getElem_of_mem h
 rw [Array.length_toList,ext_size h3] at hk
 refine ⟨i + k,by omega,by omega,?_⟩
 rw [<- ext_get (xs:=xs) (i:=i) (j:=j) (by omega) h3 hk,<- e,Array.getElem_toList]
 exact getElem?_pos _ _ _
theorem s_set {st st1:SortSt}{Q:PUnit->SortSt->Prop}(h:∀ st2,st2=st1->Q ⟨⟩ st2):wpS (model prog w) A E s (set st1:StateT SortSt Sem PUnit) Q st:=by
 unfold wpS
 rw [StateT.run_set]
 exact wpAny_pure ⟨rfl,h _ rfl⟩
set_option maxHeartbeats 8000000 in
theorem s_mergeAt {st:SortSt}{i sa na p1 nb p2:Nat}{Q:Bool->SortSt->Prop}(T:Tells prog w A s κ rk a0)(O:Ok κ a0 st)(e1:(pendingOf st)[i]?=some (sa,na,p1))(e2:(pendingOf st)[i + 1]?=some (sa + na,nb,p2))(hna:1<=na)(hnb:1<=nb)(hz:sa + na + nb<=a0.size)(u1:Up rk (arrOf st) sa (sa + na))(u2:Up rk (arrOf st) (sa + na) (sa + na + nb))
  (h:∀ st',Ok κ a0 st'->pendingOf st'=((pendingOf st).setIfInBounds i (sa,na + nb,p1)).eraseIdxIfInBounds (i + 1)->Up rk (arrOf st') sa (sa + na + nb)->(∀ j:Nat,(j < sa\/sa + na + nb<=j)->(arrOf st')[j]?=(arrOf st)[j]?)->Q true st'):wpS (model prog w) A E s (mergeAt' i) Q st:=by
 have hsz:=O.size
 have mX:∀ x ∈ (arrOf st).toList,x ∈ a0.toList:=fun x hx=>(Array.perm_iff_toList_perm.mp O.perm).mem_iff.mp hx
 obtain ⟨b0,eb0,mb0⟩:=get_at (a:=arrOf st) (i:=sa + na) (by omega)
 refine wpS_bind (wpS_get ?_)
 rw [e1,e2]
 dsimp only
 refine wpS_bind (s_set fun st1 hst=>?_)
 have k1:kindOf st1=κ:=by rw [hst]; exact O.kind
 have ea:arrOf st1=arrOf st:=by rw [hst]
 have ep:pendingOf st1=((pendingOf st).setIfInBounds i (sa,na + nb,p1)).eraseIdxIfInBounds (i + 1):=by rw [hst]
 have ef:failedOf st1=none:=by rw [hst]; exact O.good
 have O1:Ok κ a0 st1:=⟨by rw [ea]; exact O.perm,k1,ef⟩
 refine wpS_bind (s_elem eb0 (wpS_bind (s_gallopR T k1 (mX b0 mb0) mX (fun p q u v h1 h2 h3 eu ev=>up_get u1 h1 h2 h3 eu ev) (by show sa + na<=(arrOf st).size; omega) (by omega) fun k hk g1 g2=>?_)))
 dsimp only
 refine s_ite (fun hc=>wpS_pure (h st1 O1 ep (up_of (by rw [ea]; omega) fun p q u v h1 h2 h3 eu ev=>?_) fun j _=>by rw [ea])) fun hc=>?_
 ·have ek:k=na:=by
   have:na - k=0:=by simpa using hc
   omega
  rw [ea] at eu ev
  by_cases c1:q < sa + na
  ·exact up_get u1 h1 h2 c1 eu ev
  ·by_cases c2:p < sa + na
   ·have q1:=g1 (p - sa) u (by omega) (by rw [show sa + (p - sa)=p by omega]; exact eu)
    have q2:=up_get u2 (Nat.le_refl _) (by omega) h3 eb0 ev
    omega
   ·exact up_get u2 (by omega) h2 h3 eu ev
 have hkn:k < na:=by
  have:¬ na - k=0:=by simpa using hc
  omega
 obtain ⟨al,eal,mal⟩:=get_at (a:=arrOf st) (i:=sa + k + (na - k) - 1) (by omega)
 have eal':(arrOf st)[sa + na - 1]?=some al:=by
  rw [<- eal]
  congr 1
  omega
 refine wpS_bind (s_elem eal (wpS_bind (s_gallopL T k1 (mX al mal) mX (fun p q u v h1 h2 h3 eu ev=>up_get u2 h1 h2 h3 eu ev) (by show sa + na + nb<=(arrOf st).size; omega) (by omega) fun k' hk' g3 g4=>?_)))
 dsimp only
 have b0a:rk b0 < rk al:=g2 (na - 1) al (by omega) (by omega) (by rw [show sa + (na - 1)=sa + na - 1 by omega]; exact eal')
 have k'1:1<=k':=by
  refine Nat.one_le_iff_ne_zero.mpr fun hz0=>?_
  have:=g4 0 b0 (by omega) (by omega) (by simpa using eb0)
  omega
 refine s_ite (fun hc=>absurd (show k'=0 by simpa using hc) (by omega)) fun _=>?_
 have X3:sa + na<=(arrOf st).size:=by omega
 have Y3:sa + na + k'<=(arrOf st).size:=by omega
 have xs:=ext_up (i:=sa + k) (j:=sa + na) u1 (by omega) (Nat.le_refl _) X3
 have ys:=ext_up (i:=sa + na) (j:=sa + na + k') u2 (Nat.le_refl _) (by omega) Y3
 have xm:∀ x ∈ ((arrOf st).extract (sa + k) (sa + na)).toList,x ∈ a0.toList:=fun x hx=>by
  obtain ⟨j,_,_,ej⟩:=ext_mem X3 hx
  exact mX x (mem_arr ej)
 have ym:∀ x ∈ ((arrOf st).extract (sa + na) (sa + na + k')).toList,x ∈ a0.toList:=fun x hx=>by
  obtain ⟨j,_,_,ej⟩:=ext_mem Y3 hx
  exact mX x (mem_arr ej)
 have xz:((arrOf st).extract (sa + k) (sa + na)).size=na - k:=by
  rw [ext_size X3]
  omega
 have yz:((arrOf st).extract (sa + na) (sa + na + k')).size=k':=by
  rw [ext_size Y3]
  omega
 have first:∀ x y,((arrOf st).extract (sa + na) (sa + na + k'))[0]?=some x->y ∈ ((arrOf st).extract (sa + k) (sa + na)).toList->rk x < rk y:=fun x y ex my=>by
  rw [ext_get (by omega) Y3 (by omega),Nat.add_zero,eb0] at ex
  cases ex
  obtain ⟨j,j1,j2,ej⟩:=ext_mem X3 my
  exact g2 (j - sa) y (by omega) (by omega) (by rw [show sa + (j - sa)=j by omega]; exact ej)
 have last:∀ x ∈ ((arrOf st).extract (sa + na) (sa + na + k')).toList,∀ y,((arrOf st).extract (sa + k) (sa + na))[((arrOf st).extract (sa + k) (sa + na)).size - 1]?=some y->rk x < rk y:=fun x mx y ey=>by
  rw [xz,ext_get (by omega) X3 (by omega),show sa + k + (na - k - 1)=sa + na - 1 by omega,eal'] at ey
  cases ey
  obtain ⟨j,j1,j2,ej⟩:=ext_mem Y3 mx
  exact g3 (j - (sa + na)) x (by omega) (by rw [show sa + na + (j - (sa + na))=j by omega]; exact ej)
 have tail:∀ (merged:Array Keyed) (st2:SortSt),Kept st1 st2->Mg rk ((arrOf st).extract (sa + k) (sa + na)).toList ((arrOf st).extract (sa + na) (sa + na + k')).toList merged.toList ->
   Q true (setArr st2 (merged.toList.zipIdx.foldl (fun a (p:Keyed × Nat)=>a.setIfInBounds (sa + k + p.2) p.1) (arrOf st2))):=fun merged st2 K2 hM=>by
  have ea2:arrOf st2=arrOf st:=K2.arr.trans ea
  have ml:merged.toList.length=na - k + k':=by
   rw [hM.1.length_eq,List.length_append,Array.length_toList,Array.length_toList,xz,yz]
  have at_:∀ j:Nat,(merged.toList.zipIdx.foldl (fun a (p:Keyed × Nat)=>a.setIfInBounds (sa + k + p.2) p.1) (arrOf st2))[j]?=if sa + k<=j/\j < sa + na + k' then merged.toList[j - (sa + k)]? else (arrOf st)[j]?:=fun j=>by
   have:=puts_at (sa + k) merged.toList 0 (arrOf st2) j (by rw [ea2,ml]; omega)
   rw [this,ea2,Nat.add_zero,ml]
   by_cases c:sa + k<=j/\j < sa + na + k'
   ·rw [if_pos c,if_pos (by omega)]
   ·rw [if_neg c,if_neg (by omega)]
  have zA:=puts_size (sa + k) merged.toList 0 (arrOf st2)
  generalize hN:merged.toList.zipIdx.foldl (fun a (p:Keyed × Nat)=>a.setIfInBounds (sa + k + p.2) p.1) (arrOf st2)=N at at_ zA ⊢
  have zN:N.size=a0.size:=by
   rw [zA,ea2,hsz]
  have nl:N.toList=(arrOf st).toList.take (sa + k)++merged.toList++(arrOf st).toList.drop (sa + na + k'):=by
   refine List.ext_getElem? fun j=>?_
   rw [Array.getElem?_toList,at_ j]
   by_cases c1:j < sa + k
   ·rw [if_neg (by omega),List.append_assoc,List.getElem?_append_left (by rw [List.length_take,Array.length_toList]; omega),List.getElem?_take,if_pos c1,Array.getElem?_toList]
   ·rw [List.append_assoc,List.getElem?_append_right (by rw [List.length_take,Array.length_toList]; omega),List.length_take,Array.length_toList,show min (sa + k) (arrOf st).size=sa + k by omega]
    by_cases c2:j < sa + na + k'
    ·rw [if_pos ⟨by omega,c2⟩,List.getElem?_append_left (by rw [ml]; omega)]
    ·rw [if_neg (by omega),List.getElem?_append_right (by rw [ml]; omega),List.getElem?_drop,Array.getElem?_toList,ml]
     congr 1
     omega
  have ol:(arrOf st).toList=(arrOf st).toList.take (sa + k)++(((arrOf st).extract (sa + k) (sa + na)).toList++((arrOf st).extract (sa + na) (sa + na + k')).toList)++(arrOf st).toList.drop (sa + na + k'):=by
   rw [ext_toList _ _ _ (by omega),ext_toList _ _ _ (by omega)]
   have d1:(arrOf st).toList.drop (sa + na)=((arrOf st).toList.drop (sa + k)).drop (na - k):=by
    rw [List.drop_drop]
    congr 1
    omega
   have d2:(arrOf st).toList.drop (sa + na + k')=((arrOf st).toList.drop (sa + na)).drop k':=by
    rw [List.drop_drop]
   rw [d2,show sa + na + k' - (sa + na)=k' by omega,List.append_assoc,List.append_assoc,List.take_append_drop,d1,show sa + na - (sa + k)=na - k by omega,List.take_append_drop,List.take_append_drop]
  refine h _ ⟨?_,K2.kind.trans k1,K2.bad.trans ef⟩ (K2.pend.trans ep) (up_of (by show _<=N.size; omega) fun p q u v h1 h2 h3 eu ev=>?_) fun j hj=>?_
  ·refine Array.Perm.trans ?_ O.perm
   rw [Array.perm_iff_toList_perm]
   show N.toList.Perm _
   have pm:=List.Perm.append_right ((arrOf st).toList.drop (sa + na + k')) (List.Perm.append_left ((arrOf st).toList.take (sa + k)) hM.1)
   rw [<- ol,<- nl] at pm
   exact pm
  ·have eu':N[p]?=some u:=eu
   have ev':N[q]?=some v:=ev
   rw [at_] at eu' ev'
   have mid:∀ {j:Nat} {x:Keyed},sa + k<=j->j < sa + na + k'->merged.toList[j - (sa + k)]?=some x->(∃ m,sa + k<=m/\m < sa + na/\(arrOf st)[m]?=some x)\/∃ m,sa + na<=m/\m < sa + na + k'/\(arrOf st)[m]?=some x:=fun _ _ e=>by
    rcases List.mem_append.mp (hM.1.mem_iff.mp (List.mem_of_getElem? e)) with z | z
    ·exact .inl (ext_mem X3 z)
    ·exact .inr (ext_mem Y3 z)
   by_cases c1:p < sa + k
   ·rw [if_neg (by omega)] at eu'
    by_cases c2:q < sa + k
    ·rw [if_neg (by omega)] at ev'
     exact up_get u1 h1 h2 (by omega) eu' ev'
    ·have low:∀ {m:Nat} {x:Keyed},sa + na<=m->m < sa + na + nb->(arrOf st)[m]?=some x->rk u<=rk x:=fun m1 m2 em=>by
      have q1:=g1 (p - sa) u (by omega) (by rw [show sa + (p - sa)=p by omega]; exact eu')
      exact Int.le_trans q1 (up_get u2 (Nat.le_refl _) m1 m2 eb0 em)
     by_cases c3:q < sa + na + k'
     ·rw [if_pos ⟨by omega,c3⟩] at ev'
      rcases mid (by omega) c3 ev' with ⟨m,m1,m2,em⟩ | ⟨m,m1,m2,em⟩
      ·exact up_get u1 h1 (by omega) m2 eu' em
      ·exact low m1 (by omega) em
     ·rw [if_neg (by omega)] at ev'
      exact low (by omega) h3 ev'
   ·by_cases c4:p < sa + na + k'
    ·rw [if_pos ⟨by omega,c4⟩] at eu'
     by_cases c3:q < sa + na + k'
     ·rw [if_pos ⟨by omega,c3⟩] at ev'
      by_cases epq:p=q
      ·subst epq
       rw [eu'] at ev'
       cases ev'
       exact Int.le_refl _
      ·have sp:=hM.2
       rw [List.pairwise_iff_getElem] at sp
       obtain ⟨a1,a2⟩:=List.getElem?_eq_some_iff.mp eu'
       obtain ⟨b1,b2⟩:=List.getElem?_eq_some_iff.mp ev'
       have:=sp _ _ a1 b1 (by omega)
       rw [a2,b2] at this
       exact this
     ·rw [if_neg (by omega)] at ev'
      have q4:=g4 (q - (sa + na)) v (by omega) (by omega) (by rw [show sa + na + (q - (sa + na))=q by omega]; exact ev')
      rcases mid (by omega) c4 eu' with ⟨m,m1,m2,em⟩ | ⟨m,m1,m2,em⟩
      ·exact Int.le_trans (up_get u1 (by omega) (by omega) (by omega) em eal') q4
      ·exact up_get u2 m1 (by omega) h3 em ev'
    ·rw [if_neg (by omega)] at eu' ev'
     exact up_get u2 (by omega) h2 h3 eu' ev'
  ·show N[j]?=_
   rw [at_,if_neg (by omega)]
 refine s_ite (fun _=>?_) fun _=>?_
 ·refine wpS_bind (s_mergeLo T k1 xm ym xs ys (Nat.lt_of_lt_of_eq (show 0 < na - k by omega) xz.symm) (Nat.lt_of_lt_of_eq (show 0 < k' by omega) yz.symm) (fun x y ex my=>Int.le_of_lt (first x y ex my)) last fun out st2 K2 hM=>?_)
  refine wpS_bind (wpS_modify (wpS_bind (wpS_get ?_)))
  rw [show (failedOf st2).isNone=true by rw [K2.bad,ef]; rfl]
  exact wpS_pure (tail out st2 K2 hM)
 ·refine wpS_bind (s_mergeHi T k1 xm ym xs ys (Nat.lt_of_lt_of_eq (show 0 < na - k by omega) xz.symm) (Nat.lt_of_lt_of_eq (show 0 < k' by omega) yz.symm) first last fun out st2 K2 hM=>?_)
  refine wpS_bind (wpS_modify (wpS_bind (wpS_get ?_)))
  rw [show (failedOf st2).isNone=true by rw [K2.bad,ef]; rfl]
  exact wpS_pure (tail out st2 K2 hM)
end
end GS
end L2
namespace L2
open PySem PySem.Spec PyProof.Rows PySem.W
namespace GS
noncomputable def Tiles:List (Nat × Nat × Nat)->Nat->Nat->Prop
 | [],s,e=>s=e
 | r :: l,s,e=>r.1=s/\1<=r.2.1/\Tiles l (s + r.2.1) e
theorem tiles_append:∀ {l1 l2:List (Nat × Nat × Nat)} {s e:Nat},Tiles (l1++l2) s e ↔ ∃ m,Tiles l1 s m/\Tiles l2 m e
 | [],l2,s,e=>⟨fun h=>⟨s,rfl,h⟩,fun ⟨m,h1,h2⟩=>by
  have e:s=m:=h1
  subst e
  exact h2⟩
 | r :: l1,l2,s,e=>by
  constructor
  ·rintro ⟨h1,h2,h3⟩
   obtain ⟨m,h4,h5⟩:=tiles_append.mp h3
   exact ⟨m,⟨h1,h2,h4⟩,h5⟩
  ·rintro ⟨m,⟨h1,h2,h3⟩,h4⟩
   exact ⟨h1,h2,tiles_append.mpr ⟨m,h3,h4⟩⟩
theorem tiles_le:∀ {l:List (Nat × Nat × Nat)} {s e:Nat},Tiles l s e->s<=e/\l.length + s<=e/\∀ r ∈ l,s<=r.1/\r.1 + r.2.1<=e
 | [],s,e,h=>by
  have e':s=e:=h
  subst e'
  exact ⟨Nat.le_refl _,by simp,fun r hr=>nomatch hr⟩
 | r :: l,s,e,⟨h1,h2,h3⟩=>by
  obtain ⟨a1,a2,a3⟩:=tiles_le h3
  refine ⟨by omega,by rw [List.length_cons]; omega,fun q hq=>?_⟩
  rcases List.mem_cons.mp hq with rfl | hq
  ·omega
  ·have:=a3 q hq
   omega
section
variable {prog:Program}{w:World}{A:Around}{E:Value->Shared->Prop}{s:Shared}{rk:Keyed->Int}{κ:SortKind}{a0:Array Keyed}
structure PI (rk:Keyed->Int)(κ:SortKind)(a0:Array Keyed)(lo:Nat)(st:SortSt):Prop where
 ok:Ok κ a0 st
 til:Tiles (pendingOf st).toList 0 lo
 up:∀ r ∈ (pendingOf st).toList,Up rk (arrOf st) r.1 (r.1 + r.2.1)
theorem up_same {xs ys:Array Keyed}{lo hi:Nat}(u:Up rk xs lo hi)(h:∀ j:Nat,lo<=j->j < hi->ys[j]?=xs[j]?):Up rk ys lo hi:=fun i j h1 h2 h3=>by
 rw [Rk_congr (h i h1 (by omega)),Rk_congr (h j (by omega) h3)]
 exact u i j h1 h2 h3
theorem two_at {p:List (Nat × Nat × Nat)}{i:Nat}(h:i + 1 < p.length):∃ l1 r1 r2 l2,p=l1++r1 :: r2 :: l2/\l1.length=i/\p[i]?=some r1/\p[i + 1]?=some r2:=by
 refine ⟨p.take i,p[i],p[i + 1],p.drop (i + 2),?_,by rw [List.length_take]; omega,List.getElem?_eq_getElem (by omega),List.getElem?_eq_getElem h⟩
 rw [<- List.drop_eq_getElem_cons h,<- List.drop_eq_getElem_cons (by omega),List.take_append_drop]
theorem s_mergeP {st:SortSt}{lo i:Nat}{Q:Bool->SortSt->Prop}(T:Tells prog w A s κ rk a0)(P:PI rk κ a0 lo st)(hi:i + 1 < (pendingOf st).size)(hlo:lo<=a0.size)
  (h:∀ st',PI rk κ a0 lo st'->(pendingOf st').size + 1=(pendingOf st).size->(∀ j:Nat,lo<=j->(arrOf st')[j]?=(arrOf st)[j]?)->Q true st'):wpS (model prog w) A E s (mergeAt' i) Q st:=by
 obtain ⟨l1,⟨sa,na,p1⟩,⟨sb,nb,p2⟩,l2,ep,el,e1,e2⟩:=two_at (p:=(pendingOf st).toList) (i:=i) (by rw [Array.length_toList]; exact hi)
 have til:=P.til
 rw [ep] at til
 obtain ⟨m,t1,⟨a1,a2,a3,a4,a5⟩⟩:=tiles_append.mp til
 dsimp only at a1 a2 a3 a4 a5
 subst a1
 subst a3
 rw [Array.getElem?_toList] at e1 e2
 have u1:=P.up (sa,na,p1) (by rw [ep]; simp)
 have u2:=P.up (sa + na,nb,p2) (by rw [ep]; simp)
 dsimp only at u1 u2
 obtain ⟨b1,b2,b3⟩:=tiles_le a5
 obtain ⟨c1,c2,c3⟩:=tiles_le t1
 refine s_mergeAt T P.ok e1 e2 a2 a4 (by omega) u1 u2 fun st' O' ep' up' out'=>?_
 have el':(pendingOf st').toList=l1++(sa,na + nb,p1) :: l2:=by
  rw [ep',Array.toList_eraseIdxIfInBounds,Array.toList_setIfInBounds,ep,<- el]
  rw [List.set_append_right _ _ (Nat.le_refl _),Nat.sub_self,List.set_cons_zero,List.eraseIdx_append_of_length_le (by omega),show l1.length + 1 - l1.length=1 by omega]
  rfl
 refine h st' ⟨O',?_,fun r hr=>?_⟩ ?_ fun j hj=>out' j (by omega)
 ·rw [el']
  exact tiles_append.mpr ⟨sa,t1,rfl,by show 1<=na + nb; omega,by rw [show sa + (na + nb)=sa + na + nb by omega]; exact a5⟩
 ·rw [el'] at hr
  rcases List.mem_append.mp hr with hr | hr
  ·have:=c3 r hr
   exact up_same (P.up r (by rw [ep]; exact List.mem_append_left _ hr)) fun j h1 h2=>out' j (by omega)
  ·rcases List.mem_cons.mp hr with rfl | hr
   ·show Up rk (arrOf st') sa (sa + (na + nb))
    rw [show sa + (na + nb)=sa + na + nb by omega]
    exact up'
   ·have:=b3 r hr
    exact up_same (P.up r (by rw [ep]; simp [hr])) fun j h1 h2=>out' j (by omega)
 ·rw [<- Array.length_toList,el',<- Array.length_toList,ep]
  simp only [List.length_append,List.length_cons]
  omega
theorem PI.step {lo lo':Nat}{st st':SortSt}(P:PI rk κ a0 lo st)(S:Step κ a0 lo' st st')(h:lo<=lo'):PI rk κ a0 lo st':=by
 refine ⟨S.ok,by rw [S.pend]; exact P.til,fun r hr=>?_⟩
 rw [S.pend] at hr
 have:=(tiles_le P.til).2.2 r hr
 exact up_same (P.up r hr) fun j h1 h2=>S.low j (by omega)
theorem tiles_power (pw:Nat):∀ {l:List (Nat × Nat × Nat)} {k s e:Nat},Tiles l s e->Tiles (l.modify k fun r=>(r.1,r.2.1,pw)) s e
 | [],k,s,e,h=>by
  cases k <;> exact h
 | r :: l,0,s,e,⟨h1,h2,h3⟩=>⟨h1,h2,h3⟩
 | r :: l,k + 1,s,e,⟨h1,h2,h3⟩=>⟨h1,h2,tiles_power pw h3⟩
theorem mem_power {pw:Nat}:∀ {l:List (Nat × Nat × Nat)} {k:Nat} {r:Nat × Nat × Nat},r ∈ l.modify k (fun r=>(r.1,r.2.1,pw))->∃ q ∈ l,q.1=r.1/\q.2.1=r.2.1
 | [],k,r,h=>by
  cases k <;> cases h
 | q :: l,0,r,h=>by
  rcases List.mem_cons.mp h with rfl | h
  ·exact ⟨q,List.mem_cons_self,rfl,rfl⟩
  ·exact ⟨r,List.mem_cons_of_mem _ h,rfl,rfl⟩
 | q :: l,k + 1,r,h=>by
  rcases List.mem_cons.mp h with rfl | h
  ·exact ⟨r,List.mem_cons_self,rfl,rfl⟩
  ·obtain ⟨q',h1,h2⟩:=mem_power h
   exact ⟨q',List.mem_cons_of_mem _ h1,h2⟩
theorem ite_le (c:Prop) [Decidable c](n:Nat):(if c then n - 1 else n)<=n:=by
 split <;> omega
theorem s_sort {st:SortSt}{Q:Unit->SortSt->Prop}(T:Tells prog w A s κ rk a0)(O:Ok κ a0 st)(hp:pendingOf st=#[])(h:∀ st',Ok κ a0 st'->Up rk (arrOf st') 0 a0.size->Q () st'):wpS (model prog w) A E s sortRuns' Q st:=by
 rw [sortRuns'_eq]
 refine wpS_bind (wpS_get ?_)
 dsimp only
 rw [O.size]
 generalize minRun' a0.size a0.size 0=mr
 refine wpS_bind (wpS_mono (wpS_forRange (I:=fun x c st'=>∃ lo,c=(none,lo)/\PI rk κ a0 lo st'/\lo<=a0.size/\x<=lo)
  (Q:=fun c st'=>c=(none,a0.size)/\PI rk κ a0 a0.size st') ?step ?fin ⟨0,rfl,⟨O,by rw [hp]; rfl,fun r hr=>by rw [hp] at hr; cases hr⟩,Nat.zero_le _,Nat.le_refl _⟩) ?post)
 case fin =>
  rintro c st' ⟨lo,rfl,P,h1,h2⟩
  obtain rfl:lo=a0.size:=by omega
  exact ⟨rfl,P⟩
 case step =>
  rintro x c st1 _ hx ⟨lo,rfl,P,h1,h2⟩
  dsimp only
  refine s_ite (fun hge=>?_) fun hge=>?_
  ·obtain rfl:lo=a0.size:=by omega
   exact wpS_pure ⟨rfl,P⟩
  refine wpS_bind (s_run T P.ok (by omega) (by omega) fun m st2 S m1 m2 hu=>?_)
  dsimp only
  have P2:=P.step S (Nat.le_refl _)
  refine s_ite (fun hmr=>?_) fun hmr=>?_
  refine wpS_bind (wpS_lift (wpAny_rule ⟨rfl,?_⟩))
  refine wpS_bind (s_bin T S.ok (by omega) (by omega) hu fun st3 S3 hu3=>?_)
  rw [if_neg (by decide)]
  have P3:=P2.step S3 (Nat.le_refl _)
  have n1:1<=min (a0.size - lo) mr:=by omega
  have n2:lo + min (a0.size - lo) mr<=a0.size:=by omega
  clear P2 S3
  generalize min (a0.size - lo) mr=n at hu3 n1 n2 ⊢
  rotate_left
  have P3:=P2
  have hu3:=hu
  have n1:=m1
  have n2:lo + m<=a0.size:=by omega
  clear P2
  generalize m=n at hu3 n1 n2 ⊢
  generalize st2=st3 at P3 hu3 ⊢
  rotate_left
  all_goals
   refine wpS_bind (wpS_get ?_)
   have fin:∀ st4,PI rk κ a0 lo st4->Up rk (arrOf st4) lo (lo + n)->PI rk κ a0 (lo + n) (setPending st4 ((pendingOf st4).push (lo,n,0))):=fun st4 P4 u4=>by
    refine ⟨⟨P4.ok.perm,P4.ok.kind,P4.ok.good⟩,?_,fun r hr=>?_⟩
    ·show Tiles ((pendingOf st4).push (lo,n,0)).toList 0 (lo + n)
     rw [Array.toList_push]
     exact tiles_append.mpr ⟨lo,P4.til,rfl,n1,rfl⟩
    ·have hr':r ∈ ((pendingOf st4).push (lo,n,0)).toList:=hr
     rw [Array.toList_push] at hr'
     rcases List.mem_append.mp hr' with hr' | hr'
     ·exact P4.up r hr'
     ·have er:r=(lo,n,0):=by simpa using hr'
      subst er
      exact u4
   cases hbk:(pendingOf st3).back? with
   | none =>
    dsimp only
    exact wpS_bind (wpS_modify (wpS_pure ⟨lo + n,rfl,fin st3 P3 hu3,n2,by omega⟩))
   | some r =>
    obtain ⟨s1,k1,q1⟩:=r
    dsimp only
    generalize power' a0.size (2 * s1 + k1) (2 * s1 + k1 + k1 + n) a0.size=pw
    refine wpS_bind (wpS_mono (wpS_forRange (I:=fun _ c st4=>c=(none,())/\PI rk κ a0 lo st4/\Up rk (arrOf st4) lo (lo + n)) (Q:=fun c st4=>c=(none,())/\PI rk κ a0 lo st4/\Up rk (arrOf st4) lo (lo + n)) ?_ (fun _ _ hh=>hh) ⟨rfl,P3,hu3⟩) ?_)
    ·rintro y c st4 _ _ ⟨rfl,P4,u4⟩
     refine wpS_bind (wpS_get ?_)
     by_cases hz:(pendingOf st4).size > 1
     ·rw [if_pos hz,getElem?_pos (pendingOf st4) ((pendingOf st4).size - 2) (by omega)]
      generalize (pendingOf st4)[(pendingOf st4).size - 2]'(by omega)=r2
      obtain ⟨r2a,r2b,r2c⟩:=r2
      dsimp only
      refine s_ite (fun _=>wpS_pure ⟨rfl,P4,u4⟩) fun _=>?_
      refine wpS_bind (s_mergeP T P4 (by omega) h1 fun st5 P5 _ out5=>?_)
      rw [if_neg (by decide)]
      exact wpS_pure ⟨rfl,P5,up_same u4 fun j j1 _=>out5 j j1⟩
     ·rw [if_neg hz]
      exact wpS_pure ⟨rfl,P4,u4⟩
    ·rintro c st4 ⟨rfl,P4,u4⟩
     dsimp only
     refine wpS_bind (wpS_modify (wpS_bind (wpS_modify (wpS_pure ⟨lo + n,rfl,fin _ ⟨⟨P4.ok.perm,P4.ok.kind,P4.ok.good⟩,?_,fun r hr=>?_⟩ u4,n2,by omega⟩))))
     ·show Tiles ((pendingOf st4).modify ((pendingOf st4).size - 1) fun r=>(r.1,r.2.1,pw)).toList 0 lo
      rw [Array.toList_modify]
      exact tiles_power pw P4.til
     ·have hr':r ∈ ((pendingOf st4).modify ((pendingOf st4).size - 1) fun r=>(r.1,r.2.1,pw)).toList:=hr
      rw [Array.toList_modify] at hr'
      obtain ⟨q,hq,e1,e2⟩:=mem_power hr'
      have:=P4.up q hq
      rw [e1,e2] at this
      exact this
 case post =>
  rintro c st1 ⟨rfl,P⟩
  dsimp only
  have len0:=(tiles_le P.til).2.1
  rw [Array.length_toList] at len0
  refine wpS_bind (wpS_mono (wpS_forRange (I:=fun x c st2=>c=(none,())/\PI rk κ a0 a0.size st2/\((pendingOf st2).size + x<=a0.size\/(pendingOf st2).size<=1)) (Q:=fun c st2=>c=(none,())/\PI rk κ a0 a0.size st2/\(pendingOf st2).size<=1) ?step2 ?fin2 ⟨rfl,P,.inl (by omega)⟩) ?post2)
  case fin2 =>
   rintro c st2 ⟨rfl,P2,hz⟩
   exact ⟨rfl,P2,by omega⟩
  case step2 =>
   rintro x c st2 _ hx ⟨rfl,P2,hz⟩
   refine wpS_bind (wpS_get ?_)
   refine s_ite (fun h1=>wpS_pure ⟨rfl,P2,h1⟩) fun h1=>?_
   refine wpS_bind (s_mergeP T P2 ?_ (Nat.le_refl _) fun st3 P3 z3 _=>?_)
   ·exact Nat.lt_of_le_of_lt (Nat.add_le_add_right (ite_le _ _) 1) (show (pendingOf st2).size - 2 + 1 < (pendingOf st2).size by omega)
   ·rw [if_neg (by decide)]
    exact wpS_pure ⟨rfl,P3,by omega⟩
  case post2 =>
   rintro c st2 ⟨rfl,P2,hz⟩
   dsimp only
   refine wpS_pure (h st2 P2.ok ?_)
   have til:=P2.til
   have up:=P2.up
   have zl:(pendingOf st2).toList.length<=1:=by rw [Array.length_toList]; exact hz
   cases hl:(pendingOf st2).toList with
   | nil =>
    rw [hl] at til
    have e:0=a0.size:=til
    exact fun i j _ _ h3=>absurd h3 (by omega)
   | cons r l =>
    rw [hl] at til zl up
    obtain rfl:l=[]:=List.length_eq_zero_iff.mp (by rw [List.length_cons] at zl; omega)
    obtain ⟨t1,t2,t3⟩:=til
    have t3':0 + r.2.1=a0.size:=t3
    have u:=up r List.mem_cons_self
    rw [t1,t3'] at u
    exact u
end
end GS
end L2
namespace L2
open PySem PySem.Spec PyProof.Rows PySem.W
namespace GS
structure Wk {K:Type}(lt:K->K->Bool):Prop where
 tot:∀ x y,lt x y=true->lt y x=false
 tr:∀ x y z,lt y x=false->lt z y=false->lt z x=false
noncomputable def rkK {K:Type}(lt:K->K->Bool)(ks:List K)(k:K):Int:=((ks.countP fun q=>lt q k:Nat):Int)
theorem count_le {K:Type}{p q:K->Bool}:∀ {ks:List K},(∀ x ∈ ks,p x=true->q x=true)->ks.countP p<=ks.countP q
 | [],_=>Nat.le_refl _
 | x :: ks,h=>by
  have ih:=count_le (ks:=ks) fun y hy=>h y (List.mem_cons_of_mem _ hy)
  rw [List.countP_cons,List.countP_cons]
  have hx:=h x List.mem_cons_self
  by_cases c:p x=true
  ·rw [if_pos c,if_pos (hx c)]
   omega
  ·rw [if_neg c]
   omega
theorem count_lt {K:Type}{p q:K->Bool}{ks:List K}(h:∀ x ∈ ks,p x=true->q x=true)(hq:∃ x ∈ ks,p x=false/\q x=true):ks.countP p < ks.countP q:=by
 obtain ⟨y,hy,h1,h2⟩:=hq
 induction ks with
 | nil=>cases hy
 | cons x ks ih =>
  rw [List.countP_cons,List.countP_cons]
  have hx:=h x List.mem_cons_self
  rcases List.mem_cons.mp hy with rfl | hy
  ·have ih:=count_le (ks:=ks) fun y hy=>h y (List.mem_cons_of_mem _ hy)
   rw [h1,h2,if_neg Bool.false_ne_true,if_pos rfl]
   omega
  ·have ih:=ih (fun y hy=>h y (List.mem_cons_of_mem _ hy)) hy
   by_cases c:p x=true
   ·rw [if_pos c,if_pos (hx c)]
    omega
   ·rw [if_neg c]
    omega
theorem Wk.rank {K:Type}{lt:K->K->Bool}(W:Wk lt){ks:List K}{x y:K}(hx:x ∈ ks):lt x y=decide (rkK lt ks x < rkK lt ks y):=by
 unfold rkK
 cases h:lt x y with
 | true =>
  refine (decide_eq_true ?_).symm
  have:=count_lt (ks:=ks) (p:=fun q=>lt q x) (q:=fun q=>lt q y) (fun q _ hq=>?_) ⟨x,hx,?_,h⟩
  ·omega
  ·cases hc:lt q y with
   | true=>rfl
   | false =>
    have:=W.tr x y q (W.tot x y h) hc
    have hq':lt q x=true:=hq
    rw [this] at hq'
    cases hq'
  ·cases hc:lt x x with
   | false=>rfl
   | true=>exact hc.symm.trans (W.tot x x hc)
 | false =>
  refine (decide_eq_false ?_).symm
  have:=count_le (ks:=ks) (p:=fun q=>lt q y) (q:=fun q=>lt q x) fun q _ hq=>by
   cases hc:lt q x with
   | true=>rfl
   | false =>
    have:=W.tr y x q h hc
    have hq':lt q y=true:=hq
    rw [this] at hq'
    cases hq'
  omega
section
variable {prog:Program}{w:World}{A:Around}{E:Value->Shared->Prop}{s:Shared}
theorem srtG_list {a:Addr}{vs:List Value}{n:Nat}{P:PySem.Fin->Shared->Prop}(ho:s.heap.get? a=some (seqObj "list" vs.toArray n))(hz:vs.length<=sizeLine)(r:Value->Int)
  (hk:2<=vs.length->∀ s':Shared,(∀ b o,b ≠ a->s.heap.get? b=some o->s'.heap.get? b=some o)->wpAny (model prog w) A (keyKind' vs.toArray) (fun κ s2=>s2=s'/\Tells prog w A s' κ (fun p=>r p.1) (pairsOf vs)) (fun _ _=>False) s')
  (h:∀ (ws:List Value) (h':Heap) (c:Nat),ws.Perm vs->ws.Pairwise (fun x y=>r x<=r y)->(∀ b o,b ≠ a->s.heap.get? b=some o->h'.get? b=some o)->h'.get? a=some (seqObj "list" ws.toArray c)->P (.done (.ret .none)) { s with heap:=h' }) :
  wpAny (model prog w) A (Builtin.«list.sort» ⟨[.ref a],[]⟩) P E s:=by
 have lta:a < s.heap.objs.size:=Heap.lt_size ho
 have hu1:=get?_update_seq ho fun _=>(#[]:Array Value)
 generalize hX:s.heap.update a (Obj.mapSeq fun _=>(#[]:Array Value))=X1 at hu1
 have zX:X1.objs.size=s.heap.objs.size:=by rw [<- hX,Heap.size_update]
 have kX:∀ b o,b ≠ a->s.heap.get? b=some o->X1.get? b=some o:=fun b o hb e=>by
  rw [<- hX,Heap.get?_update_ne _ _ _ _ hb]
  exact e
 obtain ⟨e1,hu⟩:∃ e1,X1.get? a=some (seqObj "list" #[] e1):=⟨_,hu1⟩
 generalize hY:(X1.push (seqObj "tuple" vs.toArray 0)).push (seqObj "list" #[] 0)=Y
 have hYa:Y.get? a=some (seqObj "list" #[] e1):=by
  rw [<- hY]
  exact Heap.get?_push_of_some _ (Heap.get?_push_of_some _ hu)
 have kY:∀ b o,b ≠ a->s.heap.get? b=some o->Y.get? b=some o:=fun b o hb e=>by
  rw [<- hY]
  exact Heap.get?_push_of_some _ (Heap.get?_push_of_some _ (kX b o hb e))
 have last:∀ (st:SortSt),(((arrOf st).map (·.2)).toList.Perm vs)->(((arrOf st).map (·.2)).toList.Pairwise fun x y=>r x<=r y)->failedOf st=none ->
   wpAny (model prog w) A (do
    let touched:=(<- seqEpoch a) != e1
    Builtin.List.listUpdate (.ref a) fun _=>(arrOf st).map (·.2)
    if let some e:=failedOf st then rule "list.sort.comparison-raised"; throw e
    if touched then rule "list.sort.modified"; raiseError "ValueError" "list modified during sort"
    ret .none) P E { s with heap:=Y }:=by
  intro st hp hs hf
  generalize ew:(arrOf st).map (·.2)=wsA at hp hs
  rw [hf]
  have hlen:wsA.size=vs.length:=by rw [<- Array.length_toList,hp.length_eq]
  have hu2:=get?_update_seq hYa fun _=>wsA
  refine wpAny_bind (seqEpoch_at hYa rfl (wpAny_bind (listUpdate_at hYa rfl ?_ (Nat.zero_le _) (by rw [hlen]; omega))))
  simp only [bne_self_eq_false,Bool.false_eq_true,if_false]
  refine wpAny_pure (h wsA.toList _ _ hp hs (fun b o hb e=>?_) hu2)
  rw [Heap.get?_update_ne _ _ _ _ hb]
  exact kY b o hb e
 rw [list_sort_plain]
 refine wpAny_bind (listItems_at ho rfl (wpAny_bind (listUpdate_at ho rfl ?_ (by rw [List.size_toArray]; exact hz) (Nat.zero_le _))))
 rw [hX]
 refine wpAny_bind (seqEpoch_at hu rfl (wpAny_bind (wpAny_newTuple (wpAny_bind (wpAny_newList ?_ (Nat.zero_le _))) hz)))
 show wpAny (model prog w) A _ P E { s with heap:=(X1.push (seqObj "tuple" vs.toArray 0)).push (seqObj "list" #[] 0) }
 rw [hY]
 refine wpAny_holding ?_
 dsimp only
 have e2:((pairsOf vs).map (·.2)).toList=vs:=by
  rw [Array.toList_map,pairsOf_toList]
  exact List.map_snd_zip (Nat.le_refl _)
 by_cases c2:vs.toArray.size < 2
 ·have c2':vs.length < 2:=by rw [List.size_toArray] at c2; exact c2
  rw [if_pos c2,if_pos c2]
  refine wpAny_bind (wpAny_pure ?_)
  rw [StateT.run_pure]
  refine wpAny_bind (wpAny_pure ?_)
  refine last (SortSt.mk' general' (pairsOf vs) #[] 7 none) (by show ((pairsOf vs).map (·.2)).toList.Perm vs; rw [e2]) (by
   show ((pairsOf vs).map (·.2)).toList.Pairwise _
   rw [e2,List.pairwise_iff_getElem]
   intro i j hi hj hij
   omega) rfl
 ·have c2':2<=vs.length:=by rw [List.size_toArray] at c2; omega
  rw [if_neg c2,if_neg c2]
  refine wpAny_bind (wpAny_mono (hk c2' { s with heap:=Y } kY) (fun κ s2 ⟨e3,T⟩=>?_) fun _ _ x=>x.elim)
  subst e3
  have run:=s_sort (E:=E) (st:=SortSt.mk' κ (pairsOf vs) #[] 7 none) (Q:=fun _ st'=>(((arrOf st').map (·.2)).toList.Perm vs)/\(((arrOf st').map (·.2)).toList.Pairwise fun x y=>r x<=r y)/\failedOf st'=none) T ⟨Array.Perm.refl _,rfl,rfl⟩ rfl fun st' O hu=>?_
  ·unfold wpS at run
   refine wpAny_bind (wpAny_mono run ?_ fun _ _ z=>z)
   rintro ⟨⟨⟩,st'⟩ s' ⟨rfl,hp,hs,hf⟩
   exact last st' hp hs hf
  ·have pm:=Array.perm_iff_toList_perm.mp O.perm
   have same:∀ p ∈ (arrOf st').toList,p.1=p.2:=fun p hp=>by
    have:=pm.mem_iff.mp hp
    rw [pairsOf_toList] at this
    exact (mem_zip_self this).1
   refine ⟨?_,?_,O.good⟩
   ·have:=pm.map (·.2)
    rw [Array.toList_map]
    rw [pairsOf_toList,List.map_snd_zip (Nat.le_refl _)] at this
    exact this
   ·rw [Array.toList_map,List.pairwise_map,List.pairwise_iff_getElem]
    intro i j hi hj hij
    have zs:=O.size
    rw [Array.length_toList] at hi hj
    have u:=up_get hu (i:=i) (j:=j) (Nat.zero_le _) (by omega) (by omega) (getElem?_pos _ i hi) (getElem?_pos _ j hj)
    have s1:=same (arrOf st')[i] (by simp)
    have s2:=same (arrOf st')[j] (by simp)
    rw [Array.getElem_toList,Array.getElem_toList,<- s1,<- s2]
    exact u
theorem srtG_call {l:Addr}{vs:List Value}{Q:Value->Shared->Prop}(hl:s.heap.IsList l vs.toArray)(hz:vs.length<=sizeLine)(r:Value->Int)
  (hk:2<=vs.length->∀ s':Shared,(∀ b o,s.heap.get? b=some o->s'.heap.get? b=some o)->wpAny (model prog w) A.in1.in1 (keyKind' vs.toArray) (fun κ s2=>s2=s'/\Tells prog w A.in1.in1 s' κ (fun p=>r p.1) (pairsOf vs)) (fun _ _=>False) s')
  (h:∀ (ws:List Value) (h':Heap) (c:Nat),ws.Perm vs->ws.Pairwise (fun x y=>r x<=r y)->(∀ b o,s.heap.get? b=some o->h'.get? b=some o)->h'.get? (s.heap.objs.size + 1)=some (seqObj "list" ws.toArray c)->Q (.ref (s.heap.objs.size + 1)) { s with heap:=h' }) :
  wpAny (model prog w) A (call (.builtin "sorted") [.ref l]) Q E s:=by
 generalize hX:(s.heap.push (seqObj "list" #[] 0)).update s.heap.objs.size (Obj.mapSeq (·++vs.toArray))=X1
 have zX:X1.objs.size=s.heap.objs.size + 1:=by rw [<- hX,Heap.size_update,Heap.size_push]
 have kX:∀ b o,s.heap.get? b=some o->X1.get? b=some o:=fun b o e=>by
  have lt:=Heap.lt_size e
  rw [<- hX,Heap.get?_update_ne _ _ _ _ (Nat.ne_of_lt lt)]
  exact Heap.get?_push_of_some _ e
 apply Calls.call_function_entry kind_sorted plain_sorted entry_sorted (args_sorted1 _)
 unfold Builtin.«sorted»
 refine wpAny_bind (m:=checkCount "sorted" 1 1 _) (wpAny_pure (wpAny_bind (collect_list hl ?_ hz)))
 rw [hX]
 refine wpAny_bind (wpAny_newList ?_ hz)
 show wpAny _ _ _ _ _ { s with heap:=X1.push (seqObj "list" vs.toArray 0) }
 have hoL:(X1.push (seqObj "list" vs.toArray 0)).get? (s.heap.objs.size + 1)=some (seqObj "list" vs.toArray 0):=by
  rw [<- zX]
  exact Heap.get?_push_size _ rfl
 have kL:∀ b o,s.heap.get? b=some o->(X1.push (seqObj "list" vs.toArray 0)).get? b=some o:=fun b o e=>Heap.get?_push_of_some _ (kX b o e)
 have ne:∀ b o,s.heap.get? b=some o->b ≠ s.heap.objs.size + 1:=fun b o e=>Nat.ne_of_lt (Nat.lt_succ_of_lt (Heap.lt_size e))
 rw [zX]
 refine wpAny_bind (wpAny_holding (wpAny_call_entry slot_list_sort ⟨_,hoL,rfl⟩ entry_list_sort (srtG_list (s:={ s with heap:=X1.push (seqObj "list" vs.toArray 0) }) hoL hz r (fun c s' k=>hk c s' fun b o e=>k b o (ne b o e) (kL b o e)) ?_) (args_list_sort _)))
 intro ws h' c hp hs kk ha
 exact ⟨_,rfl,wpAny_pure ⟨_,rfl,h ws h' c hp hs (fun b o e=>kk b o (ne b o e) (kL b o e)) ha⟩⟩
end
theorem paired_zip {α β:Type}{R:α->β->Prop}{xs:List α}{ys:List β}(hp:Paired R xs ys):(∀ p ∈ xs.zip ys,R p.1 p.2)/\(xs.zip ys).map (·.1)=xs/\(xs.zip ys).map (·.2)=ys:=by
 induction hp with
 | nil=>exact ⟨(fun p h=>nomatch h),rfl,rfl⟩
 | cons h _ ih =>
  obtain ⟨a,b,c⟩:=ih
  refine ⟨fun p hp=>?_,by rw [List.zip_cons_cons,List.map_cons,b],by rw [List.zip_cons_cons,List.map_cons,c]⟩
  rcases List.mem_cons.mp hp with rfl | hp
  ·exact h
  ·exact a p hp
theorem paired_of {α β:Type}{R:α->β->Prop}:∀ {zs:List (α × β)},(∀ p ∈ zs,R p.1 p.2)->Paired R (zs.map (·.1)) (zs.map (·.2))
 | [],_=>.nil
 | p :: zs,h=>.cons (h p List.mem_cons_self) (paired_of fun q hq=>h q (List.mem_cons_of_mem _ hq))
end GS
end L2
namespace L2
open PySem PySem.Spec PyProof.Rows PySem.W
namespace GS
theorem paired_mem {α β:Type}{R:α->β->Prop}:∀ {xs:List α} {ys:List β},Paired R xs ys->∀ x ∈ xs,∃ y ∈ ys,R x y
 | _,_,.nil,x,h=>nomatch h
 | _,_,.cons h t,x,hx=>by
  rcases List.mem_cons.mp hx with rfl | hx
  ·exact ⟨_,List.mem_cons_self,h⟩
  ·obtain ⟨y,h1,h2⟩:=paired_mem t x hx
   exact ⟨y,List.mem_cons_of_mem _ h1,h2⟩
noncomputable def Tri {K:Type}(RV:V->K->Prop)(RH:Value->K->Prop)(t:V × Value × K):Prop:=RelV t.1 t.2.1/\RV t.1 t.2.2/\RH t.2.1 t.2.2
theorem tri_of {K:Type}{RV:V->K->Prop}{RH:Value->K->Prop}{us:List V}{its:List Value}{ks:List K}(h1:Vals us its):Paired RV us ks->Paired RH its ks->∃ T:List (V × Value × K),(∀ t ∈ T,Tri RV RH t)/\T.map (·.1)=us/\T.map (·.2.1)=its/\T.map (·.2.2)=ks:=by
 induction h1 generalizing ks with
 | nil =>
  intro h2 h3
  cases h2
  exact ⟨[],(fun t h=>nomatch h),rfl,rfl,rfl⟩
 | @cons u i us its r1 t1 ih =>
  intro h2 h3
  cases h2 with
  | @cons _ k _ ks r2 t2 =>
   cases h3 with
   | cons r3 t3 =>
    obtain ⟨T,h1,h2,h3,h4⟩:=ih t2 t3
    refine ⟨(u,i,k) :: T,fun t ht=>?_,by rw [List.map_cons,h2],by rw [List.map_cons,h3],by rw [List.map_cons,h4]⟩
    rcases List.mem_cons.mp ht with rfl | ht
    ·exact ⟨r1,r2,r3⟩
    ·exact h1 t ht
theorem tri_vals {K:Type}{RV:V->K->Prop}{RH:Value->K->Prop}:∀ {T:List (V × Value × K)},(∀ t ∈ T,Tri RV RH t)->Vals (T.map (·.1)) (T.map (·.2.1))/\Paired RV (T.map (·.1)) (T.map (·.2.2))
 | [],_=>⟨.nil,.nil⟩
 | t :: T,h=>by
  obtain ⟨h1,h2⟩:=tri_vals fun x hx=>h x (List.mem_cons_of_mem _ hx)
  obtain ⟨a,b,c⟩:=h t List.mem_cons_self
  exact ⟨.cons a h1,.cons b h2⟩
section
variable {X:Cx}{pins:List (Addr × Obj)}{σ:St}{H:Hp}{s:Shared}{K:Type}
theorem sort_keys {lt:K->K->Bool}(W:Wk lt){RV:V->K->Prop}{RH:Heap->Value->K->Prop}(fn:∀ h v k k',RH h v k->RH h v k'->k=k')(kp:∀ h h' v k,(∀ b o,h.get? b=some o->h'.get? b=some o)->RH h v k->RH h' v k)
  {l:Addr} {us:List V} {its:List Value} {ks:List K} {Q:VK} (I:Inv X pins σ H s) (hl:s.heap.IsList l its.toArray) (hz:us.length<=1000000) (rv:Vals us its) (hv:Paired RV us ks) (hp:Paired (RH s.heap) its ks)
  (kind:∀ s':Shared,Paired (RH s'.heap) its ks->2<=its.length->wpAny (model X.prog X.w) X.A.in1.in1 (keyKind' its.toArray) (fun κ s2=>s2=s'/\∀ v v' k k',RH s'.heap v k->RH s'.heap v' k'->∀ C:Bool->Shared->Prop,C (lt k k') s'->wpAny (model X.prog X.w) X.A.in1.in1 (keyLt' κ v v') C (fun _ _=>False) s') (fun _ _=>False) s')
  (q:∀ d us' ks',H d=none->Paired RV us' ks'->ks'.Perm ks->ks'.Pairwise (fun x y=>lt y x=false)->(us'.Perm us)->Q (.ref d) (upd H d (.lst us'))) :
  wpAny (model X.prog X.w) X.A (call (.builtin "sorted") [.ref l]) (EP X pins σ Q) X.xe s:=by
 classical
 have hil:=rv.length
 obtain ⟨T,hT,e1,e2,e3⟩:=tri_of rv hv hp
 let r:Value->Int:=fun v=>if h:∃ k,RH s.heap v k then rkK lt ks h.choose else 0
 have rk_:∀ {v:Value} {k:K},RH s.heap v k->r v=rkK lt ks k:=fun {v k} h=>by
  have hx:∃ k,RH s.heap v k:=⟨k,h⟩
  show (if h:∃ k,RH s.heap v k then rkK lt ks h.choose else 0)=_
  rw [dif_pos hx,fn _ _ _ _ hx.choose_spec h]
 have z1:its.length<=sizeLine:=by
  rw [<- hil,sizeLine_eq]
  omega
 refine srtG_call (vs:=its) hl z1 r (fun h2 s' kk=>?_) fun ws h' c hpm hs kk ha=>?_
 ·have hp':Paired (RH s'.heap) its ks:=by
   obtain ⟨a,b,c⟩:=paired_zip hp
   have:=paired_of (R:=RH s'.heap) (zs:=its.zip ks) fun p hp=>kp _ _ _ _ kk (a p hp)
   rw [b,c] at this
   exact this
  refine wpAny_mono (kind s' hp' h2) (fun κ s2 ⟨e,hc⟩=>⟨e,fun x hx y hy C hC=>?_⟩) fun _ _ z=>z
  have mx:x.1 ∈ its:=by
   rw [pairsOf_toList] at hx
   exact (mem_zip_self hx).2
  have my:y.1 ∈ its:=by
   rw [pairsOf_toList] at hy
   exact (mem_zip_self hy).2
  obtain ⟨k,k1,k2⟩:=paired_mem hp x.1 mx
  obtain ⟨k',k1',k2'⟩:=paired_mem hp y.1 my
  refine hc x.1 y.1 k k' (kp _ _ _ _ kk k2) (kp _ _ _ _ kk k2') C ?_
  have hC':C (decide (r x.1 < r y.1)) s':=hC
  rw [rk_ k2,rk_ k2',<- W.rank k1] at hC'
  exact hC'
 ·obtain ⟨T',hT',eT⟩:=ST.perm_map (fun t:V × Value × K=>t.2.1) hpm T e2.symm
  have hTr:∀ t ∈ T',Tri RV (RH s.heap) t:=fun t ht=>hT t (hT'.mem_iff.mp ht)
  obtain ⟨rv',hv'⟩:=tri_vals hTr
  rw [<- eT] at rv'
  have hD:H (s.heap.objs.size + 1)=none:=I.hok.fresh (Nat.le_succ _)
  refine ⟨.ref (s.heap.objs.size + 1),upd H (s.heap.objs.size + 1) (.lst (T'.map (·.1))),I.laid (t':=s.toks) kk (Nat.le_succ _) ⟨?_,ws,c,rv',ha⟩,rfl,q _ _ _ hD hv' (by rw [<- e3]; exact hT'.map _) ?_ (by rw [<- e1]; exact hT'.map _)⟩
  ·rw [rv'.length,hpm.length_eq]
   exact z1
  ·rw [eT,List.pairwise_map] at hs
   rw [List.pairwise_map]
   refine hs.imp_of_mem fun {x y} hx hy h=>?_
   obtain ⟨_,_,h1⟩:=hTr x hx
   obtain ⟨_,_,h2⟩:=hTr y hy
   rw [rk_ h1,rk_ h2] at h
   have my:y.2.2 ∈ ks:=by
    rw [<- e3]
    exact List.mem_map.mpr ⟨y,hT'.mem_iff.mp hy,rfl⟩
   rw [W.rank my]
   exact decide_eq_false (by omega)
end
theorem pair_fn {h:Heap}{v:Value}{p q:Int × Int}(h1:IntPair h v p)(h2:IntPair h v q):p=q:=by
 obtain ⟨a,o,n,t,u,e,e1,c1,d1⟩:=h1
 obtain ⟨a',o',n',t',u',e',e1',c1',d1'⟩:=h2
 subst e
 cases e'
 rw [e1] at e1'
 cases e1'
 rw [d1] at d1'
 obtain ⟨p1,p2⟩:=p
 obtain ⟨q1,q2⟩:=q
 injection d1' with d1' _
 have e2:[Value.int p1 t,Value.int p2 u]=[Value.int q1 t',Value.int q2 u']:=congrArg Array.toList d1'
 injection e2 with e3 e4
 injection e4 with e4 _
 injection e3 with e3 _
 injection e4 with e4 _
 rw [e3,e4]
section
variable {X:Cx}
end
end GS
end L2
namespace PySem.SeqAt
open L2 AutoSeq1 MeetsSeq MeetsSeq2 MeetsSeq3
end PySem.SeqAt
namespace L2
open PySem PySem.Spec PyProof.Rows PySem.W PySem.SeqAt
section
variable {X:Cx}
end
end L2
namespace PySem.SeqAt
open L2 AutoSeq1 MeetsSeq MeetsSeq2 MeetsSeq3
noncomputable def ltL:List (Int × Int)->List (Int × Int)->Bool
 | _,[]=>false
 | [],_ :: _=>true
 | p :: r,q :: t=>if p=q then ltL r t else lt2 p q
theorem ltL_nil (ps:List (Int × Int)):ltL ps []=false:=by cases ps <;> rfl
theorem ltL_irr:∀ ps:List (Int × Int),ltL ps ps=false
 | []=>rfl
 | p :: r=>by
  unfold ltL
  rw [if_pos rfl]
  exact ltL_irr r
theorem ltL_tot:∀ {ps qs:List (Int × Int)},ps ≠ qs->ltL qs ps=!ltL ps qs
 | [],[],h=>absurd rfl h
 | [],q :: t,_=>rfl
 | p :: r,[],_=>rfl
 | p :: r,q :: t,h=>by
  unfold ltL
  by_cases e:p=q
  ·subst e
   rw [if_pos rfl,if_pos rfl]
   exact ltL_tot fun z=>h (by rw [z])
  ·rw [if_neg e,if_neg (Ne.symm e)]
   exact lt2_tot e
theorem ltL_tr:∀ {ps qs ss:List (Int × Int)},ltL ps qs=true->ltL qs ss=true->ltL ps ss=true
 | ps,[],_,h,_=>by
  rw [ltL_nil] at h
  cases h
 | _,_ :: _,[],_,h=>by
  rw [ltL_nil] at h
  cases h
 | [],_ :: _,_ :: _,_,_=>rfl
 | p :: r,q :: t,x :: y,h1,h2=>by
  unfold ltL at *
  by_cases e1:p=q
  ·subst e1
   rw [if_pos rfl] at h1
   by_cases e2:p=x
   ·rw [if_pos e2] at h2 ⊢
    exact ltL_tr h1 h2
   ·rw [if_neg e2] at h2 ⊢
    exact h2
  ·rw [if_neg e1] at h1
   by_cases e2:q=x
   ·subst e2
    rw [if_neg e1]
    exact h1
   ·rw [if_neg e2] at h2
    have h3:=lt2_tr h1 h2
    rw [if_neg]
    ·exact h3
    ·intro e
     subst e
     rw [lt2_irr] at h3
     cases h3
theorem pairs_eqAt {A:Around}{s:Shared}{v v':Value}{p q:Int × Int}(h1:IntPair s.heap v p)(h2:IntPair s.heap v' q)(hu:A.units + 10 < cLine):EqAt A s v v' (decide (p=q)):=by
 obtain ⟨as,ra⟩:=intPair_reads h1
 obtain ⟨bs,rb⟩:=intPair_reads h2
 have:=eqAt_reads _ _ A s _ _ as bs ra rb rfl rfl (by show A.units + min 1 1 < cLine; omega)
 rw [pairs_eqv] at this
 exact this
theorem paired_at {h:Heap}{xs:Array Value}{ps:List (Int × Int)}(hp:Paired (IntPair h) xs.toList ps){i:Nat}(hi:i < xs.size):∃ p r,ps.drop i=p :: r/\ps.drop (i + 1)=r/\IntPair h xs[i] p:=by
 have hl:xs.toList.length=ps.length:=Paired.length hp
 rw [Array.length_toList] at hl
 have h2:i < ps.length:=by omega
 obtain ⟨a,b,c⟩:=GS.paired_zip hp
 refine ⟨ps[i],ps.drop (i + 1),List.drop_eq_getElem_cons h2,rfl,?_⟩
 have hz:i < (xs.toList.zip ps).length:=by
  rw [List.length_zip,Array.length_toList]
  omega
 have:=a _ (List.getElem_mem hz)
 rw [List.getElem_zip] at this
 simpa using this
theorem lt_loopAt (l b:Addr)(items items2:Array Value)(n n2:Nat)(dd dd2:Option Addr)(sl sl2:Array (Option Value))(ps qs:List (Int × Int))(k:Nat) :
  ∀ i:Nat,items.size - i=k->i<=items.size->i<=items2.size->Meets (Builtin.«list.__eq__.loop» ⟨[.ref l,.ref b,rawInt i,rawInt 0],[]⟩)
   (fun A R s=>s.heap.get? l=some { cls:=.type "list",dict:=dd,data:=.seq items n,slots:=sl }/\s.heap.get? b=some { cls:=.type "list",dict:=dd2,data:=.seq items2 n2,slots:=sl2 } /\
    Paired (IntPair s.heap) items.toList ps/\Paired (IntPair s.heap) items2.toList qs/\A.units + 20 < cLine /\
    R (.ok (.ret (.bool (ltL (ps.drop i) (qs.drop i))))) s):=by
 induction k with
 | zero =>
  intro i hk h1 h2 prog w A R s h
  obtain ⟨hp,g,d,tk,os⟩:=s; obtain ⟨hl,hb,hp1,hp2,hu,h⟩:=h
  have l1:items.toList.length=ps.length:=Paired.length hp1
  have l2:items2.toList.length=qs.length:=Paired.length hp2
  rw [Array.length_toList] at l1 l2
  wp_walk using wpAny_loadPart' hl,wpAny_loadPart' hb
  have hi1:items[((i:Nat):Int).toNat]?=none:=by simp; omega
  rw [hi1]
  have hd:ps.drop i=[]:=by simp; omega
  have e:ltL (ps.drop i) (qs.drop i)=decide (items.size < items2.size):=by
   rw [hd]
   by_cases hq:i < qs.length
   ·rw [List.drop_eq_getElem_cons hq]
    exact (decide_eq_true (by omega)).symm
   ·rw [List.drop_of_length_le (by omega)]
    exact (decide_eq_false (by omega)).symm
  rw [e] at h
  wp_walk using wpAny_loadPart' hl,wpAny_loadPart' hb
  exact h
 | succ k ih =>
  intro i hk h1 h2 prog w A R s h
  obtain ⟨hp,g,d,tk,os⟩:=s; obtain ⟨hl,hb,hp1,hp2,hu,h⟩:=h
  have l1:items.toList.length=ps.length:=Paired.length hp1
  have l2:items2.toList.length=qs.length:=Paired.length hp2
  rw [Array.length_toList] at l1 l2
  wp_walk using wpAny_loadPart' hl,wpAny_loadPart' hb
  have hlt:i < items.size:=by omega
  have hi1:items[((i:Nat):Int).toNat]?=some items[i]:=by simp [hlt]
  by_cases hlt2:i < items2.size
  ·have hi2:items2[((i:Nat):Int).toNat]?=some items2[i]:=by simp [hlt2]
   have hc:((i:Int) + 1)=((i + 1:Nat):Int):=by push_cast; rfl
   obtain ⟨p,r,ep,er,rp⟩:=paired_at hp1 hlt
   obtain ⟨q,t,eq,et,rq⟩:=paired_at hp2 hlt2
   rw [hi1,hi2]
   refine wpAny_bind (pairs_eqAt rp rq (by show A.units + 1 + 10 < cLine; omega) prog w _ _ ?_)
   rw [ep,eq] at h
   unfold ltL at h
   by_cases e:p=q
   ·rw [if_pos e] at h
    rw [decide_eq_true e]
    wp_walk
    rw [hc]
    exact ⟨plainId_quiet plain_eq_loop _,codeAny_builtin entry_eq_loop (by
     rw [Around.under_plainId plain_eq_loop _]
     exact ih (i + 1) (by omega) (by omega) (by omega) prog w A R _ ⟨hl,hb,hp1,hp2,hu,by rw [er,et]; exact h⟩)⟩
   ·rw [if_neg e] at h
    rw [decide_eq_false e]
    simp only [Bool.false_eq_true,if_false]
    refine wpAny_bind (PyProof.Rows.listItems_at hl rfl (wpAny_bind (PyProof.Rows.listItems_at hb rfl ?_)))
    rw [hi1,hi2]
    exact wpAny_bind (RcLtAt.pairs rp rq (by show A.units + 1 < cLine; omega) prog w _ _ (wpAny_pure h))
  ·have hi2:items2[((i:Nat):Int).toNat]?=none:=by simp; omega
   rw [hi1,hi2]
   have hd:qs.drop i=[]:=by simp; omega
   rw [hd,ltL_nil,show false=decide (items.size < items2.size) from (decide_eq_false (by omega)).symm] at h
   wp_walk using wpAny_loadPart' hl,wpAny_loadPart' hb
   exact h
theorem list_ltLAt (l b:Addr)(items items2:Array Value)(n n2:Nat)(dd dd2:Option Addr)(sl sl2:Array (Option Value))(ps qs:List (Int × Int)) :
  Meets (Builtin.«list.__lt__» ⟨[.ref l,.ref b],[]⟩)
   (fun A R s=>s.heap.get? l=some { cls:=.type "list",dict:=dd,data:=.seq items n,slots:=sl }/\s.heap.get? b=some { cls:=.type "list",dict:=dd2,data:=.seq items2 n2,slots:=sl2 } /\
    Paired (IntPair s.heap) items.toList ps/\Paired (IntPair s.heap) items2.toList qs/\A.units + 20 < cLine/\R (.ok (.ret (.bool (ltL ps qs)))) s):=by
 intro prog w A R s h
 obtain ⟨hp1,g1,d1,tk1,os1⟩:=s
 obtain ⟨hL,hB,hp,hq,hu,h⟩:=h
 have fL:=sub_list_list
 wp_walk using wpAny_loadPart' hL,wpAny_loadPart' hB
 exact ⟨plainId_quiet plain_eq_loop _,codeAny_builtin entry_eq_loop (by
  rw [Around.under_plainId plain_eq_loop _]
  exact lt_loopAt l b items items2 n n2 dd dd2 sl sl2 ps qs _ 0 rfl (Nat.zero_le _) (Nat.zero_le _) prog w A R _ ⟨hL,hB,hp,hq,hu,by simpa using h⟩)⟩
structure ListPairs (h:Heap)(v:Value)(ps:List (Int × Int)):Prop where
 ex:∃ a o xs n,v=.ref a/\h.get? a=some o/\o.cls=.type "list"/\o.data=.seq xs n/\Paired (IntPair h) xs.toList ps
theorem lists_lt {prog:Program}{w:World}{A:Around}{E:Value->Shared->Prop}{s:Shared}{v v':Value}{ps qs:List (Int × Int)}{C:Bool->Shared->Prop}(hv:ListPairs s.heap v ps)(hv':ListPairs s.heap v' qs)(hu:A.units + 30 < cLine)(h:C (ltL ps qs) s) :
  wpAny (model prog w) A (PyProof.Rows.keyLt' PyProof.Rows.oneType' v v') C E s:=by
 obtain ⟨a,⟨cls,dd,data,sl⟩,xs,n,rfl,e1,c1,d1,p1⟩:=hv
 obtain ⟨a',⟨cls2,dd2,data2,sl2⟩,xs',n',rfl,e1',c1',d1',p1'⟩:=hv'
 simp only at c1 d1 c1' d1'
 subst c1 d1 c1' d1'
 rw [PyProof.Rows.keyLt'_oneType,PyProof.Rows.oneLt'_eq]
 simp only [if_true]
 refine wpAny_bind (wpAny_cRoomFor (by omega) ?_)
 refine wpAny_bind (wpAny_callSpecialIfBound?_slot (T:="list") ⟨_,e1,rfl⟩ F.slot_list_lt ?_)
 refine call_meets F.slot_list_lt ⟨_,e1,rfl⟩ F.entry_list_lt (F.args_list_lt_2 _ _) (list_ltLAt a a' xs xs' n n' dd dd2 sl sl2 ps qs) ⟨e1,e1',p1,p1',(by omega),?_⟩
 exact wpAny_truthy_bool h
end PySem.SeqAt
namespace L2
open PySem PySem.Spec PyProof.Rows PySem.W PySem.SeqAt
namespace GS
theorem wk_ltL:Wk ltL:=by
 refine ⟨fun x y h=>?_,fun x y z h1 h2=>?_⟩
 ·cases e:ltL y x with
  | false=>rfl
  | true =>
   have:=ltL_tr h e
   rw [ltL_irr] at this
   cases this
 ·cases e:ltL z x with
  | false=>rfl
  | true =>
   by_cases exy:x=y
   ·subst exy
    rw [e] at h2
    exact h2
   ·have h3:ltL x y=true:=by
     have:=ltL_tot (ps:=x) (qs:=y) exy
     rw [h1] at this
     cases hh:ltL x y with
     | true=>rfl
     | false =>
      rw [hh] at this
      cases this
    have:=ltL_tr e h3
    rw [this] at h2
    exact h2
noncomputable def LstAt (H:Hp)(v:V)(ps:List (Int × Int)):Prop:=∃ a ws,v=V.ref a/\H a=some (.lst ws)/\Tup2 H ws ps
theorem paired_fn {h:Heap}{vs:List Value}{ps qs:List (Int × Int)}(hp:Paired (IntPair h) vs ps):Paired (IntPair h) vs qs->ps=qs:=by
 induction hp generalizing qs with
 | nil =>
  intro hq
  cases hq
  rfl
 | cons a _ ih =>
  intro hq
  cases hq with
  | cons b u=>rw [pair_fn a b,ih u]
theorem lists_fn {h:Heap}{v:Value}{ps qs:List (Int × Int)}(h1:ListPairs h v ps)(h2:ListPairs h v qs):ps=qs:=by
 obtain ⟨a,o,xs,n,e,e1,c1,d1,p1⟩:=h1
 obtain ⟨a',o',xs',n',e',e1',c1',d1',p1'⟩:=h2
 subst e
 cases e'
 rw [e1] at e1'
 cases e1'
 rw [d1] at d1'
 injection d1' with d1' _
 subst d1'
 exact paired_fn p1 p1'
theorem pairs_kept {h h':Heap}(k:∀ b o,h.get? b=some o->h'.get? b=some o){vs:List Value}{ps:List (Int × Int)}(hp:Paired (IntPair h) vs ps):Paired (IntPair h') vs ps:=by
 induction hp with
 | nil=>exact .nil
 | cons q _ ih =>
  obtain ⟨a,o,n,t,u,e,e1,r⟩:=q
  exact .cons ⟨a,o,n,t,u,e,k _ _ e1,r⟩ ih
section
variable {X:Cx}{pins:List (Addr × Obj)}{σ:St}{H:Hp}{s:Shared}
theorem lsts_pairs (I:Inv X pins σ H s){us:List V}{ks:List (List (Int × Int))}{its:List Value}(hp:Paired (LstAt H) us ks)(r:Vals us its):Paired (ListPairs s.heap) its ks:=by
 induction hp generalizing its with
 | nil =>
  cases r
  exact .nil
 | cons q _ ih =>
  obtain ⟨a,ws,e,h,ht⟩:=q
  subst e
  cases r with
  | cons r1 r2 =>
   cases r1
   refine .cons ?_ (ih r2)
   obtain ⟨z,its,n,rv,hl,e⟩:=I.lstM h
   exact ⟨a,_,its.toArray,n,rfl,e,rfl,rfl,by rw [List.toList_toArray]; exact Tup2.pairs I ht rv⟩
end
theorem lists_list {h:Heap}{its:List Value}{ks:List (List (Int × Int))}(hp:Paired (ListPairs h) its ks):∀ v ∈ its,∃ a o,v=Value.ref a/\h.get? a=some o/\o.cls=.type "list":=by
 induction hp with
 | nil=>exact fun v hv=>nomatch hv
 | cons q _ ih =>
  intro v hv
  rcases List.mem_cons.mp hv with rfl | hv
  ·obtain ⟨a,o,xs,n,e,e1,c,_⟩:=q
   exact ⟨a,o,e,e1,c⟩
  ·exact ih v hv
section
variable {X:Cx}
theorem call_sortedGL (hu:X.A.units + 64 < cLine):CallR X (.builtin "sorted") (fun xs H Q=>∃ l us ks,xs=[.ref l]/\SqL X.K H l us/\Paired (LstAt H) us ks/\us.length<=1000000 /\
  ∀ d us' ks',H d=none->Paired (LstAt H) us' ks'->ks'.Perm ks->ks'.Pairwise (fun p q=>ltL q p=false)->us'.Perm us->Q (.ref d) (upd H d (.lst us'))):=by
 intro pins s σ H xs us' Q I r h
 obtain ⟨l,us,ks,rfl,hq,ht,hz,q⟩:=h
 obtain ⟨u,rfl,ru⟩:=vals1 r
 cases ru
 obtain ⟨its,rv,pl,_⟩:=I.list hq
 have hp:=lsts_pairs I ht rv
 refine sort_keys wk_ltL (RH:=ListPairs) (fun h v k k'=>lists_fn) (fun h h' v k kk ⟨a,o,xs,n,e,e1,c,d,r⟩=>⟨a,o,xs,n,e,kk _ _ e1,c,d,pairs_kept kk r⟩) I pl.isList hz rv ht hp (fun s' hp' h2=>?_) fun d us' ks' hd h1 h2 h3 h4=>q d us' ks' hd h1 h2 h3 h4
 refine kas_kind (T:=.type "list") h2 (fun v hv=>?_) (by decide) (by decide) ⟨rfl,fun v v' k k' h1 h2 C hC=>?_⟩
 ·obtain ⟨a,o,rfl,e1,c1⟩:=lists_list hp' v hv
  exact c1 ▸ (Looks.ld e1).andThen .now
 ·exact lists_lt h1 h2 (by show X.A.units + 1 + 1 + 30 < cLine; omega) hC
end
end GS
end L2
namespace L2
open PySem PySem.Spec PyProof.Rows
section
variable {X:Cx}{K:PySem.W.Frag}
theorem pe_bmK {T:String}{name:Str}{id:String}{r:V->List V->Hp->VK->Prop}{o e:Expr}{es:List Expr}{to:TE}{t:TA}{apos cpos:Pos}(hK:X.K=K)(pa:PlainAttrs T)(slot:Slot T name id)(hty:typeOf (.builtin id)=pure (.type "method_descriptor"))(hm:MtR X id r)(ho:PE X o to)(ha:PA X (e :: es) t)
  (h1:attributeBase o name X.env (eval o X.env)=eval o X.env:=by rfl)
  (h2:((backTo cpos (starEach (e :: es) X.env)).all (fun x=>!x.1) && (backToKw cpos (keywordEach [] X.env)).all (fun x=>x.1.isSome)
   && decide ((e :: es).length + ([]:List Keyword).length + (if ([]:List Keyword).isEmpty then 0 else 1) < 30))=true:=by rfl)
  (h3:(apos.endLine == cpos.line)=true:=by rfl) (h4:starEach (e :: es) X.env=(false,eval e X.env) :: starEach es X.env:=by rfl) (h5:(backTo cpos (starEach es X.env)).any (·.1)=false:=by rfl) :
  PE X (.Call (.Attribute o name apos) (e :: es) [] cpos) (tBM K T r to t):=by
 subst hK
 exact pe_bm pa slot hty hm ho ha h1 h2 h3 h4 h5
end
noncomputable def HasDef (K:PySem.W.Frag)(x:Str)(st:Stmt):Prop:=∃ (f:Addr) (oc:Value) (od an:Option Addr) (sl:Array (Option Value)) (kV dc pm cd ct:Value),PySem.W.nsIn K mainGlobals x=some (some (.ref f))/\K.lookup f=some ⟨oc,od,.func (PySem.W.fnOf x x (defArgs st) (defBody st) (defScope st) .none kV dc pm an cd ct),sl⟩/\PySem.W.codeIn K cd x=true/\PySem.W.keepIn K (.ref f)=true
theorem HasDef.at {K:PySem.W.Frag}{h:Heap}{mg:Str->Option Value}{x:Str}{st:Stmt}{ps:List Str}(H:HasDef K x st)(X:K.In h)(G:h.Ns mainGlobals mg)
  (hb:∀ (kV doc pm:Value) (an:Option Addr) (cdv ct:Value) (us:List Value),us.length=ps.length->bindArgs (PySem.W.fnOf x x (defArgs st) (defBody st) (defScope st) .none kV doc pm an cdv ct) ⟨us,[]⟩=pure (ps.zip us)):∃ f fd,DefAt K mg x st ps f fd:=by
 obtain ⟨f,oc,od,an,sl,kV,dc,pm,cd,ct,a,l,c,k⟩:=H
 have F:=fun_mk (st:=st) l c k
 exact ⟨f,_,F,PySem.W.mg_of X G a,F.binds hb⟩
end L2
namespace L2
open PySem PySem.W
theorem us0 {P:List Value->Prop}(h:P []):∀ us:List Value,us.length=0->P us:=by
 intro us e
 cases us with
 | nil=>exact h
 | cons a t=>cases e
theorem usS {n:Nat}{P:List Value->Prop}(h:∀ a t,t.length=n->P (a :: t)):∀ us:List Value,us.length=n + 1->P us:=by
 intro us e
 cases us with
 | nil=>cases e
 | cons a t=>exact h a t (Nat.succ.inj e)
theorem us1 {P:List Value->Prop}(h:∀ a,P [a]):∀ us:List Value,us.length=1->P us:=usS fun a=>us0 (h a)
theorem us2 {P:List Value->Prop}(h:∀ a b,P [a,b]):∀ us:List Value,us.length=2->P us:=usS fun a=>us1 (h a)
theorem us3 {P:List Value->Prop}(h:∀ a b c,P [a,b,c]):∀ us:List Value,us.length=3->P us:=usS fun a=>us2 (h a)
theorem us4 {P:List Value->Prop}(h:∀ a b c d,P [a,b,c,d]):∀ us:List Value,us.length=4->P us:=usS fun a=>us3 (h a)
end L2
namespace PySem.SeqAt
open L2 AutoSeq1 MeetsSeq MeetsSeq2 MeetsSeq3
noncomputable def RcGeAt (A:Around)(s:Shared)(y x:Value)(b:Bool):Prop:=∀ (prog:Program) (w:World) (E:Value->Shared->Prop) (Q:Value->Shared->Prop),Q (.bool b) s->wpAny (model prog w) A (richCompare .GtE y x) Q E s
theorem RcGeAt.int_int {A:Around}{s:Shared}(a:Int)(t:Tok)(b:Int)(u:Tok):RcGeAt A s (.int a t) (.int b u) (decide (a >= b)):=fun prog w E Q h=>PySem.P.ge_int h
theorem tuple_geAt (l b:Addr)(x y x2 y2:Int)(t u t2 u2:Tok)(n n2:Nat)(dd dd2:Option Addr)(sl sl2:Array (Option Value)) :
  Meets (Builtin.«tuple.__ge__» ⟨[.ref l,.ref b],[]⟩)
   (fun _ R s=>s.heap.get? l=some { cls:=.type "tuple",dict:=dd,data:=.seq #[.int x t,.int y u] n,slots:=sl }/\s.heap.get? b=some { cls:=.type "tuple",dict:=dd2,data:=.seq #[.int x2 t2,.int y2 u2] n2,slots:=sl2 } /\
    R (.ok (.ret (.bool (!lt2 (x,y) (x2,y2))))) s) :=
 .of_wp fun prog w A R s h=>by
  obtain ⟨hp1,g1,d1,tk1,os1⟩:=s
  obtain ⟨hL,hB,h⟩:=h
  have fT:=sub_tuple_tuple
  wp_walk using wpAny_loadPart' hL,wpAny_loadPart' hB
  refine EqAt.int_int x t x2 t2 prog w _ _ ?_
  unfold lt2 at h
  by_cases e:x=x2
  ·have e':(x == x2)=true:=by simpa using e
   rw [e']
   rw [if_pos e] at h
   wp_walk
   refine EqAt.int_int y u y2 u2 prog w _ _ ?_
   by_cases e2:y=y2
   ·have e2':(y == y2)=true:=by simpa using e2
    rw [e2']
    rw [decide_eq_false (by show ¬ y < y2; omega)] at h
    wp_walk
    exact ⟨_,rfl,h⟩
   ·have e2':(y == y2)=false:=by simpa using e2
    rw [e2']
    simp only [Bool.not_false,if_true]
    refine wpAny_bind (wpAny_rule (wpAny_bind (RcGeAt.int_int y u y2 u2 prog w _ _ ?_)))
    rw [show decide (y >= y2)=!decide (y < y2) from by rw [<- decide_not]; exact decide_eq_decide.mpr (by omega)]
    wp_walk
    exact ⟨_,rfl,h⟩
  ·have e':(x == x2)=false:=by simpa using e
   rw [e']
   rw [if_neg e] at h
   simp only [Bool.not_false,if_true]
   refine wpAny_bind (wpAny_rule (wpAny_bind (RcGeAt.int_int x t x2 t2 prog w _ _ ?_)))
   rw [show decide (x >= x2)=!decide (x < x2) from by rw [<- decide_not]; exact decide_eq_decide.mpr (by omega)]
   wp_walk
   exact ⟨_,rfl,h⟩
end PySem.SeqAt
namespace L2
open PySem PySem.Spec PyProof.Rows PySem.W PySem.SeqAt
section
variable {X:Cx}
noncomputable def rGe2:R2:=fun x y H Q=>∃ (a b:Addr) (p q:Int × Int),x=.ref a/\y=.ref b/\H a=some (.tup [.int p.1,.int p.2])/\H b=some (.tup [.int q.1,.int q.2])/\Q (.bl (!lt2 p q)) H
theorem op_ge_deep (hu:X.A.units + 64 < cLine):OpR X (compareOp .GtE) rGe2:=by
 intro pins s σ H x y v u Q I rx ry h
 obtain ⟨a,b,p,q,rfl,rfl,h1,h2,hq⟩:=h
 cases rx
 cases ry
 obtain ⟨items,rv,tp,_⟩:=I.tuple (SqT.of h1)
 obtain ⟨u1,u2,rfl,⟨t1,rfl⟩,⟨t2,rfl⟩⟩:=vals2 rv
 obtain ⟨⟨c1,dd,da,sl⟩,e1,c1',n,d1⟩:=tp
 obtain ⟨items',rv',tp',_⟩:=I.tuple (SqT.of h2)
 obtain ⟨u1',u2',rfl,⟨t1',rfl⟩,⟨t2',rfl⟩⟩:=vals2 rv'
 obtain ⟨⟨c2,dd2,da2,sl2⟩,e2,c2',n',d2⟩:=tp'
 simp only at c1' d1 c2' d2
 subst c1' d1 c2' d2
 exact richCompare_meets_room (op:=.GtE) ⟨_,e1,rfl⟩ ⟨_,e2,rfl⟩ F.slot_tuple_ge F.entry_tuple_ge (F.args_tuple_ge_2 _ _) (tuple_geAt a b p.1 p.2 q.1 q.2 t1 t2 t1' t2' n n' dd dd2 sl sl2)
  ⟨e1,e2,(fun x=>nomatch x),.bl (!lt2 p q),H,I,rfl,hq⟩ (by omega)
end
end L2
namespace PySem.SeqAt
open L2 AutoSeq1 MeetsSeq MeetsSeq2 MeetsSeq3
theorem RcGeAt.pairs {A:Around}{s:Shared}{v v':Value}{p q:Int × Int}(hv:IntPair s.heap v p)(hv':IntPair s.heap v' q)(hu:A.units < cLine):RcGeAt A s v v' (!lt2 p q):=fun prog w E Q h=>by
 obtain ⟨a,⟨cls,dd,data,sl⟩,n,t,u,rfl,e1,c1,d1⟩:=hv
 obtain ⟨a',⟨cls2,dd2,data2,sl2⟩,n',t',u',rfl,e1',c1',d1'⟩:=hv'
 simp only at c1 d1 c1' d1'
 subst c1 d1 c1' d1'
 exact richCompare_meets_room (op:=.GtE) ⟨_,e1,rfl⟩ ⟨_,e1',rfl⟩ F.slot_tuple_ge F.entry_tuple_ge (F.args_tuple_ge_2 _ _) (tuple_geAt a a' p.1 p.2 q.1 q.2 t u t' u' n n' dd dd2 sl sl2) ⟨e1,e1',(fun x=>nomatch x),h⟩ hu
theorem ge_loopAt (l b:Addr)(items items2:Array Value)(n n2:Nat)(dd dd2:Option Addr)(sl sl2:Array (Option Value))(ps qs:List (Int × Int))(k:Nat) :
  ∀ i:Nat,items.size - i=k->i<=items.size->i<=items2.size->Meets (Builtin.«list.__eq__.loop» ⟨[.ref l,.ref b,rawInt i,rawInt 5],[]⟩)
   (fun A R s=>s.heap.get? l=some { cls:=.type "list",dict:=dd,data:=.seq items n,slots:=sl }/\s.heap.get? b=some { cls:=.type "list",dict:=dd2,data:=.seq items2 n2,slots:=sl2 } /\
    Paired (IntPair s.heap) items.toList ps/\Paired (IntPair s.heap) items2.toList qs/\A.units + 20 < cLine /\
    R (.ok (.ret (.bool (!ltL (ps.drop i) (qs.drop i))))) s):=by
 induction k with
 | zero =>
  intro i hk h1 h2 prog w A R s h
  obtain ⟨hp,g,d,tk,os⟩:=s; obtain ⟨hl,hb,hp1,hp2,hu,h⟩:=h
  have l1:items.toList.length=ps.length:=Paired.length hp1
  have l2:items2.toList.length=qs.length:=Paired.length hp2
  rw [Array.length_toList] at l1 l2
  wp_walk using wpAny_loadPart' hl,wpAny_loadPart' hb
  have hi1:items[((i:Nat):Int).toNat]?=none:=by simp; omega
  rw [hi1]
  have hd:ps.drop i=[]:=by simp; omega
  have e:(!ltL (ps.drop i) (qs.drop i))=decide (items.size >= items2.size):=by
   rw [hd]
   by_cases hq:i < qs.length
   ·rw [List.drop_eq_getElem_cons hq]
    exact (decide_eq_false (by omega)).symm
   ·rw [List.drop_of_length_le (by omega)]
    exact (decide_eq_true (by omega)).symm
  rw [e] at h
  wp_walk using wpAny_loadPart' hl,wpAny_loadPart' hb
  exact h
 | succ k ih =>
  intro i hk h1 h2 prog w A R s h
  obtain ⟨hp,g,d,tk,os⟩:=s; obtain ⟨hl,hb,hp1,hp2,hu,h⟩:=h
  have l1:items.toList.length=ps.length:=Paired.length hp1
  have l2:items2.toList.length=qs.length:=Paired.length hp2
  rw [Array.length_toList] at l1 l2
  wp_walk using wpAny_loadPart' hl,wpAny_loadPart' hb
  have hlt:i < items.size:=by omega
  have hi1:items[((i:Nat):Int).toNat]?=some items[i]:=by simp [hlt]
  by_cases hlt2:i < items2.size
  ·have hi2:items2[((i:Nat):Int).toNat]?=some items2[i]:=by simp [hlt2]
   have hc:((i:Int) + 1)=((i + 1:Nat):Int):=by push_cast; rfl
   obtain ⟨p,r,ep,er,rp⟩:=paired_at hp1 hlt
   obtain ⟨q,t,eq,et,rq⟩:=paired_at hp2 hlt2
   rw [hi1,hi2]
   refine wpAny_bind (pairs_eqAt rp rq (by show A.units + 1 + 10 < cLine; omega) prog w _ _ ?_)
   rw [ep,eq] at h
   unfold ltL at h
   by_cases e:p=q
   ·rw [if_pos e] at h
    rw [decide_eq_true e]
    wp_walk
    rw [hc]
    exact ⟨plainId_quiet plain_eq_loop _,codeAny_builtin entry_eq_loop (by
     rw [Around.under_plainId plain_eq_loop _]
     exact ih (i + 1) (by omega) (by omega) (by omega) prog w A R _ ⟨hl,hb,hp1,hp2,hu,by rw [er,et]; exact h⟩)⟩
   ·rw [if_neg e] at h
    rw [decide_eq_false e]
    simp only [Bool.false_eq_true,if_false]
    refine wpAny_bind (PyProof.Rows.listItems_at hl rfl (wpAny_bind (PyProof.Rows.listItems_at hb rfl ?_)))
    rw [hi1,hi2]
    exact wpAny_bind (RcGeAt.pairs rp rq (by show A.units + 1 < cLine; omega) prog w _ _ (wpAny_pure h))
  ·have hi2:items2[((i:Nat):Int).toNat]?=none:=by simp; omega
   rw [hi1,hi2]
   have hd:qs.drop i=[]:=by simp; omega
   rw [hd,ltL_nil,show (!false)=decide (items.size >= items2.size) from (decide_eq_true (by omega)).symm] at h
   wp_walk using wpAny_loadPart' hl,wpAny_loadPart' hb
   exact h
theorem list_geLAt (l b:Addr)(items items2:Array Value)(n n2:Nat)(dd dd2:Option Addr)(sl sl2:Array (Option Value))(ps qs:List (Int × Int)) :
  Meets (Builtin.«list.__ge__» ⟨[.ref l,.ref b],[]⟩)
   (fun A R s=>s.heap.get? l=some { cls:=.type "list",dict:=dd,data:=.seq items n,slots:=sl }/\s.heap.get? b=some { cls:=.type "list",dict:=dd2,data:=.seq items2 n2,slots:=sl2 } /\
    Paired (IntPair s.heap) items.toList ps/\Paired (IntPair s.heap) items2.toList qs/\A.units + 20 < cLine/\R (.ok (.ret (.bool (!ltL ps qs)))) s):=by
 intro prog w A R s h
 obtain ⟨hp1,g1,d1,tk1,os1⟩:=s
 obtain ⟨hL,hB,hp,hq,hu,h⟩:=h
 have fL:=sub_list_list
 wp_walk using wpAny_loadPart' hL,wpAny_loadPart' hB
 exact ⟨plainId_quiet plain_eq_loop _,codeAny_builtin entry_eq_loop (by
  rw [Around.under_plainId plain_eq_loop _]
  exact ge_loopAt l b items items2 n n2 dd dd2 sl sl2 ps qs _ 0 rfl (Nat.zero_le _) (Nat.zero_le _) prog w A R _ ⟨hL,hB,hp,hq,hu,by simpa using h⟩)⟩
end PySem.SeqAt
namespace L2
open PySem PySem.Spec PyProof.Rows PySem.W PySem.SeqAt
section
variable {X:Cx}
noncomputable def rGeL:R2:=fun x y H Q=>∃ ps qs,GS.LstAt H x ps/\GS.LstAt H y qs/\Q (.bl (!ltL ps qs)) H
theorem op_ge_list (hu:X.A.units + 64 < cLine):OpR X (compareOp .GtE) rGeL:=by
 intro pins s σ H x y v u Q I rx ry h
 obtain ⟨ps,qs,⟨a,ws,rfl,h1,t1⟩,⟨b,us,rfl,h2,t2⟩,q⟩:=h
 cases rx
 cases ry
 obtain ⟨z,its,n,rv,hl,e⟩:=I.lstM h1
 obtain ⟨z',its',n',rv',hl',e'⟩:=I.lstM h2
 have p1:=Tup2.pairs I t1 rv
 have p2:=Tup2.pairs I t2 rv'
 exact richCompare_meets_room (op:=.GtE) ⟨_,e,rfl⟩ ⟨_,e',rfl⟩ F.slot_list_ge F.entry_list_ge (F.args_list_ge_2 _ _) (list_geLAt a b its.toArray its'.toArray n n' _ _ _ _ ps qs)
  ⟨e,e',by rw [List.toList_toArray]; exact p1,by rw [List.toList_toArray]; exact p2,(by omega),(fun x=>nomatch x),.bl (!ltL ps qs),H,I,rfl,q⟩ (by omega)
end
end L2
namespace L2
open PySem PySem.Spec PyProof.Rows
section
variable {X:Cx}
theorem mt_countI:MtM X "list.count" (fun x vs H Q=>∃ (l:Addr) (ts:List Int) (y:Int),x=.ref l/\vs=[.int y]/\H l=some (.lst (ts.map V.int))/\Q (.int ((ts.countP fun t=>t == y:Nat):Int)) H):=by
 intro pins s σ H x vs v us Q I rx rv h
 obtain ⟨l,ts,y,rfl,rfl,hH,q⟩:=h
 cases rx
 obtain ⟨u,rfl,t,rfl⟩:=rv.one
 obtain ⟨z,its,n,r,hl,e⟩:=I.lstM hH
 have hv:∃ f:Value->Bool,(∀ w ∈ its,∃ a k,w=.int a k/\f w=(a == y))/\its.countP f=ts.countP fun t=>t == y:=by
  refine ⟨fun w=>match w with | .int a _=>a == y | _=>false,?_⟩
  clear hl e z hH q
  generalize ew:ts.map V.int=ws at r
  induction r generalizing ts with
  | nil =>
   cases ts with
   | nil=>exact ⟨(fun _ h=>nomatch h),rfl⟩
   | cons a b=>cases ew
  | cons r1 r2 ih =>
   cases ts with
   | nil=>cases ew
   | cons a b =>
    rw [List.map_cons] at ew
    obtain ⟨e1,e2⟩:=List.cons.inj ew
    subst e1
    obtain ⟨k,rfl⟩:=r1
    obtain ⟨h1,h2⟩:=ih b e2
    refine ⟨fun w hw=>?_,?_⟩
    ·rcases List.mem_cons.mp hw with rfl | hw
     ·exact ⟨a,k,rfl,rfl⟩
     ·exact h1 w hw
    ·rw [List.countP_cons,List.countP_cons,h2]
 obtain ⟨f,hf,hc⟩:=hv
 refine call_meets F.slot_list_count ⟨_,e,rfl⟩ F.entry_list_count (F.args_list_count_2 _ _) (PySem.SeqAt.list_countAt l its.toArray n none #[] (.int y t) f) ⟨e,fun w hw=>?_,?_⟩
 ·obtain ⟨a,k,rfl,h2⟩:=hf w (by simpa using hw)
  rw [h2]
  exact PySem.SeqAt.EqAt.int_int a k y t
 ·refine ⟨.int _,H,I.tok _,⟨_,rfl⟩,?_⟩
  show Q (.int ((its.countP f:Nat):Int)) H
  rw [hc]
  exact q
end
end L2
namespace Cells
noncomputable def rowCs (p:Nat->Bool)(i:Nat):Nat->List Nat->List (Nat × Nat)
 | _,[]=>[]
 | j,c :: r=>(if p c=true then [(i,j)] else [])++rowCs p i (j + 1) r
noncomputable def allCs (p:Nat->Bool):Nat->List (List Nat)->List (Nat × Nat)
 | _,[]=>[]
 | i,t :: r=>rowCs p i 0 t++allCs p (i + 1) r
theorem rowCs_append (p:Nat->Bool)(i:Nat):∀ (j:Nat) (a b:List Nat),rowCs p i j (a++b)=rowCs p i j a++rowCs p i (j + a.length) b
 | j,[],b=>by simp [rowCs]
 | j,c :: a,b=>by
  simp only [List.cons_append,rowCs,rowCs_append p i (j + 1) a b,List.length_cons,List.append_assoc]
  rw [show j + 1 + a.length=j + (a.length + 1) by omega]
theorem allCs_append (p:Nat->Bool):∀ (i:Nat) (a b:List (List Nat)),allCs p i (a++b)=allCs p i a++allCs p (i + a.length) b
 | i,[],b=>by simp [allCs]
 | i,t :: a,b=>by
  simp only [List.cons_append,allCs,allCs_append p (i + 1) a b,List.length_cons,List.append_assoc]
  rw [show i + 1 + a.length=i + (a.length + 1) by omega]
theorem rowCs_step {p:Nat->Bool}{i j c:Nat}{t:List Nat}(h:t[j]?=some c):rowCs p i 0 (t.take (j + 1))=rowCs p i 0 (t.take j)++(if p c=true then [(i,j)] else []):=by
 rw [List.take_add_one,h,rowCs_append]
 have hl:(t.take j).length=j:=by
  have:=(List.getElem?_eq_some_iff.mp h).1
  rw [List.length_take]; omega
 simp [rowCs,hl]
theorem allCs_step {p:Nat->Bool}{i:Nat}{t:List Nat}{rs:List (List Nat)}(h:rs[i]?=some t):allCs p 0 (rs.take (i + 1))=allCs p 0 (rs.take i)++rowCs p i 0 t:=by
 rw [List.take_add_one,h,allCs_append]
 have hl:(rs.take i).length=i:=by
  have:=(List.getElem?_eq_some_iff.mp h).1
  rw [List.length_take]; omega
 simp [allCs,hl]
theorem rowCs_length (p:Nat->Bool)(i:Nat):∀ (j:Nat) (t:List Nat),(rowCs p i j t).length<=t.length
 | j,[]=>by simp [rowCs]
 | j,c :: r=>by
  have:=rowCs_length p i (j + 1) r
  simp only [rowCs,List.length_append,List.length_cons]
  split <;> simp <;> omega
theorem allCs_length (p:Nat->Bool):∀ (i:Nat) (rs:List (List Nat)),(∀ t ∈ rs,t.length<=8)->(allCs p i rs).length<=8 * rs.length
 | i,[],_=>by simp [allCs]
 | i,t :: r,h=>by
  have h1:=rowCs_length p i 0 t
  have h2:=allCs_length p (i + 1) r fun u hu=>h u (List.mem_cons_of_mem _ hu)
  have h3:=h t List.mem_cons_self
  simp only [allCs,List.length_append,List.length_cons]
  omega
theorem mem_rowCs {p:Nat->Bool}{i:Nat}:∀ {j:Nat} {t:List Nat} {x:Nat × Nat},x ∈ rowCs p i j t->∃ m c,x=(i,j + m)/\t[m]?=some c/\p c=true
 | j,[],x,h=>by simp [rowCs] at h
 | j,c :: r,x,h=>by
  simp only [rowCs,List.mem_append] at h
  rcases h with h | h
  ·split at h
   ·rename_i hp
    have:x=(i,j):=by simpa using h
    exact ⟨0,c,this,rfl,hp⟩
   ·cases h
  ·obtain ⟨m,c',e,h1,h2⟩:=mem_rowCs h
   exact ⟨m + 1,c',by rw [e,show j + 1 + m=j + (m + 1) by omega],by simpa using h1,h2⟩
theorem mem_allCs {p:Nat->Bool}:∀ {i:Nat} {rs:List (List Nat)} {x:Nat × Nat},x ∈ allCs p i rs->∃ k j t c,x=(i + k,j)/\rs[k]?=some t/\t[j]?=some c/\p c=true
 | i,[],x,h=>by simp [allCs] at h
 | i,t :: r,x,h=>by
  simp only [allCs,List.mem_append] at h
  rcases h with h | h
  ·obtain ⟨m,c,e,h1,h2⟩:=mem_rowCs h
   exact ⟨0,m,t,c,by simpa using e,rfl,h1,h2⟩
  ·obtain ⟨k,j,u,c,e,h1,h2,h3⟩:=mem_allCs h
   exact ⟨k + 1,j,u,c,by rw [e,show i + 1 + k=i + (k + 1) by omega],by simpa using h1,h2,h3⟩
noncomputable def sgn (rs:List (List Nat))(x:Nat × Nat):Nat:=(rs.getD x.1 []).getD x.2 0
theorem rowCs_filter {p q:Nat->Bool}{i:Nat}(f:Nat × Nat->Bool):∀ (j:Nat) (t:List Nat),(∀ m c,t[m]?=some c->f (i,j + m)=q c)->(rowCs p i j t).filter f=rowCs (fun c=>p c && q c) i j t
 | j,[],_=>by simp [rowCs]
 | j,c :: r,h=>by
  have ih:=rowCs_filter (p:=p) (q:=q) (i:=i) f (j + 1) r fun m c' hm=>by
   have:=h (m + 1) c' (by simpa using hm)
   rw [show j + 1 + m=j + (m + 1) by omega]; exact this
  have h0:=h 0 c rfl
  simp only [rowCs,List.filter_append,ih]
  congr 1
  simp only [Nat.add_zero] at h0
  by_cases hp:p c=true
  ·by_cases hq:q c=true
   ·simp [hp,hq,h0]
   ·simp [hp,hq,h0]
  ·simp [hp]
theorem allCs_filter {p q:Nat->Bool}(f:Nat × Nat->Bool):∀ (i:Nat) (rs:List (List Nat)),(∀ k t m c,rs[k]?=some t->t[m]?=some c->f (i + k,m)=q c)->(allCs p i rs).filter f=allCs (fun c=>p c && q c) i rs
 | i,[],_=>by simp [allCs]
 | i,t :: r,h=>by
  have ih:=allCs_filter (p:=p) (q:=q) f (i + 1) r fun k u m c hk hm=>by
   have:=h (k + 1) u m c (by simpa using hk) hm
   rw [show i + 1 + k=i + (k + 1) by omega]; exact this
  simp only [allCs,List.filter_append,ih]
  rw [rowCs_filter (p:=p) (q:=q) f 0 t fun m c hm=>by simpa using h 0 t m c rfl hm]
theorem sgn_at {rs:List (List Nat)}{i j:Nat}{t:List Nat}{c:Nat}(h:rs[i]?=some t)(h2:t[j]?=some c):sgn rs (i,j)=c:=by
 unfold sgn
 simp [List.getD,h,h2]
theorem all_filter {p q:Nat->Bool}(rs:List (List Nat)):(allCs p 0 rs).filter (fun x=>q (sgn rs x))=allCs (fun c=>p c && q c) 0 rs :=
 allCs_filter _ 0 rs fun k t m c hk hm=>by rw [show 0 + k=k by omega,sgn_at hk hm]
theorem allCs_congr {p q:Nat->Bool}(h:∀ c,p c=q c)(i:Nat)(rs:List (List Nat)):allCs p i rs=allCs q i rs:=by
 rw [show p=q from funext h]
end Cells
namespace Cells
noncomputable def near (x y:Nat × Nat):Bool:=decide ((if (x.1:Int) - (y.1:Int) < 0 then -((x.1:Int) - (y.1:Int)) else (x.1:Int) - (y.1:Int)) < 2) && (decide ((if (x.2:Int) - (y.2:Int) < 0 then -((x.2:Int) - (y.2:Int)) else (x.2:Int) - (y.2:Int)) < 2) && !decide (x=y))
theorem near_iff (x y:Nat × Nat):near x y=true ↔ (x.1<=y.1 + 1/\y.1<=x.1 + 1)/\(x.2<=y.2 + 1/\y.2<=x.2 + 1)/\¬ x=y:=by
 unfold near
 rw [Bool.and_eq_true,Bool.and_eq_true,decide_eq_true_iff,decide_eq_true_iff,Bool.not_eq_true',decide_eq_false_iff_not]
 constructor
 ·rintro ⟨h1,h2,h3⟩
  refine ⟨?_,?_,h3⟩
  ·split at h1 <;> omega
  ·split at h2 <;> omega
 ·rintro ⟨h1,h2,h3⟩
  refine ⟨?_,?_,h3⟩
  ·split <;> omega
  ·split <;> omega
noncomputable def lex (a b:Nat × Nat):Prop:=a.1 < b.1\/(a.1=b.1/\a.2 < b.2)
theorem rowCs_lex (p:Nat->Bool)(i:Nat):∀ (j:Nat) (t:List Nat),(rowCs p i j t).Pairwise lex
 | j,[]=>by simp [rowCs]
 | j,c :: r=>by
  simp only [rowCs]
  rw [List.pairwise_append]
  refine ⟨?_,rowCs_lex p i (j + 1) r,fun a ha b hb=>?_⟩
  ·split <;> simp
  ·split at ha
   ·have e:a=(i,j):=by simpa using ha
    obtain ⟨m,c',e',_,_⟩:=mem_rowCs hb
    subst e e'
    exact .inr ⟨rfl,by show j < j + 1 + m; omega⟩
   ·cases ha
theorem allCs_lex (p:Nat->Bool):∀ (i:Nat) (rs:List (List Nat)),(allCs p i rs).Pairwise lex
 | i,[]=>by simp [allCs]
 | i,t :: r=>by
  simp only [allCs]
  rw [List.pairwise_append]
  refine ⟨rowCs_lex p i 0 t,allCs_lex p (i + 1) r,fun a ha b hb=>?_⟩
  obtain ⟨m,c,e,_,_⟩:=mem_rowCs ha
  obtain ⟨k,j,u,c',e',_,_,_⟩:=mem_allCs hb
  subst e e'
  exact .inl (by show i < i + 1 + k; omega)
theorem pair_next {l:List (Nat × Nat)}(h:l.Pairwise lex){i:Nat}{a b:Nat × Nat}(h1:l[i]?=some a)(h2:l[i + 1]?=some b):lex a b:=by
 obtain ⟨l1,e1⟩:=List.getElem?_eq_some_iff.mp h1
 obtain ⟨l2,e2⟩:=List.getElem?_eq_some_iff.mp h2
 have:=List.pairwise_iff_getElem.mp h i (i + 1) l1 l2 (by omega)
 rw [e1,e2] at this
 exact this
theorem rows_low {p:Nat->Bool}{f:Nat × Nat->Bool}{n:Nat}{rs:List (List Nat)}(h:∀ r c,r < n->f (r,c)=false):(allCs p 0 (rs.take n)).filter f=[]:=by
 rw [List.filter_eq_nil_iff]
 intro x hx
 obtain ⟨k,j,t,c,e,hk,_,_⟩:=mem_allCs hx
 have hkl:k < n:=by
  have:=(List.getElem?_eq_some_iff.mp hk).1
  rw [List.length_take] at this
  omega
 subst e
 rw [h _ _ (by omega)]
 exact Bool.false_ne_true
theorem rows_high {p:Nat->Bool}{f:Nat × Nat->Bool}{n:Nat}{rs:List (List Nat)}(h:∀ r c,n<=r->f (r,c)=false):(allCs p 0 (rs.take n)).filter f=(allCs p 0 rs).filter f:=by
 by_cases hn:n<=rs.length
 ·have e:=List.take_append_drop n rs
  have e2:allCs p 0 rs=allCs p 0 (rs.take n)++allCs p (0 + (rs.take n).length) (rs.drop n):=by rw [<- allCs_append,e]
  rw [e2,List.filter_append]
  have z:(allCs p (0 + (rs.take n).length) (rs.drop n)).filter f=[]:=by
   rw [List.filter_eq_nil_iff]
   intro x hx
   obtain ⟨k,j,t,c,e,hk,_,_⟩:=mem_allCs hx
   subst e
   rw [List.length_take,h _ _ (by omega)]
   exact Bool.false_ne_true
  rw [z,List.append_nil]
 ·rw [List.take_of_length_le (by omega)]
theorem cols_low {p:Nat->Bool}{f:Nat × Nat->Bool}{i n:Nat}{t:List Nat}(h:∀ c,c < n->f (i,c)=false):(rowCs p i 0 (t.take n)).filter f=[]:=by
 rw [List.filter_eq_nil_iff]
 intro x hx
 obtain ⟨m,c,e,hm,_⟩:=mem_rowCs hx
 have hml:m < n:=by
  have:=(List.getElem?_eq_some_iff.mp hm).1
  rw [List.length_take] at this
  omega
 subst e
 rw [h _ (by omega)]
 exact Bool.false_ne_true
theorem cols_high {p:Nat->Bool}{f:Nat × Nat->Bool}{i n:Nat}{t:List Nat}(h:∀ c,n<=c->f (i,c)=false):(rowCs p i 0 (t.take n)).filter f=(rowCs p i 0 t).filter f:=by
 by_cases hn:n<=t.length
 ·have e:=List.take_append_drop n t
  have e2:rowCs p i 0 t=rowCs p i 0 (t.take n)++rowCs p i (0 + (t.take n).length) (t.drop n):=by rw [<- rowCs_append,e]
  rw [e2,List.filter_append]
  have z:(rowCs p i (0 + (t.take n).length) (t.drop n)).filter f=[]:=by
   rw [List.filter_eq_nil_iff]
   intro x hx
   obtain ⟨m,c,e,hm,_⟩:=mem_rowCs hx
   subst e
   rw [List.length_take,h _ (by omega)]
   exact Bool.false_ne_true
  rw [z,List.append_nil]
 ·rw [List.take_of_length_le (by omega)]
end Cells
namespace Parts
noncomputable abbrev C:=Nat × Nat
structure Good (cl:C->List C)(done:List C)(gs:List (List C)):Prop where
 ne:∀ g ∈ gs,g ≠ []
 nd:gs.flatten.Nodup
 from_:∀ x ∈ gs.flatten,∃ o ∈ done,x ∈ cl o
 cov:∀ o ∈ done,cl o ≠ []->∃ g ∈ gs,∀ x ∈ cl o,x ∈ g
 con:∀ g ∈ gs,∀ S:C->Prop,(∀ o ∈ done,(∃ x ∈ cl o,S x)->∀ x ∈ cl o,S x)->(∃ x ∈ g,S x)->∀ x ∈ g,S x
 srt:∀ g ∈ gs,g.Pairwise Cells.lex
theorem Good.start (cl:C->List C):Good cl [] []:=⟨(fun _ h=>nomatch h),List.nodup_nil,(fun _ h=>nomatch h),(fun _ h=>nomatch h),(fun _ h=>nomatch h),(fun _ h=>nomatch h)⟩
theorem Good.skip {cl:C->List C}{done:List C}{gs:List (List C)}(G:Good cl done gs){o:C}(h:cl o=[]):Good cl (done++[o]) gs:=by
 refine ⟨G.ne,G.nd,fun x hx=>?_,fun p hp hn=>?_,fun g hg S hS=>G.con g hg S fun p hp=>hS p (List.mem_append_left _ hp),G.srt⟩
 ·obtain ⟨p,hp,hx⟩:=G.from_ x hx
  exact ⟨p,List.mem_append_left _ hp,hx⟩
 ·rcases List.mem_append.mp hp with hp | hp
  ·exact G.cov p hp hn
  ·have e:p=o:=by simpa using hp
   subst e
   exact absurd h hn
theorem one_group {gs:List (List C)}(nd:gs.flatten.Nodup):∀ {g g':List C} {x:C},g ∈ gs->g' ∈ gs->x ∈ g->x ∈ g'->g=g':=by
 induction gs with
 | nil=>intro g g' x h; cases h
 | cons a r ih =>
  rw [List.flatten_cons,List.nodup_append] at nd
  obtain ⟨_,h2,h3⟩:=nd
  intro g g' x hg hg' hx hx'
  rcases List.mem_cons.mp hg with e1 | g1
  ·rcases List.mem_cons.mp hg' with e2 | g2
   ·rw [e1,e2]
   ·exact absurd rfl (h3 x (e1 ▸ hx) x (List.mem_flatten.mpr ⟨g',g2,hx'⟩))
  ·rcases List.mem_cons.mp hg' with e2 | g2
   ·exact absurd rfl (h3 x (e2 ▸ hx') x (List.mem_flatten.mpr ⟨g,g1,hx⟩))
   ·exact ih h2 g1 g2 hx hx'
theorem flatten_filter_sub (p:List C->Bool):∀ gs:List (List C),(gs.filter p).flatten.Sublist gs.flatten
 | []=>List.Sublist.refl _
 | a :: r=>by
  rw [List.filter_cons,List.flatten_cons]
  split
  ·rw [List.flatten_cons]
   exact List.Sublist.append (List.Sublist.refl _) (flatten_filter_sub p r)
  ·exact List.Sublist.trans (flatten_filter_sub p r) (List.sublist_append_right _ _)
noncomputable def meets (g0 g:List C):Bool:=!(g.filter fun c=>g0.any fun x=>decide (x=c)).isEmpty
theorem meets_iff {g0 g:List C}:meets g0 g=true ↔ ∃ x ∈ g,x ∈ g0:=by
 unfold meets
 rw [Bool.not_eq_true',List.isEmpty_eq_false_iff]
 constructor
 ·intro h
  obtain ⟨x,hx⟩:=List.exists_mem_of_ne_nil _ h
  rw [List.mem_filter,List.any_eq_true] at hx
  obtain ⟨h1,y,h2,h3⟩:=hx
  have e:y=x:=of_decide_eq_true h3
  subst e
  exact ⟨y,h1,h2⟩
 ·rintro ⟨x,h1,h2⟩ hn
  have:x ∈ g.filter fun c=>g0.any fun x=>decide (x=c):=List.mem_filter.mpr ⟨h1,List.any_eq_true.mpr ⟨x,h2,decide_eq_true rfl⟩⟩
  rw [hn] at this
  cases this
noncomputable def whole (w:List C):List (List C)->List C
 | []=>w
 | g :: r=>whole (w++g.filter fun c=>!(w.any fun x=>decide (x=c))) r
theorem whole_snoc (w:List C)(ms:List (List C))(g:List C):whole w (ms++[g])=whole w ms++g.filter fun c=>!((whole w ms).any fun x=>decide (x=c)):=by
 induction ms generalizing w with
 | nil=>rfl
 | cons a r ih=>exact ih _
theorem any_iff (w:List C)(c:C):(w.any fun x=>decide (x=c))=true ↔ c ∈ w:=by
 rw [List.any_eq_true]
 constructor
 ·rintro ⟨x,h1,h2⟩
  have e:x=c:=of_decide_eq_true h2
  subst e
  exact h1
 ·intro h
  exact ⟨c,h,decide_eq_true rfl⟩
theorem mem_whole {x:C}:∀ {w:List C} {ms:List (List C)},x ∈ whole w ms ↔ x ∈ w\/∃ m ∈ ms,x ∈ m
 | w,[]=>by simp [whole]
 | w,g :: r=>by
  rw [whole,mem_whole,List.mem_append,List.mem_filter]
  constructor
  ·rintro ((h | ⟨h,_⟩) | ⟨m,hm,h⟩)
   ·exact .inl h
   ·exact .inr ⟨g,List.mem_cons_self,h⟩
   ·exact .inr ⟨m,List.mem_cons_of_mem _ hm,h⟩
  ·rintro (h | ⟨m,hm,h⟩)
   ·exact .inl (.inl h)
   ·rcases List.mem_cons.mp hm with rfl | hm
    ·by_cases hw:x ∈ w
     ·exact .inl (.inl hw)
     ·refine .inl (.inr ⟨h,?_⟩)
      rw [Bool.not_eq_true',Bool.eq_false_iff]
      exact fun z=>hw ((any_iff w x).mp z)
    ·exact .inr ⟨m,hm,h⟩
theorem nodup_whole:∀ {w:List C} {ms:List (List C)},w.Nodup->(∀ m ∈ ms,m.Nodup)->(whole w ms).Nodup
 | w,[],h,_=>h
 | w,g :: r,h,hm=>by
  rw [whole]
  refine nodup_whole ?_ fun m hm'=>hm m (List.mem_cons_of_mem _ hm')
  rw [List.nodup_append]
  refine ⟨h,(hm g List.mem_cons_self).sublist List.filter_sublist,fun a ha b hb e=>?_⟩
  subst e
  have hb2:=(List.mem_filter.mp hb).2
  rw [(any_iff w a).mpr ha] at hb2
  cases hb2
theorem Good.step {cl:C->List C}{done:List C}{gs:List (List C)}(G:Good cl done gs){o:C}(h:cl o ≠ [])(hn:(cl o).Nodup){rest:List (List C)}{w:List C}(hr:rest=gs.filter fun g=>!((gs.filter (meets (cl o))).any fun m=>decide (m=g)))
  (hw:w.Perm (whole (cl o) (gs.filter (meets (cl o))))) (hs:w.Pairwise Cells.lex):Good cl (done++[o]) (rest++[w]):=by
 have mr:∀ g,g ∈ rest ↔ g ∈ gs/\¬ ∃ x ∈ g,x ∈ cl o:=fun g=>by
  rw [hr,List.mem_filter,Bool.not_eq_true',Bool.eq_false_iff]
  constructor
  ·rintro ⟨h1,h2⟩
   exact ⟨h1,fun h3=>h2 (List.any_eq_true.mpr ⟨g,List.mem_filter.mpr ⟨h1,meets_iff.mpr h3⟩,decide_eq_true rfl⟩)⟩
  ·rintro ⟨h1,h2⟩
   refine ⟨h1,fun h3=>?_⟩
   obtain ⟨m,hm,e⟩:=List.any_eq_true.mp h3
   have e':m=g:=of_decide_eq_true e
   subst e'
   exact h2 (meets_iff.mp (List.mem_filter.mp hm).2)
 have mw:∀ x,x ∈ w ↔ x ∈ cl o\/∃ g ∈ gs,(∃ y ∈ g,y ∈ cl o)/\x ∈ g:=fun x=>by
  rw [hw.mem_iff,mem_whole]
  constructor
  ·rintro (h1 | ⟨m,hm,h1⟩)
   ·exact .inl h1
   ·obtain ⟨h2,h3⟩:=List.mem_filter.mp hm
    exact .inr ⟨m,h2,meets_iff.mp h3,h1⟩
  ·rintro (h1 | ⟨g,h2,h3,h1⟩)
   ·exact .inl h1
   ·exact .inr ⟨g,List.mem_filter.mpr ⟨h2,meets_iff.mpr h3⟩,h1⟩
 have gn:∀ g ∈ gs,g.Nodup:=fun g hg=>G.nd.sublist (List.sublist_flatten_of_mem hg)
 have wn:w.Nodup:=hw.nodup_iff.mpr (nodup_whole hn fun m hm=>gn m (List.mem_filter.mp hm).1)
 refine ⟨fun g hg=>?_,?_,fun x hx=>?_,fun p hp hne=>?_,fun g hg S hS=>?_,fun g hg=>?_⟩
 ·rcases List.mem_append.mp hg with hg | hg
  ·exact G.ne g ((mr g).mp hg).1
  ·have e:g=w:=by simpa using hg
   subst e
   obtain ⟨x,hx⟩:=List.exists_mem_of_ne_nil _ h
   exact List.ne_nil_of_mem ((mw x).mpr (.inl hx))
 ·rw [List.flatten_append,List.nodup_append]
  refine ⟨G.nd.sublist (by rw [hr]; exact flatten_filter_sub _ gs),by simpa using wn,fun a ha b hb e=>?_⟩
  subst e
  have hb':a ∈ w:=by simpa using hb
  obtain ⟨g,hg,hx⟩:=List.mem_flatten.mp ha
  obtain ⟨g1,g2⟩:=(mr g).mp hg
  rcases (mw a).mp hb' with h1 | ⟨m,m1,m2,m3⟩
  ·exact g2 ⟨a,hx,h1⟩
  ·have e:=one_group G.nd g1 m1 hx m3
   subst e
   exact g2 m2
 ·rw [List.flatten_append] at hx
  rcases List.mem_append.mp hx with hx | hx
  ·obtain ⟨g,hg,hx⟩:=List.mem_flatten.mp hx
   obtain ⟨p,hp,hx⟩:=G.from_ x (List.mem_flatten.mpr ⟨g,((mr g).mp hg).1,hx⟩)
   exact ⟨p,List.mem_append_left _ hp,hx⟩
  ·have hx':x ∈ w:=by simpa using hx
   rcases (mw x).mp hx' with h1 | ⟨g,g1,_,g3⟩
   ·exact ⟨o,by simp,h1⟩
   ·obtain ⟨p,hp,hx⟩:=G.from_ x (List.mem_flatten.mpr ⟨g,g1,g3⟩)
    exact ⟨p,List.mem_append_left _ hp,hx⟩
 ·rcases List.mem_append.mp hp with hp | hp
  ·obtain ⟨g,hg,hx⟩:=G.cov p hp hne
   by_cases hm:∃ x ∈ g,x ∈ cl o
   ·exact ⟨w,by simp,fun x hx'=>(mw x).mpr (.inr ⟨g,hg,hm,hx x hx'⟩)⟩
   ·exact ⟨g,List.mem_append_left _ ((mr g).mpr ⟨hg,hm⟩),hx⟩
  ·have e:p=o:=by simpa using hp
   subst e
   exact ⟨w,by simp,fun x hx=>(mw x).mpr (.inl hx)⟩
 ·have hS':∀ p ∈ done,(∃ x ∈ cl p,S x)->∀ x ∈ cl p,S x:=fun p hp=>hS p (List.mem_append_left _ hp)
  rcases List.mem_append.mp hg with hg | hg
  ·exact G.con g ((mr g).mp hg).1 S hS'
  ·have e:g=w:=by simpa using hg
   subst e
   rintro ⟨x,hx,sx⟩
   have all0:∀ y ∈ cl o,S y:=by
    refine hS o (by simp) ?_
    rcases (mw x).mp hx with h1 | ⟨m,m1,⟨y,y1,y2⟩,m3⟩
    ·exact ⟨x,h1,sx⟩
    ·exact ⟨y,y2,G.con m m1 S hS' ⟨x,m3,sx⟩ y y1⟩
   intro z hz
   rcases (mw z).mp hz with h1 | ⟨m,m1,⟨y,y1,y2⟩,m3⟩
   ·exact all0 z h1
   ·exact G.con m m1 S hS' ⟨y,y1,all0 y y2⟩ z m3
 ·rcases List.mem_append.mp hg with hg | hg
  ·exact G.srt g ((mr g).mp hg).1
  ·have e:g=w:=by simpa using hg
   subst e
   exact hs
theorem Good.perm {cl:C->List C}{done:List C}{gs gs':List (List C)}(G:Good cl done gs)(h:gs'.Perm gs):Good cl done gs':=by
 refine ⟨fun g hg=>G.ne g (h.mem_iff.mp hg),h.flatten.nodup_iff.mpr G.nd,fun x hx=>G.from_ x (h.flatten.mem_iff.mp hx),fun o ho hn=>?_,fun g hg=>G.con g (h.mem_iff.mp hg),fun g hg=>G.srt g (h.mem_iff.mp hg)⟩
 obtain ⟨g,hg,hx⟩:=G.cov o ho hn
 exact ⟨g,h.mem_iff.mpr hg,hx⟩
theorem len_flat:∀ {gs:List (List C)},(∀ g ∈ gs,g ≠ [])->gs.length<=gs.flatten.length
 | [],_=>Nat.le_refl _
 | g :: r,h=>by
  have ih:=len_flat (gs:=r) fun x hx=>h x (List.mem_cons_of_mem _ hx)
  have:1<=g.length:=List.length_pos_iff.mpr (h g List.mem_cons_self)
  rw [List.flatten_cons,List.length_append,List.length_cons]
  omega
theorem nodup_len:∀ {a b:List C},a.Nodup->(∀ x ∈ a,x ∈ b)->a.length<=b.length
 | [],_,_,_=>Nat.zero_le _
 | x :: r,b,h,s=>by
  obtain ⟨h1,h2⟩:=List.nodup_cons.mp h
  have hx:=s x List.mem_cons_self
  have ih:=nodup_len (a:=r) (b:=b.erase x) h2 fun y hy=>(List.mem_erase_of_ne (fun (e:y=x)=>h1 (by rw [<- e]; exact hy))).mpr (s y (List.mem_cons_of_mem _ hy))
  rw [List.length_erase_of_mem hx] at ih
  have:=List.length_pos_of_mem hx
  rw [List.length_cons]
  omega
end Parts
namespace Subs
variable {α:Type}
noncomputable def step (S:List (List α))(c:α):List (List α):=S++S.map (·++[c])
noncomputable def subs (cs:List α):List (List α):=cs.foldl step [[]]
noncomputable def pick:List α->Nat->List α
 | [],_=>[]
 | c :: r,b=>(if b % 2=1 then [c] else [])++pick r (b / 2)
theorem subs_snoc (cs:List α)(c:α):subs (cs++[c])=step (subs cs) c:=by
 unfold subs
 rw [List.foldl_append]
 rfl
theorem pick_lo:∀ (cs:List α) (c:α) (b:Nat),b < 2 ^ cs.length->pick (cs++[c]) b=pick cs b
 | [],c,b,h=>by
  have:b=0:=by
   simp at h
   omega
  subst this
  rfl
 | d :: r,c,b,h=>by
  show _++pick (r++[c]) (b / 2)=_++pick r (b / 2)
  rw [pick_lo r c (b / 2) (by
   rw [List.length_cons,Nat.pow_succ] at h
   omega)]
theorem pick_hi:∀ (cs:List α) (c:α) (b:Nat),b < 2 ^ cs.length->pick (cs++[c]) (2 ^ cs.length + b)=pick cs b++[c]
 | [],c,b,h=>by
  have:b=0:=by
   simp at h
   omega
  subst this
  rfl
 | d :: r,c,b,h=>by
  rw [List.length_cons,Nat.pow_succ] at h
  show (if (2 ^ (r.length + 1) + b) % 2=1 then [d] else [])++pick (r++[c]) ((2 ^ (r.length + 1) + b) / 2)=((if b % 2=1 then [d] else [])++pick r (b / 2))++[c]
  have e1:(2 ^ (r.length + 1) + b) % 2=b % 2:=by
   rw [Nat.pow_succ]
   omega
  have e2:(2 ^ (r.length + 1) + b) / 2=2 ^ r.length + b / 2:=by
   rw [Nat.pow_succ]
   omega
  rw [e1,e2,pick_hi r c (b / 2) (by omega),List.append_assoc]
theorem subs_pick (cs:List α):subs cs=(List.range (2 ^ cs.length)).map (pick cs):=by
 rw [<- List.reverse_reverse cs]
 induction cs.reverse with
 | nil=>rfl
 | cons c r ih =>
  rw [List.reverse_cons,subs_snoc,ih,List.length_append,List.length_singleton,Nat.pow_succ,Nat.mul_two,List.range_add,List.map_append,List.map_map]
  unfold step
  rw [List.map_map]
  congr 1
  ·refine List.map_congr_left fun b hb=>?_
   exact (pick_lo _ _ _ (List.mem_range.mp hb)).symm
  ·refine List.map_congr_left fun b hb=>?_
   exact (pick_hi _ _ _ (List.mem_range.mp hb)).symm
end Subs
namespace Grow
variable {α β:Type}
noncomputable def cnt (near:β->α->Bool)(o:β)(p:List α):Nat:=(p.filter (near o)).length
noncomputable def mayB (near:β->α->Bool)(num:β->Int)(rest:List α)(o:β)(p:List α):Bool:=decide (num o - ((cnt near o rest:Nat):Int)<=((cnt near o p:Nat):Int)) && decide (((cnt near o p:Nat):Int)<=num o)
noncomputable def chk (near:β->α->Bool)(num:β->Int)(O:List β)(c:α)(rest:List α)(p:List α):Bool:=(O.filter fun o=>near o c).all fun o=>mayB near num rest o p
noncomputable def grow (near:β->α->Bool)(num:β->Int)(O:List β):List (List α)->List α->List (List α)
 | F,[]=>F
 | F,c :: rest=>grow near num O ((Subs.step F c).filter (chk near num O c rest)) rest
noncomputable def good (near:β->α->Bool)(num:β->Int)(O:List β)(done rest:List α)(p:List α):Bool:=(O.filter fun o=>done.any (near o)).all fun o=>mayB near num rest o p
theorem cnt_cons (near:β->α->Bool)(o:β)(c:α)(r:List α):cnt near o (c :: r)=cnt near o r + if near o c=true then 1 else 0:=by
 unfold cnt
 rw [List.filter_cons]
 split <;> rfl
theorem cnt_snoc (near:β->α->Bool)(o:β)(p:List α)(c:α):cnt near o (p++[c])=cnt near o p + if near o c=true then 1 else 0:=by
 unfold cnt
 rw [List.filter_append,List.length_append]
 congr 1
 rw [List.filter_cons]
 split <;> rfl
theorem may_iff {near:β->α->Bool}{num:β->Int}{rest:List α}{o:β}{p:List α}:mayB near num rest o p=true ↔ num o - ((cnt near o rest:Nat):Int)<=((cnt near o p:Nat):Int)/\((cnt near o p:Nat):Int)<=num o:=by
 unfold mayB
 rw [Bool.and_eq_true,decide_eq_true_eq,decide_eq_true_eq]
theorem chk_iff {near:β->α->Bool}{num:β->Int}{O:List β}{c:α}{rest p:List α}:chk near num O c rest p=true ↔ ∀ o ∈ O,near o c=true->mayB near num rest o p=true:=by
 unfold chk
 rw [List.all_eq_true]
 exact ⟨fun h o ho hn=>h o (List.mem_filter.mpr ⟨ho,hn⟩),fun h o ho=>h o (List.mem_filter.mp ho).1 (List.mem_filter.mp ho).2⟩
theorem good_iff {near:β->α->Bool}{num:β->Int}{O:List β}{done rest p:List α}:good near num O done rest p=true ↔ ∀ o ∈ O,done.any (near o)=true->mayB near num rest o p=true:=by
 unfold good
 rw [List.all_eq_true]
 exact ⟨fun h o ho hn=>h o (List.mem_filter.mpr ⟨ho,hn⟩),fun h o ho=>h o (List.mem_filter.mp ho).1 (List.mem_filter.mp ho).2⟩
theorem any_snoc (near:β->α->Bool)(o:β)(done:List α)(c:α):(done++[c]).any (near o)=true ↔ done.any (near o)=true\/near o c=true:=by
 rw [List.any_append,Bool.or_eq_true]
 simp
theorem good_lo (near:β->α->Bool)(num:β->Int)(O:List β)(done rest:List α)(c:α)(p:List α):(good near num O done (c :: rest) p && chk near num O c rest p)=good near num O (done++[c]) rest p:=by
 rw [Bool.eq_iff_iff,Bool.and_eq_true,good_iff,chk_iff,good_iff]
 constructor
 ·rintro ⟨h1,h2⟩ o ho hn
  by_cases hc:near o c=true
  ·exact h2 o ho hc
  ·have:=h1 o ho (((any_snoc near o done c).mp hn).resolve_right hc)
   rw [may_iff,cnt_cons,if_neg hc] at this
   exact may_iff.mpr this
 ·intro h
  refine ⟨fun o ho hn=>?_,fun o ho hc=>h o ho ((any_snoc near o done c).mpr (.inr hc))⟩
  have:=may_iff.mp (h o ho ((any_snoc near o done c).mpr (.inl hn)))
  rw [may_iff,cnt_cons]
  split <;> omega
theorem good_hi (near:β->α->Bool)(num:β->Int)(O:List β)(done rest:List α)(c:α)(p:List α):(good near num O done (c :: rest) p && chk near num O c rest (p++[c]))=good near num O (done++[c]) rest (p++[c]):=by
 rw [Bool.eq_iff_iff,Bool.and_eq_true,good_iff,chk_iff,good_iff]
 constructor
 ·rintro ⟨h1,h2⟩ o ho hn
  by_cases hc:near o c=true
  ·exact h2 o ho hc
  ·have:=h1 o ho (((any_snoc near o done c).mp hn).resolve_right hc)
   rw [may_iff,cnt_cons,if_neg hc] at this
   rw [may_iff,cnt_snoc,if_neg hc]
   exact this
 ·intro h
  refine ⟨fun o ho hn=>?_,fun o ho hc=>h o ho ((any_snoc near o done c).mpr (.inr hc))⟩
  have:=may_iff.mp (h o ho ((any_snoc near o done c).mpr (.inl hn)))
  rw [cnt_snoc] at this
  rw [may_iff,cnt_cons]
  split at this <;> rename_i hc
  ·rw [if_pos hc]
   omega
  ·rw [if_neg hc]
   omega
theorem step_good (near:β->α->Bool)(num:β->Int)(O:List β)(done rest:List α)(c:α)(S:List (List α)):(Subs.step (S.filter (good near num O done (c :: rest))) c).filter (chk near num O c rest)=(Subs.step S c).filter (good near num O (done++[c]) rest):=by
 unfold Subs.step
 rw [List.filter_append,List.filter_append]
 congr 1
 ·rw [List.filter_filter]
  refine List.filter_congr fun p _=>?_
  rw [<- good_lo,Bool.and_comm]
 ·rw [List.filter_map,List.filter_map,List.filter_filter]
  congr 1
  refine List.filter_congr fun p _=>?_
  show (chk near num O c rest (p++[c]) && good near num O done (c :: rest) p)=good near num O (done++[c]) rest (p++[c])
  rw [<- good_hi,Bool.and_comm]
theorem grow_from (near:β->α->Bool)(num:β->Int)(O:List β):∀ (rest done:List α) (S:List (List α)),grow near num O (S.filter (good near num O done rest)) rest=(rest.foldl Subs.step S).filter (good near num O (done++rest) [])
 | [],done,S=>by
  rw [List.append_nil]
  rfl
 | c :: r,done,S=>by
  show grow near num O ((Subs.step (S.filter (good near num O done (c :: r))) c).filter (chk near num O c r)) r=_
  rw [step_good,grow_from near num O r (done++[c]) (Subs.step S c),List.append_assoc]
  rfl
noncomputable def fits (near:β->α->Bool)(num:β->Int)(O:List β)(part:List α)(p:List α):Bool:=(O.filter fun o=>part.any (near o)).all fun o=>decide (((cnt near o p:Nat):Int)=num o)
theorem grow_is (near:β->α->Bool)(num:β->Int)(O:List β)(part:List α):grow near num O [[]] part=(Subs.subs part).filter (fits near num O part):=by
 have h:=grow_from near num O part [] [[]]
 have e:([[]]:List (List α)).filter (good near num O [] part)=[[]]:=by
  have:good near num O [] part []=true:=good_iff.mpr fun o _ hn=>by simp at hn
  rw [List.filter_cons,if_pos this]
  rfl
 rw [e] at h
 rw [h]
 show (Subs.subs part).filter _=_
 refine List.filter_congr fun p _=>?_
 rw [List.nil_append]
 unfold good fits
 congr 1
 funext o
 rw [Bool.eq_iff_iff,may_iff,decide_eq_true_eq]
 show num o - ((0:Nat):Int)<=_/\_ ↔ _
 omega
end Grow
namespace Cnt
variable {α:Type}
noncomputable def cnts (g:Nat)(ks:List (List α)):List Int:=(List.range (g + 1)).map fun n=>((ks.countP fun k=>decide (k.length=n):Nat):Int)
theorem cnts_len (g:Nat)(ks:List (List α)):(cnts g ks).length=g + 1:=by
 unfold cnts
 rw [List.length_map,List.length_range]
theorem cnts_nil (g:Nat):cnts g ([]:List (List α))=List.replicate (g + 1) 0:=by
 unfold cnts
 refine List.eq_replicate_iff.mpr ⟨by rw [List.length_map,List.length_range],fun b hb=>?_⟩
 obtain ⟨n,_,rfl⟩:=List.mem_map.mp hb
 rfl
theorem cnts_get {g n:Nat}(ks:List (List α))(h:n<=g):(cnts g ks)[n]?=some ((ks.countP fun k=>decide (k.length=n):Nat):Int):=by
 unfold cnts
 rw [List.getElem?_map,List.getElem?_range (by omega)]
 rfl
theorem cnts_step {g:Nat}(ks:List (List α)){k:List α}(h:k.length<=g):cnts g (ks++[k])=(cnts g ks).set k.length (((ks.countP fun x=>decide (x.length=k.length):Nat):Int) + 1):=by
 refine List.ext_getElem? fun n=>?_
 rw [List.getElem?_set]
 by_cases hn:n<=g
 ·rw [cnts_get _ hn,cnts_get _ hn,cnts_len,List.countP_append]
  by_cases e:k.length=n
  ·rw [if_pos e,if_pos (by omega)]
   subst e
   simp
  ·rw [if_neg e]
   simp [e]
 ·have e1:∀ xs:List (List α),(cnts g xs)[n]?=none:=fun xs=>List.getElem?_eq_none (by rw [cnts_len]; omega)
  rw [e1,e1,cnts_len,if_neg (by omega)]
theorem cnts_perm {g:Nat}{as bs:List (List α)}(h:as.Perm bs):cnts g as=cnts g bs:=by
 unfold cnts
 refine List.map_congr_left fun n _=>?_
 rw [h.countP_eq]
end Cnt
namespace Tally
open Subs
variable {α:Type}
theorem fold_app:∀ (B:List α) (S0:List (List α)),B.foldl step S0=(subs B).flatMap fun b=>S0.map (·++b)
 | [],S0=>by simp [subs]
 | c :: r,S0=>by
  have e:subs (c :: r)=(subs r).flatMap fun b=>[b,c :: b]:=by
   show r.foldl step (step [[]] c)=_
   rw [fold_app r]
   rfl
  show r.foldl step (step S0 c)=_
  rw [fold_app r,e,List.flatMap_assoc]
  congr 1
  funext b
  show (S0++S0.map (·++[c])).map (·++b)=S0.map (·++b)++(S0.map (·++(c :: b))++[])
  rw [List.map_append,List.append_nil,List.map_map]
  congr 1
  refine List.map_congr_left fun x _=>?_
  show x++[c]++b=_
  rw [List.append_assoc]
  rfl
theorem subs_cons (c:α)(r:List α):subs (c :: r)=(subs r).flatMap fun b=>[b,c :: b]:=by
 show r.foldl step (step [[]] c)=_
 rw [fold_app r]
 rfl
theorem mem_len {cs S:List α}(h:S ∈ subs cs):S.Sublist cs:=by
 revert S
 induction cs with
 | nil=>intro S h; simp [subs] at h; subst h; exact List.Sublist.refl _
 | cons c r ih =>
  intro S h
  rw [subs_cons] at h
  obtain ⟨b,hb,h⟩:=List.mem_flatMap.mp h
  have:=ih hb
  simp at h
  rcases h with rfl | rfl
  ·exact this.cons c
  ·exact this.cons_cons c
theorem sub_mem {cs:List α}:∀ {S:List α},S.Sublist cs->S ∈ subs cs:=by
 induction cs with
 | nil=>intro S h; cases h; simp [subs]
 | cons c r ih =>
  intro S h
  rw [subs_cons]
  cases h with
  | cons _ h=>exact List.mem_flatMap.mpr ⟨S,ih h,by simp⟩
  | cons_cons _ h=>exact List.mem_flatMap.mpr ⟨_,ih h,by simp⟩
end Tally
namespace K25
open PySem L2
noncomputable abbrev top (i:Nat):Stmt:=K25E.top i
noncomputable abbrev s_open_cells:Stmt:=top 6
noncomputable abbrev s_around:Stmt:=top 7
noncomputable abbrev s_number_at:Stmt:=top 8
noncomputable abbrev s_cells_of:Stmt:=top 9
noncomputable abbrev s_sign_at:Stmt:=top 10
noncomputable abbrev s_numbers_of:Stmt:=top 12
noncomputable abbrev s_part_layings:Stmt:=top 15
noncomputable abbrev s_needs_at:Stmt:=top 16
noncomputable abbrev s_may_fit:Stmt:=top 17
noncomputable abbrev s_part_counts:Stmt:=top 18
noncomputable abbrev s_part_counts_at:Stmt:=top 19
noncomputable abbrev s_counted:Stmt:=top 20
noncomputable abbrev s_counted_at:Stmt:=top 21
noncomputable abbrev s_law_cell_at:Stmt:=top 23
noncomputable abbrev s_law_sign:Stmt:=top 24
noncomputable abbrev s_law_signs:Stmt:=top 25
noncomputable abbrev s_law_near:Stmt:=top 26
noncomputable abbrev s_law_rows:Stmt:=top 27
noncomputable abbrev s_law_bent:Stmt:=top 28
noncomputable abbrev s_law_board:Stmt:=top 29
noncomputable abbrev s_law_cells:Stmt:=top 30
noncomputable abbrev s_law_around:Stmt:=top 31
noncomputable abbrev s_law_parts:Stmt:=top 32
noncomputable abbrev s_law_case:Stmt:=top 33
noncomputable abbrev s_law_fits:Stmt:=top 34
noncomputable abbrev s_law_right:Stmt:=top 35
noncomputable abbrev s_law_is_true:Stmt:=top 36
noncomputable abbrev s_law:Stmt:=top 37
structure Txt (mg:Str->Option Value):Prop where
 b_any:mg "any"=none
 b_enumerate:mg "enumerate"=none
 b_int:mg "int"=none
 b_len:mg "len"=none
 b_list:mg "list"=none
 b_max:mg "max"=none
 b_min:mg "min"=none
 b_range:mg "range"=none
 b_sorted:mg "sorted"=none
 b_str:mg "str"=none
 b_zip:mg "zip"=none
 v_CLOSED_SIGN:∃ t,mg "CLOSED_SIGN"=some (.str "?" t)
 v_MOST_OF_PART:∃ t,mg "MOST_OF_PART"=some (.int 14 t)
 v_NO_CELL_SIGN:∃ t,mg "NO_CELL_SIGN"=some (.str "#" t)
structure Prog (K:PySem.W.Frag)(mg:Str->Option Value):Prop where
 open_cells:∃ (f:Addr) (fd:FuncData),DefAt K mg "open_cells" s_open_cells ["board"] f fd
 around:∃ (f:Addr) (fd:FuncData),DefAt K mg "around" s_around ["board","cell"] f fd
 number_at:∃ (f:Addr) (fd:FuncData),DefAt K mg "number_at" s_number_at ["board","cell"] f fd
 cells_of:∃ (f:Addr) (fd:FuncData),DefAt K mg "cells_of" s_cells_of ["board"] f fd
 sign_at:∃ (f:Addr) (fd:FuncData),DefAt K mg "sign_at" s_sign_at ["board","cell"] f fd
 numbers_of:∃ (f:Addr) (fd:FuncData),DefAt K mg "numbers_of" s_numbers_of ["board","part"] f fd
 part_layings:∃ (f:Addr) (fd:FuncData),DefAt K mg "part_layings" s_part_layings ["board","part"] f fd
 needs_at:∃ (f:Addr) (fd:FuncData),DefAt K mg "needs_at" s_needs_at ["told","cell","rest"] f fd
 may_fit:∃ (f:Addr) (fd:FuncData),DefAt K mg "may_fit" s_may_fit ["needs","pick"] f fd
 part_counts:∃ (f:Addr) (fd:FuncData),DefAt K mg "part_counts" s_part_counts ["board","part"] f fd
 part_counts_at:∃ (f:Addr) (fd:FuncData),DefAt K mg "part_counts_at" s_part_counts_at ["board","part","cell"] f fd
 counted:∃ (f:Addr) (fd:FuncData),DefAt K mg "counted" s_counted ["found","greatest"] f fd
 counted_at:∃ (f:Addr) (fd:FuncData),DefAt K mg "counted_at" s_counted_at ["found","greatest","cell"] f fd
 law_cell_at:∃ (f:Addr) (fd:FuncData),DefAt K mg "_law_cell_at" s_law_cell_at ["_law_script","_law_k"] f fd
 law_sign:∃ (f:Addr) (fd:FuncData),DefAt K mg "_law_sign" s_law_sign ["_law_way","_law_cell","_law_turn"] f fd
 law_signs:∃ (f:Addr) (fd:FuncData),DefAt K mg "_law_signs" s_law_signs ["_law_script","_law_places","_law_most"] f fd
 law_near:∃ (f:Addr) (fd:FuncData),DefAt K mg "_law_near" s_law_near ["_law_cell","_law_high","_law_wide"] f fd
 law_rows:∃ (f:Addr) (fd:FuncData),DefAt K mg "_law_rows" s_law_rows ["_law_signs_here","_law_high","_law_wide"] f fd
 law_bent:∃ (f:Addr) (fd:FuncData),DefAt K mg "_law_bent" s_law_bent ["_law_rows_here","_law_cell"] f fd
 law_board:∃ (f:Addr) (fd:FuncData),DefAt K mg "_law_board" s_law_board ["_law_script","_law_high","_law_wide","_law_most"] f fd
 law_cells:∃ (f:Addr) (fd:FuncData),DefAt K mg "_law_cells" s_law_cells ["_law_rows_here","_law_signs_here"] f fd
 law_around:∃ (f:Addr) (fd:FuncData),DefAt K mg "_law_around" s_law_around ["_law_rows_here","_law_cell"] f fd
 law_parts:∃ (f:Addr) (fd:FuncData),DefAt K mg "_law_parts" s_law_parts ["_law_rows_here"] f fd
 law_case:∃ (f:Addr) (fd:FuncData),DefAt K mg "_law_case" s_law_case ["_law_script","_law_most"] f fd
 law_fits:∃ (f:Addr) (fd:FuncData),DefAt K mg "_law_fits" s_law_fits ["_law_rows_here","_law_part","_law_cells_here"] f fd
 law_right:∃ (f:Addr) (fd:FuncData),DefAt K mg "_law_right" s_law_right ["_law_board_here","_law_part","_law_stones","_law_true"] f fd
 law_is_true:∃ (f:Addr) (fd:FuncData),DefAt K mg "_law_is_true" s_law_is_true ["_law_rows_here","_law_stones"] f fd
noncomputable def spCell (K:PySem.W.Frag):Sp:=fun vs H Q _=>∃ (a:Addr) (ns:List Int) (k:Int),vs=[.ref a,.int k]/\SqL K H a (ns.map V.int)/\0<=k/\∀ z:Int,Q (.int z) H
structure Row (signs:List Nat)(n:Nat)(t:Str):Prop where
 len:t.cps.size=n
 mem:∀ c ∈ t.cps.toList,c ∈ signs
structure Rows (signs:List Nat)(rs:List Str):Prop where
 lo:1<=rs.length
 hi:rs.length<=8
 ex:∃ n,1<=n/\n<=8/\∀ t ∈ rs,Row signs n t
noncomputable def bd:Str:="?012345678#"
section
variable {P:Program}{w:World}{K:PySem.W.Frag}{mg:Str->Option Value}{base:Heap}{f:Addr}{fd:FuncData}
theorem sc_law_cell_at:FnScope ["_law_script","_law_k"] ["_law_script","_law_k"] (defScope s_law_cell_at):=⟨rfl,rfl,rfl,by decide +kernel,rfl,by decide +kernel,by decide +kernel⟩
theorem ok_law_cell_at (T:Txt mg)(D:DefAt K mg "_law_cell_at" s_law_cell_at ["_law_script","_law_k"] f fd):FnOk P w K mg base CX0 1 f fd ["_law_script","_law_k"] (spCell K):=by
 refine D.F.ok sc_law_cell_at (fun vs H Q E h=>?_) (fun cdv A outer s H vs Q E hr h=>?_)
 ·obtain ⟨a,ns,i,rfl,_⟩:=h
  rfl
 ·obtain ⟨a,ns,i,rfl,hS,hi,k⟩:=h
  refine ⟨_,(pss_cons (ps_if (pt_cmpR op_lt (pv 1) (pe_callB call_len_seq (by rfl) T.b_len PySem.boot_len (pa_cons (pv 0) pa_nil)) (nomark _)) (pss_one (ps_ret (pe_ix ix_list (pv 0) (pv 1) (fun _ _=>rfl)))) pss_nil)
   (pss_one (ps_ret pe_int))),?_⟩
  refine ⟨_,rfl,_,rfl,a,_,rfl,.inl hS,_,_,rfl,rfl,_,rfl,?_⟩
  refine ite2 (fun c=>?_) (fun c=>?_)
  ·have c':i < ((ns.map V.int).length:Nat):=of_decide_eq_true c
   rw [List.length_map] at c'
   have hl:i.toNat < ns.length:=by omega
   refine ⟨_,rfl,_,rfl,a,_,i,.int ns[i.toNat],rfl,rfl,hS,atI_lt hi (by rw [List.getElem?_map,List.getElem?_eq_getElem hl]; rfl),?_⟩
   exact k _
  ·exact k 0
end
structure BoardAt (H:Hp)(p l:Addr)(rs:List Str)(n:Int):Prop where
 tp:H p=some (.tup [.ref l,.int n])
 rw:H l=some (.lst (rs.map V.str))
theorem BoardAt.mono {H H':Hp}{p l:Addr}{rs:List Str}{n:Int}(b:BoardAt H p l rs n)(s:Same H H'):BoardAt H' p l rs n:=⟨s _ _ b.tp,s _ _ b.rw⟩
noncomputable def codes (rs:List Str):List (List Nat):=rs.map fun t=>t.cps.toList
theorem codes_get {rs:List Str}{i:Nat}{t:Str}(h:rs[i]?=some t):(codes rs)[i]?=some t.cps.toList:=by
 unfold codes
 rw [List.getElem?_map,h]
 rfl
theorem codes_inv {rs:List Str}{i:Nat}{u:List Nat}(h:(codes rs)[i]?=some u):∃ t,rs[i]?=some t/\u=t.cps.toList:=by
 unfold codes at h
 rw [List.getElem?_map] at h
 cases e:rs[i]? with
 | none =>
  rw [e] at h
  cases h
 | some t =>
  rw [e] at h
  cases h
  exact ⟨t,rfl,rfl⟩
theorem codes_len (rs:List Str):(codes rs).length=rs.length:=by
 unfold codes
 rw [List.length_map]
theorem Rows.short {s:List Nat}{rs:List Str}(R:Rows s rs):∀ u ∈ codes rs,u.length<=8:=fun u hu=>by
 obtain ⟨t,ht,rfl⟩:=List.mem_map.mp hu
 obtain ⟨n,_,h8,q⟩:=R.ex
 have:=(q t ht).len
 rw [Array.length_toList]
 omega
theorem Rows.tlen {s:List Nat}{rs:List Str}{i:Nat}{t:Str}(R:Rows s rs)(h:rs[i]?=some t):t.length<=sizeLine:=by
 obtain ⟨n,_,h8,q⟩:=R.ex
 have e:t.length=n:=(q t (List.mem_of_getElem? h)).len
 rw [e]
 exact Nat.le_trans h8 (by decide)
noncomputable def CelR (H:Hp)(v:V)(c:Nat × Nat):Prop:=∃ a,v=V.ref a/\H a=some (.tup [.int (c.1:Nat),.int (c.2:Nat)])
noncomputable def Cel (H:Hp):List V->List (Nat × Nat)->Prop:=Paired (CelR H)
theorem Cel.mono {H H':Hp}(s:Same H H'){vs:List V}{cs:List (Nat × Nat)}(hp:Cel H vs cs):Cel H' vs cs:=by
 induction hp with
 | nil=>exact .nil
 | cons q _ ih =>
  obtain ⟨a,e,h⟩:=q
  exact .cons ⟨a,e,s _ _ h⟩ ih
theorem Cel.snoc {H:Hp}{vs:List V}{cs:List (Nat × Nat)}{v:V}{c:Nat × Nat}(h:Cel H vs cs)(x:CelR H v c):Cel H (vs++[v]) (cs++[c]):=Paired.snoc h x
theorem Cel.append {H:Hp}{vs ws:List V}{cs ds:List (Nat × Nat)}(h:Cel H vs cs)(k:Cel H ws ds):Cel H (vs++ws) (cs++ds):=pr_app h k
theorem Cel.into {H:Hp}(z:Addr)(o:HO){old:List V}(hz:H z=some (.lst old)){vs:List V}{cs:List (Nat × Nat)}(hp:Cel H vs cs):Cel (upd H z o) vs cs:=by
 induction hp with
 | nil=>exact .nil
 | cons q _ ih =>
  obtain ⟨a,e,h⟩:=q
  exact .cons ⟨a,e,by rw [upd_ne (ne_of h hz (by intro y; cases y))]; exact h⟩ ih
theorem Cel.length {H:Hp}{vs:List V}{cs:List (Nat × Nat)}(h:Cel H vs cs):vs.length=cs.length:=Paired.length h
theorem Cel.get {H:Hp}:∀ {vs:List V} {cs:List (Nat × Nat)} {i:Nat} {v:V},Cel H vs cs->vs[i]?=some v->∃ c,cs[i]?=some c/\CelR H v c
 | _,_,_,_,.nil,e=>by simp at e
 | _,_,0,_,.cons r _,e=>by
  simp at e
  subst e
  exact ⟨_,rfl,r⟩
 | _,_,i + 1,v,.cons _ t,e=>by
  obtain ⟨c,h1,h2⟩:=Cel.get (i:=i) (v:=v) t (by simpa using e)
  exact ⟨c,by simpa using h1,h2⟩
noncomputable def cData (c:Nat × Nat):PyData:=.tuple [.int (c.1:Nat),.int (c.2:Nat)]
theorem CelR.rdv {K:PySem.W.Frag}{H:Hp}{v:V}{c:Nat × Nat}(h:CelR H v c):Rdv K H v (cData c):=by
 obtain ⟨a,rfl,h⟩:=h
 exact .tup (SqT.of h) (.cons (.int _) (.cons (.int _) .nil))
theorem cData_cmp (c d:Nat × Nat):CmpD (cData c) (cData d):=⟨rfl,rfl,by show max 0 (max 0 0) + 1<=64; decide⟩
theorem cData_eqv (c d:Nat × Nat):PyData.eqv (cData c) (cData d)=decide (c=d):=by
 obtain ⟨a,b⟩:=c
 obtain ⟨x,y⟩:=d
 show ((((a:Nat):Int) == ((x:Nat):Int)) && ((((b:Nat):Int) == ((y:Nat):Int)) && true))=decide ((a,b)=(x,y))
 by_cases h1:a=x
 ·by_cases h2:b=y
  ·subst h1 h2
   simp
  ·have:¬ ((b:Int)=(y:Int)):=by omega
   simp [h2,this]
 ·have:¬ ((a:Int)=(x:Int)):=by omega
  simp [h1,this]
theorem one_eq (c k:Nat):(V.str ⟨#[c]⟩=V.str ⟨#[k]⟩)=(c=k):=by
 apply propext
 constructor
 ·intro h
  have h2:(⟨#[c]⟩:Str)=⟨#[k]⟩:=V.str.inj h
  have h3:(#[c]:Array Nat)=#[k]:=congrArg Str.cps h2
  simpa using h3
 ·rintro rfl
  rfl
theorem hash_is:("#":Str)=⟨#[35]⟩:=by decide +kernel
theorem ask_is:("?":Str)=⟨#[63]⟩:=by decide +kernel
noncomputable def pCell (c:Nat):Bool:=!decide (c=35)
noncomputable def pShut (c:Nat):Bool:=decide (c=63)
noncomputable def pOpen (c:Nat):Bool:=pCell c && !decide (c=63)
noncomputable def spSign:Sp:=fun vs H Q _=>∃ (p l c:Addr) (rs:List Str) (n:Int) (i j:Nat) (t:Str) (k:Nat),vs=[.ref p,.ref c]/\BoardAt H p l rs n/\H c=some (.tup [.int (i:Nat),.int (j:Nat)])/\rs[i]?=some t/\t.cps.toList[j]?=some k/\t.length<=sizeLine/\Q (.str ⟨#[k]⟩) H
noncomputable def spList (p:Nat->Bool):Sp:=fun vs H Q _=>∃ (a l:Addr) (rs:List Str) (n:Int),vs=[.ref a]/\BoardAt H a l rs n/\Rows bd.cps.toList rs /\
 ∀ (d:Addr) (ws:List V) (H':Hp),H d=none->H' d=some (.lst ws)->Cel H' ws (Cells.allCs p 0 (codes rs))->Same H H'->Q (.ref d) H'
noncomputable def spNumber:Sp:=fun vs H Q _=>∃ (p l c:Addr) (rs:List Str) (n:Int) (i j:Nat) (t:Str) (k:Nat),vs=[.ref p,.ref c]/\BoardAt H p l rs n/\H c=some (.tup [.int (i:Nat),.int (j:Nat)])/\rs[i]?=some t/\t.cps.toList[j]?=some k/\t.length<=sizeLine/\48<=k/\k<=56/\Q (.int ((k:Int) - 48)) H
theorem int_sign {k:Nat}(h1:48<=k)(h2:k<=56):PySem.intText? ⟨#[k]⟩=some ((k:Int) - 48):=by
 have:∀ k ∈ List.range 57,48<=k->PySem.intText? ⟨#[k]⟩=some ((k:Int) - 48):=by decide +kernel
 exact this k (List.mem_range.mpr (by omega)) h1
section
variable {P:Program}{w:World}{K:PySem.W.Frag}{mg:Str->Option Value}{base:Heap}{f:Addr}{fd:FuncData}
theorem sc_sign_at:FnScope ["board","cell"] ["board","cell"] (defScope s_sign_at):=⟨rfl,rfl,rfl,by decide +kernel,rfl,by decide +kernel,by decide +kernel⟩
theorem ok_sign_at (D:DefAt K mg "sign_at" s_sign_at ["board","cell"] f fd):FnOk P w K mg base CX0 1 f fd ["board","cell"] spSign:=by
 refine D.F.ok sc_sign_at (fun vs H Q E h=>?_) (fun cdv A outer s H vs Q E hr h=>?_)
 ·obtain ⟨p,l,c,rs,n,i,j,t,k,rfl,_⟩:=h
  rfl
 ·obtain ⟨p,l,c,rs,n,i,j,t,k,rfl,b,hc,hi,hj,hl,q⟩:=h
  refine ⟨_,(pss_one (ps_ret (pe_ix ix_str (pe_ix ix_list (pe_ix ix_tup (pv 0) pe_int (fun _ _=>rfl)) (pe_ix ix_tup (pv 1) pe_int (fun _ _=>rfl)) (fun _ _=>rfl)) (pe_ix ix_tup (pv 1) pe_int (fun _ _=>rfl)) (fun _ _=>rfl)))),?_⟩
  exact ⟨_,rfl,p,_,0,_,rfl,rfl,SqT.of b.tp,rfl,_,rfl,c,_,0,_,rfl,rfl,SqT.of hc,rfl,l,_,_,_,rfl,rfl,SqL.of b.rw,atI_nat (v:=V.str t) (by rw [List.getElem?_map,hi]; rfl),_,rfl,c,_,1,_,rfl,rfl,SqT.of hc,rfl,t,_,k,rfl,rfl,hl,atI_nat hj,q⟩
theorem sc_cells_of:FnScope ["board","found","row","text"] ["board"] (defScope s_cells_of):=⟨rfl,rfl,rfl,by decide +kernel,rfl,by decide +kernel,by decide +kernel⟩
theorem ok_cells_of (T:Txt mg)(D:DefAt K mg "cells_of" s_cells_of ["board"] f fd):FnOk P w K mg base CX0 1 f fd ["board"] (spList pCell):=by
 refine D.F.ok sc_cells_of (fun vs H Q E h=>?_) (fun cdv A outer s H vs Q E hr h=>?_)
 ·obtain ⟨a,l,rs,n,rfl,_⟩:=h
  rfl
 ·obtain ⟨a,l,rs,n,rfl,b,R,q⟩:=h
  refine ⟨_,(pss_cons (ps_set (i:=1) sc_cells_of.nd rfl (Or.inl rfl) (pe_lst pa_nil))
   (pss_cons (ps_for PassesOwn.never rfl (pi_enumL (by rfl) T.b_enumerate (pa_cons (pe_ix ix_tup (pv 0) pe_int (fun _ _=>rfl)) pa_nil)) (pg_tup rfl (pgs_cons (pg_name (i:=2) sc_cells_of.nd rfl (Or.inr rfl)) (pgs_cons (pg_name (i:=3) sc_cells_of.nd rfl (Or.inl rfl)) pgs_nil))) (pss_one (ps_expr (pe_bm PySem.F.plainAttrs_list PySem.F.slot_list_extend PySem.F.type_list_extend mt_extend (pv 1) (pa_cons (pe_comp (N:=["column","sign","row"]) (src:=[none,none,some 2]) (CompOk.free (O:=(defScope s_cells_of).names) (XN:=["board","found","row","text"]) rfl rfl ⟨_,rfl⟩ rfl rfl (by decide +kernel) (by decide +kernel) (by decide +kernel) rfl (by decide +kernel)) rfl (pi_enumS (by rfl) T.b_enumerate (pa_cons (pv 3) pa_nil)) (fun _ _ _ _ _=>(pg_tupK (n:=2) (K:=K) (by rfl) rfl (pgs_cons (pg_name (i:=0) (by show List.Nodup (["column","sign","row"]:List Str); decide +kernel) rfl (Or.inl rfl)) (pgs_cons (pg_name (i:=1) (by show List.Nodup (["column","sign","row"]:List Str); decide +kernel) rfl (Or.inl rfl)) pgs_nil)))) (fun _ _ _ _ _=>(pifs_one (pt_cmpR op_ne (pv 1) (pe_glob (v:=.str "#") (by rfl) T.v_NO_CELL_SIGN.choose_spec (by exact ⟨_,rfl⟩)) (nomark _)))) (fun _ _ _ _ _=>(pe_tup (pa_cons (pv 2) (pa_cons (pv 0) pa_nil))))) pa_nil)))))
   (pss_one (ps_ret (pv 1))))),?_⟩
  refine ⟨(by show 0<=sizeLine; decide),fun d hd=>?_⟩
  have s0:Same H (upd H d (.lst [])):=same_new hd
  refine ⟨_,rfl,a,_,0,_,rfl,rfl,SqT.of (b.mono s0).tp,rfl,l,rfl,⟨_,SqL.of (b.mono s0).rw⟩,?_⟩
  refine for_enumL (K:=K) (l:=l) (xs:=rs.map V.str) (fun i σ H'=>∃ (v2 v3:Option V) (ws:List V),σ=[some (.ref a),some (.ref d),v2,v3]/\Same H H'/\H' d=some (.lst ws)/\Cel H' ws (Cells.allCs pCell 0 ((codes rs).take i)))
   ⟨_,_,[],rfl,s0,upd_same,.nil⟩ (fun i σ H' _ ⟨_,_,_,_,s1,_⟩=>SqL.of (b.mono s1).rw) ?_ ?_
  ·rintro i x tt σ H1 hx htt ⟨v2,v3,ws,rfl,s1,hd1,hc1⟩
   rw [List.getElem?_map] at hx
   cases e:rs[i]? with
   | none =>
    rw [e] at hx
    cases hx
   | some t =>
    rw [e] at hx
    cases hx
    have hil:i < rs.length:=(List.getElem?_eq_some_iff.mp e).1
    have st:Same H1 (upd H1 tt (.tup [.int (i:Nat),.str t])):=same_new htt
    refine ⟨tt,_,rfl,SqT.of upd_same,rfl,_,_,rfl,_,_,rfl,rfl,?_⟩
    have hd2:upd H1 tt (.tup [.int (i:Nat),.str t]) d=some (.lst ws):=st _ _ hd1
    refine ⟨_,rfl,.inl ⟨rfl,_,SqL.of hd2⟩,_,rfl,t,rfl,fun z hz=>?_⟩
    refine comp_enumS (x:=t) (fun j σ H'=>∃ (u0 u1:Option V) (ys:List V),σ=[u0,u1,some (.int (i:Nat))]/\Same (upd H1 tt (.tup [.int (i:Nat),.str t])) H'/\H' z=some (.lst ys)/\Cel H' ys (Cells.rowCs pCell i 0 (t.cps.toList.take j)))
     ⟨_,_,[],rfl,same_new hz,upd_same,.nil⟩ ?_ ?_
    ·rintro j c t2 σ H2 hc ht2 ⟨u0,u1,ys,rfl,s2,hz2,hc2⟩
     refine ⟨t2,_,rfl,SqT.of upd_same,rfl,_,_,rfl,_,_,rfl,rfl,?_⟩
     refine ⟨_,rfl,rfl,_,rfl,?_⟩
     have hc':t.cps.toList[j]?=some c:=by rw [Array.getElem?_toList]; exact hc
     have s3:Same H2 (upd H2 t2 (.tup [.int (j:Nat),.str ⟨#[c]⟩])):=same_new ht2
     have step:=Cells.rowCs_step (p:=pCell) (i:=i) hc'
     have ed:(!decide (V.str ⟨#[c]⟩=V.str "#"))=pCell c:=by
      rw [hash_is]
      simp only [one_eq]
      rfl
     rw [ed]
     by_cases hp:pCell c=true
     ·rw [hp] at step
      refine iteP hp ?_
      refine ⟨_,rfl,_,rfl,(by show 2<=sizeLine; decide),fun t3 ht3=>?_⟩
      have nz3:z ≠ t3:=ne_of_none (s3 _ _ hz2) ht3
      have s4:Same (upd H2 t2 (.tup [.int (j:Nat),.str ⟨#[c]⟩])) (upd (upd H2 t2 (.tup [.int (j:Nat),.str ⟨#[c]⟩])) t3 (.tup [.int (i:Nat),.int (j:Nat)])):=same_new ht3
      have hlen:ys.length<=8:=by
       rw [hc2.length]
       refine Nat.le_trans (Cells.rowCs_length _ _ _ _) ?_
       have:=R.short _ (List.mem_of_getElem? (codes_get e))
       rw [List.length_take]
       omega
      refine ⟨ys,s4 _ _ (s3 _ _ hz2),Nat.lt_of_le_of_lt hlen (by decide),some (.int (j:Nat)),some (.str ⟨#[c]⟩),ys++[.ref t3],rfl,fun b' o e'=>?_,upd_same,?_⟩
      ·have hb:b' ≠ z:=fun y=>by
        subst y
        rw [hz] at e'
        cases e'
       rw [upd_ne hb]
       exact s4 _ _ (s3 _ _ (s2 _ _ e'))
      ·rw [step]
       have keep:∀ x o,x ≠ z->upd (upd H2 t2 (.tup [.int (j:Nat),.str ⟨#[c]⟩])) t3 (.tup [.int (i:Nat),.int (j:Nat)]) x=some o->upd (upd (upd H2 t2 (.tup [.int (j:Nat),.str ⟨#[c]⟩])) t3 (.tup [.int (i:Nat),.int (j:Nat)])) z (.lst (ys++[.ref t3])) x=some o:=fun x o hx e'=>by
        rw [upd_ne hx]
        exact e'
       refine Cel.snoc ?_ ⟨t3,rfl,keep _ _ nz3.symm upd_same⟩
       exact Cel.into z (.lst (ys++[.ref t3])) (s4 _ _ (s3 _ _ hz2)) (Cel.mono s4 (Cel.mono s3 hc2))
     ·have hp':pCell c=false:=by simpa using hp
      rw [hp'] at step
      refine iteN hp' ?_
      refine ⟨some (.int (j:Nat)),some (.str ⟨#[c]⟩),ys,rfl,s2.trans s3,s3 _ _ hz2,?_⟩
      rw [step]
      simpa using Cel.mono s3 hc2
    ·rintro σ H2 ⟨u0,u1,ys,rfl,s2,hz2,hc2⟩
     have hne:d ≠ z:=ne_of_none hd2 hz
     have hd3:H2 d=some (.lst ws):=s2 _ _ hd2
     have full:t.cps.toList.take t.cps.size=t.cps.toList:=by
      rw [<- Array.length_toList,List.take_length]
     rw [full] at hc2
     have step:=Cells.allCs_step (p:=pCell) (codes_get e)
     have l1:ws.length<=64:=by
      rw [hc1.length]
      refine Nat.le_trans (Cells.allCs_length _ _ _ fun u hu=>R.short u (List.mem_of_mem_take hu)) ?_
      have:=R.hi
      rw [List.length_take,codes_len]
      omega
     have l2:ys.length<=8:=by
      rw [hc2.length]
      exact Nat.le_trans (Cells.rowCs_length _ _ _ _) (R.short _ (List.mem_of_getElem? (codes_get e)))
     refine ⟨d,z,ws,ys,rfl,rfl,hd3,hz2,Nat.le_trans (Nat.add_le_add l1 l2) (by decide),?_⟩
     refine ⟨_,_,ws++ys,rfl,fun b' o e'=>?_,upd_same,?_⟩
     ·have hb:b' ≠ d:=fun y=>by
       subst y
       rw [hd] at e'
       cases e'
      rw [upd_ne hb]
      exact s2 _ _ (st _ _ (s1 _ _ e'))
     ·rw [step]
      exact Cel.into d _ hd3 (Cel.append (Cel.mono s2 (Cel.mono st hc1)) hc2)
  ·rintro σ H1 ⟨v2,v3,ws,rfl,s1,hd1,hc1⟩
   rw [List.length_map,<- codes_len,List.take_length] at hc1
   exact ⟨_,rfl,q d ws H1 hd hd1 hc1 s1⟩
end
section
variable {P:Program}{w:World}{K:PySem.W.Frag}{mg:Str->Option Value}{base:Heap}{f:Addr}{fd:FuncData}
theorem sc_open_cells:FnScope ["board"] ["board"] (defScope s_open_cells):=⟨rfl,rfl,rfl,by decide +kernel,rfl,by decide +kernel,by decide +kernel⟩
theorem ok_open_cells {f1 f2:Addr}{fd1 fd2:FuncData}(T:Txt mg)(D:DefAt K mg "open_cells" s_open_cells ["board"] f fd)(D_cells_of:DefAt K mg "cells_of" s_cells_of ["board"] f1 fd1)(D_sign_at:DefAt K mg "sign_at" s_sign_at ["board","cell"] f2 fd2) :
  FnOk P w K mg base CX0 2 f fd ["board"] (spList pOpen):=by
 have G_cells_of:FnOk P w K mg base CX0 1 f1 fd1 ["board"] (spList pCell):=ok_cells_of T D_cells_of
 have G_sign_at:FnOk P w K mg base CX0 1 f2 fd2 ["board","cell"] spSign:=ok_sign_at D_sign_at
 refine D.F.ok sc_open_cells (fun vs H Q E h=>?_) (fun cdv A outer s H vs Q E hr h=>?_)
 ·obtain ⟨a,l,rs,n,rfl,_⟩:=h
  rfl
 ·obtain ⟨a,l,rs,n,rfl,b,R,q⟩:=h
  refine ⟨_,(pss_one (ps_ret (pe_comp (N:=["cell","board"]) (src:=[none,some 0]) (CompOk.free (O:=(defScope s_open_cells).names) (XN:=["board"]) rfl rfl ⟨_,rfl⟩ rfl rfl (by decide +kernel) (by decide +kernel) (by decide +kernel) rfl (by decide +kernel)) rfl (pi_list (pe_call G_cells_of (hr.mono (by decide)) (by rfl) D_cells_of.g D_cells_of.F.kp D_cells_of.b .nil pass0 (pa_cons (pv 0) pa_nil))) (fun _ _ _ _ _=>(pg_name (i:=0) (by show List.Nodup (["cell","board"]:List Str); decide +kernel) rfl (Or.inl rfl))) (fun _ _ _ _ _=>(pifs_one (pt_cmpR op_ne (pe_call G_sign_at (hr.mono (by decide)) (by rfl) D_sign_at.g D_sign_at.F.kp D_sign_at.b .nil pass0 (pa_cons (pv 1) (pa_cons (pv 0) pa_nil))) (pe_glob (v:=.str "?") (by rfl) T.v_CLOSED_SIGN.choose_spec (by exact ⟨_,rfl⟩)) (nomark _)))) (fun _ _ _ _ _=>(pv 0))))),?_⟩
  refine ⟨_,rfl,a,l,rs,n,rfl,b,R,fun d ws H1 hd hd1 hc1 s1=>⟨d,rfl,⟨_,SqL.of hd1⟩,fun z hz=>?_⟩⟩
  have nz:d ≠ z:=ne_of_none hd1 hz
  refine comp_list (K:=K) (a:=d) (xs:=ws) (fun i σ H'=>∃ (u0:Option V) (ys:List V),σ=[u0,some (.ref a)]/\Same H1 H'/\H' z=some (.lst ys)/\Cel H' ys (((Cells.allCs pCell 0 (codes rs)).take i).filter fun x=>!decide (Cells.sgn (codes rs) x=63)))
   ⟨_,[],rfl,same_new hz,upd_same,.nil⟩ (fun i σ H' _ ⟨_,_,_,s2,_⟩=>SqL.of (s2 _ _ hd1)) ?_ ?_
  ·rintro i x σ H2 hx ⟨u0,ys,rfl,s2,hz2,hc2⟩
   obtain ⟨c,hci,ca,rfl,hca⟩:=Cel.get (Cel.mono s2 hc1) hx
   obtain ⟨k0,j,u,k,ec,hk0,hj,hpc⟩:=Cells.mem_allCs (List.mem_of_getElem? hci)
   obtain ⟨t,ht,rfl⟩:=codes_inv hk0
   rw [Nat.zero_add] at ec
   subst ec
   refine ⟨_,rfl,_,rfl,a,l,ca,rs,n,k0,j,t,k,rfl,(b.mono s1).mono s2,hca,ht,hj,R.tlen ht,rfl,_,rfl,?_⟩
   have es:Cells.sgn (codes rs) (k0,j)=k:=Cells.sgn_at hk0 hj
   have step:((Cells.allCs pCell 0 (codes rs)).take (i + 1)).filter (fun x=>!decide (Cells.sgn (codes rs) x=63))=((Cells.allCs pCell 0 (codes rs)).take i).filter (fun x=>!decide (Cells.sgn (codes rs) x=63))++(if (!decide (k=63))=true then [(k0,j)] else []):=by
    rw [List.take_add_one,hci,List.filter_append]
    congr 1
    show List.filter _ [(k0,j)]=_
    rw [List.filter_cons]
    try dsimp only
    rw [es]
    split <;> rfl
   have ed:(!decide (V.str ⟨#[k]⟩=V.str "?"))=(!decide (k=63)):=by
    rw [ask_is]
    simp only [one_eq]
   rw [ed]
   by_cases hp:(!decide (k=63))=true
   ·rw [if_pos hp] at step
    refine iteP hp ?_
    have hlen:ys.length<=64:=by
     rw [hc2.length]
     refine Nat.le_trans (List.length_filter_le _ _) ?_
     rw [List.length_take]
     have h1:=Cells.allCs_length pCell 0 (codes rs) R.short
     have h2:=R.hi
     rw [codes_len] at h1
     omega
    refine ⟨_,rfl,ys,hz2,Nat.lt_of_le_of_lt hlen (by decide),_,ys++[.ref ca],rfl,fun b' o e'=>?_,upd_same,?_⟩
    ·have hb:b' ≠ z:=fun y=>by
      subst y
      rw [hz] at e'
      cases e'
     rw [upd_ne hb]
     exact s2 _ _ e'
    ·rw [step]
     exact Cel.into z _ hz2 (Cel.snoc hc2 ⟨ca,rfl,hca⟩)
   ·rw [if_neg hp] at step
    refine iteN (by simpa using hp) ?_
    refine ⟨_,ys,rfl,s2,hz2,?_⟩
    rw [step]
    simpa using hc2
  ·rintro σ H2 ⟨u0,ys,rfl,s2,hz2,hc2⟩
   rw [hc1.length,List.take_length,Cells.all_filter (p:=pCell) (q:=fun k=>(!decide (k=63))) (codes rs)] at hc2
   have hz0:H z=none:=s1.free hz
   exact q z ys H2 hz0 hz2 hc2 (s1.trans s2)
end
section
variable {P:Program}{w:World}{K:PySem.W.Frag}{mg:Str->Option Value}{base:Heap}{f:Addr}{fd:FuncData}
theorem sc_number_at:FnScope ["board","cell"] ["board","cell"] (defScope s_number_at):=⟨rfl,rfl,rfl,by decide +kernel,rfl,by decide +kernel,by decide +kernel⟩
theorem ok_number_at {f1:Addr}{fd1:FuncData}(T:Txt mg)(D:DefAt K mg "number_at" s_number_at ["board","cell"] f fd)(D_sign_at:DefAt K mg "sign_at" s_sign_at ["board","cell"] f1 fd1):FnOk P w K mg base CX0 2 f fd ["board","cell"] spNumber:=by
 have G_sign_at:FnOk P w K mg base CX0 1 f1 fd1 ["board","cell"] spSign:=ok_sign_at D_sign_at
 refine D.F.ok sc_number_at (fun vs H Q E h=>?_) (fun cdv A outer s H vs Q E hr h=>?_)
 ·obtain ⟨p,l,c,rs,n,i,j,t,k,rfl,_⟩:=h
  rfl
 ·obtain ⟨p,l,c,rs,n,i,j,t,k,rfl,b,hc,hi,hj,hl,k1,k2,q⟩:=h
  refine ⟨_,(pss_one (ps_ret (pe_callTy call_int_str (by rfl) T.b_int PyProof.Rows.boot_int (pa_cons (pe_call G_sign_at (hr.mono (by decide)) (by rfl) D_sign_at.g D_sign_at.F.kp D_sign_at.b .nil pass0 (pa_cons (pv 0) (pa_cons (pv 1) pa_nil))) pa_nil)))),?_⟩
  exact ⟨_,rfl,_,rfl,p,l,c,rs,n,i,j,t,k,rfl,b,hc,hi,hj,hl,⟨#[k]⟩,_,rfl,int_sign k1 k2,(by show 1<=640; decide),q⟩
end
theorem open_sign {k:Nat}(h:k ∈ bd.cps.toList)(hp:pOpen k=true):48<=k/\k<=56:=by
 have:∀ k ∈ bd.cps.toList,pOpen k=true->48<=k/\k<=56:=by decide +kernel
 exact this k h hp
theorem Rows.openAt {rs:List Str}(R:Rows bd.cps.toList rs){p:Nat->Bool}{c:Nat × Nat}(h:c ∈ Cells.allCs p 0 (codes rs)):∃ t k,rs[c.1]?=some t/\t.cps.toList[c.2]?=some k/\p k=true/\k ∈ bd.cps.toList/\t.length<=sizeLine:=by
 obtain ⟨k0,j,u,k,ec,hk0,hj,hpc⟩:=Cells.mem_allCs h
 obtain ⟨t,ht,rfl⟩:=codes_inv hk0
 rw [Nat.zero_add] at ec
 subst ec
 obtain ⟨n,_,_,q⟩:=R.ex
 exact ⟨t,k,ht,hj,hpc,(q t (List.mem_of_getElem? ht)).mem k (List.mem_of_getElem? hj),R.tlen ht⟩
noncomputable def aroundC (rs:List Str)(y:Nat × Nat):List (Nat × Nat):=(Cells.allCs pCell 0 (codes rs)).filter fun x=>Cells.near x y
noncomputable def spAround:Sp:=fun vs H Q _=>∃ (p l ca:Addr) (rs:List Str) (n:Int) (i j:Nat),vs=[.ref p,.ref ca]/\BoardAt H p l rs n/\Rows bd.cps.toList rs/\H ca=some (.tup [.int (i:Nat),.int (j:Nat)])/\i < 64/\j < 64 /\
 ∀ (d:Addr) (ws:List V) (H':Hp),H d=none->H' d=some (.lst ws)->Cel H' ws (aroundC rs (i,j))->Same H H'->Q (.ref d) H'
theorem cast_max (i:Nat):(if (0:Int) > (i:Int) - 1 then (0:Int) else (i:Int) - 1)=((i - 1:Nat):Int):=by
 split <;> omega
theorem cast_min (i m:Nat):(if ((m:Nat):Int) < (i:Int) + 2 then ((m:Nat):Int) else (i:Int) + 2)=((min (i + 2) m:Nat):Int):=by
 split <;> omega
theorem filter_snoc {f:Nat × Nat->Bool}{l:List (Nat × Nat)}{x:Nat × Nat}(a:Bool):(l++(if a=true then [x] else [])).filter f=l.filter f++(if (a && f x)=true then [x] else []):=by
 rw [List.filter_append]
 congr 1
 by_cases h:a=true
 ·by_cases h2:f x=true
  ·simp [h,h2]
  ·simp [h,h2]
 ·simp [h]
section
variable {P:Program}{w:World}{K:PySem.W.Frag}{mg:Str->Option Value}{base:Heap}{f:Addr}{fd:FuncData}
theorem sc_around:FnScope ["board","cell","rows","found","row","column"] ["board","cell"] (defScope s_around):=⟨rfl,rfl,rfl,by decide +kernel,rfl,by decide +kernel,by decide +kernel⟩
theorem ok_around (T:Txt mg)(D:DefAt K mg "around" s_around ["board","cell"] f fd):FnOk P w K mg base CX0 1 f fd ["board","cell"] spAround:=by
 refine D.F.ok sc_around (fun vs H Q E h=>?_) (fun cdv A outer s H vs Q E hr h=>?_)
 ·obtain ⟨p,l,ca,rs,n,i,j,rfl,_⟩:=h
  rfl
 ·obtain ⟨p,l,ca,rs,n,i,j,rfl,b,R,hca,hi64,hj64,q⟩:=h
  refine ⟨_,(pss_cons (ps_set (i:=2) sc_around.nd rfl (Or.inl rfl) (pe_ix ix_tup (pv 0) pe_int (fun _ _=>rfl)))
   (pss_cons (ps_set (i:=3) sc_around.nd rfl (Or.inl rfl) (pe_lst pa_nil))
   (pss_cons (ps_for PassesOwn.never rfl (pi_range2 (by rfl) T.b_range (pa_cons (pe_callB (call_max2 rfl) (by rfl) T.b_max PyProof.Rows.boot_max (pa_cons (pe_op op_sub (pe_ix ix_tup (pv 1) pe_int (fun _ _=>rfl)) pe_int) (pa_cons pe_int pa_nil))) (pa_cons (pe_callB (call_min2 rfl) (by rfl) T.b_min PyProof.Rows.boot_min (pa_cons (pe_op op_add (pe_ix ix_tup (pv 1) pe_int (fun _ _=>rfl)) pe_int) (pa_cons (pe_callB call_len_seq (by rfl) T.b_len PySem.boot_len (pa_cons (pv 2) pa_nil)) pa_nil))) pa_nil))) (pg_name (i:=4) sc_around.nd rfl (Or.inl rfl)) (pss_one (ps_for PassesOwn.never rfl (pi_range2 (by rfl) T.b_range (pa_cons (pe_callB (call_max2 rfl) (by rfl) T.b_max PyProof.Rows.boot_max (pa_cons (pe_op op_sub (pe_ix ix_tup (pv 1) pe_int (fun _ _=>rfl)) pe_int) (pa_cons pe_int pa_nil))) (pa_cons (pe_callB (call_min2 rfl) (by rfl) T.b_min PyProof.Rows.boot_min (pa_cons (pe_op op_add (pe_ix ix_tup (pv 1) pe_int (fun _ _=>rfl)) pe_int) (pa_cons (pe_callB call_len_str (by rfl) T.b_len PySem.boot_len (pa_cons (pe_ix ix_list (pv 2) (pv 4) (fun _ _=>rfl)) pa_nil)) pa_nil))) pa_nil))) (pg_name (i:=5) sc_around.nd rfl (Or.inl rfl)) (pss_one (ps_if (PW.pt (pw_and (pt_cmpR op_ne (pe_ix ix_str (pe_ix ix_list (pv 2) (pv 4) (fun _ _=>rfl)) (pv 5) (fun _ _=>rfl)) (pe_glob (v:=.str "#") (by rfl) T.v_NO_CELL_SIGN.choose_spec (by exact ⟨_,rfl⟩)) (nomark _)) (pw_and1 (pt_cmpR (op_ne_deep hr.units) (pe_tup (pa_cons (pv 4) (pa_cons (pv 5) pa_nil))) (pv 1) (nomark _))))) (pss_one (ps_expr (pe_bm PySem.F.plainAttrs_list PySem.F.slot_list_append PySem.F.type_list_append mt_append (pv 3) (pa_cons (pe_tup (pa_cons (pv 4) (pa_cons (pv 5) pa_nil))) pa_nil)))) pss_nil)))))
   (pss_one (ps_ret (pv 3)))))),?_⟩
  refine ⟨_,rfl,p,_,0,_,rfl,rfl,SqT.of b.tp,rfl,?_⟩
  refine ⟨(by show 0<=sizeLine; decide),fun d hd=>?_⟩
  have s0:Same H (upd H d (.lst [])):=same_new hd
  have r8:=R.hi
  refine ⟨_,rfl,ca,_,0,_,rfl,rfl,SqT.of (s0 _ _ hca),rfl,_,_,rfl,rfl,_,_,rfl,_,rfl,ca,_,0,_,rfl,rfl,SqT.of (s0 _ _ hca),rfl,_,_,rfl,rfl,_,rfl,l,_,rfl,.inl (SqL.of (b.mono s0).rw),_,_,rfl,((i - 1:Nat):Int),((min (i + 2) rs.length:Nat):Int),?_,⟨by omega,by omega,by omega,by omega⟩,?_⟩
  ·show [V.int (if (0:Int) > (i:Int) - 1 then (0:Int) else (i:Int) - 1),V.int (if (((rs.map V.str).length:Nat):Int) < (i:Int) + 2 then (((rs.map V.str).length:Nat):Int) else (i:Int) + 2)]=_
   rw [List.length_map,cast_max,cast_min]
  refine for_range (lo:=((i - 1:Nat):Int)) (fun k σ H'=>∃ (v4 v5:Option V) (ws:List V),σ=[some (.ref p),some (.ref ca),some (.ref l),some (.ref d),v4,v5]/\Same H H'/\H' d=some (.lst ws)/\Cel H' ws ((Cells.allCs pCell 0 ((codes rs).take (i - 1 + k))).filter fun x=>Cells.near x (i,j)))
   ⟨_,_,[],rfl,s0,upd_same,?_⟩ ?_ ?_
  ·rw [Cells.rows_low]
   ·exact .nil
   ·intro r c hr'
    rw [Bool.eq_false_iff,ne_eq,Cells.near_iff]
    rintro ⟨⟨_,h2⟩,_⟩
    dsimp only at h2
    omega
  ·rintro k σ H1 hk ⟨v4,v5,ws,rfl,s1,hd1,hc1⟩
   have hrl:i - 1 + k < rs.length:=by omega
   have ecast:((i - 1:Nat):Int) + (k:Nat)=((i - 1 + k:Nat):Int):=by omega
   rw [ecast]
   generalize hr0:i - 1 + k=r at *
   obtain ⟨t,ht⟩:∃ t,rs[r]?=some t:=⟨_,List.getElem?_eq_getElem hrl⟩
   have htl:t.length<=sizeLine:=R.tlen ht
   have ht8:t.cps.toList.length<=8:=R.short _ (List.mem_of_getElem? (codes_get ht))
   have hat:atI (rs.map V.str) ((r:Nat):Int)=some (V.str t):=atI_nat (by rw [List.getElem?_map,ht]; rfl)
   refine ⟨_,rfl,ca,_,1,_,rfl,rfl,SqT.of (s1 _ _ hca),rfl,_,_,rfl,rfl,_,_,rfl,_,rfl,ca,_,1,_,rfl,rfl,SqT.of (s1 _ _ hca),rfl,_,_,rfl,rfl,_,rfl,_,rfl,l,_,_,_,rfl,rfl,SqL.of (b.mono s1).rw,hat,t,rfl,htl,_,_,rfl,((j - 1:Nat):Int),((min (j + 2) t.cps.size:Nat):Int),?_,⟨by omega,by omega,by omega,?_⟩,?_⟩
   ·show [V.int (if (0:Int) > (j:Int) - 1 then (0:Int) else (j:Int) - 1),V.int (if ((t.cps.size:Nat):Int) < (j:Int) + 2 then ((t.cps.size:Nat):Int) else (j:Int) + 2)]=_
    rw [cast_max,cast_min]
   ·omega
   have hsz:t.cps.toList.length=t.cps.size:=Array.length_toList
   refine for_range (lo:=((j - 1:Nat):Int)) (fun m σ H'=>∃ (v5:Option V) (ws:List V),σ=[some (.ref p),some (.ref ca),some (.ref l),some (.ref d),some (.int (r:Nat)),v5]/\Same H H'/\H' d=some (.lst ws)/\Cel H' ws ((Cells.allCs pCell 0 ((codes rs).take r)).filter (fun x=>Cells.near x (i,j))++(Cells.rowCs pCell r 0 (t.cps.toList.take (j - 1 + m))).filter fun x=>Cells.near x (i,j)))
    ⟨_,ws,rfl,s1,hd1,?_⟩ ?_ ?_
   ·rw [Cells.cols_low (t:=t.cps.toList),List.append_nil]
    ·exact hc1
    ·intro c hc'
     rw [Bool.eq_false_iff,ne_eq,Cells.near_iff]
     rintro ⟨_,⟨_,h2⟩,_⟩
     dsimp only at h2
     omega
   ·rintro m σ H2 hm ⟨v5,ws2,rfl,s2,hd2,hc2⟩
    have hcl:j - 1 + m < t.cps.size:=by omega
    have ecast2:((j - 1:Nat):Int) + (m:Nat)=((j - 1 + m:Nat):Int):=by omega
    rw [ecast2]
    generalize hc0:j - 1 + m=c at *
    have hc0':j - 1 + (m + 1)=c + 1:=by omega
    obtain ⟨k0,hk0⟩:∃ k0,t.cps.toList[c]?=some k0:=⟨_,List.getElem?_eq_getElem (by omega)⟩
    have step:=Cells.rowCs_step (p:=pCell) (i:=r) hk0
    have step2:(Cells.rowCs pCell r 0 (t.cps.toList.take (c + 1))).filter (fun x=>Cells.near x (i,j))=(Cells.rowCs pCell r 0 (t.cps.toList.take c)).filter (fun x=>Cells.near x (i,j))++(if (pCell k0 && Cells.near (r,c) (i,j))=true then [(r,c)] else []):=by
     rw [step,filter_snoc]
    have nr:Cells.near (r,c) (i,j)=!decide ((r,c)=(i,j)):=by
     rw [Bool.eq_iff_iff,Cells.near_iff]
     simp only [Bool.not_eq_true',decide_eq_false_iff_not]
     constructor
     ·exact fun h=>h.2.2
     ·intro h
      refine ⟨⟨?_,?_⟩,⟨?_,?_⟩,h⟩ <;> (try dsimp only) <;> omega
    refine ⟨_,rfl,_,rfl,l,_,_,_,rfl,rfl,SqL.of (b.mono s2).rw,hat,_,rfl,t,_,k0,rfl,rfl,htl,atI_nat hk0,rfl,_,rfl,?_⟩
    have ed:(!decide (V.str ⟨#[k0]⟩=V.str "#"))=pCell k0:=by
     rw [hash_is]
     simp only [one_eq]
     rfl
    rw [ed]
    by_cases hp:pCell k0=true
    ·refine iteP hp ?_
     refine ⟨_,rfl,_,rfl,(by show 2<=sizeLine; decide),fun tp htp=>?_⟩
     have s3:Same H2 (upd H2 tp (.tup [.int (r:Nat),.int (c:Nat)])):=same_new htp
     have hca3:=s3 _ _ (s2 _ _ hca)
     refine ⟨_,rfl,_,_,CelR.rdv (c:=(r,c)) ⟨tp,rfl,upd_same⟩,CelR.rdv (c:=(i,j)) ⟨ca,rfl,hca3⟩,cData_cmp _ _,_,rfl,?_⟩
     have ee:(if true=true then !PyData.eqv (cData (r,c)) (cData (i,j)) else PyData.eqv (cData (r,c)) (cData (i,j)))=Cells.near (r,c) (i,j):=by
      rw [cData_eqv,nr]
      rfl
     rw [ee]
     rw [hp,Bool.true_and] at step2
     by_cases hn:Cells.near (r,c) (i,j)=true
     ·refine iteP hn ?_
      rw [if_pos hn] at step2
      have hd3:=s3 _ _ hd2
      refine ⟨_,rfl,.inl ⟨rfl,_,SqL.of hd3⟩,_,rfl,_,rfl,(by show 2<=sizeLine; decide),fun tq htq=>?_⟩
      have s4:Same (upd H2 tp (.tup [.int (r:Nat),.int (c:Nat)])) (upd (upd H2 tp (.tup [.int (r:Nat),.int (c:Nat)])) tq (.tup [.int (r:Nat),.int (c:Nat)])):=same_new htq
      have hlen:ws2.length<=128:=by
       rw [hc2.length,List.length_append]
       have h1:=List.length_filter_le (fun x=>Cells.near x (i,j)) (Cells.allCs pCell 0 ((codes rs).take r))
       have h2:=List.length_filter_le (fun x=>Cells.near x (i,j)) (Cells.rowCs pCell r 0 (t.cps.toList.take c))
       have h3:=Cells.allCs_length pCell 0 ((codes rs).take r) fun u hu=>R.short u (List.mem_of_mem_take hu)
       have h4:=Cells.rowCs_length pCell r 0 (t.cps.toList.take c)
       rw [List.length_take,codes_len] at h3
       rw [List.length_take] at h4
       omega
      refine ⟨d,_,_,rfl,rfl,s4 _ _ hd3,Nat.lt_of_le_of_lt hlen (by decide),?_⟩
      refine ⟨_,ws2++[.ref tq],rfl,fun b' o e'=>?_,upd_same,?_⟩
      ·rw [upd_ne (ne_of_none e' hd)]
       exact s4 _ _ (s3 _ _ (s2 _ _ e'))
      ·rw [hc0',step2,<- List.append_assoc]
       exact Cel.into d _ (s4 _ _ hd3) (Cel.snoc (Cel.mono s4 (Cel.mono s3 hc2)) ⟨tq,rfl,upd_same⟩)
     ·have hn':Cells.near (r,c) (i,j)=false:=by simpa using hn
      refine iteN hn' ?_
      rw [if_neg hn,List.append_nil] at step2
      refine ⟨_,ws2,rfl,s2.trans s3,s3 _ _ hd2,?_⟩
      rw [hc0',step2]
      exact Cel.mono s3 hc2
    ·have hp':pCell k0=false:=by simpa using hp
     refine iteN hp' ?_
     refine iteF ?_
     rw [hp',Bool.false_and,if_neg Bool.false_ne_true,List.append_nil] at step2
     refine ⟨_,ws2,rfl,s2,hd2,?_⟩
     rw [hc0',step2]
     exact hc2
   ·rintro σ H2 ⟨v5,ws2,rfl,s2,hd2,hc2⟩
    refine ⟨_,_,ws2,rfl,s2,hd2,?_⟩
    have full:(Cells.rowCs pCell r 0 (t.cps.toList.take (j - 1 + (((min (j + 2) t.cps.size:Nat):Int) - ((j - 1:Nat):Int)).toNat))).filter (fun x=>Cells.near x (i,j))=(Cells.rowCs pCell r 0 t.cps.toList).filter fun x=>Cells.near x (i,j):=by
     by_cases hbig:t.cps.size<=j - 1 + (((min (j + 2) t.cps.size:Nat):Int) - ((j - 1:Nat):Int)).toNat
     ·rw [List.take_of_length_le (by omega)]
     ·refine Cells.cols_high fun c hc'=>?_
      rw [Bool.eq_false_iff,ne_eq,Cells.near_iff]
      rintro ⟨_,⟨h2,_⟩,_⟩
      dsimp only at h2
      omega
    rw [full] at hc2
    have e1:i - 1 + (k + 1)=r + 1:=by omega
    rw [e1,Cells.allCs_step (codes_get ht),List.filter_append]
    exact hc2
  ·rintro σ H1 ⟨v4,v5,ws,rfl,s1,hd1,hc1⟩
   have full:(Cells.allCs pCell 0 ((codes rs).take (i - 1 + (((min (i + 2) rs.length:Nat):Int) - ((i - 1:Nat):Int)).toNat))).filter (fun x=>Cells.near x (i,j))=aroundC rs (i,j):=by
    by_cases hbig:rs.length<=i - 1 + (((min (i + 2) rs.length:Nat):Int) - ((i - 1:Nat):Int)).toNat
    ·rw [List.take_of_length_le (by rw [codes_len]; omega)]
     rfl
    ·refine Cells.rows_high fun r c hr'=>?_
     rw [Bool.eq_false_iff,ne_eq,Cells.near_iff]
     rintro ⟨⟨h2,_⟩,_⟩
     dsimp only at h2
     omega
   rw [full] at hc1
   exact ⟨_,rfl,q d ws H1 hd hd1 hc1 s1⟩
end
theorem CelR.rdn {N:Addr->Prop}{H:Hp}{v:V}{c:Nat × Nat}(h:CelR H v c):Rdn N H v (cData c):=by
 obtain ⟨a,rfl,h⟩:=h
 exact .tup h (.cons (.int _) (.cons (.int _) .nil))
theorem Cel.rdn {N:Addr->Prop}{H:Hp}{vs:List V}{cs:List (Nat × Nat)}(hp:Cel H vs cs):RdnAll N H vs (cs.map cData):=by
 induction hp with
 | nil=>exact .nil
 | cons h _ ih =>
  exact .cons (CelR.rdn h) ih
theorem Rdn.celR {N:Addr->Prop}{H:Hp}{v:V}{c:Nat × Nat}(h:Rdn N H v (cData c)):CelR H v c:=by
 cases h with
 | tup h t =>
  cases t with
  | cons a t =>
   cases a
   cases t with
   | cons b t =>
    cases b
    cases t
    exact ⟨_,rfl,h⟩
theorem RdnAll.cel {N:Addr->Prop}{H:Hp}:∀ {cs:List (Nat × Nat)} {vs:List V},RdnAll N H vs (cs.map cData)->Cel H vs cs
 | [],_,h=>by cases h; exact .nil
 | c :: r,_,h=>by
  cases h with
  | cons a t=>exact .cons (Rdn.celR a) (RdnAll.cel t)
theorem RdnAll.bools {N:Addr->Prop}{H:Hp}:∀ {bs:List Bool} {vs:List V},RdnAll N H vs (bs.map PyData.bool)->vs=bs.map V.bl
 | [],_,h=>by cases h; rfl
 | b :: r,_,h=>by
  cases h with
  | cons a t =>
   cases a
   rw [RdnAll.bools t]
   rfl
theorem outs_filter {α:Type}(p:α->Bool)(g:α->PyData):∀ cs:List α,(cs.map fun x=>if p x=true then some (g x) else none).filterMap id=(cs.filter p).map g
 | []=>rfl
 | c :: r=>by
  rw [List.map_cons,List.filterMap_cons,List.filter_cons]
  by_cases h:p c=true
  ·rw [if_pos h,if_pos h]
   show g c :: _=g c :: _
   rw [outs_filter p g r]
  ·rw [if_neg h,if_neg h]
   exact outs_filter p g r
theorem outs_all {α:Type}(g:α->PyData):∀ cs:List α,(cs.map fun x=>some (g x)).filterMap id=cs.map g
 | []=>rfl
 | c :: r=>by
  rw [List.map_cons,List.filterMap_cons]
  show g c :: _=g c :: _
  rw [outs_all g r]
theorem map_at {α β:Type}{g:α->β}{cs:List α}{i:Nat}{c:α}{o:β}(h:cs[i]?=some c)(ho:(cs.map g)[i]?=some o):o=g c:=by
 rw [List.getElem?_map,h] at ho
 exact (Option.some.inj ho).symm
noncomputable def clA (rs:List Str)(c:Nat × Nat):List (Nat × Nat):=(aroundC rs c).filter fun x=>decide (Cells.sgn (codes rs) x=63)
noncomputable def shutC (rs:List Str):List (Nat × Nat):=Cells.allCs pShut 0 (codes rs)
noncomputable def openC (rs:List Str):List (Nat × Nat):=Cells.allCs pOpen 0 (codes rs)
theorem all_short {p:Nat->Bool}{rs:List Str}(R:Rows bd.cps.toList rs):(Cells.allCs p 0 (codes rs)).length<=64:=by
 have h1:=Cells.allCs_length p 0 (codes rs) R.short
 have h2:=R.hi
 rw [codes_len] at h1
 omega
theorem aroundC_short {rs:List Str}(R:Rows bd.cps.toList rs)(c:Nat × Nat):(aroundC rs c).length<=64:=Nat.le_trans (List.length_filter_le _ _) (all_short R)
theorem cell_at_board {p:Nat->Bool}{rs:List Str}{c:Nat × Nat}(h:c ∈ Cells.allCs p 0 (codes rs)):∃ t k,rs[c.1]?=some t/\t.cps.toList[c.2]?=some k/\p k=true/\Cells.sgn (codes rs) c=k:=by
 obtain ⟨k0,j,u,k,ec,hk0,hj,hpc⟩:=Cells.mem_allCs h
 obtain ⟨t,ht,rfl⟩:=codes_inv hk0
 rw [Nat.zero_add] at ec
 subst ec
 exact ⟨t,k,ht,hj,hpc,Cells.sgn_at hk0 hj⟩
theorem cell_small {rs:List Str}{c:Nat × Nat}{t:Str}{k:Nat}(R:Rows bd.cps.toList rs)(h1:rs[c.1]?=some t)(h2:t.cps.toList[c.2]?=some k):c.1 < 64/\c.2 < 64:=by
 have a:=(List.getElem?_eq_some_iff.mp h1).1
 have b:=(List.getElem?_eq_some_iff.mp h2).1
 have e:=R.hi
 have f:=R.short _ (List.mem_of_getElem? (codes_get h1))
 omega
theorem sign_in {rs:List Str}{i j:Nat}{t:Str}{k:Nat}(R:Rows bd.cps.toList rs)(h1:rs[i]?=some t)(h2:t.cps.toList[j]?=some k):k ∈ bd.cps.toList:=by
 obtain ⟨n,_,_,h⟩:=R.ex
 exact (h t (List.mem_of_getElem? h1)).mem k (List.mem_of_getElem? h2)
theorem lays (cs:List (Nat × Nat)):PyData.canLayAll0 (cs.map cData)=true:=by
 induction cs with
 | nil=>rfl
 | cons c r ih =>
  show (PyData.canLay0 (cData c) && PyData.canLayAll0 (r.map cData))=true
  rw [ih]
  rfl
theorem depths (cs:List (Nat × Nat)):PyData.depthAll (cs.map cData)<=1:=by
 induction cs with
 | nil=>exact Nat.zero_le _
 | cons c r ih =>
  show max (PyData.depth (cData c)) (PyData.depthAll (r.map cData))<=1
  have:PyData.depth (cData c)=1:=rfl
  omega
theorem cs_cmp (cs ds:List (Nat × Nat)):CmpD (.list (cs.map cData)) (.list (ds.map cData)):=⟨lays cs,lays ds,by
 show PyData.depthAll (cs.map cData) + 1<=64
 have:=depths cs
 omega⟩
theorem in_cells (cs:List (Nat × Nat))(c:Nat × Nat):(cs.map cData).any (fun z=>PyData.eqv z (cData c))=cs.any fun z=>decide (z=c):=by
 rw [List.any_map]
 congr 1
 funext z
 exact cData_eqv z c
theorem eq_nil (cs:List (Nat × Nat)):PyData.eqv (.list (cs.map cData)) (.list [])=cs.isEmpty:=by
 cases cs <;> rfl
noncomputable def sg13:List Nat:=[63,111,35,48,49,50,51,52,53,54,55,56,46]
structure Signs (ts:List Str)(n:Nat):Prop where
 len:ts.length=n
 mem:∀ t ∈ ts,∃ c ∈ sg13,t=⟨#[c]⟩
theorem one_of (z:Str)(h:∀ c ∈ z.cps.toList,c ∈ sg13){i:Int}(h0:0<=i)(h1:i < (z.cps.toList.length:Nat)):∃ c,atI z.cps.toList i=some c/\c ∈ sg13:=by
 have hl:i.toNat < z.cps.toList.length:=by omega
 exact ⟨_,atI_lt h0 (List.getElem?_eq_getElem hl),h _ (List.getElem_mem hl)⟩
noncomputable def cellF (ns:List Int)(k:Int):Int:=ns.getD k.toNat 0
noncomputable def spCellX (K:PySem.W.Frag):Sp:=fun vs H Q _=>∃ (a:Addr) (ns:List Int) (k:Int),vs=[.ref a,.int k]/\SqL K H a (ns.map V.int)/\0<=k/\Q (.int (cellF ns k)) H
noncomputable def one (c:Nat):Str:=⟨#[c]⟩
noncomputable def signF (a b c:Int):Nat:=if a=0 then (atI ("?o#012345678":Str).cps.toList (b % 12)).getD 35 else if a=1 then (atI (".o?#":Str).cps.toList (b % 4)).getD 35 else if c % 23=5 then 35 else if c / 23 % 7 < 2 then 111 else if c / 161 % 4=1 then 63 else 46
theorem signF_in (a b c:Int):signF a b c ∈ sg13:=by
 unfold signF
 split
 ·have m0:=Int.emod_nonneg b (show (12:Int) ≠ 0 by decide)
  have m1:=Int.emod_lt_of_pos b (show (0:Int) < 12 by decide)
  obtain ⟨k,hk,hin⟩:=one_of "?o#012345678" (by decide +kernel) m0 (Int.lt_of_lt_of_le m1 (by decide +kernel))
  rw [hk]
  exact hin
 split
 ·have m0:=Int.emod_nonneg b (show (4:Int) ≠ 0 by decide)
  have m1:=Int.emod_lt_of_pos b (show (0:Int) < 4 by decide)
  obtain ⟨k,hk,hin⟩:=one_of ".o?#" (by decide +kernel) m0 (Int.lt_of_lt_of_le m1 (by decide +kernel))
  rw [hk]
  exact hin
 split
 ·decide
 split
 ·decide
 split <;> decide
noncomputable def shutS (k:Nat):Bool:=decide (k=111) || decide (k=63)
theorem shutS_is:∀ k ∈ sg13,(!(Builtin.Str.occurrences ("o?":Str) ⟨#[k]⟩ 0 ("o?":Str).length 1).isEmpty)=shutS k:=by decide +kernel
noncomputable abbrev SgS:=Int × Nat × List Nat
noncomputable def xF (ns:List Int)(st:SgS)(i:Nat):Int:=(st.1 * 48271 + cellF ns (3 + (i:Int) % 60) + (i:Int)) % 2147483647
noncomputable def kF (ns:List Int)(w:Int)(st:SgS)(i:Nat):Nat:=signF w (cellF ns (3 + (i:Int) % 60) / (if i < 60 then 1 else 12)) (xF ns st i * 69621 % 2147483629 / 16)
noncomputable def kG (ns:List Int)(w m:Int)(st:SgS)(i:Nat):Nat:=if (shutS (kF ns w st i) && decide (((st.2.1:Nat):Int)=m))=true then 35 else kF ns w st i
noncomputable def sgStep (ns:List Int)(w m:Int)(st:SgS)(i:Nat):SgS:=(xF ns st i,st.2.1 + (if shutS (kG ns w m st i)=true then 1 else 0),st.2.2++[kG ns w m st i])
theorem kG_in (ns:List Int)(w m:Int)(st:SgS)(i:Nat):kG ns w m st i ∈ sg13:=by
 unfold kG
 split
 ·decide
 ·exact signF_in _ _ _
noncomputable def sgRun (ns:List Int)(m:Int)(n:Nat):SgS:=(List.range n).foldl (sgStep ns (cellF ns 0 % 4) m) (cellF ns 0 % 2147483647,0,[])
theorem sgRun_succ (ns:List Int)(m:Int)(n:Nat):sgRun ns m (n + 1)=sgStep ns (cellF ns 0 % 4) m (sgRun ns m n) n:=by
 unfold sgRun
 rw [List.range_succ,List.foldl_append]
 rfl
noncomputable def sgT (ns:List Int)(m:Int)(n:Nat):List Str:=(sgRun ns m n).2.2.map one
theorem sgT_signs (ns:List Int)(m:Int)(n:Nat):Signs (sgT ns m n) n:=by
 unfold sgT
 induction n with
 | zero=>exact ⟨rfl,fun _ h=>nomatch h⟩
 | succ n ih =>
  rw [sgRun_succ]
  unfold sgStep
  rw [List.map_append]
  refine ⟨by rw [List.length_append,ih.len]; rfl,fun t ht=>?_⟩
  rcases List.mem_append.mp ht with h | h
  ·exact ih.mem t h
  ·rw [List.mem_singleton.mp h]
   exact ⟨_,kG_in _ _ _ _ _,rfl⟩
noncomputable def spGSign:Sp:=fun vs H Q _=>∃ a b c:Int,vs=[.int a,.int b,.int c]/\∀ (H':Hp),Same H H'->Q (.str ⟨#[signF a b c]⟩) H'
noncomputable def spGSigns (K:PySem.W.Frag):Sp:=fun vs H Q _=>∃ (a:Addr) (ns:List Int) (n m:Int),vs=[.ref a,.int n,.int m]/\SqL K H a (ns.map V.int)/\0<=n/\n<=64 /\
 ∀ (l:Addr) (H':Hp),H l=none->H' l=some (.lst ((sgT ns m n.toNat).map V.str))->Same H H'->Q (.ref l) H'
noncomputable def spGNear:Sp:=fun vs H Q _=>∃ (ca:Addr) (i j:Nat) (hi wi:Int),vs=[.ref ca,.int hi,.int wi]/\H ca=some (.tup [.int (i:Nat),.int (j:Nat)])/\(i:Int) < hi/\(j:Int) < wi/\hi<=8/\wi<=8 /\
 ∀ (d:Addr) (ws:List V) (cs:List (Nat × Nat)) (H':Hp),H d=none->H' d=some (.lst ws)->Cel H' ws cs->(∀ c ∈ cs,(c.1:Int) < hi/\(c.2:Int) < wi)->cs.length<=8->Same H H'->Q (.ref d) H'
noncomputable def ShowT (ts:List Str)(wi:Int)(i:Nat)(t:Str):Prop:=∀ j:Nat,(j:Int) < wi->ts[(wi * (i:Int) + (j:Int)).toNat]?=some (one 111)->t.cps.toList[j]?=some 63
noncomputable def ShowsO (ts:List Str)(wi:Int)(rs:List Str):Prop:=∀ (i:Nat) (t:Str),rs[i]?=some t->ShowT ts wi i t
noncomputable def spGRows:Sp:=fun vs H Q _=>∃ (l:Addr) (ts:List Str) (hi wi:Int),vs=[.ref l,.int hi,.int wi]/\H l=some (.lst (ts.map V.str))/\Signs ts (hi * wi).toNat/\1<=hi/\hi<=8/\1<=wi/\wi<=8 /\
 ∀ (d:Addr) (rs:List Str) (H':Hp),H d=none->H' d=some (.lst (rs.map V.str))->rs.length=hi.toNat->(∀ t ∈ rs,Row bd.cps.toList wi.toNat t)->ShowsO ts wi rs->Same H H'->Q (.ref d) H'
theorem gdigit:∀ d:Nat,d < 9->((toString (d:Int):String):Str)=⟨#[48 + d]⟩:=by decide +kernel
theorem gnum:∀ {d:Nat},d < 9->48 + d ∈ bd.cps.toList:=fun {d} h=>by
 have:∀ d:Nat,d < 9->48 + d ∈ bd.cps.toList:=by decide +kernel
 exact this d h
theorem repl_is:∀ k ∈ sg13,k ≠ 46->PySem.Txt.replace ⟨#[k]⟩ "o" "?"=⟨#[if k=111 then 63 else k]⟩/\(if k=111 then 63 else k) ∈ bd.cps.toList:=by decide +kernel
theorem grow {signs:List Nat}{n:Nat}{t:Str}{c:Nat}(r:Row signs n t)(h:c ∈ signs):Row signs (n + 1) (t++⟨#[c]⟩):=by
 have e:(t++(⟨#[c]⟩:Str)).cps=t.cps++#[c]:=rfl
 refine ⟨?_,fun d hd=>?_⟩
 ·rw [e,Array.size_append,r.len]
  rfl
 ·rw [e,Array.toList_append] at hd
  rcases List.mem_append.mp hd with hd | hd
  ·exact r.mem d hd
  ·have z:d=c:=by simpa using hd
   rw [z]
   exact h
noncomputable def Digs (rs:List Str)(cs:List (Nat × Nat)):Prop:=∀ c ∈ cs,∃ t k,rs[c.1]?=some t/\t.cps.toList[c.2]?=some k/\48<=k/\k<=56
noncomputable def spGBent:Sp:=fun vs H Q _=>∃ (l:Addr) (rs:List Str) (n:Nat) (c:Int),vs=[.ref l,.int c]/\H l=some (.lst (rs.map V.str))/\1<=rs.length/\rs.length<=8/\1<=n/\n<=8/\(∀ t ∈ rs,Row bd.cps.toList n t) /\
 ∀ (d:Addr) (rs':List Str) (H':Hp),H' d=some (.lst (rs'.map V.str))->rs'.length=rs.length->(∀ t ∈ rs',Row bd.cps.toList n t)->(∀ ts wi,ShowsO ts wi rs->ShowsO ts wi rs')->Same H H'->Q (.ref d) H'
theorem dig_is:∀ k ∈ bd.cps.toList,(!(Builtin.Str.occurrences ("012345678":Str) ⟨#[k]⟩ 0 ("012345678":Str).length 1).isEmpty)=decide (48<=k/\k<=56):=by decide +kernel
theorem int_is (k:Nat)(h0:48<=k)(h1:k<=56):∃ v,PySem.intText? ⟨#[k]⟩=some v:=by
 have:∀ d:Nat,d < 9->(PySem.intText? ⟨#[48 + d]⟩).isSome=true:=by decide +kernel
 have e:=this (k - 48) (by omega)
 rw [show 48 + (k - 48)=k by omega] at e
 exact Option.isSome_iff_exists.mp e
theorem g_dig {i:Int}(h0:0<=i)(h1:i < 9):∃ c,atI ("012345678":Str).cps.toList i=some c/\c ∈ bd.cps.toList:=by
 have hl:("012345678":Str).cps.toList.length=9:=by decide +kernel
 have hm:∀ c ∈ ("012345678":Str).cps.toList,c ∈ bd.cps.toList:=by decide +kernel
 have h2:i.toNat < ("012345678":Str).cps.toList.length:=by omega
 exact ⟨_,atI_lt h0 (List.getElem?_eq_getElem h2),hm _ (List.getElem_mem h2)⟩
theorem gRdv {K:PySem.W.Frag}{H:Hp}{vs:List V}{cs:List (Nat × Nat)}(hp:Cel H vs cs):RdvAll K H vs (cs.map cData):=by
 induction hp with
 | nil=>exact .nil
 | cons h _ ih =>
  exact .cons (CelR.rdv h) ih
theorem g_lays (cs:List (Nat × Nat)):PyData.canLayAll0 (cs.map cData)=true:=by
 induction cs with
 | nil=>rfl
 | cons c r ih =>
  show (PyData.canLay0 (cData c) && PyData.canLayAll0 (r.map cData))=true
  rw [ih]
  rfl
theorem g_depths (cs:List (Nat × Nat)):PyData.depthAll (cs.map cData)<=1:=by
 induction cs with
 | nil=>exact Nat.zero_le _
 | cons c r ih =>
  show max (PyData.depth (cData c)) (PyData.depthAll (r.map cData))<=1
  have:PyData.depth (cData c)=1:=rfl
  omega
theorem g_cmp (cs:List (Nat × Nat)):CmpD (.list (cs.map cData)) (.list []):=⟨g_lays cs,rfl,by
 show PyData.depthAll (cs.map cData) + 1<=64
 have:=g_depths cs
 omega⟩
theorem g_list (a b:Str):(a++b).cps.toList=a.cps.toList++b.cps.toList:=by
 have e:(a++b).cps=a.cps++b.cps:=rfl
 rw [e,Array.toList_append]
theorem g_size (a b:Str):(a++b).cps.size=a.length + b.length:=by
 have e:(a++b).cps=a.cps++b.cps:=rfl
 rw [e,Array.size_append]
 rfl
theorem cut_le (t:Str)(lo hi:Option Int):(cutS t lo hi).length<=t.length:=by
 show (cutS t lo hi).cps.size<=t.cps.size
 rw [<- Array.length_toList,<- Array.length_toList]
 unfold cutS
 show (List.take _ (List.drop _ t.cps.toList)).toArray.toList.length<=_
 simp only [List.toList_toArray,List.length_take,List.length_drop]
 omega
theorem bent_row {s:List Nat}{n j c:Nat}{t:Str}(r:Row s n t)(hj:j < n)(hc:c ∈ s):Row s n (cutS t none (some (j:Int))++⟨#[c]⟩++cutS t (some ((j:Int) + 1)) none):=by
 have tl:t.cps.toList.length=n:=by
  rw [Array.length_toList]
  exact r.len
 have te:t.length=n:=r.len
 have e1:(cutS t none (some (j:Int))).cps.toList=t.cps.toList.take j:=by
  have e:HT.sIx t.length t.length (some (j:Int))=j:=by
   rw [HT.sIx_nat]
   omega
  unfold cutS
  rw [e]
  show ((t.cps.toList.drop 0).take (j - 0)).toArray.toList=_
  simp
 have e2:(cutS t (some ((j:Int) + 1)) none).cps.toList=t.cps.toList.drop (j + 1):=by
  have e:HT.sIx t.length 0 (some ((j:Int) + 1))=j + 1:=by
   have:=HT.sIx_nat t.length 0 (j + 1)
   rw [Int.natCast_add] at this
   rw [show ((j:Int) + 1)=(j:Int) + ((1:Nat):Int) from rfl,this]
   omega
  unfold cutS
  rw [e]
  show ((t.cps.toList.drop (j + 1)).take (t.length - (j + 1))).toArray.toList=_
  rw [List.toList_toArray,List.take_of_length_le (by rw [List.length_drop]; omega)]
 refine ⟨?_,fun d hd=>?_⟩
 ·rw [<- Array.length_toList,g_list,g_list,e1,e2,List.length_append,List.length_append,List.length_take,List.length_drop,tl]
  show min j n + 1 + (n - (j + 1))=n
  omega
 ·rw [g_list,g_list,e1,e2] at hd
  rcases List.mem_append.mp hd with hd | hd
  ·rcases List.mem_append.mp hd with hd | hd
   ·exact r.mem d (List.mem_of_mem_take hd)
   ·have z:d=c:=by simpa using hd
    rw [z]
    exact hc
  ·exact r.mem d (List.mem_of_mem_drop hd)
theorem cut_set {t:Str}{j:Nat}(c:Nat)(hj:j < t.cps.toList.length):(cutS t none (some (j:Int))++⟨#[c]⟩++cutS t (some ((j:Int) + 1)) none).cps.toList=t.cps.toList.set j c:=by
 have te:t.length=t.cps.toList.length:=(Array.length_toList).symm
 have e1:(cutS t none (some (j:Int))).cps.toList=t.cps.toList.take j:=by
  have e:HT.sIx t.length t.length (some (j:Int))=j:=by
   rw [HT.sIx_nat]
   omega
  unfold cutS
  rw [e]
  show ((t.cps.toList.drop 0).take (j - 0)).toArray.toList=_
  simp
 have e2:(cutS t (some ((j:Int) + 1)) none).cps.toList=t.cps.toList.drop (j + 1):=by
  have e:HT.sIx t.length 0 (some ((j:Int) + 1))=j + 1:=by
   have:=HT.sIx_nat t.length 0 (j + 1)
   rw [Int.natCast_add] at this
   rw [show ((j:Int) + 1)=(j:Int) + ((1:Nat):Int) from rfl,this]
   omega
  unfold cutS
  rw [e]
  show ((t.cps.toList.drop (j + 1)).take (t.length - (j + 1))).toArray.toList=_
  rw [List.toList_toArray,List.take_of_length_le (by rw [List.length_drop]; omega)]
 show ((cutS t none (some (j:Int))).cps++#[c]++(cutS t (some ((j:Int) + 1)) none).cps).toList=_
 rw [Array.toList_append,Array.toList_append,e1,e2,List.set_eq_take_append_cons_drop,if_pos hj]
 simp
noncomputable def stI (st:Int):Int:=if (if st > 0 then st else 0) < 64 then (if st > 0 then st else 0) else 64
noncomputable def spGBoard (K:PySem.W.Frag):Sp:=fun vs H Q _=>∃ (a:Addr) (ns:List Int) (hi wi m:Int),vs=[.ref a,.int hi,.int wi,.int m]/\SqL K H a (ns.map V.int)/\1<=hi/\hi<=8/\1<=wi/\wi<=8 /\
 ∀ (p l:Addr) (rs:List Str) (n:Int) (H':Hp),H p=none->BoardAt H' p l rs n->Rows bd.cps.toList rs->rs.length=hi.toNat->(∀ t ∈ rs,t.cps.size=wi.toNat)->ShowsO (sgT ns m (hi * wi).toNat) wi rs->Same H H'->Q (.ref p) H'
noncomputable def mxI (i:Int):Int:=if i - 1 > 0 then i - 1 else 0
noncomputable def mnO (h x:Int):Int:=if x < h then x else h
theorem mxI_is (i:Int):mxI i=if i - 1 > 0 then i - 1 else 0:=rfl
theorem mnO_is (h x:Int):mnO h x=if x < h then x else h:=rfl
section
variable {P:Program}{w:World}{K:PySem.W.Frag}{mg:Str->Option Value}{base:Heap}{f:Addr}{fd:FuncData}
theorem ok_law_cell_atX (T:Txt mg)(D:DefAt K mg "_law_cell_at" s_law_cell_at ["_law_script","_law_k"] f fd):FnOk P w K mg base CX0 1 f fd ["_law_script","_law_k"] (spCellX K):=by
 refine D.F.ok sc_law_cell_at (fun vs H Q E h=>?_) (fun cdv A outer s H vs Q E hr h=>?_)
 ·obtain ⟨a,ns,i,rfl,_⟩:=h
  rfl
 ·obtain ⟨a,ns,i,rfl,hS,hi,k⟩:=h
  refine ⟨_,(pss_cons (ps_if (pt_cmpR op_lt (pv 1) (pe_callB call_len_seq (by rfl) T.b_len PySem.boot_len (pa_cons (pv 0) pa_nil)) (nomark _)) (pss_one (ps_ret (pe_ix ix_list (pv 0) (pv 1) (fun _ _=>rfl)))) pss_nil)
   (pss_one (ps_ret pe_int))),?_⟩
  refine ⟨_,rfl,_,rfl,a,_,rfl,.inl hS,_,_,rfl,rfl,_,rfl,?_⟩
  unfold cellF at k
  refine ite2 (fun c=>?_) (fun c=>?_)
  ·have c':i < ((ns.map V.int).length:Nat):=of_decide_eq_true c
   rw [List.length_map] at c'
   have hl:i.toNat < ns.length:=by omega
   refine ⟨_,rfl,_,rfl,a,_,i,.int ns[i.toNat],rfl,rfl,hS,atI_lt hi (by rw [List.getElem?_map,List.getElem?_eq_getElem hl]; rfl),?_⟩
   rw [List.getD_eq_getElem?_getD,List.getElem?_eq_getElem hl] at k
   exact k
  ·have c':¬ i < ((ns.map V.int).length:Nat):=fun z=>c (decide_eq_true z)
   rw [List.length_map] at c'
   rw [List.getD_eq_getElem?_getD,List.getElem?_eq_none (by omega)] at k
   exact k
theorem sc_law_sign:FnScope ["_law_way","_law_cell","_law_turn"] ["_law_way","_law_cell","_law_turn"] (defScope s_law_sign):=⟨rfl,rfl,rfl,by decide +kernel,rfl,by decide +kernel,by decide +kernel⟩
theorem ok_law_sign (T:Txt mg)(D:DefAt K mg "_law_sign" s_law_sign ["_law_way","_law_cell","_law_turn"] f fd):FnOk P w K mg base CX0 1 f fd ["_law_way","_law_cell","_law_turn"] spGSign:=by
 refine D.F.ok sc_law_sign (fun vs H Q E h=>?_) (fun cdv A outer s H vs Q E hr h=>?_)
 ·obtain ⟨a,b,c,rfl,_⟩:=h
  rfl
 ·obtain ⟨a,b,c,rfl,q⟩:=h
  refine ⟨_,(pss_cons (ps_if (pt_cmpR op_eq (pv 0) pe_int (nomark _)) (pss_one (ps_ret (pe_ix ix_str pe_str (pe_op op_mod (pv 1) pe_int) (fun _ _=>rfl)))) pss_nil)
   (pss_cons (ps_if (pt_cmpR op_eq (pv 0) pe_int (nomark _)) (pss_one (ps_ret (pe_ix ix_str pe_str (pe_op op_mod (pv 1) pe_int) (fun _ _=>rfl)))) pss_nil)
   (pss_cons (ps_if (pt_cmpR op_eq (pe_op op_mod (pv 2) pe_int) pe_int (nomark _)) (pss_one (ps_ret pe_str)) pss_nil)
   (pss_cons (ps_if (pt_cmpR op_lt (pe_op op_mod (pe_op op_fdivG (pv 2) pe_int) pe_int) pe_int (nomark _)) (pss_one (ps_ret pe_str)) pss_nil)
   (pss_one (ps_ret (pe_ix ix_list (pe_lst (pa_cons pe_str (pa_cons pe_str pa_nil))) (pe_callTy call_int1 (by rfl) T.b_int PyProof.Rows.boot_int (pa_cons (pe_cmpR op_eq (pe_op op_mod (pe_op op_fdivG (pv 2) pe_int) pe_int) pe_int (nomark _)) pa_nil)) (fun _ _=>rfl)))))))),?_⟩
  unfold signF at q
  refine ⟨_,rfl,rfl,_,rfl,ite2 (fun h=>?_) (fun h=>?_)⟩
  ·have m0:=Int.emod_nonneg b (show (12:Int) ≠ 0 by decide)
   have m1:=Int.emod_lt_of_pos b (show (0:Int) < 12 by decide)
   obtain ⟨k,hk,hin⟩:=one_of "?o#012345678" (by decide +kernel) m0 (Int.lt_of_lt_of_le m1 (by decide +kernel))
   rw [if_pos (V.int.inj (of_decide_eq_true h)),hk] at q
   exact ⟨_,rfl,_,_,rfl,rfl,(by show (0:Int) < 12; decide),_,_,k,rfl,rfl,(by decide +kernel),hk,q H (Same.refl _)⟩
  rw [if_neg (fun z=>h (decide_eq_true (congrArg V.int z)))] at q
  refine ⟨_,rfl,rfl,_,rfl,ite2 (fun h=>?_) (fun h=>?_)⟩
  ·have m0:=Int.emod_nonneg b (show (4:Int) ≠ 0 by decide)
   have m1:=Int.emod_lt_of_pos b (show (0:Int) < 4 by decide)
   obtain ⟨k,hk,hin⟩:=one_of ".o?#" (by decide +kernel) m0 (Int.lt_of_lt_of_le m1 (by decide +kernel))
   rw [if_pos (V.int.inj (of_decide_eq_true h)),hk] at q
   exact ⟨_,rfl,_,_,rfl,rfl,(by show (0:Int) < 4; decide),_,_,k,rfl,rfl,(by decide +kernel),hk,q H (Same.refl _)⟩
  rw [if_neg (fun z=>h (decide_eq_true (congrArg V.int z)))] at q
  refine ⟨_,rfl,_,_,rfl,rfl,(by show (0:Int) < 23; decide),rfl,_,rfl,ite2 (fun h=>?_) (fun h=>?_)⟩
  ·have e:("#":Str)=⟨#[35]⟩:=by decide +kernel
   show Q (.str "#") H
   rw [e]
   rw [if_pos (V.int.inj (of_decide_eq_true h))] at q
   exact q H (Same.refl _)
  rw [if_neg (fun z=>h (decide_eq_true (congrArg V.int z)))] at q
  refine ⟨_,rfl,_,_,rfl,rfl,CDivG.small (by decide) (by decide),_,_,rfl,rfl,(by show (0:Int) < 7; decide),_,_,rfl,rfl,_,rfl,ite2 (fun h=>?_) (fun h=>?_)⟩
  ·have e:("o":Str)=⟨#[111]⟩:=by decide +kernel
   show Q (.str "o") H
   rw [e]
   rw [if_pos (of_decide_eq_true h)] at q
   exact q H (Same.refl _)
  rw [if_neg (fun z=>h (decide_eq_true z))] at q
  refine ⟨(by show 2<=sizeLine; decide),fun p hp=>?_⟩
  have s1:=same_new (o:=.lst [.str ".",.str "?"]) hp
  refine ⟨_,rfl,_,_,rfl,rfl,CDivG.small (by decide) (by decide),_,_,rfl,rfl,(by show (0:Int) < 4; decide),rfl,.inr ⟨_,rfl,?_⟩⟩
  have e:((".":Str)=⟨#[46]⟩)/\(("?":Str)=⟨#[63]⟩):=by decide +kernel
  have pk:atI [V.str ".",V.str "?"] (if decide (V.int (c / 161 % 4)=V.int 1)=true then (1:Int) else 0)=some (.str ⟨#[if c / 161 % 4=1 then 63 else 46]⟩):=by
   rw [e.1,e.2]
   by_cases hc:c / 161 % 4=1
   ·rw [if_pos hc,if_pos (decide_eq_true (congrArg V.int hc))]
    rfl
   ·rw [if_neg hc,if_neg (fun z=>hc (V.int.inj (of_decide_eq_true z)))]
    rfl
  exact ⟨p,_,_,_,rfl,rfl,SqL.of upd_same,pk,q _ s1⟩
theorem sc_law_signs:FnScope ["_law_script","_law_places","_law_most","_law_way","_law_number","_law_signs_here","_law_shut","_law_k","_law_cell","_law_sign_here"] ["_law_script","_law_places","_law_most"] (defScope s_law_signs):=⟨rfl,rfl,rfl,by decide +kernel,rfl,by decide +kernel,by decide +kernel⟩
theorem ok_law_signs {f1 f2:Addr}{fd1 fd2:FuncData}(T:Txt mg)(D:DefAt K mg "_law_signs" s_law_signs ["_law_script","_law_places","_law_most"] f fd)(D_law_cell_at:DefAt K mg "_law_cell_at" s_law_cell_at ["_law_script","_law_k"] f1 fd1)(D_law_sign:DefAt K mg "_law_sign" s_law_sign ["_law_way","_law_cell","_law_turn"] f2 fd2) :
  FnOk P w K mg base CX0 2 f fd ["_law_script","_law_places","_law_most"] (spGSigns K):=by
 have G_law_cell_at:FnOk P w K mg base CX0 1 f1 fd1 ["_law_script","_law_k"] (spCellX K):=ok_law_cell_atX T D_law_cell_at
 have G_law_sign:FnOk P w K mg base CX0 1 f2 fd2 ["_law_way","_law_cell","_law_turn"] spGSign:=ok_law_sign T D_law_sign
 refine D.F.ok sc_law_signs (fun vs H Q E h=>?_) (fun cdv A outer s H vs Q E hr h=>?_)
 ·obtain ⟨a,ns,n,m,rfl,_⟩:=h
  rfl
 ·obtain ⟨a,ns,n,m,rfl,hS,n0,n1,q⟩:=h
  refine ⟨_,(pss_cons (ps_set (i:=3) sc_law_signs.nd rfl (Or.inl rfl) (pe_op op_mod (pe_call G_law_cell_at (hr.mono (by decide)) (by rfl) D_law_cell_at.g D_law_cell_at.F.kp D_law_cell_at.b .nil pass0 (pa_cons (pv 0) (pa_cons pe_int pa_nil))) pe_int))
   (pss_cons (ps_set (i:=4) sc_law_signs.nd rfl (Or.inl rfl) (pe_op op_mod (pe_call G_law_cell_at (hr.mono (by decide)) (by rfl) D_law_cell_at.g D_law_cell_at.F.kp D_law_cell_at.b .nil pass0 (pa_cons (pv 0) (pa_cons pe_int pa_nil))) pe_int))
   (pss_cons (ps_set (i:=5) sc_law_signs.nd rfl (Or.inl rfl) (pe_lst pa_nil))
   (pss_cons (ps_set (i:=6) sc_law_signs.nd rfl (Or.inl rfl) pe_int)
   (pss_cons (ps_for PassesOwn.never rfl (pi_range1 (by rfl) T.b_range (pa_cons (pv 1) pa_nil)) (pg_name (i:=7) sc_law_signs.nd rfl (Or.inl rfl)) (pss_cons (ps_set (i:=8) sc_law_signs.nd rfl (Or.inl rfl) (pe_call G_law_cell_at (hr.mono (by decide)) (by rfl) D_law_cell_at.g D_law_cell_at.F.kp D_law_cell_at.b .nil pass0 (pa_cons (pv 0) (pa_cons (pe_op op_add pe_int (pe_op op_mod (pv 7) pe_int)) pa_nil))))
   (pss_cons (ps_set (i:=4) sc_law_signs.nd rfl (Or.inl rfl) (pe_op op_mod (pe_op op_add (pe_op op_add (pe_op op_mulG (pv 4) pe_int) (pv 8)) (pv 7)) pe_int))
   (pss_cons (ps_set (i:=9) sc_law_signs.nd rfl (Or.inl rfl) (pe_call G_law_sign (hr.mono (by decide)) (by rfl) D_law_sign.g D_law_sign.F.kp D_law_sign.b .nil pass0 (pa_cons (pv 3) (pa_cons (pe_op op_fdivG (pv 8) (pe_ix ix_list (pe_lst (pa_cons pe_int (pa_cons pe_int pa_nil))) (pe_op op_fdivG (pv 7) pe_int) (fun _ _=>rfl))) (pa_cons (pe_op op_fdivG (pe_op op_mod (pe_op op_mulG (pv 4) pe_int) pe_int) pe_int) pa_nil)))))
   (pss_mid (ps_if (PW.pt (pw_and (pt_cmpR op_in_str (pv 9) pe_str (by rfl)) (pw_and1 (pt_cmpR op_eq (pv 6) (pv 2) (nomark _))))) (pss_one (ps_set (i:=9) sc_law_signs.nd rfl (Or.inl rfl) pe_str)) pss_nil)
   (pss_cons (ps_set (i:=6) sc_law_signs.nd rfl (Or.inl rfl) (pe_op op_add (pv 6) (pe_callTy call_int1 (by rfl) T.b_int PyProof.Rows.boot_int (pa_cons (pe_cmpR op_in_str (pv 9) pe_str (by rfl)) pa_nil))))
   (pss_one (ps_expr (pe_bm PySem.F.plainAttrs_list PySem.F.slot_list_append PySem.F.type_list_append mt_append (pv 5) (pa_cons (pv 9) pa_nil))))))))))
   (pss_one (ps_ret (pv 5)))))))),?_⟩
  refine ⟨_,rfl,a,ns,_,rfl,hS,by decide,_,_,rfl,rfl,(by show (0:Int) < 4; decide),?_⟩
  refine ⟨_,rfl,a,ns,_,rfl,hS,by decide,_,_,rfl,rfl,(by show (0:Int) < 2147483647; decide),?_⟩
  refine ⟨(by show 0<=sizeLine; decide),fun l hl=>?_⟩
  have s0:Same H (upd H l (.lst [])):=same_new hl
  refine ⟨_,rfl,n,rfl,by omega,by omega,?_⟩
  refine for_range (lo:=0) (n:=n.toNat) (fun i σ H'=>∃ (v7 v8 v9:Option V),σ=[some (.ref a),some (.int n),some (.int m),some (.int (cellF ns 0 % 4)),some (.int (sgRun ns m i).1),some (.ref l),some (.int (((sgRun ns m i).2.1:Nat):Int)),v7,v8,v9]/\Same H H'/\H' l=some (.lst ((sgT ns m i).map V.str)))
   ⟨_,_,_,rfl,s0,upd_same⟩ ?_ ?_
  ·rintro i σ H1 hi ⟨v7,v8,v9,rfl,s1,hl1⟩
   have k0:=Int.emod_nonneg (0 + (i:Int)) (show (60:Int) ≠ 0 by decide)
   have hi64:i < 64:=by omega
   have hts:=sgT_signs ns m i
   have esucc:=sgRun_succ ns m i
   have eT:sgT ns m (i + 1)=(sgStep ns (cellF ns 0 % 4) m (sgRun ns m i) i).2.2.map one:=by
    unfold sgT
    rw [esucc]
   unfold sgT at hl1 hts
   rw [eT,esucc]
   clear eT esucc
   generalize sgRun ns m i=st at *
   refine ⟨_,rfl,_,rfl,_,_,rfl,rfl,(by show (0:Int) < 60; decide),_,_,rfl,rfl,a,ns,_,rfl,s1.seq hS,by omega,?_⟩
   rw [Int.zero_add]
   refine ⟨_,rfl,_,_,rfl,rfl,mulS (by decide) (by decide),_,rfl,_,_,rfl,rfl,_,rfl,_,_,rfl,rfl,_,_,rfl,rfl,(by show (0:Int) < 2147483647; decide),?_⟩
   refine ⟨_,rfl,_,rfl,(by show 2<=sizeLine; decide),fun p hp=>?_⟩
   have s2:=same_new (o:=.lst [.int 1,.int 12]) hp
   have pk:atI [V.int 1,V.int 12] ((i:Int) / 60)=some (.int (if i < 60 then 1 else 12))/\(0:Int) < (if i < 60 then 1 else 12)/\(if i < 60 then 1 else 12:Int) < 1073741824:=by
    by_cases h60:i < 60
    ·rw [if_pos h60,show (i:Int) / 60=0 by omega]
     exact ⟨rfl,by decide,by decide⟩
    ·rw [if_neg h60,show (i:Int) / 60=1 by omega]
     exact ⟨rfl,by decide,by decide⟩
   obtain ⟨hd,d0,d1⟩:=pk
   refine ⟨_,rfl,_,_,rfl,rfl,CDivG.small (by decide) (by decide),p,_,_,_,rfl,rfl,SqL.of upd_same,hd,_,_,rfl,rfl,CDivG.small d0 d1,?_⟩
   refine ⟨_,rfl,_,_,rfl,rfl,mulS (by decide) (by decide),_,_,rfl,rfl,(by show (0:Int) < 2147483629; decide),_,_,rfl,rfl,CDivG.small (by decide) (by decide),cellF ns 0 % 4,cellF ns (3 + (i:Int) % 60) / (if i < 60 then 1 else 12),xF ns st i * 69621 % 2147483629 / 16,rfl,fun H3 s3=>?_⟩
   have s23:=s2.trans s3
   have hk:kF ns (cellF ns 0 % 4) st i ∈ sg13:=signF_in _ _ _
   refine ⟨fun σ' H'=>σ'=[some (.ref a),some (.int n),some (.int m),some (.int (cellF ns 0 % 4)),some (.int (xF ns st i)),some (.ref l),some (.int ((st.2.1:Nat):Int)),some (.int (i:Int)),some (.int (cellF ns (3 + (i:Int) % 60))),some (.str ⟨#[kG ns (cellF ns 0 % 4) m st i]⟩)]/\H'=H3,?_,?_⟩
   ·refine ⟨_,rfl,_,_,rfl,rfl,shutS (kF ns (cellF ns 0 % 4) st i),congrArg V.bl (shutS_is (kF ns (cellF ns 0 % 4) st i) hk),?_⟩
    unfold kG
    by_cases h1:shutS (kF ns (cellF ns 0 % 4) st i)=true
    ·refine iteP h1 ⟨_,rfl,_,rfl,rfl,_,rfl,ite2 (fun h=>?_) (fun h=>?_)⟩
     ·rw [h1,decide_eq_true (V.int.inj (of_decide_eq_true h))]
      refine ⟨?_,rfl⟩
      have e:("#":Str)=⟨#[35]⟩:=by decide +kernel
      rw [e]
      rfl
     ·rw [h1,decide_eq_false (fun z=>h (decide_eq_true (congrArg V.int z)))]
      exact ⟨rfl,rfl⟩
    ·rw [Bool.eq_false_iff.mpr h1]
     exact iteF (iteF ⟨rfl,rfl⟩)
   rintro σ' H4 ⟨rfl,rfl⟩
   have hk':=kG_in ns (cellF ns 0 % 4) m st i
   unfold sgStep
   generalize kG ns (cellF ns 0 % 4) m st i=k' at *
   refine ⟨_,rfl,_,rfl,_,_,rfl,rfl,.inr ⟨shutS k',congrArg (fun b=>[V.bl b]) (shutS_is k' hk'),_,_,rfl,rfl,?_⟩⟩
   have hl3:=s23 _ _ hl1
   refine ⟨_,rfl,.inl ⟨rfl,_,SqL.of hl3⟩,_,rfl,l,_,_,rfl,rfl,hl3,?_,?_⟩
   ·rw [List.length_map,hts.len]
    exact Nat.lt_of_lt_of_le (show i < 65 by omega) (by decide)
   ·refine ⟨some (.int (i:Int)),some (.int (cellF ns (3 + (i:Int) % 60))),some (.str ⟨#[k']⟩),?_,fun b o e=>?_,?_⟩
    ·cases shutS k' with
     | true=>rfl
     | false=>rfl
    ·rw [upd_ne (ne_of_none e hl)]
     exact s23 _ _ (s1 b o e)
    ·rw [upd_same,List.map_append,List.map_append]
     rfl
  ·rintro σ H1 ⟨v7,v8,v9,rfl,s1,hl1⟩
   exact ⟨_,rfl,q l H1 hl hl1 s1⟩
theorem sc_law_near:FnScope ["_law_cell","_law_high","_law_wide","_law_found","_law_row","_law_column"] ["_law_cell","_law_high","_law_wide"] (defScope s_law_near):=⟨rfl,rfl,rfl,by decide +kernel,rfl,by decide +kernel,by decide +kernel⟩
theorem ok_law_near (T:Txt mg)(D:DefAt K mg "_law_near" s_law_near ["_law_cell","_law_high","_law_wide"] f fd):FnOk P w K mg base CX0 1 f fd ["_law_cell","_law_high","_law_wide"] spGNear:=by
 refine D.F.ok sc_law_near (fun vs H Q E h=>?_) (fun cdv A outer s H vs Q E hr h=>?_)
 ·obtain ⟨ca,i,j,hi,wi,rfl,_⟩:=h
  rfl
 ·obtain ⟨ca,i,j,hi,wi,rfl,hca,i1,j1,h8,w8,q⟩:=h
  refine ⟨_,(pss_cons (ps_set (i:=3) sc_law_near.nd rfl (Or.inl rfl) (pe_lst pa_nil))
   (pss_cons (ps_for PassesOwn.never rfl (pi_range2 (by rfl) T.b_range (pa_cons (pe_callB (call_max2 rfl) (by rfl) T.b_max PyProof.Rows.boot_max (pa_cons pe_int (pa_cons (pe_op op_sub (pe_ix ix_tup (pv 0) pe_int (fun _ _=>rfl)) pe_int) pa_nil))) (pa_cons (pe_callB (call_min2 rfl) (by rfl) T.b_min PyProof.Rows.boot_min (pa_cons (pv 1) (pa_cons (pe_op op_add (pe_ix ix_tup (pv 0) pe_int (fun _ _=>rfl)) pe_int) pa_nil))) pa_nil))) (pg_name (i:=4) sc_law_near.nd rfl (Or.inl rfl)) (pss_one (ps_for PassesOwn.never rfl (pi_range2 (by rfl) T.b_range (pa_cons (pe_callB (call_max2 rfl) (by rfl) T.b_max PyProof.Rows.boot_max (pa_cons pe_int (pa_cons (pe_op op_sub (pe_ix ix_tup (pv 0) pe_int (fun _ _=>rfl)) pe_int) pa_nil))) (pa_cons (pe_callB (call_min2 rfl) (by rfl) T.b_min PyProof.Rows.boot_min (pa_cons (pv 2) (pa_cons (pe_op op_add (pe_ix ix_tup (pv 0) pe_int (fun _ _=>rfl)) pe_int) pa_nil))) pa_nil))) (pg_name (i:=5) sc_law_near.nd rfl (Or.inl rfl)) (pss_one (ps_if (pt_cmpR (op_ne_deep hr.units) (pe_tup (pa_cons (pv 4) (pa_cons (pv 5) pa_nil))) (pv 0) (nomark _)) (pss_one (ps_expr (pe_bm PySem.F.plainAttrs_list PySem.F.slot_list_append PySem.F.type_list_append mt_append (pv 3) (pa_cons (pe_tup (pa_cons (pv 4) (pa_cons (pv 5) pa_nil))) pa_nil)))) pss_nil)))))
   (pss_one (ps_ret (pv 3))))),?_⟩
  refine ⟨(by show 0<=sizeLine; decide),fun d hd=>?_⟩
  have s0:Same H (upd H d (.lst [])):=same_new hd
  have L1:=mxI_is (i:Int)
  have L2:=mxI_is (j:Int)
  have M1:=mnO_is hi ((i:Int) + 2)
  have M2:=mnO_is wi ((j:Int) + 2)
  refine ⟨_,rfl,ca,_,0,_,rfl,rfl,SqT.of (s0 _ _ hca),rfl,_,_,rfl,rfl,0,_,rfl,_,rfl,_,rfl,ca,_,0,_,rfl,rfl,SqT.of (s0 _ _ hca),rfl,_,_,rfl,rfl,_,_,rfl,mxI i,mnO hi ((i:Int) + 2),rfl,⟨by omega,by omega,by omega,by omega⟩,?_⟩
  refine for_range (lo:=mxI i) (n:=(mnO hi ((i:Int) + 2) - mxI i).toNat) (fun a σ H'=>∃ (v4 v5:Option V) (ws:List V) (cs:List (Nat × Nat)),σ=[some (.ref ca),some (.int hi),some (.int wi),some (.ref d),v4,v5]/\Same H H'/\H' d=some (.lst ws)/\Cel H' ws cs/\(∀ c ∈ cs,(c.1:Int) < hi/\(c.2:Int) < wi)/\cs.length + (if (i:Int) < mxI i + a then 1 else 0)<=3 * a)
   ⟨_,_,[],[],rfl,s0,upd_same,.nil,(fun _ h=>nomatch h),by rw [if_neg (by omega)]; exact Nat.le_refl _⟩ ?_ ?_
  ·rintro a σ H1 ha ⟨v4,v5,ws,cs,rfl,s1,hd1,hc1,hb1,hn1⟩
   refine ⟨_,rfl,ca,_,1,_,rfl,rfl,SqT.of (s1 _ _ hca),rfl,_,_,rfl,rfl,0,_,rfl,_,rfl,_,rfl,ca,_,1,_,rfl,rfl,SqT.of (s1 _ _ hca),rfl,_,_,rfl,rfl,_,_,rfl,mxI j,mnO wi ((j:Int) + 2),rfl,⟨by omega,by omega,by omega,by omega⟩,?_⟩
   refine for_range (lo:=mxI j) (n:=(mnO wi ((j:Int) + 2) - mxI j).toNat) (fun b σ H'=>∃ (v5:Option V) (ws:List V) (cs:List (Nat × Nat)),σ=[some (.ref ca),some (.int hi),some (.int wi),some (.ref d),some (.int (mxI i + (a:Int))),v5]/\Same H H'/\H' d=some (.lst ws)/\Cel H' ws cs/\(∀ c ∈ cs,(c.1:Int) < hi/\(c.2:Int) < wi)/\cs.length + (if (i:Int) < mxI i + a then 1 else 0) + (if mxI i + a=i/\(j:Int) < mxI j + b then 1 else 0)<=3 * a + b)
    ⟨_,ws,cs,rfl,s1,hd1,hc1,hb1,by rw [if_neg (show ¬ (mxI (i:Int) + a=i/\(j:Int) < mxI j + (0:Nat)) by omega)]; omega⟩ ?_ ?_
   ·rintro b σ H2 hb ⟨v5,ws2,cs2,rfl,s2,hd2,hc2,hb2,hn2⟩
    refine ⟨_,rfl,_,rfl,(by show 2<=sizeLine; decide),fun t ht=>?_⟩
    have s3:=same_new (o:=.tup [.int (mxI i + (a:Int)),.int (mxI j + (b:Int))]) ht
    refine ⟨_,rfl,.tuple [.int (mxI i + (a:Int)),.int (mxI j + (b:Int))],cData (i,j),.tup (SqT.of upd_same) (.cons (.int _) (.cons (.int _) .nil)),CelR.rdv ⟨ca,rfl,s3 _ _ (s2 _ _ hca)⟩,⟨rfl,rfl,by show max 0 (max 0 0) + 1<=64; decide⟩,_,rfl,?_⟩
    have ee:(if true=true then !PyData.eqv (.tuple [.int (mxI i + (a:Int)),.int (mxI j + (b:Int))]) (cData (i,j)) else PyData.eqv (.tuple [.int (mxI i + (a:Int)),.int (mxI j + (b:Int))]) (cData (i,j)))=!decide (mxI i + (a:Int)=i/\mxI j + (b:Int)=j):=by
     show (!((mxI i + (a:Int) == (i:Int)) && ((mxI j + (b:Int) == (j:Int)) && true)))=_
     by_cases e1:mxI i + (a:Int)=i
     ·by_cases e2:mxI j + (b:Int)=j
      ·simp [e1,e2]
      ·simp [e1,e2]
     ·simp [e1]
    rw [ee]
    by_cases e:mxI i + (a:Int)=i/\mxI j + (b:Int)=j
    ·rw [decide_eq_true e]
     refine iteF ⟨_,ws2,cs2,rfl,s2.trans s3,s3 _ _ hd2,Cel.mono s3 hc2,hb2,?_⟩
     rw [if_neg (show ¬ (mxI (i:Int) + a=i/\(j:Int) < mxI j + b) by omega)] at hn2
     rw [if_pos (show mxI (i:Int) + a=i/\(j:Int) < mxI j + ((b + 1:Nat):Int) by omega)]
     omega
    ·rw [decide_eq_false e]
     refine iteT ?_
     have hlen:ws2.length<=1000:=by
      rw [hc2.length]
      omega
     refine ⟨_,rfl,.inl ⟨rfl,_,SqL.of (s3 _ _ hd2)⟩,_,rfl,_,rfl,(by show 2<=sizeLine; decide),fun p hp=>?_⟩
     have s4:=same_new (o:=.tup [.int (mxI i + (a:Int)),.int (mxI j + (b:Int))]) hp
     have s34:=s3.trans s4
     refine ⟨d,_,_,rfl,rfl,s34 _ _ hd2,Nat.lt_of_le_of_lt hlen (by decide),?_⟩
     refine ⟨_,ws2++[.ref p],cs2++[((mxI i + (a:Int)).toNat,(mxI j + (b:Int)).toNat)],rfl,fun b' o e'=>?_,upd_same,?_,?_,?_⟩
     ·rw [upd_ne (ne_of_none e' hd)]
      exact s34 _ _ (s2 _ _ e')
     ·refine Cel.into d _ (s34 _ _ hd2) (Cel.snoc (Cel.mono s34 hc2) ⟨p,rfl,?_⟩)
      rw [upd_same,Int.toNat_of_nonneg (by omega),Int.toNat_of_nonneg (by omega)]
     ·intro c hc
      rcases List.mem_append.mp hc with hc | hc
      ·exact hb2 c hc
      ·have ec:c=((mxI i + (a:Int)).toNat,(mxI j + (b:Int)).toNat):=by simpa using hc
       rw [ec]
       show (((mxI i + (a:Int)).toNat:Nat):Int) < hi/\(((mxI j + (b:Int)).toNat:Nat):Int) < wi
       omega
     ·rw [List.length_append]
      show cs2.length + 1 + _ + _<=_
      have:(if mxI (i:Int) + a=i/\(j:Int) < mxI j + ((b + 1:Nat):Int) then 1 else 0)=(if mxI (i:Int) + a=i/\(j:Int) < mxI j + b then 1 else 0):=by
       by_cases c1:mxI (i:Int) + a=i/\(j:Int) < mxI j + b
       ·rw [if_pos c1,if_pos (by omega)]
       ·rw [if_neg c1,if_neg (by omega)]
      rw [this]
      omega
   ·rintro σ H2 ⟨v5,ws2,cs2,rfl,s2,hd2,hc2,hb2,hn2⟩
    refine ⟨_,_,ws2,cs2,rfl,s2,hd2,hc2,hb2,?_⟩
    by_cases c1:mxI (i:Int) + a=i
    ·rw [if_pos (show mxI (i:Int) + a=i/\(j:Int) < mxI j + (((mnO wi ((j:Int) + 2) - mxI j).toNat:Nat):Int) by omega),if_neg (by omega)] at hn2
     rw [if_pos (by omega)]
     omega
    ·rw [if_neg (show ¬ (mxI (i:Int) + a=i/\(j:Int) < mxI j + (((mnO wi ((j:Int) + 2) - mxI j).toNat:Nat):Int)) from fun z=>c1 z.1)] at hn2
     have:(if (i:Int) < mxI i + ((a + 1:Nat):Int) then 1 else 0)=(if (i:Int) < mxI i + a then 1 else 0):=by
      by_cases c2:(i:Int) < mxI i + a
      ·rw [if_pos c2,if_pos (by omega)]
      ·rw [if_neg c2,if_neg (by omega)]
     rw [this]
     omega
  ·rintro σ H1 ⟨v4,v5,ws,cs,rfl,s1,hd1,hc1,hb1,hn1⟩
   rw [if_pos (by omega)] at hn1
   exact ⟨_,rfl,q d ws cs H1 hd hd1 hc1 hb1 (by omega) s1⟩
theorem sc_law_rows:FnScope ["_law_signs_here","_law_high","_law_wide","_law_rows_here","_law_row","_law_text","_law_column","_law_sign_here","_law_near_here","_law_some"] ["_law_signs_here","_law_high","_law_wide"] (defScope s_law_rows):=⟨rfl,rfl,rfl,by decide +kernel,rfl,by decide +kernel,by decide +kernel⟩
theorem ok_law_rows {f1:Addr}{fd1:FuncData}(T:Txt mg)(D:DefAt K mg "_law_rows" s_law_rows ["_law_signs_here","_law_high","_law_wide"] f fd)(D_law_near:DefAt K mg "_law_near" s_law_near ["_law_cell","_law_high","_law_wide"] f1 fd1):FnOk P w K mg base CX0 2 f fd ["_law_signs_here","_law_high","_law_wide"] spGRows:=by
 have G_law_near:FnOk P w K mg base CX0 1 f1 fd1 ["_law_cell","_law_high","_law_wide"] spGNear:=ok_law_near T D_law_near
 refine D.F.ok sc_law_rows (fun vs H Q E h=>?_) (fun cdv A outer s H vs Q E hr h=>?_)
 ·obtain ⟨l,ts,hi,wi,rfl,_⟩:=h
  rfl
 ·obtain ⟨l,ts,hi,wi,rfl,hl,hts,h1,h8,w1,w8,q⟩:=h
  refine ⟨_,(pss_cons (ps_set (i:=3) sc_law_rows.nd rfl (Or.inl rfl) (pe_lst pa_nil))
   (pss_cons (ps_for PassesOwn.never rfl (pi_range1 (by rfl) T.b_range (pa_cons (pv 1) pa_nil)) (pg_name (i:=4) sc_law_rows.nd rfl (Or.inl rfl)) (pss_cons (ps_set (i:=5) sc_law_rows.nd rfl (Or.inl rfl) pe_str)
   (pss_cons (ps_for PassesOwn.never rfl (pi_range1 (by rfl) T.b_range (pa_cons (pv 2) pa_nil)) (pg_name (i:=6) sc_law_rows.nd rfl (Or.inl rfl)) (pss_cons (ps_set (i:=7) sc_law_rows.nd rfl (Or.inl rfl) (pe_ix ix_list (pv 0) (pe_op op_add (pe_op op_mulG (pv 2) (pv 4)) (pv 6)) (fun _ _=>rfl)))
   (pss_cons (ps_set (i:=8) sc_law_rows.nd rfl (Or.inl rfl) (pe_call G_law_near (hr.mono (by decide)) (by rfl) D_law_near.g D_law_near.F.kp D_law_near.b .nil pass0 (pa_cons (pe_tup (pa_cons (pv 4) (pa_cons (pv 6) pa_nil))) (pa_cons (pv 1) (pa_cons (pv 2) pa_nil)))))
   (pss_ifP 7 (pss_cons (ps_setC (i:=9) sc_law_rows.nd rfl rfl (N:=["_law_k","_law_j","_law_signs_here","_law_wide"]) (src:=[none,none,some 0,some 2]) (CompOk.free (O:=(defScope s_law_rows).names) (XN:=["_law_signs_here","_law_high","_law_wide","_law_rows_here","_law_row","_law_text","_law_column","_law_sign_here","_law_near_here","_law_some"]) rfl rfl ⟨_,rfl⟩ rfl rfl (by decide +kernel) (by decide +kernel) (by decide +kernel) rfl (by decide +kernel)) rfl (pi_list (pv 8)) (fun _ _ _ _ _=>(pg_tupK (n:=2) (K:=K) (by rfl) rfl (pgs_cons (pg_name (i:=0) (by show List.Nodup (["_law_k","_law_j","_law_signs_here","_law_wide"]:List Str); decide +kernel) rfl (Or.inl rfl)) (pgs_cons (pg_name (i:=1) (by show List.Nodup (["_law_k","_law_j","_law_signs_here","_law_wide"]:List Str); decide +kernel) rfl (Or.inl rfl)) pgs_nil)))) (fun _ _ _ _ _=>pifs_nil) (fun _ _ _ _ _=>(pe_ix (ix_listK (K:=K) (by rfl)) (pv 2) (pe_op op_add (pe_op op_mulG (pv 3) (pv 0)) (pv 1)) (fun _ _=>rfl))))
   (pss_one (ps_set (i:=7) sc_law_rows.nd rfl (Or.inl rfl) (pe_callTy call_str_int (by rfl) T.b_str PyProof.Rows.boot_str (pa_cons (pe_bm PySem.F.plainAttrs_list PySem.F.slot_list_count PySem.F.type_list_count mt_count (pv 9) (pa_cons pe_str pa_nil)) pa_nil)))))
   (pss_one (ps_set (i:=5) sc_law_rows.nd rfl (Or.inl rfl) (pe_op op_add_str (pv 5) (pe_bm PySem.F.plainAttrs_str PySem.F.slot_str_replace PySem.F.type_str_replace mt_replaceNo (pv 7) (pa_cons pe_str (pa_cons pe_str pa_nil))))))
   (pssp_set (i:=5) sc_law_rows.nd rfl (Or.inl rfl) (pep_opN 5 op_add_str (pep_rep 7 (by decide +kernel) (by decide +kernel))) pss_nil)))))
   (pss_one (ps_expr (pe_bm PySem.F.plainAttrs_list PySem.F.slot_list_append PySem.F.type_list_append mt_append (pv 3) (pa_cons (pv 5) pa_nil)))))))
   (pss_one (ps_ret (pv 3))))),?_⟩
  refine ⟨(by show 0<=sizeLine; decide),fun d hd=>?_⟩
  have s0:Same H (upd H d (.lst [])):=same_new hd
  have at_:∀ r c:Nat,(r:Int) < hi->(c:Int) < wi->∃ k,k ∈ sg13/\(ts.map V.str)[(wi * (r:Int) + (c:Int)).toNat]?=some (.str ⟨#[k]⟩):=fun r c hr hc=>by
   have a0:0<=wi * (r:Int):=Int.mul_nonneg (by omega) (by omega)
   have a1:wi * ((r:Int) + 1)<=wi * hi:=Int.mul_le_mul_of_nonneg_left (by omega) (by omega)
   rw [Int.mul_add,Int.mul_one] at a1
   have a2:(wi * hi).toNat=ts.length:=by rw [Int.mul_comm,hts.len]
   have a3:(wi * (r:Int) + (c:Int)).toNat < ts.length:=by omega
   obtain ⟨k,hk,e⟩:=hts.mem _ (List.getElem_mem a3)
   refine ⟨k,hk,?_⟩
   rw [List.getElem?_map,List.getElem?_eq_getElem a3,e]
   rfl
  have nn:∀ r:Nat,0<=wi * (r:Int):=fun r=>Int.mul_nonneg (by omega) (by omega)
  refine ⟨_,rfl,hi,rfl,by omega,by omega,?_⟩
  refine for_range (lo:=0) (n:=hi.toNat) (fun i σ H'=>∃ (v4 v5 v6 v7 v8 v9:Option V) (rs:List Str),σ=[some (.ref l),some (.int hi),some (.int wi),some (.ref d),v4,v5,v6,v7,v8,v9]/\Same H H'/\H' d=some (.lst (rs.map V.str))/\rs.length=i/\(∀ t ∈ rs,Row bd.cps.toList wi.toNat t)/\ShowsO ts wi rs)
   ⟨_,_,_,_,_,_,[],rfl,s0,upd_same,rfl,(fun _ h=>nomatch h),(fun _ _ h=>by cases h)⟩ ?_ ?_
  ·rintro i σ H1 hi1 ⟨v4,v5,v6,v7,v8,v9,rs,rfl,s1,hd1,hlen,hrow,hsh⟩
   refine ⟨_,rfl,wi,rfl,by omega,by omega,?_⟩
   refine for_range (lo:=0) (n:=wi.toNat) (fun j σ H'=>∃ (v6 v7 v8 v9:Option V) (t:Str),σ=[some (.ref l),some (.int hi),some (.int wi),some (.ref d),some (.int (0 + (i:Int))),some (.str t),v6,v7,v8,v9]/\Same H1 H'/\Row bd.cps.toList j t/\∀ j':Nat,j' < j->ts[(wi * (i:Int) + (j':Int)).toNat]?=some (one 111)->t.cps.toList[j']?=some 63)
    ⟨_,_,_,_,_,rfl,Same.refl _,⟨rfl,(fun _ h=>nomatch h)⟩,(fun _ h=>absurd h (Nat.not_lt_zero _))⟩ ?_ ?_
   ·rintro j σ H2 hj ⟨v6,v7,v8,v9,t,rfl,s2,hr1,hsj⟩
    obtain ⟨k,hk,hat⟩:=at_ i j (by omega) (by omega)
    have more:∀ k':Nat,(k=111->k'=63)->∀ j':Nat,j' < j + 1->ts[(wi * (i:Int) + (j':Int)).toNat]?=some (one 111)->(t++(⟨#[k']⟩:Str)).cps.toList[j']?=some 63:=fun k' hk' j' hj' hto=>by
     have tl:t.cps.toList.length=j:=by
      rw [Array.length_toList]
      exact hr1.len
     have e:(t++(⟨#[k']⟩:Str)).cps.toList=t.cps.toList++[k']:=by
      show (t.cps++#[k']).toList=_
      rw [Array.toList_append]
     rw [e]
     by_cases hjj:j' < j
     ·rw [List.getElem?_append_left (by omega)]
      exact hsj j' hjj hto
     ·have ej:j'=j:=by omega
      subst ej
      rw [List.getElem?_map,hto] at hat
      have h111:k=111:=by
       have h3:(one 111)=(⟨#[k]⟩:Str):=V.str.inj (Option.some.inj hat)
       have h4:#[111]=#[k]:=congrArg Str.cps h3
       have h5:[111]=[k]:=congrArg Array.toList h4
       exact (List.cons.inj h5).1.symm
      rw [List.getElem?_append_right (by omega),tl,Nat.sub_self,hk' h111]
      rfl
    have hl2:=s2 _ _ (s1 _ _ hl)
    have ni:=nn i
    refine ⟨_,rfl,_,rfl,_,rfl,_,_,rfl,rfl,mulL (by omega) (by omega),_,rfl,_,_,rfl,rfl,l,_,_,.str ⟨#[k]⟩,rfl,rfl,SqL.of hl2,atI_lt (by rw [Int.zero_add,Int.zero_add]; omega) (by rw [Int.zero_add,Int.zero_add]; exact hat),?_⟩
    refine ⟨_,rfl,_,rfl,(by show 2<=sizeLine; decide),fun p hp=>?_⟩
    have s3:=same_new (o:=.tup [.int (0 + (i:Int)),.int (0 + (j:Int))]) hp
    refine ⟨_,rfl,_,rfl,p,i,j,hi,wi,rfl,by rw [upd_same,Int.zero_add,Int.zero_add],by omega,by omega,h8,w8,fun e ws cs H4 he he4 hc4 hb4 hn4 s4=>?_⟩
    have s14:=(s2.trans s3).trans s4
    have hl4:=s14 _ _ (s1 _ _ hl)
    have tl:t.length=j:=hr1.len
    refine ⟨_,rfl,⟨#[k]⟩,rfl,ite2 (fun c=>?_) (fun c=>?_)⟩
    ·-- an open cell: its number
     refine ⟨_,rfl,e,rfl,⟨_,SqL.of he4⟩,fun z hz=>?_⟩
     refine comp_list (K:=K) (a:=e) (xs:=ws) (fun m σ' H'=>∃ (u0 u1:Option V) (us:List Str),σ'=[u0,u1,some (.ref l),some (.int wi)]/\Same H4 H'/\us.length=m/\H' z=some (.lst (us.map V.str)))
      ⟨_,_,[],rfl,same_new hz,rfl,upd_same⟩ (fun m σ' H' _ ⟨_,_,_,_,s5,_⟩=>SqL.of (s5 _ _ he4)) ?_ ?_
     ·rintro m x σ' H5 hx ⟨u0,u1,us,rfl,s5,hm,hz5⟩
      obtain ⟨y,hy,ya,rfl,hya⟩:=Cel.get (Cel.mono s5 hc4) hx
      obtain ⟨b1,b2⟩:=hb4 y (List.mem_of_getElem? hy)
      obtain ⟨k2,hk2,hat2⟩:=at_ y.1 y.2 b1 b2
      have ny:=nn y.1
      have hml:=(List.getElem?_eq_some_iff.mp hy).1
      refine ⟨ya,_,rfl,SqT.of hya,rfl,_,_,rfl,_,_,rfl,rfl,?_⟩
      unfold tYes
      refine iteT ?_
      refine ⟨_,rfl,_,rfl,_,rfl,_,_,rfl,rfl,mulL (by omega) (by omega),_,rfl,_,_,rfl,rfl,l,_,_,.str ⟨#[k2]⟩,rfl,rfl,SqL.of (s5 _ _ hl4),atI_lt (by omega) hat2,_,hz5,?_,?_⟩
      ·rw [List.length_map,hm]
       exact Nat.lt_of_lt_of_le (show m < 9 by omega) (by decide)
      ·refine ⟨_,_,us++[⟨#[k2]⟩],rfl,fun b o e'=>?_,?_,?_⟩
       ·rw [upd_ne (ne_of_none e' hz)]
        exact s5 _ _ e'
       ·rw [List.length_append,hm]
        rfl
       ·rw [upd_same,List.map_append]
        rfl
     ·rintro σ' H5 ⟨u0,u1,us,rfl,s5,hm,hz5⟩
      have hcnt:(us.countP fun t=>t == ("o":Str)) < 9:=by
       have:=List.countP_le_length (p:=fun t=>t == ("o":Str)) (l:=us)
       rw [hm,hc4.length] at this
       omega
      refine ⟨_,rfl,.inl ⟨rfl,_,SqL.of hz5⟩,z,us,"o",rfl,rfl,hz5,_,rfl,?_,?_⟩
      ·show (((us.countP fun t=>t == ("o":Str)):Nat):Int).natAbs.log2 < 1920
       rw [Int.natAbs_natCast]
       have:∀ d:Nat,d < 9->d.log2 < 1920:=by decide +kernel
       exact this _ hcnt
      refine ⟨_,rfl,_,rfl,rfl,_,_,_,rfl,rfl,?_,_,_,rfl,rfl,?_,?_⟩
      ·have:∀ d:Nat,d < 9->(Builtin.Str.occurrences ((toString (d:Int):String):Str) "o" 0 ((toString (d:Int):String):Str).length (((toString (d:Int):String):Str).length + 1)).isEmpty=true:=by decide +kernel
       exact this _ hcnt
      ·rw [gdigit _ hcnt,tl]
       show j + 1<=sizeLine
       exact Nat.le_trans (show j + 1<=8 by omega) (by decide)
      ·refine ⟨_,_,_,_,_,rfl,s14.trans s5,?_⟩
       rw [gdigit _ hcnt]
       refine ⟨grow hr1 (gnum hcnt),more _ fun z=>?_⟩
       rw [z] at c
       exact absurd c (by decide +kernel)
    ·-- any other sign
     have hr:=repl_is k hk (fun z=>c (by rw [z]; decide +kernel))
     refine ⟨_,rfl,_,rfl,⟨#[k]⟩,rfl,(by show 1<=1000000; decide),_,_,rfl,rfl,?_,?_⟩
     ·rw [hr.1,tl]
      show j + 1<=sizeLine
      exact Nat.le_trans (show j + 1<=8 by omega) (by decide)
     ·refine ⟨_,_,_,_,_,rfl,s14,?_⟩
      rw [hr.1]
      exact ⟨grow hr1 hr.2,more _ fun z=>if_pos z⟩
   ·rintro σ H2 ⟨v6,v7,v8,v9,t,rfl,s2,hr1,hsj⟩
    have hd2:=s2 _ _ hd1
    refine ⟨_,rfl,.inl ⟨rfl,_,SqL.of hd2⟩,_,rfl,d,_,_,rfl,rfl,hd2,?_,?_⟩
    ·rw [List.length_map,hlen]
     exact Nat.lt_of_lt_of_le (show i < 9 by omega) (by decide)
    ·refine ⟨_,_,_,_,_,_,rs++[t],rfl,fun b o e=>?_,?_,?_,?_,?_⟩
     ·rw [upd_ne (ne_of_none e hd)]
      exact s2 _ _ (s1 b o e)
     ·rw [upd_same,List.map_append]
      rfl
     ·rw [List.length_append,hlen]
      rfl
     ·intro u hu
      rcases List.mem_append.mp hu with hu | hu
      ·exact hrow u hu
      ·have e6:u=t:=by simpa using hu
       rw [e6]
       exact hr1
     ·intro i' u hu
      by_cases hii:i' < rs.length
      ·rw [List.getElem?_append_left hii] at hu
       exact hsh i' u hu
      ·have hb:=(List.getElem?_eq_some_iff.mp hu).1
       rw [List.length_append] at hb
       have ei:i'=i:=by
        have:[t].length=1:=rfl
        omega
       subst ei
       rw [List.getElem?_append_right (by omega),hlen,Nat.sub_self] at hu
       have eu:t=u:=Option.some.inj hu
       rw [<- eu]
       intro j' hj' hto
       exact hsj j' (by omega) hto
  ·rintro σ H1 ⟨v4,v5,v6,v7,v8,v9,rs,rfl,s1,hd1,hlen,hrow,hsh⟩
   exact ⟨_,rfl,q d rs H1 hd hd1 hlen hrow hsh s1⟩
theorem sc_law_bent:FnScope ["_law_rows_here","_law_cell","_law_spots","_law_k","_law_j","_law_text","_law_sign_here","_law_found"] ["_law_rows_here","_law_cell"] (defScope s_law_bent):=⟨rfl,rfl,rfl,by decide +kernel,rfl,by decide +kernel,by decide +kernel⟩
theorem ok_law_bent (T:Txt mg)(D:DefAt K mg "_law_bent" s_law_bent ["_law_rows_here","_law_cell"] f fd):FnOk P w K mg base CX0 1 f fd ["_law_rows_here","_law_cell"] spGBent:=by
 refine D.F.ok sc_law_bent (fun vs H Q E h=>?_) (fun cdv A outer s H vs Q E hr h=>?_)
 ·obtain ⟨l,rs,n,c,rfl,_⟩:=h
  rfl
 ·obtain ⟨l,rs,n,c,rfl,hl,r1,r8,n1,n8,hrow,q⟩:=h
  refine ⟨_,(pss_cons (ps_set (i:=2) sc_law_bent.nd rfl (Or.inl rfl) (pe_lst pa_nil))
   (pss_cons (ps_for PassesOwn.never rfl (pi_range1 (by rfl) T.b_range (pa_cons (pe_callB call_len_seq (by rfl) T.b_len PySem.boot_len (pa_cons (pv 0) pa_nil)) pa_nil)) (pg_name (i:=3) sc_law_bent.nd rfl (Or.inr rfl)) (pss_one (ps_expr (pe_bm PySem.F.plainAttrs_list PySem.F.slot_list_extend PySem.F.type_list_extend mt_extend (pv 2) (pa_cons (pe_comp (N:=["_law_j","_law_k","_law_rows_here"]) (src:=[none,some 3,some 0]) (CompOk.free (O:=(defScope s_law_bent).names) (XN:=["_law_rows_here","_law_cell","_law_spots","_law_k","_law_j","_law_text","_law_sign_here","_law_found"]) rfl rfl ⟨_,rfl⟩ rfl rfl (by decide +kernel) (by decide +kernel) (by decide +kernel) rfl (by decide +kernel)) rfl (pi_range1 (by rfl) T.b_range (pa_cons (pe_callB call_len_str (by rfl) T.b_len PySem.boot_len (pa_cons (pe_ix ix_list (pv 0) (pv 3) (fun _ _=>rfl)) pa_nil)) pa_nil)) (fun _ _ _ _ _=>(pg_name (i:=0) (by show List.Nodup (["_law_j","_law_k","_law_rows_here"]:List Str); decide +kernel) rfl (Or.inl rfl))) (fun _ _ _ _ _=>(pifs_one (pt_cmpR op_in_str (pe_ix ix_str (pe_ix (ix_listK (K:=K) (by rfl)) (pv 2) (pv 1) (fun _ _=>rfl)) (pv 0) (fun _ _=>rfl)) pe_str (by rfl)))) (fun _ _ _ _ _=>(pe_tup (pa_cons (pv 1) (pa_cons (pv 0) pa_nil))))) pa_nil)))))
   (pss_cons (ps_if (PW.pt (pw_or (pt_cmpR op_gt (pe_op op_mod (pv 1) pe_int) pe_int (nomark _)) (pw_or1 (pt_cmpR (op_eq_deep hr.units) (pv 2) (pe_lst pa_nil) (nomark _))))) (pss_one (ps_ret (pv 0))) pss_nil)
   (pss_cons (ps_asg (pe_ix ix_list (pv 2) (pe_op op_mod (pe_op op_fdivG (pv 1) pe_int) (pe_callB call_len_seq (by rfl) T.b_len PySem.boot_len (pa_cons (pv 2) pa_nil))) (fun _ _=>rfl)) (pg_tup rfl (pgs_cons (pg_name (i:=3) sc_law_bent.nd rfl (Or.inr rfl)) (pgs_cons (pg_name (i:=4) sc_law_bent.nd rfl (Or.inl rfl)) pgs_nil))))
   (pss_cons (ps_set (i:=5) sc_law_bent.nd rfl (Or.inl rfl) (pe_ix ix_list (pv 0) (pv 3) (fun _ _=>rfl)))
   (pss_cons (ps_set (i:=6) sc_law_bent.nd rfl (Or.inl rfl) (pe_ix ix_str pe_str (pe_op op_mod (pe_op op_add (pe_op op_add (pe_callTy call_int_str (by rfl) T.b_int PyProof.Rows.boot_int (pa_cons (pe_ix ix_str (pv 5) (pv 4) (fun _ _=>rfl)) pa_nil)) pe_int) (pe_op op_mod (pe_op op_fdivG (pv 1) pe_int) pe_int)) pe_int) (fun _ _=>rfl)))
   (pss_cons (ps_set (i:=7) sc_law_bent.nd rfl (Or.inl rfl) (pe_callTy call_list_of (by rfl) T.b_list PyProof.Rows.boot_list (pa_cons (pv 0) pa_nil)))
   (pss_cons (ps_asg (pe_op op_add_str (pe_op op_add_str (pe_slice sl_str (pv 5) po_none (po_some (pv 4))) (pv 6)) (pe_slice sl_str (pv 5) (po_some (pe_op op_add (pv 4) pe_int)) po_none)) (pg_sub (pv 7) (pv 3) set_list))
   (pss_one (ps_ret (pv 7))))))))))),?_⟩
  refine ⟨(by show 0<=sizeLine; decide),fun sp hsp=>?_⟩
  have s0:Same H (upd H sp (.lst [])):=same_new hsp
  have rl:(rs.map V.str).length=rs.length:=List.length_map _
  have hat:∀ {i:Nat} {t:Str},rs[i]?=some t->(rs.map V.str)[i]?=some (V.str t):=fun h=>by rw [List.getElem?_map,h]; rfl
  have tl8:∀ t ∈ rs,t.length=n:=fun t ht=>(hrow t ht).len
  have szl:∀ t ∈ rs,t.length<=sizeLine:=fun t ht=>Nat.le_trans (show t.length<=8 by rw [tl8 t ht]; exact n8) (by decide)
  refine ⟨_,rfl,l,_,rfl,.inl (SqL.of (s0 _ _ hl)),_,rfl,by omega,by omega,?_⟩
  rw [Int.toNat_natCast,rl]
  refine for_range (lo:=0) (n:=rs.length) (fun i σ H'=>∃ (v3:Option V) (ws:List V) (cs:List (Nat × Nat)),σ=[some (.ref l),some (.int c),some (.ref sp),v3,none,none,none,none]/\Same H H'/\H' sp=some (.lst ws)/\Cel H' ws cs/\Digs rs cs/\cs.length<=8 * i) ⟨_,[],[],rfl,s0,upd_same,.nil,(fun _ h=>nomatch h),Nat.le_refl _⟩ ?_ ?_
  ·rintro i σ H1 hi ⟨v3,ws,cs,rfl,s1,hp1,hc1,hg1,hn1⟩
   obtain ⟨t,ht⟩:∃ t,rs[i]?=some t:=⟨_,List.getElem?_eq_getElem hi⟩
   have tm:=List.mem_of_getElem? ht
   have tl:t.cps.toList.length=n:=by
    rw [Array.length_toList]
    exact (hrow t tm).len
   have tl2:=tl8 t tm
   refine ⟨_,rfl,.inl ⟨rfl,_,SqL.of hp1⟩,_,rfl,_,rfl,l,_,_,.str t,rfl,rfl,SqL.of (s1 _ _ hl),atI_lt (by omega) (by rw [show ((0:Int) + (i:Int)).toNat=i by omega]; exact hat ht),t,rfl,szl t tm,_,rfl,?_,?_,fun z hz=>?_⟩
   ·show -(2 ^ 62)<=((t.length:Nat):Int)
    omega
   ·show ((t.length:Nat):Int) < 2 ^ 62
    omega
   rw [Int.toNat_natCast,tl2]
   refine comp_range (lo:=0) (n:=n) (fun j σ' H'=>∃ (u0:Option V) (ys:List V) (ds:List (Nat × Nat)),σ'=[u0,some (.int (0 + (i:Int))),some (.ref l)]/\Same H1 H'/\H' z=some (.lst ys)/\Cel H' ys ds/\Digs rs ds/\ds.length<=j) ⟨_,[],[],rfl,same_new hz,upd_same,.nil,(fun _ h=>nomatch h),Nat.le_refl _⟩ ?_ ?_
   ·rintro j σ' H2 hj ⟨u0,ys,ds,rfl,s2,hz2,hc2,hg2,hn2⟩
    obtain ⟨k,hk⟩:∃ k,t.cps.toList[j]?=some k:=⟨_,List.getElem?_eq_getElem (by omega)⟩
    have kin:=(hrow t tm).mem k (List.mem_of_getElem? hk)
    refine ⟨_,rfl,_,rfl,l,_,_,.str t,rfl,rfl,SqL.of (s2 _ _ (s1 _ _ hl)),atI_lt (by omega) (by rw [show ((0:Int) + (i:Int)).toNat=i by omega]; exact hat ht),_,rfl,t,_,k,rfl,rfl,szl t tm,atI_lt (by omega) (by rw [show ((0:Int) + (j:Int)).toNat=j by omega]; exact hk),_,_,rfl,rfl,_,rfl,?_⟩
    rw [dig_is k kin]
    by_cases kd:48<=k/\k<=56
    ·rw [decide_eq_true kd]
     refine iteT ⟨_,rfl,_,rfl,(by show 2<=sizeLine; decide),fun p hp=>?_⟩
     have s3:=same_new (o:=.tup [.int (0 + (i:Int)),.int (0 + (j:Int))]) hp
     refine ⟨_,s3 _ _ hz2,?_,_,ys++[.ref p],ds++[(i,j)],rfl,fun b o e=>?_,upd_same,?_,?_,?_⟩
     ·rw [hc2.length]
      exact Nat.lt_of_lt_of_le (show ds.length < 9 by omega) (by decide)
     ·rw [upd_ne (ne_of_none e hz)]
      exact s3 _ _ (s2 _ _ e)
     ·refine Cel.into z _ (s3 _ _ hz2) (Cel.snoc (Cel.mono s3 hc2) ⟨p,rfl,?_⟩)
      rw [upd_same,Int.zero_add,Int.zero_add]
     ·intro x hx
      rcases List.mem_append.mp hx with hx | hx
      ·exact hg2 x hx
      ·have ex:x=(i,j):=by simpa using hx
       rw [ex]
       exact ⟨t,k,ht,hk,kd⟩
     ·rw [List.length_append]
      show ds.length + 1<=j + 1
      omega
    ·rw [decide_eq_false kd]
     exact iteF ⟨_,ys,ds,rfl,s2,hz2,hc2,hg2,by omega⟩
   ·rintro σ' H2 ⟨u0,ys,ds,rfl,s2,hz2,hc2,hg2,hn2⟩
    have hp2:=s2 _ _ hp1
    refine ⟨sp,z,_,_,rfl,rfl,hp2,hz2,?_,?_⟩
    ·rw [hc1.length,hc2.length]
     exact Nat.le_trans (show cs.length + ds.length<=72 by omega) (by decide)
    refine ⟨_,ws++ys,cs++ds,rfl,fun b o e=>?_,upd_same,Cel.into sp _ hp2 (Cel.append (Cel.mono s2 hc1) hc2),?_,?_⟩
    ·rw [upd_ne (ne_of_none e hsp)]
     exact s2 _ _ (s1 _ _ e)
    ·intro x hx
     rcases List.mem_append.mp hx with hx | hx
     ·exact hg1 x hx
     ·exact hg2 x hx
    ·rw [List.length_append]
     omega
  ·rintro σ H1 ⟨v3,ws,cs,rfl,s1,hp1,hc1,hg1,hn1⟩
   refine ⟨_,rfl,_,_,rfl,rfl,(by show (0:Int) < 3; decide),_,_,rfl,rfl,_,rfl,ite2 (fun _=>?_) (fun _=>?_)⟩
   ·exact ⟨_,rfl,q l rs H1 (s1 _ _ hl) rfl hrow (fun _ _ h=>h) s1⟩
   refine ⟨_,rfl,(by show 0<=sizeLine; decide),fun e he=>?_⟩
   have s2:=same_new (o:=.lst []) he
   refine ⟨.list (cs.map cData),.list [],.lst (SqL.of (s2 _ _ hp1)) (gRdv (Cel.mono s2 hc1)),.lst (SqL.of upd_same) .nil,g_cmp cs,_,rfl,?_⟩
   have ee:(if false=true then !PyData.eqv (.list (cs.map cData)) (.list []) else PyData.eqv (.list (cs.map cData)) (.list []))=cs.isEmpty:=by
    show PyData.eqv _ _=_
    cases cs <;> rfl
   rw [ee]
   cases hb:cs.isEmpty with
   | true=>exact iteT ⟨_,rfl,q l rs _ (s2 _ _ (s1 _ _ hl)) rfl hrow (fun _ _ h=>h) (s1.trans s2)⟩
   | false =>
    refine iteF ?_
    have pos:0 < cs.length:=by
     cases cs with
     | nil=>cases hb
     | cons x y=>exact Nat.succ_pos _
    have s12:=s1.trans s2
    have hp2:=s2 _ _ hp1
    have hc2:=Cel.mono s2 hc1
    have wl:=hc1.length
    have m0:=Int.emod_nonneg (c / 3) (show ((ws.length:Nat):Int) ≠ 0 by omega)
    have m1:=Int.emod_lt_of_pos (c / 3) (show (0:Int) < ((ws.length:Nat):Int) by omega)
    obtain ⟨x,hx⟩:∃ x,ws[(c / 3 % ((ws.length:Nat):Int)).toNat]?=some x:=⟨_,List.getElem?_eq_getElem (by omega)⟩
    obtain ⟨y,hy,ya,rfl,hya⟩:=Cel.get hc2 hx
    obtain ⟨t,k,ht,hk,k0,k1⟩:=hg1 y (List.mem_of_getElem? hy)
    have tm:=List.mem_of_getElem? ht
    have tl2:=tl8 t tm
    have yl:=(List.getElem?_eq_some_iff.mp hk).1
    have tl:t.cps.toList.length=n:=by
     rw [Array.length_toList]
     exact (hrow t tm).len
    have yr:=(List.getElem?_eq_some_iff.mp ht).1
    refine ⟨_,rfl,_,rfl,_,_,rfl,rfl,CDivG.small (by decide) (by decide),_,rfl,sp,_,rfl,.inl (SqL.of hp2),_,_,rfl,rfl,(by show (0:Int) < ((ws.length:Nat):Int); omega),sp,_,_,_,rfl,rfl,SqL.of hp2,atI_lt m0 hx,?_⟩
    refine ⟨ya,_,rfl,SqT.of hya,rfl,_,_,rfl,_,_,rfl,rfl,?_⟩
    refine ⟨_,rfl,_,rfl,l,_,_,.str t,rfl,rfl,SqL.of (s12 _ _ hl),atI_lt (by omega) (by rw [Int.toNat_natCast]; exact hat ht),?_⟩
    obtain ⟨v,hv⟩:=int_is k k0 k1
    have d0:=Int.emod_nonneg (v + 1 + c / 200 % 8) (show (9:Int) ≠ 0 by decide)
    have d1:=Int.emod_lt_of_pos (v + 1 + c / 200 % 8) (show (0:Int) < 9 by decide)
    obtain ⟨k2,hk2,hin⟩:=g_dig d0 d1
    refine ⟨_,rfl,_,rfl,t,_,k,rfl,rfl,szl t tm,atI_lt (by omega) (by rw [Int.toNat_natCast]; exact hk),_,v,rfl,hv,(by show 1<=640; decide),_,_,rfl,rfl,_,rfl,_,_,rfl,rfl,CDivG.small (by decide) (by decide),_,_,rfl,rfl,(by show (0:Int) < 8; decide),_,_,rfl,rfl,_,_,rfl,rfl,(by show (0:Int) < 9; decide),_,_,k2,rfl,rfl,(by decide +kernel),hk2,?_⟩
    refine ⟨_,rfl,l,_,rfl,.inl (SqL.of (s12 _ _ hl)),fun d hd=>?_⟩
    have s3:=same_new (o:=.lst (rs.map V.str)) hd
    have br:=bent_row (j:=y.2) (c:=k2) (hrow t tm) (by omega) hin
    refine ⟨_,rfl,_,rfl,_,rfl,t,rfl,szl t tm,_,rfl,_,_,rfl,rfl,?_,_,rfl,_,rfl,_,_,rfl,rfl,_,rfl,t,rfl,szl t tm,_,_,rfl,rfl,?_,?_⟩
    ·refine Nat.le_trans (show _<=20 from ?_) (by decide)
     have:=cut_le t none (some ((y.2:Nat):Int))
     show (cutS t none (some ((y.2:Nat):Int))).length + 1<=20
     omega
    ·refine Nat.le_trans (show _<=20 from ?_) (by decide)
     have:=br.len
     rw [g_size] at this
     show (cutS t none (some ((y.2:Nat):Int))++(⟨#[k2]⟩:Str)).length + (cutS t (some (((y.2:Nat):Int) + 1)) none).length<=20
     omega
    refine ⟨_,rfl,_,rfl,d,_,_,y.1,rfl,rfl,upd_same,?_,?_⟩
    ·rw [rl]
     unfold ixN
     rw [if_pos (by omega),if_pos (by omega),Int.toNat_natCast]
    refine ⟨_,rfl,q d (rs.set y.1 (cutS t none (some ((y.2:Nat):Int))++⟨#[k2]⟩++cutS t (some (((y.2:Nat):Int) + 1)) none)) _ ?_ (List.length_set) ?_ ?_ ?_⟩
    ·rw [upd_same,List.map_set]
    ·intro u hu
     rcases List.mem_or_eq_of_mem_set hu with hu | hu
     ·exact hrow u hu
     ·rw [hu]
      exact br
    ·intro ts wi hsh i u hu j hj hto
     by_cases ei:i=y.1
     ·subst ei
      rw [List.getElem?_set_self yr] at hu
      rw [<- Option.some.inj hu,cut_set k2 yl]
      have h63:=hsh y.1 t ht j hj hto
      have hne:y.2 ≠ j:=fun z=>by
       rw [z,h63] at hk
       cases hk
       omega
      rw [List.getElem?_set_ne hne]
      exact h63
     ·rw [List.getElem?_set_ne (fun z=>ei z.symm)] at hu
      exact hsh i u hu j hj hto
    ·intro b o e'
     have:=s12 b o e'
     rw [upd_ne (ne_of_none this hd)]
     exact s3 _ _ this
theorem sc_law_board:FnScope ["_law_script","_law_high","_law_wide","_law_most","_law_signs_here","_law_rows_here","_law_stones"] ["_law_script","_law_high","_law_wide","_law_most"] (defScope s_law_board):=⟨rfl,rfl,rfl,by decide +kernel,rfl,by decide +kernel,by decide +kernel⟩
theorem ok_law_board {f1 f2 f3 f4 f5 f6:Addr}{fd1 fd2 fd3 fd4 fd5 fd6:FuncData}(T:Txt mg)(D:DefAt K mg "_law_board" s_law_board ["_law_script","_law_high","_law_wide","_law_most"] f fd)(D_law_cell_at:DefAt K mg "_law_cell_at" s_law_cell_at ["_law_script","_law_k"] f1 fd1)(D_law_sign:DefAt K mg "_law_sign" s_law_sign ["_law_way","_law_cell","_law_turn"] f2 fd2)
  (D_law_signs:DefAt K mg "_law_signs" s_law_signs ["_law_script","_law_places","_law_most"] f3 fd3) (D_law_near:DefAt K mg "_law_near" s_law_near ["_law_cell","_law_high","_law_wide"] f4 fd4) (D_law_rows:DefAt K mg "_law_rows" s_law_rows ["_law_signs_here","_law_high","_law_wide"] f5 fd5) (D_law_bent:DefAt K mg "_law_bent" s_law_bent ["_law_rows_here","_law_cell"] f6 fd6) :
  FnOk P w K mg base CX0 3 f fd ["_law_script","_law_high","_law_wide","_law_most"] (spGBoard K):=by
 have G_law_cell_at:FnOk P w K mg base CX0 1 f1 fd1 ["_law_script","_law_k"] (spCell K):=ok_law_cell_at T D_law_cell_at
 have G_law_signs:FnOk P w K mg base CX0 2 f3 fd3 ["_law_script","_law_places","_law_most"] (spGSigns K):=ok_law_signs T D_law_signs D_law_cell_at D_law_sign
 have G_law_rows:FnOk P w K mg base CX0 2 f5 fd5 ["_law_signs_here","_law_high","_law_wide"] spGRows:=ok_law_rows T D_law_rows D_law_near
 have G_law_bent:FnOk P w K mg base CX0 1 f6 fd6 ["_law_rows_here","_law_cell"] spGBent:=ok_law_bent T D_law_bent
 refine D.F.ok sc_law_board (fun vs H Q E h=>?_) (fun cdv A outer s H vs Q E hr h=>?_)
 ·obtain ⟨a,ns,hi,wi,m,rfl,_⟩:=h
  rfl
 ·obtain ⟨a,ns,hi,wi,m,rfl,hS,h1,h8,w1,w8,q⟩:=h
  refine ⟨_,(pss_cons (ps_set (i:=4) sc_law_board.nd rfl (Or.inl rfl) (pe_call G_law_signs (hr.mono (by decide)) (by rfl) D_law_signs.g D_law_signs.F.kp D_law_signs.b .nil pass0 (pa_cons (pv 0) (pa_cons (pe_op op_mulG (pv 1) (pv 2)) (pa_cons (pv 3) pa_nil)))))
   (pss_cons (ps_set (i:=5) sc_law_board.nd rfl (Or.inl rfl) (pe_call G_law_bent (hr.mono (by decide)) (by rfl) D_law_bent.g D_law_bent.F.kp D_law_bent.b .nil pass0 (pa_cons (pe_call G_law_rows (hr.mono (by decide)) (by rfl) D_law_rows.g D_law_rows.F.kp D_law_rows.b .nil pass0 (pa_cons (pv 4) (pa_cons (pv 1) (pa_cons (pv 2) pa_nil)))) (pa_cons (pe_op op_fdivG (pe_call G_law_cell_at (hr.mono (by decide)) (by rfl) D_law_cell_at.g D_law_cell_at.F.kp D_law_cell_at.b .nil pass0 (pa_cons (pv 0) (pa_cons pe_int pa_nil))) pe_int) pa_nil))))
   (pss_cons (ps_set (i:=6) sc_law_board.nd rfl (Or.inl rfl) (pe_op op_add (pe_bm PySem.F.plainAttrs_list PySem.F.slot_list_count PySem.F.type_list_count mt_count (pv 4) (pa_cons pe_str pa_nil)) (pe_ix ix_list (pe_lst (pa_cons pe_int (pa_cons pe_int (pa_cons pe_int (pa_cons pe_int (pa_cons pe_int (pa_cons (pe_un un_neg pe_int) pa_nil))))))) (pe_op op_mod (pe_call G_law_cell_at (hr.mono (by decide)) (by rfl) D_law_cell_at.g D_law_cell_at.F.kp D_law_cell_at.b .nil pass0 (pa_cons (pv 0) (pa_cons pe_int pa_nil))) pe_int) (fun _ _=>rfl))))
   (pss_mid (ps_if (pt_cmpR op_eq (pe_op op_mod (pe_call G_law_cell_at (hr.mono (by decide)) (by rfl) D_law_cell_at.g D_law_cell_at.F.kp D_law_cell_at.b .nil pass0 (pa_cons (pv 0) (pa_cons pe_int pa_nil))) pe_int) pe_int (nomark _)) (pss_one (ps_set (i:=6) sc_law_board.nd rfl (Or.inl rfl) (pe_op op_mod (pe_op op_fdivG (pe_call G_law_cell_at (hr.mono (by decide)) (by rfl) D_law_cell_at.g D_law_cell_at.F.kp D_law_cell_at.b .nil pass0 (pa_cons (pv 0) (pa_cons pe_int pa_nil))) pe_int) pe_int))) pss_nil)
   (pss_one (ps_ret (pe_tup (pa_cons (pv 5) (pa_cons (pe_callB (call_min2 rfl) (by rfl) T.b_min PyProof.Rows.boot_min (pa_cons pe_int (pa_cons (pe_callB (call_max2 rfl) (by rfl) T.b_max PyProof.Rows.boot_max (pa_cons pe_int (pa_cons (pv 6) pa_nil))) pa_nil))) pa_nil))))))))),?_⟩
  have p0:0<=hi * wi:=Int.mul_nonneg (by omega) (by omega)
  have p1:hi * wi<=8 * 8:=Int.mul_le_mul h8 w8 (by omega) (by omega)
  refine ⟨_,rfl,_,rfl,_,rfl,_,_,rfl,rfl,mulL (by omega) (by omega),_,rfl,a,ns,_,_,rfl,hS,p0,by omega,fun l H1 hl hl1 s1=>?_⟩
  have hts:=sgT_signs ns m (hi * wi).toNat
  refine ⟨_,rfl,_,rfl,_,rfl,l,_,hi,wi,rfl,hl1,hts,h1,h8,w1,w8,fun d rs H2 hd hd2 hlen hrow hsh s2=>?_⟩
  have s12:=s1.trans s2
  refine ⟨_,rfl,a,ns,_,rfl,s12.seq hS,by decide,fun c1=>⟨_,_,rfl,rfl,CDivG.small (by decide) (by decide),d,rs,wi.toNat,_,rfl,hd2,by omega,by omega,by omega,by omega,hrow,fun e rs' H3 he3 hlen3 hrow3 hsh3 s3=>?_⟩⟩
  have s13:=s12.trans s3
  have hl3:=s3 _ _ (s2 _ _ hl1)
  refine ⟨_,rfl,.inl ⟨rfl,_,SqL.of hl3⟩,l,_,"o",rfl,rfl,hl3,_,rfl,(by show 6<=sizeLine; decide),fun p hp=>?_⟩
  have s4:=same_new (o:=.lst [.int 0,.int 0,.int 0,.int 0,.int 1,.int (-1)]) hp
  have s14:=s13.trans s4
  refine ⟨_,rfl,a,ns,_,rfl,s14.seq hS,by decide,fun c2=>?_⟩
  have pk:∃ x:Int,atI [V.int 0,V.int 0,V.int 0,V.int 0,V.int 1,V.int (-1)] (c2 % 6)=some (.int x):=by
   have a0:=Int.emod_nonneg c2 (show (6:Int) ≠ 0 by decide)
   have a1:=Int.emod_lt_of_pos c2 (show (0:Int) < 6 by decide)
   have:c2 % 6=0\/c2 % 6=1\/c2 % 6=2\/c2 % 6=3\/c2 % 6=4\/c2 % 6=5:=by omega
   rcases this with e | e | e | e | e | e <;> rw [e] <;> exact ⟨_,rfl⟩
  obtain ⟨x,hx⟩:=pk
  refine ⟨_,_,rfl,rfl,(by show (0:Int) < 6; decide),p,_,_,_,rfl,rfl,SqL.of upd_same,hx,_,_,rfl,rfl,?_⟩
  refine ⟨fun σ' H'=>∃ st:Int,σ'=[some (.ref a),some (.int hi),some (.int wi),some (.int m),some (.ref l),some (.ref e),some (.int st)]/\H'=upd H3 p (.lst [.int 0,.int 0,.int 0,.int 0,.int 1,.int (-1)]),?_,?_⟩
  ·refine ⟨_,rfl,a,ns,_,rfl,s14.seq hS,by decide,fun c3=>⟨_,_,rfl,rfl,(by show (0:Int) < 8; decide),rfl,_,rfl,ite2 (fun _=>?_) (fun _=>?_)⟩⟩
   ·exact ⟨_,rfl,a,ns,_,rfl,s14.seq hS,by decide,fun c4=>⟨_,_,rfl,rfl,CDivG.small (by decide) (by decide),_,_,rfl,rfl,(by show (0:Int) < 65; decide),_,rfl,rfl⟩⟩
   ·exact ⟨_,rfl,rfl⟩
  rintro σ' H4 ⟨st,rfl,rfl⟩
  refine ⟨_,rfl,_,rfl,0,_,rfl,64,_,rfl,(by show 2<=sizeLine; decide),fun o ho=>?_⟩
  exact q o e rs' (stI st) _ (s14.free ho) ⟨upd_same,(same_new ho) _ _ (s4 _ _ he3)⟩ ⟨by omega,by omega,wi.toNat,by omega,by omega,hrow3⟩ (by omega) (fun t ht=>(hrow3 t ht).len) (hsh3 _ _ hsh) (s14.trans (same_new ho))
end
noncomputable def pIn (z:Str)(k:Nat):Bool:=!(Builtin.Str.occurrences z ⟨#[k]⟩ 0 z.length 1).isEmpty
noncomputable def spGCells:Sp:=fun vs H Q _=>∃ (l:Addr) (rs:List Str) (z:Str),vs=[.ref l,.str z]/\H l=some (.lst (rs.map V.str))/\Rows bd.cps.toList rs /\
 ∀ (d:Addr) (ws:List V) (H':Hp),H d=none->H' d=some (.lst ws)->Cel H' ws (Cells.allCs (pIn z) 0 (codes rs))->Same H H'->Q (.ref d) H'
theorem g_eqv:∀ cs ds:List (Nat × Nat),PyData.eqv (.list (cs.map cData)) (.list (ds.map cData))=decide (cs=ds)
 | [],[]=>by simp; rfl
 | [],d :: r=>by
  rw [decide_eq_false (by intro h; cases h)]
  rfl
 | c :: r,[]=>by
  rw [decide_eq_false (by intro h; cases h)]
  rfl
 | c :: r,d :: r'=>by
  have ih:=g_eqv r r'
  show (PyData.eqv (cData c) (cData d) && PyData.eqv (.list (r.map cData)) (.list (r'.map cData)))=_
  rw [cData_eqv,ih]
  by_cases e1:c=d
  ·by_cases e2:r=r'
   ·simp [e1,e2]
   ·simp [e1,e2]
  ·simp [e1]
section
variable {P:Program}{w:World}{K:PySem.W.Frag}{mg:Str->Option Value}{base:Heap}{f:Addr}{fd:FuncData}
theorem sc_law_cells:FnScope ["_law_rows_here","_law_signs_here","_law_found","_law_k"] ["_law_rows_here","_law_signs_here"] (defScope s_law_cells):=⟨rfl,rfl,rfl,by decide +kernel,rfl,by decide +kernel,by decide +kernel⟩
theorem ok_law_cells (T:Txt mg)(D:DefAt K mg "_law_cells" s_law_cells ["_law_rows_here","_law_signs_here"] f fd):FnOk P w K mg base CX0 1 f fd ["_law_rows_here","_law_signs_here"] spGCells:=by
 refine D.F.ok sc_law_cells (fun vs H Q E h=>?_) (fun cdv A outer s H vs Q E hr h=>?_)
 ·obtain ⟨l,rs,z,rfl,_⟩:=h
  rfl
 ·obtain ⟨l,rs,sg,rfl,hl,R,q⟩:=h
  obtain ⟨n,n1,n8,hrow⟩:=R.ex
  have rlo:=R.lo
  have r8:=R.hi
  refine ⟨_,(pss_cons (ps_set (i:=2) sc_law_cells.nd rfl (Or.inl rfl) (pe_lst pa_nil))
   (pss_cons (ps_for PassesOwn.never rfl (pi_range1 (by rfl) T.b_range (pa_cons (pe_callB call_len_seq (by rfl) T.b_len PySem.boot_len (pa_cons (pv 0) pa_nil)) pa_nil)) (pg_name (i:=3) sc_law_cells.nd rfl (Or.inr rfl)) (pss_one (ps_expr (pe_bm PySem.F.plainAttrs_list PySem.F.slot_list_extend PySem.F.type_list_extend mt_extend (pv 2) (pa_cons (pe_comp (N:=["_law_j","_law_k","_law_signs_here","_law_rows_here"]) (src:=[none,some 3,some 1,some 0]) (CompOk.free (O:=(defScope s_law_cells).names) (XN:=["_law_rows_here","_law_signs_here","_law_found","_law_k"]) rfl rfl ⟨_,rfl⟩ rfl rfl (by decide +kernel) (by decide +kernel) (by decide +kernel) rfl (by decide +kernel)) rfl (pi_range1 (by rfl) T.b_range (pa_cons (pe_callB call_len_str (by rfl) T.b_len PySem.boot_len (pa_cons (pe_ix ix_list (pv 0) (pv 3) (fun _ _=>rfl)) pa_nil)) pa_nil)) (fun _ _ _ _ _=>(pg_name (i:=0) (by show List.Nodup (["_law_j","_law_k","_law_signs_here","_law_rows_here"]:List Str); decide +kernel) rfl (Or.inl rfl))) (fun _ _ _ _ _=>(pifs_one (pt_cmpR op_in_str (pe_ix ix_str (pe_ix (ix_listK (K:=K) (by rfl)) (pv 3) (pv 1) (fun _ _=>rfl)) (pv 0) (fun _ _=>rfl)) (pv 2) (by rfl)))) (fun _ _ _ _ _=>(pe_tup (pa_cons (pv 1) (pa_cons (pv 0) pa_nil))))) pa_nil)))))
   (pss_one (ps_ret (pv 2))))),?_⟩
  refine ⟨(by show 0<=sizeLine; decide),fun sp hsp=>?_⟩
  have s0:Same H (upd H sp (.lst [])):=same_new hsp
  have rl:(rs.map V.str).length=rs.length:=List.length_map _
  have hat:∀ {i:Nat} {t:Str},rs[i]?=some t->(rs.map V.str)[i]?=some (V.str t):=fun h=>by rw [List.getElem?_map,h]; rfl
  refine ⟨_,rfl,l,_,rfl,.inl (SqL.of (s0 _ _ hl)),_,rfl,by omega,by omega,?_⟩
  rw [Int.toNat_natCast,rl]
  refine for_range (lo:=0) (n:=rs.length) (fun i σ H'=>∃ (v3:Option V) (ws:List V),σ=[some (.ref l),some (.str sg),some (.ref sp),v3]/\Same H H'/\H' sp=some (.lst ws)/\Cel H' ws (Cells.allCs (pIn sg) 0 ((codes rs).take i))) ⟨_,[],rfl,s0,upd_same,.nil⟩ ?_ ?_
  ·rintro i σ H1 hi ⟨v3,ws,rfl,s1,hp1,hc1⟩
   obtain ⟨t,ht⟩:∃ t,rs[i]?=some t:=⟨_,List.getElem?_eq_getElem hi⟩
   have tm:=List.mem_of_getElem? ht
   have tl:t.cps.toList.length=n:=by
    rw [Array.length_toList]
    exact (hrow t tm).len
   have tl2:t.length=n:=(hrow t tm).len
   refine ⟨_,rfl,.inl ⟨rfl,_,SqL.of hp1⟩,_,rfl,_,rfl,l,_,_,.str t,rfl,rfl,SqL.of (s1 _ _ hl),atI_lt (by omega) (by rw [show ((0:Int) + (i:Int)).toNat=i by omega]; exact hat ht),t,rfl,R.tlen ht,_,rfl,?_,?_,fun z hz=>?_⟩
   ·show -(2 ^ 62)<=((t.length:Nat):Int)
    omega
   ·show ((t.length:Nat):Int) < 2 ^ 62
    omega
   rw [Int.toNat_natCast,tl2]
   refine comp_range (lo:=0) (n:=n) (fun j σ' H'=>∃ (u0:Option V) (ys:List V),σ'=[u0,some (.int (0 + (i:Int))),some (.str sg),some (.ref l)]/\Same H1 H'/\H' z=some (.lst ys)/\Cel H' ys (Cells.rowCs (pIn sg) i 0 (t.cps.toList.take j))) ⟨_,[],rfl,same_new hz,upd_same,.nil⟩ ?_ ?_
   ·rintro j σ' H2 hj ⟨u0,ys,rfl,s2,hz2,hc2⟩
    obtain ⟨k,hk⟩:∃ k,t.cps.toList[j]?=some k:=⟨_,List.getElem?_eq_getElem (by omega)⟩
    have st:=Cells.rowCs_step (p:=pIn sg) (i:=i) hk
    refine ⟨_,rfl,_,rfl,l,_,_,.str t,rfl,rfl,SqL.of (s2 _ _ (s1 _ _ hl)),atI_lt (by omega) (by rw [show ((0:Int) + (i:Int)).toNat=i by omega]; exact hat ht),_,rfl,t,_,k,rfl,rfl,R.tlen ht,atI_lt (by omega) (by rw [show ((0:Int) + (j:Int)).toNat=j by omega]; exact hk),_,rfl,_,_,rfl,rfl,_,rfl,?_⟩
    have hlen:ys.length<=8:=by
     rw [hc2.length]
     have:=Cells.rowCs_length (pIn sg) i 0 (t.cps.toList.take j)
     rw [List.length_take] at this
     omega
    refine ite2 (fun kd=>?_) (fun kd=>?_)
    ·rw [if_pos (show pIn sg k=true from kd)] at st
     refine ⟨_,rfl,_,rfl,(by show 2<=sizeLine; decide),fun p hp=>?_⟩
     have s3:=same_new (o:=.tup [.int (0 + (i:Int)),.int (0 + (j:Int))]) hp
     refine ⟨_,s3 _ _ hz2,Nat.lt_of_le_of_lt hlen (by decide),_,ys++[.ref p],rfl,fun b o e=>?_,upd_same,?_⟩
     ·rw [upd_ne (ne_of_none e hz)]
      exact s3 _ _ (s2 _ _ e)
     ·rw [st]
      refine Cel.into z _ (s3 _ _ hz2) (Cel.snoc (Cel.mono s3 hc2) ⟨p,rfl,?_⟩)
      rw [upd_same,Int.zero_add,Int.zero_add]
    ·rw [if_neg (show ¬ pIn sg k=true from kd),List.append_nil] at st
     refine ⟨_,ys,rfl,s2,hz2,?_⟩
     rw [st]
     exact hc2
   ·rintro σ' H2 ⟨u0,ys,rfl,s2,hz2,hc2⟩
    have hp2:=s2 _ _ hp1
    rw [List.take_of_length_le (l:=t.cps.toList) (by omega)] at hc2
    refine ⟨sp,z,_,_,rfl,rfl,hp2,hz2,?_,?_⟩
    ·rw [hc1.length,hc2.length]
     have a1:=Cells.rowCs_length (pIn sg) i 0 t.cps.toList
     have a2:=Cells.allCs_length (pIn sg) 0 ((codes rs).take i) fun u hu=>R.short u (List.mem_of_mem_take hu)
     rw [List.length_take] at a2
     exact Nat.le_trans (show _<=1000 by omega) (by decide)
    refine ⟨_,ws++ys,rfl,fun b o e=>?_,upd_same,?_⟩
    ·rw [upd_ne (ne_of_none e hsp)]
     exact s2 _ _ (s1 _ _ e)
    ·rw [Cells.allCs_step (codes_get ht)]
     exact Cel.into sp _ hp2 (Cel.append (Cel.mono s2 hc1) hc2)
  ·rintro σ H1 ⟨v3,ws,rfl,s1,hp1,hc1⟩
   rw [List.take_of_length_le (by rw [codes_len]; exact Nat.le_refl _)] at hc1
   exact ⟨_,rfl,q sp ws H1 hsp hp1 hc1 s1⟩
end
noncomputable def tt1 (_:Nat):Bool:=true
noncomputable def nearG (gs:List (List Nat))(i j:Nat):List (Nat × Nat):=(Cells.allCs tt1 0 gs).filter fun x=>Cells.near x (i,j)
noncomputable def spGNearX:Sp:=fun vs H Q _=>∃ (ca:Addr) (i j:Nat) (gs:List (List Nat)) (n:Nat),vs=[.ref ca,.int (gs.length:Nat),.int (n:Nat)]/\H ca=some (.tup [.int (i:Nat),.int (j:Nat)])/\gs.length<=8/\n<=8/\i < 64/\j < 64/\(∀ u ∈ gs,u.length=n) /\
 ∀ (d:Addr) (ws:List V) (H':Hp),H d=none->H' d=some (.lst ws)->Cel H' ws (nearG gs i j)->Same H H'->Q (.ref d) H'
theorem g_max (i:Nat):(if (i:Int) - 1 > 0 then (i:Int) - 1 else 0)=((i - 1:Nat):Int):=by
 split <;> omega
theorem g_min (i m:Nat):(if (i:Int) + 2 < ((m:Nat):Int) then (i:Int) + 2 else ((m:Nat):Int))=((min (i + 2) m:Nat):Int):=by
 split <;> omega
theorem g_snoc {f:Nat × Nat->Bool}{l:List (Nat × Nat)}{x:Nat × Nat}(a:Bool):(l++(if a=true then [x] else [])).filter f=l.filter f++(if (a && f x)=true then [x] else []):=by
 rw [List.filter_append]
 congr 1
 by_cases h:a=true
 ·by_cases h2:f x=true
  ·simp [h,h2]
  ·simp [h,h2]
 ·simp [h]
section
variable {P:Program}{w:World}{K:PySem.W.Frag}{mg:Str->Option Value}{base:Heap}{f:Addr}{fd:FuncData}
theorem ok_law_nearX (T:Txt mg)(D:DefAt K mg "_law_near" s_law_near ["_law_cell","_law_high","_law_wide"] f fd):FnOk P w K mg base CX0 1 f fd ["_law_cell","_law_high","_law_wide"] spGNearX:=by
 refine D.F.ok sc_law_near (fun vs H Q E h=>?_) (fun cdv A outer s H vs Q E hr h=>?_)
 ·obtain ⟨ca,i,j,gs,n,rfl,_⟩:=h
  rfl
 ·obtain ⟨ca,i,j,gs,n,rfl,hca,h8,w8,i64,j64,hgs,q⟩:=h
  refine ⟨_,(pss_cons (ps_set (i:=3) sc_law_near.nd rfl (Or.inl rfl) (pe_lst pa_nil))
   (pss_cons (ps_for PassesOwn.never rfl (pi_range2 (by rfl) T.b_range (pa_cons (pe_callB (call_max2 rfl) (by rfl) T.b_max PyProof.Rows.boot_max (pa_cons pe_int (pa_cons (pe_op op_sub (pe_ix ix_tup (pv 0) pe_int (fun _ _=>rfl)) pe_int) pa_nil))) (pa_cons (pe_callB (call_min2 rfl) (by rfl) T.b_min PyProof.Rows.boot_min (pa_cons (pv 1) (pa_cons (pe_op op_add (pe_ix ix_tup (pv 0) pe_int (fun _ _=>rfl)) pe_int) pa_nil))) pa_nil))) (pg_name (i:=4) sc_law_near.nd rfl (Or.inl rfl)) (pss_one (ps_for PassesOwn.never rfl (pi_range2 (by rfl) T.b_range (pa_cons (pe_callB (call_max2 rfl) (by rfl) T.b_max PyProof.Rows.boot_max (pa_cons pe_int (pa_cons (pe_op op_sub (pe_ix ix_tup (pv 0) pe_int (fun _ _=>rfl)) pe_int) pa_nil))) (pa_cons (pe_callB (call_min2 rfl) (by rfl) T.b_min PyProof.Rows.boot_min (pa_cons (pv 2) (pa_cons (pe_op op_add (pe_ix ix_tup (pv 0) pe_int (fun _ _=>rfl)) pe_int) pa_nil))) pa_nil))) (pg_name (i:=5) sc_law_near.nd rfl (Or.inl rfl)) (pss_one (ps_if (pt_cmpR (op_ne_deep hr.units) (pe_tup (pa_cons (pv 4) (pa_cons (pv 5) pa_nil))) (pv 0) (nomark _)) (pss_one (ps_expr (pe_bm PySem.F.plainAttrs_list PySem.F.slot_list_append PySem.F.type_list_append mt_append (pv 3) (pa_cons (pe_tup (pa_cons (pv 4) (pa_cons (pv 5) pa_nil))) pa_nil)))) pss_nil)))))
   (pss_one (ps_ret (pv 3))))),?_⟩
  refine ⟨(by show 0<=sizeLine; decide),fun d hd=>?_⟩
  have s0:Same H (upd H d (.lst [])):=same_new hd
  refine ⟨_,rfl,ca,_,0,_,rfl,rfl,SqT.of (s0 _ _ hca),rfl,_,_,rfl,rfl,0,_,rfl,_,rfl,_,rfl,ca,_,0,_,rfl,rfl,SqT.of (s0 _ _ hca),rfl,_,_,rfl,rfl,_,_,rfl,((i - 1:Nat):Int),((min (i + 2) gs.length:Nat):Int),?_,⟨by omega,by omega,by omega,by omega⟩,?_⟩
  ·show [V.int (if (i:Int) - 1 > 0 then (i:Int) - 1 else 0),V.int (if (i:Int) + 2 < ((gs.length:Nat):Int) then (i:Int) + 2 else ((gs.length:Nat):Int))]=_
   rw [g_max,g_min]
  refine for_range (lo:=((i - 1:Nat):Int)) (fun k σ H'=>∃ (v4 v5:Option V) (ws:List V),σ=[some (.ref ca),some (.int (gs.length:Nat)),some (.int (n:Nat)),some (.ref d),v4,v5]/\Same H H'/\H' d=some (.lst ws)/\Cel H' ws ((Cells.allCs tt1 0 (gs.take (i - 1 + k))).filter fun x=>Cells.near x (i,j)))
   ⟨_,_,[],rfl,s0,upd_same,?_⟩ ?_ ?_
  ·rw [Cells.rows_low]
   ·exact .nil
   ·intro r c hr'
    rw [Bool.eq_false_iff,ne_eq,Cells.near_iff]
    rintro ⟨⟨_,h2⟩,_⟩
    dsimp only at h2
    omega
  ·rintro k σ H1 hk ⟨v4,v5,ws,rfl,s1,hd1,hc1⟩
   have hrl:i - 1 + k < gs.length:=by omega
   have ecast:((i - 1:Nat):Int) + (k:Nat)=((i - 1 + k:Nat):Int):=by omega
   rw [ecast]
   generalize hr0:i - 1 + k=r at *
   obtain ⟨t,ht⟩:∃ t,gs[r]?=some t:=⟨_,List.getElem?_eq_getElem hrl⟩
   have tl:t.length=n:=hgs t (List.mem_of_getElem? ht)
   refine ⟨_,rfl,ca,_,1,_,rfl,rfl,SqT.of (s1 _ _ hca),rfl,_,_,rfl,rfl,0,_,rfl,_,rfl,_,rfl,ca,_,1,_,rfl,rfl,SqT.of (s1 _ _ hca),rfl,_,_,rfl,rfl,_,_,rfl,((j - 1:Nat):Int),((min (j + 2) n:Nat):Int),?_,⟨by omega,by omega,by omega,by omega⟩,?_⟩
   ·show [V.int (if (j:Int) - 1 > 0 then (j:Int) - 1 else 0),V.int (if (j:Int) + 2 < ((n:Nat):Int) then (j:Int) + 2 else ((n:Nat):Int))]=_
    rw [g_max,g_min]
   refine for_range (lo:=((j - 1:Nat):Int)) (fun m σ H'=>∃ (v5:Option V) (ws:List V),σ=[some (.ref ca),some (.int (gs.length:Nat)),some (.int (n:Nat)),some (.ref d),some (.int (r:Nat)),v5]/\Same H H'/\H' d=some (.lst ws)/\Cel H' ws ((Cells.allCs tt1 0 (gs.take r)).filter (fun x=>Cells.near x (i,j))++(Cells.rowCs tt1 r 0 (t.take (j - 1 + m))).filter fun x=>Cells.near x (i,j)))
    ⟨_,ws,rfl,s1,hd1,?_⟩ ?_ ?_
   ·rw [Cells.cols_low (t:=t),List.append_nil]
    ·exact hc1
    ·intro c hc'
     rw [Bool.eq_false_iff,ne_eq,Cells.near_iff]
     rintro ⟨_,⟨_,h2⟩,_⟩
     dsimp only at h2
     omega
   ·rintro m σ H2 hm ⟨v5,ws2,rfl,s2,hd2,hc2⟩
    have hcl:j - 1 + m < t.length:=by omega
    have ecast2:((j - 1:Nat):Int) + (m:Nat)=((j - 1 + m:Nat):Int):=by omega
    rw [ecast2]
    generalize hc0:j - 1 + m=c at *
    have hc0':j - 1 + (m + 1)=c + 1:=by omega
    obtain ⟨k0,hk0⟩:∃ k0,t[c]?=some k0:=⟨_,List.getElem?_eq_getElem hcl⟩
    have step:=Cells.rowCs_step (p:=tt1) (i:=r) hk0
    have step2:(Cells.rowCs tt1 r 0 (t.take (c + 1))).filter (fun x=>Cells.near x (i,j))=(Cells.rowCs tt1 r 0 (t.take c)).filter (fun x=>Cells.near x (i,j))++(if (tt1 k0 && Cells.near (r,c) (i,j))=true then [(r,c)] else []):=by
     rw [step,g_snoc]
    have nr:Cells.near (r,c) (i,j)=!decide ((r,c)=(i,j)):=by
     rw [Bool.eq_iff_iff,Cells.near_iff]
     simp only [Bool.not_eq_true',decide_eq_false_iff_not]
     constructor
     ·exact fun h=>h.2.2
     ·intro h
      refine ⟨⟨?_,?_⟩,⟨?_,?_⟩,h⟩ <;> (try dsimp only) <;> omega
    refine ⟨_,rfl,_,rfl,(by show 2<=sizeLine; decide),fun tp htp=>?_⟩
    have s3:=same_new (o:=.tup [.int (r:Nat),.int (c:Nat)]) htp
    refine ⟨_,rfl,cData (r,c),cData (i,j),CelR.rdv ⟨tp,rfl,upd_same⟩,CelR.rdv ⟨ca,rfl,s3 _ _ (s2 _ _ hca)⟩,cData_cmp _ _,_,rfl,?_⟩
    have ee:(if true=true then !PyData.eqv (cData (r,c)) (cData (i,j)) else PyData.eqv (cData (r,c)) (cData (i,j)))=(tt1 k0 && Cells.near (r,c) (i,j)):=by
     show (!PyData.eqv _ _)=_
     rw [cData_eqv,nr]
     rfl
    rw [ee]
    rw [hc0']
    have hlen:ws2.length<=1000:=by
     rw [hc2.length,List.length_append]
     have a1:=List.length_filter_le (fun x=>Cells.near x (i,j)) (Cells.allCs tt1 0 (gs.take r))
     have a2:=List.length_filter_le (fun x=>Cells.near x (i,j)) (Cells.rowCs tt1 r 0 (t.take c))
     have a3:=Cells.rowCs_length tt1 r 0 (t.take c)
     have a4:=Cells.allCs_length tt1 0 (gs.take r) fun u hu=>by
      rw [hgs u (List.mem_of_mem_take hu)]
      exact w8
     rw [List.length_take] at a3 a4
     omega
    by_cases hp:(tt1 k0 && Cells.near (r,c) (i,j))=true
    ·rw [if_pos hp] at step2
     refine iteP hp ?_
     refine ⟨_,rfl,.inl ⟨rfl,_,SqL.of (s3 _ _ hd2)⟩,_,rfl,_,rfl,(by show 2<=sizeLine; decide),fun tq htq=>?_⟩
     have s4:=same_new (o:=.tup [.int (r:Nat),.int (c:Nat)]) htq
     have s34:=s3.trans s4
     refine ⟨d,_,_,rfl,rfl,s34 _ _ hd2,Nat.lt_of_le_of_lt hlen (by decide),?_⟩
     refine ⟨_,ws2++[.ref tq],rfl,fun b' o e'=>?_,upd_same,?_⟩
     ·rw [upd_ne (ne_of_none e' hd)]
      exact s34 _ _ (s2 _ _ e')
     ·rw [step2,<- List.append_assoc]
      exact Cel.into d _ (s34 _ _ hd2) (Cel.snoc (Cel.mono s34 hc2) ⟨tq,rfl,upd_same⟩)
    ·rw [if_neg hp,List.append_nil] at step2
     refine iteN (by simpa using hp) ⟨_,ws2,rfl,s2.trans s3,s3 _ _ hd2,?_⟩
     rw [step2]
     exact Cel.mono s3 hc2
   ·rintro σ H2 ⟨v5,ws2,rfl,s2,hd2,hc2⟩
    refine ⟨_,_,ws2,rfl,s2,hd2,?_⟩
    have e:i - 1 + (k + 1)=r + 1:=by omega
    rw [e,Cells.allCs_step ht,List.filter_append]
    have e2:(Cells.rowCs tt1 r 0 (t.take (j - 1 + (((min (j + 2) n:Nat):Int) - ((j - 1:Nat):Int)).toNat))).filter (fun x=>Cells.near x (i,j))=(Cells.rowCs tt1 r 0 t).filter fun x=>Cells.near x (i,j):=by
     by_cases c1:j - 1 < min (j + 2) n
     ·rw [show j - 1 + (((min (j + 2) n:Nat):Int) - ((j - 1:Nat):Int)).toNat=min (j + 2) n by omega]
      by_cases c2:j + 2<=n
      ·rw [Nat.min_eq_left c2]
       refine Cells.cols_high fun c hc=>?_
       rw [Bool.eq_false_iff,ne_eq,Cells.near_iff]
       rintro ⟨_,⟨h2,_⟩,_⟩
       dsimp only at h2
       omega
      ·rw [Nat.min_eq_right (by omega),List.take_of_length_le (by omega)]
     ·rw [List.take_of_length_le (by omega)]
    rw [<- e2]
    exact hc2
  ·rintro σ H1 ⟨v4,v5,ws,rfl,s1,hd1,hc1⟩
   refine ⟨_,rfl,q d ws H1 hd hd1 ?_ s1⟩
   have e2:(Cells.allCs tt1 0 (gs.take (i - 1 + (((min (i + 2) gs.length:Nat):Int) - ((i - 1:Nat):Int)).toNat))).filter (fun x=>Cells.near x (i,j))=nearG gs i j:=by
    unfold nearG
    by_cases c1:i - 1 < min (i + 2) gs.length
    ·rw [show i - 1 + (((min (i + 2) gs.length:Nat):Int) - ((i - 1:Nat):Int)).toNat=min (i + 2) gs.length by omega]
     by_cases c2:i + 2<=gs.length
     ·rw [Nat.min_eq_left c2]
      refine Cells.rows_high fun r c hc=>?_
      rw [Bool.eq_false_iff,ne_eq,Cells.near_iff]
      rintro ⟨⟨h2,_⟩,_⟩
      dsimp only at h2
      omega
     ·rw [Nat.min_eq_right (by omega),List.take_of_length_le (Nat.le_refl _)]
    ·rw [List.take_of_length_le (by omega)]
   rw [<- e2]
   exact hc1
end
theorem near_around {rs:List Str}(i j:Nat):(nearG (codes rs) i j).filter (fun x=>pCell (Cells.sgn (codes rs) x))=aroundC rs (i,j):=by
 unfold nearG aroundC
 rw [List.filter_filter]
 have e:(Cells.allCs tt1 0 (codes rs)).filter (fun x=>pCell (Cells.sgn (codes rs) x))=Cells.allCs pCell 0 (codes rs):=by
  rw [Cells.all_filter]
  exact Cells.allCs_congr (fun c=>by show (true && pCell c)=pCell c; rfl) 0 _
 rw [<- e,List.filter_filter]
 congr 1
 funext x
 exact Bool.and_comm _ _
noncomputable def spGAround (g:List Str->Nat × Nat->List (Nat × Nat)):Sp:=fun vs H Q _=>∃ (l ca:Addr) (rs:List Str) (c:Nat × Nat),vs=[.ref l,.ref ca]/\H l=some (.lst (rs.map V.str))/\Rows bd.cps.toList rs/\H ca=some (.tup [.int (c.1:Nat),.int (c.2:Nat)])/\c.1 < 64/\c.2 < 64 /\
 ∀ (d:Addr) (ws:List V) (H':Hp),H d=none->H' d=some (.lst ws)->Cel H' ws (g rs c)->Same H H'->Q (.ref d) H'
section
variable {P:Program}{w:World}{K:PySem.W.Frag}{mg:Str->Option Value}{base:Heap}{f:Addr}{fd:FuncData}
theorem sc_law_around:FnScope ["_law_rows_here","_law_cell","_law_some"] ["_law_rows_here","_law_cell"] (defScope s_law_around):=⟨rfl,rfl,rfl,by decide +kernel,rfl,by decide +kernel,by decide +kernel⟩
theorem ok_law_around {f1:Addr}{fd1:FuncData}(T:Txt mg)(D:DefAt K mg "_law_around" s_law_around ["_law_rows_here","_law_cell"] f fd)(D_law_near:DefAt K mg "_law_near" s_law_near ["_law_cell","_law_high","_law_wide"] f1 fd1):FnOk P w K mg base CX0 2 f fd ["_law_rows_here","_law_cell"] (spGAround aroundC):=by
 have G_law_near:FnOk P w K mg base CX0 1 f1 fd1 ["_law_cell","_law_high","_law_wide"] spGNearX:=ok_law_nearX T D_law_near
 refine D.F.ok sc_law_around (fun vs H Q E h=>?_) (fun cdv A outer s H vs Q E hr h=>?_)
 ·obtain ⟨l,ca,rs,c,rfl,_⟩:=h
  rfl
 ·obtain ⟨l,ca,rs,c,rfl,hl,R,hca,i64,j64,q⟩:=h
  obtain ⟨n,n1,n8,hrow⟩:=R.ex
  have rlo:=R.lo
  have rhi:=R.hi
  obtain ⟨t0,ht0⟩:∃ t0,rs[0]?=some t0:=⟨_,List.getElem?_eq_getElem (by omega)⟩
  have e0:t0.length=n:=(hrow t0 (List.mem_of_getElem? ht0)).len
  refine ⟨_,(pss_cons (ps_set (i:=2) sc_law_around.nd rfl (Or.inl rfl) (pe_call G_law_near (hr.mono (by decide)) (by rfl) D_law_near.g D_law_near.F.kp D_law_near.b .nil pass0 (pa_cons (pv 1) (pa_cons (pe_callB call_len_seq (by rfl) T.b_len PySem.boot_len (pa_cons (pv 0) pa_nil)) (pa_cons (pe_callB call_len_str (by rfl) T.b_len PySem.boot_len (pa_cons (pe_ix ix_list (pv 0) pe_int (fun _ _=>rfl)) pa_nil)) pa_nil)))))
   (pss_one (ps_ret (pe_comp (N:=["_law_one","_law_rows_here"]) (src:=[none,some 0]) (CompOk.free (O:=(defScope s_law_around).names) (XN:=["_law_rows_here","_law_cell","_law_some"]) rfl rfl ⟨_,rfl⟩ rfl rfl (by decide +kernel) (by decide +kernel) (by decide +kernel) rfl (by decide +kernel)) rfl (pi_list (pv 2)) (fun _ _ _ _ _=>(pg_name (i:=0) (by show List.Nodup (["_law_one","_law_rows_here"]:List Str); decide +kernel) rfl (Or.inl rfl))) (fun _ _ _ _ _=>(pifs_one (pt_cmpR op_ne (pe_ix ix_str (pe_ix (ix_listK (K:=K) (by rfl)) (pv 1) (pe_ix (ix_tupK (K:=K) (by rfl)) (pv 0) pe_int (fun _ _=>rfl)) (fun _ _=>rfl)) (pe_ix (ix_tupK (K:=K) (by rfl)) (pv 0) pe_int (fun _ _=>rfl)) (fun _ _=>rfl)) pe_str (nomark _)))) (fun _ _ _ _ _=>(pv 0)))))),?_⟩
  refine ⟨_,rfl,_,rfl,l,_,rfl,.inl (SqL.of hl),_,rfl,l,_,_,.str t0,rfl,rfl,SqL.of hl,atI_lt (by decide) (by rw [List.getElem?_map]; show Option.map V.str rs[0]?=_; rw [ht0]; rfl),t0,rfl,R.tlen ht0,ca,c.1,c.2,codes rs,n,?_,hca,?_,n8,i64,j64,?_,fun d ws H1 hd hd1 hc1 s1=>?_⟩
  ·show [V.ref ca,V.int (((rs.map V.str).length:Nat):Int),V.int ((t0.length:Nat):Int)]=_
   rw [List.length_map,codes_len,e0]
  ·rw [codes_len]
   exact rhi
  ·intro u hu
   obtain ⟨t,ht,rfl⟩:=List.mem_map.mp hu
   rw [Array.length_toList]
   exact (hrow t ht).len
  refine ⟨_,rfl,d,rfl,⟨_,SqL.of hd1⟩,fun z hz=>?_⟩
  have hsh:(nearG (codes rs) c.1 c.2).length<=64:=Nat.le_trans (List.length_filter_le _ _) (all_short R)
  refine comp_data (K:=K) (a:=d) (xs:=ws) (fun a=>a ≠ z) ((nearG (codes rs) c.1 c.2).map fun x=>if pCell (Cells.sgn (codes rs) x)=true then some (cData x) else none) (fun σ=>∃ u0,σ=[u0,some (.ref l)]) hz (fun _ h=>h) ⟨_,rfl⟩ (by rw [List.length_map]; exact hc1.length.symm) (by rw [hc1.length]; exact Nat.le_trans hsh (by decide)) (SqL.of hd1) ?_ ?_
  ·rintro k x o σ H2 hx ho s2 _ ⟨u0,rfl⟩ Y Z yes no
   obtain ⟨y,hy,r1⟩:=Cel.get hc1 hx
   have eo:=map_at hy ho
   obtain ⟨t,sg,ht,hj,_,es⟩:=cell_at_board (List.mem_filter.mp (List.mem_of_getElem? hy)).1
   obtain ⟨ya,rfl,hya⟩:=r1
   have hya2:=s2 _ _ hya
   refine ⟨_,rfl,_,rfl,ya,_,0,_,rfl,rfl,SqT.of hya2,rfl,l,_,_,.str t,rfl,rfl,SqL.of (s2 _ _ (s1 _ _ hl)),atI_nat (by rw [List.getElem?_map,ht]; rfl),_,rfl,ya,_,1,_,rfl,rfl,SqT.of hya2,rfl,t,_,sg,rfl,rfl,R.tlen ht,atI_nat hj,rfl,_,rfl,?_⟩
   have ed:(!decide (V.str ⟨#[sg]⟩=V.str "#"))=pCell sg:=by
    rw [hash_is]
    simp only [one_eq]
    rfl
   rw [ed]
   rw [es] at eo
   by_cases hp:pCell sg=true
   ·rw [if_pos hp] at eo
    exact iteP hp ⟨_,rfl,yes _ _ _ _ eo ⟨_,rfl⟩ (Same.refl _) (CelR.rdn ⟨ya,rfl,hya2⟩)⟩
   ·rw [if_neg hp] at eo
    exact iteN (by simpa using hp) (no _ _ eo ⟨_,rfl⟩ (Same.refl _))
  ·rintro ys H2 s2 hz2 hr2
   rw [outs_filter,near_around] at hr2
   exact q z ys H2 (s1.free hz) hz2 (RdnAll.cel hr2) (s1.trans s2)
end
noncomputable def numC (rs:List Str)(part:List (Nat × Nat)):List (Nat × Nat):=(openC rs).filter fun o=>((aroundC rs o).map fun z=>part.any fun x=>decide (x=z)).any id
noncomputable def spNums:Sp:=fun vs H Q _=>∃ (a l pa:Addr) (rs:List Str) (n:Int) (ps:List V) (part:List (Nat × Nat)),vs=[.ref a,.ref pa]/\BoardAt H a l rs n/\Rows bd.cps.toList rs/\H pa=some (.lst ps)/\Cel H ps part /\
 ∀ (d:Addr) (ws:List V) (H':Hp),H d=none->H' d=some (.lst ws)->Cel H' ws (numC rs part)->Same H H'->Q (.ref d) H'
section
variable {P:Program}{w:World}{K:PySem.W.Frag}{mg:Str->Option Value}{base:Heap}{f:Addr}{fd:FuncData}
theorem sc_numbers_of:FnScope ["board","part"] ["board","part"] (defScope s_numbers_of):=⟨rfl,rfl,rfl,by decide +kernel,rfl,by decide +kernel,by decide +kernel⟩
theorem ok_numbers_of {f1 f2 f3 f5:Addr}{fd1 fd2 fd3 fd5:FuncData}(T:Txt mg)(D:DefAt K mg "numbers_of" s_numbers_of ["board","part"] f fd)(D_around:DefAt K mg "around" s_around ["board","cell"] f1 fd1)(D_sign_at:DefAt K mg "sign_at" s_sign_at ["board","cell"] f2 fd2)
  (D_cells_of:DefAt K mg "cells_of" s_cells_of ["board"] f3 fd3) (D_open_cells:DefAt K mg "open_cells" s_open_cells ["board"] f5 fd5):FnOk P w K mg base CX0 3 f fd ["board","part"] spNums:=by
 have G_around:FnOk P w K mg base CX0 1 f1 fd1 ["board","cell"] spAround:=ok_around T D_around
 have G_open_cells:FnOk P w K mg base CX0 2 f5 fd5 ["board"] (spList pOpen):=ok_open_cells T D_open_cells D_cells_of D_sign_at
 refine D.F.ok sc_numbers_of (fun vs H Q E h=>?_) (fun cdv A outer s H vs Q E hr h=>?_)
 ·obtain ⟨a,l,pa,rs,n,ps,part,rfl,_⟩:=h
  rfl
 ·obtain ⟨a,l,pa,rs,n,ps,part,rfl,b,R,hpa,hpt,q⟩:=h
  refine ⟨_,(pss_one (ps_ret (pe_comp (N:=["cell","part","board"]) (src:=[none,some 1,some 0]) (CompOk.free (O:=(defScope s_numbers_of).names) (XN:=["board","part"]) rfl rfl ⟨_,rfl⟩ rfl rfl (by decide +kernel) (by decide +kernel) (by decide +kernel) rfl (by decide +kernel)) rfl (pi_list (pe_call G_open_cells (hr.mono (by decide)) (by rfl) D_open_cells.g D_open_cells.F.kp D_open_cells.b .nil pass0 (pa_cons (pv 0) pa_nil))) (fun _ _ _ _ _=>(pg_name (i:=0) (by show List.Nodup (["cell","part","board"]:List Str); decide +kernel) rfl (Or.inl rfl))) (fun _ _ _ _ _=>(pifs_one (pt_truthK (K:=K) (by rfl) (pe_callB (call_anyK (K:=K) (by rfl) (by rfl)) (by rfl) T.b_any PyProof.Rows.boot_any (pa_cons (pe_comp (N:=["place","part"]) (src:=[none,some 1]) (CompOk.byRfl rfl (by decide +kernel) (by decide +kernel) (by rfl) rfl (by rfl)) (by rfl) (pi_listK (K:=K) (by rfl) (pe_call G_around (hr.mono (by decide)) (by rfl) D_around.g D_around.F.kp D_around.b .nil pass0 (pa_cons (pv 2) (pa_cons (pv 0) pa_nil)))) (fun _ _ _ _ _=>(pg_name (i:=0) (by show List.Nodup (["place","part"]:List Str); decide +kernel) rfl (Or.inl rfl))) (fun _ _ _ _ _=>pifs_nil) (fun _ _ _ _ _=>(pe_cmpR (op_in_deepK (K:=K) (by rfl) hr.units) (pv 0) (pv 1) (by rfl)))) pa_nil)) (fun _=>rfl)))) (fun _ _ _ _ _=>(pv 0))))),?_⟩
  refine ⟨_,rfl,a,l,rs,n,rfl,b,R,fun d ws H1 hd hd1 hc1 s1=>⟨d,rfl,⟨_,SqL.of hd1⟩,fun z hz=>?_⟩⟩
  have b1:=b.mono s1
  refine comp_data (K:=K) (a:=d) (xs:=ws) (fun a=>a ≠ z) ((openC rs).map fun o=>if (((aroundC rs o).map fun z=>part.any fun x=>decide (x=z)).any id)=true then some (cData o) else none) (fun σ=>∃ u0,σ=[u0,some (.ref pa),some (.ref a)]) hz (fun _ h=>h) ⟨_,rfl⟩ (by rw [List.length_map]; exact hc1.length.symm) (by rw [hc1.length]; exact Nat.le_trans (all_short R) (by decide)) (SqL.of hd1) ?_ ?_
  ·rintro k x o σ H2 hx ho s2 hzn ⟨u0,rfl⟩ Y Z yes no
   obtain ⟨y,hy,r1⟩:=Cel.get hc1 hx
   have eo:=map_at hy ho
   obtain ⟨t,sg,ht,hj,_,es⟩:=cell_at_board (List.mem_of_getElem? hy)
   obtain ⟨ya,rfl,hya⟩:=r1
   obtain ⟨l1,l2⟩:=cell_small R ht hj
   refine ⟨_,rfl,_,rfl,a,l,ya,rs,n,y.1,y.2,rfl,b1.mono s2,R,s2 _ _ hya,l1,l2,fun d2 ws2 H3 hd2 hd3 hc2 s3=>⟨d2,rfl,⟨_,SqL.of hd3⟩,fun z5 hz5=>?_⟩⟩
   refine comp_data (K:=K) (a:=d2) (xs:=ws2) (fun a=>a ≠ z5) ((aroundC rs y).map fun c=>some (.bool (part.any fun x=>decide (x=c)))) (fun σ=>∃ u0,σ=[u0,some (.ref pa)]) hz5 (fun _ h=>h) ⟨_,rfl⟩ (by rw [List.length_map]; exact hc2.length.symm) (by rw [hc2.length]; exact Nat.le_trans (aroundC_short R y) (by decide)) (SqL.of hd3) ?_ ?_
   ·rintro m v o2 σ H5 hv ho2 s5 _ ⟨u1,rfl⟩ Y2 Z2 yes2 no2
    obtain ⟨c,hc,rc⟩:=Cel.get (Cel.mono s5 hc2) hv
    have eo2:=map_at hc ho2
    have sA:=((s1.trans s2).trans s3).trans s5
    refine tYes_it ⟨_,rfl,_,rfl,cData c,part.map cData,rc.rdv,.lst (SqL.of (sA _ _ hpa)) (RdnAll.rdv (N:=fun _=>True) (Cel.rdn (Cel.mono sA hpt))),rfl,lays _,(by show 1<=60; decide),?_⟩
    have ei:(if false=true then !(part.map cData).any (fun z=>PyData.eqv z (cData c)) else (part.map cData).any fun z=>PyData.eqv z (cData c))=part.any fun z=>decide (z=c):=in_cells _ _
    rw [ei]
    exact yes2 _ _ _ _ eo2 ⟨_,rfl⟩ (Same.refl _) (.bl _)
   ·rintro ys5 H5 s5 hz6 hr5
    rw [outs_all,show ((aroundC rs y).map fun c=>PyData.bool (part.any fun x=>decide (x=c)))=((aroundC rs y).map fun c=>part.any fun x=>decide (x=c)).map PyData.bool by rw [List.map_map]; rfl] at hr5
    rw [RdnAll.bools hr5] at hz6
    refine ⟨z5,_,rfl,SqL.of hz6,_,rfl,?_⟩
    by_cases hp:(((aroundC rs y).map fun z=>part.any fun x=>decide (x=z)).any id)=true
    ·rw [if_pos hp] at eo
     exact iteP hp ⟨_,rfl,yes _ _ _ _ eo ⟨_,rfl⟩ (s3.trans s5) (CelR.rdn ⟨ya,rfl,s5 _ _ (s3 _ _ (s2 _ _ hya))⟩)⟩
    ·rw [if_neg hp] at eo
     exact iteN (by simpa using hp) (no _ _ eo ⟨_,rfl⟩ (s3.trans s5))
  ·rintro ys H2 s2 hz2 hr2
   rw [outs_filter] at hr2
   exact q z ys H2 (s1.free hz) hz2 (RdnAll.cel hr2) (s1.trans s2)
end
theorem pIn_open:∀ k ∈ bd.cps.toList,pIn "012345678" k=pOpen k:=by decide +kernel
theorem rowCs_on {p q:Nat->Bool}(i:Nat):∀ (j:Nat) (t:List Nat),(∀ k ∈ t,p k=q k)->Cells.rowCs p i j t=Cells.rowCs q i j t
 | _,[],_=>rfl
 | j,c :: r,h=>by
  rw [Cells.rowCs,Cells.rowCs,h c List.mem_cons_self,rowCs_on i (j + 1) r fun k hk=>h k (List.mem_cons_of_mem _ hk)]
theorem allCs_on {p q:Nat->Bool}:∀ (i:Nat) (gs:List (List Nat)),(∀ t ∈ gs,∀ k ∈ t,p k=q k)->Cells.allCs p i gs=Cells.allCs q i gs
 | _,[],_=>rfl
 | i,t :: r,h=>by
  rw [Cells.allCs,Cells.allCs,rowCs_on i 0 t (h t List.mem_cons_self),allCs_on (i + 1) r fun u hu=>h u (List.mem_cons_of_mem _ hu)]
theorem Rows.signs {rs:List Str}(R:Rows bd.cps.toList rs):∀ t ∈ codes rs,∀ k ∈ t,k ∈ bd.cps.toList:=fun t ht k hk=>by
 obtain ⟨u,hu,rfl⟩:=List.mem_map.mp ht
 obtain ⟨n,_,_,q⟩:=R.ex
 exact (q u hu).mem k hk
theorem cells_open {rs:List Str}(R:Rows bd.cps.toList rs):Cells.allCs (pIn "012345678") 0 (codes rs)=openC rs:=allCs_on 0 _ fun t ht k hk=>pIn_open k (R.signs t ht k hk)
noncomputable def toI (c:Nat × Nat):Int × Int:=(((c.1:Nat):Int),((c.2:Nat):Int))
noncomputable def ofI (p:Int × Int):Nat × Nat:=(p.1.toNat,p.2.toNat)
theorem of_to (c:Nat × Nat):ofI (toI c)=c:=rfl
theorem toI_inj {c d:Nat × Nat}(h:toI c=toI d):c=d:=by rw [<- of_to c,h,of_to]
theorem lt2_lex {c d:Nat × Nat}:lt2 (toI c) (toI d)=true ↔ Cells.lex c d:=by
 obtain ⟨a,b⟩:=c
 obtain ⟨x,y⟩:=d
 unfold lt2 Cells.lex
 show (if ((a:Nat):Int)=((x:Nat):Int) then decide (((b:Nat):Int) < ((y:Nat):Int)) else decide (((a:Nat):Int) < ((x:Nat):Int)))=true ↔ a < x\/(a=x/\b < y)
 by_cases e:a=x
 ·rw [if_pos (by omega),decide_eq_true_eq]
  omega
 ·rw [if_neg (by omega),decide_eq_true_eq]
  omega
theorem Cel.tup2 {H:Hp}{vs:List V}{cs:List (Nat × Nat)}(hp:Cel H vs cs):Tup2 H vs (cs.map toI):=by
 induction hp with
 | nil=>exact .nil
 | cons q _ ih =>
  obtain ⟨a,e,h⟩:=q
  exact .cons ⟨a,e,h⟩ ih
theorem cel_of_tup2 {H:Hp}:∀ {cs:List (Nat × Nat)} {vs:List V},Tup2 H vs (cs.map toI)->Cel H vs cs
 | [],_,.nil=>.nil
 | _ :: _,_,.cons ⟨a,e,h⟩ t=>.cons ⟨a,e,h⟩ (cel_of_tup2 t)
theorem perm_to {ps:List (Int × Int)}{cs:List (Nat × Nat)}(h:ps.Perm (cs.map toI)):∃ ds:List (Nat × Nat),ps=ds.map toI/\ds.Perm cs:=by
 refine ⟨ps.map ofI,?_,?_⟩
 ·rw [List.map_map]
  refine (List.map_id ps).symm.trans (List.map_congr_left fun p hp=>?_)
  obtain ⟨c,_,rfl⟩:=List.mem_map.mp (h.mem_iff.mp hp)
  rfl
 ·have:=h.map ofI
  rw [List.map_map] at this
  have e:cs.map (ofI ∘ toI)=cs:=(List.map_congr_left fun c _=>of_to c).trans (List.map_id cs)
  rwa [e] at this
theorem up_lex {cs:List (Nat × Nat)}(h:Up2 (cs.map toI)):cs.Pairwise Cells.lex:=by
 unfold Up2 at h
 rw [List.pairwise_map] at h
 exact h.imp fun z=>lt2_lex.mp z
theorem lex_nodup {cs:List (Nat × Nat)}(h:cs.Pairwise Cells.lex):cs.Nodup:=h.imp fun {a b} z e=>by
 subst e
 unfold Cells.lex at z
 omega
theorem nodup_to {cs:List (Nat × Nat)}(h:cs.Nodup):(cs.map toI).Nodup:=by
 unfold List.Nodup at h ⊢
 rw [List.pairwise_map]
 exact h.imp fun z e=>z (toI_inj e)
noncomputable def GrpR (H:Hp)(v:V)(g:List (Nat × Nat)):Prop:=∃ a us,v=V.ref a/\H a=some (.lst us)/\Cel H us g
noncomputable def Grps (H:Hp):List V->List (List (Nat × Nat))->Prop:=Paired (GrpR H)
theorem GrpR.mono {H H':Hp}{v:V}{g:List (Nat × Nat)}(s:Same H H')(h:GrpR H v g):GrpR H' v g:=by
 obtain ⟨a,us,e,h1,h2⟩:=h
 exact ⟨a,us,e,s _ _ h1,h2.mono s⟩
theorem Grps.mono {H H':Hp}(s:Same H H'){vs:List V}{gs:List (List (Nat × Nat))}(hp:Grps H vs gs):Grps H' vs gs:=by
 induction hp with
 | nil=>exact .nil
 | cons h _ ih =>
  exact .cons (h.mono s) ih
theorem Grps.get {H:Hp}:∀ {vs:List V} {gs:List (List (Nat × Nat))} {i:Nat} {v:V},Grps H vs gs->vs[i]?=some v->∃ g,gs[i]?=some g/\GrpR H v g
 | _,_,_,_,.nil,e=>by simp at e
 | _,_,0,_,.cons r _,e=>by
  simp at e
  subst e
  exact ⟨_,rfl,r⟩
 | _,_,i + 1,v,.cons _ t,e=>by
  obtain ⟨c,h1,h2⟩:=Grps.get (i:=i) (v:=v) t (by simpa using e)
  exact ⟨c,by simpa using h1,h2⟩
theorem Grps.length {H:Hp}{vs:List V}{gs:List (List (Nat × Nat))}(h:Grps H vs gs):vs.length=gs.length:=Paired.length h
theorem Grps.snoc {H:Hp}{vs:List V}{gs:List (List (Nat × Nat))}{v:V}{g:List (Nat × Nat)}(h:Grps H vs gs)(x:GrpR H v g):Grps H (vs++[v]) (gs++[g]):=Paired.snoc h x
noncomputable def lD (g:List (Nat × Nat)):PyData:=.list (g.map cData)
theorem GrpR.rdv {K:PySem.W.Frag}{H:Hp}{v:V}{g:List (Nat × Nat)}(h:GrpR H v g):Rdv K H v (lD g):=by
 obtain ⟨a,us,rfl,h1,h2⟩:=h
 exact .lst (SqL.of h1) (gRdv h2)
theorem Grps.rdv {K:PySem.W.Frag}{H:Hp}:∀ {vs:List V} {gs:List (List (Nat × Nat))},Grps H vs gs->RdvAll K H vs (gs.map lD)
 | _,_,.nil=>.nil
 | _,_,.cons h t=>.cons h.rdv (Grps.rdv t)
theorem Rdn.grp {N:Addr->Prop}{H:Hp}{v:V}{g:List (Nat × Nat)}(h:Rdn N H v (lD g)):GrpR H v g:=by
 unfold lD at h
 generalize e:g.map cData=ds at h
 cases h with
 | lst n h1 h2 =>
  subst e
  exact ⟨_,_,rfl,h1,RdnAll.cel h2⟩
theorem RdnAll.grps {N:Addr->Prop}{H:Hp}:∀ {gs:List (List (Nat × Nat))} {vs:List V},RdnAll N H vs (gs.map lD)->Grps H vs gs
 | [],_,.nil=>.nil
 | _ :: _,_,.cons h t=>.cons (Rdn.grp h) (RdnAll.grps t)
theorem lD_lay (g:List (Nat × Nat)):(lD g).canLay0=true:=lays g
theorem lDs_lay:∀ gs:List (List (Nat × Nat)),PyData.canLayAll0 (gs.map lD)=true
 | []=>rfl
 | g :: r=>by
  show ((lD g).canLay0 && PyData.canLayAll0 (r.map lD))=true
  rw [lD_lay,lDs_lay r]
  rfl
theorem lD_depth (g:List (Nat × Nat)):(lD g).depth<=2:=by
 show PyData.depthAll (g.map cData) + 1<=2
 have:=depths g
 omega
theorem rowCs_two {p q:Nat->Bool}(h:∀ c,p c=true->q c=false)(i:Nat):∀ (j:Nat) (t:List Nat),(Cells.rowCs p i j t).length + (Cells.rowCs q i j t).length<=t.length
 | _,[]=>Nat.le_refl _
 | j,c :: r=>by
  have ih:=rowCs_two h i (j + 1) r
  rw [Cells.rowCs,Cells.rowCs,List.length_append,List.length_append,List.length_cons]
  by_cases hp:p c=true
  ·rw [if_pos hp,if_neg (by rw [h c hp]; exact Bool.false_ne_true)]
   simp only [List.length_cons,List.length_nil]
   omega
  ·rw [if_neg hp]
   split <;> simp only [List.length_cons,List.length_nil] <;> omega
theorem allCs_two {p q:Nat->Bool}(h:∀ c,p c=true->q c=false):∀ (i:Nat) (rs:List (List Nat)),(∀ t ∈ rs,t.length<=8)->(Cells.allCs p i rs).length + (Cells.allCs q i rs).length<=8 * rs.length
 | _,[],_=>Nat.le_refl _
 | i,t :: r,ht=>by
  have ih:=allCs_two h (i + 1) r fun u hu=>ht u (List.mem_cons_of_mem _ hu)
  have h1:=rowCs_two h i 0 t
  have h2:=ht t List.mem_cons_self
  rw [Cells.allCs,Cells.allCs,List.length_append,List.length_append,List.length_cons]
  omega
theorem open_shut {rs:List Str}(R:Rows bd.cps.toList rs):(openC rs).length + (shutC rs).length<=64:=by
 have:=allCs_two (p:=pOpen) (q:=pShut) (fun c hc=>by
  unfold pOpen at hc
  rw [Bool.and_eq_true,Bool.not_eq_true'] at hc
  exact hc.2) 0 (codes rs) R.short
 have h2:=R.hi
 rw [codes_len] at this
 unfold openC shutC
 omega
theorem mem_rowCs_of {p:Nat->Bool}{i:Nat}:∀ {j m:Nat} {t:List Nat} {c:Nat},t[m]?=some c->p c=true->(i,j + m) ∈ Cells.rowCs p i j t
 | j,m,[],c,h,_=>by simp at h
 | j,0,d :: r,c,h,hp=>by
  have e:d=c:=by simpa using h
  subst e
  rw [Cells.rowCs,if_pos hp]
  exact List.mem_append_left _ List.mem_cons_self
 | j,m + 1,d :: r,c,h,hp=>by
  rw [Cells.rowCs]
  refine List.mem_append_right _ ?_
  have:=mem_rowCs_of (i:=i) (j:=j + 1) (m:=m) (t:=r) (c:=c) (by simpa using h) hp
  rwa [show j + 1 + m=j + (m + 1) by omega] at this
theorem mem_allCs_of {p:Nat->Bool}:∀ {i m:Nat} {rs:List (List Nat)} {t:List Nat} {j c:Nat},rs[m]?=some t->t[j]?=some c->p c=true->(i + m,j) ∈ Cells.allCs p i rs
 | i,m,[],t,j,c,h,_,_=>by simp at h
 | i,0,d :: r,t,j,c,h,hj,hp=>by
  have e:d=t:=by simpa using h
  subst e
  rw [Cells.allCs]
  refine List.mem_append_left _ ?_
  have:=mem_rowCs_of (i:=i) (j:=0) hj hp
  rwa [show 0 + j=j by omega] at this
 | i,m + 1,d :: r,t,j,c,h,hj,hp=>by
  rw [Cells.allCs]
  refine List.mem_append_right _ ?_
  have:=mem_allCs_of (i:=i + 1) (m:=m) (rs:=r) (t:=t) (j:=j) (c:=c) (by simpa using h) hj hp
  rwa [show i + 1 + m=i + (m + 1) by omega] at this
theorem clA_nodup (rs:List Str)(c:Nat × Nat):(clA rs c).Nodup:=((lex_nodup (Cells.allCs_lex _ 0 (codes rs))).sublist List.filter_sublist).sublist List.filter_sublist
theorem clA_shut {rs:List Str}{c x:Nat × Nat}(h:x ∈ clA rs c):x ∈ shutC rs:=by
 unfold clA at h
 obtain ⟨h1,h2⟩:=List.mem_filter.mp h
 obtain ⟨t,k,ht,hj,_,es⟩:=cell_at_board (List.mem_filter.mp h1).1
 have e63:k=63:=by
  have:=of_decide_eq_true h2
  omega
 subst e63
 have:=mem_allCs_of (p:=pShut) (i:=0) (codes_get ht) hj (by decide)
 rwa [Nat.zero_add] at this
noncomputable def heads (gs:List (List (Nat × Nat))):List (Int × Int):=gs.map fun g=>toI (g.headD (0,0))
theorem head_mem {g:List (Nat × Nat)}(h:g ≠ []):g.headD (0,0) ∈ g:=by
 cases g with
 | nil=>exact absurd rfl h
 | cons a r=>exact List.mem_cons_self
theorem heads_nodup:∀ {gs:List (List (Nat × Nat))},(∀ g ∈ gs,g ≠ [])->gs.flatten.Nodup->(heads gs).Nodup
 | [],_,_=>List.nodup_nil
 | g :: r,h,nd=>by
  rw [List.flatten_cons,List.nodup_append] at nd
  obtain ⟨_,h2,h3⟩:=nd
  unfold heads
  rw [List.map_cons,List.nodup_cons]
  refine ⟨fun hm=>?_,heads_nodup (fun x hx=>h x (List.mem_cons_of_mem _ hx)) h2⟩
  obtain ⟨g2,hg2,e⟩:=List.mem_map.mp hm
  have e':=toI_inj e
  have m1:=head_mem (h g List.mem_cons_self)
  have m2:=head_mem (h g2 (List.mem_cons_of_mem _ hg2))
  rw [e'] at m2
  exact h3 _ m1 _ (List.mem_flatten.mpr ⟨g2,hg2,m2⟩) rfl
theorem Grps.firsts {H:Hp}:∀ {vs:List V} {gs:List (List (Nat × Nat))},Grps H vs gs->(∀ g ∈ gs,g ≠ [])->Firsts H vs (heads gs)
 | _,_,.nil,_=>.nil
 | _,_,.cons ⟨a,us,e,h1,h2⟩ t,hn=>by
  refine .cons ?_ (Grps.firsts t fun g hg=>hn g (List.mem_cons_of_mem _ hg))
  cases h2 with
  | nil=>exact absurd rfl (hn _ List.mem_cons_self)
  | cons r _ =>
   obtain ⟨b,rfl,hb⟩:=r
   exact ⟨a,_,b,e,h1,hb⟩
theorem in_grps (gs:List (List (Nat × Nat)))(g:List (Nat × Nat)):(gs.map lD).any (fun z=>PyData.eqv z (lD g))=gs.any fun m=>decide (m=g):=by
 rw [List.any_map]
 congr 1
 funext m
 exact g_eqv m g
noncomputable def spGParts:Sp:=fun vs H Q _=>∃ (l:Addr) (rs:List Str),vs=[.ref l]/\H l=some (.lst (rs.map V.str))/\Rows bd.cps.toList rs /\
 ∀ (d:Addr) (ws:List V) (gs:List (List (Nat × Nat))) (H':Hp),H d=none->H' d=some (.lst ws)->Grps H' ws gs->Parts.Good (clA rs) (openC rs) gs->Up2 (heads gs)->Same H H'->Q (.ref d) H'
theorem filter_any_not (g W:List (Nat × Nat)):(g.map fun c=>if (!(W.any fun x=>decide (x=c)))=true then some (cData c) else none).filterMap id=(g.filter fun c=>!(W.any fun x=>decide (x=c))).map cData:=outs_filter _ _ g
section
variable {P:Program}{w:World}{K:PySem.W.Frag}{mg:Str->Option Value}{base:Heap}{f:Addr}{fd:FuncData}
theorem sc_law_parts:FnScope ["_law_rows_here","_law_known","_law_cell","_law_group","_law_meet","_law_whole","_law_part"] ["_law_rows_here"] (defScope s_law_parts):=⟨rfl,rfl,rfl,by decide +kernel,rfl,by decide +kernel,by decide +kernel⟩
theorem ok_law_parts {f1 f2 f3:Addr}{fd1 fd2 fd3:FuncData}(T:Txt mg)(D:DefAt K mg "_law_parts" s_law_parts ["_law_rows_here"] f fd)(D_law_cells:DefAt K mg "_law_cells" s_law_cells ["_law_rows_here","_law_signs_here"] f1 fd1)(D_law_near:DefAt K mg "_law_near" s_law_near ["_law_cell","_law_high","_law_wide"] f2 fd2)(D_law_around:DefAt K mg "_law_around" s_law_around ["_law_rows_here","_law_cell"] f3 fd3):FnOk P w K mg base CX0 3 f fd ["_law_rows_here"] spGParts:=by
 have G_law_cells:FnOk P w K mg base CX0 1 f1 fd1 ["_law_rows_here","_law_signs_here"] spGCells:=ok_law_cells T D_law_cells
 have G_law_around:FnOk P w K mg base CX0 2 f3 fd3 ["_law_rows_here","_law_cell"] (spGAround aroundC):=ok_law_around T D_law_around D_law_near
 refine D.F.ok sc_law_parts (fun vs H Q E h=>?_) (fun cdv A outer s H vs Q E hr h=>?_)
 ·obtain ⟨l,rs,rfl,_⟩:=h
  rfl
 ·obtain ⟨l,rs,rfl,hl,R,q⟩:=h
  refine ⟨_,(pss_cons (ps_set (i:=1) sc_law_parts.nd rfl (Or.inl rfl) (pe_lst pa_nil))
   (pss_cons (ps_for PassesOwn.never rfl (pi_list (pe_call G_law_cells (hr.mono (by decide)) (by rfl) D_law_cells.g D_law_cells.F.kp D_law_cells.b .nil pass0 (pa_cons (pv 0) (pa_cons pe_str pa_nil)))) (pg_name (i:=2) sc_law_parts.nd rfl (Or.inl rfl)) (pss_cons (ps_set (i:=3) sc_law_parts.nd rfl (Or.inr rfl) (pe_comp (N:=["_law_one","_law_rows_here"]) (src:=[none,some 0]) (CompOk.free (O:=(defScope s_law_parts).names) (XN:=["_law_rows_here","_law_known","_law_cell","_law_group","_law_meet","_law_whole","_law_part"]) rfl rfl ⟨_,rfl⟩ rfl rfl (by decide +kernel) (by decide +kernel) (by decide +kernel) rfl (by decide +kernel)) rfl (pi_list (pe_call G_law_around (hr.mono (by decide)) (by rfl) D_law_around.g D_law_around.F.kp D_law_around.b .nil pass0 (pa_cons (pv 0) (pa_cons (pv 2) pa_nil)))) (fun _ _ _ _ _=>(pg_name (i:=0) (by show List.Nodup (["_law_one","_law_rows_here"]:List Str); decide +kernel) rfl (Or.inl rfl))) (fun _ _ _ _ _=>(pifs_one (pt_cmpR op_eq (pe_ix ix_str (pe_ix (ix_listK (K:=K) (by rfl)) (pv 1) (pe_ix (ix_tupK (K:=K) (by rfl)) (pv 0) pe_int (fun _ _=>rfl)) (fun _ _=>rfl)) (pe_ix (ix_tupK (K:=K) (by rfl)) (pv 0) pe_int (fun _ _=>rfl)) (fun _ _=>rfl)) pe_str (nomark _)))) (fun _ _ _ _ _=>(pv 0))))
   (pss_one (ps_if (pt_cmpR (op_ne_deep hr.units) (pv 3) (pe_lst pa_nil) (nomark _)) (pss_cons (ps_set (i:=4) sc_law_parts.nd rfl (Or.inr rfl) (pe_comp (N:=["_law_part","_law_group"]) (src:=[none,some 3]) (CompOk.free (O:=(defScope s_law_parts).names) (XN:=["_law_rows_here","_law_known","_law_cell","_law_group","_law_meet","_law_whole","_law_part"]) rfl rfl ⟨_,rfl⟩ rfl rfl (by decide +kernel) (by decide +kernel) (by decide +kernel) rfl (by decide +kernel)) rfl (pi_list (pv 1)) (fun _ _ _ _ _=>(pg_name (i:=0) (by show List.Nodup (["_law_part","_law_group"]:List Str); decide +kernel) rfl (Or.inl rfl))) (fun _ _ _ _ _=>(pifs_one (pt_cmpR (op_ne_deepK (K:=K) (by rfl) hr.units) (pe_comp (N:=["_law_one","_law_group"]) (src:=[none,some 1]) (CompOk.byRfl rfl (by decide +kernel) (by decide +kernel) (by rfl) rfl (by rfl)) (by rfl) (pi_listK (K:=K) (by rfl) (pv 0)) (fun _ _ _ _ _=>(pg_name (i:=0) (by show List.Nodup (["_law_one","_law_group"]:List Str); decide +kernel) rfl (Or.inl rfl))) (fun _ _ _ _ _=>(pifs_one (pt_cmpR (op_in_deepK (K:=K) (by rfl) hr.units) (pv 0) (pv 1) (by rfl)))) (fun _ _ _ _ _=>(pv 0))) (pe_lst pa_nil) (nomark _)))) (fun _ _ _ _ _=>(pv 0))))
   (pss_cons (ps_set (i:=5) sc_law_parts.nd rfl (Or.inr rfl) (pe_callTy call_list_of (by rfl) T.b_list PyProof.Rows.boot_list (pa_cons (pv 3) pa_nil)))
   (pss_cons (ps_for PassesOwn.never rfl (pi_list (pv 4)) (pg_name (i:=6) sc_law_parts.nd rfl (Or.inl rfl)) (pss_one (ps_set (i:=5) sc_law_parts.nd rfl (Or.inr rfl) (pe_op op_cat (pv 5) (pe_comp (N:=["_law_one","_law_whole"]) (src:=[none,some 5]) (CompOk.free (O:=(defScope s_law_parts).names) (XN:=["_law_rows_here","_law_known","_law_cell","_law_group","_law_meet","_law_whole","_law_part"]) rfl rfl ⟨_,rfl⟩ rfl rfl (by decide +kernel) (by decide +kernel) (by decide +kernel) rfl (by decide +kernel)) rfl (pi_list (pv 6)) (fun _ _ _ _ _=>(pg_name (i:=0) (by show List.Nodup (["_law_one","_law_whole"]:List Str); decide +kernel) rfl (Or.inl rfl))) (fun _ _ _ _ _=>(pifs_one (pt_cmpR (op_notIn_deepK (K:=K) (by rfl) hr.units) (pv 0) (pv 1) (by rfl)))) (fun _ _ _ _ _=>(pv 0)))))))
   (pss_one (ps_set (i:=1) sc_law_parts.nd rfl (Or.inl rfl) (pe_op op_cat (pe_comp (N:=["_law_part","_law_meet"]) (src:=[none,some 4]) (CompOk.free (O:=(defScope s_law_parts).names) (XN:=["_law_rows_here","_law_known","_law_cell","_law_group","_law_meet","_law_whole","_law_part"]) rfl rfl ⟨_,rfl⟩ rfl rfl (by decide +kernel) (by decide +kernel) (by decide +kernel) rfl (by decide +kernel)) rfl (pi_list (pv 1)) (fun _ _ _ _ _=>(pg_name (i:=0) (by show List.Nodup (["_law_part","_law_meet"]:List Str); decide +kernel) rfl (Or.inl rfl))) (fun _ _ _ _ _=>(pifs_one (pt_cmpR (op_notIn_deepK (K:=K) (by rfl) hr.units) (pv 0) (pv 1) (by rfl)))) (fun _ _ _ _ _=>(pv 0))) (pe_lst (pa_cons (pe_callB call_sorted2 (by rfl) T.b_sorted PyProof.Rows.boot_sorted (pa_cons (pv 5) pa_nil)) pa_nil)))))))) pss_nil))))
   (pss_one (ps_ret (pe_callB (call_sortedL hr.units) (by rfl) T.b_sorted PyProof.Rows.boot_sorted (pa_cons (pv 1) pa_nil)))))),?_⟩
  refine ⟨(by show 0<=sizeLine; decide),fun k0 hk0=>?_⟩
  have s0:Same H (upd H k0 (.lst [])):=same_new hk0
  refine ⟨_,rfl,l,rs,"012345678",rfl,s0 _ _ hl,R,fun dc wc H1 hdc hdc1 hcc s1=>⟨dc,rfl,⟨_,SqL.of hdc1⟩,?_⟩⟩
  rw [cells_open R] at hcc
  have s01:=s0.trans s1
  have hl1:=s01 _ _ hl
  have o64:=open_shut R
  have nd0:(openC rs).Nodup:=lex_nodup (Cells.allCs_lex _ 0 (codes rs))
  refine for_list (K:=K) (a:=dc) (xs:=wc) (fun i σ H'=>∃ (k:Addr) (ws:List V) (gs:List (List (Nat × Nat))) (v2 v3 v4 v5 v6:Option V),σ=[some (.ref l),some (.ref k),v2,v3,v4,v5,v6]/\Same H1 H'/\H' k=some (.lst ws)/\Grps H' ws gs/\Parts.Good (clA rs) ((openC rs).take i) gs)
   ⟨k0,[],[],_,_,_,_,_,rfl,Same.refl _,s1 _ _ upd_same,.nil,Parts.Good.start _⟩ (fun i σ H' _ ⟨_,_,_,_,_,_,_,_,_,z,_⟩=>SqL.of (z _ _ hdc1)) ?_ ?_
  ·rintro i x σ H2 hx ⟨k,ws,gs,v2,v3,v4,v5,v6,rfl,s2,hk,hG,G⟩
   obtain ⟨c,hc,ca,rfl,hca⟩:=Cel.get (Cel.mono s2 hcc) hx
   have cm:=List.mem_of_getElem? hc
   obtain ⟨t,sg,ht,hj,_,es⟩:=cell_at_board cm
   obtain ⟨l1,l2⟩:=cell_small R ht hj
   have tk:(openC rs).take (i + 1)=(openC rs).take i++[c]:=by
    rw [List.take_add_one,hc]
    rfl
   have lshut:(shutC rs).length<=63:=by
    have:=List.length_pos_of_mem cm
    omega
   refine ⟨_,rfl,_,rfl,l,ca,rs,c,rfl,s2 _ _ hl1,R,hca,l1,l2,fun d ws1 H3 hd hd3 hc3 s3=>⟨d,rfl,⟨_,SqL.of hd3⟩,fun z hz=>?_⟩⟩
   refine comp_data (K:=K) (a:=d) (xs:=ws1) (fun a=>a ≠ z) ((aroundC rs c).map fun x=>if decide (Cells.sgn (codes rs) x=63)=true then some (cData x) else none) (fun σ=>∃ u0,σ=[u0,some (.ref l)]) hz (fun _ h=>h) ⟨_,rfl⟩ (by rw [List.length_map]; exact hc3.length.symm) (by rw [hc3.length]; exact Nat.le_trans (aroundC_short R c) (by decide)) (SqL.of hd3) ?_ ?_
   ·rintro k1 x o σ H4 hx ho s4 _ ⟨u0,rfl⟩ Y Z yes no
    obtain ⟨y,hy,r1⟩:=Cel.get hc3 hx
    have eo:=map_at hy ho
    obtain ⟨t,sg,ht,hj,_,es⟩:=cell_at_board (List.mem_filter.mp (List.mem_of_getElem? hy)).1
    obtain ⟨ya,rfl,hya⟩:=r1
    have hya2:=s4 _ _ hya
    refine ⟨_,rfl,_,rfl,ya,_,0,_,rfl,rfl,SqT.of hya2,rfl,l,_,_,.str t,rfl,rfl,SqL.of (s4 _ _ (s3 _ _ (s2 _ _ hl1))),atI_nat (by rw [List.getElem?_map,ht]; rfl),_,rfl,ya,_,1,_,rfl,rfl,SqT.of hya2,rfl,t,_,sg,rfl,rfl,R.tlen ht,atI_nat hj,rfl,_,rfl,?_⟩
    have ed:decide (V.str ⟨#[sg]⟩=V.str "?")=decide (sg=63):=by
     rw [ask_is]
     simp only [one_eq]
    rw [ed]
    rw [es] at eo
    by_cases hp:sg=63
    ·rw [decide_eq_true hp]
     rw [if_pos (decide_eq_true hp)] at eo
     exact iteT ⟨_,rfl,yes _ _ _ _ eo ⟨_,rfl⟩ (Same.refl _) (CelR.rdn ⟨ya,rfl,hya2⟩)⟩
    ·rw [decide_eq_false hp]
     rw [if_neg (by rw [decide_eq_false hp]; exact Bool.false_ne_true)] at eo
     exact iteF (no _ _ eo ⟨_,rfl⟩ (Same.refl _))
   rintro yg H4 s4 hz4 hr4
   rw [outs_filter] at hr4
   have hcg:Cel H4 yg (clA rs c):=RdnAll.cel hr4
   refine ⟨_,rfl,(by show 0<=sizeLine; decide),fun e he=>?_⟩
   have s5:Same H4 (upd H4 e (.lst [])):=same_new he
   refine ⟨lD (clA rs c),.list [],.lst (SqL.of (s5 _ _ hz4)) (gRdv (hcg.mono s5)),.lst (SqL.of upd_same) .nil,cs_cmp _ [],_,rfl,?_⟩
   have en:(if true=true then !PyData.eqv (lD (clA rs c)) (.list []) else PyData.eqv (lD (clA rs c)) (.list []))=!(clA rs c).isEmpty:=by
    show (!PyData.eqv _ _)=_
    exact congrArg (fun b=>!b) (eq_nil (clA rs c))
   rw [en]
   have s25:Same H2 (upd H4 e (.lst [])):=(s3.trans s4).trans s5
   have hk5:=s25 _ _ hk
   have hG5:=hG.mono s25
   have hz5:=s5 _ _ hz4
   have hcg5:=hcg.mono s5
   generalize upd H4 e (.lst [])=H5 at *
   have gnd:=clA_nodup rs c
   by_cases hemp:clA rs c=[]
   ·rw [hemp]
    refine iteF ⟨k,ws,gs,_,_,_,_,_,rfl,s2.trans s25,hk5,hG5,?_⟩
    rw [tk]
    exact G.skip hemp
   rw [show (!(clA rs c).isEmpty)=true by rw [Bool.not_eq_true',List.isEmpty_eq_false_iff]; exact hemp]
   refine iteT ?_
   have gshut:∀ x ∈ clA rs c,x ∈ shutC rs:=fun x hx=>clA_shut hx
   have gsh:∀ g ∈ gs,∀ x ∈ g,x ∈ shutC rs:=fun g hg x hx=>by
    obtain ⟨o,_,h2⟩:=G.from_ x (List.mem_flatten.mpr ⟨g,hg,hx⟩)
    exact clA_shut h2
   have gn:∀ g ∈ gs,g.Nodup:=fun g hg=>G.nd.sublist (List.sublist_flatten_of_mem hg)
   have gl:∀ g ∈ gs,g.length<=63:=fun g hg=>Nat.le_trans (Parts.nodup_len (gn g hg) (gsh g hg)) lshut
   have wl:ws.length<=63:=by
    rw [hG5.length]
    refine Nat.le_trans (Parts.len_flat G.ne) (Nat.le_trans (Parts.nodup_len (b:=shutC rs) G.nd fun x hx=>?_) lshut)
    obtain ⟨g,hg,hx⟩:=List.mem_flatten.mp hx
    exact gsh g hg x hx
   generalize eg0:clA rs c=g0 at *
   refine ⟨_,rfl,k,rfl,⟨_,SqL.of hk5⟩,fun m hm=>?_⟩
   refine comp_data (K:=K) (a:=k) (xs:=ws) (fun a=>a ≠ m) (gs.map fun g=>if Parts.meets g0 g=true then some (lD g) else none) (fun σ=>∃ u0,σ=[u0,some (.ref z)]) hm (fun _ h=>h) ⟨_,rfl⟩ (by rw [List.length_map]; exact hG5.length.symm) (Nat.le_trans wl (by decide)) (SqL.of hk5) ?_ ?_
   ·rintro j x o σ H6 hx ho s6 _ ⟨u0,rfl⟩ Y Z yes no
    obtain ⟨g,hg,ga,us,rfl,hga,hcu⟩:=Grps.get hG5 hx
    have eo:=map_at hg ho
    have gm:=List.mem_of_getElem? hg
    refine ⟨_,rfl,ga,rfl,⟨_,SqL.of (s6 _ _ hga)⟩,fun z5 hz5'=>?_⟩
    refine comp_data (K:=K) (a:=ga) (xs:=us) (fun a=>a ≠ z5) (g.map fun c=>if (g0.any fun x=>decide (x=c))=true then some (cData c) else none) (fun σ=>∃ u0,σ=[u0,some (.ref z)]) hz5' (fun _ h=>h) ⟨_,rfl⟩ (by rw [List.length_map]; exact hcu.length.symm) (by rw [hcu.length]; exact Nat.le_trans (gl g gm) (by decide)) (SqL.of (s6 _ _ hga)) ?_ ?_
    ·rintro j2 v o2 σ H7 hv ho2 s7 _ ⟨u1,rfl⟩ Y2 Z2 yes2 no2
     have s57:=s6.trans s7
     obtain ⟨c2,hc2,rc⟩:=Cel.get (hcu.mono s57) hv
     have eo2:=map_at hc2 ho2
     refine ⟨_,rfl,_,rfl,cData c2,g0.map cData,rc.rdv,.lst (SqL.of (s57 _ _ hz5)) (gRdv (hcg5.mono s57)),rfl,lays _,(by show 1<=60; decide),_,rfl,?_⟩
     have ei:(if false=true then !(g0.map cData).any (fun z=>PyData.eqv z (cData c2)) else (g0.map cData).any fun z=>PyData.eqv z (cData c2))=g0.any fun z=>decide (z=c2):=in_cells _ _
     rw [ei]
     by_cases hp:(g0.any fun z=>decide (z=c2))=true
     ·rw [if_pos hp] at eo2
      exact iteP hp ⟨_,rfl,yes2 _ _ _ _ eo2 ⟨_,rfl⟩ (Same.refl _) rc.rdn⟩
     ·rw [if_neg hp] at eo2
      exact iteN (Bool.eq_false_iff.mpr hp) (no2 _ _ eo2 ⟨_,rfl⟩ (Same.refl _))
    ·rintro ys5 H7 s7 hz7 hr7
     rw [outs_filter] at hr7
     have hc7:=RdnAll.cel hr7
     refine ⟨(by show 0<=sizeLine; decide),fun e2 he2=>?_⟩
     have s8:=same_new (o:=.lst []) he2
     refine ⟨lD (g.filter fun c=>g0.any fun x=>decide (x=c)),.list [],.lst (SqL.of (s8 _ _ hz7)) (gRdv (hc7.mono s8)),.lst (SqL.of upd_same) .nil,cs_cmp _ [],_,rfl,?_⟩
     have en2:(if true=true then !PyData.eqv (lD (g.filter fun c=>g0.any fun x=>decide (x=c))) (.list []) else PyData.eqv (lD (g.filter fun c=>g0.any fun x=>decide (x=c))) (.list []))=Parts.meets g0 g:=by
      show (!PyData.eqv _ _)=_
      exact congrArg (fun b=>!b) (eq_nil _)
     rw [en2]
     have s68:=(s6.trans s7).trans s8
     by_cases hp:Parts.meets g0 g=true
     ·rw [if_pos hp] at eo
      exact iteP hp ⟨_,rfl,yes _ _ _ _ eo ⟨_,rfl⟩ (s7.trans s8) (.lst (ne_of_none hga hm) (s68 _ _ hga) (Cel.rdn (hcu.mono s68)))⟩
     ·rw [if_neg hp] at eo
      exact iteN (Bool.eq_false_iff.mpr hp) (no _ _ eo ⟨_,rfl⟩ (s7.trans s8))
   rintro ym H6 s6 hm6 hr6
   rw [outs_filter] at hr6
   have hGm:Grps H6 ym (gs.filter (Parts.meets g0)):=RdnAll.grps hr6
   refine ⟨_,rfl,z,_,rfl,.inl (SqL.of (s6 _ _ hz5)),fun w0 hw0=>?_⟩
   have s7:Same H6 (upd H6 w0 (.lst yg)):=same_new hw0
   have s57:=s6.trans s7
   have hm7:=s7 _ _ hm6
   have hGm7:=hGm.mono s7
   have hw7:upd H6 w0 (.lst yg) w0=some (.lst yg):=upd_same
   generalize upd H6 w0 (.lst yg)=H7 at *
   have mn:∀ g ∈ gs.filter (Parts.meets g0),g.Nodup:=fun g hg=>gn g (List.mem_filter.mp hg).1
   have wsub:∀ (ms:List (List (Nat × Nat))),(∀ g ∈ ms,g ∈ gs.filter (Parts.meets g0))->∀ x ∈ Parts.whole g0 ms,x ∈ shutC rs:=fun ms hms x hx=>by
    rcases Parts.mem_whole.mp hx with h1 | ⟨g,hg,h1⟩
    ·exact gshut x h1
    ·exact gsh g (List.mem_filter.mp (hms g hg)).1 x h1
   refine ⟨_,rfl,m,rfl,⟨_,SqL.of hm7⟩,?_⟩
   refine for_list (K:=K) (a:=m) (xs:=ym) (fun j σ H'=>∃ (wa:Addr) (uw:List V) (v6:Option V),σ=[some (.ref l),some (.ref k),some (.ref ca),some (.ref z),some (.ref m),some (.ref wa),v6]/\Same H7 H'/\H' wa=some (.lst uw)/\Cel H' uw (Parts.whole g0 ((gs.filter (Parts.meets g0)).take j)))
    ⟨w0,yg,_,rfl,Same.refl _,hw7,hcg5.mono s57⟩ (fun j σ H' _ ⟨_,_,_,_,z,_⟩=>SqL.of (z _ _ hm7)) ?_ ?_
   ·rintro j x σ H8 hx ⟨wa,uw,v6,rfl,s8,hwa,hcw⟩
    obtain ⟨g,hg,ga,us,rfl,hga,hcu⟩:=Grps.get (hGm7.mono s8) hx
    have gm:=List.mem_of_getElem? hg
    have gm':=(List.mem_filter.mp gm).1
    have tj:Parts.whole g0 ((gs.filter (Parts.meets g0)).take (j + 1))=Parts.whole g0 ((gs.filter (Parts.meets g0)).take j)++g.filter fun c=>!((Parts.whole g0 ((gs.filter (Parts.meets g0)).take j)).any fun x=>decide (x=c)):=by
     rw [List.take_add_one,hg]
     exact Parts.whole_snoc _ _ _
    rw [tj]
    have wlen:(Parts.whole g0 ((gs.filter (Parts.meets g0)).take j)).length<=63:=Nat.le_trans (Parts.nodup_len (Parts.nodup_whole gnd fun m hm=>mn m (List.mem_of_mem_take hm)) (wsub _ fun g hg=>List.mem_of_mem_take hg)) lshut
    generalize Parts.whole g0 ((gs.filter (Parts.meets g0)).take j)=W at *
    refine ⟨_,rfl,_,rfl,ga,rfl,⟨_,SqL.of hga⟩,fun z2 hz2=>?_⟩
    refine comp_data (K:=K) (a:=ga) (xs:=us) (fun a=>a ≠ z2) (g.map fun c=>if (!(W.any fun x=>decide (x=c)))=true then some (cData c) else none) (fun σ=>∃ u0,σ=[u0,some (.ref wa)]) hz2 (fun _ h=>h) ⟨_,rfl⟩ (by rw [List.length_map]; exact hcu.length.symm) (by rw [hcu.length]; exact Nat.le_trans (gl g gm') (by decide)) (SqL.of hga) ?_ ?_
    ·rintro j2 v o2 σ H9 hv ho2 s9 _ ⟨u1,rfl⟩ Y2 Z2 yes2 no2
     obtain ⟨c2,hc2,rc⟩:=Cel.get (hcu.mono s9) hv
     have eo2:=map_at hc2 ho2
     refine ⟨_,rfl,_,rfl,cData c2,W.map cData,rc.rdv,.lst (SqL.of (s9 _ _ hwa)) (gRdv (hcw.mono s9)),rfl,lays _,(by show 1<=60; decide),_,rfl,?_⟩
     have ei:(if true=true then !(W.map cData).any (fun z=>PyData.eqv z (cData c2)) else (W.map cData).any fun z=>PyData.eqv z (cData c2))=!(W.any fun z=>decide (z=c2)):=congrArg (fun b=>!b) (in_cells _ _)
     rw [ei]
     by_cases hp:(!(W.any fun z=>decide (z=c2)))=true
     ·rw [if_pos hp] at eo2
      exact iteP hp ⟨_,rfl,yes2 _ _ _ _ eo2 ⟨_,rfl⟩ (Same.refl _) rc.rdn⟩
     ·rw [if_neg hp] at eo2
      exact iteN (Bool.eq_false_iff.mpr hp) (no2 _ _ eo2 ⟨_,rfl⟩ (Same.refl _))
    ·rintro y2 H9 s9 hz9 hr9
     rw [filter_any_not] at hr9
     have hc9:=RdnAll.cel hr9
     refine ⟨wa,z2,uw,y2,rfl,rfl,s9 _ _ hwa,hz9,?_,fun p hp=>?_⟩
     ·have b1:uw.length<=63:=by
       rw [hcw.length]
       exact wlen
      have b2:y2.length<=g.length:=by
       rw [hc9.length]
       exact List.length_filter_le _ _
      have a2:=gl g gm'
      exact Nat.le_trans (show uw.length + y2.length<=200 by omega) (by decide)
     ·have sp:=same_new (o:=.lst (uw++y2)) hp
      exact ⟨p,uw++y2,_,rfl,(s8.trans s9).trans sp,upd_same,Cel.append ((hcw.mono s9).mono sp) (hc9.mono sp)⟩
   ·rintro σ H8 ⟨wa,uw,v6,rfl,s8,hwa,hcw⟩
    rw [hGm7.length,List.take_length] at hcw
    have s58:=s57.trans s8
    have hk8:=s58 _ _ hk5
    have hG8:=hG5.mono s58
    have hm8:=s8 _ _ hm7
    have hGm8:=hGm7.mono s8
    refine ⟨_,rfl,k,rfl,⟨_,SqL.of hk8⟩,fun z3 hz3=>?_⟩
    refine comp_data (K:=K) (a:=k) (xs:=ws) (fun a=>a ≠ z3) (gs.map fun g=>if (!((gs.filter (Parts.meets g0)).any fun m=>decide (m=g)))=true then some (lD g) else none) (fun σ=>∃ u0,σ=[u0,some (.ref m)]) hz3 (fun _ h=>h) ⟨_,rfl⟩ (by rw [List.length_map]; exact hG8.length.symm) (Nat.le_trans wl (by decide)) (SqL.of hk8) ?_ ?_
    ·rintro j x o σ H9 hx ho s9 _ ⟨u0,rfl⟩ Y Z yes no
     obtain ⟨g,hg,ga,us,rfl,hga,hcu⟩:=Grps.get hG8 hx
     have eo:=map_at hg ho
     refine ⟨_,rfl,_,rfl,lD g,(gs.filter (Parts.meets g0)).map lD,.lst (SqL.of (s9 _ _ hga)) (gRdv (hcu.mono s9)),.lst (SqL.of (s9 _ _ hm8)) (Grps.rdv (hGm8.mono s9)),lD_lay g,lDs_lay _,Nat.le_trans (lD_depth g) (by decide),_,rfl,?_⟩
     have ei:(if true=true then !((gs.filter (Parts.meets g0)).map lD).any (fun z=>PyData.eqv z (lD g)) else ((gs.filter (Parts.meets g0)).map lD).any fun z=>PyData.eqv z (lD g))=!((gs.filter (Parts.meets g0)).any fun m=>decide (m=g)):=congrArg (fun b=>!b) (in_grps _ _)
     rw [ei]
     by_cases hp:(!((gs.filter (Parts.meets g0)).any fun m=>decide (m=g)))=true
     ·rw [if_pos hp] at eo
      exact iteP hp ⟨_,rfl,yes _ _ _ _ eo ⟨_,rfl⟩ (Same.refl _) (.lst (ne_of_none hga hz3) (s9 _ _ hga) (Cel.rdn (hcu.mono s9)))⟩
     ·rw [if_neg hp] at eo
      exact iteN (Bool.eq_false_iff.mpr hp) (no _ _ eo ⟨_,rfl⟩ (Same.refl _))
    ·rintro y3 H9 s9 hz9 hr9
     have er:(gs.map fun g=>if (!((gs.filter (Parts.meets g0)).any fun m=>decide (m=g)))=true then some (lD g) else none).filterMap id=(gs.filter fun g=>!((gs.filter (Parts.meets g0)).any fun m=>decide (m=g))).map lD:=outs_filter _ _ gs
     rw [er] at hr9
     have hG9:=RdnAll.grps hr9
     have wnd:(Parts.whole g0 (gs.filter (Parts.meets g0))).Nodup:=Parts.nodup_whole gnd mn
     have wlen:(Parts.whole g0 (gs.filter (Parts.meets g0))).length<=63:=Nat.le_trans (Parts.nodup_len wnd (wsub _ fun g hg=>hg)) lshut
     refine ⟨_,rfl,wa,uw,_,rfl,SqL.of (s9 _ _ hwa),Cel.tup2 (hcw.mono s9),nodup_to wnd,(by rw [hcw.length]; omega),fun dS us' ps' hdS ht hperm hup=>?_⟩
     obtain ⟨wc2,rfl,hperm2⟩:=perm_to hperm
     have s10:=same_new (o:=.lst us') hdS
     refine ⟨(by show 1<=sizeLine; decide),fun p1 hp1=>?_⟩
     have s11:=same_new (o:=.lst [V.ref dS]) hp1
     have s911:=s10.trans s11
     refine ⟨z3,p1,y3,[.ref dS],rfl,rfl,s911 _ _ hz9,upd_same,?_,fun k2 hk2=>?_⟩
     ·rw [hG9.length]
      have a1:=List.length_filter_le (fun g=>!((gs.filter (Parts.meets g0)).any fun m=>decide (m=g))) gs
      have a2:=hG5.length
      exact Nat.le_trans (show _<=200 by show _ + 1<=200; omega) (by decide)
     ·have s12:=same_new (o:=.lst (y3++[.ref dS])) hk2
      refine ⟨k2,y3++[.ref dS],_,_,_,_,_,_,rfl,(s2.trans s25).trans ((s58.trans s9).trans (s911.trans s12)),upd_same,Grps.snoc (hG9.mono (s911.trans s12)) ⟨dS,us',rfl,s12 _ _ (s11 _ _ upd_same),Cel.mono ((s10.trans s11).trans s12) (cel_of_tup2 ht)⟩,?_⟩
      rw [tk]
      subst eg0
      exact G.step hemp gnd rfl hperm2 (up_lex hup)
  ·rintro σ H2 ⟨k,ws,gs,v2,v3,v4,v5,v6,rfl,s2,hk,hG,G⟩
   rw [hcc.length,List.take_length] at G
   have gsh:∀ x ∈ gs.flatten,x ∈ shutC rs:=fun x hx=>by
    obtain ⟨o,_,h2⟩:=G.from_ x hx
    exact clA_shut h2
   have wl:gs.length<=63:=by
    cases gs with
    | nil=>exact Nat.zero_le _
    | cons g r =>
     have m1:=head_mem (G.ne g List.mem_cons_self)
     obtain ⟨o,ho,_⟩:=G.from_ _ (List.mem_flatten.mpr ⟨g,List.mem_cons_self,m1⟩)
     have:=List.length_pos_of_mem ho
     have h3:=Nat.le_trans (Parts.len_flat G.ne) (Parts.nodup_len (b:=shutC rs) G.nd gsh)
     omega
   refine ⟨_,rfl,k,ws,heads gs,rfl,SqL.of hk,Grps.firsts hG G.ne,heads_nodup G.ne G.nd,(by rw [hG.length]; omega),fun d is hd hperm hup=>?_⟩
   have s3:=same_new (o:=.lst (is.map fun i=>ws.getD i .non)) hd
   have hm:∀ i ∈ is,i < ws.length:=fun i hi=>List.mem_range.mp (hperm.mem_iff.mp hi)
   have hG3:Grps H2 (is.map fun i=>ws.getD i .non) (is.map fun i=>gs.getD i []):=pick_paired V.non [] hG is hm
   have pg:(is.map fun i=>gs.getD i []).Perm gs:=by
    have:=hperm.map (fun i=>gs.getD i [])
    rw [hG.length,pick_range] at this
    exact this
   refine q d _ _ _ ((s01.trans s2).free hd) upd_same (hG3.mono s3) (G.perm pg) ?_ ((s01.trans s2).trans s3)
   have eh:heads (is.map fun i=>gs.getD i [])=is.map fun i=>(heads gs).getD i (0,0):=by
    unfold heads
    rw [List.map_map]
    refine List.map_congr_left fun i hi=>?_
    have hi2:i < gs.length:=by rw [<- hG.length]; exact hm i hi
    simp [List.getD,hi2]
   rw [eh]
   exact hup
end
noncomputable def pD (p:Int × Int):PyData:=.tuple [.int p.1,.int p.2]
theorem pD_eqv (p q:Int × Int):PyData.eqv (pD p) (pD q)=decide (p=q):=PySem.SeqAt.pairs_eqv p q
noncomputable def PR (H:Hp)(v:V)(p:Int × Int):Prop:=∃ a,v=V.ref a/\H a=some (.tup [.int p.1,.int p.2])
theorem PR.mono {H H':Hp}(s:Same H H'){v:V}{p:Int × Int}(h:PR H v p):PR H' v p:=let ⟨a,e,h⟩:=h; ⟨a,e,s _ _ h⟩
theorem tup2_mono {H H':Hp}(s:Same H H'){us:List V}{ps:List (Int × Int)}(hp:Tup2 H us ps):Tup2 H' us ps:=by
 induction hp with
 | nil=>exact .nil
 | cons h _ ih =>
  exact .cons (PR.mono s h) ih
theorem tup2_len {H:Hp}{us:List V}{ps:List (Int × Int)}(h:Tup2 H us ps):us.length=ps.length:=Paired.length h
theorem PR.rdv {K:PySem.W.Frag}{H:Hp}{v:V}{p:Int × Int}(h:PR H v p):Rdv K H v (pD p):=by
 obtain ⟨a,rfl,h⟩:=h
 exact .tup (SqT.of h) (.cons (.int _) (.cons (.int _) .nil))
theorem tup2_rdv {K:PySem.W.Frag}{H:Hp}{us:List V}{ps:List (Int × Int)}(hp:Tup2 H us ps):RdvAll K H us (ps.map pD):=by
 induction hp with
 | nil=>exact .nil
 | cons h _ ih =>
  exact .cons (PR.rdv h) ih
theorem p_lays:∀ ps:List (Int × Int),PyData.canLayAll0 (ps.map pD)=true
 | []=>rfl
 | p :: r=>by
  show (PyData.canLay0 (pD p) && PyData.canLayAll0 (r.map pD))=true
  rw [p_lays r]
  rfl
theorem in_prs (ps:List (Int × Int))(p:Int × Int):(ps.map pD).any (fun z=>PyData.eqv z (pD p))=ps.any fun z=>decide (z=p):=by
 rw [List.any_map]
 congr 1
 funext z
 exact pD_eqv z p
theorem in_prc (ps:List (Int × Int))(c:Nat × Nat):(ps.map pD).any (fun z=>PyData.eqv z (cData c))=ps.any fun z=>decide (z=toI c):=in_prs ps (toI c)
theorem ref_ne {H:Hp}{a z:Addr}{o o':HO}(h:H a=some o)(hz:H z=some o')(hne:o ≠ o'):a ≠ z:=fun e=>by
 subst e
 rw [h] at hz
 exact hne (Option.some.inj hz)
theorem pr_into {H:Hp}{z:Addr}{ys ys':List V}(hz:H z=some (.lst ys)){v:V}{p:Int × Int}(h:PR H v p):PR (upd H z (.lst ys')) v p:=by
 obtain ⟨a,e,h⟩:=h
 refine ⟨a,e,?_⟩
 rw [upd_ne (ref_ne h hz (fun z=>nomatch z))]
 exact h
theorem tup2_into {H:Hp}{z:Addr}{ys ys':List V}(hz:H z=some (.lst ys)){us:List V}{ps:List (Int × Int)}(hp:Tup2 H us ps):Tup2 (upd H z (.lst ys')) us ps:=by
 induction hp with
 | nil=>exact .nil
 | cons h _ ih =>
  exact .cons (pr_into hz h) ih
noncomputable def Lists (N:Addr->Prop)(H:Hp):List V->List (List (Int × Int))->Prop:=Paired fun v k=>∃ a ws,v=V.ref a/\N a/\H a=some (.lst ws)/\Tup2 H ws k
theorem lists_mono {N:Addr->Prop}{H H':Hp}(s:Same H H'){us:List V}{ks:List (List (Int × Int))}(hp:Lists N H us ks):Lists N H' us ks:=by
 induction hp with
 | nil=>exact .nil
 | cons q _ ih =>
  obtain ⟨a,ws,e,n,h,t⟩:=q
  exact .cons ⟨a,ws,e,n,s _ _ h,tup2_mono s t⟩ ih
theorem lists_weak {N M:Addr->Prop}{H:Hp}(w:∀ a,N a->M a){us:List V}{ks:List (List (Int × Int))}(hp:Lists N H us ks):Lists M H us ks:=by
 induction hp with
 | nil=>exact .nil
 | cons q _ ih =>
  obtain ⟨a,ws,e,n,h,t⟩:=q
  exact .cons ⟨a,ws,e,w a n,h,t⟩ ih
theorem lists_into {N:Addr->Prop}{H:Hp}{z:Addr}{ys ys':List V}(hz:H z=some (.lst ys))(w:∀ a,N a->a ≠ z){us:List V}{ks:List (List (Int × Int))}(hp:Lists N H us ks):Lists N (upd H z (.lst ys')) us ks:=by
 induction hp with
 | nil=>exact .nil
 | cons q _ ih =>
  obtain ⟨a,ws,e,n,h,t⟩:=q
  exact .cons ⟨a,ws,e,n,by rw [upd_ne (w a n)]; exact h,tup2_into hz t⟩ ih
theorem lists_app {N:Addr->Prop}{H:Hp}{us:List V}{ks:List (List (Int × Int))}{us':List V}{ks':List (List (Int × Int))}(h:Lists N H us ks)(k:Lists N H us' ks'):Lists N H (us++us') (ks++ks'):=pr_app h k
theorem lists_len {N:Addr->Prop}{H:Hp}{us:List V}{ks:List (List (Int × Int))}(h:Lists N H us ks):us.length=ks.length:=Paired.length h
theorem lists_at {N:Addr->Prop}{H:Hp}{us:List V}{ks:List (List (Int × Int))}{i:Nat}{v:V}(h:Lists N H us ks)(e:us[i]?=some v):∃ k a ws,ks[i]?=some k/\v=V.ref a/\N a/\H a=some (.lst ws)/\Tup2 H ws k:=by
 obtain ⟨k,h1,a,ws,h2⟩:=pr_at h e
 exact ⟨k,a,ws,h1,h2⟩
theorem lists_lst {N:Addr->Prop}{H:Hp}{us:List V}{ks:List (List (Int × Int))}(hp:Lists N H us ks):Paired (GS.LstAt H) us ks:=by
 induction hp with
 | nil=>exact .nil
 | cons q _ ih =>
  obtain ⟨a,ws,e,_,h,t⟩:=q
  exact .cons ⟨a,ws,e,h,t⟩ ih
theorem lists_of {N:Addr->Prop}{H:Hp}{us:List V}{ks:List (List (Int × Int))}(hp:Paired (GS.LstAt H) us ks)(n:∀ v ∈ us,∃ a,v=V.ref a/\N a):Lists N H us ks:=by
 induction hp with
 | nil=>exact .nil
 | cons q _ ih =>
  obtain ⟨a,ws,e,h,t⟩:=q
  obtain ⟨b,e2,n2⟩:=n _ List.mem_cons_self
  subst e
  cases e2
  exact .cons ⟨_,ws,rfl,n2,h,t⟩ (ih fun v hv=>n v (List.mem_cons_of_mem _ hv))
theorem lists_has {N:Addr->Prop}{H:Hp}{us:List V}{ks:List (List (Int × Int))}{v:V}(h:Lists N H us ks)(e:v ∈ us):∃ a ws,v=V.ref a/\N a/\H a=some (.lst ws):=by
 obtain ⟨k,_,a,ws,h1,h2,h3,_⟩:=pr_mem h e
 exact ⟨a,ws,h1,h2,h3⟩
theorem tup2_app {H:Hp}{us:List V}{ps:List (Int × Int)}{us':List V}{ps':List (Int × Int)}(h:Tup2 H us ps)(k:Tup2 H us' ps'):Tup2 H (us++us') (ps++ps'):=pr_app h k
noncomputable def nearF (rs:List Str)(c x:Nat × Nat):Bool:=(aroundC rs c).any fun z=>decide (z=x)
noncomputable def numW (rs:List Str)(c:Nat × Nat):Int:=((Cells.sgn (codes rs) c:Nat):Int) - 48
theorem around_nd (rs:List Str)(c:Nat × Nat):(aroundC rs c).Nodup:=(lex_nodup (Cells.allCs_lex _ 0 (codes rs))).sublist List.filter_sublist
theorem cnt_near {rs:List Str}{o:Nat × Nat}{q:List (Nat × Nat)}(hq:q.Nodup):((aroundC rs o).filter fun x=>q.any fun z=>decide (z=x)).length=Grow.cnt (nearF rs) o q:=by
 unfold Grow.cnt
 refine List.Perm.length_eq ((List.perm_ext_iff_of_nodup ((around_nd rs o).sublist List.filter_sublist) (hq.sublist List.filter_sublist)).mpr fun x=>?_)
 rw [List.mem_filter,List.mem_filter]
 unfold nearF
 rw [List.any_eq_true,List.any_eq_true]
 constructor
 ·rintro ⟨h1,y,hy,e⟩
  have e2:y=x:=of_decide_eq_true e
  subst e2
  exact ⟨hy,y,h1,decide_eq_true rfl⟩
 ·rintro ⟨h1,y,hy,e⟩
  have e2:y=x:=of_decide_eq_true e
  subst e2
  exact ⟨hy,y,h1,decide_eq_true rfl⟩
noncomputable def ToldP (H:Hp)(rs:List Str)(v:V)(o:Nat × Nat):Prop:=∃ a na wn,v=V.ref a/\H a=some (.tup [.int (numW rs o),.ref na])/\H na=some (.lst wn)/\Cel H wn (aroundC rs o)
noncomputable def NeedP (H:Hp)(rs:List Str)(rest:List (Nat × Nat))(v:V)(o:Nat × Nat):Prop:=∃ a na wn,v=V.ref a/\H a=some (.tup [.int (numW rs o - ((Grow.cnt (nearF rs) o rest:Nat):Int)),.int (numW rs o),.ref na])/\H na=some (.lst wn)/\Cel H wn (aroundC rs o)
theorem told_mono {H H':Hp}(s:Same H H'){rs:List Str}{vs:List V}{cs:List (Nat × Nat)}(hp:Paired (ToldP H rs) vs cs):Paired (ToldP H' rs) vs cs:=by
 induction hp with
 | nil=>exact .nil
 | cons q _ ih =>
  obtain ⟨a,na,wn,e,h1,h3,h4⟩:=q
  exact .cons ⟨a,na,wn,e,s _ _ h1,s _ _ h3,h4.mono s⟩ ih
theorem need_mono {H H':Hp}(s:Same H H'){rs:List Str}{rest:List (Nat × Nat)}{vs:List V}{cs:List (Nat × Nat)}(hp:Paired (NeedP H rs rest) vs cs):Paired (NeedP H' rs rest) vs cs:=by
 induction hp with
 | nil=>exact .nil
 | cons q _ ih =>
  obtain ⟨a,na,wn,e,h1,h3,h4⟩:=q
  exact .cons ⟨a,na,wn,e,s _ _ h1,s _ _ h3,h4.mono s⟩ ih
theorem paired_at {α β:Type}{R:α->β->Prop}{vs:List α}{cs:List β}{i:Nat}{v:α}(h:Paired R vs cs)(e:vs[i]?=some v):∃ c,cs[i]?=some c/\R v c:=pr_at h e
theorem paired_app {α β:Type}{R:α->β->Prop}{us:List α}{cs:List β}{us':List α}{cs':List β}(h:Paired R us cs)(k:Paired R us' cs'):Paired R (us++us') (cs++cs'):=pr_app h k
noncomputable def NeedQ (H H':Hp)(rs:List Str)(rest:List (Nat × Nat))(v:V)(o:Nat × Nat):Prop:=∃ a na wn,v=V.ref a/\H' a=some (.tup [.int (numW rs o - ((Grow.cnt (nearF rs) o rest:Nat):Int)),.int (numW rs o),.ref na])/\H na=some (.lst wn)/\Cel H wn (aroundC rs o)
theorem needq_mono {H H1 H2:Hp}(s:Same H1 H2){rs:List Str}{rest:List (Nat × Nat)}{vs:List V}{cs:List (Nat × Nat)}(hp:Paired (NeedQ H H1 rs rest) vs cs):Paired (NeedQ H H2 rs rest) vs cs:=by
 induction hp with
 | nil=>exact .nil
 | cons q _ ih =>
  obtain ⟨a,na,wn,e,h1,h3,h4⟩:=q
  exact .cons ⟨a,na,wn,e,s _ _ h1,h3,h4⟩ ih
theorem needq_into {H H1:Hp}{z:Addr}{ys ys':List V}(hz:H1 z=some (.lst ys)){rs:List Str}{rest:List (Nat × Nat)}:∀ {vs:List V} {cs:List (Nat × Nat)},Paired (NeedQ H H1 rs rest) vs cs->Paired (NeedQ H (upd H1 z (.lst ys')) rs rest) vs cs
 | _,_,.nil=>.nil
 | _,_,.cons ⟨a,na,wn,e,h1,h3,h4⟩ t=>.cons ⟨a,na,wn,e,by
   have ne:a ≠ z:=fun e=>by
    subst e
    rw [h1] at hz
    cases hz
   rw [upd_ne ne]
   exact h1,h3,h4⟩ (needq_into hz t)
theorem needq_need {H H1:Hp}(s:Same H H1){rs:List Str}{rest:List (Nat × Nat)}{vs:List V}{cs:List (Nat × Nat)}(hp:Paired (NeedQ H H1 rs rest) vs cs):Paired (NeedP H1 rs rest) vs cs:=by
 induction hp with
 | nil=>exact .nil
 | cons q _ ih =>
  obtain ⟨a,na,wn,e,h1,h3,h4⟩:=q
  exact .cons ⟨a,na,wn,e,h1,s _ _ h3,h4.mono s⟩ ih
noncomputable def spNeeds:Sp:=fun vs H Q _=>∃ (ta ca ra:Addr) (ut ur:List V) (rs:List Str) (O rest:List (Nat × Nat)) (c:Nat × Nat),vs=[.ref ta,.ref ca,.ref ra]/\H ta=some (.lst ut)/\Paired (ToldP H rs) ut O/\O.length<=64/\Rows bd.cps.toList rs/\H ca=some (.tup [.int (c.1:Nat),.int (c.2:Nat)])/\H ra=some (.lst ur)/\Cel H ur rest/\rest.Nodup /\
 ∀ (d:Addr) (uw:List V) (H':Hp),H' d=some (.lst uw)->Paired (NeedP H' rs rest) uw (O.filter fun o=>nearF rs o c)->Same H H'->Q (.ref d) H'
noncomputable def spMay:Sp:=fun vs H Q _=>∃ (na pa:Addr) (un up:List V) (rs:List Str) (rest O q:List (Nat × Nat)),vs=[.ref na,.ref pa]/\H na=some (.lst un)/\Paired (NeedP H rs rest) un O/\H pa=some (.lst up)/\Cel H up q/\q.length<=64 /\
 ∀ H':Hp,Same H H'->Q (.bl (O.all fun o=>Grow.mayB (nearF rs) (numW rs) rest o q)) H'
section
variable {P:Program}{w:World}{K:PySem.W.Frag}{mg:Str->Option Value}{base:Heap}{f:Addr}{fd:FuncData}
theorem sc_needs_at:FnScope ["told","cell","rest","needs","number","near","left"] ["told","cell","rest"] (defScope s_needs_at):=⟨rfl,rfl,rfl,by decide +kernel,rfl,by decide +kernel,by decide +kernel⟩
theorem ok_needs_at (T:Txt mg)(D:DefAt K mg "needs_at" s_needs_at ["told","cell","rest"] f fd):FnOk P w K mg base CX0 1 f fd ["told","cell","rest"] spNeeds:=by
 refine D.F.ok sc_needs_at (fun vs H Q E h=>?_) (fun cdv A outer s H vs Q E hr h=>?_)
 ·obtain ⟨ta,ca,ra,ut,ur,rs,O,rest,c,rfl,_⟩:=h
  rfl
 ·obtain ⟨ta,ca,ra,ut,ur,rs,O,rest,c,rfl,hta,hT,ol,R,hca,hra,hcr,rnd,q⟩:=h
  refine ⟨_,(pss_cons (ps_set (i:=3) sc_needs_at.nd rfl (Or.inl rfl) (pe_lst pa_nil))
   (pss_cons (ps_for PassesOwn.never rfl (pi_list (pv 0)) (pg_tup rfl (pgs_cons (pg_name (i:=4) sc_needs_at.nd rfl (Or.inl rfl)) (pgs_cons (pg_name (i:=5) sc_needs_at.nd rfl (Or.inl rfl)) pgs_nil))) (pss_one (ps_if (pt_cmpR (op_in_deep hr.units) (pv 1) (pv 5) (by rfl)) (pss_cons (ps_set (i:=6) sc_needs_at.nd rfl (Or.inl rfl) (pe_callB call_len_seq (by rfl) T.b_len PySem.boot_len (pa_cons (pe_comp (N:=["place","rest"]) (src:=[none,some 2]) (CompOk.free (O:=(defScope s_needs_at).names) (XN:=["told","cell","rest","needs","number","near","left"]) rfl rfl ⟨_,rfl⟩ rfl rfl (by decide +kernel) (by decide +kernel) (by decide +kernel) rfl (by decide +kernel)) rfl (pi_list (pv 5)) (fun _ _ _ _ _=>(pg_name (i:=0) (by show List.Nodup (["place","rest"]:List Str); decide +kernel) rfl (Or.inl rfl))) (fun _ _ _ _ _=>(pifs_one (pt_cmpR (op_in_deepK (K:=K) (by rfl) hr.units) (pv 0) (pv 1) (by rfl)))) (fun _ _ _ _ _=>(pv 0))) pa_nil)))
   (pss_one (ps_expr (pe_bm PySem.F.plainAttrs_list PySem.F.slot_list_append PySem.F.type_list_append mt_append (pv 3) (pa_cons (pe_tup (pa_cons (pe_op op_sub (pv 4) (pv 6)) (pa_cons (pv 4) (pa_cons (pv 5) pa_nil)))) pa_nil))))) pss_nil)))
   (pss_one (ps_ret (pv 3))))),?_⟩
  refine ⟨(by show 0<=sizeLine; decide),fun d hd=>?_⟩
  have s0:=same_new (o:=.lst []) hd
  refine ⟨_,rfl,ta,rfl,⟨_,SqL.of (s0 _ _ hta)⟩,?_⟩
  refine for_list (K:=K) (a:=ta) (xs:=ut) (fun i σ H'=>∃ (uw:List V) (v4 v5 v6:Option V),σ=[some (.ref ta),some (.ref ca),some (.ref ra),some (.ref d),v4,v5,v6]/\Same H H'/\H' d=some (.lst uw)/\Paired (NeedQ H H' rs rest) uw ((O.take i).filter fun o=>nearF rs o c))
   ⟨[],_,_,_,rfl,s0,upd_same,.nil⟩ (fun i σ H' _ ⟨_,_,_,_,_,z,_⟩=>SqL.of (z _ _ hta)) ?_ ?_
  ·rintro i x σ H1 hx ⟨uw,v4,v5,v6,rfl,s1,hd1,hN⟩
   obtain ⟨o,ho,a,na,wn,rfl,ha0,hna0,hcn0⟩:=paired_at hT hx
   have ha:=s1 _ _ ha0
   have hna:=s1 _ _ hna0
   have hcn:=hcn0.mono s1
   have tk:O.take (i + 1)=O.take i++[o]:=by
    rw [List.take_add_one,ho]
    rfl
   refine ⟨a,_,rfl,SqT.of ha,rfl,_,_,rfl,_,_,rfl,rfl,?_⟩
   refine ⟨_,rfl,_,rfl,cData c,(aroundC rs o).map cData,CelR.rdv ⟨ca,rfl,s1 _ _ hca⟩,.lst (SqL.of hna) (gRdv hcn),rfl,lays _,(by show 1<=60; decide),_,rfl,?_⟩
   have ei:(if false=true then !((aroundC rs o).map cData).any (fun z=>PyData.eqv z (cData c)) else ((aroundC rs o).map cData).any fun z=>PyData.eqv z (cData c))=nearF rs o c:=in_cells _ _
   rw [ei,tk,List.filter_append,List.filter_cons]
   by_cases hp:nearF rs o c=true
   ·rw [if_pos hp]
    refine iteP hp ⟨_,rfl,na,rfl,⟨_,SqL.of hna⟩,fun z hz=>?_⟩
    refine comp_data (K:=K) (a:=na) (xs:=wn) (fun a=>a ≠ z) ((aroundC rs o).map fun x=>if (rest.any fun z=>decide (z=x))=true then some (cData x) else none) (fun σ=>∃ u0,σ=[u0,some (.ref ra)]) hz (fun _ h=>h) ⟨_,rfl⟩ (by rw [List.length_map]; exact hcn.length.symm) (by rw [hcn.length]; exact Nat.le_trans (aroundC_short R o) (by decide)) (SqL.of hna) ?_ ?_
    ·rintro m v u σ H2 hv hu s2 _ ⟨u1,rfl⟩ Y Z yes no
     obtain ⟨e,he,rc⟩:=Cel.get (hcn.mono s2) hv
     have eo:=map_at he hu
     refine ⟨_,rfl,_,rfl,cData e,rest.map cData,rc.rdv,.lst (SqL.of (s2 _ _ (s1 _ _ hra))) (gRdv ((hcr.mono s1).mono s2)),rfl,lays _,(by show 1<=60; decide),_,rfl,?_⟩
     have ei:(if false=true then !(rest.map cData).any (fun z=>PyData.eqv z (cData e)) else (rest.map cData).any fun z=>PyData.eqv z (cData e))=rest.any fun z=>decide (z=e):=in_cells _ _
     rw [ei]
     by_cases hp:(rest.any fun z=>decide (z=e))=true
     ·rw [if_pos hp] at eo
      exact iteP hp ⟨_,rfl,yes _ _ _ _ eo ⟨_,rfl⟩ (Same.refl _) rc.rdn⟩
     ·rw [if_neg hp] at eo
      exact iteN (Bool.eq_false_iff.mpr hp) (no _ _ eo ⟨_,rfl⟩ (Same.refl _))
    rintro ys H2 s2 hz2 hr2
    have er:((aroundC rs o).map fun x=>if (rest.any fun z=>decide (z=x))=true then some (cData x) else none).filterMap id=((aroundC rs o).filter fun x=>rest.any fun z=>decide (z=x)).map cData:=outs_filter _ _ _
    rw [er] at hr2
    have yl:ys.length=Grow.cnt (nearF rs) o rest:=(RdnAll.cel hr2).length.trans (cnt_near rnd)
    have hd2:=s2 _ _ hd1
    refine ⟨z,ys,rfl,.inl (SqL.of hz2),?_⟩
    rw [yl]
    refine ⟨_,rfl,.inl ⟨rfl,_,SqL.of hd2⟩,_,rfl,_,rfl,_,_,rfl,rfl,_,rfl,_,rfl,(by show 3<=sizeLine; decide),fun tt htt=>?_⟩
    have z3:=same_new (o:=.tup [.int (numW rs o - ((Grow.cnt (nearF rs) o rest:Nat):Int)),.int (numW rs o),.ref na]) htt
    have s23:=s2.trans z3
    have uwl:uw.length<=64:=by
     rw [Paired.length hN]
     refine Nat.le_trans (List.length_filter_le _ _) ?_
     rw [List.length_take]
     omega
    have hd3:=z3 _ _ hd2
    refine ⟨d,uw,_,rfl,rfl,hd3,Nat.lt_of_le_of_lt uwl (by decide),uw++[.ref tt],_,_,_,rfl,fun b e' h'=>?_,upd_same,paired_app (needq_into hd3 (needq_mono s23 hN)) (.cons ⟨tt,na,wn,rfl,?_,hna0,hcn0⟩ .nil)⟩
    ·rw [upd_ne (ne_of_none h' hd)]
     exact s23 _ _ (s1 _ _ h')
    ·have ne:tt ≠ d:=fun e=>by
      subst e
      rw [hd2] at htt
      cases htt
     rw [upd_ne ne,upd_same]
   ·rw [if_neg hp]
    refine iteN (Bool.eq_false_iff.mpr hp) ⟨uw,_,_,_,rfl,s1,hd1,?_⟩
    rw [List.filter_nil,List.append_nil]
    exact hN
  ·rintro σ H1 ⟨uw,v4,v5,v6,rfl,s1,hd1,hN⟩
   rw [Paired.length hT,List.take_length] at hN
   exact ⟨_,rfl,q d uw H1 hd1 (needq_need s1 hN) s1⟩
theorem sc_may_fit:FnScope ["needs","pick","least","most","near"] ["needs","pick"] (defScope s_may_fit):=⟨rfl,rfl,rfl,by decide +kernel,rfl,by decide +kernel,by decide +kernel⟩
theorem ok_may_fit (T:Txt mg)(D:DefAt K mg "may_fit" s_may_fit ["needs","pick"] f fd):FnOk P w K mg base CX0 1 f fd ["needs","pick"] spMay:=by
 refine D.F.ok sc_may_fit (fun vs H Q E h=>?_) (fun cdv A outer s H vs Q E hr h=>?_)
 ·obtain ⟨na,pa,un,up,rs,rest,O,p,rfl,_⟩:=h
  rfl
 ·obtain ⟨na,pa,un,up,rs,rest,O,p,rfl,hna,hN,hpa,hcp,pl,q⟩:=h
  refine ⟨_,(pss_cons (ps_for PassesOwn.never rfl (pi_list (pv 0)) (pg_tup rfl (pgs_cons (pg_name (i:=2) sc_may_fit.nd rfl (Or.inl rfl)) (pgs_cons (pg_name (i:=3) sc_may_fit.nd rfl (Or.inl rfl)) (pgs_cons (pg_name (i:=4) sc_may_fit.nd rfl (Or.inr rfl)) pgs_nil)))) (pss_one (ps_if (pt_not (pt_chain op_le op_le (pv 2) (pe_callB call_len_seq (by rfl) T.b_len PySem.boot_len (pa_cons (pe_comp (N:=["cell","near"]) (src:=[none,some 4]) (CompOk.free (O:=(defScope s_may_fit).names) (XN:=["needs","pick","least","most","near"]) rfl rfl ⟨_,rfl⟩ rfl rfl (by decide +kernel) (by decide +kernel) (by decide +kernel) rfl (by decide +kernel)) rfl (pi_list (pv 1)) (fun _ _ _ _ _=>(pg_name (i:=0) (by show List.Nodup (["cell","near"]:List Str); decide +kernel) rfl (Or.inl rfl))) (fun _ _ _ _ _=>(pifs_one (pt_cmpR (op_in_deepK (K:=K) (by rfl) hr.units) (pv 0) (pv 1) (by rfl)))) (fun _ _ _ _ _=>(pv 0))) pa_nil)) (pv 3))) (pss_one (ps_ret pe_bl)) pss_nil)))
   (pss_one (ps_ret pe_bl))),?_⟩
  refine ⟨_,rfl,na,rfl,⟨_,SqL.of hna⟩,?_⟩
  refine for_list (K:=K) (a:=na) (xs:=un) (fun i σ H'=>∃ (v2 v3 v4:Option V),σ=[some (.ref na),some (.ref pa),v2,v3,v4]/\Same H H'/\∀ o ∈ O.take i,Grow.mayB (nearF rs) (numW rs) rest o p=true)
   ⟨_,_,_,rfl,Same.refl _,fun o ho=>by simp at ho⟩ (fun i σ H' _ ⟨_,_,_,_,z,_⟩=>SqL.of (z _ _ hna)) ?_ ?_
  ·rintro i x σ H1 hx ⟨v2,v3,v4,rfl,s1,hall⟩
   obtain ⟨o,ho,a,ra,wn,rfl,ha,hra,hcn⟩:=paired_at (need_mono s1 hN) hx
   refine ⟨a,_,rfl,SqT.of ha,rfl,_,_,rfl,_,_,rfl,_,_,rfl,rfl,?_⟩
   refine ⟨_,rfl,_,rfl,pa,rfl,⟨_,SqL.of (s1 _ _ hpa)⟩,fun z hz=>?_⟩
   refine comp_data (K:=K) (a:=pa) (xs:=up) (fun a=>a ≠ z) (p.map fun x=>if nearF rs o x=true then some (cData x) else none) (fun σ=>∃ u0,σ=[u0,some (.ref ra)]) hz (fun _ h=>h) ⟨_,rfl⟩ (by rw [List.length_map]; exact hcp.length.symm) (by rw [hcp.length]; exact Nat.le_trans pl (by decide)) (SqL.of (s1 _ _ hpa)) ?_ ?_
   ·rintro m v u σ H2 hv hu s2 _ ⟨u1,rfl⟩ Y Z yes no
    obtain ⟨e,he,rc⟩:=Cel.get ((hcp.mono s1).mono s2) hv
    have eo:=map_at he hu
    refine ⟨_,rfl,_,rfl,cData e,(aroundC rs o).map cData,rc.rdv,.lst (SqL.of (s2 _ _ hra)) (gRdv (hcn.mono s2)),rfl,lays _,(by show 1<=60; decide),_,rfl,?_⟩
    have ei:(if false=true then !((aroundC rs o).map cData).any (fun z=>PyData.eqv z (cData e)) else ((aroundC rs o).map cData).any fun z=>PyData.eqv z (cData e))=nearF rs o e:=in_cells _ _
    rw [ei]
    by_cases hp:nearF rs o e=true
    ·rw [if_pos hp] at eo
     exact iteP hp ⟨_,rfl,yes _ _ _ _ eo ⟨_,rfl⟩ (Same.refl _) rc.rdn⟩
    ·rw [if_neg hp] at eo
     exact iteN (Bool.eq_false_iff.mpr hp) (no _ _ eo ⟨_,rfl⟩ (Same.refl _))
   rintro ys H2 s2 hz2 hr2
   have er:(p.map fun x=>if nearF rs o x=true then some (cData x) else none).filterMap id=(p.filter (nearF rs o)).map cData:=outs_filter _ _ _
   rw [er] at hr2
   have yl:ys.length=Grow.cnt (nearF rs) o p:=(RdnAll.cel hr2).length
   refine ⟨z,ys,rfl,.inl (SqL.of hz2),?_⟩
   rw [yl]
   have om:=List.mem_of_getElem? ho
   have tk:O.take (i + 1)=O.take i++[o]:=by
    rw [List.take_add_one,ho]
    rfl
   have bad:Grow.mayB (nearF rs) (numW rs) rest o p=false->Q (.bl false) H2:=fun e=>by
    have e2:(O.all fun o=>Grow.mayB (nearF rs) (numW rs) rest o p)=false:=Bool.eq_false_iff.mpr fun z=>by
     have:=List.all_eq_true.mp z o om
     rw [e] at this
     cases this
    rw [e2] at q
    exact q _ (s1.trans s2)
   refine ⟨_,_,rfl,rfl,_,rfl,?_⟩
   by_cases h1:numW rs o - ((Grow.cnt (nearF rs) o rest:Nat):Int)<=((Grow.cnt (nearF rs) o p:Nat):Int)
   ·rw [decide_eq_true h1]
    refine iteT ⟨_,rfl,_,_,rfl,rfl,_,rfl,?_⟩
    by_cases h2:((Grow.cnt (nearF rs) o p:Nat):Int)<=numW rs o
    ·rw [decide_eq_true h2]
     refine iteF ⟨_,_,_,rfl,s1.trans s2,fun o' ho'=>?_⟩
     rw [tk] at ho'
     rcases List.mem_append.mp ho' with ho' | ho'
     ·exact hall o' ho'
     ·have e:o'=o:=by simpa using ho'
      rw [e]
      exact Grow.may_iff.mpr ⟨h1,h2⟩
    ·rw [decide_eq_false h2]
     exact iteT (bad (Bool.eq_false_iff.mpr fun z=>h2 (Grow.may_iff.mp z).2))
   ·rw [decide_eq_false h1]
    refine iteF ⟨_,rfl,?_⟩
    exact iteT (bad (Bool.eq_false_iff.mpr fun z=>h1 (Grow.may_iff.mp z).1))
  ·rintro σ H1 ⟨v2,v3,v4,rfl,s1,hall⟩
   rw [Paired.length hN,List.take_length] at hall
   have e:(O.all fun o=>Grow.mayB (nearF rs) (numW rs) rest o p)=true:=List.all_eq_true.mpr hall
   rw [e] at q
   exact q H1 s1
end
noncomputable def toL (q:List (Nat × Nat)):List (Int × Int):=q.map toI
noncomputable def spPL:Sp:=fun vs H Q _=>∃ (a l pa:Addr) (rs:List Str) (n:Int) (ups:List V) (part:List (Nat × Nat)),vs=[.ref a,.ref pa]/\BoardAt H a l rs n/\Rows bd.cps.toList rs/\H pa=some (.lst ups)/\Cel H ups part/\part.Nodup/\part.length<=14 /\
 ∀ (d:Addr) (ws:List V) (ks:List (List (Int × Int))) (H':Hp),H d=none->H' d=some (.lst ws)->Lists (fun a=>H a=none/\a ≠ d) H' ws ks->ws.Nodup->ks.Perm (((Subs.subs part).filter (Grow.fits (nearF rs) (numW rs) (numC rs part) part)).map toL)->ks.Pairwise (fun p q=>PySem.SeqAt.ltL q p=false)->Same H H'->Q (.ref d) H'
noncomputable def grownTo (rs:List Str)(part:List (Nat × Nat)):Nat->List (List (Nat × Nat))
 | 0=>[[]]
 | i + 1=>match part[i]? with
  | some c=>(Subs.step (grownTo rs part i) c).filter (Grow.chk (nearF rs) (numW rs) (numC rs part) c (part.drop (i + 1)))
  | none=>grownTo rs part i
theorem grown_at {rs:List Str}{part:List (Nat × Nat)}{i:Nat}{c:Nat × Nat}(h:part[i]?=some c):grownTo rs part (i + 1)=(Subs.step (grownTo rs part i) c).filter (Grow.chk (nearF rs) (numW rs) (numC rs part) c (part.drop (i + 1))):=by
 show (match part[i]? with | some c=>_ | none=>_)=_
 rw [h]
theorem grown_rest {rs:List Str}{part:List (Nat × Nat)}:∀ (k i:Nat),part.length - i=k->i<=part.length->Grow.grow (nearF rs) (numW rs) (numC rs part) (grownTo rs part i) (part.drop i)=grownTo rs part part.length
 | 0,i,h,hi=>by
  have e:i=part.length:=by omega
  subst e
  rw [List.drop_length]
  rfl
 | k + 1,i,h,hi=>by
  have hl:i < part.length:=by omega
  rw [List.drop_eq_getElem_cons hl]
  show Grow.grow _ _ _ ((Subs.step (grownTo rs part i) part[i]).filter _) (part.drop (i + 1))=_
  rw [<- grown_at (List.getElem?_eq_getElem hl)]
  exact grown_rest k (i + 1) (by omega) (by omega)
theorem grown_all (rs:List Str)(part:List (Nat × Nat)):grownTo rs part part.length=(Subs.subs part).filter (Grow.fits (nearF rs) (numW rs) (numC rs part) part):=by
 rw [<- Grow.grow_is]
 exact (grown_rest (rs:=rs) (part:=part) part.length 0 (by omega) (Nat.zero_le _)).symm
theorem grown_len (rs:List Str)(part:List (Nat × Nat)):∀ i,(grownTo rs part i).length<=2 ^ i
 | 0=>Nat.le_refl _
 | i + 1=>by
  have ih:=grown_len rs part i
  show (match part[i]? with | some c=>_ | none=>_:List (List (Nat × Nat))).length<=_
  rw [Nat.pow_succ]
  split
  ·refine Nat.le_trans (List.length_filter_le _ _) ?_
   unfold Subs.step
   rw [List.length_append,List.length_map]
   omega
  ·omega
theorem grown_deep (rs:List Str)(part:List (Nat × Nat)):∀ i,∀ q ∈ grownTo rs part i,q.length<=i
 | 0,q,h=>by
  have e:q=[]:=by simpa [grownTo] using h
  rw [e]
  exact Nat.le_refl _
 | i + 1,q,h=>by
  have ih:=grown_deep rs part i
  cases e:part[i]? with
  | none =>
   have e2:grownTo rs part (i + 1)=grownTo rs part i:=by
    show (match part[i]? with | some c=>_ | none=>_)=_
    rw [e]
   rw [e2] at h
   exact Nat.le_succ_of_le (ih q h)
  | some c =>
   rw [grown_at e] at h
   have h:=(List.mem_filter.mp h).1
   rcases List.mem_append.mp h with h | h
   ·exact Nat.le_succ_of_le (ih q h)
   ·obtain ⟨p,hp,rfl⟩:=List.mem_map.mp h
    rw [List.length_append]
    exact Nat.succ_le_succ (ih p hp)
noncomputable def tD2 (rs:List Str)(c:Nat × Nat):PyData:=.tuple [.int (numW rs c),.list ((aroundC rs c).map cData)]
theorem told2_of {N:Addr->Prop}{H:Hp}{rs:List Str}{v:V}{c:Nat × Nat}(h:Rdn N H v (tD2 rs c)):ToldP H rs v c:=by
 unfold tD2 at h
 generalize ed:(aroundC rs c).map cData=ds at h
 cases h with
 | tup h t =>
  cases t with
  | cons b t =>
   cases b
   cases t with
   | cons d t =>
    cases t
    cases d with
    | lst n h1 h2 =>
     subst ed
     exact ⟨_,_,_,rfl,h,h1,RdnAll.cel h2⟩
theorem told2s_of {N:Addr->Prop}{H:Hp}{rs:List Str}:∀ {cs:List (Nat × Nat)} {vs:List V},RdnAll N H vs (cs.map (tD2 rs))->Paired (ToldP H rs) vs cs
 | [],_,.nil=>.nil
 | _ :: _,_,.cons h t=>.cons (told2_of h) (told2s_of t)
theorem yes_if {σ:St}{H:Hp}{A B:Hp->Prop}(h:A H):tYes σ H fun b H4=>if b=true then A H4 else B H4:=by
 show if true=true then A H else B H
 rw [if_pos rfl]
 exact h
theorem toL_at {F:List (List (Nat × Nat))}{j:Nat}{k:List (Int × Int)}(h:(F.map toL)[j]?=some k):∃ q,F[j]?=some q/\k=toL q:=by
 rw [List.getElem?_map] at h
 cases e:F[j]? with
 | none=>rw [e] at h; cases h
 | some q =>
  rw [e] at h
  cases h
  exact ⟨q,rfl,rfl⟩
theorem cut_from (xs:List V)(i:Nat)(hi:i < xs.length):cutV xs (some (((i:Nat):Int) + 1)) none=xs.drop (i + 1):=by
 have e:HT.sIx xs.length 0 (some (((i:Nat):Int) + 1))=i + 1:=by
  have:=HT.sIx_nat xs.length 0 (i + 1)
  rw [Int.natCast_add] at this
  rw [show (((i:Nat):Int) + 1)=((i:Nat):Int) + ((1:Nat):Int) from rfl,this]
  omega
 unfold cutV
 rw [e]
 show (xs.drop (i + 1)).take (xs.length - (i + 1))=_
 rw [List.take_of_length_le (by rw [List.length_drop]; omega)]
theorem cel_drop {H:Hp}:∀ {us:List V} {cs:List (Nat × Nat)} (i:Nat),Cel H us cs->Cel H (us.drop i) (cs.drop i)
 | _,_,0,h=>h
 | _,_,i + 1,.nil=>.nil
 | _,_,i + 1,.cons _ t=>cel_drop i t
section
variable {P:Program}{w:World}{K:PySem.W.Frag}{mg:Str->Option Value}{base:Heap}{f:Addr}{fd:FuncData}
theorem sc_part_layings:FnScope ["board","part","told","found","place","cell","needs","grown"] ["board","part"] (defScope s_part_layings):=⟨rfl,rfl,rfl,by decide +kernel,rfl,by decide +kernel,by decide +kernel⟩
theorem ok_part_layings {f1 f2 f3 f4 f5 f6 f7 f8:Addr}{fd1 fd2 fd3 fd4 fd5 fd6 fd7 fd8:FuncData}(T:Txt mg)(D:DefAt K mg "part_layings" s_part_layings ["board","part"] f fd)(D_around:DefAt K mg "around" s_around ["board","cell"] f1 fd1)(D_sign_at:DefAt K mg "sign_at" s_sign_at ["board","cell"] f2 fd2)
  (D_cells_of:DefAt K mg "cells_of" s_cells_of ["board"] f3 fd3) (D_open_cells:DefAt K mg "open_cells" s_open_cells ["board"] f4 fd4) (D_number_at:DefAt K mg "number_at" s_number_at ["board","cell"] f5 fd5) (D_numbers_of:DefAt K mg "numbers_of" s_numbers_of ["board","part"] f6 fd6)
  (D_needs_at:DefAt K mg "needs_at" s_needs_at ["told","cell","rest"] f7 fd7) (D_may_fit:DefAt K mg "may_fit" s_may_fit ["needs","pick"] f8 fd8):FnOk P w K mg base CX0 4 f fd ["board","part"] spPL:=by
 have G_around:FnOk P w K mg base CX0 1 f1 fd1 ["board","cell"] spAround:=ok_around T D_around
 have G_number_at:FnOk P w K mg base CX0 2 f5 fd5 ["board","cell"] spNumber:=ok_number_at T D_number_at D_sign_at
 have G_numbers_of:FnOk P w K mg base CX0 3 f6 fd6 ["board","part"] spNums:=ok_numbers_of T D_numbers_of D_around D_sign_at D_cells_of D_open_cells
 have G_needs_at:FnOk P w K mg base CX0 1 f7 fd7 ["told","cell","rest"] spNeeds:=ok_needs_at T D_needs_at
 have G_may_fit:FnOk P w K mg base CX0 1 f8 fd8 ["needs","pick"] spMay:=ok_may_fit T D_may_fit
 refine D.F.ok sc_part_layings (fun vs H Q E h=>?_) (fun cdv A outer s H vs Q E hr h=>?_)
 ·obtain ⟨a,l,pa,rs,n,ups,part,rfl,_⟩:=h
  rfl
 ·obtain ⟨a,l,pa,rs,n,ups,part,rfl,b,R,hpa,hcp,pnd,pl,q⟩:=h
  have ul:=hcp.length
  refine ⟨_,(pss_cons (ps_if (pt_cmpR op_gt (pe_callB call_len_seq (by rfl) T.b_len PySem.boot_len (pa_cons (pv 1) pa_nil)) (pe_glob (v:=.int 14) (by rfl) T.v_MOST_OF_PART.choose_spec (by exact ⟨_,rfl⟩)) (nomark _)) (pss_one ps_never) pss_nil)
   (pss_cons (ps_setC (i:=2) sc_part_layings.nd rfl rfl (N:=["cell","board"]) (src:=[none,some 0]) (CompOk.free (O:=(defScope s_part_layings).names) (XN:=["board","part","told","found","place","cell","needs","grown"]) rfl rfl ⟨_,rfl⟩ rfl rfl (by decide +kernel) (by decide +kernel) (by decide +kernel) rfl (by decide +kernel)) rfl (pi_list (pe_call G_numbers_of (hr.mono (by decide)) (by rfl) D_numbers_of.g D_numbers_of.F.kp D_numbers_of.b .nil pass0 (pa_cons (pv 0) (pa_cons (pv 1) pa_nil)))) (fun _ _ _ _ _=>(pg_name (i:=0) (by show List.Nodup (["cell","board"]:List Str); decide +kernel) rfl (Or.inl rfl))) (fun _ _ _ _ _=>pifs_nil) (fun _ _ _ _ _=>(pe_tup (pa_cons (pe_call G_number_at (hr.mono (by decide)) (by rfl) D_number_at.g D_number_at.F.kp D_number_at.b .nil pass0 (pa_cons (pv 1) (pa_cons (pv 0) pa_nil))) (pa_cons (pe_call G_around (hr.mono (by decide)) (by rfl) D_around.g D_around.F.kp D_around.b .nil pass0 (pa_cons (pv 1) (pa_cons (pv 0) pa_nil))) pa_nil)))))
   (pss_cons (ps_set (i:=3) sc_part_layings.nd rfl (Or.inl rfl) (pe_lst (pa_cons (pe_lst pa_nil) pa_nil)))
   (pss_cons (ps_for PassesOwn.never rfl (pi_enumL (by rfl) T.b_enumerate (pa_cons (pv 1) pa_nil)) (pg_tup rfl (pgs_cons (pg_name (i:=4) sc_part_layings.nd rfl (Or.inl rfl)) (pgs_cons (pg_name (i:=5) sc_part_layings.nd rfl (Or.inr rfl)) pgs_nil))) (pss_cons (ps_set (i:=6) sc_part_layings.nd rfl (Or.inr rfl) (pe_call G_needs_at (hr.mono (by decide)) (by rfl) D_needs_at.g D_needs_at.F.kp D_needs_at.b .nil pass0 (pa_cons (pv 2) (pa_cons (pv 5) (pa_cons (pe_slice sl_list (pv 1) (po_some (pe_op op_add (pv 4) pe_int)) po_none) pa_nil)))))
   (pss_cons (ps_set (i:=7) sc_part_layings.nd rfl (Or.inl rfl) (pe_op op_cat (pv 3) (pe_comp (N:=["pick","cell"]) (src:=[none,some 5]) (CompOk.free (O:=(defScope s_part_layings).names) (XN:=["board","part","told","found","place","cell","needs","grown"]) rfl rfl ⟨_,rfl⟩ rfl rfl (by decide +kernel) (by decide +kernel) (by decide +kernel) rfl (by decide +kernel)) rfl (pi_list (pv 3)) (fun _ _ _ _ _=>(pg_name (i:=0) (by show List.Nodup (["pick","cell"]:List Str); decide +kernel) rfl (Or.inl rfl))) (fun _ _ _ _ _=>pifs_nil) (fun _ _ _ _ _=>(pe_op op_cat (pv 0) (pe_lst (pa_cons (pv 1) pa_nil)))))))
   (pss_one (ps_setC (i:=3) sc_part_layings.nd rfl rfl (N:=["pick","needs"]) (src:=[none,some 6]) (CompOk.free (O:=(defScope s_part_layings).names) (XN:=["board","part","told","found","place","cell","needs","grown"]) rfl rfl ⟨_,rfl⟩ rfl rfl (by decide +kernel) (by decide +kernel) (by decide +kernel) rfl (by decide +kernel)) rfl (pi_list (pv 7)) (fun _ _ _ _ _=>(pg_name (i:=0) (by show List.Nodup (["pick","needs"]:List Str); decide +kernel) rfl (Or.inl rfl))) (fun _ _ _ _ _=>(pifs_one (pt_truthK (K:=K) (by rfl) (pe_call G_may_fit (hr.mono (by decide)) (by rfl) D_may_fit.g D_may_fit.F.kp D_may_fit.b .nil pass0 (pa_cons (pv 1) (pa_cons (pv 0) pa_nil))) (fun _=>rfl)))) (fun _ _ _ _ _=>(pv 0)))))))
   (pss_one (ps_ret (pe_callB (GS.call_sortedGL hr.units) (by rfl) T.b_sorted PyProof.Rows.boot_sorted (pa_cons (pv 3) pa_nil)))))))),?_⟩
  refine ⟨_,rfl,pa,ups,rfl,.inl (SqL.of hpa),_,_,rfl,rfl,_,rfl,?_⟩
  refine iteN (decide_eq_false (by omega)) ?_
  refine ⟨_,rfl,_,rfl,a,l,pa,rs,n,ups,part,rfl,b,R,hpa,hcp,fun d ws H1 hd hd1 hc1 s1=>⟨d,rfl,⟨_,SqL.of hd1⟩,fun z hz=>?_⟩⟩
  have b1:=b.mono s1
  have nl:(numC rs part).length<=64:=Nat.le_trans (List.length_filter_le _ _) (all_short (p:=pOpen) R)
  refine comp_data (K:=K) (a:=d) (xs:=ws) (fun a=>a ≠ z) ((numC rs part).map fun c=>some (tD2 rs c)) (fun σ=>∃ u0,σ=[u0,some (.ref a)]) hz (fun _ h=>h) ⟨_,rfl⟩ (by rw [List.length_map]; exact hc1.length.symm) (by rw [hc1.length]; exact Nat.le_trans nl (by decide)) (SqL.of hd1) ?_ ?_
  ·rintro k x o σ H2 hx ho s2 hzn ⟨u0,rfl⟩ Y Z yes no
   obtain ⟨y,hy,r1⟩:=Cel.get hc1 hx
   have eo:=map_at hy ho
   have yo:y ∈ openC rs:=(List.mem_filter.mp (List.mem_of_getElem? hy)).1
   obtain ⟨t,sg,ht,hj,hop,es⟩:=cell_at_board yo
   obtain ⟨ya,rfl,hya⟩:=r1
   obtain ⟨l1,l2⟩:=cell_small R ht hj
   obtain ⟨o1,o2⟩:=open_sign (sign_in R ht hj) hop
   have b2:=b1.mono s2
   have hya2:=s2 _ _ hya
   refine tYes_it ⟨_,rfl,_,rfl,a,l,ya,rs,n,y.1,y.2,t,sg,rfl,b2,hya2,ht,hj,R.tlen ht,o1,o2,_,rfl,_,rfl,a,l,ya,rs,n,y.1,y.2,rfl,b2,R,hya2,l1,l2,fun d2 ws2 H3 hd2 hd3 hc2 s3=>⟨(by show 2<=sizeLine; decide),fun tt htt=>?_⟩⟩
   have s4:=same_new (o:=.tup [.int (((sg:Nat):Int) - 48),.ref d2]) htt
   have en:numW rs y=((sg:Nat):Int) - 48:=by
    unfold numW
    rw [es]
   refine yes _ _ _ _ eo ⟨_,rfl⟩ (s3.trans s4) (.tup upd_same (.cons ?_ (.cons (.lst (fun e=>hzn (e ▸ hd2)) (s4 _ _ hd3) (Cel.rdn (hc2.mono s4))) .nil)))
   rw [en]
   exact .int _
  rintro ut H2 s2 hz2 hr2
  rw [outs_all] at hr2
  have hT:=told2s_of hr2
  have s02:=s1.trans s2
  refine ⟨(by show 0<=sizeLine; decide),fun e0 he0=>⟨(by show 1<=sizeLine; decide),fun f0 hf0=>?_⟩⟩
  have y1:=same_new (o:=.lst []) he0
  have y2:=same_new (o:=.lst [.ref e0]) hf0
  have y12:=y1.trans y2
  have hL0:Lists (fun a=>H2 a=none) (upd (upd H2 e0 (.lst [])) f0 (.lst [.ref e0])) [.ref e0] ([[]]:List (List (Int × Int))):=.cons ⟨e0,[],rfl,he0,y2 _ _ upd_same,.nil⟩ .nil
  have hf3:upd (upd H2 e0 (.lst [])) f0 (.lst [.ref e0]) f0=some (.lst [.ref e0]):=upd_same
  generalize upd (upd H2 e0 (.lst [])) f0 (.lst [.ref e0])=H3 at *
  have hpa2:=s02 _ _ hpa
  refine ⟨_,rfl,pa,rfl,⟨_,SqL.of (y12 _ _ hpa2)⟩,?_⟩
  refine for_enumL (K:=K) (l:=pa) (xs:=ups) (fun i σ H'=>∃ (fa:Addr) (fs:List V) (v4 v5 v6 v7:Option V),σ=[some (.ref a),some (.ref pa),some (.ref z),some (.ref fa),v4,v5,v6,v7]/\Same H2 H'/\H' fa=some (.lst fs)/\Lists (fun a=>H2 a=none) H' fs ((grownTo rs part i).map toL)/\fs.Nodup)
   ⟨f0,_,_,_,_,_,rfl,y12,hf3,hL0,by simp⟩ (fun i σ H' _ ⟨_,_,_,_,_,_,_,y,_⟩=>SqL.of (y _ _ hpa2)) ?_ ?_
  ·rintro i x tt σ H4 hx htt ⟨fa,fs,v4,v5,v6,v7,rfl,s4,hfa,hL,hnd⟩
   obtain ⟨c,hc,ca,rfl,hca⟩:=Cel.get ((hcp.mono s02).mono s4) hx
   have il:=(List.getElem?_eq_some_iff.mp hx).1
   have z5:=same_new (o:=.tup [.int (i:Nat),.ref ca]) htt
   refine ⟨tt,_,rfl,SqT.of upd_same,rfl,_,_,rfl,_,_,rfl,rfl,?_⟩
   have s5:=s4.trans z5
   have hca5:=z5 _ _ hca
   have hfa5:=z5 _ _ hfa
   have hL5:=lists_mono z5 hL
   generalize upd H4 tt (.tup [.int (i:Nat),.ref ca])=H5 at *
   refine ⟨_,rfl,_,rfl,_,rfl,_,rfl,_,_,rfl,rfl,_,rfl,pa,ups,rfl,SqL.of (s5 _ _ hpa2),fun x1 hx1=>?_⟩
   have e1:=cut_from ups i il
   rw [e1] at *
   have z6:=same_new (o:=.lst (ups.drop (i + 1))) hx1
   have s6:=s5.trans z6
   refine ⟨z,ca,x1,ut,ups.drop (i + 1),rs,numC rs part,part.drop (i + 1),c,rfl,s6 _ _ hz2,told_mono s6 hT,nl,R,z6 _ _ hca5,upd_same,cel_drop _ ((hcp.mono s02).mono s6),pnd.sublist (List.drop_sublist _ _),fun nd un H6 hnd6 hN s7=>?_⟩
   have s56:=z6.trans s7
   have s26:=s5.trans s56
   have hfa6:=s56 _ _ hfa5
   have hL6:=lists_mono s56 hL5
   have hca6:=s56 _ _ hca5
   have i14:i<=13:=by omega
   have fl:fs.length<=8192:=by
    rw [lists_len hL,List.length_map]
    exact Nat.le_trans (grown_len rs part i) (Nat.pow_le_pow_right (by decide) i14)
   have dp:=grown_deep rs part i
   have eG:=grown_at (rs:=rs) hc
   have gl:=grown_len rs part i
   generalize grownTo rs part i=F at *
   refine ⟨_,rfl,_,rfl,fa,rfl,⟨_,SqL.of hfa6⟩,fun y hy=>?_⟩
   refine comp_list (K:=K) (a:=fa) (xs:=fs) (fun j σ' H'=>∃ (u0:Option V) (ys:List V),σ'=[u0,some (.ref ca)]/\Same H6 H'/\H' y=some (.lst ys)/\Lists (fun a=>H6 a=none/\a ≠ y) H' ys (((F.take j).map (·++[c])).map toL)/\ys.Nodup)
    ⟨_,[],rfl,same_new hy,upd_same,.nil,List.nodup_nil⟩ (fun j σ' H' _ ⟨_,_,_,z,_⟩=>SqL.of (z _ _ hfa6)) ?_ ?_
   ·rintro j v σ' H7 hv ⟨u0,ys,rfl,s8,hy7,hL7,nd7⟩
    obtain ⟨k,a1,w1,hk,rfl,an,ha1,t1⟩:=lists_at hL6 hv
    obtain ⟨q1,hq1,rfl⟩:=toL_at hk
    have kd:=dp q1 (List.mem_of_getElem? hq1)
    have wl:w1.length=q1.length:=(tup2_len t1).trans (List.length_map _)
    have tj:((F.take (j + 1)).map (·++[c])).map toL=((F.take j).map (·++[c])).map toL++[toL q1++[toI c]]:=by
     rw [List.take_add_one,hq1,List.map_append,List.map_append]
     simp [toL]
    rw [tj]
    unfold gName
    refine yes_if ?_
    refine ⟨_,rfl,_,rfl,(by show 1<=sizeLine; decide),fun t2 ht2=>?_⟩
    have y5:=same_new (o:=.lst [.ref ca]) ht2
    refine ⟨a1,t2,w1,[.ref ca],rfl,rfl,y5 _ _ (s8 _ _ ha1),upd_same,Nat.le_trans (show w1.length + 1<=100 by omega) (by decide),fun t3 ht3=>?_⟩
    have y6:=same_new (o:=.lst (w1++[.ref ca])) ht3
    have y56:=y5.trans y6
    have h6:upd (upd H7 t2 (.lst [.ref ca])) t3 (.lst (w1++[.ref ca])) t3=some (.lst (w1++[.ref ca])):=upd_same
    have tz:t3 ≠ y:=fun e=>by
     subst e
     rw [y5 _ _ hy7] at ht3
     cases ht3
    have n4:=y5.free ht3
    have n3:=s8.free n4
    have c1:Tup2 (upd (upd H7 t2 (.lst [.ref ca])) t3 (.lst (w1++[.ref ca]))) [.ref ca] [toI c]:=.cons ⟨ca,rfl,y56 _ _ (s8 _ _ hca6)⟩ .nil
    have tw6:=tup2_app (tup2_mono (s8.trans y56) t1) c1
    generalize upd (upd H7 t2 (.lst [.ref ca])) t3 (.lst (w1++[.ref ca]))=H8 at *
    have hy8:=y56 _ _ hy7
    have yl:ys.length<=8192:=by
     rw [lists_len hL7,List.length_map,List.length_map,List.length_take]
     have:=lists_len hL
     rw [List.length_map] at this
     omega
    refine ⟨ys,hy8,Nat.lt_of_le_of_lt yl (by decide),_,ys++[.ref t3],rfl,fun b' o e=>?_,upd_same,lists_app (lists_into hy8 (fun a h=>h.2) (lists_mono y56 hL7)) (.cons ⟨t3,w1++[.ref ca],rfl,⟨n3,tz⟩,by rw [upd_ne tz]; exact h6,tup2_into hy8 tw6⟩ .nil),?_⟩
    ·rw [upd_ne (ne_of_none e hy)]
     exact y56 _ _ (s8 _ _ e)
    ·refine List.nodup_append.mpr ⟨nd7,by simp,fun u hu u' hu' e=>?_⟩
     obtain ⟨b',wb,rfl,_,hb⟩:=lists_has hL7 hu
     have e2:u'=.ref t3:=by simpa using hu'
     rw [e2] at e
     cases e
     rw [hb] at n4
     cases n4
   rintro σ' H7 ⟨u0,ys,rfl,s8,hy7,hL7,nd7⟩
   have fsl:fs.length=F.length:=(lists_len hL).trans (List.length_map _)
   rw [fsl,List.take_length] at hL7
   have yl:ys.length<=8192:=by
    rw [lists_len hL7,List.length_map,List.length_map]
    omega
   refine ⟨fa,y,fs,ys,rfl,rfl,s8 _ _ hfa6,hy7,Nat.le_trans (Nat.add_le_add fl yl) (by decide),fun g hg=>?_⟩
   have y9:=same_new (o:=.lst (fs++ys)) hg
   have s27:=s26.trans s8
   have s28:=s27.trans y9
   have hg8:upd H7 g (.lst (fs++ys)) g=some (.lst (fs++ys)):=upd_same
   have hLg:Lists (fun a=>H2 a=none) (upd H7 g (.lst (fs++ys))) (fs++ys) ((Subs.step F c).map toL):=by
    unfold Subs.step
    rw [List.map_append]
    exact lists_app (lists_mono (s8.trans y9) hL6) (lists_mono y9 (lists_weak (fun a h=>s26.free h.1) hL7))
   have gnd:(fs++ys).Nodup:=by
    refine List.nodup_append.mpr ⟨hnd,nd7,fun u hu u' hu' e=>?_⟩
    obtain ⟨b',wb,rfl,_,hb⟩:=lists_has hL6 hu
    obtain ⟨b2,wb2,rfl,hb2,_⟩:=lists_has hL7 hu'
    cases e
    rw [hb] at hb2
    cases hb2.1
   have hnd8:=(s8.trans y9) _ _ hnd6
   have hN8:=need_mono (s8.trans y9) hN
   have gll:(fs++ys).length<=16384:=by
    rw [List.length_append]
    omega
   have dps:∀ q ∈ Subs.step F c,q.length<=64:=fun q hq=>by
    rcases List.mem_append.mp hq with hq | hq
    ·have:=dp q hq
     omega
    ·obtain ⟨p',hp',rfl⟩:=List.mem_map.mp hq
     have:=dp p' hp'
     rw [List.length_append]
     show p'.length + 1<=64
     omega
   generalize fs++ys=gs at *
   generalize Subs.step F c=S at *
   generalize upd H7 g (.lst gs)=H8 at *
   refine ⟨_,rfl,g,rfl,⟨_,SqL.of hg8⟩,fun y2 hy2=>?_⟩
   refine comp_list (K:=K) (a:=g) (xs:=gs) (fun j σ' H'=>∃ (u0:Option V) (ys:List V),σ'=[u0,some (.ref nd)]/\Same H8 H'/\H' y2=some (.lst ys)/\Lists (fun a=>H2 a=none/\a ≠ y2) H' ys (((S.take j).filter (Grow.chk (nearF rs) (numW rs) (numC rs part) c (part.drop (i + 1)))).map toL)/\ys.Sublist (gs.take j))
    ⟨_,[],rfl,same_new hy2,upd_same,.nil,List.Sublist.slnil⟩ (fun j σ' H' _ ⟨_,_,_,z,_⟩=>SqL.of (z _ _ hg8)) ?_ ?_
   ·rintro j v σ' H9 hv ⟨u0,ys,rfl,s9,hz9,hL9,sb9⟩
    obtain ⟨k,a1,w1,hk,rfl,an,ha1,t1⟩:=lists_at hLg hv
    obtain ⟨q1,hq1,rfl⟩:=toL_at hk
    have tf:gs.take (j + 1)=gs.take j++[.ref a1]:=by
     rw [List.take_add_one,hv]
     rfl
    refine ⟨_,rfl,_,rfl,nd,a1,un,w1,rs,part.drop (i + 1),_,q1,rfl,s9 _ _ hnd8,need_mono s9 hN8,s9 _ _ ha1,(cel_of_tup2 t1).mono s9,dps q1 (List.mem_of_getElem? hq1),fun H10 s10=>⟨_,rfl,?_⟩⟩
    rw [tf]
    have hz10:=s10 _ _ hz9
    show if Grow.chk (nearF rs) (numW rs) (numC rs part) c (part.drop (i + 1)) q1=true then _ else _
    by_cases hlt:Grow.chk (nearF rs) (numW rs) (numC rs part) c (part.drop (i + 1)) q1=true
    ·have e1:((S.take (j + 1)).filter (Grow.chk (nearF rs) (numW rs) (numC rs part) c (part.drop (i + 1)))).map toL=((S.take j).filter (Grow.chk (nearF rs) (numW rs) (numC rs part) c (part.drop (i + 1)))).map toL++[toL q1]:=by
      rw [List.take_add_one,hq1,List.filter_append,List.map_append]
      simp [hlt]
     rw [e1]
     have az:a1 ≠ y2:=ne_of_none ha1 hy2
     have yl:ys.length<=16384:=by
      have:=sb9.length_le
      rw [List.length_take] at this
      omega
     refine iteP hlt ⟨_,rfl,ys,hz10,Nat.lt_of_le_of_lt yl (by decide),_,ys++[.ref a1],rfl,fun b' o e=>?_,upd_same,lists_app (lists_into hz10 (fun a h=>h.2) (lists_mono s10 hL9)) (.cons ⟨a1,w1,rfl,⟨an,az⟩,by rw [upd_ne az]; exact s10 _ _ (s9 _ _ ha1),tup2_into hz10 (tup2_mono (s9.trans s10) t1)⟩ .nil),List.Sublist.append sb9 (List.Sublist.refl _)⟩
     rw [upd_ne (ne_of_none e hy2)]
     exact s10 _ _ (s9 _ _ e)
    ·have e1:((S.take (j + 1)).filter (Grow.chk (nearF rs) (numW rs) (numC rs part) c (part.drop (i + 1)))).map toL=((S.take j).filter (Grow.chk (nearF rs) (numW rs) (numC rs part) c (part.drop (i + 1)))).map toL:=by
      rw [List.take_add_one,hq1,List.filter_append,List.map_append]
      simp [hlt]
     rw [e1]
     exact iteN (Bool.eq_false_iff.mpr hlt) ⟨_,ys,rfl,s9.trans s10,hz10,lists_mono s10 hL9,sb9.trans (List.sublist_append_left _ _)⟩
   ·rintro σ' H9 ⟨u0,ys,rfl,s9,hz9,hL9,sb9⟩
    have gsl:gs.length=S.length:=(lists_len hLg).trans (List.length_map _)
    rw [gsl,List.take_length,<- eG] at hL9
    rw [gsl,<- gsl,List.take_length] at sb9
    exact ⟨y2,ys,_,_,_,_,rfl,s28.trans s9,hz9,lists_weak (fun a h=>h.1) hL9,gnd.sublist sb9⟩
  ·rintro σ H4 ⟨fa,fs,v4,v5,v6,v7,rfl,s4,hfa,hL,hnd⟩
   have gl:=grown_len rs part part.length
   rw [ul,grown_all] at hL
   rw [grown_all] at gl
   have fl:fs.length<=16384:=by
    rw [lists_len hL,List.length_map]
    exact Nat.le_trans gl (Nat.pow_le_pow_right (by decide) pl)
   refine ⟨_,rfl,fa,fs,_,rfl,SqL.of hfa,lists_lst hL,by omega,fun d' us' ks' hd' hp' hperm hpw hup=>?_⟩
   have y5:=same_new (o:=.lst us') hd'
   have s04:=s02.trans s4
   refine q d' us' ks' _ (s04.free hd') upd_same (lists_mono y5 (lists_of hp' fun v hv=>?_)) (hup.nodup_iff.mpr hnd) hperm hpw (s04.trans y5)
   obtain ⟨a1,wa,e,na,ha⟩:=lists_has hL (hup.mem_iff.mp hv)
   exact ⟨a1,e,s02.free na,ne_of_none ha hd'⟩
end
noncomputable abbrev iL (xs:List Int):List V:=xs.map V.int
noncomputable def iData (xs:List Int):PyData:=.list (xs.map PyData.int)
theorem rdv_intsAll {K:PySem.W.Frag}{H:Hp}:∀ xs:List Int,RdvAll K H (iL xs) (xs.map PyData.int)
 | []=>.nil
 | x :: r=>.cons (.int x) (rdv_intsAll r)
theorem rdv_ints {K:PySem.W.Frag}{H:Hp}{a:Addr}{xs:List Int}(h:SqL K H a (iL xs)):Rdv K H (.ref a) (iData xs):=.lst h (rdv_intsAll xs)
theorem lay_ints:∀ xs:List Int,PyData.canLayAll0 (xs.map PyData.int)=true
 | []=>rfl
 | x :: r=>by
  show (PyData.canLay0 (.int x) && PyData.canLayAll0 (r.map PyData.int))=true
  rw [lay_ints r]
  rfl
theorem depth_ints:∀ xs:List Int,PyData.depthAll (xs.map PyData.int)=0
 | []=>rfl
 | x :: r=>by
  show max (PyData.depth (.int x)) (PyData.depthAll (r.map PyData.int))=0
  rw [depth_ints r]
  rfl
theorem iData_lay (xs:List Int):(iData xs).canLay0=true:=lay_ints xs
theorem iData_depth (xs:List Int):(iData xs).depth=1:=by
 show PyData.depthAll (xs.map PyData.int) + 1=1
 rw [depth_ints]
theorem iData_cmp (xs ys:List Int):CmpD (iData xs) (iData ys):=⟨iData_lay xs,iData_lay ys,by rw [iData_depth]; decide⟩
theorem iData_same (xs:List Int):PyData.eqv (iData xs) (iData xs)=true:=SeqAt.eqv_refl _ (iData_lay xs)
theorem ints_at {xs:List Int}{i:Nat}{x:Int}(h:xs[i]?=some x):(iL xs)[i]?=some (.int x):=by
 rw [List.getElem?_map,h]
 rfl
theorem ixN_lt {n:Nat}{k:Int}(h0:0<=k)(h1:k < n):ixN n k=some k.toNat:=by
 unfold ixN
 rw [if_pos h0,if_pos h1]
noncomputable def hasC (c:Nat × Nat)(k:List (Int × Int)):Bool:=k.any fun z=>decide (z=toI c)
noncomputable def laysOf (rs:List Str)(part:List (Nat × Nat)):List (List (Int × Int)):=((Subs.subs part).filter (Grow.fits (nearF rs) (numW rs) (numC rs part) part)).map toL
noncomputable def spCnt:Sp:=fun vs H Q _=>∃ (fa:Addr) (us:List V) (ks:List (List (Int × Int))) (N:Addr->Prop) (g:Nat),vs=[.ref fa,.int (g:Nat)]/\H fa=some (.lst us)/\Lists N H us ks/\(∀ k ∈ ks,k.length<=g)/\g<=64 /\
 ∀ (d:Addr) (H':Hp),H d=none->H' d=some (.lst (iL (Cnt.cnts g ks)))->Same H H'->Q (.ref d) H'
noncomputable def spCntAt:Sp:=fun vs H Q _=>∃ (fa ca:Addr) (us:List V) (ks:List (List (Int × Int))) (N:Addr->Prop) (g:Nat) (c:Nat × Nat),vs=[.ref fa,.int (g:Nat),.ref ca]/\H fa=some (.lst us)/\Lists N H us ks/\(∀ k ∈ ks,k.length<=g)/\g<=64/\ks.length<=16384/\H ca=some (.tup [.int (c.1:Nat),.int (c.2:Nat)]) /\
 ∀ (d:Addr) (H':Hp),H d=none->H' d=some (.lst (iL (Cnt.cnts g (ks.filter (hasC c)))))->Same H H'->Q (.ref d) H'
noncomputable def spPC:Sp:=fun vs H Q _=>∃ (a l pa:Addr) (rs:List Str) (n:Int) (ups:List V) (part:List (Nat × Nat)),vs=[.ref a,.ref pa]/\BoardAt H a l rs n/\Rows bd.cps.toList rs/\H pa=some (.lst ups)/\Cel H ups part/\part.Nodup/\part.length<=14 /\
 ∀ (d:Addr) (H':Hp),H d=none->H' d=some (.lst (iL (Cnt.cnts part.length (laysOf rs part))))->Same H H'->Q (.ref d) H'
noncomputable def spPCA:Sp:=fun vs H Q _=>∃ (a l pa ca:Addr) (rs:List Str) (n:Int) (ups:List V) (part:List (Nat × Nat)) (c:Nat × Nat),vs=[.ref a,.ref pa,.ref ca]/\BoardAt H a l rs n/\Rows bd.cps.toList rs/\H pa=some (.lst ups)/\Cel H ups part/\part.Nodup/\part.length<=14/\H ca=some (.tup [.int (c.1:Nat),.int (c.2:Nat)]) /\
 ∀ (d:Addr) (H':Hp),H d=none->H' d=some (.lst (iL (Cnt.cnts part.length ((laysOf rs part).filter (hasC c)))))->Same H H'->Q (.ref d) H'
theorem rep_zero (n:Nat):(List.replicate n [V.int 0]).flatten=iL (List.replicate n 0):=by
 induction n with
 | zero=>rfl
 | succ n ih =>
  rw [List.replicate_succ,List.flatten_cons,ih]
  rfl
theorem pick_len {α:Type}:∀ (cs:List α) (b:Nat),(Subs.pick cs b).length<=cs.length
 | [],_=>Nat.zero_le _
 | c :: r,b=>by
  have:=pick_len r (b / 2)
  show ((if b % 2=1 then [c] else [])++Subs.pick r (b / 2)).length<=r.length + 1
  rw [List.length_append]
  split
  ·show 1 + _<=_
   omega
  ·show 0 + _<=_
   omega
theorem subs_len {α:Type}{cs q:List α}(h:q ∈ Subs.subs cs):q.length<=cs.length:=by
 rw [Subs.subs_pick] at h
 obtain ⟨b,_,rfl⟩:=List.mem_map.mp h
 exact pick_len cs b
theorem lays_len {rs:List Str}{part:List (Nat × Nat)}{k:List (Int × Int)}(h:k ∈ laysOf rs part):k.length<=part.length:=by
 obtain ⟨q1,h1,rfl⟩:=List.mem_map.mp h
 show (q1.map toI).length<=_
 rw [List.length_map]
 exact subs_len (List.mem_filter.mp h1).1
theorem lays_many {rs:List Str}{part:List (Nat × Nat)}(h:part.length<=14):(laysOf rs part).length<=16384:=by
 unfold laysOf
 rw [List.length_map]
 refine Nat.le_trans (List.length_filter_le _ _) ?_
 rw [Subs.subs_pick,List.length_map,List.length_range]
 exact Nat.le_trans (Nat.pow_le_pow_right (by decide) h) (by decide)
section
variable {P:Program}{w:World}{K:PySem.W.Frag}{mg:Str->Option Value}{base:Heap}{f:Addr}{fd:FuncData}
theorem sc_counted:FnScope ["found","greatest","counts","laying"] ["found","greatest"] (defScope s_counted):=⟨rfl,rfl,rfl,by decide +kernel,rfl,by decide +kernel,by decide +kernel⟩
theorem ok_counted (T:Txt mg)(D:DefAt K mg "counted" s_counted ["found","greatest"] f fd):FnOk P w K mg base CX0 1 f fd ["found","greatest"] spCnt:=by
 refine D.F.ok sc_counted (fun vs H Q E h=>?_) (fun cdv A outer s H vs Q E hr h=>?_)
 ·obtain ⟨fa,us,ks,N,g,rfl,_⟩:=h
  rfl
 ·obtain ⟨fa,us,ks,N,g,rfl,hfa,hL,hk,g64,q⟩:=h
  refine ⟨_,(pss_cons (ps_set (i:=2) sc_counted.nd rfl (Or.inl rfl) (pe_op op_rep (pe_lst (pa_cons pe_int pa_nil)) (pe_op op_add (pv 1) pe_int)))
   (pss_cons (ps_for PassesOwn.never rfl (pi_list (pv 0)) (pg_name (i:=3) sc_counted.nd rfl (Or.inl rfl)) (pss_one (ps_augS (pv 2) (pe_callB call_len_seq (by rfl) T.b_len PySem.boot_len (pa_cons (pv 3) pa_nil)) get_list pe_int ip_add set_list)))
   (pss_one (ps_ret (pv 2))))),?_⟩
  refine ⟨(by show 1<=sizeLine; decide),fun l0 hl0=>?_⟩
  have s0:Same H (upd H l0 (.lst [.int 0])):=same_new hl0
  refine ⟨_,rfl,_,_,rfl,rfl,l0,_,_,rfl,rfl,upd_same,by omega,by omega,?_,fun p hp=>?_⟩
  ·exact Nat.le_trans (show 1 * ((g:Int) + 1).toNat<=120 by omega) (by decide)
  rw [show ((g:Int) + 1).toNat=g + 1 by omega,rep_zero,<- Cnt.cnts_nil (α:=Int × Int)]
  have s1:=s0.trans (same_new (o:=.lst (iL (Cnt.cnts g ([]:List (List (Int × Int)))))) hp)
  have hp0:H p=none:=s0.free hp
  refine ⟨_,rfl,fa,rfl,⟨_,SqL.of (s1 _ _ hfa)⟩,?_⟩
  refine for_list (K:=K) (a:=fa) (xs:=us) (fun i σ H'=>∃ v3,σ=[some (.ref fa),some (.int (g:Nat)),some (.ref p),v3]/\Same H H'/\H' p=some (.lst (iL (Cnt.cnts g (ks.take i)))))
   ⟨_,rfl,s1,upd_same⟩ (fun i σ H' _ ⟨_,_,y,_⟩=>SqL.of (y _ _ hfa)) ?_ ?_
  ·rintro i v σ H1 hv ⟨v3,rfl,s2,hp2⟩
   obtain ⟨k,a1,wa,hk1,rfl,_,ha1,t1⟩:=lists_at hL hv
   have kl:=hk k (List.mem_of_getElem? hk1)
   have wl:=tup2_len t1
   refine ⟨_,rfl,_,rfl,a1,wa,rfl,.inl (SqL.of (s2 _ _ ha1)),p,_,_,_,rfl,rfl,SqL.of hp2,atI_lt (by omega) (ints_at (Cnt.cnts_get (n:=wa.length) _ (by omega))),_,_,rfl,rfl,p,_,_,_,rfl,rfl,hp2,ixN_lt (by omega) (by rw [List.length_map,Cnt.cnts_len]; omega),?_⟩
   refine ⟨_,rfl,fun c o e=>?_,?_⟩
   ·rw [upd_ne (ne_of_none e hp0)]
    exact s2 _ _ e
   ·rw [upd_same,List.take_add_one,hk1]
    show _=some (HO.lst (iL (Cnt.cnts g (ks.take i++[k]))))
    rw [Cnt.cnts_step _ kl,wl]
    show some (HO.lst ((List.map V.int _).set _ (V.int _)))=_
    rw [<- List.map_set]
    rfl
  ·rintro σ H1 ⟨v3,rfl,s2,hp2⟩
   rw [lists_len hL,List.take_length] at hp2
   exact ⟨_,rfl,q p H1 hp0 hp2 s2⟩
theorem sc_part_counts:FnScope ["board","part"] ["board","part"] (defScope s_part_counts):=⟨rfl,rfl,rfl,by decide +kernel,rfl,by decide +kernel,by decide +kernel⟩
theorem ok_part_counts {f1 f2 f3 f4 f5 f6 f7 f8 f9 f10:Addr}{fd1 fd2 fd3 fd4 fd5 fd6 fd7 fd8 fd9 fd10:FuncData}(T:Txt mg)(D:DefAt K mg "part_counts" s_part_counts ["board","part"] f fd)(D_around:DefAt K mg "around" s_around ["board","cell"] f1 fd1)(D_sign_at:DefAt K mg "sign_at" s_sign_at ["board","cell"] f2 fd2)
  (D_cells_of:DefAt K mg "cells_of" s_cells_of ["board"] f3 fd3) (D_open_cells:DefAt K mg "open_cells" s_open_cells ["board"] f4 fd4) (D_number_at:DefAt K mg "number_at" s_number_at ["board","cell"] f5 fd5) (D_numbers_of:DefAt K mg "numbers_of" s_numbers_of ["board","part"] f6 fd6)
  (D_needs_at:DefAt K mg "needs_at" s_needs_at ["told","cell","rest"] f7 fd7) (D_may_fit:DefAt K mg "may_fit" s_may_fit ["needs","pick"] f8 fd8) (D_part_layings:DefAt K mg "part_layings" s_part_layings ["board","part"] f9 fd9) (D_counted:DefAt K mg "counted" s_counted ["found","greatest"] f10 fd10):FnOk P w K mg base CX0 5 f fd ["board","part"] spPC:=by
 have G_part_layings:FnOk P w K mg base CX0 4 f9 fd9 ["board","part"] spPL:=ok_part_layings T D_part_layings D_around D_sign_at D_cells_of D_open_cells D_number_at D_numbers_of D_needs_at D_may_fit
 have G_counted:FnOk P w K mg base CX0 1 f10 fd10 ["found","greatest"] spCnt:=ok_counted T D_counted
 refine D.F.ok sc_part_counts (fun vs H Q E h=>?_) (fun cdv A outer s H vs Q E hr h=>?_)
 ·obtain ⟨a,l,pa,rs,n,ups,part,rfl,_⟩:=h
  rfl
 ·obtain ⟨a,l,pa,rs,n,ups,part,rfl,b,R,hpa,hcp,pnd,pl,q⟩:=h
  refine ⟨_,(pss_one (ps_ret (pe_call G_counted (hr.mono (by decide)) (by rfl) D_counted.g D_counted.F.kp D_counted.b .nil pass0 (pa_cons (pe_call G_part_layings (hr.mono (by decide)) (by rfl) D_part_layings.g D_part_layings.F.kp D_part_layings.b .nil pass0 (pa_cons (pv 0) (pa_cons (pv 1) pa_nil))) (pa_cons (pe_callB call_len_seq (by rfl) T.b_len PySem.boot_len (pa_cons (pv 1) pa_nil)) pa_nil))))),?_⟩
  refine ⟨_,rfl,_,rfl,a,l,pa,rs,n,ups,part,rfl,b,R,hpa,hcp,pnd,pl,fun d ws ks H1 hd hd1 hL _ hpm _ s1=>?_⟩
  refine ⟨_,rfl,pa,ups,rfl,.inl (SqL.of (s1 _ _ hpa)),d,ws,ks,_,ups.length,rfl,hd1,hL,fun k hk=>?_,?_,fun e H2 he he2 s2=>?_⟩
  ·rw [hcp.length]
   exact lays_len (hpm.mem_iff.mp hk)
  ·rw [hcp.length]
   omega
  ·rw [hcp.length,Cnt.cnts_perm hpm] at he2
   exact q e H2 (s1.free he) he2 (s1.trans s2)
end
section
variable {P:Program}{w:World}{K:PySem.W.Frag}{mg:Str->Option Value}{base:Heap}{f:Addr}{fd:FuncData}
theorem sc_counted_at:FnScope ["found","greatest","cell"] ["found","greatest","cell"] (defScope s_counted_at):=⟨rfl,rfl,rfl,by decide +kernel,rfl,by decide +kernel,by decide +kernel⟩
theorem ok_counted_at {f1:Addr}{fd1:FuncData}(T:Txt mg)(D:DefAt K mg "counted_at" s_counted_at ["found","greatest","cell"] f fd)(D_counted:DefAt K mg "counted" s_counted ["found","greatest"] f1 fd1):FnOk P w K mg base CX0 2 f fd ["found","greatest","cell"] spCntAt:=by
 have G_counted:FnOk P w K mg base CX0 1 f1 fd1 ["found","greatest"] spCnt:=ok_counted T D_counted
 refine D.F.ok sc_counted_at (fun vs H Q E h=>?_) (fun cdv A outer s H vs Q E hr h=>?_)
 ·obtain ⟨fa,ca,us,ks,N,g,c,rfl,_⟩:=h
  rfl
 ·obtain ⟨fa,ca,us,ks,N,g,c,rfl,hfa,hL,hk,g64,kl,hca,q⟩:=h
  refine ⟨_,(pss_one (ps_ret (pe_call G_counted (hr.mono (by decide)) (by rfl) D_counted.g D_counted.F.kp D_counted.b .nil pass0 (pa_cons (pe_comp (N:=["laying","cell"]) (src:=[none,some 2]) (CompOk.free (O:=(defScope s_counted_at).names) (XN:=["found","greatest","cell"]) rfl rfl ⟨_,rfl⟩ rfl rfl (by decide +kernel) (by decide +kernel) (by decide +kernel) rfl (by decide +kernel)) rfl (pi_list (pv 0)) (fun _ _ _ _ _=>(pg_name (i:=0) (by show List.Nodup (["laying","cell"]:List Str); decide +kernel) rfl (Or.inl rfl))) (fun _ _ _ _ _=>(pifs_one (pt_cmpR (op_in_deepK (K:=K) (by rfl) hr.units) (pv 1) (pv 0) (by rfl)))) (fun _ _ _ _ _=>(pv 0))) (pa_cons (pv 1) pa_nil))))),?_⟩
  refine ⟨_,rfl,fa,rfl,⟨_,SqL.of hfa⟩,fun z hz=>?_⟩
  refine comp_list (K:=K) (a:=fa) (xs:=us) (fun j σ' H'=>∃ (u0:Option V) (ys:List V),σ'=[u0,some (.ref ca)]/\Same H H'/\H' z=some (.lst ys)/\Lists (fun a=>a ≠ z) H' ys ((ks.take j).filter (hasC c)))
   ⟨_,[],rfl,same_new hz,upd_same,.nil⟩ (fun j σ' H' _ ⟨_,_,_,y,_⟩=>SqL.of (y _ _ hfa)) ?_ ?_
  ·rintro j v σ' H1 hv ⟨u0,ys,rfl,s1,hz1,hy1⟩
   obtain ⟨k,a1,wa,hk1,rfl,_,ha1,t1⟩:=lists_at hL hv
   have jl:j < ks.length:=(List.getElem?_eq_some_iff.mp hk1).1
   have e1:(ks.take (j + 1)).filter (hasC c)=(ks.take j).filter (hasC c)++if hasC c k=true then [k] else []:=by
    rw [List.take_add_one,hk1,List.filter_append]
    congr 1
    show List.filter _ [k]=_
    rw [List.filter_cons]
    split <;> rfl
   refine ⟨_,rfl,_,rfl,cData c,k.map pD,.tup (SqT.of (s1 _ _ hca)) (.cons (.int _) (.cons (.int _) .nil)),.lst (SqL.of (s1 _ _ ha1)) (tup2_rdv (tup2_mono s1 t1)),rfl,p_lays _,(by show 1<=60; decide),_,rfl,?_⟩
   have ei:(if false=true then !(k.map pD).any (fun z=>PyData.eqv z (cData c)) else (k.map pD).any fun z=>PyData.eqv z (cData c))=hasC c k:=in_prc k c
   rw [ei]
   by_cases hh:hasC c k=true
   ·rw [if_pos hh] at e1
    refine iteP hh ?_
    have yl:ys.length<=16384:=by
     rw [lists_len hy1]
     refine Nat.le_trans (List.length_filter_le _ _) ?_
     rw [List.length_take]
     omega
    refine ⟨_,rfl,ys,hz1,Nat.lt_of_le_of_lt yl (by decide),_,ys++[.ref a1],rfl,fun b o e=>?_,upd_same,?_⟩
    ·rw [upd_ne (ne_of_none e hz)]
     exact s1 _ _ e
    ·rw [e1]
     have nz:a1 ≠ z:=ne_of_none ha1 hz
     exact lists_app (lists_into hz1 (fun _ h=>h) hy1) (.cons ⟨a1,wa,rfl,nz,by rw [upd_ne nz]; exact s1 _ _ ha1,tup2_into hz1 (tup2_mono s1 t1)⟩ .nil)
   ·rw [if_neg hh,List.append_nil] at e1
    refine iteN (Bool.eq_false_iff.mpr hh) ?_
    exact ⟨_,ys,rfl,s1,hz1,by rw [e1]; exact hy1⟩
  rintro σ' H1 ⟨u0,ys,rfl,s1,hz1,hy1⟩
  rw [lists_len hL,List.take_length] at hy1
  refine ⟨_,rfl,z,ys,_,_,g,rfl,hz1,hy1,fun k hk2=>hk k (List.mem_filter.mp hk2).1,g64,fun d H2 hd hd2 s2=>?_⟩
  exact q d H2 (s1.free hd) hd2 (s1.trans s2)
theorem sc_part_counts_at:FnScope ["board","part","cell"] ["board","part","cell"] (defScope s_part_counts_at):=⟨rfl,rfl,rfl,by decide +kernel,rfl,by decide +kernel,by decide +kernel⟩
theorem ok_part_counts_at {f1 f2 f3 f4 f5 f6 f7 f8 f9 f10 f11:Addr}{fd1 fd2 fd3 fd4 fd5 fd6 fd7 fd8 fd9 fd10 fd11:FuncData}(T:Txt mg)(D:DefAt K mg "part_counts_at" s_part_counts_at ["board","part","cell"] f fd)(D_around:DefAt K mg "around" s_around ["board","cell"] f1 fd1)(D_sign_at:DefAt K mg "sign_at" s_sign_at ["board","cell"] f2 fd2)
  (D_cells_of:DefAt K mg "cells_of" s_cells_of ["board"] f3 fd3) (D_open_cells:DefAt K mg "open_cells" s_open_cells ["board"] f4 fd4) (D_number_at:DefAt K mg "number_at" s_number_at ["board","cell"] f5 fd5) (D_numbers_of:DefAt K mg "numbers_of" s_numbers_of ["board","part"] f6 fd6)
  (D_needs_at:DefAt K mg "needs_at" s_needs_at ["told","cell","rest"] f7 fd7) (D_may_fit:DefAt K mg "may_fit" s_may_fit ["needs","pick"] f8 fd8) (D_part_layings:DefAt K mg "part_layings" s_part_layings ["board","part"] f9 fd9) (D_counted:DefAt K mg "counted" s_counted ["found","greatest"] f10 fd10) (D_counted_at:DefAt K mg "counted_at" s_counted_at ["found","greatest","cell"] f11 fd11):FnOk P w K mg base CX0 5 f fd ["board","part","cell"] spPCA:=by
 have G_part_layings:FnOk P w K mg base CX0 4 f9 fd9 ["board","part"] spPL:=ok_part_layings T D_part_layings D_around D_sign_at D_cells_of D_open_cells D_number_at D_numbers_of D_needs_at D_may_fit
 have G_counted_at:FnOk P w K mg base CX0 2 f11 fd11 ["found","greatest","cell"] spCntAt:=ok_counted_at T D_counted_at D_counted
 refine D.F.ok sc_part_counts_at (fun vs H Q E h=>?_) (fun cdv A outer s H vs Q E hr h=>?_)
 ·obtain ⟨a,l,pa,ca,rs,n,ups,part,c,rfl,_⟩:=h
  rfl
 ·obtain ⟨a,l,pa,ca,rs,n,ups,part,c,rfl,b,R,hpa,hcp,pnd,pl,hca,q⟩:=h
  refine ⟨_,(pss_one (ps_ret (pe_call G_counted_at (hr.mono (by decide)) (by rfl) D_counted_at.g D_counted_at.F.kp D_counted_at.b .nil pass0 (pa_cons (pe_call G_part_layings (hr.mono (by decide)) (by rfl) D_part_layings.g D_part_layings.F.kp D_part_layings.b .nil pass0 (pa_cons (pv 0) (pa_cons (pv 1) pa_nil))) (pa_cons (pe_callB call_len_seq (by rfl) T.b_len PySem.boot_len (pa_cons (pv 1) pa_nil)) (pa_cons (pv 2) pa_nil)))))),?_⟩
  refine ⟨_,rfl,_,rfl,a,l,pa,rs,n,ups,part,rfl,b,R,hpa,hcp,pnd,pl,fun d ws ks H1 hd hd1 hL _ hpm _ s1=>?_⟩
  refine ⟨_,rfl,pa,ups,rfl,.inl (SqL.of (s1 _ _ hpa)),_,rfl,d,ca,ws,ks,_,ups.length,c,rfl,hd1,hL,fun k hk=>?_,?_,?_,s1 _ _ hca,fun e H2 he he2 s2=>?_⟩
  ·rw [hcp.length]
   exact lays_len (hpm.mem_iff.mp hk)
  ·rw [hcp.length]
   omega
  ·rw [hpm.length_eq]
   exact lays_many pl
  ·rw [hcp.length,Cnt.cnts_perm (hpm.filter _)] at he2
   exact q e H2 (s1.free he) he2 (s1.trans s2)
end
theorem in_row {p:Nat->Bool}{i j c:Nat}{t:List Nat}(h:t[j]?=some c)(hp:p c=true):(i,j) ∈ Cells.rowCs p i 0 t:=by
 have hs:=Cells.rowCs_step (p:=p) (i:=i) h
 have ha:=Cells.rowCs_append p i 0 (t.take (j + 1)) (t.drop (j + 1))
 rw [List.take_append_drop] at ha
 rw [ha,hs,if_pos hp]
 simp
theorem in_all {p:Nat->Bool}{i j c:Nat}{t:List Nat}{gs:List (List Nat)}(h:gs[i]?=some t)(h2:t[j]?=some c)(hp:p c=true):(i,j) ∈ Cells.allCs p 0 gs:=by
 have hs:=Cells.allCs_step (p:=p) h
 have ha:=Cells.allCs_append p 0 (gs.take (i + 1)) (gs.drop (i + 1))
 rw [List.take_append_drop] at ha
 rw [ha,hs]
 exact List.mem_append_left _ (List.mem_append_right _ (in_row h2 hp))
theorem pos_lex {w k m:Nat}(hw:0 < w)(h:k < m):Cells.lex (k / w,k % w) (m / w,m % w):=by
 show k / w < m / w\/(k / w=m / w/\k % w < m % w)
 have h1:k / w<=m / w:=Nat.div_le_div_right (Nat.le_of_lt h)
 have a:=Nat.div_add_mod k w
 have b:=Nat.div_add_mod m w
 by_cases e:k / w=m / w
 ·refine .inr ⟨e,?_⟩
  rw [e] at a
  omega
 ·exact .inl (by omega)
noncomputable def stS (ts:List Str)(w n:Nat):List (Nat × Nat):=((List.range n).filter fun k=>decide (ts[k]?=some (one 111))).map fun k=>(k / w,k % w)
theorem stS_lex {ts:List Str}{w n:Nat}(hw:0 < w):(stS ts w n).Pairwise Cells.lex:=by
 unfold stS
 rw [List.pairwise_map]
 exact (List.pairwise_lt_range.sublist List.filter_sublist).imp fun h=>pos_lex hw h
theorem stS_shut {ts:List Str}{rs:List Str}{w h:Nat}(hw:0 < w)(hl:rs.length=h)(S:ShowsO ts (w:Int) rs):∀ c ∈ stS ts w (h * w),c ∈ shutC rs:=by
 intro c hc
 obtain ⟨k,hk,rfl⟩:=List.mem_map.mp hc
 obtain ⟨hr,hd⟩:=List.mem_filter.mp hk
 have hd:=of_decide_eq_true hd
 have hr:=List.mem_range.mp hr
 have hi:k / w < h:=Nat.div_lt_of_lt_mul (by rw [Nat.mul_comm]; exact hr)
 have hj:k % w < w:=Nat.mod_lt k hw
 obtain ⟨t,ht⟩:∃ t,rs[k / w]?=some t:=⟨_,List.getElem?_eq_getElem (by omega)⟩
 have e:(((w:Nat):Int) * ((k / w:Nat):Int) + ((k % w:Nat):Int)).toNat=k:=by
  rw [<- Int.natCast_mul,<- Int.natCast_add,Int.toNat_natCast]
  exact Nat.div_add_mod k w
 have h63:=S (k / w) t ht (k % w) (by omega) (by rw [e]; exact hd)
 exact in_all (codes_get ht) h63 rfl
noncomputable def spCase (K:PySem.W.Frag):Sp:=fun vs H Q _=>∃ (a:Addr) (ns:List Int) (m:Int),vs=[.ref a,.int m]/\SqL K H a (ns.map V.int) /\
 ∀ (t p l sa:Addr) (rs:List Str) (n:Int) (us:List V) (S:List (Nat × Nat)) (H':Hp),H' t=some (.tup [.ref p,.ref sa])->BoardAt H' p l rs n->Rows bd.cps.toList rs->H' sa=some (.lst us)->Cel H' us S->S.Pairwise Cells.lex->(∀ c ∈ S,c ∈ shutC rs)->Same H H'->Q (.ref t) H'
theorem divN {i w:Nat}{z:Int}(e:z=((w:Nat):Int)):(0 + (i:Int)) / z=((i / w:Nat):Int):=by
 subst e
 rw [Int.zero_add,Int.natCast_ediv]
theorem modN {i w:Nat}{z:Int}(e:z=((w:Nat):Int)):(0 + (i:Int)) % z=((i % w:Nat):Int):=by
 subst e
 rw [Int.zero_add,Int.natCast_emod]
section
variable {P:Program}{w:World}{K:PySem.W.Frag}{mg:Str->Option Value}{base:Heap}{f:Addr}{fd:FuncData}
theorem sc_law_case:FnScope ["_law_script","_law_most","_law_cell","_law_high","_law_wide","_law_signs_here","_law_stones"] ["_law_script","_law_most"] (defScope s_law_case):=⟨rfl,rfl,rfl,by decide +kernel,rfl,by decide +kernel,by decide +kernel⟩
theorem ok_law_case (T:Txt mg)(Z:Prog K mg)(D:DefAt K mg "_law_case" s_law_case ["_law_script","_law_most"] f fd):FnOk P w K mg base CX0 4 f fd ["_law_script","_law_most"] (spCase K):=by
 obtain ⟨f_law_cell_at,fd_law_cell_at,D_law_cell_at⟩:=Z.law_cell_at
 obtain ⟨f_law_sign,fd_law_sign,D_law_sign⟩:=Z.law_sign
 obtain ⟨f_law_signs,fd_law_signs,D_law_signs⟩:=Z.law_signs
 obtain ⟨f_law_near,fd_law_near,D_law_near⟩:=Z.law_near
 obtain ⟨f_law_rows,fd_law_rows,D_law_rows⟩:=Z.law_rows
 obtain ⟨f_law_bent,fd_law_bent,D_law_bent⟩:=Z.law_bent
 obtain ⟨f_law_board,fd_law_board,D_law_board⟩:=Z.law_board
 have G_law_cell_at:FnOk P w K mg base CX0 1 f_law_cell_at fd_law_cell_at ["_law_script","_law_k"] (spCell K):=ok_law_cell_at T D_law_cell_at
 have G_law_signs:FnOk P w K mg base CX0 2 f_law_signs fd_law_signs ["_law_script","_law_places","_law_most"] (spGSigns K):=ok_law_signs T D_law_signs D_law_cell_at D_law_sign
 have G_law_board:FnOk P w K mg base CX0 3 f_law_board fd_law_board ["_law_script","_law_high","_law_wide","_law_most"] (spGBoard K):=ok_law_board T D_law_board D_law_cell_at D_law_sign D_law_signs D_law_near D_law_rows D_law_bent
 refine D.F.ok sc_law_case (fun vs H Q E h=>?_) (fun cdv A outer s H vs Q E hr h=>?_)
 ·obtain ⟨a,ns,m,rfl,_⟩:=h
  rfl
 ·obtain ⟨a,ns,m,rfl,hS,q⟩:=h
  refine ⟨_,(pss_cons (ps_set (i:=2) sc_law_case.nd rfl (Or.inl rfl) (pe_call G_law_cell_at (hr.mono (by decide)) (by rfl) D_law_cell_at.g D_law_cell_at.F.kp D_law_cell_at.b .nil pass0 (pa_cons (pv 0) (pa_cons pe_int pa_nil))))
   (pss_cons (ps_set (i:=3) sc_law_case.nd rfl (Or.inl rfl) (pe_op op_add pe_int (pe_op op_mod (pv 2) pe_int)))
   (pss_cons (ps_set (i:=4) sc_law_case.nd rfl (Or.inr rfl) (pe_op op_add pe_int (pe_op op_mod (pe_op op_fdivG (pv 2) pe_int) pe_int)))
   (pss_cons (ps_set (i:=5) sc_law_case.nd rfl (Or.inr rfl) (pe_call G_law_signs (hr.mono (by decide)) (by rfl) D_law_signs.g D_law_signs.F.kp D_law_signs.b .nil pass0 (pa_cons (pv 0) (pa_cons (pe_op op_mulG (pv 3) (pv 4)) (pa_cons (pv 1) pa_nil)))))
   (pss_cons (ps_setC (i:=6) sc_law_case.nd rfl rfl (N:=["_law_k","_law_wide","_law_signs_here"]) (src:=[none,some 4,some 5]) (CompOk.free (O:=(defScope s_law_case).names) (XN:=["_law_script","_law_most","_law_cell","_law_high","_law_wide","_law_signs_here","_law_stones"]) rfl rfl ⟨_,rfl⟩ rfl rfl (by decide +kernel) (by decide +kernel) (by decide +kernel) rfl (by decide +kernel)) rfl (pi_range1 (by rfl) T.b_range (pa_cons (pe_op op_mulG (pv 3) (pv 4)) pa_nil)) (fun _ _ _ _ _=>(pg_name (i:=0) (by show List.Nodup (["_law_k","_law_wide","_law_signs_here"]:List Str); decide +kernel) rfl (Or.inl rfl))) (fun _ _ _ _ _=>(pifs_one (pt_cmpR op_eq (pe_ix (ix_listK (K:=K) (by rfl)) (pv 2) (pv 0) (fun _ _=>rfl)) pe_str (nomark _)))) (fun _ _ _ _ _=>(pe_tup (pa_cons (pe_op op_fdivG (pv 0) (pv 1)) (pa_cons (pe_op op_mod (pv 0) (pv 1)) pa_nil)))))
   (pss_one (ps_ret (pe_tup (pa_cons (pe_call G_law_board (hr.mono (by decide)) (by rfl) D_law_board.g D_law_board.F.kp D_law_board.b .nil pass0 (pa_cons (pv 0) (pa_cons (pv 3) (pa_cons (pv 4) (pa_cons (pv 1) pa_nil))))) (pa_cons (pv 6) pa_nil)))))))))),?_⟩
  refine ⟨_,rfl,a,ns,_,rfl,hS,by decide,fun c=>?_⟩
  refine ⟨_,rfl,_,_,rfl,rfl,(by show (0:Int) < 8; decide),_,_,rfl,rfl,?_⟩
  refine ⟨_,rfl,_,_,rfl,rfl,CDivG.small (by decide) (by decide),_,_,rfl,rfl,(by show (0:Int) < 8; decide),_,_,rfl,rfl,?_⟩
  have h0:=Int.emod_nonneg c (show (8:Int) ≠ 0 by decide)
  have h1:=Int.emod_lt_of_pos c (show (0:Int) < 8 by decide)
  have w0:=Int.emod_nonneg (c / 8) (show (8:Int) ≠ 0 by decide)
  have w1:=Int.emod_lt_of_pos (c / 8) (show (0:Int) < 8 by decide)
  obtain ⟨hN,eh⟩:∃ h:Nat,1 + c % 8=((h:Nat):Int):=⟨(1 + c % 8).toNat,by omega⟩
  obtain ⟨wN,ew⟩:∃ w:Nat,1 + c / 8 % 8=((w:Nat):Int):=⟨(1 + c / 8 % 8).toNat,by omega⟩
  have p0:0<=(1 + c % 8) * (1 + c / 8 % 8):=Int.mul_nonneg (by omega) (by omega)
  have p1:(1 + c % 8) * (1 + c / 8 % 8)<=8 * 8:=Int.mul_le_mul (by omega) (by omega) (by omega) (by omega)
  have pN:((1 + c % 8) * (1 + c / 8 % 8)).toNat=hN * wN:=by
   rw [eh,ew,<- Int.natCast_mul,Int.toNat_natCast]
  refine ⟨_,rfl,_,rfl,_,rfl,_,_,rfl,rfl,mulL (by omega) (by omega),_,rfl,a,ns,_,_,rfl,hS,p0,by omega,fun l H1 hl hl1 s1=>?_⟩
  refine ⟨_,rfl,_,rfl,_,_,rfl,rfl,mulL (by omega) (by omega),_,rfl,by omega,by omega,fun z hz=>?_⟩
  have sg:=sgT_signs ns m ((1 + c % 8) * (1 + c / 8 % 8)).toNat
  rw [pN] at hl1 sg
  show _
  refine comp_range (lo:=0) (n:=((1 + c % 8) * (1 + c / 8 % 8)).toNat) (fun i σ H'=>(∃ u0,σ=[u0,some (.int (1 + c / 8 % 8)),some (.ref l)])/\Same H1 H'/\∃ ys,H' z=some (.lst ys)/\Cel H' ys (stS (sgT ns m (hN * wN)) wN i)/\ys.length<=i) ⟨⟨_,rfl⟩,same_new hz,[],upd_same,.nil,Nat.le_refl _⟩ ?_ ?_
  ·rintro i σ H2 hi ⟨⟨u0,rfl⟩,s2,ys,hz2,hc2,yl⟩
   rw [pN] at hi
   obtain ⟨x,hx⟩:∃ x,(sgT ns m (hN * wN))[i]?=some x:=⟨_,List.getElem?_eq_getElem (by rw [sg.len]; exact hi)⟩
   obtain ⟨k,hk,ex⟩:=sg.mem x (List.mem_of_getElem? hx)
   have step:stS (sgT ns m (hN * wN)) wN (i + 1)=stS (sgT ns m (hN * wN)) wN i++if k=111 then [(i / wN,i % wN)] else []:=by
    unfold stS
    rw [List.range_succ,List.filter_append,List.map_append]
    congr 1
    by_cases h111:k=111
    ·rw [if_pos h111,List.filter_cons,if_pos (decide_eq_true (by rw [hx,ex,h111]; rfl))]
     rfl
    ·rw [if_neg h111,List.filter_cons,if_neg (fun y=>h111 (by
      have e1:=of_decide_eq_true y
      rw [hx,ex] at e1
      have e2:(⟨#[k]⟩:Str)=one 111:=Option.some.inj e1
      have e3:#[k]=#[111]:=congrArg Str.cps e2
      have e4:[k]=[111]:=congrArg Array.toList e3
      exact (List.cons.inj e4).1))]
     rfl
   refine ⟨_,rfl,_,rfl,l,_,_,.str x,rfl,rfl,SqL.of (s2 _ _ hl1),(by rw [Int.zero_add]; exact atI_nat (by rw [List.getElem?_map,hx]; rfl)),rfl,_,rfl,?_⟩
   have eo:("o":Str)=⟨#[111]⟩:=by decide +kernel
   by_cases h111:k=111
   ·rw [if_pos h111] at step
    refine iteP (decide_eq_true (by rw [ex,h111,eo])) ?_
    refine ⟨_,rfl,_,rfl,_,_,rfl,rfl,CDivG.small (by show (0:Int) < 1 + c / 8 % 8; omega) (by show 1 + c / 8 % 8 < _; exact Int.lt_of_le_of_lt (show _<=8 by omega) (by decide)),_,rfl,_,rfl,_,_,rfl,rfl,(by show (0:Int) < 1 + c / 8 % 8; omega),(by show 2<=sizeLine; decide),fun p hp=>?_⟩
    show ∃ ys,_
    have z3:=same_new (o:=.tup [.int ((0 + (i:Int)) / (1 + c / 8 % 8)),.int ((0 + (i:Int)) % (1 + c / 8 % 8))]) hp
    refine ⟨ys,z3 _ _ hz2,Nat.lt_of_le_of_lt (show ys.length<=64 by have:=Nat.mul_le_mul (show hN<=8 by omega) (show wN<=8 by omega); omega) (by decide),⟨_,rfl⟩,fun b o e=>?_,ys++[.ref p],upd_same,?_,by rw [List.length_append]; exact Nat.succ_le_succ yl⟩
    ·rw [upd_ne (ne_of_none e hz)]
     exact z3 _ _ (s2 _ _ e)
    ·rw [step]
     refine Cel.into z _ (z3 _ _ hz2) (Cel.snoc (hc2.mono z3) ⟨p,rfl,?_⟩)
     rw [upd_same,divN ew,modN ew]
   ·rw [if_neg h111,List.append_nil] at step
    refine iteN (decide_eq_false fun y=>h111 ?_) ⟨⟨_,rfl⟩,s2,ys,hz2,by rw [step]; exact hc2,by omega⟩
    rw [ex,eo] at y
    have e2:(⟨#[k]⟩:Str)=⟨#[111]⟩:=V.str.inj y
    have e3:#[k]=#[111]:=congrArg Str.cps e2
    have e4:[k]=[111]:=congrArg Array.toList e3
    exact (List.cons.inj e4).1
  ·rintro σ H2 ⟨_,s2,ys,hz2,hc2,_⟩
   rw [pN] at hc2
   have s12:=s1.trans s2
   refine ⟨_,rfl,_,rfl,_,rfl,_,rfl,a,ns,_,_,_,rfl,s12.seq hS,by omega,by omega,by omega,by omega,fun p l2 rs n H3 hp B R hlen hwid hsh s3=>?_⟩
   refine ⟨_,rfl,(by show 2<=sizeLine; decide),fun t ht=>?_⟩
   have z4:=same_new (o:=.tup [.ref p,.ref z]) ht
   rw [pN,ew] at hsh
   exact q t p l2 z rs n ys _ _ upd_same (B.mono z4) R (z4 _ _ (s3 _ _ hz2)) (hc2.mono (s3.trans z4)) (stS_lex (by omega)) (stS_shut (by omega) (by omega) hsh) (s12.trans (s3.trans z4))
end
theorem any_mem (cs:List (Nat × Nat))(c:Nat × Nat):(cs.any fun z=>decide (z=c))=decide (c ∈ cs):=by
 rw [Bool.eq_iff_iff,List.any_eq_true,decide_eq_true_eq]
 constructor
 ·rintro ⟨x,h1,h2⟩
  have e:x=c:=of_decide_eq_true h2
  rw [<- e]
  exact h1
 ·intro h
  exact ⟨c,h,decide_eq_true rfl⟩
theorem in_is (g:List (Nat × Nat))(c:Nat × Nat):(if false=true then !(g.map cData).any (fun z=>PyData.eqv z (cData c)) else (g.map cData).any fun z=>PyData.eqv z (cData c))=decide (c ∈ g):=(in_cells _ _).trans (any_mem _ _)
theorem notin_is (g:List (Nat × Nat))(c:Nat × Nat):(if true=true then !(g.map cData).any (fun z=>PyData.eqv z (cData c)) else (g.map cData).any fun z=>PyData.eqv z (cData c))=!decide (c ∈ g):=congrArg (fun b=>!b) ((in_cells _ _).trans (any_mem _ _))
noncomputable def cntA (rs:List Str)(S:List (Nat × Nat))(o:Nat × Nat):Nat:=((aroundC rs o).filter fun c=>decide (c ∈ S)).length
noncomputable def spTrue:Sp:=fun vs H Q _=>∃ (l sa:Addr) (rs:List Str) (us:List V) (S:List (Nat × Nat)),vs=[.ref l,.ref sa]/\H l=some (.lst (rs.map V.str))/\Rows bd.cps.toList rs/\H sa=some (.lst us)/\Cel H us S /\
 ∀ (b:Bool) (H':Hp),(b=true->∀ o ∈ openC rs,numW rs o=((cntA rs S o:Nat):Int))->Same H H'->Q (.bl b) H'
theorem around_few {rs:List Str}(R:Rows bd.cps.toList rs)(o:Nat × Nat):(aroundC rs o).length<=64:=by
 have h1:=Cells.allCs_length pCell 0 (codes rs) R.short
 have h2:=R.hi
 rw [codes_len] at h1
 exact Nat.le_trans (List.length_filter_le _ _) (by omega)
theorem cut_init (us:List V):cutV us none (some (-1))=us.take (us.length - 1):=by
 unfold cutV
 show (us.drop 0).take ((if (-1:Int) < 0 then ((-1:Int) + (us.length:Int)).toNat else min (-1:Int).toNat us.length) - 0)=_
 rw [if_pos (by decide),List.drop_zero]
 congr 1
 omega
theorem cut_rest (us:List V):cutV us (some 1) none=us.drop 1:=by
 unfold cutV
 show (us.drop (if (1:Int) < 0 then ((1:Int) + (us.length:Int)).toNat else min (1:Int).toNat us.length)).take (us.length - (if (1:Int) < 0 then ((1:Int) + (us.length:Int)).toNat else min (1:Int).toNat us.length))=_
 rw [if_neg (by decide)]
 cases us with
 | nil=>rfl
 | cons u r =>
  rw [show min (1:Int).toNat (u :: r).length=1 by simp]
  exact List.take_of_length_le (by simp)
structure FitsP (rs:List Str)(part q:List (Nat × Nat)):Prop where
 up:q.Pairwise Cells.lex
 sub:∀ c ∈ q,c ∈ part
 num:∀ o ∈ openC rs,((part.filter fun c=>decide (c ∈ aroundC rs o)) ≠ [])->numW rs o=(((q.filter fun c=>decide (c ∈ aroundC rs o)).length:Nat):Int)
noncomputable def spFits:Sp:=fun vs H Q _=>∃ (l pa ka:Addr) (rs:List Str) (ups ws:List V) (part q:List (Nat × Nat)),vs=[.ref l,.ref pa,.ref ka]/\H l=some (.lst (rs.map V.str))/\Rows bd.cps.toList rs/\H pa=some (.lst ups)/\Cel H ups part/\part.length<=64/\H ka=some (.lst ws)/\Cel H ws q/\q.length<=64/\FitsP rs part q/\∀ H',Same H H'->Q (.bl true) H'
theorem lex_lt2 {c d:Nat × Nat}(h:Cells.lex c d):lt2 (toI c) (toI d)=true:=lt2_lex.mpr h
section
variable {P:Program}{w:World}{K:PySem.W.Frag}{mg:Str->Option Value}{base:Heap}{f:Addr}{fd:FuncData}
theorem sc_law_is_true:FnScope ["_law_rows_here","_law_stones","_law_cell"] ["_law_rows_here","_law_stones"] (defScope s_law_is_true):=⟨rfl,rfl,rfl,by decide +kernel,rfl,by decide +kernel,by decide +kernel⟩
theorem ok_law_is_true (T:Txt mg)(Z:Prog K mg)(D:DefAt K mg "_law_is_true" s_law_is_true ["_law_rows_here","_law_stones"] f fd):FnOk P w K mg base CX0 3 f fd ["_law_rows_here","_law_stones"] spTrue:=by
 obtain ⟨f_law_cells,fd_law_cells,D_law_cells⟩:=Z.law_cells
 obtain ⟨f_law_near,fd_law_near,D_law_near⟩:=Z.law_near
 obtain ⟨f_law_around,fd_law_around,D_law_around⟩:=Z.law_around
 have G_law_cells:FnOk P w K mg base CX0 1 f_law_cells fd_law_cells ["_law_rows_here","_law_signs_here"] spGCells:=ok_law_cells T D_law_cells
 have G_law_around:FnOk P w K mg base CX0 2 f_law_around fd_law_around ["_law_rows_here","_law_cell"] (spGAround aroundC):=ok_law_around T D_law_around D_law_near
 refine D.F.ok sc_law_is_true (fun vs H Q E h=>?_) (fun cdv A outer s H vs Q E hr h=>?_)
 ·obtain ⟨l,sa,rs,us,S,rfl,_⟩:=h
  rfl
 ·obtain ⟨l,sa,rs,us,S,rfl,hl,R,hsa,hS,q⟩:=h
  refine ⟨_,(pss_cons (ps_for PassesOwn.never rfl (pi_list (pe_call G_law_cells (hr.mono (by decide)) (by rfl) D_law_cells.g D_law_cells.F.kp D_law_cells.b .nil pass0 (pa_cons (pv 0) (pa_cons pe_str pa_nil)))) (pg_name (i:=2) sc_law_is_true.nd rfl (Or.inl rfl)) (pss_one (ps_if (pt_cmpR op_ne (pe_callTy call_int_str (by rfl) T.b_int PyProof.Rows.boot_int (pa_cons (pe_ix ix_str (pe_ix ix_list (pv 0) (pe_ix ix_tup (pv 2) pe_int (fun _ _=>rfl)) (fun _ _=>rfl)) (pe_ix ix_tup (pv 2) pe_int (fun _ _=>rfl)) (fun _ _=>rfl)) pa_nil)) (pe_callB call_len_seq (by rfl) T.b_len PySem.boot_len (pa_cons (pe_comp (N:=["_law_one","_law_stones"]) (src:=[none,some 1]) (CompOk.free (O:=(defScope s_law_is_true).names) (XN:=["_law_rows_here","_law_stones","_law_cell"]) rfl rfl ⟨_,rfl⟩ rfl rfl (by decide +kernel) (by decide +kernel) (by decide +kernel) rfl (by decide +kernel)) rfl (pi_list (pe_call G_law_around (hr.mono (by decide)) (by rfl) D_law_around.g D_law_around.F.kp D_law_around.b .nil pass0 (pa_cons (pv 0) (pa_cons (pv 2) pa_nil)))) (fun _ _ _ _ _=>(pg_name (i:=0) (by show List.Nodup (["_law_one","_law_stones"]:List Str); decide +kernel) rfl (Or.inl rfl))) (fun _ _ _ _ _=>(pifs_one (pt_cmpR (op_in_deepK (K:=K) (by rfl) hr.units) (pv 0) (pv 1) (by rfl)))) (fun _ _ _ _ _=>(pv 0))) pa_nil)) (nomark _)) (pss_one (ps_ret pe_bl)) pss_nil)))
   (pss_one (ps_ret pe_bl))),?_⟩
  refine ⟨_,rfl,l,rs,"012345678",rfl,hl,R,fun dc wc H1 hdc hdc1 hcc s1=>⟨dc,rfl,⟨_,SqL.of hdc1⟩,?_⟩⟩
  rw [cells_open R] at hcc
  refine for_list (K:=K) (a:=dc) (xs:=wc) (fun i σ H'=>∃ v2:Option V,σ=[some (.ref l),some (.ref sa),v2]/\Same H1 H'/\∀ o ∈ (openC rs).take i,numW rs o=((cntA rs S o:Nat):Int)) ⟨_,rfl,Same.refl _,fun _ h=>by simp at h⟩ (fun i σ H' _ ⟨_,_,z,_⟩=>SqL.of (z _ _ hdc1)) ?_ ?_
  ·rintro i x σ H2 hx ⟨v2,rfl,s2,hN⟩
   obtain ⟨c,hci,ca,rfl,hca⟩:=Cel.get (Cel.mono s2 hcc) hx
   have cm:=List.mem_of_getElem? hci
   obtain ⟨t0,k,ht0,hk,hpo,hkin,tln⟩:=R.openAt cm
   obtain ⟨k1,k2⟩:=open_sign hkin hpo
   have es:Cells.sgn (codes rs) c=k:=Cells.sgn_at (codes_get ht0) hk
   obtain ⟨c64,d64⟩:=cell_small R ht0 hk
   have s02:=s1.trans s2
   have hl2:=s02 _ _ hl
   refine ⟨_,rfl,_,rfl,ca,_,0,_,rfl,rfl,SqT.of hca,rfl,l,_,_,.str t0,rfl,rfl,SqL.of hl2,atI_nat (by rw [List.getElem?_map,ht0]; rfl),_,rfl,ca,_,1,_,rfl,rfl,SqT.of hca,rfl,t0,_,k,rfl,rfl,tln,atI_nat hk,_,_,rfl,int_sign k1 k2,(by show 1<=640; decide),?_⟩
   refine ⟨_,rfl,_,rfl,l,ca,rs,c,rfl,hl2,R,hca,c64,d64,fun d ws H3 hd hd3 hc3 s3=>⟨d,rfl,⟨_,SqL.of hd3⟩,fun z hz=>?_⟩⟩
   have s03:=s02.trans s3
   refine comp_data (K:=K) (a:=d) (xs:=ws) (fun a=>a ≠ z) ((aroundC rs c).map fun y=>if decide (y ∈ S)=true then some (cData y) else none) (fun σ=>∃ u0,σ=[u0,some (.ref sa)]) hz (fun _ h=>h) ⟨_,rfl⟩ (by rw [List.length_map]; exact hc3.length.symm) (by rw [hc3.length]; exact Nat.le_trans (around_few R c) (by decide)) (SqL.of hd3) ?_ ?_
   ·rintro m x o σ H4 hx ho s4 _ ⟨u0,rfl⟩ Y Z yes no
    obtain ⟨y,hyi,ry⟩:=Cel.get (Cel.mono s4 hc3) hx
    have eo:=map_at hyi ho
    refine ⟨_,rfl,_,rfl,cData y,S.map cData,ry.rdv,.lst (SqL.of ((s03.trans s4) _ _ hsa)) (gRdv (hS.mono (s03.trans s4))),rfl,g_lays _,(by show 1<=60; decide),_,rfl,?_⟩
    rw [in_is]
    by_cases hp:decide (y ∈ S)=true
    ·rw [if_pos hp] at eo
     exact iteP hp ⟨_,rfl,yes _ _ _ _ eo ⟨_,rfl⟩ (Same.refl _) ry.rdn⟩
    ·rw [if_neg hp] at eo
     exact iteN (Bool.eq_false_iff.mpr hp) (no _ _ eo ⟨_,rfl⟩ (Same.refl _))
   ·rintro ys H4 s4 hz4 hr4
    rw [outs_filter] at hr4
    have yl:ys.length=cntA rs S c:=(RdnAll.cel hr4).length
    refine ⟨z,_,rfl,.inl (SqL.of hz4),rfl,_,rfl,ite2 (fun h=>?_) (fun h=>?_)⟩
    ·exact q false _ (fun z=>nomatch z) (s03.trans s4)
    ·refine ⟨_,rfl,s2.trans (s3.trans s4),fun o ho=>?_⟩
     rw [List.take_add_one,hci] at ho
     rcases List.mem_append.mp ho with ho | ho
     ·exact hN o ho
     ·have eo:o=c:=by simpa using ho
      rw [eo]
      have h2:V.int ((k:Int) - 48)=V.int ((ys.length:Nat):Int):=by
       by_cases e:V.int ((k:Int) - 48)=V.int ((ys.length:Nat):Int)
       ·exact e
       ·refine absurd ?_ h
        show (!decide (V.int ((k:Int) - 48)=V.int ((ys.length:Nat):Int)))=true
        rw [decide_eq_false e]
        rfl
      unfold numW
      rw [es,<- yl]
      exact V.int.inj h2
  ·rintro σ H2 ⟨v2,rfl,s2,hN⟩
   rw [hcc.length,List.take_length] at hN
   exact q true _ (fun _=>hN) (s1.trans s2)
theorem sc_law_fits:FnScope ["_law_rows_here","_law_part","_law_cells_here","_law_one","_law_other","_law_cell","_law_near_here","_law_many"] ["_law_rows_here","_law_part","_law_cells_here"] (defScope s_law_fits):=⟨rfl,rfl,rfl,by decide +kernel,rfl,by decide +kernel,by decide +kernel⟩
theorem ok_law_fits (T:Txt mg)(Z:Prog K mg)(D:DefAt K mg "_law_fits" s_law_fits ["_law_rows_here","_law_part","_law_cells_here"] f fd):FnOk P w K mg base CX0 3 f fd ["_law_rows_here","_law_part","_law_cells_here"] spFits:=by
 obtain ⟨f_law_cells,fd_law_cells,D_law_cells⟩:=Z.law_cells
 obtain ⟨f_law_near,fd_law_near,D_law_near⟩:=Z.law_near
 obtain ⟨f_law_around,fd_law_around,D_law_around⟩:=Z.law_around
 have G_law_cells:FnOk P w K mg base CX0 1 f_law_cells fd_law_cells ["_law_rows_here","_law_signs_here"] spGCells:=ok_law_cells T D_law_cells
 have G_law_around:FnOk P w K mg base CX0 2 f_law_around fd_law_around ["_law_rows_here","_law_cell"] (spGAround aroundC):=ok_law_around T D_law_around D_law_near
 refine D.F.ok sc_law_fits (fun vs H Q E h=>?_) (fun cdv A outer s H vs Q E hr h=>?_)
 ·obtain ⟨l,pa,ka,rs,ups,ws,part,qs,rfl,_⟩:=h
  rfl
 ·obtain ⟨l,pa,ka,rs,ups,ws,part,qs,rfl,hl,R,hpa,hcp,pl,hka,hcq,ql,F,q⟩:=h
  refine ⟨_,(pss_cons (ps_for PassesOwn.never rfl (pi_zip (by rfl) T.b_zip (pa_cons (pe_slice sl_list (pv 2) po_none (po_some (pe_un un_neg pe_int))) (pa_cons (pe_slice sl_list (pv 2) (po_some pe_int) po_none) pa_nil))) (pg_tup rfl (pgs_cons (pg_name (i:=3) sc_law_fits.nd rfl (Or.inl rfl)) (pgs_cons (pg_name (i:=4) sc_law_fits.nd rfl (Or.inl rfl)) pgs_nil))) (pss_one (ps_if (pt_cmpR (op_ge_deep hr.units) (pv 3) (pv 4) (nomark _)) (pss_one (ps_ret pe_bl)) pss_nil)))
   (pss_cons (ps_if (pt_cmpR (op_ne_deep hr.units) (pe_comp (N:=["_law_one","_law_part"]) (src:=[none,some 1]) (CompOk.free (O:=(defScope s_law_fits).names) (XN:=["_law_rows_here","_law_part","_law_cells_here","_law_one","_law_other","_law_cell","_law_near_here","_law_many"]) rfl rfl ⟨_,rfl⟩ rfl rfl (by decide +kernel) (by decide +kernel) (by decide +kernel) rfl (by decide +kernel)) rfl (pi_list (pv 2)) (fun _ _ _ _ _=>(pg_name (i:=0) (by show List.Nodup (["_law_one","_law_part"]:List Str); decide +kernel) rfl (Or.inl rfl))) (fun _ _ _ _ _=>(pifs_one (pt_cmpR (op_notIn_deepK (K:=K) (by rfl) hr.units) (pv 0) (pv 1) (by rfl)))) (fun _ _ _ _ _=>(pv 0))) (pe_lst pa_nil) (nomark _)) (pss_one (ps_ret pe_bl)) pss_nil)
   (pss_cons (ps_for PassesOwn.never rfl (pi_list (pe_call G_law_cells (hr.mono (by decide)) (by rfl) D_law_cells.g D_law_cells.F.kp D_law_cells.b .nil pass0 (pa_cons (pv 0) (pa_cons pe_str pa_nil)))) (pg_name (i:=5) sc_law_fits.nd rfl (Or.inl rfl)) (pss_cons (ps_set (i:=6) sc_law_fits.nd rfl (Or.inr rfl) (pe_call G_law_around (hr.mono (by decide)) (by rfl) D_law_around.g D_law_around.F.kp D_law_around.b .nil pass0 (pa_cons (pv 0) (pa_cons (pv 5) pa_nil))))
   (pss_cons (ps_set (i:=7) sc_law_fits.nd rfl (Or.inl rfl) (pe_callB call_len_seq (by rfl) T.b_len PySem.boot_len (pa_cons (pe_comp (N:=["_law_one","_law_near_here"]) (src:=[none,some 6]) (CompOk.free (O:=(defScope s_law_fits).names) (XN:=["_law_rows_here","_law_part","_law_cells_here","_law_one","_law_other","_law_cell","_law_near_here","_law_many"]) rfl rfl ⟨_,rfl⟩ rfl rfl (by decide +kernel) (by decide +kernel) (by decide +kernel) rfl (by decide +kernel)) rfl (pi_list (pv 2)) (fun _ _ _ _ _=>(pg_name (i:=0) (by show List.Nodup (["_law_one","_law_near_here"]:List Str); decide +kernel) rfl (Or.inl rfl))) (fun _ _ _ _ _=>(pifs_one (pt_cmpR (op_in_deepK (K:=K) (by rfl) hr.units) (pv 0) (pv 1) (by rfl)))) (fun _ _ _ _ _=>(pv 0))) pa_nil)))
   (pss_one (ps_if (PW.pt (pw_and (pt_cmpR (op_ne_deep hr.units) (pe_comp (N:=["_law_one","_law_near_here"]) (src:=[none,some 6]) (CompOk.free (O:=(defScope s_law_fits).names) (XN:=["_law_rows_here","_law_part","_law_cells_here","_law_one","_law_other","_law_cell","_law_near_here","_law_many"]) rfl rfl ⟨_,rfl⟩ rfl rfl (by decide +kernel) (by decide +kernel) (by decide +kernel) rfl (by decide +kernel)) rfl (pi_list (pv 1)) (fun _ _ _ _ _=>(pg_name (i:=0) (by show List.Nodup (["_law_one","_law_near_here"]:List Str); decide +kernel) rfl (Or.inl rfl))) (fun _ _ _ _ _=>(pifs_one (pt_cmpR (op_in_deepK (K:=K) (by rfl) hr.units) (pv 0) (pv 1) (by rfl)))) (fun _ _ _ _ _=>(pv 0))) (pe_lst pa_nil) (nomark _)) (pw_and1 (pt_cmpR op_ne (pv 7) (pe_callTy call_int_str (by rfl) T.b_int PyProof.Rows.boot_int (pa_cons (pe_ix ix_str (pe_ix ix_list (pv 0) (pe_ix ix_tup (pv 5) pe_int (fun _ _=>rfl)) (fun _ _=>rfl)) (pe_ix ix_tup (pv 5) pe_int (fun _ _=>rfl)) (fun _ _=>rfl)) pa_nil)) (nomark _))))) (pss_one (ps_ret pe_bl)) pss_nil)))))
   (pss_one (ps_ret pe_bl))))),?_⟩
  refine ⟨_,rfl,_,rfl,_,rfl,ka,ws,rfl,SqL.of hka,fun x1 hx1=>?_⟩
  have z1:=same_new (o:=.lst (cutV ws none (some (-1)))) hx1
  have ex1:upd H x1 (.lst (cutV ws none (some (-1)))) x1=some (.lst (cutV ws none (some (-1)))):=upd_same
  refine ⟨_,rfl,_,rfl,ka,ws,rfl,SqL.of (z1 _ _ hka),fun x2 hx2=>?_⟩
  have z2:=same_new (o:=.lst (cutV ws (some 1) none)) hx2
  have ex2:upd (upd H x1 (.lst (cutV ws none (some (-1))))) x2 (.lst (cutV ws (some 1) none)) x2=some (.lst (cutV ws (some 1) none)):=upd_same
  have ex1':=z2 _ _ ex1
  have s2:=z1.trans z2
  clear ex1 hx1 hx2 z1 z2
  generalize upd (upd H x1 (.lst (cutV ws none (some (-1))))) x2 (.lst (cutV ws (some 1) none))=H2 at *
  refine ⟨x1,x2,rfl,⟨_,SqL.of ex1'⟩,⟨_,SqL.of ex2⟩,?_⟩
  rw [cut_init] at ex1'
  rw [cut_rest] at ex2
  have wl:=hcq.length
  refine for_zip (K:=K) (l1:=x1) (l2:=x2) (xs:=ws.take (ws.length - 1)) (ys:=ws.drop 1) (fun i σ H'=>∃ v3 v4 v5 v6 v7,σ=[some (.ref l),some (.ref pa),some (.ref ka),v3,v4,v5,v6,v7]/\Same H2 H') (by rw [List.length_take,List.length_drop]; omega) ⟨_,_,_,_,_,rfl,Same.refl _⟩ (fun i σ H' _ ⟨_,_,_,_,_,_,s5⟩=>⟨SqL.of (s5 _ _ ex1'),SqL.of (s5 _ _ ex2)⟩) ?_ ?_
  ·rintro i x y tt σ H3 hx hy htt ⟨v3,v4,v5,v6,v7,rfl,s3⟩
   have hi:i < ws.length - 1:=by
    have:=(List.getElem?_eq_some_iff.mp hx).1
    rw [List.length_take] at this
    omega
   rw [List.getElem?_take,if_pos hi] at hx
   rw [List.getElem?_drop,Nat.add_comm] at hy
   have z4:=same_new (o:=.tup [x,y]) htt
   have s4:=s2.trans (s3.trans z4)
   have e4:upd H3 tt (.tup [x,y]) tt=some (.tup [x,y]):=upd_same
   have s24:=s3.trans z4
   clear z4 htt
   generalize upd H3 tt (.tup [x,y])=H4 at *
   obtain ⟨c,hci,ca,rfl,hca⟩:=Cel.get (hcq.mono s4) hx
   obtain ⟨d,hdi,da,rfl,hda⟩:=Cel.get (hcq.mono s4) hy
   have hlt:=lex_lt2 (Cells.pair_next F.up hci hdi)
   refine ⟨tt,_,rfl,SqT.of e4,rfl,_,_,rfl,_,_,rfl,rfl,?_⟩
   refine ⟨_,rfl,_,rfl,ca,da,toI c,toI d,rfl,rfl,hca,hda,_,rfl,?_⟩
   rw [hlt]
   exact iteF ⟨_,_,_,_,_,rfl,s24⟩
  rintro σ H3 ⟨v3,v4,v5,v6,v7,rfl,s3⟩
  have s03:=s2.trans s3
  refine ⟨_,rfl,ka,rfl,⟨_,SqL.of (s03 _ _ hka)⟩,fun z hz=>?_⟩
  refine comp_data (K:=K) (a:=ka) (xs:=ws) (fun a=>a ≠ z) (qs.map fun y=>if (!decide (y ∈ part))=true then some (cData y) else none) (fun σ=>∃ u0,σ=[u0,some (.ref pa)]) hz (fun _ h=>h) ⟨_,rfl⟩ (by rw [List.length_map]; exact hcq.length.symm) (by rw [hcq.length]; exact Nat.le_trans ql (by decide)) (SqL.of (s03 _ _ hka)) ?_ ?_
  ·rintro m x o σ H4 hx ho s4 _ ⟨u0,rfl⟩ Y Z yes no
   have s04:=s03.trans s4
   obtain ⟨y,hyi,ry⟩:=Cel.get (hcq.mono s04) hx
   have eo:=map_at hyi ho
   refine ⟨_,rfl,_,rfl,cData y,part.map cData,ry.rdv,.lst (SqL.of (s04 _ _ hpa)) (gRdv (hcp.mono s04)),rfl,g_lays _,(by show 1<=60; decide),_,rfl,?_⟩
   rw [notin_is]
   have hy:=F.sub y (List.mem_of_getElem? hyi)
   rw [decide_eq_true hy]
   rw [decide_eq_true hy] at eo
   exact iteF (no _ _ eo ⟨_,rfl⟩ (Same.refl _))
  rintro y4 H4 s4 hz4 hr4
  rw [outs_filter,List.filter_eq_nil_iff.mpr (fun y hy=>by rw [decide_eq_true (F.sub y hy)]; decide)] at hr4
  refine ⟨(by show 0<=sizeLine; decide),fun e he=>?_⟩
  have z5:=same_new (o:=.lst []) he
  refine ⟨.list (([]:List (Nat × Nat)).map cData),.list [],.lst (SqL.of (z5 _ _ hz4)) (RdnAll.rdv (RdnAll.keep z5 hr4)),.lst (SqL.of upd_same) .nil,g_cmp [],_,rfl,iteN rfl ?_⟩
  have s05:=s03.trans (s4.trans z5)
  have hl5:=s05 _ _ hl
  clear z5 he hz4 hr4 hz
  generalize upd H4 e (.lst [])=H5 at *
  refine ⟨_,rfl,l,rs,"012345678",rfl,hl5,R,fun dc wc H6 hdc hdc6 hcc s6=>⟨dc,rfl,⟨_,SqL.of hdc6⟩,?_⟩⟩
  rw [cells_open R] at hcc
  have s06:=s05.trans s6
  refine for_list (K:=K) (a:=dc) (xs:=wc) (fun i σ H'=>∃ v3 v4 v5 v6 v7:Option V,σ=[some (.ref l),some (.ref pa),some (.ref ka),v3,v4,v5,v6,v7]/\Same H6 H') ⟨_,_,_,_,_,rfl,Same.refl _⟩ (fun i σ H' _ ⟨_,_,_,_,_,_,z⟩=>SqL.of (z _ _ hdc6)) ?_ ?_
  ·rintro i x σ H7 hx ⟨v3,v4,v5,v6,v7,rfl,s7⟩
   obtain ⟨c,hci,ca,rfl,hca⟩:=Cel.get (Cel.mono s7 hcc) hx
   have cm:=List.mem_of_getElem? hci
   obtain ⟨t0,k,ht0,hk,hpo,hkin,tln⟩:=R.openAt cm
   obtain ⟨k1,k2⟩:=open_sign hkin hpo
   have es:Cells.sgn (codes rs) c=k:=Cells.sgn_at (codes_get ht0) hk
   obtain ⟨c64,d64⟩:=cell_small R ht0 hk
   have s07:=s06.trans s7
   refine ⟨_,rfl,_,rfl,l,ca,rs,c,rfl,s07 _ _ hl,R,hca,c64,d64,fun d ns H8 hd hd8 hc8 s8=>?_⟩
   have s08:=s07.trans s8
   refine ⟨_,rfl,ka,rfl,⟨_,SqL.of (s08 _ _ hka)⟩,fun z hz=>?_⟩
   refine comp_data (K:=K) (a:=ka) (xs:=ws) (fun a=>a ≠ z) (qs.map fun y=>if decide (y ∈ aroundC rs c)=true then some (cData y) else none) (fun σ=>∃ u0,σ=[u0,some (.ref d)]) hz (fun _ h=>h) ⟨_,rfl⟩ (by rw [List.length_map]; exact hcq.length.symm) (by rw [hcq.length]; exact Nat.le_trans ql (by decide)) (SqL.of (s08 _ _ hka)) ?_ ?_
   ·rintro m x o σ H9 hx ho s9 _ ⟨u0,rfl⟩ Y Z yes no
    obtain ⟨y,hyi,ry⟩:=Cel.get (hcq.mono (s08.trans s9)) hx
    have eo:=map_at hyi ho
    refine ⟨_,rfl,_,rfl,cData y,(aroundC rs c).map cData,ry.rdv,.lst (SqL.of (s9 _ _ hd8)) (gRdv (hc8.mono s9)),rfl,g_lays _,(by show 1<=60; decide),_,rfl,?_⟩
    rw [in_is]
    by_cases hp:decide (y ∈ aroundC rs c)=true
    ·rw [if_pos hp] at eo
     exact iteP hp ⟨_,rfl,yes _ _ _ _ eo ⟨_,rfl⟩ (Same.refl _) ry.rdn⟩
    ·rw [if_neg hp] at eo
     exact iteN (Bool.eq_false_iff.mpr hp) (no _ _ eo ⟨_,rfl⟩ (Same.refl _))
   rintro y9 H9 s9 hz9 hr9
   rw [outs_filter] at hr9
   have yl:y9.length=(qs.filter fun y=>decide (y ∈ aroundC rs c)).length:=(RdnAll.cel hr9).length
   refine ⟨z,_,rfl,.inl (SqL.of hz9),?_⟩
   have s09:=s08.trans s9
   refine ⟨_,rfl,pa,rfl,⟨_,SqL.of (s09 _ _ hpa)⟩,fun z2 hz2=>?_⟩
   refine comp_data (K:=K) (a:=pa) (xs:=ups) (fun a=>a ≠ z2) (part.map fun y=>if decide (y ∈ aroundC rs c)=true then some (cData y) else none) (fun σ=>∃ u0,σ=[u0,some (.ref d)]) hz2 (fun _ h=>h) ⟨_,rfl⟩ (by rw [List.length_map]; exact hcp.length.symm) (by rw [hcp.length]; exact Nat.le_trans pl (by decide)) (SqL.of (s09 _ _ hpa)) ?_ ?_
   ·rintro m x o σ H10 hx ho s10 _ ⟨u0,rfl⟩ Y Z yes no
    obtain ⟨y,hyi,ry⟩:=Cel.get (hcp.mono (s09.trans s10)) hx
    have eo:=map_at hyi ho
    refine ⟨_,rfl,_,rfl,cData y,(aroundC rs c).map cData,ry.rdv,.lst (SqL.of (s10 _ _ (s9 _ _ hd8))) (gRdv (hc8.mono (s9.trans s10))),rfl,g_lays _,(by show 1<=60; decide),_,rfl,?_⟩
    rw [in_is]
    by_cases hp:decide (y ∈ aroundC rs c)=true
    ·rw [if_pos hp] at eo
     exact iteP hp ⟨_,rfl,yes _ _ _ _ eo ⟨_,rfl⟩ (Same.refl _) ry.rdn⟩
    ·rw [if_neg hp] at eo
     exact iteN (Bool.eq_false_iff.mpr hp) (no _ _ eo ⟨_,rfl⟩ (Same.refl _))
   rintro y10 H10 s10 hz10 hr10
   rw [outs_filter] at hr10
   refine ⟨(by show 0<=sizeLine; decide),fun e he=>?_⟩
   have z11:=same_new (o:=.lst []) he
   have s11:=s7.trans (s8.trans (s9.trans (s10.trans z11)))
   refine ⟨.list ((part.filter fun y=>decide (y ∈ aroundC rs c)).map cData),.list [],.lst (SqL.of (z11 _ _ hz10)) (RdnAll.rdv (RdnAll.keep z11 hr10)),.lst (SqL.of upd_same) .nil,g_cmp _,_,rfl,?_⟩
   show if (!PyData.eqv (.list ((part.filter fun y=>decide (y ∈ aroundC rs c)).map cData)) (.list (([]:List (Nat × Nat)).map cData)))=true then _ else _
   rw [g_eqv]
   by_cases hne:(part.filter fun y=>decide (y ∈ aroundC rs c))=[]
   ·exact iteN (by rw [decide_eq_true hne]; rfl) (iteF ⟨_,_,_,_,_,rfl,s11⟩)
   ·refine iteP (by rw [decide_eq_false hne]; rfl) ?_
    have hn:=F.num c cm hne
    have s011:=s06.trans s11
    refine ⟨_,rfl,_,rfl,_,rfl,ca,_,0,_,rfl,rfl,SqT.of ((s8.trans (s9.trans (s10.trans z11))) _ _ hca),rfl,l,_,_,.str t0,rfl,rfl,SqL.of (s011 _ _ hl),atI_nat (by rw [List.getElem?_map,ht0]; rfl),_,rfl,ca,_,1,_,rfl,rfl,SqT.of ((s8.trans (s9.trans (s10.trans z11))) _ _ hca),rfl,t0,_,k,rfl,rfl,tln,atI_nat hk,_,_,rfl,int_sign k1 k2,(by show 1<=640; decide),rfl,_,rfl,iteN ?_ ⟨_,_,_,_,_,rfl,s11⟩⟩
    unfold numW at hn
    rw [es] at hn
    show (!decide (V.int ((y9.length:Nat):Int)=V.int ((k:Int) - 48)))=false
    rw [yl,hn,decide_eq_true rfl]
    rfl
  ·rintro σ H7 ⟨v3,v4,v5,v6,v7,rfl,s7⟩
   exact q _ (s06.trans s7)
end
theorem two_nodup {α:Type}{c:α}{L:List (List α)}(hc:∀ b ∈ L,c ∉ b)(hn:L.Nodup):(L.flatMap fun b=>[b,c :: b]).Nodup:=by
 induction L with
 | nil=>exact List.nodup_nil
 | cons b L ih =>
  have hb:=hc b List.mem_cons_self
  have h2:=List.nodup_cons.mp hn
  have hr:=ih (fun x hx=>hc x (List.mem_cons_of_mem _ hx)) h2.2
  have mem:∀ x,x ∈ (L.flatMap fun b=>[b,c :: b])->∃ y ∈ L,x=y\/x=c :: y:=fun x hx=>by
   obtain ⟨y,hy,h⟩:=List.mem_flatMap.mp hx
   exact ⟨y,hy,by simpa using h⟩
  show (b :: (c :: b) :: (L.flatMap fun b=>[b,c :: b])).Nodup
  refine List.nodup_cons.mpr ⟨fun h=>?_,List.nodup_cons.mpr ⟨fun h=>?_,hr⟩⟩
  ·rcases List.mem_cons.mp h with e | h
   ·exact hb (by rw [e]; exact List.mem_cons_self)
   ·obtain ⟨y,hy,e | e⟩:=mem _ h
    ·exact h2.1 (by rw [e]; exact hy)
    ·exact hb (by rw [e]; exact List.mem_cons_self)
  ·obtain ⟨y,hy,e | e⟩:=mem _ h
   ·exact hc y (List.mem_cons_of_mem _ hy) (by rw [<- e]; exact List.mem_cons_self)
   ·exact h2.1 (by rw [(List.cons.inj e).2]; exact hy)
theorem subs_nodup {α:Type}{cs:List α}(h:cs.Nodup):(Subs.subs cs).Nodup:=by
 induction cs with
 | nil=>exact List.nodup_cons.mpr ⟨(fun h=>nomatch h),List.nodup_nil⟩
 | cons c r ih =>
  have h2:=List.nodup_cons.mp h
  rw [Tally.subs_cons]
  exact two_nodup (fun b hb hc=>h2.1 ((Tally.mem_len hb).subset hc)) (ih h2.2)
theorem toL_inj {a b:List (Nat × Nat)}(h:toL a=toL b):a=b:=by
 unfold toL at h
 induction a generalizing b with
 | nil =>
  cases b with
  | nil=>rfl
  | cons y r=>cases h
 | cons x l ih =>
  cases b with
  | nil=>cases h
  | cons y r =>
   rw [List.map_cons,List.map_cons,List.cons.injEq] at h
   rw [toI_inj h.1,ih h.2]
theorem lays_nodup {rs:List Str}{part:List (Nat × Nat)}(h:part.Nodup):(laysOf rs part).Nodup:=by
 have h1:((Subs.subs part).filter (Grow.fits (nearF rs) (numW rs) (numC rs part) part)).Nodup:=(subs_nodup h).sublist List.filter_sublist
 unfold laysOf
 unfold List.Nodup at h1 ⊢
 rw [List.pairwise_map]
 exact h1.imp fun z e=>z (toL_inj e)
theorem rise_at {ks:List (List (Int × Int))}(nd:ks.Nodup)(pw:ks.Pairwise fun p q=>PySem.SeqAt.ltL q p=false){i:Nat}{p q:List (Int × Int)}(h1:ks[i]?=some p)(h2:ks[i + 1]?=some q):PySem.SeqAt.ltL p q=true:=by
 obtain ⟨l1,e1⟩:=List.getElem?_eq_some_iff.mp h1
 obtain ⟨l2,e2⟩:=List.getElem?_eq_some_iff.mp h2
 have a:=List.pairwise_iff_getElem.mp pw i (i + 1) l1 l2 (by omega)
 have b:=List.pairwise_iff_getElem.mp nd i (i + 1) l1 l2 (by omega)
 rw [e1,e2] at a b
 rw [PySem.SeqAt.ltL_tot b] at a
 cases h:PySem.SeqAt.ltL p q with
 | true=>rfl
 | false =>
  rw [h] at a
  cases a
theorem near_is (rs:List Str)(o x:Nat × Nat):nearF rs o x=decide (x ∈ aroundC rs o):=any_mem _ _
theorem num_in {rs:List Str}{part:List (Nat × Nat)}{o:Nat × Nat}(ho:o ∈ openC rs)(h:∃ c ∈ part,c ∈ aroundC rs o):o ∈ (numC rs part).filter fun o=>part.any (nearF rs o):=by
 obtain ⟨c,hc,ha⟩:=h
 refine List.mem_filter.mpr ⟨List.mem_filter.mpr ⟨ho,?_⟩,?_⟩
 ·rw [List.any_eq_true]
  refine ⟨true,List.mem_map.mpr ⟨c,ha,?_⟩,rfl⟩
  rw [any_mem]
  exact decide_eq_true hc
 ·rw [List.any_eq_true]
  exact ⟨c,hc,by rw [near_is]; exact decide_eq_true ha⟩
theorem num_out {rs:List Str}{part:List (Nat × Nat)}{o:Nat × Nat}(h:o ∈ (numC rs part).filter fun o=>part.any (nearF rs o)):o ∈ openC rs/\∃ c ∈ part,c ∈ aroundC rs o:=by
 obtain ⟨h1,h2⟩:=List.mem_filter.mp h
 obtain ⟨c,hc,hn⟩:=List.any_eq_true.mp h2
 rw [near_is] at hn
 exact ⟨(List.mem_filter.mp h1).1,c,hc,of_decide_eq_true hn⟩
theorem lays_fits {rs:List Str}{part:List (Nat × Nat)}(up:part.Pairwise Cells.lex){k:List (Int × Int)}(h:k ∈ laysOf rs part):∃ q,k=toL q/\q.length<=part.length/\FitsP rs part q:=by
 obtain ⟨q,hq,rfl⟩:=List.mem_map.mp h
 obtain ⟨h1,h2⟩:=List.mem_filter.mp hq
 have sl:=Tally.mem_len h1
 refine ⟨q,rfl,sl.length_le,⟨up.sublist sl,fun c hc=>sl.subset hc,fun o ho hne=>?_⟩⟩
 have hm:=num_in (part:=part) ho (by
  cases hb:part.filter fun c=>decide (c ∈ aroundC rs o) with
  | nil=>exact absurd hb hne
  | cons x y =>
   have hx:x ∈ part.filter fun c=>decide (c ∈ aroundC rs o):=by rw [hb]; exact List.mem_cons_self
   exact ⟨x,(List.mem_filter.mp hx).1,of_decide_eq_true (List.mem_filter.mp hx).2⟩)
 unfold Grow.fits at h2
 have h3:=of_decide_eq_true (List.all_eq_true.mp h2 o hm)
 rw [<- h3]
 unfold Grow.cnt
 congr 2
 refine List.filter_congr fun c _=>?_
 exact near_is rs o c
theorem true_lays {rs:List Str}{part S:List (Nat × Nat)}(up:part.Pairwise Cells.lex)(us:S.Pairwise Cells.lex)(sh:∀ c ∈ S,c ∈ shutC rs)(hcl:∀ o ∈ openC rs,(∃ c ∈ part,c ∈ aroundC rs o)->∀ c ∈ clA rs o,c ∈ part)(tr:∀ o ∈ openC rs,numW rs o=((cntA rs S o:Nat):Int)):toL (S.filter fun c=>decide (c ∈ part)) ∈ laysOf rs part:=by
 have eT:(S.filter fun c=>decide (c ∈ part))=part.filter fun c=>decide (c ∈ S):=by
  have h1:=us.sublist (List.filter_sublist (p:=fun c=>decide (c ∈ part)))
  have h2:=up.sublist (List.filter_sublist (p:=fun c=>decide (c ∈ S)))
  refine ((List.perm_ext_iff_of_nodup (lex_nodup h1) (lex_nodup h2)).mpr fun x=>?_).eq_of_pairwise (fun x y _ _ h1 h2=>by
   unfold Cells.lex at h1 h2
   omega) h1 h2
  rw [List.mem_filter,List.mem_filter,decide_eq_true_eq,decide_eq_true_eq]
  exact And.comm
 rw [eT]
 refine List.mem_map.mpr ⟨_,List.mem_filter.mpr ⟨Tally.sub_mem List.filter_sublist,?_⟩,rfl⟩
 unfold Grow.fits
 rw [List.all_eq_true]
 intro o ho
 obtain ⟨h1,h2⟩:=num_out ho
 refine decide_eq_true ?_
 rw [tr o h1]
 congr 1
 unfold Grow.cnt cntA
 have n1:((part.filter fun c=>decide (c ∈ S)).filter (nearF rs o)).Nodup:=(lex_nodup up).sublist (List.filter_sublist.trans List.filter_sublist)
 have n2:((aroundC rs o).filter fun c=>decide (c ∈ S)).Nodup:=(lex_nodup (Cells.allCs_lex pCell 0 (codes rs))).sublist (List.filter_sublist.trans List.filter_sublist)
 refine ((List.perm_ext_iff_of_nodup n1 n2).mpr fun x=>?_).length_eq
 rw [List.mem_filter,List.mem_filter,List.mem_filter,near_is,decide_eq_true_eq,decide_eq_true_eq]
 constructor
 ·rintro ⟨⟨_,h3⟩,h4⟩
  exact ⟨h4,h3⟩
 ·rintro ⟨h4,h3⟩
  refine ⟨⟨hcl o h1 h2 x (List.mem_filter.mpr ⟨h4,?_⟩),h3⟩,h4⟩
  obtain ⟨t,k,_,_,pk,e⟩:=cell_at_board (sh x h3)
  rw [e]
  exact decide_eq_true (of_decide_eq_true pk)
noncomputable def kD (k:List (Int × Int)):PyData:=.list (k.map pD)
theorem lists_rdv {K:PySem.W.Frag}{N:Addr->Prop}{H:Hp}{vs:List V}{ks:List (List (Int × Int))}(h:Lists N H vs ks):RdvAll K H vs (ks.map kD):=by
 induction h with
 | nil=>exact .nil
 | cons q _ ih =>
  obtain ⟨a,ws,rfl,_,h,t⟩:=q
  exact .cons (.lst (SqL.of h) (tup2_rdv t)) ih
theorem kD_lay (k:List (Int × Int)):(kD k).canLay0=true:=by
 show PyData.canLayAll0 (k.map pD)=true
 induction k with
 | nil=>rfl
 | cons p r ih =>
  show (PyData.canLay0 (pD p) && PyData.canLayAll0 (r.map pD))=true
  rw [ih]
  rfl
theorem kDs_lay (ks:List (List (Int × Int))):PyData.canLayAll0 (ks.map kD)=true:=by
 induction ks with
 | nil=>rfl
 | cons k r ih =>
  show (PyData.canLay0 (kD k) && PyData.canLayAll0 (r.map kD))=true
  rw [ih,kD_lay]
  rfl
theorem kD_depth (k:List (Int × Int)):(kD k).depth<=2:=by
 show PyData.depthAll (k.map pD) + 1<=2
 have:PyData.depthAll (k.map pD)<=1:=by
  induction k with
  | nil=>exact Nat.zero_le _
  | cons p r ih =>
   show max (PyData.depth (pD p)) (PyData.depthAll (r.map pD))<=1
   have:PyData.depth (pD p)=1:=rfl
   omega
 omega
theorem kD_in {ks:List (List (Int × Int))}{k:List (Int × Int)}(h:k ∈ ks):(if false=true then !(ks.map kD).any (fun z=>PyData.eqv z (kD k)) else (ks.map kD).any fun z=>PyData.eqv z (kD k))=true:=by
 show (ks.map kD).any _=true
 rw [List.any_eq_true]
 exact ⟨kD k,List.mem_map_of_mem h,SeqAt.eqv_refl _ (kD_lay k)⟩
theorem cells_kD (cs:List (Nat × Nat)):PyData.list (cs.map cData)=kD (toL cs):=by
 unfold kD toL
 rw [List.map_map]
 rfl
theorem cnts_is (g:Nat)(ks:List (List (Int × Int))):(List.range (g + 1)).map (fun n=>((((ks.map fun k=>((k.length:Nat):Int)).countP fun t=>t == ((n:Nat):Int)):Nat):Int))=Cnt.cnts g ks:=by
 unfold Cnt.cnts
 refine List.map_congr_left fun n _=>?_
 congr 1
 rw [List.countP_map]
 refine List.countP_congr fun k _=>?_
 show (((k.length:Nat):Int) == ((n:Nat):Int))=true ↔ decide (k.length=n)=true
 rw [beq_iff_eq,decide_eq_true_eq]
 omega
theorem mem_cut {xs:List V}{lo hi:Option Int}{v:V}(h:v ∈ cutV xs lo hi):v ∈ xs:=by
 unfold cutV at h
 exact List.mem_of_mem_drop (List.mem_of_mem_take h)
noncomputable def spRight:Sp:=fun vs H Q _=>∃ (a l pa sa:Addr) (rs:List Str) (n:Int) (ups us:List V) (part S:List (Nat × Nat)) (tr:Bool),vs=[.ref a,.ref pa,.ref sa,.bl tr]/\BoardAt H a l rs n/\Rows bd.cps.toList rs/\H pa=some (.lst ups)/\Cel H ups part/\part.Pairwise Cells.lex/\part.length<=14/\H sa=some (.lst us)/\Cel H us S/\S.length<=64/\S.Pairwise Cells.lex/\(∀ c ∈ S,c ∈ shutC rs)/\(∀ o ∈ openC rs,(∃ c ∈ part,c ∈ aroundC rs o)->∀ c ∈ clA rs o,c ∈ part)/\(tr=true->∀ o ∈ openC rs,numW rs o=((cntA rs S o:Nat):Int))/\∀ H',Same H H'->Q (.bl true) H'
theorem has_is (k:List (Int × Int))(c:Nat × Nat):(if false=true then !(k.map pD).any (fun z=>PyData.eqv z (cData c)) else (k.map pD).any fun z=>PyData.eqv z (cData c))=hasC c k:=by
 show (k.map pD).any _=_
 unfold hasC
 rw [List.any_map]
 congr 1
 funext z
 exact pD_eqv z (toI c)
section
variable {P:Program}{w:World}{K:PySem.W.Frag}{mg:Str->Option Value}{base:Heap}{f:Addr}{fd:FuncData}
theorem sc_law_right:FnScope ["_law_board_here","_law_part","_law_stones","_law_true","_law_some","_law_k","_law_cells_here","_law_told","_law_sizes","_law_cell"] ["_law_board_here","_law_part","_law_stones","_law_true"] (defScope s_law_right):=⟨rfl,rfl,rfl,by decide +kernel,rfl,by decide +kernel,by decide +kernel⟩
theorem ok_law_right (T:Txt mg)(Z:Prog K mg)(D:DefAt K mg "_law_right" s_law_right ["_law_board_here","_law_part","_law_stones","_law_true"] f fd):FnOk P w K mg base CX0 6 f fd ["_law_board_here","_law_part","_law_stones","_law_true"] spRight:=by
 obtain ⟨f_around,fd_around,D_around⟩:=Z.around
 obtain ⟨f_sign_at,fd_sign_at,D_sign_at⟩:=Z.sign_at
 obtain ⟨f_cells_of,fd_cells_of,D_cells_of⟩:=Z.cells_of
 obtain ⟨f_open_cells,fd_open_cells,D_open_cells⟩:=Z.open_cells
 obtain ⟨f_number_at,fd_number_at,D_number_at⟩:=Z.number_at
 obtain ⟨f_numbers_of,fd_numbers_of,D_numbers_of⟩:=Z.numbers_of
 obtain ⟨f_needs_at,fd_needs_at,D_needs_at⟩:=Z.needs_at
 obtain ⟨f_may_fit,fd_may_fit,D_may_fit⟩:=Z.may_fit
 obtain ⟨f_part_layings,fd_part_layings,D_part_layings⟩:=Z.part_layings
 obtain ⟨f_counted,fd_counted,D_counted⟩:=Z.counted
 obtain ⟨f_counted_at,fd_counted_at,D_counted_at⟩:=Z.counted_at
 obtain ⟨f_part_counts,fd_part_counts,D_part_counts⟩:=Z.part_counts
 obtain ⟨f_part_counts_at,fd_part_counts_at,D_part_counts_at⟩:=Z.part_counts_at
 obtain ⟨f_law_fits,fd_law_fits,D_law_fits⟩:=Z.law_fits
 have G_part_layings:FnOk P w K mg base CX0 4 f_part_layings fd_part_layings ["board","part"] spPL:=ok_part_layings T D_part_layings D_around D_sign_at D_cells_of D_open_cells D_number_at D_numbers_of D_needs_at D_may_fit
 have G_part_counts:FnOk P w K mg base CX0 5 f_part_counts fd_part_counts ["board","part"] spPC:=ok_part_counts T D_part_counts D_around D_sign_at D_cells_of D_open_cells D_number_at D_numbers_of D_needs_at D_may_fit D_part_layings D_counted
 have G_part_counts_at:FnOk P w K mg base CX0 5 f_part_counts_at fd_part_counts_at ["board","part","cell"] spPCA:=ok_part_counts_at T D_part_counts_at D_around D_sign_at D_cells_of D_open_cells D_number_at D_numbers_of D_needs_at D_may_fit D_part_layings D_counted D_counted_at
 have G_law_fits:FnOk P w K mg base CX0 3 f_law_fits fd_law_fits ["_law_rows_here","_law_part","_law_cells_here"] spFits:=ok_law_fits T Z D_law_fits
 refine D.F.ok sc_law_right (fun vs H Q E h=>?_) (fun cdv A outer s H vs Q E hr h=>?_)
 ·obtain ⟨a,l,pa,sa,rs,n,ups,us,part,S,tr,rfl,_⟩:=h
  rfl
 ·obtain ⟨a,l,pa,sa,rs,n,ups,us,part,S,tr,rfl,B,R,hpa,hcp,pup,pl,hsa,hcS,sl,sup,ssh,hcl,htr,q⟩:=h
  have pnd:=lex_nodup pup
  have ul:=hcp.length
  refine ⟨_,(pss_cons (ps_set (i:=4) sc_law_right.nd rfl (Or.inl rfl) (pe_call G_part_layings (hr.mono (by decide)) (by rfl) D_part_layings.g D_part_layings.F.kp D_part_layings.b .nil pass0 (pa_cons (pv 0) (pa_cons (pv 1) pa_nil))))
   (pss_cons (ps_for PassesOwn.never rfl (pi_range1 (by rfl) T.b_range (pa_cons (pe_callB call_len_seq (by rfl) T.b_len PySem.boot_len (pa_cons (pv 4) pa_nil)) pa_nil)) (pg_name (i:=5) sc_law_right.nd rfl (Or.inl rfl)) (pss_one (ps_if (PW.pt (pw_and (pt_cmpR op_gt (pv 5) pe_int (nomark _)) (pw_and1 (pt_cmpR (op_ge_list hr.units) (pe_ix ix_list (pv 4) (pe_op op_sub (pv 5) pe_int) (fun _ _=>rfl)) (pe_ix ix_list (pv 4) (pv 5) (fun _ _=>rfl)) (nomark _))))) (pss_one (ps_ret pe_bl)) pss_nil)))
   (pss_cons (ps_for PassesOwn.never rfl (pi_list (pe_op op_cat (pe_slice sl_list (pv 4) po_none (po_some pe_int)) (pe_slice sl_list (pv 4) (po_some (pe_un un_neg pe_int)) po_none))) (pg_name (i:=6) sc_law_right.nd rfl (Or.inl rfl)) (pss_one (ps_if (pt_not (pt_truth (pe_call G_law_fits (hr.mono (by decide)) (by rfl) D_law_fits.g D_law_fits.F.kp D_law_fits.b .nil pass0 (pa_cons (pe_ix ix_tup (pv 0) pe_int (fun _ _=>rfl)) (pa_cons (pv 1) (pa_cons (pv 6) pa_nil)))) (fun _=>rfl))) (pss_one (ps_ret pe_bl)) pss_nil)))
   (pss_cons (ps_set (i:=7) sc_law_right.nd rfl (Or.inl rfl) (pe_call G_part_counts (hr.mono (by decide)) (by rfl) D_part_counts.g D_part_counts.F.kp D_part_counts.b .nil pass0 (pa_cons (pv 0) (pa_cons (pv 1) pa_nil))))
   (pss_cons (ps_set (i:=8) sc_law_right.nd rfl (Or.inr rfl) (pe_comp (N:=["_law_cells_here"]) (src:=[none]) (CompOk.plain rfl (by decide +kernel) (by decide +kernel) (by decide +kernel) rfl (by decide)) rfl (pi_list (pv 4)) (fun _ _ _ _ _=>(pg_name (i:=0) (by show List.Nodup (["_law_cells_here"]:List Str); decide +kernel) rfl (Or.inl rfl))) (fun _ _ _ _ _=>pifs_nil) (fun _ _ _ _ _=>(pe_callB (call_len_seqK (K:=K) (by rfl)) (by rfl) T.b_len PySem.boot_len (pa_cons (pv 0) pa_nil)))))
   (pss_cons (ps_if (pt_cmpR (op_ne_deep hr.units) (pv 7) (pe_comp (N:=["_law_k","_law_sizes"]) (src:=[none,some 8]) (CompOk.free (O:=(defScope s_law_right).names) (XN:=["_law_board_here","_law_part","_law_stones","_law_true","_law_some","_law_k","_law_cells_here","_law_told","_law_sizes","_law_cell"]) rfl rfl ⟨_,rfl⟩ rfl rfl (by decide +kernel) (by decide +kernel) (by decide +kernel) rfl (by decide +kernel)) rfl (pi_range1 (by rfl) T.b_range (pa_cons (pe_op op_add (pe_callB call_len_seq (by rfl) T.b_len PySem.boot_len (pa_cons (pv 1) pa_nil)) pe_int) pa_nil)) (fun _ _ _ _ _=>(pg_name (i:=0) (by show List.Nodup (["_law_k","_law_sizes"]:List Str); decide +kernel) rfl (Or.inl rfl))) (fun _ _ _ _ _=>pifs_nil) (fun _ _ _ _ _=>(pe_bmK (K:=K) (by rfl) PySem.F.plainAttrs_list PySem.F.slot_list_count PySem.F.type_list_count mt_countI (pv 1) (pa_cons (pv 0) pa_nil)))) (nomark _)) (pss_one (ps_ret pe_bl)) pss_nil)
   (pss_cons (ps_for PassesOwn.never rfl (pi_list (pe_op op_cat (pe_op op_cat (pe_slice sl_list (pv 1) po_none (po_some pe_int)) (pe_op op_rep (pe_slice sl_list (pv 1) (po_some pe_int) (po_some pe_int)) (pe_callTy call_int1 (by rfl) T.b_int PyProof.Rows.boot_int (pa_cons (pe_cmpR op_lt (pe_callB call_len_seq (by rfl) T.b_len PySem.boot_len (pa_cons (pv 1) pa_nil)) pe_int (nomark _)) pa_nil)))) (pe_slice sl_list (pv 1) (po_some (pe_un un_neg pe_int)) po_none))) (pg_name (i:=9) sc_law_right.nd rfl (Or.inr rfl)) (pss_cons (ps_set (i:=8) sc_law_right.nd rfl (Or.inr rfl) (pe_comp (N:=["_law_cells_here","_law_cell"]) (src:=[none,some 9]) (CompOk.free (O:=(defScope s_law_right).names) (XN:=["_law_board_here","_law_part","_law_stones","_law_true","_law_some","_law_k","_law_cells_here","_law_told","_law_sizes","_law_cell"]) rfl rfl ⟨_,rfl⟩ rfl rfl (by decide +kernel) (by decide +kernel) (by decide +kernel) rfl (by decide +kernel)) rfl (pi_list (pv 4)) (fun _ _ _ _ _=>(pg_name (i:=0) (by show List.Nodup (["_law_cells_here","_law_cell"]:List Str); decide +kernel) rfl (Or.inl rfl))) (fun _ _ _ _ _=>(pifs_one (pt_cmpR (op_in_deepK (K:=K) (by rfl) hr.units) (pv 1) (pv 0) (by rfl)))) (fun _ _ _ _ _=>(pe_callB (call_len_seqK (K:=K) (by rfl)) (by rfl) T.b_len PySem.boot_len (pa_cons (pv 0) pa_nil)))))
   (pss_one (ps_if (pt_cmpR (op_ne_deep hr.units) (pe_call G_part_counts_at (hr.mono (by decide)) (by rfl) D_part_counts_at.g D_part_counts_at.F.kp D_part_counts_at.b .nil pass0 (pa_cons (pv 0) (pa_cons (pv 1) (pa_cons (pv 9) pa_nil)))) (pe_comp (N:=["_law_k","_law_sizes"]) (src:=[none,some 8]) (CompOk.free (O:=(defScope s_law_right).names) (XN:=["_law_board_here","_law_part","_law_stones","_law_true","_law_some","_law_k","_law_cells_here","_law_told","_law_sizes","_law_cell"]) rfl rfl ⟨_,rfl⟩ rfl rfl (by decide +kernel) (by decide +kernel) (by decide +kernel) rfl (by decide +kernel)) rfl (pi_range1 (by rfl) T.b_range (pa_cons (pe_op op_add (pe_callB call_len_seq (by rfl) T.b_len PySem.boot_len (pa_cons (pv 1) pa_nil)) pe_int) pa_nil)) (fun _ _ _ _ _=>(pg_name (i:=0) (by show List.Nodup (["_law_k","_law_sizes"]:List Str); decide +kernel) rfl (Or.inl rfl))) (fun _ _ _ _ _=>pifs_nil) (fun _ _ _ _ _=>(pe_bmK (K:=K) (by rfl) PySem.F.plainAttrs_list PySem.F.slot_list_count PySem.F.type_list_count mt_countI (pv 1) (pa_cons (pv 0) pa_nil)))) (nomark _)) (pss_one (ps_ret pe_bl)) pss_nil))))
   (pss_one (ps_ret (pe_or (pe_not (pv 3)) (pe_one (pe_cmpR (op_in_deep hr.units) (pe_comp (N:=["_law_one","_law_part"]) (src:=[none,some 1]) (CompOk.free (O:=(defScope s_law_right).names) (XN:=["_law_board_here","_law_part","_law_stones","_law_true","_law_some","_law_k","_law_cells_here","_law_told","_law_sizes","_law_cell"]) rfl rfl ⟨_,rfl⟩ rfl rfl (by decide +kernel) (by decide +kernel) (by decide +kernel) rfl (by decide +kernel)) rfl (pi_list (pv 2)) (fun _ _ _ _ _=>(pg_name (i:=0) (by show List.Nodup (["_law_one","_law_part"]:List Str); decide +kernel) rfl (Or.inl rfl))) (fun _ _ _ _ _=>(pifs_one (pt_cmpR (op_in_deepK (K:=K) (by rfl) hr.units) (pv 0) (pv 1) (by rfl)))) (fun _ _ _ _ _=>(pv 0))) (pv 4) (by rfl))))))))))))),?_⟩
  refine ⟨_,rfl,_,rfl,a,l,pa,rs,n,ups,part,rfl,B,R,hpa,hcp,pnd,pl,fun sm ws ks H1 hsm hsm1 hL0 wnd hpm hsr s1=>?_⟩
  have hpm':ks.Perm (laysOf rs part):=hpm
  have knd:ks.Nodup:=hpm'.nodup_iff.mpr (lays_nodup pnd)
  have hL:Lists (fun _=>True) H1 ws ks:=lists_weak (fun _ _=>trivial) hL0
  have wl:ws.length=ks.length:=lists_len hL
  have kmany:ks.length<=16384:=by
   rw [hpm'.length_eq]
   exact lays_many pl
  clear hL0 hpm wnd
  refine ⟨_,rfl,sm,_,rfl,.inl (SqL.of hsm1),_,rfl,by omega,by omega,?_⟩
  rw [Int.toNat_natCast]
  refine for_range (lo:=0) (n:=ws.length) (fun i σ H'=>∃ v5 v6 v7 v8 v9:Option V,σ=[some (.ref a),some (.ref pa),some (.ref sa),some (.bl tr),some (.ref sm),v5,v6,v7,v8,v9]/\H'=H1) ⟨_,_,_,_,_,rfl,rfl⟩ ?_ ?_
  ·rintro i σ H2 hi ⟨v5,v6,v7,v8,v9,rfl,rfl⟩
   refine ⟨_,rfl,_,_,rfl,rfl,_,rfl,ite2 (fun h=>?_) (fun _=>iteF ⟨_,_,_,_,_,rfl,rfl⟩)⟩
   have h:=of_decide_eq_true h
   obtain ⟨j,rfl⟩:∃ j,i=j + 1:=⟨i - 1,by omega⟩
   obtain ⟨v,hv⟩:∃ v,ws[j]?=some v:=⟨_,List.getElem?_eq_getElem (by omega)⟩
   obtain ⟨v',hv'⟩:∃ v,ws[j + 1]?=some v:=⟨_,List.getElem?_eq_getElem (by omega)⟩
   obtain ⟨p,hp,ap,wp,ep,_,hap,tp⟩:=pr_at hL hv
   obtain ⟨p',hp',ap',wp',ep',_,hap',tp'⟩:=pr_at hL hv'
   refine ⟨_,rfl,_,rfl,_,_,rfl,rfl,sm,_,_,v,rfl,rfl,SqL.of hsm1,(by rw [show (0:Int) + ((j + 1:Nat):Int) - 1=((j:Nat):Int) by omega]; exact atI_nat hv),_,rfl,_,rfl,sm,_,_,v',rfl,rfl,SqL.of hsm1,(by rw [Int.zero_add]; exact atI_nat hv'),p,p',⟨ap,wp,ep,hap,tp⟩,⟨ap',wp',ep',hap',tp'⟩,_,rfl,?_⟩
   rw [rise_at knd hsr hp hp']
   exact iteF ⟨_,_,_,_,_,rfl,rfl⟩
  rintro σ H2 ⟨v5,v6,v7,v8,v9,rfl,eH⟩
  obtain rfl:H1=H2:=eH.symm
  refine ⟨_,rfl,_,rfl,sm,ws,rfl,SqL.of hsm1,fun x1 hx1=>?_⟩
  have z1:=same_new (o:=.lst (cutV ws none (some 40))) hx1
  refine ⟨_,rfl,_,rfl,_,rfl,sm,ws,rfl,SqL.of (z1 _ _ hsm1),fun x2 hx2=>?_⟩
  have z2:=same_new (o:=.lst (cutV ws (some (-40)) none)) hx2
  have c1:=cutV_length ws none (some 40)
  have c2:=cutV_length ws (some (-40)) none
  refine ⟨x1,x2,_,_,rfl,rfl,z2 _ _ upd_same,upd_same,Nat.le_trans (show _<=40000 by omega) (by decide),fun r hr=>?_⟩
  have z3:=same_new (o:=.lst (cutV ws none (some 40)++cutV ws (some (-40)) none)) hr
  have s3:=s1.trans (z1.trans (z2.trans z3))
  have s13:=z1.trans (z2.trans z3)
  refine ⟨r,rfl,⟨_,SqL.of upd_same⟩,?_⟩
  have hr3:upd (upd (upd H1 x1 (.lst (cutV ws none (some 40)))) x2 (.lst (cutV ws (some (-40)) none))) r (.lst (cutV ws none (some 40)++cutV ws (some (-40)) none)) r=some (.lst (cutV ws none (some 40)++cutV ws (some (-40)) none)):=upd_same
  clear z1 z2 z3 hx1 hx2 hr
  generalize upd (upd (upd H1 x1 (.lst (cutV ws none (some 40)))) x2 (.lst (cutV ws (some (-40)) none))) r (.lst (cutV ws none (some 40)++cutV ws (some (-40)) none))=H3 at *
  refine for_list (K:=K) (a:=r) (xs:=cutV ws none (some 40)++cutV ws (some (-40)) none) (fun i σ H'=>∃ v5 v6 v7 v8 v9:Option V,σ=[some (.ref a),some (.ref pa),some (.ref sa),some (.bl tr),some (.ref sm),v5,v6,v7,v8,v9]/\Same H3 H') ⟨_,_,_,_,_,rfl,Same.refl _⟩ (fun i σ H' _ ⟨_,_,_,_,_,_,y⟩=>SqL.of (y _ _ hr3)) ?_ ?_
  ·rintro i x σ H4 hx ⟨v5,v6,v7,v8,v9,rfl,s4⟩
   have hxw:x ∈ ws:=by
    rcases List.mem_append.mp (List.mem_of_getElem? hx) with h | h
    ·exact mem_cut h
    ·exact mem_cut h
   obtain ⟨k,hk,ka,wk,rfl,_,hka,tk⟩:=pr_mem hL hxw
   obtain ⟨g,rfl,gl,F⟩:=lays_fits pup (hpm'.mem_iff.mp hk)
   have s14:=s13.trans s4
   have s04:=s3.trans s4
   refine ⟨_,rfl,a,_,0,_,rfl,rfl,SqT.of (B.mono s04).tp,rfl,_,rfl,_,rfl,l,pa,ka,rs,ups,wk,part,g,rfl,(B.mono s04).rw,R,s04 _ _ hpa,hcp.mono s04,by omega,s14 _ _ hka,Cel.mono s14 (cel_of_tup2 tk),by omega,F,fun H5 s5=>⟨true,rfl,iteF ⟨_,_,_,_,_,rfl,s4.trans s5⟩⟩⟩
  rintro σ H4 ⟨v5,v6,v7,v8,v9,rfl,s4⟩
  have s04:=s3.trans s4
  refine ⟨_,rfl,_,rfl,a,l,pa,rs,n,ups,part,rfl,B.mono s04,R,s04 _ _ hpa,hcp.mono s04,pnd,pl,fun ta H5 hta hta5 s5=>?_⟩
  have s05:=s04.trans s5
  have s15:=s13.trans (s4.trans s5)
  have hsm5:=s15 _ _ hsm1
  have hL5:=lists_mono s15 hL
  refine ⟨_,rfl,sm,rfl,⟨_,SqL.of hsm5⟩,fun z hz=>?_⟩
  refine comp_list (K:=K) (a:=sm) (xs:=ws) (fun i σ H'=>(∃ u0,σ=[u0])/\Same H5 H'/\H' z=some (.lst (((ks.take i).map fun k=>((k.length:Nat):Int)).map V.int))) ⟨⟨_,rfl⟩,same_new hz,upd_same⟩ (fun i σ H' _ ⟨_,s',_⟩=>SqL.of (s' _ _ hsm5)) ?_ ?_
  ·rintro i x σ H6 hx ⟨⟨u0,rfl⟩,s6,hz6⟩
   obtain ⟨k,hki,ka,wk,rfl,_,hka,tk⟩:=pr_at (lists_mono s6 hL5) hx
   have kl:wk.length=k.length:=Paired.length tk
   have il:=(List.getElem?_eq_some_iff.mp hx).1
   refine tYes_it ⟨_,rfl,ka,_,rfl,.inl (SqL.of hka),?_⟩
   refine ⟨_,hz6,?_,⟨_,rfl⟩,fun b o e=>?_,?_⟩
   ·rw [List.length_map,List.length_map,List.length_take]
    exact Nat.lt_of_le_of_lt (show _<=16384 by omega) (by decide)
   ·rw [upd_ne (ne_of_none e hz)]
    exact s6 _ _ e
   ·rw [upd_same,List.take_add_one,hki,List.map_append,List.map_append,kl]
    rfl
  rintro σ H6 ⟨_,s6,hz6⟩
  rw [wl,List.take_length] at hz6
  have s06:=s05.trans s6
  refine ⟨_,rfl,_,rfl,pa,_,rfl,.inl (SqL.of (s06 _ _ hpa)),_,_,rfl,rfl,_,rfl,by omega,by omega,fun y hy=>?_⟩
  have en:(((ups.length:Nat):Int) + 1).toNat=part.length + 1:=by omega
  refine comp_range (lo:=0) (n:=(((ups.length:Nat):Int) + 1).toNat) (fun i σ H'=>(∃ u0,σ=[u0,some (.ref z)])/\Same H6 H'/\H' y=some (.lst (((List.range i).map fun m=>((((ks.map fun k=>((k.length:Nat):Int)).countP fun t=>t == ((m:Nat):Int)):Nat):Int)).map V.int))) ⟨⟨_,rfl⟩,same_new hy,upd_same⟩ ?_ ?_
  ·rintro i σ H7 hi ⟨⟨u0,rfl⟩,s7,hy7⟩
   refine tYes_it ⟨_,rfl,.inl ⟨rfl,_,SqL.of (s7 _ _ hz6)⟩,_,rfl,z,_,_,rfl,rfl,s7 _ _ hz6,?_⟩
   refine ⟨_,hy7,?_,⟨_,rfl⟩,fun b o e=>?_,?_⟩
   ·rw [List.length_map,List.length_map,List.length_range]
    exact Nat.lt_of_le_of_lt (show i<=20 by omega) (by decide)
   ·rw [upd_ne (ne_of_none e hy)]
    exact s7 _ _ e
   ·rw [upd_same,List.range_succ,List.map_append,List.map_append,Int.zero_add]
    rfl
  rintro σ H7 ⟨_,s7,hy7⟩
  rw [en,cnts_is,Cnt.cnts_perm hpm'] at hy7
  have hta7:=(s6.trans s7) _ _ hta5
  refine ⟨_,_,rdv_ints (SqL.of hta7),rdv_ints (SqL.of hy7),iData_cmp _ _,_,rfl,iteN ?_ ?_⟩
  ·show (!PyData.eqv (iData (Cnt.cnts part.length (laysOf rs part))) (iData (Cnt.cnts part.length (laysOf rs part))))=false
   rw [iData_same]
   rfl
  have s07:=s06.trans s7
  have s17:=s15.trans (s6.trans s7)
  have hpa7:=s07 _ _ hpa
  have hcp7:=hcp.mono s07
  have hsm7:=s17 _ _ hsm1
  have hL7:=lists_mono s17 hL
  have B7:=B.mono s07
  clear hy7 hta7 hz6 hta5 hy hz hta
  refine ⟨_,rfl,_,rfl,pa,ups,rfl,SqL.of hpa7,fun y1 hy1=>?_⟩
  have x1:=same_new (o:=.lst (cutV ups none (some 3))) hy1
  refine ⟨_,rfl,_,rfl,_,rfl,pa,ups,rfl,SqL.of (x1 _ _ hpa7),fun y2 hy2=>?_⟩
  have x2:=same_new (o:=.lst (cutV ups (some 3) (some 9))) hy2
  have x12:=x1.trans x2
  refine ⟨_,rfl,pa,_,rfl,.inl (SqL.of (x12 _ _ hpa7)),_,_,rfl,rfl,.inr ⟨_,rfl,?_⟩⟩
  have e1:=cutV_length ups none (some 3)
  have e2:=cutV_length ups (some 3) (some 9)
  have e3:=cutV_length ups (some (-1)) none
  obtain ⟨kk,ek,k0,k1⟩:∃ kk:Int,(if decide (((ups.length:Nat):Int) < 10)=true then (1:Int) else 0)=kk/\0<=kk/\kk<=1:=by
   refine ⟨_,rfl,?_,?_⟩
   ·split <;> decide
   ·split <;> decide
  refine ⟨y2,kk,_,rfl,congrArg V.int ek,upd_same,by omega,by omega,?_,fun y3 hy3=>?_⟩
  ·have:(cutV ups (some 3) (some 9)).length * kk.toNat<=14 * 1:=Nat.mul_le_mul (by omega) (by omega)
   exact Nat.le_trans this (by decide)
  have x3:=same_new (o:=.lst (List.replicate kk.toNat (cutV ups (some 3) (some 9))).flatten) hy3
  have lr:=len_rep (cutV ups (some 3) (some 9)) kk.toNat
  have lr2:kk.toNat * (cutV ups (some 3) (some 9)).length<=1 * 14:=Nat.mul_le_mul (by omega) (by omega)
  refine ⟨y1,y3,_,_,rfl,rfl,(x2.trans x3) _ _ upd_same,upd_same,?_,fun y4 hy4=>?_⟩
  ·exact Nat.le_trans (show _<=40 by rw [lr]; omega) (by decide)
  have x4:=same_new (o:=.lst (cutV ups none (some 3)++(List.replicate kk.toNat (cutV ups (some 3) (some 9))).flatten)) hy4
  have x14:=x12.trans (x3.trans x4)
  refine ⟨_,rfl,_,rfl,_,rfl,pa,ups,rfl,SqL.of (x14 _ _ hpa7),fun y5 hy5=>?_⟩
  have x5:=same_new (o:=.lst (cutV ups (some (-1)) none)) hy5
  refine ⟨y4,y5,_,_,rfl,rfl,x5 _ _ upd_same,upd_same,?_,fun y6 hy6=>?_⟩
  ·exact Nat.le_trans (show _<=80 by rw [List.length_append,lr]; omega) (by decide)
  have x6:=same_new (o:=.lst (cutV ups none (some 3)++(List.replicate kk.toNat (cutV ups (some 3) (some 9))).flatten++cutV ups (some (-1)) none)) hy6
  have s78:=x14.trans (x5.trans x6)
  have hy8:=upd_same (H:=upd (upd (upd (upd (upd H7 y1 (.lst (cutV ups none (some 3)))) y2 (.lst (cutV ups (some 3) (some 9)))) y3 (.lst (List.replicate kk.toNat (cutV ups (some 3) (some 9))).flatten)) y4 (.lst (cutV ups none (some 3)++(List.replicate kk.toNat (cutV ups (some 3) (some 9))).flatten))) y5 (.lst (cutV ups (some (-1)) none))) (a:=y6) (o:=.lst (cutV ups none (some 3)++(List.replicate kk.toNat (cutV ups (some 3) (some 9))).flatten++cutV ups (some (-1)) none))
  have memb:∀ x ∈ cutV ups none (some 3)++(List.replicate kk.toNat (cutV ups (some 3) (some 9))).flatten++cutV ups (some (-1)) none,x ∈ ups:=fun x hx=>by
   rcases List.mem_append.mp hx with h | h
   ·rcases List.mem_append.mp h with h | h
    ·exact mem_cut h
    ·obtain ⟨l,hl,h⟩:=List.mem_flatten.mp h
     rw [(List.mem_replicate.mp hl).2] at h
     exact mem_cut h
   ·exact mem_cut h
  refine ⟨y6,rfl,⟨_,SqL.of upd_same⟩,?_⟩
  clear x1 x2 x3 x4 x5 x6 x12 x14 hy1 hy2 hy3 hy4 hy5 hy6
  generalize upd (upd (upd (upd (upd (upd H7 y1 (.lst (cutV ups none (some 3)))) y2 (.lst (cutV ups (some 3) (some 9)))) y3 (.lst (List.replicate kk.toNat (cutV ups (some 3) (some 9))).flatten)) y4 (.lst (cutV ups none (some 3)++(List.replicate kk.toNat (cutV ups (some 3) (some 9))).flatten))) y5 (.lst (cutV ups (some (-1)) none))) y6 (.lst (cutV ups none (some 3)++(List.replicate kk.toNat (cutV ups (some 3) (some 9))).flatten++cutV ups (some (-1)) none))=H8 at *
  generalize cutV ups none (some 3)++(List.replicate kk.toNat (cutV ups (some 3) (some 9))).flatten++cutV ups (some (-1)) none=xs at *
  refine for_list (K:=K) (a:=y6) (xs:=xs) (fun i σ H'=>∃ v5 v6 v7 v8 v9:Option V,σ=[some (.ref a),some (.ref pa),some (.ref sa),some (.bl tr),some (.ref sm),v5,v6,v7,v8,v9]/\Same H8 H') ⟨_,_,_,_,_,rfl,Same.refl _⟩ (fun i σ H' _ ⟨_,_,_,_,_,_,y⟩=>SqL.of (y _ _ hy8)) ?_ ?_
  ·rintro i x σ H9 hx ⟨v5,v6,v7,v8,v9,rfl,s9⟩
   have s79:=s78.trans s9
   obtain ⟨c,hc,ca,rfl,hca⟩:=pr_mem (hcp7.mono s79) (memb x (List.mem_of_getElem? hx))
   have hsm9:=s79 _ _ hsm7
   have hL9:=lists_mono s79 hL7
   refine ⟨_,rfl,sm,rfl,⟨_,SqL.of hsm9⟩,fun z hz=>?_⟩
   refine comp_list (K:=K) (a:=sm) (xs:=ws) (fun i σ H'=>(∃ u0,σ=[u0,some (.ref ca)])/\Same H9 H'/\H' z=some (.lst ((((ks.take i).filter (hasC c)).map fun k=>((k.length:Nat):Int)).map V.int))) ⟨⟨_,rfl⟩,same_new hz,upd_same⟩ (fun i σ H' _ ⟨_,s',_⟩=>SqL.of (s' _ _ hsm9)) ?_ ?_
   ·rintro i x σ H10 hx ⟨⟨u0,rfl⟩,s10,hz10⟩
    obtain ⟨k,hki,ka,wk,rfl,_,hka,tk⟩:=pr_at (lists_mono s10 hL9) hx
    have kl:wk.length=k.length:=Paired.length tk
    have il:=(List.getElem?_eq_some_iff.mp hx).1
    have fl:(List.filter (hasC c) (ks.take i)).length<=16384:=by
     refine Nat.le_trans (List.length_filter_le _ _) ?_
     rw [List.length_take]
     omega
    refine ⟨_,rfl,_,rfl,cData c,k.map pD,CelR.rdv ⟨ca,rfl,s10 _ _ hca⟩,.lst (SqL.of hka) (tup2_rdv tk),rfl,kD_lay k,(by show 1<=60; decide),hasC c k,congrArg V.bl (has_is k c),?_⟩
    have step:(List.filter (hasC c) (ks.take (i + 1)))=List.filter (hasC c) (ks.take i)++if hasC c k=true then [k] else []:=by
     rw [List.take_add_one,hki,List.filter_append]
     congr 1
     show List.filter (hasC c) [k]=_
     rw [List.filter_cons]
     rfl
    by_cases hh:hasC c k=true
    ·rw [if_pos hh] at step
     refine iteP hh ⟨_,rfl,ka,_,rfl,.inl (SqL.of hka),?_⟩
     refine ⟨_,hz10,?_,⟨_,rfl⟩,fun b o e=>?_,?_⟩
     ·rw [List.length_map,List.length_map]
      exact Nat.lt_of_le_of_lt fl (by decide)
     ·rw [upd_ne (ne_of_none e hz)]
      exact s10 _ _ e
     ·rw [upd_same,step,List.map_append,List.map_append,kl]
      rfl
    ·rw [if_neg hh,List.append_nil] at step
     exact iteN (Bool.eq_false_iff.mpr hh) ⟨⟨_,rfl⟩,s10,by rw [step]; exact hz10⟩
   rintro σ H10 ⟨_,s10,hz10⟩
   rw [wl,List.take_length] at hz10
   have s710:=s79.trans s10
   refine ⟨_,rfl,_,rfl,_,rfl,a,l,pa,ca,rs,n,ups,part,c,rfl,B7.mono s710,R,s710 _ _ hpa7,hcp7.mono s710,pnd,pl,s10 _ _ hca,fun da H11 hda hda11 s11=>?_⟩
   have s711:=s710.trans s11
   refine ⟨_,rfl,pa,_,rfl,.inl (SqL.of (s711 _ _ hpa7)),_,_,rfl,rfl,_,rfl,by omega,by omega,fun y hy=>?_⟩
   refine comp_range (lo:=0) (n:=(((ups.length:Nat):Int) + 1).toNat) (fun i σ H'=>(∃ u0,σ=[u0,some (.ref z)])/\Same H11 H'/\H' y=some (.lst (((List.range i).map fun m=>(((((ks.filter (hasC c)).map fun k=>((k.length:Nat):Int)).countP fun t=>t == ((m:Nat):Int)):Nat):Int)).map V.int))) ⟨⟨_,rfl⟩,same_new hy,upd_same⟩ ?_ ?_
   ·rintro i σ H12 hi ⟨⟨u0,rfl⟩,s12,hy12⟩
    have hz12:=(s11.trans s12) _ _ hz10
    refine tYes_it ⟨_,rfl,.inl ⟨rfl,_,SqL.of hz12⟩,_,rfl,z,_,_,rfl,rfl,hz12,?_⟩
    refine ⟨_,hy12,?_,⟨_,rfl⟩,fun b o e=>?_,?_⟩
    ·rw [List.length_map,List.length_map,List.length_range]
     exact Nat.lt_of_le_of_lt (show i<=20 by omega) (by decide)
    ·rw [upd_ne (ne_of_none e hy)]
     exact s12 _ _ e
    ·rw [upd_same,List.range_succ,List.map_append,List.map_append,Int.zero_add]
     rfl
   rintro σ H12 ⟨_,s12,hy12⟩
   rw [en,cnts_is,Cnt.cnts_perm (hpm'.filter (hasC c))] at hy12
   refine ⟨_,_,rdv_ints (SqL.of (s12 _ _ hda11)),rdv_ints (SqL.of hy12),iData_cmp _ _,_,rfl,iteN ?_ ⟨_,_,_,_,_,rfl,s9.trans (s10.trans (s11.trans s12))⟩⟩
   show (!PyData.eqv (iData (Cnt.cnts part.length ((laysOf rs part).filter (hasC c)))) (iData (Cnt.cnts part.length ((laysOf rs part).filter (hasC c)))))=false
   rw [iData_same]
   rfl
  rintro σ H9 ⟨v5,v6,v7,v8,v9,rfl,s9⟩
  have s79:=s78.trans s9
  have s09:=s07.trans s79
  cases tr with
  | false=>exact ⟨_,rfl,_,rfl,_,rfl,iteP rfl (q _ s09)⟩
  | true =>
   refine ⟨_,rfl,_,rfl,_,rfl,iteN rfl ?_⟩
   refine ⟨_,rfl,sa,rfl,⟨_,SqL.of (s09 _ _ hsa)⟩,fun z hz=>?_⟩
   refine comp_data (K:=K) (a:=sa) (xs:=us) (fun a=>a ≠ z) (S.map fun y=>if decide (y ∈ part)=true then some (cData y) else none) (fun σ=>∃ u0,σ=[u0,some (.ref pa)]) hz (fun _ h=>h) ⟨_,rfl⟩ (by rw [List.length_map]; exact hcS.length.symm) (by rw [hcS.length]; exact Nat.le_trans sl (by decide)) (SqL.of (s09 _ _ hsa)) ?_ ?_
   ·rintro m x o σ H10 hx ho s10 _ ⟨u0,rfl⟩ Y Z yes no
    obtain ⟨y,hyi,ry⟩:=Cel.get (hcS.mono (s09.trans s10)) hx
    have eo:=map_at hyi ho
    refine ⟨_,rfl,_,rfl,cData y,part.map cData,ry.rdv,.lst (SqL.of ((s79.trans s10) _ _ hpa7)) (gRdv (hcp7.mono (s79.trans s10))),rfl,g_lays _,(by show 1<=60; decide),_,rfl,?_⟩
    rw [in_is]
    by_cases hp:decide (y ∈ part)=true
    ·rw [if_pos hp] at eo
     exact iteP hp ⟨_,rfl,yes _ _ _ _ eo ⟨_,rfl⟩ (Same.refl _) ry.rdn⟩
    ·rw [if_neg hp] at eo
     exact iteN (Bool.eq_false_iff.mpr hp) (no _ _ eo ⟨_,rfl⟩ (Same.refl _))
   ·rintro ys H10 s10 hz10 hr10
    rw [outs_filter] at hr10
    have hT:=hpm'.mem_iff.mpr (true_lays pup sup ssh hcl (htr rfl))
    refine ⟨_,rfl,kD (toL (S.filter fun c=>decide (c ∈ part))),ks.map kD,?_,.lst (SqL.of ((s79.trans s10) _ _ hsm7)) (lists_rdv (lists_mono (s79.trans s10) hL7)),kD_lay _,kDs_lay _,Nat.le_trans (kD_depth _) (by decide),?_⟩
    ·rw [<- cells_kD]
     exact .lst (SqL.of hz10) (RdnAll.rdv hr10)
    ·rw [kD_in hT]
     exact q _ (s09.trans s10)
end
noncomputable def spLaw (K:PySem.W.Frag):Sp:=fun vs H Q _=>∃ (a:Addr) (ns:List Int),vs=[.ref a]/\SqL K H a (ns.map V.int)/\ns.length<=63/\∀ H',Q (.bl true) H'
theorem apart_one {gs:List (List (Nat × Nat))}(nd:gs.flatten.Nodup){g h:List (Nat × Nat)}(hg:g ∈ gs)(hh:h ∈ gs){x:Nat × Nat}(xg:x ∈ g)(xh:x ∈ h):g=h:=by
 induction gs with
 | nil=>cases hg
 | cons k r ih =>
  rw [List.flatten_cons,List.nodup_append] at nd
  rcases List.mem_cons.mp hg with e1 | hg
  ·rcases List.mem_cons.mp hh with e2 | hh
   ·rw [e1,e2]
   ·exact absurd rfl (nd.2.2 x (by rw [<- e1]; exact xg) x (List.mem_flatten.mpr ⟨h,hh,xh⟩))
  ·rcases List.mem_cons.mp hh with e2 | hh
   ·exact absurd rfl (nd.2.2 x (by rw [<- e2]; exact xh) x (List.mem_flatten.mpr ⟨g,hg,xg⟩))
   ·exact ih nd.2.1 hg hh
theorem good_closed {rs:List Str}{gs:List (List (Nat × Nat))}(G:Parts.Good (clA rs) (openC rs) gs){g:List (Nat × Nat)}(hg:g ∈ gs):∀ o ∈ openC rs,(∃ c ∈ g,c ∈ aroundC rs o)->∀ c ∈ clA rs o,c ∈ g:=by
 rintro o ho ⟨x,xg,xa⟩ c hc
 obtain ⟨_,_,hx⟩:=G.from_ x (List.mem_flatten.mpr ⟨g,hg,xg⟩)
 have xs:x ∈ clA rs o:=List.mem_filter.mpr ⟨xa,(List.mem_filter.mp hx).2⟩
 obtain ⟨h,hh,hsub⟩:=G.cov o ho (fun z=>by rw [z] at xs; cases xs)
 rw [apart_one G.nd hg hh xg (hsub x xs)]
 exact hsub c hc
section
variable {P:Program}{w:World}{K:PySem.W.Frag}{mg:Str->Option Value}{base:Heap}{f:Addr}{fd:FuncData}
theorem sc_law:FnScope ["_law_script","_law_board_here","_law_stones","_law_true","_law_part"] ["_law_script"] (defScope s_law):=⟨rfl,rfl,rfl,by decide +kernel,rfl,by decide +kernel,by decide +kernel⟩
theorem ok_law (T:Txt mg)(Z:Prog K mg)(D:DefAt K mg "law" s_law ["_law_script"] f fd):FnOk P w K mg base CX0 9 f fd ["_law_script"] (spLaw K):=by
 obtain ⟨f_law_cell_at,fd_law_cell_at,D_law_cell_at⟩:=Z.law_cell_at
 obtain ⟨f_law_case,fd_law_case,D_law_case⟩:=Z.law_case
 obtain ⟨f_law_is_true,fd_law_is_true,D_law_is_true⟩:=Z.law_is_true
 obtain ⟨f_law_parts,fd_law_parts,D_law_parts⟩:=Z.law_parts
 obtain ⟨f_law_cells,fd_law_cells,D_law_cells⟩:=Z.law_cells
 obtain ⟨f_law_near,fd_law_near,D_law_near⟩:=Z.law_near
 obtain ⟨f_law_around,fd_law_around,D_law_around⟩:=Z.law_around
 obtain ⟨f_law_right,fd_law_right,D_law_right⟩:=Z.law_right
 have G_law_cell_at:FnOk P w K mg base CX0 1 f_law_cell_at fd_law_cell_at ["_law_script","_law_k"] (spCell K):=ok_law_cell_at T D_law_cell_at
 have G_law_case:FnOk P w K mg base CX0 4 f_law_case fd_law_case ["_law_script","_law_most"] (spCase K):=ok_law_case T Z D_law_case
 have G_law_is_true:FnOk P w K mg base CX0 3 f_law_is_true fd_law_is_true ["_law_rows_here","_law_stones"] spTrue:=ok_law_is_true T Z D_law_is_true
 have G_law_parts:FnOk P w K mg base CX0 3 f_law_parts fd_law_parts ["_law_rows_here"] spGParts:=ok_law_parts T D_law_parts D_law_cells D_law_near D_law_around
 have G_law_right:FnOk P w K mg base CX0 6 f_law_right fd_law_right ["_law_board_here","_law_part","_law_stones","_law_true"] spRight:=ok_law_right T Z D_law_right
 refine D.F.ok sc_law (fun vs H Q E h=>?_) (fun cdv A outer s H vs Q E hr h=>?_)
 ·obtain ⟨a,ns,rfl,_⟩:=h
  rfl
 ·obtain ⟨a,ns,rfl,hS,hlen,q⟩:=h
  refine ⟨_,(pss_cons (ps_asg (pe_call G_law_case (hr.mono (by decide)) (by rfl) D_law_case.g D_law_case.F.kp D_law_case.b .nil pass0 (pa_cons (pv 0) (pa_cons (pe_op op_mod (pe_op op_fdivG (pe_call G_law_cell_at (hr.mono (by decide)) (by rfl) D_law_cell_at.g D_law_cell_at.F.kp D_law_cell_at.b .nil pass0 (pa_cons (pv 0) (pa_cons pe_int pa_nil))) pe_int) pe_int) pa_nil))) (pg_tup rfl (pgs_cons (pg_name (i:=1) sc_law.nd rfl (Or.inl rfl)) (pgs_cons (pg_name (i:=2) sc_law.nd rfl (Or.inl rfl)) pgs_nil))))
   (pss_cons (ps_set (i:=3) sc_law.nd rfl (Or.inl rfl) (pe_call G_law_is_true (hr.mono (by decide)) (by rfl) D_law_is_true.g D_law_is_true.F.kp D_law_is_true.b .nil pass0 (pa_cons (pe_ix ix_tup (pv 1) pe_int (fun _ _=>rfl)) (pa_cons (pv 2) pa_nil))))
   (pss_cons (ps_for PassesOwn.never rfl (pi_list (pe_call G_law_parts (hr.mono (by decide)) (by rfl) D_law_parts.g D_law_parts.F.kp D_law_parts.b .nil pass0 (pa_cons (pe_ix ix_tup (pv 1) pe_int (fun _ _=>rfl)) pa_nil))) (pg_name (i:=4) sc_law.nd rfl (Or.inl rfl)) (pss_one (ps_if (PW.pt (pw_and (pt_cmpR op_lt (pe_callB call_len_seq (by rfl) T.b_len PySem.boot_len (pa_cons (pv 4) pa_nil)) pe_int (nomark _)) (pw_and1 (pt_not (pt_truth (pe_call G_law_right (hr.mono (by decide)) (by rfl) D_law_right.g D_law_right.F.kp D_law_right.b .nil pass0 (pa_cons (pv 1) (pa_cons (pv 4) (pa_cons (pv 2) (pa_cons (pv 3) pa_nil))))) (fun _=>rfl)))))) (pss_one (ps_ret pe_bl)) pss_nil)))
   (pss_one (ps_ret pe_bl))))),?_⟩
  refine ⟨_,rfl,_,rfl,a,ns,_,rfl,hS,by decide,fun c2=>⟨_,_,rfl,rfl,CDivG.small (by decide) (by decide),_,_,rfl,rfl,(by show (0:Int) < 65; decide),a,ns,_,rfl,hS,fun t p l sa rs n us S H1 ht B R hsa hcS sup ssh s1=>?_⟩⟩
  refine ⟨t,_,rfl,SqT.of ht,rfl,_,_,rfl,_,_,rfl,rfl,?_⟩
  have sl:S.length<=64:=by
   have h1:=(lex_nodup sup).length_le_of_subset (ssh:S ⊆ shutC rs)
   have h2:=open_shut R
   omega
  refine ⟨_,rfl,p,_,0,_,rfl,rfl,SqT.of B.tp,rfl,_,rfl,l,sa,rs,us,S,rfl,B.rw,R,hsa,hcS,fun tr H2 htr s2=>?_⟩
  have B2:=B.mono s2
  refine ⟨_,rfl,p,_,0,_,rfl,rfl,SqT.of B2.tp,rfl,l,rs,rfl,B2.rw,R,fun dp wp gs H3 hdp hdp3 hG G up s3=>⟨dp,rfl,⟨_,SqL.of hdp3⟩,?_⟩⟩
  have B3:=B2.mono s3
  have s13:=s2.trans s3
  refine for_list (K:=K) (a:=dp) (xs:=wp) (fun i σ H'=>∃ v4:Option V,σ=[some (.ref a),some (.ref p),some (.ref sa),some (.bl tr),v4]/\Same H3 H') ⟨_,rfl,Same.refl _⟩ (fun i σ H' _ ⟨_,_,y⟩=>SqL.of (y _ _ hdp3)) ?_ ?_
  ·rintro i x σ H4 hx ⟨v4,rfl,s4⟩
   obtain ⟨g,hg,pa,ug,rfl,hpa,hcg⟩:=Grps.get (hG.mono s4) hx
   have gm:=List.mem_of_getElem? hg
   have gl:=hcg.length
   refine ⟨_,rfl,pa,_,rfl,.inl (SqL.of hpa),_,_,rfl,rfl,_,rfl,ite2 (fun h=>?_) (fun _=>iteF ⟨_,rfl,s4⟩)⟩
   have h:=of_decide_eq_true h
   have s14:=s13.trans s4
   exact ⟨_,rfl,_,rfl,_,rfl,_,rfl,p,l,pa,sa,rs,n,ug,us,g,S,tr,rfl,B3.mono s4,R,hpa,hcg,G.srt g gm,by omega,s14 _ _ hsa,hcS.mono s14,sl,sup,ssh,good_closed G gm,htr,fun H5 s5=>⟨true,rfl,iteF ⟨_,rfl,s4.trans s5⟩⟩⟩
  ·rintro σ H4 ⟨v4,rfl,s4⟩
   exact q _
end
theorem all_mk {l:PySem.W.OpenLaw}{w:World}{K:PySem.W.Frag}{h:Heap}{mg:Str->Option Value}{fa:Addr}{t_CLOSED_SIGN:Tok}{t_MOST_OF_PART:Tok}{t_NO_CELL_SIGN:Tok}(X:K.In h)(G:h.Ns mainGlobals mg)(hfa:mg "law"=some (.ref fa))
  (h_open_cells:HasDef K "open_cells" s_open_cells)
  (h_around:HasDef K "around" s_around)
  (h_number_at:HasDef K "number_at" s_number_at)
  (h_cells_of:HasDef K "cells_of" s_cells_of)
  (h_sign_at:HasDef K "sign_at" s_sign_at)
  (h_numbers_of:HasDef K "numbers_of" s_numbers_of)
  (h_part_layings:HasDef K "part_layings" s_part_layings)
  (h_needs_at:HasDef K "needs_at" s_needs_at)
  (h_may_fit:HasDef K "may_fit" s_may_fit)
  (h_part_counts:HasDef K "part_counts" s_part_counts)
  (h_part_counts_at:HasDef K "part_counts_at" s_part_counts_at)
  (h_counted:HasDef K "counted" s_counted)
  (h_counted_at:HasDef K "counted_at" s_counted_at)
  (h_law_cell_at:HasDef K "_law_cell_at" s_law_cell_at)
  (h_law_sign:HasDef K "_law_sign" s_law_sign)
  (h_law_signs:HasDef K "_law_signs" s_law_signs)
  (h_law_near:HasDef K "_law_near" s_law_near)
  (h_law_rows:HasDef K "_law_rows" s_law_rows)
  (h_law_bent:HasDef K "_law_bent" s_law_bent)
  (h_law_board:HasDef K "_law_board" s_law_board)
  (h_law_cells:HasDef K "_law_cells" s_law_cells)
  (h_law_around:HasDef K "_law_around" s_law_around)
  (h_law_parts:HasDef K "_law_parts" s_law_parts)
  (h_law_case:HasDef K "_law_case" s_law_case)
  (h_law_fits:HasDef K "_law_fits" s_law_fits)
  (h_law_right:HasDef K "_law_right" s_law_right)
  (h_law_is_true:HasDef K "_law_is_true" s_law_is_true)
  (h_law:HasDef K "law" s_law)
  (z_any:PySem.W.nsIn K mainGlobals "any"=some none)
  (z_enumerate:PySem.W.nsIn K mainGlobals "enumerate"=some none)
  (z_int:PySem.W.nsIn K mainGlobals "int"=some none)
  (z_len:PySem.W.nsIn K mainGlobals "len"=some none)
  (z_list:PySem.W.nsIn K mainGlobals "list"=some none)
  (z_max:PySem.W.nsIn K mainGlobals "max"=some none)
  (z_min:PySem.W.nsIn K mainGlobals "min"=some none)
  (z_range:PySem.W.nsIn K mainGlobals "range"=some none)
  (z_sorted:PySem.W.nsIn K mainGlobals "sorted"=some none)
  (z_str:PySem.W.nsIn K mainGlobals "str"=some none)
  (z_zip:PySem.W.nsIn K mainGlobals "zip"=some none)
  (g_CLOSED_SIGN:PySem.W.nsIn K mainGlobals "CLOSED_SIGN"=some (some (.str "?" t_CLOSED_SIGN)))
  (g_MOST_OF_PART:PySem.W.nsIn K mainGlobals "MOST_OF_PART"=some (some (.int 14 t_MOST_OF_PART)))
  (g_NO_CELL_SIGN:PySem.W.nsIn K mainGlobals "NO_CELL_SIGN"=some (some (.str "#" t_NO_CELL_SIGN))) :
  ∃ fd:FuncData,(∀ (s:Shared) (v:Value),BindsTo s fd ⟨[v],[]⟩ [("_law_script",v)])/\∀ base:Heap,K.In base->base.Ns mainGlobals mg->FnOk l.prog w K mg base CX0 9 fa fd ["_law_script"] (spLaw K):=by
 obtain ⟨f,oc,od,an,sl,kV,dc,pm,cd,ct,a,l0,c,k⟩:=h_law
 have e:=hfa.symm.trans (PySem.W.mg_of X G a)
 cases e
 have T:Txt mg:=⟨PySem.W.mg_none_of X G z_any,PySem.W.mg_none_of X G z_enumerate,PySem.W.mg_none_of X G z_int,PySem.W.mg_none_of X G z_len,PySem.W.mg_none_of X G z_list,PySem.W.mg_none_of X G z_max,PySem.W.mg_none_of X G z_min,PySem.W.mg_none_of X G z_range,PySem.W.mg_none_of X G z_sorted,PySem.W.mg_none_of X G z_str,PySem.W.mg_none_of X G z_zip,⟨_,PySem.W.mg_of X G g_CLOSED_SIGN⟩,⟨_,PySem.W.mg_of X G g_MOST_OF_PART⟩,⟨_,PySem.W.mg_of X G g_NO_CELL_SIGN⟩⟩
 have Z:Prog K mg:=⟨h_open_cells.at X G (fun _ _ _ _ _ _=>us1 fun _=>rfl),h_around.at X G (fun _ _ _ _ _ _=>us2 fun _ _=>rfl),h_number_at.at X G (fun _ _ _ _ _ _=>us2 fun _ _=>rfl),h_cells_of.at X G (fun _ _ _ _ _ _=>us1 fun _=>rfl),h_sign_at.at X G (fun _ _ _ _ _ _=>us2 fun _ _=>rfl),h_numbers_of.at X G (fun _ _ _ _ _ _=>us2 fun _ _=>rfl),h_part_layings.at X G (fun _ _ _ _ _ _=>us2 fun _ _=>rfl),h_needs_at.at X G (fun _ _ _ _ _ _=>us3 fun _ _ _=>rfl),h_may_fit.at X G (fun _ _ _ _ _ _=>us2 fun _ _=>rfl),h_part_counts.at X G (fun _ _ _ _ _ _=>us2 fun _ _=>rfl),h_part_counts_at.at X G (fun _ _ _ _ _ _=>us3 fun _ _ _=>rfl),h_counted.at X G (fun _ _ _ _ _ _=>us2 fun _ _=>rfl),h_counted_at.at X G (fun _ _ _ _ _ _=>us3 fun _ _ _=>rfl),h_law_cell_at.at X G (fun _ _ _ _ _ _=>us2 fun _ _=>rfl),h_law_sign.at X G (fun _ _ _ _ _ _=>us3 fun _ _ _=>rfl),h_law_signs.at X G (fun _ _ _ _ _ _=>us3 fun _ _ _=>rfl),h_law_near.at X G (fun _ _ _ _ _ _=>us3 fun _ _ _=>rfl),h_law_rows.at X G (fun _ _ _ _ _ _=>us3 fun _ _ _=>rfl),h_law_bent.at X G (fun _ _ _ _ _ _=>us2 fun _ _=>rfl),h_law_board.at X G (fun _ _ _ _ _ _=>us4 fun _ _ _ _=>rfl),h_law_cells.at X G (fun _ _ _ _ _ _=>us2 fun _ _=>rfl),h_law_around.at X G (fun _ _ _ _ _ _=>us2 fun _ _=>rfl),h_law_parts.at X G (fun _ _ _ _ _ _=>us1 fun _=>rfl),h_law_case.at X G (fun _ _ _ _ _ _=>us2 fun _ _=>rfl),h_law_fits.at X G (fun _ _ _ _ _ _=>us3 fun _ _ _=>rfl),h_law_right.at X G (fun _ _ _ _ _ _=>us4 fun _ _ _ _=>rfl),h_law_is_true.at X G (fun _ _ _ _ _ _=>us2 fun _ _=>rfl)⟩
 have F:=fun_mk (st:=s_law) l0 c k
 have D:DefAt K mg "law" s_law ["_law_script"] _ _:=⟨F,PySem.W.mg_of X G a,F.binds (ps:=["_law_script"]) (fun _ _ _ _ _ _=>us1 fun _=>rfl)⟩
 exact ⟨_,fun s v=>.of_eq rfl,fun base _ _=>ok_law T Z D⟩
theorem walk {l:PySem.W.OpenLaw}{q:Program}{loose:List Str}{XP:(Str->Option Value)->Heap->Prop}{YP:World->Heap->Prop}{d:DefRec}{K:Params->PySem.W.Frag}(hn:l.most=some 63)(hdf:d.params.defaults=[])
  (hY:∀ (w:World) (h:Heap),YP w h->(K w.params).In h)
  (F:∀ (w:World) (mg:Str->Option Value) (fa:Addr) (h:Heap),(K w.params).In h->h.Ns mainGlobals mg->mg d.name=some (.ref fa) ->
   ∃ fd:FuncData,(∀ (s:Shared) (u:Value),BindsTo s fd ⟨[u],[]⟩ [("_law_script",u)])/\∀ base:Heap,(K w.params).In base->base.Ns mainGlobals mg->FnOk l.prog w (K w.params) mg base CX0 9 fa fd ["_law_script"] (spLaw (K w.params))) :
  PySem.W.WalkO q loose XP YP l.row.toRowW d [] (fun f vs=>PySem.call f vs) :=
 L2.walk_of (n:=63) (k:=9) (x:="_law_script") (CX:=fun _=>CX0) (sp:=fun w=>spLaw (K w.params)) hn (by decide) hdf ⟨rfl,by decide,by decide⟩ hY F (fun _ _ a ns hl _ hS=>⟨a,ns,rfl,hS,hl,fun _=>rfl⟩) fun _ _ _ _ _ z=>z
end K25
open PySem PySem.W PyProof.Rows
set_option maxRecDepth 100000 in
set_option maxHeartbeats 0 in
theorem PySem.Challenge.cw_stonelay_k25_counts_at_all_cells_holds : PySem.Challenge.rw_stonelay_k25_counts_at_all_cells.Holds := by
 refine K25E.early fun {q XP YP d K} hdf hY hn F=>?_
 refine K25.walk (l:=PySem.Challenge.rw_stonelay_k25_counts_at_all_cells) rfl hdf hY fun w mg fa h KX G hmg=>?_
 rw [hn] at hmg
 obtain ⟨h_open_cells,h_around,h_number_at,h_cells_of,h_sign_at,h_numbers_of,h_part_layings,h_needs_at,h_may_fit,h_part_counts,h_part_counts_at,h_counted,h_counted_at,h_law_cell_at,h_law_sign,h_law_signs,h_law_near,h_law_rows,h_law_bent,h_law_board,h_law_cells,h_law_around,h_law_parts,h_law_case,h_law_fits,h_law_right,h_law_is_true,h_law,z_any,z_enumerate,z_int,z_len,z_list,z_max,z_min,z_range,z_sorted,z_str,z_zip,⟨_,g_CLOSED_SIGN⟩,⟨_,g_MOST_OF_PART⟩,⟨_,g_NO_CELL_SIGN⟩⟩:=F w
 exact K25.all_mk KX G hmg h_open_cells h_around h_number_at h_cells_of h_sign_at h_numbers_of h_part_layings h_needs_at h_may_fit h_part_counts h_part_counts_at h_counted h_counted_at h_law_cell_at h_law_sign h_law_signs h_law_near h_law_rows h_law_bent h_law_board h_law_cells h_law_around h_law_parts h_law_case h_law_fits h_law_right h_law_is_true h_law z_any z_enumerate z_int z_len z_list z_max z_min z_range z_sorted z_str z_zip g_CLOSED_SIGN g_MOST_OF_PART g_NO_CELL_SIGN