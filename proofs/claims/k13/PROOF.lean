import PyProof.Rows.All
import Wide.All
import OpenK.AllK
import Wide.FinOn
import Lean
import PyProof.EqAt
import PyProof.EqKinds
import PyProof.TupleCall
import PySem.Challenge.RW_stonelay_k13_too_many_closed
set_option Elab.async false
set_option linter.all false
set_option maxRecDepth 100000
namespace K13E
open PySem PySem.W
noncomputable def sel:List Nat->Nat->List Stmt->List Stmt
 | _,_,[]=>[]
 | ns,i,x :: xs=>match ns.contains i with
  | true=>sel ns (i + 1) xs
  | false=>x :: sel ns (i + 1) xs
theorem head_once {r:OpenRow}{q:Program}{H:Hook}{d:DefRec}{kwd:List (PySem.Str × Expr)}{N:Nat}(left:LeftO r.prog q [] (fun s=>xlAt q [] s && recOk (RowW.records r.toRowW) s) (Hook.obs H) (Hook.val H) N)
  (hdef:defOf q r.name=some (d,kwd)) (hp:r.prog.theDef r.name=some (d.params,d.body,d.scope)) (hk:kwWritten? d.params.kwonlyargs d.params.kw_defaults=some kwd) (hwr:(!r.writes || r.records.isEmpty)=true)
  (k1:r.wellSaid=true) (ok:(chainsOk q && opensWell r.prog && (frees r.toRowW && r.within.isEmpty))=true) (hb:r.prog.bare) (hw:r.toRowW.promised)
  (call:WalkO q [] (XL q []) (Hook.says H) r.toRowW d kwd fun f vs=>PySem.call f vs):r.Holds :=
 holds_open (q:=q) (loose:=[]) (Xt:=fun s=>xlAt q [] s && recOk (RowW.records r.toRowW) s) (XP:=XL q []) (Yf:=Hook.obs H) (Ya:=Hook.val H) (YP:=Hook.says H) (N:=N) left (Hook.of H) (Hook.keeps H) (fun s e=>xl_of s (Bool.and_eq_true_iff.mp e).1) XL.keeps hdef hp hk
  (fun s e=>recFacts_of (Bool.and_eq_true_iff.mp e).2) hwr k1 ok hb hw call
noncomputable def top (i:Nat):Stmt:=PySem.Challenge.pw_stonelay_k13_too_many_closed.main.body.getD i (.Pass ⟨0,0,0,0⟩)
noncomputable def defArgs (s:Stmt):Arguments:=match s with
 | .FunctionDef _ a _ _ _ _ _ _ _ _=>a
 | _=>{ posonlyargs:=[],args:=[],vararg:=none,kwonlyargs:=[],kw_defaults:=[],kwarg:=none,defaults:=[] }
noncomputable def defBody (s:Stmt):List Stmt:=match s with
 | .FunctionDef _ _ b _ _ _ _ _ _ _=>b
 | _=>[]
noncomputable def defScope (s:Stmt):Scope:=match s with
 | .FunctionDef _ _ _ _ _ _ sc _ _ _=>sc
 | _=>{ kind:=.function,names:=[],isGenerator:=false,isCoroutine:=false }
noncomputable def HD (K:PySem.W.Frag)(x:Str)(i:Nat):Prop:=∃ (f:Addr) (oc:Value) (od an:Option Addr) (sl:Array (Option Value)) (kV dc pm cd ct:Value),PySem.W.nsIn K mainGlobals x=some (some (.ref f))/\K.lookup f=some ⟨oc,od,.func (PySem.W.fnOf x x (defArgs (top i)) (defBody (top i)) (defScope (top i)) .none kV dc pm an cd ct),sl⟩/\PySem.W.codeIn K cd x=true/\PySem.W.keepIn K (.ref f)=true
def vmro:List Value:=[.type "ValueError",.type "Exception",.type "BaseException",.type "object"]
structure Facts (K:PySem.W.Frag):Prop where
 h_closed:HD K "closed" 14
 h_open_cells:HD K "open_cells" 15
 h_around:HD K "around" 16
 h_number_at:HD K "number_at" 17
 h_cells_of:HD K "cells_of" 18
 h_sign_at:HD K "sign_at" 19
 h_layings:HD K "layings" 22
 h_numbers_told:HD K "numbers_told" 23
 h_wrong_number:HD K "wrong_number" 24
 h_picks:HD K "picks" 25
 h_law_cell_at:HD K "_law_cell_at" 27
 h_law_classes:HD K "_law_classes" 28
 h_law_told:HD K "_law_told" 29
 h_law_many:HD K "_law_many" 30
 h_law_rising:HD K "_law_rising" 31
 h_law_text:HD K "_law_text" 32
 h_law_good:HD K "_law_good" 33
 h_law_near:HD K "_law_near" 34
 h_law:HD K "law" 35
 z_ValueError:PySem.W.nsIn K mainGlobals "ValueError"=some none
 z_abs:PySem.W.nsIn K mainGlobals "abs"=some none
 z_all:PySem.W.nsIn K mainGlobals "all"=some none
 z_enumerate:PySem.W.nsIn K mainGlobals "enumerate"=some none
 z_int:PySem.W.nsIn K mainGlobals "int"=some none
 z_isinstance:PySem.W.nsIn K mainGlobals "isinstance"=some none
 z_len:PySem.W.nsIn K mainGlobals "len"=some none
 z_list:PySem.W.nsIn K mainGlobals "list"=some none
 z_max:PySem.W.nsIn K mainGlobals "max"=some none
 z_min:PySem.W.nsIn K mainGlobals "min"=some none
 z_range:PySem.W.nsIn K mainGlobals "range"=some none
 z_sorted:PySem.W.nsIn K mainGlobals "sorted"=some none
 z_str:PySem.W.nsIn K mainGlobals "str"=some none
 z_zip:PySem.W.nsIn K mainGlobals "zip"=some none
 g_CLOSED_SIGN:∃ t,PySem.W.nsIn K mainGlobals "CLOSED_SIGN"=some (some (.str "?" t))
 g_MOST_CLOSED:∃ t,PySem.W.nsIn K mainGlobals "MOST_CLOSED"=some (some (.int 12 t))
 g_NO_CELL_SIGN:∃ t,PySem.W.nsIn K mainGlobals "NO_CELL_SIGN"=some (some (.str "#" t))
 cls:∃ C_StoneError C_TooGreat C_NoLaying C_NoBoard C_NoCount C_NoCell C_NoText C_NoRow C_NoNumber C_NoTable:Addr,PySem.W.nsIn K mainGlobals "StoneError"=some (some (.ref C_StoneError))/\PySem.W.nsIn K mainGlobals "TooGreat"=some (some (.ref C_TooGreat))/\PySem.W.nsIn K mainGlobals "NoLaying"=some (some (.ref C_NoLaying))/\PySem.W.nsIn K mainGlobals "NoBoard"=some (some (.ref C_NoBoard))/\PySem.W.nsIn K mainGlobals "NoCount"=some (some (.ref C_NoCount))/\PySem.W.nsIn K mainGlobals "NoCell"=some (some (.ref C_NoCell))/\PySem.W.nsIn K mainGlobals "NoText"=some (some (.ref C_NoText))/\PySem.W.nsIn K mainGlobals "NoRow"=some (some (.ref C_NoRow))/\PySem.W.nsIn K mainGlobals "NoNumber"=some (some (.ref C_NoNumber))/\PySem.W.nsIn K mainGlobals "NoTable"=some (some (.ref C_NoTable))/\PySem.W.excIn K C_StoneError vmro "ValueError.__new__"=true/\PySem.W.excIn K C_TooGreat vmro "ValueError.__new__"=true/\PySem.W.excIn K C_NoLaying vmro "ValueError.__new__"=true/\PySem.W.excIn K C_NoBoard vmro "ValueError.__new__"=true/\PySem.W.excIn K C_NoCount vmro "ValueError.__new__"=true/\PySem.W.excIn K C_NoCell vmro "ValueError.__new__"=true/\PySem.W.excIn K C_NoText vmro "ValueError.__new__"=true/\PySem.W.excIn K C_NoRow vmro "ValueError.__new__"=true/\PySem.W.excIn K C_NoNumber vmro "ValueError.__new__"=true/\PySem.W.excIn K C_NoTable vmro "ValueError.__new__"=true/\PySem.W.findIn K (.ref C_TooGreat) "__getattribute__"=some (some (.builtin "BaseException.__getattribute__"))/\PySem.W.findIn K (.ref C_TooGreat) "__getattr__"=some none/\PySem.W.findIn K (.ref C_TooGreat) "__class__"=some (some (.builtin "object.__class__"))/\PySem.W.mroIn K C_TooGreat (.type "BaseException")=some true/\PySem.W.mroIn K C_TooGreat (.type "object")=some true/\PySem.W.isClsIn K C_TooGreat=true/\PySem.W.mroIn K C_TooGreat (.ref C_StoneError)=some true/\PySem.W.kitOne K (.ref C_TooGreat) (.ref C_TooGreat)=some true/\PySem.W.kitOne K (.ref C_TooGreat) (.ref C_NoLaying)=some false/\PySem.W.kitOne K (.ref C_TooGreat) (.ref C_NoBoard)=some false/\PySem.W.kitOne K (.ref C_TooGreat) (.ref C_NoCount)=some false/\PySem.W.kitOne K (.ref C_TooGreat) (.ref C_NoCell)=some false/\PySem.W.kitOne K (.ref C_TooGreat) (.ref C_NoText)=some false/\PySem.W.kitOne K (.ref C_TooGreat) (.ref C_NoRow)=some false/\PySem.W.kitOne K (.ref C_TooGreat) (.ref C_NoNumber)=some false/\PySem.W.kitOne K (.ref C_TooGreat) (.ref C_NoTable)=some false/\PySem.W.kitOne K (.ref C_TooGreat) (.type "ValueError")=some true
end K13E
noncomputable def K13E.view:PySem.Program:={ PySem.Challenge.rw_stonelay_k13_too_many_closed.prog with main:={ PySem.Challenge.rw_stonelay_k13_too_many_closed.prog.main with body:=K13E.sel [0,11,20,26] 0 PySem.Challenge.rw_stonelay_k13_too_many_closed.prog.main.body } }
local macro_rules | `(tactic| o_head $H)=>`(tactic| (refine' K13E.head_once (q:=K13E.view) (H:=$H) (N:=5522) (fun _=>by kernel_rfl) (by rfl) (by rfl) (by rfl) (by rfl) (by first | assumption | decide +kernel) (by decide +kernel) ⟨rfl,rfl,rfl,rfl,rfl,by decide +kernel⟩ ?_ ?_))
open PySem PySem.W PyProof.Rows in
set_option maxRecDepth 100000 in
set_option maxHeartbeats 0 in
theorem K13E.look:PySem.Challenge.rw_stonelay_k13_too_many_closed.wellSaid=true:=by kernel_rfl
open PySem PySem.W PyProof.Rows in
set_option maxRecDepth 100000 in
set_option maxHeartbeats 0 in
theorem K13E.early (h:∀ {q:Program} {XP:(Str->Option Value)->Heap->Prop} {YP:World->Heap->Prop} {d:DefRec} {K:Params->PySem.W.Frag},d.params.defaults=[]->(∀ (w:World) (h:Heap),YP w h->(K w.params).In h)->d.name="law"->(∀ w:World,K13E.Facts (K w.params))->PySem.W.WalkO q [] XP YP PySem.Challenge.rw_stonelay_k13_too_many_closed.row.toRowW d [] (fun f vs=>PySem.call f vs)):PySem.Challenge.rw_stonelay_k13_too_many_closed.Holds:=by
 w_on; refine holds_law K13E.look fun said=>?_
 k_head; w_witness2
 k_fill
 refine h rfl (fun w h Y=>PySem.W.kIn_of Y) rfl fun w=>?_
 constructor
 all_goals first | k_is | exact ⟨_,_,_,_,_,_,_,_,_,_,by k_is,by k_is,by k_is,by k_is⟩ | exact ⟨_,by k_is⟩ | exact ⟨_,_,_,_,_,_,_,_,_,_,by k_is,by k_is,by k_is,by k_is,by k_is,by k_is,by k_is,by k_is,by k_is,by k_is,by k_exc,by k_exc,by k_exc,by k_exc,by k_exc,by k_exc,by k_exc,by k_exc,by k_exc,by k_exc,by k_is,by k_is,by k_is,by k_is,by k_is,by k_is,by k_is,by kit_is,by kit_is,by kit_is,by kit_is,by kit_is,by kit_is,by kit_is,by kit_is,by kit_is,by kit_is⟩
namespace L2
open PySem PySem.Spec PyProof.Rows
noncomputable abbrev Key:=Sum Int Str
noncomputable def keyIs:Key->Value->Bool
 | .inl k,v=>Value.isInt k v
 | .inr x,v=>Value.isStrOf x v
noncomputable def keyH (w:World):Key->Int
 | .inl k=>hashInt k
 | .inr x=>hashStr w x
theorem keyIs_shape:∀ {k:Key} {v:Value},keyIs k v=true->(∃ i t,k=Sum.inl i/\v=Value.int i t)\/(∃ x t,k=Sum.inr x/\v=Value.str x t)
 | .inl i,v,h=>by
  obtain ⟨t,e⟩:=Value.isInt_shape (k:=i) (v:=v) h
  exact .inl ⟨i,t,rfl,e⟩
 | .inr x,v,h=>by
  obtain ⟨t,e⟩:=Value.isStrOf_shape (x:=x) (v:=v) h
  exact .inr ⟨x,t,rfl,e⟩
theorem key_ll (a b:Int):decide ((Sum.inl a:Key)=Sum.inl b)=(a == b):=by
 by_cases e:a=b
 ·subst e; simp
 ·have h:¬ (Sum.inl a:Key)=Sum.inl b:=fun q=>e (Sum.inl.inj q)
  rw [decide_eq_false h]
  exact (beq_eq_false_iff_ne.mpr e).symm
theorem key_rr (a b:Str):decide ((Sum.inr a:Key)=Sum.inr b)=decide (a=b):=by
 by_cases e:a=b
 ·subst e; simp
 ·have h:¬ (Sum.inr a:Key)=Sum.inr b:=fun q=>e (Sum.inr.inj q)
  rw [decide_eq_false h,decide_eq_false e]
theorem key_lr (a:Int)(b:Str):decide ((Sum.inl a:Key)=Sum.inr b)=false:=decide_eq_false (fun q=>nomatch q)
theorem key_rl (a:Str)(b:Int):decide ((Sum.inr a:Key)=Sum.inl b)=false:=decide_eq_false (fun q=>nomatch q)
noncomputable def mixKind (prog:Program)(w:World):PySem.KeyKind prog w Key where
 is:=keyIs
 hash:=keyH w
 inj:=fun v a b ha hb=>by
  rcases keyIs_shape ha with ⟨i,t,rfl,rfl⟩ | ⟨x,t,rfl,rfl⟩
  ·rcases keyIs_shape hb with ⟨j,u,rfl,e⟩ | ⟨y,u,rfl,e⟩
   ·injection e with e1 _; rw [e1]
   ·exact nomatch e
  ·rcases keyIs_shape hb with ⟨j,u,rfl,e⟩ | ⟨y,u,rfl,e⟩
   ·exact nomatch e
   ·injection e with e1 _; rw [e1]
 byValue:=fun k v h=>by
  rcases keyIs_shape h with ⟨i,t,rfl,rfl⟩ | ⟨x,t,rfl,rfl⟩ <;> rfl
 pyHash:=fun hv h=>by
  rcases keyIs_shape hv with ⟨i,t,rfl,rfl⟩ | ⟨x,t,rfl,rfl⟩
  ·exact wpAny_pyHash_int h
  ·exact wpAny_pyHash_str h
 eqBool:=fun hu hv h=>by
  rcases keyIs_shape hu with ⟨i,t,rfl,rfl⟩ | ⟨x,t,rfl,rfl⟩
  ·rcases keyIs_shape hv with ⟨j,u,rfl,rfl⟩ | ⟨y,u,rfl,rfl⟩
   ·rw [key_ll] at h; exact wpAny_eqBool_int h
   ·rw [key_lr] at h; exact SeqAt.EqAt.int_str i t y u _ _ _ _ h
  ·rcases keyIs_shape hv with ⟨j,u,rfl,rfl⟩ | ⟨y,u,rfl,rfl⟩
   ·rw [key_rl] at h; exact SeqAt.EqAt.str_int x t j u _ _ _ _ h
   ·rw [key_rr] at h; exact wpAny_eqBool_str h
 «strs»:=fun k x t v h=>by
  rcases keyIs_shape h with ⟨i,u,rfl,e⟩ | ⟨y,u,rfl,e⟩
  ·exact nomatch e
  ·injection e with e1 _
   subst e1
   cases v <;> rfl
end L2
namespace L2
open PySem PySem.Spec PyProof.Rows
inductive V where
 | non | bl (b:Bool) | int (i:Int) | str (x:Str) | byt (b:Array UInt8) | flt (b:UInt64) | ref (a:Addr) | ty (n:String)
 deriving DecidableEq
noncomputable def RelV:V->Value->Prop
 | .non,u=>u=Value.none
 | .bl b,u=>u=Value.bool b
 | .int i,u=>∃ t,u=Value.int i t
 | .str x,u=>∃ t,u=Value.str x t
 | .byt b,u=>∃ t,u=Value.bytes b t
 | .flt b,u=>∃ t,u=Value.float b t
 | .ref a,u=>u=Value.ref a
 | .ty n,u=>u=Value.type n
noncomputable abbrev Vals:List V->List Value->Prop:=Paired RelV
theorem Vals.length {xs:List V}{us:List Value}(r:Vals xs us):xs.length=us.length:=Paired.length r
theorem Vals.get:∀ {xs:List V} {us:List Value} {i:Nat} {x:V},Vals xs us->xs[i]?=some x->∃ u,us[i]?=some u/\RelV x u
 | _,_,_,_,.nil,e=>by simp at e
 | _,_,0,_,.cons r _,e=>by simp at e; subst e; exact ⟨_,rfl,r⟩
 | _,_,i + 1,x,.cons _ t,e=>by
  obtain ⟨u,h1,h2⟩:=Vals.get (i:=i) (x:=x) t (by simpa using e)
  exact ⟨u,by simpa using h1,h2⟩
theorem Vals.append:∀ {xs ys:List V} {us ws:List Value},Vals xs us->Vals ys ws->Vals (xs++ys) (us++ws)
 | _,_,_,_,.nil,s=>s
 | _,_,_,_,.cons r t,s=>.cons r (Vals.append t s)
theorem Vals.take:∀ {xs:List V} {us:List Value} (n:Nat),Vals xs us->Vals (xs.take n) (us.take n)
 | _,_,0,_=>.nil
 | _,_,_ + 1,.nil=>.nil
 | _,_,n + 1,.cons r t=>.cons r (Vals.take n t)
theorem Vals.drop:∀ {xs:List V} {us:List Value} (n:Nat),Vals xs us->Vals (xs.drop n) (us.drop n)
 | _,_,0,r=>r
 | _,_,_ + 1,.nil=>.nil
 | _,_,n + 1,.cons _ t=>Vals.drop n t
noncomputable def RelO:Option V->Option Value->Prop
 | some v,some u=>RelV v u
 | none,none=>True
 | _,_=>False
noncomputable def KV {κ:Type}:List (κ × V)->List (κ × Value)->Prop:=Paired fun (p:κ × V) (q:κ × Value)=>p.1=q.1/\RelV p.2 q.2
noncomputable def kV:Key->V
 | .inl i=>.int i
 | .inr x=>.str x
inductive HO where
  | lst (xs:List V)
  | tup (xs:List V)
  | dK (kvs:List (Key × V)) | dT (kvs:List (List Key × V))
  | set (S:Int->Bool) (n:Nat)
  | ins (C dx:Addr) (fs:List (Str × V))
  | own (x:Addr)
  | xd (fs:List (Str × V))
  | met (f x:Addr)
  | rng (lo hi:Int)
  | frz (o:Obj) (u:HO)
  | tbl (ps:Array Value)
  | ext (φ:Heap->Prop)
noncomputable abbrev Hp:=Addr->Option HO
noncomputable def upd (H:Hp)(a:Addr)(o:HO):Hp:=fun b=>if b=a then some o else H b
theorem upd_same {H:Hp}{a:Addr}{o:HO}:upd H a o a=some o:=by unfold upd; rw [if_pos rfl]
theorem upd_ne {H:Hp}{a b:Addr}{o:HO}(h:b ≠ a):upd H a o b=H b:=by unfold upd; rw [if_neg h]
theorem ne_of {H:Hp}{a b:Addr}{o u:HO}(h:H a=some o)(h':H b=some u)(d:o ≠ u):a ≠ b:=by
 intro e; subst e; rw [h] at h'; exact d (Option.some.inj h')
theorem ne_of_none {H:Hp}{a b:Addr}{o:HO}(h:H a=some o)(h':H b=none):a ≠ b:=by
 intro e; subst e; rw [h] at h'; cases h'
section
variable (P:Program)(w:World)
noncomputable def ObjOk (H:Hp)(h:Heap)(a:Addr):HO->Prop
 | .lst xs=>xs.length<=sizeLine/\∃ (its:List Value) (n:Nat),Vals xs its/\h.get? a=some { cls:=.type "list",data:=.seq its.toArray n }
 | .tup xs=>xs.length<=sizeLine/\∃ its:List Value,Vals xs its/\IsTup h a its.toArray
 | .dK kvs=>kvs.length<=sizeLine/\(a == sysModules)=false/\∃ vs,KV kvs vs/\h.DictOf (mixKind P w) a vs
 | .dT kvs=>kvs.length<=sizeLine/\(a == sysModules)=false/\∃ xs:List (List Key × Addr × Value),
   Paired (fun (p:List Key × V) (q:List Key × Addr × Value)=>p.1=q.1/\H q.2.1=some (.tup (p.1.map kV))/\RelV p.2 q.2.2) kvs xs /\
   ∃ o es ep,h.get? a=some o/\o.ExactDict/\o.data=.dict es ep/\es.toList=xs.map (entryOfKey (tupleKind (mixKind P w)))/\(xs.map (·.1)).Nodup
 | .set S n=>h.SetOf (intKind P w) a S n
 | .ins C dx fs=>H dx=some (.own a)/\fs.length<=1000/\dx ≠ a/\h.get? a=some (PySem.W.instObj C dx) /\
   ∃ mA,h.Ns1 dx mA/\(∀ f,RelO (fs.lookup f) (mA f))/\PySem.Within mA (fs.map (·.1))
 | .own _=>∃ o,h.get? a=some o
 | .xd fs=>∃ mA,h.Ns1 a mA/\∀ f,RelO (fs.lookup f) (mA f)
 | .rng lo hi=>∃ t u v,h.get? a=some { cls:=.type "range",data:=.fields #[.int lo t,.int hi u,.int 1 v] }
 | .frz o u=>h.get? a=some o/\ObjOk H h a u
 | .tbl ps=>h.get? a=some { cls:=.none,data:=.fields ps }
 | .met f x=>h.get? a=some (PySem.W.methodObj (.ref f) (.ref x))
 | .ext φ=>φ h/\(∃ o,h.get? a=some o)/\∀ h1 h2:Heap,φ h1->(∀ o,h1.get? a=some o->h2.get? a=some o)->φ h2
noncomputable def HOk (H:Hp)(h:Heap):Prop:=∀ a o,H a=some o->ObjOk P w H h a o
end
section
variable {P:Program}{w:World}{H H':Hp}{h h':Heap}{a:Addr}{o:HO}
theorem ObjOk.lt (x:ObjOk P w H h a o):a < h.objs.size:=by
 cases o with
 | lst xs=>obtain ⟨_,_,_,_,e⟩:=x; exact Heap.lt_size e
 | tup xs=>obtain ⟨_,_,_,p⟩:=x; exact p.lt
 | dK kvs=>obtain ⟨_,_,_,_,o,_,_,e,_⟩:=x; exact Heap.lt_size e
 | dT kvs=>obtain ⟨_,_,_,_,o,_,_,e,_⟩:=x; exact Heap.lt_size e
 | set S n=>obtain ⟨o,_,_,_,e,_⟩:=x; exact Heap.lt_size e
 | ins C dx fs=>obtain ⟨_,_,_,e,_⟩:=x; exact Heap.lt_size e
 | own y=>obtain ⟨_,e⟩:=x; exact Heap.lt_size e
 | xd fs=>obtain ⟨_,⟨_,_,_,e,_⟩,_⟩:=x; exact Heap.lt_size e
 | rng lo hi=>obtain ⟨_,_,_,e⟩:=x; exact Heap.lt_size e
 | frz ob u=>obtain ⟨e,_⟩:=x; exact Heap.lt_size e
 | tbl ps=>exact Heap.lt_size (show h.get? a=some _ from x)
 | met f y=>exact Heap.lt_size (show h.get? a=some _ from x)
 | ext φ=>obtain ⟨_,⟨_,e⟩,_⟩:=x; exact Heap.lt_size e
theorem Paired.mapP {α β:Type}{F G:α->β->Prop}:∀ {l₁:List α} {l₂:List β},Paired F l₁ l₂->(∀ a b,F a b->G a b)->Paired G l₁ l₂
 | _,_,.nil,_=>.nil
 | _,_,.cons r t,f=>.cons (f _ _ r) (Paired.mapP t f)
theorem ObjOk.stay (x:ObjOk P w H h a o)(k:∀ b u,(b=a\/H b=some (.own a))->h.get? b=some u->h'.get? b=some u)
  (ho:∀ b,H b=some (.own a)->H' b=some (.own a)) (ht:∀ b xs,H b=some (.tup xs)->H' b=some (.tup xs)):ObjOk P w H' h' a o:=by
 induction o with
 | lst xs=>obtain ⟨z,its,n,r,e⟩:=x; exact ⟨z,its,n,r,k _ _ (.inl rfl) e⟩
 | tup xs=>obtain ⟨z,its,r,ob,e,c⟩:=x; exact ⟨z,its,r,ob,k _ _ (.inl rfl) e,c⟩
 | dK kvs=>obtain ⟨z,y,vs,r,ob,es,ep,e,c⟩:=x; exact ⟨z,y,vs,r,ob,es,ep,k _ _ (.inl rfl) e,c⟩
 | dT kvs =>
  obtain ⟨z,y,xs,r,ob,es,ep,e,c⟩:=x
  exact ⟨z,y,xs,Paired.mapP r fun p q z=>⟨z.1,ht _ _ z.2.1,z.2.2⟩,ob,es,ep,k _ _ (.inl rfl) e,c⟩
 | set S n=>obtain ⟨ob,es,ep,t,e,c⟩:=x; exact ⟨ob,es,ep,t,k _ _ (.inl rfl) e,c⟩
 | ins C dx fs =>
  obtain ⟨d,z,ne,e,mA,⟨od,es,ep,e2,c⟩,r⟩:=x
  exact ⟨ho _ d,z,ne,k _ _ (.inl rfl) e,mA,⟨od,es,ep,k _ _ (.inr d) e2,c⟩,r⟩
 | own y=>obtain ⟨ob,e⟩:=x; exact ⟨ob,k _ _ (.inl rfl) e⟩
 | xd fs=>obtain ⟨mA,⟨od,es,ep,e,c⟩,r⟩:=x; exact ⟨mA,⟨od,es,ep,k _ _ (.inl rfl) e,c⟩,r⟩
 | rng lo hi=>obtain ⟨t,u,v,e⟩:=x; exact ⟨t,u,v,k _ _ (.inl rfl) e⟩
 | frz ob u ih=>obtain ⟨e,q⟩:=x; exact ⟨k _ _ (.inl rfl) e,ih q⟩
 | tbl ps =>
  have e:h.get? a=some { cls:=.none,data:=.fields ps }:=x
  show h'.get? a=some { cls:=.none,data:=.fields ps }
  exact k a _ (.inl rfl) e
 | met f y =>
  have e:h.get? a=some (PySem.W.methodObj (.ref f) (.ref y)):=x
  show h'.get? a=some (PySem.W.methodObj (.ref f) (.ref y))
  exact k a _ (.inl rfl) e
 | ext φ=>obtain ⟨p,⟨o,e⟩,st⟩:=x; exact ⟨st _ _ p fun o q=>k _ _ (.inl rfl) q,⟨o,k _ _ (.inl rfl) e⟩,st⟩
theorem HOk.lt (x:HOk P w H h)(e:H a=some o):a < h.objs.size:=(x a o e).lt
theorem HOk.fresh (x:HOk P w H h)(e:h.objs.size<=a):H a=none:=by
 cases q:H a with
 | none=>rfl
 | some u=>exact absurd (Nat.lt_of_lt_of_le (x.lt q) e) (Nat.lt_irrefl _)
theorem HOk.kept (x:HOk P w H h)(k:∀ b u,h.get? b=some u->h'.get? b=some u):HOk P w H h':=fun a o e =>
 (x a o e).stay (fun b u _ q=>k b u q) (fun _ q=>q) fun _ _ q=>q
theorem HOk.laid (x:HOk P w H h)(k:∀ b u,h.get? b=some u->h'.get? b=some u)(hp:h.objs.size<=a)(new:ObjOk P w (upd H a o) h' a o):HOk P w (upd H a o) h':=fun b u e=>by
 have hn:=x.fresh hp
 by_cases hb:b=a
 ·subst hb; rw [upd_same] at e; cases e; exact new
 ·rw [upd_ne hb] at e
  exact (x b u e).stay (fun c v _ q=>k c v q) (fun c q=>by rw [upd_ne (ne_of_none q hn)]; exact q) fun c xs q=>by rw [upd_ne (ne_of_none q hn)]; exact q
end
noncomputable def Rd (H:Hp)(a:Addr)(u:HO):Prop:=H a=some u\/∃ o,H a=some (.frz o u)
theorem Rd.ok {P:Program}{w:World}{H:Hp}{h:Heap}{a:Addr}{u:HO}(r:Rd H a u)(x:HOk P w H h):ObjOk P w H h a u:=by
 rcases r with r | ⟨o,r⟩
 ·exact x a u r
 ·obtain ⟨_,q⟩:=x a _ r
  exact q
noncomputable def Mut:Option HO->Prop
 | some (.lst _)=>True
 | some (.dK _)=>True
 | some (.dT _)=>True
 | some (.set _ _)=>True
 | some (.ins _ _ _)=>True
 | some (.ext _)=>True
 | _=>False
section
variable {P:Program}{w:World}{H:Hp}{h h':Heap}{x e:Addr}{o':HO}
theorem HOk.write (ok:HOk P w H h)(mu:Mut (H x))(he:e=x\/H e=some (.own x))(k:∀ b u,b ≠ e->h.get? b=some u->h'.get? b=some u)(heo:∃ u,h'.get? e=some u)
  (new:ObjOk P w (upd H x o') h' x o'):HOk P w (upd H x o') h':=fun b u q=>by
 have nown:∀ c y,H c=some (.own y)->c ≠ x:=fun c y r z=>by subst z; rw [r] at mu; exact mu
 have ntup:∀ c xs,H c=some (.tup xs)->c ≠ x:=fun c xs r z=>by subst z; rw [r] at mu; exact mu
 by_cases hb:b=x
 ·subst hb; rw [upd_same] at q; cases q; exact new
 ·rw [upd_ne hb] at q
  by_cases hbe:b=e
  ·have q':H b=some (.own x):=by
    rcases he with z | z
    ·exact absurd (hbe.trans z) hb
    ·rw [hbe]; exact z
   rw [q] at q'; cases q'
   obtain ⟨v,hv⟩:=heo
   exact ⟨v,by rw [hbe]; exact hv⟩
  ·refine (ok b u q).stay (fun c v hc r=>k c v ?_ r) (fun c r=>by rw [upd_ne (nown c b r)]; exact r) fun c xs r=>by rw [upd_ne (ntup c xs r)]; exact r
   rcases hc with rfl | hc
   ·exact hbe
   ·rintro rfl
    rcases he with z | z
    ·exact nown c b hc z
    ·rw [hc] at z; cases z; exact hb rfl
end
structure Un (fs ex:List Addr)(H H':Hp)(h h':Heap):Prop where
 keep:∀ b o,h.get? b=some o->H b=none->b ∉ fs->b ∉ ex->h'.get? b=some o
 slot:∀ b o,h.get? b=some o->H b=none->b ∈ fs->b ∉ ex->∃ sl,h'.get? b=some { o with slots:=sl }
 free:∀ b o,h.get? b=some o->H b=none->b ∉ ex->H' b=none
 there:∀ b o,h.get? b=some o->b ∉ ex->∃ o',h'.get? b=some o'
 tups:∀ b xs,H b=some (.tup xs)->H' b=some (.tup xs)
 frzs:∀ b o u,H b=some (.frz o u)->H' b=some (.frz o u)
 tbls:∀ b ps,H b=some (.tbl ps)->∃ more,H' b=some (.tbl (ps++more))
section
variable {fs fs' ex ex':List Addr}{H H1 H2:Hp}{h h1 h2 h':Heap}{a x e:Addr}{o:HO}
theorem Un.any (u:Un fs ex H H1 h h1){b:Addr}{ob:Obj}(q:h.get? b=some ob)(n:H b=none)(hx:b ∉ ex):∃ sl,h1.get? b=some { ob with slots:=sl }:=by
 by_cases hb:b ∈ fs
 ·exact u.slot b ob q n hb hx
 ·exact ⟨ob.slots,u.keep b ob q n hb hx⟩
theorem Un.kept (k:∀ b u,h.get? b=some u->h'.get? b=some u):Un fs ex H H h h' :=
 ⟨fun b ob q _ _ _=>k b ob q,fun b ob q _ _ _=>⟨ob.slots,k b ob q⟩,fun _ _ _ n _=>n,fun b ob q _=>⟨ob,k b ob q⟩,fun _ _ q=>q,fun _ _ _ q=>q,fun _ ps q=>⟨#[],by rw [q]; simp⟩⟩
theorem Un.refl:Un fs ex H H h h:=Un.kept fun _ _ q=>q
theorem Un.laid (k:∀ b u,h.get? b=some u->h'.get? b=some u)(hp:h.objs.size<=a)(hn:H a=none):Un fs ex H (upd H a o) h h' where
 keep:=fun b u q _ _ _=>k b u q
 slot:=fun b u q _ _ _=>⟨u.slots,k b u q⟩
 free:=fun b u q n _=>by rw [upd_ne (Nat.ne_of_lt (Nat.lt_of_lt_of_le (Heap.lt_size q) hp))]; exact n
 there:=fun b u q _=>⟨u,k b u q⟩
 tups:=fun b xs q=>by rw [upd_ne (ne_of_none q hn)]; exact q
 frzs:=fun b u xs q=>by rw [upd_ne (ne_of_none q hn)]; exact q
 tbls:=fun b ps q=>⟨#[],by rw [upd_ne (ne_of_none q hn),q]; simp⟩
theorem Un.write (mu:Mut (H x))(he:e=x\/H e=some (.own x))(k:∀ b u,b ≠ e->h.get? b=some u->h'.get? b=some u)(heo:∃ u,h'.get? e=some u):Un fs ex H (upd H x o) h h':=by
 have hx:∀ b,H b=none->b ≠ x:=fun b n z=>by subst z; rw [n] at mu; exact mu
 have hb:∀ b,H b=none->b ≠ e:=fun b n z=>by
  subst z
  rcases he with r | r
  ·exact hx b n r
  ·rw [n] at r; cases r
 have hm:∀ b u,H b=some u->¬ Mut (some u)->b ≠ x:=fun b u q nm z=>by subst z; rw [q] at mu; exact nm mu
 refine ⟨fun b u q n _ _=>k b u (hb b n) q,fun b u q n _ _=>⟨u.slots,k b u (hb b n) q⟩,fun b u q n _=>by rw [upd_ne (hx b n)]; exact n,fun b u q _=>?_,
  fun b xs q=>by rw [upd_ne (hm b _ q fun z=>z)]; exact q,fun b u xs q=>by rw [upd_ne (hm b _ q fun z=>z)]; exact q,fun b ps q=>⟨#[],by rw [upd_ne (hm b _ q fun z=>z),q]; simp⟩⟩
 by_cases hbe:b=e
 ·subst hbe; exact heo
 ·exact ⟨u,k b u hbe q⟩
end
noncomputable def trk (h:Heap)(H:Hp):List Addr:=(List.range h.objs.size).filter fun a=>(H a).isSome
noncomputable def hidT (h:Heap)(H:Hp):Heap:=PySem.W.hideAll h (trk h H)
theorem hidT_size (h:Heap)(H:Hp):(hidT h H).objs.size=h.objs.size:=PySem.W.hideAll_size _ _
theorem hidT_get {h:Heap}{H:Hp}{b:Addr}{o:Obj}(e:h.get? b=some o)(n:H b=none):(hidT h H).get? b=some o :=
 PySem.W.hideAll_get _ e fun hm=>by
  have q:(H b).isSome=true:=(List.mem_filter.mp hm).2
  rw [n] at q; simp at q
theorem of_hidT {h:Heap}{H:Hp}{b:Addr}{o:Obj}(e:(hidT h H).get? b=some o):h.get? b=some o/\H b=none:=by
 have e':h.get? b=some o:=PySem.W.of_hideAll (trk h H) e
 refine ⟨e',?_⟩
 cases q:H b with
 | none=>rfl
 | some x =>
  have hm:b ∈ trk h H:=List.mem_filter.mpr ⟨List.mem_range.mpr (Heap.lt_size e'),by simp [q]⟩
  have z:(hidT h H).get? b=none:=PySem.W.hideAll_none (trk h H) hm
  rw [z] at e; cases e
end L2
namespace L2
open PySem PySem.Spec PyProof.Rows
structure Mod (K:PySem.W.Frag)(mg:Str->Option Value)(base:Heap):Prop where
 kin:K.In base
 glob:base.Ns mainGlobals mg
 blt:∃ mb,base.Ns builtinsNs mb/\∀ x:Str,x ≠ "__name__"->mb x=bootBuiltins x
 nolimit:base.NoLimit
structure Cx where
 prog:Program
 w:World
 K:PySem.W.Frag
 mg:Str->Option Value
 base:Heap
 A:Around
 N:List Str
 s₀:Shared
 H₀:Hp
 env:Env
 outer:List Env
 stack:List Env
 ex:List Addr
 fn:Str->Bool
 calm:Bool
 pn:List (Addr × Obj)
 xe:Value->Shared->Prop
noncomputable def frs (l:List Env):List Addr:=l.filterMap (·.frame)
noncomputable abbrev Cx.fs (X:Cx):List Addr:=frs X.outer
noncomputable def Vis (sc:Scope)(x:Str):Prop:=sc.names.lookup x=some .local\/sc.names.lookup x=some .cell\/sc.names.lookup x=some .free
noncomputable def Loc (sc:Scope)(x:Str):Prop:=sc.names.lookup x=some .local\/sc.names.lookup x=some .cell
noncomputable def Look (env:Env)(h:Heap)(m:Str->Option Value)(x:Str)(u:Value):Prop :=
 (env.kindOf x=some .local/\m x=some u)\/((env.kindOf x=some .cell\/env.kindOf x=some .free)/\∃ c,env.cells.lookup x=some c/\h.IsCell c (some u))
structure Cx.Ok (X:Cx):Prop where
 mod:Mod X.K X.mg X.base
 kind:X.env.scope.kind=.function
 glob:X.env.globals=mainGlobals
 blt:X.env.builtins=builtinsNs
 above:X.s₀.heap.objs.size<=X.env.locals
 inj:∀ x y c,X.env.cells.lookup x=some c->X.env.cells.lookup y=some c->x=y
 has:∀ x,(X.env.kindOf x=some .cell\/X.env.kindOf x=some .free)->∃ c,X.env.cells.lookup x=some c
 cab:∀ x c,X.fn x=true->X.env.cells.lookup x=some c->X.s₀.heap.objs.size<=c
 hd:X.calm=true->X.A.handled=none
 frames:X.A.frames=some X.stack
 stk:X.stack=X.outer\/(X.stack=X.env :: X.outer/\X.env.frame=some X.env.locals)
 exf:∀ b ∈ X.ex,b ≠ X.env.locals/\∀ x c,X.env.cells.lookup x=some c->c ≠ b
 bs:∀ b o,X.base.get? b=some o->X.s₀.heap.get? b=some o/\X.H₀ b=none
 bsz:X.base.objs.size<=X.s₀.heap.objs.size
 noex:∀ b o,X.base.get? b=some o->b ∉ X.ex
 exfs:∀ b ∈ X.ex,b ∉ X.fs
 funs:X.s₀.heap.FunFrames X.base X.outer
 frf:∀ b ∈ X.fs,X.H₀ b=none
structure Inv (X:Cx)(pins:List (Addr × Obj))(σ:List (Option V))(H:Hp)(s:Shared):Prop where
 ok:X.Ok
 os:s.os=X.s₀.os
 bare:AllBare s.gens
 base:Un X.fs X.ex X.H₀ H X.s₀.heap s.heap
 loc:∃ m,s.heap.Ns X.env.locals m/\∀ (i:Nat) (x:Str) (v:V),X.N[i]?=some x->σ[i]?=some (some v)->Vis X.env.scope x->∃ u,RelV v u/\Look X.env s.heap m x u
 cell:∀ x c,X.env.cells.lookup x=some c->∃ v,s.heap.IsCell c v
 free:H X.env.locals=none
 freeC:∀ x c,X.env.cells.lookup x=some c->H c=none
 pin:∀ p ∈ X.pn++pins,s.heap.get? p.1=some p.2/\H p.1=none/\p.1 ≠ X.env.locals/\p.1 ∉ X.fs/\∀ v,p.2.data ≠ .cell v
 hok:HOk X.prog X.w H s.heap
 len:σ.length=X.N.length
section
variable {X:Cx}{pins:List (Addr × Obj)}{σ:List (Option V)}{H H':Hp}{s:Shared}{h':Heap}
theorem Cx.Ok.nofr (ok:X.Ok){b:Addr}{o:Obj}(e:X.base.get? b=some o):b ∉ X.fs:=fun hb=>by
 have:=(ok.funs.mem hb).1
 rw [e] at this; cases this
theorem Inv.bs (I:Inv X pins σ H s):∀ b o,X.base.get? b=some o->s.heap.get? b=some o/\H b=none:=fun b o e =>
 ⟨I.base.keep b o (I.ok.bs b o e).1 (I.ok.bs b o e).2 (I.ok.nofr e) (I.ok.noex b o e),I.base.free b o (I.ok.bs b o e).1 (I.ok.bs b o e).2 (I.ok.noex b o e)⟩
theorem Inv.bk (I:Inv X pins σ H s):∀ b o,X.base.get? b=some o->s.heap.get? b=some o:=fun b o e=>(I.bs b o e).1
theorem Inv.mod (I:Inv X pins σ H s):Mod X.K X.mg X.base:=I.ok.mod
theorem Inv.kIn (I:Inv X pins σ H s):X.K.In s.heap:=I.ok.mod.kin.keeps I.bk
theorem Inv.lt (I:Inv X pins σ H s):X.env.locals < s.heap.objs.size:=let ⟨_,hn,_⟩:=I.loc; hn.lt
theorem Inv.sz (I:Inv X pins σ H s):X.s₀.heap.objs.size<=s.heap.objs.size:=Nat.le_trans I.ok.above (Nat.le_of_lt I.lt)
theorem Inv.nofs (I:Inv X pins σ H s){a:Addr}(h:s.heap.objs.size<=a):a ∉ X.fs:=fun hb=>by
 obtain ⟨_,o,ho,_⟩:=I.ok.funs.mem hb
 exact absurd (Nat.lt_of_lt_of_le (Heap.lt_size ho) (Nat.le_trans I.sz h)) (Nat.lt_irrefl _)
theorem Inv.cne (I:Inv X pins σ H s):∀ x c,X.env.cells.lookup x=some c->c ≠ X.env.locals:=fun x c e z=>by
 obtain ⟨v,o,ho,hd⟩:=I.cell x c e
 obtain ⟨m,⟨o',es,ep,ho',hd',_⟩,_⟩:=I.loc
 rw [z,ho'] at ho; cases ho; rw [hd'] at hd; cases hd
theorem Inv.funs (I:Inv X pins σ H s):s.heap.FunFrames X.base X.outer:=by
 have all:∀ (l:List Env),(∀ b ∈ frs l,b ∈ X.fs)->X.s₀.heap.FunFrames X.base l->s.heap.FunFrames X.base l:=by
  intro l
  induction l with
  | nil=>intro _ _; trivial
  | cons env r ih =>
   intro hs hl
   obtain ⟨hk,⟨L,o,hf,hn,ho,hd⟩,hr⟩:=hl
   have hL:L ∈ X.fs:=hs L (by unfold frs; rw [List.filterMap_cons,hf]; exact List.mem_cons_self)
   obtain ⟨sl,e⟩:=I.base.slot L o ho (I.ok.frf L hL) hL fun z=>I.ok.exfs L z hL
   exact ⟨hk,⟨L,_,hf,hn,e,hd⟩,ih (fun b hb=>hs b (by unfold frs; rw [List.filterMap_cons,hf]; exact List.mem_cons_of_mem _ hb)) hr⟩
 exact all X.outer (fun _ hb=>hb) I.ok.funs
theorem Inv.stack (I:Inv X pins σ H s):s.heap.FunFrames X.base X.stack:=by
 rcases I.ok.stk with e | ⟨e,hf⟩
 ·rw [e]; exact I.funs
 ·rw [e]
  obtain ⟨m,hn,_⟩:=I.loc
  refine .cons (by rw [I.ok.kind]; decide) hf hn ?_ I.funs
  exact Heap.get?_none_of_le (Nat.le_trans I.ok.bsz I.ok.above)
theorem Inv.stkSub (I:Inv X pins σ H s):∀ b ∈ frs X.stack,b ∈ X.env.locals :: X.fs:=fun b hb=>by
 rcases I.ok.stk with e | ⟨e,hf⟩
 ·rw [e] at hb; exact List.mem_cons_of_mem _ hb
 ·rw [e] at hb
  unfold frs at hb
  rw [List.filterMap_cons,hf] at hb
  exact hb
theorem Inv.stkFree (I:Inv X pins σ H s):∀ b ∈ frs X.stack,H b=none:=fun b hb=>by
 rcases List.mem_cons.mp (I.stkSub b hb) with e | hb
 ·rw [e]; exact I.free
 ·obtain ⟨_,o,ho,_⟩:=I.ok.funs.mem hb
  exact I.base.free b o ho (I.ok.frf b hb) fun z=>I.ok.exfs b z hb
theorem Inv.step {g':Array GenState}{t':Nat}{d':Drawn}{ch:List Addr}(I:Inv X pins σ H s)
  (hch:∀ b ∈ ch,(b ∈ X.ex\/X.s₀.heap.objs.size<=b)/\b ≠ X.env.locals/\(∀ x c,X.env.cells.lookup x=some c->c ≠ b)/\∀ p ∈ X.pn++pins,p.1 ≠ b)
  (keep:∀ b o,b ≠ X.env.locals->b ∉ X.fs->b ∉ ch->s.heap.get? b=some o->H b=none->h'.get? b=some o)
  (slot:∀ b o,b ≠ X.env.locals->b ∈ X.fs->b ∉ ch->s.heap.get? b=some o->H b=none->∃ sl,h'.get? b=some { o with slots:=sl }) (free:∀ b o,b ∉ ch->s.heap.get? b=some o->H b=none->H' b=none)
  (there:∀ b o,b ∉ ch->s.heap.get? b=some o->∃ o',h'.get? b=some o')
  (tups:∀ b xs,H b=some (.tup xs)->H' b=some (.tup xs)) (frzs:∀ b o u,H b=some (.frz o u)->H' b=some (.frz o u)) (tbls:∀ b ps,H b=some (.tbl ps)->∃ more,H' b=some (.tbl (ps++more)))
  (ns:∀ m,s.heap.Ns X.env.locals m->h'.Ns X.env.locals m) (hok:HOk X.prog X.w H' h') (hg:AllBare g') :
  Inv X pins σ H' { s with heap:=h',gens:=g',drawn:=d',toks:=t' }:=by
 have neL:∀ b o,X.s₀.heap.get? b=some o->b ≠ X.env.locals:=fun b o e=>Nat.ne_of_lt (Nat.lt_of_lt_of_le (Heap.lt_size e) I.ok.above)
 have neC:∀ b o,X.s₀.heap.get? b=some o->b ∉ X.ex->b ∉ ch:=fun b o e hx hb=>by
  rcases (hch b hb).1 with z | z
  ·exact hx z
  ·exact absurd (Nat.lt_of_lt_of_le (Heap.lt_size e) z) (Nat.lt_irrefl _)
 have cellK:∀ x c,X.env.cells.lookup x=some c->∀ v,s.heap.IsCell c v->h'.IsCell c v:=fun x c e v ⟨o,ho,hd⟩=>by
  have nch:c ∉ ch:=fun z=>(hch c z).2.2.1 x c e rfl
  by_cases hc:c ∈ X.fs
  ·obtain ⟨sl,q⟩:=slot c o (I.cne x c e) hc nch ho (I.freeC x c e)
   exact ⟨_,q,hd⟩
  ·exact ⟨o,keep c o (I.cne x c e) hc nch ho (I.freeC x c e),hd⟩
 refine ⟨I.ok,I.os,hg,⟨fun b o e n hb hx=>?_,fun b o e n hb hx=>?_,fun b o e n hx=>?_,fun b o e hx=>?_,fun b xs e=>tups b xs (I.base.tups b xs e),fun b o xs e=>frzs b o xs (I.base.frzs b o xs e),fun b ps e=>?_⟩,?_,fun x c e=>?_,?_,fun x c e=>?_,fun p hp=>?_,hok,I.len⟩
 ·exact keep b o (neL b o e) hb (neC b o e hx) (I.base.keep b o e n hb hx) (I.base.free b o e n hx)
 ·obtain ⟨sl,e1⟩:=I.base.slot b o e n hb hx
  obtain ⟨sl',e2⟩:=slot b _ (neL b o e) hb (neC b o e hx) e1 (I.base.free b o e n hx)
  exact ⟨sl',e2⟩
 ·obtain ⟨o',e1⟩:=I.base.there b o e hx
  exact free b o' (neC b o e hx) e1 (I.base.free b o e n hx)
 ·obtain ⟨o',e1⟩:=I.base.there b o e hx
  exact there b o' (neC b o e hx) e1
 ·obtain ⟨m1,e1⟩:=I.base.tbls b ps e
  obtain ⟨m2,e2⟩:=tbls b _ e1
  exact ⟨m1++m2,by rw [e2,Array.append_assoc]⟩
 ·obtain ⟨m,hn,hl⟩:=I.loc
  refine ⟨m,ns m hn,fun i x v e1 e2 e3=>?_⟩
  obtain ⟨u,r,l⟩:=hl i x v e1 e2 e3
  refine ⟨u,r,?_⟩
  rcases l with l | ⟨k,c,e,z⟩
  ·exact .inl l
  ·exact .inr ⟨k,c,e,cellK x c e _ z⟩
 ·obtain ⟨v,z⟩:=I.cell x c e
  exact ⟨v,cellK x c e v z⟩
 ·obtain ⟨m,⟨o,_,_,ho,_⟩,_⟩:=I.loc
  exact free _ o (fun z=>(hch _ z).2.1 rfl) ho I.free
 ·obtain ⟨v,o,ho,hd⟩:=I.cell x c e
  exact free c o (fun z=>(hch c z).2.2.1 x c e rfl) ho (I.freeC x c e)
 ·obtain ⟨e,n,ne,nf,d⟩:=I.pin p hp
  have nch:p.1 ∉ ch:=fun z=>(hch p.1 z).2.2.2 p hp rfl
  exact ⟨keep p.1 p.2 ne nf nch e n,free p.1 p.2 nch e n,ne,nf,d⟩
theorem Inv.un {t':Nat}(I:Inv X pins σ H s)(u:Un X.fs [] H H' s.heap h')(hok:HOk X.prog X.w H' h'):Inv X pins σ H' { s with heap:=h',toks:=t' }:=by
 obtain ⟨m,⟨o,es,ep,ho,r⟩,_⟩:=id I.loc
 obtain ⟨sl,hL⟩:=u.any ho I.free (by simp)
 exact I.step (g':=s.gens) (d':=s.drawn) (ch:=[]) (fun _ z=>nomatch z) (fun b o _ hb _ e n=>u.keep b o e n hb (by simp)) (fun b o _ hb _ e n=>u.slot b o e n hb (by simp)) (fun b o _ e n=>u.free b o e n (by simp)) (fun b o _ e=>u.there b o e (by simp)) u.tups u.frzs u.tbls (fun m' hm=>by
  obtain ⟨o',es',ep',ho',r'⟩:=hm
  rw [ho] at ho'; cases ho'
  exact ⟨_,es',ep',hL,r'⟩) hok I.bare
theorem Inv.call {g':Array GenState}{t':Nat}{d':Drawn}{ch:List Addr}(I:Inv X pins σ H s)(u:Un (frs X.stack) ch H H' s.heap h')(hok:HOk X.prog X.w H' h')(hg:AllBare g')
  (hch:∀ b ∈ ch,(b ∈ X.ex\/X.s₀.heap.objs.size<=b)/\b ≠ X.env.locals/\(∀ x c,X.env.cells.lookup x=some c->c ≠ b)/\∀ p ∈ X.pn++pins,p.1 ≠ b) :
  Inv X pins σ H' { s with heap:=h',gens:=g',drawn:=d',toks:=t' }:=by
 obtain ⟨m,⟨o,es,ep,ho,r⟩,_⟩:=id I.loc
 obtain ⟨sl,hL⟩:=u.any ho I.free fun z=>(hch _ z).2.1 rfl
 exact I.step (ch:=ch) hch (fun b o hL hb hc e n=>u.keep b o e n (fun z=>(List.mem_cons.mp (I.stkSub b z)).elim hL hb) hc) (fun b o _ _ hc e n=>u.any e n hc) (fun b o hc e n=>u.free b o e n hc) (fun b o hc e=>u.there b o e hc) u.tups u.frzs u.tbls (fun m' hm=>by
  obtain ⟨o',es',ep',ho',r'⟩:=hm
  rw [ho] at ho'; cases ho'
  exact ⟨_,es',ep',hL,r'⟩) hok hg
theorem Inv.turned {t':Nat}{it:Addr}(I:Inv X pins σ H s)(k:∀ b o,b ≠ it->s.heap.get? b=some o->h'.get? b=some o)(hn:H it=none)(hL:it ≠ X.env.locals)
  (h1:it ∈ X.ex\/X.s₀.heap.objs.size<=it) (h2:∀ x c,X.env.cells.lookup x=some c->c ≠ it) (h3:∀ p ∈ X.pn++pins,p.1 ≠ it):Inv X pins σ H { s with heap:=h',toks:=t' }:=by
 have nit:∀ b u,H b=some u->b ≠ it:=fun b u e z=>by rw [z,hn] at e; cases e
 refine I.step (g':=s.gens) (d':=s.drawn) (ch:=[it]) (fun b hb=>?_) (fun b o _ _ hc e _=>k b o (fun z=>hc (by simp [z])) e) (fun b o _ _ hc e _=>⟨o.slots,k b o (fun z=>hc (by simp [z])) e⟩) (fun _ _ _ _ n=>n)
  (fun b o hc e=>⟨o,k b o (fun z=>hc (by simp [z])) e⟩) (fun _ _ e=>e) (fun _ _ _ e=>e) (fun b ps e=>⟨#[],by rw [e]; simp⟩) (fun m hm=>?_) (fun b u e=>?_) I.bare
 ·have e:b=it:=by simpa using hb
  subst e
  exact ⟨h1,hL,h2,h3⟩
 ·obtain ⟨o,es,ep,ho,r⟩:=hm
  exact ⟨o,es,ep,k _ o (Ne.symm hL) ho,r⟩
 ·refine (I.hok b u e).stay (fun c v hc q=>k c v ?_ q) (fun _ q=>q) fun _ _ q=>q
  rcases hc with z | z
  ·rw [z]; exact nit b u e
  ·exact nit c _ z
theorem Inv.tok (I:Inv X pins σ H s)(t:Nat):Inv X pins σ H { s with toks:=t }:=I.un (h':=s.heap) (t':=t) Un.refl I.hok
theorem Inv.kept {t':Nat}(I:Inv X pins σ H s)(k:∀ b u,s.heap.get? b=some u->h'.get? b=some u):Inv X pins σ H { s with heap:=h',toks:=t' }:=I.un (Un.kept k) (I.hok.kept k)
theorem Inv.laid {a:Addr}{o:HO}{t':Nat}(I:Inv X pins σ H s)(k:∀ b u,s.heap.get? b=some u->h'.get? b=some u)(hp:s.heap.objs.size<=a)(new:ObjOk X.prog X.w (upd H a o) h' a o) :
  Inv X pins σ (upd H a o) { s with heap:=h',toks:=t' }:=I.un (Un.laid k hp (I.hok.fresh hp)) (I.hok.laid k hp new)
theorem Inv.write {x e:Addr}{o:HO}{t':Nat}(I:Inv X pins σ H s)(mu:Mut (H x))(he:e=x\/H e=some (.own x))(k:∀ b u,b ≠ e->s.heap.get? b=some u->h'.get? b=some u)(heo:∃ u,h'.get? e=some u)
  (new:ObjOk X.prog X.w (upd H x o) h' x o):Inv X pins σ (upd H x o) { s with heap:=h',toks:=t' }:=I.un (Un.write mu he k heo) (I.hok.write mu he k heo new)
theorem Inv.pins_of {pins':List (Addr × Obj)}(I:Inv X pins σ H s)(h:∀ p ∈ pins',s.heap.get? p.1=some p.2/\H p.1=none/\p.1 ≠ X.env.locals/\p.1 ∉ X.fs/\∀ v,p.2.data ≠ .cell v):Inv X pins' σ H s :=
 ⟨I.ok,I.os,I.bare,I.base,I.loc,I.cell,I.free,I.freeC,fun p hp=>(List.mem_append.mp hp).elim (fun z=>I.pin p (List.mem_append_left _ z)) (h p),I.hok,I.len⟩
theorem nodup_ix {N:List Str}(hN:N.Nodup){i j:Nat}{x:Str}(a:N[i]?=some x)(b:N[j]?=some x):i=j:=by
 obtain ⟨h1,e1⟩:=List.getElem?_eq_some_iff.mp a
 obtain ⟨h2,e2⟩:=List.getElem?_eq_some_iff.mp b
 exact (List.getElem_inj hN).mp (e1.trans e2.symm)
theorem store_ok2 {M:Model}{A:Around}{E:Value->Shared->Prop}{i:Nat}{x:Str}{v:V}{u:Value}{Q:Unit->Shared->Prop}(I:Inv X pins σ H s)(hN:X.N.Nodup)(hi:X.N[i]?=some x)(hx:Loc X.env.scope x)(r:RelV v u)
  (h:∀ s',Inv X pins (σ.set i (some v)) H s'->(∃ a,Heap.SameBut a s.heap s'.heap/\(a=X.env.locals\/X.env.cells.lookup x=some a))->Q () s') (hf:X.fn x=true\/X.env.scope.names.lookup x=some .local:=by first | exact .inl rfl | exact .inr rfl | assumption):wpAny M A (storeName X.env x u) Q E s:=by
 obtain ⟨m,hn,hl⟩:=id I.loc
 have hcls:(X.env.scope.kind == .class || (X.env.scope.kind == .module && X.env.locals != X.env.globals))=false:=by rw [I.ok.kind]; rfl
 have hiσ:i < σ.length:=by rw [I.len]; exact (List.getElem?_eq_some_iff.mp hi).1
 have cne:=I.cne
 have tracked:∀ {a:Addr} {h':Heap},(∃ o,s.heap.get? a=some o/\H a=none)->Heap.SameBut a s.heap h'->HOk X.prog X.w H h':=fun {a h'} ha hs b ob e=>by
  obtain ⟨_,_,hfree⟩:=ha
  refine (I.hok b ob e).stay (fun c w' hc q=>(hs.2 c ?_).trans q) (fun _ q=>q) fun _ _ q=>q
  rintro rfl
  rcases hc with rfl | hc
  ·rw [hfree] at e; cases e
  ·rw [hfree] at hc; cases hc
 rcases hx with hk | hk
 ·refine wpAny_storeName_local hk hn (fun h' hn' hs=>?_) hcls
  obtain ⟨oL,_,_,hoL,_⟩:=id hn
  refine h _ ⟨I.ok,I.os,I.bare,⟨fun b o e n hb hx=>?_,fun b o e n hb hx=>?_,I.base.free,fun b o e hx=>?_,I.base.tups,I.base.frzs,I.base.tbls⟩,⟨_,hn',fun j y v' e1 e2 e3=>?_⟩,fun y c e=>?_,I.free,I.freeC,fun p hp=>?_,tracked ⟨oL,hoL,I.free⟩ hs,by simpa using I.len⟩ ⟨_,hs,.inl rfl⟩
  ·exact (hs.2 b (Nat.ne_of_lt (Nat.lt_of_lt_of_le (Heap.lt_size e) I.ok.above))).trans (I.base.keep b o e n hb hx)
  ·obtain ⟨sl,e1⟩:=I.base.slot b o e n hb hx
   exact ⟨sl,(hs.2 b (Nat.ne_of_lt (Nat.lt_of_lt_of_le (Heap.lt_size e) I.ok.above))).trans e1⟩
  ·obtain ⟨o',e1⟩:=I.base.there b o e hx
   exact ⟨o',(hs.2 b (Nat.ne_of_lt (Nat.lt_of_lt_of_le (Heap.lt_size e) I.ok.above))).trans e1⟩
  ·by_cases hj:j=i
   ·subst hj
    rw [hi] at e1; cases e1
    rw [List.getElem?_set_self hiσ] at e2
    cases e2
    exact ⟨u,r,.inl ⟨hk,by simp⟩⟩
   ·rw [List.getElem?_set_ne (Ne.symm hj)] at e2
    obtain ⟨u',r',q⟩:=hl j y v' e1 e2 e3
    refine ⟨u',r',?_⟩
    rcases q with ⟨k,e⟩ | ⟨k,c,e,z⟩
    ·refine .inl ⟨k,?_⟩
     have:y ≠ x:=fun e=>hj (nodup_ix hN e1 (e ▸ hi))
     simp [this,e]
    ·exact .inr ⟨k,c,e,z.sameBut hs (cne y c e)⟩
  ·obtain ⟨w',z⟩:=I.cell y c e
   exact ⟨w',z.sameBut hs (cne y c e)⟩
  ·obtain ⟨e,n,ne,nf,d⟩:=I.pin p hp
   exact ⟨(hs.2 p.1 ne).trans e,n,ne,nf,d⟩
 ·have hfn:X.fn x=true:=by
   rcases hf with z | z
   ·exact z
   ·rw [z] at hk; cases hk
  obtain ⟨c,hc⟩:=I.ok.has x (.inl hk)
  obtain ⟨w',z⟩:=I.cell x c hc
  refine wpAny_storeName_cell I.ok.kind hk hc z (fun h' hc' hs=>?_)
  obtain ⟨oc,hoc,hocd⟩:=id z
  refine h { s with heap:=h' } ⟨I.ok,I.os,I.bare,⟨fun b o e n hb hx=>?_,fun b o e n hb hx=>?_,I.base.free,fun b o e hx=>?_,I.base.tups,I.base.frzs,I.base.tbls⟩,⟨m,hn.sameBut hs (Ne.symm (cne x c hc)),fun j y v' e1 e2 e3=>?_⟩,fun y c' e=>?_,I.free,I.freeC,fun p hp=>?_,tracked ⟨oc,hoc,I.freeC x c hc⟩ hs,by simpa using I.len⟩ ⟨c,hs,.inr hc⟩
  ·exact (hs.2 b (Nat.ne_of_lt (Nat.lt_of_lt_of_le (Heap.lt_size e) (I.ok.cab x c hfn hc)))).trans (I.base.keep b o e n hb hx)
  ·obtain ⟨sl,e1⟩:=I.base.slot b o e n hb hx
   exact ⟨sl,(hs.2 b (Nat.ne_of_lt (Nat.lt_of_lt_of_le (Heap.lt_size e) (I.ok.cab x c hfn hc)))).trans e1⟩
  ·obtain ⟨o',e1⟩:=I.base.there b o e hx
   exact ⟨o',(hs.2 b (Nat.ne_of_lt (Nat.lt_of_lt_of_le (Heap.lt_size e) (I.ok.cab x c hfn hc)))).trans e1⟩
  ·by_cases hj:j=i
   ·subst hj
    rw [hi] at e1; cases e1
    rw [List.getElem?_set_self hiσ] at e2
    cases e2
    exact ⟨u,r,.inr ⟨.inl hk,c,hc,hc'⟩⟩
   ·rw [List.getElem?_set_ne (Ne.symm hj)] at e2
    obtain ⟨u',r',q⟩:=hl j y v' e1 e2 e3
    refine ⟨u',r',?_⟩
    rcases q with q | ⟨k,c',e,z'⟩
    ·exact .inl q
    ·refine .inr ⟨k,c',e,z'.sameBut hs ?_⟩
     rintro rfl
     exact hj (nodup_ix hN e1 (I.ok.inj _ _ _ e hc ▸ hi))
  ·by_cases hcc:c'=c
   ·subst hcc; exact ⟨_,hc'⟩
   ·obtain ⟨w2,z2⟩:=I.cell y c' e
    exact ⟨w2,z2.sameBut hs hcc⟩
  ·obtain ⟨e,n,ne,nf,d⟩:=I.pin p hp
   refine ⟨(hs.2 p.1 ?_).trans e,n,ne,nf,d⟩
   intro q
   rw [q,hoc] at e
   have q':oc=p.2:=Option.some.inj e
   exact d w' (by rw [<- q']; exact hocd)
theorem store_ok {M:Model}{A:Around}{E:Value->Shared->Prop}{i:Nat}{x:Str}{v:V}{u:Value}{Q:Unit->Shared->Prop}(I:Inv X pins σ H s)(hN:X.N.Nodup)(hi:X.N[i]?=some x)(hx:Loc X.env.scope x)(r:RelV v u)
  (h:∀ s',Inv X pins (σ.set i (some v)) H s'->Q () s') (hf:X.fn x=true\/X.env.scope.names.lookup x=some .local:=by first | exact .inl rfl | exact .inr rfl | assumption):wpAny M A (storeName X.env x u) Q E s :=
 store_ok2 I hN hi hx r (fun s' I' _=>h s' I') hf
theorem Inv.call' {s':Shared}{ch:List Addr}(I:Inv X pins σ H s)(ho:s'.os=s.os)(u:Un (frs X.stack) ch H H' s.heap s'.heap)(hok:HOk X.prog X.w H' s'.heap)(hg:AllBare s'.gens)
  (hch:∀ b ∈ ch,(b ∈ X.ex\/X.s₀.heap.objs.size<=b)/\b ≠ X.env.locals/\(∀ x c,X.env.cells.lookup x=some c->c ≠ b)/\∀ p ∈ X.pn++pins,p.1 ≠ b):Inv X pins σ H' s':=by
 obtain ⟨h',g',d',t',o'⟩:=s'
 have e:o'=s.os:=ho
 subst e
 exact I.call (g':=g') (t':=t') (d':=d') u hok hg hch
end
noncomputable abbrev XK:=Value->Option Addr->Hp->Prop
noncomputable abbrev St:=List (Option V)
noncomputable abbrev VK:=V->Hp->Prop
noncomputable abbrev TE:=St->Hp->VK->Prop
noncomputable abbrev TT:=St->Hp->(Bool->Hp->Prop)->Prop
noncomputable abbrev TA:=St->Hp->(List V->Hp->Prop)->Prop
structure Ends where
 nx:St->Hp->Prop
 rt:VK
 bk:St->Hp->Prop:=fun _ _=>False
 ct:St->Hp->Prop:=fun _ _=>False
noncomputable abbrev TS:=Ends->St->Hp->Prop
noncomputable def EP (X:Cx)(pins:List (Addr × Obj))(σ:St)(Q:VK)(u:Value)(s':Shared):Prop:=∃ v H',Inv X pins σ H' s'/\RelV v u/\Q v H'
noncomputable def TP (X:Cx)(pins:List (Addr × Obj))(σ:St)(Q:Bool->Hp->Prop)(b:Bool)(s':Shared):Prop:=∃ H',Inv X pins σ H' s'/\Q b H'
noncomputable def AP (X:Cx)(pins:List (Addr × Obj))(σ:St)(Q:List V->Hp->Prop)(us:List Value)(s':Shared):Prop:=∃ vs H',Inv X pins σ H' s'/\Vals vs us/\Q vs H'
noncomputable def SP (X:Cx)(pins:List (Addr × Obj))(D:Ends)(f:Flow)(s':Shared):Prop :=
 match f with
 | .next=>∃ σ' H',Inv X pins σ' H' s'/\D.nx σ' H'
 | .brk=>∃ σ' H',Inv X pins σ' H' s'/\D.bk σ' H'
 | .cont=>∃ σ' H',Inv X pins σ' H' s'/\D.ct σ' H'
 | .ret u=>∃ v σ' H',Inv X pins σ' H' s'/\RelV v u/\D.rt v H'
noncomputable def PE (X:Cx)(e:Expr)(t:TE):Prop :=
 ∀ (pins:List (Addr × Obj)) (s:Shared) (σ:St) (H:Hp) (Q:VK),Inv X pins σ H s->t σ H Q->wpAny (model X.prog X.w) X.A (eval e X.env) (EP X pins σ Q) X.xe s
noncomputable def PT (X:Cx)(e:Expr)(t:TT):Prop :=
 ∀ (pins:List (Addr × Obj)) (s:Shared) (σ:St) (H:Hp) (Q:Bool->Hp->Prop),Inv X pins σ H s->t σ H Q->wpAny (model X.prog X.w) X.A (isTrue e X.env (eval e X.env)) (TP X pins σ Q) X.xe s
noncomputable def PW (X:Cx)(e:Expr)(t:TT):Prop :=
 ∀ (whole:Sem Value) (pins:List (Addr × Obj)) (s:Shared) (σ:St) (H:Hp) (Q:Bool->Hp->Prop),Inv X pins σ H s->t σ H Q->wpAny (model X.prog X.w) X.A (isTrue e X.env whole) (TP X pins σ Q) X.xe s
theorem PW.pt {X:Cx}{e:Expr}{t:TT}(h:PW X e t):PT X e t:=h _
noncomputable def PA (X:Cx)(es:List Expr)(t:TA):Prop :=
 ∀ (pos:Pos) (pins:List (Addr × Obj)) (s:Shared) (σ:St) (H:Hp) (Q:List V->Hp->Prop),Inv X pins σ H s->t σ H Q->wpAny (model X.prog X.w) X.A (spliced (backTo pos (starEach es X.env))) (AP X pins σ Q) X.xe s
noncomputable def PS (X:Cx)(st:Stmt)(t:TS):Prop :=
 ∀ (pins:List (Addr × Obj)) (s:Shared) (σ:St) (H:Hp) (D:Ends),Inv X pins σ H s->t D σ H->wpAny (model X.prog X.w) X.A (exec st X.env) (SP X pins D) X.xe s
noncomputable def PSs (X:Cx)(st:List Stmt)(t:TS):Prop :=
 ∀ (pins:List (Addr × Obj)) (s:Shared) (σ:St) (H:Hp) (D:Ends),Inv X pins σ H s->t D σ H->wpAny (model X.prog X.w) X.A (execs st X.env) (SP X pins D) X.xe s
theorem thn {α:Type}{t:Sem α}{Q Q':α->Shared->Prop}{M:Model}{A:Around}{E:Value->Shared->Prop}{s:Shared}(h:wpAny M A t Q E s)(hQ:∀ a s,Q a s->Q' a s):wpAny M A t Q' E s:=wpAny_mono h hQ fun _ _ x=>x
end L2
namespace L2
open PySem PySem.Spec PyProof.Rows
section
variable {X:Cx}
noncomputable def tVar (i:Nat):TE:=fun σ H Q=>∃ v,σ[i]?=some (some v)/\Q v H
noncomputable def tC (v:V):TE:=fun _ H Q=>Q v H
theorem pe_var {i:Nat}{x:Str}{pos:Pos}(hN:X.N[i]?=some x)(hv:Vis X.env.scope x)(hd:(x == ("__debug__":Str))=false:=by decide)(hcd:(x == ("__classdict__":Str))=false:=by decide):PE X (.Name x pos) (tVar i):=by
 intro pins s σ H Q I h
 obtain ⟨v,e,h⟩:=h
 obtain ⟨m,hn,hl⟩:=I.loc
 obtain ⟨u,r,l⟩:=hl i x v hN e hv
 have fin:EP X pins σ Q u s:=⟨v,H,I,r,h⟩
 rcases l with ⟨hk,hm⟩ | ⟨hk,c,hc,hcell⟩
 ·exact wpAny_Name (wpAny_loadName_local I.ok.kind hk hn hm fin) hd
 ·rcases hk with hk | hk
  ·exact wpAny_Name (wpAny_loadName_cell I.ok.kind hk hc hcell fin) hd
  ·exact wpAny_Name (wpAny_loadName_free I.ok.kind hk hc hcell fin hcd) hd
theorem pe_int {i j pos}:PE X (.Constant (.int i) j pos) (tC (.int i)):=fun _ _ _ H _ I h=>wpAny_Constant_int ⟨.int i,H,I.tok _,⟨_,rfl⟩,h⟩
theorem pe_bl {b j pos}:PE X (.Constant (.bool b) j pos) (tC (.bl b)):=fun _ _ _ H _ I h=>Constant_bool ⟨.bl b,H,I,rfl,h⟩
theorem pe_non {j pos}:PE X (.Constant .none j pos) (tC .non):=fun _ _ _ H _ I h=>Constant_none ⟨.non,H,I,rfl,h⟩
theorem pe_str {x j pos}:PE X (.Constant (.str x) j pos) (tC (.str x)):=fun _ _ _ H _ I h=>Calls.Constant_str ⟨.str x,H,I.tok _,⟨_,rfl⟩,h⟩
noncomputable def Gl (X:Cx)(x:Str):Prop:=X.env.kindOf x=some .globalImplicit
theorem ld_glob {E:Value->Shared->Prop}{pins:List (Addr × Obj)}{s:Shared}{σ:St}{H:Hp}{x:Str}{u:Value}{pos:Pos}{Q:Value->Shared->Prop}(I:Inv X pins σ H s)(hg:Gl X x)(hm:X.mg x=some u)(h:Q u s)
  (hd:(x == ("__debug__":Str))=false:=by decide):wpAny (model X.prog X.w) X.A (eval (.Name x pos) X.env) Q E s :=
 Calls.Name_function_global I.ok.kind hg (Calls.loadGlobal_global (by rw [I.ok.glob]; exact I.mod.glob.keeps I.bk) hm h) hd
theorem ld_blt {E:Value->Shared->Prop}{pins:List (Addr × Obj)}{s:Shared}{σ:St}{H:Hp}{x:Str}{u:Value}{pos:Pos}{Q:Value->Shared->Prop}(I:Inv X pins σ H s)(hg:Gl X x)(hm:X.mg x=none)(hv:bootBuiltins x=some u)(h:Q u s)
  (hn:x ≠ "__name__":=by decide) (hd:(x == ("__debug__":Str))=false:=by decide):wpAny (model X.prog X.w) X.A (eval (.Name x pos) X.env) Q E s:=by
 obtain ⟨mb,h1,h2⟩:=I.mod.blt
 exact Calls.Name_function_global I.ok.kind hg (Calls.loadGlobal_builtin (by rw [I.ok.glob]; exact I.mod.glob.keeps I.bk) hm (by rw [I.ok.blt]; exact h1.keeps I.bk) ((h2 x hn).trans hv) h) hd
theorem pe_glob {x:Str}{v:V}{u:Value}{pos:Pos}(hg:Gl X x)(hm:X.mg x=some u)(r:RelV v u)(hd:(x == ("__debug__":Str))=false:=by decide):PE X (.Name x pos) (tC v) :=
 fun _ _ _ H _ I h=>ld_glob I hg hm ⟨v,H,I,r,h⟩ hd
theorem pe_bltn {x:Str}{v:V}{u:Value}{pos:Pos}(hg:Gl X x)(hm:X.mg x=none)(hv:bootBuiltins x=some u)(r:RelV v u)(hn:x ≠ "__name__":=by decide)(hd:(x == ("__debug__":Str))=false:=by decide):PE X (.Name x pos) (tC v) :=
 fun _ _ _ H _ I h=>ld_blt I hg hm hv ⟨v,H,I,r,h⟩ hn hd
variable {a b:Expr}{ta tb:TE}{pos:Pos}
variable {tA tB':TT}{rest:List Expr}
noncomputable def tAnd (t u:TT):TT:=fun σ H Q=>t σ H fun c H1=>if c=true then u σ H1 Q else Q false H1
noncomputable def tOr (t u:TT):TT:=fun σ H Q=>t σ H fun c H1=>if c=true then Q true H1 else u σ H1 Q
noncomputable def tNot (t:TT):TT:=fun σ H Q=>t σ H fun c H1=>Q (!c) H1
theorem pw_and1 (ha:PT X a tA):PW X (.BoolOp .And [a] pos) tA:=by
 intro wh pins s σ H Q I h
 refine isTrue_and (thn (ha pins s σ H Q I h) fun c s1 e=>?_)
 cases c with
 | true=>exact isTrue_and_nil e
 | false=>exact e
theorem pw_or1 (ha:PT X a tA):PW X (.BoolOp .Or [a] pos) tA:=by
 intro wh pins s σ H Q I h
 refine isTrue_or (thn (ha pins s σ H Q I h) fun c s1 e=>?_)
 cases c with
 | false=>exact isTrue_or_nil e
 | true=>exact e
theorem pw_and (ha:PT X a tA)(hb:PW X (.BoolOp .And (b :: rest) pos) tB'):PW X (.BoolOp .And (a :: b :: rest) pos) (tAnd tA tB'):=by
 intro wh pins s σ H Q I h
 refine isTrue_and (thn (ha pins s σ H _ I h) fun c s1 ⟨H1,I1,q1⟩=>?_)
 cases c with
 | true=>exact hb wh pins s1 σ H1 Q I1 q1
 | false=>exact ⟨H1,I1,q1⟩
theorem pw_or (ha:PT X a tA)(hb:PW X (.BoolOp .Or (b :: rest) pos) tB'):PW X (.BoolOp .Or (a :: b :: rest) pos) (tOr tA tB'):=by
 intro wh pins s σ H Q I h
 refine isTrue_or (thn (ha pins s σ H _ I h) fun c s1 ⟨H1,I1,q1⟩=>?_)
 cases c with
 | true=>exact ⟨H1,I1,q1⟩
 | false=>exact hb wh pins s1 σ H1 Q I1 q1
theorem pt_not (ha:PT X a tA):PT X (.UnaryOp .Not a pos) (tNot tA):=by
 intro pins s σ H Q I h
 exact isTrue_not (ha pins s σ H (fun c H1=>Q (!c) H1) I h)
end
end L2
namespace L2
open PySem PySem.Spec PyProof.Rows
noncomputable def SqL (K:PySem.W.Frag)(H:Hp)(a:Addr)(xs:List V):Prop :=
 Rd H a (.lst xs) \/
  ∃ (o:Obj) (its:Array Value) (n:Nat),K.lookup a=some o/\o.cls=.type "list"/\o.dict=none/\o.data=.seq its n/\its.size<=sizeLine/\Vals xs its.toList
noncomputable def SqT (K:PySem.W.Frag)(H:Hp)(a:Addr)(xs:List V):Prop :=
 Rd H a (.tup xs) \/
  ∃ (o:Obj) (its:Array Value) (n:Nat),K.lookup a=some o/\o.cls=.type "tuple"/\o.data=.seq its n/\its.size<=sizeLine/\Vals xs its.toList
noncomputable def absV:Value->Option V
 | .none=>some .non
 | .bool b=>some (.bl b)
 | .int i _=>some (.int i)
 | .str x _=>some (.str x)
 | .bytes b _=>some (.byt b)
 | .float b _=>some (.flt b)
 | .ref a=>some (.ref a)
 | .type n=>some (.ty n)
 | _=>none
theorem RelV.abs {x:V}{u:Value}(r:RelV x u):absV u=some x:=by
 cases x with
 | non=>cases r; rfl
 | bl _=>cases r; rfl
 | int _=>obtain ⟨t,rfl⟩:=r; rfl
 | str _=>obtain ⟨t,rfl⟩:=r; rfl
 | byt _=>obtain ⟨t,rfl⟩:=r; rfl
 | flt _=>obtain ⟨t,rfl⟩:=r; rfl
 | ref _=>cases r; rfl
 | ty _=>cases r; rfl
theorem RelV.inj {x y:V}{u:Value}(r:RelV x u)(q:RelV y u):x=y:=Option.some.inj (r.abs.symm.trans q.abs)
theorem Vals.inj:∀ {xs ys:List V} {us:List Value},Vals xs us->Vals ys us->xs=ys
 | _,_,_,.nil,.nil=>rfl
 | _,_,_,.cons r t,.cons r' t'=>by rw [r.inj r',Vals.inj t t']
section
variable {X:Cx}{pins:List (Addr × Obj)}{σ:St}{H:Hp}{s:Shared}{a:Addr}{xs ys:List V}
theorem SqL.of {K:PySem.W.Frag}(h:H a=some (.lst xs)):SqL K H a xs:=.inl (.inl h)
theorem SqT.of {K:PySem.W.Frag}(h:H a=some (.tup xs)):SqT K H a xs:=.inl (.inl h)
theorem Inv.list (I:Inv X pins σ H s)(h:SqL X.K H a xs):∃ its:List Value,Vals xs its/\PlainL s.heap a its.toArray/\xs.length<=sizeLine:=by
 rcases h with h | ⟨o,its,n,hk,hc,hd,hs,hz,r⟩
 ·obtain ⟨z,its,n,r,e⟩:=h.ok I.hok
  exact ⟨its,r,⟨_,n,e,rfl,rfl,rfl⟩,z⟩
 ·refine ⟨its.toList,r,⟨o,n,I.kIn a o hk,hc,hd,by simpa using hs⟩,?_⟩
  have e:=r.length
  simp only [Array.length_toList] at e
  omega
theorem Inv.tuple (I:Inv X pins σ H s)(h:SqT X.K H a xs):∃ its:List Value,Vals xs its/\IsTup s.heap a its.toArray/\xs.length<=sizeLine:=by
 rcases h with h | ⟨o,its,n,hk,hc,hs,hz,r⟩
 ·obtain ⟨z,its,r,p⟩:=h.ok I.hok
  exact ⟨its,r,p,z⟩
 ·refine ⟨its.toList,r,⟨o,I.kIn a o hk,hc,n,by simpa using hs⟩,?_⟩
  have e:=r.length
  simp only [Array.length_toList] at e
  omega
theorem Inv.list_inj (I:Inv X pins σ H s)(h:SqL X.K H a xs)(h':SqL X.K H a ys):xs=ys:=by
 obtain ⟨its,r,⟨o,n,e,_,_,d⟩,_⟩:=I.list h
 obtain ⟨its',r',⟨o',n',e',_,_,d'⟩,_⟩:=I.list h'
 rw [e] at e'; cases e'
 rw [d] at d'
 injection d' with d1 _
 have:its=its':=by simpa using congrArg Array.toList d1
 subst this
 exact r.inj r'
end
noncomputable abbrev Cx.wish (X:Cx)(E:Value->Shared->Prop):Cx:={ X with xe:=E }
noncomputable abbrev Cx.nox (X:Cx):Cx:=X.wish fun _ _=>False
theorem Cx.Ok.wish {X:Cx}(ok:X.Ok)(E:Value->Shared->Prop):(X.wish E).Ok :=
 ⟨ok.mod,ok.kind,ok.glob,ok.blt,ok.above,ok.inj,ok.has,ok.cab,ok.hd,ok.frames,ok.stk,ok.exf,ok.bs,ok.bsz,ok.noex,ok.exfs,ok.funs,ok.frf⟩
theorem Cx.Ok.unwish {X:Cx}{E:Value->Shared->Prop}(ok:(X.wish E).Ok):X.Ok :=
 ⟨ok.mod,ok.kind,ok.glob,ok.blt,ok.above,ok.inj,ok.has,ok.cab,ok.hd,ok.frames,ok.stk,ok.exf,ok.bs,ok.bsz,ok.noex,ok.exfs,ok.funs,ok.frf⟩
section
variable {X:Cx}{pins:List (Addr × Obj)}{σ:St}{H:Hp}{s:Shared}{E:Value->Shared->Prop}
theorem Inv.wish (I:Inv X pins σ H s)(E:Value->Shared->Prop):Inv (X.wish E) pins σ H s:=⟨I.ok.wish E,I.os,I.bare,I.base,I.loc,I.cell,I.free,I.freeC,I.pin,I.hok,I.len⟩
theorem Inv.unwish (I:Inv (X.wish E) pins σ H s):Inv X pins σ H s:=⟨I.ok.unwish,I.os,I.bare,I.base,I.loc,I.cell,I.free,I.freeC,I.pin,I.hok,I.len⟩
theorem SP.unwish {D:Ends}{f:Flow}{s':Shared}(h:SP (X.wish E) pins D f s'):SP X pins D f s':=by
 cases f with
 | next=>obtain ⟨σ',H',I,q⟩:=h; exact ⟨σ',H',I.unwish,q⟩
 | brk=>obtain ⟨σ',H',I,q⟩:=h; exact ⟨σ',H',I.unwish,q⟩
 | cont=>obtain ⟨σ',H',I,q⟩:=h; exact ⟨σ',H',I.unwish,q⟩
 | ret u=>obtain ⟨v,σ',H',I,r,q⟩:=h; exact ⟨v,σ',H',I.unwish,r,q⟩
theorem PSs.nox {st:List Stmt}{t:TS}(h:PSs X.nox st t):PSs X st t:=fun pins s σ H D I hw =>
 wpAny_mono (h pins s σ H D (I.wish _) hw) (fun _ _ q=>q.unwish) fun _ _ z=>False.elim z
end
section
variable {X:Cx}{st:Stmt}{rest:List Stmt}{t u:TS}{e:Expr}{te:TE}{pos:Pos}
noncomputable def tNext:TS:=fun D σ H=>D.nx σ H
noncomputable def tSeq (t u:TS):TS:=fun D σ H=>t { D with nx:=u D } σ H
theorem pss_nil:PSs X [] tNext:=fun _ _ σ H _ I h=>wpAny_execs_nil ⟨σ,H,I,h⟩
theorem pss_cons (h1:PS X st t)(h2:PSs X rest u):PSs X (st :: rest) (tSeq t u):=by
 intro pins s σ H D I h
 refine wpAny_execs_cons (thn (h1 pins s σ H { D with nx:=u D } I h) fun f s1 q=>?_)
 cases f with
 | next =>
  obtain ⟨σ',H',I',q⟩:=q
  exact h2 pins s1 σ' H' D I' q
 | ret v=>exact q
 | brk=>exact q
 | cont=>exact q
theorem pss_one (h1:PS X st t):PSs X [st] t:=by
 intro pins s σ H D I h
 refine wpAny_execs_cons (thn (h1 pins s σ H D I h) fun f s1 q=>?_)
 cases f with
 | next=>exact wpAny_execs_nil q
 | ret v=>exact q
 | brk=>exact q
 | cont=>exact q
theorem Inv.quiet {pins:List (Addr × Obj)}{σ:St}{H:Hp}{s:Shared}(I:Inv X pins σ H s):interactive X.env=false:=by simp [interactive,I.ok.kind]
noncomputable def tDrop (te:TE):TS:=fun D σ H=>te σ H fun _ H1=>D.nx σ H1
theorem ps_expr (he:PE X e te)(hs:swapsWith e none pos.line X.env=pure false:=by rfl):PS X (.Expr e pos) (tDrop te):=by
 intro pins s σ H D I h
 exact wpAny_Expr_any (thn (he pins s σ H _ I h) fun v s1 ⟨x,H1,I1,r1,q1⟩=>⟨σ,H1,I1,q1⟩) I.quiet hs
noncomputable def tRet (te:TE):TS:=fun D σ H=>te σ H D.rt
theorem ps_ret (he:PE X e te):PS X (.Return (some e) pos) (tRet te):=by
 intro pins s σ H D I h
 exact wpAny_Return_some (thn (he pins s σ H _ I h) fun v s1 ⟨x,H1,I1,r1,q1⟩=>⟨x,σ,H1,I1,r1,q1⟩)
noncomputable def tIfS (c:TT)(t u:TS):TS:=fun D σ H=>c σ H fun b H1=>if b=true then t D σ H1 else u D σ H1
theorem ps_if {c:Expr}{a b:List Stmt}{tc:TT}(hc:PT X c tc)(ha:PSs X a t)(hb:PSs X b u):PS X (.If c a b pos) (tIfS tc t u):=by
 intro pins s σ H D I h
 refine wpAny_If (thn (hc pins s σ H _ I h) fun d s1 ⟨H1,I1,q1⟩=>?_)
 cases d with
 | true=>exact ha pins s1 σ H1 D I1 q1
 | false=>exact hb pins s1 σ H1 D I1 q1
end
noncomputable abbrev TG:=V->St->Hp->(St->Hp->Prop)->Prop
noncomputable abbrev TGs:=List V->St->Hp->(St->Hp->Prop)->Prop
noncomputable def PG (X:Cx)(target:Expr)(t:TG):Prop :=
 ∀ (pins:List (Addr × Obj)) (s:Shared) (σ:St) (H:Hp) (v:V) (u:Value) (Q:St->Hp->Prop),Inv X pins σ H s->RelV v u->t v σ H Q ->
  wpAny (model X.prog X.w) X.A (assign target X.env u) (fun _ s'=>∃ σ' H',Inv X pins σ' H' s'/\Q σ' H') X.xe s
noncomputable def PGs (X:Cx)(ts:List Expr)(t:TGs):Prop :=
 ∀ (pins:List (Addr × Obj)) (s:Shared) (σ:St) (H:Hp) (vs:List V) (us:List Value) (Q:St->Hp->Prop),Inv X pins σ H s->Vals vs us->t vs σ H Q ->
  wpAny (model X.prog X.w) X.A (assignInOrder ((assignEach ts X.env).map (·.2)) us) (fun _ s'=>∃ σ' H',Inv X pins σ' H' s'/\Q σ' H') X.xe s
section
variable {X:Cx}{pos:Pos}
noncomputable def gName (i:Nat):TG:=fun v σ H Q=>Q (σ.set i (some v)) H
theorem pg_name {i:Nat}{x:Str}(hN:X.N.Nodup)(hi:X.N[i]?=some x)(hx:Loc X.env.scope x)(hf:X.fn x=true\/X.env.scope.names.lookup x=some .local:=by first | exact .inl rfl | exact .inr rfl | assumption):PG X (.Name x pos) (gName i):=by
 intro pins s σ H v u Q I r h
 exact wpAny_assign_Name (store_ok I hN hi hx r (fun s' I'=>⟨_,H,I',h⟩) hf)
noncomputable def gNil:TGs:=fun vs σ H Q=>vs=[]/\Q σ H
noncomputable def gCons (t:TG)(u:TGs):TGs:=fun vs σ H Q=>∃ v r,vs=v :: r/\t v σ H fun σ' H'=>u r σ' H' Q
theorem pgs_nil:PGs X [] gNil:=by
 intro pins s σ H vs us Q I r h
 obtain ⟨e,h⟩:=h
 subst e
 cases r
 exact assignInOrder_nil ⟨σ,H,I,h⟩
theorem pgs_cons {e:Expr}{es:List Expr}{t:TG}{u:TGs}(h1:PG X e t)(h2:PGs X es u)
  (hs:(assignEach (e :: es) X.env).map (·.2)=assign e X.env :: (assignEach es X.env).map (·.2):=by rfl):PGs X (e :: es) (gCons t u):=by
 intro pins s σ H vs us Q I r h
 obtain ⟨v,vr,e1,h⟩:=h
 subst e1
 cases r with
 | cons r rr =>
  rw [hs]
  refine assignInOrder_cons (thn (h1 pins s σ H _ _ _ I r h) fun _ s1 ⟨σ1,H1,I1,q1⟩=>?_)
  exact h2 pins s1 σ1 H1 _ _ Q I1 rr q1
noncomputable def gTup (K:PySem.W.Frag)(n:Nat)(t:TGs):TG:=fun v σ H Q=>∃ a xs,v=.ref a/\SqT K H a xs/\xs.length=n/\t xs σ H Q
theorem pg_tup {es:List Expr}{k:Nat}{t:TGs}{n:Nat}(hc:X.calm=true)(h:PGs X es t)
  (hn:(assignEach es X.env).length=n:=by rfl) (hst:(assignEach es X.env).findIdx? (·.1)=none:=by rfl):PG X (.Tuple es k pos) (gTup X.K n t):=by
 intro pins s σ H v u Q I r hw
 obtain ⟨a,xs,e1,hq,hl,hw⟩:=hw
 subst e1
 cases r
 obtain ⟨its,rv,ht,hz⟩:=I.tuple hq
 refine assign_Tuple_tuple (I.ok.hd hc) ht (by simp [hn,<- hl,rv.length]) hst fun h' hx=>?_
 have I1:Inv X pins σ H { s with heap:=h' }:=I.kept (t':=s.toks) fun b o e=>hx b o (Nat.ne_of_lt (Heap.lt_size e)) e
 exact h pins _ σ H xs _ Q I1 (by simpa using rv) hw
noncomputable def tAsg (te:TE)(g:TG):TS:=fun D σ H=>te σ H fun x H1=>g x σ H1 D.nx
theorem ps_asg {tg e:Expr}{te:TE}{g:TG}(he:PE X e te)(hg:PG X tg g)(hs:swapsWithSole [tg] e pos.line X.env=pure false:=by rfl)(hw:swappedStores [tg] e X.env=pure none:=by rfl)
  (h1:(assignEach [tg] X.env).map (·.2)=[assign tg X.env]:=by rfl):PS X (.Assign [tg] e pos) (tAsg te g):=by
 intro pins s σ H D I h
 refine wpAny_Assign_stores (thn (he pins s σ H _ I h) fun v s1 ⟨x,H1,I1,r1,q1⟩=>?_) hs hw
 rw [h1]
 exact thn (hg pins s1 σ H1 x v _ I1 r1 q1) fun _ s2 q=>q
theorem ps_set {i:Nat}{x:Str}{e:Expr}{te:TE}{pos':Pos}(hN:X.N.Nodup)(hi:X.N[i]?=some x)(hx:Loc X.env.scope x)(he:PE X e te)(hs:swapsWith e (some (.Name x pos')) pos.line X.env=pure false:=by rfl)(hf:X.fn x=true\/X.env.scope.names.lookup x=some .local:=by first | exact .inl rfl | exact .inr rfl | assumption) :
  PS X (.Assign [.Name x pos'] e pos) (tAsg te (gName i)):=by
 intro pins s σ H D I h
 refine wpAny_Assign_Name (thn (he pins s σ H _ I h) fun v s1 ⟨y,H1,I1,r1,q1⟩=>?_) hs
 exact store_ok I1 hN hi hx r1 (fun s2 I2=>⟨_,H1,I2,q1⟩) hf
end
section
variable {X:Cx}{pos:Pos}
end
structure It where
 go:Nat->Hp->Prop
 yld:Nat->Hp->V->Hp->Prop
 stop:Nat->Hp->Prop
noncomputable def FpOk (X:Cx)(pins:List (Addr × Obj))(H:Hp)(b:Addr):Prop :=
 H b=none/\b ≠ X.env.locals/\b ∉ X.fs/\(b ∈ X.ex\/X.s₀.heap.objs.size<=b)/\(∀ x c,X.env.cells.lookup x=some c->c ≠ b)/\∀ p ∈ X.pn++pins,p.1 ≠ b
theorem Inv.fpOk {X:Cx}{pins:List (Addr × Obj)}{σ:St}{H H':Hp}{s:Shared}{b:Addr}(I:Inv X pins σ H s)(hb:s.heap.objs.size<=b)(hn:H' b=none):FpOk X pins H' b:=by
 refine ⟨hn,Nat.ne_of_gt (Nat.lt_of_lt_of_le I.lt hb),I.nofs hb,.inr (Nat.le_trans I.sz hb),fun x c e z=>?_,fun p hp z=>?_⟩
 ·obtain ⟨v,q⟩:=I.cell x c e
  exact absurd (Nat.lt_of_lt_of_le q.lt (by rw [z]; exact hb)) (Nat.lt_irrefl _)
 ·exact absurd (Nat.lt_of_lt_of_le (Heap.lt_size (I.pin p hp).1) (by rw [z]; exact hb)) (Nat.lt_irrefl _)
structure Turn (P:Program)(w:World)(K:PySem.W.Frag)(tg:Expr)(J:It)(fp:List Addr)(it:Addr)(tn:Nat->Heap->Prop):Prop where
 mem:it ∈ fp
 obj:∀ i h,tn i h->∀ b ∈ fp,∃ o,h.get? b=some o/\∀ v,o.data ≠ .cell v
 keep:∀ i h h',tn i h->(∀ b ∈ fp,∀ o,h.get? b=some o->h'.get? b=some o)->tn i h'
 item:∀ (X:Cx),X.prog=P->X.w=w->X.K=K->X.calm=true->∀ (i:Nat) (pins:List (Addr × Obj)) (s:Shared) (σ:St) (H:Hp) (E:Value->Shared->Prop),Inv X pins σ H s->(∀ b ∈ fp,FpOk X pins H b)->tn i s.heap->J.go i H ->
  wpAny (model P w) X.A (pyNext (.ref it)) (fun r s1=>∃ u,r=some u /\
   wpAny (model P w) X.A (letOwnedTupleGo tg (.ref it) u) (fun _ s2=>∃ x H',Inv X pins σ H' s2/\RelV x u/\J.yld i H x H'/\tn (i + 1) s2.heap/\∀ b ∈ fp,H' b=none) E s1) E s
 done:∀ (X:Cx),X.prog=P->X.w=w->X.K=K->X.calm=true->∀ (i:Nat) (pins:List (Addr × Obj)) (s:Shared) (σ:St) (H:Hp) (E:Value->Shared->Prop),Inv X pins σ H s->(∀ b ∈ fp,FpOk X pins H b)->tn i s.heap->J.stop i H ->
  wpAny (model P w) X.A (pyNext (.ref it)) (fun r s1=>r=none/\Inv X pins σ H s1) E s
 self:∀ (A:Around) (i:Nat) (s:Shared) (Q:Value->Shared->Prop) (E:Value->Shared->Prop),tn i s.heap->Q (.ref it) s->wpAny (model P w) A (pyIter (.ref it)) Q E s
noncomputable abbrev TI:=St->Hp->(It->Hp->Prop)->Prop
noncomputable def PIE (X:Cx)(pins:List (Addr × Obj))(σ:St)(tg:Expr)(R:It->Hp->Prop)(itv:Value)(s2:Shared):Prop :=
 ∃ (it:Addr) (fp:List Addr) (tn:Nat->Heap->Prop) (J:It) (H':Hp),itv=.ref it/\Inv X pins σ H' s2/\Turn X.prog X.w X.K tg J fp it tn/\tn 0 s2.heap/\(∀ b ∈ fp,FpOk X pins H' b)/\R J H'
noncomputable def PI (X:Cx)(tg iter:Expr)(wi:TI):Prop :=
 ∀ (pins:List (Addr × Obj)) (s:Shared) (σ:St) (H:Hp) (R:It->Hp->Prop),Inv X pins σ H s->wi σ H R ->
  wpAny (model X.prog X.w) X.A (eval iter X.env) (fun v s1=>wpAny (model X.prog X.w) X.A (pyIter v) (PIE X pins σ tg R) X.xe s1) X.xe s
theorem go_of {M:Model}{A:Around}{E:Value->Shared->Prop}{s:Shared}{tg:Expr}{it:Addr}{u:Value}{o:Obj}{n:String}{vs:Array Value}{Q:Unit->Shared->Prop}(ho:s.heap.get? it=some o)(hc:o.cls=.type n)(hd:o.data=.fields vs)
    (hn:["enumerate","zip","dict_itemiterator","dict_reverseitemiterator","odict_iterator","itertools.zip_longest","itertools.pairwise"].contains n=false) (hQ:Q () s):wpAny M A (letOwnedTupleGo tg (.ref it) u) Q E s:=by
  unfold letOwnedTupleGo
  cases tg <;> first
    | exact wpAny_pure hQ
    | (cases u <;> first
        | exact wpAny_pure hQ
        | (refine wpAny_bind (wpAny_load ho ?_)
           rw [hc,hd]
           show wpAny M A (if (["enumerate","zip","dict_itemiterator","dict_reverseitemiterator","odict_iterator","itertools.zip_longest","itertools.pairwise"].contains n && vs[0]? == some (rawInt _))=true then _ else _) Q E s
           rw [if_neg (by intro h; rw [hn,Bool.false_and] at h; cases h)]
           exact wpAny_pure hQ))
noncomputable def Itl (K:PySem.W.Frag)(a:Addr):It :=
 ⟨fun i H=>∃ xs x,SqL K H a xs/\xs[i]?=some x,fun i H x H'=>H'=H/\∀ xs,SqL K H a xs->xs[i]?=some x,fun i H=>∃ xs,SqL K H a xs/\xs.length<=i⟩
noncomputable def Itr (lo:Int)(n:Nat):It:=⟨fun i _=>i < n,fun i H x H'=>H'=H/\x=.int (lo + i),fun i _=>n<=i⟩
theorem turn_list {P:Program}{w:World}{K:PySem.W.Frag}{tg:Expr}(a it:Addr):Turn P w K tg (Itl K a) [it] it (fun i h=>h.IsListIter it a i) where
 mem:=by simp
 obj:=fun i h st b hb=>by
  have e:b=it:=by simpa using hb
  subst e
  obtain ⟨o,e,c,d⟩:=st
  exact ⟨o,e,fun v z=>by rw [d] at z; cases z⟩
 keep:=fun i h h' st k=>st.at fun o e=>k it (by simp) o e
 item:=by
  intro X hP hw hK hc i pins s σ H E I hf st hg
  subst hP hw hK
  obtain ⟨xs,x,hq,hx⟩:=hg
  obtain ⟨its,rv,p,hz⟩:=I.list hq
  obtain ⟨u,hu,ru⟩:=rv.get hx
  obtain ⟨f0,f1,f2,f3,f4,f5⟩:=hf it (by simp)
  refine wpAny_pyNext_list_item st p.isList (x:=u) (by simpa using hu) fun h' st' sb=>?_
  have I1:Inv X pins σ H { s with heap:=h' }:=I.turned (t':=s.toks) (fun b o hb e=>(sb.2 b hb).trans e) f0 f1 f3 f4 f5
  obtain ⟨o,e,c,d⟩:=id st'
  exact ⟨u,rfl,go_of (s:={ s with heap:=h' }) e c d (by decide) ⟨x,H,I1,ru,⟨rfl,fun ys hy=>by rw [I.list_inj hy hq]; exact hx⟩,st',fun b hb=>(hf b hb).1⟩⟩
 done:=by
  intro X hP hw hK hc i pins s σ H E I hf st hg
  subst hP hw hK
  obtain ⟨xs,hq,hx⟩:=hg
  obtain ⟨its,rv,p,hz⟩:=I.list hq
  obtain ⟨f0,f1,f2,f3,f4,f5⟩:=hf it (by simp)
  have hl:=rv.length
  exact wpAny_pyNext_list_end (I.ok.hd hc) st p.isList (by simp; omega) fun h' eb=>⟨rfl,I.turned (t':=s.toks) (fun b o hb e=>eb b o hb e) f0 f1 f3 f4 f5⟩
 self:=fun _ _ _ _ _ st h=>wpAny_pyIter_listiter st h
theorem turn_range {P:Program}{w:World}{K:PySem.W.Frag}{tg:Expr}(it:Addr)(lo:Int)(n:Nat):Turn P w K tg (Itr lo n) [it] it (fun i h=>IsRangeIter h it (lo + (i:Nat) * 1) ((n:Int) - (i:Nat)) 1) where
 mem:=by simp
 obj:=fun i h st b hb=>by
  have e:b=it:=by simpa using hb
  subst e
  exact ⟨_,st,fun v z=>by
   have z':Data.fields _=Data.cell v:=z
   cases z'⟩
 keep:=fun i h h' st k=>k it (by simp) _ st
 item:=by
  intro X hP hw hK hc i pins s σ H E I hf st hg
  subst hP hw hK
  obtain ⟨f0,f1,f2,f3,f4,f5⟩:=hf it (by simp)
  have W:=Walks.range (prog:=X.prog) (w:=X.w) (I.ok.hd hc) it lo 1 n
  refine W.item i s _ _ hg st fun v h' tk hv st' kk=>?_
  obtain ⟨t,rfl⟩:=hv
  have I1:Inv X pins σ H { s with heap:=h',toks:=tk }:=I.turned (fun b o hb e=>kk b o (by simpa using hb) e) f0 f1 f3 f4 f5
  refine ⟨_,rfl,go_of (s:={ s with heap:=h',toks:=tk }) (n:="range_iterator") st' rfl rfl (by decide) ⟨.int (lo + i),H,I1,⟨t,?_⟩,⟨rfl,rfl⟩,st',fun b hb=>(hf b hb).1⟩⟩
  rw [Int.mul_one]
 done:=by
  intro X hP hw hK hc i pins s σ H E I hf st hg
  subst hP hw hK
  obtain ⟨f0,f1,f2,f3,f4,f5⟩:=hf it (by simp)
  exact wpAny_pyNext_range_end (I.ok.hd hc) st (by have:n<=i:=hg; omega) fun h' eb=>⟨rfl,I.turned (t':=s.toks) (fun b o hb e=>eb b o hb e) f0 f1 f3 f4 f5⟩
 self:=fun _ _ _ _ _ st h=>wpAny_pyIter_rangeiter st h
end L2
namespace L2
open PySem PySem.Spec PyProof.Rows
section
variable {X:Cx}{tg:Expr}
noncomputable def iList (K:PySem.W.Frag)(tl:TE):TI:=fun σ H R=>tl σ H fun x H1=>∃ a,x=.ref a/\(∃ xs,SqL K H1 a xs)/\R (Itl K a) H1
theorem pi_list {l:Expr}{tl:TE}(hl:PE X l tl):PI X tg l (iList X.K tl):=by
 intro pins s σ H R I h
 refine thn (hl pins s σ H _ I h) fun v s1 ⟨x,H1,I1,r1,q1⟩=>?_
 obtain ⟨a,e,⟨xs,hq⟩,q⟩:=q1
 subst e
 cases r1
 obtain ⟨its,rv,p,hz⟩:=I1.list hq
 refine wpAny_pyIter_list p.isList ?_
 refine ⟨s1.heap.objs.size,[s1.heap.objs.size],_,_,H1,rfl,I1.kept (t':=s1.toks) fun b o e=>Heap.get?_push_of_some _ e,turn_list a _,⟨_,Heap.get?_push_size _ rfl,rfl,rfl⟩,fun b hb=>?_,q⟩
 have e:b=s1.heap.objs.size:=by simpa using hb
 subst e
 exact I1.fpOk (Nat.le_refl _) (I1.hok.fresh (Nat.le_refl _))
theorem range_it {pins:List (Addr × Obj)}{σ:St}{H:Hp}{s:Shared}{R:It->Hp->Prop}{E:Value->Shared->Prop}{lo hi:Int}{t u v:Tok}{tk:Nat}(I:Inv X pins σ H s)(h1:-(2 ^ 62)<=lo)(h2:lo < 2 ^ 62)(h3:-(2 ^ 62)<=hi)(h4:hi < 2 ^ 62)
  (q:R (Itr lo (hi - lo).toNat) H):wpAny (model X.prog X.w) X.A (pyIter (.ref s.heap.objs.size)) (PIE X pins σ tg R) E { s with heap:=s.heap.push { cls:=.type "range",data:=.fields #[.int lo t,.int hi u,.int 1 v] },toks:=tk }:=by
 refine wpAny_pyIter_range (IsRange.new ..) (small_one h1 h2 h3 h4) ?_
 have I1:Inv X pins σ H { s with heap:=s.heap.push { cls:=.type "range",data:=.fields #[.int lo t,.int hi u,.int 1 v] },toks:=tk }:=I.kept fun b o e=>Heap.get?_push_of_some _ e
 refine ⟨(s.heap.push { cls:=.type "range",data:=.fields #[.int lo t,.int hi u,.int 1 v] }).objs.size,[(s.heap.push { cls:=.type "range",data:=.fields #[.int lo t,.int hi u,.int 1 v] }).objs.size],_,_,H,rfl,
  I1.kept (t':=tk) fun b o e=>Heap.get?_push_of_some _ e,turn_range _ lo (hi - lo).toNat,?_,fun b hb=>?_,q⟩
 ·have e1:lo + ((0:Nat):Int) * 1=lo:=by simp
  have e2:(((hi - lo).toNat:Nat):Int) - ((0:Nat):Int)=Builtin.Range.rangeSize lo hi 1:=by rw [rangeSize_one]; split <;> omega
  show IsRangeIter _ _ (lo + ((0:Nat):Int) * 1) ((((hi - lo).toNat:Nat):Int) - ((0:Nat):Int)) 1
  rw [e1,e2]
  exact Heap.get?_push_size _ rfl
 ·have e:b=(s.heap.push { cls:=.type "range",data:=.fields #[.int lo t,.int hi u,.int 1 v] }).objs.size:=by simpa using hb
  subst e
  exact I1.fpOk (Nat.le_refl _) (I1.hok.fresh (Nat.le_refl _))
noncomputable def iRng1 (ta:TA):TI:=fun σ H R=>ta σ H fun vs H1=>∃ j:Int,vs=[.int j]/\-(2 ^ 62)<=j/\j < 2 ^ 62/\R (Itr 0 j.toNat) H1
noncomputable def iRng2 (ta:TA):TI:=fun σ H R=>ta σ H fun vs H1=>∃ i j:Int,vs=[.int i,.int j]/\(-(2 ^ 62)<=i/\i < 2 ^ 62/\-(2 ^ 62)<=j/\j < 2 ^ 62)/\R (Itr i (j - i).toNat) H1
theorem pi_range1 {a:Expr}{ta:TA}{p pos:Pos}(hg:Gl X "range")(hm:X.mg "range"=none)(ha:PA X [a] ta)(hs:starEach [a] X.env=[(false,eval a X.env)]:=by rfl):PI X tg (.Call (.Name "range" p) [a] [] pos) (iRng1 ta):=by
 intro pins s σ H R I h
 refine Call_ (ld_blt I hg hm boot_range (PyProof.Rows.callWith_type1 (thn (ha pos pins s σ H _ I h) fun us s1 ⟨vs,H1,I1,r1,q1⟩=>?_) hs rfl))
 obtain ⟨j,e,q1,q2,q⟩:=q1
 subst e
 cases r1 with
 | cons r rr =>
  cases rr
  obtain ⟨t,rfl⟩:=r
  exact call_range_1 (range_it I1 (by omega) (by omega) q1 q2 (by simpa using q))
theorem pi_range2 {a b:Expr}{ta:TA}{p pos:Pos}(hg:Gl X "range")(hm:X.mg "range"=none)(ha:PA X [a,b] ta)(hs:starEach [a,b] X.env=[(false,eval a X.env),(false,eval b X.env)]:=by rfl)(hs2:starEach [b] X.env=[(false,eval b X.env)]:=by rfl) :
  PI X tg (.Call (.Name "range" p) [a,b] [] pos) (iRng2 ta):=by
 intro pins s σ H R I h
 refine Call_ (ld_blt I hg hm boot_range (PyProof.Rows.callWith_type1 (thn (ha pos pins s σ H _ I h) fun us s1 ⟨vs,H1,I1,r1,q1⟩=>?_) (by rw [hs,hs2]) (by rw [hs2]; rfl)))
 obtain ⟨i,j,e,⟨q1,q2,q3,q4⟩,q⟩:=q1
 subst e
 cases r1 with
 | cons r rr =>
  cases rr with
  | cons r' rr =>
   cases rr
   obtain ⟨t,rfl⟩:=r
   obtain ⟨t',rfl⟩:=r'
   exact call_range_2 (range_it I1 q1 q2 q3 q4 q)
noncomputable def tFor (wi:TI)(g:TG)(tb:TS):TS:=fun D σ H=>wi σ H fun J H1=>∃ W:Nat->Nat->St->Hp->Prop,(∃ m,W 0 m σ H1)/\∀ i m σ H,W i m σ H ->
 (J.stop i H/\D.nx σ H)\/(J.go i H/\∃ N:St->Hp->Prop,(∀ σ' H',N σ' H'->∃ m',m' < m/\W (i + 1) m' σ' H')/\∀ x H',J.yld i H x H'->g x σ H' fun σ2 H2=>tb { D with nx:=N,ct:=N,bk:=D.nx } σ2 H2)
noncomputable def pinsAt (fp:List Addr)(h:Heap):List (Addr × Obj):=fp.filterMap fun b=>(h.get? b).map fun o=>(b,o)
theorem mem_pinsAt {fp:List Addr}{h:Heap}{b:Addr}{o:Obj}(hb:b ∈ fp)(e:h.get? b=some o):(b,o) ∈ pinsAt fp h:=List.mem_filterMap.mpr ⟨b,hb,by rw [e]; rfl⟩
theorem of_pinsAt {fp:List Addr}{h:Heap}{p:Addr × Obj}(hp:p ∈ pinsAt fp h):p.1 ∈ fp/\h.get? p.1=some p.2:=by
 obtain ⟨b,hb,e⟩:=List.mem_filterMap.mp hp
 cases q:h.get? b with
 | none=>rw [q] at e; cases e
 | some o =>
  rw [q] at e
  have e':(b,o)=p:=Option.some.inj e
  subst e'
  exact ⟨hb,q⟩
theorem Inv.pinned {pins:List (Addr × Obj)}{σ:St}{H:Hp}{s:Shared}{fp:List Addr}(I:Inv X pins σ H s)(hf:∀ b ∈ fp,FpOk X pins H b)(ho:∀ b ∈ fp,∃ o,s.heap.get? b=some o/\∀ v,o.data ≠ .cell v):Inv X (pins++pinsAt fp s.heap) σ H s :=
 I.pins_of fun p hp=>(List.mem_append.mp hp).elim (fun z=>I.pin p (List.mem_append_right _ z)) fun z=>by
  obtain ⟨hb,e⟩:=of_pinsAt z
  obtain ⟨f0,f1,f2,_⟩:=hf p.1 hb
  obtain ⟨o,e',d⟩:=ho p.1 hb
  rw [e] at e'; cases e'
  exact ⟨e,f0,f1,f2,d⟩
theorem Inv.unpinned {pins pl:List (Addr × Obj)}{σ:St}{H:Hp}{s:Shared}(I:Inv X (pins++pl) σ H s):Inv X pins σ H s:=I.pins_of fun p hp=>I.pin p (List.mem_append_right _ (List.mem_append_left _ hp))
theorem ps_for {iter:Expr}{body:List Stmt}{wi:TI}{g:TG}{tb:TS}{pos:Pos}(hp:PassesOwn (model X.prog X.w) X.A X.env X.xe)(hc:X.calm=true)(hi:PI X tg iter wi)(hg:PG X tg g)(hb:PSs X body tb)
  (hs:∀ x,foldedSetIterable iter X.env x=pure x:=by intro _; rfl):PS X (.For tg iter body [] pos) (tFor wi g tb):=by
 intro pins s σ H D I h
 refine wpAny_For (thn (hi pins s σ H _ I h) fun v s1 h1=>thn h1 fun itv s2 h2=>?_) hs
 obtain ⟨it,fp,tn,J,H2,e,I2,T,st2,f2,W,⟨m0,w0⟩,turn⟩:=h2
 subst e
 have stat:∀ {H':Hp},(∀ b ∈ fp,H' b=none)->∀ b ∈ fp,FpOk X pins H' b:=fun hn b hb=>⟨hn b hb,(f2 b hb).2⟩
 refine codeAny_forLoop_any (fun n s'=>∃ i σ' H',Inv X pins σ' H' s'/\tn i s'.heap/\(∀ b ∈ fp,H' b=none)/\W i n σ' H') ?_ m0 ⟨0,σ,H2,I2,st2,fun b hb=>(f2 b hb).1,w0⟩
 rintro n s3 ⟨i,σ3,H3,I3,st3,fr3,w3⟩
 rcases turn i n σ3 H3 w3 with ⟨stop,qn⟩ | ⟨go,N,hN,step⟩
 ·refine wpAny_passesOwn hp (thn (T.done X rfl rfl rfl hc i pins s3 σ3 H3 X.xe I3 (stat fr3) st3 stop) fun r s4 ⟨hr,I4⟩=>?_)
  subst hr
  exact wpAny_execs_nil ⟨σ3,H3,I4,qn⟩
 ·refine wpAny_passesOwn hp (thn (T.item X rfl rfl rfl hc i pins s3 σ3 H3 X.xe I3 (stat fr3) st3 go) fun r s4 ⟨u,hr,h4⟩=>?_)
  subst hr
  refine wpAny_passesOwn hp (thn h4 fun _ s5 ⟨x,H5,I5,r5,y5,st5,fr5⟩=>?_)
  have I5':=I5.pinned (stat fr5) (T.obj _ _ st5)
  refine wpAny_passesOwn hp (thn (hg _ s5 σ3 H5 x u _ I5' r5 (step x H5 y5)) fun _ s6 ⟨σ6,H6,I6,q6⟩=>?_)
  refine wpAny_passesOwn hp (thn (hb _ s6 σ6 H6 _ I6 q6) fun f s7 q7=>?_)
  have again:∀ {σ7:St} {H7:Hp},Inv X (pins++pinsAt fp s5.heap) σ7 H7 s7->N σ7 H7->∃ m,m < n/\∃ i σ' H',Inv X pins σ' H' s7/\tn i s7.heap/\(∀ b ∈ fp,H' b=none)/\W i m σ' H':=fun {σ7 H7} I7 n7=>by
   obtain ⟨m',hm,w7⟩:=hN σ7 H7 n7
   refine ⟨m',hm,i + 1,σ7,H7,I7.unpinned,T.keep _ _ _ st5 fun b hb o e=>(I7.pin (b,o) (List.mem_append_right _ (List.mem_append_right _ (mem_pinsAt hb e)))).1,fun b hb=>?_,w7⟩
   obtain ⟨o,e,d⟩:=T.obj _ _ st5 b hb
   exact (I7.pin (b,o) (List.mem_append_right _ (List.mem_append_right _ (mem_pinsAt hb e)))).2.1
  cases f with
  | next=>obtain ⟨σ7,H7,I7,n7⟩:=q7; exact again I7 n7
  | cont=>obtain ⟨σ7,H7,I7,n7⟩:=q7; exact again I7 n7
  | brk=>obtain ⟨σ7,H7,I7,q7⟩:=q7; exact ⟨σ7,H7,I7.unpinned,q7⟩
  | ret v=>obtain ⟨x7,σ7,H7,I7,r7,q7⟩:=q7; exact ⟨x7,σ7,H7,I7.unpinned,r7,q7⟩
end
theorem for_list {K:PySem.W.Frag}{a:Addr}{xs:List V}{g:TG}{tb:TS}{D:Ends}{σ:St}{H:Hp}(Pv:Nat->St->Hp->Prop)(h0:Pv 0 σ H)(hl:∀ i σ H,i<=xs.length->Pv i σ H->SqL K H a xs)
  (hs:∀ i x σ H,xs[i]?=some x->Pv i σ H->g x σ H fun σ2 H2=>tb { D with nx:=Pv (i + 1),ct:=Pv (i + 1),bk:=D.nx } σ2 H2) (hd:∀ σ H,Pv xs.length σ H->D.nx σ H) :
  ∃ W:Nat->Nat->St->Hp->Prop,(∃ m,W 0 m σ H)/\∀ i m σ H,W i m σ H ->
   ((Itl K a).stop i H/\D.nx σ H)\/((Itl K a).go i H/\∃ N:St->Hp->Prop,(∀ σ' H',N σ' H'->∃ m',m' < m/\W (i + 1) m' σ' H')/\∀ x H',(Itl K a).yld i H x H'->g x σ H' fun σ2 H2=>tb { D with nx:=N,ct:=N,bk:=D.nx } σ2 H2):=by
 refine ⟨fun i m σ H=>m=xs.length - i/\i<=xs.length/\Pv i σ H,⟨xs.length,by simp,Nat.zero_le _,h0⟩,?_⟩
 rintro i m σ H ⟨rfl,hi,p⟩
 have q:=hl i σ H hi p
 by_cases hlt:i < xs.length
 ·refine .inr ⟨⟨xs,xs[i],q,by simp [hlt]⟩,Pv (i + 1),fun σ' H' p'=>⟨xs.length - (i + 1),by omega,rfl,hlt,p'⟩,fun x H' y=>?_⟩
  obtain ⟨e,y⟩:=y
  subst e
  exact hs i x σ _ (y xs q) p
 ·have e:i=xs.length:=by omega
  subst e
  exact .inl ⟨⟨xs,q,Nat.le_refl _⟩,hd σ H p⟩
theorem for_range {lo:Int}{n:Nat}{g:TG}{tb:TS}{D:Ends}{σ:St}{H:Hp}(Pv:Nat->St->Hp->Prop)(h0:Pv 0 σ H)
  (hs:∀ i σ H,i < n->Pv i σ H->g (.int (lo + i)) σ H fun σ2 H2=>tb { D with nx:=Pv (i + 1),ct:=Pv (i + 1),bk:=D.nx } σ2 H2) (hd:∀ σ H,Pv n σ H->D.nx σ H) :
  ∃ W:Nat->Nat->St->Hp->Prop,(∃ m,W 0 m σ H)/\∀ i m σ H,W i m σ H ->
   ((Itr lo n).stop i H/\D.nx σ H)\/((Itr lo n).go i H/\∃ N:St->Hp->Prop,(∀ σ' H',N σ' H'->∃ m',m' < m/\W (i + 1) m' σ' H')/\∀ x H',(Itr lo n).yld i H x H'->g x σ H' fun σ2 H2=>tb { D with nx:=N,ct:=N,bk:=D.nx } σ2 H2):=by
 refine ⟨fun i m σ H=>m=n - i/\i<=n/\Pv i σ H,⟨n,by simp,Nat.zero_le _,h0⟩,?_⟩
 rintro i m σ H ⟨rfl,hi,p⟩
 by_cases hlt:i < n
 ·refine .inr ⟨hlt,Pv (i + 1),fun σ' H' p'=>⟨n - (i + 1),by omega,rfl,hlt,p'⟩,fun x H' y=>?_⟩
  obtain ⟨e,y⟩:=y
  subst e y
  exact hs i σ _ hlt p
 ·have e:i=n:=by omega
  subst e
  exact .inl ⟨Nat.le_refl _,hd σ H p⟩
end L2
namespace L2
open PySem PySem.Spec PyProof.Rows
noncomputable abbrev R2:=V->V->Hp->VK->Prop
noncomputable def OpR (X:Cx)(f:Value->Value->Sem Value)(r:R2):Prop :=
 ∀ (pins:List (Addr × Obj)) (s:Shared) (σ:St) (H:Hp) (x y:V) (v u:Value) (Q:VK),Inv X pins σ H s->RelV x v->RelV y u->r x y H Q ->
  wpAny (model X.prog X.w) X.A (f v u) (EP X pins σ Q) X.xe s
noncomputable def UnR (X:Cx)(f:Value->Sem Value)(r:V->Hp->VK->Prop):Prop :=
 ∀ (pins:List (Addr × Obj)) (s:Shared) (σ:St) (H:Hp) (x:V) (v:Value) (Q:VK),Inv X pins σ H s->RelV x v->r x H Q ->
  wpAny (model X.prog X.w) X.A (f v) (EP X pins σ Q) X.xe s
noncomputable def CallR (X:Cx)(f:Value)(r:List V->Hp->VK->Prop):Prop :=
 ∀ (pins:List (Addr × Obj)) (s:Shared) (σ:St) (H:Hp) (xs:List V) (us:List Value) (Q:VK),Inv X pins σ H s->Vals xs us->r xs H Q ->
  wpAny (model X.prog X.w) X.A (call f us) (EP X pins σ Q) X.xe s
noncomputable def TruR (X:Cx)(r:V->Hp->(Bool->Hp->Prop)->Prop):Prop :=
 ∀ (pins:List (Addr × Obj)) (s:Shared) (σ:St) (H:Hp) (x:V) (v:Value) (Q:Bool->Hp->Prop),Inv X pins σ H s->RelV x v->r x H Q ->
  wpAny (model X.prog X.w) X.A (truthy v) (TP X pins σ Q) X.xe s
noncomputable def tOp (r:R2)(ta tb:TE):TE:=fun σ H Q=>ta σ H fun x H1=>tb σ H1 fun y H2=>r x y H2 Q
noncomputable def tUn (r:V->Hp->VK->Prop)(ta:TE):TE:=fun σ H Q=>ta σ H fun x H1=>r x H1 Q
noncomputable def rI (C:Int->Int->Prop)(g:Int->Int->V):R2:=fun x y H Q=>∃ i j,x=.int i/\y=.int j/\C i j/\Q (g i j) H
noncomputable def rI0 (g:Int->Int->V):R2:=fun x y H Q=>∃ i j,x=.int i/\y=.int j/\Q (g i j) H
noncomputable def rU (g:Int->V):V->Hp->VK->Prop:=fun x H Q=>∃ i,x=.int i/\Q (g i) H
section
variable {X:Cx}{a b c:Expr}{ta tb tc:TE}{pos:Pos}
theorem binT (ha:PE X a ta)(hb:PE X b tb){pins:List (Addr × Obj)}{s:Shared}{σ:St}{H:Hp}{R:V->V->Hp->Prop}(I:Inv X pins σ H s)
  (h:ta σ H fun x H1=>tb σ H1 fun y H2=>R x y H2) {Q:Value->Shared->Prop} {f:Value->Value->Sem Value}
  (hf:∀ v u s2 x y H2,Inv X pins σ H2 s2->RelV x v->RelV y u->R x y H2->wpAny (model X.prog X.w) X.A (f v u) Q X.xe s2) :
  wpAny (model X.prog X.w) X.A (eval a X.env) (fun v s₁=>wpAny (model X.prog X.w) X.A (eval b X.env) (fun u s₂=>wpAny (model X.prog X.w) X.A (f v u) Q X.xe s₂) X.xe s₁) X.xe s:=by
 refine thn (ha pins s σ H _ I h) fun v s1 ⟨x,H1,I1,r1,q1⟩=>?_
 refine thn (hb pins s1 σ H1 _ I1 q1) fun u s2 ⟨y,H2,I2,r2,q2⟩=>?_
 exact hf v u s2 x y H2 I2 r1 r2 q2
theorem pe_op {op:Operator}{r:R2}(ho:OpR X (binaryOp op) r)(ha:PE X a ta)(hb:PE X b tb):PE X (.BinOp a op b pos) (tOp r ta tb):=by
 intro pins s σ H Q I h
 exact wpAny_BinOp (binT ha hb I h fun v u s2 x y H2 I2 rx ry q=>ho pins s2 σ H2 x y v u Q I2 rx ry q)
theorem pe_un {op:UnaryOp}{r:V->Hp->VK->Prop}(ho:UnR X (unaryOp op) r)(ha:PE X a ta):PE X (.UnaryOp op a pos) (tUn r ta):=by
 intro pins s σ H Q I h
 exact UnaryOp_ (thn (ha pins s σ H _ I h) fun v s1 ⟨x,H1,I1,r1,q1⟩=>ho pins s1 σ H1 x v Q I1 r1 q1)
theorem opI {f:Value->Value->Sem Value}{C:Int->Int->Prop}{g:Int->Int->Int}
  (rule:∀ (i j:Int) (t u:Tok) (s:Shared) (Q:Value->Shared->Prop) (E:Value->Shared->Prop),C i j->Q (.int (g i j) s.toks) { s with toks:=s.toks + 1 }->wpAny (model X.prog X.w) X.A (f (.int i t) (.int j u)) Q E s) :
  OpR X f (rI C fun i j=>.int (g i j)):=by
 intro pins s σ H x y v u Q I rx ry h
 obtain ⟨i,j,rfl,rfl,hc,q⟩:=h
 obtain ⟨t,rfl⟩:=rx
 obtain ⟨t',rfl⟩:=ry
 exact rule i j t t' s _ _ hc ⟨.int (g i j),H,I.tok _,⟨_,rfl⟩,q⟩
theorem opI0 {f:Value->Value->Sem Value}{g:Int->Int->Int}
  (rule:∀ (i j:Int) (t u:Tok) (s:Shared) (Q:Value->Shared->Prop) (E:Value->Shared->Prop),Q (.int (g i j) s.toks) { s with toks:=s.toks + 1 }->wpAny (model X.prog X.w) X.A (f (.int i t) (.int j u)) Q E s) :
  OpR X f (rI0 fun i j=>.int (g i j)):=by
 intro pins s σ H x y v u Q I rx ry h
 obtain ⟨i,j,rfl,rfl,q⟩:=h
 obtain ⟨t,rfl⟩:=rx
 obtain ⟨t',rfl⟩:=ry
 exact rule i j t t' s _ _ ⟨.int (g i j),H,I.tok _,⟨_,rfl⟩,q⟩
theorem opB0 {f:Value->Value->Sem Value}{g:Int->Int->Bool}
  (rule:∀ (i j:Int) (t u:Tok) (s:Shared) (Q:Value->Shared->Prop) (E:Value->Shared->Prop),Q (.bool (g i j)) s->wpAny (model X.prog X.w) X.A (f (.int i t) (.int j u)) Q E s) :
  OpR X f (rI0 fun i j=>.bl (g i j)):=by
 intro pins s σ H x y v u Q I rx ry h
 obtain ⟨i,j,rfl,rfl,q⟩:=h
 obtain ⟨t,rfl⟩:=rx
 obtain ⟨t',rfl⟩:=ry
 exact rule i j t t' s _ _ ⟨.bl (g i j),H,I,rfl,q⟩
theorem op_add:OpR X (binaryOp .Add) (rI0 fun i j=>.int (i + j)):=opI0 fun _ _ _ _ _ _ _ q=>add_int q
theorem op_sub:OpR X (binaryOp .Sub) (rI0 fun i j=>.int (i - j)):=opI0 fun _ _ _ _ _ _ _ q=>sub_int q
theorem op_mod:OpR X (binaryOp .Mod) (rI (fun _ j=>0 < j) fun i j=>.int (i % j)):=opI fun i j _ _ _ _ _ hc q=>by
 have h1:(0:Int) < j:=hc
 exact mod_int' (by omega) (by rw [Int.fmod_eq_emod_of_nonneg i (by omega)]; exact q)
theorem unI {f:Value->Sem Value}{g:Int->Int}
  (rule:∀ (i:Int) (t:Tok) (s:Shared) (Q:Value->Shared->Prop) (E:Value->Shared->Prop),Q (.int (g i) s.toks) { s with toks:=s.toks + 1 }->wpAny (model X.prog X.w) X.A (f (.int i t)) Q E s) :
  UnR X f (rU fun i=>.int (g i)):=by
 intro pins s σ H x v Q I rx h
 obtain ⟨i,rfl,q⟩:=h
 obtain ⟨t,rfl⟩:=rx
 exact rule i t s _ _ ⟨.int (g i),H,I.tok _,⟨_,rfl⟩,q⟩
theorem un_neg:UnR X (unaryOp .USub) (rU fun i=>.int (-i)):=unI fun _ _ _ _ _ q=>neg_int q
end
noncomputable def scal:V->V->Bool
 | .non,.non=>true | .non,.int _=>true | .int _,.non=>true | .non,.bl _=>true | .bl _,.non=>true | .non,.str _=>true | .str _,.non=>true
 | .int _,.int _=>true | .bl _,.bl _=>true | .str _,.str _=>true | .byt _,.byt _=>true
 | .int _,.str _=>true | .str _,.int _=>true | .bl _,.str _=>true | .str _,.bl _=>true
 | _,_=>false
noncomputable def rEq:R2:=fun x y H Q=>scal x y=true/\Q (.bl (decide (x=y))) H
noncomputable def rNe:R2:=fun x y H Q=>scal x y=true/\Q (.bl (!decide (x=y))) H
theorem dec_int {i j:Int}:decide (V.int i=V.int j)=(i == j):=by
 rw [Bool.eq_iff_iff]
 simp
theorem dec_bl {i j:Bool}:decide (V.bl i=V.bl j)=(i == j):=by
 rw [Bool.eq_iff_iff]
 simp
theorem dec_str {i j:Str}:decide (V.str i=V.str j)=(i == j):=by
 rw [Bool.eq_iff_iff]
 simp
theorem dec_byt {i j:Array UInt8}:decide (V.byt i=V.byt j)=(i.toList == j.toList):=by
 rw [Bool.eq_iff_iff]
 cases i
 cases j
 simp
section
variable {X:Cx}{a b c:Expr}{ta tb tc:TE}{pos:Pos}
theorem fin_bl {pins:List (Addr × Obj)}{σ:St}{H:Hp}{s:Shared}{Q:VK}{k k':Bool}(I:Inv X pins σ H s)(q:Q (.bl k) H)(e:k=k'):EP X pins σ Q (.bool k') s:=by
 subst e
 exact ⟨.bl k,H,I,rfl,q⟩
theorem op_eq:OpR X (compareOp .Eq) rEq:=by
 intro pins s σ H x y v u Q I rx ry h
 obtain ⟨hs,q⟩:=h
 cases x with
 | non =>
  cases rx
  cases y with
  | non=>cases ry; exact PySem.EqNone.eq_none_none (fin_bl I q (by simp))
  | bl j=>cases ry; exact PySem.EqNone.eq_none_bool (fin_bl I q (by simp))
  | int j=>obtain ⟨t',rfl⟩:=ry; exact PySem.EqNone.eq_none_int (fin_bl I q (by simp))
  | str j=>obtain ⟨t',rfl⟩:=ry; exact PySem.EqNone.eq_none_str (fin_bl I q (by simp))
  | _=>exact absurd (show false=true from hs) Bool.false_ne_true
 | bl i =>
  cases rx
  cases y with
  | non=>cases ry; exact PySem.EqNone.eq_bool_none (fin_bl I q (by simp))
  | bl j=>cases ry; exact eq_bool (fin_bl I q dec_bl)
  | str j=>obtain ⟨t',rfl⟩:=ry; exact PySem.EqMixed.eq_bool_str (fin_bl I q (by simp))
  | _=>exact absurd (show false=true from hs) Bool.false_ne_true
 | int i =>
  obtain ⟨t,rfl⟩:=rx
  cases y with
  | non=>cases ry; exact PySem.EqNone.eq_int_none (fin_bl I q (by simp))
  | int j=>obtain ⟨t',rfl⟩:=ry; exact eq_int (fin_bl I q dec_int)
  | str j=>obtain ⟨t',rfl⟩:=ry; exact PySem.EqMixed.eq_int_str (fin_bl I q (by simp))
  | _=>exact absurd (show false=true from hs) Bool.false_ne_true
 | str i =>
  obtain ⟨t,rfl⟩:=rx
  cases y with
  | non=>cases ry; exact PySem.EqNone.eq_str_none (fin_bl I q (by simp))
  | bl j=>cases ry; exact PySem.EqMixed.eq_str_bool (fin_bl I q (by simp))
  | int j=>obtain ⟨t',rfl⟩:=ry; exact PySem.EqMixed.eq_str_int (fin_bl I q (by simp))
  | str j=>obtain ⟨t',rfl⟩:=ry; exact eq_str (fin_bl I q dec_str)
  | _=>exact absurd (show false=true from hs) Bool.false_ne_true
 | byt i =>
  obtain ⟨t,rfl⟩:=rx
  cases y with
  | byt j=>obtain ⟨t',rfl⟩:=ry; exact PySem.W.eq_bytes (fin_bl I q dec_byt)
  | _=>exact absurd (show false=true from hs) Bool.false_ne_true
 | _=>cases y <;> exact absurd (show false=true from hs) Bool.false_ne_true
theorem op_ne:OpR X (compareOp .NotEq) rNe:=by
 intro pins s σ H x y v u Q I rx ry h
 obtain ⟨hs,q⟩:=h
 cases x with
 | non =>
  cases rx
  cases y with
  | non=>cases ry; exact PySem.EqNone.ne_none_none (fin_bl I q (by simp))
  | bl j=>cases ry; exact PySem.EqNone.ne_none_bool (fin_bl I q (by simp))
  | int j=>obtain ⟨t',rfl⟩:=ry; exact PySem.EqNone.ne_none_int (fin_bl I q (by simp))
  | str j=>obtain ⟨t',rfl⟩:=ry; exact PySem.EqNone.ne_none_str (fin_bl I q (by simp))
  | _=>exact absurd (show false=true from hs) Bool.false_ne_true
 | bl i =>
  cases rx
  cases y with
  | non=>cases ry; exact PySem.EqNone.ne_bool_none (fin_bl I q (by simp))
  | bl j=>cases ry; exact ne_bool (fin_bl I q (congrArg not dec_bl))
  | str j=>obtain ⟨t',rfl⟩:=ry; exact PySem.EqMixed.ne_bool_str (fin_bl I q (by simp))
  | _=>exact absurd (show false=true from hs) Bool.false_ne_true
 | int i =>
  obtain ⟨t,rfl⟩:=rx
  cases y with
  | non=>cases ry; exact PySem.EqNone.ne_int_none (fin_bl I q (by simp))
  | int j=>obtain ⟨t',rfl⟩:=ry; exact ne_int (fin_bl I q (congrArg not dec_int))
  | str j=>obtain ⟨t',rfl⟩:=ry; exact PySem.EqMixed.ne_int_str (fin_bl I q (by simp))
  | _=>exact absurd (show false=true from hs) Bool.false_ne_true
 | str i =>
  obtain ⟨t,rfl⟩:=rx
  cases y with
  | non=>cases ry; exact PySem.EqNone.ne_str_none (fin_bl I q (by simp))
  | bl j=>cases ry; exact PySem.EqMixed.ne_str_bool (fin_bl I q (by simp))
  | int j=>obtain ⟨t',rfl⟩:=ry; exact PySem.EqMixed.ne_str_int (fin_bl I q (by simp))
  | str j=>obtain ⟨t',rfl⟩:=ry; exact ne_str (fin_bl I q (congrArg not dec_str))
  | _=>exact absurd (show false=true from hs) Bool.false_ne_true
 | byt i =>
  obtain ⟨t,rfl⟩:=rx
  cases y with
  | byt j=>obtain ⟨t',rfl⟩:=ry; exact PySem.W.ne_bytes (fin_bl I q (congrArg not dec_byt))
  | _=>exact absurd (show false=true from hs) Bool.false_ne_true
 | _=>cases y <;> exact absurd (show false=true from hs) Bool.false_ne_true
theorem op_lt:OpR X (compareOp .Lt) (rI0 fun i j=>.bl (decide (i < j))):=opB0 fun _ _ _ _ _ _ _ q=>lt_int q
theorem op_gt:OpR X (compareOp .Gt) (rI0 fun i j=>.bl (decide (j < i))):=opB0 fun _ _ _ _ _ _ _ q=>gt_int q
theorem op_in_str:OpR X (compareOp .In) (fun x y H Q=>∃ i j,x=.str i/\y=.str j/\Q (.bl (!(Builtin.Str.occurrences j i 0 j.length 1).isEmpty)) H):=by
 intro pins s σ H x y v u Q I rx ry h
 obtain ⟨i,j,rfl,rfl,q⟩:=h
 obtain ⟨t,rfl⟩:=rx
 obtain ⟨t',rfl⟩:=ry
 exact in_str (fin_bl I q rfl)
theorem op_isN:OpR X (compareOp .Is) (fun x y H Q=>y=.non/\Q (.bl (decide (x=.non))) H):=by
 intro pins s σ H x y v u Q I rx ry h
 obtain ⟨rfl,q⟩:=h
 cases ry
 refine is_none_gen (fin_bl I q ?_)
 cases x <;> first
  | (cases rx; rfl)
  | (obtain ⟨t,rfl⟩:=rx; rfl)
theorem nomark (b:Expr){op:CmpOp}(h:op ≠ .In:=by decide)(h2:op ≠ .NotIn:=by decide):behindInMarks op b=false:=by
 have e1:(op == CmpOp.In)=false:=by cases op <;> first | rfl | exact absurd rfl h
 have e2:(op == CmpOp.NotIn)=false:=by cases op <;> first | rfl | exact absurd rfl h2
 cases b <;> simp [behindInMarks,e1,e2]
theorem pe_cmpR {op:CmpOp}{r:R2}(ho:OpR X (compareOp op) r)(ha:PE X a ta)(hb:PE X b tb)(hm:behindInMarks op b=false):PE X (.Compare a [op] [b] pos) (tOp r ta tb):=by
 intro pins s σ H Q I h
 exact wpAny_Compare1 (binT ha hb I h fun v u s2 x y H2 I2 rx ry q=>ho pins s2 σ H2 x y v u Q I2 rx ry q) hm
noncomputable def tTest (t:TE):TT:=fun σ H Q=>t σ H fun x H'=>∃ k,x=.bl k/\Q k H'
theorem pt_cmpR {op:CmpOp}{r:R2}(ho:OpR X (compareOp op) r)(ha:PE X a ta)(hb:PE X b tb)(hm:behindInMarks op b=false):PT X (.Compare a [op] [b] pos) (tTest (tOp r ta tb)):=by
 intro pins s σ H Q I h
 refine wpAny_isTrue_Compare1 (thn (ha pins s σ H _ I h) fun v s1 ⟨x,H1,I1,r1,q1⟩=>thn (hb pins s1 σ H1 _ I1 q1) fun u s2 ⟨y,H2,I2,r2,q2⟩ =>
  thn (ho pins s2 σ H2 x y v u _ I2 r1 r2 q2) fun c s3 ⟨z,H3,I3,r3,k,e,q3⟩=>?_) hm
 subst e
 cases r3
 exact wpAny_truthy_bool ⟨H3,I3,q3⟩
noncomputable def TruV (K:PySem.W.Frag)(x:V)(H:Hp)(k:Bool):Prop :=
 match x with
 | .non=>k=false
 | .bl b=>k=b
 | .int i=>k=(i != 0)
 | .str y=>y.length<=sizeLine/\k=((y.length:Int) != 0)
 | .byt y=>y.size<=sizeLine/\k=((y.size:Int) != 0)
 | .ref p=>(∃ xs,SqL K H p xs/\k=!xs.isEmpty)\/(∃ xs,SqT K H p xs/\k=!xs.isEmpty)\/∃ kvs,H p=some (.dK kvs)/\k=!kvs.isEmpty
 | _=>False
theorem isEmpty_kv {κ:Type}{kvs:List (κ × V)}{vs:List (κ × Value)}(r:KV kvs vs):(!vs.isEmpty)=!kvs.isEmpty:=by
 cases r <;> rfl
theorem isEmpty_of {xs:List V}{its:List Value}(r:Vals xs its):(!its.toArray.isEmpty)=!xs.isEmpty:=by
 cases r <;> simp
theorem line63:(sizeLine:Nat) < 2 ^ 63:=by rw [sizeLine_eq]; decide
theorem tru_ok:TruR X (fun x H Q=>∃ k,TruV X.K x H k/\Q k H):=by
 intro pins s σ H x v Q I rx h
 obtain ⟨k,e,q⟩:=h
 have hl:=line63
 have hs:sizeLine=16777216:=sizeLine_eq
 cases x with
 | non =>
  cases rx
  have e':k=false:=e
  subst e'
  exact truthy_none ⟨H,I,q⟩
 | bl b =>
  cases rx
  have e':k=b:=e
  subst e'
  exact wpAny_truthy_bool ⟨H,I,q⟩
 | int i =>
  obtain ⟨t,rfl⟩:=rx
  have e':k=(i != 0):=e
  subst e'
  exact PySem.P.truthy_int ⟨H,I,q⟩
 | str y =>
  obtain ⟨t,rfl⟩:=rx
  obtain ⟨hy,e'⟩:y.length<=sizeLine/\k=((y.length:Int) != 0):=e
  subst e'
  exact PySem.P.truthy_str (by omega) ⟨H,I.tok _,q⟩
 | byt y =>
  obtain ⟨t,rfl⟩:=rx
  obtain ⟨hy,e'⟩:y.size<=sizeLine/\k=((y.size:Int) != 0):=e
  subst e'
  exact PySem.W.truthy_bytes (by omega) ⟨H,I.tok _,q⟩
 | ref p =>
  cases rx
  have e':(∃ xs,SqL X.K H p xs/\k=!xs.isEmpty)\/(∃ xs,SqT X.K H p xs/\k=!xs.isEmpty)\/∃ kvs,H p=some (.dK kvs)/\k=!kvs.isEmpty:=e
  rcases e' with ⟨xs,hx,e'⟩ | ⟨xs,hx,e'⟩ | ⟨kvs,hx,e'⟩
  ·subst e'
   obtain ⟨its,r,pl,hz⟩:=I.list hx
   have hlen:=r.length
   exact wpAny_truthy_list pl.isList (by simp only [List.size_toArray]; omega) ⟨H,I.tok _,by rw [isEmpty_of r]; exact q⟩
  ·subst e'
   obtain ⟨its,r,pl,hz⟩:=I.tuple hx
   have hlen:=r.length
   exact truthy_tuple pl (by simp only [List.size_toArray]; omega) ⟨H,I.tok _,by rw [isEmpty_of r]; exact q⟩
  ·subst e'
   obtain ⟨hz,hS,vs,r,m⟩:kvs.length<=sizeLine/\(p == sysModules)=false/\∃ vs,KV kvs vs/\s.heap.DictOf (mixKind X.prog X.w) p vs:=I.hok p _ hx
   have hlen:kvs.length=vs.length:=Paired.length r
   exact wpAny_truthy_dict hS m (by omega) ⟨H,I.tok _,by rw [isEmpty_kv r]; exact q⟩
 | _=>exact (show False from e).elim
theorem pt_truth (ha:PE X a ta)(he:∀ whole,isTrue a X.env whole=(do let v <- whole; standAt a.pos; holding [v] (truthy v))) :
  PT X a (fun σ H Q=>ta σ H fun x H'=>∃ k,TruV X.K x H' k/\Q k H'):=by
 intro pins s σ H Q I h
 exact isTrue_plain (thn (ha pins s σ H _ I h) fun v s1 ⟨x,H1,I1,r1,q1⟩=>tru_ok pins s1 σ H1 x v Q I1 r1 q1) (he _)
theorem op_add_str:OpR X (binaryOp .Add) (fun x y H Q=>∃ i j,x=.str i/\y=.str j/\i.length + j.length<=sizeLine/\Q (.str (i++j)) H):=by
 intro pins s σ H x y v u Q I rx ry h
 obtain ⟨i,j,rfl,rfl,hz,q⟩:=h
 obtain ⟨t,rfl⟩:=rx
 obtain ⟨t',rfl⟩:=ry
 exact add_str (fun t' tk=>⟨.str (i++j),H,I.tok _,⟨_,rfl⟩,q⟩) hz
theorem vals1 {x:V}{us:List Value}(r:Vals [x] us):∃ u,us=[u]/\RelV x u:=by
 cases r with
 | cons r1 r2=>cases r2; exact ⟨_,rfl,r1⟩
theorem vals2 {x y:V}{us:List Value}(r:Vals [x,y] us):∃ u w',us=[u,w']/\RelV x u/\RelV y w':=by
 cases r with
 | cons r1 r2 =>
  cases r2 with
  | cons r3 r4=>cases r4; exact ⟨_,_,rfl,r1,r3⟩
theorem call_abs:CallR X (.builtin "abs") (fun xs H Q=>∃ i,xs=[.int i]/\Q (.int (if i < 0 then -i else i)) H):=by
 intro pins s σ H xs us Q I r h
 obtain ⟨i,rfl,q⟩:=h
 obtain ⟨u,rfl,t,rfl⟩:=vals1 r
 exact call_abs_int fun u tk=>⟨.int (if i < 0 then -i else i),H,I.tok _,⟨_,rfl⟩,q⟩
theorem call_max2 (hc:X.calm=true):CallR X (.builtin "max") (fun xs H Q=>∃ i j,xs=[.int i,.int j]/\Q (.int (if j > i then j else i)) H):=by
 intro pins s σ H xs us Q I r h
 obtain ⟨i,j,rfl,q⟩:=h
 obtain ⟨u,w',rfl,⟨t,rfl⟩,⟨t',rfl⟩⟩:=vals2 r
 refine max_two_ints (I.ok.hd hc) fun h' tk k=>⟨_,H,I.kept k,?_,q⟩
 by_cases hj:j > i
 ·rw [if_pos hj,if_pos hj]; exact ⟨_,rfl⟩
 ·rw [if_neg hj,if_neg hj]; exact ⟨_,rfl⟩
theorem call_min2 (hc:X.calm=true):CallR X (.builtin "min") (fun xs H Q=>∃ i j,xs=[.int i,.int j]/\Q (.int (if j < i then j else i)) H):=by
 intro pins s σ H xs us Q I r h
 obtain ⟨i,j,rfl,q⟩:=h
 obtain ⟨u,w',rfl,⟨t,rfl⟩,⟨t',rfl⟩⟩:=vals2 r
 refine min_two_ints (I.ok.hd hc) fun h' tk k=>⟨_,H,I.kept k,?_,q⟩
 by_cases hj:j < i
 ·rw [if_pos hj,if_pos hj]; exact ⟨_,rfl⟩
 ·rw [if_neg hj,if_neg hj]; exact ⟨_,rfl⟩
theorem call_int1:CallR X (.type "int") (fun xs H Q=>(∃ i,xs=[.int i]/\Q (.int i) H)\/∃ k,xs=[.bl k]/\Q (.int (if k then 1 else 0)) H):=by
 intro pins s σ H xs us Q I r h
 rcases h with ⟨i,rfl,q⟩ | ⟨k,rfl,q⟩
 ·obtain ⟨u,rfl,t,rfl⟩:=vals1 r
  exact call_int_int ⟨.int i,H,I,⟨_,rfl⟩,q⟩
 ·obtain ⟨u,rfl,r1⟩:=vals1 r
  cases r1
  exact call_int_bool ⟨.int (if k then 1 else 0),H,I.tok _,⟨_,rfl⟩,q⟩
theorem call_str_int:CallR X (.type "str") (fun xs H Q=>∃ i,xs=[.int i]/\i.natAbs.log2 < 1920/\Q (.str (toString i)) H):=by
 intro pins s σ H xs us Q I r h
 obtain ⟨i,rfl,hz,q⟩:=h
 obtain ⟨u,rfl,t,rfl⟩:=vals1 r
 exact PySem.P.str_of_int hz ⟨.str _,H,I.tok _,⟨_,rfl⟩,q⟩
end
end L2
namespace L2
open PySem PySem.Spec PyProof.Rows
structure ObjM (h:Heap)(x dx C:Addr)(mA:Str->Option Value):Prop where
 obj:h.get? x=some (PySem.W.instObj C dx)
 ns:h.Ns1 dx mA
 ne:dx ≠ x
theorem lookIn_ns {h:Heap}{dx:Addr}{mA:Str->Option Value}(n:h.Ns1 dx mA):∃ od,h.get? dx=some od/\∀ name,PySem.W.lookIn name od=some (mA name):=by
 obtain ⟨o,es,ep,ho,hd,hk,_,hm⟩:=n
 refine ⟨o,ho,fun name=>?_⟩
 have e:=hm name
 unfold nsFind findBy at e
 rw [<- Array.find?_toList] at e
 unfold PySem.W.lookIn
 rw [hd]
 dsimp only
 split
 ·rename_i y q
  rw [q] at e
  exact congrArg some e
 ·rename_i q
  rw [q] at e
  have a:es.toList.any (·.refKey)=false:=by
   rw [List.any_eq_false]
   intro y hy
   obtain ⟨z,t,hkey⟩:=hk y (Array.mem_toList_iff.mp hy)
   simp [DictEntry.refKey,hkey]
  have a':¬ es.toList.any (·.refKey)=true:=by rw [a]; exact Bool.false_ne_true
  rw [if_neg a']
  exact congrArg some e
theorem ObjM.look {h:Heap}{x dx C:Addr}{mA:Str->Option Value}(I:ObjM h x dx C mA):∃ od,PySem.W.InstAt h x (PySem.W.instObj C dx) C (some od)/\∀ name,PySem.W.lookIn name od=some (mA name) :=
 let ⟨od,ho,hl⟩:=lookIn_ns I.ns
 ⟨od,⟨I.obj,rfl,rfl,ho⟩,hl⟩
section
variable {prog:Program}{w:World}{A:Around}{E:Value->Shared->Prop}{s:Shared}{K:PySem.W.Frag}{x dx C f:Addr}{mA:Str->Option Value}{name:Str}{v:Value}
end
section
variable {P:Program}{w:World}{H H':Hp}{h h':Heap}{a C dx:Addr}{fs fs':List (Str × V)}
theorem ins_get (hok:HOk P w H h)(e:H a=some (.ins C dx fs)):∃ mA,ObjM h a dx C mA/\(∀ f,RelO (fs.lookup f) (mA f))/\PySem.Within mA (fs.map (·.1))/\fs.length<=1000/\H dx=some (.own a):=by
 obtain ⟨d,z,ne,ob,mA,n,r,q⟩:=(show ObjOk P w H h a (.ins C dx fs) from hok a _ e)
 exact ⟨mA,⟨ob,n,ne⟩,r,q,z,d⟩
end
structure Cls (K:PySem.W.Frag)(C:Addr):Prop where
 pg:PySem.W.plainGet K C Str.empty=true
 hd:PySem.W.hasDictIn K C=true
 po:PySem.W.plainOver K C=true
 sa:PySem.W.findIn K (.ref C) "__setattr__"=some (some (.builtin "object.__setattr__"))
theorem Cls.get {K:PySem.W.Frag}{C:Addr}(c:Cls K C)(f:Str):PySem.W.plainGet K C f=true:=c.pg
section
variable {X:Cx}{pins:List (Addr × Obj)}{σ:St}{H:Hp}{s:Shared}{a C dx:Addr}{fs:List (Str × V)}{f:Str}{v:V}{A:Around}{E:Value->Shared->Prop}
end
section
variable {X:Cx}{o e value:Expr}{f:Str}{pos pos' tpos:Pos}{ta tv:TE}
end
section
variable {X:Cx}{pins:List (Addr × Obj)}{σ:St}{H:Hp}{s:Shared}{A:Around}{E:Value->Shared->Prop}{Q:Value->Shared->Prop}{c:Value}{b:Bool}
inductive TyOf (K:PySem.W.Frag)(H:Hp):V->Value->Prop where
 | non:TyOf K H .non (.type "NoneType")
 | bl (x:Bool):TyOf K H (.bl x) (.type "bool")
 | int (i:Int):TyOf K H (.int i) (.type "int")
 | str (x:Str):TyOf K H (.str x) (.type "str")
 | flt (x:UInt64):TyOf K H (.flt x) (.type "float")
 | lst {a:Addr} {xs:List V} (e:H a=some (.lst xs)):TyOf K H (.ref a) (.type "list")
 | frz {a:Addr} {o:Obj} {xs:List V} (e:H a=some (.frz o (.lst xs))):TyOf K H (.ref a) (.type "list")
 | tup {a:Addr} {xs:List V} (e:H a=some (.tup xs)):TyOf K H (.ref a) (.type "tuple")
 | dK {a:Addr} {kvs:List (Key × V)} (e:H a=some (.dK kvs)):TyOf K H (.ref a) (.type "dict")
 | dT {a:Addr} {kvs:List (List Key × V)} (e:H a=some (.dT kvs)):TyOf K H (.ref a) (.type "dict")
 | ins {a C dx:Addr} {fs:List (Str × V)} (e:H a=some (.ins C dx fs)) (cl:Cls K C) (ha:PySem.W.findIn K (.ref C) "__class__"=some (some (.builtin "object.__class__")))
   (hn:PySem.W.specialIn K (.builtin "object.__class__") "__get__"=some (some (.builtin "getset_descriptor.__get__"))) (htk:PySem.W.takesIn K (.builtin "object.__class__")=some true)
   (hm:PySem.W.mroIn K C (.type "object")=some true):TyOf K H (.ref a) (.ref C)
theorem isinst_ok {x:V}{u t:Value}(I:Inv X pins σ H s)(rx:RelV x u)(ty:TyOf X.K H x t)(e:PySem.W.kitOne X.K t c=some b)(h:∀ tk,Q (.bool b) { s with toks:=tk }) :
  wpAny (model X.prog X.w) A (call (.builtin "isinstance") [u,c]) Q E s:=by
 cases ty with
 | non=>cases (show u=Value.none from rx); exact PySem.W.kia_one PySem.W.kitx_none I.kIn True.intro e (fun z=>nomatch z) h
 | bl y=>cases (show u=Value.bool y from rx); exact PySem.W.kia_one PySem.W.kitx_bool I.kIn True.intro e (fun z=>nomatch z) h
 | int i=>obtain ⟨t,q⟩:=(show ∃ t,u=Value.int i t from rx); cases q; exact PySem.W.kia_one PySem.W.kitx_int I.kIn True.intro e (fun z=>nomatch z) h
 | str y=>obtain ⟨t,q⟩:=(show ∃ t,u=Value.str y t from rx); cases q; exact PySem.W.kia_one PySem.W.kitx_str I.kIn True.intro e (fun z=>nomatch z) h
 | flt y=>obtain ⟨t,q⟩:=(show ∃ t,u=Value.float y t from rx); cases q; exact PySem.W.kia_one PySem.W.kitx_float I.kIn True.intro e (fun z=>nomatch z) h
 | @lst a xs ea =>
  cases (show u=Value.ref a from rx)
  obtain ⟨_,_,n,_,h1⟩:=(show ObjOk X.prog X.w H s.heap a (.lst xs) from I.hok a _ ea)
  exact PySem.W.kia_one PySem.W.kitx_list I.kIn ⟨_,h1,rfl⟩ e (fun z=>nomatch z) h
 | @frz a ob xs ea =>
  cases (show u=Value.ref a from rx)
  obtain ⟨_,_,_,n,_,h1⟩:=(show ObjOk X.prog X.w H s.heap a (.frz ob (.lst xs)) from I.hok a _ ea)
  exact PySem.W.kia_one PySem.W.kitx_list I.kIn ⟨_,h1,rfl⟩ e (fun z=>nomatch z) h
 | @tup a xs ea =>
  cases (show u=Value.ref a from rx)
  obtain ⟨_,_,_,p⟩:=(show ObjOk X.prog X.w H s.heap a (.tup xs) from I.hok a _ ea)
  obtain ⟨o,h1,h2,_⟩:=p
  exact PySem.W.kia_one PySem.W.kitx_tuple I.kIn ⟨o,h1,h2⟩ e (fun z=>nomatch z) h
 | @dK a kvs ea =>
  cases (show u=Value.ref a from rx)
  obtain ⟨_,_,vs,_,p⟩:=(show ObjOk X.prog X.w H s.heap a (.dK kvs) from I.hok a _ ea)
  obtain ⟨o,es,ep,h1,h2,_⟩:=p
  exact PySem.W.kia_one PySem.W.kitx_dict I.kIn ⟨o,h1,h2.1⟩ e (fun z=>nomatch z) h
 | @dT a kvs ea =>
  cases (show u=Value.ref a from rx)
  obtain ⟨_,_,xs,_,o,es,ep,h1,h2,_⟩:=(show ObjOk X.prog X.w H s.heap a (.dT kvs) from I.hok a _ ea)
  exact PySem.W.kia_one PySem.W.kitx_dict I.kIn ⟨o,h1,h2.1⟩ e (fun z=>nomatch z) h
 | @ins a C dx fs ea cl ha hn htk hm =>
  cases (show u=Value.ref a from rx)
  obtain ⟨mA,O,_⟩:=ins_get I.hok ea
  obtain ⟨od,J,_⟩:=O.look
  exact PySem.W.kia_one (PySem.W.kitx_own (cl.get _) cl.hd ha hn htk hm) I.kIn J e (fun z=>nomatch z) h
end
end L2
namespace L2
open PySem PySem.Spec PyProof.Rows
structure Room (k:Nat)(A:Around):Prop where
 hd:A.handled=none
 dp:A.depth + 3 * k + 5 < recursionLimit
 un:A.units + 16 * k + 200 < cLine
theorem Room.mono {j k:Nat}{A:Around}(r:Room k A)(h:j<=k):Room j A:=⟨r.hd,by have:=r.dp; omega,by have:=r.un; omega⟩
theorem Room.deeper {k:Nat}{A:Around}(r:Room (k + 1) A)(env:Env):Room k (A.deeper env) :=
 ⟨r.hd,by have:=r.dp; show A.depth + 1 + 3 * k + 5 < _; omega,by have:=r.un; show A.units + 3 + 16 * k + 200 < _; omega⟩
theorem Room.depth {k:Nat}{A:Around}(r:Room k A):A.depth < recursionLimit:=by have:=r.dp; omega
theorem Room.units {k:Nat}{A:Around}(r:Room k A):A.units + 64 < cLine:=by have:=r.un; omega
noncomputable def tNil:TA:=fun _ H Q=>Q [] H
noncomputable def tCons (ta:TE)(tr:TA):TA:=fun σ H Q=>ta σ H fun x H1=>tr σ H1 fun xs H2=>Q (x :: xs) H2
section
variable {X:Cx}{e:Expr}{es:List Expr}{te:TE}{t:TA}{pos:Pos}
theorem pa_nil:PA X [] tNil:=fun _ _ _ _ H Q I h=>Calls.spliced_nil ⟨[],H,I,.nil,h⟩
theorem pa_cons (ha:PE X e te)(hr:PA X es t)(hs:starEach (e :: es) X.env=(false,eval e X.env) :: starEach es X.env:=by rfl):PA X (e :: es) (tCons te t):=by
 intro pos pins s σ H Q I h
 rw [hs]
 show wpAny _ _ (spliced ((false,eval e X.env) :: backTo pos (starEach es X.env))) _ _ s
 refine Calls.spliced_cons (thn (ha pins s σ H _ I h) fun u s1 ⟨x,H1,I1,r1,q1⟩=>?_)
 exact thn (hr pos pins s1 σ H1 _ I1 q1) fun us s2 ⟨xs,H2,I2,r2,q2⟩=>⟨x :: xs,H2,I2,.cons r1 r2,q2⟩
noncomputable def tTup (t:TA):TE:=fun σ H Q=>t σ H fun xs H1=>xs.length<=sizeLine/\∀ p,H1 p=none->Q (.ref p) (upd H1 p (.tup xs))
noncomputable def tLst (t:TA):TE:=fun σ H Q=>t σ H fun xs H1=>xs.length<=sizeLine/\∀ p,H1 p=none->Q (.ref p) (upd H1 p (.lst xs))
theorem pe_tup {x1}(h:PA X es t):PE X (.Tuple es x1 pos) (tTup t):=by
 intro pins s σ H Q I hq
 refine wpAny_Tuple_spliced (thn (h pos pins s σ H _ I hq) fun us s1 ⟨xs,H1,I1,r,z,q⟩=>⟨by rw [<- r.length]; exact z,?_⟩)
 have hf:H1 s1.heap.objs.size=none:=I1.hok.fresh (Nat.le_refl _)
 refine ⟨.ref s1.heap.objs.size,upd H1 s1.heap.objs.size (.tup xs),I1.laid (t':=s1.toks) (fun b u e=>Heap.get?_push_of_some _ e) (Nat.le_refl _) ?_,rfl,q _ hf⟩
 exact ⟨z,us,r,⟨_,Heap.get?_push_size _ rfl,rfl,_,rfl⟩⟩
theorem pe_lst (h:PA X es t):PE X (.List es pos) (tLst t):=by
 intro pins s σ H Q I hq
 refine wpAny_List_spliced (thn (h pos pins s σ H _ I hq) fun us s1 ⟨xs,H1,I1,r,z,q⟩=>⟨by rw [<- r.length]; exact z,?_⟩)
 have hf:H1 s1.heap.objs.size=none:=I1.hok.fresh (Nat.le_refl _)
 refine ⟨.ref s1.heap.objs.size,upd H1 s1.heap.objs.size (.lst xs),I1.laid (t':=s1.toks) (fun b u e=>Heap.get?_push_of_some _ e) (Nat.le_refl _) ?_,rfl,q _ hf⟩
 exact ⟨z,us,0,r,Heap.get?_push_size _ rfl⟩
end
noncomputable abbrev Sp:=List V->Hp->VK->XK->Prop
noncomputable abbrev CXT:=List Env->Hp->Shared->XK->Value->Shared->Prop
structure Env0 (P:Program)(w:World)(K:PySem.W.Frag)(mg:Str->Option Value)(base:Heap)(A:Around)(outer:List Env)(s:Shared)(H:Hp):Prop where
 frames:A.frames=some outer
 mod:Mod K mg base
 bs:∀ b o,base.get? b=some o->s.heap.get? b=some o/\H b=none
 bsz:base.objs.size<=s.heap.objs.size
 funs:s.heap.FunFrames base outer
 frf:∀ b ∈ frs outer,H b=none
 hok:HOk P w H s.heap
 bare:AllBare s.gens
noncomputable def CE (outer:List Env)(P:Program)(w:World)(H:Hp)(s:Shared)(Q:VK)(u:Value)(s':Shared):Prop :=
 ∃ v H',s'.os=s.os/\AllBare s'.gens/\Un (frs outer) [] H H' s.heap s'.heap/\HOk P w H' s'.heap/\RelV v u/\Q v H'
noncomputable def CR (CX:CXT)(outer:List Env)(P:Program)(w:World)(H:Hp)(s:Shared)(Q:VK)(E:XK)(r:Result)(s':Shared):Prop :=
 match r with
 | .ok (.ret u)=>CE outer P w H s Q u s'
 | .ok _=>False
 | .error e=>CX outer H s E e s'
structure FnOk (P:Program)(w:World)(K:PySem.W.Frag)(mg:Str->Option Value)(base:Heap)(CX:CXT)(k:Nat)(f:Addr)(fd:FuncData)(ps:List Str)(sp:Sp):Prop where
 len:∀ vs H Q E,sp vs H Q E->vs.length=ps.length
 run:∀ (A:Around) (outer:List Env) (s:Shared) (H:Hp) (args:Args) (us:List Value) (vs:List V) (Q:VK) (E:XK),Room k A->Env0 P w K mg base A outer s H->BindsTo s fd args (ps.zip us)->Vals vs us->sp vs H Q E ->
  codeAny (model P w) A (.call (.ref f) args) (CR CX outer P w H s Q E) s
theorem FnOk.mono {P:Program}{w:World}{K:PySem.W.Frag}{mg:Str->Option Value}{base:Heap}{CX:CXT}{j k:Nat}{f:Addr}{fd:FuncData}{ps:List Str}{sp:Sp}(F:FnOk P w K mg base CX j f fd ps sp)(h:j<=k) :
  FnOk P w K mg base CX k f fd ps sp:=⟨F.len,fun A outer s H args us vs Q E hr=>F.run A outer s H args us vs Q E (hr.mono h)⟩
section
variable {X:Cx}{pins:List (Addr × Obj)}{σ:St}{H:Hp}{s s':Shared}
theorem Inv.env0 (I:Inv X pins σ H s):Env0 X.prog X.w X.K X.mg X.base X.A X.stack s H :=
 ⟨I.ok.frames,I.ok.mod,I.bs,Nat.le_trans I.ok.bsz I.sz,I.stack,I.stkFree,I.hok,I.bare⟩
theorem Inv.after {Q:VK}{u:Value}(I:Inv X pins σ H s)(h:CE X.stack X.prog X.w H s Q u s'):EP X pins σ Q u s':=by
 obtain ⟨v,H',os,bare,un,hok,r,q⟩:=h
 obtain ⟨hh,g,d,t,os'⟩:=s'
 obtain rfl:os'=s.os:=os
 exact ⟨v,H',I.call (h':=hh) (g':=g) (d':=d) (t':=t) (ch:=[]) un hok bare (fun b z=>absurd z (by simp)),r,q⟩
end
noncomputable def tCall (sp:Sp)(dvs:List V)(E:XK)(t:TA):TE:=fun σ H Q=>t σ H fun vs H1=>sp (vs++dvs) H1 Q E
noncomputable def Binds (K:PySem.W.Frag)(fd:FuncData)(ps:List Str)(ds:List Value):Prop :=
 ∀ (s:Shared) (us:List Value),K.In s.heap->(us++ds).length=ps.length->BindsTo s fd ⟨us,[]⟩ (ps.zip (us++ds))
theorem Binds.all {K:PySem.W.Frag}{fd:FuncData}{ps:List Str}(h:∀ us:List Value,us.length=ps.length->bindArgs fd ⟨us,[]⟩=pure (ps.zip us)):Binds K fd ps []:=fun s us _ hl=>by
 rw [List.append_nil] at hl ⊢
 exact .of_eq (h us hl)
noncomputable def Passes (CX:CXT)(X:Cx)(E:XK):Prop:=∀ (pins:List (Addr × Obj)) (σ:St) (H:Hp) (s:Shared) (e:Value) (s':Shared),Inv X pins σ H s->CX X.stack H s E e s'->X.xe e s'
section
variable {X:Cx}{CX:CXT}{k:Nat}{f C:Addr}{fd:FuncData}{ps:List Str}{sp:Sp}{dvs:List V}{ds:List Value}{E:XK}{x m:Str}{p pos apos:Pos}{e o:Expr}{es:List Expr}{ta:TE}{t:TA}
theorem run_fn {pins:List (Addr × Obj)}{σ:St}{H:Hp}{s:Shared}{Q:VK}{us:List Value}{vs:List V}(F:FnOk X.prog X.w X.K X.mg X.base CX k f fd ps sp)(hr:Room k X.A)(hb:Binds X.K fd ps ds)(hd:Vals dvs ds)(hx:Passes CX X E)
  (I:Inv X pins σ H s) (r:Vals vs us) (h:sp (vs++dvs) H Q E):wpAny (model X.prog X.w) X.A (call (.ref f) us) (EP X pins σ Q) X.xe s:=by
 have r2:Vals (vs++dvs) (us++ds):=r.append hd
 have hl:(us++ds).length=ps.length:=by rw [<- r2.length]; exact F.len _ _ _ _ h
 refine wpAny_call (codeAny_mono (F.run X.A X.stack s H ⟨us,[]⟩ (us++ds) (vs++dvs) Q E hr I.env0 (hb s us I.kIn hl) r2 h) fun r s' hq=>?_)
 cases r with
 | error e=>exact hx pins σ H s e s' I hq
 | ok fl =>
  cases fl with
  | ret u=>exact I.after hq
  | next=>exact False.elim hq
  | brk=>exact False.elim hq
  | cont=>exact False.elim hq
theorem pe_call (F:FnOk X.prog X.w X.K X.mg X.base CX k f fd ps sp)(hr:Room k X.A)(hg:Gl X x)(hm:X.mg x=some (.ref f))(hk:PySem.W.keepIn X.K (.ref f)=true)(hb:Binds X.K fd ps ds)(hd:Vals dvs ds)(hx:Passes CX X E)
  (ha:PA X (e :: es) t) (hdb:(x == ("__debug__":Str))=false:=by decide) (he:starEach (e :: es) X.env=(false,eval e X.env) :: starEach es X.env:=by rfl) (hpl:(backTo pos (starEach es X.env)).any (·.1)=false:=by rfl) :
  PE X (.Call (.Name x p) (e :: es) [] pos) (tCall sp dvs E t):=by
 intro pins s σ H Q I h
 refine wpAny_Call_Name_kw (ld_glob I hg hm ?_ hdb)
 refine PySem.W.callWith_K (h₀:=X.base) I.ok.mod.kin hk (thn (ha pos pins s σ H _ I h) fun us s1 ⟨vs,H1,I1,r,q⟩=>⟨I1.kIn,?_⟩) he hpl
 exact run_fn F hr hb hd hx I1 r q
end
section
variable {X:Cx}{CX:CXT}{k:Nat}{f C:Addr}{fd:FuncData}{ps ks:List Str}{sp:Sp}{E:XK}{x m:Str}{p pos apos kpos:Pos}{e o:Expr}{es:List Expr}{kws:List Keyword}{te ta:TE}{t tk:TA}{nm:Option Str}
variable {g:List Value->List Value->List Value}{gV:List V->List V->List V}
end
structure FnScope (N P:List Str)(sc:Scope):Prop where
 kind:sc.kind=.function
 co:sc.isCoroutine=false
 gen:sc.isGenerator=false
 nd:N.Nodup
 pre:N.take P.length=P
 par:∀ x ∈ P,sc.names.lookup x=some .local\/sc.names.lookup x=some .cell
 nofree:∀ y ∈ sc.names,y.2 ≠ .free
theorem bindL_out {kindOf:Str->Option NameKind}{x:Str}:∀ {binds:List (Str × Value)} {m:Str->Option Value},(∀ v,(x,v) ∉ binds)->bindL kindOf binds m x=m x
 | [],_,_=>rfl
 | (n,v) :: r,m,h=>by
  unfold bindL
  rw [bindL_out fun w hw=>h w (List.mem_cons_of_mem _ hw)]
  split
  ·have:x ≠ n:=by rintro rfl; exact h v List.mem_cons_self
   simp [this]
  ·rfl
theorem bindC_out {kindOf:Str->Option NameKind}{x:Str}:∀ {binds:List (Str × Value)} {m:Str->Option Value},(∀ v,(x,v) ∉ binds)->bindC kindOf binds m x=m x
 | [],_,_=>rfl
 | (n,v) :: r,m,h=>by
  unfold bindC
  rw [bindC_out fun w hw=>h w (List.mem_cons_of_mem _ hw)]
  split
  ·rfl
  ·have:x ≠ n:=by rintro rfl; exact h v List.mem_cons_self
   simp [this]
theorem bindL_get {kindOf:Str->Option NameKind}{x:Str}{v:Value}:∀ {P:List Str} {vs:List Value} {i:Nat} {m:Str->Option Value},P.Nodup->P[i]?=some x->vs[i]?=some v->kindOf x=some .local ->
  bindL kindOf (P.zip vs) m x=some v
 | [],_,_,_,_,h,_,_=>by simp at h
 | _ :: _,[],_,_,_,_,h,_=>by simp at h
 | p :: P,w :: vs,0,m,nd,h1,h2,hk=>by
  simp at h1 h2; subst h1; subst h2
  show bindL kindOf ((p,w) :: P.zip vs) m p=_
  unfold bindL
  rw [bindL_out fun v hv=>(List.nodup_cons.mp nd).1 (List.of_mem_zip hv).1,if_pos hk]
  simp
 | p :: P,w :: vs,i + 1,m,nd,h1,h2,hk=>by
  show bindL kindOf ((p,w) :: P.zip vs) m x=_
  unfold bindL
  exact bindL_get (i:=i) (List.nodup_cons.mp nd).2 (by simpa using h1) (by simpa using h2) hk
theorem bindC_get {kindOf:Str->Option NameKind}{x:Str}{v:Value}:∀ {P:List Str} {vs:List Value} {i:Nat} {m:Str->Option Value},P.Nodup->P[i]?=some x->vs[i]?=some v->kindOf x ≠ some .local ->
  bindC kindOf (P.zip vs) m x=some v
 | [],_,_,_,_,h,_,_=>by simp at h
 | _ :: _,[],_,_,_,_,h,_=>by simp at h
 | p :: P,w :: vs,0,m,nd,h1,h2,hk=>by
  simp at h1 h2; subst h1; subst h2
  show bindC kindOf ((p,w) :: P.zip vs) m p=_
  unfold bindC
  rw [bindC_out fun v hv=>(List.nodup_cons.mp nd).1 (List.of_mem_zip hv).1,if_neg hk]
  simp
 | p :: P,w :: vs,i + 1,m,nd,h1,h2,hk=>by
  show bindC kindOf ((p,w) :: P.zip vs) m x=_
  unfold bindC
  exact bindC_get (i:=i) (List.nodup_cons.mp nd).2 (by simpa using h1) (by simpa using h2) hk
noncomputable def start (N:List Str)(vs:List V):St:=vs.map some++List.replicate (N.length - vs.length) none
noncomputable def cxOf (CX:CXT)(P:Program)(w:World)(K:PySem.W.Frag)(mg:Str->Option Value)(base:Heap)(N:List Str)(qual:Str)(scope:Scope)(f:Addr)(cd:Value)(A:Around)(outer:List Env)(s:Shared)(H:Hp)(E:XK):Cx where
 prog:=P
 w:=w
 K:=K
 mg:=mg
 base:=base
 A:=A.deeper (envOfC qual scope s.heap.objs.size f cd)
 N:=N
 s₀:=s
 H₀:=H
 env:=envOfC qual scope s.heap.objs.size f cd
 outer:=outer
 stack:=envOfC qual scope s.heap.objs.size f cd :: outer
 ex:=[]
 calm:=true
 fn:=fun _=>true
 pn:=[]
 xe:=fun e s'=>wpAny (model P w) (A.deeper (envOfC qual scope s.heap.objs.size f cd)) (leaving (envOfC qual scope s.heap.objs.size f cd) e) (fun _ s''=>CX outer H s E e s'') (fun e' s''=>CX outer H s E e' s'') s'
theorem cell_has {sc:Scope}{n:Nat}{x:Str}(h:sc.names.lookup x=some .cell):∃ c,(cellsFrom n sc.names []).lookup x=some c:=by
 have q:=PySem.W.cellsFrom_some sc.names n [] (.inl h)
 exact Option.isSome_iff_exists.mp q
theorem inv_start {CX:CXT}{P:Program}{w:World}{K:PySem.W.Frag}{mg:Str->Option Value}{base:Heap}{N ps:List Str}{qual:Str}{scope:Scope}{f:Addr}{cd:Value}{A:Around}{outer:List Env}{s s1:Shared}{H:Hp}{E:XK}{us:List Value}{vs:List V}
  (S:FnScope N ps scope) (hd:A.handled=none) (e0:Env0 P w K mg base A outer s H) (hl:vs.length=ps.length) (r:Vals vs us)
  (x:InCallC s s.heap.objs.size (bindL (envOfC qual scope s.heap.objs.size f cd).kindOf (ps.zip us) fun _=>none) (cellsFrom (s.heap.objs.size + 1) scope.names []) (bindC (envOfC qual scope s.heap.objs.size f cd).kindOf (ps.zip us) fun _=>none) s1) :
  Inv (cxOf CX P w K mg base N qual scope f cd A outer s H E) [] (start N vs) H s1:=by
 have hpl:ps.length<=N.length:=by have:=congrArg List.length S.pre; rw [List.length_take] at this; omega
 obtain ⟨h1,tk,rfl,hk⟩:=x.done
 have noA:∀ b:Addr,b ∉ (cxOf CX P w K mg base N qual scope f cd A outer s H E).ex:=fun b z=>absurd (show b ∈ ([]:List Addr) from z) (by simp)
 refine ⟨⟨e0.mod,S.kind,rfl,rfl,Nat.le_refl _,fun y z c h1 h2=>?_,fun y hy=>?_,fun y c _ h=>?_,fun _=>hd,Around.frames_deeper e0.frames,.inr ⟨rfl,rfl⟩,fun b z=>absurd z (noA b),e0.bs,e0.bsz,fun b _ _=>noA b,fun b z=>absurd z (noA b),e0.funs,e0.frf⟩,
  rfl,e0.bare,Un.kept hk,⟨_,x.toInCall.ns,fun i y v h1 h2 h3=>?_⟩,fun y c h=>⟨_,x.cell y c h⟩,e0.hok.fresh (Nat.le_refl _),fun y c h=>?_,fun p hp=>absurd (show p ∈ ([]:List (Addr × Obj)) from hp) (by simp),e0.hok.kept hk,?_⟩
 ·exact name_of_addr x.apart (PySem.mem_of_lookup h1) (PySem.mem_of_lookup h2)
 ·have hy:scope.names.lookup y=some .cell\/scope.names.lookup y=some .free:=hy
  rcases hy with hy | hy
  ·exact cell_has hy
  ·exact absurd rfl (S.nofree _ (PySem.mem_of_lookup hy))
 ·exact Nat.le_of_lt (x.above y c (PySem.mem_of_lookup h))
 ·have hi:i < vs.length:=by
   unfold start at h2
   by_cases hi:i < vs.length
   ·exact hi
   ·rw [List.getElem?_append_right (by simpa using hi)] at h2
    rw [List.getElem?_replicate] at h2
    split at h2 <;> cases h2
  have ha:vs[i]?=some v:=by
   unfold start at h2
   rw [List.getElem?_append_left (by simpa using hi),List.getElem?_map] at h2
   cases e:vs[i]? with
   | none=>rw [e] at h2; cases h2
   | some a=>rw [e] at h2; cases h2; rfl
  obtain ⟨u,hu,rv⟩:=r.get ha
  have hp:ps[i]?=some y:=by
   rw [<- S.pre,List.getElem?_take_of_lt (by omega)]; exact h1
  have ndP:ps.Nodup:=by rw [<- S.pre]; exact S.nd.sublist (List.take_sublist _ _)
  refine ⟨u,rv,?_⟩
  rcases S.par y (List.mem_of_getElem? hp) with k | k
  ·exact .inl ⟨k,bindL_get ndP hp hu k⟩
  ·obtain ⟨c,e⟩:=cell_has (n:=s.heap.objs.size + 1) k
   refine .inr ⟨.inl k,c,e,?_⟩
   have q:=x.cell y c e
   rw [bindC_get ndP hp hu (by show scope.names.lookup y ≠ _; rw [k]; decide)] at q
   exact q
 ·exact e0.hok.fresh (Nat.le_of_lt (x.above y c (PySem.mem_of_lookup h)))
 ·unfold start
  show _=N.length
  rw [List.length_append,List.length_map,List.length_replicate]
  omega
theorem fn_of {CX:CXT}{P:Program}{w:World}{K:PySem.W.Frag}{mg:Str->Option Value}{base:Heap}{k:Nat}{f:Addr}{name qual:Str}{params:Arguments}{body:List Stmt}{scope:Scope}{dV kV doc pm cdv ct oc:Value}{an od:Option Addr}
  {osl:Array (Option Value)} {N ps:List Str} {sp:Sp} (lk:K.lookup f=some ⟨oc,od,.func (PySem.W.fnOf name qual params body scope dV kV doc pm an cdv ct),osl⟩) (hcd:PySem.W.codeIn K cdv qual=true) (S:FnScope N ps scope)
  (len:∀ vs H Q E,sp vs H Q E->vs.length=ps.length)
  (hbody:∀ (A:Around) (outer:List Env) (s:Shared) (H:Hp) (vs:List V) (Q:VK) (E:XK),Room k (A.deeper (envOfC qual scope s.heap.objs.size f cdv))->sp vs H Q E ->
   ∃ t,PSs (cxOf CX P w K mg base N qual scope f cdv A outer s H E) body t/\t { nx:=fun _ H'=>Q .non H',rt:=Q } (start N vs) H) :
  FnOk P w K mg base CX (k + 1) f (PySem.W.fnOf name qual params body scope dV kV doc pm an cdv ct) ps sp:=by
 refine ⟨len,fun A outer s H args us vs Q E hr e0 hb r hsp=>?_⟩
 have hl:=len _ _ _ _ hsp
 have KX:K.In s.heap:=e0.mod.kin.keeps fun b o e=>(e0.bs b o e).1
 have lim:s.heap.NoLimit:=e0.mod.nolimit.keeps fun b o e=>(e0.bs b o e).1
 have hkind:∀ y ∈ ps.zip us,scope.names.lookup y.1=some .local\/(scope.names.lookup y.1=some .cell/\((cellsFrom (s.heap.objs.size + 1) scope.names []).lookup y.1).isSome=true):=fun ⟨n,v⟩ hy=>by
  rcases S.par n (List.of_mem_zip hy).1 with q | q
  ·exact .inl q
  ·exact .inr ⟨q,PySem.W.cellsFrom_some _ _ _ (.inl q)⟩
 refine codeAny_call_function hr.depth (KX _ _ lk) rfl S.co S.gen rfl (PySem.W.codeRec_of KX hcd) (hb _ _ _ _ ?_)
 refine wpAny_newFunctionEnv_cells S.kind hkind fun env he s1 x=>?_
 subst he
 refine ⟨lim.keeps x.toInCall.keep,codeAny_func ?_⟩
 obtain ⟨t,ht,hq⟩:=hbody A outer s H vs Q E (hr.deeper _) hsp
 have I:Inv (cxOf CX P w K mg base N qual scope f cdv A outer s H E) [] (start N vs) H s1:=inv_start S hr.hd e0 hl r x
 refine wpAny_mono (ht [] s1 (start N vs) H _ I hq) (fun fl s' hs=>?_) fun e s' hs=>hs
 have fin:∀ {σ':St} {H':Hp} {v:V} {u:Value},Inv (cxOf CX P w K mg base N qual scope f cdv A outer s H E) [] σ' H' s'->RelV v u->Q v H'->CE outer P w H s Q u s' :=
  fun {σ' H' v u} J rv q=>⟨v,H',J.os,J.bare,J.base,J.hok,rv,q⟩
 cases fl with
 | ret u =>
  obtain ⟨v,σ',H',J,rv,q⟩:=hs
  exact fin J rv q
 | next =>
  obtain ⟨σ',H',J,q⟩:=hs
  exact fin (v:=V.non) (u:=Value.none) J rfl q
 | brk =>
  obtain ⟨_,_,_,q⟩:=hs
  exact False.elim q
 | cont =>
  obtain ⟨_,_,_,q⟩:=hs
  exact False.elim q
end L2
namespace L2
open PySem PySem.Spec PyProof.Rows
section
variable {X:Cx}{x:Str}{p pos:Pos}{e:Expr}{es:List Expr}{t:TA}{id T:String}{r:List V->Hp->VK->Prop}
noncomputable def tCB (r:List V->Hp->VK->Prop)(t:TA):TE:=fun σ H Q=>t σ H fun vs H1=>r vs H1 Q
theorem pe_callB (hc:CallR X (.builtin id) r)(hg:Gl X x)(hm:X.mg x=none)(hv:bootBuiltins x=some (.builtin id))(ha:PA X (e :: es) t)(hn:x ≠ "__name__":=by decide)(hdb:(x == ("__debug__":Str))=false:=by decide)
  (he:starEach (e :: es) X.env=(false,eval e X.env) :: starEach es X.env:=by rfl) (hpl:(backTo pos (starEach es X.env)).any (·.1)=false:=by rfl):PE X (.Call (.Name x p) (e :: es) [] pos) (tCB r t):=by
 intro pins s σ H Q I h
 refine wpAny_Call_Name_kw (ld_blt I hg hm hv ?_ hn hdb)
 exact PyProof.Rows.callWith_builtin1 (thn (ha pos pins s σ H _ I h) fun us s1 ⟨vs,H1,I1,r1,q1⟩=>hc pins s1 σ H1 vs us Q I1 r1 q1) he hpl
theorem pe_callTy (hc:CallR X (.type T) r)(hg:Gl X x)(hm:X.mg x=none)(hv:bootBuiltins x=some (.type T))(ha:PA X (e :: es) t)(hn:x ≠ "__name__":=by decide)(hdb:(x == ("__debug__":Str))=false:=by decide)
  (he:starEach (e :: es) X.env=(false,eval e X.env) :: starEach es X.env:=by rfl) (hpl:(backTo pos (starEach es X.env)).any (·.1)=false:=by rfl):PE X (.Call (.Name x p) (e :: es) [] pos) (tCB r t):=by
 intro pins s σ H Q I h
 refine wpAny_Call_Name_kw (ld_blt I hg hm hv ?_ hn hdb)
 exact PyProof.Rows.callWith_type1 (thn (ha pos pins s σ H _ I h) fun us s1 ⟨vs,H1,I1,r1,q1⟩=>hc pins s1 σ H1 vs us Q I1 r1 q1) he hpl
end
end L2
namespace HT
open PySem PyProof.Rows
section
open PySem.SeqAt
open PySem.AutoSeq1 (wpAny_loadPart')
open PySem.MeetsSeq PySem.MeetsSeq2 PySem.MeetsSeq3
end
section
variable {prog:Program}{w:World}{A:Around}{E:Value->Shared->Prop}{s:Shared}
noncomputable def sIx (n d:Nat):Option Int->Nat
 | none=>d
 | some v=>if v < 0 then (v + (n:Int)).toNat else min v.toNat n
theorem sIx_none (n d:Nat):sIx n d none=d:=rfl
theorem sIx_nat (n d k:Nat):sIx n d (some (k:Int))=min k n:=by
 show (if (k:Int) < 0 then ((k:Int) + (n:Int)).toNat else min (k:Int).toNat n)=min k n
 rw [if_neg (by omega),Int.toNat_natCast]
theorem sIx_le (n d:Nat)(hd:d<=n)(o:Option Int):sIx n d o<=n:=by
 cases o with
 | none=>exact hd
 | some v =>
  show (if v < 0 then (v + (n:Int)).toNat else min v.toNat n)<=n
  by_cases hv:v < 0
  ·rw [if_pos hv]; omega
  ·rw [if_neg hv]; exact Nat.min_le_right _ _
end
end HT
namespace L2
open PySem PySem.Spec PyProof.Rows
noncomputable abbrev TO:=St->Hp->(Option Int->Hp->Prop)->Prop
noncomputable def PO (X:Cx)(e:Option Expr)(t:TO):Prop :=
 ∀ (pins:List (Addr × Obj)) (s:Shared) (σ:St) (H:Hp) (Q:Option Int->Hp->Prop),Inv X pins σ H s->t σ H Q ->
  wpAny (model X.prog X.w) X.A (evalPart e X.env) (fun u s'=>∃ o H',Inv X pins σ H' s'/\IsPart u o/\Q o H') X.xe s
noncomputable def tNoPart:TO:=fun _ H Q=>Q none H
noncomputable def tPart (t:TE):TO:=fun σ H Q=>t σ H fun x H1=>∃ i,x=.int i/\Q (some i) H1
section
variable {X:Cx}{e:Expr}{te:TE}{lo hi:Option Expr}{tl th:TO}{pos p2:Pos}
theorem po_none:PO X none tNoPart:=by
 intro pins s σ H Q I h
 rw [evalPart_none]
 exact wpAny_pure ⟨none,H,I,.none,h⟩
theorem po_some (h:PE X e te):PO X (some e) (tPart te):=by
 intro pins s σ H Q I hw
 rw [evalPart_some]
 refine thn (h pins s σ H _ I hw) fun u s1 ⟨x,H1,I1,r1,q1⟩=>?_
 obtain ⟨i,rfl,q⟩:=q1
 obtain ⟨t,rfl⟩:=r1
 exact ⟨some i,H1,I1,.int i t,q⟩
noncomputable def SlR (X:Cx)(r:V->Option Int->Option Int->Hp->VK->Prop):Prop :=
 ∀ (pins:List (Addr × Obj)) (s:Shared) (σ:St) (H:Hp) (x:V) (v vl vu:Value) (lo hi:Option Int) (sl:Addr) (Q:VK),Inv X pins σ H s->RelV x v->s.heap.IsSliceOf sl vl vu .none->IsPart vl lo->IsPart vu hi->r x lo hi H Q ->
  ∃ T id,typeLookup (.type T) "__getitem__"=pure (some (.builtin id))/\s.TypeIs v T/\wpAny (model X.prog X.w) X.A (getItem v (.ref sl)) (EP X pins σ Q) X.xe s
noncomputable def tSl (r:V->Option Int->Option Int->Hp->VK->Prop)(te:TE)(tl th:TO):TE:=fun σ H Q=>te σ H fun x H1=>tl σ H1 fun l H2=>th σ H2 fun u H3=>r x l u H3 Q
theorem pe_slice {r:V->Option Int->Option Int->Hp->VK->Prop}(hr:SlR X r)(he:PE X e te)(hl:PO X lo tl)(hu:PO X hi th):PE X (.Subscript e (.Slice lo hi none p2) pos) (tSl r te tl th):=by
 intro pins s σ H Q I h
 refine Subscript_ (thn (he pins s σ H _ I h) fun v s1 ⟨x,H1,I1,r1,q1⟩=>?_)
 refine wpAny_Slice (thn (hl pins s1 σ H1 _ I1 q1) fun vl s2 ⟨l,H2,I2,pl,q2⟩=>thn (hu pins s2 σ H2 _ I2 q2) fun vu s3 ⟨u,H3,I3,pu,q3⟩=>?_)
 rw [evalPart_none]
 refine wpAny_pure ?_
 have I4:Inv X pins σ H3 { s3 with heap:=s3.heap.push { cls:=.type "slice",data:=.fields #[vl,vu,.none] } }:=I3.kept (t':=s3.toks) fun b ob q=>Heap.get?_push_of_some _ q
 obtain ⟨T,id,hT,ht,hg⟩:=hr pins { s3 with heap:=s3.heap.push { cls:=.type "slice",data:=.fields #[vl,vu,.none] } } σ H3 x v vl vu l u s3.heap.objs.size Q I4 r1 (Heap.IsSliceOf.new ..) pl pu q3
 show wpAny (model X.prog X.w) X.A (subscriptTail e (.Slice lo hi none p2) v (.ref s3.heap.objs.size)) (EP X pins σ Q) X.xe { s3 with heap:=s3.heap.push { cls:=.type "slice",data:=.fields #[vl,vu,.none] } }
 exact tail_any (ops:=[.ref s3.heap.objs.size,v]) ht hT hg (by with_unfolding_all rfl)
noncomputable def cutV (xs:List V)(lo hi:Option Int):List V:=(xs.drop (HT.sIx xs.length 0 lo)).take (HT.sIx xs.length xs.length hi - HT.sIx xs.length 0 lo)
theorem cutV_length (xs:List V)(lo hi:Option Int):(cutV xs lo hi).length<=xs.length:=by
 unfold cutV
 rw [List.length_take,List.length_drop]
 omega
end
end L2
namespace L2
open PySem PySem.Spec PyProof.Rows
noncomputable def ixN (n:Nat)(i:Int):Option Nat:=if 0<=i then (if i < n then some i.toNat else none) else if -(n:Int)<=i then some (i + n).toNat else none
noncomputable def atI {α:Type}(xs:List α)(i:Int):Option α:=(ixN xs.length i).bind fun j=>xs[j]?
theorem ixN_seq {n:Nat}{i:Int}{j:Nat}(h:ixN n i=some j):seqIndex? i n=some j/\j < n/\-(n:Int)<=i/\i < n:=by
 unfold ixN at h
 by_cases h0:0<=i
 ·rw [if_pos h0] at h
  by_cases h1:i < n
  ·rw [if_pos h1] at h
   have e:i.toNat=j:=Option.some.inj h
   exact ⟨by rw [seqIndex_of h0 h1,e],by omega,by omega,h1⟩
  ·rw [if_neg h1] at h; cases h
 ·rw [if_neg h0] at h
  by_cases h1:-(n:Int)<=i
  ·rw [if_pos h1] at h
   have e:(i + n).toNat=j:=Option.some.inj h
   exact ⟨by rw [seqIndex_neg (by omega) h1,e],by omega,h1,by omega⟩
  ·rw [if_neg h1] at h; cases h
theorem atI_get {α:Type}{xs:List α}{i:Int}{v:α}(h:atI xs i=some v):∃ j,seqIndex? i xs.length=some j/\xs[j]?=some v/\j < xs.length/\-(xs.length:Int)<=i/\i < xs.length:=by
 unfold atI at h
 cases e:ixN xs.length i with
 | none=>rw [e] at h; cases h
 | some j =>
  rw [e] at h
  obtain ⟨h1,h2,h3,h4⟩:=ixN_seq e
  exact ⟨j,h1,h,h2,h3,h4⟩
theorem atI_nat {α:Type}{xs:List α}{j:Nat}{v:α}(h:xs[j]?=some v):atI xs (j:Int)=some v:=by
 have hj:j < xs.length:=(List.getElem?_eq_some_iff.mp h).1
 have e:ixN xs.length (j:Int)=some j:=by
  unfold ixN
  rw [if_pos (by omega),if_pos (by omega)]; simp
 unfold atI; rw [e]; exact h
noncomputable def PlainIx (b:Expr):Prop:=∀ o i,subscripted b false o i=operate [o,i] (getItem o i)
noncomputable def IxR (X:Cx)(r:R2):Prop :=
 ∀ (value slice:Expr) (pins:List (Addr × Obj)) (s:Shared) (σ:St) (H:Hp) (x y:V) (v u:Value) (Q:VK),Inv X pins σ H s->RelV x v->RelV y u->r x y H Q ->
  subscripted slice false v u=operate [v,u] (getItem v u)->wpAny (model X.prog X.w) X.A (subscriptTail value slice v u) (EP X pins σ Q) X.xe s
noncomputable def MtR (X:Cx)(id:String)(r:V->List V->Hp->VK->Prop):Prop :=
 ∀ (pins:List (Addr × Obj)) (s:Shared) (σ:St) (H:Hp) (x:V) (xs:List V) (v:Value) (us:List Value) (Q:VK),Inv X pins σ H s->RelV x v->Vals xs us->r x xs H Q ->
  wpAny (model X.prog X.w) X.A (call (.builtin id) (v :: us)) (EP X pins σ Q) X.xe s
section
variable {X:Cx}{a b:Expr}{ta tb:TE}{pos:Pos}
theorem pe_ix {r:R2}(hr:IxR X r)(ha:PE X a ta)(hb:PE X b tb)(hs:PlainIx b):PE X (.Subscript a b pos) (tOp r ta tb):=by
 intro pins s σ H Q I h
 exact Subscript_ (binT ha hb I h fun v u s2 x y H2 I2 rx ry q=>hr a b pins s2 σ H2 x y v u Q I2 rx ry q (hs _ _))
noncomputable def rIxL (K:PySem.W.Frag):R2:=fun x y H Q=>∃ p xs i v,x=.ref p/\y=.int i/\SqL K H p xs/\atI xs i=some v/\Q v H
noncomputable def rIxT (K:PySem.W.Frag):R2:=fun x y H Q=>∃ p xs i v,x=.ref p/\y=.int i/\SqT K H p xs/\atI xs i=some v/\Q v H
noncomputable def rIxS:R2:=fun x y H Q=>∃ z i c,x=.str z/\y=.int i/\z.length<=sizeLine/\atI z.cps.toList i=some c/\Q (.str ⟨#[c]⟩) H
theorem ix_list:IxR X (rIxL X.K):=by
 intro value slice pins s σ H x y v u Q I rx ry h hs
 obtain ⟨p,xs,i,z,rfl,rfl,hq,he,q⟩:=h
 cases rx
 obtain ⟨t,rfl⟩:=ry
 obtain ⟨its,r,pl,hz⟩:=I.list hq
 obtain ⟨j,h1,h2,h3,h4,h5⟩:=atI_get he
 obtain ⟨w,ew,rw'⟩:=r.get h2
 have hl:=r.length
 have hn:=line63
 have fin:EP X pins σ Q w s:=⟨z,H,I,rw',q⟩
 by_cases h0:0<=i
 ·have hj:i.toNat=j:=by
   rw [seqIndex_of h0 h5] at h1
   exact Option.some.inj h1
  exact item_listR pl.isList h0 (by omega) (by rw [hj]; simpa using ew) fin hs
 ·have hj:(i + (its.toArray.size:Int)).toNat=j:=by
   rw [seqIndex_neg (by omega) h4] at h1
   rw [List.size_toArray,<- hl]
   exact Option.some.inj h1
  exact subscriptTail_builtinR (x:=w) pl.isList.typeIs slot_list_getitem.lookup
   (wpAny_getItem_list_neg (Q:=fun r s'=>r=w/\EP X pins σ Q r s') pl.isList (by omega) (by rw [List.size_toArray] <;> omega) (by omega) (by rw [hj]; simpa using ew) ⟨rfl,fin⟩) hs
theorem ix_tup:IxR X (rIxT X.K):=by
 intro value slice pins s σ H x y v u Q I rx ry h hs
 obtain ⟨p,xs,i,z,rfl,rfl,hq,he,q⟩:=h
 cases rx
 obtain ⟨t,rfl⟩:=ry
 obtain ⟨its,r,pl,hz⟩:=I.tuple hq
 obtain ⟨j,h1,h2,h3,h4,h5⟩:=atI_get he
 obtain ⟨w,ew,rw'⟩:=r.get h2
 have hl:=r.length
 have hn:=line63
 have fin:EP X pins σ Q w s:=⟨z,H,I,rw',q⟩
 exact subscriptTail_builtinR (x:=w) pl.typeIs slot_tuple_getitem.lookup
  (getItem_tuple (j:=j) (Q:=fun r s'=>r=w/\EP X pins σ Q r s') pl (by omega) (by omega) (by rw [List.size_toArray,<- hl]; exact h1) (by simpa using ew) ⟨rfl,fin⟩) hs
theorem ix_str:IxR X rIxS:=by
 intro value slice pins s σ H x y v u Q I rx ry h hs
 obtain ⟨z,i,c,rfl,rfl,hz,he,q⟩:=h
 obtain ⟨t,rfl⟩:=rx
 obtain ⟨t',rfl⟩:=ry
 obtain ⟨j,h1,h2,h3,h4,h5⟩:=atI_get he
 have hl:z.cps.toList.length=z.length:=by simp [Str.length]
 rw [hl] at h1 h4 h5
 have hn:=line63
 exact tail_any (typeIs_str s z t) slot_str_getitem.lookup (getItem_str (c:=c) (by
  have e1:decide (i < -(2 ^ 63:Int))=false:=decide_eq_false (by omega)
  have e2:decide (i >= 2 ^ 63)=false:=decide_eq_false (by omega)
  rw [e1,e2,Bool.or_false]) (by rw [h1]; simpa using h2) ⟨.str ⟨#[c]⟩,H,I.tok _,⟨_,rfl⟩,q⟩) hs
theorem slice_bounds (lo hi:Option Int)(n:Nat):(sliceBounds lo hi none n).1=((HT.sIx n 0 lo:Nat):Int)/\(sliceBounds lo hi none n).2.1=((HT.sIx n n hi:Nat):Int)/\(sliceBounds lo hi none n).2.2=1:=by
 refine ⟨?_,?_,rfl⟩
 ·cases lo with
  | none=>simp [sliceBounds,HT.sIx]
  | some i =>
   simp only [sliceBounds,HT.sIx,Option.getD_none,show (1:Int) > 0 by decide,if_true]
   by_cases h:i < 0
   ·simp only [h,if_true] <;> omega
   ·simp only [h,if_false] <;> omega
 ·cases hi with
  | none=>simp [sliceBounds,HT.sIx]
  | some i =>
   simp only [sliceBounds,HT.sIx,Option.getD_none,show (1:Int) > 0 by decide,if_true]
   by_cases h:i < 0
   ·simp only [h,if_true] <;> omega
   ·simp only [h,if_false] <;> omega
theorem slicePick_cut (its:List Value)(lo hi:Option Int):slicePick its.toArray lo hi none=((its.drop (HT.sIx its.length 0 lo)).take (HT.sIx its.length its.length hi - HT.sIx its.length 0 lo)).toArray:=by
 obtain ⟨h1,h2,h3⟩:=slice_bounds lo hi its.toArray.size
 unfold slicePick
 rw [h1,h2,h3]
 simp only [sliceRange_one,pick_run,List.size_toArray] <;> rfl
noncomputable def rSlL (K:PySem.W.Frag):V->Option Int->Option Int->Hp->VK->Prop:=fun x lo hi H Q=>∃ a xs,x=.ref a/\SqL K H a xs/\∀ p,H p=none->Q (.ref p) (upd H p (.lst (cutV xs lo hi)))
theorem sl_list:SlR X (rSlL X.K):=by
 intro pins s σ H x v vl vu lo hi sl Q I rx hs pl pu h
 obtain ⟨a,xs,rfl,hx,q⟩:=h
 cases rx
 obtain ⟨its,r,ht,hz⟩:=I.list hx
 have hlen:=r.length
 refine ⟨"list",_,slot_list_getitem.lookup,ht.isList.typeIs,?_⟩
 refine wpAny_getItem_list_slice ht.isList hs pl pu .none (by simp) ?_ (by rw [List.size_toArray] <;> omega)
 rw [slicePick_cut,<- hlen]
 refine ⟨.ref s.heap.objs.size,_,I.laid (t':=s.toks) (o:=.lst (cutV xs lo hi)) (fun b ob q=>Heap.get?_push_of_some _ q) (Nat.le_refl _) ?_,rfl,q _ (I.hok.fresh (Nat.le_refl _))⟩
 exact ⟨Nat.le_trans (cutV_length xs lo hi) hz,_,0,(r.drop (HT.sIx xs.length 0 lo)).take (HT.sIx xs.length xs.length hi - HT.sIx xs.length 0 lo),Heap.get?_push_size _ rfl⟩
theorem call_len_seq:CallR X (.builtin "len") (fun xs H Q=>∃ p ys,xs=[.ref p]/\(SqL X.K H p ys\/SqT X.K H p ys)/\Q (.int ys.length) H):=by
 intro pins s σ H xs us Q I r h
 obtain ⟨p,ys,rfl,hq,q⟩:=h
 obtain ⟨u,rfl,rx⟩:=vals1 r
 cases rx
 have hn:=line63
 rcases hq with hq | hq
 ·obtain ⟨its,r',pl,hz⟩:=I.list hq
  have hlen:=r'.length
  exact Calls.call_len_list pl.isList (by simp only [List.size_toArray] <;> omega) ⟨.int ys.length,H,I.tok _,⟨s.toks + 1,by rw [List.size_toArray,hlen]⟩,q⟩
 ·obtain ⟨its,r',pl,hz⟩:=I.tuple hq
  have hlen:=r'.length
  exact len_tuple pl (by simp only [List.size_toArray] <;> omega) ⟨.int ys.length,H,I.tok _,⟨s.toks + 1,by rw [List.size_toArray,hlen]⟩,q⟩
theorem call_len_str:CallR X (.builtin "len") (fun xs H Q=>∃ z,xs=[.str z]/\z.length<=sizeLine/\Q (.int z.length) H):=by
 intro pins s σ H xs us Q I r h
 obtain ⟨z,rfl,hz,q⟩:=h
 obtain ⟨u,rfl,t,rfl⟩:=vals1 r
 have hn:=line63
 exact len_str (by omega) ⟨.int z.length,H,I.tok _,⟨_,rfl⟩,q⟩
theorem call_list_of:CallR X (.type "list") (fun xs H Q=>∃ p ys,xs=[.ref p]/\(SqL X.K H p ys\/SqT X.K H p ys)/\∀ l,H l=none->Q (.ref l) (upd H l (.lst ys))):=by
 intro pins s σ H xs us Q I r h
 obtain ⟨p,ys,rfl,hq,q⟩:=h
 obtain ⟨u,rfl,rx⟩:=vals1 r
 cases rx
 have fin:∀ (its:List Value),Vals ys its->ys.length<=sizeLine->∀ (h':Heap) (c':Nat),(∀ b o',s.heap.get? b=some o'->h'.get? b=some o') ->
   h'.get? s.heap.objs.size=some { cls:=.type "list",dict:=none,data:=.seq its.toArray c',slots:=#[] }->EP X pins σ Q (.ref s.heap.objs.size) { s with heap:=h' }:=fun its r' hz h' c' kp e =>
  ⟨.ref s.heap.objs.size,_,I.laid (t':=s.toks) kp (Nat.le_refl _) (show ObjOk X.prog X.w _ h' _ (.lst ys) from ⟨hz,its,c',r',e⟩),rfl,q _ (I.hok.fresh (Nat.le_refl _))⟩
 rcases hq with hq | hq
 ·obtain ⟨its,r',pl,hz⟩:=I.list hq
  have hlen:=r'.length
  obtain ⟨o,ho,hc,n,hd⟩:=pl.isList
  exact call_list_seq p (.inl rfl) ho hc hd (fun h' c' kp e=>fin its r' hz h' c' kp e) (by simp only [List.size_toArray] <;> omega)
 ·obtain ⟨its,r',pl,hz⟩:=I.tuple hq
  have hlen:=r'.length
  obtain ⟨o,ho,hc,n,hd⟩:=pl
  exact call_list_seq p (.inr rfl) ho hc hd (fun h' c' kp e=>fin its r' hz h' c' kp e) (by simp only [List.size_toArray] <;> omega)
noncomputable def tyV (K:PySem.W.Frag)(T:String)(x:V)(H:Hp):Prop:=match x with
 | .str _=>T="str"
 | .int _=>T="int"
 | .ref p=>(T="list"/\∃ xs,SqL K H p xs)\/(T="tuple"/\∃ o,K.lookup p=some o/\o.cls=.type "tuple"/\o.dict=none) \/
   (T="dict"/\((∃ kvs,H p=some (.dK kvs))\/∃ kvs,H p=some (.dT kvs)))\/(T="set"/\∃ S n,H p=some (.set S n))
 | _=>False
theorem tyV_is {pins:List (Addr × Obj)}{σ:St}{H:Hp}{s:Shared}{T:String}{x:V}{v:Value}(I:Inv X pins σ H s)(r:RelV x v)(ty:tyV X.K T x H) :
  s.TypeIs v T/\∀ a,v=.ref a->∃ ob,s.heap.get? a=some ob/\ob.dict=none:=by
 cases x with
 | str z =>
  obtain ⟨t,rfl⟩:=r
  cases (show T="str" from ty)
  exact ⟨typeIs_str s z t,fun _ e=>nomatch e⟩
 | int i =>
  obtain ⟨t,rfl⟩:=r
  cases (show T="int" from ty)
  exact ⟨typeIs_int s i t,fun _ e=>nomatch e⟩
 | ref p =>
  cases r
  rcases ty with ⟨rfl,xs,hq⟩ | ⟨rfl,o,hk,hc,hd⟩ | ⟨rfl,hk⟩ | ⟨rfl,S,n,hk⟩
  ·obtain ⟨its,_,pl,_⟩:=I.list hq
   refine ⟨pl.isList.typeIs,fun a e=>?_⟩
   cases e
   obtain ⟨o,n,e,c,hd,_⟩:=pl
   exact ⟨o,e,hd⟩
  ·refine ⟨⟨o,I.kIn p o hk,hc⟩,fun a e=>?_⟩
   cases e
   exact ⟨o,I.kIn _ o hk,hd⟩
  ·have z:∃ o,s.heap.get? p=some o/\o.ExactDict:=by
    rcases hk with ⟨kvs,hk⟩ | ⟨kvs,hk⟩
    ·obtain ⟨_,_,_,_,o,_,_,e,ex,_⟩:=I.hok p _ hk
     exact ⟨o,e,ex⟩
    ·obtain ⟨_,_,_,_,o,_,_,e,ex,_⟩:=I.hok p _ hk
     exact ⟨o,e,ex⟩
   obtain ⟨o,e,ex⟩:=z
   refine ⟨⟨o,e,ex.1⟩,fun a e2=>?_⟩
   cases e2
   exact ⟨o,e,ex.2.1⟩
  ·obtain ⟨o,_,_,_,e,ex,_⟩:=I.hok p _ hk
   refine ⟨⟨o,e,ex.1⟩,fun a e2=>?_⟩
   cases e2
   exact ⟨o,e,ex.2.1⟩
 | _=>exact False.elim ty
noncomputable def tBM (K:PySem.W.Frag)(T:String)(r:V->List V->Hp->VK->Prop)(to:TE)(t:TA):TE:=fun σ H Q=>to σ H fun x H1=>tyV K T x H1/\t σ H1 fun xs H2=>r x xs H2 Q
variable {o e:Expr}{es:List Expr}{to:TE}{t:TA}{name:Str}{apos cpos:Pos}{T id:String}{r:V->List V->Hp->VK->Prop}
theorem pe_bm (pa:PlainAttrs T)(slot:Slot T name id)(hty:typeOf (.builtin id)=pure (.type "method_descriptor"))(hm:MtR X id r)(ho:PE X o to)(ha:PA X (e :: es) t)
  (hbase:attributeBase o name X.env (eval o X.env)=eval o X.env:=by rfl)
  (hfew:((backTo cpos (starEach (e :: es) X.env)).all (fun x=>!x.1) && (backToKw cpos (keywordEach [] X.env)).all (fun x=>x.1.isSome)
   && decide ((e :: es).length + ([]:List Keyword).length + (if ([]:List Keyword).isEmpty then 0 else 1) < 30))=true:=by rfl)
  (hline:(apos.endLine == cpos.line)=true:=by rfl) (hs:starEach (e :: es) X.env=(false,eval e X.env) :: starEach es X.env:=by rfl) (hplain:(backTo cpos (starEach es X.env)).any (·.1)=false:=by rfl) :
  PE X (.Call (.Attribute o name apos) (e :: es) [] cpos) (tBM X.K T r to t):=by
 intro pins s σ H Q I h
 refine wpAny_Call_method_late hbase hfew hline rfl (thn (ho pins s σ H _ I h) fun v s1 ⟨x,H1,I1,r1,ty,q1⟩=>?_)
 obtain ⟨h1,h2⟩:=tyV_is I1 r1 ty
 refine ⟨T,id,pa,slot,hty,h1,h2,?_⟩
 have hA:=ha cpos pins s1 σ H1 _ I1 q1
 rw [hs] at hA ⊢
 refine Calls.callWith_builtin (by show (false || (backTo cpos (starEach es X.env)).any (·.1))=false; rw [hplain] <;> rfl) (Calls.evalArgs_plain ?_)
 exact thn hA fun us s2 ⟨vs,H2,I2,r2,q2⟩=>hm pins s2 σ H2 x vs v us Q I2 r1 r2 q2
/- xs.append(e),list.index on a module's tuple .. are MtR facts of 06m -/
end
end L2
namespace L2
open PySem PySem.Spec PyProof.Rows
noncomputable def MtM (X:Cx)(id:String)(r:V->List V->Hp->VK->Prop):Prop :=
 ∀ (pins:List (Addr × Obj)) (s:Shared) (σ:St) (H:Hp) (x:V) (xs:List V) (v:Value) (us:List Value) (Q:VK),Inv X pins σ H s->RelV x v->Vals xs us->r x xs H Q ->
  wpAny (model X.prog X.w) X.A (call (.builtin id) (v :: us)) (EP X pins σ Q) X.xe s
theorem Vals.one:∀ {x:V} {us:List Value},Vals [x] us->∃ u,us=[u]/\RelV x u
 | _,_,.cons r .nil=>⟨_,rfl,r⟩
section
variable {X:Cx}{pins:List (Addr × Obj)}{σ:St}{H:Hp}{s:Shared}{l b:Addr}{xs ys zs:List V}
theorem Inv.lset {its its':List Value}{n:Nat}{f:Array Value->Array Value}{t':Nat}(I:Inv X pins σ H s)(hH:H l=some (.lst xs))
  (e:s.heap.get? l=some { cls:=.type "list",data:=.seq its.toArray n }) (hf:f its.toArray=its'.toArray) (hv:Vals ys its') (hz:ys.length<=sizeLine) :
  Inv X pins σ (upd H l (.lst ys)) { s with heap:=s.heap.update l (Obj.mapSeq f),toks:=t' }:=by
 have q:=PySem.IsL.update e f
 rw [hf] at q
 refine I.write (x:=l) (e:=l) (by rw [hH]; exact trivial) (.inl rfl) (fun b' u hb hu=>(Heap.get?_update_other s.heap (Obj.mapSeq f) (Ne.symm hb)).trans hu) ⟨_,q⟩ ?_
 exact ⟨hz,its',_,hv,q⟩
theorem Inv.lnew {its:List Value}{t':Nat}(I:Inv X pins σ H s)(hv:Vals ys its)(hz:ys.length<=sizeLine) :
  Inv X pins σ (upd H s.heap.objs.size (.lst ys)) { s with heap:=s.heap.push { cls:=.type "list",data:=.seq its.toArray },toks:=t' } :=
 I.laid (fun _ _ q=>Heap.get?_push_of_some _ q) (Nat.le_refl _) ⟨hz,its,0,hv,Heap.get?_push_size _ rfl⟩
theorem Inv.fresh (I:Inv X pins σ H s):H s.heap.objs.size=none:=I.hok.fresh (Nat.le_refl _)
theorem Inv.lstM (I:Inv X pins σ H s)(hH:H l=some (.lst xs)):xs.length<=sizeLine/\∃ (its:List Value) (n:Nat),Vals xs its/\xs.length=its.length/\s.heap.get? l=some { cls:=.type "list",data:=.seq its.toArray n }:=by
 obtain ⟨z,its,n,r,e⟩:=I.hok l _ hH
 exact ⟨z,its,n,r,r.length,e⟩
theorem notLongL {n:Nat}(h:n<=sizeLine):Builtin.List.listTooLong n=false:=by
 unfold Builtin.List.listTooLong
 exact decide_eq_false (by omega)
end
section
variable {X:Cx}
noncomputable def rAppend:V->List V->Hp->VK->Prop:=fun x vs H Q=>∃ l xs y,x=.ref l/\vs=[y]/\H l=some (.lst xs)/\xs.length < sizeLine/\Q .non (upd H l (.lst (xs++[y])))
theorem mt_append:MtM X "list.append" rAppend:=by
 intro pins s σ H x vs v us Q I rx rv h
 obtain ⟨l,xs,y,rfl,rfl,hH,hz,q⟩:=h
 cases rx
 obtain ⟨u,rfl,ru⟩:=rv.one
 obtain ⟨z,its,n,r,hl,e⟩:=I.lstM hH
 refine call_meets F.slot_list_append ⟨_,e,rfl⟩ F.entry_list_append (F.args_list_append_2 _ _) (PySem.list_append l its.toArray n u (by rw [List.size_toArray]; omega)) ⟨e,?_⟩
 refine ⟨.non,_,I.lset (its':=its++[u]) hH e (by simp) (r.append (.cons ru .nil)) ?_,rfl,q⟩
 rw [List.length_append,List.length_singleton]
 omega
noncomputable def rExtend:V->List V->Hp->VK->Prop:=fun x vs H Q=>∃ l b xs zs,x=.ref l/\vs=[.ref b]/\H l=some (.lst xs)/\H b=some (.lst zs)/\xs.length + zs.length<=sizeLine/\Q .non (upd H l (.lst (xs++zs)))
theorem mt_extend:MtM X "list.extend" rExtend:=by
 intro pins s σ H x vs v us Q I rx rv h
 obtain ⟨l,b,xs,zs,rfl,rfl,hH,hB,hz,q⟩:=h
 cases rx
 obtain ⟨u,rfl,ru⟩:=rv.one
 cases ru
 obtain ⟨z,its,n,r,hl,e⟩:=I.lstM hH
 obtain ⟨z2,its2,n2,r2,hl2,e2⟩:=I.lstM hB
 have hsz:its.toArray.size + its2.toArray.size<=sizeLine:=by rw [List.size_toArray,List.size_toArray]; omega
 have hlong:¬ (!its.toArray.isEmpty && Builtin.List.listTooLong (its.toArray.size + its2.toArray.size))=true:=by
  rw [notLongL hsz,Bool.and_false]
  exact Bool.false_ne_true
 refine call_meets F.slot_list_extend ⟨_,e,rfl⟩ F.entry_list_extend (F.args_list_extend_2 _ _)
  (AutoSeq1.list_extend_list_list_0 l its.toArray n b its2.toArray n2 hlong (by rw [List.size_toArray]; omega) (by omega)) ⟨e,e2,?_⟩
 refine ⟨.non,_,I.lset (its':=its++its2) hH e (by simp) (r.append r2) ?_,rfl,q⟩
 rw [List.length_append]
 omega
noncomputable def rCat:R2:=fun x y H Q=>∃ l b xs zs,x=.ref l/\y=.ref b/\H l=some (.lst xs)/\H b=some (.lst zs)/\xs.length + zs.length<=sizeLine/\∀ p,H p=none->Q (.ref p) (upd H p (.lst (xs++zs)))
theorem op_cat:OpR X (binaryOp .Add) rCat:=by
 intro pins s σ H x y v u Q I rx ry h
 obtain ⟨l,b,xs,zs,rfl,rfl,hH,hB,hz,q⟩:=h
 cases rx
 cases ry
 obtain ⟨z,its,n,r,hl,e⟩:=I.lstM hH
 obtain ⟨z2,its2,n2,r2,hl2,e2⟩:=I.lstM hB
 refine PySem.P.add_list e e2 ?_ (by rw [List.size_toArray,List.size_toArray]; omega)
 have ea:its.toArray++its2.toArray=(its++its2).toArray:=by simp
 rw [ea]
 exact ⟨.ref _,_,I.lnew (t':=s.toks) (r.append r2) (by rw [List.length_append]; omega),rfl,q _ I.fresh⟩
theorem len_rep {α:Type}(xs:List α)(k:Nat):(List.replicate k xs).flatten.length=k * xs.length:=by
 induction k with
 | zero=>simp
 | succ k ih=>rw [List.replicate_succ,List.flatten_cons,List.length_append,ih,Nat.succ_mul,Nat.add_comm]
end
section
variable {prog:Program}{w:World}{A:Around}{E:Value->Shared->Prop}{s:Shared}
end
section
variable {X:Cx}
end
end L2
namespace Att
open PySem PySem.W PySem.Calls PyProof.Rows
theorem ints_of_wellAll {P:Params}{h:Heap}:∀ (ns:List Int) (vs:List Value),WellAll P h vs (ns.map WData.int)->IntsAre vs ns:=by
 intro ns
 induction ns with
 | nil =>
  intro vs w
  rw [List.map_nil] at w
  cases w
  exact .nil
 | cons n ns ih =>
  intro vs w
  rw [List.map_cons] at w
  cases w with
  | cons a b =>
   cases a
   exact .cons _ _ (ih _ b)
theorem script_of {l:OpenLaw}{n:Nat}(hn:l.most=some n){P:Params}{h:Heap}{args:List WData}{vals:List Value}
  (hpre:l.row.toRowW.claim.pre args=true) (hwl:WellAll P h vals args) :
  ∃ a vs ns,vals=[Value.ref a]/\args=[WData.list (ns.map WData.int)]/\h.get? a=some { cls:=.type "list",data:=.seq vs.toArray }/\IntsAre vs ns/\ns.length<=n:=by
 have hsh:WShape.hasAll [] args [.list .int]=true:=(pre_splitW hpre).1
 have hc:l.pre.holds [] { args:=args }=true:=(pre_splitW hpre).2
 obtain ⟨d,r,rfl,h1,h2⟩:=hasAllW_cons hsh
 obtain rfl:=hasAllW_nil h2
 obtain ⟨xs,rfl,h3⟩:=hasW_list h1
 obtain ⟨ns,rfl⟩:=items_int h3
 have hlen:ns.length<=n:=by
  unfold OpenLaw.pre at hc
  have h4:(WTm.not (.lt (.lit (.int (n:Int))) (.len (.arg 0)))).holds [] { args:=[.list (ns.map .int)] }=true:=by
   have h4:=(holds_andW hc).1
   rw [hn] at h4
   exact h4
  have h5:=condW_of h4 (w_not (w_lt w_lit (w_len_list (w_arg rfl))))
  rw [List.length_map] at h5
  refine Nat.le_of_not_lt fun q=>?_
  have q':(n:Int) < ((ns.length:Nat):Int):=by omega
  first
   | (rw [decide_eq_true q'] at h5; exact absurd h5 (by decide))
   | (simp at h5; omega)
 cases hwl with
 | cons w1 w2 =>
  cases w2
  cases w1 with
  | list ho hall=>exact ⟨_,_,ns,rfl,rfl,ho,ints_of_wellAll ns _ hall,hlen⟩
theorem post_true (l:OpenLaw)(args:List WData):l.row.toRowW.claim.post args (.bool true) args=true :=
 postW_of (r:=l.row.toRowW) (X:=(true == true))
  (show WShape.has [] (.bool true) .bool=true by first | rfl | decide | simp [WShape.has,WShape.arms,WShape.armsAll])
  (show (WTm.eq .res (.lit (.bool true))).value [] { args:=args,res:=some (.bool true),after:=args }=some (.bool (true == true)) from w_eq_bool (w_res rfl) w_lit) rfl
theorem attach_call {l:OpenLaw}{n:Nat}{q:Program}{loose:List Str}{XP:(Str->Option Value)->Heap->Prop}{YP:World->Heap->Prop}{d:DefRec}
  (hn:l.most=some n) (hdf:d.params.defaults=[])
  (call:∀ (w:World) (s₀ s₁:Shared) (mg mb:Str->Option Value) (fa:Addr) (o:Obj) (pm cd doc:Value) (a:Addr) (vs:List Value) (ns:List Int),
   Ground q loose [] XP w s₀ mg mb s₁.heap->YP w s₁.heap ->
   s₁.heap.get? fa=some o->o.data=.func (docDef d.name d.params d.body d.scope pm cd doc)->s₁.heap.CodeRec cd d.name->mg d.name=some (.ref fa) ->
   s₁.heap.get? a=some { cls:=.type "list",data:=.seq vs.toArray }->IntsAre vs ns->ns.length<=n->s₁.gens=#[] ->
   codeAny (model l.prog w) callerA (.call (.ref fa) ⟨[.ref a],[]⟩) (fun r s'=>r=.ok (.ret (.bool true))/\OldK s₁.heap s'.heap/\s'.os=s₁.os/\AllBare s'.gens) s₁) :
  WalkO q loose XP YP l.row.toRowW d [] (fun f vs=>PySem.call f vs):=by
 intro w s₀ s₁ mg mb G Y fa o pm cd doc dV kV ho hd hcd hD hmg hg args vals as hpre hlay hrd hwl hlo
 obtain rfl:dV=.none:=Dflts.none hD hdf
 obtain rfl:kV=.none:=Dflts.noKw hD
 obtain ⟨a,vs,ns,rfl,rfl,hobj,hints,hlen⟩:=script_of hn hpre hwl
 refine enter_call (codeAny_mono (call w s₀ s₁ mg mb fa o pm cd doc a vs ns G Y ho (fd_plain hd) hcd hmg hobj hints hlen hg) fun r s' hq=>?_)
 obtain ⟨rfl,h2,h3,h4⟩:=hq
 exact ⟨.inl ⟨.bool true,.bool true,[],rfl,fun _=>rfl,.bool true,post_true l _,fun _=>⟨List.Pairwise.nil,fun _ hm=>(nomatch hm)⟩⟩,h2,h3,h4⟩
section
variable {prog:Program}{w:World}{A:Around}{E:Value->Shared->Prop}{s:Shared}{K:Frag}
end
end Att
namespace L2
open PySem PySem.Spec PyProof.Rows
theorem vals_ints:∀ {vs:List Value} {ns:List Int},IntsAre vs ns->Vals (ns.map V.int) vs
 | _,_,.nil=>.nil
 | _,_,.cons n t h=>.cons ⟨t,rfl⟩ (vals_ints h)
noncomputable def Only (H:Hp):Prop:=∀ b,H b=none\/∃ o xs,H b=some (.frz o (.lst xs))
theorem law_call {P:Program}{w:World}{K:PySem.W.Frag}{mg mb:Str->Option Value}{CX:CXT}{k:Nat}{fa a:Addr}{fd:FuncData}{x:Str}{sp:Sp}{s₁:Shared}{vs:List Value}{ns:List Int}
  (KX:K.In s₁.heap) (hns:s₁.heap.Ns mainGlobals mg) (hb:s₁.heap.Ns builtinsNs mb) (hbb:∀ x:Str,x ≠ "__name__"->mb x=bootBuiltins x) (hlim:s₁.heap.NoLimit) (hg:s₁.gens=#[])
  (ha:s₁.heap.get? a=some { cls:=.type "list",data:=.seq vs.toArray }) (hi:IntsAre vs ns) (hl:ns.length<=sizeLine) (hr:Room k callerA)
  (F:∀ base:Heap,K.In base->base.Ns mainGlobals mg->FnOk P w K mg base CX k fa fd [x] sp) (hbind:∀ (s:Shared) (u:Value),BindsTo s fd ⟨[u],[]⟩ [(x,u)])
  (hsp:∀ H:Hp,Only H->SqL K H a (ns.map V.int)->sp [.ref a] H (fun v _=>v=.bl true) fun _ _ _=>False)
  (hCX:∀ H e s',CX [] H s₁ (fun _ _ _=>False) e s'->False) :
  codeAny (model P w) callerA (.call (.ref fa) ⟨[.ref a],[]⟩) (fun r s'=>r=.ok (.ret (.bool true))/\OldK s₁.heap s'.heap/\s'.os=s₁.os/\AllBare s'.gens) s₁:=by
 have rv:=vals_ints hi
 have lenV:=hi.length
 have core:∀ H:Hp,Only H->SqL K H a (ns.map V.int)->HOk P w H s₁.heap->(∀ b,H b ≠ none->b=a)->(H a ≠ none->K.lookup a=none) ->
   codeAny (model P w) callerA (.call (.ref fa) ⟨[.ref a],[]⟩) (fun r s'=>r=.ok (.ret (.bool true))/\OldK s₁.heap s'.heap/\s'.os=s₁.os/\AllBare s'.gens) s₁:=by
  intro H hO hS hok hA hK
  have base_of:∀ {b:Addr} {o:Obj},s₁.heap.get? b=some o->H b=none->(hidT s₁.heap H).get? b=some o:=fun e n=>hidT_get e n
  have noA:∀ {b:Addr} {o:Obj} {es:Array DictEntry} {ep:Nat},s₁.heap.get? b=some o->o.data=.dict es ep->H b=none:=fun {b o es ep} e d=>by
   cases q:H b with
   | none=>rfl
   | some u =>
    have e':b=a:=hA b (by rw [q]; simp)
    subst e'
    rw [ha] at e; cases e
    have d':Data.seq vs.toArray _=Data.dict es ep:=d
    cases d'
  have nsK:∀ {b:Addr} {m:Str->Option Value},s₁.heap.Ns b m->(hidT s₁.heap H).Ns b m:=fun {b m} ⟨o,es,ep,e,d,r⟩=>⟨o,es,ep,base_of e (noA e d),d,r⟩
  have hKb:K.In (hidT s₁.heap H):=fun b o e=>base_of (KX b o e) (by
   cases q:H b with
   | none=>rfl
   | some u =>
    have e':b=a:=hA b (by rw [q]; simp)
    subst e'
    rw [hK (by rw [q]; simp)] at e; cases e)
  have hM:Mod K mg (hidT s₁.heap H):=⟨hKb,nsK hns,⟨mb,nsK hb,hbb⟩,let ⟨mc,h1,h2⟩:=hlim; ⟨mc,nsK h1,h2⟩⟩
  have e0:Env0 P w K mg (hidT s₁.heap H) callerA [] s₁ H:=⟨rfl,hM,fun b o e=>of_hidT e,Nat.le_of_eq (hidT_size _ _),trivial,fun b hb=>absurd (show b ∈ ([]:List Addr) from hb) (by simp),hok,.of_eq hg⟩
  refine codeAny_mono ((F _ hKb (nsK hns)).run callerA [] s₁ H ⟨[.ref a],[]⟩ [.ref a] [.ref a] _ _ hr e0 (hbind s₁ (.ref a)) (.cons rfl .nil) (hsp H hO hS)) fun r s' h=>?_
  cases r with
  | error e=>exact (hCX H e s' h).elim
  | ok fl =>
   cases fl with
   | next=>exact False.elim h
   | brk=>exact False.elim h
   | cont=>exact False.elim h
   | ret u =>
    obtain ⟨v,H',os,bare,un,hok',r',q⟩:=h
    have q':v=.bl true:=q
    subst q'
    obtain rfl:u=Value.bool true:=r'
    refine ⟨rfl,OldK.of_keep fun b o e=>?_,os,bare⟩
    cases q:H b with
    | none=>exact un.keep b o e q (by intro z; exact absurd (show b ∈ ([]:List Addr) from z) (by simp)) (by simp)
    | some u =>
     rcases hO b with z | ⟨ob,xs,z⟩
     ·rw [q] at z; cases z
     ·have z2:=un.frzs b ob _ z
      obtain ⟨e1,_⟩:=hok b _ z
      obtain ⟨e2,_⟩:=hok' b _ z2
      rw [e] at e1; cases e1
      exact e2
 cases hk:K.lookup a with
 | some o =>
  have e:=KX a o hk
  rw [ha] at e
  cases e
  refine core (fun _=>none) (fun _=>.inl rfl) (.inr ⟨_,vs.toArray,_,hk,rfl,rfl,rfl,by rw [List.size_toArray,lenV]; exact hl,by simpa using rv⟩) (fun b u z=>by have z':(none:Option HO)=some u:=z; cases z') (fun b z=>absurd rfl z) fun z=>absurd rfl z
 | none =>
  refine core (fun b=>if b=a then some (.frz { cls:=.type "list",data:=.seq vs.toArray } (.lst (ns.map V.int))) else none) (fun b=>?_) (.inl (.inr ⟨{ cls:=.type "list",data:=.seq vs.toArray },if_pos rfl⟩)) (fun b u z=>?_) (fun b z=>?_) fun _=>hk
  ·by_cases hb:b=a
   ·exact .inr ⟨_,_,if_pos hb⟩
   ·exact .inl (if_neg hb)
  ·by_cases hb:b=a
   ·have z':=(if_pos hb).symm.trans z
    cases z'
    subst hb
    exact ⟨ha,by rw [List.length_map]; exact hl,vs,_,rv,ha⟩
   ·have z':=(if_neg hb).symm.trans z
    cases z'
  ·by_cases hb:b=a
   ·exact hb
   ·exact absurd (if_neg hb) z
end L2
namespace L2
open PySem PySem.Spec PyProof.Rows
theorem walk_of {l:PySem.W.OpenLaw}{n k:Nat}{q:Program}{loose:List Str}{XP:(Str->Option Value)->Heap->Prop}{YP:World->Heap->Prop}{d:DefRec}{K:Params->PySem.W.Frag}{CX:World->CXT}{sp:World->Sp}{x:Str}
  (hn:l.most=some n) (hn2:n<=sizeLine) (hdf:d.params.defaults=[]) (hr:Room k callerA)
  (hY:∀ (w:World) (h:Heap),YP w h->(K w.params).In h)
  (F:∀ (w:World) (mg:Str->Option Value) (fa:Addr) (h:Heap),(K w.params).In h->h.Ns mainGlobals mg->mg d.name=some (.ref fa) ->
   ∃ fd:FuncData,(∀ (s:Shared) (u:Value),BindsTo s fd ⟨[u],[]⟩ [(x,u)]) /\
    ∀ base:Heap,(K w.params).In base->base.Ns mainGlobals mg->FnOk l.prog w (K w.params) mg base (CX w) k fa fd [x] (sp w))
  (hsp:∀ (w:World) (H:Hp) (a:Addr) (ns:List Int),ns.length<=n->Only H->SqL (K w.params) H a (ns.map V.int)->sp w [.ref a] H (fun v _=>v=.bl true) fun _ _ _=>False)
  (hCX:∀ (w:World) (H:Hp) (s:Shared) (e:Value) (s':Shared),CX w [] H s (fun _ _ _=>False) e s'->False) :
  PySem.W.WalkO q loose XP YP l.row.toRowW d [] (fun f vs=>PySem.call f vs):=by
 refine Att.attach_call hn hdf fun w s₀ s₁ mg mb fa o pm cd doc a vs ns G Y ho hd hcd hmg hobj hints hlen hg=>?_
 have KX:=hY w _ Y
 obtain ⟨fd,hb,hF⟩:=F w mg fa _ KX G.T.g hmg
 exact law_call KX G.T.g G.T.b G.T.builtins G.T.nolimit hg hobj hints (Nat.le_trans hlen hn2) hr hF hb (fun H hO hS=>hsp w H a ns hlen hO hS) fun H e s'=>hCX w H s₁ e s'
end L2
/- THE LAST THEOREM (shape; LID,My.* are yours):
   My.Adr: a structure of the addresses that your layer names (classes,functions); My.Txt K t: a structure (Prop) of the equations over K;
   My.txt_mk:{K} {implicit addresses ..} (e1:nsIn K mainGlobals "law"=some (some (.ref f))) (e2:K.lookup f=some ⟨oc,od,.func (fnOf "law" "law" params body scope dV kV doc pm an cdv ct),sl⟩) (e3:codeIn K cdv "law"=true) ..:∃ t,My.Txt K t
set_option maxRecDepth 100000 in
set_option maxHeartbeats 0 in
theorem PySem.Challenge.cw_LID_holds : PySem.Challenge.rw_LID.Holds := by
 w_on; o_law; k_head; (case hw=>w_witness2)
 k_fill
 refine L2.walk_of (l:=PySem.Challenge.rw_LID) (n:=63) (k:=40) (x:="script") (CX:=fun w=>..) (sp:=fun _=>My.sp_law) rfl (by decide) rfl ⟨rfl,by decide,by decide⟩ (fun w h Y=>PySem.W.kIn_of Y) ?F ?S ?C
 case F =>
  intro w mg fa h KX G hmg
  have T:∃ t,My.Txt (L2.KOf KX) t:=by
   dsimp only [L2.KOf]                          -- K must stand as «<heap const> w.params» for k_is
   refine' My.txt_mk ?e1 ?e2 ?e3 ..
   (case e1=>PySem.W.k_is)                    -- in the order: a name->its address->its object->its parts
   (case e2=>PySem.W.k_is)
   ..
  obtain ⟨t,T⟩:=T
  have e0:=hmg.symm.trans (PySem.W.mg_of KX G T.law)
  cases e0                                       -- fa is the law's own address
  exact ⟨_,fun s u=>.of_eq rfl,fun base kb nb=>My.law_fn T kb nb⟩     -- if «.of_eq rfl» comes too early: refine' ⟨_,?b,fun base kb nb=>My.law_fn T kb nb⟩; exact fun s u=>.of_eq rfl
 case S=>exact fun w H a ns hl hO hS=>..
 case C=>exact ..
(the tactic k_is has no namespace: write k_is) -/
namespace L2
open PySem PySem.Spec PyProof.Rows
noncomputable def defArgs (s:Stmt):Arguments:=match s with
 | .FunctionDef _ a _ _ _ _ _ _ _ _=>a
 | _=>{ posonlyargs:=[],args:=[],vararg:=none,kwonlyargs:=[],kw_defaults:=[],kwarg:=none,defaults:=[] }
noncomputable def defBody (s:Stmt):List Stmt:=match s with
 | .FunctionDef _ _ b _ _ _ _ _ _ _=>b
 | _=>[]
noncomputable def defScope (s:Stmt):Scope:=match s with
 | .FunctionDef _ _ _ _ _ _ sc _ _ _=>sc
 | _=>{ kind:=.function,names:=[],isGenerator:=false,isCoroutine:=false }
noncomputable abbrev CX0:CXT:=fun _ _ _ _ _ _=>False
noncomputable abbrev E0:XK:=fun _ _ _=>False
theorem pass0 {X:Cx}:Passes CX0 X E0:=fun _ _ _ _ _ _ _ h=>h.elim
structure Fun (K:PySem.W.Frag)(x qual:Str)(st:Stmt)(f:Addr)(fd:FuncData):Prop where
 ex:∃ (oc:Value) (od:Option Addr) (kV doc pm:Value) (an:Option Addr) (cdv ct:Value) (osl:Array (Option Value)),
  fd=PySem.W.fnOf x qual (defArgs st) (defBody st) (defScope st) .none kV doc pm an cdv ct/\K.lookup f=some ⟨oc,od,.func fd,osl⟩/\PySem.W.codeIn K cdv qual=true
 kp:PySem.W.keepIn K (.ref f)=true
section
variable {P:Program}{w:World}{K:PySem.W.Frag}{mg:Str->Option Value}{base:Heap}
theorem Fun.ok {x qual:Str}{st:Stmt}{f:Addr}{fd:FuncData}{N ps:List Str}{k:Nat}{sp:Sp}(F:Fun K x qual st f fd)(S:FnScope N ps (defScope st))(len:∀ vs H Q E,sp vs H Q E->vs.length=ps.length)
  (hbody:∀ (cdv:Value) (A:Around) (outer:List Env) (s:Shared) (H:Hp) (vs:List V) (Q:VK) (E:XK),Room k (A.deeper (envOfC qual (defScope st) s.heap.objs.size f cdv))->sp vs H Q E ->
   ∃ t,PSs (cxOf CX0 P w K mg base N qual (defScope st) f cdv A outer s H E).nox (defBody st) t/\t { nx:=fun _ H'=>Q .non H',rt:=Q } (start N vs) H):FnOk P w K mg base CX0 (k + 1) f fd ps sp:=by
 obtain ⟨oc,od,kV,doc,pm,an,cdv,ct,osl,rfl,lk,hcd⟩:=F.ex
 refine fn_of lk hcd S len fun A outer s H vs Q E hr hsp=>?_
 obtain ⟨t,h,q⟩:=hbody cdv A outer s H vs Q E hr hsp
 exact ⟨t,h.nox,q⟩
theorem Fun.binds {x qual:Str}{st:Stmt}{f:Addr}{fd:FuncData}{ps:List Str}(F:Fun K x qual st f fd)
  (h:∀ (kV doc pm:Value) (an:Option Addr) (cdv ct:Value) (us:List Value),us.length=ps.length->bindArgs (PySem.W.fnOf x qual (defArgs st) (defBody st) (defScope st) .none kV doc pm an cdv ct) ⟨us,[]⟩=pure (ps.zip us)):Binds K fd ps []:=by
 obtain ⟨oc,od,kV,doc,pm,an,cdv,ct,osl,rfl,lk,hcd⟩:=F.ex
 exact .all (h kV doc pm an cdv ct)
theorem fun_mk {x qual:Str}{st:Stmt}{f:Addr}{oc:Value}{od an:Option Addr}{osl:Array (Option Value)}{kV doc pm cdv ct:Value}(l:K.lookup f=some ⟨oc,od,.func (PySem.W.fnOf x qual (defArgs st) (defBody st) (defScope st) .none kV doc pm an cdv ct),osl⟩)
  (c:PySem.W.codeIn K cdv qual=true) (k:PySem.W.keepIn K (.ref f)=true):Fun K x qual st f (PySem.W.fnOf x qual (defArgs st) (defBody st) (defScope st) .none kV doc pm an cdv ct):=⟨⟨oc,od,kV,doc,pm,an,cdv,ct,osl,rfl,l,c⟩,k⟩
end
section
variable {X:Cx}
theorem pv (i:Nat){x:Str}{pos:Pos}(hN:X.N[i]?=some x:=by rfl)(hv:Vis X.env.scope x:=by first | exact Or.inl rfl | exact Or.inr (Or.inl rfl) | exact Or.inr (Or.inr rfl))(hd:(x == ("__debug__":Str))=false:=by decide)
  (hcd:(x == ("__classdict__":Str))=false:=by decide):PE X (.Name x pos) (tVar i):=pe_var hN hv hd hcd
end
theorem iteF {A B:Prop}(h:B):if false=true then A else B:=by
 rw [if_neg Bool.false_ne_true]
 exact h
theorem iteT {A B:Prop}(h:A):if true=true then A else B:=by
 rw [if_pos rfl]
 exact h
theorem ite2 {c A B:Prop} [Decidable c](h1:c->A)(h2:¬ c->B):if c then A else B:=by
 by_cases h:c
 ·rw [if_pos h]
  exact h1 h
 ·rw [if_neg h]
  exact h2 h
noncomputable def Same (H H':Hp):Prop:=∀ b o,H b=some o->H' b=some o
theorem Same.refl (H:Hp):Same H H:=fun _ _ h=>h
theorem Same.trans {H H1 H2:Hp}(a:Same H H1)(b:Same H1 H2):Same H H2:=fun c o h=>b c o (a c o h)
theorem Same.free {H H':Hp}(e:Same H H'){l:Addr}(h:H' l=Option.none):H l=Option.none:=by
 cases q:H l with
 | none=>rfl
 | some o =>
  rw [e l o q] at h
  cases h
theorem Same.seq {K:PySem.W.Frag}{H H':Hp}{a:Addr}{xs:List V}(e:Same H H')(h:SqL K H a xs):SqL K H' a xs:=by
 rcases h with (h | ⟨o,h⟩) | h
 ·exact .inl (.inl (e _ _ h))
 ·exact .inl (.inr ⟨o,e _ _ h⟩)
 ·exact .inr h
end L2
set_option maxHeartbeats 4000000
namespace L2
open PySem PySem.Spec PyProof.Rows
section
variable {X:Cx}
theorem op_mulG:OpR X (binaryOp .Mult) (rI IntMulOk fun i j=>.int (i * j)):=opI fun _ _ _ _ _ _ _ hc q=>mul_int q hc
noncomputable def CDivG (_ j:Int):Prop:=0 < j/\j.natAbs.log2 < 9000
theorem op_fdivG:OpR X (binaryOp .FloorDiv) (rI CDivG fun i j=>.int (i / j)):=opI fun i j _ _ _ _ _ hc q=>by
 have h1:(0:Int) < j:=hc.1
 exact floordiv_int (by omega) (by rw [Int.fdiv_eq_ediv_of_nonneg i (by omega)]; exact q) (.inl (PyProof.noPylong_of_log2 hc.2))
theorem CDivG.small {i j:Int}(h:0 < j)(h':j < 1073741824):CDivG i j:=by
 refine ⟨h,?_⟩
 have h0:j.natAbs ≠ 0:=by omega
 have:j.natAbs.log2 < 30:=(Nat.log2_lt h0).mpr (by omega)
 omega
theorem mulS {i j:Int}(h1:-(2 ^ 64) < j)(h2:j < 2 ^ 64):IntMulOk i j:=IntMulOk.of_right (intBits_le_64 h1 h2)
noncomputable def kitB (T U:String):Option Bool:=if (Value.type T == Value.type U)=true then some true else if PySem.W.kitMeta U=true then (fastBuiltinMro T).map (·.contains (.type U)) else none
theorem kit_of (K:PySem.W.Frag){T U:String}{b:Bool}(e:kitB T U=some b):PySem.W.kitOne K (.type T) (.type U)=some b:=e
theorem call_isinst:CallR X (.builtin "isinstance") (fun xs H Q=>∃ x T U b,xs=[x,.ty U]/\TyOf X.K H x (.type T)/\kitB T U=some b/\Q (.bl b) H):=by
 intro pins s σ H xs us Q I r h
 obtain ⟨x,T,U,b,rfl,ty,e,q⟩:=h
 obtain ⟨u,w',rfl,rx,ru⟩:=vals2 r
 cases ru
 exact isinst_ok I rx ty (kit_of X.K e) fun tk=>⟨.bl b,H,I.tok tk,rfl,q⟩
end
theorem iteP {b:Bool}{A B:Prop}(e:b=true)(h:A):if b=true then A else B:=by
 rw [if_pos e]
 exact h
theorem iteN {b:Bool}{A B:Prop}(e:b=false)(h:B):if b=true then A else B:=by
 subst e
 exact iteF h
structure DefAt (K:PySem.W.Frag)(mg:Str->Option Value)(x:Str)(st:Stmt)(ps:List Str)(f:Addr)(fd:FuncData):Prop where
 F:Fun K x x st f fd
 g:mg x=some (.ref f)
 b:Binds K fd ps []
theorem atI_lt {α:Type}{xs:List α}{i:Int}{v:α}(h:0<=i)(e:xs[i.toNat]?=some v):atI xs i=some v:=by
 have:=atI_nat e
 rwa [Int.toNat_of_nonneg h] at this
noncomputable def tMid (t u:TS):TS:=fun D σ H=>∃ M:St->Hp->Prop,t { D with nx:=M } σ H/\∀ σ' H',M σ' H'->u D σ' H'
theorem pss_mid {X:Cx}{st:Stmt}{rest:List Stmt}{t u:TS}(h1:PS X st t)(h2:PSs X rest u):PSs X (st :: rest) (tMid t u):=by
 intro pins s σ H D I h
 obtain ⟨M,h3,h4⟩:=h
 refine wpAny_execs_cons (thn (h1 pins s σ H _ I h3) fun f s1 q=>?_)
 cases f with
 | next =>
  obtain ⟨σ1,H1,I1,q1⟩:=q
  exact h2 pins s1 σ1 H1 D I1 (h4 σ1 H1 q1)
 | brk=>exact q
 | cont=>exact q
 | ret v=>exact q
theorem same_new {H:Hp}{l:Addr}{o:HO}(h:H l=none):Same H (upd H l o):=fun b u e=>by rw [upd_ne (ne_of_none e h)]; exact e
end L2
namespace L2
open PySem PySem.Spec PyProof.Rows
section
variable {X:Cx}{tg:Expr}
end
mutual
inductive Rdv (K:PySem.W.Frag)(H:Hp):V->PyData->Prop
 | non:Rdv K H .non .none
 | bl (b:Bool):Rdv K H (.bl b) (.bool b)
 | int (i:Int):Rdv K H (.int i) (.int i)
 | str (x:Str):Rdv K H (.str x) (.str x)
 | lst {a:Addr} {xs:List V} {ds:List PyData}:SqL K H a xs->RdvAll K H xs ds->Rdv K H (.ref a) (.list ds)
 | tup {a:Addr} {xs:List V} {ds:List PyData}:SqT K H a xs->RdvAll K H xs ds->Rdv K H (.ref a) (.tuple ds)
inductive RdvAll (K:PySem.W.Frag)(H:Hp):List V->List PyData->Prop
 | nil:RdvAll K H [] []
 | cons {x:V} {d:PyData} {xs:List V} {ds:List PyData}:Rdv K H x d->RdvAll K H xs ds->RdvAll K H (x :: xs) (d :: ds)
end
section
variable {X:Cx}{pins:List (Addr × Obj)}{σ:St}{H:Hp}{s:Shared}
theorem reads_lst {a:Addr}{xs:List V}{ds:List PyData}(I:Inv X pins σ H s)(hq:SqL X.K H a xs)(h:∀ us,Vals xs us->∃ as,ReadsAll s.heap us ds as):∀ u,RelV (.ref a) u->∃ as,Reads s.heap u (.list ds) as:=by
 intro u r
 cases r
 obtain ⟨its,rv,p,hz⟩:=I.list hq
 obtain ⟨as,ra⟩:=h _ rv
 obtain ⟨o,ho,hc,n,hd⟩:=p.isList
 exact ⟨_,.list ho hc hd (by simpa using ra)⟩
theorem reads_tup {a:Addr}{xs:List V}{ds:List PyData}(I:Inv X pins σ H s)(hq:SqT X.K H a xs)(h:∀ us,Vals xs us->∃ as,ReadsAll s.heap us ds as):∀ u,RelV (.ref a) u->∃ as,Reads s.heap u (.tuple ds) as:=by
 intro u r
 cases r
 obtain ⟨its,rv,p,hz⟩:=I.tuple hq
 obtain ⟨as,ra⟩:=h _ rv
 obtain ⟨o,ho,hc,n,hd⟩:=p
 exact ⟨_,.tuple ho hc hd (by simpa using ra)⟩
theorem reads_cons {v:V}{vs:List V}{d:PyData}{ds:List PyData}(h:∀ u,RelV v u->∃ as,Reads s.heap u d as)(t:∀ us,Vals vs us->∃ as,ReadsAll s.heap us ds as):∀ us,Vals (v :: vs) us->∃ as,ReadsAll s.heap us (d :: ds) as:=by
 intro us r
 cases r with
 | cons r1 r2 =>
  obtain ⟨as,ra⟩:=h _ r1
  obtain ⟨bs,rb⟩:=t _ r2
  exact ⟨_,.cons ra rb⟩
theorem Rdv.reads (I:Inv X pins σ H s){v:V}{d:PyData}{u:Value}(h:Rdv X.K H v d):RelV v u->∃ as,Reads s.heap u d as :=
 Rdv.rec (motive_1:=fun v d _=>∀ u,RelV v u->∃ as,Reads s.heap u d as) (motive_2:=fun vs ds _=>∀ us,Vals vs us->∃ as,ReadsAll s.heap us ds as)
  (fun u r=>by cases r; exact ⟨_,.none⟩) (fun b u r=>by cases r; exact ⟨_,.bool b⟩) (fun i u r=>by obtain ⟨t,rfl⟩:=r; exact ⟨_,.int i t⟩) (fun x u r=>by obtain ⟨t,rfl⟩:=r; exact ⟨_,.str x t⟩)
  (fun hq _ h=>reads_lst I hq h) (fun hq _ h=>reads_tup I hq h) (fun us r=>by cases r; exact ⟨_,.nil⟩) (fun _ _ h t=>reads_cons h t) h u
structure CmpD (x y:PyData):Prop where
 l1:x.canLay0=true
 l2:y.canLay0=true
 dp:x.depth<=64
noncomputable def rEqD (K:PySem.W.Frag)(neg:Bool):R2:=fun x y H Q=>∃ dx dy,Rdv K H x dx/\Rdv K H y dy/\CmpD dx dy/\Q (.bl (if neg then !PyData.eqv dx dy else PyData.eqv dx dy)) H
theorem op_ne_deep (hu:X.A.units + 64 < cLine):OpR X (compareOp .NotEq) (rEqD X.K true):=by
 intro pins s σ H x y v u Q I rx ry h
 obtain ⟨dx,dy,hx,hy,c,q⟩:=h
 obtain ⟨as,ra⟩:=hx.reads I rx
 obtain ⟨bs,rb⟩:=hy.reads I ry
 have:=c.dp
 exact SeqAt.compareNe_reads ra rb c.l1 c.l2 (by omega) ⟨.bl _,H,I,rfl,q⟩
noncomputable def rInD (K:PySem.W.Frag)(neg:Bool):R2:=fun x y H Q=>∃ d ds,Rdv K H x d/\Rdv K H y (.list ds)/\d.canLay0=true/\PyData.canLayAll0 ds=true/\d.depth<=60/\Q (.bl (if neg then !ds.any (fun z=>PyData.eqv z d) else ds.any fun z=>PyData.eqv z d)) H
theorem op_in_deep (hu:X.A.units + 64 < cLine):OpR X (compareOp .In) (rInD X.K false):=by
 intro pins s σ H x y v u Q I rx ry h
 obtain ⟨d,ds,hx,hy,c1,c2,c3,q⟩:=h
 obtain ⟨as,ra⟩:=hx.reads I rx
 obtain ⟨bs,rb⟩:=hy.reads I ry
 exact SeqAt.in_list_reads rb ra c2 c1 (by omega) ⟨.bl _,H,I,rfl,q⟩
theorem op_notIn_deep (hu:X.A.units + 64 < cLine):OpR X (compareOp .NotIn) (rInD X.K true):=by
 intro pins s σ H x y v u Q I rx ry h
 obtain ⟨d,ds,hx,hy,c1,c2,c3,q⟩:=h
 obtain ⟨as,ra⟩:=hx.reads I rx
 obtain ⟨bs,rb⟩:=hy.reads I ry
 exact SeqAt.notIn_list_reads rb ra c2 c1 (by omega) ⟨.bl _,H,I,rfl,q⟩
end
end L2
namespace L2
open PySem PySem.Spec PyProof.Rows
noncomputable def compCx (X:Cx)(N:List Str)(scope:Scope)(cl:List (Str × Addr))(C:Addr)(fp:List Addr)(pins:List (Addr × Obj))(s:Shared)(H:Hp):Cx where
 prog:=X.prog
 w:=X.w
 K:=X.K
 mg:=X.mg
 base:=X.base
 A:=X.A
 N:=N
 s₀:=s
 H₀:=H
 env:=compEnvC scope cl C X.env
 outer:=X.stack
 stack:=X.stack
 ex:=fp
 fn:=fun _=>false
 calm:=X.calm
 pn:=X.pn++pins
 xe:=fun _ _=>False
noncomputable def pull (src:List (Option Nat))(σ:St):St:=src.map fun o=>match o with
 | some j=>(σ[j]?).getD none
 | none=>none
structure CompOk (X:Cx)(N:List Str)(src:List (Option Nat))(scope:Scope)(cl:List (Str × Addr)):Prop where
 kind:scope.kind=.function
 nocell:∀ y ∈ scope.names,y.2 ≠ .cell
 names:∀ y ∈ scope.names,y.2=.local->scope.names.lookup y.1=some .local
 clos:closureFor scope X.env=pure cl
 sub:∀ x c,cl.lookup x=some c->X.env.cells.lookup x=some c
 has:∀ x,((relabel scope X.env).names.lookup x=some .cell\/(relabel scope X.env).names.lookup x=some .free)->∃ c,cl.lookup x=some c
 len:src.length=N.length
 pulls:∀ (i j:Nat) (x:Str),N[i]?=some x->src[i]?=some (some j)->X.N[j]?=some x/\(X.env.kindOf x=some .cell\/X.env.kindOf x=some .free)/\((relabel scope X.env).names.lookup x=some .cell\/(relabel scope X.env).names.lookup x=some .free)
theorem relabel_plain {scope:Scope}{env:Env}(nf:∀ y ∈ scope.names,y.2 ≠ .free):(relabel scope env).names=scope.names:=by
 show scope.names.map _=scope.names
 refine map_eq_self fun x hx=>?_
 obtain ⟨n,k⟩:=x
 have:(k == NameKind.free)=false:=by simpa using nf _ hx
 simp [this]
theorem CompOk.plain {X:Cx}{N:List Str}{src:List (Option Nat)}{scope:Scope}(kind:scope.kind=.function)(nocell:∀ y ∈ scope.names,y.2 ≠ .cell)(nofree:∀ y ∈ scope.names,y.2 ≠ .free)
  (names:∀ y ∈ scope.names,y.2=.local->scope.names.lookup y.1=some .local) (len:src.length=N.length) (none:∀ o ∈ src,o=none):CompOk X N src scope [] where
 kind:=kind
 nocell:=nocell
 names:=names
 clos:=closureFor_none nofree
 sub:=fun x c h=>nomatch h
 has:=fun x h=>by
  rw [relabel_plain nofree] at h
  rcases h with h | h
  ·exact absurd rfl (nocell _ (PySem.mem_of_lookup h))
  ·exact absurd rfl (nofree _ (PySem.mem_of_lookup h))
 len:=len
 pulls:=fun i j x _ h=>by
  have:=none _ (List.mem_of_getElem? h)
  cases this
noncomputable def PIfs (X:Cx)(ifs:List Expr)(t:TT):Prop :=
 ∀ (pins:List (Addr × Obj)) (s:Shared) (σ:St) (H:Hp) (Q:Bool->Hp->Prop),Inv X pins σ H s->t σ H Q ->
  wpAny (model X.prog X.w) X.A (forIn ifs true fun c r=>if r=true then do let ok <- isTrue c X.env (eval c X.env); pure (ForInStep.yield ok) else pure (ForInStep.yield r)) (TP X pins σ Q) X.xe s
noncomputable def tYes:TT:=fun _ H Q=>Q true H
theorem pifs_nil {X:Cx}:PIfs X [] tYes:=fun _ _ _ H _ I h=>wpAny_tests_nil ⟨H,I,h⟩
theorem pifs_one {X:Cx}{c:Expr}{t:TT}(h:PT X c t):PIfs X [c] t:=fun pins s σ H Q I hq=>wpAny_tests_one (h pins s σ H Q I hq)
noncomputable def CompGoes (J:It)(g:TG)(tc:TT)(te:TE)(Q:VK)(D:Addr)(σ0:St)(H0:Hp):Prop :=
 ∃ W:Nat->Nat->St->Hp->Prop,(∃ m,W 0 m σ0 H0)/\∀ i m σ' H',W i m σ' H' ->
  (J.stop i H'/\Q (.ref D) H')\/(J.go i H'/\∃ N:St->Hp->Prop,(∀ σ'' H'',N σ'' H''->∃ m',m' < m/\W (i + 1) m' σ'' H'') /\
   ∀ x H2,J.yld i H' x H2->g x σ' H2 fun σ2 H3=>tc σ2 H3 fun b H4=>if b=true then te σ2 H4 fun y H5=>∃ ys,H5 D=some (.lst ys)/\ys.length < sizeLine/\N σ2 (upd H5 D (.lst (ys++[y]))) else N σ2 H4)
noncomputable def tComp (wi:TI)(src:List (Option Nat))(g:TG)(tc:TT)(te:TE):TE:=fun σ H Q=>wi σ H fun J H1=>∀ D,H1 D=none->CompGoes J g tc te Q D (pull src σ) (upd H1 D (.lst []))
theorem Un.but {fs ex:List Addr}{H H1:Hp}{h h1 h2:Heap}{C:Addr}(u:Un fs ex H H1 h h1)(hC:h.objs.size<=C)(sb:Heap.SameBut C h1 h2):Un fs ex H H1 h h2:=by
 have ne:∀ b o,h.get? b=some o->b ≠ C:=fun b o e=>Nat.ne_of_lt (Nat.lt_of_lt_of_le (Heap.lt_size e) hC)
 refine ⟨fun b o e n hb hx=>(sb.2 b (ne b o e)).trans (u.keep b o e n hb hx),fun b o e n hb hx=>?_,u.free,fun b o e hx=>?_,u.tups,u.frzs,u.tbls⟩
 ·obtain ⟨sl,q⟩:=u.slot b o e n hb hx
  exact ⟨sl,(sb.2 b (ne b o e)).trans q⟩
 ·obtain ⟨o',q⟩:=u.there b o e hx
  exact ⟨o',(sb.2 b (ne b o e)).trans q⟩
theorem HOk.but {P:Program}{w:World}{H:Hp}{h h':Heap}{C:Addr}(ok:HOk P w H h)(hn:H C=none)(sb:Heap.SameBut C h h'):HOk P w H h':=fun b ob e=>by
 refine (ok b ob e).stay (fun c w' hc q=>(sb.2 c ?_).trans q) (fun _ q=>q) fun _ _ q=>q
 rintro rfl
 rcases hc with rfl | hc
 ·rw [hn] at e; cases e
 ·rw [hn] at hc; cases hc
section
variable {X:Cx}{tg iter elt:Expr}{ifs:List Expr}{scope:Scope}{pos:Pos}{N:List Str}{src:List (Option Nat)}{cl:List (Str × Addr)}{wi:TI}{g:TG}{tc:TT}{te:TE}
theorem comp_start {pins:List (Addr × Obj)}{σ:St}{H:Hp}{s:Shared}{fp:List Addr}{h1:Heap}{C:Addr}{tk:Nat}(ok:CompOk X N src scope cl)(I:Inv X pins σ H s)(hf:∀ b ∈ fp,FpOk X pins H b)(ho:∀ b ∈ fp,∃ o,s.heap.get? b=some o)
  (hC:C=s.heap.objs.size + 1) (k:∀ b u,s.heap.get? b=some u->h1.get? b=some u) (hD:h1.get? s.heap.objs.size=some { cls:=.type "list",data:=.seq #[] }) {m:Str->Option Value} (hn:h1.Ns C m) :
  Inv (compCx X N scope cl C fp pins s H) [] (pull src σ) (upd H s.heap.objs.size (.lst [])) { s with heap:=h1,toks:=tk }:=by
 have lt:∀ b o,s.heap.get? b=some o->b < s.heap.objs.size:=fun b o e=>Heap.lt_size e
 have nC:∀ b o,s.heap.get? b=some o->b ≠ C:=fun b o e=>by rw [hC]; exact Nat.ne_of_lt (Nat.lt_succ_of_lt (lt b o e))
 have nD:∀ b o,s.heap.get? b=some o->b ≠ s.heap.objs.size:=fun b o e=>Nat.ne_of_lt (lt b o e)
 have fr:∀ b,s.heap.objs.size<=b->H b=none:=fun b hb=>I.hok.fresh hb
 have nst:∀ b,b ≠ X.env.locals->b ∉ X.fs->b ∉ frs X.stack:=fun b h1 h2 z=>(List.mem_cons.mp (I.stkSub b z)).elim h1 h2
 have sub:=ok.sub
 refine ⟨⟨I.ok.mod,ok.kind,I.ok.glob,I.ok.blt,by rw [show (compCx X N scope cl C fp pins s H).env.locals=C from rfl,hC]; exact Nat.le_succ _,fun x y c e1 e2=>I.ok.inj x y c (sub x c e1) (sub y c e2),ok.has,(fun x c z _=>nomatch z),I.ok.hd,I.ok.frames,.inl rfl,fun b hb=>?_,I.bs,Nat.le_trans I.ok.bsz I.sz,fun b o e hb=>?_,fun b hb hz=>?_,I.stack,I.stkFree⟩,
  rfl,I.bare,Un.laid k (Nat.le_refl _) (fr _ (Nat.le_refl _)),⟨m,hn,fun i x v e1 e2 e3=>?_⟩,fun x c e=>?_,?_,fun x c e=>?_,fun p hp=>?_,I.hok.laid k (Nat.le_refl _) ⟨Nat.zero_le _,[],0,.nil,hD⟩,?_⟩
 ·obtain ⟨o,e⟩:=ho b hb
  exact ⟨nC b o e,fun x c z=>(hf b hb).2.2.2.2.1 x c (sub x c z)⟩
 ·rcases (hf b hb).2.2.2.1 with z | z
  ·exact I.ok.noex b o e z
  ·exact absurd (Nat.lt_of_lt_of_le (Heap.lt_size (I.ok.bs b o e).1) z) (Nat.lt_irrefl _)
 ·exact nst b (hf b hb).2.1 (hf b hb).2.2.1 hz
 ·have hi:i < src.length:=by
   have:=(List.getElem?_eq_some_iff.mp e2).1
   unfold pull at this
   rw [List.length_map] at this
   exact this
  unfold pull at e2
  rw [List.getElem?_map,List.getElem?_eq_getElem hi] at e2
  cases q:src[i] with
  | none=>rw [q] at e2; cases e2
  | some j =>
   rw [q] at e2
   have e2':(σ[j]?).getD none=some v:=Option.some.inj e2
   have e4:σ[j]?=some (some v):=by
    cases z:σ[j]? with
    | none=>rw [z] at e2'; cases e2'
    | some o=>rw [z] at e2'; exact congrArg some e2'
   obtain ⟨p1,p2,p3⟩:=ok.pulls i j x e1 (by rw [List.getElem?_eq_getElem hi,q])
   obtain ⟨m',hn',hl⟩:=I.loc
   obtain ⟨u,r,l⟩:=hl j x v p1 e4 (by
    rcases p2 with z | z
    ·exact .inr (.inl z)
    ·exact .inr (.inr z))
   refine ⟨u,r,.inr ⟨p3,?_⟩⟩
   obtain ⟨c,hc⟩:=ok.has x p3
   refine ⟨c,hc,?_⟩
   rcases l with ⟨z,_⟩ | ⟨_,c',hc',o,ho',hd'⟩
   ·rcases p2 with y | y <;> rw [z] at y <;> cases y
   ·rw [sub x c hc] at hc'
    cases hc'
    exact ⟨o,k _ o ho',hd'⟩
 ·obtain ⟨v,o,e1,e2⟩:=I.cell x c (sub x c e)
  exact ⟨v,o,k c o e1,e2⟩
 ·show upd H s.heap.objs.size (.lst []) C=none
  rw [hC,upd_ne (Nat.succ_ne_self _)]
  exact fr _ (Nat.le_succ _)
 ·show upd H s.heap.objs.size (.lst []) c=none
  obtain ⟨v,o,e1,e2⟩:=I.cell x c (sub x c e)
  rw [upd_ne (nD c o e1)]
  exact I.freeC x c (sub x c e)
 ·have hp':p ∈ X.pn++pins:=by
   have:p ∈ (X.pn++pins)++[]:=hp
   simpa using this
  obtain ⟨e1,e2,e3,e4,e5⟩:=I.pin p hp'
  refine ⟨k _ _ e1,?_,nC _ _ e1,nst _ e3 e4,e5⟩
  show upd H s.heap.objs.size (.lst []) p.1=none
  rw [upd_ne (nD _ _ e1)]
  exact e2
 ·unfold pull
  rw [List.length_map]
  exact ok.len
theorem pe_comp (ok:CompOk X N src scope cl)(hcalm:X.calm=true)(hi:PI X tg iter wi)
  (hg:∀ C fp pins s H,PG (compCx X N scope cl C fp pins s H) tg g) (hc:∀ C fp pins s H,PIfs (compCx X N scope cl C fp pins s H) ifs tc) (he:∀ C fp pins s H,PE (compCx X N scope cl C fp pins s H) elt te)
  (hs:∀ x,foldedSetIterable iter X.env x=pure x:=by intro _; rfl):PE X (.ListComp elt [⟨tg,iter,ifs,0⟩] scope pos) (tComp wi src g tc te):=by
 intro pins s σ H Q I h
 rw [eval_ListComp]
 refine wpAny_comprehension_free (use:=none) rfl hs ok.clos ok.kind ok.names (thn (hi pins s σ H _ I h) fun xv s1 h1=>thn h1 fun itv s2 h2=>?_)
 obtain ⟨it,fp,tn,J,H2,e,I2,T,st2,f2,q2⟩:=h2
 subst e
 refine wpAny_newObj_type (wpAny_newFunctionEnv ok.nocell (by intro y hy; simp at hy) (fun h₁ hns₁ hsb₁=>?_) ok.kind)
 dsimp only at hns₁ hsb₁ ⊢
 generalize hP:s2.heap.push { cls:=.type "list",dict:=none,data:=.seq ([]:List Value).toArray }=P2 at hns₁ hsb₁ ⊢
 have hC:P2.objs.size=s2.heap.objs.size + 1:=by rw [<- hP,Heap.size_push]
 have k:∀ b u,s2.heap.get? b=some u->h₁.get? b=some u:=fun b u e=>by
  have lt:=Heap.lt_size e
  exact (hsb₁.2 b (by rw [hC]; exact Nat.ne_of_lt (Nat.lt_succ_of_lt lt))).trans (Heap.get?_push_of_some _ (hP ▸ Heap.get?_push_of_some _ e))
 have hD:h₁.get? s2.heap.objs.size=some { cls:=.type "list",data:=.seq #[] }:=(hsb₁.2 _ (by rw [hC]; exact (Nat.succ_ne_self _).symm)).trans (Heap.get?_push_of_some _ (hP ▸ Heap.get?_push_size _ rfl))
 have ho:∀ b ∈ fp,∃ o,s2.heap.get? b=some o:=fun b hb=>let ⟨o,e,_⟩:=T.obj 0 _ st2 b hb; ⟨o,e⟩
 obtain ⟨W,⟨m0,w0⟩,turn⟩:=q2 s2.heap.objs.size (I2.hok.fresh (Nat.le_refl _))
 have I0:=comp_start (tk:=s2.toks + ([]:List (Str × Value)).length) ok I2 f2 ho hC k hD hns₁
 have st0:tn 0 h₁:=T.keep 0 _ _ st2 fun b _ o e=>k b o e
 have fr0:∀ b ∈ fp,upd H2 s2.heap.objs.size (.lst []) b=none:=fun b hb=>by
  obtain ⟨o,e⟩:=ho b hb
  rw [upd_ne (Nat.ne_of_lt (Heap.lt_size e))]
  exact (f2 b hb).1
 have stat:∀ {H':Hp},(∀ b ∈ fp,H' b=none)->∀ b ∈ fp,FpOk (compCx X N scope cl P2.objs.size fp pins s2 H2) [] H' b:=fun {H'} hn b hb=>by
  obtain ⟨o,e⟩:=ho b hb
  have lt:=Heap.lt_size e
  refine ⟨hn b hb,?_,fun z=>(List.mem_cons.mp (I2.stkSub b z)).elim (f2 b hb).2.1 (f2 b hb).2.2.1,.inl hb,fun x c z=>(f2 b hb).2.2.2.2.1 x c (ok.sub x c z),fun p hp=>?_⟩
  ·show b ≠ P2.objs.size
   rw [hC]
   exact Nat.ne_of_lt (Nat.lt_succ_of_lt lt)
  ·have hp':p ∈ X.pn++pins:=by
    have:p ∈ (X.pn++pins)++[]:=hp
    simpa using this
   exact (f2 b hb).2.2.2.2.2 p hp'
 have loop:∀ s₃:Shared,s₃={ s2 with heap:=h₁,toks:=s2.toks + ([]:List (Str × Value)).length } ->
   codeAny (model X.prog X.w) X.A (.compLoop (.ListComp elt [⟨tg,iter,ifs,0⟩] scope pos) 0 (.ref it) (.ref s2.heap.objs.size) (compEnvC scope cl P2.objs.size X.env))
    (compPost (model X.prog X.w) X.A X.xe none (EP X pins σ Q) (.ref s2.heap.objs.size) P2.objs.size) s₃:=by
  rintro s₃ rfl
  refine codeAny_loop rfl (fun n s'=>∃ i σ' H',Inv (compCx X N scope cl P2.objs.size fp pins s2 H2) [] σ' H' s'/\tn i s'.heap/\(∀ b ∈ fp,H' b=none)/\W i n σ' H') ?_ m0 ⟨0,_,_,I0,st0,fr0,w0⟩
  rintro n s3 ⟨i,σ3,H3,I3,st3,fr3,w3⟩
  show wpAny _ X.A ((compTurn (.ListComp elt [⟨tg,iter,ifs,0⟩] scope pos) 0 (.ref it) (.ref s2.heap.objs.size) (compEnvC scope cl P2.objs.size X.env)).onRaise (fun x=>do noteFrame x (compEnvC scope cl P2.objs.size X.env); theTreesLotGoes x)) _ _ s3
  refine wpAny_noted ?_
  rw [compTurn_list]
  rcases turn i n σ3 H3 w3 with ⟨stop,qn⟩ | ⟨go,N',hN,step⟩
  ·refine wpAny_bind (wpAny_standAt (wpAny_bind (thn (T.done (compCx X N scope cl P2.objs.size fp pins s2 H2) rfl rfl rfl hcalm i [] s3 σ3 H3 _ I3 (stat fr3) st3 stop) fun r s4 ⟨hr,I4⟩=>?_)))
   subst hr
   refine wpAny_pure ?_
   obtain ⟨m,hm,_⟩:=I4.loc
   refine ⟨m,hm,fun h' sb=>⟨.ref s2.heap.objs.size,H3,?_,rfl,qn⟩⟩
   have un:Un (frs X.stack) fp H2 H3 s2.heap h':=Un.but I4.base (by show s2.heap.objs.size<=P2.objs.size; rw [hC]; exact Nat.le_succ _) sb
   have hok:HOk X.prog X.w H3 h':=HOk.but I4.hok I4.free sb
   exact I2.call' (s':={ s4 with heap:=h' }) (ch:=fp) I4.os un hok I4.bare fun b hb=>⟨(f2 b hb).2.2.2.1,(f2 b hb).2.1,(f2 b hb).2.2.2.2.1,(f2 b hb).2.2.2.2.2⟩
  ·refine wpAny_bind (wpAny_standAt (wpAny_bind (thn (T.item (compCx X N scope cl P2.objs.size fp pins s2 H2) rfl rfl rfl hcalm i [] s3 σ3 H3 _ I3 (stat fr3) st3 go) fun r s4 ⟨u,hr,h4⟩=>?_)))
   subst hr
   dsimp only
   refine wpAny_bind (thn h4 fun _ s5 ⟨x,H5,I5,r5,y5,st5,fr5⟩=>?_)
   have I5':=I5.pinned (stat fr5) (T.obj _ _ st5)
   refine wpAny_bind (wpAny_mono (hg P2.objs.size fp pins s2 H2 _ s5 σ3 H5 x u _ I5' r5 (step x H5 y5)) (fun _ s6 ⟨σ6,H6,I6,q6⟩=>?_) fun _ _ z=>False.elim z)
   have again:∀ {s7:Shared} {σ7:St} {H7:Hp},Inv (compCx X N scope cl P2.objs.size fp pins s2 H2) ([]++pinsAt fp s5.heap) σ7 H7 s7->N' σ7 H7->∃ m,m < n/\∃ i σ' H',Inv (compCx X N scope cl P2.objs.size fp pins s2 H2) [] σ' H' s7/\tn i s7.heap/\(∀ b ∈ fp,H' b=none)/\W i m σ' H':=fun {s7 σ7 H7} I7 n7=>by
    obtain ⟨m',hm,w7⟩:=hN σ7 H7 n7
    refine ⟨m',hm,i + 1,σ7,H7,I7.unpinned,T.keep _ _ _ st5 fun b hb o e=>(I7.pin (b,o) (List.mem_append_right _ (List.mem_append_right _ (mem_pinsAt hb e)))).1,fun b hb=>?_,w7⟩
    obtain ⟨o,e,d⟩:=T.obj _ _ st5 b hb
    exact (I7.pin (b,o) (List.mem_append_right _ (List.mem_append_right _ (mem_pinsAt hb e)))).2.1
   refine wpAny_bind (wpAny_mono (hc P2.objs.size fp pins s2 H2 _ s6 σ6 H6 _ I6 q6) (fun b s7 ⟨H7,I7,q7⟩=>?_) fun _ _ z=>False.elim z)
   cases b with
   | false =>
    rw [if_neg Bool.false_ne_true] at q7
    exact wpAny_pure ⟨rfl,again I7 q7⟩
   | true =>
    rw [if_pos rfl] at q7
    refine wpAny_bind (wpAny_bind (wpAny_mono (he P2.objs.size fp pins s2 H2 _ s7 σ6 H7 _ I7 q7) (fun y s8 ⟨v8,H8,I8,r8,ys,hys,hlen,q8⟩=>?_) fun _ _ z=>False.elim z))
    refine wpAny_bind (wpAny_mono (mt_append (X:=compCx X N scope cl P2.objs.size fp pins s2 H2) _ s8 σ6 H8 (.ref s2.heap.objs.size) [v8] (.ref s2.heap.objs.size) [y] (fun _ H9=>N' σ6 H9) I8 rfl (.cons r8 .nil) ⟨_,ys,v8,rfl,rfl,hys,hlen,q8⟩) (fun _ s9 ⟨v9,H9,I9,_,q9⟩=>?_) fun _ _ z=>False.elim z)
    exact wpAny_pure (wpAny_pure ⟨rfl,again I9 q9⟩)
 exact codeAny_compStart_list (loop _ rfl) (T.self _ 0 _ _ _ st0 (loop _ rfl))
end
end L2
namespace L2
open PySem PySem.Spec PyProof.Rows
section
variable {K:PySem.W.Frag}{src:List (Option Nat)}{g:TG}{tc:TT}{te:TE}{Q:VK}{σ:St}{H:Hp}{D:Addr}
theorem comp_list {a:Addr}{xs:List V}(Pv:Nat->St->Hp->Prop)(h0:Pv 0 σ H)(hl:∀ i σ H,i<=xs.length->Pv i σ H->SqL K H a xs)
  (hs:∀ i x σ H,xs[i]?=some x->Pv i σ H->g x σ H fun σ2 H3=>tc σ2 H3 fun b H4=>if b=true then te σ2 H4 fun y H5=>∃ ys,H5 D=some (.lst ys)/\ys.length < sizeLine/\Pv (i + 1) σ2 (upd H5 D (.lst (ys++[y]))) else Pv (i + 1) σ2 H4)
  (hd:∀ σ H,Pv xs.length σ H->Q (.ref D) H):CompGoes (Itl K a) g tc te Q D σ H:=by
 refine ⟨fun i m σ H=>m=xs.length - i/\i<=xs.length/\Pv i σ H,⟨xs.length,by simp,Nat.zero_le _,h0⟩,?_⟩
 rintro i m σ H ⟨rfl,hi,p⟩
 have q:=hl i σ H hi p
 by_cases hlt:i < xs.length
 ·refine .inr ⟨⟨xs,xs[i],q,by simp [hlt]⟩,Pv (i + 1),fun σ' H' p'=>⟨xs.length - (i + 1),by omega,rfl,hlt,p'⟩,fun x H' y=>?_⟩
  obtain ⟨e,y⟩:=y
  subst e
  exact hs i x σ _ (y xs q) p
 ·have e:i=xs.length:=by omega
  subst e
  exact .inl ⟨⟨xs,q,Nat.le_refl _⟩,hd σ H p⟩
theorem comp_range {lo:Int}{n:Nat}(Pv:Nat->St->Hp->Prop)(h0:Pv 0 σ H)
  (hs:∀ i σ H,i < n->Pv i σ H->g (.int (lo + i)) σ H fun σ2 H3=>tc σ2 H3 fun b H4=>if b=true then te σ2 H4 fun y H5=>∃ ys,H5 D=some (.lst ys)/\ys.length < sizeLine/\Pv (i + 1) σ2 (upd H5 D (.lst (ys++[y]))) else Pv (i + 1) σ2 H4)
  (hd:∀ σ H,Pv n σ H->Q (.ref D) H):CompGoes (Itr lo n) g tc te Q D σ H:=by
 refine ⟨fun i m σ H=>m=n - i/\i<=n/\Pv i σ H,⟨n,by simp,Nat.zero_le _,h0⟩,?_⟩
 rintro i m σ H ⟨rfl,hi,p⟩
 by_cases hlt:i < n
 ·refine .inr ⟨hlt,Pv (i + 1),fun σ' H' p'=>⟨n - (i + 1),by omega,rfl,hlt,p'⟩,fun x H' y=>?_⟩
  obtain ⟨e,y⟩:=y
  subst e y
  exact hs i σ _ hlt p
 ·have e:i=n:=by omega
  subst e
  exact .inl ⟨Nat.le_refl _,hd σ H p⟩
end
theorem rdv_strs {K:PySem.W.Frag}{H:Hp}:∀ rs:List Str,RdvAll K H (rs.map V.str) (rs.map PyData.str)
 | []=>.nil
 | t :: r=>.cons (.str t) (rdv_strs r)
end L2
namespace L2
open PySem PySem.Spec PyProof.Rows
section
variable {X:Cx}{K:PySem.W.Frag}
theorem pt_truthK {a:Expr}{ta:TE}(hK:X.K=K)(ha:PE X a ta)(he:∀ whole,isTrue a X.env whole=(do let v <- whole; standAt a.pos; holding [v] (truthy v))) :
  PT X a (fun σ H Q=>ta σ H fun x H'=>∃ k,TruV K x H' k/\Q k H'):=by
 subst hK
 exact pt_truth ha he
theorem ix_listK (hK:X.K=K):IxR X (rIxL K):=by
 subst hK
 exact ix_list
theorem ix_tupK (hK:X.K=K):IxR X (rIxT K):=by
 subst hK
 exact ix_tup
theorem call_len_seqK (hK:X.K=K):CallR X (.builtin "len") (fun xs H Q=>∃ p ys,xs=[.ref p]/\(SqL K H p ys\/SqT K H p ys)/\Q (.int ys.length) H):=by
 subst hK
 exact call_len_seq
theorem op_in_deepK (hK:X.K=K)(hu:X.A.units + 64 < cLine):OpR X (compareOp .In) (rInD K false):=by
 subst hK
 exact op_in_deep hu
theorem op_notIn_deepK (hK:X.K=K)(hu:X.A.units + 64 < cLine):OpR X (compareOp .NotIn) (rInD K true):=by
 subst hK
 exact op_notIn_deep hu
theorem pg_tupK {es:List Expr}{k:Nat}{t:TGs}{n:Nat}{pos:Pos}(hK:X.K=K)(hc:X.calm=true)(h:PGs X es t)
  (hn:(assignEach es X.env).length=n:=by rfl) (hst:(assignEach es X.env).findIdx? (·.1)=none:=by rfl):PG X (.Tuple es k pos) (gTup K n t):=by
 subst hK
 exact pg_tup hc h hn hst
end
end L2
namespace L2
open PySem PySem.Spec PyProof.Rows
section
variable {fs ch:List Addr}{H:Hp}{h h':Heap}{a:Addr}{o:HO}
theorem Un.laidX (k:∀ b u,b ∉ ch->h.get? b=some u->h'.get? b=some u)(hp:h.objs.size<=a)(hn:H a=none):Un fs ch H (upd H a o) h h' where
 keep:=fun b u q _ _ hx=>k b u hx q
 slot:=fun b u q _ _ hx=>⟨u.slots,k b u hx q⟩
 free:=fun b u q n _=>by rw [upd_ne (Nat.ne_of_lt (Nat.lt_of_lt_of_le (Heap.lt_size q) hp))]; exact n
 there:=fun b u q hx=>⟨u,k b u hx q⟩
 tups:=fun b xs q=>by rw [upd_ne (ne_of_none q hn)]; exact q
 frzs:=fun b u xs q=>by rw [upd_ne (ne_of_none q hn)]; exact q
 tbls:=fun b ps q=>⟨#[],by rw [upd_ne (ne_of_none q hn),q]; simp⟩
theorem Un.keptX (k:∀ b u,b ∉ ch->h.get? b=some u->h'.get? b=some u):Un fs ch H H h h' :=
 ⟨fun b ob q _ _ hx=>k b ob hx q,fun b ob q _ _ hx=>⟨ob.slots,k b ob hx q⟩,fun _ _ _ n _=>n,fun b ob q hx=>⟨ob,k b ob hx q⟩,fun _ _ q=>q,fun _ _ _ q=>q,fun _ ps q=>⟨#[],by rw [q]; simp⟩⟩
theorem HOk.keptX {P:Program}{w:World}(x:HOk P w H h)(k:∀ b u,b ∉ ch->h.get? b=some u->h'.get? b=some u)(hch:∀ b ∈ ch,H b=none):HOk P w H h':=fun b u e=>by
 refine (x b u e).stay (fun c v hc q=>k c v (fun z=>?_) q) (fun _ q=>q) fun _ _ q=>q
 have n:=hch c z
 rcases hc with rfl | hc
 ·rw [n] at e; cases e
 ·rw [n] at hc; cases hc
theorem HOk.laidX {P:Program}{w:World}(x:HOk P w H h)(k:∀ b u,b ∉ ch->h.get? b=some u->h'.get? b=some u)(hch:∀ b ∈ ch,H b=none)(hp:h.objs.size<=a)(new:ObjOk P w (upd H a o) h' a o):HOk P w (upd H a o) h':=fun b u e=>by
 have hn:=x.fresh hp
 by_cases hb:b=a
 ·subst hb; rw [upd_same] at e; cases e; exact new
 ·rw [upd_ne hb] at e
  refine (x b u e).stay (fun c v hc q=>k c v (fun z=>?_) q) (fun c q=>by rw [upd_ne (ne_of_none q hn)]; exact q) fun c xs q=>by rw [upd_ne (ne_of_none q hn)]; exact q
  have n:=hch c z
  rcases hc with rfl | hc
  ·rw [n] at e; cases e
  ·rw [n] at hc; cases hc
end
section
variable {X:Cx}{pins:List (Addr × Obj)}{s:Shared}{σ:St}{H:Hp}{E:Value->Shared->Prop}{fp wr FP:List Addr}{elts:List Expr}{k:Nat}{pos:Pos}{e:Addr}{n i:Nat}{Pt:Nat->Array Value->Prop}{Sn:Nat->Heap->Prop}{Mid:Nat->Addr->Heap->Prop}{J:It}{tn:Nat->Heap->Prop}
theorem item_T (I:Inv X pins σ H s)(hf:∀ b ∈ fp,FpOk X pins H b)(ho:∀ b ∈ fp,∃ o,s.heap.get? b=some o)(hwr:∀ b ∈ wr,b ∈ fp)(W:WalksT X.prog X.w X.A e FP wr n Pt Sn Mid)(hi:i < n)(st:Sn i s.heap)
  (y:∀ T vals,H T=none->Pt i vals->∃ vs,Vals vs vals.toList/\vs.length<=sizeLine/\J.yld i H (.ref T) (upd H T (.tup vs))) (nx:∀ h'',Sn (i + 1) h''->tn (i + 1) h'') :
  wpAny (model X.prog X.w) X.A (pyNext (.ref e)) (fun r s1=>∃ u,r=some u /\
   wpAny (model X.prog X.w) X.A (letOwnedTupleGo (.Tuple elts k pos) (.ref e) u) (fun _ s2=>∃ x H',Inv X pins σ H' s2/\RelV x u/\J.yld i H x H'/\tn (i + 1) s2.heap/\∀ b ∈ fp,H' b=none) E s1) E s:=by
 refine W.item i s _ E hi st fun T vals h' tk hP hT0 hT hm kk=>⟨.ref T,rfl,?_⟩
 have hn:H T=none:=I.hok.fresh hT0
 obtain ⟨vs,hv,hl,hy⟩:=y T vals hn hP
 refine W.go elts k pos i T { s with heap:=h',toks:=tk } _ E hm fun h'' st'' kk2=>?_
 have k2:∀ b o,b ∉ wr->s.heap.get? b=some o->h''.get? b=some o:=fun b o hb e=>kk2 b o hb (kk b o hb e)
 have hTup:IsTup h'' T vals:=by
  obtain ⟨o,e1,c,m,d⟩:=hT
  exact ⟨o,kk2 T o (W.apart i T _ hm) e1,c,m,d⟩
 have hch:∀ b ∈ wr,H b=none:=fun b hb=>(hf b (hwr b hb)).1
 refine ⟨.ref T,upd H T (.tup vs),?_,rfl,hy,nx _ st'',fun b hb=>?_⟩
 ·exact I.call' (s':={ s with heap:=h'',toks:=tk }) (ch:=wr) rfl (Un.laidX k2 hT0 hn) (HOk.laidX I.hok k2 hch hT0 ⟨hl,vals.toList,hv,by simpa using hTup⟩) I.bare fun b hb=>let f:=hf b (hwr b hb); ⟨f.2.2.2.1,f.2.1,f.2.2.2.2.1,f.2.2.2.2.2⟩
 ·obtain ⟨o,e1⟩:=ho b hb
  rw [upd_ne (Nat.ne_of_lt (Nat.lt_of_lt_of_le (Heap.lt_size e1) hT0))]
  exact (hf b hb).1
theorem done_T (I:Inv X pins σ H s)(hf:∀ b ∈ fp,FpOk X pins H b)(hwr:∀ b ∈ wr,b ∈ fp)(W:WalksT X.prog X.w X.A e FP wr n Pt Sn Mid)(st:Sn n s.heap) :
  wpAny (model X.prog X.w) X.A (pyNext (.ref e)) (fun r s1=>r=none/\Inv X pins σ H s1) E s :=
 W.done s _ E st fun h' tk kk=>⟨rfl,I.call' (s':={ s with heap:=h',toks:=tk }) (ch:=wr) rfl (Un.keptX kk) (HOk.keptX I.hok kk fun b hb=>(hf b (hwr b hb)).1) I.bare fun b hb=>let f:=hf b (hwr b hb); ⟨f.2.2.2.1,f.2.1,f.2.2.2.2.1,f.2.2.2.2.2⟩⟩
end
theorem not_cell {h:Heap}{b:Addr}{o:Obj}{vs:Array Value}(e:h.get? b=some o)(d:o.data=.fields vs):∃ o,h.get? b=some o/\∀ v,o.data ≠ .cell v:=⟨o,e,fun v z=>by rw [d] at z; cases z⟩
noncomputable def Ite (K:PySem.W.Frag)(l:Addr):It:=⟨fun i H=>∃ xs,SqL K H l xs/\i < xs.length,fun i H x H'=>∃ T,x=.ref T/\H T=none/\∀ xs,SqL K H l xs->∃ v,xs[i]?=some v/\H'=upd H T (.tup [.int i,v]),fun i H=>∃ xs,SqL K H l xs/\i=xs.length⟩
theorem turn_enum {P:Program}{w:World}{K:PySem.W.Frag}{elts:List Expr}{k:Nat}{pos:Pos}(e it l:Addr)(hei:e ≠ it)(hle:l ≠ e)(hli:l ≠ it) :
  Turn P w K (.Tuple elts k pos) (Ite K l) [e,it] e (fun i h=>(∃ old,IsEnum h e it i old)/\h.IsListIter it l i) where
 mem:=by simp
 obj:=fun i h st b hb=>by
  obtain ⟨⟨old,he⟩,o,e2,c,d⟩:=st
  rcases List.mem_cons.mp hb with rfl | hb
  ·exact not_cell he rfl
  ·have z:b=it:=by simpa using hb
   subst z
   exact not_cell e2 d
 keep:=fun i h h' st kk=>by
  obtain ⟨⟨old,he⟩,o,e2,r⟩:=st
  exact ⟨⟨old,kk e (by simp) _ he⟩,o,kk it (by simp) o e2,r⟩
 item:=by
  intro X hP hw hK hc i pins s σ H E I hf st hg
  subst hP hw hK
  obtain ⟨xs,hq,hlt⟩:=hg
  obtain ⟨its,rv,p,hz⟩:=I.list hq
  have hl:=rv.length
  obtain ⟨⟨old,he⟩,o2,e2,c2,d2⟩:=id st
  refine item_T (wr:=[e,it]) (J:=Ite X.K l) (tn:=fun i h=>(∃ old,IsEnum h e it i old)/\h.IsListIter it l i) I hf (fun b hb=>?_) (fun b hb=>hb) (WalksT.enumerate (I.ok.hd hc) e it l hei hle hli its.toArray) (by simp; omega) ⟨st.1,st.2,p.isList⟩ (fun T vals hn hp=>?_) fun h'' q=>⟨q.1,q.2.1⟩
  ·rcases List.mem_cons.mp hb with rfl | hb
   ·exact ⟨_,he⟩
   ·have z:b=it:=by simpa using hb
    subst z
    exact ⟨_,e2⟩
  ·obtain ⟨t,x,hx,rfl⟩:=hp
   have hx':its[i]?=some x:=by simpa using hx
   obtain ⟨u,hu,ru⟩:=rv.get (i:=i) (x:=xs[i]) (by rw [List.getElem?_eq_getElem hlt])
   rw [hu] at hx'
   cases hx'
   exact ⟨[.int i,xs[i]],.cons ⟨t,rfl⟩ (.cons ru .nil),(by show 2<=sizeLine; decide),T,rfl,hn,fun ys hy=>⟨xs[i],by rw [I.list_inj hy hq,List.getElem?_eq_getElem hlt],rfl⟩⟩
 done:=by
  intro X hP hw hK hc i pins s σ H E I hf st hg
  subst hP hw hK
  obtain ⟨xs,hq,rfl⟩:=hg
  obtain ⟨its,rv,p,hz⟩:=I.list hq
  have hl:its.toArray.size=xs.length:=by simp [rv.length]
  refine done_T (fp:=[e,it]) (wr:=[e,it]) I hf (fun b hb=>hb) (WalksT.enumerate (I.ok.hd hc) e it l hei hle hli its.toArray) ?_
  rw [hl]
  exact ⟨st.1,st.2,p.isList⟩
 self:=fun A i s Q E st h=>by
  obtain ⟨⟨old,he⟩,_⟩:=st
  exact wpAny_pyIter_enum he h
noncomputable def Ites (x:Str):It:=⟨fun i _=>i < x.cps.size,fun i H v H'=>∃ T c,v=.ref T/\H T=none/\x.cps[i]?=some c/\H'=upd H T (.tup [.int i,.str ⟨#[c]⟩]),fun i _=>i=x.cps.size⟩
theorem turn_enumS {P:Program}{w:World}{K:PySem.W.Frag}{elts:List Expr}{k:Nat}{pos:Pos}(e it:Addr)(x:Str)(t:Tok)(n:String)(hei:e ≠ it)
  (D:∀ A:Around,A.handled=none->Draws P w A it [it] x.cps.size (fun i v=>∃ c u,x.cps[i]?=some c/\v=.str ⟨#[c]⟩ u) (fun i h=>h.IsStrIter it n x t i)) :
  Turn P w K (.Tuple elts k pos) (Ites x) [e,it] e (fun i h=>(∃ old,IsEnum h e it i old)/\h.IsStrIter it n x t i) where
 mem:=by simp
 obj:=fun i h st b hb=>by
  obtain ⟨⟨old,he⟩,o,e2,c,d⟩:=st
  rcases List.mem_cons.mp hb with rfl | hb
  ·exact not_cell he rfl
  ·have z:b=it:=by simpa using hb
   subst z
   exact not_cell e2 d
 keep:=fun i h h' st kk=>by
  obtain ⟨⟨old,he⟩,o,e2,r⟩:=st
  exact ⟨⟨old,kk e (by simp) _ he⟩,o,kk it (by simp) o e2,r⟩
 item:=by
  intro X hP hw hK hc i pins s σ H E I hf st hg
  subst hP hw hK
  obtain ⟨⟨old,he⟩,o2,e2,c2,d2⟩:=id st
  refine item_T (wr:=[e,it]) (J:=Ites x) (tn:=fun i h=>(∃ old,IsEnum h e it i old)/\h.IsStrIter it n x t i) I hf (fun b hb=>?_) (fun b hb=>hb) (WalksT.enumerateD (D X.A.in1 (I.ok.hd hc)) e hei (by simpa using hei) (by simp)) hg st (fun T vals hn hp=>?_) fun h'' q=>q
  ·rcases List.mem_cons.mp hb with rfl | hb
   ·exact ⟨_,he⟩
   ·have z:b=it:=by simpa using hb
    subst z
    exact ⟨_,e2⟩
  ·obtain ⟨t',v,⟨c,u,hx,rfl⟩,rfl⟩:=hp
   exact ⟨[.int i,.str ⟨#[c]⟩],.cons ⟨t',rfl⟩ (.cons ⟨u,rfl⟩ .nil),(by show 2<=sizeLine; decide),T,c,rfl,hn,hx,rfl⟩
 done:=by
  intro X hP hw hK hc i pins s σ H E I hf st hg
  subst hP hw hK
  have z:i=x.cps.size:=hg
  subst z
  exact done_T (fp:=[e,it]) (wr:=[e,it]) I hf (fun b hb=>hb) (WalksT.enumerateD (D X.A.in1 (I.ok.hd hc)) e hei (by simpa using hei) (by simp)) st
 self:=fun A i s Q E st h=>by
  obtain ⟨⟨old,he⟩,_⟩:=st
  exact wpAny_pyIter_enum he h
noncomputable def Itz (K:PySem.W.Frag)(l1 l2:Addr):It:=⟨fun i H=>∃ xs ys,SqL K H l1 xs/\SqL K H l2 ys/\i < xs.length/\i < ys.length,
 fun i H x H'=>∃ T,x=.ref T/\H T=none/\∀ xs ys,SqL K H l1 xs->SqL K H l2 ys->∃ v v',xs[i]?=some v/\ys[i]?=some v'/\H'=upd H T (.tup [v,v']),fun i H=>∃ xs ys,SqL K H l1 xs/\SqL K H l2 ys/\i=min xs.length ys.length⟩
theorem turn_zip {P:Program}{w:World}{K:PySem.W.Frag}{elts:List Expr}{k:Nat}{pos:Pos}(z TI TO i1 i2 l1 l2:Addr)(D:ZipApart z TI TO i1 i2 l1 l2) :
  Turn P w K (.Tuple elts k pos) (Itz K l1 l2) [z,TI,TO,i1,i2] z (fun i h=>IsZip h z TI TO .none/\IsPair h TI (.ref i1) (.ref i2)/\(∃ a b,IsPair h TO a b)/\h.IsListIter i1 l1 i/\h.IsListIter i2 l2 i) where
 mem:=by simp
 obj:=fun i h st b hb=>by
  obtain ⟨hz,hTI,⟨a,b',hTO⟩,⟨o1,e1,c1,d1⟩,⟨o2,e2,c2,d2⟩⟩:=st
  simp only [List.mem_cons,List.not_mem_nil,or_false] at hb
  rcases hb with rfl | rfl | rfl | rfl | rfl
  ·exact not_cell hz rfl
  ·exact ⟨_,hTI,fun v q=>by cases q⟩
  ·exact ⟨_,hTO,fun v q=>by cases q⟩
  ·exact not_cell e1 d1
  ·exact not_cell e2 d2
 keep:=fun i h h' st kk=>by
  obtain ⟨hz,hTI,⟨a,b',hTO⟩,⟨o1,e1,r1⟩,⟨o2,e2,r2⟩⟩:=st
  exact ⟨kk z (by simp) _ hz,kk TI (by simp) _ hTI,⟨a,b',kk TO (by simp) _ hTO⟩,⟨o1,kk i1 (by simp) _ e1,r1⟩,⟨o2,kk i2 (by simp) _ e2,r2⟩⟩
 item:=by
  intro X hP hw hK hc i pins s σ H E I hf st hg
  subst hP hw hK
  obtain ⟨xs,ys,hq1,hq2,hlt1,hlt2⟩:=hg
  obtain ⟨its1,rv1,p1,hz1⟩:=I.list hq1
  obtain ⟨its2,rv2,p2,hz2⟩:=I.list hq2
  have g1:=rv1.length
  have g2:=rv2.length
  obtain ⟨hz,hTI,⟨a,b',hTO⟩,⟨o1,e1,r1⟩,⟨o2,e2,r2⟩⟩:=id st
  refine item_T (wr:=[z,TO,i1,i2]) (J:=Itz X.K l1 l2) (tn:=fun i h=>IsZip h z TI TO .none/\IsPair h TI (.ref i1) (.ref i2)/\(∃ a b,IsPair h TO a b)/\h.IsListIter i1 l1 i/\h.IsListIter i2 l2 i) I hf (fun b hb=>?_) (fun b hb=>?_) (WalksT.zip2 (I.ok.hd hc) z TI TO i1 i2 l1 l2 D its1.toArray its2.toArray) (by simp; omega) ⟨st.1,st.2.1,st.2.2.1,st.2.2.2.1,st.2.2.2.2,p1.isList,p2.isList⟩ (fun T vals hn hp=>?_) fun h'' q=>⟨q.1,q.2.1,q.2.2.1,q.2.2.2.1,q.2.2.2.2.1⟩
  ·simp only [List.mem_cons,List.not_mem_nil,or_false] at hb
   rcases hb with rfl | rfl | rfl | rfl | rfl
   ·exact ⟨_,hz⟩
   ·exact ⟨_,hTI⟩
   ·exact ⟨_,hTO⟩
   ·exact ⟨_,e1⟩
   ·exact ⟨_,e2⟩
  ·simp only [List.mem_cons,List.not_mem_nil,or_false] at hb ⊢
   rcases hb with rfl | rfl | rfl | rfl <;> simp
  ·obtain ⟨x,y,hx,hy,rfl⟩:=hp
   have hx':its1[i]?=some x:=by simpa using hx
   have hy':its2[i]?=some y:=by simpa using hy
   obtain ⟨u,hu,ru⟩:=rv1.get (i:=i) (x:=xs[i]) (by rw [List.getElem?_eq_getElem hlt1])
   obtain ⟨u',hu',ru'⟩:=rv2.get (i:=i) (x:=ys[i]) (by rw [List.getElem?_eq_getElem hlt2])
   rw [hu] at hx'
   rw [hu'] at hy'
   cases hx'
   cases hy'
   exact ⟨[xs[i],ys[i]],.cons ru (.cons ru' .nil),(by show 2<=sizeLine; decide),T,rfl,hn,fun xs' ys' h1 h2=>⟨xs[i],ys[i],by rw [I.list_inj h1 hq1,List.getElem?_eq_getElem hlt1],by rw [I.list_inj h2 hq2,List.getElem?_eq_getElem hlt2],rfl⟩⟩
 done:=by
  intro X hP hw hK hc i pins s σ H E I hf st hg
  subst hP hw hK
  obtain ⟨xs,ys,hq1,hq2,rfl⟩:=hg
  obtain ⟨its1,rv1,p1,hz1⟩:=I.list hq1
  obtain ⟨its2,rv2,p2,hz2⟩:=I.list hq2
  have g1:min its1.toArray.size its2.toArray.size=min xs.length ys.length:=by simp [rv1.length,rv2.length]
  refine done_T (fp:=[z,TI,TO,i1,i2]) (wr:=[z,TO,i1,i2]) I hf (fun b hb=>?_) (WalksT.zip2 (I.ok.hd hc) z TI TO i1 i2 l1 l2 D its1.toArray its2.toArray) ?_
  ·simp only [List.mem_cons,List.not_mem_nil,or_false] at hb ⊢
   rcases hb with rfl | rfl | rfl | rfl <;> simp
  ·rw [g1]
   exact ⟨st.1,st.2.1,st.2.2.1,st.2.2.2.1,st.2.2.2.2,p1.isList,p2.isList⟩
 self:=fun A i s Q E st h=>wpAny_pyIter_zip st.1 h
section
variable {X:Cx}{elts:List Expr}{k:Nat}{tpos:Pos}
noncomputable def iEnumL (K:PySem.W.Frag)(ta:TA):TI:=fun σ H R=>ta σ H fun vs H1=>∃ l,vs=[.ref l]/\(∃ xs,SqL K H1 l xs)/\R (Ite K l) H1
theorem pi_enumL {a:Expr}{ta:TA}{p pos:Pos}(hg:Gl X "enumerate")(hm:X.mg "enumerate"=none)(ha:PA X [a] ta)(hs:starEach [a] X.env=[(false,eval a X.env)]:=by rfl):PI X (.Tuple elts k tpos) (.Call (.Name "enumerate" p) [a] [] pos) (iEnumL X.K ta):=by
 intro pins s σ H R I h
 refine Call_ (ld_blt I hg hm boot_enumerate (PyProof.Rows.callWith_type1 (thn (ha pos pins s σ H _ I h) fun us s1 ⟨vs,H1,I1,r1,q1⟩=>?_) hs rfl))
 obtain ⟨l,rfl,⟨xs,hq⟩,q⟩:=q1
 obtain ⟨u,rfl,ru⟩:=vals1 r1
 cases ru
 obtain ⟨its,rv,pl,hz⟩:=I1.list hq
 obtain ⟨ol,hol,_⟩:=pl.isList
 have hlt:=Heap.lt_size hol
 refine call_enumerate_list pl.isList fun h' he hit hsz kk=>?_
 have I2:Inv X pins σ H1 { s1 with heap:=h' }:=I1.kept (t':=s1.toks) kk
 refine wpAny_pyIter_enum he ?_
 refine ⟨s1.heap.objs.size + 1,[s1.heap.objs.size + 1,s1.heap.objs.size],_,_,H1,rfl,I2,turn_enum (s1.heap.objs.size + 1) s1.heap.objs.size l (Nat.succ_ne_self _) (Nat.ne_of_lt (Nat.lt_succ_of_lt hlt)) (Nat.ne_of_lt hlt),⟨⟨_,he⟩,hit⟩,fun b hb=>?_,q⟩
 have hb':s1.heap.objs.size<=b:=by
  rcases List.mem_cons.mp hb with e | hb
  ·rw [e]; exact Nat.le_succ _
  ·have e:b=s1.heap.objs.size:=by simpa using hb
   rw [e]; exact Nat.le_refl _
 exact I1.fpOk hb' (I1.hok.fresh hb')
noncomputable def iEnumS (ta:TA):TI:=fun σ H R=>ta σ H fun vs H1=>∃ z,vs=[.str z]/\R (Ites z) H1
theorem pi_enumS {a:Expr}{ta:TA}{p pos:Pos}(hg:Gl X "enumerate")(hm:X.mg "enumerate"=none)(ha:PA X [a] ta)(hs:starEach [a] X.env=[(false,eval a X.env)]:=by rfl):PI X (.Tuple elts k tpos) (.Call (.Name "enumerate" p) [a] [] pos) (iEnumS ta):=by
 intro pins s σ H R I h
 refine Call_ (ld_blt I hg hm boot_enumerate (PyProof.Rows.callWith_type1 (thn (ha pos pins s σ H _ I h) fun us s1 ⟨vs,H1,I1,r1,q1⟩=>?_) hs rfl))
 obtain ⟨z,rfl,q⟩:=q1
 obtain ⟨u,rfl,t,rfl⟩:=vals1 r1
 refine call_enumerate_str fun h' he hit hsz kk=>?_
 have I2:Inv X pins σ H1 { s1 with heap:=h' }:=I1.kept (t':=s1.toks) kk
 refine wpAny_pyIter_enum he ?_
 have fpk:∀ b ∈ [s1.heap.objs.size + 1,s1.heap.objs.size],FpOk X pins H1 b:=fun b hb=>by
  have hb':s1.heap.objs.size<=b:=by
   rcases List.mem_cons.mp hb with e | hb
   ·rw [e]; exact Nat.le_succ _
   ·have e:b=s1.heap.objs.size:=by simpa using hb
    rw [e]; exact Nat.le_refl _
  exact I1.fpOk hb' (I1.hok.fresh hb')
 unfold strIterType at hit
 by_cases ha:z.cps.all (· < 128)=true
 ·rw [if_pos ha] at hit
  exact ⟨s1.heap.objs.size + 1,[s1.heap.objs.size + 1,s1.heap.objs.size],_,_,H1,rfl,I2,turn_enumS (s1.heap.objs.size + 1) s1.heap.objs.size z t "str_ascii_iterator" (Nat.succ_ne_self _) (fun A hA=>Draws.strAscii hA _ z t),⟨⟨_,he⟩,hit⟩,fpk,q⟩
 ·rw [if_neg ha] at hit
  exact ⟨s1.heap.objs.size + 1,[s1.heap.objs.size + 1,s1.heap.objs.size],_,_,H1,rfl,I2,turn_enumS (s1.heap.objs.size + 1) s1.heap.objs.size z t "str_iterator" (Nat.succ_ne_self _) (fun A hA=>Draws.strWide hA _ z t),⟨⟨_,he⟩,hit⟩,fpk,q⟩
noncomputable def iZip (K:PySem.W.Frag)(ta:TA):TI:=fun σ H R=>ta σ H fun vs H1=>∃ l1 l2,vs=[.ref l1,.ref l2]/\(∃ xs,SqL K H1 l1 xs)/\(∃ ys,SqL K H1 l2 ys)/\R (Itz K l1 l2) H1
theorem pi_zip {a b:Expr}{ta:TA}{p pos:Pos}(hg:Gl X "zip")(hm:X.mg "zip"=none)(ha:PA X [a,b] ta)(hs:starEach [a,b] X.env=[(false,eval a X.env),(false,eval b X.env)]:=by rfl)(hs2:starEach [b] X.env=[(false,eval b X.env)]:=by rfl) :
  PI X (.Tuple elts k tpos) (.Call (.Name "zip" p) [a,b] [] pos) (iZip X.K ta):=by
 intro pins s σ H R I h
 refine Call_ (ld_blt I hg hm boot_zip (PyProof.Rows.callWith_type1 (thn (ha pos pins s σ H _ I h) fun us s1 ⟨vs,H1,I1,r1,q1⟩=>?_) (by rw [hs,hs2]) (by rw [hs2]; rfl)))
 obtain ⟨l1,l2,rfl,⟨xs,hq1⟩,⟨ys,hq2⟩,q⟩:=q1
 obtain ⟨u,u',rfl,ru,ru'⟩:=vals2 r1
 cases ru
 cases ru'
 obtain ⟨its1,rv1,p1,hz1⟩:=I1.list hq1
 obtain ⟨its2,rv2,p2,hz2⟩:=I1.list hq2
 obtain ⟨o1,ho1,_⟩:=p1.isList
 obtain ⟨o2,ho2,_⟩:=p2.isList
 have lt1:@LT.lt Nat _ l1 s1.heap.objs.size:=Heap.lt_size ho1
 have lt2:@LT.lt Nat _ l2 s1.heap.objs.size:=Heap.lt_size ho2
 refine call_zip_2 p1.isList p2.isList fun h' hz hTI hTO hi1 hi2 hsz kk=>?_
 have I2:Inv X pins σ H1 { s1 with heap:=h' }:=I1.kept (t':=s1.toks) kk
 refine wpAny_pyIter_zip hz ?_
 generalize hN:s1.heap.objs.size=N at *
 have apart:ZipApart (N + 4) (N + 2) (N + 3) N (N + 1) l1 l2:=by
  constructor <;> first
   | exact Nat.ne_of_lt (by omega)
   | exact Nat.ne_of_gt (by omega)
 refine ⟨N + 4,[N + 4,N + 2,N + 3,N,N + 1],_,_,H1,rfl,I2,turn_zip (N + 4) (N + 2) (N + 3) N (N + 1) l1 l2 apart,⟨hz,hTI,⟨_,_,hTO⟩,hi1,hi2⟩,fun b hb=>?_,q⟩
 have hb':s1.heap.objs.size<=b:=by
  rw [hN]
  simp only [List.mem_cons,List.not_mem_nil,or_false] at hb
  rcases hb with rfl | rfl | rfl | rfl | rfl <;> omega
 exact I1.fpOk hb' (I1.hok.fresh hb')
theorem call_int_str:CallR X (.type "int") (fun xs H Q=>∃ x n,xs=[.str x]/\PySem.intText? x=some n/\x.length<=640/\Q (.int n) H):=by
 intro pins s σ H xs us Q I r h
 obtain ⟨x,n,rfl,hn,hl,q⟩:=h
 obtain ⟨u,rfl,t,rfl⟩:=vals1 r
 exact PySem.W.KIN.call_text hn hl ⟨.int n,H,I.tok _,⟨_,rfl⟩,q⟩
end
theorem for_enumL {K:PySem.W.Frag}{l:Addr}{xs:List V}{g:TG}{tb:TS}{D:Ends}{σ:St}{H:Hp}(Pv:Nat->St->Hp->Prop)(h0:Pv 0 σ H)(hl:∀ i σ H,i<=xs.length->Pv i σ H->SqL K H l xs)
  (hs:∀ i x T σ H,xs[i]?=some x->H T=none->Pv i σ H->g (.ref T) σ (upd H T (.tup [.int i,x])) fun σ2 H2=>tb { D with nx:=Pv (i + 1),ct:=Pv (i + 1),bk:=D.nx } σ2 H2) (hd:∀ σ H,Pv xs.length σ H->D.nx σ H) :
  ∃ W:Nat->Nat->St->Hp->Prop,(∃ m,W 0 m σ H)/\∀ i m σ H,W i m σ H ->
   ((Ite K l).stop i H/\D.nx σ H)\/((Ite K l).go i H/\∃ N:St->Hp->Prop,(∀ σ' H',N σ' H'->∃ m',m' < m/\W (i + 1) m' σ' H')/\∀ x H',(Ite K l).yld i H x H'->g x σ H' fun σ2 H2=>tb { D with nx:=N,ct:=N,bk:=D.nx } σ2 H2):=by
 refine ⟨fun i m σ H=>m=xs.length - i/\i<=xs.length/\Pv i σ H,⟨xs.length,by simp,Nat.zero_le _,h0⟩,?_⟩
 rintro i m σ H ⟨rfl,hi,p⟩
 have q:=hl i σ H hi p
 by_cases hlt:i < xs.length
 ·refine .inr ⟨⟨xs,q,hlt⟩,Pv (i + 1),fun σ' H' p'=>⟨xs.length - (i + 1),by omega,rfl,hlt,p'⟩,fun x H' y=>?_⟩
  obtain ⟨T,rfl,hT,y⟩:=y
  obtain ⟨v,hv,rfl⟩:=y xs q
  exact hs i v T σ H hv hT p
 ·have e:i=xs.length:=by omega
  subst e
  exact .inl ⟨⟨xs,q,rfl⟩,hd σ H p⟩
theorem comp_enumS {g:TG}{tc:TT}{te:TE}{Q:VK}{σ:St}{H:Hp}{D:Addr}{x:Str}(Pv:Nat->St->Hp->Prop)(h0:Pv 0 σ H)
  (hs:∀ i c T σ H,x.cps[i]?=some c->H T=none->Pv i σ H->g (.ref T) σ (upd H T (.tup [.int i,.str ⟨#[c]⟩])) fun σ2 H3=>tc σ2 H3 fun b H4=>if b=true then te σ2 H4 fun y H5=>∃ ys,H5 D=some (.lst ys)/\ys.length < sizeLine/\Pv (i + 1) σ2 (upd H5 D (.lst (ys++[y]))) else Pv (i + 1) σ2 H4)
  (hd:∀ σ H,Pv x.cps.size σ H->Q (.ref D) H):CompGoes (Ites x) g tc te Q D σ H:=by
 refine ⟨fun i m σ H=>m=x.cps.size - i/\i<=x.cps.size/\Pv i σ H,⟨x.cps.size,by simp,Nat.zero_le _,h0⟩,?_⟩
 rintro i m σ H ⟨rfl,hi,p⟩
 by_cases hlt:i < x.cps.size
 ·refine .inr ⟨hlt,Pv (i + 1),fun σ' H' p'=>⟨x.cps.size - (i + 1),by omega,rfl,hlt,p'⟩,fun v H' y=>?_⟩
  obtain ⟨T,c,rfl,hT,hc,rfl⟩:=y
  exact hs i c T σ H hc hT p
 ·have e:i=x.cps.size:=by omega
  subst e
  exact .inl ⟨rfl,hd σ H p⟩
end L2
namespace L2
open PySem PySem.Spec PyProof.Rows
noncomputable def clOf (look:Str->Option Addr):List (Str × NameKind)->List (Str × Addr)->List (Str × Addr)
 | [],acc=>acc
 | (n,k) :: r,acc=>if k == .free then (match look n with
  | some c=>clOf look r ((n,c) :: acc)
  | none=>clOf look r acc) else clOf look r acc
theorem clOf_mem {look:Str->Option Addr}:∀ (names:List (Str × NameKind)) (acc:List (Str × Addr)) (p:Str × Addr),p ∈ clOf look names acc->p ∈ acc\/look p.1=some p.2
 | [],acc,p,h=>.inl h
 | (n,k) :: r,acc,p,h=>by
  unfold clOf at h
  split at h
  ·cases e:look n with
   | none =>
    rw [e] at h
    exact clOf_mem r acc p h
   | some c =>
    rw [e] at h
    rcases clOf_mem r _ p h with h | h
    ·rcases List.mem_cons.mp h with h | h
     ·subst h
      exact .inr e
     ·exact .inl h
    ·exact .inr h
  ·exact clOf_mem r acc p h
theorem lookup_cons_some {x n:Str}{c:Addr}{acc:List (Str × Addr)}(h:(acc.lookup x).isSome=true\/x=n):(List.lookup x ((n,c) :: acc)).isSome=true:=by
 rw [List.lookup_cons]
 cases e:x == n with
 | true=>rfl
 | false =>
  rcases h with h | h
  ·exact h
  ·subst h
   simp at e
theorem clOf_has {look:Str->Option Addr}{x:Str}(names:List (Str × NameKind))(acc:List (Str × Addr))(h:(acc.lookup x).isSome=true\/((x,NameKind.free) ∈ names/\(look x).isSome=true)):((clOf look names acc).lookup x).isSome=true:=by
 induction names generalizing acc with
 | nil =>
  rcases h with h | h
  ·exact h
  ·cases h.1
 | cons y r ih =>
  obtain ⟨n,k⟩:=y
  unfold clOf
  split
  ·rename_i hk
   cases e:look n with
   | none =>
    refine ih acc ?_
    rcases h with h | ⟨h,h2⟩
    ·exact .inl h
    ·rcases List.mem_cons.mp h with h | h
     ·cases h
      rw [e] at h2
      cases h2
     ·exact .inr ⟨h,h2⟩
   | some c =>
    refine ih _ ?_
    rcases h with h | ⟨h,h2⟩
    ·exact .inl (lookup_cons_some (.inl h))
    ·rcases List.mem_cons.mp h with h | h
     ·cases h
      exact .inl (lookup_cons_some (.inr rfl))
     ·exact .inr ⟨h,h2⟩
  ·rename_i hk
   refine ih acc ?_
   rcases h with h | ⟨h,h2⟩
   ·exact .inl h
   ·rcases List.mem_cons.mp h with h | h
    ·cases h
     exact absurd rfl hk
    ·exact .inr ⟨h,h2⟩
theorem closureFor_free {scope:Scope}{env:Env}(h:∀ y ∈ scope.names,y.2=.free->(env.cells.lookup y.1).isSome=true):closureFor scope env=pure (clOf (fun x=>env.cells.lookup x) scope.names []):=by
 have go:∀ (names:List (Str × NameKind)) (acc:List (Str × Addr)),(∀ y ∈ names,y.2=.free->(env.cells.lookup y.1).isSome=true) ->
   (forIn names acc fun x cs=>(match x with
    | (name,kind)=>if (kind == .free)=true then do let a <- cellOf env name; pure (ForInStep.yield ((name,a) :: cs)) else pure (ForInStep.yield cs):Sem (ForInStep (List (Str × Addr)))))=(pure (clOf (fun x=>env.cells.lookup x) names acc):Sem _):=by
  intro names
  induction names with
  | nil=>intro acc _; rfl
  | cons y r ih =>
   intro acc hy
   obtain ⟨n,k⟩:=y
   have hr:∀ y ∈ r,y.2=.free->(env.cells.lookup y.1).isSome=true:=fun y hm=>hy y (List.mem_cons_of_mem _ hm)
   rw [List.forIn_cons]
   unfold clOf
   by_cases hk:(k == NameKind.free)=true
   ·have hk':k=.free:=by simpa using hk
    have hs:=hy (n,k) List.mem_cons_self hk'
    obtain ⟨c,hc⟩:=Option.isSome_iff_exists.mp hs
    have hc':List.lookup n env.cells=some c:=hc
    have e1:cellOf env n=pure c:=by
     unfold cellOf
     rw [hc']
    simp only [hk,if_true,e1,hc',pure_bind]
    exact ih _ hr
   ·simp only [hk,Bool.false_eq_true,if_false,pure_bind]
    exact ih _ hr
 simp only [closureFor]
 exact Eq.trans (congrArg (fun m:Sem (List (Str × Addr))=>m >>= fun cs=>pure cs) (go scope.names [] h)) rfl
theorem relabel_mem {scope:Scope}{env:Env}{x:Str}{k:NameKind}(h:(x,k) ∈ (relabel scope env).names)(hk:k=.cell\/k=.free):(x,NameKind.cell) ∈ scope.names\/(x,NameKind.free) ∈ scope.names:=by
 obtain ⟨y,hy,e⟩:=List.mem_map.mp h
 obtain ⟨n,k0⟩:=y
 by_cases c:(k0 == NameKind.free && env.scope.kind == .function && env.kindOf n == some .cell)=true
 ·have e':(if (k0 == NameKind.free && env.scope.kind == .function && env.kindOf n == some .cell)=true then (n,NameKind.cell) else (n,k0))=(x,k):=e
  rw [if_pos c] at e'
  cases e'
  have c1:k0=.free:=by
   have:=(Bool.and_eq_true_iff.mp (Bool.and_eq_true_iff.mp c).1).1
   simpa using this
  subst c1
  exact .inr hy
 ·have e':(if (k0 == NameKind.free && env.scope.kind == .function && env.kindOf n == some .cell)=true then (n,NameKind.cell) else (n,k0))=(x,k):=e
  rw [if_neg c] at e'
  cases e'
  rcases hk with rfl | rfl
  ·exact .inl hy
  ·exact .inr hy
theorem relabel_free {scope:Scope}{env:Env}{x:Str}(hk:env.scope.kind=.function)(ho:env.kindOf x=some .cell)(h:scope.names.lookup x=some .free):(relabel scope env).names.lookup x=some .cell:=by
 have go:∀ names:List (Str × NameKind),names.lookup x=some .free->(names.map fun (n,k)=>if (k == NameKind.free && env.scope.kind == .function && env.kindOf n == some .cell)=true then (n,NameKind.cell) else (n,k)).lookup x=some .cell:=by
  intro names
  induction names with
  | nil=>intro h; cases h
  | cons y r ih =>
   obtain ⟨n,k⟩:=y
   intro h
   show List.lookup x ((if (k == NameKind.free && env.scope.kind == .function && env.kindOf n == some .cell)=true then (n,NameKind.cell) else (n,k)) :: _)=_
   rw [List.lookup_cons] at h
   cases e:x == n with
   | true =>
    rw [e] at h
    have hk':k=.free:=Option.some.inj h
    have hn:x=n:=by simpa using e
    subst hk' hn
    rw [if_pos (by rw [hk,ho]; rfl),List.lookup_cons,beq_self_eq_true]
   | false =>
    rw [e] at h
    by_cases c:(k == NameKind.free && env.scope.kind == .function && env.kindOf n == some .cell)=true
    ·rw [if_pos c,List.lookup_cons,e]
     exact ih h
    ·rw [if_neg c,List.lookup_cons,e]
     exact ih h
 exact go scope.names h
theorem CompOk.free {X:Cx}{N:List Str}{src:List (Option Nat)}{scope:Scope}{O:List (Str × NameKind)}{XN:List Str}(hO:X.env.scope.names=O)(hK:X.env.scope.kind=.function)(hC:∃ n,X.env.cells=cellsFrom n O [])(hX:X.N=XN)
  (kind:scope.kind=.function) (nocell:∀ y ∈ scope.names,y.2 ≠ .cell) (names:∀ y ∈ scope.names,y.2=.local->scope.names.lookup y.1=some .local) (fr:∀ y ∈ scope.names,y.2=.free->O.lookup y.1=some .cell) (len:src.length=N.length)
  (pc:∀ q ∈ N.zip src,q.2=none\/(∃ j ∈ List.range XN.length,q.2=some j/\XN[j]?=some q.1/\O.lookup q.1=some .cell/\scope.names.lookup q.1=some .free)):CompOk X N src scope (clOf (fun x=>X.env.cells.lookup x) scope.names []):=by
 have hs:∀ y ∈ scope.names,y.2=.free->(X.env.cells.lookup y.1).isSome=true:=fun y hy e=>by
  obtain ⟨n,hn⟩:=hC
  rw [hn]
  exact PySem.W.cellsFrom_some O n [] (.inl (fr y hy e))
 refine ⟨kind,nocell,names,closureFor_free hs,fun x c h=>?_,fun x h=>?_,len,fun i j x h1 h2=>?_⟩
 ·rcases clOf_mem _ _ _ (PySem.mem_of_lookup h) with z | z
  ·cases z
  ·exact z
 ·refine Option.isSome_iff_exists.mp (clOf_has _ _ (.inr ?_))
  have hm:(x,NameKind.cell) ∈ scope.names\/(x,NameKind.free) ∈ scope.names:=by
   rcases h with h | h
   ·exact relabel_mem (PySem.mem_of_lookup h) (.inl rfl)
   ·exact relabel_mem (PySem.mem_of_lookup h) (.inr rfl)
  rcases hm with hm | hm
  ·exact absurd rfl (nocell _ hm)
  ·exact ⟨hm,hs _ hm rfl⟩
 ·have hm:(x,some j) ∈ N.zip src:=by
   refine List.mem_of_getElem? (i:=i) ?_
   rw [List.getElem?_zip_eq_some]
   exact ⟨h1,h2⟩
  rcases pc _ hm with z | ⟨j',_,e,e1,e2,e3⟩
  ·cases z
  ·cases e
   have ko:X.env.kindOf x=some .cell:=by
    show X.env.scope.names.lookup x=some .cell
    rw [hO]
    exact e2
   exact ⟨by rw [hX]; exact e1,.inl ko,.inl (relabel_free hK ko e3)⟩
end L2
namespace L2
open PySem PySem.Spec PyProof.Rows PySem.W
section
variable {α β:Type}{R:α->β->Prop}{us us':List α}{cs cs':List β}{i:Nat}{v:α}{c:β}
theorem pr_app (h:Paired R us cs)(k:Paired R us' cs'):Paired R (us++us') (cs++cs'):=by
 induction h with
 | nil=>exact k
 | cons q _ ih=>exact .cons q ih
theorem pr_at (h:Paired R us cs)(e:us[i]?=some v):∃ c,cs[i]?=some c/\R v c:=by
 induction h generalizing i with
 | nil=>cases e
 | cons q _ ih =>
  cases i with
  | zero =>
   cases e
   exact ⟨_,rfl,q⟩
  | succ i=>exact ih (i:=i) e
theorem pr_mem (h:Paired R us cs)(e:v ∈ us):∃ c ∈ cs,R v c:=by
 induction h with
 | nil=>cases e
 | cons q _ ih =>
  rcases List.mem_cons.mp e with rfl | e
  ·exact ⟨_,List.mem_cons_self,q⟩
  ·obtain ⟨c,h,r⟩:=ih e
   exact ⟨c,List.mem_cons_of_mem _ h,r⟩
end
noncomputable def Tup2 (H:Hp):List V->List (Int × Int)->Prop:=Paired fun v p=>∃ a,v=V.ref a/\H a=some (.tup [.int p.1,.int p.2])
noncomputable def lt2 (p q:Int × Int):Bool:=if p.1=q.1 then decide (p.2 < q.2) else decide (p.1 < q.1)
structure IntPair (h:Heap)(v:Value)(p:Int × Int):Prop where
 ex:∃ a o n t u,v=.ref a/\h.get? a=some o/\o.cls=.type "tuple"/\o.data=.seq #[.int p.1 t,.int p.2 u] n
section
variable {X:Cx}{pins:List (Addr × Obj)}{σ:St}{H:Hp}{s:Shared}
theorem Tup2.pairs (I:Inv X pins σ H s){us:List V}{ps:List (Int × Int)}{its:List Value}(hp:Tup2 H us ps)(r:Vals us its):Paired (IntPair s.heap) its ps:=by
 induction hp generalizing its with
 | nil =>
  cases r
  exact .nil
 | cons q _ ih =>
  obtain ⟨a,e,h⟩:=q
  subst e
  cases r with
  | cons r1 r2 =>
   cases r1
   refine .cons ?_ (ih r2)
   obtain ⟨items,rv,tp,_⟩:=I.tuple (SqT.of h)
   obtain ⟨u1,u2,rfl,⟨t1,rfl⟩,⟨t2,rfl⟩⟩:=vals2 rv
   obtain ⟨ob,e1,c1,n,d1⟩:=tp
   exact ⟨a,ob,n,t1,t2,rfl,e1,c1,d1⟩
end
section
variable {prog:Program}{w:World}{A:Around}{E:Value->Shared->Prop}{s:Shared}
end
section
variable {X:Cx}
end
end L2
namespace L2
open PySem PySem.Spec PyProof.Rows
section
variable {X:Cx}
theorem bools_get {bs:List Bool}{its:List Value}(r:Vals (bs.map V.bl) its){i:Nat}{v:Value}(e:its[i]?=some v):∃ b,bs[i]?=some b/\v=.bool b:=by
 have hl:=r.length
 rw [List.length_map] at hl
 have hi:i < bs.length:=by
  have:=(List.getElem?_eq_some_iff.mp e).1
  omega
 obtain ⟨u,hu,ru⟩:=r.get (i:=i) (x:=.bl bs[i]) (by rw [List.getElem?_map,List.getElem?_eq_getElem hi]; rfl)
 rw [hu] at e
 cases e
 exact ⟨bs[i],List.getElem?_eq_getElem hi,ru⟩
theorem call_all (hc:X.calm=true):CallR X (.builtin "all") (fun xs H Q=>∃ (l:Addr) (bs:List Bool),xs=[.ref l]/\SqL X.K H l (bs.map V.bl)/\Q (.bl (bs.all id)) H):=by
 intro pins s σ H xs us Q I r h
 obtain ⟨l,bs,rfl,hq,q⟩:=h
 obtain ⟨u,rfl,ru⟩:=vals1 r
 cases ru
 obtain ⟨its,rv,pl,hz⟩:=I.list hq
 have hl:=pl.isList
 have hlt:l < s.heap.objs.size:=let ⟨_,he,_⟩:=hl; Heap.lt_size he
 have hln:=rv.length
 rw [List.length_map] at hln
 refine call_all_walk (wpAny_pyIter_list hl ?_)
 refine ⟨s.heap.objs.size,[s.heap.objs.size,l],[s.heap.objs.size],its.toArray.size,_,_,fun i=>(bs[i]?).getD true,rfl,Walks.list (A:=X.A.in1) (I.ok.hd hc) _ l (Nat.ne_of_lt hlt) its.toArray,
  ⟨⟨_,Heap.get?_push_size _ rfl,rfl,rfl⟩,hl.push _⟩,fun i v s' Q' E' hP hQ=>?_,fun h' tk hk=>?_⟩
 ·obtain ⟨b,eb,rfl⟩:=bools_get rv (i:=i) (v:=v) (by simpa using hP)
  simp only [eb,Option.getD_some] at hQ
  exact wpAny_truthy_bool hQ
 ·have e:((List.range its.toArray.size).all fun i=>(bs[i]?).getD true)=bs.all id:=by
   rw [List.size_toArray,<- hln]; exact LSm.range_all bs
  rw [e]
  exact ⟨.bl _,H,I.kept (LSm.kept_iter hk),rfl,q⟩
end
end L2
namespace L2
open PySem PySem.Spec PyProof.Rows
mutual
inductive Rdn (N:Addr->Prop)(H:Hp):V->PyData->Prop
 | non:Rdn N H .non .none
 | bl (b:Bool):Rdn N H (.bl b) (.bool b)
 | int (i:Int):Rdn N H (.int i) (.int i)
 | str (x:Str):Rdn N H (.str x) (.str x)
 | lst {a:Addr} {xs:List V} {ds:List PyData}:N a->H a=some (.lst xs)->RdnAll N H xs ds->Rdn N H (.ref a) (.list ds)
 | tup {a:Addr} {xs:List V} {ds:List PyData}:H a=some (.tup xs)->RdnAll N H xs ds->Rdn N H (.ref a) (.tuple ds)
inductive RdnAll (N:Addr->Prop)(H:Hp):List V->List PyData->Prop
 | nil:RdnAll N H [] []
 | cons {x:V} {d:PyData} {xs:List V} {ds:List PyData}:Rdn N H x d->RdnAll N H xs ds->RdnAll N H (x :: xs) (d :: ds)
end
section
variable {K:PySem.W.Frag}{N N':Addr->Prop}{H H':Hp}
theorem RdnAll.mono (s:Same H H')(i:∀ a,N a->N' a){vs:List V}{ds:List PyData}(h:RdnAll N H vs ds):RdnAll N' H' vs ds :=
 RdnAll.rec (motive_1:=fun v d _=>Rdn N' H' v d) (motive_2:=fun vs ds _=>RdnAll N' H' vs ds) .non .bl .int .str (fun n h _ t=>.lst (i _ n) (s _ _ h) t) (fun h _ t=>.tup (s _ _ h) t) .nil (fun _ _ a t=>.cons a t) h
theorem RdnAll.into {D:Addr}{o:HO}{old:List V}(hD:H D=some (.lst old))(i:∀ a,N a->a ≠ D){vs:List V}{ds:List PyData}(h:RdnAll N H vs ds):RdnAll N (upd H D o) vs ds :=
 RdnAll.rec (motive_1:=fun v d _=>Rdn N (upd H D o) v d) (motive_2:=fun vs ds _=>RdnAll N (upd H D o) vs ds) .non .bl .int .str (fun n h _ t=>.lst n (by rw [upd_ne (i _ n)]; exact h) t) (fun h _ t=>.tup (by rw [upd_ne (ne_of h hD (by intro z; cases z))]; exact h) t) .nil (fun _ _ a t=>.cons a t) h
theorem RdnAll.keep (s:Same H H'){vs:List V}{ds:List PyData}(h:RdnAll N H vs ds):RdnAll N H' vs ds:=h.mono s fun _ n=>n
theorem RdnAll.append {vs ws:List V}{ds es:List PyData}(h:RdnAll N H vs ds)(k:RdnAll N H ws es):RdnAll N H (vs++ws) (ds++es) :=
 RdnAll.rec (motive_1:=fun _ _ _=>True) (motive_2:=fun vs ds _=>RdnAll N H (vs++ws) (ds++es))
  trivial (fun _=>trivial) (fun _=>trivial) (fun _=>trivial) (fun _ _ _ _=>trivial) (fun _ _ _=>trivial) k (fun a _ _ t=>.cons a t) h
theorem RdnAll.snoc {vs:List V}{ds:List PyData}{v:V}{d:PyData}(h:RdnAll N H vs ds)(k:Rdn N H v d):RdnAll N H (vs++[v]) (ds++[d]):=h.append (.cons k .nil)
end
section
variable {K:PySem.W.Frag}{g:TG}{tc:TT}{te:TE}{Q:VK}{σ0:St}{H1:Hp}{D:Addr}
noncomputable def TurnYes (N:Addr->Prop)(inv:St->Prop)(H:Hp)(o:Option PyData)(Y:St->V->Hp->Prop):Prop:=∀ d y σ2 H5,o=some d->inv σ2->Same H H5->Rdn N H5 y d->Y σ2 y H5
noncomputable def TurnNo (inv:St->Prop)(H:Hp)(o:Option PyData)(Z:St->Hp->Prop):Prop:=∀ σ2 H4,o=none->inv σ2->Same H H4->Z σ2 H4
theorem comp_data {a:Addr}{xs:List V}(N:Addr->Prop)(outs:List (Option PyData))(inv:St->Prop)(hD:H1 D=none)(hN:∀ a,N a->a ≠ D)(h0:inv σ0)(hlen:outs.length=xs.length)(hz:xs.length<=100000)
  (hl:SqL K H1 a xs)
  (hs:∀ (i:Nat) (x:V) (o:Option PyData) (σ:St) (H:Hp),xs[i]?=some x->outs[i]?=some o->Same H1 H->H D ≠ none->inv σ->∀ Y Z,TurnYes N inv H o Y->TurnNo inv H o Z ->
   g x σ H fun σ2 H3=>tc σ2 H3 fun b H4=>if b=true then te σ2 H4 fun y H5=>Y σ2 y H5 else Z σ2 H4)
  (hd:∀ ys H',Same H1 H'->H' D=some (.lst ys)->RdnAll N H' ys (outs.filterMap id)->Q (.ref D) H'):CompGoes (Itl K a) g tc te Q D σ0 (upd H1 D (.lst [])):=by
 refine comp_list (K:=K) (a:=a) (xs:=xs) (fun i σ H'=>inv σ/\Same H1 H'/\∃ ys,H' D=some (.lst ys)/\ys.length<=i/\RdnAll N H' ys ((outs.take i).filterMap id)) ⟨h0,same_new hD,[],upd_same,Nat.le_refl _,.nil⟩ (fun i σ H' _ ⟨_,s,_⟩=>s.seq hl) ?_ ?_
 ·rintro i x σ H hx ⟨hi,s,ys,hy,yl,hr⟩
  have hil:i < xs.length:=(List.getElem?_eq_some_iff.mp hx).1
  obtain ⟨o,ho⟩:∃ o,outs[i]?=some o:=⟨outs[i]'(by omega),List.getElem?_eq_getElem (by omega)⟩
  have step:(outs.take (i + 1)).filterMap id=(outs.take i).filterMap id++o.toList:=by
   rw [List.take_add_one,ho,List.filterMap_append]
   cases o <;> rfl
  refine hs i x o σ H hx ho s (by rw [hy]; exact fun z=>nomatch z) hi _ _ (fun d y σ2 H5 e hi2 s5 hr5=>?_) (fun σ2 H4 e hi2 s4=>?_)
  ·subst e
   refine ⟨ys,s5 _ _ hy,Nat.lt_of_le_of_lt yl (Nat.lt_of_lt_of_le hil (Nat.le_trans hz (by decide))),hi2,fun b ob e=>?_,ys++[y],upd_same,?_,?_⟩
   ·rw [upd_ne (ne_of_none e hD)]
    exact s5 _ _ (s _ _ e)
   ·rw [List.length_append]
    exact Nat.add_le_add_right yl 1
   ·rw [step]
    exact RdnAll.into (s5 _ _ hy) hN (RdnAll.snoc (hr.keep s5) hr5)
  ·subst e
   refine ⟨hi2,s.trans s4,ys,s4 _ _ hy,Nat.le_succ_of_le yl,?_⟩
   rw [step]
   simpa using hr.keep s4
 ·rintro σ H ⟨_,s,ys,hy,_,hr⟩
  rw [<- hlen,List.take_length] at hr
  exact hd ys H s hy hr
theorem tYes_it {i:Nat}{v:V}{σ:St}{H:Hp}{A B:St->Hp->Prop}(h:A (σ.set i (some v)) H):gName i v σ H fun σ2 H3=>tYes σ2 H3 fun b H4=>if b=true then A σ2 H4 else B σ2 H4:=by
 show if true=true then A (σ.set i (some v)) H else B (σ.set i (some v)) H
 exact iteT h
end
end L2
namespace L2
open PySem PySem.Spec PyProof.Rows
noncomputable def cutS (z:Str)(lo hi:Option Int):Str:=⟨((z.cps.toList.drop (HT.sIx z.length 0 lo)).take (HT.sIx z.length z.length hi - HT.sIx z.length 0 lo)).toArray⟩
theorem slice_ix (lo hi:Option Int)(n:Nat):Builtin.Str.strSliceIndices lo hi 1 n=(List.range (HT.sIx n n hi - HT.sIx n 0 lo)).map (HT.sIx n 0 lo + ·):=by
 rw [<- sliceRange_one]
 unfold Builtin.Str.strSliceIndices
 simp only [show (1:Int) > 0 by decide,if_true]
 have clip:∀ (v:Option Int) (d:Nat),(match v with | none=>(d:Int) | some i=>max 0 (min (if i < 0 then i + (n:Int) else i) (n:Int)))=((HT.sIx n d v:Nat):Int):=fun v d=>by
  cases v with
  | none=>rfl
  | some i =>
   simp only [HT.sIx]
   by_cases h:i < 0
   ·simp only [h,if_true]
    omega
   ·simp only [h,if_false]
    omega
 have e1:=clip lo 0
 have e2:=clip hi n
 rw [<- e1,<- e2]
 rfl
theorem sIx_top (n:Nat)(hi:Option Int):HT.sIx n n hi<=n:=HT.sIx_le n n (Nat.le_refl _) hi
theorem slice_is (z:Str)(lo hi:Option Int):Txt.slice z lo hi=cutS z lo hi:=by
 unfold Txt.slice cutS
 rw [slice_ix,pick_run]
 by_cases c:((1:Int) == 1 && ((List.range (HT.sIx z.length z.length hi - HT.sIx z.length 0 lo)).map (HT.sIx z.length 0 lo + ·)).length == z.length)=true
 ·rw [if_pos c]
  have c2:HT.sIx z.length z.length hi - HT.sIx z.length 0 lo=z.length:=by
   simp only [List.length_map,List.length_range] at c
   simpa using c
  have h1:=sIx_top z.length hi
  have e1:HT.sIx z.length z.length hi=z.length:=by omega
  have e0:HT.sIx z.length 0 lo=0\/z.length=0:=by omega
  have el:z.cps.toList.length=z.length:=Array.length_toList
  rw [c2]
  rcases e0 with e0 | e0
  ·rw [e0,List.drop_zero,List.take_of_length_le (by omega)]
  ·have e2:z.cps.toList=[]:=List.length_eq_zero_iff.mp (by omega)
   rw [e2]
   simp only [List.drop_nil,List.take_nil]
   cases z with
   | mk cps =>
    have e3:cps=#[]:=by simpa using e2
    rw [e3]
 ·rw [if_neg c]
section
variable {X:Cx}
noncomputable def rSlS:V->Option Int->Option Int->Hp->VK->Prop:=fun x lo hi H Q=>∃ z,x=.str z/\z.length<=sizeLine/\Q (.str (cutS z lo hi)) H
theorem part_tok {v:Value}{o:Option Int}(h:IsPart v o):∃ p:Option (Int × Tok),v=partValue p/\p.map (·.1)=o:=by
 cases h with
 | none=>exact ⟨none,rfl,rfl⟩
 | int i t=>exact ⟨some (i,t),rfl,rfl⟩
theorem sl_str:SlR X rSlS:=by
 intro pins s σ H x v vl vu lo hi sl Q I rx hs pl pu h
 obtain ⟨z,rfl,hz,q⟩:=h
 obtain ⟨t,rfl⟩:=rx
 obtain ⟨p1,rfl,e1⟩:=part_tok pl
 obtain ⟨p2,rfl,e2⟩:=part_tok pu
 refine ⟨"str",_,F.slot_str_getitem.lookup,typeIs_str _ _ _,wpAny_getItem_str_slice (l:=p1) (u:=p2) (st:=none) hs rfl ?_⟩
 have e:sliceMade z t p1 p2 none=if ((1:Int) == 1 && (Builtin.Str.strSliceIndices lo hi 1 z.length).length == z.length)=true then Made.val (.str z t) else Made.str ⟨((Builtin.Str.strSliceIndices lo hi 1 z.length).filterMap (z.cps[·]?)).toArray⟩:=by
  rw [<- e1,<- e2]
  rfl
 rw [e]
 refine post_val_or_str ⟨Nat.le_trans (Txt.slice_le z lo hi) hz,fun t' k=>?_⟩
 rw [<- slice_is] at q
 exact ⟨.str (Txt.slice z lo hi),H,I.tok k,⟨_,rfl⟩,q⟩
end
end L2
namespace L2
open PySem PySem.Spec PyProof.Rows
def vmro:List Value:=[.type "ValueError",.type "Exception",.type "BaseException",.type "object"]
structure Fly (P:Program)(w:World)(outer:List Env)(H:Hp)(s:Shared)(e C:Addr)(a0:Value)(B:Heap)(H':Hp)(s':Shared):Prop where
 fly:Heap.FlyingW B outer e (.ref C) a0 s'.heap
 os:s'.os=s.os
 bare:AllBare s'.gens
 un:Un (frs outer) [] H H' s.heap s'.heap
 ok:HOk P w H' B
 kB:∀ b o,s.heap.get? b=some o->H b=none->b ∉ frs outer->B.get? b=some o
 tB:∀ b o,s.heap.get? b=some o->b ∉ frs outer->∃ o',B.get? b=some o'
 new:s.heap.get? e=none
 free:H' e=none
noncomputable def CXE (P:Program)(w:World):CXT:=fun outer H s E x s'=>∃ (e C:Addr) (a0:Value) (B:Heap) (H':Hp),x=.ref e/\Fly P w outer H s e C a0 B H' s'/\E (.ref C) none H'
theorem objThere {P:Program}{w:World}{H:Hp}{h:Heap}{a:Addr}:∀ {o:HO},ObjOk P w H h a o->∃ ob,h.get? a=some ob
 | .lst _,x=>by obtain ⟨_,_,_,_,q⟩:=x; exact ⟨_,q⟩
 | .tup _,x=>by obtain ⟨_,_,_,ob,q,_⟩:=x; exact ⟨ob,q⟩
 | .dK _,x=>by obtain ⟨_,_,_,_,ob,_,_,q,_⟩:=x; exact ⟨ob,q⟩
 | .dT _,x=>by obtain ⟨_,_,_,_,ob,_,_,q,_⟩:=x; exact ⟨ob,q⟩
 | .set _ _,x=>by obtain ⟨ob,_,_,_,q,_⟩:=x; exact ⟨ob,q⟩
 | .ins _ _ _,x=>by obtain ⟨_,_,_,q,_⟩:=x; exact ⟨_,q⟩
 | .own _,x=>x
 | .xd _,x=>by obtain ⟨_,⟨ob,_,_,q,_⟩,_⟩:=x; exact ⟨ob,q⟩
 | .met _ _,x=>⟨_,x⟩
 | .rng _ _,x=>by obtain ⟨_,_,_,q⟩:=x; exact ⟨_,q⟩
 | .frz _ _,x=>⟨_,x.1⟩
 | .tbl _,x=>⟨_,x⟩
 | .ext _,x=>x.2.1
section
variable {X:Cx}{pins:List (Addr × Obj)}{σ:St}{H H':Hp}{s s':Shared}{e C:Addr}{a0:Value}{B h2:Heap}
theorem Inv.notLoc (I:Inv X pins σ H s){b:Addr}{o:Obj}(q:X.s₀.heap.get? b=some o):b ≠ X.env.locals:=fun z=>Nat.lt_irrefl _ (Nat.lt_of_lt_of_le (z ▸ Heap.lt_size q) I.ok.above)
theorem Inv.notStk (I:Inv X pins σ H s){b:Addr}{o:Obj}(q:X.s₀.heap.get? b=some o)(hb:b ∉ X.fs):b ∉ frs X.stack:=fun z=>by
 rcases List.mem_cons.mp (I.stkSub b z) with r | r
 ·exact I.notLoc q r
 ·exact hb r
theorem Inv.flies (I:Inv X pins σ H s)(hex:X.ex=[])(F:Heap.FlyingW B X.outer e (.ref C) a0 h2)(up:s'.heap.UpToSlots h2)(os:s'.os=s.os)(bare:AllBare s'.gens)(un:Un (frs X.stack) [] H H' s.heap s'.heap)(ok:HOk X.prog X.w H' B)
  (kB:∀ b o,s.heap.get? b=some o->H b=none->b ∉ frs X.stack->B.get? b=some o) (tB:∀ b o,s.heap.get? b=some o->b ∉ frs X.stack->∃ o',B.get? b=some o') (new:s.heap.get? e=none) (free:H' e=none) :
  Fly X.prog X.w X.outer X.H₀ X.s₀ e C a0 B H' { s' with heap:=h2 }:=by
 have nx:∀ b,b ∉ X.ex:=fun b z=>by rw [hex] at z; cases z
 have keep:∀ b o,X.s₀.heap.get? b=some o->X.H₀ b=none->b ∉ X.fs->B.get? b=some o:=fun b o q n hb =>
  kB b o (I.base.keep b o q n hb (nx b)) (I.base.free b o q n (nx b)) (I.notStk q hb)
 have there:∀ b o,X.s₀.heap.get? b=some o->b ∉ X.fs->∃ o',B.get? b=some o':=fun b o q hb=>by
  obtain ⟨o',q'⟩:=I.base.there b o q (nx b)
  exact tB b o' q' (I.notStk q hb)
 have slot:∀ b o,X.s₀.heap.get? b=some o->b ∈ X.fs->∃ sl,h2.get? b=some { o with slots:=sl }:=fun b o q hb=>by
  obtain ⟨_,o1,q1,nf⟩:=I.ok.funs.mem hb
  rw [q] at q1
  cases q1
  obtain ⟨sl,q2⟩:=I.base.slot b o q (I.ok.frf b hb) hb (nx b)
  obtain ⟨sl2,q3⟩:=un.any q2 (I.base.free b o q (I.ok.frf b hb) (nx b)) (fun z=>nomatch z)
  obtain ⟨sl3,q4⟩:=up b _ q3 nf
  exact ⟨sl3,q4⟩
 refine ⟨F,os.trans I.os,bare,⟨fun b o q n hb _=>F.1 b o (keep b o q n hb),fun b o q _ hb _=>slot b o q hb,fun b o q n _=>?_,fun b o q _=>?_,fun b xs q=>un.tups b xs (I.base.tups b xs q),fun b o u q=>un.frzs b o u (I.base.frzs b o u q),fun b ps q=>?_⟩,ok,keep,there,?_,free⟩
 ·obtain ⟨o',q'⟩:=I.base.there b o q (nx b)
  exact un.free b o' q' (I.base.free b o q n (nx b)) fun z=>nomatch z
 ·by_cases hb:b ∈ X.fs
  ·obtain ⟨sl,r⟩:=slot b o q hb
   exact ⟨_,r⟩
  ·obtain ⟨o',r⟩:=there b o q hb
   exact ⟨o',F.1 b o' r⟩
 ·obtain ⟨m1,r1⟩:=I.base.tbls b ps q
  obtain ⟨m2,r2⟩:=un.tbls b _ r1
  exact ⟨m1++m2,by rw [r2,Array.append_assoc]⟩
 ·cases q:X.s₀.heap.get? e with
  | none=>rfl
  | some o =>
   obtain ⟨o',q'⟩:=I.base.there e o q (nx e)
   rw [new] at q'
   cases q'
structure Leaves (X:Cx)(E:XK):Prop where
 stk:X.stack=X.env :: X.outer
 fr:X.env.frame=some X.env.locals
 ex:X.ex=[]
 xe:X.xe=fun x s'=>wpAny (model X.prog X.w) X.A (leaving X.env x) (fun _ s''=>CXE X.prog X.w X.outer X.H₀ X.s₀ E x s'') (fun x' s''=>CXE X.prog X.w X.outer X.H₀ X.s₀ E x' s'') s'
theorem stk_in {l:List Env}:∀ env ∈ l,∀ a,env.frame=some a->a ∈ frs l:=fun env he a hf=>List.mem_filterMap.mpr ⟨env,he,hf⟩
theorem Leaves.made {E:XK}(L:Leaves X E)(I:Inv X pins σ H s){h1:Heap}{vs:List Value}(hx:Heap.MadeExcOf s.heap h1 e (.ref C) vs)(hE:E (.ref C) none H):X.xe (.ref e) { s with heap:=h1 }:=by
 rw [L.xe]
 have hs:=I.stack
 have nb:∀ a o,H a=some o->a ∉ frs X.stack:=fun a o q z=>by
  rw [I.stkFree a z] at q
  cases q
 have own:∀ a b,H b=some (.own a)->b ∉ frs X.stack:=fun a b q=>nb b _ q
 have fresh:H e=none:=by
  cases q:H e with
  | none=>rfl
  | some o =>
   obtain ⟨o',q'⟩:∃ o',s.heap.get? e=some o':=by
    exact objThere (I.hok e o q)
   rw [hx.new] at q'
   cases q'
 refine wpAny_leaves_madeW (base:=PySem.W.hideAll s.heap (frs X.stack)) (L:=X.env.locals) (by rw [I.ok.frames,L.stk]) L.fr (fun b o q=>PySem.W.of_hideAll _ q) (PySem.W.funFrames_hide (by rw [<- L.stk]; exact hs) (by rw [<- L.stk]; exact stk_in)) hx fun h' t x1 x2 x3 x4=>?_
 refine ⟨e,C,_,_,H,rfl,I.flies (s':={ s with heap:=h1 }) L.ex x1 x4 rfl I.bare (Un.kept hx.keeps) ?_ (fun b o q _ hb=>PySem.W.hideAll_get _ q hb) (fun b o q hb=>⟨o,PySem.W.hideAll_get _ q hb⟩) hx.new fresh,hE⟩
 exact fun a o q=>(I.hok a o q).stay (fun b u hb r=>PySem.W.hideAll_get _ r (by
  rcases hb with hb | hb
  ·rw [hb]
   exact nb a o q
  ·exact own a b hb)) (fun _ r=>r) fun _ _ r=>r
end
end L2
namespace L2
open PySem PySem.Spec PyProof.Rows
structure ExCls (K:PySem.W.Frag)(mg:Str->Option Value)(x:Str)(C:Addr):Prop where
 g:mg x=some (.ref C)
 q:PySem.W.excIn K C vmro "ValueError.__new__"=true
structure ExObj (h:Heap)(C:Addr)(bm:List Value):Prop where
 ex:∃ N nm qn bs hdct sn sub ab col dd k0 k1 k2 k3 k5 mN,h.get? C=some (excClassObj nm qn C N bs bm hdct sn sub ab col dd k0 k1 k2 k3 k5 "ValueError.__new__")/\h.Ns N mN/\mN "__init__"=none
 tl:OwnTail h vmro bm
theorem exObj {K:PySem.W.Frag}{h:Heap}{C:Addr}(kin:K.In h)(hq:PySem.W.excIn K C vmro "ValueError.__new__"=true):∃ bm,ExObj h C bm:=by
 unfold PySem.W.excIn at hq
 split at hq
 ·rename_i dd cd sl look
  split at hq
  ·rename_i C' bm k0 k1 k2 k3 n k5 em es
   simp only [Bool.and_eq_true,beq_iff_eq,Bool.not_eq_true'] at hq
   obtain ⟨⟨⟨⟨⟨rfl,rfl⟩,nodel⟩,tailok⟩,nsok⟩,noinit⟩:=hq
   obtain ⟨nm,bs,mro,ns,qn,hd,sn,sub,ab,col,del⟩:=cd
   dsimp only at em nodel nsok noinit
   subst em nodel
   have esl:sl=#[k0,k1,k2,k3,some (.builtin "ValueError.__new__"),k5]:=by
    obtain ⟨l⟩:=sl
    simp only at es
    rw [es]
   subst esl
   exact ⟨bm,⟨ns,nm,qn,bs,hd,sn,sub,ab,col,dd,k0,k1,k2,k3,k5,_,kin _ _ look,.of_isNs (PySem.W.isNs_of_in kin nsok),PySem.W.nsMap_none_of_in kin nsok noinit⟩,PySem.W.tail_of_in kin tailok⟩
  ·cases hq
 ·cases hq
section
variable {X:Cx}
noncomputable def tRaise (E:XK)(C:Addr)(t:TA):TS:=fun _ σ H=>t σ H fun vs H1=>vs.length<=sizeLine/\E (.ref C) none H1
noncomputable def markX (X:Cx)(e:Addr):Cx:={ X with A:=X.A.mark (some (.ref e)),calm:=false,xe:=fun _ _=>False }
variable {pins:List (Addr × Obj)}{σ:St}{H:Hp}{s:Shared}
theorem Cx.Ok.mark (ok:X.Ok)(e:Addr):(markX X e).Ok :=
 ⟨ok.mod,ok.kind,ok.glob,ok.blt,ok.above,ok.inj,ok.has,ok.cab,(fun z=>nomatch z),ok.frames,ok.stk,ok.exf,ok.bs,ok.bsz,ok.noex,ok.exfs,ok.funs,ok.frf⟩
theorem Inv.mark (I:Inv X pins σ H s)(e:Addr):Inv (markX X e) pins σ H s:=⟨I.ok.mark e,I.os,I.bare,I.base,I.loc,I.cell,I.free,I.freeC,I.pin,I.hok,I.len⟩
theorem Inv.unmark {e:Addr}(I:Inv (markX X e) pins σ H s)(ok:X.Ok):Inv X pins σ H s:=⟨ok,I.os,I.bare,I.base,I.loc,I.cell,I.free,I.freeC,I.pin,I.hok,I.len⟩
noncomputable def exAt (e C:Addr)(h:Heap):Prop:=∃ ob vs,h.get? e=some ob/\ob.cls=.ref C/\ob.data=.fields vs
noncomputable def exO (e C:Addr):HO:=.ext (exAt e C)
theorem Inv.nameGoes {M:Model}{A:Around}{E:Value->Shared->Prop}{j:Nat}{n:Str}{pos:Pos}{Q:Unit->Shared->Prop}(I:Inv X pins σ H s)(hN:X.N.Nodup)(hj:X.N[j]?=some n)(hl:X.env.scope.names.lookup n=some .local)
  (h:∀ s',Inv X pins (σ.set j none) H s'->Q () s'):wpAny M A (do bindName X.env n .none; unbindBehindTheSuite X.env n pos) Q E s:=by
 obtain ⟨m,hn,hlk⟩:=id I.loc
 refine wpAny_nameGoes_keeps hl hn (by rw [I.ok.kind]; rfl) fun h' v hn' sb=>h _ ?_
 have other:∀ b o,b ≠ X.env.locals->s.heap.get? b=some o->h'.get? b=some o:=fun b o hb q=>(sb.2 b hb).trans q
 obtain ⟨oL,_,_,hoL,_⟩:=id hn
 have low:∀ b o,X.s₀.heap.get? b=some o->b ≠ X.env.locals:=fun b o q=>I.notLoc q
 refine ⟨I.ok,I.os,I.bare,⟨fun b o q n hb hx=>other b o (low b o q) (I.base.keep b o q n hb hx),fun b o q n hb hx=>?_,I.base.free,fun b o q hx=>?_,I.base.tups,I.base.frzs,I.base.tbls⟩,⟨_,hn',fun i y v' e1 e2 e3=>?_⟩,fun y c q=>?_,I.free,I.freeC,fun p hp=>?_,fun b ob q=>?_,by simpa using I.len⟩
 ·obtain ⟨sl,r⟩:=I.base.slot b o q n hb hx
  exact ⟨sl,other b _ (low b o q) r⟩
 ·obtain ⟨o',r⟩:=I.base.there b o q hx
  exact ⟨o',other b _ (low b o q) r⟩
 ·by_cases hij:i=j
  ·subst hij
   have hiσ:i < σ.length:=by rw [I.len]; exact (List.getElem?_eq_some_iff.mp hj).1
   rw [List.getElem?_set_self hiσ] at e2
   cases e2
  ·rw [List.getElem?_set_ne (Ne.symm hij)] at e2
   obtain ⟨u',r',z⟩:=hlk i y v' e1 e2 e3
   refine ⟨u',r',?_⟩
   rcases z with ⟨k,q⟩ | ⟨k,c,q,z⟩
   ·refine .inl ⟨k,?_⟩
    have ny:y ≠ n:=fun q=>hij (nodup_ix hN e1 (q ▸ hj))
    simp [ny,q]
   ·exact .inr ⟨k,c,q,z.sameBut sb (I.cne y c q)⟩
 ·obtain ⟨w',z⟩:=I.cell y c q
  exact ⟨w',z.sameBut sb (I.cne y c q)⟩
 ·obtain ⟨q,n',ne,nf,d⟩:=I.pin p hp
  exact ⟨other p.1 _ ne q,n',ne,nf,d⟩
 ·refine (I.hok b ob q).stay (fun c w' hc r=>other c w' ?_ r) (fun _ r=>r) fun _ _ r=>r
  rintro rfl
  rcases hc with rfl | hc
  ·rw [I.free] at q
   cases q
  ·rw [I.free] at hc
   cases hc
theorem Fly.caught {H1 H':Hp}{s1 s':Shared}{e C:Addr}{a0:Value}{B h:Heap}(I:Inv X pins σ H1 s1)(F:Fly X.prog X.w X.stack H1 s1 e C a0 B H' s')(fl:Heap.FlyingW B X.stack e (.ref C) a0 h)(up:s'.heap.UpToSlots h) :
  Inv X pins σ (upd H' e (exO e C)) { s' with heap:=h }:=by
 have ne:∀ b o,s1.heap.get? b=some o->b ≠ e:=fun b o q z=>by
  rw [z,F.new] at q
  cases q
 have nt:∀ b u,H' b=some u->b ≠ e:=fun b u q=>ne_of_none q F.free
 have slot:∀ b o,s1.heap.get? b=some o->H1 b=none->b ∈ frs X.stack->∃ sl,h.get? b=some { o with slots:=sl }:=fun b o q n hb=>by
  obtain ⟨_,o1,q1,nf⟩:=I.stack.mem hb
  rw [q] at q1
  cases q1
  obtain ⟨sl,q2⟩:=F.un.slot b o q n hb (fun z=>nomatch z)
  obtain ⟨sl2,q3⟩:=up b _ q2 nf
  exact ⟨sl2,q3⟩
 refine I.call' (ch:=[]) F.os ⟨fun b o q n hb _=>fl.1 b o (F.kB b o q n hb),fun b o q n hb _=>slot b o q n hb,fun b o q n _=>?_,fun b o q _=>?_,fun b xs q=>?_,fun b o u q=>?_,fun b ps q=>?_⟩ (fun b ob q=>?_) F.bare fun b z=>nomatch z
 ·rw [upd_ne (ne b o q)]
  exact F.un.free b o q n fun z=>nomatch z
 ·by_cases hb:b ∈ frs X.stack
  ·obtain ⟨sl,r⟩:=slot b o q (I.stkFree b hb) hb
   exact ⟨_,r⟩
  ·obtain ⟨o',r⟩:=F.tB b o q hb
   exact ⟨o',fl.1 b o' r⟩
 ·have r:=F.un.tups b xs q
  rw [upd_ne (nt b _ r)]
  exact r
 ·have r:=F.un.frzs b o u q
  rw [upd_ne (nt b _ r)]
  exact r
 ·obtain ⟨m,r⟩:=F.un.tbls b ps q
  exact ⟨m,by rw [upd_ne (nt b _ r)]; exact r⟩
 ·by_cases hb:b=e
  ·subst hb
   rw [upd_same] at q
   cases q
   obtain ⟨oe,vs,q1,q2,q3,_⟩:=fl.first
   exact ⟨⟨oe,vs,q1,q2,q3⟩,⟨oe,q1⟩,fun g1 g2 ⟨o1,v1,r1,r2,r3⟩ k=>⟨o1,v1,k _ r1,r2,r3⟩⟩
  ·rw [upd_ne hb] at q
   refine (F.ok b ob q).stay (fun c u _ r=>fl.1 c u r) (fun c r=>?_) fun c xs r=>?_
   ·rw [upd_ne (nt c _ r)]
    exact r
   ·rw [upd_ne (nt c _ r)]
    exact r
theorem exc_hit {M:Model}{A:Around}{E:Value->Shared->Prop}{s:Shared}{S e C:Addr}{bm:List Value}{oe:Obj}{Q:Bool->Shared->Prop}(O:ExObj s.heap S bm)(he:s.heap.get? e=some oe)(hcls:oe.cls=.ref C)
  (hL:PySem.W.Looks M s.heap (isSubtype (.ref C) (.ref S)) true) (hq:Q true s):wpAny M A (excMatches (.ref e) (.ref S)) Q E s:=by
 obtain ⟨⟨N,nm,qn,bs,hdct,sn,sub,ab,col,dd,k0,k1,k2,k3,k5,mN,hS,hN,hni⟩,T⟩:=O
 have hb:=T.hasType PySem.F.excBase_ValueError.hasBase
 obtain ⟨h,g,d,t,os⟩:=s
 have hcB:(Value.ref S :: bm).contains (.type "BaseException")=true:=by rw [List.contains_cons,hb,Bool.or_true]
 have f:=tc_notTuple
 unfold excMatches
 repeat (first | (with_reducible refine wpAny_loadPart_at he ?_; rw [hcls]) | with_reducible refine wpAny_loadPart_at hS ?_ | (with_reducible refine wpAny_isSubtype_exc hS ?_; rw [hcB]) | wp_step)
 refine hL A _ E _ (fun _ _ q=>q) ?_
 rw [if_pos rfl]
 exact wpAny_pure (wpAny_pure (wpAny_pure hq))
end
structure ExFind (K:PySem.W.Frag)(C:Addr):Prop where
 ga:PySem.W.findIn K (.ref C) "__getattribute__"=some (some (.builtin "BaseException.__getattribute__"))
 gh:PySem.W.findIn K (.ref C) "__getattr__"=some none
 cl:PySem.W.findIn K (.ref C) "__class__"=some (some (.builtin "object.__class__"))
 mb:PySem.W.mroIn K C (.type "BaseException")=some true
 mo:PySem.W.mroIn K C (.type "object")=some true
 ci:PySem.W.isClsIn K C=true
section
variable {prog:Program}{w:World}{A:Around}{E:Value->Shared->Prop}{K:PySem.W.Frag}{e C:Addr}
theorem class_get_exc {R:Result->Shared->Prop}{h:Heap}{g:Array GenState}{d:Drawn}{t:Nat}{os:OsState}(F:ExFind K C)(kin:K.In h){o:Obj}(hx:h.get? e=some o)(hc:o.cls=.ref C)(hq:R (.ok (.ret (.ref C))) ⟨h,g,d,t,os⟩) :
  codeAny (model prog w) A (.call (.builtin "getset_descriptor.__get__") ⟨[.builtin "object.__class__",.ref e,.ref C],[]⟩) R ⟨h,g,d,t,os⟩:=by
 have hT5:(⟨h,g,d,t,os⟩:Shared).TypeIs (.builtin "object.__class__") "getset_descriptor":=PySem.F.typeOf_object_class
 have lo:=PySem.W.looks_mroIn (M:=model prog w) kin F.mo
 rw [<- PySem.F.owner_object_class] at lo
 refine codeAny_call_builtin PySem.F.slot_gs_get.plain PySem.F.entry_gs_get (PySem.F.slot_gs_get.check _ _ _ _ _ _ _ _ hT5 (PySem.F.args_gs_get _ _ _) ?_)
 repeat (any_goals (first | assumption | (with_reducible refine wpAny_loadPart_at hx ?_; rw [hc]) | wp_step))
 refine lo _ _ _ _ (fun _ _ z=>z) ?_
 repeat (any_goals (first | assumption | wp_step))
 refine ⟨Code.quiet_builtin _ (by decide +kernel),codeAny_builtin PySem.F.entry_object_class ?_⟩
 repeat (any_goals (first | assumption | (with_reducible refine wpAny_loadPart_at hx ?_; rw [hc]) | wp_step))
theorem class_entry_exc {tk:Tok}{Q:Fin->Shared->Prop}{h:Heap}{g:Array GenState}{d:Drawn}{t:Nat}{os:OsState}(F:ExFind K C)(kin:K.In h){o:Obj}(hx:h.get? e=some o)(hc:o.cls=.ref C)(hq:Q (.done (.ret (.ref C))) ⟨h,g,d,t,os⟩) :
  wpAny (model prog w) A (Builtin.«object.__getattribute__» ⟨[.ref e,.str "__class__" tk],[]⟩) Q E ⟨h,g,d,t,os⟩:=by
 have hT5:(⟨h,g,d,t,os⟩:Shared).TypeIs (.builtin "object.__class__") "getset_descriptor":=PySem.F.typeOf_object_class
 have f5:=PySem.F.typeOf_object_class
 have f6:=PySem.F.slot_gs_get.lookup
 have f7:=PySem.F.slot_gs_set.lookup
 have lc:=PySem.W.looks_findIn (M:=model prog w) kin F.cl
 repeat (any_goals (first | assumption | (with_reducible refine wpAny_loadPart_at hx ?_; rw [hc]) | wp_step))
 refine lc _ _ _ _ (fun _ _ z=>z) ?_
 repeat (any_goals (first | assumption | (with_reducible refine wpAny_loadPart_at hx ?_; rw [hc]) | wp_step))
 refine class_get_exc F kin hx hc ?_
 repeat (any_goals (first | assumption | wp_step))
theorem ga_check_exc {M:Model}{nameV:Value}{Q:Unit->Shared->Prop}{h:Heap}{g:Array GenState}{d:Drawn}{t:Nat}{os:OsState}(F:ExFind K C)(kin:K.In h){o:Obj}(hx:h.get? e=some o)(hc:o.cls=.ref C)(hq:Q () ⟨h,g,d,t,os⟩) :
  wpAny M A (checkBuiltinCall "BaseException.__getattribute__" ⟨[.ref e,nameV],[]⟩) Q E ⟨h,g,d,t,os⟩:=by
 have kd:builtinKind "BaseException.__getattribute__"=some .slot:=by decide +kernel
 have sp:splitId "BaseException.__getattribute__"=some ("BaseException","__getattribute__"):=by decide +kernel
 have ha:=PySem.F.args_bexc_ga (.ref e) nameV
 have lb:=PySem.W.looks_mroIn (M:=M) kin F.mb
 simp only [checkBuiltinCall,kd,sp]
 refine wpAny_bind ?_
 unfold isInstance
 repeat (first | (with_reducible refine wpAny_loadPart_at hx ?_; rw [hc]) | wp_step)
 refine lb _ _ _ _ (fun _ _ z=>z) ?_
 repeat (any_goals (first | assumption | wp_step))
theorem class_call_exc {tk:Tok}{R:Result->Shared->Prop}{h:Heap}{g:Array GenState}{d:Drawn}{t:Nat}{os:OsState}(F:ExFind K C)(kin:K.In h){o:Obj}(hx:h.get? e=some o)(hc:o.cls=.ref C)(hq:R (.ok (.ret (.ref C))) ⟨h,g,d,t,os⟩) :
  codeAny (model prog w) A (.call (.builtin "BaseException.__getattribute__") ⟨[.ref e,.str "__class__" tk],[]⟩) R ⟨h,g,d,t,os⟩ :=
 codeAny_call_builtin PySem.F.attr_ValueError.ga.plain PySem.F.entry_bexc_ga (ga_check_exc F kin hx hc (class_entry_exc F kin hx hc hq))
theorem class_attr_exc {Q:Option Value->Shared->Prop}{h:Heap}{g:Array GenState}{d:Drawn}{t:Nat}{os:OsState}(F:ExFind K C)(kin:K.In h){o:Obj}(hx:h.get? e=some o)(hc:o.cls=.ref C)(hq:Q (some (.ref C)) ⟨h,g,d,t + 1,os⟩) :
  wpAny (model prog w) A (getAttr? (.ref e) "__class__") Q E ⟨h,g,d,t,os⟩:=by
 have f3:=PySem.F.attr_ValueError.ga.bind (.ref e)
 have hx2:(Value.builtin "BaseException.__getattribute__" == Value.builtin "object.__getattribute__")=false:=by decide +kernel
 have hx1:(onTheHeap (Value.ref C) && Value.builtin "BaseException.__getattribute__" == Value.builtin "object.__getattribute__")=false:=by rw [hx2]; rfl
 have l1:=PySem.W.looks_findIn (M:=model prog w) kin F.ga
 have l2:=PySem.W.looks_findIn (M:=model prog w) kin F.gh
 unfold getAttr? getAttrBy? getAttrBy
 repeat (any_goals (first | assumption | (with_reducible refine wpAny_loadPart_at hx ?_; rw [hc]) | wp_step))
 refine l1 _ _ _ _ (fun _ _ z=>z) ?_
 repeat (any_goals (first | assumption | (with_reducible refine wpAny_loadPart_at hx ?_; rw [hc]) | wp_step))
 refine l2 _ _ _ _ (fun _ _ z=>z) ?_
 repeat (any_goals (first | assumption | (with_reducible refine wpAny_loadPart_at hx ?_; rw [hc]) | wp_step))
 refine class_call_exc F kin hx hc ?_
 repeat (any_goals (first | assumption | wp_step))
theorem kitx_exc (F:ExFind K C):PySem.W.KitX K (.ref e) (.ref C) (exAt e C) where
 ty:=fun M h _ p=>by
  obtain ⟨ob,vs,q1,q2,_⟩:=p
  exact q2 ▸ (PySem.W.Looks.ld q1).andThen .now
 it:=fun M h kin _=>by
  have ci:=F.ci
  unfold PySem.W.isClsIn PySem.W.clsIn at ci
  split at ci
  ·rename_i c1 d1 cd1 sl1 lk
   intro A1 Q1 E1 s1 k q
   unfold isType loadHead
   exact wpAny_bind (wpAny_loadPart (k _ _ (kin _ _ lk)) (wpAny_pure q))
  ·cases ci
 ne:=fun h tp dd its n sl kin htp=>by
  refine Bool.eq_false_iff.mpr fun q=>?_
  have ec:C=tp:=Value.ref.inj (beq_iff_eq.mp q)
  subst ec
  have ci:=F.ci
  unfold PySem.W.isClsIn PySem.W.clsIn at ci
  split at ci
  ·rename_i c1 d1 cd1 sl1 lk
   have z:=(kin _ _ lk).symm.trans htp
   cases z
  ·cases ci
 ca:=fun {prog w A E Q s} kin p k=>by
  obtain ⟨ob,vs,q1,q2,_⟩:=p
  obtain ⟨h,g,d,t,os⟩:=s
  exact class_attr_exc F kin q1 q2 k
noncomputable def clsVal:V->Value
 | .ref D=>.ref D
 | .ty n=>.type n
 | _=>.none
end
end L2
namespace L2
open PySem PySem.Spec PyProof.Rows
theorem fold_rep {α:Type}(a:Array α):∀ (n:Nat) (acc:Array α),(List.replicate n a).foldl (·++·) acc=acc++((List.replicate n a.toList).flatten).toArray
 | 0,acc=>by simp
 | n + 1,acc=>by
  rw [List.replicate_succ,List.foldl_cons,fold_rep a n,List.replicate_succ,List.flatten_cons,Array.append_assoc]
  congr 1
  simp
noncomputable def rRepS:R2:=fun x y H Q=>∃ z k,x=.str z/\y=.int k/\1<=k/\k<=1000/\z.length<=1000/\∀ z':Str,z'.length=z.length * k.toNat->(∀ c ∈ z'.cps.toList,c ∈ z.cps.toList)->Q (.str z') H
section
variable {X:Cx}
theorem op_rep_str:OpR X (binaryOp .Mult) rRepS:=by
 intro pins s σ H x y v u Q I rx ry h
 obtain ⟨z,k,rfl,rfl,k1,k2,hz,q⟩:=h
 obtain ⟨t,rfl⟩:=rx
 obtain ⟨t',rfl⟩:=ry
 have hprod:z.length * k.toNat<=1000000:=by
  have:=Nat.mul_le_mul hz (show k.toNat<=1000 by omega)
  omega
 refine PySem.P.mul_str ?_ (fun _ _=>?_) (fun _ _=>?_) ?_
 ·rw [decide_eq_false (show ¬ k < -(2 ^ 63:Int) by omega),decide_eq_false (show ¬ k >= 2 ^ 63 by omega)]
  rfl
 ·have hp:(z.length:Int) * k<=1000000:=by
   have e:((z.length * k.toNat:Nat):Int)=(z.length:Int) * k:=by
    rw [Int.natCast_mul,Int.toNat_of_nonneg (by omega)]
   omega
  have:=Int.le_ediv_of_mul_le (a:=(z.length:Int)) (b:=2 ^ 63 - 1) (c:=k) (by omega) (by omega)
  omega
 ·exact decide_eq_false (Nat.not_lt.mpr (Nat.le_trans hprod (by decide)))
 ·rw [if_neg (show ¬ k < 1 by omega)]
  by_cases c:(k == 1 || z.length == 0)=true
  ·rw [if_pos c]
   refine ⟨.str z,H,I,⟨_,rfl⟩,q z ?_ fun _ h=>h⟩
   rw [Bool.or_eq_true,beq_iff_eq,beq_iff_eq] at c
   rcases c with c | c
   ·rw [c]
    simp
   ·rw [c]
    simp
  ·rw [if_neg c]
   have e:(⟨(List.replicate k.toNat z.cps).foldl (·++·) #[]⟩:Str)=⟨((List.replicate k.toNat z.cps.toList).flatten).toArray⟩:=by
    rw [fold_rep]
    simp
   have hl:(⟨((List.replicate k.toNat z.cps.toList).flatten).toArray⟩:Str).length=z.length * k.toNat:=by
    show ((List.replicate k.toNat z.cps.toList).flatten).toArray.size=_
    rw [List.size_toArray,len_rep,Array.length_toList,Nat.mul_comm]
    rfl
   rw [e]
   refine ⟨by rw [hl]; exact Nat.le_trans hprod (by decide),⟨.str _,H,I.tok _,⟨_,rfl⟩,q _ hl fun d hd=>?_⟩⟩
   have hd':d ∈ (List.replicate k.toNat z.cps.toList).flatten:=by simpa using hd
   obtain ⟨l,hl1,hl2⟩:=List.mem_flatten.mp hd'
   rw [List.eq_of_mem_replicate hl1] at hl2
   exact hl2
end
end L2
namespace L2
open PySem PySem.Spec PyProof.Rows PySem.W
theorem lt2_irr (p:Int × Int):lt2 p p=false:=by
 unfold lt2
 rw [if_pos rfl,decide_eq_false (by omega)]
theorem lt2_tot {p q:Int × Int}(h:p ≠ q):lt2 q p=!lt2 p q:=by
 unfold lt2
 obtain ⟨a,b⟩:=p
 obtain ⟨c,d⟩:=q
 simp only
 by_cases e:a=c
 ·subst e
  rw [if_pos rfl,if_pos rfl]
  have hb:b ≠ d:=fun z=>h (by rw [z])
  by_cases l:b < d
  ·rw [decide_eq_true l,decide_eq_false (by omega)]
   rfl
  ·rw [decide_eq_false l,decide_eq_true (by omega)]
   rfl
 ·rw [if_neg e,if_neg (fun z=>e z.symm)]
  by_cases l:a < c
  ·rw [decide_eq_true l,decide_eq_false (by omega)]
   rfl
  ·rw [decide_eq_false l,decide_eq_true (by omega)]
   rfl
theorem lt2_tr {p q r:Int × Int}(h1:lt2 p q=true)(h2:lt2 q r=true):lt2 p r=true:=by
 unfold lt2 at *
 obtain ⟨a,b⟩:=p
 obtain ⟨c,d⟩:=q
 obtain ⟨e,f⟩:=r
 simp only at *
 by_cases e1:a=c
 ·subst e1
  rw [if_pos rfl,decide_eq_true_eq] at h1
  by_cases e2:a=e
  ·subst e2
   rw [if_pos rfl,decide_eq_true_eq] at h2 ⊢
   omega
  ·rw [if_neg e2] at h2 ⊢
   exact h2
 ·rw [if_neg e1,decide_eq_true_eq] at h1
  by_cases e2:c=e
  ·subst e2
   rw [if_neg e1,decide_eq_true_eq]
   exact h1
  ·rw [if_neg e2,decide_eq_true_eq] at h2
   rw [if_neg (by omega),decide_eq_true_eq]
   omega
section
variable {X:Cx}
end
end L2
namespace PySem.SeqAt
open L2 AutoSeq1 MeetsSeq MeetsSeq2 MeetsSeq3
noncomputable def RcLtAt (A:Around)(s:Shared)(y x:Value)(b:Bool):Prop:=∀ (prog:Program) (w:World) (E:Value->Shared->Prop) (Q:Value->Shared->Prop),Q (.bool b) s->wpAny (model prog w) A (richCompare .Lt y x) Q E s
theorem RcLtAt.int_int {A:Around}{s:Shared}(a:Int)(t:Tok)(b:Int)(u:Tok):RcLtAt A s (.int a t) (.int b u) (decide (a < b)):=fun prog w E Q h=>wpAny_lt_int h
theorem tuple_ltAt (l b:Addr)(x y x2 y2:Int)(t u t2 u2:Tok)(n n2:Nat)(dd dd2:Option Addr)(sl sl2:Array (Option Value)) :
  Meets (Builtin.«tuple.__lt__» ⟨[.ref l,.ref b],[]⟩)
   (fun _ R s=>s.heap.get? l=some { cls:=.type "tuple",dict:=dd,data:=.seq #[.int x t,.int y u] n,slots:=sl }/\s.heap.get? b=some { cls:=.type "tuple",dict:=dd2,data:=.seq #[.int x2 t2,.int y2 u2] n2,slots:=sl2 } /\
    R (.ok (.ret (.bool (lt2 (x,y) (x2,y2))))) s) :=
 .of_wp fun prog w A R s h=>by
  obtain ⟨hp1,g1,d1,tk1,os1⟩:=s
  obtain ⟨hL,hB,h⟩:=h
  have fT:=sub_tuple_tuple
  wp_walk using wpAny_loadPart' hL,wpAny_loadPart' hB
  refine EqAt.int_int x t x2 t2 prog w _ _ ?_
  unfold lt2 at h
  by_cases e:x=x2
  ·have e':(x == x2)=true:=by simpa using e
   rw [e']
   rw [if_pos e] at h
   wp_walk
   refine EqAt.int_int y u y2 u2 prog w _ _ ?_
   by_cases e2:y=y2
   ·have e2':(y == y2)=true:=by simpa using e2
    rw [e2']
    rw [decide_eq_false (by show ¬ y < y2; omega)] at h
    wp_walk
    exact ⟨_,rfl,h⟩
   ·have e2':(y == y2)=false:=by simpa using e2
    rw [e2']
    simp only [Bool.not_false,if_true]
    refine wpAny_bind (wpAny_rule (wpAny_bind (RcLtAt.int_int y u y2 u2 prog w _ _ ?_)))
    wp_walk
    exact ⟨_,rfl,h⟩
  ·have e':(x == x2)=false:=by simpa using e
   rw [e']
   rw [if_neg e] at h
   simp only [Bool.not_false,if_true]
   refine wpAny_bind (wpAny_rule (wpAny_bind (RcLtAt.int_int x t x2 t2 prog w _ _ ?_)))
   wp_walk
   exact ⟨_,rfl,h⟩
theorem RcLtAt.pairs {A:Around}{s:Shared}{v v':Value}{p q:Int × Int}(hv:IntPair s.heap v p)(hv':IntPair s.heap v' q)(hu:A.units < cLine):RcLtAt A s v v' (lt2 p q):=fun prog w E Q h=>by
 obtain ⟨a,⟨cls,dd,data,sl⟩,n,t,u,rfl,e1,c1,d1⟩:=hv
 obtain ⟨a',⟨cls2,dd2,data2,sl2⟩,n',t',u',rfl,e1',c1',d1'⟩:=hv'
 simp only at c1 d1 c1' d1'
 subst c1 d1 c1' d1'
 exact richCompare_meets_room (op:=.Lt) ⟨_,e1,rfl⟩ ⟨_,e1',rfl⟩ F.slot_tuple_lt F.entry_tuple_lt (F.args_tuple_lt_2 _ _) (tuple_ltAt a a' p.1 p.2 q.1 q.2 t u t' u' n n' dd dd2 sl sl2)
  ⟨e1,e1',show Value.bool (lt2 p q) ≠ Value.notImplemented/\Q (.bool (lt2 p q)) s from ⟨(fun x=>nomatch x),h⟩⟩ hu
theorem intPair_reads {h:Heap}{v:Value}{p:Int × Int}(hv:IntPair h v p):∃ as,Reads h v (.tuple [.int p.1,.int p.2]) as:=by
 obtain ⟨a,o,n,t,u,rfl,e1,c1,d1⟩:=hv
 exact ⟨_,.tuple e1 c1 d1 (.cons (.int _ _) (.cons (.int _ _) .nil))⟩
theorem pairs_eqv (p q:Int × Int):PyData.eqv (.tuple [.int p.1,.int p.2]) (.tuple [.int q.1,.int q.2])=decide (p=q):=by
 obtain ⟨a,b⟩:=p
 obtain ⟨c,d⟩:=q
 show ((a == c) && ((b == d) && true))=_
 by_cases h1:a=c
 ·by_cases h2:b=d
  ·subst h1 h2
   simp
  ·simp [h2]
 ·simp [h1]
end PySem.SeqAt
namespace L2
open PySem PySem.Spec PyProof.Rows PySem.W PySem.SeqAt
section
variable {X:Cx}{pins:List (Addr × Obj)}{σ:St}{H:Hp}{s:Shared}
end
section
variable {X:Cx}
end
end L2
namespace L2
open PySem PySem.Spec PyProof.Rows
section
variable {K:PySem.W.Frag}{g:TG}{tc:TT}{te:TE}{Q:VK}{σ0:St}{D:Addr}
theorem comp_zip {l1 l2:Addr}{xs ys:List V}(Pv:Nat->St->Hp->Prop){H:Hp}(he:xs.length=ys.length)(h0:Pv 0 σ0 H)(hl:∀ i σ H,i<=xs.length->Pv i σ H->SqL K H l1 xs/\SqL K H l2 ys)
  (hs:∀ i x y T σ H,xs[i]?=some x->ys[i]?=some y->H T=none->Pv i σ H->g (.ref T) σ (upd H T (.tup [x,y])) fun σ2 H3=>tc σ2 H3 fun b H4=>if b=true then te σ2 H4 fun y H5=>∃ zs,H5 D=some (.lst zs)/\zs.length < sizeLine/\Pv (i + 1) σ2 (upd H5 D (.lst (zs++[y]))) else Pv (i + 1) σ2 H4)
  (hd:∀ σ H,Pv xs.length σ H->Q (.ref D) H):CompGoes (Itz K l1 l2) g tc te Q D σ0 H:=by
 refine ⟨fun i m σ H=>m=xs.length - i/\i<=xs.length/\Pv i σ H,⟨xs.length,by simp,Nat.zero_le _,h0⟩,?_⟩
 rintro i m σ H ⟨rfl,hi,p⟩
 obtain ⟨q1,q2⟩:=hl i σ H hi p
 by_cases hlt:i < xs.length
 ·refine .inr ⟨⟨xs,ys,q1,q2,hlt,by omega⟩,Pv (i + 1),fun σ' H' p'=>⟨xs.length - (i + 1),by omega,rfl,hlt,p'⟩,fun x H' y=>?_⟩
  obtain ⟨T,rfl,hT,y⟩:=y
  obtain ⟨v,v',hv,hv',rfl⟩:=y xs ys q1 q2
  exact hs i v v' T σ H hv hv' hT p
 ·have e:i=xs.length:=by omega
  subst e
  exact .inl ⟨⟨xs,ys,q1,q2,by omega⟩,hd σ H p⟩
end
end L2
namespace L2
open PySem PySem.Spec PyProof.Rows PySem.W
namespace ST
theorem perm_map {α β:Type}(f:α->β){l l':List β}(h:l.Perm l'):∀ ks:List α,l'=ks.map f->∃ js:List α,js.Perm ks/\l=js.map f:=by
 induction h with
 | nil=>exact fun ks e=>⟨ks,List.Perm.refl _,e⟩
 | cons x h ih =>
  intro ks e
  cases ks with
  | nil=>simp at e
  | cons k ks =>
   rw [List.map_cons] at e
   injection e with e1 e2
   obtain ⟨js,h1,h2⟩:=ih ks e2
   exact ⟨k :: js,h1.cons k,by rw [List.map_cons,e1,h2]⟩
 | swap x y l =>
  intro ks e
  match ks,e with
  | [],e=>simp at e
  | [k],e=>simp at e
  | k1 :: k2 :: ks,e =>
   rw [List.map_cons,List.map_cons] at e
   injection e with e1 e2
   injection e2 with e2 e3
   exact ⟨k2 :: k1 :: ks,List.Perm.swap k1 k2 ks,by rw [List.map_cons,List.map_cons,e1,e2,e3]⟩
 | trans h1 h2 ih1 ih2 =>
  intro ks e
  obtain ⟨js,a,b⟩:=ih2 ks e
  obtain ⟨is,c,d⟩:=ih1 js b
  exact ⟨is,c.trans a,d⟩
section
variable {X:Cx}
end
end ST
end L2
namespace L2
open PySem PySem.Spec PyProof.Rows PySem.W
namespace GS
section
variable {prog:Program}{w:World}{A:Around}{E:Value->Shared->Prop}{s:Shared}{rk:Keyed->Int}{κ:SortKind}{a0:Array Keyed}
noncomputable def Rk (rk:Keyed->Int)(xs:Array Keyed)(i:Nat):Int:=match xs[i]? with
 | some p=>rk p
 | none=>0
theorem Rk_congr {xs ys:Array Keyed}{i j:Nat}(h:xs[i]?=ys[j]?):Rk rk xs i=Rk rk ys j:=by
 unfold Rk
 rw [h]
noncomputable def Up (rk:Keyed->Int)(xs:Array Keyed)(lo hi:Nat):Prop:=∀ i j,lo<=i->i<=j->j < hi->Rk rk xs i<=Rk rk xs j
noncomputable def Tells (prog:Program)(w:World)(A:Around)(s:Shared)(κ:SortKind)(rk:Keyed->Int)(a0:Array Keyed):Prop :=
 ∀ x ∈ a0.toList,∀ y ∈ a0.toList,∀ C:Bool->Shared->Prop,C (decide (rk x < rk y)) s->wpAny (model prog w) A (keyLt' κ x.1 y.1) C (fun _ _=>False) s
structure Ok (κ:SortKind)(a0:Array Keyed)(st:SortSt):Prop where
 perm:(arrOf st).Perm a0
 kind:kindOf st=κ
 good:failedOf st=none
theorem Ok.size {st:SortSt}(h:Ok κ a0 st):(arrOf st).size=a0.size:=h.perm.size_eq
theorem Ok.at {st:SortSt}(h:Ok κ a0 st){i:Nat}(hi:i < a0.size):∃ x,(arrOf st)[i]?=some x/\x ∈ a0.toList/\Rk rk (arrOf st) i=rk x:=by
 have hi':i < (arrOf st).size:=by rw [h.size]; exact hi
 have e:(arrOf st)[i]?=some (arrOf st)[i]:=getElem?_pos _ i hi'
 refine ⟨(arrOf st)[i],e,(Array.perm_iff_toList_perm.mp h.perm).mem_iff.mp (by simp),?_⟩
 unfold Rk
 rw [e]
theorem s_lt {st:SortSt}{x y:Keyed}{Q:Option Bool->SortSt->Prop}(T:Tells prog w A s κ rk a0)(hk:kindOf st=κ)(hx:x ∈ a0.toList)(hy:y ∈ a0.toList)(h:Q (some (decide (rk x < rk y))) st):wpS (model prog w) A E s (lt' x y) Q st:=by
 rw [lt'_eq]
 refine wpS_bind (wpS_get ?_)
 rw [hk]
 refine wpS_bind (wpS_lift (wpAny_attempt (wpAny_mono (T x hx y hy (fun b s'=>s'=s/\b=decide (rk x < rk y)) ⟨rfl,rfl⟩) (fun b s' hb=>⟨hb.1,?_⟩) fun _ _ hF=>hF.elim)))
 rw [hb.2]
 exact wpS_pure h
theorem s_elem {st:SortSt}{xs:Array Keyed}{i:Nat}{x:Keyed}{Q:Keyed->SortSt->Prop}(e:xs[i]?=some x)(h:Q x st):wpS (model prog w) A E s (elem' xs i) Q st:=by
 rw [elem'_eq,e]
 exact wpS_pure h
theorem s_ltAt {st:SortSt}{i j:Nat}{Q:Option Bool->SortSt->Prop}(T:Tells prog w A s κ rk a0)(O:Ok κ a0 st)(hi:i < a0.size)(hj:j < a0.size)(h:Q (some (decide (Rk rk (arrOf st) i < Rk rk (arrOf st) j))) st):wpS (model prog w) A E s (ltAt' i j) Q st:=by
 obtain ⟨x,e1,m1,r1⟩:=O.at (rk:=rk) hi
 obtain ⟨y,e2,m2,r2⟩:=O.at (rk:=rk) hj
 rw [r1,r2] at h
 rw [ltAt'_eq]
 refine wpS_bind (wpS_get ?_)
 exact wpS_bind (s_elem e1 (wpS_bind (s_elem e2 (s_lt T O.kind m1 m2 h))))
structure Step (κ:SortKind)(a0:Array Keyed)(lo:Nat)(st st':SortSt):Prop where
 ok:Ok κ a0 st'
 pend:pendingOf st'=pendingOf st
 low:∀ i:Nat,i < lo->(arrOf st')[i]?=(arrOf st)[i]?
theorem Step.refl {lo:Nat}{st:SortSt}(O:Ok κ a0 st):Step κ a0 lo st st:=⟨O,rfl,fun _ _=>rfl⟩
theorem Rk_mirror {xs:Array Keyed}{i j:Nat}(hj:j<=xs.size)(k:Nat):Rk rk (mirror xs i j ((j - i) / 2)) k=if i<=k/\k < j then Rk rk xs (i + j - 1 - k) else Rk rk xs k:=by
 have e:=getElem?_mirror_all (i:=i) hj k
 by_cases h1:i<=k/\k < j
 ·rw [if_pos h1] at e ⊢
  exact Rk_congr e
 ·rw [if_neg h1] at e ⊢
  exact Rk_congr e
theorem Rk_mirror_same {xs:Array Keyed}{i j:Nat}(hj:j<=xs.size)(heq:∀ k,i<=k->k < j->Rk rk xs k=Rk rk xs (j - 1))(k:Nat):Rk rk (mirror xs i j ((j - i) / 2)) k=Rk rk xs k:=by
 rw [Rk_mirror hj]
 split
 ·rw [heq _ (by omega) (by omega),heq k (by omega) (by omega)]
 ·rfl
theorem Step.mirror {lo i j:Nat}{st st':SortSt}(x:Step κ a0 lo st st')(hi:lo<=i)(hj:j<=a0.size):Step κ a0 lo st (setArr st' (mirror (arrOf st') i j ((j - i) / 2))):=by
 refine ⟨⟨(mirror_perm _ _ _ _).trans x.ok.perm,x.ok.kind,x.ok.good⟩,x.pend,fun k hk=>?_⟩
 show (PyProof.Rows.mirror (arrOf st') i j ((j - i) / 2))[k]?=_
 rw [getElem?_mirror_all (by rw [x.ok.size]; exact hj),if_neg (by omega)]
 exact x.low k hk
theorem s_rev {st:SortSt}{i j:Nat}{Q:Unit->SortSt->Prop}(h:Q () (setArr st (mirror (arrOf st) i j ((j - i) / 2)))):wpS (model prog w) A E s (reverseSlice' i j) Q st:=by
 rw [reverseSlice'_eq]
 exact wpS_modify h
noncomputable def up1 (lo a nrem:Nat):StateT SortSt Sem AscSt :=
 forIn [a:nrem] ((none,a):AscSt) fun _ c=>do
  let x <- ltAt' (lo + c.snd) (lo + c.snd - 1)
  match x with
  | some b=>if b=true then pure (ForInStep.done (none,c.snd)) else pure (ForInStep.yield (none,c.snd + 1))
  | _=>pure (ForInStep.done (some none,c.snd))
noncomputable def end3 (lo n nrem:Nat):StateT SortSt Sem (Option Nat):=do
 reverseSlice' lo (lo + n)
 let c <- up1 lo n nrem
 match c.fst with
 | some r=>pure r
 | none=>pure (some c.snd)
noncomputable def down1 (lo n nrem:Nat):StateT SortSt Sem DescSt :=
 forIn [n:nrem] ((none,n,0):DescSt) fun _ c=>do
  let x <- ltAt' (lo + c.snd.fst) (lo + c.snd.fst - 1)
  match x with
  | some b =>
   if b=true then
    if c.snd.snd > 0 then do
     reverseSlice' (lo + c.snd.fst - (c.snd.snd + 1)) (lo + c.snd.fst)
     pure (ForInStep.yield (none,c.snd.fst + 1,0))
    else pure (ForInStep.yield (none,c.snd.fst + 1,0))
   else do
    let x <- ltAt' (lo + c.snd.fst - 1) (lo + c.snd.fst)
    match x with
    | some b =>
     if b=true then pure (ForInStep.done (none,c.snd.fst,c.snd.snd))
     else pure (ForInStep.yield (none,c.snd.fst + 1,c.snd.snd + 1))
    | _=>pure (ForInStep.done (some none,c.snd.fst,c.snd.snd))
  | _=>pure (ForInStep.done (some none,c.snd.fst,c.snd.snd))
noncomputable def part2 (lo n nrem:Nat):StateT SortSt Sem (Option Nat):=do
 liftM (rule "list.sort.descending-run")
 let c <- down1 lo (n + 1) nrem
 match c.fst with
 | some r=>pure r
 | none =>
  if c.snd.snd > 0 then do
   reverseSlice' (lo + c.snd.fst - (c.snd.snd + 1)) (lo + c.snd.fst)
   end3 lo c.snd.fst nrem
  else end3 lo c.snd.fst nrem
theorem run_eq (lo nrem:Nat):countRun' lo nrem=(do
  let c <- up1 lo 1 nrem
  match c.fst with
  | some r=>pure r
  | none =>
   if (c.snd == nrem)=true then pure (some c.snd)
   else if c.snd > 1 then do
    let x <- ltAt' lo (lo + c.snd - 1)
    match x with
    | some b=>if b=true then pure (some c.snd) else do
      reverseSlice' lo (lo + c.snd)
      part2 lo c.snd nrem
    | _=>pure none
   else part2 lo c.snd nrem):=by
 rw [countRun'_eq]
 unfold part2 end3 down1 up1
 refine bind_congr fun c=>?_
 obtain ⟨r,n⟩:=c
 cases r with
 | some r=>rfl
 | none =>
  dsimp only
  split
  ·rfl
  ·split
   ·refine bind_congr fun x=>?_
    cases x with
    | none=>rfl
    | some b =>
     dsimp only
     split
     ·rfl
     ·refine bind_congr fun _=>bind_congr fun _=>bind_congr fun c2=>?_
      obtain ⟨r2,n2,q2⟩:=c2
      cases r2 with
      | some r2=>rfl
      | none =>
       dsimp only
       split
       ·refine bind_congr fun _=>bind_congr fun _=>bind_congr fun c3=>?_
        obtain ⟨r3,n3⟩:=c3
        cases r3 <;> rfl
       ·refine bind_congr fun _=>bind_congr fun c3=>?_
        obtain ⟨r3,n3⟩:=c3
        cases r3 <;> rfl
   ·refine bind_congr fun _=>bind_congr fun c2=>?_
    obtain ⟨r2,n2,q2⟩:=c2
    cases r2 with
    | some r2=>rfl
    | none =>
     dsimp only
     split
     ·refine bind_congr fun _=>bind_congr fun _=>bind_congr fun c3=>?_
      obtain ⟨r3,n3⟩:=c3
      cases r3 <;> rfl
     ·refine bind_congr fun _=>bind_congr fun c3=>?_
      obtain ⟨r3,n3⟩:=c3
      cases r3 <;> rfl
end
end GS
end L2
namespace L2
open PySem PySem.Spec PyProof.Rows PySem.W
namespace GS
section
variable {prog:Program}{w:World}{A:Around}{E:Value->Shared->Prop}{s:Shared}{rk:Keyed->Int}{κ:SortKind}{a0:Array Keyed}
noncomputable def Down (rk:Keyed->Int)(xs:Array Keyed)(lo n:Nat):Prop:=∀ i j,i<=j->j < n->Rk rk xs (lo + j)<=Rk rk xs (lo + i)
theorem s_up1 {st:SortSt}{lo a nrem:Nat}{Q:AscSt->SortSt->Prop}(T:Tells prog w A s κ rk a0)(O:Ok κ a0 st)(hn:lo + nrem<=a0.size)(ha:1<=a)(han:a<=nrem)(hs:Up rk (arrOf st) lo (lo + a))
  (h:∀ n,a<=n->n<=nrem->Up rk (arrOf st) lo (lo + n)->(n=nrem\/Rk rk (arrOf st) (lo + n) < Rk rk (arrOf st) (lo + n - 1))->Q (none,n) st):wpS (model prog w) A E s (up1 lo a nrem) Q st:=by
 unfold up1
 refine wpS_forRange (I:=fun x c st'=>st'=st/\c=(none,x)/\Up rk (arrOf st) lo (lo + x)) ?step ?fin ⟨rfl,rfl,hs⟩
 case fin =>
  rintro c st' ⟨rfl,rfl,hs'⟩
  rw [show max a nrem=nrem by omega] at hs' ⊢
  exact h nrem han (Nat.le_refl _) hs' (.inl rfl)
 case step =>
  rintro x c st' hax hxn ⟨rfl,rfl,hs'⟩
  dsimp only
  refine wpS_bind (s_ltAt T O (by omega) (by omega) ?_)
  by_cases hless:Rk rk (arrOf st') (lo + x) < Rk rk (arrOf st') (lo + x - 1)
  ·simp only [hless,decide_true,if_true]
   exact wpS_pure (h x hax (by omega) hs' (.inr hless))
  ·simp only [hless,decide_false,Bool.false_eq_true,if_false]
   refine wpS_pure ⟨rfl,rfl,fun i j hi hij hj=>?_⟩
   by_cases hjx:j < lo + x
   ·exact hs' i j hi hij hjx
   ·obtain rfl:j=lo + x:=by omega
    by_cases hi':i=lo + x
    ·subst hi'
     exact Int.le_refl _
    ·exact Int.le_trans (hs' i (lo + x - 1) hi (by omega) (by omega)) (Int.not_lt.mp hless)
theorem s_end3 {st0 st:SortSt}{lo n nrem:Nat}{Q:Option Nat->SortSt->Prop}(T:Tells prog w A s κ rk a0)(S:Step κ a0 lo st0 st)(hn:lo + nrem<=a0.size)(h1:1<=n)(hnn:n<=nrem)(hs:Down rk (arrOf st) lo n)
  (h:∀ m st',Step κ a0 lo st0 st'->1<=m->m<=nrem->Up rk (arrOf st') lo (lo + m)->Q (some m) st'):wpS (model prog w) A E s (end3 lo n nrem) Q st:=by
 unfold end3
 refine wpS_bind (s_rev ?_)
 have S':=S.mirror (i:=lo) (j:=lo + n) (Nat.le_refl _) (by omega)
 refine wpS_bind (s_up1 T S'.ok hn h1 hnn ?_ fun m hm1 hm2 hsm _=>wpS_pure (h m _ S' (by omega) hm2 hsm))
 intro i j hi hij hj
 have hsz:lo + n<=(arrOf st).size:=by
  rw [S.ok.size]
  omega
 show Rk rk (mirror (arrOf st) lo (lo + n) ((lo + n - lo) / 2)) i<=Rk rk (mirror (arrOf st) lo (lo + n) ((lo + n - lo) / 2)) j
 rw [Rk_mirror hsz,Rk_mirror hsz,if_pos (by omega),if_pos (by omega)]
 have:=hs (lo + n - 1 - j) (lo + n - 1 - i) (by omega) (by omega)
 rw [show lo + (lo + n - 1 - j)=lo + (lo + n) - 1 - j by omega,show lo + (lo + n - 1 - i)=lo + (lo + n) - 1 - i by omega] at this
 exact this
theorem s_down1 {st0 st:SortSt}{lo n nrem:Nat}{Q:DescSt->SortSt->Prop}(T:Tells prog w A s κ rk a0)(S:Step κ a0 lo st0 st)(hn:lo + nrem<=a0.size)(h1:1<=n)(hnn:n<=nrem)(hs:Down rk (arrOf st) lo n)
  (h:∀ m q st',Step κ a0 lo st0 st'->n<=m->m<=nrem->Down rk (arrOf st') lo m->q + 1<=m->(∀ i,m - (q + 1)<=i->i < m->Rk rk (arrOf st') (lo + i)=Rk rk (arrOf st') (lo + (m - 1)))->Q (none,m,q) st'):wpS (model prog w) A E s (down1 lo n nrem) Q st:=by
 unfold down1
 refine wpS_forRange (I:=fun x c st'=>∃ q,c=(none,x,q)/\Step κ a0 lo st0 st'/\Down rk (arrOf st') lo x/\q + 1<=x /\
   (∀ i,x - (q + 1)<=i->i < x->Rk rk (arrOf st') (lo + i)=Rk rk (arrOf st') (lo + (x - 1)))) ?step ?fin ⟨0,rfl,S,hs,by omega,fun i h1 h2=>by congr 1; omega⟩
 case fin =>
  rintro c st' ⟨q,rfl,S',hs',hq,he⟩
  rw [show max n nrem=nrem by omega] at hs' hq he ⊢
  exact h nrem q st' S' hnn (Nat.le_refl _) hs' hq he
 case step =>
  rintro x c st' hax hxn ⟨q,rfl,S',hs',hq,he⟩
  dsimp only
  have hsz:lo + x<=(arrOf st').size:=by
   rw [S'.ok.size]
   omega
  refine wpS_bind (s_ltAt T S'.ok (by omega) (by omega) ?_)
  by_cases hless:Rk rk (arrOf st') (lo + x) < Rk rk (arrOf st') (lo + x - 1)
  ·simp only [hless,decide_true,if_true]
   have step1:∀ xs:Array Keyed,(∀ k,Rk rk xs k=Rk rk (arrOf st') k)->Down rk xs lo (x + 1):=by
    intro xs hk i j hij hj
    rw [hk,hk]
    by_cases hjx:j < x
    ·exact hs' i j hij hjx
    ·obtain rfl:j=x:=by omega
     by_cases hi':i=j
     ·subst hi'
      exact Int.le_refl _
     ·have a1:=hs' i (j - 1) (by omega) (by omega)
      rw [show lo + (j - 1)=lo + j - 1 by omega] at a1
      exact Int.le_trans (Int.le_of_lt hless) a1
   by_cases hq0:q > 0
   ·rw [if_pos hq0]
    refine wpS_bind (s_rev (wpS_pure ⟨0,rfl,S'.mirror (by omega) (by omega),step1 _ (Rk_mirror_same hsz fun k k1 k2=>?_),by omega,fun i h1 h2=>by congr 1; omega⟩))
    have a1:=he (k - lo) (by omega) (by omega)
    rw [show lo + (k - lo)=k by omega,show lo + (x - 1)=lo + x - 1 by omega] at a1
    exact a1
   ·rw [if_neg hq0]
    exact wpS_pure ⟨0,rfl,S',step1 _ (fun _=>rfl),by omega,fun i h1 h2=>by congr 1; omega⟩
  ·simp only [hless,decide_false,Bool.false_eq_true,if_false]
   refine wpS_bind (s_ltAt T S'.ok (by omega) (by omega) ?_)
   by_cases hmore:Rk rk (arrOf st') (lo + x - 1) < Rk rk (arrOf st') (lo + x)
   ·simp only [hmore,decide_true,if_true]
    exact wpS_pure (h x q st' S' hax (by omega) hs' hq he)
   ·simp only [hmore,decide_false,Bool.false_eq_true,if_false]
    have heqx:Rk rk (arrOf st') (lo + x)=Rk rk (arrOf st') (lo + (x - 1)):=by
     rw [show lo + (x - 1)=lo + x - 1 by omega]
     omega
    refine wpS_pure ⟨q + 1,rfl,S',fun i j hij hj=>?_,by omega,fun i h1 h2=>?_⟩
    ·by_cases hjx:j < x
     ·exact hs' i j hij hjx
     ·obtain rfl:j=x:=by omega
      by_cases hi':i=j
      ·subst hi'
       exact Int.le_refl _
      ·rw [heqx]
       exact hs' i (j - 1) (by omega) (by omega)
    ·rw [show x + 1 - 1=x by omega]
     by_cases hix:i=x
     ·subst hix
      rfl
     ·rw [heqx]
      exact he i (by omega) (by omega)
theorem s_part2 {st0 st:SortSt}{lo n nrem:Nat}{Q:Option Nat->SortSt->Prop}(T:Tells prog w A s κ rk a0)(S:Step κ a0 lo st0 st)(hn:lo + nrem<=a0.size)(hnn:n + 1<=nrem)(hs:Down rk (arrOf st) lo (n + 1))
  (h:∀ m st',Step κ a0 lo st0 st'->1<=m->m<=nrem->Up rk (arrOf st') lo (lo + m)->Q (some m) st'):wpS (model prog w) A E s (part2 lo n nrem) Q st:=by
 unfold part2
 refine wpS_bind (wpS_lift (wpAny_rule ⟨rfl,?_⟩))
 refine wpS_bind (s_down1 T S hn (by omega) hnn hs fun m q st' S' hm1 hm2 hs' hq he=>?_)
 dsimp only
 have hsz:lo + m<=(arrOf st').size:=by
  rw [S'.ok.size]
  omega
 by_cases hq0:q > 0
 ·rw [if_pos hq0]
  refine wpS_bind (s_rev (s_end3 T (S'.mirror (by omega) (by omega)) hn (by omega) hm2 ?_ h))
  intro i j hij hj
  show Rk rk (mirror (arrOf st') _ _ _) (lo + j)<=Rk rk (mirror (arrOf st') _ _ _) (lo + i)
  have same:∀ k,lo + m - (q + 1)<=k->k < lo + m->Rk rk (arrOf st') k=Rk rk (arrOf st') (lo + m - 1):=fun k k1 k2=>by
   have a1:=he (k - lo) (by omega) (by omega)
   rw [show lo + (k - lo)=k by omega,show lo + (m - 1)=lo + m - 1 by omega] at a1
   exact a1
  rw [Rk_mirror_same hsz same,Rk_mirror_same hsz same]
  exact hs' i j hij hj
 ·rw [if_neg hq0]
  exact s_end3 T S' hn (by omega) hm2 hs' h
theorem s_run {st:SortSt}{lo nrem:Nat}{Q:Option Nat->SortSt->Prop}(T:Tells prog w A s κ rk a0)(O:Ok κ a0 st)(hn:lo + nrem<=a0.size)(h1:1<=nrem)
  (h:∀ m st',Step κ a0 lo st st'->1<=m->m<=nrem->Up rk (arrOf st') lo (lo + m)->Q (some m) st'):wpS (model prog w) A E s (countRun' lo nrem) Q st:=by
 have S:=Step.refl (lo:=lo) O
 rw [run_eq]
 refine wpS_bind (s_up1 T O hn (Nat.le_refl 1) h1 (fun i j hi hij hj=>by
  obtain rfl:i=j:=by omega
  exact Int.le_refl _) fun n hn1 hn2 hsn hor=>?_)
 dsimp only
 by_cases hnn:n=nrem
 ·rw [if_pos (by simpa using hnn)]
  exact wpS_pure (h n st S hn1 hn2 hsn)
 ·rw [if_neg (by simpa using hnn)]
  have hlt:Rk rk (arrOf st) (lo + n) < Rk rk (arrOf st) (lo + n - 1):=hor.resolve_left hnn
  have hsz:lo + n<=(arrOf st).size:=by
   rw [O.size]
   omega
  by_cases hgt:n > 1
  ·rw [if_pos hgt]
   refine wpS_bind (s_ltAt T O (by omega) (by omega) ?_)
   by_cases hrose:Rk rk (arrOf st) lo < Rk rk (arrOf st) (lo + n - 1)
   ·simp only [hrose,decide_true,if_true]
    exact wpS_pure (h n st S hn1 hn2 hsn)
   ·simp only [hrose,decide_false,Bool.false_eq_true,if_false]
    have hall:∀ k,lo<=k->k < lo + n->Rk rk (arrOf st) k=Rk rk (arrOf st) (lo + n - 1):=by
     intro k k1 k2
     have a1:=hsn lo k (Nat.le_refl _) k1 k2
     have a2:=hsn k (lo + n - 1) k1 (by omega) (by omega)
     omega
    refine wpS_bind (s_rev (s_part2 T (S.mirror (Nat.le_refl _) (by omega)) hn (by omega) ?_ h))
    intro i j hij hj
    show Rk rk (mirror (arrOf st) _ _ _) (lo + j)<=Rk rk (mirror (arrOf st) _ _ _) (lo + i)
    rw [Rk_mirror_same hsz hall,Rk_mirror_same hsz hall]
    by_cases hjn:j < n
    ·rw [hall (lo + i) (by omega) (by omega),hall (lo + j) (by omega) (by omega)]
     exact Int.le_refl _
    ·obtain rfl:j=n:=by omega
     by_cases hi':i=j
     ·subst hi'
      exact Int.le_refl _
     ·rw [hall (lo + i) (by omega) (by omega)]
      exact Int.le_of_lt hlt
  ·rw [if_neg hgt]
   obtain rfl:n=1:=by omega
   refine s_part2 T S hn (by omega) ?_ h
   intro i j hij hj
   by_cases hi':i=j
   ·subst hi'
    exact Int.le_refl _
   ·obtain rfl:i=0:=by omega
    obtain rfl:j=1:=by omega
    rw [Nat.add_sub_cancel] at hlt
    exact Int.le_of_lt hlt
theorem Rk_bubble {xs:Array Keyed}{src d:Nat}(hs:src < xs.size)(hd:d<=src)(k:Nat):Rk rk (bubble xs src d) k=if k=src - d then Rk rk xs src else if src - d < k/\k<=src then Rk rk xs (k - 1) else Rk rk xs k:=by
 have e:=getElem?_bubble hs d hd k
 by_cases h1:k=src - d
 ·rw [if_pos h1] at e ⊢
  exact Rk_congr e
 ·rw [if_neg h1] at e ⊢
  by_cases h2:src - d < k/\k<=src
  ·rw [if_pos h2] at e ⊢
   exact Rk_congr e
  ·rw [if_neg h2] at e ⊢
   exact Rk_congr e
theorem s_bin {st:SortSt}{lo n ok:Nat}{Q:Bool->SortSt->Prop}(T:Tells prog w A s κ rk a0)(O:Ok κ a0 st)(hn:lo + n<=a0.size)(hok:ok<=n)(hs:Up rk (arrOf st) lo (lo + ok))
  (h:∀ st',Step κ a0 lo st st'->Up rk (arrOf st') lo (lo + n)->Q true st'):wpS (model prog w) A E s (binarySort' lo n ok) Q st:=by
 rw [binarySort'_eq]
 refine wpS_bind (wpS_mono (wpS_forRange (I:=fun k c st'=>c=(none,())/\Step κ a0 lo st st'/\Up rk (arrOf st') lo (lo + min k n))
  (Q:=fun c st'=>c=(none,())/\Step κ a0 lo st st'/\Up rk (arrOf st') lo (lo + n)) ?step ?fin ?init) ?post)
 case post =>
  rintro c st' ⟨rfl,S',hs'⟩
  exact wpS_pure (h st' S' hs')
 case init =>
  refine ⟨rfl,Step.refl O,fun i j hi hij hj=>?_⟩
  by_cases h1:ok=0
  ·obtain rfl:i=j:=by omega
   exact Int.le_refl _
  ·exact hs i j hi hij (by omega)
 case fin =>
  rintro c st' ⟨hc,S',hs'⟩
  refine ⟨hc,S',?_⟩
  rwa [show min (max (max ok 1) n) n=n by omega] at hs'
 case step =>
  rintro k c st' hak hkn ⟨rfl,S',hs'⟩
  rw [show min k n=k by omega] at hs'
  have O':=S'.ok
  have hk:lo + k < a0.size:=by omega
  refine wpS_bind (wpS_mono (wpS_forRange (I:=fun x c st''=>st''=st'/\∃ l r,c=(none,l,r)/\l<=r/\r<=k/\r - l<=k - x /\
    (∀ i,i < l->Rk rk (arrOf st') (lo + i)<=Rk rk (arrOf st') (lo + k))/\(∀ i,r<=i->i < k->Rk rk (arrOf st') (lo + k) < Rk rk (arrOf st') (lo + i)))
   (Q:=fun c st''=>st''=st'/\∃ l r,c=(none,l,r)/\l<=k /\
    (∀ i,i < l->Rk rk (arrOf st') (lo + i)<=Rk rk (arrOf st') (lo + k))/\(∀ i,l<=i->i < k->Rk rk (arrOf st') (lo + k) < Rk rk (arrOf st') (lo + i))) ?istep ?ifin ?iinit) ?ipost)
  case iinit=>exact ⟨rfl,0,k,rfl,by omega,by omega,by omega,fun i hi=>by omega,fun i h1 h2=>by omega⟩
  case ifin =>
   rintro c st'' ⟨rfl,l,r,rfl,hlr,hrk,hm,hlo,hhi⟩
   obtain rfl:l=r:=by omega
   exact ⟨rfl,l,l,rfl,hrk,hlo,hhi⟩
  case istep =>
   rintro x c st'' _ hxk ⟨rfl,l,r,rfl,hlr,hrk,hm,hlo,hhi⟩
   dsimp only
   by_cases hge:l >= r
   ·rw [if_pos hge]
    obtain rfl:l=r:=by omega
    exact wpS_pure ⟨rfl,l,l,rfl,hrk,hlo,hhi⟩
   ·rw [if_neg hge]
    refine wpS_bind (s_ltAt T O' hk (by omega) ?_)
    by_cases hless:Rk rk (arrOf st'') (lo + k) < Rk rk (arrOf st'') (lo + (l + r) / 2)
    ·simp only [hless,decide_true,if_true]
     refine wpS_pure ⟨rfl,l,(l + r) / 2,rfl,by omega,by omega,by omega,hlo,fun i h1 h2=>?_⟩
     exact Int.lt_of_lt_of_le hless (hs' _ _ (by omega) (by omega) (by omega))
    ·simp only [hless,decide_false,Bool.false_eq_true,if_false]
     refine wpS_pure ⟨rfl,(l + r) / 2 + 1,r,rfl,by omega,by omega,by omega,fun i h1=>?_,hhi⟩
     exact Int.le_trans (hs' (lo + i) (lo + (l + r) / 2) (by omega) (by omega) (by omega)) (Int.not_lt.mp hless)
  case ipost =>
   rintro c st'' ⟨rfl,l,r,rfl,hlk,hlo,hhi⟩
   show wpS _ _ _ _ (do moveDown' (lo + k) (lo + l); pure (ForInStep.yield (none,()))) _ _
   rw [moveDown'_eq]
   have hks:lo + k < (arrOf st'').size:=by
    rw [O'.size]
    exact hk
   refine wpS_bind (wpS_modify (wpS_pure ⟨rfl,⟨⟨(bubble_perm _ _ _).trans O'.perm,O'.kind,O'.good⟩,S'.pend,fun i hi=>?_⟩,?_⟩))
   ·show (bubble (arrOf st'') (lo + k) (lo + k - (lo + l)))[i]?=_
    rw [getElem?_bubble hks _ (by omega),if_neg (by omega),if_neg (by omega)]
    exact S'.low i hi
   ·rw [show min (k + 1) n=k + 1 by omega]
    intro i j hi hij hj
    show Rk rk (bubble (arrOf st'') (lo + k) (lo + k - (lo + l))) i<=Rk rk (bubble (arrOf st'') (lo + k) (lo + k - (lo + l))) j
    rw [Rk_bubble hks (by omega),Rk_bubble hks (by omega),show lo + k - (lo + k - (lo + l))=lo + l by omega]
    have up:∀ a b,lo<=a->a<=b->b < lo + k->Rk rk (arrOf st'') a<=Rk rk (arrOf st'') b:=hs'
    have low:∀ a,lo<=a->a < lo + l->Rk rk (arrOf st'') a<=Rk rk (arrOf st'') (lo + k):=fun a a1 a2=>by
     have:=hlo (a - lo) (by omega)
     rwa [show lo + (a - lo)=a by omega] at this
    have high:∀ a,lo + l<=a->a < lo + k->Rk rk (arrOf st'') (lo + k) < Rk rk (arrOf st'') a:=fun a a1 a2=>by
     have:=hhi (a - lo) (by omega) (by omega)
     rwa [show lo + (a - lo)=a by omega] at this
    repeat' split
    all_goals first
     | (exfalso; omega)
     | exact Int.le_refl _
     | exact low _ (by omega) (by omega)
     | exact Int.le_of_lt (high _ (by omega) (by omega))
     | exact up _ _ (by omega) (by omega) (by omega)
end
end GS
end L2
namespace L2
open PySem PySem.Spec PyProof.Rows PySem.W
namespace GS
noncomputable def gallop':Bool->Keyed->Array Keyed->Nat->Nat->Nat->StateT SortSt Sem (Option Nat):=sortPriv% PySem.Builtin.gallop
noncomputable def mergeLo':Array Keyed->Array Keyed->StateT SortSt Sem (Array Keyed):=sortPriv% PySem.Builtin.mergeLo
noncomputable def mergeHi':Array Keyed->Array Keyed->StateT SortSt Sem (Array Keyed):=sortPriv% PySem.Builtin.mergeHi
section
variable {prog:Program}{w:World}{A:Around}{E:Value->Shared->Prop}{s:Shared}{rk:Keyed->Int}{κ:SortKind}{a0:Array Keyed}
noncomputable def bey (rk:Keyed->Int)(left:Bool)(key x:Keyed):Bool:=if left then decide (rk x < rk key) else !decide (rk key < rk x)
theorem s_gallop {st:SortSt}{left:Bool}{key:Keyed}{arr:Array Keyed}{base n hint:Nat}{Q:Option Nat->SortSt->Prop}(T:Tells prog w A s κ rk a0)(hk:kindOf st=κ)(hkey:key ∈ a0.toList)(b:Nat->Bool)
  (he:∀ i,i < n->∃ x,arr[base + i]?=some x/\x ∈ a0.toList/\b i=bey rk left key x) (mono:∀ i j,i<=j->j < n->b j=true->b i=true) (hh:hint < n)
  (h:∀ k,k<=n->(∀ i,i < k->b i=true)->(∀ i,k<=i->i < n->b i=false)->Q (some k) st):wpS (model prog w) A E s (gallop' left key arr base n hint) Q st:=by
 have one:∀ {i:Nat} {Q':Option Bool->SortSt->Prop},i < n->Q' (some (b i)) st->wpS (model prog w) A E s (do
   let x <- elem' arr (base + i)
   if left=true then lt' x key
    else do
     let r <- lt' key x
     pure (Option.map (fun x=>!x) r)) Q' st:=by
  intro i Q' hi hq
  obtain ⟨x,e1,e2,e3⟩:=he i hi
  refine wpS_bind (s_elem e1 ?_)
  unfold bey at e3
  cases left with
  | true =>
   rw [if_pos rfl] at e3 ⊢
   rw [e3] at hq
   exact s_lt T hk e2 hkey hq
  | false =>
   rw [if_neg Bool.false_ne_true] at e3 ⊢
   rw [e3] at hq
   exact wpS_bind (s_lt T hk hkey e2 (wpS_pure hq))
 have last:∀ {f:Nat->Option (Option Nat) × Nat × Nat->StateT SortSt Sem (ForInStep (Option (Option Nat) × Nat × Nat))} {g:Option (Option Nat) × Nat × Nat->StateT SortSt Sem (Option Nat)},
   (∀ x l r (R:ForInStep (Option (Option Nat) × Nat × Nat)->SortSt->Prop),l >= r->R (.done (none,l,r)) st->wpS (model prog w) A E s (f x (none,l,r)) R st) ->
   (∀ x l r (R:ForInStep (Option (Option Nat) × Nat × Nat)->SortSt->Prop),l < r->r<=n->R (.yield (if b (l + (r - l) / 2)=true then (none,l + (r - l) / 2 + 1,r) else (none,l,l + (r - l) / 2))) st->wpS (model prog w) A E s (f x (none,l,r)) R st) ->
   (∀ l r,Q (some r) st->wpS (model prog w) A E s (g (none,l,r)) Q st) ->
   ∀ (lo hi:Nat),lo<=hi->hi<=n->(∀ i,i < lo->b i=true)->(∀ i,hi<=i->i < n->b i=false)->wpS (model prog w) A E s (forIn [:n] ((none,lo,hi):Option (Option Nat) × Nat × Nat) f >>= g) Q st:=by
  intro f g f1 f2 g1 lo hi h1 h2 h3 h4
  refine wpS_bind (wpS_mono (wpS_forRange (I:=fun x c st'=>st'=st/\∃ l r,c=(none,l,r)/\l<=r/\r<=n/\r - l<=n - x/\(∀ i,i < l->b i=true)/\(∀ i,r<=i->i < n->b i=false))
   (Q:=fun c st'=>st'=st/\∃ l,c=(none,l,l)/\l<=n/\(∀ i,i < l->b i=true)/\(∀ i,l<=i->i < n->b i=false)) ?step ?fin ⟨rfl,lo,hi,rfl,h1,h2,by omega,h3,h4⟩) ?post)
  case fin =>
   rintro c st' ⟨rfl,l,r,rfl,a1,a2,a3,a4,a5⟩
   obtain rfl:l=r:=by omega
   exact ⟨rfl,l,rfl,a2,a4,a5⟩
  case post =>
   rintro c st' ⟨rfl,l,rfl,a2,a4,a5⟩
   exact g1 l l (h l a2 a4 a5)
  case step =>
   rintro x c st' _ hx ⟨rfl,l,r,rfl,a1,a2,a3,a4,a5⟩
   by_cases hge:l >= r
   ·obtain rfl:l=r:=by omega
    exact f1 x l l _ hge ⟨rfl,l,rfl,a2,a4,a5⟩
   ·refine f2 x l r _ (by omega) a2 ?_
    cases hb:b (l + (r - l) / 2) with
    | true =>
     rw [if_pos rfl]
     exact ⟨rfl,l + (r - l) / 2 + 1,r,rfl,by omega,a2,by omega,fun i hi=>mono i _ (by omega) (by omega) hb,a5⟩
    | false =>
     rw [if_neg Bool.false_ne_true]
     refine ⟨rfl,l,l + (r - l) / 2,rfl,by omega,by omega,by omega,a4,fun i i1 i2=>?_⟩
     cases hbi:b i with
     | false=>rfl
     | true =>
      have:=mono _ i i1 i2 hbi
      rw [hb] at this
      cases this
 refine wpS_bind (one hh ?_)
 dsimp only
 cases hb:b hint with
 | true =>
  rw [if_pos rfl]
  refine wpS_bind (wpS_mono (wpS_forRange (I:=fun x c st'=>st'=st/\∃ l o,c=(none,l,o)/\l < o/\hint + l < n/\b (hint + l)=true/\x + 1<=o)
   (Q:=fun c st'=>st'=st/\∃ l o,c=(none,l,o)/\l < o/\hint + l < n/\b (hint + l)=true/\(o >= n - hint\/(hint + o < n/\b (hint + o)=false))) ?step ?fin ⟨rfl,0,1,rfl,by omega,hh,hb,by omega⟩) ?post)
  case fin =>
   rintro c st' ⟨rfl,l,o,rfl,a1,a2,a3,a4⟩
   exact ⟨rfl,l,o,rfl,a1,a2,a3,.inl (by omega)⟩
  case step =>
   rintro x c st' _ hx ⟨rfl,l,o,rfl,a1,a2,a3,a4⟩
   dsimp only
   by_cases hge:o >= n - hint
   ·rw [if_pos hge]
    exact wpS_pure ⟨rfl,l,o,rfl,a1,a2,a3,.inl hge⟩
   ·rw [if_neg hge]
    refine wpS_bind (one (by omega) ?_)
    dsimp only
    cases hbo:b (hint + o) with
    | false =>
     rw [if_pos (by decide)]
     exact wpS_pure ⟨rfl,l,o,rfl,a1,a2,a3,.inr ⟨by omega,hbo⟩⟩
    | true =>
     rw [if_neg (by decide)]
     exact wpS_pure ⟨rfl,o,2 * o + 1,rfl,by omega,by omega,hbo,by omega⟩
  case post =>
   rintro c st' ⟨rfl,l,o,rfl,a1,a2,a3,a4⟩
   refine last (fun x l r R hge hR=>?_) (fun x l r R hlt hr hR=>?_) (fun l r hq=>wpS_pure hq) (hint + l + 1) (hint + min o (n - hint)) (by omega) (by omega) (fun i hi=>mono i (hint + l) (by omega) a2 a3) fun i i1 i2=>?_
   ·dsimp only
    rw [if_pos hge]
    exact wpS_pure hR
   ·dsimp only
    rw [if_neg (by omega)]
    refine wpS_bind (one (by omega) ?_)
    dsimp only
    cases hbm:b (l + (r - l) / 2) with
    | true =>
     rw [hbm,if_pos rfl] at hR
     rw [if_pos rfl]
     exact wpS_pure hR
    | false =>
     rw [hbm,if_neg Bool.false_ne_true] at hR
     rw [if_neg Bool.false_ne_true]
     exact wpS_pure hR
   ·rcases a4 with a4 | ⟨a4,a5⟩
    ·omega
    ·cases hbi:b i with
     | false=>rfl
     | true =>
      have:=mono _ i (show hint + o<=i by omega) i2 hbi
      rw [a5] at this
      cases this
 | false =>
  rw [if_neg Bool.false_ne_true]
  refine wpS_bind (wpS_mono (wpS_forRange (I:=fun x c st'=>st'=st/\∃ l o,c=(none,l,o)/\l < o/\l<=hint/\b (hint - l)=false/\x + 1<=o)
   (Q:=fun c st'=>st'=st/\∃ l o,c=(none,l,o)/\l < o/\l<=hint/\b (hint - l)=false/\(o >= hint + 1\/(o<=hint/\b (hint - o)=true))) ?step ?fin ⟨rfl,0,1,rfl,by omega,by omega,hb,by omega⟩) ?post)
  case fin =>
   rintro c st' ⟨rfl,l,o,rfl,a1,a2,a3,a4⟩
   exact ⟨rfl,l,o,rfl,a1,a2,a3,.inl (by omega)⟩
  case step =>
   rintro x c st' _ hx ⟨rfl,l,o,rfl,a1,a2,a3,a4⟩
   dsimp only
   by_cases hge:o >= hint + 1
   ·rw [if_pos hge]
    exact wpS_pure ⟨rfl,l,o,rfl,a1,a2,a3,.inl hge⟩
   ·rw [if_neg hge]
    refine wpS_bind (one (by omega) ?_)
    dsimp only
    cases hbo:b (hint - o) with
    | true =>
     rw [if_pos rfl]
     exact wpS_pure ⟨rfl,l,o,rfl,a1,a2,a3,.inr ⟨by omega,hbo⟩⟩
    | false =>
     rw [if_neg (by decide)]
     exact wpS_pure ⟨rfl,o,2 * o + 1,rfl,by omega,by omega,hbo,by omega⟩
  case post =>
   rintro c st' ⟨rfl,l,o,rfl,a1,a2,a3,a4⟩
   refine last (fun x l r R hge hR=>?_) (fun x l r R hlt hr hR=>?_) (fun l r hq=>wpS_pure hq) (hint + 1 - min o (hint + 1)) (hint - l) (by omega) (by omega) (fun i hi=>?_) fun i i1 i2=>?_
   ·dsimp only
    rw [if_pos hge]
    exact wpS_pure hR
   ·dsimp only
    rw [if_neg (by omega)]
    refine wpS_bind (one (by omega) ?_)
    dsimp only
    cases hbm:b (l + (r - l) / 2) with
    | true =>
     rw [hbm,if_pos rfl] at hR
     rw [if_pos rfl]
     exact wpS_pure hR
    | false =>
     rw [hbm,if_neg Bool.false_ne_true] at hR
     rw [if_neg Bool.false_ne_true]
     exact wpS_pure hR
   ·rcases a4 with a4 | ⟨a4,a5⟩
    ·omega
    ·exact mono i (hint - o) (by omega) (by omega) a5
   ·cases hbi:b i with
    | false=>rfl
    | true =>
     have:=mono _ i i1 i2 hbi
     rw [a3] at this
     cases this
end
end GS
end L2
namespace L2
open PySem PySem.Spec PyProof.Rows PySem.W
namespace GS
structure MI (rk:Keyed->Int)(aL bL:List Keyed)(ia ib:Nat)(oL:List Keyed):Prop where
 perm:oL.Perm (aL.take ia++bL.take ib)
 srt:oL.Pairwise fun x y=>rk x<=rk y
 la:∀ x ∈ oL,∀ y ∈ aL.drop ia,rk x<=rk y
 lb:∀ x ∈ oL,∀ y ∈ bL.drop ib,rk x<=rk y
section
variable {rk:Keyed->Int}{aL bL oL:List Keyed}{ia ib:Nat}
theorem MI.swap (M:MI rk aL bL ia ib oL):MI rk bL aL ib ia oL:=⟨M.perm.trans List.perm_append_comm,M.srt,M.lb,M.la⟩
theorem take_more (l:List Keyed)(i k:Nat):l.take (i + k)=l.take i++(l.drop i).take k:=by
 rw [List.take_add]
theorem MI.takeA (M:MI rk aL bL ia ib oL)(sa:aL.Pairwise fun x y=>rk x<=rk y)(k:Nat)(h:∀ x ∈ (aL.drop ia).take k,∀ y ∈ bL.drop ib,rk x<=rk y):MI rk aL bL (ia + k) ib (oL++(aL.drop ia).take k):=by
 have sd:(aL.drop ia).Pairwise fun x y=>rk x<=rk y:=sa.sublist (List.drop_sublist _ _)
 have e2:(aL.drop ia).drop k=aL.drop (ia + k):=List.drop_drop
 refine ⟨?_,?_,fun x hx y hy=>?_,fun x hx y hy=>?_⟩
 ·rw [take_more,List.append_assoc]
  refine (M.perm.append_right _).trans ?_
  rw [List.append_assoc]
  exact List.Perm.append_left _ List.perm_append_comm
 ·rw [List.pairwise_append]
  exact ⟨M.srt,sd.sublist (List.take_sublist _ _),fun x hx y hy=>M.la x hx y (List.mem_of_mem_take hy)⟩
 ·rw [<- e2] at hy
  rcases List.mem_append.mp hx with hx | hx
  ·exact M.la x hx y (List.mem_of_mem_drop hy)
  ·have:=sd
   rw [<- List.take_append_drop k (aL.drop ia),List.pairwise_append] at this
   exact this.2.2 x hx y hy
 ·rcases List.mem_append.mp hx with hx | hx
  ·exact M.lb x hx y hy
  ·exact h x hx y hy
theorem MI.takeB (M:MI rk aL bL ia ib oL)(sb:bL.Pairwise fun x y=>rk x<=rk y)(k:Nat)(h:∀ x ∈ (bL.drop ib).take k,∀ y ∈ aL.drop ia,rk x<=rk y):MI rk aL bL ia (ib + k) (oL++(bL.drop ib).take k):=(M.swap.takeA sb k h).swap
noncomputable def Mg (rk:Keyed->Int)(aL bL oL:List Keyed):Prop:=oL.Perm (aL++bL)/\oL.Pairwise fun x y=>rk x<=rk y
theorem MI.all (M:MI rk aL bL ia ib oL)(ha:aL.length<=ia)(hb:bL.length<=ib):Mg rk aL bL oL:=by
 have:=M.perm
 rw [List.take_of_length_le ha,List.take_of_length_le hb] at this
 exact ⟨this,M.srt⟩
theorem MI.doneB (M:MI rk aL bL ia ib oL)(sa:aL.Pairwise fun x y=>rk x<=rk y)(hb:bL.length<=ib):Mg rk aL bL (oL++aL.drop ia):=by
 have:=M.takeA sa (aL.drop ia).length (fun x _ y hy=>by
  rw [List.drop_eq_nil_of_le hb] at hy
  cases hy)
 rw [List.take_length] at this
 exact this.all (by rw [List.length_drop]; omega) hb
theorem MI.lastA (M:MI rk aL bL ia ib oL)(sa:aL.Pairwise fun x y=>rk x<=rk y)(sb:bL.Pairwise fun x y=>rk x<=rk y)(h:∀ x ∈ bL,∀ y ∈ aL.drop ia,rk x<=rk y):Mg rk aL bL (oL++bL.drop ib++aL.drop ia):=by
 have M2:=M.takeB sb (bL.drop ib).length (fun x hx y hy=>h x (List.mem_of_mem_drop (List.mem_of_mem_take hx)) y hy)
 rw [List.take_length] at M2
 exact M2.doneB sa (by rw [List.length_drop]; omega)
theorem ext_toList (a:Array Keyed)(i j:Nat)(hj:i<=j):(a.extract i j).toList=(a.toList.drop i).take (j - i):=by
 rw [Array.toList_extract,List.extract_eq_take_drop]
theorem ext_end (a:Array Keyed)(i:Nat):(a.extract i a.size).toList=a.toList.drop i:=by
 rw [Array.toList_extract,List.extract_eq_take_drop,List.take_of_length_le]
 rw [List.length_drop,Array.length_toList]
 exact Nat.le_refl _
theorem one_at {a:Array Keyed}{i:Nat}{x:Keyed}(h:a[i]?=some x):(a.toList.drop i).take 1=[x]:=by
 have hi:i < a.toList.length:=by
  rw [Array.length_toList]
  exact (Array.getElem?_eq_some_iff.mp h).1
 rw [List.drop_eq_getElem_cons hi,List.take_succ_cons,List.take_zero]
 have:a.toList[i]?=some x:=by rw [Array.getElem?_toList]; exact h
 rw [List.getElem?_eq_getElem hi] at this
 rw [Option.some.inj this]
end
section
variable {prog:Program}{w:World}{A:Around}{E:Value->Shared->Prop}{s:Shared}{rk:Keyed->Int}{κ:SortKind}{a0:Array Keyed}
structure Kept (st st':SortSt):Prop where
 arr:arrOf st'=arrOf st
 kind:kindOf st'=kindOf st
 pend:pendingOf st'=pendingOf st
 bad:failedOf st'=failedOf st
noncomputable def setG':Nat->StateT SortSt Sem Unit:=sortPriv% PySem.Builtin.setMinGallop
theorem Kept.refl (st:SortSt):Kept st st:=⟨rfl,rfl,rfl,rfl⟩
theorem s_setG {st0 st:SortSt}{g:Nat}{Q:Unit->SortSt->Prop}(k:Kept st0 st)(h:∀ st',Kept st0 st'->Q () st'):wpS (model prog w) A E s (setG' g) Q st:=by
 have e:setG' g=modify fun c=>SortSt.mk' (kindOf c) (arrOf c) (pendingOf c) g (failedOf c):=rfl
 rw [e]
 exact wpS_modify (h _ ⟨k.arr,k.kind,k.pend,k.bad⟩)
theorem s_ite {α:Type}{c:Prop} [Decidable c]{x y:StateT SortSt Sem α}{Q:α->SortSt->Prop}{st:SortSt}(h1:c->wpS (model prog w) A E s x Q st)(h2:¬ c->wpS (model prog w) A E s y Q st):wpS (model prog w) A E s (if c then x else y) Q st:=by
 by_cases hc:c
 ·rw [if_pos hc]
  exact h1 hc
 ·rw [if_neg hc]
  exact h2 hc
theorem get_at {a:Array Keyed}{i:Nat}(h:i < a.size):∃ x,a[i]?=some x/\x ∈ a.toList:=⟨a[i],getElem?_pos a i h,by simp⟩
theorem head_le {a:Array Keyed}(sa:a.toList.Pairwise fun x y=>rk x<=rk y){i:Nat}{x:Keyed}(e:a[i]?=some x):∀ y ∈ a.toList.drop i,rk x<=rk y:=by
 have hi:i < a.toList.length:=by
  rw [Array.length_toList]
  exact (Array.getElem?_eq_some_iff.mp e).1
 have e':a.toList[i]?=some x:=by rw [Array.getElem?_toList]; exact e
 rw [List.getElem?_eq_getElem hi] at e'
 have ex:=Option.some.inj e'
 have sd:=sa.sublist (List.drop_sublist i a.toList)
 rw [List.drop_eq_getElem_cons hi,ex,List.pairwise_cons] at sd
 rw [List.drop_eq_getElem_cons hi,ex]
 intro y hy
 rcases List.mem_cons.mp hy with rfl | hy
 ·exact Int.le_refl _
 ·exact sd.1 y hy
theorem done_arr {a b out:Array Keyed}{ia ib:Nat}(M:MI rk a.toList b.toList ia ib out.toList)(sa:a.toList.Pairwise fun x y=>rk x<=rk y)(hb:b.size<=ib):Mg rk a.toList b.toList (out++a.extract ia a.size++b.extract ib b.size).toList:=by
 rw [Array.toList_append,Array.toList_append,ext_end,ext_end,List.drop_eq_nil_of_le (as:=b.toList) (by rw [Array.length_toList]; exact hb),List.append_nil]
 exact M.doneB sa (by rw [Array.length_toList]; exact hb)
theorem last_arr {a b out:Array Keyed}{ia ib:Nat}(M:MI rk a.toList b.toList ia ib out.toList)(sa:a.toList.Pairwise fun x y=>rk x<=rk y)(sb:b.toList.Pairwise fun x y=>rk x<=rk y)(hl:∀ x ∈ b.toList,∀ y,a[a.size - 1]?=some y->rk x<=rk y)(ha:ia + 1=a.size):Mg rk a.toList b.toList (out++b.extract ib b.size++a.extract ia a.size).toList:=by
 rw [Array.toList_append,Array.toList_append,ext_end,ext_end]
 refine M.lastA sa sb fun x hx y hy=>?_
 have hi:ia < a.toList.length:=by rw [Array.length_toList]; omega
 rw [List.drop_eq_getElem_cons hi,List.drop_eq_nil_of_le (by rw [Array.length_toList]; omega)] at hy
 have ey:y=a.toList[ia]:=by simpa using hy
 refine hl x hx y ?_
 rw [show a.size - 1=ia by omega,<- Array.getElem?_toList,List.getElem?_eq_getElem hi,ey]
theorem push_list (out:Array Keyed)(x:Keyed):(out.push x).toList=out.toList++[x]:=Array.toList_push ..
theorem MI.oneB {a b out:Array Keyed}{ia ib:Nat}{x:Keyed}(M:MI rk a.toList b.toList ia ib out.toList)(sb:b.toList.Pairwise fun x y=>rk x<=rk y)(e:b[ib]?=some x)(h:∀ y ∈ a.toList.drop ia,rk x<=rk y):MI rk a.toList b.toList ia (ib + 1) (out.push x).toList:=by
 rw [push_list,<- one_at e]
 refine M.takeB sb 1 fun z hz y hy=>?_
 rw [one_at e] at hz
 have ez:z=x:=by simpa using hz
 rw [ez]
 exact h y hy
theorem MI.oneA {a b out:Array Keyed}{ia ib:Nat}{x:Keyed}(M:MI rk a.toList b.toList ia ib out.toList)(sa:a.toList.Pairwise fun x y=>rk x<=rk y)(e:a[ia]?=some x)(h:∀ y ∈ b.toList.drop ib,rk x<=rk y):MI rk a.toList b.toList (ia + 1) ib (out.push x).toList:=(MI.oneB M.swap sa e h).swap
theorem MI.someA {a b out:Array Keyed}{ia ib k:Nat}{y:Keyed}(M:MI rk a.toList b.toList ia ib out.toList)(sa:a.toList.Pairwise fun x y=>rk x<=rk y)(sb:b.toList.Pairwise fun x y=>rk x<=rk y)(e:b[ib]?=some y)(h:∀ i x,i < k->a[ia + i]?=some x->rk x<=rk y):MI rk a.toList b.toList (ia + k) ib (out++a.extract ia (ia + k)).toList:=by
 rw [Array.toList_append,ext_toList _ _ _ (Nat.le_add_right _ _),Nat.add_sub_cancel_left]
 refine M.takeA sa k fun x hx z hz=>Int.le_trans ?_ (head_le sb e z hz)
 obtain ⟨i,hi,ex⟩:=List.getElem_of_mem hx
 have hik:i < k:=by
  rw [List.length_take] at hi
  omega
 refine h i x hik ?_
 have:((a.toList.drop ia).take k)[i]?=some x:=by rw [List.getElem?_eq_getElem hi,ex]
 rw [List.getElem?_take,if_pos hik,List.getElem?_drop,Array.getElem?_toList] at this
 exact this
theorem MI.someB {a b out:Array Keyed}{ia ib k:Nat}{y:Keyed}(M:MI rk a.toList b.toList ia ib out.toList)(sa:a.toList.Pairwise fun x y=>rk x<=rk y)(sb:b.toList.Pairwise fun x y=>rk x<=rk y)(e:a[ia]?=some y)(h:∀ i x,i < k->b[ib + i]?=some x->rk x<=rk y):MI rk a.toList b.toList ia (ib + k) (out++b.extract ib (ib + k)).toList:=(MI.someA M.swap sb sa e h).swap
end
end GS
end L2
namespace L2
open PySem PySem.Spec PyProof.Rows PySem.W
namespace GS
section
variable {prog:Program}{w:World}{A:Around}{E:Value->Shared->Prop}{s:Shared}{rk:Keyed->Int}{κ:SortKind}{a0:Array Keyed}
theorem s_gallopR {st:SortSt}{key:Keyed}{a:Array Keyed}{base n hint:Nat}{Q:Option Nat->SortSt->Prop}(T:Tells prog w A s κ rk a0)(hk:kindOf st=κ)(hkey:key ∈ a0.toList)(ma:∀ x ∈ a.toList,x ∈ a0.toList)(up:∀ i j x y,base<=i->i<=j->j < base + n->a[i]?=some x->a[j]?=some y->rk x<=rk y)(hn:base + n<=a.size)(hh:hint < n)
  (h:∀ k,k<=n->(∀ i x,i < k->a[base + i]?=some x->rk x<=rk key)->(∀ i x,k<=i->i < n->a[base + i]?=some x->rk key < rk x)->Q (some k) st):wpS (model prog w) A E s (gallop' false key a base n hint) Q st:=by
 have he:∀ i,i < n->∃ x,a[base + i]?=some x/\x ∈ a.toList:=fun i hi=>get_at (by omega)
 refine s_gallop T hk hkey (fun i=>match a[base + i]? with | some x=>bey rk false key x | none=>false) (fun i hi=>?_) (fun i j hij hj hb=>?_) hh fun k hk1 h1 h2=>h k hk1 (fun i x hi e=>?_) fun i x hi1 hi2 e=>?_
 ·obtain ⟨x,e,m⟩:=he i hi
  refine ⟨x,e,ma x m,?_⟩
  try dsimp only
  rw [e]
 ·obtain ⟨x,ex,_⟩:=he i (by omega)
  obtain ⟨y,ey,_⟩:=he j hj
  try dsimp only at hb ⊢
  rw [ey] at hb
  rw [ex]
  have:=up (base + i) (base + j) x y (by omega) (by omega) (by omega) ex ey
  unfold bey at hb ⊢
  simp only [Bool.false_eq_true,if_false,Bool.not_eq_true',decide_eq_false_iff_not] at hb ⊢
  omega
 ·have:=h1 i hi
  try dsimp only at this
  rw [e] at this
  unfold bey at this
  simp only [Bool.false_eq_true,if_false,Bool.not_eq_true',decide_eq_false_iff_not] at this
  omega
 ·have:=h2 i hi1 hi2
  try dsimp only at this
  rw [e] at this
  unfold bey at this
  simp only [Bool.false_eq_true,if_false,Bool.not_eq_false',decide_eq_true_eq] at this
  exact this
theorem s_gallopL {st:SortSt}{key:Keyed}{a:Array Keyed}{base n hint:Nat}{Q:Option Nat->SortSt->Prop}(T:Tells prog w A s κ rk a0)(hk:kindOf st=κ)(hkey:key ∈ a0.toList)(ma:∀ x ∈ a.toList,x ∈ a0.toList)(up:∀ i j x y,base<=i->i<=j->j < base + n->a[i]?=some x->a[j]?=some y->rk x<=rk y)(hn:base + n<=a.size)(hh:hint < n)
  (h:∀ k,k<=n->(∀ i x,i < k->a[base + i]?=some x->rk x < rk key)->(∀ i x,k<=i->i < n->a[base + i]?=some x->rk key<=rk x)->Q (some k) st):wpS (model prog w) A E s (gallop' true key a base n hint) Q st:=by
 have he:∀ i,i < n->∃ x,a[base + i]?=some x/\x ∈ a.toList:=fun i hi=>get_at (by omega)
 refine s_gallop T hk hkey (fun i=>match a[base + i]? with | some x=>bey rk true key x | none=>false) (fun i hi=>?_) (fun i j hij hj hb=>?_) hh fun k hk1 h1 h2=>h k hk1 (fun i x hi e=>?_) fun i x hi1 hi2 e=>?_
 ·obtain ⟨x,e,m⟩:=he i hi
  refine ⟨x,e,ma x m,?_⟩
  try dsimp only
  rw [e]
 ·obtain ⟨x,ex,_⟩:=he i (by omega)
  obtain ⟨y,ey,_⟩:=he j hj
  try dsimp only at hb ⊢
  rw [ey] at hb
  rw [ex]
  have:=up (base + i) (base + j) x y (by omega) (by omega) (by omega) ex ey
  unfold bey at hb ⊢
  simp only [if_true,decide_eq_true_eq] at hb ⊢
  omega
 ·have:=h1 i hi
  try dsimp only at this
  rw [e] at this
  unfold bey at this
  simp only [if_true,decide_eq_true_eq] at this
  exact this
 ·have:=h2 i hi1 hi2
  try dsimp only at this
  rw [e] at this
  unfold bey at this
  simp only [if_true,decide_eq_false_iff_not] at this
  omega
theorem up_at {a:Array Keyed}(sa:a.toList.Pairwise fun x y=>rk x<=rk y){i j:Nat}{x y:Keyed}(hij:i<=j)(ex:a[i]?=some x)(ey:a[j]?=some y):rk x<=rk y:=by
 refine head_le sa ex y ?_
 have hj:j < a.toList.length:=by
  rw [Array.length_toList]
  exact (Array.getElem?_eq_some_iff.mp ey).1
 refine List.mem_of_getElem? (i:=j - i) ?_
 rw [List.getElem?_drop,Array.getElem?_toList,show i + (j - i)=j by omega]
 exact ey
set_option maxHeartbeats 8000000 in
theorem via {P:Prop}(h:∀ G:Prop,(P->G)->G):P:=h P id
structure Key (P:Prop):Prop where
 get:P
theorem cut {P R:Prop}(k:P)(h:Key P->R):R:=h ⟨k⟩
theorem s_mergeLo {st0:SortSt}{a b:Array Keyed}{Q:Array Keyed->SortSt->Prop}(T:Tells prog w A s κ rk a0)(hk:kindOf st0=κ)(ma:∀ x ∈ a.toList,x ∈ a0.toList)(mb:∀ x ∈ b.toList,x ∈ a0.toList)(sa:a.toList.Pairwise fun x y=>rk x<=rk y)(sb:b.toList.Pairwise fun x y=>rk x<=rk y)
  (ha:0 < a.size) (hb:0 < b.size) (h0:∀ x y,b[0]?=some x->y ∈ a.toList->rk x<=rk y) (hl':∀ x ∈ b.toList,∀ y,a[a.size - 1]?=some y->rk x < rk y)
  (h:∀ out st',Kept st0 st'->Mg rk a.toList b.toList out.toList->Q out st'):wpS (model prog w) A E s (mergeLo' a b) Q st0:=by
 have hl:∀ x ∈ b.toList,∀ y,a[a.size - 1]?=some y->rk x<=rk y:=fun x hx y hy=>Int.le_of_lt (hl' x hx y hy)
 refine wpS_bind (wpS_lift (wpAny_rule ⟨rfl,?_⟩))
 obtain ⟨b0,eb0,_⟩:=get_at hb
 refine wpS_bind (s_elem eb0 ?_)
 have M0:MI rk a.toList b.toList 0 0 (#[]:Array Keyed).toList:=⟨by simp,List.Pairwise.nil,(fun x hx=>nomatch hx),(fun x hx=>nomatch hx)⟩
 have M1:MI rk a.toList b.toList 0 1 (#[b0]:Array Keyed).toList:=MI.oneB M0 sb eb0 fun y hy=>h0 b0 y eb0 (by simpa using hy)
 dsimp -zeta only
 refine s_ite (fun hc=>wpS_pure (h _ _ (Kept.refl _) (done_arr M1 sa (by rw [show 1=b.size by simpa using hc]; exact Nat.le_refl _)))) fun hc=>?_
 refine s_ite (fun hc2=>wpS_pure (h _ _ (Kept.refl _) (last_arr M1 sa sb hl (by simpa using hc2)))) fun hc2=>?_
 have hb2:1 < b.size:=by
  have:¬ 1=b.size:=by simpa using hc
  omega
 have ha2:0 + 1 < a.size:=by
  have:¬ 0 + 1=a.size:=by simpa using hc2
  omega
 refine wpS_bind (wpS_get ?_)
 refine wpS_bind (wpS_mono (wpS_forRange (I:=fun x c st'=>∃ out ia ib mg,c=(none,out,ia,ib,mg)/\MI rk a.toList b.toList ia ib out.toList/\ia + 1 < a.size/\ib < b.size/\x + 1<=ia + ib/\Kept st0 st')
  (Q:=fun c st'=>∃ res,c.1=some res/\Mg rk a.toList b.toList res.toList/\Kept st0 st') ?step ?fin ⟨_,0,1,_,rfl,M1,ha2,hb2,by omega,Kept.refl _⟩) ?post)
 case fin =>
  rintro c st' ⟨out,ia,ib,mg,rfl,M,h1,h2,h3,k⟩
  omega
 case post =>
  rintro ⟨c1,c2⟩ st' ⟨res,e,hM,k⟩
  dsimp only at e ⊢
  subst e
  exact wpS_pure (h _ _ k hM)
 case step =>
  intro x0 c st1 _ hx0 hI
  refine via fun G hG=>?_
  obtain ⟨out,ia,ib,mg,rfl,M,h1,h2,h3,k1⟩:=hI
  refine hG ?_
  clear hG
  have hk1:kindOf st1=κ:=k1.kind.trans hk
  dsimp -zeta only
  refine wpS_bind (wpS_mono (wpS_forRange (I:=fun x c st'=>st'=st1/\∃ out ia ib ac bc,c=(none,out,ia,ib,ac,bc)/\MI rk a.toList b.toList ia ib out.toList/\ia + 1 < a.size/\ib < b.size/\x0 + 1 + x<=ia + ib)
   (Q:=fun c st'=>st'=st1/\((∃ res,c.1=some res/\Mg rk a.toList b.toList res.toList)\/∃ out ia ib ac bc,c=(none,out,ia,ib,ac,bc)/\MI rk a.toList b.toList ia ib out.toList/\ia + 1 < a.size/\ib < b.size/\x0 + 2<=ia + ib)) ?step1 ?fin1 ⟨rfl,_,_,_,_,_,rfl,M,h1,h2,by omega⟩) ?post1)
  case fin1 =>
   rintro c st' ⟨rfl,out,ia,ib,ac,bc,rfl,M,h1,h2,h3⟩
   exact ⟨rfl,.inr ⟨out,ia,ib,ac,bc,rfl,M,h1,h2,by omega⟩⟩
  case step1 =>
   intro x c st' _ hx hI
   refine via fun G hG=>?_
   obtain ⟨rfl,out,ia,ib,ac,bc,rfl,M,h1,h2,h3⟩:=hI
   obtain ⟨y,ey,my⟩:=get_at h2
   obtain ⟨z,ez,mz⟩:=get_at (a:=a) (i:=ia) (by omega)
   refine hG ?_
   clear hG
   dsimp -zeta only
   refine wpS_bind (s_elem ey (wpS_bind (s_elem ez (wpS_bind (s_lt T hk1 (mb y my) (ma z mz) ?_)))))
   dsimp -zeta only
   refine s_ite (fun hlt=>?_) fun hlt=>?_
   ·have hlt':rk y < rk z:=of_decide_eq_true hlt
    have M2:=MI.oneB M sb ey fun v hv=>Int.le_trans (Int.le_of_lt hlt') (head_le sa ez v hv)
    refine wpS_bind (s_elem ey ?_)
    refine s_ite (fun he=>wpS_pure ⟨rfl,.inl ⟨_,rfl,done_arr M2 sa (by rw [show ib + 1=b.size by simpa using he]; exact Nat.le_refl _)⟩⟩) fun he=>?_
    have hb3:ib + 1 < b.size:=by
     have:¬ ib + 1=b.size:=by simpa using he
     omega
    exact s_ite (fun _=>wpS_pure ⟨rfl,.inr ⟨_,_,_,_,_,rfl,M2,h1,hb3,by omega⟩⟩) fun _=>wpS_pure ⟨rfl,_,_,_,_,_,rfl,M2,h1,hb3,by omega⟩
   ·have hlt':¬ rk y < rk z:=fun q=>hlt (decide_eq_true q)
    have M2:=MI.oneA M sa ez fun v hv=>Int.le_trans (Int.not_lt.mp hlt') (head_le sb ey v hv)
    refine wpS_bind (s_elem ez ?_)
    refine s_ite (fun he=>wpS_pure ⟨rfl,.inl ⟨_,rfl,last_arr M2 sa sb hl (by simpa using he)⟩⟩) fun he=>?_
    have ha3:ia + 1 + 1 < a.size:=by
     have:¬ ia + 1 + 1=a.size:=by simpa using he
     omega
    exact s_ite (fun _=>wpS_pure ⟨rfl,.inr ⟨_,_,_,_,_,rfl,M2,ha3,h2,by omega⟩⟩) fun _=>wpS_pure ⟨rfl,_,_,_,_,_,rfl,M2,ha3,h2,by omega⟩
  case post1 =>
   intro c st' hI
   refine via fun G hG=>?_
   rcases hI with ⟨rfl,hc1 | ⟨out,ia,ib,ac,bc,rfl,M,h1,h2,h3⟩⟩
   all_goals (refine hG ?_; clear hG)
   ·obtain ⟨res,e,hM⟩:=hc1
    obtain ⟨c1,c2⟩:=c
    dsimp only at e ⊢
    subst e
    exact wpS_pure ⟨res,rfl,hM,k1⟩
   dsimp -zeta only
   refine wpS_bind (wpS_lift (wpAny_rule ⟨rfl,?_⟩))
   refine wpS_bind (wpS_mono (wpS_forRange (I:=fun x c st2=>∃ out ia ib mg ac bc,c=(none,out,ia,ib,mg,ac,bc)/\MI rk a.toList b.toList ia ib out.toList/\ia + 1 < a.size/\ib < b.size/\x0 + 2<=ia + ib/\Kept st0 st2)
    (Q:=fun c st2=>(∃ res,c.1=some res/\Mg rk a.toList b.toList res.toList/\Kept st0 st2)\/∃ out ia ib mg ac bc,c=(none,out,ia,ib,mg,ac,bc)/\MI rk a.toList b.toList ia ib out.toList/\ia + 1 < a.size/\ib < b.size/\x0 + 2<=ia + ib/\Kept st0 st2) ?step2 ?fin2 ⟨_,_,_,_,_,_,rfl,M,h1,h2,h3,k1⟩) ?post2)
   case fin2 =>
    rintro c st2 hc
    exact .inr hc
   case post2 =>
    rintro c st2 (⟨res,e,hM,k2⟩ | ⟨out,ia,ib,mg,ac,bc,rfl,M,h1,h2,h3,k2⟩)
    ·obtain ⟨c1,c2⟩:=c
     dsimp only at e ⊢
     subst e
     exact wpS_pure ⟨res,rfl,hM,k2⟩
    ·dsimp -zeta only
     exact wpS_bind (s_setG k2 fun st3 k3=>wpS_pure ⟨_,_,_,_,rfl,M,h1,h2,by omega,k3⟩)
   case step2 =>
    intro x c st2 _ hx hI
    refine via fun G hG=>?_
    obtain ⟨out,ia,ib,mg,ac,bc,rfl,M,h1,h2,h3,k2⟩:=hI
    obtain ⟨y,ey,my⟩:=get_at h2
    refine hG ?_
    clear hG
    dsimp -zeta only
    refine' cut ?key1 fun key=>s_ite (fun hmg=>?a1) fun hmg=>?b1
    case a1 =>
     generalize mg - 1=mg1
     revert mg1
     exact key.get
    case b1=>exact key.get mg
    intro mg1
    dsimp -zeta only
    refine wpS_bind (s_setG k2 fun st3 k3=>?_)
    have hk3:kindOf st3=κ:=k3.kind.trans hk
    refine wpS_bind (s_elem ey (wpS_bind (s_gallopR T hk3 (mb y my) ma (fun i j u v _ hij _ eu ev=>up_at sa hij eu ev) (by omega) (by omega) fun k hk4 g1 g2=>?_)))
    dsimp -zeta only
    refine' cut ?key2 fun key=>s_ite (fun hk0=>?a2) fun hk0=>?b2
    case a2 =>
     have M2:=MI.someA M sa sb ey g1
     refine s_ite (fun he=>wpS_pure (.inl ⟨_,rfl,last_arr M2 sa sb hl (by simpa using he),k3⟩)) fun he=>?_
     have ne1:¬ ia + k + 1=a.size:=by simpa using he
     have kl:ia + k < a.size:=by
      refine Nat.lt_of_not_le fun hge=>?_
      obtain ⟨v,ev,mv⟩:=get_at (a:=a) (i:=a.size - 1) (by omega)
      have q1:=g1 (a.size - 1 - ia) v (by omega) (by rw [show ia + (a.size - 1 - ia)=a.size - 1 by omega]; exact ev)
      have q2:=hl' y my v ev
      omega
     refine s_ite (fun he2=>absurd (show ia + k=a.size by simpa using he2) (by omega)) fun he2=>?_
     have h1':ia + k + 1 < a.size:=by omega
     have h3':x0 + 2<=ia + k + ib:=by omega
     have g2':∀ z,a[ia + k]?=some z->rk y<=rk z:=fun z ez=>Int.le_of_lt (g2 k z (Nat.le_refl _) (by omega) ez)
     generalize out++a.extract ia (ia + k)=out1 at M2 ⊢
     generalize ia + k=ia1 at M2 h1' h3' g2' ⊢
     revert g2'; revert h3'; revert h1'; revert M2; revert ia1; revert out1
     exact key.get
    case b2=>exact key.get out ia M h1 h3 fun z ez=>Int.le_of_lt (g2 0 z (by omega) (by omega) (by simpa using ez))
    intro out1 ia1 M2 h1' h3' g2'
    refine via fun G hG=>?_
    obtain ⟨z,ez,mz⟩:=get_at (a:=a) (i:=ia1) (by omega)
    refine hG ?_
    clear hG
    have M3:=MI.oneB M2 sb ey fun v hv=>Int.le_trans (g2' z ez) (head_le sa ez v hv)
    refine wpS_bind (s_elem ey ?_)
    refine s_ite (fun he=>wpS_pure (.inl ⟨_,rfl,done_arr M3 sa (by rw [show ib + 1=b.size by simpa using he]; exact Nat.le_refl _),k3⟩)) fun he=>?_
    have hb3:ib + 1 < b.size:=by
     have:¬ ib + 1=b.size:=by simpa using he
     omega
    refine wpS_bind (s_elem ez (wpS_bind (s_gallopL T hk3 (ma z mz) mb (fun i j u v _ hij _ eu ev=>up_at sb hij eu ev) (by omega) (by omega) fun k' hk5 g3 g4=>?_)))
    dsimp -zeta only
    refine' cut ?key3 fun key=>s_ite (fun hk0'=>?a3) fun hk0'=>?b3
    case a3 =>
     have M4:=MI.someB M3 sa sb ez fun i u hi eu=>Int.le_of_lt (g3 i u hi eu)
     refine s_ite (fun he=>wpS_pure (.inl ⟨_,rfl,done_arr M4 sa (by rw [show ib + 1 + k'=b.size by simpa using he]; exact Nat.le_refl _),k3⟩)) fun he=>?_
     have hb4:ib + 1 + k' < b.size:=by
      have:¬ ib + 1 + k'=b.size:=by simpa using he
      omega
     have g4':∀ v,b[ib + 1 + k']?=some v->rk z<=rk v:=fun v ev=>g4 k' v (Nat.le_refl _) (by omega) ev
     have h3'':x0 + 2<=ia1 + (ib + 1 + k'):=by omega
     generalize out1.push y++b.extract (ib + 1) (ib + 1 + k')=out2 at M4 ⊢
     generalize ib + 1 + k'=ib1 at M4 hb4 g4' h3'' ⊢
     revert h3''; revert g4'; revert hb4; revert M4; revert ib1; revert out2
     exact key.get
    case b3=>exact key.get (out1.push y) (ib + 1) M3 hb3 (fun v ev=>g4 0 v (by omega) (by omega) (by simpa using ev)) (by omega)
    intro out2 ib1 M4 hb4 g4' h3''
    refine via fun G hG=>?_
    obtain ⟨v,ev,mv⟩:=get_at (a:=b) (i:=ib1) hb4
    refine hG ?_
    clear hG
    have M5:=MI.oneA M4 sa ez fun u hu=>Int.le_trans (g4' v ev) (head_le sb ev u hu)
    refine wpS_bind (s_elem ez ?_)
    refine s_ite (fun he=>wpS_pure (.inl ⟨_,rfl,last_arr M5 sa sb hl (by simpa using he),k3⟩)) fun he=>?_
    have ha3:ia1 + 1 + 1 < a.size:=by
     have:¬ ia1 + 1 + 1=a.size:=by simpa using he
     omega
    exact s_ite (fun _=>wpS_pure (.inr ⟨_,_,_,_,_,_,rfl,M5,ha3,hb4,by omega,k3⟩)) fun _=>wpS_pure ⟨_,_,_,_,_,_,rfl,M5,ha3,hb4,by omega,k3⟩
end
end GS
end L2
namespace L2
open PySem PySem.Spec PyProof.Rows PySem.W
namespace GS
noncomputable def neg (rk:Keyed->Int):Keyed->Int:=fun x=>- rk x
theorem rev_get {a:Array Keyed}{j:Nat}(h:j < a.size):a.reverse[j]?=a[a.size - 1 - j]?:=by
 rw [Array.getElem?_reverse h]
noncomputable def Hi (rk:Keyed->Int)(a b:Array Keyed)(na nb:Nat)(out:Array Keyed):Prop:=MI (neg rk) a.reverse.toList b.reverse.toList (a.size - na) (b.size - nb) out.toList
section
variable {rk:Keyed->Int}{a b out:Array Keyed}{na nb:Nat}
theorem neg_up (sa:a.toList.Pairwise fun x y=>rk x<=rk y):a.reverse.toList.Pairwise fun x y=>neg rk x<=neg rk y:=by
 rw [Array.toList_reverse,List.pairwise_reverse]
 exact sa.imp fun h=>Int.neg_le_neg h
theorem at_rev {i:Nat}{x:Keyed}(h1:1<=i)(h2:i<=a.size)(e:a[i - 1]?=some x):a.reverse[a.size - i]?=some x:=by
 rw [rev_get (by omega),show a.size - 1 - (a.size - i)=i - 1 by omega]
 exact e
theorem Hi.oneA {x y:Keyed}(M:Hi rk a b na nb out)(sa:a.toList.Pairwise fun x y=>rk x<=rk y)(sb:b.toList.Pairwise fun x y=>rk x<=rk y)(h1:1<=na)(h2:na<=a.size)(h3:1<=nb)(h4:nb<=b.size)(ex:a[na - 1]?=some x)(ey:b[nb - 1]?=some y)(h:rk y<=rk x):Hi rk a b (na - 1) nb (out.push x):=by
 have:=MI.oneA (rk:=neg rk) M (neg_up sa) (at_rev h1 h2 ex) fun v hv=>Int.le_trans (Int.neg_le_neg h) (head_le (neg_up sb) (at_rev h3 h4 ey) v hv)
 unfold Hi
 rw [show a.size - (na - 1)=a.size - na + 1 by omega]
 exact this
theorem Hi.oneB {x y:Keyed}(M:Hi rk a b na nb out)(sa:a.toList.Pairwise fun x y=>rk x<=rk y)(sb:b.toList.Pairwise fun x y=>rk x<=rk y)(h1:1<=na)(h2:na<=a.size)(h3:1<=nb)(h4:nb<=b.size)(ex:a[na - 1]?=some x)(ey:b[nb - 1]?=some y)(h:rk x<=rk y):Hi rk a b na (nb - 1) (out.push y):=by
 have:=MI.oneB (rk:=neg rk) M (neg_up sb) (at_rev h3 h4 ey) fun v hv=>Int.le_trans (Int.neg_le_neg h) (head_le (neg_up sa) (at_rev h1 h2 ex) v hv)
 unfold Hi
 rw [show b.size - (nb - 1)=b.size - nb + 1 by omega]
 exact this
theorem ext_rev {i j:Nat}(h1:i<=j)(h2:j<=a.size):(a.extract i j).reverse=a.reverse.extract (a.size - j) (a.size - j + (j - i)):=by
 apply Array.ext_getElem?
 intro k
 by_cases hk:k < j - i
 ·rw [Array.getElem?_reverse (by rw [Array.size_extract]; omega),Array.getElem?_extract,Array.getElem?_extract,Array.size_extract]
  rw [if_pos (by omega),if_pos (by rw [Array.size_reverse]; omega),rev_get (by omega)]
  congr 1
  omega
 ·rw [Array.getElem?_eq_none (by rw [Array.size_reverse,Array.size_extract]; omega),Array.getElem?_eq_none (by rw [Array.size_extract,Array.size_reverse]; omega)]
theorem Hi.someA {i:Nat}{y:Keyed}(M:Hi rk a b na nb out)(sa:a.toList.Pairwise fun x y=>rk x<=rk y)(sb:b.toList.Pairwise fun x y=>rk x<=rk y)(h1:i<=na)(h2:na<=a.size)(h3:1<=nb)(h4:nb<=b.size)(ey:b[nb - 1]?=some y)(h:∀ j x,i<=j->j < na->a[j]?=some x->rk y<=rk x):Hi rk a b i nb (out++(a.extract i na).reverse):=by
 have:=MI.someA (rk:=neg rk) (k:=na - i) M (neg_up sa) (neg_up sb) (at_rev h3 h4 ey) fun j x hj ex=>Int.neg_le_neg (h (na - 1 - j) x (by omega) (by omega) (by
  rw [rev_get (by omega)] at ex
  rw [<- ex]
  congr 1
  omega))
 unfold Hi
 rw [ext_rev h1 h2,show a.size - i=a.size - na + (na - i) by omega]
 exact this
theorem Hi.someB {i:Nat}{y:Keyed}(M:Hi rk a b na nb out)(sa:a.toList.Pairwise fun x y=>rk x<=rk y)(sb:b.toList.Pairwise fun x y=>rk x<=rk y)(h1:i<=nb)(h2:nb<=b.size)(h3:1<=na)(h4:na<=a.size)(ey:a[na - 1]?=some y)(h:∀ j x,i<=j->j < nb->b[j]?=some x->rk y<=rk x):Hi rk a b na i (out++(b.extract i nb).reverse):=(Hi.someA (a:=b) (b:=a) M.swap sb sa h1 h2 h3 h4 ey h).swap
theorem mg_rev {oL:List Keyed}(h:Mg (neg rk) b.reverse.toList a.reverse.toList oL):Mg rk a.toList b.toList oL.reverse:=by
 obtain ⟨p,q⟩:=h
 rw [Array.toList_reverse,Array.toList_reverse] at p
 refine ⟨?_,?_⟩
 ·refine (List.reverse_perm _).trans (p.trans (List.perm_append_comm.trans ?_))
  exact List.Perm.append (List.reverse_perm _) (List.reverse_perm _)
 ·rw [List.pairwise_reverse]
  refine q.imp fun {x y} h=>?_
  have h':- rk x<=- rk y:=h
  omega
theorem rev_end {i:Nat}(h:i<=a.size):(a.reverse.extract (a.size - i) a.reverse.size).toList.reverse=(a.extract 0 i).toList:=by
 rw [ext_end,Array.toList_reverse,ext_toList _ _ _ (Nat.zero_le _),List.drop_zero,Nat.sub_zero]
 have:=List.reverse_take (l:=a.toList) (i:=i)
 rw [Array.length_toList] at this
 rw [<- this,List.reverse_reverse]
theorem Hi.done (M:Hi rk a b 0 nb out)(sb:b.toList.Pairwise fun x y=>rk x<=rk y)(h:nb<=b.size):Mg rk a.toList b.toList (a.extract 0 0++b.extract 0 nb++out.reverse).toList:=by
 have h1:=done_arr (rk:=neg rk) (a:=b.reverse) (b:=a.reverse) M.swap (neg_up sb) (by rw [Array.size_reverse]; omega)
 have h2:=mg_rev h1
 rw [Array.toList_append,Array.toList_append,List.reverse_append,List.reverse_append,rev_end h] at h2
 have e0:=rev_end (a:=a) (i:=0) (Nat.zero_le _)
 rw [e0] at h2
 rw [Array.toList_append,Array.toList_append,Array.toList_reverse,List.append_assoc]
 exact h2
theorem Hi.first (M:Hi rk a b na 1 out)(sa:a.toList.Pairwise fun x y=>rk x<=rk y)(sb:b.toList.Pairwise fun x y=>rk x<=rk y)(hb:0 < b.size)(h:na<=a.size)(h0:∀ x y,b[0]?=some x->y ∈ a.toList->rk x < rk y):Mg rk a.toList b.toList (b.extract 0 1++a.extract 0 na++out.reverse).toList:=by
 have h1:=last_arr (rk:=neg rk) (a:=b.reverse) (b:=a.reverse) M.swap (neg_up sb) (neg_up sa) (fun x hx y ey=>by
  rw [Array.size_reverse,rev_get (by omega),show b.size - 1 - (b.size - 1)=0 by omega] at ey
  have hx':x ∈ a.toList:=by simpa using hx
  exact Int.neg_le_neg (Int.le_of_lt (h0 y x ey hx'))) (by rw [Array.size_reverse]; omega)
 have h2:=mg_rev h1
 rw [Array.toList_append,Array.toList_append,List.reverse_append,List.reverse_append,rev_end h,rev_end (by omega)] at h2
 rw [Array.toList_append,Array.toList_append,Array.toList_reverse,List.append_assoc]
 exact h2
end
section
variable {prog:Program}{w:World}{A:Around}{E:Value->Shared->Prop}{s:Shared}{rk:Keyed->Int}{κ:SortKind}{a0:Array Keyed}
set_option maxHeartbeats 8000000 in
theorem s_mergeHi {st0:SortSt}{a b:Array Keyed}{Q:Array Keyed->SortSt->Prop}(T:Tells prog w A s κ rk a0)(hk:kindOf st0=κ)(ma:∀ x ∈ a.toList,x ∈ a0.toList)(mb:∀ x ∈ b.toList,x ∈ a0.toList)(sa:a.toList.Pairwise fun x y=>rk x<=rk y)(sb:b.toList.Pairwise fun x y=>rk x<=rk y)
  (ha:0 < a.size) (hb:0 < b.size) (h0:∀ x y,b[0]?=some x->y ∈ a.toList->rk x < rk y) (hl:∀ x ∈ b.toList,∀ y,a[a.size - 1]?=some y->rk x < rk y)
  (h:∀ out st',Kept st0 st'->Mg rk a.toList b.toList out.toList->Q out st'):wpS (model prog w) A E s (mergeHi' a b) Q st0:=by
 refine wpS_bind (wpS_lift (wpAny_rule ⟨rfl,?_⟩))
 obtain ⟨z0,ez0,_⟩:=get_at (a:=a) (i:=a.size - 1) (by omega)
 obtain ⟨y0,ey0,my0⟩:=get_at (a:=b) (i:=b.size - 1) (by omega)
 refine wpS_bind (s_elem ez0 ?_)
 have M0:Hi rk a b a.size b.size #[]:=by
  unfold Hi
  rw [Nat.sub_self,Nat.sub_self]
  exact ⟨by simp,List.Pairwise.nil,(fun x hx=>nomatch hx),(fun x hx=>nomatch hx)⟩
 have M1:Hi rk a b (a.size - 1) b.size #[z0]:=M0.oneA sa sb (by omega) (Nat.le_refl _) (by omega) (Nat.le_refl _) ez0 ey0 (Int.le_of_lt (hl y0 my0 z0 ez0))
 dsimp -zeta only
 refine s_ite (fun hc=>wpS_pure (h _ _ (Kept.refl _) ?_)) fun hc=>?_
 ·have e:a.size - 1=0:=by simpa using hc
  rw [e] at M1 ⊢
  exact M1.done sb (Nat.le_refl _)
 refine s_ite (fun hc2=>wpS_pure (h _ _ (Kept.refl _) ?_)) fun hc2=>?_
 ·have e:b.size=1:=by simpa using hc2
  rw [e] at M1 ⊢
  exact M1.first sa sb hb (by omega) h0
 have ha2:1<=a.size - 1:=by
  have:¬ a.size - 1=0:=by simpa using hc
  omega
 have hb2:1 < b.size:=by
  have:¬ b.size=1:=by simpa using hc2
  omega
 refine wpS_bind (wpS_get ?_)
 refine wpS_bind (wpS_mono (wpS_forRange (I:=fun x c st'=>∃ na nb out mg,c=(none,na,nb,out,mg)/\Hi rk a b na nb out/\1<=na/\na < a.size/\1 < nb/\nb<=b.size/\na + nb + x + 1<=a.size + b.size/\Kept st0 st')
  (Q:=fun c st'=>∃ res,c.1=some res/\Mg rk a.toList b.toList res.toList/\Kept st0 st') ?step ?fin ⟨_,_,_,_,rfl,M1,ha2,by omega,hb2,Nat.le_refl _,by omega,Kept.refl _⟩) ?post)
 case fin =>
  rintro c st' ⟨na,nb,out,mg,rfl,M,h1,h2,h3,h4,h5,k⟩
  omega
 case post =>
  rintro ⟨c1,c2⟩ st' ⟨res,e,hM,k⟩
  dsimp only at e ⊢
  subst e
  exact wpS_pure (h _ _ k hM)
 case step =>
  intro x0 c st1 _ hx0 hI
  refine via fun G hG=>?_
  obtain ⟨na,nb,out,mg,rfl,M,h1,h2,h3,h4,h5,k1⟩:=hI
  refine hG ?_
  clear hG
  have hk1:kindOf st1=κ:=k1.kind.trans hk
  dsimp -zeta only
  refine wpS_bind (wpS_mono (wpS_forRange (I:=fun x c st'=>st'=st1/\∃ na nb out ac bc,c=(none,na,nb,out,ac,bc)/\Hi rk a b na nb out/\1<=na/\na < a.size/\1 < nb/\nb<=b.size/\na + nb + x0 + 1 + x<=a.size + b.size)
   (Q:=fun c st'=>st'=st1/\((∃ res,c.1=some res/\Mg rk a.toList b.toList res.toList)\/∃ na nb out ac bc,c=(none,na,nb,out,ac,bc)/\Hi rk a b na nb out/\1<=na/\na < a.size/\1 < nb/\nb<=b.size/\na + nb + x0 + 2<=a.size + b.size)) ?step1 ?fin1 ⟨rfl,_,_,_,_,_,rfl,M,h1,h2,h3,h4,by omega⟩) ?post1)
  case fin1 =>
   rintro c st' ⟨rfl,na,nb,out,ac,bc,rfl,M,h1,h2,h3,h4,h5⟩
   exact ⟨rfl,.inr ⟨na,nb,out,ac,bc,rfl,M,h1,h2,h3,h4,by omega⟩⟩
  case step1 =>
   intro x c st' _ hx hI
   refine via fun G hG=>?_
   obtain ⟨rfl,na,nb,out,ac,bc,rfl,M,h1,h2,h3,h4,h5⟩:=hI
   obtain ⟨y,ey,my⟩:=get_at (a:=b) (i:=nb - 1) (by omega)
   obtain ⟨z,ez,mz⟩:=get_at (a:=a) (i:=na - 1) (by omega)
   refine hG ?_
   clear hG
   dsimp -zeta only
   refine wpS_bind (s_elem ey (wpS_bind (s_elem ez (wpS_bind (s_lt T hk1 (mb y my) (ma z mz) ?_)))))
   dsimp -zeta only
   refine s_ite (fun hlt=>?_) fun hlt=>?_
   ·have hlt':rk y < rk z:=of_decide_eq_true hlt
    have M2:=M.oneA sa sb h1 (by omega) (by omega) h4 ez ey (Int.le_of_lt hlt')
    refine wpS_bind (s_elem ez ?_)
    refine s_ite (fun he=>wpS_pure ⟨rfl,.inl ⟨_,rfl,?_⟩⟩) fun he=>?_
    ·have e:na - 1=0:=by simpa using he
     rw [e] at M2 ⊢
     exact M2.done sb h4
    have hn:1<=na - 1:=by
     have:¬ na - 1=0:=by simpa using he
     omega
    exact s_ite (fun _=>wpS_pure ⟨rfl,.inr ⟨_,_,_,_,_,rfl,M2,hn,by omega,h3,h4,by omega⟩⟩) fun _=>wpS_pure ⟨rfl,_,_,_,_,_,rfl,M2,hn,by omega,h3,h4,by omega⟩
   ·have hlt':¬ rk y < rk z:=fun q=>hlt (decide_eq_true q)
    have M2:=M.oneB sa sb h1 (by omega) (by omega) h4 ez ey (Int.not_lt.mp hlt')
    refine wpS_bind (s_elem ey ?_)
    refine s_ite (fun he=>wpS_pure ⟨rfl,.inl ⟨_,rfl,?_⟩⟩) fun he=>?_
    ·have e:nb - 1=1:=by simpa using he
     rw [e] at M2 ⊢
     exact M2.first sa sb hb (by omega) h0
    have hn:1 < nb - 1:=by
     have:¬ nb - 1=1:=by simpa using he
     omega
    exact s_ite (fun _=>wpS_pure ⟨rfl,.inr ⟨_,_,_,_,_,rfl,M2,h1,h2,hn,by omega,by omega⟩⟩) fun _=>wpS_pure ⟨rfl,_,_,_,_,_,rfl,M2,h1,h2,hn,by omega,by omega⟩
  case post1 =>
   intro c st' hI
   refine via fun G hG=>?_
   rcases hI with ⟨rfl,hc1 | ⟨na,nb,out,ac,bc,rfl,M,h1,h2,h3,h4,h5⟩⟩
   all_goals (refine hG ?_; clear hG)
   ·obtain ⟨res,e,hM⟩:=hc1
    obtain ⟨c1,c2⟩:=c
    dsimp only at e ⊢
    subst e
    exact wpS_pure ⟨res,rfl,hM,k1⟩
   dsimp -zeta only
   refine wpS_bind (wpS_lift (wpAny_rule ⟨rfl,?_⟩))
   refine wpS_bind (wpS_mono (wpS_forRange (I:=fun x c st2=>∃ na nb out mg ac bc,c=(none,na,nb,out,mg,ac,bc)/\Hi rk a b na nb out/\1<=na/\na < a.size/\1 < nb/\nb<=b.size/\na + nb + x0 + 2<=a.size + b.size/\Kept st0 st2)
    (Q:=fun c st2=>(∃ res,c.1=some res/\Mg rk a.toList b.toList res.toList/\Kept st0 st2)\/∃ na nb out mg ac bc,c=(none,na,nb,out,mg,ac,bc)/\Hi rk a b na nb out/\1<=na/\na < a.size/\1 < nb/\nb<=b.size/\na + nb + x0 + 2<=a.size + b.size/\Kept st0 st2) ?step2 ?fin2 ⟨_,_,_,_,_,_,rfl,M,h1,h2,h3,h4,h5,k1⟩) ?post2)
   case fin2 =>
    rintro c st2 hc
    exact .inr hc
   case post2 =>
    rintro c st2 (⟨res,e,hM,k2⟩ | ⟨na,nb,out,mg,ac,bc,rfl,M,h1,h2,h3,h4,h5,k2⟩)
    ·obtain ⟨c1,c2⟩:=c
     dsimp only at e ⊢
     subst e
     exact wpS_pure ⟨res,rfl,hM,k2⟩
    ·dsimp -zeta only
     exact wpS_bind (s_setG k2 fun st3 k3=>wpS_pure ⟨_,_,_,_,rfl,M,h1,h2,h3,h4,by omega,k3⟩)
   case step2 =>
    intro x c st2 _ hx hI
    refine via fun G hG=>?_
    obtain ⟨na,nb,out,mg,ac,bc,rfl,M,h1,h2,h3,h4,h5,k2⟩:=hI
    obtain ⟨y,ey,my⟩:=get_at (a:=b) (i:=nb - 1) (by omega)
    refine hG ?_
    clear hG
    dsimp -zeta only
    refine' cut ?key1 fun key=>s_ite (fun hmg=>?a1) fun hmg=>?b1
    case a1 =>
     generalize mg - 1=mg1
     revert mg1
     exact key.get
    case b1=>exact key.get mg
    intro mg1
    dsimp -zeta only
    refine wpS_bind (s_setG k2 fun st3 k3=>?_)
    have hk3:kindOf st3=κ:=k3.kind.trans hk
    refine wpS_bind (s_elem ey (wpS_bind (s_gallopR T hk3 (mb y my) ma (fun i j u v _ hij _ eu ev=>up_at sa hij eu ev) (by omega) (by omega) fun k hk4 g1 g2=>?_)))
    dsimp -zeta only
    refine' cut ?key2 fun key=>s_ite (fun hk0=>?a2) fun hk0=>?b2
    case a2 =>
     have M2:=M.someA sa sb (i:=k) (by omega) (by omega) (by omega) h4 ey fun j u hj1 hj2 eu=>Int.le_of_lt (g2 j u hj1 hj2 (by simpa using eu))
     refine s_ite (fun he=>wpS_pure (.inl ⟨_,rfl,(by
      have e:k=0:=by simpa using he
      rw [e] at M2 ⊢
      exact M2.done sb h4),k3⟩)) fun he=>?_
     have h1':1<=k:=by
      have:¬ k=0:=by simpa using he
      omega
     have h2':k < a.size:=by omega
     have h5':k + nb + x0 + 2<=a.size + b.size:=by omega
     have g1':∀ z,a[k - 1]?=some z->rk z<=rk y:=fun z ez=>g1 (k - 1) z (by omega) (by simpa using ez)
     generalize out++(a.extract k na).reverse=out1 at M2 ⊢
     generalize na - k=kk
     generalize k=na1 at M2 h1' h2' h5' g1' ⊢
     revert g1'; revert h5'; revert h2'; revert h1'; revert M2; revert na1; revert kk; revert out1
     exact key.get
    case b2=>exact key.get out (na - k) na M h1 h2 h5 fun z ez=>g1 (na - 1) z (by omega) (by simpa using ez)
    intro out1 kk na1 M2 h1' h2' h5' g1'
    refine via fun G hG=>?_
    obtain ⟨z,ez,mz⟩:=get_at (a:=a) (i:=na1 - 1) (by omega)
    refine hG ?_
    clear hG
    have M3:=M2.oneB sa sb h1' (by omega) (by omega) h4 ez ey (g1' z ez)
    refine wpS_bind (s_elem ey ?_)
    refine s_ite (fun he=>wpS_pure (.inl ⟨_,rfl,(by
     have e:nb - 1=1:=by simpa using he
     rw [e] at M3 ⊢
     exact M3.first sa sb hb (by omega) h0),k3⟩)) fun he=>?_
    have hn:1 < nb - 1:=by
     have:¬ nb - 1=1:=by simpa using he
     omega
    refine wpS_bind (s_elem ez (wpS_bind (s_gallopL T hk3 (ma z mz) mb (fun i j u v _ hij _ eu ev=>up_at sb hij eu ev) (by omega) (by omega) fun k' hk5 g3 g4=>?_)))
    dsimp -zeta only
    refine' cut ?key3 fun key=>s_ite (fun hk0'=>?a3) fun hk0'=>?b3
    case a3 =>
     have M4:=M3.someB sa sb (i:=k') (by omega) (by omega) h1' (by omega) ez fun j u hj1 hj2 eu=>g4 j u hj1 hj2 (by simpa using eu)
     refine s_ite (fun he=>wpS_pure (.inl ⟨_,rfl,(by
      have e:k'=1:=by simpa using he
      rw [e] at M4 ⊢
      exact M4.first sa sb hb (by omega) h0),k3⟩)) fun he=>?_
     have k1':1<=k':=by
      refine Nat.one_le_iff_ne_zero.mpr fun hz=>?_
      obtain ⟨v,ev,mv⟩:=get_at (a:=b) (i:=0) hb
      have q1:=g4 0 v (by omega) (by omega) (by simpa using ev)
      have q2:=h0 v z ev mz
      omega
     refine s_ite (fun he2=>absurd (show k'=0 by simpa using he2) (by omega)) fun he2=>?_
     have hn':1 < k':=by
      have:¬ k'=1:=by simpa using he
      omega
     have hb':k'<=b.size:=by omega
     have h5'':na1 + k' + x0 + 2<=a.size + b.size:=by omega
     have g3':∀ v,b[k' - 1]?=some v->rk v<=rk z:=fun v ev=>Int.le_of_lt (g3 (k' - 1) v (by omega) (by simpa using ev))
     generalize out1.push y++(b.extract k' (nb - 1)).reverse=out2 at M4 ⊢
     generalize nb - 1 - k'=kk'
     generalize k'=nb1 at M4 hn' hb' h5'' g3' ⊢
     revert g3'; revert h5''; revert hb'; revert hn'; revert M4; revert nb1; revert kk'; revert out2
     exact key.get
    case b3=>exact key.get (out1.push y) (nb - 1 - k') (nb - 1) M3 hn (by omega) (by omega) fun v ev=>Int.le_of_lt (g3 (nb - 1 - 1) v (by omega) (by simpa using ev))
    intro out2 kk' nb1 M4 hn' hb' h5'' g3'
    obtain ⟨v,ev,mv⟩:=get_at (a:=b) (i:=nb1 - 1) (by omega)
    have M5:=M4.oneA sa sb h1' (by omega) (by omega) hb' ez ev (g3' v ev)
    refine wpS_bind (s_elem ez ?_)
    refine s_ite (fun he=>wpS_pure (.inl ⟨_,rfl,(by
     have e:na1 - 1=0:=by simpa using he
     rw [e] at M5 ⊢
     exact M5.done sb hb'),k3⟩)) fun he=>?_
    have hn2:1<=na1 - 1:=by
     have:¬ na1 - 1=0:=by simpa using he
     omega
    exact s_ite (fun _=>wpS_pure (.inr ⟨_,_,_,_,_,_,rfl,M5,hn2,by omega,hn',hb',by omega,k3⟩)) fun _=>wpS_pure ⟨_,_,_,_,_,_,rfl,M5,hn2,by omega,hn',hb',by omega,k3⟩
end
end GS
end L2
namespace L2
open PySem PySem.Spec PyProof.Rows PySem.W
namespace GS
theorem puts_size (sa:Nat):∀ (l:List Keyed) (j:Nat) (arr:Array Keyed),((l.zipIdx j).foldl (fun a (p:Keyed × Nat)=>a.setIfInBounds (sa + p.2) p.1) arr).size=arr.size
 | [],_,_=>rfl
 | x :: l,j,arr=>by
  rw [List.zipIdx_cons,List.foldl_cons,puts_size sa l (j + 1)]
  exact Array.size_setIfInBounds
theorem puts_at (sa:Nat):∀ (l:List Keyed) (j:Nat) (arr:Array Keyed) (i:Nat),sa + j + l.length<=arr.size->((l.zipIdx j).foldl (fun a (p:Keyed × Nat)=>a.setIfInBounds (sa + p.2) p.1) arr)[i]?=if sa + j<=i/\i < sa + j + l.length then l[i - (sa + j)]? else arr[i]?:=by
 intro l
 induction l with
 | nil =>
  intro j arr i h
  rw [if_neg (by simp only [List.length_nil]; omega)]
  rfl
 | cons x l ih =>
  intro j arr i h
  rw [List.length_cons] at h
  rw [List.zipIdx_cons,List.foldl_cons,ih (j + 1) _ i (by rw [Array.size_setIfInBounds]; omega),List.length_cons]
  by_cases h1:sa + (j + 1)<=i/\i < sa + (j + 1) + l.length
  ·rw [if_pos h1,if_pos (by omega),show i - (sa + j)=(i - (sa + (j + 1))) + 1 by omega,List.getElem?_cons_succ]
  ·rw [if_neg h1]
   by_cases h2:i=sa + j
   ·subst h2
    rw [if_pos (by omega),Nat.sub_self,List.getElem?_cons_zero]
    show (arr.setIfInBounds (sa + j) x)[sa + j]?=some x
    rw [Array.getElem?_setIfInBounds,if_pos rfl,if_pos (by omega)]
   ·rw [if_neg (by omega)]
    show (arr.setIfInBounds (sa + j) x)[i]?=arr[i]?
    rw [Array.getElem?_setIfInBounds,if_neg (fun e=>h2 e.symm)]
section
variable {prog:Program}{w:World}{A:Around}{E:Value->Shared->Prop}{s:Shared}{rk:Keyed->Int}{κ:SortKind}{a0:Array Keyed}
theorem up_get {xs:Array Keyed}{lo hi:Nat}(u:Up rk xs lo hi){i j:Nat}{x y:Keyed}(h1:lo<=i)(h2:i<=j)(h3:j < hi)(ex:xs[i]?=some x)(ey:xs[j]?=some y):rk x<=rk y:=by
 have:=u i j h1 h2 h3
 unfold Rk at this
 rw [ex,ey] at this
 exact this
theorem up_of {xs:Array Keyed}{lo hi:Nat}(hz:hi<=xs.size)(h:∀ i j x y,lo<=i->i<=j->j < hi->xs[i]?=some x->xs[j]?=some y->rk x<=rk y):Up rk xs lo hi:=fun i j h1 h2 h3=>by
 obtain ⟨x,ex,_⟩:=get_at (a:=xs) (i:=i) (by omega)
 obtain ⟨y,ey,_⟩:=get_at (a:=xs) (i:=j) (by omega)
 unfold Rk
 rw [ex,ey]
 exact h i j x y h1 h2 h3 ex ey
theorem mem_arr {xs:Array Keyed}{i:Nat}{x:Keyed}(e:xs[i]?=some x):x ∈ xs.toList:=List.mem_of_getElem? (by rw [Array.getElem?_toList]; exact e)
theorem ext_get {xs:Array Keyed}{i j k:Nat}(h1:i<=j)(h2:j<=xs.size)(hk:k < j - i):(xs.extract i j)[k]?=xs[i + k]?:=by
 rw [Array.getElem?_extract,if_pos (by omega)]
theorem ext_size {xs:Array Keyed}{i j:Nat}(h2:j<=xs.size):(xs.extract i j).size=j - i:=by
 rw [Array.size_extract]
 omega
theorem ext_up {xs:Array Keyed}{lo hi i j:Nat}(u:Up rk xs lo hi)(h1:lo<=i)(h2:j<=hi)(h3:j<=xs.size):(xs.extract i j).toList.Pairwise fun x y=>rk x<=rk y:=by
 rw [List.pairwise_iff_getElem]
 intro m n hm hn hmn
 rw [Array.length_toList,ext_size h3] at hm hn
 have em:=ext_get (xs:=xs) (i:=i) (j:=j) (k:=m) (by omega) h3 hm
 have en:=ext_get (xs:=xs) (i:=i) (j:=j) (k:=n) (by omega) h3 hn
 refine up_get u (i:=i + m) (j:=i + n) (by omega) (by omega) (by omega) ?_ ?_
 ·rw [<- em,Array.getElem_toList]
  exact getElem?_pos _ _ _
 ·rw [<- en,Array.getElem_toList]
  exact getElem?_pos _ _ _
theorem ext_mem {xs:Array Keyed}{i j:Nat}{x:Keyed}(h3:j<=xs.size)(h:x ∈ (xs.extract i j).toList):∃ k,i<=k/\k < j/\xs[k]?=some x:=by
 obtain ⟨k,hk,e⟩:=List.getElem_of_mem h
 rw [Array.length_toList,ext_size h3] at hk
 refine ⟨i + k,by omega,by omega,?_⟩
 rw [<- ext_get (xs:=xs) (i:=i) (j:=j) (by omega) h3 hk,<- e,Array.getElem_toList]
 exact getElem?_pos _ _ _
theorem s_set {st st1:SortSt}{Q:PUnit->SortSt->Prop}(h:∀ st2,st2=st1->Q ⟨⟩ st2):wpS (model prog w) A E s (set st1:StateT SortSt Sem PUnit) Q st:=by
 unfold wpS
 rw [StateT.run_set]
 exact wpAny_pure ⟨rfl,h _ rfl⟩
set_option maxHeartbeats 8000000 in
theorem s_mergeAt {st:SortSt}{i sa na p1 nb p2:Nat}{Q:Bool->SortSt->Prop}(T:Tells prog w A s κ rk a0)(O:Ok κ a0 st)(e1:(pendingOf st)[i]?=some (sa,na,p1))(e2:(pendingOf st)[i + 1]?=some (sa + na,nb,p2))(hna:1<=na)(hnb:1<=nb)(hz:sa + na + nb<=a0.size)(u1:Up rk (arrOf st) sa (sa + na))(u2:Up rk (arrOf st) (sa + na) (sa + na + nb))
  (h:∀ st',Ok κ a0 st'->pendingOf st'=((pendingOf st).setIfInBounds i (sa,na + nb,p1)).eraseIdxIfInBounds (i + 1)->Up rk (arrOf st') sa (sa + na + nb)->(∀ j:Nat,(j < sa\/sa + na + nb<=j)->(arrOf st')[j]?=(arrOf st)[j]?)->Q true st'):wpS (model prog w) A E s (mergeAt' i) Q st:=by
 have hsz:=O.size
 have mX:∀ x ∈ (arrOf st).toList,x ∈ a0.toList:=fun x hx=>(Array.perm_iff_toList_perm.mp O.perm).mem_iff.mp hx
 obtain ⟨b0,eb0,mb0⟩:=get_at (a:=arrOf st) (i:=sa + na) (by omega)
 refine wpS_bind (wpS_get ?_)
 rw [e1,e2]
 dsimp only
 refine wpS_bind (s_set fun st1 hst=>?_)
 have k1:kindOf st1=κ:=by rw [hst]; exact O.kind
 have ea:arrOf st1=arrOf st:=by rw [hst]
 have ep:pendingOf st1=((pendingOf st).setIfInBounds i (sa,na + nb,p1)).eraseIdxIfInBounds (i + 1):=by rw [hst]
 have ef:failedOf st1=none:=by rw [hst]; exact O.good
 have O1:Ok κ a0 st1:=⟨by rw [ea]; exact O.perm,k1,ef⟩
 refine wpS_bind (s_elem eb0 (wpS_bind (s_gallopR T k1 (mX b0 mb0) mX (fun p q u v h1 h2 h3 eu ev=>up_get u1 h1 h2 h3 eu ev) (by show sa + na<=(arrOf st).size; omega) (by omega) fun k hk g1 g2=>?_)))
 dsimp only
 refine s_ite (fun hc=>wpS_pure (h st1 O1 ep (up_of (by rw [ea]; omega) fun p q u v h1 h2 h3 eu ev=>?_) fun j _=>by rw [ea])) fun hc=>?_
 ·have ek:k=na:=by
   have:na - k=0:=by simpa using hc
   omega
  rw [ea] at eu ev
  by_cases c1:q < sa + na
  ·exact up_get u1 h1 h2 c1 eu ev
  ·by_cases c2:p < sa + na
   ·have q1:=g1 (p - sa) u (by omega) (by rw [show sa + (p - sa)=p by omega]; exact eu)
    have q2:=up_get u2 (Nat.le_refl _) (by omega) h3 eb0 ev
    omega
   ·exact up_get u2 (by omega) h2 h3 eu ev
 have hkn:k < na:=by
  have:¬ na - k=0:=by simpa using hc
  omega
 obtain ⟨al,eal,mal⟩:=get_at (a:=arrOf st) (i:=sa + k + (na - k) - 1) (by omega)
 have eal':(arrOf st)[sa + na - 1]?=some al:=by
  rw [<- eal]
  congr 1
  omega
 refine wpS_bind (s_elem eal (wpS_bind (s_gallopL T k1 (mX al mal) mX (fun p q u v h1 h2 h3 eu ev=>up_get u2 h1 h2 h3 eu ev) (by show sa + na + nb<=(arrOf st).size; omega) (by omega) fun k' hk' g3 g4=>?_)))
 dsimp only
 have b0a:rk b0 < rk al:=g2 (na - 1) al (by omega) (by omega) (by rw [show sa + (na - 1)=sa + na - 1 by omega]; exact eal')
 have k'1:1<=k':=by
  refine Nat.one_le_iff_ne_zero.mpr fun hz0=>?_
  have:=g4 0 b0 (by omega) (by omega) (by simpa using eb0)
  omega
 refine s_ite (fun hc=>absurd (show k'=0 by simpa using hc) (by omega)) fun _=>?_
 have X3:sa + na<=(arrOf st).size:=by omega
 have Y3:sa + na + k'<=(arrOf st).size:=by omega
 have xs:=ext_up (i:=sa + k) (j:=sa + na) u1 (by omega) (Nat.le_refl _) X3
 have ys:=ext_up (i:=sa + na) (j:=sa + na + k') u2 (Nat.le_refl _) (by omega) Y3
 have xm:∀ x ∈ ((arrOf st).extract (sa + k) (sa + na)).toList,x ∈ a0.toList:=fun x hx=>by
  obtain ⟨j,_,_,ej⟩:=ext_mem X3 hx
  exact mX x (mem_arr ej)
 have ym:∀ x ∈ ((arrOf st).extract (sa + na) (sa + na + k')).toList,x ∈ a0.toList:=fun x hx=>by
  obtain ⟨j,_,_,ej⟩:=ext_mem Y3 hx
  exact mX x (mem_arr ej)
 have xz:((arrOf st).extract (sa + k) (sa + na)).size=na - k:=by
  rw [ext_size X3]
  omega
 have yz:((arrOf st).extract (sa + na) (sa + na + k')).size=k':=by
  rw [ext_size Y3]
  omega
 have first:∀ x y,((arrOf st).extract (sa + na) (sa + na + k'))[0]?=some x->y ∈ ((arrOf st).extract (sa + k) (sa + na)).toList->rk x < rk y:=fun x y ex my=>by
  rw [ext_get (by omega) Y3 (by omega),Nat.add_zero,eb0] at ex
  cases ex
  obtain ⟨j,j1,j2,ej⟩:=ext_mem X3 my
  exact g2 (j - sa) y (by omega) (by omega) (by rw [show sa + (j - sa)=j by omega]; exact ej)
 have last:∀ x ∈ ((arrOf st).extract (sa + na) (sa + na + k')).toList,∀ y,((arrOf st).extract (sa + k) (sa + na))[((arrOf st).extract (sa + k) (sa + na)).size - 1]?=some y->rk x < rk y:=fun x mx y ey=>by
  rw [xz,ext_get (by omega) X3 (by omega),show sa + k + (na - k - 1)=sa + na - 1 by omega,eal'] at ey
  cases ey
  obtain ⟨j,j1,j2,ej⟩:=ext_mem Y3 mx
  exact g3 (j - (sa + na)) x (by omega) (by rw [show sa + na + (j - (sa + na))=j by omega]; exact ej)
 have tail:∀ (merged:Array Keyed) (st2:SortSt),Kept st1 st2->Mg rk ((arrOf st).extract (sa + k) (sa + na)).toList ((arrOf st).extract (sa + na) (sa + na + k')).toList merged.toList ->
   Q true (setArr st2 (merged.toList.zipIdx.foldl (fun a (p:Keyed × Nat)=>a.setIfInBounds (sa + k + p.2) p.1) (arrOf st2))):=fun merged st2 K2 hM=>by
  have ea2:arrOf st2=arrOf st:=K2.arr.trans ea
  have ml:merged.toList.length=na - k + k':=by
   rw [hM.1.length_eq,List.length_append,Array.length_toList,Array.length_toList,xz,yz]
  have at_:∀ j:Nat,(merged.toList.zipIdx.foldl (fun a (p:Keyed × Nat)=>a.setIfInBounds (sa + k + p.2) p.1) (arrOf st2))[j]?=if sa + k<=j/\j < sa + na + k' then merged.toList[j - (sa + k)]? else (arrOf st)[j]?:=fun j=>by
   have:=puts_at (sa + k) merged.toList 0 (arrOf st2) j (by rw [ea2,ml]; omega)
   rw [this,ea2,Nat.add_zero,ml]
   by_cases c:sa + k<=j/\j < sa + na + k'
   ·rw [if_pos c,if_pos (by omega)]
   ·rw [if_neg c,if_neg (by omega)]
  have zA:=puts_size (sa + k) merged.toList 0 (arrOf st2)
  generalize hN:merged.toList.zipIdx.foldl (fun a (p:Keyed × Nat)=>a.setIfInBounds (sa + k + p.2) p.1) (arrOf st2)=N at at_ zA ⊢
  have zN:N.size=a0.size:=by
   rw [zA,ea2,hsz]
  have nl:N.toList=(arrOf st).toList.take (sa + k)++merged.toList++(arrOf st).toList.drop (sa + na + k'):=by
   refine List.ext_getElem? fun j=>?_
   rw [Array.getElem?_toList,at_ j]
   by_cases c1:j < sa + k
   ·rw [if_neg (by omega),List.append_assoc,List.getElem?_append_left (by rw [List.length_take,Array.length_toList]; omega),List.getElem?_take,if_pos c1,Array.getElem?_toList]
   ·rw [List.append_assoc,List.getElem?_append_right (by rw [List.length_take,Array.length_toList]; omega),List.length_take,Array.length_toList,show min (sa + k) (arrOf st).size=sa + k by omega]
    by_cases c2:j < sa + na + k'
    ·rw [if_pos ⟨by omega,c2⟩,List.getElem?_append_left (by rw [ml]; omega)]
    ·rw [if_neg (by omega),List.getElem?_append_right (by rw [ml]; omega),List.getElem?_drop,Array.getElem?_toList,ml]
     congr 1
     omega
  have ol:(arrOf st).toList=(arrOf st).toList.take (sa + k)++(((arrOf st).extract (sa + k) (sa + na)).toList++((arrOf st).extract (sa + na) (sa + na + k')).toList)++(arrOf st).toList.drop (sa + na + k'):=by
   rw [ext_toList _ _ _ (by omega),ext_toList _ _ _ (by omega)]
   have d1:(arrOf st).toList.drop (sa + na)=((arrOf st).toList.drop (sa + k)).drop (na - k):=by
    rw [List.drop_drop]
    congr 1
    omega
   have d2:(arrOf st).toList.drop (sa + na + k')=((arrOf st).toList.drop (sa + na)).drop k':=by
    rw [List.drop_drop]
   rw [d2,show sa + na + k' - (sa + na)=k' by omega,List.append_assoc,List.append_assoc,List.take_append_drop,d1,show sa + na - (sa + k)=na - k by omega,List.take_append_drop,List.take_append_drop]
  refine h _ ⟨?_,K2.kind.trans k1,K2.bad.trans ef⟩ (K2.pend.trans ep) (up_of (by show _<=N.size; omega) fun p q u v h1 h2 h3 eu ev=>?_) fun j hj=>?_
  ·refine Array.Perm.trans ?_ O.perm
   rw [Array.perm_iff_toList_perm]
   show N.toList.Perm _
   have pm:=List.Perm.append_right ((arrOf st).toList.drop (sa + na + k')) (List.Perm.append_left ((arrOf st).toList.take (sa + k)) hM.1)
   rw [<- ol,<- nl] at pm
   exact pm
  ·have eu':N[p]?=some u:=eu
   have ev':N[q]?=some v:=ev
   rw [at_] at eu' ev'
   have mid:∀ {j:Nat} {x:Keyed},sa + k<=j->j < sa + na + k'->merged.toList[j - (sa + k)]?=some x->(∃ m,sa + k<=m/\m < sa + na/\(arrOf st)[m]?=some x)\/∃ m,sa + na<=m/\m < sa + na + k'/\(arrOf st)[m]?=some x:=fun _ _ e=>by
    rcases List.mem_append.mp (hM.1.mem_iff.mp (List.mem_of_getElem? e)) with z | z
    ·exact .inl (ext_mem X3 z)
    ·exact .inr (ext_mem Y3 z)
   by_cases c1:p < sa + k
   ·rw [if_neg (by omega)] at eu'
    by_cases c2:q < sa + k
    ·rw [if_neg (by omega)] at ev'
     exact up_get u1 h1 h2 (by omega) eu' ev'
    ·have low:∀ {m:Nat} {x:Keyed},sa + na<=m->m < sa + na + nb->(arrOf st)[m]?=some x->rk u<=rk x:=fun m1 m2 em=>by
      have q1:=g1 (p - sa) u (by omega) (by rw [show sa + (p - sa)=p by omega]; exact eu')
      exact Int.le_trans q1 (up_get u2 (Nat.le_refl _) m1 m2 eb0 em)
     by_cases c3:q < sa + na + k'
     ·rw [if_pos ⟨by omega,c3⟩] at ev'
      rcases mid (by omega) c3 ev' with ⟨m,m1,m2,em⟩ | ⟨m,m1,m2,em⟩
      ·exact up_get u1 h1 (by omega) m2 eu' em
      ·exact low m1 (by omega) em
     ·rw [if_neg (by omega)] at ev'
      exact low (by omega) h3 ev'
   ·by_cases c4:p < sa + na + k'
    ·rw [if_pos ⟨by omega,c4⟩] at eu'
     by_cases c3:q < sa + na + k'
     ·rw [if_pos ⟨by omega,c3⟩] at ev'
      by_cases epq:p=q
      ·subst epq
       rw [eu'] at ev'
       cases ev'
       exact Int.le_refl _
      ·have sp:=hM.2
       rw [List.pairwise_iff_getElem] at sp
       obtain ⟨a1,a2⟩:=List.getElem?_eq_some_iff.mp eu'
       obtain ⟨b1,b2⟩:=List.getElem?_eq_some_iff.mp ev'
       have:=sp _ _ a1 b1 (by omega)
       rw [a2,b2] at this
       exact this
     ·rw [if_neg (by omega)] at ev'
      have q4:=g4 (q - (sa + na)) v (by omega) (by omega) (by rw [show sa + na + (q - (sa + na))=q by omega]; exact ev')
      rcases mid (by omega) c4 eu' with ⟨m,m1,m2,em⟩ | ⟨m,m1,m2,em⟩
      ·exact Int.le_trans (up_get u1 (by omega) (by omega) (by omega) em eal') q4
      ·exact up_get u2 m1 (by omega) h3 em ev'
    ·rw [if_neg (by omega)] at eu' ev'
     exact up_get u2 (by omega) h2 h3 eu' ev'
  ·show N[j]?=_
   rw [at_,if_neg (by omega)]
 refine s_ite (fun _=>?_) fun _=>?_
 ·refine wpS_bind (s_mergeLo T k1 xm ym xs ys (Nat.lt_of_lt_of_eq (show 0 < na - k by omega) xz.symm) (Nat.lt_of_lt_of_eq (show 0 < k' by omega) yz.symm) (fun x y ex my=>Int.le_of_lt (first x y ex my)) last fun out st2 K2 hM=>?_)
  refine wpS_bind (wpS_modify (wpS_bind (wpS_get ?_)))
  rw [show (failedOf st2).isNone=true by rw [K2.bad,ef]; rfl]
  exact wpS_pure (tail out st2 K2 hM)
 ·refine wpS_bind (s_mergeHi T k1 xm ym xs ys (Nat.lt_of_lt_of_eq (show 0 < na - k by omega) xz.symm) (Nat.lt_of_lt_of_eq (show 0 < k' by omega) yz.symm) first last fun out st2 K2 hM=>?_)
  refine wpS_bind (wpS_modify (wpS_bind (wpS_get ?_)))
  rw [show (failedOf st2).isNone=true by rw [K2.bad,ef]; rfl]
  exact wpS_pure (tail out st2 K2 hM)
end
end GS
end L2
namespace L2
open PySem PySem.Spec PyProof.Rows PySem.W
namespace GS
noncomputable def Tiles:List (Nat × Nat × Nat)->Nat->Nat->Prop
 | [],s,e=>s=e
 | r :: l,s,e=>r.1=s/\1<=r.2.1/\Tiles l (s + r.2.1) e
theorem tiles_append:∀ {l1 l2:List (Nat × Nat × Nat)} {s e:Nat},Tiles (l1++l2) s e ↔ ∃ m,Tiles l1 s m/\Tiles l2 m e
 | [],l2,s,e=>⟨fun h=>⟨s,rfl,h⟩,fun ⟨m,h1,h2⟩=>by
  have e:s=m:=h1
  subst e
  exact h2⟩
 | r :: l1,l2,s,e=>by
  constructor
  ·rintro ⟨h1,h2,h3⟩
   obtain ⟨m,h4,h5⟩:=tiles_append.mp h3
   exact ⟨m,⟨h1,h2,h4⟩,h5⟩
  ·rintro ⟨m,⟨h1,h2,h3⟩,h4⟩
   exact ⟨h1,h2,tiles_append.mpr ⟨m,h3,h4⟩⟩
theorem tiles_le:∀ {l:List (Nat × Nat × Nat)} {s e:Nat},Tiles l s e->s<=e/\l.length + s<=e/\∀ r ∈ l,s<=r.1/\r.1 + r.2.1<=e
 | [],s,e,h=>by
  have e':s=e:=h
  subst e'
  exact ⟨Nat.le_refl _,by simp,fun r hr=>nomatch hr⟩
 | r :: l,s,e,⟨h1,h2,h3⟩=>by
  obtain ⟨a1,a2,a3⟩:=tiles_le h3
  refine ⟨by omega,by rw [List.length_cons]; omega,fun q hq=>?_⟩
  rcases List.mem_cons.mp hq with rfl | hq
  ·omega
  ·have:=a3 q hq
   omega
section
variable {prog:Program}{w:World}{A:Around}{E:Value->Shared->Prop}{s:Shared}{rk:Keyed->Int}{κ:SortKind}{a0:Array Keyed}
structure PI (rk:Keyed->Int)(κ:SortKind)(a0:Array Keyed)(lo:Nat)(st:SortSt):Prop where
 ok:Ok κ a0 st
 til:Tiles (pendingOf st).toList 0 lo
 up:∀ r ∈ (pendingOf st).toList,Up rk (arrOf st) r.1 (r.1 + r.2.1)
theorem up_same {xs ys:Array Keyed}{lo hi:Nat}(u:Up rk xs lo hi)(h:∀ j:Nat,lo<=j->j < hi->ys[j]?=xs[j]?):Up rk ys lo hi:=fun i j h1 h2 h3=>by
 rw [Rk_congr (h i h1 (by omega)),Rk_congr (h j (by omega) h3)]
 exact u i j h1 h2 h3
theorem two_at {p:List (Nat × Nat × Nat)}{i:Nat}(h:i + 1 < p.length):∃ l1 r1 r2 l2,p=l1++r1 :: r2 :: l2/\l1.length=i/\p[i]?=some r1/\p[i + 1]?=some r2:=by
 refine ⟨p.take i,p[i],p[i + 1],p.drop (i + 2),?_,by rw [List.length_take]; omega,List.getElem?_eq_getElem (by omega),List.getElem?_eq_getElem h⟩
 rw [<- List.drop_eq_getElem_cons h,<- List.drop_eq_getElem_cons (by omega),List.take_append_drop]
theorem s_mergeP {st:SortSt}{lo i:Nat}{Q:Bool->SortSt->Prop}(T:Tells prog w A s κ rk a0)(P:PI rk κ a0 lo st)(hi:i + 1 < (pendingOf st).size)(hlo:lo<=a0.size)
  (h:∀ st',PI rk κ a0 lo st'->(pendingOf st').size + 1=(pendingOf st).size->(∀ j:Nat,lo<=j->(arrOf st')[j]?=(arrOf st)[j]?)->Q true st'):wpS (model prog w) A E s (mergeAt' i) Q st:=by
 obtain ⟨l1,⟨sa,na,p1⟩,⟨sb,nb,p2⟩,l2,ep,el,e1,e2⟩:=two_at (p:=(pendingOf st).toList) (i:=i) (by rw [Array.length_toList]; exact hi)
 have til:=P.til
 rw [ep] at til
 obtain ⟨m,t1,⟨a1,a2,a3,a4,a5⟩⟩:=tiles_append.mp til
 dsimp only at a1 a2 a3 a4 a5
 subst a1
 subst a3
 rw [Array.getElem?_toList] at e1 e2
 have u1:=P.up (sa,na,p1) (by rw [ep]; simp)
 have u2:=P.up (sa + na,nb,p2) (by rw [ep]; simp)
 dsimp only at u1 u2
 obtain ⟨b1,b2,b3⟩:=tiles_le a5
 obtain ⟨c1,c2,c3⟩:=tiles_le t1
 refine s_mergeAt T P.ok e1 e2 a2 a4 (by omega) u1 u2 fun st' O' ep' up' out'=>?_
 have el':(pendingOf st').toList=l1++(sa,na + nb,p1) :: l2:=by
  rw [ep',Array.toList_eraseIdxIfInBounds,Array.toList_setIfInBounds,ep,<- el]
  rw [List.set_append_right _ _ (Nat.le_refl _),Nat.sub_self,List.set_cons_zero,List.eraseIdx_append_of_length_le (by omega),show l1.length + 1 - l1.length=1 by omega]
  rfl
 refine h st' ⟨O',?_,fun r hr=>?_⟩ ?_ fun j hj=>out' j (by omega)
 ·rw [el']
  exact tiles_append.mpr ⟨sa,t1,rfl,by show 1<=na + nb; omega,by rw [show sa + (na + nb)=sa + na + nb by omega]; exact a5⟩
 ·rw [el'] at hr
  rcases List.mem_append.mp hr with hr | hr
  ·have:=c3 r hr
   exact up_same (P.up r (by rw [ep]; exact List.mem_append_left _ hr)) fun j h1 h2=>out' j (by omega)
  ·rcases List.mem_cons.mp hr with rfl | hr
   ·show Up rk (arrOf st') sa (sa + (na + nb))
    rw [show sa + (na + nb)=sa + na + nb by omega]
    exact up'
   ·have:=b3 r hr
    exact up_same (P.up r (by rw [ep]; simp [hr])) fun j h1 h2=>out' j (by omega)
 ·rw [<- Array.length_toList,el',<- Array.length_toList,ep]
  simp only [List.length_append,List.length_cons]
  omega
theorem PI.step {lo lo':Nat}{st st':SortSt}(P:PI rk κ a0 lo st)(S:Step κ a0 lo' st st')(h:lo<=lo'):PI rk κ a0 lo st':=by
 refine ⟨S.ok,by rw [S.pend]; exact P.til,fun r hr=>?_⟩
 rw [S.pend] at hr
 have:=(tiles_le P.til).2.2 r hr
 exact up_same (P.up r hr) fun j h1 h2=>S.low j (by omega)
theorem tiles_power (pw:Nat):∀ {l:List (Nat × Nat × Nat)} {k s e:Nat},Tiles l s e->Tiles (l.modify k fun r=>(r.1,r.2.1,pw)) s e
 | [],k,s,e,h=>by
  cases k <;> exact h
 | r :: l,0,s,e,⟨h1,h2,h3⟩=>⟨h1,h2,h3⟩
 | r :: l,k + 1,s,e,⟨h1,h2,h3⟩=>⟨h1,h2,tiles_power pw h3⟩
theorem mem_power {pw:Nat}:∀ {l:List (Nat × Nat × Nat)} {k:Nat} {r:Nat × Nat × Nat},r ∈ l.modify k (fun r=>(r.1,r.2.1,pw))->∃ q ∈ l,q.1=r.1/\q.2.1=r.2.1
 | [],k,r,h=>by
  cases k <;> cases h
 | q :: l,0,r,h=>by
  rcases List.mem_cons.mp h with rfl | h
  ·exact ⟨q,List.mem_cons_self,rfl,rfl⟩
  ·exact ⟨r,List.mem_cons_of_mem _ h,rfl,rfl⟩
 | q :: l,k + 1,r,h=>by
  rcases List.mem_cons.mp h with rfl | h
  ·exact ⟨r,List.mem_cons_self,rfl,rfl⟩
  ·obtain ⟨q',h1,h2⟩:=mem_power h
   exact ⟨q',List.mem_cons_of_mem _ h1,h2⟩
theorem ite_le (c:Prop) [Decidable c](n:Nat):(if c then n - 1 else n)<=n:=by
 split <;> omega
theorem s_sort {st:SortSt}{Q:Unit->SortSt->Prop}(T:Tells prog w A s κ rk a0)(O:Ok κ a0 st)(hp:pendingOf st=#[])(h:∀ st',Ok κ a0 st'->Up rk (arrOf st') 0 a0.size->Q () st'):wpS (model prog w) A E s sortRuns' Q st:=by
 rw [sortRuns'_eq]
 refine wpS_bind (wpS_get ?_)
 dsimp only
 rw [O.size]
 generalize minRun' a0.size a0.size 0=mr
 refine wpS_bind (wpS_mono (wpS_forRange (I:=fun x c st'=>∃ lo,c=(none,lo)/\PI rk κ a0 lo st'/\lo<=a0.size/\x<=lo)
  (Q:=fun c st'=>c=(none,a0.size)/\PI rk κ a0 a0.size st') ?step ?fin ⟨0,rfl,⟨O,by rw [hp]; rfl,fun r hr=>by rw [hp] at hr; cases hr⟩,Nat.zero_le _,Nat.le_refl _⟩) ?post)
 case fin =>
  rintro c st' ⟨lo,rfl,P,h1,h2⟩
  obtain rfl:lo=a0.size:=by omega
  exact ⟨rfl,P⟩
 case step =>
  rintro x c st1 _ hx ⟨lo,rfl,P,h1,h2⟩
  dsimp only
  refine s_ite (fun hge=>?_) fun hge=>?_
  ·obtain rfl:lo=a0.size:=by omega
   exact wpS_pure ⟨rfl,P⟩
  refine wpS_bind (s_run T P.ok (by omega) (by omega) fun m st2 S m1 m2 hu=>?_)
  dsimp only
  have P2:=P.step S (Nat.le_refl _)
  refine s_ite (fun hmr=>?_) fun hmr=>?_
  refine wpS_bind (wpS_lift (wpAny_rule ⟨rfl,?_⟩))
  refine wpS_bind (s_bin T S.ok (by omega) (by omega) hu fun st3 S3 hu3=>?_)
  rw [if_neg (by decide)]
  have P3:=P2.step S3 (Nat.le_refl _)
  have n1:1<=min (a0.size - lo) mr:=by omega
  have n2:lo + min (a0.size - lo) mr<=a0.size:=by omega
  clear P2 S3
  generalize min (a0.size - lo) mr=n at hu3 n1 n2 ⊢
  rotate_left
  have P3:=P2
  have hu3:=hu
  have n1:=m1
  have n2:lo + m<=a0.size:=by omega
  clear P2
  generalize m=n at hu3 n1 n2 ⊢
  generalize st2=st3 at P3 hu3 ⊢
  rotate_left
  all_goals
   refine wpS_bind (wpS_get ?_)
   have fin:∀ st4,PI rk κ a0 lo st4->Up rk (arrOf st4) lo (lo + n)->PI rk κ a0 (lo + n) (setPending st4 ((pendingOf st4).push (lo,n,0))):=fun st4 P4 u4=>by
    refine ⟨⟨P4.ok.perm,P4.ok.kind,P4.ok.good⟩,?_,fun r hr=>?_⟩
    ·show Tiles ((pendingOf st4).push (lo,n,0)).toList 0 (lo + n)
     rw [Array.toList_push]
     exact tiles_append.mpr ⟨lo,P4.til,rfl,n1,rfl⟩
    ·have hr':r ∈ ((pendingOf st4).push (lo,n,0)).toList:=hr
     rw [Array.toList_push] at hr'
     rcases List.mem_append.mp hr' with hr' | hr'
     ·exact P4.up r hr'
     ·have er:r=(lo,n,0):=by simpa using hr'
      subst er
      exact u4
   cases hbk:(pendingOf st3).back? with
   | none =>
    dsimp only
    exact wpS_bind (wpS_modify (wpS_pure ⟨lo + n,rfl,fin st3 P3 hu3,n2,by omega⟩))
   | some r =>
    obtain ⟨s1,k1,q1⟩:=r
    dsimp only
    generalize power' a0.size (2 * s1 + k1) (2 * s1 + k1 + k1 + n) a0.size=pw
    refine wpS_bind (wpS_mono (wpS_forRange (I:=fun _ c st4=>c=(none,())/\PI rk κ a0 lo st4/\Up rk (arrOf st4) lo (lo + n)) (Q:=fun c st4=>c=(none,())/\PI rk κ a0 lo st4/\Up rk (arrOf st4) lo (lo + n)) ?_ (fun _ _ hh=>hh) ⟨rfl,P3,hu3⟩) ?_)
    ·rintro y c st4 _ _ ⟨rfl,P4,u4⟩
     refine wpS_bind (wpS_get ?_)
     by_cases hz:(pendingOf st4).size > 1
     ·rw [if_pos hz,getElem?_pos (pendingOf st4) ((pendingOf st4).size - 2) (by omega)]
      generalize (pendingOf st4)[(pendingOf st4).size - 2]'(by omega)=r2
      obtain ⟨r2a,r2b,r2c⟩:=r2
      dsimp only
      refine s_ite (fun _=>wpS_pure ⟨rfl,P4,u4⟩) fun _=>?_
      refine wpS_bind (s_mergeP T P4 (by omega) h1 fun st5 P5 _ out5=>?_)
      rw [if_neg (by decide)]
      exact wpS_pure ⟨rfl,P5,up_same u4 fun j j1 _=>out5 j j1⟩
     ·rw [if_neg hz]
      exact wpS_pure ⟨rfl,P4,u4⟩
    ·rintro c st4 ⟨rfl,P4,u4⟩
     dsimp only
     refine wpS_bind (wpS_modify (wpS_bind (wpS_modify (wpS_pure ⟨lo + n,rfl,fin _ ⟨⟨P4.ok.perm,P4.ok.kind,P4.ok.good⟩,?_,fun r hr=>?_⟩ u4,n2,by omega⟩))))
     ·show Tiles ((pendingOf st4).modify ((pendingOf st4).size - 1) fun r=>(r.1,r.2.1,pw)).toList 0 lo
      rw [Array.toList_modify]
      exact tiles_power pw P4.til
     ·have hr':r ∈ ((pendingOf st4).modify ((pendingOf st4).size - 1) fun r=>(r.1,r.2.1,pw)).toList:=hr
      rw [Array.toList_modify] at hr'
      obtain ⟨q,hq,e1,e2⟩:=mem_power hr'
      have:=P4.up q hq
      rw [e1,e2] at this
      exact this
 case post =>
  rintro c st1 ⟨rfl,P⟩
  dsimp only
  have len0:=(tiles_le P.til).2.1
  rw [Array.length_toList] at len0
  refine wpS_bind (wpS_mono (wpS_forRange (I:=fun x c st2=>c=(none,())/\PI rk κ a0 a0.size st2/\((pendingOf st2).size + x<=a0.size\/(pendingOf st2).size<=1)) (Q:=fun c st2=>c=(none,())/\PI rk κ a0 a0.size st2/\(pendingOf st2).size<=1) ?step2 ?fin2 ⟨rfl,P,.inl (by omega)⟩) ?post2)
  case fin2 =>
   rintro c st2 ⟨rfl,P2,hz⟩
   exact ⟨rfl,P2,by omega⟩
  case step2 =>
   rintro x c st2 _ hx ⟨rfl,P2,hz⟩
   refine wpS_bind (wpS_get ?_)
   refine s_ite (fun h1=>wpS_pure ⟨rfl,P2,h1⟩) fun h1=>?_
   refine wpS_bind (s_mergeP T P2 ?_ (Nat.le_refl _) fun st3 P3 z3 _=>?_)
   ·exact Nat.lt_of_le_of_lt (Nat.add_le_add_right (ite_le _ _) 1) (show (pendingOf st2).size - 2 + 1 < (pendingOf st2).size by omega)
   ·rw [if_neg (by decide)]
    exact wpS_pure ⟨rfl,P3,by omega⟩
  case post2 =>
   rintro c st2 ⟨rfl,P2,hz⟩
   dsimp only
   refine wpS_pure (h st2 P2.ok ?_)
   have til:=P2.til
   have up:=P2.up
   have zl:(pendingOf st2).toList.length<=1:=by rw [Array.length_toList]; exact hz
   cases hl:(pendingOf st2).toList with
   | nil =>
    rw [hl] at til
    have e:0=a0.size:=til
    exact fun i j _ _ h3=>absurd h3 (by omega)
   | cons r l =>
    rw [hl] at til zl up
    obtain rfl:l=[]:=List.length_eq_zero_iff.mp (by rw [List.length_cons] at zl; omega)
    obtain ⟨t1,t2,t3⟩:=til
    have t3':0 + r.2.1=a0.size:=t3
    have u:=up r List.mem_cons_self
    rw [t1,t3'] at u
    exact u
end
end GS
end L2
namespace L2
open PySem PySem.Spec PyProof.Rows PySem.W
namespace GS
structure Wk {K:Type}(lt:K->K->Bool):Prop where
 tot:∀ x y,lt x y=true->lt y x=false
 tr:∀ x y z,lt y x=false->lt z y=false->lt z x=false
noncomputable def rkK {K:Type}(lt:K->K->Bool)(ks:List K)(k:K):Int:=((ks.countP fun q=>lt q k:Nat):Int)
theorem count_le {K:Type}{p q:K->Bool}:∀ {ks:List K},(∀ x ∈ ks,p x=true->q x=true)->ks.countP p<=ks.countP q
 | [],_=>Nat.le_refl _
 | x :: ks,h=>by
  have ih:=count_le (ks:=ks) fun y hy=>h y (List.mem_cons_of_mem _ hy)
  rw [List.countP_cons,List.countP_cons]
  have hx:=h x List.mem_cons_self
  by_cases c:p x=true
  ·rw [if_pos c,if_pos (hx c)]
   omega
  ·rw [if_neg c]
   omega
theorem count_lt {K:Type}{p q:K->Bool}{ks:List K}(h:∀ x ∈ ks,p x=true->q x=true)(hq:∃ x ∈ ks,p x=false/\q x=true):ks.countP p < ks.countP q:=by
 obtain ⟨y,hy,h1,h2⟩:=hq
 induction ks with
 | nil=>cases hy
 | cons x ks ih =>
  rw [List.countP_cons,List.countP_cons]
  have hx:=h x List.mem_cons_self
  rcases List.mem_cons.mp hy with rfl | hy
  ·have ih:=count_le (ks:=ks) fun y hy=>h y (List.mem_cons_of_mem _ hy)
   rw [h1,h2,if_neg Bool.false_ne_true,if_pos rfl]
   omega
  ·have ih:=ih (fun y hy=>h y (List.mem_cons_of_mem _ hy)) hy
   by_cases c:p x=true
   ·rw [if_pos c,if_pos (hx c)]
    omega
   ·rw [if_neg c]
    omega
theorem Wk.rank {K:Type}{lt:K->K->Bool}(W:Wk lt){ks:List K}{x y:K}(hx:x ∈ ks):lt x y=decide (rkK lt ks x < rkK lt ks y):=by
 unfold rkK
 cases h:lt x y with
 | true =>
  refine (decide_eq_true ?_).symm
  have:=count_lt (ks:=ks) (p:=fun q=>lt q x) (q:=fun q=>lt q y) (fun q _ hq=>?_) ⟨x,hx,?_,h⟩
  ·omega
  ·cases hc:lt q y with
   | true=>rfl
   | false =>
    have:=W.tr x y q (W.tot x y h) hc
    have hq':lt q x=true:=hq
    rw [this] at hq'
    cases hq'
  ·cases hc:lt x x with
   | false=>rfl
   | true=>exact hc.symm.trans (W.tot x x hc)
 | false =>
  refine (decide_eq_false ?_).symm
  have:=count_le (ks:=ks) (p:=fun q=>lt q y) (q:=fun q=>lt q x) fun q _ hq=>by
   cases hc:lt q x with
   | true=>rfl
   | false =>
    have:=W.tr y x q h hc
    have hq':lt q y=true:=hq
    rw [this] at hq'
    cases hq'
  omega
section
variable {prog:Program}{w:World}{A:Around}{E:Value->Shared->Prop}{s:Shared}
theorem srtG_list {a:Addr}{vs:List Value}{n:Nat}{P:PySem.Fin->Shared->Prop}(ho:s.heap.get? a=some (seqObj "list" vs.toArray n))(hz:vs.length<=sizeLine)(r:Value->Int)
  (hk:2<=vs.length->∀ s':Shared,(∀ b o,b ≠ a->s.heap.get? b=some o->s'.heap.get? b=some o)->wpAny (model prog w) A (keyKind' vs.toArray) (fun κ s2=>s2=s'/\Tells prog w A s' κ (fun p=>r p.1) (pairsOf vs)) (fun _ _=>False) s')
  (h:∀ (ws:List Value) (h':Heap) (c:Nat),ws.Perm vs->ws.Pairwise (fun x y=>r x<=r y)->(∀ b o,b ≠ a->s.heap.get? b=some o->h'.get? b=some o)->h'.get? a=some (seqObj "list" ws.toArray c)->P (.done (.ret .none)) { s with heap:=h' }) :
  wpAny (model prog w) A (Builtin.«list.sort» ⟨[.ref a],[]⟩) P E s:=by
 have lta:a < s.heap.objs.size:=Heap.lt_size ho
 have hu1:=get?_update_seq ho fun _=>(#[]:Array Value)
 generalize hX:s.heap.update a (Obj.mapSeq fun _=>(#[]:Array Value))=X1 at hu1
 have zX:X1.objs.size=s.heap.objs.size:=by rw [<- hX,Heap.size_update]
 have kX:∀ b o,b ≠ a->s.heap.get? b=some o->X1.get? b=some o:=fun b o hb e=>by
  rw [<- hX,Heap.get?_update_ne _ _ _ _ hb]
  exact e
 obtain ⟨e1,hu⟩:∃ e1,X1.get? a=some (seqObj "list" #[] e1):=⟨_,hu1⟩
 generalize hY:(X1.push (seqObj "tuple" vs.toArray 0)).push (seqObj "list" #[] 0)=Y
 have hYa:Y.get? a=some (seqObj "list" #[] e1):=by
  rw [<- hY]
  exact Heap.get?_push_of_some _ (Heap.get?_push_of_some _ hu)
 have kY:∀ b o,b ≠ a->s.heap.get? b=some o->Y.get? b=some o:=fun b o hb e=>by
  rw [<- hY]
  exact Heap.get?_push_of_some _ (Heap.get?_push_of_some _ (kX b o hb e))
 have last:∀ (st:SortSt),(((arrOf st).map (·.2)).toList.Perm vs)->(((arrOf st).map (·.2)).toList.Pairwise fun x y=>r x<=r y)->failedOf st=none ->
   wpAny (model prog w) A (do
    let touched:=(<- seqEpoch a) != e1
    Builtin.List.listUpdate (.ref a) fun _=>(arrOf st).map (·.2)
    if let some e:=failedOf st then rule "list.sort.comparison-raised"; throw e
    if touched then rule "list.sort.modified"; raiseError "ValueError" "list modified during sort"
    ret .none) P E { s with heap:=Y }:=by
  intro st hp hs hf
  generalize ew:(arrOf st).map (·.2)=wsA at hp hs
  rw [hf]
  have hlen:wsA.size=vs.length:=by rw [<- Array.length_toList,hp.length_eq]
  have hu2:=get?_update_seq hYa fun _=>wsA
  refine wpAny_bind (seqEpoch_at hYa rfl (wpAny_bind (listUpdate_at hYa rfl ?_ (Nat.zero_le _) (by rw [hlen]; omega))))
  simp only [bne_self_eq_false,Bool.false_eq_true,if_false]
  refine wpAny_pure (h wsA.toList _ _ hp hs (fun b o hb e=>?_) hu2)
  rw [Heap.get?_update_ne _ _ _ _ hb]
  exact kY b o hb e
 rw [list_sort_plain]
 refine wpAny_bind (listItems_at ho rfl (wpAny_bind (listUpdate_at ho rfl ?_ (by rw [List.size_toArray]; exact hz) (Nat.zero_le _))))
 rw [hX]
 refine wpAny_bind (seqEpoch_at hu rfl (wpAny_bind (wpAny_newTuple (wpAny_bind (wpAny_newList ?_ (Nat.zero_le _))) hz)))
 show wpAny (model prog w) A _ P E { s with heap:=(X1.push (seqObj "tuple" vs.toArray 0)).push (seqObj "list" #[] 0) }
 rw [hY]
 refine wpAny_holding ?_
 dsimp only
 have e2:((pairsOf vs).map (·.2)).toList=vs:=by
  rw [Array.toList_map,pairsOf_toList]
  exact List.map_snd_zip (Nat.le_refl _)
 by_cases c2:vs.toArray.size < 2
 ·have c2':vs.length < 2:=by rw [List.size_toArray] at c2; exact c2
  rw [if_pos c2,if_pos c2]
  refine wpAny_bind (wpAny_pure ?_)
  rw [StateT.run_pure]
  refine wpAny_bind (wpAny_pure ?_)
  refine last (SortSt.mk' general' (pairsOf vs) #[] 7 none) (by show ((pairsOf vs).map (·.2)).toList.Perm vs; rw [e2]) (by
   show ((pairsOf vs).map (·.2)).toList.Pairwise _
   rw [e2,List.pairwise_iff_getElem]
   intro i j hi hj hij
   omega) rfl
 ·have c2':2<=vs.length:=by rw [List.size_toArray] at c2; omega
  rw [if_neg c2,if_neg c2]
  refine wpAny_bind (wpAny_mono (hk c2' { s with heap:=Y } kY) (fun κ s2 ⟨e3,T⟩=>?_) fun _ _ x=>x.elim)
  subst e3
  have run:=s_sort (E:=E) (st:=SortSt.mk' κ (pairsOf vs) #[] 7 none) (Q:=fun _ st'=>(((arrOf st').map (·.2)).toList.Perm vs)/\(((arrOf st').map (·.2)).toList.Pairwise fun x y=>r x<=r y)/\failedOf st'=none) T ⟨Array.Perm.refl _,rfl,rfl⟩ rfl fun st' O hu=>?_
  ·unfold wpS at run
   refine wpAny_bind (wpAny_mono run ?_ fun _ _ z=>z)
   rintro ⟨⟨⟩,st'⟩ s' ⟨rfl,hp,hs,hf⟩
   exact last st' hp hs hf
  ·have pm:=Array.perm_iff_toList_perm.mp O.perm
   have same:∀ p ∈ (arrOf st').toList,p.1=p.2:=fun p hp=>by
    have:=pm.mem_iff.mp hp
    rw [pairsOf_toList] at this
    exact (mem_zip_self this).1
   refine ⟨?_,?_,O.good⟩
   ·have:=pm.map (·.2)
    rw [Array.toList_map]
    rw [pairsOf_toList,List.map_snd_zip (Nat.le_refl _)] at this
    exact this
   ·rw [Array.toList_map,List.pairwise_map,List.pairwise_iff_getElem]
    intro i j hi hj hij
    have zs:=O.size
    rw [Array.length_toList] at hi hj
    have u:=up_get hu (i:=i) (j:=j) (Nat.zero_le _) (by omega) (by omega) (getElem?_pos _ i hi) (getElem?_pos _ j hj)
    have s1:=same (arrOf st')[i] (by simp)
    have s2:=same (arrOf st')[j] (by simp)
    rw [Array.getElem_toList,Array.getElem_toList,<- s1,<- s2]
    exact u
theorem srtG_call {l:Addr}{vs:List Value}{Q:Value->Shared->Prop}(hl:s.heap.IsList l vs.toArray)(hz:vs.length<=sizeLine)(r:Value->Int)
  (hk:2<=vs.length->∀ s':Shared,(∀ b o,s.heap.get? b=some o->s'.heap.get? b=some o)->wpAny (model prog w) A.in1.in1 (keyKind' vs.toArray) (fun κ s2=>s2=s'/\Tells prog w A.in1.in1 s' κ (fun p=>r p.1) (pairsOf vs)) (fun _ _=>False) s')
  (h:∀ (ws:List Value) (h':Heap) (c:Nat),ws.Perm vs->ws.Pairwise (fun x y=>r x<=r y)->(∀ b o,s.heap.get? b=some o->h'.get? b=some o)->h'.get? (s.heap.objs.size + 1)=some (seqObj "list" ws.toArray c)->Q (.ref (s.heap.objs.size + 1)) { s with heap:=h' }) :
  wpAny (model prog w) A (call (.builtin "sorted") [.ref l]) Q E s:=by
 generalize hX:(s.heap.push (seqObj "list" #[] 0)).update s.heap.objs.size (Obj.mapSeq (·++vs.toArray))=X1
 have zX:X1.objs.size=s.heap.objs.size + 1:=by rw [<- hX,Heap.size_update,Heap.size_push]
 have kX:∀ b o,s.heap.get? b=some o->X1.get? b=some o:=fun b o e=>by
  have lt:=Heap.lt_size e
  rw [<- hX,Heap.get?_update_ne _ _ _ _ (Nat.ne_of_lt lt)]
  exact Heap.get?_push_of_some _ e
 apply Calls.call_function_entry kind_sorted plain_sorted entry_sorted (args_sorted1 _)
 unfold Builtin.«sorted»
 refine wpAny_bind (m:=checkCount "sorted" 1 1 _) (wpAny_pure (wpAny_bind (collect_list hl ?_ hz)))
 rw [hX]
 refine wpAny_bind (wpAny_newList ?_ hz)
 show wpAny _ _ _ _ _ { s with heap:=X1.push (seqObj "list" vs.toArray 0) }
 have hoL:(X1.push (seqObj "list" vs.toArray 0)).get? (s.heap.objs.size + 1)=some (seqObj "list" vs.toArray 0):=by
  rw [<- zX]
  exact Heap.get?_push_size _ rfl
 have kL:∀ b o,s.heap.get? b=some o->(X1.push (seqObj "list" vs.toArray 0)).get? b=some o:=fun b o e=>Heap.get?_push_of_some _ (kX b o e)
 have ne:∀ b o,s.heap.get? b=some o->b ≠ s.heap.objs.size + 1:=fun b o e=>Nat.ne_of_lt (Nat.lt_succ_of_lt (Heap.lt_size e))
 rw [zX]
 refine wpAny_bind (wpAny_holding (wpAny_call_entry slot_list_sort ⟨_,hoL,rfl⟩ entry_list_sort (srtG_list (s:={ s with heap:=X1.push (seqObj "list" vs.toArray 0) }) hoL hz r (fun c s' k=>hk c s' fun b o e=>k b o (ne b o e) (kL b o e)) ?_) (args_list_sort _)))
 intro ws h' c hp hs kk ha
 exact ⟨_,rfl,wpAny_pure ⟨_,rfl,h ws h' c hp hs (fun b o e=>kk b o (ne b o e) (kL b o e)) ha⟩⟩
end
theorem paired_zip {α β:Type}{R:α->β->Prop}{xs:List α}{ys:List β}(hp:Paired R xs ys):(∀ p ∈ xs.zip ys,R p.1 p.2)/\(xs.zip ys).map (·.1)=xs/\(xs.zip ys).map (·.2)=ys:=by
 induction hp with
 | nil=>exact ⟨(fun p h=>nomatch h),rfl,rfl⟩
 | cons h _ ih =>
  obtain ⟨a,b,c⟩:=ih
  refine ⟨fun p hp=>?_,by rw [List.zip_cons_cons,List.map_cons,b],by rw [List.zip_cons_cons,List.map_cons,c]⟩
  rcases List.mem_cons.mp hp with rfl | hp
  ·exact h
  ·exact a p hp
theorem paired_of {α β:Type}{R:α->β->Prop}:∀ {zs:List (α × β)},(∀ p ∈ zs,R p.1 p.2)->Paired R (zs.map (·.1)) (zs.map (·.2))
 | [],_=>.nil
 | p :: zs,h=>.cons (h p List.mem_cons_self) (paired_of fun q hq=>h q (List.mem_cons_of_mem _ hq))
end GS
end L2
namespace L2
open PySem PySem.Spec PyProof.Rows PySem.W
namespace GS
theorem paired_mem {α β:Type}{R:α->β->Prop}:∀ {xs:List α} {ys:List β},Paired R xs ys->∀ x ∈ xs,∃ y ∈ ys,R x y
 | _,_,.nil,x,h=>nomatch h
 | _,_,.cons h t,x,hx=>by
  rcases List.mem_cons.mp hx with rfl | hx
  ·exact ⟨_,List.mem_cons_self,h⟩
  ·obtain ⟨y,h1,h2⟩:=paired_mem t x hx
   exact ⟨y,List.mem_cons_of_mem _ h1,h2⟩
noncomputable def Tri {K:Type}(RV:V->K->Prop)(RH:Value->K->Prop)(t:V × Value × K):Prop:=RelV t.1 t.2.1/\RV t.1 t.2.2/\RH t.2.1 t.2.2
theorem tri_of {K:Type}{RV:V->K->Prop}{RH:Value->K->Prop}{us:List V}{its:List Value}{ks:List K}(h1:Vals us its):Paired RV us ks->Paired RH its ks->∃ T:List (V × Value × K),(∀ t ∈ T,Tri RV RH t)/\T.map (·.1)=us/\T.map (·.2.1)=its/\T.map (·.2.2)=ks:=by
 induction h1 generalizing ks with
 | nil =>
  intro h2 h3
  cases h2
  exact ⟨[],(fun t h=>nomatch h),rfl,rfl,rfl⟩
 | @cons u i us its r1 t1 ih =>
  intro h2 h3
  cases h2 with
  | @cons _ k _ ks r2 t2 =>
   cases h3 with
   | cons r3 t3 =>
    obtain ⟨T,h1,h2,h3,h4⟩:=ih t2 t3
    refine ⟨(u,i,k) :: T,fun t ht=>?_,by rw [List.map_cons,h2],by rw [List.map_cons,h3],by rw [List.map_cons,h4]⟩
    rcases List.mem_cons.mp ht with rfl | ht
    ·exact ⟨r1,r2,r3⟩
    ·exact h1 t ht
theorem tri_vals {K:Type}{RV:V->K->Prop}{RH:Value->K->Prop}:∀ {T:List (V × Value × K)},(∀ t ∈ T,Tri RV RH t)->Vals (T.map (·.1)) (T.map (·.2.1))/\Paired RV (T.map (·.1)) (T.map (·.2.2))
 | [],_=>⟨.nil,.nil⟩
 | t :: T,h=>by
  obtain ⟨h1,h2⟩:=tri_vals fun x hx=>h x (List.mem_cons_of_mem _ hx)
  obtain ⟨a,b,c⟩:=h t List.mem_cons_self
  exact ⟨.cons a h1,.cons b h2⟩
section
variable {X:Cx}{pins:List (Addr × Obj)}{σ:St}{H:Hp}{s:Shared}{K:Type}
theorem sort_keys {lt:K->K->Bool}(W:Wk lt){RV:V->K->Prop}{RH:Heap->Value->K->Prop}(fn:∀ h v k k',RH h v k->RH h v k'->k=k')(kp:∀ h h' v k,(∀ b o,h.get? b=some o->h'.get? b=some o)->RH h v k->RH h' v k)
  {l:Addr} {us:List V} {its:List Value} {ks:List K} {Q:VK} (I:Inv X pins σ H s) (hl:s.heap.IsList l its.toArray) (hz:us.length<=1000000) (rv:Vals us its) (hv:Paired RV us ks) (hp:Paired (RH s.heap) its ks)
  (kind:∀ s':Shared,Paired (RH s'.heap) its ks->2<=its.length->wpAny (model X.prog X.w) X.A.in1.in1 (keyKind' its.toArray) (fun κ s2=>s2=s'/\∀ v v' k k',RH s'.heap v k->RH s'.heap v' k'->∀ C:Bool->Shared->Prop,C (lt k k') s'->wpAny (model X.prog X.w) X.A.in1.in1 (keyLt' κ v v') C (fun _ _=>False) s') (fun _ _=>False) s')
  (q:∀ d us' ks',H d=none->Paired RV us' ks'->ks'.Perm ks->ks'.Pairwise (fun x y=>lt y x=false)->(us'.Perm us)->Q (.ref d) (upd H d (.lst us'))) :
  wpAny (model X.prog X.w) X.A (call (.builtin "sorted") [.ref l]) (EP X pins σ Q) X.xe s:=by
 classical
 have hil:=rv.length
 obtain ⟨T,hT,e1,e2,e3⟩:=tri_of rv hv hp
 let r:Value->Int:=fun v=>if h:∃ k,RH s.heap v k then rkK lt ks h.choose else 0
 have rk_:∀ {v:Value} {k:K},RH s.heap v k->r v=rkK lt ks k:=fun {v k} h=>by
  have hx:∃ k,RH s.heap v k:=⟨k,h⟩
  show (if h:∃ k,RH s.heap v k then rkK lt ks h.choose else 0)=_
  rw [dif_pos hx,fn _ _ _ _ hx.choose_spec h]
 have z1:its.length<=sizeLine:=by
  rw [<- hil,sizeLine_eq]
  omega
 refine srtG_call (vs:=its) hl z1 r (fun h2 s' kk=>?_) fun ws h' c hpm hs kk ha=>?_
 ·have hp':Paired (RH s'.heap) its ks:=by
   obtain ⟨a,b,c⟩:=paired_zip hp
   have:=paired_of (R:=RH s'.heap) (zs:=its.zip ks) fun p hp=>kp _ _ _ _ kk (a p hp)
   rw [b,c] at this
   exact this
  refine wpAny_mono (kind s' hp' h2) (fun κ s2 ⟨e,hc⟩=>⟨e,fun x hx y hy C hC=>?_⟩) fun _ _ z=>z
  have mx:x.1 ∈ its:=by
   rw [pairsOf_toList] at hx
   exact (mem_zip_self hx).2
  have my:y.1 ∈ its:=by
   rw [pairsOf_toList] at hy
   exact (mem_zip_self hy).2
  obtain ⟨k,k1,k2⟩:=paired_mem hp x.1 mx
  obtain ⟨k',k1',k2'⟩:=paired_mem hp y.1 my
  refine hc x.1 y.1 k k' (kp _ _ _ _ kk k2) (kp _ _ _ _ kk k2') C ?_
  have hC':C (decide (r x.1 < r y.1)) s':=hC
  rw [rk_ k2,rk_ k2',<- W.rank k1] at hC'
  exact hC'
 ·obtain ⟨T',hT',eT⟩:=ST.perm_map (fun t:V × Value × K=>t.2.1) hpm T e2.symm
  have hTr:∀ t ∈ T',Tri RV (RH s.heap) t:=fun t ht=>hT t (hT'.mem_iff.mp ht)
  obtain ⟨rv',hv'⟩:=tri_vals hTr
  rw [<- eT] at rv'
  have hD:H (s.heap.objs.size + 1)=none:=I.hok.fresh (Nat.le_succ _)
  refine ⟨.ref (s.heap.objs.size + 1),upd H (s.heap.objs.size + 1) (.lst (T'.map (·.1))),I.laid (t':=s.toks) kk (Nat.le_succ _) ⟨?_,ws,c,rv',ha⟩,rfl,q _ _ _ hD hv' (by rw [<- e3]; exact hT'.map _) ?_ (by rw [<- e1]; exact hT'.map _)⟩
  ·rw [rv'.length,hpm.length_eq]
   exact z1
  ·rw [eT,List.pairwise_map] at hs
   rw [List.pairwise_map]
   refine hs.imp_of_mem fun {x y} hx hy h=>?_
   obtain ⟨_,_,h1⟩:=hTr x hx
   obtain ⟨_,_,h2⟩:=hTr y hy
   rw [rk_ h1,rk_ h2] at h
   have my:y.2.2 ∈ ks:=by
    rw [<- e3]
    exact List.mem_map.mpr ⟨y,hT'.mem_iff.mp hy,rfl⟩
   rw [W.rank my]
   exact decide_eq_false (by omega)
end
theorem pair_fn {h:Heap}{v:Value}{p q:Int × Int}(h1:IntPair h v p)(h2:IntPair h v q):p=q:=by
 obtain ⟨a,o,n,t,u,e,e1,c1,d1⟩:=h1
 obtain ⟨a',o',n',t',u',e',e1',c1',d1'⟩:=h2
 subst e
 cases e'
 rw [e1] at e1'
 cases e1'
 rw [d1] at d1'
 obtain ⟨p1,p2⟩:=p
 obtain ⟨q1,q2⟩:=q
 injection d1' with d1' _
 have e2:[Value.int p1 t,Value.int p2 u]=[Value.int q1 t',Value.int q2 u']:=congrArg Array.toList d1'
 injection e2 with e3 e4
 injection e4 with e4 _
 injection e3 with e3 _
 injection e4 with e4 _
 rw [e3,e4]
section
variable {X:Cx}
end
end GS
end L2
namespace PySem.SeqAt
open L2 AutoSeq1 MeetsSeq MeetsSeq2 MeetsSeq3
end PySem.SeqAt
namespace L2
open PySem PySem.Spec PyProof.Rows PySem.W PySem.SeqAt
section
variable {X:Cx}
end
end L2
namespace PySem.SeqAt
open L2 AutoSeq1 MeetsSeq MeetsSeq2 MeetsSeq3
noncomputable def ltL:List (Int × Int)->List (Int × Int)->Bool
 | _,[]=>false
 | [],_ :: _=>true
 | p :: r,q :: t=>if p=q then ltL r t else lt2 p q
theorem ltL_nil (ps:List (Int × Int)):ltL ps []=false:=by cases ps <;> rfl
theorem ltL_irr:∀ ps:List (Int × Int),ltL ps ps=false
 | []=>rfl
 | p :: r=>by
  unfold ltL
  rw [if_pos rfl]
  exact ltL_irr r
theorem ltL_tot:∀ {ps qs:List (Int × Int)},ps ≠ qs->ltL qs ps=!ltL ps qs
 | [],[],h=>absurd rfl h
 | [],q :: t,_=>rfl
 | p :: r,[],_=>rfl
 | p :: r,q :: t,h=>by
  unfold ltL
  by_cases e:p=q
  ·subst e
   rw [if_pos rfl,if_pos rfl]
   exact ltL_tot fun z=>h (by rw [z])
  ·rw [if_neg e,if_neg (Ne.symm e)]
   exact lt2_tot e
theorem ltL_tr:∀ {ps qs ss:List (Int × Int)},ltL ps qs=true->ltL qs ss=true->ltL ps ss=true
 | ps,[],_,h,_=>by
  rw [ltL_nil] at h
  cases h
 | _,_ :: _,[],_,h=>by
  rw [ltL_nil] at h
  cases h
 | [],_ :: _,_ :: _,_,_=>rfl
 | p :: r,q :: t,x :: y,h1,h2=>by
  unfold ltL at *
  by_cases e1:p=q
  ·subst e1
   rw [if_pos rfl] at h1
   by_cases e2:p=x
   ·rw [if_pos e2] at h2 ⊢
    exact ltL_tr h1 h2
   ·rw [if_neg e2] at h2 ⊢
    exact h2
  ·rw [if_neg e1] at h1
   by_cases e2:q=x
   ·subst e2
    rw [if_neg e1]
    exact h1
   ·rw [if_neg e2] at h2
    have h3:=lt2_tr h1 h2
    rw [if_neg]
    ·exact h3
    ·intro e
     subst e
     rw [lt2_irr] at h3
     cases h3
theorem pairs_eqAt {A:Around}{s:Shared}{v v':Value}{p q:Int × Int}(h1:IntPair s.heap v p)(h2:IntPair s.heap v' q)(hu:A.units + 10 < cLine):EqAt A s v v' (decide (p=q)):=by
 obtain ⟨as,ra⟩:=intPair_reads h1
 obtain ⟨bs,rb⟩:=intPair_reads h2
 have:=eqAt_reads _ _ A s _ _ as bs ra rb rfl rfl (by show A.units + min 1 1 < cLine; omega)
 rw [pairs_eqv] at this
 exact this
theorem paired_at {h:Heap}{xs:Array Value}{ps:List (Int × Int)}(hp:Paired (IntPair h) xs.toList ps){i:Nat}(hi:i < xs.size):∃ p r,ps.drop i=p :: r/\ps.drop (i + 1)=r/\IntPair h xs[i] p:=by
 have hl:xs.toList.length=ps.length:=Paired.length hp
 rw [Array.length_toList] at hl
 have h2:i < ps.length:=by omega
 obtain ⟨a,b,c⟩:=GS.paired_zip hp
 refine ⟨ps[i],ps.drop (i + 1),List.drop_eq_getElem_cons h2,rfl,?_⟩
 have hz:i < (xs.toList.zip ps).length:=by
  rw [List.length_zip,Array.length_toList]
  omega
 have:=a _ (List.getElem_mem hz)
 rw [List.getElem_zip] at this
 simpa using this
theorem lt_loopAt (l b:Addr)(items items2:Array Value)(n n2:Nat)(dd dd2:Option Addr)(sl sl2:Array (Option Value))(ps qs:List (Int × Int))(k:Nat) :
  ∀ i:Nat,items.size - i=k->i<=items.size->i<=items2.size->Meets (Builtin.«list.__eq__.loop» ⟨[.ref l,.ref b,rawInt i,rawInt 0],[]⟩)
   (fun A R s=>s.heap.get? l=some { cls:=.type "list",dict:=dd,data:=.seq items n,slots:=sl }/\s.heap.get? b=some { cls:=.type "list",dict:=dd2,data:=.seq items2 n2,slots:=sl2 } /\
    Paired (IntPair s.heap) items.toList ps/\Paired (IntPair s.heap) items2.toList qs/\A.units + 20 < cLine /\
    R (.ok (.ret (.bool (ltL (ps.drop i) (qs.drop i))))) s):=by
 induction k with
 | zero =>
  intro i hk h1 h2 prog w A R s h
  obtain ⟨hp,g,d,tk,os⟩:=s; obtain ⟨hl,hb,hp1,hp2,hu,h⟩:=h
  have l1:items.toList.length=ps.length:=Paired.length hp1
  have l2:items2.toList.length=qs.length:=Paired.length hp2
  rw [Array.length_toList] at l1 l2
  wp_walk using wpAny_loadPart' hl,wpAny_loadPart' hb
  have hi1:items[((i:Nat):Int).toNat]?=none:=by simp; omega
  rw [hi1]
  have hd:ps.drop i=[]:=by simp; omega
  have e:ltL (ps.drop i) (qs.drop i)=decide (items.size < items2.size):=by
   rw [hd]
   by_cases hq:i < qs.length
   ·rw [List.drop_eq_getElem_cons hq]
    exact (decide_eq_true (by omega)).symm
   ·rw [List.drop_of_length_le (by omega)]
    exact (decide_eq_false (by omega)).symm
  rw [e] at h
  wp_walk using wpAny_loadPart' hl,wpAny_loadPart' hb
  exact h
 | succ k ih =>
  intro i hk h1 h2 prog w A R s h
  obtain ⟨hp,g,d,tk,os⟩:=s; obtain ⟨hl,hb,hp1,hp2,hu,h⟩:=h
  have l1:items.toList.length=ps.length:=Paired.length hp1
  have l2:items2.toList.length=qs.length:=Paired.length hp2
  rw [Array.length_toList] at l1 l2
  wp_walk using wpAny_loadPart' hl,wpAny_loadPart' hb
  have hlt:i < items.size:=by omega
  have hi1:items[((i:Nat):Int).toNat]?=some items[i]:=by simp [hlt]
  by_cases hlt2:i < items2.size
  ·have hi2:items2[((i:Nat):Int).toNat]?=some items2[i]:=by simp [hlt2]
   have hc:((i:Int) + 1)=((i + 1:Nat):Int):=by push_cast; rfl
   obtain ⟨p,r,ep,er,rp⟩:=paired_at hp1 hlt
   obtain ⟨q,t,eq,et,rq⟩:=paired_at hp2 hlt2
   rw [hi1,hi2]
   refine wpAny_bind (pairs_eqAt rp rq (by show A.units + 1 + 10 < cLine; omega) prog w _ _ ?_)
   rw [ep,eq] at h
   unfold ltL at h
   by_cases e:p=q
   ·rw [if_pos e] at h
    rw [decide_eq_true e]
    wp_walk
    rw [hc]
    exact ⟨plainId_quiet plain_eq_loop _,codeAny_builtin entry_eq_loop (by
     rw [Around.under_plainId plain_eq_loop _]
     exact ih (i + 1) (by omega) (by omega) (by omega) prog w A R _ ⟨hl,hb,hp1,hp2,hu,by rw [er,et]; exact h⟩)⟩
   ·rw [if_neg e] at h
    rw [decide_eq_false e]
    simp only [Bool.false_eq_true,if_false]
    refine wpAny_bind (PyProof.Rows.listItems_at hl rfl (wpAny_bind (PyProof.Rows.listItems_at hb rfl ?_)))
    rw [hi1,hi2]
    exact wpAny_bind (RcLtAt.pairs rp rq (by show A.units + 1 < cLine; omega) prog w _ _ (wpAny_pure h))
  ·have hi2:items2[((i:Nat):Int).toNat]?=none:=by simp; omega
   rw [hi1,hi2]
   have hd:qs.drop i=[]:=by simp; omega
   rw [hd,ltL_nil,show false=decide (items.size < items2.size) from (decide_eq_false (by omega)).symm] at h
   wp_walk using wpAny_loadPart' hl,wpAny_loadPart' hb
   exact h
theorem list_ltLAt (l b:Addr)(items items2:Array Value)(n n2:Nat)(dd dd2:Option Addr)(sl sl2:Array (Option Value))(ps qs:List (Int × Int)) :
  Meets (Builtin.«list.__lt__» ⟨[.ref l,.ref b],[]⟩)
   (fun A R s=>s.heap.get? l=some { cls:=.type "list",dict:=dd,data:=.seq items n,slots:=sl }/\s.heap.get? b=some { cls:=.type "list",dict:=dd2,data:=.seq items2 n2,slots:=sl2 } /\
    Paired (IntPair s.heap) items.toList ps/\Paired (IntPair s.heap) items2.toList qs/\A.units + 20 < cLine/\R (.ok (.ret (.bool (ltL ps qs)))) s):=by
 intro prog w A R s h
 obtain ⟨hp1,g1,d1,tk1,os1⟩:=s
 obtain ⟨hL,hB,hp,hq,hu,h⟩:=h
 have fL:=sub_list_list
 wp_walk using wpAny_loadPart' hL,wpAny_loadPart' hB
 exact ⟨plainId_quiet plain_eq_loop _,codeAny_builtin entry_eq_loop (by
  rw [Around.under_plainId plain_eq_loop _]
  exact lt_loopAt l b items items2 n n2 dd dd2 sl sl2 ps qs _ 0 rfl (Nat.zero_le _) (Nat.zero_le _) prog w A R _ ⟨hL,hB,hp,hq,hu,by simpa using h⟩)⟩
structure ListPairs (h:Heap)(v:Value)(ps:List (Int × Int)):Prop where
 ex:∃ a o xs n,v=.ref a/\h.get? a=some o/\o.cls=.type "list"/\o.data=.seq xs n/\Paired (IntPair h) xs.toList ps
theorem lists_lt {prog:Program}{w:World}{A:Around}{E:Value->Shared->Prop}{s:Shared}{v v':Value}{ps qs:List (Int × Int)}{C:Bool->Shared->Prop}(hv:ListPairs s.heap v ps)(hv':ListPairs s.heap v' qs)(hu:A.units + 30 < cLine)(h:C (ltL ps qs) s) :
  wpAny (model prog w) A (PyProof.Rows.keyLt' PyProof.Rows.oneType' v v') C E s:=by
 obtain ⟨a,⟨cls,dd,data,sl⟩,xs,n,rfl,e1,c1,d1,p1⟩:=hv
 obtain ⟨a',⟨cls2,dd2,data2,sl2⟩,xs',n',rfl,e1',c1',d1',p1'⟩:=hv'
 simp only at c1 d1 c1' d1'
 subst c1 d1 c1' d1'
 rw [PyProof.Rows.keyLt'_oneType,PyProof.Rows.oneLt'_eq]
 simp only [if_true]
 refine wpAny_bind (wpAny_cRoomFor (by omega) ?_)
 refine wpAny_bind (wpAny_callSpecialIfBound?_slot (T:="list") ⟨_,e1,rfl⟩ F.slot_list_lt ?_)
 refine call_meets F.slot_list_lt ⟨_,e1,rfl⟩ F.entry_list_lt (F.args_list_lt_2 _ _) (list_ltLAt a a' xs xs' n n' dd dd2 sl sl2 ps qs) ⟨e1,e1',p1,p1',(by omega),?_⟩
 exact wpAny_truthy_bool h
end PySem.SeqAt
namespace L2
open PySem PySem.Spec PyProof.Rows PySem.W PySem.SeqAt
namespace GS
theorem wk_ltL:Wk ltL:=by
 refine ⟨fun x y h=>?_,fun x y z h1 h2=>?_⟩
 ·cases e:ltL y x with
  | false=>rfl
  | true =>
   have:=ltL_tr h e
   rw [ltL_irr] at this
   cases this
 ·cases e:ltL z x with
  | false=>rfl
  | true =>
   by_cases exy:x=y
   ·subst exy
    rw [e] at h2
    exact h2
   ·have h3:ltL x y=true:=by
     have:=ltL_tot (ps:=x) (qs:=y) exy
     rw [h1] at this
     cases hh:ltL x y with
     | true=>rfl
     | false =>
      rw [hh] at this
      cases this
    have:=ltL_tr e h3
    rw [this] at h2
    exact h2
noncomputable def LstAt (H:Hp)(v:V)(ps:List (Int × Int)):Prop:=∃ a ws,v=V.ref a/\H a=some (.lst ws)/\Tup2 H ws ps
theorem paired_fn {h:Heap}{vs:List Value}{ps qs:List (Int × Int)}(hp:Paired (IntPair h) vs ps):Paired (IntPair h) vs qs->ps=qs:=by
 induction hp generalizing qs with
 | nil =>
  intro hq
  cases hq
  rfl
 | cons a _ ih =>
  intro hq
  cases hq with
  | cons b u=>rw [pair_fn a b,ih u]
theorem lists_fn {h:Heap}{v:Value}{ps qs:List (Int × Int)}(h1:ListPairs h v ps)(h2:ListPairs h v qs):ps=qs:=by
 obtain ⟨a,o,xs,n,e,e1,c1,d1,p1⟩:=h1
 obtain ⟨a',o',xs',n',e',e1',c1',d1',p1'⟩:=h2
 subst e
 cases e'
 rw [e1] at e1'
 cases e1'
 rw [d1] at d1'
 injection d1' with d1' _
 subst d1'
 exact paired_fn p1 p1'
theorem pairs_kept {h h':Heap}(k:∀ b o,h.get? b=some o->h'.get? b=some o){vs:List Value}{ps:List (Int × Int)}(hp:Paired (IntPair h) vs ps):Paired (IntPair h') vs ps:=by
 induction hp with
 | nil=>exact .nil
 | cons q _ ih =>
  obtain ⟨a,o,n,t,u,e,e1,r⟩:=q
  exact .cons ⟨a,o,n,t,u,e,k _ _ e1,r⟩ ih
section
variable {X:Cx}{pins:List (Addr × Obj)}{σ:St}{H:Hp}{s:Shared}
theorem lsts_pairs (I:Inv X pins σ H s){us:List V}{ks:List (List (Int × Int))}{its:List Value}(hp:Paired (LstAt H) us ks)(r:Vals us its):Paired (ListPairs s.heap) its ks:=by
 induction hp generalizing its with
 | nil =>
  cases r
  exact .nil
 | cons q _ ih =>
  obtain ⟨a,ws,e,h,ht⟩:=q
  subst e
  cases r with
  | cons r1 r2 =>
   cases r1
   refine .cons ?_ (ih r2)
   obtain ⟨z,its,n,rv,hl,e⟩:=I.lstM h
   exact ⟨a,_,its.toArray,n,rfl,e,rfl,rfl,by rw [List.toList_toArray]; exact Tup2.pairs I ht rv⟩
end
theorem lists_list {h:Heap}{its:List Value}{ks:List (List (Int × Int))}(hp:Paired (ListPairs h) its ks):∀ v ∈ its,∃ a o,v=Value.ref a/\h.get? a=some o/\o.cls=.type "list":=by
 induction hp with
 | nil=>exact fun v hv=>nomatch hv
 | cons q _ ih =>
  intro v hv
  rcases List.mem_cons.mp hv with rfl | hv
  ·obtain ⟨a,o,xs,n,e,e1,c,_⟩:=q
   exact ⟨a,o,e,e1,c⟩
  ·exact ih v hv
section
variable {X:Cx}
theorem call_sortedGL (hu:X.A.units + 64 < cLine):CallR X (.builtin "sorted") (fun xs H Q=>∃ l us ks,xs=[.ref l]/\SqL X.K H l us/\Paired (LstAt H) us ks/\us.length<=1000000 /\
  ∀ d us' ks',H d=none->Paired (LstAt H) us' ks'->ks'.Perm ks->ks'.Pairwise (fun p q=>ltL q p=false)->us'.Perm us->Q (.ref d) (upd H d (.lst us'))):=by
 intro pins s σ H xs us' Q I r h
 obtain ⟨l,us,ks,rfl,hq,ht,hz,q⟩:=h
 obtain ⟨u,rfl,ru⟩:=vals1 r
 cases ru
 obtain ⟨its,rv,pl,_⟩:=I.list hq
 have hp:=lsts_pairs I ht rv
 refine sort_keys wk_ltL (RH:=ListPairs) (fun h v k k'=>lists_fn) (fun h h' v k kk ⟨a,o,xs,n,e,e1,c,d,r⟩=>⟨a,o,xs,n,e,kk _ _ e1,c,d,pairs_kept kk r⟩) I pl.isList hz rv ht hp (fun s' hp' h2=>?_) fun d us' ks' hd h1 h2 h3 h4=>q d us' ks' hd h1 h2 h3 h4
 refine kas_kind (T:=.type "list") h2 (fun v hv=>?_) (by decide) (by decide) ⟨rfl,fun v v' k k' h1 h2 C hC=>?_⟩
 ·obtain ⟨a,o,rfl,e1,c1⟩:=lists_list hp' v hv
  exact c1 ▸ (Looks.ld e1).andThen .now
 ·exact lists_lt h1 h2 (by show X.A.units + 1 + 1 + 30 < cLine; omega) hC
end
end GS
end L2
namespace L2
open PySem PySem.Spec PyProof.Rows
section
variable {X:Cx}{K:PySem.W.Frag}
end
noncomputable def HasDef (K:PySem.W.Frag)(x:Str)(st:Stmt):Prop:=∃ (f:Addr) (oc:Value) (od an:Option Addr) (sl:Array (Option Value)) (kV dc pm cd ct:Value),PySem.W.nsIn K mainGlobals x=some (some (.ref f))/\K.lookup f=some ⟨oc,od,.func (PySem.W.fnOf x x (defArgs st) (defBody st) (defScope st) .none kV dc pm an cd ct),sl⟩/\PySem.W.codeIn K cd x=true/\PySem.W.keepIn K (.ref f)=true
theorem HasDef.at {K:PySem.W.Frag}{h:Heap}{mg:Str->Option Value}{x:Str}{st:Stmt}{ps:List Str}(H:HasDef K x st)(X:K.In h)(G:h.Ns mainGlobals mg)
  (hb:∀ (kV doc pm:Value) (an:Option Addr) (cdv ct:Value) (us:List Value),us.length=ps.length->bindArgs (PySem.W.fnOf x x (defArgs st) (defBody st) (defScope st) .none kV doc pm an cdv ct) ⟨us,[]⟩=pure (ps.zip us)):∃ f fd,DefAt K mg x st ps f fd:=by
 obtain ⟨f,oc,od,an,sl,kV,dc,pm,cd,ct,a,l,c,k⟩:=H
 have F:=fun_mk (st:=st) l c k
 exact ⟨f,_,F,PySem.W.mg_of X G a,F.binds hb⟩
end L2
namespace L2
open PySem PySem.W
theorem us0 {P:List Value->Prop}(h:P []):∀ us:List Value,us.length=0->P us:=by
 intro us e
 cases us with
 | nil=>exact h
 | cons a t=>cases e
theorem usS {n:Nat}{P:List Value->Prop}(h:∀ a t,t.length=n->P (a :: t)):∀ us:List Value,us.length=n + 1->P us:=by
 intro us e
 cases us with
 | nil=>cases e
 | cons a t=>exact h a t (Nat.succ.inj e)
theorem us1 {P:List Value->Prop}(h:∀ a,P [a]):∀ us:List Value,us.length=1->P us:=usS fun a=>us0 (h a)
theorem us2 {P:List Value->Prop}(h:∀ a b,P [a,b]):∀ us:List Value,us.length=2->P us:=usS fun a=>us1 (h a)
theorem us3 {P:List Value->Prop}(h:∀ a b c,P [a,b,c]):∀ us:List Value,us.length=3->P us:=usS fun a=>us2 (h a)
theorem us4 {P:List Value->Prop}(h:∀ a b c d,P [a,b,c,d]):∀ us:List Value,us.length=4->P us:=usS fun a=>us3 (h a)
theorem us5 {P:List Value->Prop}(h:∀ a b c d e,P [a,b,c,d,e]):∀ us:List Value,us.length=5->P us:=usS fun a=>us4 (h a)
end L2
namespace L2
open PySem PySem.Spec PyProof.Rows
section
variable {X:Cx}{k k0:Nat}{f:Addr}{fd:FuncData}{ps:List Str}{sp:Sp}{x:Str}{st:Stmt}{p pos:Pos}{e:Expr}{es:List Expr}{t:TA}
theorem pc0 (F:FnOk X.prog X.w X.K X.mg X.base CX0 k f fd ps sp)(hr:Room k0 X.A)(D:DefAt X.K X.mg x st ps f fd)(ha:PA X (e :: es) t)(hk:k<=k0:=by decide)(hg:Gl X x:=by rfl)
  (hdb:(x == ("__debug__":Str))=false:=by decide) (he:starEach (e :: es) X.env=(false,eval e X.env) :: starEach es X.env:=by rfl) (hpl:(backTo pos (starEach es X.env)).any (·.1)=false:=by rfl) :
  PE X (.Call (.Name x p) (e :: es) [] pos) (tCall sp [] E0 t):=pe_call F (hr.mono hk) hg D.g D.F.kp D.b .nil pass0 ha hdb he hpl
end
theorem sz_0:0<=sizeLine:=by decide
theorem sz_1:1<=sizeLine:=by decide
theorem sz_2:2<=sizeLine:=by decide
theorem sz_3:3<=sizeLine:=by decide
theorem sz_4:4<=sizeLine:=by decide
end L2
namespace L2
open PySem PySem.Spec PyProof.Rows
section
variable {X:Cx}
noncomputable def rLt2:R2:=fun x y H Q=>∃ (a b:Addr) (p q:Int × Int),x=.ref a/\y=.ref b/\H a=some (.tup [.int p.1,.int p.2])/\H b=some (.tup [.int q.1,.int q.2])/\Q (.bl (lt2 p q)) H
theorem op_lt_deep (hu:X.A.units + 64 < cLine):OpR X (compareOp .Lt) rLt2:=by
 intro pins s σ H x y v u Q I rx ry h
 obtain ⟨a,b,p,q,rfl,rfl,h1,h2,hq⟩:=h
 cases rx
 cases ry
 obtain ⟨items,rv,tp,_⟩:=I.tuple (SqT.of h1)
 obtain ⟨u1,u2,rfl,⟨t1,rfl⟩,⟨t2,rfl⟩⟩:=vals2 rv
 obtain ⟨⟨c1,dd,da,sl⟩,e1,c1',n,d1⟩:=tp
 obtain ⟨items',rv',tp',_⟩:=I.tuple (SqT.of h2)
 obtain ⟨u1',u2',rfl,⟨t1',rfl⟩,⟨t2',rfl⟩⟩:=vals2 rv'
 obtain ⟨⟨c2,dd2,da2,sl2⟩,e2,c2',n',d2⟩:=tp'
 simp only at c1' d1 c2' d2
 subst c1' d1 c2' d2
 exact richCompare_meets_room (op:=.Lt) ⟨_,e1,rfl⟩ ⟨_,e2,rfl⟩ F.slot_tuple_lt F.entry_tuple_lt (F.args_tuple_lt_2 _ _) (PySem.SeqAt.tuple_ltAt a b p.1 p.2 q.1 q.2 t1 t2 t1' t2' n n' dd dd2 sl sl2)
  ⟨e1,e2,(fun x=>nomatch x),.bl (lt2 p q),H,I,rfl,hq⟩ (by omega)
end
end L2
namespace L2
open PySem PySem.Spec PyProof.Rows
inductive Kpt (C:Heap->Prop){α:Type}:Sem α->Prop
 | pure (a:α):Kpt C (.pure a)
 | none (u:String):Kpt C (.unsupported u)
 | load {a:Addr} {q:Option Value} {k:Obj->Sem α} (h:∀ o,Kpt C (k o)):Kpt C (.load a q k)
 | update {a:Addr} {q:Option Value} {f:Obj->Obj} {k:Unit->Sem α} (z:∀ h,C h->C (h.update a f)) (h:Kpt C (k ())):Kpt C (.update a q f k)
 | alloc {o:Obj} {k:Addr->Sem α} (z:∀ h,C h->C (h.push o)) (h:∀ a,Kpt C (k a)):Kpt C (.alloc o k)
 | ask {k:Setting->Sem α} (h:∀ x,Kpt C (k x)):Kpt C (.ask k)
 | stack {k:List (Code × Pos)->Sem α} (h:∀ x,Kpt C (k x)):Kpt C (.stack k)
section
variable {C:Heap->Prop}{α β:Type}
theorem Kpt.bind {t:Sem α}{f:α->Sem β}(h:Kpt C t)(g:∀ a,Kpt C (f a)):Kpt C (t >>= f):=by
 show Kpt C (Sem.bind t f)
 induction h with
 | pure a=>exact g a
 | none u=>exact .none u
 | load _ ih=>exact .load ih
 | update z _ ih=>exact .update z ih
 | alloc z _ ih=>exact .alloc z ih
 | ask _ ih=>exact .ask ih
 | stack _ ih=>exact .stack ih
theorem Kpt.wp {M:Model}{Γ:PySem.Ctx}{t:Sem α}(h:Kpt C t){Q:α->Pos->Shared->Prop}{E E':Value->Pos->Shared->Prop}{p:Pos}{s:Shared}(hc:C s.heap)(w:Sem.wp M Γ t Q E p s) :
  Sem.wp M Γ t (fun a p s=>Q a p s/\C s.heap) E' p s:=by
 induction h generalizing s with
 | pure a=>rw [Sem.wp] at w ⊢; exact ⟨w,hc⟩
 | none u=>rw [Sem.wp] at w; exact w.elim
 | load _ ih=>rw [Sem.wp] at w ⊢; obtain ⟨o,e,w⟩:=w; exact ⟨o,e,ih o hc w⟩
 | update z _ ih=>rw [Sem.wp] at w ⊢; exact ⟨w.1,ih (z _ hc) w.2⟩
 | alloc z _ ih=>rw [Sem.wp] at w ⊢; exact ih _ (z _ hc) w
 | ask _ ih=>rw [Sem.wp] at w ⊢; exact ih _ hc w
 | stack _ ih=>rw [Sem.wp] at w ⊢; exact ih _ hc w
theorem Kpt.any {M:Model}{A:Around}{t:Sem α}(h:Kpt C t){Q:α->Shared->Prop}{E E':Value->Shared->Prop}{s:Shared}(hc:C s.heap)(w:wpAny M A t Q E s) :
  wpAny M A t (fun a s=>Q a s/\C s.heap) E' s:=fun Γ p hΓ=>h.wp hc (w Γ p hΓ)
end
noncomputable def Bare2 (e:Addr)(h:Heap):Prop:=∃ oe vs,h.get? e=some oe/\oe.data=.fields vs/\vs[2]?=some .none
section
variable {e:Addr}{h:Heap}
theorem Bare2.push (b:Bare2 e h)(o:Obj):Bare2 e (h.push o):=by
 obtain ⟨oe,vs,q,d,z⟩:=b
 exact ⟨oe,vs,Heap.get?_push_of_some _ q,d,z⟩
theorem Bare2.field (b:Bare2 e h){a:Addr}{i:Nat}{v:Value}(hi:i ≠ 2):Bare2 e (h.update a (Obj.mapFields (·.setIfInBounds i v))):=by
 obtain ⟨oe,vs,q,d,z⟩:=b
 by_cases ha:a=e
 ·subst ha
  have d2:=Obj.data_mapFields d (·.setIfInBounds i v)
  exact ⟨_,_,Heap.get?_update_self _ q (Obj.isFreed_of_fields d2),d2,by rw [Array.getElem?_setIfInBounds_ne hi]; exact z⟩
 ·exact ⟨oe,vs,(Heap.get?_update_other _ _ ha).trans q,d,z⟩
theorem Bare2.slots (b:Bare2 e h){a:Addr}{g:Obj->Array (Option Value)}:Bare2 e (h.update a fun o=>{ o with slots:=g o }):=by
 obtain ⟨oe,vs,q,d,z⟩:=b
 by_cases ha:a=e
 ·subst ha
  exact ⟨_,vs,Heap.get?_update_self _ q (Obj.isFreed_of_fields (vs:=vs) d),d,z⟩
 ·exact ⟨oe,vs,(Heap.get?_update_other _ _ ha).trans q,d,z⟩
theorem kt_field {C:Heap->Prop}(v:Value)(i:Nat):Kpt C (field v i):=by
 unfold field fieldsOf
 refine .bind ?_ fun _=>?_
 ·split
  ·refine .bind (.load fun _=>.pure _) fun o=>?_
   split
   ·exact .pure _
   ·exact .none _
  ·exact .none _
 ·split
  ·exact .pure _
  ·exact .none _
theorem kt_setField (v x:Value){i:Nat}(hi:i ≠ 2):Kpt (Bare2 e) (setField v i x):=by
 unfold setField updateField
 split
 ·refine .bind (.load fun _=>.pure _) fun o=>?_
  split
  ·split
   ·exact .update (fun _ b=>b.field hi) (.pure _)
   ·exact .none _
  ·exact .none _
 ·exact .none _
theorem kt_setFlight (v:Value)(f:Option Addr):Kpt (Bare2 e) (setFlight v f):=by
 unfold setFlight
 refine .bind (kt_field _ _) fun _=>?_
 split
 ·exact kt_setField _ _ (by decide)
 ·exact .pure _
theorem kt_ready:∀ l:List Env,Kpt (Bare2 e) (readyFrames l)
 | []=>by unfold readyFrames; exact .pure _
 | env :: outer=>by
  unfold readyFrames
  split
  ·refine .bind (.load fun _=>.pure _) fun o=>?_
   split
   ·exact .pure _
   ·refine .bind ?_ fun _=>.bind ?_ fun _=>.bind (.update (fun _ b=>b.slots) (.pure _)) fun _=>kt_ready outer
    ·unfold behindIsImport
     split
     ·exact .pure _
     ·split
      ·exact .pure _
      ·exact .bind (kt_field _ _) fun _=>.pure _
    ·unfold keptBack
     split
     ·split
      ·exact .pure _
      ·unfold underTheClaimsCaller
       exact .bind (.bind (.stack fun _=>.pure _) fun _=>.pure _) fun _=>.pure _
     ·exact .pure _
  ·exact .none _
theorem kt_frameOf (env:Env):Kpt (Bare2 e) (frameOf env):=by
 unfold PySem.frameOf frameEnvs
 refine .bind (.bind (.stack fun _=>.pure _) fun _=>.pure _) fun l=>.bind ?_ fun _=>?_
 ·unfold frameObject
  split
  ·exact .pure _
  ·exact .bind (kt_ready _) fun _=>.pure _
 ·split
  ·exact .pure _
  ·exact .none _
theorem kt_place (f:Addr)(b:Bool):Kpt (Bare2 e) (entryPlaceOf f b):=by
 unfold entryPlaceOf
 refine .bind (.stack fun _=>.pure _) fun _=>?_
 split <;> exact .pure _
theorem kt_entry (a b c d f:Value)(l:List Value):Kpt (Bare2 e) (EntryCells.newEntry a b c d f l):=by
 have j:∀ g:Data,Kpt (Bare2 e) (newObjAsIs (.type "traceback") g):=fun g=>by
  unfold newObjAsIs
  exact .bind (.alloc (fun _ b=>b.push _) fun _=>.pure _) fun _=>.pure _
 have k:∀ q:List Value,Kpt (Bare2 e) (newObj (.type "traceback") (.fields q.toArray)):=fun q=>by
  unfold newObj
  dsimp only
  split
  ·exact .bind (.none _) fun _=>j _
  ·exact j _
 exact k _
theorem kt_note (x:Value)(env:Env):Kpt (Bare2 e) (noteFrame x env):=by
 unfold noteFrame
 split
 ·refine .bind (kt_field _ _) fun _=>?_
  split
  ·refine .bind (kt_field _ _) fun _=>?_
   split
   ·exact .pure _
   ·exact .bind (kt_setField _ _ (by decide)) fun _=>.bind (kt_frameOf _) fun _=>.bind (kt_place _ _) fun _=>.bind (kt_entry _ _ _ _ _ _) fun _=>kt_setField _ _ (by decide)
  ·exact .bind (kt_frameOf _) fun _=>.bind (kt_place _ _) fun _=>.bind (kt_entry _ _ _ _ _ _) fun _=>kt_setField _ _ (by decide)
 ·exact .none _
theorem kt_leaving (x:Value)(env:Env):Kpt (Bare2 e) (leaving env x):=by
 unfold leaving
 exact .bind (kt_note _ _) fun _=>kt_setFlight _ _
end
end L2
namespace L2
open PySem PySem.Spec PyProof.Rows
theorem en_unchain:entryFor table "proto.unchain"=some Builtin.«proto.unchain»:=entryFor_of_fast (by kernel_rfl)
section
variable {prog:Program}{w:World}{A:Around}{E:Value->Shared->Prop}{s:Shared}
theorem raise_over {α:Type}{Q:α->Shared->Prop}{a e:Addr}{o:Obj}{vs:Array Value}(hh:A.handled=some (.ref e))(b:Bare2 e s.heap)(ha:s.heap.get? a=some o)(hd:o.data=.fields vs)(hz:2 < vs.size)(ne:e ≠ a)
  (hq:E (.ref a) { s with heap:=s.heap.update a (Obj.mapFields (·.setIfInBounds 2 (.ref e))) }):wpAny (model prog w) A (raiseNew (α:=α) (.ref a)) Q E s:=by
 obtain ⟨oe,ve,q,d,z⟩:=b
 unfold raiseNew
 refine wpAny_bind (wpAny_handled ?_)
 rw [hh]
 dsimp only
 rw [if_pos (by simpa using ne)]
 refine wpAny_bind (wpAny_holding (wpAny_runValue ?_))
 refine codeAny_builtin en_unchain ?_
 unfold Builtin.«proto.unchain»
 dsimp only
 refine wpAny_bind (wpAny_field q d z ?_)
 rw [if_pos (by rfl)]
 refine wpAny_pure ?_
 exact wpAny_bind (wpAny_setField ha hd hz (wpAny_throw hq))
theorem range_over {it e:Addr}{x left step:Int}{Q:Option Value->Shared->Prop}(hh:A.handled=some (.ref e))(b:Bare2 e s.heap)(hit:IsRangeIter s.heap it x left step)(hleft:left<=0)
  (hQ:∀ h',Heap.ExtBut it s.heap h'->Q none { s with heap:=h' }):wpAny (model prog w) A (pyNext (.ref it)) Q E s:=by
 have y:s.TypeIs (.ref it) "range_iterator":=⟨_,hit,rfl⟩
 have f:A.in1.handled=some (.ref e):=hh
 unfold pyNext
 refine wpAny_bind (wpAny_attempt ?_)
 refine wpAny_callSpecial?_slot y F.slot_range_iterator_next ?_
 refine wpAny_call_entry F.slot_range_iterator_next y F.entry_range_iterator_next ?_ (F.args_range_iterator_next_1 _)
 change wpAny _ _ (field (.ref it) 0 >>= _) _ _ _
 refine wpAny_bind (wpAny_field hit rfl (x:=rawInt x) rfl (?_:wpAny _ _ (field (.ref it) 1 >>= _) _ _ _))
 refine wpAny_bind (wpAny_field hit rfl (x:=rawInt left) rfl (?_:wpAny _ _ (field (.ref it) 2 >>= _) _ _ _))
 refine wpAny_bind (wpAny_field hit rfl (x:=rawInt step) rfl ?_)
 show wpAny _ _ (ite (left<=0) _ _) _ _ s
 rw [if_pos hleft]
 refine wpAny_bind (wpAny_rule (wpAny_bind (wpAny_bind ?_)))
 unfold newExc newTuple
 refine wpAny_bind (wpAny_newObj_type (wpAny_bind (wpAny_of_eq (a:=Value.none) (by first | rfl | (unfold firstArgMember; rfl)) (wpAny_newObj_type ?_ (by size_fits)))) (by size_fits))
 have lt:e < s.heap.objs.size:=by
  obtain ⟨oe,ve,q,_⟩:=b
  exact Heap.lt_size q
 refine raise_over f ((b.push _).push _) (Heap.get?_push_size _ rfl) rfl (show 2 < 6 by decide) (by rw [Heap.size_push]; exact Nat.ne_of_lt (Nat.lt_succ_of_lt lt)) ?_
 refine wpAny_bind (wpAny_isInstance (T:="StopIteration") (b:=true) ⟨_,Heap.get?_update_self _ (Heap.get?_push_size _ rfl) rfl,rfl⟩ isSubtype_stop ?_)
 refine wpAny_pure (hQ _ fun b o hb q=>?_)
 rw [Heap.get?_update_other _ _ (by rw [Heap.size_push]; exact Nat.ne_of_gt (Nat.lt_succ_of_lt (Heap.lt_size q)))]
 exact Heap.get?_push_of_some _ (Heap.get?_push_of_some _ q)
end
end L2
namespace L2
open PySem PySem.Spec PyProof.Rows
noncomputable def exAtB (e C:Addr)(h:Heap):Prop:=exAt e C h/\Bare2 e h
noncomputable def exB (e C:Addr):HO:=.ext (exAtB e C)
theorem exB_ok {P:Program}{w:World}{H:Hp}{h:Heap}{e C:Addr}(a:exAt e C h)(b:Bare2 e h):ObjOk P w H h e (exB e C):=by
 refine ⟨⟨a,b⟩,?_,fun g1 g2 ⟨⟨o1,v1,r1,r2,r3⟩,o2,v2,s1,s2,s3⟩ k=>⟨⟨o1,v1,k _ r1,r2,r3⟩,o2,v2,k _ s1,s2,s3⟩⟩
 obtain ⟨o,_,q,_⟩:=a
 exact ⟨o,q⟩
structure TurnN (eN:Addr)(P:Program)(w:World)(K:PySem.W.Frag)(tg:Expr)(J:It)(fp:List Addr)(it:Addr)(tn:Nat->Heap->Prop):Prop where
 mem:it ∈ fp
 obj:∀ i h,tn i h->∀ b ∈ fp,∃ o,h.get? b=some o/\∀ v,o.data ≠ .cell v
 keep:∀ i h h',tn i h->(∀ b ∈ fp,∀ o,h.get? b=some o->h'.get? b=some o)->tn i h'
 item:∀ (X:Cx),X.prog=P->X.w=w->X.K=K->X.A.handled=some (.ref eN)->∀ (i:Nat) (pins:List (Addr × Obj)) (s:Shared) (σ:St) (H:Hp) (E:Value->Shared->Prop),Inv X pins σ H s->(∀ b ∈ fp,FpOk X pins H b)->tn i s.heap->J.go i H ->
  wpAny (model P w) X.A (pyNext (.ref it)) (fun r s1=>∃ u,r=some u /\
   wpAny (model P w) X.A (letOwnedTupleGo tg (.ref it) u) (fun _ s2=>∃ x H',Inv X pins σ H' s2/\RelV x u/\J.yld i H x H'/\tn (i + 1) s2.heap/\∀ b ∈ fp,H' b=none) E s1) E s
 done:∀ (X:Cx),X.prog=P->X.w=w->X.K=K->X.A.handled=some (.ref eN)->∀ (i:Nat) (pins:List (Addr × Obj)) (s:Shared) (σ:St) (H:Hp) (E:Value->Shared->Prop),Inv X pins σ H s->(∀ b ∈ fp,FpOk X pins H b)->tn i s.heap->J.stop i H ->
  wpAny (model P w) X.A (pyNext (.ref it)) (fun r s1=>r=none/\Inv X pins σ H s1) E s
 self:∀ (A:Around) (i:Nat) (s:Shared) (Q:Value->Shared->Prop) (E:Value->Shared->Prop),tn i s.heap->Q (.ref it) s->wpAny (model P w) A (pyIter (.ref it)) Q E s
noncomputable def ItrN (eN:Addr)(lo:Int)(n:Nat):It:=⟨fun i _=>i < n,fun i H x H'=>H'=H/\x=.int (lo + i),fun i H=>n<=i/\∃ C,H eN=some (exB eN C)⟩
theorem turnN_range {eN:Addr}{P:Program}{w:World}{K:PySem.W.Frag}{tg:Expr}(it:Addr)(lo:Int)(n:Nat):TurnN eN P w K tg (ItrN eN lo n) [it] it (fun i h=>IsRangeIter h it (lo + (i:Nat) * 1) ((n:Int) - (i:Nat)) 1):=by
 have T:=turn_range (P:=P) (w:=w) (K:=K) (tg:=tg) it lo n
 refine ⟨T.mem,T.obj,T.keep,?_,?_,T.self⟩
 ·intro X hP hw hK hc i pins s σ H E I hf st hg
  subst hP hw hK
  obtain ⟨f0,f1,f2,f3,f4,f5⟩:=hf it (by simp)
  have hg':i < n:=hg
  refine wpAny_pyNext_range_item st (by omega) fun h' st' sb=>?_
  have I1:Inv X pins σ H { s with heap:=h',toks:=s.toks + 1 }:=I.turned (fun b o hb e=>(sb.2 b hb).trans e) f0 f1 f3 f4 f5
  have st2:IsRangeIter h' it (lo + ((i + 1:Nat):Int) * 1) ((n:Int) - ((i + 1:Nat):Int)) 1:=by
   have e1:lo + (i:Int) * 1 + 1=lo + ((i + 1:Nat):Int) * 1:=by push_cast; omega
   have e2:(n:Int) - (i:Int) - 1=(n:Int) - ((i + 1:Nat):Int):=by push_cast; omega
   rw [e1,e2] at st'
   exact st'
  refine ⟨_,rfl,go_of (s:={ s with heap:=h',toks:=s.toks + 1 }) (n:="range_iterator") st2 rfl rfl (by decide) ⟨.int (lo + i),H,I1,⟨s.toks,?_⟩,⟨rfl,rfl⟩,st2,fun b hb=>(hf b hb).1⟩⟩
  rw [Int.mul_one]
 ·intro X hP hw hK hc i pins s σ H E I hf st hg
  subst hP hw hK
  obtain ⟨f0,f1,f2,f3,f4,f5⟩:=hf it (by simp)
  obtain ⟨hn,C,hC⟩:=hg
  exact range_over hc (I.hok eN _ hC).1.2 st (by omega) fun h' eb=>⟨rfl,I.turned (t':=s.toks) (fun b o hb e=>eb b o hb e) f0 f1 f3 f4 f5⟩
noncomputable def PIEN (eN:Addr)(X:Cx)(pins:List (Addr × Obj))(σ:St)(tg:Expr)(R:It->Hp->Prop)(itv:Value)(s2:Shared):Prop :=
 ∃ (it:Addr) (fp:List Addr) (tn:Nat->Heap->Prop) (J:It) (H':Hp),itv=.ref it/\Inv X pins σ H' s2/\TurnN eN X.prog X.w X.K tg J fp it tn/\tn 0 s2.heap/\(∀ b ∈ fp,FpOk X pins H' b)/\R J H'
noncomputable def PIN (eN:Addr)(X:Cx)(tg iter:Expr)(wi:TI):Prop :=
 ∀ (pins:List (Addr × Obj)) (s:Shared) (σ:St) (H:Hp) (R:It->Hp->Prop),Inv X pins σ H s->wi σ H R ->
  wpAny (model X.prog X.w) X.A (eval iter X.env) (fun v s1=>wpAny (model X.prog X.w) X.A (pyIter v) (PIEN eN X pins σ tg R) X.xe s1) X.xe s
noncomputable def iRng1N (eN:Addr)(ta:TA):TI:=fun σ H R=>ta σ H fun vs H1=>∃ j:Int,vs=[.int j]/\-(2 ^ 62)<=j/\j < 2 ^ 62/\R (ItrN eN 0 j.toNat) H1
section
variable {X:Cx}{tg:Expr}
theorem range_itN {eN:Addr}{pins:List (Addr × Obj)}{σ:St}{H:Hp}{s:Shared}{R:It->Hp->Prop}{E:Value->Shared->Prop}{lo hi:Int}{t u v:Tok}{tk:Nat}(I:Inv X pins σ H s)(h1:-(2 ^ 62)<=lo)(h2:lo < 2 ^ 62)(h3:-(2 ^ 62)<=hi)(h4:hi < 2 ^ 62)
  (q:R (ItrN eN lo (hi - lo).toNat) H):wpAny (model X.prog X.w) X.A (pyIter (.ref s.heap.objs.size)) (PIEN eN X pins σ tg R) E { s with heap:=s.heap.push { cls:=.type "range",data:=.fields #[.int lo t,.int hi u,.int 1 v] },toks:=tk }:=by
 refine wpAny_pyIter_range (IsRange.new ..) (small_one h1 h2 h3 h4) ?_
 have I1:Inv X pins σ H { s with heap:=s.heap.push { cls:=.type "range",data:=.fields #[.int lo t,.int hi u,.int 1 v] },toks:=tk }:=I.kept fun b o e=>Heap.get?_push_of_some _ e
 refine ⟨(s.heap.push { cls:=.type "range",data:=.fields #[.int lo t,.int hi u,.int 1 v] }).objs.size,[(s.heap.push { cls:=.type "range",data:=.fields #[.int lo t,.int hi u,.int 1 v] }).objs.size],_,_,H,rfl,
  I1.kept (t':=tk) fun b o e=>Heap.get?_push_of_some _ e,turnN_range _ lo (hi - lo).toNat,?_,fun b hb=>?_,q⟩
 ·have e1:lo + ((0:Nat):Int) * 1=lo:=by simp
  have e2:(((hi - lo).toNat:Nat):Int) - ((0:Nat):Int)=Builtin.Range.rangeSize lo hi 1:=by rw [rangeSize_one]; split <;> omega
  show IsRangeIter _ _ (lo + ((0:Nat):Int) * 1) ((((hi - lo).toNat:Nat):Int) - ((0:Nat):Int)) 1
  rw [e1,e2]
  exact Heap.get?_push_size _ rfl
 ·have e:b=(s.heap.push { cls:=.type "range",data:=.fields #[.int lo t,.int hi u,.int 1 v] }).objs.size:=by simpa using hb
  subst e
  exact I1.fpOk (Nat.le_refl _) (I1.hok.fresh (Nat.le_refl _))
theorem pi_range1N {eN:Addr}{a:Expr}{ta:TA}{p pos:Pos}(hg:Gl X "range")(hm:X.mg "range"=none)(ha:PA X [a] ta)(hs:starEach [a] X.env=[(false,eval a X.env)]:=by rfl):PIN eN X tg (.Call (.Name "range" p) [a] [] pos) (iRng1N eN ta):=by
 intro pins s σ H R I h
 refine Call_ (ld_blt I hg hm boot_range (PyProof.Rows.callWith_type1 (thn (ha pos pins s σ H _ I h) fun us s1 ⟨vs,H1,I1,r1,q1⟩=>?_) hs rfl))
 obtain ⟨j,e,q1,q2,q⟩:=q1
 subst e
 cases r1 with
 | cons r rr =>
  cases rr
  obtain ⟨t,rfl⟩:=r
  exact call_range_1 (range_itN I1 (by omega) (by omega) q1 q2 (by simpa using q))
end
section
variable {X:Cx}{tg iter elt:Expr}{ifs:List Expr}{scope:Scope}{pos:Pos}{N:List Str}{src:List (Option Nat)}{cl:List (Str × Addr)}{wi:TI}{g:TG}{tc:TT}{te:TE}
theorem pe_compN {eN:Addr}(ok:CompOk X N src scope cl)(hcalm:X.A.handled=some (.ref eN))(hi:PIN eN X tg iter wi)
  (hg:∀ C fp pins s H,PG (compCx X N scope cl C fp pins s H) tg g) (hc:∀ C fp pins s H,PIfs (compCx X N scope cl C fp pins s H) ifs tc) (he:∀ C fp pins s H,PE (compCx X N scope cl C fp pins s H) elt te)
  (hs:∀ x,foldedSetIterable iter X.env x=pure x:=by intro _; rfl):PE X (.ListComp elt [⟨tg,iter,ifs,0⟩] scope pos) (tComp wi src g tc te):=by
 intro pins s σ H Q I h
 rw [eval_ListComp]
 refine wpAny_comprehension_free (use:=none) rfl hs ok.clos ok.kind ok.names (thn (hi pins s σ H _ I h) fun xv s1 h1=>thn h1 fun itv s2 h2=>?_)
 obtain ⟨it,fp,tn,J,H2,e,I2,T,st2,f2,q2⟩:=h2
 subst e
 refine wpAny_newObj_type (wpAny_newFunctionEnv ok.nocell (by intro y hy; simp at hy) (fun h₁ hns₁ hsb₁=>?_) ok.kind)
 dsimp only at hns₁ hsb₁ ⊢
 generalize hP:s2.heap.push { cls:=.type "list",dict:=none,data:=.seq ([]:List Value).toArray }=P2 at hns₁ hsb₁ ⊢
 have hC:P2.objs.size=s2.heap.objs.size + 1:=by rw [<- hP,Heap.size_push]
 have k:∀ b u,s2.heap.get? b=some u->h₁.get? b=some u:=fun b u e=>by
  have lt:=Heap.lt_size e
  exact (hsb₁.2 b (by rw [hC]; exact Nat.ne_of_lt (Nat.lt_succ_of_lt lt))).trans (Heap.get?_push_of_some _ (hP ▸ Heap.get?_push_of_some _ e))
 have hD:h₁.get? s2.heap.objs.size=some { cls:=.type "list",data:=.seq #[] }:=(hsb₁.2 _ (by rw [hC]; exact (Nat.succ_ne_self _).symm)).trans (Heap.get?_push_of_some _ (hP ▸ Heap.get?_push_size _ rfl))
 have ho:∀ b ∈ fp,∃ o,s2.heap.get? b=some o:=fun b hb=>let ⟨o,e,_⟩:=T.obj 0 _ st2 b hb; ⟨o,e⟩
 obtain ⟨W,⟨m0,w0⟩,turn⟩:=q2 s2.heap.objs.size (I2.hok.fresh (Nat.le_refl _))
 have I0:=comp_start (tk:=s2.toks + ([]:List (Str × Value)).length) ok I2 f2 ho hC k hD hns₁
 have st0:tn 0 h₁:=T.keep 0 _ _ st2 fun b _ o e=>k b o e
 have fr0:∀ b ∈ fp,upd H2 s2.heap.objs.size (.lst []) b=none:=fun b hb=>by
  obtain ⟨o,e⟩:=ho b hb
  rw [upd_ne (Nat.ne_of_lt (Heap.lt_size e))]
  exact (f2 b hb).1
 have stat:∀ {H':Hp},(∀ b ∈ fp,H' b=none)->∀ b ∈ fp,FpOk (compCx X N scope cl P2.objs.size fp pins s2 H2) [] H' b:=fun {H'} hn b hb=>by
  obtain ⟨o,e⟩:=ho b hb
  have lt:=Heap.lt_size e
  refine ⟨hn b hb,?_,fun z=>(List.mem_cons.mp (I2.stkSub b z)).elim (f2 b hb).2.1 (f2 b hb).2.2.1,.inl hb,fun x c z=>(f2 b hb).2.2.2.2.1 x c (ok.sub x c z),fun p hp=>?_⟩
  ·show b ≠ P2.objs.size
   rw [hC]
   exact Nat.ne_of_lt (Nat.lt_succ_of_lt lt)
  ·have hp':p ∈ X.pn++pins:=by
    have:p ∈ (X.pn++pins)++[]:=hp
    simpa using this
   exact (f2 b hb).2.2.2.2.2 p hp'
 have loop:∀ s₃:Shared,s₃={ s2 with heap:=h₁,toks:=s2.toks + ([]:List (Str × Value)).length } ->
   codeAny (model X.prog X.w) X.A (.compLoop (.ListComp elt [⟨tg,iter,ifs,0⟩] scope pos) 0 (.ref it) (.ref s2.heap.objs.size) (compEnvC scope cl P2.objs.size X.env))
    (compPost (model X.prog X.w) X.A X.xe none (EP X pins σ Q) (.ref s2.heap.objs.size) P2.objs.size) s₃:=by
  rintro s₃ rfl
  refine codeAny_loop rfl (fun n s'=>∃ i σ' H',Inv (compCx X N scope cl P2.objs.size fp pins s2 H2) [] σ' H' s'/\tn i s'.heap/\(∀ b ∈ fp,H' b=none)/\W i n σ' H') ?_ m0 ⟨0,_,_,I0,st0,fr0,w0⟩
  rintro n s3 ⟨i,σ3,H3,I3,st3,fr3,w3⟩
  show wpAny _ X.A ((compTurn (.ListComp elt [⟨tg,iter,ifs,0⟩] scope pos) 0 (.ref it) (.ref s2.heap.objs.size) (compEnvC scope cl P2.objs.size X.env)).onRaise (fun x=>do noteFrame x (compEnvC scope cl P2.objs.size X.env); theTreesLotGoes x)) _ _ s3
  refine wpAny_noted ?_
  rw [compTurn_list]
  rcases turn i n σ3 H3 w3 with ⟨stop,qn⟩ | ⟨go,N',hN,step⟩
  ·refine wpAny_bind (wpAny_standAt (wpAny_bind (thn (T.done (compCx X N scope cl P2.objs.size fp pins s2 H2) rfl rfl rfl hcalm i [] s3 σ3 H3 _ I3 (stat fr3) st3 stop) fun r s4 ⟨hr,I4⟩=>?_)))
   subst hr
   refine wpAny_pure ?_
   obtain ⟨m,hm,_⟩:=I4.loc
   refine ⟨m,hm,fun h' sb=>⟨.ref s2.heap.objs.size,H3,?_,rfl,qn⟩⟩
   have un:Un (frs X.stack) fp H2 H3 s2.heap h':=Un.but I4.base (by show s2.heap.objs.size<=P2.objs.size; rw [hC]; exact Nat.le_succ _) sb
   have hok:HOk X.prog X.w H3 h':=HOk.but I4.hok I4.free sb
   exact I2.call' (s':={ s4 with heap:=h' }) (ch:=fp) I4.os un hok I4.bare fun b hb=>⟨(f2 b hb).2.2.2.1,(f2 b hb).2.1,(f2 b hb).2.2.2.2.1,(f2 b hb).2.2.2.2.2⟩
  ·refine wpAny_bind (wpAny_standAt (wpAny_bind (thn (T.item (compCx X N scope cl P2.objs.size fp pins s2 H2) rfl rfl rfl hcalm i [] s3 σ3 H3 _ I3 (stat fr3) st3 go) fun r s4 ⟨u,hr,h4⟩=>?_)))
   subst hr
   dsimp only
   refine wpAny_bind (thn h4 fun _ s5 ⟨x,H5,I5,r5,y5,st5,fr5⟩=>?_)
   have I5':=I5.pinned (stat fr5) (T.obj _ _ st5)
   refine wpAny_bind (wpAny_mono (hg P2.objs.size fp pins s2 H2 _ s5 σ3 H5 x u _ I5' r5 (step x H5 y5)) (fun _ s6 ⟨σ6,H6,I6,q6⟩=>?_) fun _ _ z=>False.elim z)
   have again:∀ {s7:Shared} {σ7:St} {H7:Hp},Inv (compCx X N scope cl P2.objs.size fp pins s2 H2) ([]++pinsAt fp s5.heap) σ7 H7 s7->N' σ7 H7->∃ m,m < n/\∃ i σ' H',Inv (compCx X N scope cl P2.objs.size fp pins s2 H2) [] σ' H' s7/\tn i s7.heap/\(∀ b ∈ fp,H' b=none)/\W i m σ' H':=fun {s7 σ7 H7} I7 n7=>by
    obtain ⟨m',hm,w7⟩:=hN σ7 H7 n7
    refine ⟨m',hm,i + 1,σ7,H7,I7.unpinned,T.keep _ _ _ st5 fun b hb o e=>(I7.pin (b,o) (List.mem_append_right _ (List.mem_append_right _ (mem_pinsAt hb e)))).1,fun b hb=>?_,w7⟩
    obtain ⟨o,e,d⟩:=T.obj _ _ st5 b hb
    exact (I7.pin (b,o) (List.mem_append_right _ (List.mem_append_right _ (mem_pinsAt hb e)))).2.1
   refine wpAny_bind (wpAny_mono (hc P2.objs.size fp pins s2 H2 _ s6 σ6 H6 _ I6 q6) (fun b s7 ⟨H7,I7,q7⟩=>?_) fun _ _ z=>False.elim z)
   cases b with
   | false =>
    rw [if_neg Bool.false_ne_true] at q7
    exact wpAny_pure ⟨rfl,again I7 q7⟩
   | true =>
    rw [if_pos rfl] at q7
    refine wpAny_bind (wpAny_bind (wpAny_mono (he P2.objs.size fp pins s2 H2 _ s7 σ6 H7 _ I7 q7) (fun y s8 ⟨v8,H8,I8,r8,ys,hys,hlen,q8⟩=>?_) fun _ _ z=>False.elim z))
    refine wpAny_bind (wpAny_mono (mt_append (X:=compCx X N scope cl P2.objs.size fp pins s2 H2) _ s8 σ6 H8 (.ref s2.heap.objs.size) [v8] (.ref s2.heap.objs.size) [y] (fun _ H9=>N' σ6 H9) I8 rfl (.cons r8 .nil) ⟨_,ys,v8,rfl,rfl,hys,hlen,q8⟩) (fun _ s9 ⟨v9,H9,I9,_,q9⟩=>?_) fun _ _ z=>False.elim z)
    exact wpAny_pure (wpAny_pure ⟨rfl,again I9 q9⟩)
 exact codeAny_compStart_list (loop _ rfl) (T.self _ 0 _ _ _ st0 (loop _ rfl))
end
section
variable {src:List (Option Nat)}{g:TG}{tc:TT}{te:TE}{Q:VK}{σ:St}{H:Hp}{D eN:Addr}
theorem compN_range {lo:Int}{n:Nat}(Pv:Nat->St->Hp->Prop)(h0:Pv 0 σ H)(hx:∀ σ H,Pv n σ H->∃ C,H eN=some (exB eN C))
  (hs:∀ i σ H,i < n->Pv i σ H->g (.int (lo + i)) σ H fun σ2 H3=>tc σ2 H3 fun b H4=>if b=true then te σ2 H4 fun y H5=>∃ ys,H5 D=some (.lst ys)/\ys.length < sizeLine/\Pv (i + 1) σ2 (upd H5 D (.lst (ys++[y]))) else Pv (i + 1) σ2 H4)
  (hd:∀ σ H,Pv n σ H->Q (.ref D) H):CompGoes (ItrN eN lo n) g tc te Q D σ H:=by
 refine ⟨fun i m σ H=>m=n - i/\i<=n/\Pv i σ H,⟨n,by simp,Nat.zero_le _,h0⟩,?_⟩
 rintro i m σ H ⟨rfl,hi,p⟩
 by_cases hlt:i < n
 ·refine .inr ⟨hlt,Pv (i + 1),fun σ' H' p'=>⟨n - (i + 1),by omega,rfl,hlt,p'⟩,fun x H' y=>?_⟩
  obtain ⟨e,y⟩:=y
  subst e y
  exact hs i σ _ hlt p
 ·have e:i=n:=by omega
  subst e
  exact .inl ⟨⟨Nat.le_refl _,hx σ H p⟩,hd σ H p⟩
end
end L2
namespace L2
open PySem PySem.Spec PyProof.Rows
noncomputable def CXV (P:Program)(w:World):CXT:=fun outer H s E x s'=>CXE P w outer H s E x s'/\∃ e,x=.ref e/\Bare2 e s'.heap
section
variable {X:Cx}{pins:List (Addr × Obj)}{σ:St}{H H':Hp}{s s':Shared}{e C:Addr}
structure LeavesV (X:Cx)(E:XK):Prop where
 stk:X.stack=X.env :: X.outer
 fr:X.env.frame=some X.env.locals
 ex:X.ex=[]
 xe:X.xe=fun x s'=>wpAny (model X.prog X.w) X.A (leaving X.env x) (fun _ s''=>CXV X.prog X.w X.outer X.H₀ X.s₀ E x s'') (fun x' s''=>CXV X.prog X.w X.outer X.H₀ X.s₀ E x' s'') s'
theorem leavesV_of {P:Program}{w:World}{K:PySem.W.Frag}{mg:Str->Option Value}{base:Heap}{N:List Str}{qual:Str}{scope:Scope}{f:Addr}{cd:Value}{A:Around}{outer:List Env}{s:Shared}{H:Hp}{E:XK} :
  LeavesV (cxOf (CXV P w) P w K mg base N qual scope f cd A outer s H E) E:=⟨rfl,rfl,rfl,rfl⟩
noncomputable def Cx.plainX (X:Cx)(E:XK):Cx:=X.wish fun x s'=>wpAny (model X.prog X.w) X.A (leaving X.env x) (fun _ s''=>CXE X.prog X.w X.outer X.H₀ X.s₀ E x s'') (fun x' s''=>CXE X.prog X.w X.outer X.H₀ X.s₀ E x' s'') s'
theorem LeavesV.plain {E:XK}(L:LeavesV X E):Leaves (X.plainX E) E:=⟨L.stk,L.fr,L.ex,rfl⟩
theorem LeavesV.of {E:XK}(L:LeavesV X E){b:Bare2 e s.heap}(h:(X.plainX E).xe (.ref e) s):X.xe (.ref e) s:=by
 rw [L.xe]
 have h':wpAny (model X.prog X.w) X.A (leaving X.env (.ref e)) (fun _ s''=>CXE X.prog X.w X.outer X.H₀ X.s₀ E (.ref e) s'') (fun x' s''=>CXE X.prog X.w X.outer X.H₀ X.s₀ E x' s'') s:=h
 exact wpAny_mono ((kt_leaving _ _).any (E':=fun _ _=>False) b h') (fun _ _ z=>⟨z.1,e,rfl,z.2⟩) fun _ _ z=>z.elim
theorem LeavesV.made {E:XK}(L:LeavesV X E)(I:Inv X pins σ H s){h1:Heap}{vs:List Value}(hx:Heap.MadeExcOf s.heap h1 e (.ref C) vs)(hE:E (.ref C) none H):X.xe (.ref e) { s with heap:=h1 }:=by
 obtain ⟨t,he,_,_⟩:=hx.there
 exact L.of (b:=⟨_,_,he,rfl,rfl⟩) (L.plain.made (I.wish _) hx hE)
theorem ps_raiseV {x:Str}{C:Addr}{np cpos pos:Pos}{e0:Expr}{rest:List Expr}{t:TA}{E:XK}(L:LeavesV X E)(O:ExCls X.K X.mg x C)(hg:Gl X x)(hc:X.calm=true)(ha:PA X (e0 :: rest) t)
  (he:starEach (e0 :: rest) X.env=(false,eval e0 X.env) :: starEach rest X.env:=by rfl) (hp:(backTo cpos (starEach rest X.env)).any (·.1)=false:=by rfl) (hdb:(x == ("__debug__":Str))=false:=by decide) :
  PS X (.Raise (some (.Call (.Name x np) (e0 :: rest) [] cpos)) none pos) (tRaise E C t):=by
 intro pins s σ H D I h
 obtain ⟨bm,⟨N,nm,qn,bs,hdct,sn,sub,ab,col,dd,k0,k1,k2,k3,k5,mN,hC,hN,hni⟩,T⟩:=exObj I.ok.mod.kin O.q
 refine wpAny_Raise_call_subU (C:=C) (nm:=nm) (q:=qn) (N:=N) (bs:=bs) (bm:=bm) (hdct:=hdct) (sn:=sn) (sub:=sub) (ab:=ab) (col:=col) (dd:=dd) (k0:=k0) (k1:=k1) (k2:=k2) (k3:=k3) (k5:=k5)
  PySem.F.excBase_ValueError (by decide) PySem.F.excBase_ValueError (mN:=mN) (T.hasType PySem.F.excBase_ValueError.hasBase) (I.ok.hd hc) (by rw [he]; show (false || (backTo cpos (starEach rest X.env)).any (·.1))=false; rw [hp]; rfl) hni (ld_glob I hg O.g ⟨rfl,?_⟩ hdb)
 have a:=ha cpos pins s σ H _ I h
 rw [he] at a ⊢
 refine Calls.evalArgs_plain (thn a fun us s2 ⟨vs,H1,I1,r,hz,q⟩=>?_)
 exact ⟨rfl,by rw [<- r.length]; exact hz,I1.bk _ _ hC,hN.keeps I1.bk,T.keeps I1.bk,fun h' e hx=>L.made I1 hx q⟩
theorem Inv.bared (I:Inv X pins σ (upd H e (exO e C)) s)(b:Bare2 e s.heap):Inv X pins σ (upd H e (exB e C)) s:=by
 have a:exAt e C s.heap:=(I.hok e (exO e C) (by rw [upd_same])).1
 have un:∀ c,c ≠ e->upd H e (exB e C) c=upd H e (exO e C) c:=fun c hc=>by rw [upd_ne hc,upd_ne hc]
 have no:∀ c,upd H e (exO e C) c=none->upd H e (exB e C) c=none:=fun c q=>by
  by_cases hc:c=e
  ·subst hc
   rw [upd_same] at q
   cases q
  ·rw [un c hc]
   exact q
 have same:∀ c o,upd H e (exO e C) c=some o->(∀ q,o ≠ .ext q)->upd H e (exB e C) c=some o:=fun c o q ne=>by
  by_cases hc:c=e
  ·subst hc
   rw [upd_same] at q
   cases q
   exact absurd rfl (ne _)
  ·rw [un c hc]
   exact q
 refine ⟨I.ok,I.os,I.bare,⟨I.base.keep,I.base.slot,fun b o q n hx=>no _ (I.base.free b o q n hx),I.base.there,fun b xs q=>same _ _ (I.base.tups b xs q) (fun _ z=>nomatch z),fun b o u q=>same _ _ (I.base.frzs b o u q) (fun _ z=>nomatch z),fun b ps q=>?_⟩,I.loc,I.cell,no _ I.free,fun x c q=>no _ (I.freeC x c q),fun p hp=>?_,fun c o q=>?_,I.len⟩
 ·obtain ⟨m,r⟩:=I.base.tbls b ps q
  exact ⟨m,same _ _ r fun _ z=>nomatch z⟩
 ·obtain ⟨q,n,r⟩:=I.pin p hp
  exact ⟨q,no _ n,r⟩
 ·by_cases hc:c=e
  ·subst hc
   rw [upd_same] at q
   cases q
   exact exB_ok a b
  ·rw [un c hc] at q
   exact (I.hok c o q).stay (fun _ _ _ r=>r) (fun c' r=>same _ _ r fun _ z=>nomatch z) fun _ _ r=>same _ _ r fun _ z=>nomatch z
end
end L2
namespace L2
open PySem PySem.Spec PyProof.Rows
section
variable {X:Cx}{pins:List (Addr × Obj)}{σ:St}{H:Hp}{s:Shared}
noncomputable def tTryV (K:PySem.W.Frag)(S:Addr)(i j:Nat)(sp:Sp)(ta:TA)(ts:Addr->TS):TS:=fun D σ H=>ta σ H fun vs H1=>sp vs H1 (fun v H2=>D.nx (σ.set i (some v)) H2)
 (fun c _ H2=>∃ C,c=.ref C/\PySem.W.mroIn K C (.ref S)=some true/\∀ e,H2 e=none ->
  ts e { nx:=fun σ3 H3=>D.nx (σ3.set j none) H3,rt:=D.rt,bk:=fun σ3 H3=>D.bk (σ3.set j none) H3,ct:=fun σ3 H3=>D.ct (σ3.set j none) H3 } (σ.set j (some (.ref e))) (upd H2 e (exB e C)))
theorem ps_tryV {k i j:Nat}{x n f xS:Str}{fA S:Addr}{fd:FuncData}{ps:List Str}{sp:Sp}{ta:TA}{ts:Addr->TS}{e0:Expr}{es:List Expr}{xp fp cp ap sp0 hp pos:Pos}{b0:Stmt}{suite:List Stmt}
  (hst:X.stack=X.env :: X.outer) (hfr:X.env.frame=some X.env.locals) (F:FnOk X.prog X.w X.K X.mg X.base (CXV X.prog X.w) k fA fd ps sp) (hr:Room k X.A) (hg:Gl X f) (hm:X.mg f=some (.ref fA)) (hk:PySem.W.keepIn X.K (.ref fA)=true) (hb:Binds X.K fd ps [])
  (hN:X.N.Nodup) (hi:X.N[i]?=some x) (hx:Loc X.env.scope x) (hf:X.fn x=true\/X.env.scope.names.lookup x=some .local) (hj:X.N[j]?=some n) (hl:X.env.scope.names.lookup n=some .local) (gS:Gl X xS) (O:ExCls X.K X.mg xS S)
  (ha:PA X.nox (e0 :: es) ta) (hs:∀ e,PSs (markX X e) (b0 :: suite) (ts e))
  (he:starEach (e0 :: es) X.env=(false,eval e0 X.env) :: starEach es X.env:=by rfl) (hpl:(backTo cp (starEach es X.env)).any (·.1)=false:=by rfl) (hdb:(f == ("__debug__":Str))=false:=by decide) (hdS:(xS == ("__debug__":Str))=false:=by decide)
  (hsw:swapsWith (.Call (.Name f fp) (e0 :: es) [] cp) (some (.Name x xp)) ap.line X.env=pure false:=by rfl) :
  PS X (.Try [.Assign [.Name x xp] (.Call (.Name f fp) (e0 :: es) [] cp) ap] [.ExceptHandler (some (.Name xS sp0)) (some n) (b0 :: suite) hp] [] [] pos) (tTryV X.K S i j sp ta ts):=by
 intro pins s σ H D I h
 refine wpAny_Try_except (wpAny_execs_cons ?_)
 refine wpAny_Assign_Name (wpAny_Call_Name_kw (ld_glob I hg hm ?_ hdb)) hsw
 refine PySem.W.callWith_K (h₀:=X.base) I.ok.mod.kin hk (wpAny_mono (ha cp pins s σ H _ (I.wish _) h) (fun us s1 ⟨vs,H1,I1',r,q⟩=>⟨I1'.kIn,?_⟩) fun _ _ z=>False.elim z) he hpl
 have I1:Inv X pins σ H1 s1:=I1'.unwish
 have hlen:us.length=ps.length:=by rw [<- r.length]; exact F.len _ _ _ _ q
 have bt:=hb s1 us I1.kIn (by rw [List.append_nil]; exact hlen)
 rw [List.append_nil] at bt
 refine wpAny_call (codeAny_mono (F.run X.A X.stack s1 H1 ⟨us,[]⟩ us vs _ _ hr I1.env0 bt r q) fun res s' hq=>?_)
 cases res with
 | ok fl =>
  cases fl with
  | ret u =>
   obtain ⟨v,H2,I2,rv,q2⟩:=I1.after hq
   exact store_ok I2 hN hi hx rv (fun s3 I3=>wpAny_execs_nil (wpAny_execs_nil ⟨_,H2,I3,q2⟩)) hf
  | next=>exact False.elim hq
  | brk=>exact False.elim hq
  | cont=>exact False.elim hq
 | error y =>
  obtain ⟨⟨e,C,a0,B,H',rfl,Fl,C',ec,hmr,hsu⟩,e',ee,b0⟩:=hq
  cases ec
  cases ee
  have ff:=Fl.fly
  rw [hst] at ff
  refine wpAny_mono ((kt_note (.ref e) X.env).any (E:=fun _ _=>False) (E':=fun _ _=>False) b0 (wpAny_looks_onW (Q:=fun _ s4=>∃ h4,s4={ s' with heap:=h4 }/\Heap.HeldW B (X.env :: X.outer) e (.ref C) a0 X.env.locals h4/\s'.heap.UpToSlots h4) (by rw [I1.ok.frames,hst]) hfr ff fun h4 held4 up4=>⟨h4,rfl,held4,up4⟩)) (fun _ s4 q4=>?_) fun _ _ z=>z.elim
  obtain ⟨⟨h4,rfl,held4,up4⟩,b4⟩:=q4
  refine wpAny_mono ((kt_setFlight (.ref e) none).any (E:=fun _ _=>False) (E':=fun _ _=>False) b4 (wpAny_landsW (Q:=fun _ s5=>∃ h5,s5={ s' with heap:=h5 }/\Heap.FlyingW B (X.env :: X.outer) e (.ref C) a0 h5/\h4.UpToSlots h5) held4 fun h5 fly5 up5=>⟨h5,rfl,fly5,up5⟩)) (fun _ s5 q5=>?_) fun _ _ z=>z.elim
  obtain ⟨⟨h5,rfl,fly5,up5⟩,b5⟩:=q5
  have up:=up4.trans up5
  have I5:=Fl.caught I1 (h:=h5) (by rw [hst]; exact fly5) up
  refine wpAny_handleBy_cons (codeAny_handlers_test (ld_glob (X:=markX X e) (I5.mark e) gS O.g ?_ hdS)) (by intro z; cases z)
  obtain ⟨bm,OS⟩:=exObj I5.kIn O.q
  obtain ⟨oe,vs5,q1,q2,q3,_⟩:=fly5.first
  refine exc_hit OS q1 q2 (PySem.W.looks_mroIn I5.kIn hmr) (codeAny_handlers_suite_as ?_)
  refine wpAny_mono ((kt_setFlight (.ref e) none).any (E:=fun _ _=>False) (E':=fun _ _=>False) b5 (lands_againW (Q:=fun _ s6=>∃ h6,s6={ s' with heap:=h6 }/\Heap.FlyingW B (X.env :: X.outer) e (.ref C) a0 h6/\h5.UpToSlots h6) fly5 fun h6 fly6 up6=>⟨h6,rfl,fly6,up6⟩)) (fun _ s6 q6=>?_) fun _ _ z=>z.elim
  obtain ⟨⟨h6,rfl,fly6,up6⟩,b6⟩:=q6
  have I6:=(Fl.caught I1 (h:=h6) (by rw [hst]; exact fly6) (up.trans up6)).bared b6
  refine store_ok (X:=markX X e) (I6.mark e) hN hj (.inl hl) (v:=.ref e) rfl (fun s7 I7=>?_) (.inr hl)
  refine wpAny_mono (hs e pins s7 _ _ _ I7 (hsu e Fl.free)) (fun fl s8 q8=>?_) fun _ _ z=>z.elim
  cases fl with
  | next =>
   obtain ⟨σ8,H8,I8,q8⟩:=q8
   exact (I8.unmark I.ok).nameGoes hN hj hl fun s9 I9=>⟨_,H8,I9,q8⟩
  | brk =>
   obtain ⟨σ8,H8,I8,q8⟩:=q8
   exact (I8.unmark I.ok).nameGoes hN hj hl fun s9 I9=>⟨_,H8,I9,q8⟩
  | cont =>
   obtain ⟨σ8,H8,I8,q8⟩:=q8
   exact (I8.unmark I.ok).nameGoes hN hj hl fun s9 I9=>⟨_,H8,I9,q8⟩
  | ret u =>
   obtain ⟨v8,σ8,H8,I8,r8,q8⟩:=q8
   exact (I8.unmark I.ok).nameGoes hN hj hl fun s9 I9=>⟨v8,_,H8,I9,r8,q8⟩
end
theorem Fun.okV {P:Program}{w:World}{K:PySem.W.Frag}{mg:Str->Option Value}{base:Heap}{x qual:Str}{st:Stmt}{f:Addr}{fd:FuncData}{N ps:List Str}{k:Nat}{sp:Sp}(F:Fun K x qual st f fd)(S:FnScope N ps (defScope st))(len:∀ vs H Q E,sp vs H Q E->vs.length=ps.length)
  (hbody:∀ (cdv:Value) (A:Around) (outer:List Env) (s:Shared) (H:Hp) (vs:List V) (Q:VK) (E:XK),Room k (A.deeper (envOfC qual (defScope st) s.heap.objs.size f cdv))->sp vs H Q E ->
   ∃ t,PSs (cxOf (CXV P w) P w K mg base N qual (defScope st) f cdv A outer s H E) (defBody st) t/\t { nx:=fun _ H'=>Q .non H',rt:=Q } (start N vs) H):FnOk P w K mg base (CXV P w) (k + 1) f fd ps sp:=by
 obtain ⟨oc,od,kV,doc,pm,an,cdv,ct,osl,rfl,lk,hcd⟩:=F.ex
 exact fn_of lk hcd S len fun A outer s H vs Q E hr hsp=>hbody cdv A outer s H vs Q E hr hsp
theorem call_isinstB {K:PySem.W.Frag}{X:Cx}(hK:X.K=K):CallR X (.builtin "isinstance") (fun xs H Q=>∃ e C c b,xs=[.ref e,c]/\H e=some (exB e C)/\ExFind K C/\((∃ D,c=.ref D)\/∃ n,c=.ty n)/\PySem.W.kitOne K (.ref C) (clsVal c)=some b/\Q (.bl b) H):=by
 intro pins s σ H xs us Q I r h
 obtain ⟨e,C,c,b,rfl,he,F,hc,hk,q⟩:=h
 obtain ⟨u,u2,rfl,rx,ru⟩:=vals2 r
 cases rx
 have p:exAt e C s.heap:=(I.hok e _ he).1.1
 have kin:=I.kIn
 rw [hK] at kin
 have e2:u2=clsVal c:=by
  rcases hc with ⟨D,rfl⟩ | ⟨n,rfl⟩
  ·cases ru
   rfl
  ·cases ru
   rfl
 subst e2
 exact PySem.W.kia_one (kitx_exc F) kin p hk (fun z=>nomatch z) fun tk=>⟨.bl b,H,I.tok tk,rfl,q⟩
structure RoomN (eN:Addr)(k:Nat)(A:Around):Prop where
 hd:A.handled=some (.ref eN)
 dp:A.depth + 3 * k + 5 < recursionLimit
 un:A.units + 16 * k + 200 < cLine
theorem Room.marked {k:Nat}{A:Around}(r:Room k A)(e:Addr):RoomN e k (A.mark (some (.ref e))):=⟨rfl,r.dp,r.un⟩
theorem RoomN.deeper {eN:Addr}{k:Nat}{A:Around}(r:RoomN eN (k + 1) A)(env:Env):RoomN eN k (A.deeper env) :=
 ⟨r.hd,by have:=r.dp; show A.depth + 1 + 3 * k + 5 < _; omega,by have:=r.un; show A.units + 3 + 16 * k + 200 < _; omega⟩
theorem RoomN.mono {eN:Addr}{j k:Nat}{A:Around}(r:RoomN eN k A)(h:j<=k):RoomN eN j A:=⟨r.hd,by have:=r.dp; omega,by have:=r.un; omega⟩
theorem RoomN.depth {eN:Addr}{k:Nat}{A:Around}(r:RoomN eN k A):A.depth < recursionLimit:=by have:=r.dp; omega
structure FnOkN (eN:Addr)(P:Program)(w:World)(K:PySem.W.Frag)(mg:Str->Option Value)(base:Heap)(CX:CXT)(k:Nat)(f:Addr)(fd:FuncData)(ps:List Str)(sp:Sp):Prop where
 len:∀ vs H Q E,sp vs H Q E->vs.length=ps.length
 run:∀ (A:Around) (outer:List Env) (s:Shared) (H:Hp) (args:Args) (us:List Value) (vs:List V) (Q:VK) (E:XK),RoomN eN k A->Env0 P w K mg base A outer s H->BindsTo s fd args (ps.zip us)->Vals vs us->sp vs H Q E ->
  codeAny (model P w) A (.call (.ref f) args) (CR CX outer P w H s Q E) s
noncomputable def cxN (P:Program)(w:World)(K:PySem.W.Frag)(mg:Str->Option Value)(base:Heap)(N:List Str)(qual:Str)(scope:Scope)(f:Addr)(cd:Value)(A:Around)(outer:List Env)(s:Shared)(H:Hp)(E:XK):Cx:={ cxOf CX0 P w K mg base N qual scope f cd A outer s H E with calm:=false }
theorem inv_startN {P:Program}{w:World}{K:PySem.W.Frag}{mg:Str->Option Value}{base:Heap}{N ps:List Str}{qual:Str}{scope:Scope}{f:Addr}{cd:Value}{A:Around}{outer:List Env}{s s1:Shared}{H:Hp}{E:XK}{us:List Value}{vs:List V}
  (S:FnScope N ps scope) (e0:Env0 P w K mg base A outer s H) (hl:vs.length=ps.length) (r:Vals vs us)
  (x:InCallC s s.heap.objs.size (bindL (envOfC qual scope s.heap.objs.size f cd).kindOf (ps.zip us) fun _=>none) (cellsFrom (s.heap.objs.size + 1) scope.names []) (bindC (envOfC qual scope s.heap.objs.size f cd).kindOf (ps.zip us) fun _=>none) s1) :
  Inv (cxN P w K mg base N qual scope f cd A outer s H E) [] (start N vs) H s1:=by
 have hpl:ps.length<=N.length:=by have:=congrArg List.length S.pre; rw [List.length_take] at this; omega
 obtain ⟨h1,tk,rfl,hk⟩:=x.done
 have noA:∀ b:Addr,b ∉ (cxN P w K mg base N qual scope f cd A outer s H E).ex:=fun b z=>absurd (show b ∈ ([]:List Addr) from z) (by simp)
 refine ⟨⟨e0.mod,S.kind,rfl,rfl,Nat.le_refl _,fun y z c h1 h2=>?_,fun y hy=>?_,fun y c _ h=>?_,(fun z=>nomatch z),Around.frames_deeper e0.frames,.inr ⟨rfl,rfl⟩,fun b z=>absurd z (noA b),e0.bs,e0.bsz,fun b _ _=>noA b,fun b z=>absurd z (noA b),e0.funs,e0.frf⟩,
  rfl,e0.bare,Un.kept hk,⟨_,x.toInCall.ns,fun i y v h1 h2 h3=>?_⟩,fun y c h=>⟨_,x.cell y c h⟩,e0.hok.fresh (Nat.le_refl _),fun y c h=>?_,fun p hp=>absurd (show p ∈ ([]:List (Addr × Obj)) from hp) (by simp),e0.hok.kept hk,?_⟩
 ·exact name_of_addr x.apart (PySem.mem_of_lookup h1) (PySem.mem_of_lookup h2)
 ·have hy:scope.names.lookup y=some .cell\/scope.names.lookup y=some .free:=hy
  rcases hy with hy | hy
  ·exact cell_has hy
  ·exact absurd rfl (S.nofree _ (PySem.mem_of_lookup hy))
 ·exact Nat.le_of_lt (x.above y c (PySem.mem_of_lookup h))
 ·have hi:i < vs.length:=by
   unfold start at h2
   by_cases hi:i < vs.length
   ·exact hi
   ·rw [List.getElem?_append_right (by simpa using hi)] at h2
    rw [List.getElem?_replicate] at h2
    split at h2 <;> cases h2
  have ha:vs[i]?=some v:=by
   unfold start at h2
   rw [List.getElem?_append_left (by simpa using hi),List.getElem?_map] at h2
   cases e:vs[i]? with
   | none=>rw [e] at h2; cases h2
   | some a=>rw [e] at h2; cases h2; rfl
  obtain ⟨u,hu,rv⟩:=r.get ha
  have hp:ps[i]?=some y:=by
   rw [<- S.pre,List.getElem?_take_of_lt (by omega)]; exact h1
  have ndP:ps.Nodup:=by rw [<- S.pre]; exact S.nd.sublist (List.take_sublist _ _)
  refine ⟨u,rv,?_⟩
  rcases S.par y (List.mem_of_getElem? hp) with k | k
  ·exact .inl ⟨k,bindL_get ndP hp hu k⟩
  ·obtain ⟨c,e⟩:=cell_has (n:=s.heap.objs.size + 1) k
   refine .inr ⟨.inl k,c,e,?_⟩
   have q:=x.cell y c e
   rw [bindC_get ndP hp hu (by show scope.names.lookup y ≠ _; rw [k]; decide)] at q
   exact q
 ·exact e0.hok.fresh (Nat.le_of_lt (x.above y c (PySem.mem_of_lookup h)))
 ·unfold start
  show _=N.length
  rw [List.length_append,List.length_map,List.length_replicate]
  omega
theorem fn_ofN {eN:Addr}{P:Program}{w:World}{K:PySem.W.Frag}{mg:Str->Option Value}{base:Heap}{k:Nat}{f:Addr}{name qual:Str}{params:Arguments}{body:List Stmt}{scope:Scope}{dV kV doc pm cdv ct oc:Value}{an od:Option Addr}
  {osl:Array (Option Value)} {N ps:List Str} {sp:Sp} (lk:K.lookup f=some ⟨oc,od,.func (PySem.W.fnOf name qual params body scope dV kV doc pm an cdv ct),osl⟩) (hcd:PySem.W.codeIn K cdv qual=true) (S:FnScope N ps scope)
  (len:∀ vs H Q E,sp vs H Q E->vs.length=ps.length)
  (hbody:∀ (A:Around) (outer:List Env) (s:Shared) (H:Hp) (vs:List V) (Q:VK) (E:XK),RoomN eN k (A.deeper (envOfC qual scope s.heap.objs.size f cdv))->sp vs H Q E ->
   ∃ t,PSs (cxN P w K mg base N qual scope f cdv A outer s H E) body t/\t { nx:=fun _ H'=>Q .non H',rt:=Q } (start N vs) H) :
  FnOkN eN P w K mg base CX0 (k + 1) f (PySem.W.fnOf name qual params body scope dV kV doc pm an cdv ct) ps sp:=by
 refine ⟨len,fun A outer s H args us vs Q E hr e0 hb r hsp=>?_⟩
 have hl:=len _ _ _ _ hsp
 have KX:K.In s.heap:=e0.mod.kin.keeps fun b o e=>(e0.bs b o e).1
 have lim:s.heap.NoLimit:=e0.mod.nolimit.keeps fun b o e=>(e0.bs b o e).1
 have hkind:∀ y ∈ ps.zip us,scope.names.lookup y.1=some .local\/(scope.names.lookup y.1=some .cell/\((cellsFrom (s.heap.objs.size + 1) scope.names []).lookup y.1).isSome=true):=fun ⟨n,v⟩ hy=>by
  rcases S.par n (List.of_mem_zip hy).1 with q | q
  ·exact .inl q
  ·exact .inr ⟨q,PySem.W.cellsFrom_some _ _ _ (.inl q)⟩
 refine codeAny_call_function hr.depth (KX _ _ lk) rfl S.co S.gen rfl (PySem.W.codeRec_of KX hcd) (hb _ _ _ _ ?_)
 refine wpAny_newFunctionEnv_cells S.kind hkind fun env he s1 x=>?_
 subst he
 refine ⟨lim.keeps x.toInCall.keep,codeAny_func ?_⟩
 obtain ⟨t,ht,hq⟩:=hbody A outer s H vs Q E (hr.deeper _) hsp
 have I:Inv (cxN P w K mg base N qual scope f cdv A outer s H E) [] (start N vs) H s1:=inv_startN S e0 hl r x
 refine wpAny_mono (ht [] s1 (start N vs) H _ I hq) (fun fl s' hs=>?_) fun e s' hs=>hs
 have fin:∀ {σ':St} {H':Hp} {v:V} {u:Value},Inv (cxN P w K mg base N qual scope f cdv A outer s H E) [] σ' H' s'->RelV v u->Q v H'->CE outer P w H s Q u s' :=
  fun {σ' H' v u} J rv q=>⟨v,H',J.os,J.bare,J.base,J.hok,rv,q⟩
 cases fl with
 | ret u =>
  obtain ⟨v,σ',H',J,rv,q⟩:=hs
  exact fin J rv q
 | next =>
  obtain ⟨σ',H',J,q⟩:=hs
  exact fin (v:=V.non) (u:=Value.none) J rfl q
 | brk =>
  obtain ⟨_,_,_,q⟩:=hs
  exact False.elim q
 | cont =>
  obtain ⟨_,_,_,q⟩:=hs
  exact False.elim q
theorem Fun.okN {eN:Addr}{P:Program}{w:World}{K:PySem.W.Frag}{mg:Str->Option Value}{base:Heap}{x qual:Str}{st:Stmt}{f:Addr}{fd:FuncData}{N ps:List Str}{k:Nat}{sp:Sp}(F:Fun K x qual st f fd)(S:FnScope N ps (defScope st))(len:∀ vs H Q E,sp vs H Q E->vs.length=ps.length)
  (hbody:∀ (cdv:Value) (A:Around) (outer:List Env) (s:Shared) (H:Hp) (vs:List V) (Q:VK) (E:XK),RoomN eN k (A.deeper (envOfC qual (defScope st) s.heap.objs.size f cdv))->sp vs H Q E ->
   ∃ t,PSs (cxN P w K mg base N qual (defScope st) f cdv A outer s H E).nox (defBody st) t/\t { nx:=fun _ H'=>Q .non H',rt:=Q } (start N vs) H):FnOkN eN P w K mg base CX0 (k + 1) f fd ps sp:=by
 obtain ⟨oc,od,kV,doc,pm,an,cdv,ct,osl,rfl,lk,hcd⟩:=F.ex
 refine fn_ofN lk hcd S len fun A outer s H vs Q E hr hsp=>?_
 obtain ⟨t,h,q⟩:=hbody cdv A outer s H vs Q E hr hsp
 exact ⟨t,h.nox,q⟩
section
variable {X:Cx}{k k0:Nat}{f eN:Addr}{fd:FuncData}{ps:List Str}{sp:Sp}{x:Str}{p pos:Pos}{e:Expr}{es:List Expr}{t:TA}{st:Stmt}
theorem pe_callN (F:FnOkN eN X.prog X.w X.K X.mg X.base CX0 k f fd ps sp)(hr:RoomN eN k0 X.A)(D:DefAt X.K X.mg x st ps f fd)(ha:PA X (e :: es) t)(hk:k<=k0:=by decide)(hg:Gl X x:=by rfl)(hdb:(x == ("__debug__":Str))=false:=by decide)
  (he:starEach (e :: es) X.env=(false,eval e X.env) :: starEach es X.env:=by rfl) (hpl:(backTo pos (starEach es X.env)).any (·.1)=false:=by rfl) :
  PE X (.Call (.Name x p) (e :: es) [] pos) (tCall sp [] E0 t):=by
 intro pins s σ H Q I h
 refine wpAny_Call_Name_kw (ld_glob I hg D.g ?_ hdb)
 refine PySem.W.callWith_K (h₀:=X.base) I.ok.mod.kin D.F.kp (thn (ha pos pins s σ H _ I h) fun us s1 ⟨vs,H1,I1,r,q⟩=>⟨I1.kIn,?_⟩) he hpl
 have q:sp (vs++[]) H1 Q E0:=q
 rw [List.append_nil] at q
 have hl:us.length=ps.length:=by rw [<- r.length]; exact F.len _ _ _ _ q
 have bt:=D.b s1 us I1.kIn (by rw [List.append_nil]; exact hl)
 rw [List.append_nil] at bt
 refine wpAny_call (codeAny_mono (F.run X.A X.stack s1 H1 ⟨us,[]⟩ us vs Q E0 (hr.mono hk) I1.env0 bt r q) fun res s' hq=>?_)
 cases res with
 | error y=>exact False.elim hq
 | ok fl =>
  cases fl with
  | ret u=>exact I1.after hq
  | next=>exact False.elim hq
  | brk=>exact False.elim hq
  | cont=>exact False.elim hq
end
end L2
namespace L2
open PySem PySem.Spec PyProof.Rows PySem.W PySem.SeqAt
noncomputable def rRepZ:R2:=fun x y H Q=>∃ z k,x=.str z/\y=.int k/\0<=k/\k<=1000/\z.length<=1000/\∀ z':Str,z'.length=z.length * k.toNat->(∀ c ∈ z'.cps.toList,c ∈ z.cps.toList)->Q (.str z') H
section
variable {X:Cx}
theorem op_rep_strZ:OpR X (binaryOp .Mult) rRepZ:=by
 intro pins s σ H x y v u Q I rx ry h
 obtain ⟨z,k,rfl,rfl,k1,k2,hz,q⟩:=h
 by_cases k0:1<=k
 ·exact op_rep_str pins s σ H _ _ v u Q I rx ry ⟨z,k,rfl,rfl,k0,k2,hz,q⟩
 ·obtain rfl:k=0:=by omega
  obtain ⟨t,rfl⟩:=rx
  obtain ⟨t',rfl⟩:=ry
  refine PySem.P.mul_str rfl (fun h _=>absurd h (by decide)) (fun h _=>absurd h (by decide)) ?_
  rw [if_pos (by decide)]
  exact ⟨Nat.zero_le _,.str Str.empty,H,I.tok _,⟨_,rfl⟩,q Str.empty (by show 0=z.length * 0; rw [Nat.mul_zero]) fun c h=>by
   have h:c ∈ ([]:List Nat):=h
   cases h⟩
noncomputable def rLtL:R2:=fun x y H Q=>∃ ps qs,GS.LstAt H x ps/\GS.LstAt H y qs/\Q (.bl (ltL ps qs)) H
theorem op_lt_lists (hu:X.A.units + 64 < cLine):OpR X (compareOp .Lt) rLtL:=by
 intro pins s σ H x y v u Q I rx ry h
 obtain ⟨ps,qs,⟨a,ws,rfl,h1,t1⟩,⟨b,us,rfl,h2,t2⟩,q⟩:=h
 cases rx
 cases ry
 obtain ⟨z,its,n,rv,hl,e⟩:=I.lstM h1
 obtain ⟨z',its',n',rv',hl',e'⟩:=I.lstM h2
 have p1:=Tup2.pairs I t1 rv
 have p2:=Tup2.pairs I t2 rv'
 exact richCompare_meets_room (op:=.Lt) ⟨_,e,rfl⟩ ⟨_,e',rfl⟩ F.slot_list_lt F.entry_list_lt (F.args_list_lt_2 _ _) (list_ltLAt a b its.toArray its'.toArray n n' _ _ _ _ ps qs)
  ⟨e,e',by rw [List.toList_toArray]; exact p1,by rw [List.toList_toArray]; exact p2,(by omega),(fun x=>nomatch x),.bl (ltL ps qs),H,I,rfl,q⟩ (by omega)
theorem op_lt_any (hu:X.A.units + 64 < cLine):OpR X (compareOp .Lt) (fun x y H Q=>rLt2 x y H Q\/rLtL x y H Q):=by
 intro pins s σ H x y v u Q I rx ry h
 rcases h with h | h
 ·exact op_lt_deep hu pins s σ H x y v u Q I rx ry h
 ·exact op_lt_lists hu pins s σ H x y v u Q I rx ry h
end
end L2
namespace Cells
noncomputable def rowCs (p:Nat->Bool)(i:Nat):Nat->List Nat->List (Nat × Nat)
 | _,[]=>[]
 | j,c :: r=>(if p c=true then [(i,j)] else [])++rowCs p i (j + 1) r
noncomputable def allCs (p:Nat->Bool):Nat->List (List Nat)->List (Nat × Nat)
 | _,[]=>[]
 | i,t :: r=>rowCs p i 0 t++allCs p (i + 1) r
theorem rowCs_append (p:Nat->Bool)(i:Nat):∀ (j:Nat) (a b:List Nat),rowCs p i j (a++b)=rowCs p i j a++rowCs p i (j + a.length) b
 | j,[],b=>by simp [rowCs]
 | j,c :: a,b=>by
  simp only [List.cons_append,rowCs,rowCs_append p i (j + 1) a b,List.length_cons,List.append_assoc]
  rw [show j + 1 + a.length=j + (a.length + 1) by omega]
theorem allCs_append (p:Nat->Bool):∀ (i:Nat) (a b:List (List Nat)),allCs p i (a++b)=allCs p i a++allCs p (i + a.length) b
 | i,[],b=>by simp [allCs]
 | i,t :: a,b=>by
  simp only [List.cons_append,allCs,allCs_append p (i + 1) a b,List.length_cons,List.append_assoc]
  rw [show i + 1 + a.length=i + (a.length + 1) by omega]
theorem rowCs_step {p:Nat->Bool}{i j c:Nat}{t:List Nat}(h:t[j]?=some c):rowCs p i 0 (t.take (j + 1))=rowCs p i 0 (t.take j)++(if p c=true then [(i,j)] else []):=by
 rw [List.take_add_one,h,rowCs_append]
 have hl:(t.take j).length=j:=by
  have:=(List.getElem?_eq_some_iff.mp h).1
  rw [List.length_take]; omega
 simp [rowCs,hl]
theorem allCs_step {p:Nat->Bool}{i:Nat}{t:List Nat}{rs:List (List Nat)}(h:rs[i]?=some t):allCs p 0 (rs.take (i + 1))=allCs p 0 (rs.take i)++rowCs p i 0 t:=by
 rw [List.take_add_one,h,allCs_append]
 have hl:(rs.take i).length=i:=by
  have:=(List.getElem?_eq_some_iff.mp h).1
  rw [List.length_take]; omega
 simp [allCs,hl]
theorem rowCs_length (p:Nat->Bool)(i:Nat):∀ (j:Nat) (t:List Nat),(rowCs p i j t).length<=t.length
 | j,[]=>by simp [rowCs]
 | j,c :: r=>by
  have:=rowCs_length p i (j + 1) r
  simp only [rowCs,List.length_append,List.length_cons]
  split <;> simp <;> omega
theorem allCs_length (p:Nat->Bool):∀ (i:Nat) (rs:List (List Nat)),(∀ t ∈ rs,t.length<=8)->(allCs p i rs).length<=8 * rs.length
 | i,[],_=>by simp [allCs]
 | i,t :: r,h=>by
  have h1:=rowCs_length p i 0 t
  have h2:=allCs_length p (i + 1) r fun u hu=>h u (List.mem_cons_of_mem _ hu)
  have h3:=h t List.mem_cons_self
  simp only [allCs,List.length_append,List.length_cons]
  omega
theorem mem_rowCs {p:Nat->Bool}{i:Nat}:∀ {j:Nat} {t:List Nat} {x:Nat × Nat},x ∈ rowCs p i j t->∃ m c,x=(i,j + m)/\t[m]?=some c/\p c=true
 | j,[],x,h=>by simp [rowCs] at h
 | j,c :: r,x,h=>by
  simp only [rowCs,List.mem_append] at h
  rcases h with h | h
  ·split at h
   ·rename_i hp
    have:x=(i,j):=by simpa using h
    exact ⟨0,c,this,rfl,hp⟩
   ·cases h
  ·obtain ⟨m,c',e,h1,h2⟩:=mem_rowCs h
   exact ⟨m + 1,c',by rw [e,show j + 1 + m=j + (m + 1) by omega],by simpa using h1,h2⟩
theorem mem_allCs {p:Nat->Bool}:∀ {i:Nat} {rs:List (List Nat)} {x:Nat × Nat},x ∈ allCs p i rs->∃ k j t c,x=(i + k,j)/\rs[k]?=some t/\t[j]?=some c/\p c=true
 | i,[],x,h=>by simp [allCs] at h
 | i,t :: r,x,h=>by
  simp only [allCs,List.mem_append] at h
  rcases h with h | h
  ·obtain ⟨m,c,e,h1,h2⟩:=mem_rowCs h
   exact ⟨0,m,t,c,by simpa using e,rfl,h1,h2⟩
  ·obtain ⟨k,j,u,c,e,h1,h2,h3⟩:=mem_allCs h
   exact ⟨k + 1,j,u,c,by rw [e,show i + 1 + k=i + (k + 1) by omega],by simpa using h1,h2,h3⟩
noncomputable def sgn (rs:List (List Nat))(x:Nat × Nat):Nat:=(rs.getD x.1 []).getD x.2 0
theorem rowCs_filter {p q:Nat->Bool}{i:Nat}(f:Nat × Nat->Bool):∀ (j:Nat) (t:List Nat),(∀ m c,t[m]?=some c->f (i,j + m)=q c)->(rowCs p i j t).filter f=rowCs (fun c=>p c && q c) i j t
 | j,[],_=>by simp [rowCs]
 | j,c :: r,h=>by
  have ih:=rowCs_filter (p:=p) (q:=q) (i:=i) f (j + 1) r fun m c' hm=>by
   have:=h (m + 1) c' (by simpa using hm)
   rw [show j + 1 + m=j + (m + 1) by omega]; exact this
  have h0:=h 0 c rfl
  simp only [rowCs,List.filter_append,ih]
  congr 1
  simp only [Nat.add_zero] at h0
  by_cases hp:p c=true
  ·by_cases hq:q c=true
   ·simp [hp,hq,h0]
   ·simp [hp,hq,h0]
  ·simp [hp]
theorem allCs_filter {p q:Nat->Bool}(f:Nat × Nat->Bool):∀ (i:Nat) (rs:List (List Nat)),(∀ k t m c,rs[k]?=some t->t[m]?=some c->f (i + k,m)=q c)->(allCs p i rs).filter f=allCs (fun c=>p c && q c) i rs
 | i,[],_=>by simp [allCs]
 | i,t :: r,h=>by
  have ih:=allCs_filter (p:=p) (q:=q) f (i + 1) r fun k u m c hk hm=>by
   have:=h (k + 1) u m c (by simpa using hk) hm
   rw [show i + 1 + k=i + (k + 1) by omega]; exact this
  simp only [allCs,List.filter_append,ih]
  rw [rowCs_filter (p:=p) (q:=q) f 0 t fun m c hm=>by simpa using h 0 t m c rfl hm]
theorem sgn_at {rs:List (List Nat)}{i j:Nat}{t:List Nat}{c:Nat}(h:rs[i]?=some t)(h2:t[j]?=some c):sgn rs (i,j)=c:=by
 unfold sgn
 simp [List.getD,h,h2]
theorem all_filter {p q:Nat->Bool}(rs:List (List Nat)):(allCs p 0 rs).filter (fun x=>q (sgn rs x))=allCs (fun c=>p c && q c) 0 rs :=
 allCs_filter _ 0 rs fun k t m c hk hm=>by rw [show 0 + k=k by omega,sgn_at hk hm]
theorem allCs_congr {p q:Nat->Bool}(h:∀ c,p c=q c)(i:Nat)(rs:List (List Nat)):allCs p i rs=allCs q i rs:=by
 rw [show p=q from funext h]
end Cells
namespace Cells
noncomputable def near (x y:Nat × Nat):Bool:=decide ((if (x.1:Int) - (y.1:Int) < 0 then -((x.1:Int) - (y.1:Int)) else (x.1:Int) - (y.1:Int)) < 2) && (decide ((if (x.2:Int) - (y.2:Int) < 0 then -((x.2:Int) - (y.2:Int)) else (x.2:Int) - (y.2:Int)) < 2) && !decide (x=y))
theorem near_iff (x y:Nat × Nat):near x y=true ↔ (x.1<=y.1 + 1/\y.1<=x.1 + 1)/\(x.2<=y.2 + 1/\y.2<=x.2 + 1)/\¬ x=y:=by
 unfold near
 rw [Bool.and_eq_true,Bool.and_eq_true,decide_eq_true_iff,decide_eq_true_iff,Bool.not_eq_true',decide_eq_false_iff_not]
 constructor
 ·rintro ⟨h1,h2,h3⟩
  refine ⟨?_,?_,h3⟩
  ·split at h1 <;> omega
  ·split at h2 <;> omega
 ·rintro ⟨h1,h2,h3⟩
  refine ⟨?_,?_,h3⟩
  ·split <;> omega
  ·split <;> omega
noncomputable def lex (a b:Nat × Nat):Prop:=a.1 < b.1\/(a.1=b.1/\a.2 < b.2)
theorem rowCs_lex (p:Nat->Bool)(i:Nat):∀ (j:Nat) (t:List Nat),(rowCs p i j t).Pairwise lex
 | j,[]=>by simp [rowCs]
 | j,c :: r=>by
  simp only [rowCs]
  rw [List.pairwise_append]
  refine ⟨?_,rowCs_lex p i (j + 1) r,fun a ha b hb=>?_⟩
  ·split <;> simp
  ·split at ha
   ·have e:a=(i,j):=by simpa using ha
    obtain ⟨m,c',e',_,_⟩:=mem_rowCs hb
    subst e e'
    exact .inr ⟨rfl,by show j < j + 1 + m; omega⟩
   ·cases ha
theorem allCs_lex (p:Nat->Bool):∀ (i:Nat) (rs:List (List Nat)),(allCs p i rs).Pairwise lex
 | i,[]=>by simp [allCs]
 | i,t :: r=>by
  simp only [allCs]
  rw [List.pairwise_append]
  refine ⟨rowCs_lex p i 0 t,allCs_lex p (i + 1) r,fun a ha b hb=>?_⟩
  obtain ⟨m,c,e,_,_⟩:=mem_rowCs ha
  obtain ⟨k,j,u,c',e',_,_,_⟩:=mem_allCs hb
  subst e e'
  exact .inl (by show i < i + 1 + k; omega)
theorem rows_low {p:Nat->Bool}{f:Nat × Nat->Bool}{n:Nat}{rs:List (List Nat)}(h:∀ r c,r < n->f (r,c)=false):(allCs p 0 (rs.take n)).filter f=[]:=by
 rw [List.filter_eq_nil_iff]
 intro x hx
 obtain ⟨k,j,t,c,e,hk,_,_⟩:=mem_allCs hx
 have hkl:k < n:=by
  have:=(List.getElem?_eq_some_iff.mp hk).1
  rw [List.length_take] at this
  omega
 subst e
 rw [h _ _ (by omega)]
 exact Bool.false_ne_true
theorem rows_high {p:Nat->Bool}{f:Nat × Nat->Bool}{n:Nat}{rs:List (List Nat)}(h:∀ r c,n<=r->f (r,c)=false):(allCs p 0 (rs.take n)).filter f=(allCs p 0 rs).filter f:=by
 by_cases hn:n<=rs.length
 ·have e:=List.take_append_drop n rs
  have e2:allCs p 0 rs=allCs p 0 (rs.take n)++allCs p (0 + (rs.take n).length) (rs.drop n):=by rw [<- allCs_append,e]
  rw [e2,List.filter_append]
  have z:(allCs p (0 + (rs.take n).length) (rs.drop n)).filter f=[]:=by
   rw [List.filter_eq_nil_iff]
   intro x hx
   obtain ⟨k,j,t,c,e,hk,_,_⟩:=mem_allCs hx
   subst e
   rw [List.length_take,h _ _ (by omega)]
   exact Bool.false_ne_true
  rw [z,List.append_nil]
 ·rw [List.take_of_length_le (by omega)]
theorem cols_low {p:Nat->Bool}{f:Nat × Nat->Bool}{i n:Nat}{t:List Nat}(h:∀ c,c < n->f (i,c)=false):(rowCs p i 0 (t.take n)).filter f=[]:=by
 rw [List.filter_eq_nil_iff]
 intro x hx
 obtain ⟨m,c,e,hm,_⟩:=mem_rowCs hx
 have hml:m < n:=by
  have:=(List.getElem?_eq_some_iff.mp hm).1
  rw [List.length_take] at this
  omega
 subst e
 rw [h _ (by omega)]
 exact Bool.false_ne_true
theorem cols_high {p:Nat->Bool}{f:Nat × Nat->Bool}{i n:Nat}{t:List Nat}(h:∀ c,n<=c->f (i,c)=false):(rowCs p i 0 (t.take n)).filter f=(rowCs p i 0 t).filter f:=by
 by_cases hn:n<=t.length
 ·have e:=List.take_append_drop n t
  have e2:rowCs p i 0 t=rowCs p i 0 (t.take n)++rowCs p i (0 + (t.take n).length) (t.drop n):=by rw [<- rowCs_append,e]
  rw [e2,List.filter_append]
  have z:(rowCs p i (0 + (t.take n).length) (t.drop n)).filter f=[]:=by
   rw [List.filter_eq_nil_iff]
   intro x hx
   obtain ⟨m,c,e,hm,_⟩:=mem_rowCs hx
   subst e
   rw [List.length_take,h _ (by omega)]
   exact Bool.false_ne_true
  rw [z,List.append_nil]
 ·rw [List.take_of_length_le (by omega)]
end Cells
namespace Parts
end Parts
namespace Subs
variable {α:Type}
noncomputable def step (S:List (List α))(c:α):List (List α):=S++S.map (·++[c])
noncomputable def subs (cs:List α):List (List α):=cs.foldl step [[]]
noncomputable def pick:List α->Nat->List α
 | [],_=>[]
 | c :: r,b=>(if b % 2=1 then [c] else [])++pick r (b / 2)
theorem subs_snoc (cs:List α)(c:α):subs (cs++[c])=step (subs cs) c:=by
 unfold subs
 rw [List.foldl_append]
 rfl
theorem pick_lo:∀ (cs:List α) (c:α) (b:Nat),b < 2 ^ cs.length->pick (cs++[c]) b=pick cs b
 | [],c,b,h=>by
  have:b=0:=by
   simp at h
   omega
  subst this
  rfl
 | d :: r,c,b,h=>by
  show _++pick (r++[c]) (b / 2)=_++pick r (b / 2)
  rw [pick_lo r c (b / 2) (by
   rw [List.length_cons,Nat.pow_succ] at h
   omega)]
theorem pick_hi:∀ (cs:List α) (c:α) (b:Nat),b < 2 ^ cs.length->pick (cs++[c]) (2 ^ cs.length + b)=pick cs b++[c]
 | [],c,b,h=>by
  have:b=0:=by
   simp at h
   omega
  subst this
  rfl
 | d :: r,c,b,h=>by
  rw [List.length_cons,Nat.pow_succ] at h
  show (if (2 ^ (r.length + 1) + b) % 2=1 then [d] else [])++pick (r++[c]) ((2 ^ (r.length + 1) + b) / 2)=((if b % 2=1 then [d] else [])++pick r (b / 2))++[c]
  have e1:(2 ^ (r.length + 1) + b) % 2=b % 2:=by
   rw [Nat.pow_succ]
   omega
  have e2:(2 ^ (r.length + 1) + b) / 2=2 ^ r.length + b / 2:=by
   rw [Nat.pow_succ]
   omega
  rw [e1,e2,pick_hi r c (b / 2) (by omega),List.append_assoc]
theorem subs_pick (cs:List α):subs cs=(List.range (2 ^ cs.length)).map (pick cs):=by
 rw [<- List.reverse_reverse cs]
 induction cs.reverse with
 | nil=>rfl
 | cons c r ih =>
  rw [List.reverse_cons,subs_snoc,ih,List.length_append,List.length_singleton,Nat.pow_succ,Nat.mul_two,List.range_add,List.map_append,List.map_map]
  unfold step
  rw [List.map_map]
  congr 1
  ·refine List.map_congr_left fun b hb=>?_
   exact (pick_lo _ _ _ (List.mem_range.mp hb)).symm
  ·refine List.map_congr_left fun b hb=>?_
   exact (pick_hi _ _ _ (List.mem_range.mp hb)).symm
noncomputable def stepN (n:Int)(F:List (List α))(c:α):List (List α):=F++(F.filter fun p=>decide (((p.length:Nat):Int) < n)).map (·++[c])
theorem filter_step (n:Int)(hn:0<=n)(c:α)(S:List (List α)):stepN n (S.filter fun p=>decide (((p.length:Nat):Int)<=n)) c=(step S c).filter fun p=>decide (((p.length:Nat):Int)<=n):=by
 unfold stepN step
 rw [List.filter_append]
 congr 1
 rw [List.filter_filter,List.filter_map]
 congr 1
 refine List.filter_congr fun p _=>?_
 show (decide (((p.length:Nat):Int) < n) && decide (((p.length:Nat):Int)<=n))=decide ((((p++[c]).length:Nat):Int)<=n)
 rw [List.length_append,List.length_singleton,Bool.eq_iff_iff]
 simp only [Bool.and_eq_true,decide_eq_true_eq]
 omega
theorem foldN (n:Int)(hn:0<=n):∀ (cs:List α) (S:List (List α)),cs.foldl (stepN n) (S.filter fun p=>decide (((p.length:Nat):Int)<=n))=(cs.foldl step S).filter fun p=>decide (((p.length:Nat):Int)<=n)
 | [],_=>rfl
 | c :: r,S=>by
  rw [List.foldl_cons,List.foldl_cons,filter_step n hn,foldN n hn r]
theorem picks_are (n:Int)(hn:0<=n)(cs:List α):(cs.foldl (stepN n) [[]]).filter (fun p=>decide (((p.length:Nat):Int)=n))=(subs cs).filter fun p=>decide (((p.length:Nat):Int)=n):=by
 have h:=foldN n hn cs [[]]
 have e:([[]]:List (List α)).filter (fun p=>decide (((p.length:Nat):Int)<=n))=[[]]:=by
  simp [hn]
 rw [e] at h
 rw [h,List.filter_filter]
 refine List.filter_congr fun p _=>?_
 rw [Bool.eq_iff_iff]
 simp only [Bool.and_eq_true,decide_eq_true_eq]
 omega
end Subs
namespace Choose
noncomputable def ch:Nat->Nat->Nat
 | _,0=>1
 | 0,_ + 1=>0
 | n + 1,k + 1=>ch n k + ch n (k + 1)
theorem ch_zero (n:Nat):ch n 0=1:=by cases n <;> rfl
theorem ch_beyond:∀ (n k:Nat),n < k->ch n k=0
 | 0,0,h=>absurd h (by omega)
 | 0,k + 1,_=>rfl
 | n + 1,0,h=>absurd h (by omega)
 | n + 1,k + 1,h=>by
  show ch n k + ch n (k + 1)=0
  rw [ch_beyond n k (by omega),ch_beyond n (k + 1) (by omega)]
theorem ch_step:∀ n k:Nat,(k + 1) * ch n (k + 1) + k * ch n k=n * ch n k
 | 0,0=>rfl
 | 0,k + 1=>by
  show (k + 1 + 1) * 0 + (k + 1) * 0=0 * 0
  simp
 | n + 1,0=>by
  have h:=ch_step n 0
  rw [ch_zero] at h ⊢
  show (0 + 1) * (ch n 0 + ch n (0 + 1)) + 0 * 1=(n + 1) * 1
  rw [ch_zero]
  omega
 | n + 1,j + 1=>by
  have h1:=ch_step n (j + 1)
  have h2:=ch_step n j
  show (j + 1 + 1) * (ch n (j + 1) + ch n (j + 1 + 1)) + (j + 1) * (ch n j + ch n (j + 1))=(n + 1) * (ch n j + ch n (j + 1))
  generalize ch n (j + 1 + 1)=C2 at *
  generalize ch n (j + 1)=C1 at *
  generalize ch n j=C0 at *
  simp only [Nat.add_mul,Nat.mul_add,Nat.one_mul] at *
  omega
theorem ch_turn {n k:Nat}(h:k < n):(ch n k:Int) * ((n:Int) - k) / ((k:Int) + 1)=ch n (k + 1):=by
 have e:=ch_step n k
 have e2:(ch n k:Int) * ((n:Int) - k)=(ch n (k + 1):Int) * ((k:Int) + 1):=by
  have:((k + 1) * ch n (k + 1) + k * ch n k:Int)=(n * ch n k:Int):=by exact_mod_cast e
  rw [Int.mul_sub,Int.mul_comm (ch n k:Int) n,<- this,Int.mul_comm (ch n (k + 1):Int) ((k:Int) + 1),Int.mul_comm (ch n k:Int) (k:Int)]
  omega
 rw [e2]
 exact Int.mul_ediv_cancel _ (by omega)
end Choose
namespace K13
open PySem L2
variable {P:Program}{w:World}{K:PySem.W.Frag}{mg:Str->Option Value}{base:Heap}{f:Addr}{fd:FuncData}
noncomputable abbrev top (i:Nat):Stmt:=K13E.top i
noncomputable abbrev s_closed:Stmt:=top 14
noncomputable abbrev s_open_cells:Stmt:=top 15
noncomputable abbrev s_around:Stmt:=top 16
noncomputable abbrev s_number_at:Stmt:=top 17
noncomputable abbrev s_cells_of:Stmt:=top 18
noncomputable abbrev s_sign_at:Stmt:=top 19
noncomputable abbrev s_layings:Stmt:=top 22
noncomputable abbrev s_numbers_told:Stmt:=top 23
noncomputable abbrev s_wrong_number:Stmt:=top 24
noncomputable abbrev s_picks:Stmt:=top 25
noncomputable abbrev s_law_cell_at:Stmt:=top 27
noncomputable abbrev s_law_classes:Stmt:=top 28
noncomputable abbrev s_law_told:Stmt:=top 29
noncomputable abbrev s_law_many:Stmt:=top 30
noncomputable abbrev s_law_rising:Stmt:=top 31
noncomputable abbrev s_law_text:Stmt:=top 32
noncomputable abbrev s_law_good:Stmt:=top 33
noncomputable abbrev s_law_near:Stmt:=top 34
noncomputable abbrev s_law:Stmt:=top 35
structure Txt (mg:Str->Option Value):Prop where
 b_ValueError:mg "ValueError"=none
 b_abs:mg "abs"=none
 b_all:mg "all"=none
 b_enumerate:mg "enumerate"=none
 b_int:mg "int"=none
 b_isinstance:mg "isinstance"=none
 b_len:mg "len"=none
 b_list:mg "list"=none
 b_max:mg "max"=none
 b_min:mg "min"=none
 b_range:mg "range"=none
 b_sorted:mg "sorted"=none
 b_str:mg "str"=none
 b_zip:mg "zip"=none
 v_CLOSED_SIGN:∃ t,mg "CLOSED_SIGN"=some (.str "?" t)
 v_MOST_CLOSED:∃ t,mg "MOST_CLOSED"=some (.int 12 t)
 v_NO_CELL_SIGN:∃ t,mg "NO_CELL_SIGN"=some (.str "#" t)
structure Prog (K:PySem.W.Frag)(mg:Str->Option Value):Prop where
 closed:∃ (f:Addr) (fd:FuncData),DefAt K mg "closed" s_closed ["board"] f fd
 open_cells:∃ (f:Addr) (fd:FuncData),DefAt K mg "open_cells" s_open_cells ["board"] f fd
 around:∃ (f:Addr) (fd:FuncData),DefAt K mg "around" s_around ["board","cell"] f fd
 number_at:∃ (f:Addr) (fd:FuncData),DefAt K mg "number_at" s_number_at ["board","cell"] f fd
 cells_of:∃ (f:Addr) (fd:FuncData),DefAt K mg "cells_of" s_cells_of ["board"] f fd
 sign_at:∃ (f:Addr) (fd:FuncData),DefAt K mg "sign_at" s_sign_at ["board","cell"] f fd
 layings:∃ (f:Addr) (fd:FuncData),DefAt K mg "layings" s_layings ["board"] f fd
 numbers_told:∃ (f:Addr) (fd:FuncData),DefAt K mg "numbers_told" s_numbers_told ["board"] f fd
 wrong_number:∃ (f:Addr) (fd:FuncData),DefAt K mg "wrong_number" s_wrong_number ["told","cells"] f fd
 picks:∃ (f:Addr) (fd:FuncData),DefAt K mg "picks" s_picks ["cells","size"] f fd
 law_cell_at:∃ (f:Addr) (fd:FuncData),DefAt K mg "_law_cell_at" s_law_cell_at ["_law_script","_law_k"] f fd
 law_classes:∃ (f:Addr) (fd:FuncData),DefAt K mg "_law_classes" s_law_classes ["_law_e"] f fd
 law_told:∃ (f:Addr) (fd:FuncData),DefAt K mg "_law_told" s_law_told ["_law_board"] f fd
 law_many:∃ (f:Addr) (fd:FuncData),DefAt K mg "_law_many" s_law_many ["_law_cells","_law_stones"] f fd
 law_rising:∃ (f:Addr) (fd:FuncData),DefAt K mg "_law_rising" s_law_rising ["_law_some"] f fd
 law_text:∃ (f:Addr) (fd:FuncData),DefAt K mg "_law_text" s_law_text ["_law_script"] f fd
 law_good:∃ (f:Addr) (fd:FuncData),DefAt K mg "_law_good" s_law_good ["_law_one","_law_cells","_law_stones","_law_near_here","_law_number"] f fd
 law_near:∃ (f:Addr) (fd:FuncData),DefAt K mg "_law_near" s_law_near ["_law_cells","_law_at"] f fd
noncomputable def spCell (K:PySem.W.Frag):Sp:=fun vs H Q _=>∃ (a:Addr) (ns:List Int) (k:Int),vs=[.ref a,.int k]/\SqL K H a (ns.map V.int)/\0<=k/\∀ z:Int,Q (.int z) H
structure Row (signs:List Nat)(n:Nat)(t:Str):Prop where
 len:t.cps.size=n
 mem:∀ c ∈ t.cps.toList,c ∈ signs
structure Rows (signs:List Nat)(rs:List Str):Prop where
 lo:1<=rs.length
 hi:rs.length<=8
 ex:∃ n,1<=n/\n<=8/\∀ t ∈ rs,Row signs n t
noncomputable def bd:Str:="?012345678#"
theorem sc_law_cell_at:FnScope ["_law_script","_law_k"] ["_law_script","_law_k"] (defScope s_law_cell_at):=⟨rfl,rfl,rfl,by decide +kernel,rfl,by decide +kernel,by decide +kernel⟩
theorem ok_law_cell_at (T:Txt mg)(D:DefAt K mg "_law_cell_at" s_law_cell_at ["_law_script","_law_k"] f fd):FnOk P w K mg base CX0 1 f fd ["_law_script","_law_k"] (spCell K):=by
 refine D.F.ok sc_law_cell_at (fun vs H Q E h=>?_) (fun cdv A outer s H vs Q E hr h=>?_)
 ·obtain ⟨a,ns,i,rfl,_⟩:=h
  rfl
 ·obtain ⟨a,ns,i,rfl,hS,hi,k⟩:=h
  refine ⟨_,(pss_cons (ps_if (pt_cmpR op_lt (pv 1) (pe_callB call_len_seq (by rfl) T.b_len PySem.boot_len (pa_cons (pv 0) pa_nil)) (nomark _)) (pss_one (ps_ret (pe_ix ix_list (pv 0) (pv 1) (fun _ _=>rfl)))) pss_nil)
   (pss_one (ps_ret pe_int))),?_⟩
  refine ⟨_,rfl,_,rfl,a,_,rfl,.inl hS,_,_,rfl,rfl,_,rfl,?_⟩
  refine ite2 (fun c=>?_) (fun c=>?_)
  ·have c':i < ((ns.map V.int).length:Nat):=of_decide_eq_true c
   rw [List.length_map] at c'
   have hl:i.toNat < ns.length:=by omega
   refine ⟨_,rfl,_,rfl,a,_,i,.int ns[i.toNat],rfl,rfl,hS,atI_lt hi (by rw [List.getElem?_map,List.getElem?_eq_getElem hl]; rfl),?_⟩
   exact k _
  ·exact k 0
structure BoardAt (H:Hp)(p l:Addr)(rs:List Str)(n:Int):Prop where
 tp:H p=some (.tup [.ref l,.int n])
 rw:H l=some (.lst (rs.map V.str))
theorem bd_small:∀ c ∈ bd.cps.toList,c < 1114112:=by decide +kernel
theorem lay_str {n:Nat}{t:Str}(r:Row bd.cps.toList n t):PyData.canLay0 (.str t)=true:=by
 show t.cps.all (· < 0x110000)=true
 rw [Array.all_eq_true']
 intro c hc
 exact decide_eq_true (bd_small c (r.mem c (Array.mem_toList_iff.mpr hc)))
theorem lay_strs {rs:List Str}{n:Nat}(h:∀ t ∈ rs,Row bd.cps.toList n t):PyData.canLayAll0 (rs.map PyData.str)=true:=by
 induction rs with
 | nil=>rfl
 | cons t r ih =>
  show (PyData.canLay0 (.str t) && PyData.canLayAll0 (r.map PyData.str))=true
  rw [lay_str (h t List.mem_cons_self),ih fun u hu=>h u (List.mem_cons_of_mem _ hu)]
  rfl
theorem depth_strs (rs:List Str):PyData.depthAll (rs.map PyData.str)=0:=by
 induction rs with
 | nil=>rfl
 | cons t r ih =>
  show max (PyData.depth (.str t)) (PyData.depthAll (r.map PyData.str))=0
  rw [ih]
  rfl
theorem Rows.cmp {rs:List Str}(R:Rows bd.cps.toList rs):CmpD (.list (rs.map PyData.str)) (.list (rs.map PyData.str)):=by
 obtain ⟨n,_,_,h⟩:=R.ex
 refine ⟨lay_strs h,lay_strs h,?_⟩
 show PyData.depthAll (rs.map PyData.str) + 1<=64
 rw [depth_strs]
 decide
noncomputable def bData (rs:List Str)(n:Int):PyData:=.tuple [.list (rs.map PyData.str),.int n]
theorem Rows.cmpB {rs:List Str}(R:Rows bd.cps.toList rs)(n:Int):CmpD (bData rs n) (bData rs n):=by
 have c:=R.cmp
 have h1:PyData.canLay0 (bData rs n)=true:=by
  show (PyData.canLay0 (.list (rs.map PyData.str)) && (PyData.canLay0 (.int n) && true))=true
  rw [c.l1]
  rfl
 refine ⟨h1,h1,?_⟩
 show max (PyData.depthAll (rs.map PyData.str) + 1) (max 0 0) + 1<=64
 rw [depth_strs]
 decide
theorem BoardAt.rdv {K:PySem.W.Frag}{H:Hp}{p l:Addr}{rs:List Str}{n:Int}(b:BoardAt H p l rs n):Rdv K H (.ref p) (bData rs n):=.tup (SqT.of b.tp) (.cons (.lst (SqL.of b.rw) (rdv_strs rs)) (.cons (.int n) .nil))
theorem BoardAt.mono {H H':Hp}{p l:Addr}{rs:List Str}{n:Int}(b:BoardAt H p l rs n)(s:Same H H'):BoardAt H' p l rs n:=⟨s _ _ b.tp,s _ _ b.rw⟩
noncomputable def codes (rs:List Str):List (List Nat):=rs.map fun t=>t.cps.toList
theorem codes_get {rs:List Str}{i:Nat}{t:Str}(h:rs[i]?=some t):(codes rs)[i]?=some t.cps.toList:=by
 unfold codes
 rw [List.getElem?_map,h]
 rfl
theorem codes_inv {rs:List Str}{i:Nat}{u:List Nat}(h:(codes rs)[i]?=some u):∃ t,rs[i]?=some t/\u=t.cps.toList:=by
 unfold codes at h
 rw [List.getElem?_map] at h
 cases e:rs[i]? with
 | none =>
  rw [e] at h
  cases h
 | some t =>
  rw [e] at h
  cases h
  exact ⟨t,rfl,rfl⟩
theorem codes_len (rs:List Str):(codes rs).length=rs.length:=by
 unfold codes
 rw [List.length_map]
theorem Rows.short {s:List Nat}{rs:List Str}(R:Rows s rs):∀ u ∈ codes rs,u.length<=8:=fun u hu=>by
 obtain ⟨t,ht,rfl⟩:=List.mem_map.mp hu
 obtain ⟨n,_,h8,q⟩:=R.ex
 have:=(q t ht).len
 rw [Array.length_toList]
 omega
theorem Rows.tlen {s:List Nat}{rs:List Str}{i:Nat}{t:Str}(R:Rows s rs)(h:rs[i]?=some t):t.length<=sizeLine:=by
 obtain ⟨n,_,h8,q⟩:=R.ex
 have e:t.length=n:=(q t (List.mem_of_getElem? h)).len
 rw [e]
 exact Nat.le_trans h8 (by decide)
noncomputable def CelR (H:Hp)(v:V)(c:Nat × Nat):Prop:=∃ a,v=V.ref a/\H a=some (.tup [.int (c.1:Nat),.int (c.2:Nat)])
noncomputable def Cel (H:Hp):List V->List (Nat × Nat)->Prop:=Paired (CelR H)
theorem Cel.mono {H H':Hp}(s:Same H H'){vs:List V}{cs:List (Nat × Nat)}(hp:Cel H vs cs):Cel H' vs cs:=by
 induction hp with
 | nil=>exact .nil
 | cons q _ ih =>
  obtain ⟨a,e,h⟩:=q
  exact .cons ⟨a,e,s _ _ h⟩ ih
theorem Cel.snoc {H:Hp}{vs:List V}{cs:List (Nat × Nat)}{v:V}{c:Nat × Nat}(h:Cel H vs cs)(x:CelR H v c):Cel H (vs++[v]) (cs++[c]):=Paired.snoc h x
theorem Cel.append {H:Hp}{vs ws:List V}{cs ds:List (Nat × Nat)}(h:Cel H vs cs)(k:Cel H ws ds):Cel H (vs++ws) (cs++ds):=pr_app h k
theorem Cel.into {H:Hp}(z:Addr)(o:HO){old:List V}(hz:H z=some (.lst old)){vs:List V}{cs:List (Nat × Nat)}(hp:Cel H vs cs):Cel (upd H z o) vs cs:=by
 induction hp with
 | nil=>exact .nil
 | cons q _ ih =>
  obtain ⟨a,e,h⟩:=q
  exact .cons ⟨a,e,by rw [upd_ne (ne_of h hz (by intro y; cases y))]; exact h⟩ ih
theorem Cel.length {H:Hp}{vs:List V}{cs:List (Nat × Nat)}(h:Cel H vs cs):vs.length=cs.length:=Paired.length h
theorem Cel.get {H:Hp}:∀ {vs:List V} {cs:List (Nat × Nat)} {i:Nat} {v:V},Cel H vs cs->vs[i]?=some v->∃ c,cs[i]?=some c/\CelR H v c
 | _,_,_,_,.nil,e=>by simp at e
 | _,_,0,_,.cons r _,e=>by
  simp at e
  subst e
  exact ⟨_,rfl,r⟩
 | _,_,i + 1,v,.cons _ t,e=>by
  obtain ⟨c,h1,h2⟩:=Cel.get (i:=i) (v:=v) t (by simpa using e)
  exact ⟨c,by simpa using h1,h2⟩
noncomputable def cData (c:Nat × Nat):PyData:=.tuple [.int (c.1:Nat),.int (c.2:Nat)]
theorem CelR.rdv {K:PySem.W.Frag}{H:Hp}{v:V}{c:Nat × Nat}(h:CelR H v c):Rdv K H v (cData c):=by
 obtain ⟨a,rfl,h⟩:=h
 exact .tup (SqT.of h) (.cons (.int _) (.cons (.int _) .nil))
theorem cData_cmp (c d:Nat × Nat):CmpD (cData c) (cData d):=⟨rfl,rfl,by show max 0 (max 0 0) + 1<=64; decide⟩
theorem cData_eqv (c d:Nat × Nat):PyData.eqv (cData c) (cData d)=decide (c=d):=by
 obtain ⟨a,b⟩:=c
 obtain ⟨x,y⟩:=d
 show ((((a:Nat):Int) == ((x:Nat):Int)) && ((((b:Nat):Int) == ((y:Nat):Int)) && true))=decide ((a,b)=(x,y))
 by_cases h1:a=x
 ·by_cases h2:b=y
  ·subst h1 h2
   simp
  ·have:¬ ((b:Int)=(y:Int)):=by omega
   simp [h2,this]
 ·have:¬ ((a:Int)=(x:Int)):=by omega
  simp [h1,this]
theorem one_eq (c k:Nat):(V.str ⟨#[c]⟩=V.str ⟨#[k]⟩)=(c=k):=by
 apply propext
 constructor
 ·intro h
  have h2:(⟨#[c]⟩:Str)=⟨#[k]⟩:=V.str.inj h
  have h3:(#[c]:Array Nat)=#[k]:=congrArg Str.cps h2
  simpa using h3
 ·rintro rfl
  rfl
theorem hash_is:("#":Str)=⟨#[35]⟩:=by decide +kernel
theorem ask_is:("?":Str)=⟨#[63]⟩:=by decide +kernel
noncomputable def pCell (c:Nat):Bool:=!decide (c=35)
noncomputable def pShut (c:Nat):Bool:=decide (c=63)
noncomputable def pOpen (c:Nat):Bool:=pCell c && !decide (c=63)
noncomputable def spSign:Sp:=fun vs H Q _=>∃ (p l c:Addr) (rs:List Str) (n:Int) (i j:Nat) (t:Str) (k:Nat),vs=[.ref p,.ref c]/\BoardAt H p l rs n/\H c=some (.tup [.int (i:Nat),.int (j:Nat)])/\rs[i]?=some t/\t.cps.toList[j]?=some k/\t.length<=sizeLine/\Q (.str ⟨#[k]⟩) H
noncomputable def spList (p:Nat->Bool):Sp:=fun vs H Q _=>∃ (a l:Addr) (rs:List Str) (n:Int),vs=[.ref a]/\BoardAt H a l rs n/\Rows bd.cps.toList rs /\
 ∀ (d:Addr) (ws:List V) (H':Hp),H d=none->H' d=some (.lst ws)->Cel H' ws (Cells.allCs p 0 (codes rs))->Same H H'->Q (.ref d) H'
noncomputable def spNumber:Sp:=fun vs H Q _=>∃ (p l c:Addr) (rs:List Str) (n:Int) (i j:Nat) (t:Str) (k:Nat),vs=[.ref p,.ref c]/\BoardAt H p l rs n/\H c=some (.tup [.int (i:Nat),.int (j:Nat)])/\rs[i]?=some t/\t.cps.toList[j]?=some k/\t.length<=sizeLine/\48<=k/\k<=56/\Q (.int ((k:Int) - 48)) H
theorem int_sign {k:Nat}(h1:48<=k)(h2:k<=56):PySem.intText? ⟨#[k]⟩=some ((k:Int) - 48):=by
 have:∀ k ∈ List.range 57,48<=k->PySem.intText? ⟨#[k]⟩=some ((k:Int) - 48):=by decide +kernel
 exact this k (List.mem_range.mpr (by omega)) h1
theorem sc_sign_at:FnScope ["board","cell"] ["board","cell"] (defScope s_sign_at):=⟨rfl,rfl,rfl,by decide +kernel,rfl,by decide +kernel,by decide +kernel⟩
theorem ok_sign_at (D:DefAt K mg "sign_at" s_sign_at ["board","cell"] f fd):FnOk P w K mg base CX0 1 f fd ["board","cell"] spSign:=by
 refine D.F.ok sc_sign_at (fun vs H Q E h=>?_) (fun cdv A outer s H vs Q E hr h=>?_)
 ·obtain ⟨p,l,c,rs,n,i,j,t,k,rfl,_⟩:=h
  rfl
 ·obtain ⟨p,l,c,rs,n,i,j,t,k,rfl,b,hc,hi,hj,hl,q⟩:=h
  refine ⟨_,(pss_one (ps_ret (pe_ix ix_str (pe_ix ix_list (pe_ix ix_tup (pv 0) pe_int (fun _ _=>rfl)) (pe_ix ix_tup (pv 1) pe_int (fun _ _=>rfl)) (fun _ _=>rfl)) (pe_ix ix_tup (pv 1) pe_int (fun _ _=>rfl)) (fun _ _=>rfl)))),?_⟩
  exact ⟨_,rfl,p,_,0,_,rfl,rfl,SqT.of b.tp,rfl,_,rfl,c,_,0,_,rfl,rfl,SqT.of hc,rfl,l,_,_,_,rfl,rfl,SqL.of b.rw,atI_nat (v:=V.str t) (by rw [List.getElem?_map,hi]; rfl),_,rfl,c,_,1,_,rfl,rfl,SqT.of hc,rfl,t,_,k,rfl,rfl,hl,atI_nat hj,q⟩
theorem sc_cells_of:FnScope ["board","found","row","text"] ["board"] (defScope s_cells_of):=⟨rfl,rfl,rfl,by decide +kernel,rfl,by decide +kernel,by decide +kernel⟩
theorem ok_cells_of (T:Txt mg)(D:DefAt K mg "cells_of" s_cells_of ["board"] f fd):FnOk P w K mg base CX0 1 f fd ["board"] (spList pCell):=by
 refine D.F.ok sc_cells_of (fun vs H Q E h=>?_) (fun cdv A outer s H vs Q E hr h=>?_)
 ·obtain ⟨a,l,rs,n,rfl,_⟩:=h
  rfl
 ·obtain ⟨a,l,rs,n,rfl,b,R,q⟩:=h
  refine ⟨_,(pss_cons (ps_set (i:=1) sc_cells_of.nd rfl (Or.inl rfl) (pe_lst pa_nil))
   (pss_cons (ps_for PassesOwn.never rfl (pi_enumL (by rfl) T.b_enumerate (pa_cons (pe_ix ix_tup (pv 0) pe_int (fun _ _=>rfl)) pa_nil)) (pg_tup rfl (pgs_cons (pg_name (i:=2) sc_cells_of.nd rfl (Or.inr rfl)) (pgs_cons (pg_name (i:=3) sc_cells_of.nd rfl (Or.inl rfl)) pgs_nil))) (pss_one (ps_expr (pe_bm PySem.F.plainAttrs_list PySem.F.slot_list_extend PySem.F.type_list_extend mt_extend (pv 1) (pa_cons (pe_comp (N:=["column","sign","row"]) (src:=[none,none,some 2]) (CompOk.free (O:=(defScope s_cells_of).names) (XN:=["board","found","row","text"]) rfl rfl ⟨_,rfl⟩ rfl rfl (by decide +kernel) (by decide +kernel) (by decide +kernel) rfl (by decide +kernel)) rfl (pi_enumS (by rfl) T.b_enumerate (pa_cons (pv 3) pa_nil)) (fun _ _ _ _ _=>(pg_tupK (n:=2) (K:=K) (by rfl) rfl (pgs_cons (pg_name (i:=0) (by show List.Nodup (["column","sign","row"]:List Str); decide +kernel) rfl (Or.inl rfl)) (pgs_cons (pg_name (i:=1) (by show List.Nodup (["column","sign","row"]:List Str); decide +kernel) rfl (Or.inl rfl)) pgs_nil)))) (fun _ _ _ _ _=>(pifs_one (pt_cmpR op_ne (pv 1) (pe_glob (v:=.str "#") (by rfl) T.v_NO_CELL_SIGN.choose_spec (by exact ⟨_,rfl⟩)) (nomark _)))) (fun _ _ _ _ _=>(pe_tup (pa_cons (pv 2) (pa_cons (pv 0) pa_nil))))) pa_nil)))))
   (pss_one (ps_ret (pv 1))))),?_⟩
  refine ⟨sz_0,fun d hd=>?_⟩
  have s0:Same H (upd H d (.lst [])):=same_new hd
  refine ⟨_,rfl,a,_,0,_,rfl,rfl,SqT.of (b.mono s0).tp,rfl,l,rfl,⟨_,SqL.of (b.mono s0).rw⟩,?_⟩
  refine for_enumL (K:=K) (l:=l) (xs:=rs.map V.str) (fun i σ H'=>∃ (v2 v3:Option V) (ws:List V),σ=[some (.ref a),some (.ref d),v2,v3]/\Same H H'/\H' d=some (.lst ws)/\Cel H' ws (Cells.allCs pCell 0 ((codes rs).take i)))
   ⟨_,_,[],rfl,s0,upd_same,.nil⟩ (fun i σ H' _ ⟨_,_,_,_,s1,_⟩=>SqL.of (b.mono s1).rw) ?_ ?_
  ·rintro i x tt σ H1 hx htt ⟨v2,v3,ws,rfl,s1,hd1,hc1⟩
   rw [List.getElem?_map] at hx
   cases e:rs[i]? with
   | none =>
    rw [e] at hx
    cases hx
   | some t =>
    rw [e] at hx
    cases hx
    have hil:i < rs.length:=(List.getElem?_eq_some_iff.mp e).1
    have st:Same H1 (upd H1 tt (.tup [.int (i:Nat),.str t])):=same_new htt
    refine ⟨tt,_,rfl,SqT.of upd_same,rfl,_,_,rfl,_,_,rfl,rfl,?_⟩
    have hd2:upd H1 tt (.tup [.int (i:Nat),.str t]) d=some (.lst ws):=st _ _ hd1
    refine ⟨_,rfl,.inl ⟨rfl,_,SqL.of hd2⟩,_,rfl,t,rfl,fun z hz=>?_⟩
    refine comp_enumS (x:=t) (fun j σ H'=>∃ (u0 u1:Option V) (ys:List V),σ=[u0,u1,some (.int (i:Nat))]/\Same (upd H1 tt (.tup [.int (i:Nat),.str t])) H'/\H' z=some (.lst ys)/\Cel H' ys (Cells.rowCs pCell i 0 (t.cps.toList.take j)))
     ⟨_,_,[],rfl,same_new hz,upd_same,.nil⟩ ?_ ?_
    ·rintro j c t2 σ H2 hc ht2 ⟨u0,u1,ys,rfl,s2,hz2,hc2⟩
     refine ⟨t2,_,rfl,SqT.of upd_same,rfl,_,_,rfl,_,_,rfl,rfl,?_⟩
     refine ⟨_,rfl,rfl,_,rfl,?_⟩
     have hc':t.cps.toList[j]?=some c:=by rw [Array.getElem?_toList]; exact hc
     have s3:Same H2 (upd H2 t2 (.tup [.int (j:Nat),.str ⟨#[c]⟩])):=same_new ht2
     have step:=Cells.rowCs_step (p:=pCell) (i:=i) hc'
     have ed:(!decide (V.str ⟨#[c]⟩=V.str "#"))=pCell c:=by
      rw [hash_is]
      simp only [one_eq]
      rfl
     rw [ed]
     by_cases hp:pCell c=true
     ·rw [hp] at step
      refine iteP hp ?_
      refine ⟨_,rfl,_,rfl,sz_2,fun t3 ht3=>?_⟩
      have nz3:z ≠ t3:=ne_of_none (s3 _ _ hz2) ht3
      have s4:Same (upd H2 t2 (.tup [.int (j:Nat),.str ⟨#[c]⟩])) (upd (upd H2 t2 (.tup [.int (j:Nat),.str ⟨#[c]⟩])) t3 (.tup [.int (i:Nat),.int (j:Nat)])):=same_new ht3
      have hlen:ys.length<=8:=by
       rw [hc2.length]
       refine Nat.le_trans (Cells.rowCs_length _ _ _ _) ?_
       have:=R.short _ (List.mem_of_getElem? (codes_get e))
       rw [List.length_take]
       omega
      refine ⟨ys,s4 _ _ (s3 _ _ hz2),Nat.lt_of_le_of_lt hlen (by decide),some (.int (j:Nat)),some (.str ⟨#[c]⟩),ys++[.ref t3],rfl,fun b' o e'=>?_,upd_same,?_⟩
      ·have hb:b' ≠ z:=fun y=>by
        subst y
        rw [hz] at e'
        cases e'
       rw [upd_ne hb]
       exact s4 _ _ (s3 _ _ (s2 _ _ e'))
      ·rw [step]
       have keep:∀ x o,x ≠ z->upd (upd H2 t2 (.tup [.int (j:Nat),.str ⟨#[c]⟩])) t3 (.tup [.int (i:Nat),.int (j:Nat)]) x=some o->upd (upd (upd H2 t2 (.tup [.int (j:Nat),.str ⟨#[c]⟩])) t3 (.tup [.int (i:Nat),.int (j:Nat)])) z (.lst (ys++[.ref t3])) x=some o:=fun x o hx e'=>by
        rw [upd_ne hx]
        exact e'
       refine Cel.snoc ?_ ⟨t3,rfl,keep _ _ nz3.symm upd_same⟩
       exact Cel.into z (.lst (ys++[.ref t3])) (s4 _ _ (s3 _ _ hz2)) (Cel.mono s4 (Cel.mono s3 hc2))
     ·have hp':pCell c=false:=by simpa using hp
      rw [hp'] at step
      refine iteN hp' ?_
      refine ⟨some (.int (j:Nat)),some (.str ⟨#[c]⟩),ys,rfl,s2.trans s3,s3 _ _ hz2,?_⟩
      rw [step]
      simpa using Cel.mono s3 hc2
    ·rintro σ H2 ⟨u0,u1,ys,rfl,s2,hz2,hc2⟩
     have hne:d ≠ z:=ne_of_none hd2 hz
     have hd3:H2 d=some (.lst ws):=s2 _ _ hd2
     have full:t.cps.toList.take t.cps.size=t.cps.toList:=by
      rw [<- Array.length_toList,List.take_length]
     rw [full] at hc2
     have step:=Cells.allCs_step (p:=pCell) (codes_get e)
     have l1:ws.length<=64:=by
      rw [hc1.length]
      refine Nat.le_trans (Cells.allCs_length _ _ _ fun u hu=>R.short u (List.mem_of_mem_take hu)) ?_
      have:=R.hi
      rw [List.length_take,codes_len]
      omega
     have l2:ys.length<=8:=by
      rw [hc2.length]
      exact Nat.le_trans (Cells.rowCs_length _ _ _ _) (R.short _ (List.mem_of_getElem? (codes_get e)))
     refine ⟨d,z,ws,ys,rfl,rfl,hd3,hz2,Nat.le_trans (Nat.add_le_add l1 l2) (by decide),?_⟩
     refine ⟨_,_,ws++ys,rfl,fun b' o e'=>?_,upd_same,?_⟩
     ·have hb:b' ≠ d:=fun y=>by
       subst y
       rw [hd] at e'
       cases e'
      rw [upd_ne hb]
      exact s2 _ _ (st _ _ (s1 _ _ e'))
     ·rw [step]
      exact Cel.into d _ hd3 (Cel.append (Cel.mono s2 (Cel.mono st hc1)) hc2)
  ·rintro σ H1 ⟨v2,v3,ws,rfl,s1,hd1,hc1⟩
   rw [List.length_map,<- codes_len,List.take_length] at hc1
   exact ⟨_,rfl,q d ws H1 hd hd1 hc1 s1⟩
theorem shut_is (c:Nat):(pCell c && decide (c=63))=pShut c:=by
 unfold pCell pShut
 by_cases h:c=63
 ·subst h
  rfl
 ·simp [h]
theorem sc_closed:FnScope ["board"] ["board"] (defScope s_closed):=⟨rfl,rfl,rfl,by decide +kernel,rfl,by decide +kernel,by decide +kernel⟩
theorem ok_closed {f1 f2:Addr}{fd1 fd2:FuncData}(T:Txt mg)(D:DefAt K mg "closed" s_closed ["board"] f fd)(D_cells_of:DefAt K mg "cells_of" s_cells_of ["board"] f1 fd1)(D_sign_at:DefAt K mg "sign_at" s_sign_at ["board","cell"] f2 fd2) :
  FnOk P w K mg base CX0 2 f fd ["board"] (spList pShut):=by
 refine D.F.ok sc_closed (fun vs H Q E h=>?_) (fun cdv A outer s H vs Q E hr h=>?_)
 ·obtain ⟨a,l,rs,n,rfl,_⟩:=h
  rfl
 ·obtain ⟨a,l,rs,n,rfl,b,R,q⟩:=h
  refine ⟨_,(pss_one (ps_ret (pe_comp (N:=["cell","board"]) (src:=[none,some 0]) (CompOk.free (O:=(defScope s_closed).names) (XN:=["board"]) rfl rfl ⟨_,rfl⟩ rfl rfl (by decide +kernel) (by decide +kernel) (by decide +kernel) rfl (by decide +kernel)) rfl (pi_list (pc0 (ok_cells_of T D_cells_of) hr D_cells_of (pa_cons (pv 0) pa_nil))) (fun _ _ _ _ _=>(pg_name (i:=0) (by show List.Nodup (["cell","board"]:List Str); decide +kernel) rfl (Or.inl rfl))) (fun _ _ _ _ _=>(pifs_one (pt_cmpR op_eq (pc0 (ok_sign_at D_sign_at) hr D_sign_at (pa_cons (pv 1) (pa_cons (pv 0) pa_nil))) (pe_glob (v:=.str "?") (by rfl) T.v_CLOSED_SIGN.choose_spec (by exact ⟨_,rfl⟩)) (nomark _)))) (fun _ _ _ _ _=>(pv 0))))),?_⟩
  refine ⟨_,rfl,a,l,rs,n,rfl,b,R,fun d ws H1 hd hd1 hc1 s1=>⟨d,rfl,⟨_,SqL.of hd1⟩,fun z hz=>?_⟩⟩
  have nz:d ≠ z:=ne_of_none hd1 hz
  refine comp_list (K:=K) (a:=d) (xs:=ws) (fun i σ H'=>∃ (u0:Option V) (ys:List V),σ=[u0,some (.ref a)]/\Same H1 H'/\H' z=some (.lst ys)/\Cel H' ys (((Cells.allCs pCell 0 (codes rs)).take i).filter fun x=>decide (Cells.sgn (codes rs) x=63)))
   ⟨_,[],rfl,same_new hz,upd_same,.nil⟩ (fun i σ H' _ ⟨_,_,_,s2,_⟩=>SqL.of (s2 _ _ hd1)) ?_ ?_
  ·rintro i x σ H2 hx ⟨u0,ys,rfl,s2,hz2,hc2⟩
   obtain ⟨c,hci,ca,rfl,hca⟩:=Cel.get (Cel.mono s2 hc1) hx
   obtain ⟨k0,j,u,k,ec,hk0,hj,hpc⟩:=Cells.mem_allCs (List.mem_of_getElem? hci)
   obtain ⟨t,ht,rfl⟩:=codes_inv hk0
   rw [Nat.zero_add] at ec
   subst ec
   refine ⟨_,rfl,_,rfl,a,l,ca,rs,n,k0,j,t,k,rfl,(b.mono s1).mono s2,hca,ht,hj,R.tlen ht,rfl,_,rfl,?_⟩
   have es:Cells.sgn (codes rs) (k0,j)=k:=Cells.sgn_at hk0 hj
   have step:((Cells.allCs pCell 0 (codes rs)).take (i + 1)).filter (fun x=>decide (Cells.sgn (codes rs) x=63))=((Cells.allCs pCell 0 (codes rs)).take i).filter (fun x=>decide (Cells.sgn (codes rs) x=63))++(if decide (k=63)=true then [(k0,j)] else []):=by
    rw [List.take_add_one,hci,List.filter_append]
    congr 1
    show List.filter _ [(k0,j)]=_
    rw [List.filter_cons]
    try dsimp only
    rw [es]
    split <;> rfl
   have ed:decide (V.str ⟨#[k]⟩=V.str "?")=decide (k=63):=by
    rw [ask_is]
    simp only [one_eq]
   rw [ed]
   by_cases hp:decide (k=63)=true
   ·rw [if_pos hp] at step
    refine iteP hp ?_
    have hlen:ys.length<=64:=by
     rw [hc2.length]
     refine Nat.le_trans (List.length_filter_le _ _) ?_
     rw [List.length_take]
     have h1:=Cells.allCs_length pCell 0 (codes rs) R.short
     have h2:=R.hi
     rw [codes_len] at h1
     omega
    refine ⟨_,rfl,ys,hz2,Nat.lt_of_le_of_lt hlen (by decide),_,ys++[.ref ca],rfl,fun b' o e'=>?_,upd_same,?_⟩
    ·have hb:b' ≠ z:=fun y=>by
      subst y
      rw [hz] at e'
      cases e'
     rw [upd_ne hb]
     exact s2 _ _ e'
    ·rw [step]
     exact Cel.into z _ hz2 (Cel.snoc hc2 ⟨ca,rfl,hca⟩)
   ·rw [if_neg hp] at step
    refine iteN (by simpa using hp) ?_
    refine ⟨_,ys,rfl,s2,hz2,?_⟩
    rw [step]
    simpa using hc2
  ·rintro σ H2 ⟨u0,ys,rfl,s2,hz2,hc2⟩
   rw [hc1.length,List.take_length,Cells.all_filter (p:=pCell) (q:=fun k=>decide (k=63)) (codes rs)] at hc2
   have hz0:H z=none:=s1.free hz
   exact q z ys H2 hz0 hz2 (by rw [Cells.allCs_congr (q:=pShut) shut_is] at hc2; exact hc2) (s1.trans s2)
theorem sc_open_cells:FnScope ["board"] ["board"] (defScope s_open_cells):=⟨rfl,rfl,rfl,by decide +kernel,rfl,by decide +kernel,by decide +kernel⟩
theorem ok_open_cells {f1 f2:Addr}{fd1 fd2:FuncData}(T:Txt mg)(D:DefAt K mg "open_cells" s_open_cells ["board"] f fd)(D_cells_of:DefAt K mg "cells_of" s_cells_of ["board"] f1 fd1)(D_sign_at:DefAt K mg "sign_at" s_sign_at ["board","cell"] f2 fd2) :
  FnOk P w K mg base CX0 2 f fd ["board"] (spList pOpen):=by
 refine D.F.ok sc_open_cells (fun vs H Q E h=>?_) (fun cdv A outer s H vs Q E hr h=>?_)
 ·obtain ⟨a,l,rs,n,rfl,_⟩:=h
  rfl
 ·obtain ⟨a,l,rs,n,rfl,b,R,q⟩:=h
  refine ⟨_,(pss_one (ps_ret (pe_comp (N:=["cell","board"]) (src:=[none,some 0]) (CompOk.free (O:=(defScope s_open_cells).names) (XN:=["board"]) rfl rfl ⟨_,rfl⟩ rfl rfl (by decide +kernel) (by decide +kernel) (by decide +kernel) rfl (by decide +kernel)) rfl (pi_list (pc0 (ok_cells_of T D_cells_of) hr D_cells_of (pa_cons (pv 0) pa_nil))) (fun _ _ _ _ _=>(pg_name (i:=0) (by show List.Nodup (["cell","board"]:List Str); decide +kernel) rfl (Or.inl rfl))) (fun _ _ _ _ _=>(pifs_one (pt_cmpR op_ne (pc0 (ok_sign_at D_sign_at) hr D_sign_at (pa_cons (pv 1) (pa_cons (pv 0) pa_nil))) (pe_glob (v:=.str "?") (by rfl) T.v_CLOSED_SIGN.choose_spec (by exact ⟨_,rfl⟩)) (nomark _)))) (fun _ _ _ _ _=>(pv 0))))),?_⟩
  refine ⟨_,rfl,a,l,rs,n,rfl,b,R,fun d ws H1 hd hd1 hc1 s1=>⟨d,rfl,⟨_,SqL.of hd1⟩,fun z hz=>?_⟩⟩
  have nz:d ≠ z:=ne_of_none hd1 hz
  refine comp_list (K:=K) (a:=d) (xs:=ws) (fun i σ H'=>∃ (u0:Option V) (ys:List V),σ=[u0,some (.ref a)]/\Same H1 H'/\H' z=some (.lst ys)/\Cel H' ys (((Cells.allCs pCell 0 (codes rs)).take i).filter fun x=>!decide (Cells.sgn (codes rs) x=63)))
   ⟨_,[],rfl,same_new hz,upd_same,.nil⟩ (fun i σ H' _ ⟨_,_,_,s2,_⟩=>SqL.of (s2 _ _ hd1)) ?_ ?_
  ·rintro i x σ H2 hx ⟨u0,ys,rfl,s2,hz2,hc2⟩
   obtain ⟨c,hci,ca,rfl,hca⟩:=Cel.get (Cel.mono s2 hc1) hx
   obtain ⟨k0,j,u,k,ec,hk0,hj,hpc⟩:=Cells.mem_allCs (List.mem_of_getElem? hci)
   obtain ⟨t,ht,rfl⟩:=codes_inv hk0
   rw [Nat.zero_add] at ec
   subst ec
   refine ⟨_,rfl,_,rfl,a,l,ca,rs,n,k0,j,t,k,rfl,(b.mono s1).mono s2,hca,ht,hj,R.tlen ht,rfl,_,rfl,?_⟩
   have es:Cells.sgn (codes rs) (k0,j)=k:=Cells.sgn_at hk0 hj
   have step:((Cells.allCs pCell 0 (codes rs)).take (i + 1)).filter (fun x=>!decide (Cells.sgn (codes rs) x=63))=((Cells.allCs pCell 0 (codes rs)).take i).filter (fun x=>!decide (Cells.sgn (codes rs) x=63))++(if (!decide (k=63))=true then [(k0,j)] else []):=by
    rw [List.take_add_one,hci,List.filter_append]
    congr 1
    show List.filter _ [(k0,j)]=_
    rw [List.filter_cons]
    try dsimp only
    rw [es]
    split <;> rfl
   have ed:(!decide (V.str ⟨#[k]⟩=V.str "?"))=(!decide (k=63)):=by
    rw [ask_is]
    simp only [one_eq]
   rw [ed]
   by_cases hp:(!decide (k=63))=true
   ·rw [if_pos hp] at step
    refine iteP hp ?_
    have hlen:ys.length<=64:=by
     rw [hc2.length]
     refine Nat.le_trans (List.length_filter_le _ _) ?_
     rw [List.length_take]
     have h1:=Cells.allCs_length pCell 0 (codes rs) R.short
     have h2:=R.hi
     rw [codes_len] at h1
     omega
    refine ⟨_,rfl,ys,hz2,Nat.lt_of_le_of_lt hlen (by decide),_,ys++[.ref ca],rfl,fun b' o e'=>?_,upd_same,?_⟩
    ·have hb:b' ≠ z:=fun y=>by
      subst y
      rw [hz] at e'
      cases e'
     rw [upd_ne hb]
     exact s2 _ _ e'
    ·rw [step]
     exact Cel.into z _ hz2 (Cel.snoc hc2 ⟨ca,rfl,hca⟩)
   ·rw [if_neg hp] at step
    refine iteN (by simpa using hp) ?_
    refine ⟨_,ys,rfl,s2,hz2,?_⟩
    rw [step]
    simpa using hc2
  ·rintro σ H2 ⟨u0,ys,rfl,s2,hz2,hc2⟩
   rw [hc1.length,List.take_length,Cells.all_filter (p:=pCell) (q:=fun k=>(!decide (k=63))) (codes rs)] at hc2
   have hz0:H z=none:=s1.free hz
   exact q z ys H2 hz0 hz2 hc2 (s1.trans s2)
theorem sc_number_at:FnScope ["board","cell"] ["board","cell"] (defScope s_number_at):=⟨rfl,rfl,rfl,by decide +kernel,rfl,by decide +kernel,by decide +kernel⟩
theorem ok_number_at {f1:Addr}{fd1:FuncData}(T:Txt mg)(D:DefAt K mg "number_at" s_number_at ["board","cell"] f fd)(D_sign_at:DefAt K mg "sign_at" s_sign_at ["board","cell"] f1 fd1):FnOk P w K mg base CX0 2 f fd ["board","cell"] spNumber:=by
 refine D.F.ok sc_number_at (fun vs H Q E h=>?_) (fun cdv A outer s H vs Q E hr h=>?_)
 ·obtain ⟨p,l,c,rs,n,i,j,t,k,rfl,_⟩:=h
  rfl
 ·obtain ⟨p,l,c,rs,n,i,j,t,k,rfl,b,hc,hi,hj,hl,k1,k2,q⟩:=h
  refine ⟨_,(pss_one (ps_ret (pe_callTy call_int_str (by rfl) T.b_int PyProof.Rows.boot_int (pa_cons (pc0 (ok_sign_at D_sign_at) hr D_sign_at (pa_cons (pv 0) (pa_cons (pv 1) pa_nil))) pa_nil)))),?_⟩
  exact ⟨_,rfl,_,rfl,p,l,c,rs,n,i,j,t,k,rfl,b,hc,hi,hj,hl,⟨#[k]⟩,_,rfl,int_sign k1 k2,(by show 1<=640; decide),q⟩
theorem open_sign {k:Nat}(h:k ∈ bd.cps.toList)(hp:pOpen k=true):48<=k/\k<=56:=by
 have:∀ k ∈ bd.cps.toList,pOpen k=true->48<=k/\k<=56:=by decide +kernel
 exact this k h hp
noncomputable def aroundC (rs:List Str)(y:Nat × Nat):List (Nat × Nat):=(Cells.allCs pCell 0 (codes rs)).filter fun x=>Cells.near x y
noncomputable def spAround:Sp:=fun vs H Q _=>∃ (p l ca:Addr) (rs:List Str) (n:Int) (i j:Nat),vs=[.ref p,.ref ca]/\BoardAt H p l rs n/\Rows bd.cps.toList rs/\H ca=some (.tup [.int (i:Nat),.int (j:Nat)])/\i < 64/\j < 64 /\
 ∀ (d:Addr) (ws:List V) (H':Hp),H d=none->H' d=some (.lst ws)->Cel H' ws (aroundC rs (i,j))->Same H H'->Q (.ref d) H'
theorem cast_max (i:Nat):(if (0:Int) > (i:Int) - 1 then (0:Int) else (i:Int) - 1)=((i - 1:Nat):Int):=by
 split <;> omega
theorem cast_min (i m:Nat):(if ((m:Nat):Int) < (i:Int) + 2 then ((m:Nat):Int) else (i:Int) + 2)=((min (i + 2) m:Nat):Int):=by
 split <;> omega
theorem filter_snoc {f:Nat × Nat->Bool}{l:List (Nat × Nat)}{x:Nat × Nat}(a:Bool):(l++(if a=true then [x] else [])).filter f=l.filter f++(if (a && f x)=true then [x] else []):=by
 rw [List.filter_append]
 congr 1
 by_cases h:a=true
 ·by_cases h2:f x=true
  ·simp [h,h2]
  ·simp [h,h2]
 ·simp [h]
theorem sc_around:FnScope ["board","cell","rows","found","row","column"] ["board","cell"] (defScope s_around):=⟨rfl,rfl,rfl,by decide +kernel,rfl,by decide +kernel,by decide +kernel⟩
theorem ok_around (T:Txt mg)(D:DefAt K mg "around" s_around ["board","cell"] f fd):FnOk P w K mg base CX0 1 f fd ["board","cell"] spAround:=by
 refine D.F.ok sc_around (fun vs H Q E h=>?_) (fun cdv A outer s H vs Q E hr h=>?_)
 ·obtain ⟨p,l,ca,rs,n,i,j,rfl,_⟩:=h
  rfl
 ·obtain ⟨p,l,ca,rs,n,i,j,rfl,b,R,hca,hi64,hj64,q⟩:=h
  refine ⟨_,(pss_cons (ps_set (i:=2) sc_around.nd rfl (Or.inl rfl) (pe_ix ix_tup (pv 0) pe_int (fun _ _=>rfl)))
   (pss_cons (ps_set (i:=3) sc_around.nd rfl (Or.inl rfl) (pe_lst pa_nil))
   (pss_cons (ps_for PassesOwn.never rfl (pi_range2 (by rfl) T.b_range (pa_cons (pe_callB (call_max2 rfl) (by rfl) T.b_max PyProof.Rows.boot_max (pa_cons (pe_op op_sub (pe_ix ix_tup (pv 1) pe_int (fun _ _=>rfl)) pe_int) (pa_cons pe_int pa_nil))) (pa_cons (pe_callB (call_min2 rfl) (by rfl) T.b_min PyProof.Rows.boot_min (pa_cons (pe_op op_add (pe_ix ix_tup (pv 1) pe_int (fun _ _=>rfl)) pe_int) (pa_cons (pe_callB call_len_seq (by rfl) T.b_len PySem.boot_len (pa_cons (pv 2) pa_nil)) pa_nil))) pa_nil))) (pg_name (i:=4) sc_around.nd rfl (Or.inl rfl)) (pss_one (ps_for PassesOwn.never rfl (pi_range2 (by rfl) T.b_range (pa_cons (pe_callB (call_max2 rfl) (by rfl) T.b_max PyProof.Rows.boot_max (pa_cons (pe_op op_sub (pe_ix ix_tup (pv 1) pe_int (fun _ _=>rfl)) pe_int) (pa_cons pe_int pa_nil))) (pa_cons (pe_callB (call_min2 rfl) (by rfl) T.b_min PyProof.Rows.boot_min (pa_cons (pe_op op_add (pe_ix ix_tup (pv 1) pe_int (fun _ _=>rfl)) pe_int) (pa_cons (pe_callB call_len_str (by rfl) T.b_len PySem.boot_len (pa_cons (pe_ix ix_list (pv 2) (pv 4) (fun _ _=>rfl)) pa_nil)) pa_nil))) pa_nil))) (pg_name (i:=5) sc_around.nd rfl (Or.inl rfl)) (pss_one (ps_if (PW.pt (pw_and (pt_cmpR op_ne (pe_ix ix_str (pe_ix ix_list (pv 2) (pv 4) (fun _ _=>rfl)) (pv 5) (fun _ _=>rfl)) (pe_glob (v:=.str "#") (by rfl) T.v_NO_CELL_SIGN.choose_spec (by exact ⟨_,rfl⟩)) (nomark _)) (pw_and1 (pt_cmpR (op_ne_deep hr.units) (pe_tup (pa_cons (pv 4) (pa_cons (pv 5) pa_nil))) (pv 1) (nomark _))))) (pss_one (ps_expr (pe_bm PySem.F.plainAttrs_list PySem.F.slot_list_append PySem.F.type_list_append mt_append (pv 3) (pa_cons (pe_tup (pa_cons (pv 4) (pa_cons (pv 5) pa_nil))) pa_nil)))) pss_nil)))))
   (pss_one (ps_ret (pv 3)))))),?_⟩
  refine ⟨_,rfl,p,_,0,_,rfl,rfl,SqT.of b.tp,rfl,?_⟩
  refine ⟨sz_0,fun d hd=>?_⟩
  have s0:Same H (upd H d (.lst [])):=same_new hd
  have r8:=R.hi
  refine ⟨_,rfl,ca,_,0,_,rfl,rfl,SqT.of (s0 _ _ hca),rfl,_,_,rfl,rfl,_,_,rfl,_,rfl,ca,_,0,_,rfl,rfl,SqT.of (s0 _ _ hca),rfl,_,_,rfl,rfl,_,rfl,l,_,rfl,.inl (SqL.of (b.mono s0).rw),_,_,rfl,((i - 1:Nat):Int),((min (i + 2) rs.length:Nat):Int),?_,⟨by omega,by omega,by omega,by omega⟩,?_⟩
  ·show [V.int (if (0:Int) > (i:Int) - 1 then (0:Int) else (i:Int) - 1),V.int (if (((rs.map V.str).length:Nat):Int) < (i:Int) + 2 then (((rs.map V.str).length:Nat):Int) else (i:Int) + 2)]=_
   rw [List.length_map,cast_max,cast_min]
  refine for_range (lo:=((i - 1:Nat):Int)) (fun k σ H'=>∃ (v4 v5:Option V) (ws:List V),σ=[some (.ref p),some (.ref ca),some (.ref l),some (.ref d),v4,v5]/\Same H H'/\H' d=some (.lst ws)/\Cel H' ws ((Cells.allCs pCell 0 ((codes rs).take (i - 1 + k))).filter fun x=>Cells.near x (i,j)))
   ⟨_,_,[],rfl,s0,upd_same,?_⟩ ?_ ?_
  ·rw [Cells.rows_low]
   ·exact .nil
   ·intro r c hr'
    rw [Bool.eq_false_iff,ne_eq,Cells.near_iff]
    rintro ⟨⟨_,h2⟩,_⟩
    dsimp only at h2
    omega
  ·rintro k σ H1 hk ⟨v4,v5,ws,rfl,s1,hd1,hc1⟩
   have hrl:i - 1 + k < rs.length:=by omega
   have ecast:((i - 1:Nat):Int) + (k:Nat)=((i - 1 + k:Nat):Int):=by omega
   rw [ecast]
   generalize hr0:i - 1 + k=r at *
   obtain ⟨t,ht⟩:∃ t,rs[r]?=some t:=⟨_,List.getElem?_eq_getElem hrl⟩
   have htl:t.length<=sizeLine:=R.tlen ht
   have ht8:t.cps.toList.length<=8:=R.short _ (List.mem_of_getElem? (codes_get ht))
   have hat:atI (rs.map V.str) ((r:Nat):Int)=some (V.str t):=atI_nat (by rw [List.getElem?_map,ht]; rfl)
   refine ⟨_,rfl,ca,_,1,_,rfl,rfl,SqT.of (s1 _ _ hca),rfl,_,_,rfl,rfl,_,_,rfl,_,rfl,ca,_,1,_,rfl,rfl,SqT.of (s1 _ _ hca),rfl,_,_,rfl,rfl,_,rfl,_,rfl,l,_,_,_,rfl,rfl,SqL.of (b.mono s1).rw,hat,t,rfl,htl,_,_,rfl,((j - 1:Nat):Int),((min (j + 2) t.cps.size:Nat):Int),?_,⟨by omega,by omega,by omega,?_⟩,?_⟩
   ·show [V.int (if (0:Int) > (j:Int) - 1 then (0:Int) else (j:Int) - 1),V.int (if ((t.cps.size:Nat):Int) < (j:Int) + 2 then ((t.cps.size:Nat):Int) else (j:Int) + 2)]=_
    rw [cast_max,cast_min]
   ·omega
   have hsz:t.cps.toList.length=t.cps.size:=Array.length_toList
   refine for_range (lo:=((j - 1:Nat):Int)) (fun m σ H'=>∃ (v5:Option V) (ws:List V),σ=[some (.ref p),some (.ref ca),some (.ref l),some (.ref d),some (.int (r:Nat)),v5]/\Same H H'/\H' d=some (.lst ws)/\Cel H' ws ((Cells.allCs pCell 0 ((codes rs).take r)).filter (fun x=>Cells.near x (i,j))++(Cells.rowCs pCell r 0 (t.cps.toList.take (j - 1 + m))).filter fun x=>Cells.near x (i,j)))
    ⟨_,ws,rfl,s1,hd1,?_⟩ ?_ ?_
   ·rw [Cells.cols_low (t:=t.cps.toList),List.append_nil]
    ·exact hc1
    ·intro c hc'
     rw [Bool.eq_false_iff,ne_eq,Cells.near_iff]
     rintro ⟨_,⟨_,h2⟩,_⟩
     dsimp only at h2
     omega
   ·rintro m σ H2 hm ⟨v5,ws2,rfl,s2,hd2,hc2⟩
    have hcl:j - 1 + m < t.cps.size:=by omega
    have ecast2:((j - 1:Nat):Int) + (m:Nat)=((j - 1 + m:Nat):Int):=by omega
    rw [ecast2]
    generalize hc0:j - 1 + m=c at *
    have hc0':j - 1 + (m + 1)=c + 1:=by omega
    obtain ⟨k0,hk0⟩:∃ k0,t.cps.toList[c]?=some k0:=⟨_,List.getElem?_eq_getElem (by omega)⟩
    have step:=Cells.rowCs_step (p:=pCell) (i:=r) hk0
    have step2:(Cells.rowCs pCell r 0 (t.cps.toList.take (c + 1))).filter (fun x=>Cells.near x (i,j))=(Cells.rowCs pCell r 0 (t.cps.toList.take c)).filter (fun x=>Cells.near x (i,j))++(if (pCell k0 && Cells.near (r,c) (i,j))=true then [(r,c)] else []):=by
     rw [step,filter_snoc]
    have nr:Cells.near (r,c) (i,j)=!decide ((r,c)=(i,j)):=by
     rw [Bool.eq_iff_iff,Cells.near_iff]
     simp only [Bool.not_eq_true',decide_eq_false_iff_not]
     constructor
     ·exact fun h=>h.2.2
     ·intro h
      refine ⟨⟨?_,?_⟩,⟨?_,?_⟩,h⟩ <;> (try dsimp only) <;> omega
    refine ⟨_,rfl,_,rfl,l,_,_,_,rfl,rfl,SqL.of (b.mono s2).rw,hat,_,rfl,t,_,k0,rfl,rfl,htl,atI_nat hk0,rfl,_,rfl,?_⟩
    have ed:(!decide (V.str ⟨#[k0]⟩=V.str "#"))=pCell k0:=by
     rw [hash_is]
     simp only [one_eq]
     rfl
    rw [ed]
    by_cases hp:pCell k0=true
    ·refine iteP hp ?_
     refine ⟨_,rfl,_,rfl,sz_2,fun tp htp=>?_⟩
     have s3:Same H2 (upd H2 tp (.tup [.int (r:Nat),.int (c:Nat)])):=same_new htp
     have hca3:=s3 _ _ (s2 _ _ hca)
     refine ⟨_,rfl,_,_,CelR.rdv (c:=(r,c)) ⟨tp,rfl,upd_same⟩,CelR.rdv (c:=(i,j)) ⟨ca,rfl,hca3⟩,cData_cmp _ _,_,rfl,?_⟩
     have ee:(if true=true then !PyData.eqv (cData (r,c)) (cData (i,j)) else PyData.eqv (cData (r,c)) (cData (i,j)))=Cells.near (r,c) (i,j):=by
      rw [cData_eqv,nr]
      rfl
     rw [ee]
     rw [hp,Bool.true_and] at step2
     by_cases hn:Cells.near (r,c) (i,j)=true
     ·refine iteP hn ?_
      rw [if_pos hn] at step2
      have hd3:=s3 _ _ hd2
      refine ⟨_,rfl,.inl ⟨rfl,_,SqL.of hd3⟩,_,rfl,_,rfl,sz_2,fun tq htq=>?_⟩
      have s4:Same (upd H2 tp (.tup [.int (r:Nat),.int (c:Nat)])) (upd (upd H2 tp (.tup [.int (r:Nat),.int (c:Nat)])) tq (.tup [.int (r:Nat),.int (c:Nat)])):=same_new htq
      have hlen:ws2.length<=128:=by
       rw [hc2.length,List.length_append]
       have h1:=List.length_filter_le (fun x=>Cells.near x (i,j)) (Cells.allCs pCell 0 ((codes rs).take r))
       have h2:=List.length_filter_le (fun x=>Cells.near x (i,j)) (Cells.rowCs pCell r 0 (t.cps.toList.take c))
       have h3:=Cells.allCs_length pCell 0 ((codes rs).take r) fun u hu=>R.short u (List.mem_of_mem_take hu)
       have h4:=Cells.rowCs_length pCell r 0 (t.cps.toList.take c)
       rw [List.length_take,codes_len] at h3
       rw [List.length_take] at h4
       omega
      refine ⟨d,_,_,rfl,rfl,s4 _ _ hd3,Nat.lt_of_le_of_lt hlen (by decide),?_⟩
      refine ⟨_,ws2++[.ref tq],rfl,fun b' o e'=>?_,upd_same,?_⟩
      ·rw [upd_ne (ne_of_none e' hd)]
       exact s4 _ _ (s3 _ _ (s2 _ _ e'))
      ·rw [hc0',step2,<- List.append_assoc]
       exact Cel.into d _ (s4 _ _ hd3) (Cel.snoc (Cel.mono s4 (Cel.mono s3 hc2)) ⟨tq,rfl,upd_same⟩)
     ·have hn':Cells.near (r,c) (i,j)=false:=by simpa using hn
      refine iteN hn' ?_
      rw [if_neg hn,List.append_nil] at step2
      refine ⟨_,ws2,rfl,s2.trans s3,s3 _ _ hd2,?_⟩
      rw [hc0',step2]
      exact Cel.mono s3 hc2
    ·have hp':pCell k0=false:=by simpa using hp
     refine iteN hp' ?_
     refine iteF ?_
     rw [hp',Bool.false_and,if_neg Bool.false_ne_true,List.append_nil] at step2
     refine ⟨_,ws2,rfl,s2,hd2,?_⟩
     rw [hc0',step2]
     exact hc2
   ·rintro σ H2 ⟨v5,ws2,rfl,s2,hd2,hc2⟩
    refine ⟨_,_,ws2,rfl,s2,hd2,?_⟩
    have full:(Cells.rowCs pCell r 0 (t.cps.toList.take (j - 1 + (((min (j + 2) t.cps.size:Nat):Int) - ((j - 1:Nat):Int)).toNat))).filter (fun x=>Cells.near x (i,j))=(Cells.rowCs pCell r 0 t.cps.toList).filter fun x=>Cells.near x (i,j):=by
     by_cases hbig:t.cps.size<=j - 1 + (((min (j + 2) t.cps.size:Nat):Int) - ((j - 1:Nat):Int)).toNat
     ·rw [List.take_of_length_le (by omega)]
     ·refine Cells.cols_high fun c hc'=>?_
      rw [Bool.eq_false_iff,ne_eq,Cells.near_iff]
      rintro ⟨_,⟨h2,_⟩,_⟩
      dsimp only at h2
      omega
    rw [full] at hc2
    have e1:i - 1 + (k + 1)=r + 1:=by omega
    rw [e1,Cells.allCs_step (codes_get ht),List.filter_append]
    exact hc2
  ·rintro σ H1 ⟨v4,v5,ws,rfl,s1,hd1,hc1⟩
   have full:(Cells.allCs pCell 0 ((codes rs).take (i - 1 + (((min (i + 2) rs.length:Nat):Int) - ((i - 1:Nat):Int)).toNat))).filter (fun x=>Cells.near x (i,j))=aroundC rs (i,j):=by
    by_cases hbig:rs.length<=i - 1 + (((min (i + 2) rs.length:Nat):Int) - ((i - 1:Nat):Int)).toNat
    ·rw [List.take_of_length_le (by rw [codes_len]; omega)]
     rfl
    ·refine Cells.rows_high fun r c hr'=>?_
     rw [Bool.eq_false_iff,ne_eq,Cells.near_iff]
     rintro ⟨⟨h2,_⟩,_⟩
     dsimp only at h2
     omega
   rw [full] at hc1
   exact ⟨_,rfl,q d ws H1 hd hd1 hc1 s1⟩
theorem CelR.rdn {N:Addr->Prop}{H:Hp}{v:V}{c:Nat × Nat}(h:CelR H v c):Rdn N H v (cData c):=by
 obtain ⟨a,rfl,h⟩:=h
 exact .tup h (.cons (.int _) (.cons (.int _) .nil))
theorem Cel.rdn {N:Addr->Prop}{H:Hp}{vs:List V}{cs:List (Nat × Nat)}(hp:Cel H vs cs):RdnAll N H vs (cs.map cData):=by
 induction hp with
 | nil=>exact .nil
 | cons h _ ih =>
  exact .cons (CelR.rdn h) ih
theorem Rdn.celR {N:Addr->Prop}{H:Hp}{v:V}{c:Nat × Nat}(h:Rdn N H v (cData c)):CelR H v c:=by
 cases h with
 | tup h t =>
  cases t with
  | cons a t =>
   cases a
   cases t with
   | cons b t =>
    cases b
    cases t
    exact ⟨_,rfl,h⟩
theorem RdnAll.cel {N:Addr->Prop}{H:Hp}:∀ {cs:List (Nat × Nat)} {vs:List V},RdnAll N H vs (cs.map cData)->Cel H vs cs
 | [],_,h=>by cases h; exact .nil
 | c :: r,_,h=>by
  cases h with
  | cons a t=>exact .cons (Rdn.celR a) (RdnAll.cel t)
theorem outs_filter {α:Type}(p:α->Bool)(g:α->PyData):∀ cs:List α,(cs.map fun x=>if p x=true then some (g x) else none).filterMap id=(cs.filter p).map g
 | []=>rfl
 | c :: r=>by
  rw [List.map_cons,List.filterMap_cons,List.filter_cons]
  by_cases h:p c=true
  ·rw [if_pos h,if_pos h]
   show g c :: _=g c :: _
   rw [outs_filter p g r]
  ·rw [if_neg h,if_neg h]
   exact outs_filter p g r
theorem outs_all {α:Type}(g:α->PyData):∀ cs:List α,(cs.map fun x=>some (g x)).filterMap id=cs.map g
 | []=>rfl
 | c :: r=>by
  rw [List.map_cons,List.filterMap_cons]
  show g c :: _=g c :: _
  rw [outs_all g r]
theorem map_at {α β:Type}{g:α->β}{cs:List α}{i:Nat}{c:α}{o:β}(h:cs[i]?=some c)(ho:(cs.map g)[i]?=some o):o=g c:=by
 rw [List.getElem?_map,h] at ho
 exact (Option.some.inj ho).symm
noncomputable def shutC (rs:List Str):List (Nat × Nat):=Cells.allCs pShut 0 (codes rs)
noncomputable def openC (rs:List Str):List (Nat × Nat):=Cells.allCs pOpen 0 (codes rs)
theorem all_short {p:Nat->Bool}{rs:List Str}(R:Rows bd.cps.toList rs):(Cells.allCs p 0 (codes rs)).length<=64:=by
 have h1:=Cells.allCs_length p 0 (codes rs) R.short
 have h2:=R.hi
 rw [codes_len] at h1
 omega
theorem aroundC_short {rs:List Str}(R:Rows bd.cps.toList rs)(c:Nat × Nat):(aroundC rs c).length<=64:=Nat.le_trans (List.length_filter_le _ _) (all_short R)
theorem cell_at_board {p:Nat->Bool}{rs:List Str}{c:Nat × Nat}(h:c ∈ Cells.allCs p 0 (codes rs)):∃ t k,rs[c.1]?=some t/\t.cps.toList[c.2]?=some k/\p k=true/\Cells.sgn (codes rs) c=k:=by
 obtain ⟨k0,j,u,k,ec,hk0,hj,hpc⟩:=Cells.mem_allCs h
 obtain ⟨t,ht,rfl⟩:=codes_inv hk0
 rw [Nat.zero_add] at ec
 subst ec
 exact ⟨t,k,ht,hj,hpc,Cells.sgn_at hk0 hj⟩
theorem cell_small {rs:List Str}{c:Nat × Nat}{t:Str}{k:Nat}(R:Rows bd.cps.toList rs)(h1:rs[c.1]?=some t)(h2:t.cps.toList[c.2]?=some k):c.1 < 64/\c.2 < 64:=by
 have a:=(List.getElem?_eq_some_iff.mp h1).1
 have b:=(List.getElem?_eq_some_iff.mp h2).1
 have e:=R.hi
 have f:=R.short _ (List.mem_of_getElem? (codes_get h1))
 omega
theorem sign_in {rs:List Str}{i j:Nat}{t:Str}{k:Nat}(R:Rows bd.cps.toList rs)(h1:rs[i]?=some t)(h2:t.cps.toList[j]?=some k):k ∈ bd.cps.toList:=by
 obtain ⟨n,_,_,h⟩:=R.ex
 exact (h t (List.mem_of_getElem? h1)).mem k (List.mem_of_getElem? h2)
noncomputable def toI (c:Nat × Nat):Int × Int:=(((c.1:Nat):Int),((c.2:Nat):Int))
noncomputable def ofI (p:Int × Int):Nat × Nat:=(p.1.toNat,p.2.toNat)
theorem of_to (c:Nat × Nat):ofI (toI c)=c:=rfl
theorem toI_inj {c d:Nat × Nat}(h:toI c=toI d):c=d:=by rw [<- of_to c,h,of_to]
theorem lt2_lex {c d:Nat × Nat}:lt2 (toI c) (toI d)=true ↔ Cells.lex c d:=by
 obtain ⟨a,b⟩:=c
 obtain ⟨x,y⟩:=d
 unfold lt2 Cells.lex
 show (if ((a:Nat):Int)=((x:Nat):Int) then decide (((b:Nat):Int) < ((y:Nat):Int)) else decide (((a:Nat):Int) < ((x:Nat):Int)))=true ↔ a < x\/(a=x/\b < y)
 by_cases e:a=x
 ·rw [if_pos (by omega),decide_eq_true_eq]
  omega
 ·rw [if_neg (by omega),decide_eq_true_eq]
  omega
theorem Cel.tup2 {H:Hp}{vs:List V}{cs:List (Nat × Nat)}(hp:Cel H vs cs):Tup2 H vs (cs.map toI):=by
 induction hp with
 | nil=>exact .nil
 | cons q _ ih =>
  obtain ⟨a,e,h⟩:=q
  exact .cons ⟨a,e,h⟩ ih
theorem lex_nodup {cs:List (Nat × Nat)}(h:cs.Pairwise Cells.lex):cs.Nodup:=h.imp fun {a b} z e=>by
 subst e
 unfold Cells.lex at z
 omega
noncomputable def pD (p:Int × Int):PyData:=.tuple [.int p.1,.int p.2]
theorem pD_eqv (p q:Int × Int):PyData.eqv (pD p) (pD q)=decide (p=q):=PySem.SeqAt.pairs_eqv p q
noncomputable def PR (H:Hp)(v:V)(p:Int × Int):Prop:=∃ a,v=V.ref a/\H a=some (.tup [.int p.1,.int p.2])
theorem PR.mono {H H':Hp}(s:Same H H'){v:V}{p:Int × Int}(h:PR H v p):PR H' v p:=let ⟨a,e,h⟩:=h; ⟨a,e,s _ _ h⟩
theorem tup2_mono {H H':Hp}(s:Same H H'){us:List V}{ps:List (Int × Int)}(hp:Tup2 H us ps):Tup2 H' us ps:=by
 induction hp with
 | nil=>exact .nil
 | cons h _ ih =>
  exact .cons (PR.mono s h) ih
theorem tup2_get {H:Hp}:∀ {us:List V} {ps:List (Int × Int)} {i:Nat} {v:V},Tup2 H us ps->us[i]?=some v->∃ p,ps[i]?=some p/\PR H v p
 | _,_,_,_,.nil,e=>by simp at e
 | _,_,0,_,.cons r _,e=>by
  simp at e
  subst e
  exact ⟨_,rfl,r⟩
 | _,_,i + 1,v,.cons _ t,e=>by
  obtain ⟨c,h1,h2⟩:=tup2_get (i:=i) (v:=v) t (by simpa using e)
  exact ⟨c,by simpa using h1,h2⟩
theorem tup2_len {H:Hp}{us:List V}{ps:List (Int × Int)}(h:Tup2 H us ps):us.length=ps.length:=Paired.length h
theorem PR.rdv {K:PySem.W.Frag}{H:Hp}{v:V}{p:Int × Int}(h:PR H v p):Rdv K H v (pD p):=by
 obtain ⟨a,rfl,h⟩:=h
 exact .tup (SqT.of h) (.cons (.int _) (.cons (.int _) .nil))
theorem tup2_rdv {K:PySem.W.Frag}{H:Hp}{us:List V}{ps:List (Int × Int)}(hp:Tup2 H us ps):RdvAll K H us (ps.map pD):=by
 induction hp with
 | nil=>exact .nil
 | cons h _ ih =>
  exact .cons (PR.rdv h) ih
theorem p_lays:∀ ps:List (Int × Int),PyData.canLayAll0 (ps.map pD)=true
 | []=>rfl
 | p :: r=>by
  show (PyData.canLay0 (pD p) && PyData.canLayAll0 (r.map pD))=true
  rw [p_lays r]
  rfl
theorem in_prs (ps:List (Int × Int))(p:Int × Int):(ps.map pD).any (fun z=>PyData.eqv z (pD p))=ps.any fun z=>decide (z=p):=by
 rw [List.any_map]
 congr 1
 funext z
 exact pD_eqv z p
theorem in_prc (ps:List (Int × Int))(c:Nat × Nat):(ps.map pD).any (fun z=>PyData.eqv z (cData c))=ps.any fun z=>decide (z=toI c):=in_prs ps (toI c)
inductive Why
 | ok
 | cell (p:Int × Int)
 | order (p:Int × Int)
 | many (n:Nat)
 | num (c:Nat × Nat) (n:Nat)
noncomputable def WhyAt (H:Hp)(v:V):Why->Prop
 | .ok=>v=.non
 | .cell p=>∃ a c,v=V.ref a/\H a=some (.tup [.str "cell",.ref c])/\H c=some (.tup [.int p.1,.int p.2])
 | .order p=>∃ a c,v=V.ref a/\H a=some (.tup [.str "order",.ref c])/\H c=some (.tup [.int p.1,.int p.2])
 | .many n=>∃ a,v=V.ref a/\H a=some (.tup [.str "many",.int (n:Nat)])
 | .num c n=>∃ a ca,v=V.ref a/\H a=some (.tup [.str "number",.ref ca,.int (n:Nat)])/\H ca=some (.tup [.int (c.1:Nat),.int (c.2:Nat)])
noncomputable def Why.isOk:Why->Bool
 | .ok=>true
 | _=>false
noncomputable def cntW (rs:List Str)(ps:List (Int × Int))(c:Nat × Nat):Nat:=((aroundC rs c).filter fun x=>ps.any fun z=>decide (z=toI x)).length
noncomputable def numW (rs:List Str)(c:Nat × Nat):Int:=((Cells.sgn (codes rs) c:Nat):Int) - 48
noncomputable def badW (rs:List Str)(ps:List (Int × Int))(c:Nat × Nat):Bool:=!decide (((cntW rs ps c:Nat):Int)=numW rs c)
noncomputable def whyN (rs:List Str)(ps:List (Int × Int)):Why:=match (openC rs).find? (badW rs ps) with
 | some c=>.num c (cntW rs ps c)
 | none=>.ok
theorem find_at {α:Type}{p:α->Bool}{l:List α}{i:Nat}{x:α}(hx:l[i]?=some x)(h:p x=true)(hb:∀ y ∈ l.take i,p y=false):l.find? p=some x:=by
 obtain ⟨hi,e⟩:=List.getElem?_eq_some_iff.mp hx
 have e2:l=l.take i++x :: l.drop (i + 1):=by rw [<- e,<- List.drop_eq_getElem_cons hi,List.take_append_drop]
 rw [e2,List.find?_append,List.find?_eq_none.mpr (fun y hy=>by rw [hb y hy]; exact Bool.false_ne_true),List.find?_cons,h]
 rfl
theorem find_no {α:Type}{p:α->Bool}{l:List α}(h:∀ y ∈ l,p y=false):l.find? p=none:=List.find?_eq_none.mpr fun y hy=>by rw [h y hy]; exact Bool.false_ne_true
theorem take_next {α:Type}{P:α->Prop}{l:List α}{i:Nat}{x:α}(hx:l[i]?=some x)(h:∀ y ∈ l.take i,P y)(hp:P x):∀ y ∈ l.take (i + 1),P y:=fun y hy=>by
 rw [List.take_add_one,hx] at hy
 rcases List.mem_append.mp hy with hy | hy
 ·exact h y hy
 ·have e:y=x:=by simpa using hy
  rw [e]
  exact hp
noncomputable def ToldR (H:Hp)(rs:List Str)(v:V)(c:Nat × Nat):Prop:=∃ a ca na wn,v=V.ref a/\H a=some (.tup [.ref ca,.int (numW rs c),.ref na])/\H ca=some (.tup [.int (c.1:Nat),.int (c.2:Nat)])/\H na=some (.lst wn)/\Cel H wn (aroundC rs c)
noncomputable def tD (rs:List Str)(c:Nat × Nat):PyData:=.tuple [cData c,.int (numW rs c),.list ((aroundC rs c).map cData)]
theorem told_of {N:Addr->Prop}{H:Hp}{rs:List Str}{v:V}{c:Nat × Nat}(h:Rdn N H v (tD rs c)):ToldR H rs v c:=by
 unfold tD at h
 generalize ed:(aroundC rs c).map cData=ds at h
 cases h with
 | tup h t =>
  cases t with
  | cons a t =>
   obtain ⟨ca,rfl,hca⟩:=Rdn.celR a
   cases t with
   | cons b t =>
    cases b
    cases t with
    | cons d t =>
     cases t
     cases d with
     | lst n h1 h2 =>
      subst ed
      exact ⟨_,ca,_,_,rfl,h,hca,h1,RdnAll.cel h2⟩
theorem tolds_of {N:Addr->Prop}{H:Hp}{rs:List Str}:∀ {cs:List (Nat × Nat)} {vs:List V},RdnAll N H vs (cs.map (tD rs))->Paired (ToldR H rs) vs cs
 | [],_,.nil=>.nil
 | _ :: _,_,.cons h t=>.cons (told_of h) (tolds_of t)
theorem tolds_mono {H H':Hp}(s:Same H H'){rs:List Str}{cs:List (Nat × Nat)}{vs:List V}(hp:Paired (ToldR H rs) vs cs):Paired (ToldR H' rs) vs cs:=by
 induction hp with
 | nil=>exact .nil
 | cons q _ ih =>
  obtain ⟨a,ca,na,wn,e,h1,h2,h3,h4⟩:=q
  exact .cons ⟨a,ca,na,wn,e,s _ _ h1,s _ _ h2,s _ _ h3,h4.mono s⟩ ih
theorem tolds_get {H:Hp}{rs:List Str}:∀ {vs:List V} {cs:List (Nat × Nat)} {i:Nat} {v:V},Paired (ToldR H rs) vs cs->vs[i]?=some v->∃ c,cs[i]?=some c/\ToldR H rs v c
 | _,_,_,_,.nil,e=>by simp at e
 | _,_,0,_,.cons r _,e=>by
  simp at e
  subst e
  exact ⟨_,rfl,r⟩
 | _,_,i + 1,v,.cons _ t,e=>by
  obtain ⟨c,h1,h2⟩:=tolds_get (i:=i) (v:=v) t (by simpa using e)
  exact ⟨c,by simpa using h1,h2⟩
noncomputable def spTold:Sp:=fun vs H Q _=>∃ (p l:Addr) (rs:List Str) (n:Int),vs=[.ref p]/\BoardAt H p l rs n/\Rows bd.cps.toList rs /\
 ∀ (d:Addr) (ws:List V) (H':Hp),H d=none->H' d=some (.lst ws)->Paired (ToldR H' rs) ws (openC rs)->Same H H'->Q (.ref d) H'
noncomputable def spWrong:Sp:=fun vs H Q _=>∃ (ta ca:Addr) (ut us:List V) (rs:List Str) (ps:List (Int × Int)),vs=[.ref ta,.ref ca]/\H ta=some (.lst ut)/\Paired (ToldR H rs) ut (openC rs)/\Rows bd.cps.toList rs/\H ca=some (.lst us)/\Tup2 H us ps /\
 ∀ (v:V) (H':Hp),Same H H'->WhyAt H' v (whyN rs ps)->Q v H'
theorem sc_numbers_told:FnScope ["board"] ["board"] (defScope s_numbers_told):=⟨rfl,rfl,rfl,by decide +kernel,rfl,by decide +kernel,by decide +kernel⟩
theorem ok_numbers_told {f1 f2 f3 f4 f5:Addr}{fd1 fd2 fd3 fd4 fd5:FuncData}(T:Txt mg)(D:DefAt K mg "numbers_told" s_numbers_told ["board"] f fd)(D_around:DefAt K mg "around" s_around ["board","cell"] f1 fd1)(D_sign_at:DefAt K mg "sign_at" s_sign_at ["board","cell"] f2 fd2)
  (D_cells_of:DefAt K mg "cells_of" s_cells_of ["board"] f3 fd3) (D_open_cells:DefAt K mg "open_cells" s_open_cells ["board"] f4 fd4) (D_number_at:DefAt K mg "number_at" s_number_at ["board","cell"] f5 fd5):FnOk P w K mg base CX0 3 f fd ["board"] spTold:=by
 refine D.F.ok sc_numbers_told (fun vs H Q E h=>?_) (fun cdv A outer s H vs Q E hr h=>?_)
 ·obtain ⟨p,l,rs,n,rfl,_⟩:=h
  rfl
 ·obtain ⟨p,l,rs,n,rfl,b,R,q⟩:=h
  refine ⟨_,(pss_one (ps_ret (pe_comp (N:=["cell","board"]) (src:=[none,some 0]) (CompOk.free (O:=(defScope s_numbers_told).names) (XN:=["board"]) rfl rfl ⟨_,rfl⟩ rfl rfl (by decide +kernel) (by decide +kernel) (by decide +kernel) rfl (by decide +kernel)) rfl (pi_list (pc0 (ok_open_cells T D_open_cells D_cells_of D_sign_at) hr D_open_cells (pa_cons (pv 0) pa_nil))) (fun _ _ _ _ _=>(pg_name (i:=0) (by show List.Nodup (["cell","board"]:List Str); decide +kernel) rfl (Or.inl rfl))) (fun _ _ _ _ _=>pifs_nil) (fun _ _ _ _ _=>(pe_tup (pa_cons (pv 0) (pa_cons (pc0 (ok_number_at T D_number_at D_sign_at) hr D_number_at (pa_cons (pv 1) (pa_cons (pv 0) pa_nil))) (pa_cons (pc0 (ok_around T D_around) hr D_around (pa_cons (pv 1) (pa_cons (pv 0) pa_nil))) pa_nil)))))))),?_⟩
  refine ⟨_,rfl,p,l,rs,n,rfl,b,R,fun d ws H1 hd hd1 hc1 s1=>⟨d,rfl,⟨_,SqL.of hd1⟩,fun z hz=>?_⟩⟩
  have hc1:Cel H1 ws (openC rs):=hc1
  have b1:=b.mono s1
  refine comp_data (K:=K) (a:=d) (xs:=ws) (fun a=>a ≠ z) ((openC rs).map fun c=>some (tD rs c)) (fun σ=>∃ u0,σ=[u0,some (.ref p)]) hz (fun _ h=>h) ⟨_,rfl⟩ (by rw [List.length_map]; exact hc1.length.symm) (by rw [hc1.length]; exact Nat.le_trans (all_short R) (by decide)) (SqL.of hd1) ?_ ?_
  ·rintro k x o σ H2 hx ho s2 hzn ⟨u0,rfl⟩ Y Z yes no
   obtain ⟨y,hy,r1⟩:=Cel.get hc1 hx
   have eo:=map_at hy ho
   obtain ⟨t,sg,ht,hj,hop,es⟩:=cell_at_board (List.mem_of_getElem? hy)
   obtain ⟨ya,rfl,hya⟩:=r1
   obtain ⟨l1,l2⟩:=cell_small R ht hj
   obtain ⟨o1,o2⟩:=open_sign (sign_in R ht hj) hop
   have b2:=b1.mono s2
   have hya2:=s2 _ _ hya
   refine tYes_it ⟨_,rfl,_,rfl,_,rfl,p,l,ya,rs,n,y.1,y.2,t,sg,rfl,b2,hya2,ht,hj,R.tlen ht,o1,o2,_,rfl,_,rfl,p,l,ya,rs,n,y.1,y.2,rfl,b2,R,hya2,l1,l2,fun d2 ws2 H3 hd2 hd3 hc2 s3=>⟨sz_3,fun tt htt=>?_⟩⟩
   have s4:=same_new (o:=.tup [.ref ya,.int (((sg:Nat):Int) - 48),.ref d2]) htt
   have en:numW rs y=((sg:Nat):Int) - 48:=by
    unfold numW
    rw [es]
   refine yes _ _ _ _ eo ⟨_,rfl⟩ (s3.trans s4) (.tup upd_same (.cons (CelR.rdn ⟨ya,rfl,s4 _ _ (s3 _ _ hya2)⟩) (.cons ?_ (.cons (.lst (fun e=>hzn (e ▸ hd2)) (s4 _ _ hd3) (Cel.rdn (hc2.mono s4))) .nil))))
   rw [en]
   exact .int _
  ·rintro ys H2 s2 hz2 hr2
   rw [outs_all] at hr2
   exact q z ys H2 (s1.free hz) hz2 (tolds_of hr2) (s1.trans s2)
theorem sc_wrong_number:FnScope ["told","cells","cell","number","near","lying"] ["told","cells"] (defScope s_wrong_number):=⟨rfl,rfl,rfl,by decide +kernel,rfl,by decide +kernel,by decide +kernel⟩
theorem ok_wrong_number (T:Txt mg)(D:DefAt K mg "wrong_number" s_wrong_number ["told","cells"] f fd):FnOk P w K mg base CX0 1 f fd ["told","cells"] spWrong:=by
 refine D.F.ok sc_wrong_number (fun vs H Q E h=>?_) (fun cdv A outer s H vs Q E hr h=>?_)
 ·obtain ⟨ta,ca,ut,us,rs,ps,rfl,_⟩:=h
  rfl
 ·obtain ⟨ta,ca,ut,us,rs,ps,rfl,hta,hT,R,hca,ht,q⟩:=h
  refine ⟨_,(pss_cons (ps_for PassesOwn.never rfl (pi_list (pv 0)) (pg_tup rfl (pgs_cons (pg_name (i:=2) sc_wrong_number.nd rfl (Or.inl rfl)) (pgs_cons (pg_name (i:=3) sc_wrong_number.nd rfl (Or.inl rfl)) (pgs_cons (pg_name (i:=4) sc_wrong_number.nd rfl (Or.inl rfl)) pgs_nil)))) (pss_cons (ps_set (i:=5) sc_wrong_number.nd rfl (Or.inl rfl) (pe_callB call_len_seq (by rfl) T.b_len PySem.boot_len (pa_cons (pe_comp (N:=["place","cells"]) (src:=[none,some 1]) (CompOk.free (O:=(defScope s_wrong_number).names) (XN:=["told","cells","cell","number","near","lying"]) rfl rfl ⟨_,rfl⟩ rfl rfl (by decide +kernel) (by decide +kernel) (by decide +kernel) rfl (by decide +kernel)) rfl (pi_list (pv 4)) (fun _ _ _ _ _=>(pg_name (i:=0) (by show List.Nodup (["place","cells"]:List Str); decide +kernel) rfl (Or.inl rfl))) (fun _ _ _ _ _=>(pifs_one (pt_cmpR (op_in_deepK (K:=K) (by rfl) hr.units) (pv 0) (pv 1) (by rfl)))) (fun _ _ _ _ _=>(pv 0))) pa_nil)))
   (pss_one (ps_if (pt_cmpR op_ne (pv 5) (pv 3) (nomark _)) (pss_one (ps_ret (pe_tup (pa_cons pe_str (pa_cons (pv 2) (pa_cons (pv 5) pa_nil)))))) pss_nil))))
   (pss_one (ps_ret pe_non))),?_⟩
  refine ⟨_,rfl,ta,rfl,⟨_,SqL.of hta⟩,?_⟩
  have tl:ut.length=(openC rs).length:=Paired.length hT
  refine for_list (K:=K) (a:=ta) (xs:=ut) (fun i σ H'=>∃ v2 v3 v4 v5,σ=[some (.ref ta),some (.ref ca),v2,v3,v4,v5]/\Same H H'/\∀ y ∈ (openC rs).take i,badW rs ps y=false) ⟨_,_,_,_,rfl,Same.refl _,fun y hy=>by simp at hy⟩ (fun i σ H' _ ⟨_,_,_,_,_,s1,_⟩=>SqL.of (s1 _ _ hta)) ?_ ?_
  ·rintro i x σ H1 hx ⟨v2,v3,v4,v5,rfl,s1,hb⟩
   obtain ⟨c,hc,a,cc,na,wn,rfl,h1,h2,h3,h4⟩:=tolds_get (tolds_mono s1 hT) hx
   refine ⟨a,_,rfl,SqT.of h1,rfl,_,_,rfl,_,_,rfl,_,_,rfl,rfl,?_⟩
   refine ⟨_,rfl,na,rfl,⟨_,SqL.of h3⟩,fun z hz=>?_⟩
   refine comp_data (K:=K) (a:=na) (xs:=wn) (fun a=>a ≠ z) ((aroundC rs c).map fun x=>if (ps.any fun z=>decide (z=toI x))=true then some (cData x) else none) (fun σ=>∃ u0,σ=[u0,some (.ref ca)]) hz (fun _ h=>h) ⟨_,rfl⟩ (by rw [List.length_map]; exact h4.length.symm) (by rw [h4.length]; exact Nat.le_trans (aroundC_short R c) (by decide)) (SqL.of h3) ?_ ?_
   ·rintro m v o σ H2 hv ho s2 _ ⟨u1,rfl⟩ Y Z yes no
    have s02:=s1.trans s2
    obtain ⟨e,he,rc⟩:=Cel.get (h4.mono s2) hv
    have eo:=map_at he ho
    refine ⟨_,rfl,_,rfl,cData e,ps.map pD,rc.rdv,.lst (SqL.of (s02 _ _ hca)) (tup2_rdv (tup2_mono s02 ht)),rfl,p_lays _,(by show 1<=60; decide),_,rfl,?_⟩
    have ei:(if false=true then !(ps.map pD).any (fun z=>PyData.eqv z (cData e)) else (ps.map pD).any fun z=>PyData.eqv z (cData e))=ps.any fun z=>decide (z=toI e):=in_prc _ _
    rw [ei]
    by_cases hp:(ps.any fun z=>decide (z=toI e))=true
    ·rw [if_pos hp] at eo
     exact iteP hp ⟨_,rfl,yes _ _ _ _ eo ⟨_,rfl⟩ (Same.refl _) rc.rdn⟩
    ·rw [if_neg hp] at eo
     exact iteN (Bool.eq_false_iff.mpr hp) (no _ _ eo ⟨_,rfl⟩ (Same.refl _))
   rintro ys H2 s2 hz2 hr2
   have er:((aroundC rs c).map fun x=>if (ps.any fun z=>decide (z=toI x))=true then some (cData x) else none).filterMap id=((aroundC rs c).filter fun x=>ps.any fun z=>decide (z=toI x)).map cData:=outs_filter _ _ _
   rw [er] at hr2
   have hcy:=RdnAll.cel hr2
   have yl:ys.length=cntW rs ps c:=hcy.length
   refine ⟨z,ys,rfl,.inl (SqL.of hz2),?_⟩
   refine ⟨_,rfl,_,rfl,rfl,_,rfl,?_⟩
   rw [yl]
   have ed:(!decide (V.int ((cntW rs ps c:Nat):Int)=V.int (numW rs c)))=badW rs ps c:=by
    unfold badW
    simp only [V.int.injEq]
   rw [ed]
   have s02:=s1.trans s2
   cases hbc:badW rs ps c with
   | true =>
    refine iteT ⟨_,rfl,_,rfl,sz_3,fun tt htt=>?_⟩
    have s3:=same_new (o:=.tup [.str "number",.ref cc,.int ((cntW rs ps c:Nat):Int)]) htt
    refine q _ _ (s02.trans s3) ?_
    unfold whyN
    rw [find_at hc hbc hb]
    exact ⟨tt,cc,rfl,upd_same,s3 _ _ (s2 _ _ h2)⟩
   | false=>exact iteF ⟨_,_,_,_,rfl,s02,take_next (P:=fun y=>badW rs ps y=false) hc hb hbc⟩
  ·rintro σ H1 ⟨v2,v3,v4,v5,rfl,s1,hb⟩
   rw [tl,List.take_length] at hb
   refine q _ _ s1 ?_
   unfold whyN
   rw [find_no hb]
   exact rfl
theorem ref_ne {H:Hp}{a z:Addr}{o o':HO}(h:H a=some o)(hz:H z=some o')(hne:o ≠ o'):a ≠ z:=fun e=>by
 subst e
 rw [h] at hz
 exact hne (Option.some.inj hz)
theorem pr_into {H:Hp}{z:Addr}{ys ys':List V}(hz:H z=some (.lst ys)){v:V}{p:Int × Int}(h:PR H v p):PR (upd H z (.lst ys')) v p:=by
 obtain ⟨a,e,h⟩:=h
 refine ⟨a,e,?_⟩
 rw [upd_ne (ref_ne h hz (fun z=>nomatch z))]
 exact h
theorem tup2_into {H:Hp}{z:Addr}{ys ys':List V}(hz:H z=some (.lst ys)){us:List V}{ps:List (Int × Int)}(hp:Tup2 H us ps):Tup2 (upd H z (.lst ys')) us ps:=by
 induction hp with
 | nil=>exact .nil
 | cons h _ ih =>
  exact .cons (pr_into hz h) ih
noncomputable def Lists (N:Addr->Prop)(H:Hp):List V->List (List (Int × Int))->Prop:=Paired fun v k=>∃ a ws,v=V.ref a/\N a/\H a=some (.lst ws)/\Tup2 H ws k
theorem lists_mono {N:Addr->Prop}{H H':Hp}(s:Same H H'){us:List V}{ks:List (List (Int × Int))}(hp:Lists N H us ks):Lists N H' us ks:=by
 induction hp with
 | nil=>exact .nil
 | cons q _ ih =>
  obtain ⟨a,ws,e,n,h,t⟩:=q
  exact .cons ⟨a,ws,e,n,s _ _ h,tup2_mono s t⟩ ih
theorem lists_weak {N M:Addr->Prop}{H:Hp}(w:∀ a,N a->M a){us:List V}{ks:List (List (Int × Int))}(hp:Lists N H us ks):Lists M H us ks:=by
 induction hp with
 | nil=>exact .nil
 | cons q _ ih =>
  obtain ⟨a,ws,e,n,h,t⟩:=q
  exact .cons ⟨a,ws,e,w a n,h,t⟩ ih
theorem lists_into {N:Addr->Prop}{H:Hp}{z:Addr}{ys ys':List V}(hz:H z=some (.lst ys))(w:∀ a,N a->a ≠ z){us:List V}{ks:List (List (Int × Int))}(hp:Lists N H us ks):Lists N (upd H z (.lst ys')) us ks:=by
 induction hp with
 | nil=>exact .nil
 | cons q _ ih =>
  obtain ⟨a,ws,e,n,h,t⟩:=q
  exact .cons ⟨a,ws,e,n,by rw [upd_ne (w a n)]; exact h,tup2_into hz t⟩ ih
theorem lists_app {N:Addr->Prop}{H:Hp}{us:List V}{ks:List (List (Int × Int))}{us':List V}{ks':List (List (Int × Int))}(h:Lists N H us ks)(k:Lists N H us' ks'):Lists N H (us++us') (ks++ks'):=pr_app h k
theorem lists_len {N:Addr->Prop}{H:Hp}{us:List V}{ks:List (List (Int × Int))}(h:Lists N H us ks):us.length=ks.length:=Paired.length h
theorem lists_at {N:Addr->Prop}{H:Hp}{us:List V}{ks:List (List (Int × Int))}{i:Nat}{v:V}(h:Lists N H us ks)(e:us[i]?=some v):∃ k a ws,ks[i]?=some k/\v=V.ref a/\N a/\H a=some (.lst ws)/\Tup2 H ws k:=by
 obtain ⟨k,h1,a,ws,h2⟩:=pr_at h e
 exact ⟨k,a,ws,h1,h2⟩
theorem lists_lst {N:Addr->Prop}{H:Hp}{us:List V}{ks:List (List (Int × Int))}(hp:Lists N H us ks):Paired (GS.LstAt H) us ks:=by
 induction hp with
 | nil=>exact .nil
 | cons q _ ih =>
  obtain ⟨a,ws,e,_,h,t⟩:=q
  exact .cons ⟨a,ws,e,h,t⟩ ih
theorem lists_of {N:Addr->Prop}{H:Hp}{us:List V}{ks:List (List (Int × Int))}(hp:Paired (GS.LstAt H) us ks)(n:∀ v ∈ us,∃ a,v=V.ref a/\N a):Lists N H us ks:=by
 induction hp with
 | nil=>exact .nil
 | cons q _ ih =>
  obtain ⟨a,ws,e,h,t⟩:=q
  obtain ⟨b,e2,n2⟩:=n _ List.mem_cons_self
  subst e
  cases e2
  exact .cons ⟨_,ws,rfl,n2,h,t⟩ (ih fun v hv=>n v (List.mem_cons_of_mem _ hv))
theorem lists_has {N:Addr->Prop}{H:Hp}{us:List V}{ks:List (List (Int × Int))}{v:V}(h:Lists N H us ks)(e:v ∈ us):∃ a ws,v=V.ref a/\N a/\H a=some (.lst ws):=by
 obtain ⟨k,_,a,ws,h1,h2,h3,_⟩:=pr_mem h e
 exact ⟨a,ws,h1,h2,h3⟩
theorem tup2_app {H:Hp}{us:List V}{ps:List (Int × Int)}{us':List V}{ps':List (Int × Int)}(h:Tup2 H us ps)(k:Tup2 H us' ps'):Tup2 H (us++us') (ps++ps'):=pr_app h k
noncomputable def chosen (n:Int)(ps:List (Int × Int)):List (List (Int × Int)):=(Subs.subs ps).filter fun p=>decide (((p.length:Nat):Int)=n)
noncomputable def spPicks:Sp:=fun vs H Q _=>∃ (ca:Addr) (us:List V) (ps:List (Int × Int)) (n:Int),vs=[.ref ca,.int n]/\H ca=some (.lst us)/\Tup2 H us ps/\ps.length<=14/\0<=n /\
 ∀ (d:Addr) (ws:List V) (ks:List (List (Int × Int))) (H':Hp),H d=none->H' d=some (.lst ws)->Lists (fun a=>H a=none/\a ≠ d) H' ws ks->ws.Nodup->ks.Perm (chosen n ps)->ks.Pairwise (fun p q=>PySem.SeqAt.ltL q p=false)->Same H H'->Q (.ref d) H'
theorem stepN_le (n:Int)(F:List (List (Int × Int)))(c:Int × Int):(Subs.stepN n F c).length<=2 * F.length:=by
 unfold Subs.stepN
 rw [List.length_append,List.length_map]
 have:=List.length_filter_le (fun p:List (Int × Int)=>decide (((p.length:Nat):Int) < n)) F
 omega
theorem foldN_le (n:Int):∀ (cs:List (Int × Int)) (F:List (List (Int × Int))),(cs.foldl (Subs.stepN n) F).length<=2 ^ cs.length * F.length
 | [],F=>by simp
 | c :: r,F=>by
  rw [List.foldl_cons,List.length_cons,Nat.pow_succ,Nat.mul_assoc]
  exact Nat.le_trans (foldN_le n r _) (Nat.mul_le_mul_left _ (stepN_le n F c))
theorem stepN_deep (n:Int){F:List (List (Int × Int))}{c:Int × Int}{k:Nat}(h:∀ p ∈ F,p.length<=k):∀ p ∈ Subs.stepN n F c,p.length<=k + 1:=by
 intro p hp
 rcases List.mem_append.mp hp with hp | hp
 ·have:=h p hp
  omega
 ·obtain ⟨q,hq,rfl⟩:=List.mem_map.mp hp
  have:=h q (List.mem_filter.mp hq).1
  rw [List.length_append]
  exact Nat.succ_le_succ this
theorem foldN_deep (n:Int):∀ (cs:List (Int × Int)) (F:List (List (Int × Int))) (k:Nat),(∀ p ∈ F,p.length<=k)->∀ p ∈ cs.foldl (Subs.stepN n) F,p.length<=k + cs.length
 | [],F,k,h,p,hp=>h p hp
 | c :: r,F,k,h,p,hp=>by
  have:=foldN_deep n r _ (k + 1) (stepN_deep n h) p hp
  rw [List.length_cons]
  omega
theorem sc_picks:FnScope ["cells","size","found","cell"] ["cells","size"] (defScope s_picks):=⟨rfl,rfl,rfl,by decide +kernel,rfl,by decide +kernel,by decide +kernel⟩
theorem ok_picks (T:Txt mg)(D:DefAt K mg "picks" s_picks ["cells","size"] f fd):FnOk P w K mg base CX0 1 f fd ["cells","size"] spPicks:=by
 refine D.F.ok sc_picks (fun vs H Q E h=>?_) (fun cdv A outer s H vs Q E hr h=>?_)
 ·obtain ⟨ca,us,ps,n,rfl,_⟩:=h
  rfl
 ·obtain ⟨ca,us,ps,n,rfl,hca,ht,pl,n0,q⟩:=h
  have ul:=tup2_len ht
  refine ⟨_,(pss_cons (ps_set (i:=2) sc_picks.nd rfl (Or.inl rfl) (pe_lst (pa_cons (pe_lst pa_nil) pa_nil)))
   (pss_cons (ps_for PassesOwn.never rfl (pi_list (pv 0)) (pg_name (i:=3) sc_picks.nd rfl (Or.inr rfl)) (pss_one (ps_set (i:=2) sc_picks.nd rfl (Or.inl rfl) (pe_op op_cat (pv 2) (pe_comp (N:=["pick","cell","size"]) (src:=[none,some 3,some 1]) (CompOk.free (O:=(defScope s_picks).names) (XN:=["cells","size","found","cell"]) rfl rfl ⟨_,rfl⟩ rfl rfl (by decide +kernel) (by decide +kernel) (by decide +kernel) rfl (by decide +kernel)) rfl (pi_list (pv 2)) (fun _ _ _ _ _=>(pg_name (i:=0) (by show List.Nodup (["pick","cell","size"]:List Str); decide +kernel) rfl (Or.inl rfl))) (fun _ _ _ _ _=>(pifs_one (pt_cmpR op_lt (pe_callB (call_len_seqK (K:=K) (by rfl)) (by rfl) T.b_len PySem.boot_len (pa_cons (pv 0) pa_nil)) (pv 2) (nomark _)))) (fun _ _ _ _ _=>(pe_op op_cat (pv 0) (pe_lst (pa_cons (pv 1) pa_nil)))))))))
   (pss_one (ps_ret (pe_callB (GS.call_sortedGL hr.units) (by rfl) T.b_sorted PyProof.Rows.boot_sorted (pa_cons (pe_comp (N:=["pick","size"]) (src:=[none,some 1]) (CompOk.free (O:=(defScope s_picks).names) (XN:=["cells","size","found","cell"]) rfl rfl ⟨_,rfl⟩ rfl rfl (by decide +kernel) (by decide +kernel) (by decide +kernel) rfl (by decide +kernel)) rfl (pi_list (pv 2)) (fun _ _ _ _ _=>(pg_name (i:=0) (by show List.Nodup (["pick","size"]:List Str); decide +kernel) rfl (Or.inl rfl))) (fun _ _ _ _ _=>(pifs_one (pt_cmpR op_eq (pe_callB (call_len_seqK (K:=K) (by rfl)) (by rfl) T.b_len PySem.boot_len (pa_cons (pv 0) pa_nil)) (pv 1) (nomark _)))) (fun _ _ _ _ _=>(pv 0))) pa_nil)))))),?_⟩
  refine ⟨sz_0,fun e0 he0=>⟨sz_1,fun f0 hf0=>?_⟩⟩
  have y1:=same_new (o:=.lst []) he0
  have y2:=same_new (o:=.lst [.ref e0]) hf0
  have y12:=y1.trans y2
  have hL0:Lists (fun a=>H a=none) (upd (upd H e0 (.lst [])) f0 (.lst [.ref e0])) [.ref e0] [[]]:=.cons ⟨e0,[],rfl,he0,y2 _ _ upd_same,.nil⟩ .nil
  have hf2:upd (upd H e0 (.lst [])) f0 (.lst [.ref e0]) f0=some (.lst [.ref e0]):=upd_same
  have fn:=y1.free hf0
  generalize upd (upd H e0 (.lst [])) f0 (.lst [.ref e0])=H2 at *
  refine ⟨_,rfl,ca,rfl,⟨_,SqL.of (y12 _ _ hca)⟩,?_⟩
  refine for_list (K:=K) (a:=ca) (xs:=us) (fun i σ H'=>∃ (fa:Addr) (fs:List V) (v3:Option V),σ=[some (.ref ca),some (.int n),some (.ref fa),v3]/\Same H H'/\H' fa=some (.lst fs)/\H fa=none/\Lists (fun a=>H a=none) H' fs ((ps.take i).foldl (Subs.stepN n) [[]])/\fs.Nodup)
   ⟨f0,_,_,rfl,y12,hf2,fn,hL0,by simp⟩ (fun i σ H' _ ⟨_,_,_,_,z,_⟩=>SqL.of (z _ _ hca)) ?_ ?_
  ·rintro i x σ H3 hx ⟨fa,fs,v3,rfl,s3,hfa,fan,hL,hnd⟩
   obtain ⟨c,hc,rc⟩:=tup2_get (tup2_mono s3 ht) hx
   have il:=(List.getElem?_eq_some_iff.mp hc).1
   have tk:ps.take (i + 1)=ps.take i++[c]:=by
    rw [List.take_add_one,hc]
    rfl
   have ll:=foldN_le n (ps.take i) [[]]
   have lt14:(ps.take i).length<=13:=by
    rw [List.length_take]
    omega
   have fl:fs.length<=8192:=by
    rw [lists_len hL]
    refine Nat.le_trans ll ?_
    rw [List.length_singleton,Nat.mul_one]
    exact Nat.pow_le_pow_right (by decide) lt14
   have dp:=foldN_deep n (ps.take i) [[]] 0 (by simp)
   have eF:(ps.take (i + 1)).foldl (Subs.stepN n) [[]]=Subs.stepN n ((ps.take i).foldl (Subs.stepN n) [[]]) c:=by
    rw [tk,List.foldl_append]
    rfl
   generalize (ps.take i).foldl (Subs.stepN n) [[]]=F at *
   refine ⟨_,rfl,_,rfl,fa,rfl,⟨_,SqL.of hfa⟩,fun z hz=>?_⟩
   refine comp_list (K:=K) (a:=fa) (xs:=fs) (fun j σ' H'=>∃ (u0:Option V) (ys:List V),σ'=[u0,some x,some (.int n)]/\Same H3 H'/\H' z=some (.lst ys)/\Lists (fun a=>H3 a=none/\a ≠ z) H' ys (((F.take j).filter fun p=>decide (((p.length:Nat):Int) < n)).map (·++[c]))/\ys.Nodup)
    ⟨_,[],rfl,same_new hz,upd_same,.nil,List.nodup_nil⟩ (fun j σ' H' _ ⟨_,_,_,z,_⟩=>SqL.of (z _ _ hfa)) ?_ ?_
   ·rintro j v σ' H4 hv ⟨u0,ys,rfl,s4,hz4,hL4,nd4⟩
    obtain ⟨k,a,ws,hk,rfl,an,ha,tw⟩:=lists_at hL hv
    have wl:=tup2_len tw
    have kd:=dp k (List.mem_of_getElem? hk)
    have jl:=(List.getElem?_eq_some_iff.mp hk).1
    have tj:F.take (j + 1)=F.take j++[k]:=by
     rw [List.take_add_one,hk]
     rfl
    refine ⟨_,rfl,a,ws,rfl,.inl (SqL.of (s4 _ _ ha)),_,rfl,_,_,rfl,rfl,_,rfl,?_⟩
    rw [wl]
    by_cases hlt:((k.length:Nat):Int) < n
    ·have e1:((F.take (j + 1)).filter fun p=>decide (((p.length:Nat):Int) < n)).map (·++[c])=((F.take j).filter fun p=>decide (((p.length:Nat):Int) < n)).map (·++[c])++[k++[c]]:=by
      rw [tj,List.filter_append,List.map_append,List.filter_cons,if_pos (decide_eq_true hlt)]
      rfl
     rw [e1]
     refine iteP (decide_eq_true hlt) ⟨_,rfl,_,rfl,sz_1,fun t1 ht1=>?_⟩
     have y5:=same_new (o:=.lst [x]) ht1
     refine ⟨a,t1,ws,[x],rfl,rfl,y5 _ _ (s4 _ _ ha),upd_same,Nat.le_trans (show ws.length + 1<=100 by omega) (by decide),fun t2 ht2=>?_⟩
     have y6:=same_new (o:=.lst (ws++[x])) ht2
     have y56:=y5.trans y6
     have h6:upd (upd H4 t1 (.lst [x])) t2 (.lst (ws++[x])) t2=some (.lst (ws++[x])):=upd_same
     have tz:t2 ≠ z:=fun e=>by
      subst e
      rw [y5 _ _ hz4] at ht2
      cases ht2
     have n4:=y5.free ht2
     have n3:=s4.free n4
     have tw6:=tup2_app (tup2_mono (s4.trans y56) tw) (.cons (PR.mono (s4.trans y56) rc) .nil)
     generalize upd (upd H4 t1 (.lst [x])) t2 (.lst (ws++[x]))=H6 at *
     have hz6:=y56 _ _ hz4
     have yl:ys.length<=8192:=by
      rw [lists_len hL4,List.length_map]
      have h1:=List.length_filter_le (fun p:List (Int × Int)=>decide (((p.length:Nat):Int) < n)) (F.take j)
      rw [List.length_take] at h1
      have:=lists_len hL
      omega
     refine ⟨ys,hz6,Nat.lt_of_le_of_lt yl (by decide),_,ys++[.ref t2],rfl,fun b o e=>?_,upd_same,lists_app (lists_into hz6 (fun a h=>h.2) (lists_mono y56 hL4)) (.cons ⟨t2,ws++[x],rfl,⟨n3,tz⟩,by rw [upd_ne tz]; exact h6,tup2_into hz6 tw6⟩ .nil),?_⟩
     ·rw [upd_ne (ne_of_none e hz)]
      exact y56 _ _ (s4 _ _ e)
     ·refine List.nodup_append.mpr ⟨nd4,by simp,fun u hu u' hu' e=>?_⟩
      obtain ⟨b,wb,rfl,_,hb⟩:=lists_has hL4 hu
      have e2:u'=.ref t2:=by simpa using hu'
      rw [e2] at e
      cases e
      rw [hb] at n4
      cases n4
    ·have e1:((F.take (j + 1)).filter fun p=>decide (((p.length:Nat):Int) < n)).map (·++[c])=((F.take j).filter fun p=>decide (((p.length:Nat):Int) < n)).map (·++[c]):=by
      rw [tj,List.filter_append,List.map_append,List.filter_cons,if_neg (by simpa using hlt)]
      simp
     rw [e1]
     exact iteN (decide_eq_false hlt) ⟨_,ys,rfl,s4,hz4,hL4,nd4⟩
   ·rintro σ' H4 ⟨u0,ys,rfl,s4,hz4,hL4,nd4⟩
    rw [lists_len hL,List.take_length] at hL4
    have yl:ys.length<=8192:=by
     rw [lists_len hL4,List.length_map]
     have h1:=List.length_filter_le (fun p:List (Int × Int)=>decide (((p.length:Nat):Int) < n)) F
     have:=lists_len hL
     omega
    refine ⟨fa,z,fs,ys,rfl,rfl,s4 _ _ hfa,hz4,Nat.le_trans (Nat.add_le_add fl yl) (by decide),fun g hg=>?_⟩
    have y5:=same_new (o:=.lst (fs++ys)) hg
    have s34:=s3.trans s4
    refine ⟨g,fs++ys,_,rfl,s34.trans y5,upd_same,s34.free hg,?_,?_⟩
    ·rw [eF]
     exact lists_app (lists_mono (s4.trans y5) hL) (lists_mono y5 (lists_weak (fun a h=>s3.free h.1) hL4))
    ·refine List.nodup_append.mpr ⟨hnd,nd4,fun u hu u' hu' e=>?_⟩
     obtain ⟨b,wb,rfl,_,hb⟩:=lists_has hL hu
     obtain ⟨b',wb',rfl,hb',_⟩:=lists_has hL4 hu'
     cases e
     rw [hb] at hb'
     cases hb'.1
  ·rintro σ H3 ⟨fa,fs,v3,rfl,s3,hfa,fan,hL,hnd⟩
   rw [ul,List.take_length] at hL
   have ll:=foldN_le n ps [[]]
   have fl:fs.length<=16384:=by
    rw [lists_len hL]
    refine Nat.le_trans ll ?_
    rw [List.length_singleton,Nat.mul_one]
    exact Nat.pow_le_pow_right (by decide) pl
   have ep:(ps.foldl (Subs.stepN n) [[]]).filter (fun p=>decide (((p.length:Nat):Int)=n))=chosen n ps:=Subs.picks_are n n0 ps
   generalize ps.foldl (Subs.stepN n) [[]]=F at *
   refine ⟨_,rfl,fa,rfl,⟨_,SqL.of hfa⟩,fun z hz=>?_⟩
   refine comp_list (K:=K) (a:=fa) (xs:=fs) (fun j σ' H'=>∃ (u0:Option V) (ys:List V),σ'=[u0,some (.int n)]/\Same H3 H'/\H' z=some (.lst ys)/\Lists (fun a=>H a=none/\a ≠ z) H' ys ((F.take j).filter fun p=>decide (((p.length:Nat):Int)=n))/\ys.Sublist (fs.take j))
    ⟨_,[],rfl,same_new hz,upd_same,.nil,List.Sublist.slnil⟩ (fun j σ' H' _ ⟨_,_,_,z,_⟩=>SqL.of (z _ _ hfa)) ?_ ?_
   ·rintro j v σ' H4 hv ⟨u0,ys,rfl,s4,hz4,hL4,sb4⟩
    obtain ⟨k,a,ws,hk,rfl,an,ha,tw⟩:=lists_at hL hv
    have wl:=tup2_len tw
    have tj:F.take (j + 1)=F.take j++[k]:=by
     rw [List.take_add_one,hk]
     rfl
    have tf:fs.take (j + 1)=fs.take j++[.ref a]:=by
     rw [List.take_add_one,hv]
     rfl
    refine ⟨_,rfl,a,ws,rfl,.inl (SqL.of (s4 _ _ ha)),_,rfl,rfl,_,rfl,?_⟩
    rw [wl,tf]
    have ed:decide (V.int ((k.length:Nat):Int)=V.int n)=decide (((k.length:Nat):Int)=n):=by simp only [V.int.injEq]
    rw [ed]
    by_cases hlt:((k.length:Nat):Int)=n
    ·have e1:((F.take (j + 1)).filter fun p=>decide (((p.length:Nat):Int)=n))=((F.take j).filter fun p=>decide (((p.length:Nat):Int)=n))++[k]:=by
      rw [tj,List.filter_append,List.filter_cons,if_pos (decide_eq_true hlt)]
      rfl
     rw [e1]
     have az:a ≠ z:=ne_of_none ha hz
     have yl:ys.length<=16384:=by
      have:=sb4.length_le
      rw [List.length_take] at this
      omega
     refine iteP (decide_eq_true hlt) ⟨_,rfl,ys,hz4,Nat.lt_of_le_of_lt yl (by decide),_,ys++[.ref a],rfl,fun b o e=>?_,upd_same,lists_app (lists_into hz4 (fun a h=>h.2) hL4) (.cons ⟨a,ws,rfl,⟨an,az⟩,by rw [upd_ne az]; exact s4 _ _ ha,tup2_into hz4 (tup2_mono s4 tw)⟩ .nil),List.Sublist.append sb4 (List.Sublist.refl _)⟩
     rw [upd_ne (ne_of_none e hz)]
     exact s4 _ _ e
    ·have e1:((F.take (j + 1)).filter fun p=>decide (((p.length:Nat):Int)=n))=((F.take j).filter fun p=>decide (((p.length:Nat):Int)=n)):=by
      rw [tj,List.filter_append,List.filter_cons,if_neg (by simpa using hlt)]
      simp
     rw [e1]
     exact iteN (decide_eq_false hlt) ⟨_,ys,rfl,s4,hz4,hL4,sb4.trans (List.sublist_append_left _ _)⟩
   ·rintro σ' H4 ⟨u0,ys,rfl,s4,hz4,hL4,sb4⟩
    rw [lists_len hL,List.take_length,ep] at hL4
    rw [List.take_length] at sb4
    have yl:ys.length<=1000000:=Nat.le_trans sb4.length_le (by omega)
    refine ⟨z,ys,_,rfl,SqL.of hz4,lists_lst hL4,yl,fun d us' ks' hd hp' hperm hpw hup=>?_⟩
    have y5:=same_new (o:=.lst us') hd
    have s34:=s3.trans s4
    refine q d us' ks' _ (s34.free hd) upd_same (lists_mono y5 (lists_of hp' fun v hv=>?_)) (hup.nodup_iff.mpr (hnd.sublist sb4)) hperm hpw (s34.trans y5)
    obtain ⟨a,ws,e,na,ha⟩:=lists_has hL4 (hup.mem_iff.mp hv)
    exact ⟨a,e,na.1,ne_of_none ha hd⟩
noncomputable def cellsI (rs:List Str):List (Int × Int):=(shutC rs).map toI
noncomputable def fitB (rs:List Str)(p:List (Int × Int)):Bool:=(whyN rs p).isOk
theorem why_non {H:Hp}{v:V}{y:Why}(h:WhyAt H v y):decide (v=.non)=y.isOk:=by
 cases y with
 | ok=>exact decide_eq_true h
 | cell p=>obtain ⟨a,c,rfl,_⟩:=h; rfl
 | order p=>obtain ⟨a,c,rfl,_⟩:=h; rfl
 | many n=>obtain ⟨a,rfl,_⟩:=h; rfl
 | num c n=>obtain ⟨a,ca,rfl,_⟩:=h; rfl
noncomputable def spLay (CG:Addr):Sp:=fun vs H Q E=>∃ (p l:Addr) (rs:List Str) (n:Int),vs=[.ref p]/\BoardAt H p l rs n/\Rows bd.cps.toList rs/\0<=n/\(12 < (shutC rs).length->∀ H',Same H H'->E (.ref CG) none H')/\((shutC rs).length<=12 ->
 ∀ (d:Addr) (ws:List V) (ks:List (List (Int × Int))) (H':Hp),H d=none->H' d=some (.lst ws)->Lists (fun a=>H a=none/\a ≠ d) H' ws ks->ws.Nodup->ks.Perm ((chosen n (cellsI rs)).filter (fitB rs))->ks.Pairwise (fun p q=>PySem.SeqAt.ltL q p=false)->Same H H'->Q (.ref d) H')
section
variable {P:Program}{w:World}{K:PySem.W.Frag}{mg:Str->Option Value}{base:Heap}{f:Addr}{fd:FuncData}{C_TooGreat:Addr}
theorem sc_layings:FnScope ["board","hidden","told"] ["board"] (defScope s_layings):=⟨rfl,rfl,rfl,by decide +kernel,rfl,by decide +kernel,by decide +kernel⟩
theorem ok_layings (T:Txt mg)(Z:Prog K mg)(O_TooGreat:ExCls K mg "TooGreat" C_TooGreat){f:Addr}{fd:FuncData}(D:DefAt K mg "layings" s_layings ["board"] f fd):FnOk P w K mg base (CXV P w) 4 f fd ["board"] (spLay C_TooGreat):=by
 obtain ⟨f_around,fd_around,D_around⟩:=Z.around
 obtain ⟨f_sign_at,fd_sign_at,D_sign_at⟩:=Z.sign_at
 obtain ⟨f_cells_of,fd_cells_of,D_cells_of⟩:=Z.cells_of
 obtain ⟨f_closed,fd_closed,D_closed⟩:=Z.closed
 obtain ⟨f_open_cells,fd_open_cells,D_open_cells⟩:=Z.open_cells
 obtain ⟨f_number_at,fd_number_at,D_number_at⟩:=Z.number_at
 obtain ⟨f_numbers_told,fd_numbers_told,D_numbers_told⟩:=Z.numbers_told
 obtain ⟨f_wrong_number,fd_wrong_number,D_wrong_number⟩:=Z.wrong_number
 obtain ⟨f_picks,fd_picks,D_picks⟩:=Z.picks
 refine D.F.okV sc_layings (fun vs H Q E h=>?_) (fun cdv A outer s H vs Q E hr h=>?_)
 ·obtain ⟨p,l,rs,n,rfl,_⟩:=h
  rfl
 ·obtain ⟨p,l,rs,n,rfl,b,R,n0,qg,q⟩:=h
  refine ⟨_,(pss_cons (ps_set (i:=1) sc_layings.nd rfl (Or.inl rfl) (pc0 (ok_closed T D_closed D_cells_of D_sign_at) hr D_closed (pa_cons (pv 0) pa_nil)))
   (pss_cons (ps_if (pt_cmpR op_gt (pe_callB call_len_seq (by rfl) T.b_len PySem.boot_len (pa_cons (pv 1) pa_nil)) (pe_glob (v:=.int 12) (by rfl) T.v_MOST_CLOSED.choose_spec (by exact ⟨_,rfl⟩)) (nomark _)) (pss_one (ps_raiseV leavesV_of O_TooGreat (by rfl) rfl (pa_cons pe_str pa_nil))) pss_nil)
   (pss_cons (ps_set (i:=2) sc_layings.nd rfl (Or.inr rfl) (pc0 (ok_numbers_told T D_numbers_told D_around D_sign_at D_cells_of D_open_cells D_number_at) hr D_numbers_told (pa_cons (pv 0) pa_nil)))
   (pss_one (ps_ret (pe_comp (N:=["pick","told"]) (src:=[none,some 2]) (CompOk.free (O:=(defScope s_layings).names) (XN:=["board","hidden","told"]) rfl rfl ⟨_,rfl⟩ rfl rfl (by decide +kernel) (by decide +kernel) (by decide +kernel) rfl (by decide +kernel)) rfl (pi_list (pc0 (ok_picks T D_picks) hr D_picks (pa_cons (pv 1) (pa_cons (pe_ix ix_tup (pv 0) pe_int (fun _ _=>rfl)) pa_nil)))) (fun _ _ _ _ _=>(pg_name (i:=0) (by show List.Nodup (["pick","told"]:List Str); decide +kernel) rfl (Or.inl rfl))) (fun _ _ _ _ _=>(pifs_one (pt_cmpR op_isN (pc0 (ok_wrong_number T D_wrong_number) hr D_wrong_number (pa_cons (pv 1) (pa_cons (pv 0) pa_nil))) pe_non (nomark _)))) (fun _ _ _ _ _=>(pv 0)))))))),?_⟩
  refine ⟨_,rfl,p,l,rs,n,rfl,b,R,fun d ws H1 hd hd1 hc1 s1=>?_⟩
  have wl:ws.length=(shutC rs).length:=hc1.length
  refine ⟨_,rfl,d,ws,rfl,.inl (SqL.of hd1),_,_,rfl,rfl,_,rfl,?_⟩
  by_cases h13:12 < (shutC rs).length
  ·exact iteP (decide_eq_true (by omega)) ⟨sz_1,qg h13 H1 s1⟩
  have h12:(shutC rs).length<=12:=by omega
  have q:=q h12
  refine iteN (decide_eq_false (by omega)) ?_
  refine ⟨_,rfl,p,l,rs,n,rfl,b.mono s1,R,fun td ut H2 htd htd2 hT s2=>?_⟩
  have s12:=s1.trans s2
  have tp:=Cel.tup2 (hc1.mono s2)
  refine ⟨_,rfl,_,rfl,p,_,1,_,rfl,rfl,SqT.of (b.mono s12).tp,rfl,d,ws,cellsI rs,n,rfl,s2 _ _ hd1,tp,?_,n0,fun pa fs F H3 hpa hpa3 hL hnd hpm hpw s3=>?_⟩
  ·show ((shutC rs).map toI).length<=14
   rw [List.length_map]
   omega
  have s13:=s12.trans s3
  have fl:fs.length<=16384:=by
   rw [lists_len hL,hpm.length_eq]
   unfold chosen
   refine Nat.le_trans (List.length_filter_le _ _) ?_
   rw [Subs.subs_pick,List.length_map,List.length_range]
   have e:(cellsI rs).length<=14:=by
    show ((shutC rs).map toI).length<=14
    rw [List.length_map]
    omega
   exact Nat.pow_le_pow_right (by decide) e
  refine ⟨pa,rfl,⟨_,SqL.of hpa3⟩,fun z hz=>?_⟩
  refine comp_list (K:=K) (a:=pa) (xs:=fs) (fun j σ' H'=>∃ (u0:Option V) (ys:List V),σ'=[u0,some (.ref td)]/\Same H3 H'/\H' z=some (.lst ys)/\Lists (fun a=>H a=none/\a ≠ z) H' ys ((F.take j).filter (fitB rs))/\ys.Sublist (fs.take j))
   ⟨_,[],rfl,same_new hz,upd_same,.nil,List.Sublist.slnil⟩ (fun j σ' H' _ ⟨_,_,_,z,_⟩=>SqL.of (z _ _ hpa3)) ?_ ?_
  ·rintro j v σ' H4 hv ⟨u0,ys,rfl,s4,hz4,hL4,sb4⟩
   obtain ⟨k,a,us,hk,rfl,an,ha,tw⟩:=lists_at hL hv
   have tj:F.take (j + 1)=F.take j++[k]:=by
    rw [List.take_add_one,hk]
    rfl
   have tf:fs.take (j + 1)=fs.take j++[.ref a]:=by
    rw [List.take_add_one,hv]
    rfl
   have s34:=s3.trans s4
   refine ⟨_,rfl,_,rfl,td,a,ut,us,rs,k,rfl,s34 _ _ htd2,tolds_mono s34 hT,R,s4 _ _ ha,tup2_mono s4 tw,fun v H5 s5 hw=>⟨rfl,_,rfl,?_⟩⟩
   rw [why_non hw,tf]
   have hz5:=s5 _ _ hz4
   by_cases hlt:fitB rs k=true
   ·have e1:((F.take (j + 1)).filter (fitB rs))=((F.take j).filter (fitB rs))++[k]:=by
     rw [tj,List.filter_append,List.filter_cons,if_pos hlt]
     rfl
    rw [e1]
    have az:a ≠ z:=ne_of_none ha hz
    have yl:ys.length<=16384:=by
     have:=sb4.length_le
     rw [List.length_take] at this
     omega
    refine iteP hlt ⟨_,rfl,ys,hz5,Nat.lt_of_le_of_lt yl (by decide),_,ys++[.ref a],rfl,fun b o e=>?_,upd_same,lists_app (lists_into hz5 (fun a h=>h.2) (lists_mono s5 hL4)) (.cons ⟨a,us,rfl,⟨s12.free an.1,az⟩,by rw [upd_ne az]; exact s5 _ _ (s4 _ _ ha),tup2_into hz5 (tup2_mono (s4.trans s5) tw)⟩ .nil),List.Sublist.append sb4 (List.Sublist.refl _)⟩
    rw [upd_ne (ne_of_none e hz)]
    exact s5 _ _ (s4 _ _ e)
   ·have e1:((F.take (j + 1)).filter (fitB rs))=((F.take j).filter (fitB rs)):=by
     rw [tj,List.filter_append,List.filter_cons,if_neg hlt]
     simp
    rw [e1]
    exact iteN (Bool.eq_false_iff.mpr hlt) ⟨_,ys,rfl,s4.trans s5,hz5,lists_mono s5 hL4,sb4.trans (List.sublist_append_left _ _)⟩
  ·rintro σ' H4 ⟨u0,ys,rfl,s4,hz4,hL4,sb4⟩
   rw [lists_len hL,List.take_length] at hL4
   rw [List.take_length] at sb4
   exact q z ys _ H4 (s13.free hz) hz4 hL4 (hnd.sublist sb4) (hpm.filter _) (hpw.filter _) (s13.trans s4)
end
structure Facts (K:PySem.W.Frag)(C SE C1 C2 C3 C4 C5 C6 C7 C8 C9:Addr)(b1 b2:Bool):Prop where
 fd:ExFind K C
 mro:PySem.W.mroIn K C (.ref SE)=some true
 k1:PySem.W.kitOne K (.ref C) (.ref C1)=some b1
 k2:PySem.W.kitOne K (.ref C) (.ref C2)=some b2
 k3:PySem.W.kitOne K (.ref C) (.ref C3)=some false
 k4:PySem.W.kitOne K (.ref C) (.ref C4)=some false
 k5:PySem.W.kitOne K (.ref C) (.ref C5)=some false
 k6:PySem.W.kitOne K (.ref C) (.ref C6)=some false
 k7:PySem.W.kitOne K (.ref C) (.ref C7)=some false
 k8:PySem.W.kitOne K (.ref C) (.ref C8)=some false
 k9:PySem.W.kitOne K (.ref C) (.ref C9)=some false
 kv:PySem.W.kitOne K (.ref C) (.type "ValueError")=some true
theorem boot_VE:bootBuiltins "ValueError"=some (.type "ValueError"):=by with_unfolding_all rfl
structure Ex10 (K:PySem.W.Frag)(mg:Str->Option Value)(C0 C1 C2 C3 C4 C5 C6 C7 C8 C9:Addr):Prop where
 o0:ExCls K mg "StoneError" C0
 o1:ExCls K mg "TooGreat" C1
 o2:ExCls K mg "NoLaying" C2
 o3:ExCls K mg "NoBoard" C3
 o4:ExCls K mg "NoCount" C4
 o5:ExCls K mg "NoCell" C5
 o6:ExCls K mg "NoText" C6
 o7:ExCls K mg "NoRow" C7
 o8:ExCls K mg "NoNumber" C8
 o9:ExCls K mg "NoTable" C9
 fg:Facts K C1 C0 C1 C2 C3 C4 C5 C6 C7 C8 C9 true false
noncomputable def spCls (eN C:Addr):Sp:=fun vs H Q _=>vs=[.ref eN]/\H eN=some (exB eN C)/\∀ (d:Addr) (H':Hp),H d=none->H' d=some (.lst [.int 0,.int 9])->Same H H'->Q (.ref d) H'
noncomputable def okB (k:Nat):Bool:=k == 0 || k == 9
section
variable {P:Program}{w:World}{K:PySem.W.Frag}{mg:Str->Option Value}{base:Heap}{f:Addr}{fd:FuncData}{C_StoneError C_TooGreat C_NoLaying C_NoBoard C_NoCount C_NoCell C_NoText C_NoRow C_NoNumber C_NoTable:Addr}
theorem sc_law_classes:FnScope ["_law_e","_law_some"] ["_law_e"] (defScope s_law_classes):=⟨rfl,rfl,rfl,by decide +kernel,rfl,by decide +kernel,by decide +kernel⟩
theorem ok_law_classes (T:Txt mg)(U:Ex10 K mg C_StoneError C_TooGreat C_NoLaying C_NoBoard C_NoCount C_NoCell C_NoText C_NoRow C_NoNumber C_NoTable)(D:DefAt K mg "_law_classes" s_law_classes ["_law_e"] f fd)(eN:Addr):FnOkN eN P w K mg base CX0 1 f fd ["_law_e"] (spCls eN C_TooGreat):=by
 obtain ⟨O_StoneError,O_TooGreat,O_NoLaying,O_NoBoard,O_NoCount,O_NoCell,O_NoText,O_NoRow,O_NoNumber,O_NoTable,F⟩:=U
 refine D.F.okN sc_law_classes (fun vs H Q E h=>?_) (fun cdv A outer s H vs Q E hr h=>?_)
 ·obtain ⟨rfl,_⟩:=h
  rfl
 ·obtain ⟨rfl,he,q⟩:=h
  refine ⟨_,(pss_cons (ps_set (i:=1) sc_law_classes.nd rfl (Or.inr rfl) (pe_lst (pa_cons (pe_callB (call_isinstB (K:=K) (by rfl)) (by rfl) T.b_isinstance PyProof.Rows.boot_isinstance (pa_cons (pv 0) (pa_cons (pe_glob (v:=.ref C_TooGreat) (by rfl) O_TooGreat.g (by exact rfl)) pa_nil))) (pa_cons (pe_callB (call_isinstB (K:=K) (by rfl)) (by rfl) T.b_isinstance PyProof.Rows.boot_isinstance (pa_cons (pv 0) (pa_cons (pe_glob (v:=.ref C_NoBoard) (by rfl) O_NoBoard.g (by exact rfl)) pa_nil))) (pa_cons (pe_callB (call_isinstB (K:=K) (by rfl)) (by rfl) T.b_isinstance PyProof.Rows.boot_isinstance (pa_cons (pv 0) (pa_cons (pe_glob (v:=.ref C_NoCount) (by rfl) O_NoCount.g (by exact rfl)) pa_nil))) (pa_cons (pe_callB (call_isinstB (K:=K) (by rfl)) (by rfl) T.b_isinstance PyProof.Rows.boot_isinstance (pa_cons (pv 0) (pa_cons (pe_glob (v:=.ref C_NoLaying) (by rfl) O_NoLaying.g (by exact rfl)) pa_nil))) pa_nil))))))
   (pss_cons (ps_set (i:=1) sc_law_classes.nd rfl (Or.inr rfl) (pe_op op_cat (pv 1) (pe_lst (pa_cons (pe_callB (call_isinstB (K:=K) (by rfl)) (by rfl) T.b_isinstance PyProof.Rows.boot_isinstance (pa_cons (pv 0) (pa_cons (pe_glob (v:=.ref C_NoCell) (by rfl) O_NoCell.g (by exact rfl)) pa_nil))) (pa_cons (pe_callB (call_isinstB (K:=K) (by rfl)) (by rfl) T.b_isinstance PyProof.Rows.boot_isinstance (pa_cons (pv 0) (pa_cons (pe_glob (v:=.ref C_NoText) (by rfl) O_NoText.g (by exact rfl)) pa_nil))) (pa_cons (pe_callB (call_isinstB (K:=K) (by rfl)) (by rfl) T.b_isinstance PyProof.Rows.boot_isinstance (pa_cons (pv 0) (pa_cons (pe_glob (v:=.ref C_NoRow) (by rfl) O_NoRow.g (by exact rfl)) pa_nil))) (pa_cons (pe_callB (call_isinstB (K:=K) (by rfl)) (by rfl) T.b_isinstance PyProof.Rows.boot_isinstance (pa_cons (pv 0) (pa_cons (pe_glob (v:=.ref C_NoNumber) (by rfl) O_NoNumber.g (by exact rfl)) pa_nil))) pa_nil)))))))
   (pss_cons (ps_set (i:=1) sc_law_classes.nd rfl (Or.inr rfl) (pe_op op_cat (pv 1) (pe_lst (pa_cons (pe_callB (call_isinstB (K:=K) (by rfl)) (by rfl) T.b_isinstance PyProof.Rows.boot_isinstance (pa_cons (pv 0) (pa_cons (pe_glob (v:=.ref C_NoTable) (by rfl) O_NoTable.g (by exact rfl)) pa_nil))) (pa_cons (pe_callB (call_isinstB (K:=K) (by rfl)) (by rfl) T.b_isinstance PyProof.Rows.boot_isinstance (pa_cons (pv 0) (pa_cons (pe_bltn (v:=.ty "ValueError") (by rfl) T.b_ValueError boot_VE (by rfl)) pa_nil))) pa_nil)))))
   (pss_one (ps_ret (pe_compN (N:=["_law_k","_law_some"]) (src:=[none,some 1]) (CompOk.free (O:=(defScope s_law_classes).names) (XN:=["_law_e","_law_some"]) rfl rfl ⟨_,rfl⟩ rfl rfl (by decide +kernel) (by decide +kernel) (by decide +kernel) rfl (by decide +kernel)) hr.hd (pi_range1N (by rfl) T.b_range (pa_cons pe_int pa_nil)) (fun _ _ _ _ _=>(pg_name (i:=0) (by show List.Nodup (["_law_k","_law_some"]:List Str); decide +kernel) rfl (Or.inl rfl))) (fun _ _ _ _ _=>(pifs_one (pt_truthK (K:=K) (by rfl) (pe_ix (ix_listK (K:=K) (by rfl)) (pv 1) (pv 0) (fun _ _=>rfl)) (fun _=>rfl)))) (fun _ _ _ _ _=>(pv 0)))))))),?_⟩
  refine ⟨_,rfl,eN,_,_,_,rfl,he,F.fd,.inl ⟨_,rfl⟩,F.k1,_,rfl,eN,_,_,_,rfl,he,F.fd,.inl ⟨_,rfl⟩,F.k3,_,rfl,eN,_,_,_,rfl,he,F.fd,.inl ⟨_,rfl⟩,F.k4,_,rfl,eN,_,_,_,rfl,he,F.fd,.inl ⟨_,rfl⟩,F.k2,sz_4,fun d1 hd1=>?_⟩
  have s1:=same_new (o:=.lst [.bl true,.bl false,.bl false,.bl false]) hd1
  have he1:=s1 _ _ he
  refine ⟨_,rfl,_,rfl,eN,_,_,_,rfl,he1,F.fd,.inl ⟨_,rfl⟩,F.k5,_,rfl,eN,_,_,_,rfl,he1,F.fd,.inl ⟨_,rfl⟩,F.k6,_,rfl,eN,_,_,_,rfl,he1,F.fd,.inl ⟨_,rfl⟩,F.k7,_,rfl,eN,_,_,_,rfl,he1,F.fd,.inl ⟨_,rfl⟩,F.k8,sz_4,fun d2 hd2=>⟨d1,d2,_,_,rfl,rfl,same_new hd2 _ _ upd_same,upd_same,(by show 8<=sizeLine; decide),fun d3 hd3=>?_⟩⟩
  have s3:=(s1.trans (same_new (o:=.lst [.bl false,.bl false,.bl false,.bl false]) hd2)).trans (same_new (o:=.lst ([.bl true,.bl false,.bl false,.bl false]++[.bl false,.bl false,.bl false,.bl false])) hd3)
  have he3:=s3 _ _ he
  refine ⟨_,rfl,_,rfl,eN,_,_,_,rfl,he3,F.fd,.inl ⟨_,rfl⟩,F.k9,_,rfl,eN,_,_,_,rfl,he3,F.fd,.inr ⟨_,rfl⟩,F.kv,sz_2,fun d4 hd4=>⟨d3,d4,_,_,rfl,rfl,same_new hd4 _ _ upd_same,upd_same,(by show 10<=sizeLine; decide),fun d5 hd5=>?_⟩⟩
  have s5:=(s3.trans (same_new (o:=.lst [.bl false,.bl true]) hd4)).trans (same_new (o:=.lst (([.bl true,.bl false,.bl false,.bl false]++[.bl false,.bl false,.bl false,.bl false])++[.bl false,.bl true])) hd5)
  have he5:=s5 _ _ he
  refine ⟨10,rfl,by decide,by decide,fun z hz=>?_⟩
  have hx5:=upd_same (H:=upd (upd (upd (upd H d1 (.lst [.bl true,.bl false,.bl false,.bl false])) d2 (.lst [.bl false,.bl false,.bl false,.bl false])) d3 (.lst ([.bl true,.bl false,.bl false,.bl false]++[.bl false,.bl false,.bl false,.bl false]))) d4 (.lst [.bl false,.bl true])) (a:=d5) (o:=.lst (([.bl true,.bl false,.bl false,.bl false]++[.bl false,.bl false,.bl false,.bl false])++[.bl false,.bl true]))
  generalize upd (upd (upd (upd (upd H d1 (.lst [.bl true,.bl false,.bl false,.bl false])) d2 (.lst [.bl false,.bl false,.bl false,.bl false])) d3 (.lst ([.bl true,.bl false,.bl false,.bl false]++[.bl false,.bl false,.bl false,.bl false]))) d4 (.lst [.bl false,.bl true])) d5 (.lst (([.bl true,.bl false,.bl false,.bl false]++[.bl false,.bl false,.bl false,.bl false])++[.bl false,.bl true]))=H5 at *
  refine compN_range (lo:=0) (fun i σ' H'=>∃ (u0:Option V),σ'=[u0,some (.ref d5)]/\Same H5 H'/\H' z=some (.lst (((List.range i).filter okB).map fun k=>V.int (k:Nat))))
   ⟨none,rfl,same_new hz,upd_same⟩ (fun σ' H' ⟨_,_,s6,_⟩=>⟨_,s6 _ _ he5⟩) ?_ ?_
  ·rintro i σ' H6 hi ⟨u0,rfl,s6,hz6⟩
   have hb:atI (([V.bl true,.bl false,.bl false,.bl false]++[.bl false,.bl false,.bl false,.bl false])++[.bl false,.bl true]) ((i:Nat):Int)=some (.bl (okB i)):=by
    have hi:i < 10:=hi
    match i,hi with
    | 0,_=>rfl
    | 1,_=>rfl
    | 2,_=>rfl
    | 3,_=>rfl
    | 4,_=>rfl
    | 5,_=>rfl
    | 6,_=>rfl
    | 7,_=>rfl
    | 8,_=>rfl
    | 9,_=>rfl
   have e0:(0:Int) + (i:Nat)=(i:Nat):=Int.zero_add _
   have rs:(List.range (i + 1)).filter okB=(List.range i).filter okB++(if okB i=true then [i] else []):=by
    rw [List.range_succ,List.filter_append,List.filter_cons]
    rfl
   rw [e0]
   refine ⟨_,rfl,_,rfl,d5,_,i,_,rfl,rfl,SqL.of (s6 _ _ hx5),hb,okB i,by exact rfl,?_⟩
   by_cases ho:okB i=true
   ·have l:(((List.range i).filter okB).map fun k=>V.int (k:Nat)).length < sizeLine:=by
     rw [List.length_map]
     refine Nat.lt_of_le_of_lt (List.length_filter_le _ _) ?_
     rw [List.length_range]
     have hi:i < 10:=hi
     exact Nat.lt_trans hi (by decide)
    refine iteP ho ⟨_,rfl,_,hz6,l,_,rfl,fun b o e=>?_,?_⟩
    ·rw [upd_ne (ne_of_none e hz)]
     exact s6 _ _ e
    ·rw [rs,if_pos ho,List.map_append]
     exact upd_same
   ·refine iteN (Bool.eq_false_iff.mpr ho) ⟨_,rfl,s6,?_⟩
    rw [rs,if_neg ho,List.append_nil]
    exact hz6
  ·rintro σ' H6 ⟨u0,rfl,s6,hz6⟩
   exact q z H6 (s5.free hz) hz6 (s5.trans s6)
end
noncomputable def spTold13:Sp:=fun vs H Q _=>∃ (p l:Addr) (rs:List Str) (n:Int),vs=[.ref p]/\BoardAt H p l rs n/\Rows bd.cps.toList rs/\0<=n /\
 (12 < (shutC rs).length->∀ (t a:Addr) (H':Hp),H' t=some (.tup [.non,.ref a])->H' a=some (.lst [.int 0,.int 9])->Same H H'->Q (.ref t) H') /\
 ((shutC rs).length<=12->∀ (t a d:Addr) (ws:List V) (ks:List (List (Int × Int))) (H':Hp),H' t=some (.tup [.ref d,.ref a])->H' a=some (.lst [])->H' d=some (.lst ws)->Lists (fun _=>True) H' ws ks->ws.Nodup->ks.Perm ((chosen n (cellsI rs)).filter (fitB rs))->ks.Pairwise (fun p q=>PySem.SeqAt.ltL q p=false)->Same H H'->Q (.ref t) H')
section
variable {P:Program}{w:World}{K:PySem.W.Frag}{mg:Str->Option Value}{base:Heap}{f:Addr}{fd:FuncData}{C_StoneError C_TooGreat C_NoLaying C_NoBoard C_NoCount C_NoCell C_NoText C_NoRow C_NoNumber C_NoTable:Addr}
theorem sc_law_told:FnScope ["_law_board","_law_found","_law_some","_law_e"] ["_law_board"] (defScope s_law_told):=⟨rfl,rfl,rfl,by decide +kernel,rfl,by decide +kernel,by decide +kernel⟩
theorem ok_law_told (T:Txt mg)(Z:Prog K mg)(U:Ex10 K mg C_StoneError C_TooGreat C_NoLaying C_NoBoard C_NoCount C_NoCell C_NoText C_NoRow C_NoNumber C_NoTable){f:Addr}{fd:FuncData}(D:DefAt K mg "_law_told" s_law_told ["_law_board"] f fd):FnOk P w K mg base CX0 5 f fd ["_law_board"] spTold13:=by
 obtain ⟨f_layings,fd_layings,D_layings⟩:=Z.layings
 obtain ⟨f_law_classes,fd_law_classes,D_law_classes⟩:=Z.law_classes
 have  G_layings:FnOk P w K mg base (CXV P w) 4 _ _ ["board"] (spLay C_TooGreat):=ok_layings T Z U.o1 D_layings
 have  G_law_classes:∀ e,FnOkN e P w K mg base CX0 1 _ _ ["_law_e"] (spCls e C_TooGreat):=fun e=>ok_law_classes T U D_law_classes e
 have O_StoneError:=U.o0
 have F:=U.fg
 refine D.F.ok sc_law_told (fun vs H Q E h=>?_) (fun cdv A outer s H vs Q E hr h=>?_)
 ·obtain ⟨p,l,rs,n,rfl,_⟩:=h
  rfl
 ·obtain ⟨p,l,rs,n,rfl,b,R,n0,qg,q⟩:=h
  refine ⟨_,(pss_cons (ps_set (i:=1) sc_law_told.nd rfl (Or.inl rfl) pe_non)
   (pss_cons (ps_set (i:=2) sc_law_told.nd rfl (Or.inl rfl) (pe_lst pa_nil))
   (pss_mid (ps_tryV (i:=1) (j:=3) rfl rfl G_layings (hr.mono (by decide)) (by rfl) D_layings.g D_layings.F.kp D_layings.b sc_law_told.nd rfl (Or.inl rfl) (Or.inr rfl) rfl rfl (by rfl) O_StoneError (pa_cons (pv 0) pa_nil) (fun eN=>(pss_one (ps_set (i:=2) sc_law_told.nd rfl (Or.inl rfl) (pe_callN (G_law_classes eN) (Room.marked hr eN) D_law_classes (pa_cons (pv 3) pa_nil))))))
   (pss_one (ps_ret (pe_tup (pa_cons (pv 1) (pa_cons (pv 2) pa_nil)))))))),?_⟩
  refine ⟨sz_0,fun d0 hd0=>?_⟩
  have s0:=same_new (o:=.lst []) hd0
  have h0:=upd_same (H:=H) (a:=d0) (o:=.lst [])
  generalize upd H d0 (.lst [])=H0 at *
  refine ⟨fun σ' H'=>(∃ (v:V) (a:Addr) (u:Option V),σ'=[some (.ref p),some v,some (.ref a),u]/\∀ (t:Addr),H' t=none->Q (.ref t) (upd H' t (.tup [v,.ref a]))),?_,?_⟩
  ·refine ⟨_,rfl,p,l,rs,n,rfl,b.mono s0,R,n0,fun h13 H1 s1=>⟨C_TooGreat,rfl,F.mro,fun e hn=>?_⟩,fun h12 d ws ks H1 hd hd1 hL hnd hpm hpw s1=>?_⟩
   ·refine ⟨_,rfl,rfl,upd_same,fun d H2 hd hd2 s2=>?_⟩
    refine ⟨.non,d,_,rfl,fun t ht=>?_⟩
    exact qg h13 t d _ upd_same (same_new ht _ _ hd2) (((s0.trans s1).trans (same_new hn)).trans (s2.trans (same_new ht)))
   ·refine ⟨.ref d,d0,_,rfl,fun t ht=>?_⟩
    have st:=same_new (o:=.tup [.ref d,.ref d0]) ht
    exact q h12 t d0 d ws ks _ upd_same (st _ _ (s1 _ _ h0)) (st _ _ hd1) (lists_mono st (lists_weak (fun _ _=>trivial) hL)) hnd hpm hpw ((s0.trans s1).trans st)
  ·rintro σ' H' ⟨v,a,u,rfl,q⟩
   exact ⟨_,rfl,_,rfl,sz_2,fun t ht=>q t ht⟩
end
theorem ch_turnA (n k:Nat):(Choose.ch n k:Int) * ((n:Int) - k) / ((k:Int) + 1)=Choose.ch n (k + 1):=by
 by_cases h:k < n
 ·exact Choose.ch_turn h
 ·rw [Choose.ch_beyond n (k + 1) (by omega)]
  by_cases e:k=n
  ·subst e
   rw [Int.sub_self,Int.mul_zero]
   simp
  ·rw [Choose.ch_beyond n k (by omega)]
   simp
noncomputable def chI (c n:Int):Int:=if n < 0 then 0 else Choose.ch c.toNat n.toNat
noncomputable def spMany:Sp:=fun vs H Q _=>∃ c n:Int,vs=[.int c,.int n]/\0<=c/\c<=64/\n<=64/\Q (.int (chI c n)) H
theorem sc_law_many:FnScope ["_law_cells","_law_stones","_law_many_here","_law_k"] ["_law_cells","_law_stones"] (defScope s_law_many):=⟨rfl,rfl,rfl,by decide +kernel,rfl,by decide +kernel,by decide +kernel⟩
theorem ok_law_many (T:Txt mg)(D:DefAt K mg "_law_many" s_law_many ["_law_cells","_law_stones"] f fd):FnOk P w K mg base CX0 1 f fd ["_law_cells","_law_stones"] spMany:=by
 refine D.F.ok sc_law_many (fun vs H Q E h=>?_) (fun cdv A outer s H vs Q E hr h=>?_)
 ·obtain ⟨c,n,rfl,_⟩:=h
  rfl
 ·obtain ⟨c,n,rfl,c0,c1,n1,q⟩:=h
  refine ⟨_,(pss_cons (ps_set (i:=2) sc_law_many.nd rfl (Or.inl rfl) pe_int)
   (pss_cons (ps_if (pt_cmpR op_lt (pv 1) pe_int (nomark _)) (pss_one (ps_ret pe_int)) pss_nil)
   (pss_cons (ps_for PassesOwn.never rfl (pi_range1 (by rfl) T.b_range (pa_cons (pv 1) pa_nil)) (pg_name (i:=3) sc_law_many.nd rfl (Or.inl rfl)) (pss_one (ps_set (i:=2) sc_law_many.nd rfl (Or.inl rfl) (pe_op op_fdivG (pe_op op_mulG (pv 2) (pe_op op_sub (pv 0) (pv 3))) (pe_op op_add (pv 3) pe_int)))))
   (pss_one (ps_ret (pv 2)))))),?_⟩
  unfold chI at q
  refine ⟨_,rfl,_,_,rfl,rfl,_,rfl,?_⟩
  by_cases n0:n < 0
  ·rw [if_pos n0] at q
   exact iteP (decide_eq_true n0) q
  ·rw [if_neg n0] at q
   refine iteN (decide_eq_false n0) ?_
   refine ⟨_,rfl,n,rfl,by omega,by omega,?_⟩
   refine for_range (lo:=0) (n:=n.toNat) (fun i σ H'=>∃ v,σ=[some (.int c),some (.int n),some (.int (Choose.ch c.toNat i)),v]/\H'=H) ⟨_,by rw [Choose.ch_zero]; rfl,rfl⟩ ?_ ?_
   ·rintro i σ H' hi ⟨v,rfl,rfl⟩
    refine ⟨_,rfl,_,rfl,_,rfl,_,_,rfl,rfl,_,_,rfl,rfl,mulS (by omega) (by omega),_,rfl,_,_,rfl,rfl,_,_,rfl,rfl,CDivG.small (by omega) (by omega),?_⟩
    refine ⟨some (.int (0 + (i:Int))),?_,rfl⟩
    have e:=ch_turnA c.toNat i
    have e1:((c.toNat:Nat):Int)=c:=Int.toNat_of_nonneg c0
    rw [e1] at e
    have e2:(Choose.ch c.toNat i:Int) * (c - (0 + (i:Int))) / (0 + (i:Int) + 1)=Choose.ch c.toNat (i + 1):=by
     rw [Int.zero_add]
     exact e
    show [_,_,some (V.int ((Choose.ch c.toNat i:Int) * (c - (0 + (i:Int))) / (0 + (i:Int) + 1))),_]=_
    rw [e2]
   ·rintro σ H' ⟨v,rfl,rfl⟩
    exact ⟨_,rfl,q⟩
noncomputable def TxtOk (z:Str):Prop:=(∃ m:Nat,1<=m/\m<=8/\z.length=8 * m)/\∀ c ∈ z.cps.toList,c=35\/c=63
noncomputable def spText (K:PySem.W.Frag):Sp:=fun vs H Q _=>∃ (a:Addr) (ns:List Int),vs=[.ref a]/\SqL K H a (ns.map V.int)/\∀ z:Str,TxtOk z->Q (.str z) H
theorem sc_law_text:FnScope ["_law_script","_law_cells","_law_ahead","_law_text_here"] ["_law_script"] (defScope s_law_text):=⟨rfl,rfl,rfl,by decide +kernel,rfl,by decide +kernel,by decide +kernel⟩
theorem ok_law_text (T:Txt mg)(Z:Prog K mg){f:Addr}{fd:FuncData}(D:DefAt K mg "_law_text" s_law_text ["_law_script"] f fd):FnOk P w K mg base CX0 2 f fd ["_law_script"] (spText K):=by
 obtain ⟨f_law_cell_at,fd_law_cell_at,D_law_cell_at⟩:=Z.law_cell_at
 have G_law_cell_at:FnOk P w K mg base CX0 1 _ _ ["_law_script","_law_k"] (spCell K):=ok_law_cell_at T D_law_cell_at
 refine D.F.ok sc_law_text (fun vs H Q E h=>?_) (fun cdv A outer s H vs Q E hr h=>?_)
 ·obtain ⟨a,ns,rfl,_⟩:=h
  rfl
 ·obtain ⟨a,ns,rfl,hS,q⟩:=h
  refine ⟨_,(pss_cons (ps_set (i:=1) sc_law_text.nd rfl (Or.inl rfl) (pe_op op_add pe_int (pe_op op_mod (pc0 G_law_cell_at hr D_law_cell_at (pa_cons (pv 0) (pa_cons pe_int pa_nil))) pe_int)))
   (pss_mid (ps_if (pt_cmpR op_gt (pe_op op_mod (pc0 G_law_cell_at hr D_law_cell_at (pa_cons (pv 0) (pa_cons pe_int pa_nil))) pe_int) pe_int (nomark _)) (pss_one (ps_set (i:=1) sc_law_text.nd rfl (Or.inl rfl) (pe_op op_add pe_int (pe_op op_mod (pc0 G_law_cell_at hr D_law_cell_at (pa_cons (pv 0) (pa_cons pe_int pa_nil))) pe_int)))) pss_nil)
   (pss_cons (ps_set (i:=2) sc_law_text.nd rfl (Or.inl rfl) (pe_op op_mulG (pe_op op_mod (pe_op op_fdivG (pc0 G_law_cell_at hr D_law_cell_at (pa_cons (pv 0) (pa_cons pe_int pa_nil))) pe_int) pe_int) (pe_callTy call_int1 (by rfl) T.b_int PyProof.Rows.boot_int (pa_cons (pe_cmpR op_lt (pv 1) pe_int (nomark _)) pa_nil))))
   (pss_cons (ps_set (i:=3) sc_law_text.nd rfl (Or.inl rfl) (pe_op op_add_str (pe_op op_rep_strZ pe_str (pv 2)) (pe_op op_rep_strZ pe_str (pv 1))))
   (pss_one (ps_ret (pe_op op_add_str (pv 3) (pe_op op_rep_strZ pe_str (pe_op op_sub (pe_op op_mulG pe_int (pe_op op_fdivG (pe_op op_add (pe_callB call_len_str (by rfl) T.b_len PySem.boot_len (pa_cons (pv 3) pa_nil)) pe_int) pe_int)) (pe_callB call_len_str (by rfl) T.b_len PySem.boot_len (pa_cons (pv 3) pa_nil))))))))))),?_⟩
  refine ⟨_,rfl,a,ns,0,rfl,hS,by decide,fun z0=>⟨_,_,rfl,rfl,(by show (0:Int) < 64; decide),_,_,rfl,rfl,?_⟩⟩
  refine ⟨fun σ' H'=>∃ c:Int,σ'=[some (.ref a),some (.int c),none,none]/\H'=H/\1<=c/\c<=64,?_,?_⟩
  ·refine ⟨_,rfl,a,ns,1,rfl,hS,by decide,fun z1=>⟨_,_,rfl,rfl,(by show (0:Int) < 3; decide),_,_,rfl,rfl,_,rfl,?_⟩⟩
   refine ite2 (fun _=>?_) (fun _=>?_)
   ·refine ⟨_,rfl,a,ns,0,rfl,hS,by decide,fun z2=>⟨_,_,rfl,rfl,(by show (0:Int) < 6; decide),_,_,rfl,rfl,_,rfl,rfl,?_⟩⟩
    omega
   ·refine ⟨_,rfl,rfl,?_⟩
    omega
  ·rintro σ' H' ⟨c,rfl,rfl,c1,c2⟩
   refine ⟨_,rfl,a,ns,1,rfl,hS,by decide,fun z1=>?_⟩
   have a0:0<=z1 / 3 % 8 * (if decide (c < 57)=true then 1 else 0):=by split <;> omega
   have a1:z1 / 3 % 8 * (if decide (c < 57)=true then 1 else 0)<=7:=by split <;> omega
   have a2:c + z1 / 3 % 8 * (if decide (c < 57)=true then 1 else 0)<=64:=by
    by_cases h:c < 57
    ·rw [if_pos (decide_eq_true h)]
     omega
    ·rw [if_neg (by rw [decide_eq_true_eq]; exact h)]
     omega
   refine ⟨_,_,rfl,rfl,CDivG.small (by decide) (by decide),_,_,rfl,rfl,(by show (0:Int) < 8; decide),_,rfl,_,_,rfl,rfl,.inr ⟨_,rfl,_,_,rfl,rfl,mulS (by omega) (by split <;> decide),?_⟩⟩
   refine ⟨_,rfl,_,_,rfl,rfl,a0,by omega,by decide,fun s1 l1 m1=>⟨_,rfl,_,_,rfl,rfl,by omega,by omega,by decide,fun s2 l2 m2=>?_⟩⟩
   have l1:s1.length=(z1 / 3 % 8 * (if decide (c < 57)=true then 1 else 0)).toNat:=by
    rw [l1]
    show 1 * _=_
    rw [Nat.one_mul]
   have l2:s2.length=c.toNat:=by
    rw [l2]
    show 1 * _=_
    rw [Nat.one_mul]
   have l12:(s1++s2).length=s1.length + s2.length:=Array.size_append
   have k:(64:Nat)<=sizeLine:=by decide
   refine ⟨_,_,rfl,rfl,by omega,?_⟩
   refine ⟨_,rfl,_,rfl,_,rfl,by omega,_,_,rfl,rfl,_,_,rfl,rfl,CDivG.small (by decide) (by decide),_,_,rfl,rfl,mulS (by omega) (by omega),_,rfl,_,rfl,by omega,_,_,rfl,rfl,?_⟩
   refine ⟨_,_,rfl,rfl,by omega,by omega,by decide,fun s3 l3 m3=>?_⟩
   have l3:s3.length=(8 * (((s1++s2).length + 7:Int) / 8) - (s1++s2).length).toNat:=by
    rw [l3]
    show 1 * _=_
    rw [Nat.one_mul]
   have l123:(s1++s2++s3).length=(s1++s2).length + s3.length:=Array.size_append
   refine ⟨_,_,rfl,rfl,by omega,q _ ⟨⟨((s1++s2).length + 7) / 8,by omega,by omega,by omega⟩,fun x hx=>?_⟩⟩
   have hx:x ∈ ((s1.cps++s2.cps)++s3.cps).toList:=hx
   rw [Array.toList_append,Array.toList_append,List.mem_append,List.mem_append] at hx
   have one:∀ (ch:Nat) (y:Str),y.cps.toList=[ch]->∀ c ∈ y.cps.toList,c=ch:=fun ch y e c hc=>by
    rw [e] at hc
    exact List.mem_singleton.mp hc
   rcases hx with (hx | hx) | hx
   ·exact .inl (one 35 "#" rfl _ (m1 x hx))
   ·exact .inr (one 63 "?" rfl _ (m2 x hx))
   ·exact .inl (one 35 "#" rfl _ (m3 x hx))
noncomputable def spRise:Sp:=fun vs H Q _=>∃ (sa:Addr) (us:List V) (r:Nat->Bool),vs=[.ref sa]/\H sa=some (.lst us)/\us.length<=16384 /\
 (∀ i x y,us[i]?=some x->us[i + 1]?=some y->∀ H' (Q':VK),Same H H'->Q' (.bl (r i)) H'->rLt2 x y H' Q'\/rLtL x y H' Q')/\∀ H',Same H H'->Q (.bl (((List.range (us.length - 1)).map r).all id)) H'
theorem yes_if {σ:St}{H:Hp}{A B:Hp->Prop}(h:A H):tYes σ H fun b H4=>if b=true then A H4 else B H4:=by
 show if true=true then A H else B H
 rw [if_pos rfl]
 exact h
theorem sc_law_rising:FnScope ["_law_some"] ["_law_some"] (defScope s_law_rising):=⟨rfl,rfl,rfl,by decide +kernel,rfl,by decide +kernel,by decide +kernel⟩
theorem ok_law_rising (T:Txt mg)(D:DefAt K mg "_law_rising" s_law_rising ["_law_some"] f fd):FnOk P w K mg base CX0 1 f fd ["_law_some"] spRise:=by
 refine D.F.ok sc_law_rising (fun vs H Q E h=>?_) (fun cdv A outer s H vs Q E hr h=>?_)
 ·obtain ⟨sa,us,r,rfl,_⟩:=h
  rfl
 ·obtain ⟨sa,us,r,rfl,hsa,ul,hr2,q⟩:=h
  refine ⟨_,(pss_one (ps_ret (pe_callB (call_all rfl) (by rfl) T.b_all PyProof.Rows.boot_all (pa_cons (pe_comp (N:=["_law_one","_law_other"]) (src:=[none,none]) (CompOk.plain rfl (by decide +kernel) (by decide +kernel) (by decide +kernel) rfl (by decide)) rfl (pi_zip (by rfl) T.b_zip (pa_cons (pe_slice sl_list (pv 0) po_none (po_some (pe_un un_neg pe_int))) (pa_cons (pe_slice sl_list (pv 0) (po_some pe_int) po_none) pa_nil))) (fun _ _ _ _ _=>(pg_tupK (n:=2) (K:=K) (by rfl) rfl (pgs_cons (pg_name (i:=0) (by show List.Nodup (["_law_one","_law_other"]:List Str); decide +kernel) rfl (Or.inl rfl)) (pgs_cons (pg_name (i:=1) (by show List.Nodup (["_law_one","_law_other"]:List Str); decide +kernel) rfl (Or.inl rfl)) pgs_nil)))) (fun _ _ _ _ _=>pifs_nil) (fun _ _ _ _ _=>(pe_cmpR (op_lt_any hr.units) (pv 0) (pv 1) (nomark _)))) pa_nil)))),?_⟩
  refine ⟨_,rfl,_,rfl,_,rfl,sa,_,rfl,SqL.of hsa,fun d1 hd1=>?_⟩
  have y1:=same_new (o:=.lst (cutV us none (some (-1)))) hd1
  have h1:=upd_same (H:=H) (a:=d1) (o:=.lst (cutV us none (some (-1))))
  refine ⟨_,rfl,_,rfl,sa,_,rfl,SqL.of (y1 _ _ hsa),fun d2 hd2=>?_⟩
  have y2:=same_new (o:=.lst (cutV us (some 1) none)) hd2
  have h2:=upd_same (H:=upd H d1 (.lst (cutV us none (some (-1))))) (a:=d2) (o:=.lst (cutV us (some 1) none))
  have h1:=y2 _ _ h1
  have y12:=y1.trans y2
  refine ⟨d1,d2,rfl,⟨_,SqL.of h1⟩,⟨_,SqL.of h2⟩,fun z hz=>?_⟩
  generalize upd (upd H d1 (.lst (cutV us none (some (-1))))) d2 (.lst (cutV us (some 1) none))=H2 at *
  have e1:cutV us none (some (-1))=us.take (us.length - 1):=by
   have i1:HT.sIx us.length us.length (some (-1))=us.length - 1:=by
    show (if (-1:Int) < 0 then ((-1:Int) + (us.length:Int)).toNat else min (-1:Int).toNat us.length)=us.length - 1
    rw [if_pos (by decide)]
    omega
   unfold cutV
   rw [i1]
   rfl
  have e2:cutV us (some 1) none=us.drop 1:=by
   unfold cutV
   have i1:HT.sIx us.length 0 (some 1)=min 1 us.length:=by
    exact HT.sIx_nat us.length 0 1
   rw [i1]
   show List.take (us.length - _) _=_
   rcases us with _ | ⟨a,r⟩
   ·rfl
   ·rw [show min 1 (a :: r).length=1 by rw [List.length_cons]; omega,List.take_of_length_le]
    rw [List.length_drop]
    exact Nat.le_refl _
  rw [e1] at h1
  rw [e2] at h2
  have el:(us.take (us.length - 1)).length=(us.drop 1).length:=by
   rw [List.length_take,List.length_drop]
   omega
  refine comp_zip (K:=K) (l1:=d1) (l2:=d2) (xs:=us.take (us.length - 1)) (ys:=us.drop 1) (fun i σ H'=>∃ u0 u1,σ=[u0,u1]/\Same H2 H'/\H' z=some (.lst (((List.range i).map r).map V.bl))) el ⟨_,_,rfl,same_new hz,upd_same⟩ (fun i σ H' _ ⟨_,_,_,s1,_⟩=>⟨SqL.of (s1 _ _ h1),SqL.of (s1 _ _ h2)⟩) ?_ ?_
  ·rintro i v v' tt σ H1 hv hv' htt ⟨u0,u1,rfl,s1,hz1⟩
   have z2:=same_new (o:=.tup [v,v']) htt
   have s2:=s1.trans z2
   have hz2:=z2 _ _ hz1
   refine ⟨tt,_,rfl,SqT.of upd_same,rfl,_,_,rfl,_,_,rfl,rfl,?_⟩
   generalize upd H1 tt (.tup [v,v'])=H3 at *
   refine yes_if ?_
   have g1:us[i]?=some v:=by
    rw [List.getElem?_take] at hv
    split at hv
    ·exact hv
    ·cases hv
   have g2:us[i + 1]?=some v':=by
    rw [List.getElem?_drop,Nat.add_comm] at hv'
    exact hv'
   have il:i < us.length:=(List.getElem?_eq_some_iff.mp g1).1
   refine ⟨_,rfl,_,rfl,hr2 i v v' g1 g2 _ _ (y12.trans s2) ?_⟩
   refine ⟨_,hz2,?_,_,_,rfl,fun b o e=>?_,?_⟩
   ·rw [List.length_map,List.length_map,List.length_range]
    exact Nat.lt_trans il (Nat.lt_of_le_of_lt ul (by decide))
   ·rw [upd_ne (ne_of_none e hz)]
    exact s2 _ _ e
   ·rw [upd_same,List.range_succ,List.map_append,List.map_append]
    rfl
  ·rintro σ H1 ⟨u0,u1,rfl,s1,hz1⟩
   rw [List.length_take,Nat.min_eq_left (Nat.sub_le _ _)] at hz1
   exact ⟨z,_,rfl,SqL.of hz1,q H1 (y12.trans s1)⟩
noncomputable def nearI (at_:Int)(c:Int × Int):Bool:=decide ((if c.1 - at_ / 8 < 0 then -(c.1 - at_ / 8) else c.1 - at_ / 8) < 2) && decide ((if c.2 - at_ % 8 < 0 then -(c.2 - at_ % 8) else c.2 - at_ % 8) < 2)
noncomputable def spNear13:Sp:=fun vs H Q _=>∃ (ca:Addr) (us:List V) (ps:List (Int × Int)) (at_:Int),vs=[.ref ca,.int at_]/\H ca=some (.lst us)/\Tup2 H us ps/\ps.length<=64 /\
 ∀ (d:Addr) (ws:List V) (H':Hp),H d=none->H' d=some (.lst ws)->Tup2 H' ws (ps.filter (nearI at_))->Same H H'->Q (.ref d) H'
theorem sc_law_near:FnScope ["_law_cells","_law_at","_law_row","_law_column"] ["_law_cells","_law_at"] (defScope s_law_near):=⟨rfl,rfl,rfl,by decide +kernel,rfl,by decide +kernel,by decide +kernel⟩
theorem ok_law_near (T:Txt mg)(D:DefAt K mg "_law_near" s_law_near ["_law_cells","_law_at"] f fd):FnOk P w K mg base CX0 1 f fd ["_law_cells","_law_at"] spNear13:=by
 refine D.F.ok sc_law_near (fun vs H Q E h=>?_) (fun cdv A outer s H vs Q E hr h=>?_)
 ·obtain ⟨ca,us,ps,at_,rfl,_⟩:=h
  rfl
 ·obtain ⟨ca,us,ps,at_,rfl,hca,tp,pl,q⟩:=h
  refine ⟨_,(pss_cons (ps_set (i:=2) sc_law_near.nd rfl (Or.inr rfl) (pe_op op_fdivG (pv 1) pe_int))
   (pss_cons (ps_set (i:=3) sc_law_near.nd rfl (Or.inr rfl) (pe_op op_mod (pv 1) pe_int))
   (pss_one (ps_ret (pe_comp (N:=["_law_cell","_law_row","_law_column"]) (src:=[none,some 2,some 3]) (CompOk.free (O:=(defScope s_law_near).names) (XN:=["_law_cells","_law_at","_law_row","_law_column"]) rfl rfl ⟨_,rfl⟩ rfl rfl (by decide +kernel) (by decide +kernel) (by decide +kernel) rfl (by decide +kernel)) rfl (pi_list (pv 0)) (fun _ _ _ _ _=>(pg_name (i:=0) (by show List.Nodup (["_law_cell","_law_row","_law_column"]:List Str); decide +kernel) rfl (Or.inl rfl))) (fun _ _ _ _ _=>(pifs_one (PW.pt (pw_and (pt_cmpR op_lt (pe_callB call_abs (by rfl) T.b_abs PyProof.Rows.boot_abs (pa_cons (pe_op op_sub (pe_ix (ix_tupK (K:=K) (by rfl)) (pv 0) pe_int (fun _ _=>rfl)) (pv 1)) pa_nil)) pe_int (nomark _)) (pw_and1 (pt_cmpR op_lt (pe_callB call_abs (by rfl) T.b_abs PyProof.Rows.boot_abs (pa_cons (pe_op op_sub (pe_ix (ix_tupK (K:=K) (by rfl)) (pv 0) pe_int (fun _ _=>rfl)) (pv 2)) pa_nil)) pe_int (nomark _))))))) (fun _ _ _ _ _=>(pv 0))))))),?_⟩
  refine ⟨_,rfl,_,_,rfl,rfl,CDivG.small (by decide) (by decide),_,rfl,_,_,rfl,rfl,(by show (0:Int) < 8; decide),_,rfl,ca,rfl,⟨_,SqL.of hca⟩,fun z hz=>?_⟩
  have ul:=tup2_len tp
  refine comp_list (K:=K) (a:=ca) (xs:=us) (fun j σ' H'=>∃ (u0:Option V) (ys:List V),σ'=[u0,some (.int (at_ / 8)),some (.int (at_ % 8))]/\Same H H'/\H' z=some (.lst ys)/\Tup2 H' ys ((ps.take j).filter (nearI at_))/\ys.length<=j)
   ⟨_,[],rfl,same_new hz,upd_same,.nil,Nat.le_refl _⟩ (fun j σ' H' _ ⟨_,_,_,s1,_⟩=>SqL.of (s1 _ _ hca)) ?_ ?_
  ·rintro j v σ' H1 hv ⟨u0,ys,rfl,s1,hz1,t1,yl⟩
   obtain ⟨c,hc,a,rfl,ha⟩:=tup2_get (tup2_mono s1 tp) hv
   have tj:ps.take (j + 1)=ps.take j++[c]:=by
    rw [List.take_add_one,hc]
    rfl
   have jl:j < us.length:=(List.getElem?_eq_some_iff.mp hv).1
   have fin1:nearI at_ c=true->∃ zs,H1 z=some (.lst zs)/\zs.length < sizeLine/\∃ (u0:Option V) (ys:List V),[some (V.ref a),some (V.int (at_ / 8)),some (V.int (at_ % 8))]=[u0,some (V.int (at_ / 8)),some (V.int (at_ % 8))]/\Same H (upd H1 z (.lst (zs++[.ref a])))/\upd H1 z (.lst (zs++[.ref a])) z=some (.lst ys)/\Tup2 (upd H1 z (.lst (zs++[.ref a]))) ys ((ps.take (j + 1)).filter (nearI at_))/\ys.length<=j + 1:=fun h=>by
    refine ⟨ys,hz1,?_,_,ys++[.ref a],rfl,fun b o e=>?_,upd_same,?_,?_⟩
    ·exact Nat.lt_of_le_of_lt yl (Nat.lt_of_lt_of_le jl (by rw [ul]; exact Nat.le_trans pl (by decide)))
    ·rw [upd_ne (ne_of_none e hz)]
     exact s1 _ _ e
    ·rw [tj,List.filter_append,List.filter_cons,if_pos h]
     have az:a ≠ z:=fun e=>by rw [e,hz1] at ha; cases ha
     exact tup2_app (tup2_into hz1 t1) (.cons ⟨a,rfl,by rw [upd_ne az]; exact ha⟩ .nil)
    ·rw [List.length_append]
     exact Nat.succ_le_succ yl
   have fin0:nearI at_ c=false->∃ (u0:Option V) (ys:List V),[some (V.ref a),some (V.int (at_ / 8)),some (V.int (at_ % 8))]=[u0,some (V.int (at_ / 8)),some (V.int (at_ % 8))]/\Same H H1/\H1 z=some (.lst ys)/\Tup2 H1 ys ((ps.take (j + 1)).filter (nearI at_))/\ys.length<=j + 1:=fun h=>by
    refine ⟨_,ys,rfl,s1,hz1,?_,Nat.le_succ_of_le yl⟩
    rw [tj,List.filter_append,List.filter_cons,if_neg (by rw [h]; exact Bool.false_ne_true),List.filter_nil,List.append_nil]
    exact t1
   unfold nearI at fin1 fin0
   refine ⟨_,rfl,a,_,0,_,rfl,rfl,SqT.of ha,rfl,_,rfl,_,_,rfl,rfl,_,rfl,_,_,rfl,rfl,_,rfl,?_⟩
   by_cases n1:(if c.1 - at_ / 8 < 0 then -(c.1 - at_ / 8) else c.1 - at_ / 8) < 2
   ·rw [decide_eq_true n1] at fin1 fin0
    refine iteP (decide_eq_true n1) ?_
    refine ⟨_,rfl,a,_,1,_,rfl,rfl,SqT.of ha,rfl,_,rfl,_,_,rfl,rfl,_,rfl,_,_,rfl,rfl,_,rfl,?_⟩
    by_cases n2:(if c.2 - at_ % 8 < 0 then -(c.2 - at_ % 8) else c.2 - at_ % 8) < 2
    ·rw [decide_eq_true n2] at fin1
     exact iteP (decide_eq_true n2) ⟨_,rfl,fin1 rfl⟩
    ·rw [decide_eq_false n2] at fin0
     exact iteN (decide_eq_false n2) (fin0 rfl)
   ·rw [decide_eq_false n1] at fin0
    exact iteN (decide_eq_false n1) (iteF (fin0 rfl))
  ·rintro σ' H1 ⟨u0,ys,rfl,s1,hz1,t1,yl⟩
   rw [ul,List.take_length] at t1
   exact q z ys H1 hz hz1 t1 s1
noncomputable def spGood:Sp:=fun vs H Q _=>∃ (oa ca na:Addr) (ws us nus:List V) (k ps qs:List (Int × Int)) (n m:Int),vs=[.ref oa,.ref ca,.int n,.ref na,.int m]/\H oa=some (.lst ws)/\Tup2 H ws k/\H ca=some (.lst us)/\Tup2 H us ps/\H na=some (.lst nus)/\Tup2 H nus qs /\
 ((k.length:Nat):Int)=n/\k.length<=64/\(∀ i p q,k[i]?=some p->k[i + 1]?=some q->lt2 p q=true)/\(∀ c ∈ k,c ∈ ps)/\(((k.filter fun c=>decide (c ∈ qs)).length:Nat):Int)=m/\∀ H',Same H H'->Q (.bl true) H'
theorem sc_law_good:FnScope ["_law_one","_law_cells","_law_stones","_law_near_here","_law_number"] ["_law_one","_law_cells","_law_stones","_law_near_here","_law_number"] (defScope s_law_good):=⟨rfl,rfl,rfl,by decide +kernel,rfl,by decide +kernel,by decide +kernel⟩
theorem ok_law_good (T:Txt mg)(Z:Prog K mg){f:Addr}{fd:FuncData}(D:DefAt K mg "_law_good" s_law_good ["_law_one","_law_cells","_law_stones","_law_near_here","_law_number"] f fd):FnOk P w K mg base CX0 2 f fd ["_law_one","_law_cells","_law_stones","_law_near_here","_law_number"] spGood:=by
 obtain ⟨f_law_rising,fd_law_rising,D_law_rising⟩:=Z.law_rising
 refine D.F.ok sc_law_good (fun vs H Q E h=>?_) (fun cdv A outer s H vs Q E hr h=>?_)
 ·obtain ⟨oa,ca,na,ws,us,nus,k,ps,qs,n,m,rfl,_⟩:=h
  rfl
 ·obtain ⟨oa,ca,na,ws,us,nus,k,ps,qs,n,m,rfl,hoa,tk,hca,tp,hna,tq,kn,k64,kr,kp,km,q⟩:=h
  have wl:=tup2_len tk
  refine ⟨_,(pss_cons (ps_if (PW.pt (pw_or (pt_not (pt_truth (pe_callB call_isinst (by rfl) T.b_isinstance PyProof.Rows.boot_isinstance (pa_cons (pv 0) (pa_cons (pe_bltn (v:=.ty "list") (by rfl) T.b_list PyProof.Rows.boot_list (by rfl)) pa_nil))) (fun _=>rfl))) (pw_or (pt_cmpR op_ne (pe_callB call_len_seq (by rfl) T.b_len PySem.boot_len (pa_cons (pv 0) pa_nil)) (pv 2) (nomark _)) (pw_or1 (pt_not (pt_truth (pc0 (ok_law_rising T D_law_rising) hr D_law_rising (pa_cons (pv 0) pa_nil)) (fun _=>rfl))))))) (pss_one (ps_ret pe_bl)) pss_nil)
   (pss_cons (ps_if (pt_cmpR (op_ne_deep hr.units) (pe_comp (N:=["_law_cell","_law_cells"]) (src:=[none,some 1]) (CompOk.free (O:=(defScope s_law_good).names) (XN:=["_law_one","_law_cells","_law_stones","_law_near_here","_law_number"]) rfl rfl ⟨_,rfl⟩ rfl rfl (by decide +kernel) (by decide +kernel) (by decide +kernel) rfl (by decide +kernel)) rfl (pi_list (pv 0)) (fun _ _ _ _ _=>(pg_name (i:=0) (by show List.Nodup (["_law_cell","_law_cells"]:List Str); decide +kernel) rfl (Or.inl rfl))) (fun _ _ _ _ _=>(pifs_one (pt_cmpR (op_notIn_deepK (K:=K) (by rfl) hr.units) (pv 0) (pv 1) (by rfl)))) (fun _ _ _ _ _=>(pv 0))) (pe_lst pa_nil) (nomark _)) (pss_one (ps_ret pe_bl)) pss_nil)
   (pss_one (ps_ret (pe_cmpR op_eq (pe_callB call_len_seq (by rfl) T.b_len PySem.boot_len (pa_cons (pe_comp (N:=["_law_cell","_law_near_here"]) (src:=[none,some 3]) (CompOk.free (O:=(defScope s_law_good).names) (XN:=["_law_one","_law_cells","_law_stones","_law_near_here","_law_number"]) rfl rfl ⟨_,rfl⟩ rfl rfl (by decide +kernel) (by decide +kernel) (by decide +kernel) rfl (by decide +kernel)) rfl (pi_list (pv 0)) (fun _ _ _ _ _=>(pg_name (i:=0) (by show List.Nodup (["_law_cell","_law_near_here"]:List Str); decide +kernel) rfl (Or.inl rfl))) (fun _ _ _ _ _=>(pifs_one (pt_cmpR (op_in_deepK (K:=K) (by rfl) hr.units) (pv 0) (pv 1) (by rfl)))) (fun _ _ _ _ _=>(pv 0))) pa_nil)) (pv 4) (nomark _)))))),?_⟩
  refine ⟨_,rfl,_,"list","list",true,rfl,.lst hoa,(by decide +kernel),true,rfl,iteF ?_⟩
  refine ⟨_,rfl,oa,_,rfl,.inl (SqL.of hoa),_,rfl,rfl,_,rfl,?_⟩
  rw [wl,kn,decide_eq_true rfl]
  refine iteF ?_
  refine ⟨_,rfl,oa,ws,fun _=>true,rfl,hoa,by rw [wl]; exact Nat.le_trans k64 (by decide),fun i x y hx hy H' Q' s1 hq=>?_,fun H1 s1=>?_⟩
  ·obtain ⟨p,hp,a,rfl,ha⟩:=tup2_get tk hx
   obtain ⟨p',hp',a',rfl,ha'⟩:=tup2_get tk hy
   refine .inl ⟨a,a',p,p',rfl,rfl,s1 _ _ ha,s1 _ _ ha',?_⟩
   rw [kr i p p' hp hp']
   exact hq
  have al:(((List.range (ws.length - 1)).map fun _=>true).all id)=true:=by
   rw [List.all_eq_true]
   intro x hx
   obtain ⟨_,_,rfl⟩:=List.mem_map.mp hx
   rfl
  rw [al]
  refine ⟨true,rfl,?_⟩
  refine iteN (b:=!true) rfl ?_
  refine ⟨_,rfl,oa,rfl,⟨_,SqL.of (s1 _ _ hoa)⟩,fun z hz=>?_⟩
  refine comp_list (K:=K) (a:=oa) (xs:=ws) (fun j σ' H'=>∃ (u0:Option V),σ'=[u0,some (.ref ca)]/\Same H1 H'/\H' z=some (.lst [])) ⟨_,rfl,same_new hz,upd_same⟩ (fun j σ' H' _ ⟨_,_,s2,_⟩=>SqL.of (s2 _ _ (s1 _ _ hoa))) ?_ ?_
  ·rintro j v σ' H2 hv ⟨u0,rfl,s2,hz2⟩
   have s12:=s1.trans s2
   obtain ⟨e,he,rp⟩:=tup2_get (tup2_mono s12 tk) hv
   refine ⟨_,rfl,_,rfl,pD e,ps.map pD,rp.rdv,.lst (SqL.of (s12 _ _ hca)) (tup2_rdv (tup2_mono s12 tp)),rfl,p_lays _,(by show 1<=60; decide),_,rfl,?_⟩
   have ei:(if true=true then !(ps.map pD).any (fun z=>PyData.eqv z (pD e)) else (ps.map pD).any fun z=>PyData.eqv z (pD e))=false:=by
    rw [if_pos rfl,in_prs,List.any_eq_true.mpr ⟨e,kp e (List.mem_of_getElem? he),decide_eq_true rfl⟩]
    rfl
   rw [ei]
   exact iteF ⟨_,rfl,s2,hz2⟩
  rintro σ' H2 ⟨u0,rfl,s2,hz2⟩
  refine ⟨sz_0,fun d hd=>?_⟩
  have s3:=same_new (o:=.lst []) hd
  have hd3:=upd_same (H:=H2) (a:=d) (o:=.lst [])
  generalize upd H2 d (.lst [])=H3 at *
  have s13:=(s1.trans s2).trans s3
  refine ⟨.list [],.list [],.lst (SqL.of (s3 _ _ hz2)) .nil,.lst (SqL.of hd3) .nil,⟨rfl,rfl,by show 1<=64; decide⟩,_,rfl,iteN rfl ?_⟩
  refine ⟨_,rfl,oa,rfl,⟨_,SqL.of (s13 _ _ hoa)⟩,fun y hy=>?_⟩
  refine comp_list (K:=K) (a:=oa) (xs:=ws) (fun j σ' H'=>∃ (u0:Option V) (ys:List V),σ'=[u0,some (.ref na)]/\Same H3 H'/\H' y=some (.lst ys)/\ys.length=((k.take j).filter fun c=>decide (c ∈ qs)).length) ⟨_,[],rfl,same_new hy,upd_same,rfl⟩ (fun j σ' H' _ ⟨_,_,_,s2,_⟩=>SqL.of (s2 _ _ (s13 _ _ hoa))) ?_ ?_
  ·rintro j v σ' H4 hv ⟨u0,ys,rfl,s4,hy4,yl⟩
   have s14:=s13.trans s4
   obtain ⟨e,he,rp⟩:=tup2_get (tup2_mono s14 tk) hv
   have tj:k.take (j + 1)=k.take j++[e]:=by
    rw [List.take_add_one,he]
    rfl
   refine ⟨_,rfl,_,rfl,pD e,qs.map pD,rp.rdv,.lst (SqL.of (s14 _ _ hna)) (tup2_rdv (tup2_mono s14 tq)),rfl,p_lays _,(by show 1<=60; decide),_,rfl,?_⟩
   have ei:(if false=true then !(qs.map pD).any (fun z=>PyData.eqv z (pD e)) else (qs.map pD).any fun z=>PyData.eqv z (pD e))=decide (e ∈ qs):=by
    show (qs.map pD).any (fun z=>PyData.eqv z (pD e))=_
    rw [in_prs]
    rw [Bool.eq_iff_iff,List.any_eq_true,decide_eq_true_eq]
    exact ⟨fun ⟨x,hx,hx2⟩=>(of_decide_eq_true hx2) ▸ hx,fun h=>⟨e,h,decide_eq_true rfl⟩⟩
   rw [ei]
   have yl2:ys.length<=64:=by
    rw [yl]
    refine Nat.le_trans (List.length_filter_le _ _) ?_
    rw [List.length_take]
    omega
   by_cases hp:decide (e ∈ qs)=true
   ·refine iteP hp ⟨_,rfl,ys,hy4,Nat.lt_of_le_of_lt yl2 (by decide),_,ys++[v],rfl,fun b o ee=>?_,upd_same,?_⟩
    ·rw [upd_ne (ne_of_none ee hy)]
     exact s4 _ _ ee
    ·rw [List.length_append,tj,List.filter_append,List.length_append,yl,List.filter_cons,if_pos hp]
     rfl
   ·refine iteN (Bool.eq_false_iff.mpr hp) ⟨_,ys,rfl,s4,hy4,?_⟩
    rw [tj,List.filter_append,List.length_append,yl,List.filter_cons,if_neg hp]
    rfl
  ·rintro σ' H4 ⟨u0,ys,rfl,s4,hy4,yl⟩
   rw [wl,List.take_length] at yl
   refine ⟨y,ys,rfl,.inl (SqL.of hy4),_,rfl,rfl,?_⟩
   rw [yl,km,decide_eq_true rfl]
   exact q H4 (s13.trans s4)
theorem ch_succ (n k:Nat):Choose.ch (n + 1) (k + 1)=Choose.ch n k + Choose.ch n (k + 1):=rfl
noncomputable def kinds {α:Type}(q:α->Bool)(m j:Nat)(p:List α):Bool:=decide ((p.filter q).length=m) && decide ((p.filter fun c=>!q c).length=j)
theorem kinds_snocT {α:Type}{q:α->Bool}{c:α}(h:q c=true)(m j:Nat)(p:List α):kinds q m j (p++[c])=(decide (1<=m) && kinds q (m - 1) j p):=by
 unfold kinds
 rw [List.filter_append,List.filter_append,List.filter_cons,if_pos h,List.filter_cons,if_neg (by rw [h]; decide),List.filter_nil,List.filter_nil,List.append_nil,List.length_append,List.length_singleton]
 by_cases h1:1<=m
 ·rw [decide_eq_true h1,Bool.true_and]
  congr 1
  exact decide_eq_decide.mpr ⟨fun e=>by omega,fun e=>by omega⟩
 ·rw [decide_eq_false h1,Bool.false_and,decide_eq_false (by omega),Bool.false_and]
theorem kinds_snocF {α:Type}{q:α->Bool}{c:α}(h:q c=false)(m j:Nat)(p:List α):kinds q m j (p++[c])=(decide (1<=j) && kinds q m (j - 1) p):=by
 unfold kinds
 rw [List.filter_append,List.filter_append,List.filter_cons,if_neg (by rw [h]; decide),List.filter_cons,if_pos (by rw [h]; rfl),List.filter_nil,List.filter_nil,List.append_nil,List.length_append,List.length_singleton]
 by_cases h1:1<=j
 ·rw [decide_eq_true h1,Bool.true_and]
  congr 1
  exact decide_eq_decide.mpr ⟨fun e=>by omega,fun e=>by omega⟩
 ·rw [decide_eq_false h1,Bool.false_and,decide_eq_false (show ¬ _ + 1=j by omega),Bool.and_false]
theorem kinds_many {α:Type}(q:α->Bool)(cs:List α):∀ (m j:Nat),((Subs.subs cs).filter (kinds q m j)).length=Choose.ch (cs.filter q).length m * Choose.ch (cs.filter fun c=>!q c).length j:=by
 suffices h:∀ (rs:List α) (m j:Nat),((Subs.subs rs.reverse).filter (kinds q m j)).length=Choose.ch (rs.reverse.filter q).length m * Choose.ch (rs.reverse.filter fun c=>!q c).length j by
  have:=h cs.reverse
  rw [List.reverse_reverse] at this
  exact this
 intro rs
 induction rs with
 | nil =>
  intro m j
  show (([[]]:List (List α)).filter (kinds q m j)).length=Choose.ch 0 m * Choose.ch 0 j
  rw [List.filter_cons]
  rcases m with _ | m
  ·rcases j with _ | j
   ·rfl
   ·rw [if_neg (by unfold kinds; simp),Choose.ch_beyond 0 (j + 1) (by omega),Nat.mul_zero]
    rfl
  ·rw [if_neg (by unfold kinds; simp),Choose.ch_beyond 0 (m + 1) (by omega),Nat.zero_mul]
   rfl
 | cons c rs ih =>
  intro m j
  rw [List.reverse_cons]
  generalize rs.reverse=cs at *
  rw [Subs.subs_snoc]
  unfold Subs.step
  rw [List.filter_append,List.length_append,List.filter_map,List.length_map,ih m j,List.filter_append,List.filter_append,List.filter_cons,List.filter_cons,List.filter_nil,List.filter_nil]
  by_cases h:q c=true
  ·rw [if_pos h,if_neg (by rw [h]; decide),List.append_nil,List.length_append,List.length_singleton]
   have e:(kinds q m j ∘ fun x=>x++[c])=fun p=>decide (1<=m) && kinds q (m - 1) j p:=funext fun p=>kinds_snocT h m j p
   rw [e]
   rcases m with _ | m
   ·have z:((Subs.subs cs).filter fun p=>decide (1<=0) && kinds q (0 - 1) j p)=[]:=List.filter_eq_nil_iff.mpr fun p _=>by simp
    rw [z,Choose.ch_zero,Choose.ch_zero]
    rfl
   ·have z:(fun p:List α=>decide (1<=m + 1) && kinds q (m + 1 - 1) j p)=kinds q m j:=funext fun p=>by rw [decide_eq_true (by omega),Bool.true_and,Nat.add_sub_cancel]
    rw [z,ih m j,ch_succ,Nat.add_mul,Nat.add_comm]
  ·have h:q c=false:=Bool.eq_false_iff.mpr h
   rw [if_neg (by rw [h]; decide),if_pos (by rw [h]; rfl),List.append_nil,List.length_append,List.length_singleton]
   have e:(kinds q m j ∘ fun x=>x++[c])=fun p=>decide (1<=j) && kinds q m (j - 1) p:=funext fun p=>kinds_snocF h m j p
   rw [e]
   rcases j with _ | j
   ·have z:((Subs.subs cs).filter fun p=>decide (1<=0) && kinds q m (0 - 1) p)=[]:=List.filter_eq_nil_iff.mpr fun p _=>by simp
    rw [z,Choose.ch_zero,Choose.ch_zero]
    rfl
   ·have z:(fun p:List α=>decide (1<=j + 1) && kinds q m (j + 1 - 1) p)=kinds q m j:=funext fun p=>by rw [decide_eq_true (by omega),Bool.true_and,Nat.add_sub_cancel]
    rw [z,ih m j,ch_succ,Nat.mul_add,Nat.add_comm]
theorem many_are {α:Type}(q:α->Bool)(cs:List α)(n m:Int)(hm:0<=m):(((((Subs.subs cs).filter fun p=>decide (((p.length:Nat):Int)=n)).filter fun p=>decide ((((p.filter q).length:Nat):Int)=m)).length:Nat):Int)=chI (cs.filter q).length m * chI (((cs.length:Nat):Int) - ((cs.filter q).length:Nat)) (n - m):=by
 have two:∀ p:List α,(p.filter q).length + (p.filter fun c=>!q c).length=p.length:=fun p=>by
  induction p with
  | nil=>rfl
  | cons a r ih =>
   rw [List.filter_cons,List.filter_cons]
   cases h:q a <;> simp <;> omega
 unfold chI
 rw [if_neg (by omega),List.filter_filter]
 by_cases nm:n - m < 0
 ·rw [if_pos nm,Int.mul_zero]
  have z:((Subs.subs cs).filter fun p=>decide (((p.filter q).length:Int)=m) && decide (((p.length:Nat):Int)=n))=[]:=List.filter_eq_nil_iff.mpr fun p _ h=>by
   rw [Bool.and_eq_true,decide_eq_true_eq,decide_eq_true_eq] at h
   have:=two p
   omega
  rw [z]
  rfl
 ·rw [if_neg nm]
  have e:(fun p:List α=>decide (((p.filter q).length:Int)=m) && decide (((p.length:Nat):Int)=n))=kinds q m.toNat (n - m).toNat:=funext fun p=>by
   unfold kinds
   have:=two p
   rw [<- Bool.decide_and,<- Bool.decide_and]
   exact decide_eq_decide.mpr ⟨fun ⟨a,b⟩=>⟨by omega,by omega⟩,fun ⟨a,b⟩=>⟨by omega,by omega⟩⟩
  rw [e,kinds_many,Int.natCast_mul]
  have l:=two cs
  have e2:(((cs.length:Nat):Int) - ((cs.filter q).length:Nat)).toNat=(cs.filter fun c=>!q c).length:=by omega
  rw [e2,Int.toNat_natCast]
open Cells in
theorem rowCs_range (p:Nat->Bool)(i:Nat):∀ (t:List Nat) (j:Nat),rowCs p i j t=((List.range t.length).filter fun k=>p (t.getD k 0)).map fun k=>(i,j + k)
 | [],j=>rfl
 | c :: r,j=>by
  show (if p c=true then [(i,j)] else [])++rowCs p i (j + 1) r=_
  rw [rowCs_range p i r (j + 1),List.length_cons,List.range_succ_eq_map,List.filter_cons,List.filter_map]
  have e:((fun k=>p ((c :: r).getD k 0)) ∘ Nat.succ)=fun k=>p (r.getD k 0):=funext fun k=>rfl
  rw [e]
  have m:∀ l:List Nat,(l.map Nat.succ).map (fun k=>(i,j + k))=l.map fun k=>(i,j + 1 + k):=fun l=>by
   rw [List.map_map]
   exact List.map_congr_left fun k _=>by show (i,j + (k + 1))=(i,j + 1 + k); rw [Nat.add_assoc,Nat.add_comm 1 k]
  by_cases h:p c=true
  ·rw [if_pos h,if_pos (by exact h),List.map_cons,m]
   rfl
  ·rw [if_neg h,if_neg (by exact h),m]
   rfl
noncomputable def chunk:Nat->List Nat->List (List Nat)
 | 0,_=>[]
 | m + 1,zs=>zs.take 8 :: chunk m (zs.drop 8)
theorem chunk_is:∀ (m:Nat) (zs:List Nat),chunk m zs=(List.range m).map fun k=>(zs.drop (8 * k)).take 8
 | 0,_=>rfl
 | m + 1,zs=>by
  show zs.take 8 :: chunk m (zs.drop 8)=_
  rw [chunk_is m,List.range_succ_eq_map,List.map_cons,List.map_map]
  congr 1
  exact List.map_congr_left fun k _=>by
   show ((zs.drop 8).drop (8 * k)).take 8=(zs.drop (8 * (k + 1))).take 8
   rw [List.drop_drop,Nat.mul_succ,Nat.add_comm]
open Cells in
theorem allCs_chunk (p:Nat->Bool):∀ (m i:Nat) (zs:List Nat),zs.length=8 * m->allCs p i (chunk m zs)=((List.range (8 * m)).filter fun k=>p (zs.getD k 0)).map fun k=>(i + k / 8,k % 8)
 | 0,_,_,_=>rfl
 | m + 1,i,zs,h=>by
  show rowCs p i 0 (zs.take 8)++allCs p (i + 1) (chunk m (zs.drop 8))=_
  rw [allCs_chunk p m (i + 1) (zs.drop 8) (by rw [List.length_drop]; omega),rowCs_range,List.length_take,Nat.min_eq_left (by omega)]
  rw [show 8 * (m + 1)=8 + 8 * m by omega,List.range_add,List.filter_append,List.map_append,List.filter_map]
  congr 1
  ·have e:((List.range 8).filter fun k=>p ((zs.take 8).getD k 0))=(List.range 8).filter fun k=>p (zs.getD k 0):=List.filter_congr fun k hk=>by
    have:=List.mem_range.mp hk
    rw [List.getD_eq_getElem?_getD,List.getD_eq_getElem?_getD,List.getElem?_take,if_pos this]
   rw [e]
   exact List.map_congr_left fun k hk=>by
    have:=List.mem_range.mp (List.mem_filter.mp hk).1
    rw [Nat.zero_add,Nat.div_eq_of_lt this,Nat.mod_eq_of_lt this,Nat.add_zero]
  ·rw [List.map_map]
   have e:((fun k=>p (zs.getD k 0)) ∘ fun x=>8 + x)=fun k=>p ((zs.drop 8).getD k 0):=funext fun k=>by
    show p (zs.getD (8 + k) 0)=_
    rw [List.getD_eq_getElem?_getD,List.getD_eq_getElem?_getD,List.getElem?_drop]
   rw [e]
   exact List.map_congr_left fun k _=>by
    show (i + 1 + k / 8,k % 8)=(i + (8 + k) / 8,(8 + k) % 8)
    rw [show (8 + k) / 8=1 + k / 8 by omega,show (8 + k) % 8=k % 8 by omega,Nat.add_assoc]
theorem shut_sub {rs:List Str}{y:Nat × Nat}(h:y ∈ shutC rs):y ∈ Cells.allCs pCell 0 (codes rs):=by
 have e:shutC rs=(Cells.allCs pCell 0 (codes rs)).filter fun x=>pShut (Cells.sgn (codes rs) x):=by
  rw [Cells.all_filter]
  exact Cells.allCs_congr (fun c=>by
   unfold pShut pCell
   by_cases h:c=63
   ·subst h
    rfl
   ·rw [decide_eq_false h,Bool.and_false]) 0 (codes rs)
 rw [e] at h
 exact (List.mem_filter.mp h).1
theorem nd_toI {cs:List (Nat × Nat)}(h:cs.Nodup):(cs.map toI).Nodup:=List.pairwise_map.mpr (h.imp fun ne e=>ne (toI_inj e))
theorem cellsI_nd (rs:List Str):(cellsI rs).Nodup:=nd_toI (lex_nodup (Cells.allCs_lex _ 0 (codes rs)))
theorem nearI_is (a:Nat)(y:Nat × Nat)(h:y ≠ (a / 8,a % 8)):nearI (a:Nat) (toI y)=Cells.near y (a / 8,a % 8):=by
 obtain ⟨i,j⟩:=y
 rw [Bool.eq_iff_iff,Cells.near_iff]
 unfold nearI
 rw [Bool.and_eq_true,decide_eq_true_eq,decide_eq_true_eq]
 have e1:(((a:Nat):Int) / 8)=((a / 8:Nat):Int):=by omega
 have e2:(((a:Nat):Int) % 8)=((a % 8:Nat):Int):=by omega
 rw [e1,e2]
 generalize a / 8=r at *
 generalize a % 8=c at *
 show (if ((i:Nat):Int) - (r:Int) < 0 then -(((i:Nat):Int) - (r:Int)) else ((i:Nat):Int) - (r:Int)) < 2/\(if ((j:Nat):Int) - (c:Int) < 0 then -(((j:Nat):Int) - (c:Int)) else ((j:Nat):Int) - (c:Int)) < 2 ↔ (i<=r + 1/\r<=i + 1)/\(j<=c + 1/\c<=j + 1)/\¬ (i,j)=(r,c)
 constructor
 ·rintro ⟨h1,h2⟩
  split at h1 <;> split at h2 <;> exact ⟨by omega,by omega,h⟩
 ·rintro ⟨h1,h2,_⟩
  split <;> split <;> omega
theorem cnt_near {rs:List Str}{k:List (Int × Int)}{a:Nat}(hk:∀ x ∈ k,x ∈ cellsI rs)(nd:k.Nodup)(hc:(a / 8,a % 8) ∉ shutC rs):cntW rs k (a / 8,a % 8)=(k.filter (nearI (a:Nat))).length:=by
 unfold cntW
 rw [<- List.length_map (f:=toI)]
 have nd1:(((aroundC rs (a / 8,a % 8)).filter fun x=>k.any fun z=>decide (z=toI x)).map toI).Nodup:=nd_toI (((lex_nodup (Cells.allCs_lex _ 0 (codes rs))).sublist List.filter_sublist).sublist List.filter_sublist)
 refine List.Perm.length_eq ((List.perm_ext_iff_of_nodup nd1 (nd.sublist List.filter_sublist)).mpr fun x=>?_)
 rw [List.mem_map,List.mem_filter]
 constructor
 ·rintro ⟨y,hy,rfl⟩
  obtain ⟨h1,h2⟩:=List.mem_filter.mp hy
  obtain ⟨z,hz,e⟩:=List.any_eq_true.mp h2
  have e:z=toI y:=of_decide_eq_true e
  subst e
  have h3:=(List.mem_filter.mp h1).2
  have ne:y ≠ (a / 8,a % 8):=((Cells.near_iff _ _).mp h3).2.2
  exact ⟨hz,by rw [nearI_is a y ne]; exact h3⟩
 ·rintro ⟨h1,h2⟩
  obtain ⟨y,hy,rfl⟩:=List.mem_map.mp (hk x h1)
  have ne:y ≠ (a / 8,a % 8):=fun e=>hc (e ▸ hy)
  rw [nearI_is a y ne] at h2
  exact ⟨y,List.mem_filter.mpr ⟨List.mem_filter.mpr ⟨shut_sub hy,h2⟩,List.any_eq_true.mpr ⟨toI y,h1,decide_eq_true rfl⟩⟩,rfl⟩
theorem fit_none {rs:List Str}(h:openC rs=[])(k:List (Int × Int)):fitB rs k=true:=by
 unfold fitB whyN
 rw [h]
 rfl
theorem fit_one {rs:List Str}{c:Nat × Nat}(h:openC rs=[c])(k:List (Int × Int)):fitB rs k=decide (((cntW rs k c:Nat):Int)=numW rs c):=by
 unfold fitB whyN
 rw [h,List.find?_cons]
 unfold badW
 cases e:decide (((cntW rs k c:Nat):Int)=numW rs c) <;> rfl
theorem mem_subs {α:Type}{p:List α}(cs:List α):p ∈ Subs.subs cs ↔ p.Sublist cs:=by
 rw [<- List.reverse_reverse cs]
 induction cs.reverse generalizing p with
 | nil =>
  show p ∈ [[]] ↔ p.Sublist []
  rw [List.mem_singleton,List.sublist_nil]
 | cons c r ih =>
  rw [List.reverse_cons,Subs.subs_snoc]
  unfold Subs.step
  rw [List.mem_append,ih,List.sublist_append_iff]
  constructor
  ·rintro (h | h)
   ·exact ⟨p,[],(List.append_nil p).symm,h,List.nil_sublist _⟩
   ·obtain ⟨q,hq,rfl⟩:=List.mem_map.mp h
    exact ⟨q,[c],rfl,ih.mp hq,List.Sublist.refl _⟩
  ·rintro ⟨l1,l2,rfl,h1,h2⟩
   cases h2 with
   | cons _ h =>
    rw [List.sublist_nil.mp h,List.append_nil]
    exact .inl h1
   | cons_cons _ h =>
    rw [List.sublist_nil.mp h]
    exact .inr (List.mem_map.mpr ⟨l1,ih.mpr h1,rfl⟩)
theorem subs_nodup {α:Type}{cs:List α}(h:cs.Nodup):(Subs.subs cs).Nodup:=by
 suffices g:∀ rs:List α,rs.reverse.Nodup->(Subs.subs rs.reverse).Nodup by
  have:=g cs.reverse
  rw [List.reverse_reverse] at this
  exact this h
 intro rs
 induction rs with
 | nil=>exact fun _=>List.nodup_cons.mpr ⟨(fun h=>nomatch h),List.nodup_nil⟩
 | cons c r ih =>
  rw [List.reverse_cons]
  generalize r.reverse=cs at *
  intro h
  obtain ⟨h1,h2,h3⟩:=List.nodup_append.mp h
  rw [Subs.subs_snoc]
  unfold Subs.step
  refine List.nodup_append.mpr ⟨ih h1,List.pairwise_map.mpr ((ih h1).imp fun ne e=>ne (List.append_cancel_right e)),fun a ha b hb e=>?_⟩
  subst e
  obtain ⟨q,_,rfl⟩:=List.mem_map.mp hb
  have:=((mem_subs _).mp ha).subset (List.mem_append_right q (List.mem_singleton.mpr rfl))
  exact h3 c this c (List.mem_singleton.mpr rfl) rfl
theorem lays_facts {rs:List Str}{n v:Int}{q:(Int × Int)->Bool}{ks:List (List (Int × Int))}(hv:0<=v)(hf:∀ k,(∀ x ∈ k,x ∈ cellsI rs)->k.Nodup->fitB rs k=decide ((((k.filter q).length:Nat):Int)=v))
  (pm:ks.Perm ((chosen n (cellsI rs)).filter (fitB rs))) (pw:ks.Pairwise (fun p q=>PySem.SeqAt.ltL q p=false)) :
  ((ks.length:Nat):Int)=chI ((cellsI rs).filter q).length v * chI ((((cellsI rs).length:Nat):Int) - (((cellsI rs).filter q).length:Nat)) (n - v) /\
  (∀ i k k',ks[i]?=some k->ks[i + 1]?=some k'->PySem.SeqAt.ltL k k'=true) /\
  (∀ k ∈ ks,((k.length:Nat):Int)=n/\k.length<=(cellsI rs).length/\(∀ i p p',k[i]?=some p->k[i + 1]?=some p'->lt2 p p'=true)/\(∀ c ∈ k,c ∈ cellsI rs)/\(((k.filter q).length:Nat):Int)=v):=by
 have nd:=cellsI_nd rs
 have e:(chosen n (cellsI rs)).filter (fitB rs)=((Subs.subs (cellsI rs)).filter fun p=>decide (((p.length:Nat):Int)=n)).filter fun p=>decide ((((p.filter q).length:Nat):Int)=v):=by
  unfold chosen
  exact List.filter_congr fun k hk=>by
   have sb:=(mem_subs _).mp (List.mem_filter.mp hk).1
   exact hf k (fun x hx=>sb.subset hx) (nd.sublist sb)
 have ndk:ks.Nodup:=pm.symm.nodup (((subs_nodup nd).sublist List.filter_sublist).sublist List.filter_sublist)
 refine ⟨?_,fun i k k' h1 h2=>?_,fun k hk=>?_⟩
 ·rw [pm.length_eq,e]
  exact many_are q (cellsI rs) n v hv
 ·have l2:=(List.getElem?_eq_some_iff.mp h2).1
  have g1:=(List.getElem?_eq_some_iff.mp h1).2
  have g2:=(List.getElem?_eq_some_iff.mp h2).2
  have w:=(List.pairwise_iff_getElem.mp pw) i (i + 1) (Nat.lt_of_succ_lt l2) l2 (Nat.lt_succ_self i)
  have ne:=(List.pairwise_iff_getElem.mp ndk) i (i + 1) (Nat.lt_of_succ_lt l2) l2 (Nat.lt_succ_self i)
  rw [g1,g2] at w ne
  rw [PySem.SeqAt.ltL_tot (Ne.symm ne),w]
  rfl
 ·have hk:=pm.mem_iff.mp hk
  rw [e] at hk
  obtain ⟨hk1,hk2⟩:=List.mem_filter.mp hk
  obtain ⟨hk0,hk1⟩:=List.mem_filter.mp hk1
  have sb:=(mem_subs _).mp hk0
  refine ⟨of_decide_eq_true hk1,sb.length_le,fun i p p' h1 h2=>?_,fun c hc=>sb.subset hc,of_decide_eq_true hk2⟩
  have srt:(cellsI rs).Pairwise fun p q=>lt2 p q=true:=List.pairwise_map.mpr ((Cells.allCs_lex _ 0 (codes rs)).imp fun h=>lt2_lex.mpr h)
  have l2:=(List.getElem?_eq_some_iff.mp h2).1
  have g1:=(List.getElem?_eq_some_iff.mp h1).2
  have g2:=(List.getElem?_eq_some_iff.mp h2).2
  have w:=(List.pairwise_iff_getElem.mp (srt.sublist sb)) i (i + 1) (Nat.lt_of_succ_lt l2) l2 (Nat.lt_succ_self i)
  rw [g1,g2] at w
  exact w
structure Mk (zs:List Nat)(m a:Nat)(v:Int)(dg:Bool):Prop where
 len:zs.length=8 * m
 m1:1<=m
 m8:m<=8
 al:a < 8 * m
 v0:0<=v
 v8:v<=8
 vz:dg=false->v=0
 at_:dg=true->((zs.getD a 0:Nat):Int)=48 + v
 oth:∀ k,k < 8 * m->(dg=true->k ≠ a)->zs.getD k 0=35\/zs.getD k 0=63
section
variable {zs:List Nat}{m a:Nat}{v:Int}{dg:Bool}{rs:List Str}
noncomputable def cellK (k:Nat):Int × Int:=(((k / 8:Nat):Int),((k % 8:Nat):Int))
theorem Mk.cells (M:Mk zs m a v dg)(e:codes rs=chunk m zs):cellsI rs=((List.range (8 * m)).filter fun k=>decide (zs.getD k 0=63)).map cellK:=by
 show (Cells.allCs pShut 0 (codes rs)).map toI=_
 rw [e,allCs_chunk pShut m 0 zs M.len,List.map_map]
 exact List.map_congr_left fun k _=>by
  show toI (0 + k / 8,k % 8)=cellK k
  rw [Nat.zero_add]
  rfl
theorem one_of {N a:Nat}{p:Nat->Bool}(ha:a < N)(h1:p a=true)(h0:∀ k,k < N->k ≠ a->p k=false):(List.range N).filter p=[a]:=by
 induction N with
 | zero=>omega
 | succ N ih =>
  rw [List.range_succ,List.filter_append,List.filter_cons]
  by_cases e:a=N
  ·subst e
   rw [if_pos h1,List.filter_eq_nil_iff.mpr fun k hk=>by
    have:=List.mem_range.mp hk
    rw [h0 k (by omega) (by omega)]
    exact Bool.false_ne_true]
   rfl
  ·rw [if_neg (by rw [h0 N (by omega) (by omega)]; exact Bool.false_ne_true),ih (by omega) fun k hk=>h0 k (by omega)]
   rfl
theorem notOpen {c:Nat}(h:c=35\/c=63):pOpen c=false:=by
 rcases h with rfl | rfl <;> rfl
theorem Mk.open0 (M:Mk zs m a v false)(e:codes rs=chunk m zs):openC rs=[]:=by
 unfold openC
 rw [e,allCs_chunk pOpen m 0 zs M.len,List.filter_eq_nil_iff.mpr fun k hk=>by
  rw [notOpen (M.oth k (List.mem_range.mp hk) fun h=>nomatch h)]
  exact Bool.false_ne_true]
 rfl
theorem Mk.dig (M:Mk zs m a v true):48<=zs.getD a 0/\zs.getD a 0<=56:=by
 have:=M.at_ rfl
 have:=M.v0
 have:=M.v8
 omega
theorem Mk.open1 (M:Mk zs m a v true)(e:codes rs=chunk m zs):openC rs=[(a / 8,a % 8)]:=by
 unfold openC
 have h:pOpen (zs.getD a 0)=true:=by
  have:=M.dig
  unfold pOpen pCell
  rw [decide_eq_false (by omega),decide_eq_false (by omega)]
  rfl
 rw [e,allCs_chunk pOpen m 0 zs M.len,one_of (p:=fun k=>pOpen (zs.getD k 0)) M.al h fun k hk ne=>notOpen (M.oth k hk fun _=>ne)]
 show [(0 + a / 8,a % 8)]=_
 rw [Nat.zero_add]
theorem Mk.num (M:Mk zs m a v true)(e:codes rs=chunk m zs):numW rs (a / 8,a % 8)=v:=by
 unfold numW
 have al:=M.al
 have ln:=M.len
 have h1:(codes rs)[a / 8]?=some ((zs.drop (8 * (a / 8))).take 8):=by
  rw [e,chunk_is,List.getElem?_map,List.getElem?_range (by omega)]
  rfl
 have h2:((zs.drop (8 * (a / 8))).take 8)[a % 8]?=some (zs.getD a 0):=by
  rw [List.getElem?_take,if_pos (Nat.mod_lt _ (by decide)),List.getElem?_drop,Nat.div_add_mod,List.getD_eq_getElem?_getD,List.getElem?_eq_getElem (by omega)]
  rfl
 rw [Cells.sgn_at h1 h2]
 have:=M.at_ rfl
 omega
theorem Mk.notShut (M:Mk zs m a v true)(e:codes rs=chunk m zs):(a / 8,a % 8) ∉ shutC rs:=by
 intro h
 unfold shutC at h
 rw [e,allCs_chunk pShut m 0 zs M.len] at h
 obtain ⟨k,hk,ek⟩:=List.mem_map.mp h
 have h63:=of_decide_eq_true (List.mem_filter.mp hk).2
 injection ek with e1 e2
 have:k=a:=by
  have:=Nat.div_add_mod k 8
  have:=Nat.div_add_mod a 8
  omega
 subst this
 have:=M.dig
 omega
noncomputable def nearQ (dg:Bool)(a:Nat)(c:Int × Int):Bool:=dg && nearI (a:Nat) c
theorem Mk.fit (M:Mk zs m a v dg)(e:codes rs=chunk m zs)(k:List (Int × Int))(hk:∀ x ∈ k,x ∈ cellsI rs)(nd:k.Nodup):fitB rs k=decide ((((k.filter (nearQ dg a)).length:Nat):Int)=v):=by
 cases dg with
 | false =>
  rw [fit_none (M.open0 e),M.vz rfl]
  have z:k.filter (nearQ false a)=[]:=List.filter_eq_nil_iff.mpr fun x _ h=>nomatch h
  rw [z]
  rfl
 | true =>
  rw [fit_one (M.open1 e),M.num e,cnt_near hk nd (M.notShut e)]
  rfl
end
theorem digit6:∀ d:Nat,d<=8->((toString (d:Int):String):Str)=⟨#[48 + d]⟩:=by decide +kernel
theorem mk_plain {z:Str}{m a:Nat}(m1:1<=m)(m8:m<=8)(zl:z.length=8 * m)(zm:∀ c ∈ z.cps.toList,c=35\/c=63)(ha:a < 8 * m):Mk z.cps.toList m a 0 false :=
 ⟨by rw [Array.length_toList]; exact zl,m1,m8,ha,by decide,by decide,fun _=>rfl,(fun h=>nomatch h),fun k hk _=>by
  have l:z.cps.toList.length=8 * m:=by rw [Array.length_toList]; exact zl
  rw [List.getD_eq_getElem?_getD,List.getElem?_eq_getElem (by omega)]
  exact zm _ (List.getElem_mem _)⟩
noncomputable def dugS (z:Str)(a d:Nat):Str:=cutS z none (some ((a:Nat):Int))++(⟨#[48 + d]⟩:Str)++cutS z (some (((a:Nat):Int) + 1)) none
theorem dug_list {z:Str}{a d:Nat}(ha:a < z.length):(dugS z a d).cps.toList=z.cps.toList.take a++[48 + d]++z.cps.toList.drop (a + 1):=by
 have h1:(cutS z none (some ((a:Nat):Int))).cps.toList=z.cps.toList.take a:=by
  unfold cutS
  rw [HT.sIx_nat,HT.sIx_none,List.toList_toArray,List.drop_zero,Nat.sub_zero,Nat.min_eq_left (by omega)]
 have h2:(cutS z (some (((a:Nat):Int) + 1)) none).cps.toList=z.cps.toList.drop (a + 1):=by
  unfold cutS
  rw [show ((a:Nat):Int) + 1=((a + 1:Nat):Int) by omega,HT.sIx_nat,HT.sIx_none,List.toList_toArray,Nat.min_eq_left (by omega)]
  refine List.take_of_length_le ?_
  rw [List.length_drop,Array.length_toList]
  exact Nat.le_refl _
 show ((cutS z none (some ((a:Nat):Int))).cps++#[48 + d]++(cutS z (some (((a:Nat):Int) + 1)) none).cps).toList=_
 rw [Array.toList_append,Array.toList_append,h1,h2]
theorem mk_dug {z:Str}{m a d:Nat}(m1:1<=m)(m8:m<=8)(zl:z.length=8 * m)(zm:∀ c ∈ z.cps.toList,c=35\/c=63)(ha:a < 8 * m)(hd:d<=8):Mk (dugS z a d).cps.toList m a (d:Nat) true:=by
 have l:z.cps.toList.length=8 * m:=by rw [Array.length_toList]; exact zl
 have e:=dug_list (z:=z) (a:=a) (d:=d) (by omega)
 have la:(z.cps.toList.take a).length=a:=by rw [List.length_take]; omega
 have g:∀ k,(z.cps.toList.take a++[48 + d]++z.cps.toList.drop (a + 1))[k]?=if k=a then some (48 + d) else z.cps.toList[k]?:=fun k=>by
  rw [List.append_assoc,List.getElem?_append,la]
  by_cases h1:k < a
  ·rw [if_pos h1,if_neg (by omega),List.getElem?_take,if_pos h1]
  ·rw [if_neg h1,List.singleton_append]
   by_cases h2:k=a
   ·subst h2
    rw [if_pos rfl,Nat.sub_self]
    rfl
   ·rw [if_neg h2,show k - a=(k - a - 1) + 1 by omega,List.getElem?_cons_succ,List.getElem?_drop]
    congr 1
    omega
 rw [e]
 refine ⟨?_,m1,m8,ha,by omega,by omega,(fun h=>nomatch h),fun _=>?_,fun k hk ne=>?_⟩
 ·rw [List.length_append,List.length_append,la,List.length_singleton,List.length_drop]
  omega
 ·rw [List.getD_eq_getElem?_getD,g,if_pos rfl]
  show ((48 + d:Nat):Int)=_
  omega
 ·rw [List.getD_eq_getElem?_getD,g,if_neg (ne rfl),List.getElem?_eq_getElem (by omega)]
  exact zm _ (List.getElem_mem _)
theorem cutS_len (z:Str)(lo hi:Option Int):(cutS z lo hi).length<=z.length:=by
 show (cutS z lo hi).cps.size<=_
 unfold cutS
 rw [List.size_toArray,List.length_take,List.length_drop,Array.length_toList]
 show min _ (z.length - _)<=z.length
 omega
theorem ch_lt (n:Nat):∀ k:Nat,1<=n->Choose.ch n k < 2 ^ n:=by
 induction n with
 | zero=>exact fun _ h=>by omega
 | succ n ih =>
  intro k _
  rcases k with _ | k
  ·rw [Choose.ch_zero]
   exact Nat.one_lt_two_pow (by omega)
  ·rw [ch_succ,Nat.pow_succ]
   by_cases hn:1<=n
   ·have h1:=ih k hn
    have h2:=ih (k + 1) hn
    omega
   ·obtain rfl:n=0:=by omega
    rcases k with _ | k
    ·decide
    ·rw [Choose.ch_beyond 0 (k + 1) (by omega),Choose.ch_beyond 0 (k + 2) (by omega)]
     decide
theorem chI_lt {c n:Int}(h:c<=64):chI c n < 2 ^ 64:=by
 unfold chI
 split
 ·decide
 ·by_cases h0:1<=c.toNat
  ·have h1:=ch_lt c.toNat n.toNat h0
   have h2:(2:Nat) ^ c.toNat<=2 ^ 64:=Nat.pow_le_pow_right (by decide) (by omega)
   have h3:Choose.ch c.toNat n.toNat < 2 ^ 64:=Nat.lt_of_lt_of_le h1 h2
   exact_mod_cast h3
  ·have e:c.toNat=0:=by omega
   rw [e]
   have:Choose.ch 0 n.toNat<=1:=by
    rcases n.toNat with _ | k
    ·decide
    ·rw [Choose.ch_beyond 0 (k + 1) (by omega)]
     decide
   have h3:Choose.ch 0 n.toNat < 2 ^ 64:=Nat.lt_of_le_of_lt this (by decide)
   exact_mod_cast h3
theorem chI_nn (c n:Int):0<=chI c n:=by
 unfold chI
 split
 ·decide
 ·exact Int.natCast_nonneg _
noncomputable def row8 (z:Str)(k:Nat):Str:=cutS z (some (8 * (k:Nat))) (some (8 * (k:Nat) + 8))
noncomputable def rows8 (z:Str)(m:Nat):List Str:=(List.range m).map (row8 z)
theorem row8_list {z:Str}{m k:Nat}(zl:z.length=8 * m)(hk:k < m):(row8 z k).cps.toList=(z.cps.toList.drop (8 * k)).take 8:=by
 unfold row8 cutS
 rw [show (8 * ((k:Nat):Int))=((8 * k:Nat):Int) by omega,show (((8 * k:Nat):Int) + 8)=((8 * k + 8:Nat):Int) by omega,HT.sIx_nat,HT.sIx_nat,List.toList_toArray,Nat.min_eq_left (by omega),Nat.min_eq_left (by omega),Nat.add_sub_cancel_left]
theorem codes8 {z:Str}{m:Nat}(zl:z.length=8 * m):codes (rows8 z m)=chunk m z.cps.toList:=by
 rw [chunk_is]
 unfold codes rows8
 rw [List.map_map]
 exact List.map_congr_left fun k hk=>row8_list zl (List.mem_range.mp hk)
theorem Mk.rows {z:Str}{m a:Nat}{v:Int}{dg:Bool}(M:Mk z.cps.toList m a v dg):Rows bd.cps.toList (rows8 z m):=by
 have zl:z.length=8 * m:=by
  have:=M.len
  rw [Array.length_toList] at this
  exact this
 have m1:=M.m1
 have m8:=M.m8
 have rl:(rows8 z m).length=m:=by
  unfold rows8
  rw [List.length_map,List.length_range]
 refine ⟨by omega,by omega,8,by decide,by decide,fun t ht=>?_⟩
 obtain ⟨k,hk,rfl⟩:=List.mem_map.mp ht
 have hk:=List.mem_range.mp hk
 have e:=row8_list zl hk
 refine ⟨?_,fun c hc=>?_⟩
 ·rw [<- Array.length_toList,e,List.length_take,List.length_drop,Array.length_toList]
  show min 8 (z.length - 8 * k)=8
  omega
 ·rw [e] at hc
  have hc:=List.mem_of_mem_drop (List.mem_of_mem_take hc)
  obtain ⟨j,hj,ec⟩:=List.getElem_of_mem hc
  have hj2:j < 8 * m:=by rw [<- M.len]; exact hj
  have gd:z.cps.toList.getD j 0=c:=by rw [List.getD_eq_getElem?_getD,List.getElem?_eq_getElem hj,ec]; rfl
  by_cases h:dg=true/\j=a
  ·obtain ⟨rfl,rfl⟩:=h
   have:=M.dig
   rw [gd] at this
   have:∀ i:Nat,i < 9->(48 + i) ∈ bd.cps.toList:=by decide +kernel
   have:=this (c - 48) (by omega)
   rw [show 48 + (c - 48)=c by omega] at this
   exact this
  ·have:=M.oth j hj2 fun hd e=>h ⟨hd,e⟩
   rw [gd] at this
   rcases this with rfl | rfl <;> decide +kernel
noncomputable def spLaw (K:PySem.W.Frag):Sp:=fun vs H Q _=>∃ (a:Addr) (ns:List Int),vs=[.ref a]/\SqL K H a (ns.map V.int)/\ns.length<=63/\∀ H',Q (.bl true) H'
section
variable {P:Program}{w:World}{K:PySem.W.Frag}{mg:Str->Option Value}{base:Heap}{f:Addr}{fd:FuncData}{C_StoneError C_TooGreat C_NoLaying C_NoBoard C_NoCount C_NoCell C_NoText C_NoRow C_NoNumber C_NoTable:Addr}
theorem sc_law:FnScope ["_law_script","_law_text_here","_law_stones","_law_at","_law_number","_law_cells","_law_near_here","_law_due","_law_board","_law_kept","_law_turn","_law_found","_law_some"] ["_law_script"] (defScope s_law):=⟨rfl,rfl,rfl,by decide +kernel,rfl,by decide +kernel,by decide +kernel⟩
theorem ok_lawU (T:Txt mg)(Z:Prog K mg)(U:Ex10 K mg C_StoneError C_TooGreat C_NoLaying C_NoBoard C_NoCount C_NoCell C_NoText C_NoRow C_NoNumber C_NoTable){f:Addr}{fd:FuncData}(D:DefAt K mg "law" s_law ["_law_script"] f fd):FnOk P w K mg base CX0 6 f fd ["_law_script"] (spLaw K):=by
 obtain ⟨f_law_cell_at,fd_law_cell_at,D_law_cell_at⟩:=Z.law_cell_at
 obtain ⟨f_law_text,fd_law_text,D_law_text⟩:=Z.law_text
 obtain ⟨f_law_near,fd_law_near,D_law_near⟩:=Z.law_near
 obtain ⟨f_law_many,fd_law_many,D_law_many⟩:=Z.law_many
 obtain ⟨f_law_told,fd_law_told,D_law_told⟩:=Z.law_told
 obtain ⟨f_law_rising,fd_law_rising,D_law_rising⟩:=Z.law_rising
 obtain ⟨f_law_good,fd_law_good,D_law_good⟩:=Z.law_good
 have G_law_cell_at:FnOk P w K mg base CX0 1 _ _ ["_law_script","_law_k"] (spCell K):=ok_law_cell_at T D_law_cell_at
 have  G_law_told:FnOk P w K mg base CX0 5 _ _ ["_law_board"] spTold13:=ok_law_told T Z U D_law_told
 refine D.F.ok sc_law (fun vs H Q E h=>?_) (fun cdv A outer s H vs Q E hr h=>?_)
 ·obtain ⟨a,ns,rfl,_⟩:=h
  rfl
 ·obtain ⟨a,ns,rfl,hS,nl,q⟩:=h
  refine ⟨_,(pss_cons (ps_set (i:=1) sc_law.nd rfl (Or.inr rfl) (pc0 (ok_law_text T Z D_law_text) hr D_law_text (pa_cons (pv 0) pa_nil)))
   (pss_cons (ps_set (i:=2) sc_law.nd rfl (Or.inr rfl) (pe_op op_mod (pc0 G_law_cell_at hr D_law_cell_at (pa_cons (pv 0) (pa_cons pe_int pa_nil))) pe_int))
   (pss_cons (ps_set (i:=3) sc_law.nd rfl (Or.inl rfl) (pe_op op_mod (pe_op op_fdivG (pc0 G_law_cell_at hr D_law_cell_at (pa_cons (pv 0) (pa_cons pe_int pa_nil))) pe_int) (pe_callB call_len_str (by rfl) T.b_len PySem.boot_len (pa_cons (pv 1) pa_nil))))
   (pss_cons (ps_set (i:=4) sc_law.nd rfl (Or.inr rfl) pe_int)
   (pss_mid (ps_if (pt_cmpR op_eq (pe_op op_mod (pc0 G_law_cell_at hr D_law_cell_at (pa_cons (pv 0) (pa_cons pe_int pa_nil))) pe_int) pe_int (nomark _)) (pss_cons (ps_set (i:=4) sc_law.nd rfl (Or.inr rfl) (pe_op op_mod (pe_op op_fdivG (pc0 G_law_cell_at hr D_law_cell_at (pa_cons (pv 0) (pa_cons pe_int pa_nil))) pe_int) pe_int))
   (pss_one (ps_set (i:=1) sc_law.nd rfl (Or.inr rfl) (pe_op op_add_str (pe_op op_add_str (pe_slice sl_str (pv 1) po_none (po_some (pv 3))) (pe_callTy call_str_int (by rfl) T.b_str PyProof.Rows.boot_str (pa_cons (pv 4) pa_nil))) (pe_slice sl_str (pv 1) (po_some (pe_op op_add (pv 3) pe_int)) po_none))))) pss_nil)
   (pss_cons (ps_set (i:=5) sc_law.nd rfl (Or.inr rfl) (pe_comp (N:=["_law_k","_law_text_here"]) (src:=[none,some 1]) (CompOk.free (O:=(defScope s_law).names) (XN:=["_law_script","_law_text_here","_law_stones","_law_at","_law_number","_law_cells","_law_near_here","_law_due","_law_board","_law_kept","_law_turn","_law_found","_law_some"]) rfl rfl ⟨_,rfl⟩ rfl rfl (by decide +kernel) (by decide +kernel) (by decide +kernel) rfl (by decide +kernel)) rfl (pi_range1 (by rfl) T.b_range (pa_cons (pe_callB call_len_str (by rfl) T.b_len PySem.boot_len (pa_cons (pv 1) pa_nil)) pa_nil)) (fun _ _ _ _ _=>(pg_name (i:=0) (by show List.Nodup (["_law_k","_law_text_here"]:List Str); decide +kernel) rfl (Or.inl rfl))) (fun _ _ _ _ _=>(pifs_one (pt_cmpR op_eq (pe_ix ix_str (pv 1) (pv 0) (fun _ _=>rfl)) pe_str (nomark _)))) (fun _ _ _ _ _=>(pe_tup (pa_cons (pe_op op_fdivG (pv 0) pe_int) (pa_cons (pe_op op_mod (pv 0) pe_int) pa_nil))))))
   (pss_cons (ps_set (i:=6) sc_law.nd rfl (Or.inr rfl) (pe_lst pa_nil))
   (pss_mid (ps_if (pt_cmpR op_in_str (pe_ix ix_str (pv 1) (pv 3) (fun _ _=>rfl)) pe_str (by rfl)) (pss_one (ps_set (i:=6) sc_law.nd rfl (Or.inr rfl) (pc0 (ok_law_near T D_law_near) hr D_law_near (pa_cons (pv 5) (pa_cons (pv 3) pa_nil))))) pss_nil)
   (pss_cons (ps_set (i:=7) sc_law.nd rfl (Or.inl rfl) (pe_op op_mulG (pc0 (ok_law_many T D_law_many) hr D_law_many (pa_cons (pe_callB call_len_seq (by rfl) T.b_len PySem.boot_len (pa_cons (pv 6) pa_nil)) (pa_cons (pv 4) pa_nil))) (pc0 (ok_law_many T D_law_many) hr D_law_many (pa_cons (pe_op op_sub (pe_callB call_len_seq (by rfl) T.b_len PySem.boot_len (pa_cons (pv 5) pa_nil)) (pe_callB call_len_seq (by rfl) T.b_len PySem.boot_len (pa_cons (pv 6) pa_nil))) (pa_cons (pe_op op_sub (pv 2) (pv 4)) pa_nil)))))
   (pss_cons (ps_set (i:=8) sc_law.nd rfl (Or.inl rfl) (pe_tup (pa_cons (pe_comp (N:=["_law_k","_law_text_here"]) (src:=[none,some 1]) (CompOk.free (O:=(defScope s_law).names) (XN:=["_law_script","_law_text_here","_law_stones","_law_at","_law_number","_law_cells","_law_near_here","_law_due","_law_board","_law_kept","_law_turn","_law_found","_law_some"]) rfl rfl ⟨_,rfl⟩ rfl rfl (by decide +kernel) (by decide +kernel) (by decide +kernel) rfl (by decide +kernel)) rfl (pi_range1 (by rfl) T.b_range (pa_cons (pe_op op_fdivG (pe_callB call_len_str (by rfl) T.b_len PySem.boot_len (pa_cons (pv 1) pa_nil)) pe_int) pa_nil)) (fun _ _ _ _ _=>(pg_name (i:=0) (by show List.Nodup (["_law_k","_law_text_here"]:List Str); decide +kernel) rfl (Or.inl rfl))) (fun _ _ _ _ _=>pifs_nil) (fun _ _ _ _ _=>(pe_slice sl_str (pv 1) (po_some (pe_op op_mulG pe_int (pv 0))) (po_some (pe_op op_add (pe_op op_mulG pe_int (pv 0)) pe_int))))) (pa_cons (pv 2) pa_nil))))
   (pss_cons (ps_set (i:=9) sc_law.nd rfl (Or.inl rfl) (pe_tup (pa_cons (pe_callTy call_list_of (by rfl) T.b_list PyProof.Rows.boot_list (pa_cons (pe_ix ix_tup (pv 8) pe_int (fun _ _=>rfl)) pa_nil)) (pa_cons (pv 2) pa_nil))))
   (pss_cons (ps_for PassesOwn.never rfl (pi_range1 (by rfl) T.b_range (pa_cons pe_int pa_nil)) (pg_name (i:=10) sc_law.nd rfl (Or.inl rfl)) (pss_cons (ps_asg (pc0 G_law_told hr D_law_told (pa_cons (pv 8) pa_nil)) (pg_tup rfl (pgs_cons (pg_name (i:=11) sc_law.nd rfl (Or.inl rfl)) (pgs_cons (pg_name (i:=12) sc_law.nd rfl (Or.inl rfl)) pgs_nil))))
   (pss_cons (ps_if (PW.pt (pw_or (pt_cmpR (op_ne_deep hr.units) (pv 8) (pv 9) (nomark _)) (pw_or1 (pt_cmpR (op_ne_deep hr.units) (pv 12) (pe_ix ix_list (pe_lst (pa_cons (pe_lst pa_nil) (pa_cons (pe_lst (pa_cons pe_int (pa_cons pe_int pa_nil))) pa_nil))) (pe_callTy call_int1 (by rfl) T.b_int PyProof.Rows.boot_int (pa_cons (pe_cmpR op_gt (pe_callB call_len_seq (by rfl) T.b_len PySem.boot_len (pa_cons (pv 5) pa_nil)) pe_int (nomark _)) pa_nil)) (fun _ _=>rfl)) (nomark _))))) (pss_one (ps_ret pe_bl)) pss_nil)
   (pss_one (ps_if (pt_cmpR op_lt (pe_callB call_len_seq (by rfl) T.b_len PySem.boot_len (pa_cons (pv 5) pa_nil)) pe_int (nomark _)) (pss_cons (ps_if (PW.pt (pw_or (pt_cmpR op_ne (pe_callB call_len_seq (by rfl) T.b_len PySem.boot_len (pa_cons (pv 11) pa_nil)) (pv 7) (nomark _)) (pw_or1 (pt_not (pt_truth (pc0 (ok_law_rising T D_law_rising) hr D_law_rising (pa_cons (pv 11) pa_nil)) (fun _=>rfl)))))) (pss_one (ps_ret pe_bl)) pss_nil)
   (pss_one (ps_if (pt_cmpR (op_ne_deep hr.units) (pe_comp (N:=["_law_one","_law_cells","_law_stones","_law_near_here","_law_number"]) (src:=[none,some 5,some 2,some 6,some 4]) (CompOk.free (O:=(defScope s_law).names) (XN:=["_law_script","_law_text_here","_law_stones","_law_at","_law_number","_law_cells","_law_near_here","_law_due","_law_board","_law_kept","_law_turn","_law_found","_law_some"]) rfl rfl ⟨_,rfl⟩ rfl rfl (by decide +kernel) (by decide +kernel) (by decide +kernel) rfl (by decide +kernel)) rfl (pi_list (pv 11)) (fun _ _ _ _ _=>(pg_name (i:=0) (by show List.Nodup (["_law_one","_law_cells","_law_stones","_law_near_here","_law_number"]:List Str); decide +kernel) rfl (Or.inl rfl))) (fun _ _ _ _ _=>(pifs_one (pt_not (pt_truthK (K:=K) (by rfl) (pc0 (ok_law_good T Z D_law_good) hr D_law_good (pa_cons (pv 0) (pa_cons (pv 1) (pa_cons (pv 2) (pa_cons (pv 3) (pa_cons (pv 4) pa_nil)))))) (fun _=>rfl))))) (fun _ _ _ _ _=>(pv 0))) (pe_lst pa_nil) (nomark _)) (pss_one (ps_ret pe_bl)) pss_nil))) pss_nil)))))
   (pss_one (ps_ret pe_bl)))))))))))))),?_⟩
  refine ⟨_,rfl,a,ns,rfl,hS,fun z zo=>?_⟩
  obtain ⟨⟨m,m1,m8,zl⟩,zm⟩:=zo
  refine ⟨_,rfl,a,ns,2,rfl,hS,by decide,fun z2=>⟨_,_,rfl,rfl,(by show (0:Int) < 15; decide),?_⟩⟩
  refine ⟨_,rfl,a,ns,3,rfl,hS,by decide,fun z3=>⟨_,_,rfl,rfl,CDivG.small (by decide) (by decide),_,rfl,_,rfl,?_⟩⟩
  have k64:(1000:Nat)<=sizeLine:=by decide
  refine ⟨by omega,_,_,rfl,rfl,(by show (0:Int) < ((z.length:Nat):Int); omega),?_⟩
  have n0:0<=z2 % 15:=by omega
  have n14:z2 % 15<=14:=by omega
  generalize hn:z2 % 15=n at n0 n14
  have at0:0<=z3 / 2 % ((z.length:Nat):Int):=Int.emod_nonneg _ (by omega)
  have at1:z3 / 2 % ((z.length:Nat):Int) < ((z.length:Nat):Int):=Int.emod_lt_of_pos _ (by omega)
  refine ⟨fun σ' H'=>∃ (z':Str) (at_:Nat) (v:Int) (dg:Bool),σ'=[some (.ref a),some (.str z'),some (.int n),some (.int (at_:Nat)),some (.int v),none,none,none,none,none,none,none,none]/\H'=H/\Mk z'.cps.toList m at_ v dg,?_,?_⟩
  ·have e1:(z3 / 2 % ((z.length:Nat):Int))=(((z3 / 2 % ((z.length:Nat):Int)).toNat:Nat):Int):=(Int.toNat_of_nonneg at0).symm
   refine ⟨_,rfl,a,ns,3,rfl,hS,by decide,fun z4=>⟨_,_,rfl,rfl,(by show (0:Int) < 2; decide),rfl,_,rfl,?_⟩⟩
   generalize hA:(z3 / 2 % ((z.length:Nat):Int)).toNat=aN at e1
   have hA2:aN < 8 * m:=by omega
   refine ite2 (fun _=>?_) (fun _=>?_)
   ·refine ⟨_,rfl,a,ns,2,rfl,hS,by decide,fun z5=>⟨_,_,rfl,rfl,CDivG.small (by decide) (by decide),_,_,rfl,rfl,(by show (0:Int) < 9; decide),?_⟩⟩
    have d0:0<=z5 / 15 % 9:=by omega
    have d8:(z5 / 15 % 9).toNat<=8:=by omega
    have e2:z5 / 15 % 9=(((z5 / 15 % 9).toNat:Nat):Int):=by omega
    generalize hD:(z5 / 15 % 9).toNat=dN at d8 e2
    have c1:=cutS_len z none (some (aN:Nat))
    have c2:=cutS_len z (some ((aN:Nat) + 1)) none
    have hlog:(z5 / 15 % 9).natAbs.log2 < 1920:=by
     rw [e2,Int.natAbs_natCast]
     exact Nat.lt_of_le_of_lt (Nat.log2_le_self _) (by omega)
    have c3:(Str.ofString (toString (z5 / 15 % 9))).length=1:=by
     rw [e2,show (Str.ofString (toString (dN:Int)))=⟨#[48 + dN]⟩ from digit6 dN d8]
     rfl
    have c4:(cutS z none (some (aN:Nat))++Str.ofString (toString (z5 / 15 % 9))).length=(cutS z none (some (aN:Nat))).length + (Str.ofString (toString (z5 / 15 % 9))).length:=Array.size_append
    refine ⟨_,rfl,_,rfl,_,rfl,z,rfl,by omega,_,rfl,_,rfl,hlog,_,_,rfl,rfl,?_,_,rfl,_,rfl,_,_,rfl,rfl,_,rfl,z,rfl,by omega,_,_,rfl,rfl,?_,dugS z aN dN,aN,(dN:Nat),true,?_,rfl,mk_dug m1 m8 zl zm hA2 d8⟩
    ·rw [e1]
     omega
    ·rw [e1]
     omega
    ·show [_,some (V.str (cutS z none (some (z3 / 2 % ((z.length:Nat):Int)))++Str.ofString (toString (z5 / 15 % 9))++cutS z (some (z3 / 2 % ((z.length:Nat):Int) + 1)) none)),some (V.int (z2 % 15)),some (V.int (z3 / 2 % ((z.length:Nat):Int))),some (V.int (z5 / 15 % 9)),_,_,_,_,_,_,_,_]=_
     rw [e1,e2,hn,show (Str.ofString (toString (dN:Int)))=⟨#[48 + dN]⟩ from digit6 dN d8]
     rfl
   ·refine ⟨z,aN,0,false,?_,rfl,mk_plain m1 m8 zl zm hA2⟩
    show [_,some (V.str z),some (V.int (z2 % 15)),some (V.int (z3 / 2 % ((z.length:Nat):Int))),_,_,_,_,_,_,_,_,_]=_
    rw [e1,hn]
  ·rintro σ' H0 ⟨z',at_,v,dg,rfl,rfl,M⟩
   have zl2:z'.length=8 * m:=by
    have:=M.len
    rw [Array.length_toList] at this
    exact this
   have m1:=M.m1
   have m8:=M.m8
   refine ⟨_,rfl,z',rfl,by omega,_,rfl,by omega,by omega,fun y hy=>?_⟩
   refine comp_range (lo:=0) (fun i σ' H'=>∃ (u0:Option V) (ys:List V),σ'=[u0,some (.str z')]/\Same H0 H'/\H' y=some (.lst ys)/\Tup2 H' ys (((List.range i).filter fun k=>decide (z'.cps.toList.getD k 0=63)).map cellK)/\ys.length<=i) ⟨_,[],rfl,same_new hy,upd_same,.nil,Nat.le_refl _⟩ ?_ ?_
   ·rintro i σ' H1 hi ⟨u0,ys,rfl,s1,hy1,t1,yl⟩
    have hi:i < (((z'.length:Nat):Int)).toNat:=hi
    have il:i < z'.cps.toList.length:=by rw [Array.length_toList]; show i < z'.length; omega
    have e0:(0:Int) + (i:Nat)=(i:Nat):=Int.zero_add _
    rw [e0]
    refine ⟨_,rfl,_,rfl,z',_,z'.cps.toList[i],rfl,rfl,by omega,atI_lt (by omega) (by rw [Int.toNat_natCast,List.getElem?_eq_getElem il]),?_⟩
    refine ⟨rfl,_,rfl,?_⟩
    have gd:z'.cps.toList.getD i 0=z'.cps.toList[i]:=by rw [List.getD_eq_getElem?_getD,List.getElem?_eq_getElem il]; rfl
    generalize z'.cps.toList[i]=c at *
    have rsc:(List.range (i + 1)).filter (fun k=>decide (z'.cps.toList.getD k 0=63))=(List.range i).filter (fun k=>decide (z'.cps.toList.getD k 0=63))++(if c=63 then [i] else []):=by
     rw [List.range_succ,List.filter_append,List.filter_cons,gd]
     by_cases h:c=63
     ·rw [if_pos (decide_eq_true h),if_pos h]
      rfl
     ·rw [if_neg (by rw [decide_eq_true_eq]; exact h),if_neg h]
      rfl
    by_cases h:c=63
    ·subst h
     refine iteP (decide_eq_true rfl) ⟨_,rfl,_,_,rfl,rfl,CDivG.small (by decide) (by decide),_,rfl,_,_,rfl,rfl,(by show (0:Int) < 8; decide),sz_2,fun t ht=>?_⟩
     have st:=same_new (o:=.tup [.int (((i:Nat):Int) / 8),.int (((i:Nat):Int) % 8)]) ht
     have ty:t ≠ y:=fun e=>by rw [e,hy1] at ht; cases ht
     refine ⟨ys,st _ _ hy1,by omega,_,ys++[.ref t],rfl,fun b o e=>?_,upd_same,?_,?_⟩
     ·rw [upd_ne (ne_of_none e hy)]
      exact st _ _ (s1 _ _ e)
     ·rw [rsc,if_pos rfl,List.map_append]
      refine tup2_app (tup2_into (st _ _ hy1) (tup2_mono st t1)) (.cons ⟨t,rfl,?_⟩ .nil)
      rw [upd_ne ty]
      exact upd_same
     ·rw [List.length_append]
      exact Nat.succ_le_succ yl
    ·refine iteN (decide_eq_false fun e=>h ?_) ⟨_,ys,rfl,s1,hy1,?_,by omega⟩
     ·injection e with e
      have e:(⟨#[c]⟩:Str).cps.toList=(Str.ofString "?").cps.toList:=by rw [e]
      have e:[c]=[63]:=e
      injection e
     ·rw [rsc,if_neg h,List.append_nil]
      exact t1
   ·rintro σ' H1 ⟨u0,ys,rfl,s1,hy1,t1,yl⟩
    have tn:(((z'.length:Nat):Int)).toNat=8 * m:=by omega
    rw [tn] at t1 yl
    generalize hL:((List.range (8 * m)).filter fun k=>decide (z'.cps.toList.getD k 0=63)).map cellK=L at t1
    have yL:=tup2_len t1
    have L64:L.length<=64:=by omega
    refine ⟨sz_0,fun d hd=>?_⟩
    have sd:=same_new (o:=.lst []) hd
    have hd1:=upd_same (H:=H1) (a:=d) (o:=.lst [])
    have t1:=tup2_mono sd t1
    have hy1:=sd _ _ hy1
    have s1:=s1.trans sd
    generalize upd H1 d (.lst [])=H2 at *
    refine ⟨fun σ' H'=>∃ (na:Addr) (nus:List V),σ'=[some (.ref a),some (.str z'),some (.int n),some (.int (at_:Nat)),some (.int v),some (.ref y),some (.ref na),none,none,none,none,none,none]/\Same H2 H'/\H' na=some (.lst nus)/\Tup2 H' nus (L.filter (nearQ dg at_)),?_,?_⟩
    ·have al:=M.al
     have il:at_ < z'.cps.toList.length:=by rw [M.len]; exact al
     refine ⟨_,rfl,_,rfl,z',_,z'.cps.toList[at_],rfl,rfl,by omega,atI_lt (by omega) (by rw [Int.toNat_natCast,List.getElem?_eq_getElem il]),_,_,rfl,rfl,_,rfl,?_⟩
     have gd:z'.cps.toList.getD at_ 0=z'.cps.toList[at_]:=by rw [List.getD_eq_getElem?_getD,List.getElem?_eq_getElem il]; rfl
     cases hdg:dg with
     | true =>
      subst hdg
      have dg8:=M.dig
      rw [gd] at dg8
      have occ:∀ k:Nat,48<=k->k<=56->(!(Builtin.Str.occurrences ("012345678":Str) ⟨#[k]⟩ 0 ("012345678":Str).length 1).isEmpty)=true:=fun k h1 h2=>by
       have:∀ j:Nat,j < 9->(!(Builtin.Str.occurrences ("012345678":Str) ⟨#[48 + j]⟩ 0 ("012345678":Str).length 1).isEmpty)=true:=by decide +kernel
       have:=this (k - 48) (by omega)
       rw [show 48 + (k - 48)=k by omega] at this
       exact this
      refine iteP (occ _ dg8.1 dg8.2) ⟨_,rfl,_,rfl,y,ys,L,((at_:Nat):Int),rfl,hy1,t1,L64,fun na nus H' _ hna tn2 s2=>⟨na,nus,rfl,s2,hna,?_⟩⟩
      have e:(L.filter (nearQ true at_))=L.filter (nearI ((at_:Nat):Int)):=List.filter_congr fun c _=>rfl
      rw [e]
      exact tn2
     | false =>
      subst hdg
      have h2:=M.oth at_ al (fun h=>nomatch h)
      rw [gd] at h2
      have occ:∀ k:Nat,k=35\/k=63->(!(Builtin.Str.occurrences ("012345678":Str) ⟨#[k]⟩ 0 ("012345678":Str).length 1).isEmpty)=false:=fun k h=>by
       rcases h with rfl | rfl <;> decide +kernel
      refine iteN (occ _ h2) ⟨d,[],rfl,Same.refl _,hd1,?_⟩
      have e:(L.filter (nearQ false at_))=[]:=List.filter_eq_nil_iff.mpr fun x _ h=>nomatch h
      rw [e]
      exact .nil
    ·rintro σ' H3 ⟨na,nus,rfl,s3,hna,tn3⟩
     have nl2:=tup2_len tn3
     have nL:(L.filter (nearQ dg at_)).length<=L.length:=List.length_filter_le _ _
     have v0:=M.v0
     have v8:=M.v8
     refine ⟨_,rfl,na,nus,rfl,.inl (SqL.of hna),_,rfl,_,_,rfl,by omega,by omega,by omega,?_⟩
     have c1:chI (((L.length:Nat):Int) - ((L.filter (nearQ dg at_)).length:Nat)) (n - v) < 2 ^ 64:=chI_lt (by omega)
     have c0:=chI_nn (((L.length:Nat):Int) - ((L.filter (nearQ dg at_)).length:Nat)) (n - v)
     refine ⟨_,rfl,y,ys,rfl,.inl (SqL.of (s3 _ _ hy1)),_,rfl,na,nus,rfl,.inl (SqL.of hna),_,_,rfl,rfl,_,rfl,_,rfl,_,_,rfl,rfl,_,_,rfl,by omega,by omega,by omega,?_⟩
     rw [yL,nl2]
     refine ⟨_,_,rfl,rfl,mulS (by omega) c1,?_⟩
     generalize hdue:chI ((L.filter (nearQ dg at_)).length:Nat) v * chI (((L.length:Nat):Int) - ((L.filter (nearQ dg at_)).length:Nat)) (n - v)=due
     refine ⟨_,rfl,z',rfl,by omega,_,_,rfl,rfl,CDivG.small (by decide) (by decide),_,rfl,by omega,by omega,fun bl hbl=>?_⟩
     have z8:(((z'.length:Nat):Int) / 8).toNat=m:=by omega
     rw [z8]
     refine comp_range (lo:=0) (fun i σ' H'=>∃ (u0:Option V),σ'=[u0,some (.str z')]/\Same H3 H'/\H' bl=some (.lst ((rows8 z' i).map V.str))) ⟨_,rfl,same_new hbl,upd_same⟩ ?_ ?_
     ·rintro i σ' H4 hi ⟨u0,rfl,s4,hb4⟩
      have e0:(0:Int) + (i:Nat)=(i:Nat):=Int.zero_add _
      rw [e0]
      unfold gName
      refine yes_if ?_
      refine ⟨_,rfl,_,rfl,_,_,rfl,rfl,mulS (by omega) (by omega),_,rfl,_,rfl,_,_,rfl,rfl,mulS (by omega) (by omega),_,_,rfl,rfl,_,rfl,z',rfl,by omega,_,hb4,?_,_,rfl,fun b o e=>?_,?_⟩
      ·unfold rows8
       rw [List.length_map,List.length_map,List.length_range]
       omega
      ·rw [upd_ne (ne_of_none e hbl)]
       exact s4 _ _ e
      ·unfold rows8
       rw [upd_same,List.range_succ,List.map_append,List.map_append]
       rfl
     rintro σ' H4 ⟨u0,rfl,s4,hb4⟩
     refine ⟨_,rfl,sz_2,fun bp hbp=>?_⟩
     have s5:=same_new (o:=.tup [.ref bl,.int n]) hbp
     have hbp5:=upd_same (H:=H4) (a:=bp) (o:=.tup [.ref bl,.int n])
     have hb5:=s5 _ _ hb4
     generalize upd H4 bp (.tup [.ref bl,.int n])=H5 at *
     have s35:=s4.trans s5
     refine ⟨_,rfl,bp,_,0,_,rfl,rfl,SqT.of hbp5,rfl,?_⟩
     refine ⟨bl,_,rfl,.inl (SqL.of hb5),fun kl hkl=>⟨_,rfl,sz_2,fun kp hkp=>?_⟩⟩
     have s6:=same_new (o:=.lst ((rows8 z' m).map V.str)) hkl
     have s7:=same_new (o:=.tup [.ref kl,.int n]) hkp
     have hkp7:=upd_same (H:=upd H5 kl (.lst ((rows8 z' m).map V.str))) (a:=kp) (o:=.tup [.ref kl,.int n])
     have hkl7:=s7 _ _ (upd_same (H:=H5) (a:=kl) (o:=.lst ((rows8 z' m).map V.str)))
     have s37:=(s35.trans s6).trans s7
     have hb7:BoardAt (upd (upd H5 kl (.lst ((rows8 z' m).map V.str))) kp (.tup [.ref kl,.int n])) bp bl (rows8 z' m) n:=⟨(s6.trans s7) _ _ hbp5,(s6.trans s7) _ _ hb5⟩
     generalize upd (upd H5 kl (.lst ((rows8 z' m).map V.str))) kp (.tup [.ref kl,.int n])=H7 at *
     have hk7:BoardAt H7 kp kl (rows8 z' m) n:=⟨hkp7,hkl7⟩
     refine ⟨2,rfl,by decide,by decide,?_⟩
     refine for_range (lo:=0) (n:=2) (fun _ σ' H'=>∃ (u0 u1 u2:Option V),σ'=[some (.ref a),some (.str z'),some (.int n),some (.int (at_:Nat)),some (.int v),some (.ref y),some (.ref na),some (.int due),some (.ref bp),some (.ref kp),u0,u1,u2]/\Same H7 H') ⟨_,_,_,by rw [<- hdue]; rfl,Same.refl _⟩ ?_ ?_
     ·rintro i σ' H8 hi ⟨u0,u1,u2,rfl,s8⟩
      have cd:=codes8 zl2
      have R:=M.rows
      have eL:cellsI (rows8 z' m)=L:=by rw [M.cells cd,hL]
      have eb:(if true=true then !PyData.eqv (bData (rows8 z' m) n) (bData (rows8 z' m) n) else PyData.eqv (bData (rows8 z' m) n) (bData (rows8 z' m) n))=false:=by
       rw [if_pos rfl,SeqAt.eqv_refl _ (R.cmpB n).l1]
       rfl
      have sL:(shutC (rows8 z' m)).length=L.length:=by rw [<- eL]; unfold cellsI; rw [List.length_map]
      refine ⟨_,rfl,bp,bl,rows8 z' m,n,rfl,hb7.mono s8,R,n0,fun h13 t c H9 ht hc s9=>?_,fun h12 t c d2 ws ks H9 ht hc hd2 hLs hnd hpm hpw s9=>?_⟩
      ·refine ⟨t,_,rfl,SqT.of ht,rfl,_,_,rfl,_,_,rfl,rfl,?_⟩
       have s79:=s8.trans s9
       refine ⟨_,rfl,_,rfl,_,_,BoardAt.rdv (hb7.mono s79),BoardAt.rdv (hk7.mono s79),R.cmpB n,_,rfl,?_⟩
       rw [eb]
       refine iteF ?_
       refine ⟨_,rfl,sz_0,fun q0 hq0=>⟨sz_2,fun q1 hq1=>⟨sz_2,fun q2 hq2=>?_⟩⟩⟩
       have sq:=((same_new (o:=.lst []) hq0).trans (same_new (o:=.lst [.int 0,.int 9]) hq1)).trans (same_new (o:=.lst [.ref q0,.ref q1]) hq2)
       have hq1a:=same_new (o:=.lst [.ref q0,.ref q1]) hq2 _ _ (upd_same (H:=upd H9 q0 (.lst [])) (a:=q1) (o:=.lst [.int 0,.int 9]))
       have hq2a:=upd_same (H:=upd (upd H9 q0 (.lst [])) q1 (.lst [.int 0,.int 9])) (a:=q2) (o:=.lst [.ref q0,.ref q1])
       generalize upd (upd (upd H9 q0 (.lst [])) q1 (.lst [.int 0,.int 9])) q2 (.lst [.ref q0,.ref q1])=H10 at *
       have h12:12 < ys.length:=by omega
       have hy10:=((s3.trans s37).trans (s79.trans sq)) _ _ hy1
       refine ⟨_,rfl,y,ys,rfl,.inl (SqL.of hy10),_,_,rfl,rfl,.inr ⟨_,rfl,q2,_,1,_,rfl,?_,SqL.of hq2a,rfl,.list [.int 0,.int 9],.list [.int 0,.int 9],.lst (SqL.of (sq _ _ hc)) (.cons (.int _) (.cons (.int _) .nil)),.lst (SqL.of hq1a) (.cons (.int _) (.cons (.int _) .nil)),⟨rfl,rfl,by show 1<=64; decide⟩,_,rfl,iteN rfl ?_⟩⟩
       ·rw [if_pos (decide_eq_true (by omega))]
       refine ⟨_,rfl,y,ys,rfl,.inl (SqL.of hy10),_,_,rfl,rfl,_,rfl,iteN (decide_eq_false (by omega)) ?_⟩
       exact ⟨_,_,_,rfl,s79.trans sq⟩
      ·refine ⟨t,_,rfl,SqT.of ht,rfl,_,_,rfl,_,_,rfl,rfl,?_⟩
       have s79:=s8.trans s9
       refine ⟨_,rfl,_,rfl,_,_,BoardAt.rdv (hb7.mono s79),BoardAt.rdv (hk7.mono s79),R.cmpB n,_,rfl,?_⟩
       rw [eb]
       refine iteF ?_
       refine ⟨_,rfl,sz_0,fun q0 hq0=>⟨sz_2,fun q1 hq1=>⟨sz_2,fun q2 hq2=>?_⟩⟩⟩
       have sq:=((same_new (o:=.lst []) hq0).trans (same_new (o:=.lst [.int 0,.int 9]) hq1)).trans (same_new (o:=.lst [.ref q0,.ref q1]) hq2)
       have hq0a:=((same_new (o:=.lst [.int 0,.int 9]) hq1).trans (same_new (o:=.lst [.ref q0,.ref q1]) hq2)) _ _ (upd_same (H:=H9) (a:=q0) (o:=.lst []))
       have hq2a:=upd_same (H:=upd (upd H9 q0 (.lst [])) q1 (.lst [.int 0,.int 9])) (a:=q2) (o:=.lst [.ref q0,.ref q1])
       generalize upd (upd (upd H9 q0 (.lst [])) q1 (.lst [.int 0,.int 9])) q2 (.lst [.ref q0,.ref q1])=H10 at *
       have s310:=s37.trans (s79.trans sq)
       have hy10:=(s3.trans s310) _ _ hy1
       refine ⟨_,rfl,y,ys,rfl,.inl (SqL.of hy10),_,_,rfl,rfl,.inr ⟨_,rfl,q2,_,0,_,rfl,?_,SqL.of hq2a,rfl,.list [],.list [],.lst (SqL.of (sq _ _ hc)) .nil,.lst (SqL.of hq0a) .nil,⟨rfl,rfl,by show 1<=64; decide⟩,_,rfl,iteN rfl ?_⟩⟩
       ·rw [if_neg (by rw [decide_eq_true_eq]; omega)]
       refine ⟨_,rfl,y,ys,rfl,.inl (SqL.of hy10),_,_,rfl,rfl,_,rfl,iteP (decide_eq_true (by omega)) ?_⟩
       obtain ⟨f1,f2,f3⟩:=lays_facts (q:=nearQ dg at_) v0 (fun k hk nd=>M.fit cd k hk nd) hpm hpw
       rw [eL] at f1
       have wl:=lists_len hLs
       have hd10:=sq _ _ hd2
       have hL10:=lists_mono sq hLs
       have w16:ws.length<=16384:=by
        rw [wl,hpm.length_eq]
        unfold chosen
        refine Nat.le_trans (List.length_filter_le _ _) (Nat.le_trans (List.length_filter_le _ _) ?_)
        rw [Subs.subs_pick,List.length_map,List.length_range]
        have e14:(cellsI (rows8 z' m)).length<=14:=by rw [eL]; omega
        exact Nat.pow_le_pow_right (by decide) e14
       refine ⟨_,rfl,d2,ws,rfl,.inl (SqL.of hd10),_,rfl,rfl,_,rfl,?_⟩
       rw [wl,f1,hdue,decide_eq_true rfl]
       refine iteF ?_
       refine ⟨_,rfl,d2,ws,fun _=>true,rfl,hd10,w16,fun j x x' hx hx' H' Q' s11 hq=>?_,fun H11 s11=>?_⟩
       ·obtain ⟨k,b,us,hk,rfl,_,hb,tb⟩:=lists_at hL10 hx
        obtain ⟨k',b',us',hk',rfl,_,hb',tb'⟩:=lists_at hL10 hx'
        refine .inr ⟨k,k',⟨b,us,rfl,s11 _ _ hb,tup2_mono s11 tb⟩,⟨b',us',rfl,s11 _ _ hb',tup2_mono s11 tb'⟩,?_⟩
        rw [f2 j k k' hk hk']
        exact hq
       have all1:(((List.range (ws.length - 1)).map fun _=>true).all id)=true:=by
        rw [List.all_eq_true]
        intro x hx
        obtain ⟨_,_,rfl⟩:=List.mem_map.mp hx
        rfl
       rw [all1]
       refine ⟨true,rfl,?_⟩
       refine iteN (b:=!true) rfl ?_
       refine ⟨_,rfl,d2,rfl,⟨_,SqL.of (s11 _ _ hd10)⟩,fun g hg=>?_⟩
       have s311:=s310.trans s11
       refine comp_list (K:=K) (a:=d2) (xs:=ws) (fun j σ' H'=>∃ (u0:Option V),σ'=[u0,some (.ref y),some (.int n),some (.ref na),some (.int v)]/\Same H11 H'/\H' g=some (.lst [])) ⟨_,rfl,same_new hg,upd_same⟩ (fun j σ' H' _ ⟨_,_,s12,_⟩=>SqL.of (s12 _ _ (s11 _ _ hd10))) ?_ ?_
       ·rintro j x σ' H12 hx ⟨u0,rfl,s12,hg12⟩
        obtain ⟨k,b,us,hk,rfl,_,hb,tb⟩:=lists_at hL10 hx
        obtain ⟨k1,k2,k3,k4,k5⟩:=f3 k (List.mem_of_getElem? hk)
        have s312:=s311.trans s12
        have s1012:=s11.trans s12
        have ef:(k.filter fun c=>decide (c ∈ L.filter (nearQ dg at_)))=k.filter (nearQ dg at_):=List.filter_congr fun c hc=>by
         rw [Bool.eq_iff_iff,decide_eq_true_eq,List.mem_filter]
         exact ⟨fun h=>h.2,fun h=>⟨by rw [<- eL]; exact k4 c hc,h⟩⟩
        refine ⟨_,rfl,_,rfl,_,rfl,_,rfl,_,rfl,b,y,na,us,ys,nus,k,L,L.filter (nearQ dg at_),n,v,rfl,s1012 _ _ hb,tup2_mono s1012 tb,(s3.trans s312) _ _ hy1,tup2_mono (s3.trans s312) t1,s312 _ _ hna,tup2_mono s312 tn3,k1,by rw [eL] at k2; omega,k3,fun c hc=>by rw [<- eL]; exact k4 c hc,by rw [ef]; exact k5,fun H13 s13=>⟨true,rfl,?_⟩⟩
        exact iteN (b:=!true) rfl ⟨_,rfl,s12.trans s13,s13 _ _ hg12⟩
       ·rintro σ' H12 ⟨u0,rfl,s12,hg12⟩
        refine ⟨sz_0,fun e he=>?_⟩
        have se:=same_new (o:=.lst []) he
        refine ⟨.list [],.list [],.lst (SqL.of (se _ _ hg12)) .nil,.lst (SqL.of upd_same) .nil,⟨rfl,rfl,by show 1<=64; decide⟩,_,rfl,iteN rfl ?_⟩
        exact ⟨_,_,_,rfl,((s79.trans sq).trans (s11.trans s12)).trans se⟩
     ·rintro σ' H8 ⟨u0,u1,u2,rfl,s8⟩
      exact q H8
theorem ok_law (T:Txt mg)(O_StoneError:ExCls K mg "StoneError" C_StoneError)(O_TooGreat:ExCls K mg "TooGreat" C_TooGreat)(O_NoLaying:ExCls K mg "NoLaying" C_NoLaying)(O_NoBoard:ExCls K mg "NoBoard" C_NoBoard)(O_NoCount:ExCls K mg "NoCount" C_NoCount)(O_NoCell:ExCls K mg "NoCell" C_NoCell)(O_NoText:ExCls K mg "NoText" C_NoText)(O_NoRow:ExCls K mg "NoRow" C_NoRow)(O_NoNumber:ExCls K mg "NoNumber" C_NoNumber)(O_NoTable:ExCls K mg "NoTable" C_NoTable)(FG:Facts K C_TooGreat C_StoneError C_TooGreat C_NoLaying C_NoBoard C_NoCount C_NoCell C_NoText C_NoRow C_NoNumber C_NoTable true false)(Z:Prog K mg){f:Addr}{fd:FuncData}(D:DefAt K mg "law" s_law ["_law_script"] f fd):FnOk P w K mg base CX0 8 f fd ["_law_script"] (spLaw K) :=
 (ok_lawU T Z ⟨O_StoneError,O_TooGreat,O_NoLaying,O_NoBoard,O_NoCount,O_NoCell,O_NoText,O_NoRow,O_NoNumber,O_NoTable,FG⟩ D).mono (by decide)
end
theorem all_mk {l:PySem.W.OpenLaw}{w:World}{K:PySem.W.Frag}{h:Heap}{mg:Str->Option Value}{fa:Addr}{t_CLOSED_SIGN:Tok}{t_MOST_CLOSED:Tok}{t_NO_CELL_SIGN:Tok}{C_StoneError:Addr}{C_TooGreat:Addr}{C_NoLaying:Addr}{C_NoBoard:Addr}{C_NoCount:Addr}{C_NoCell:Addr}{C_NoText:Addr}{C_NoRow:Addr}{C_NoNumber:Addr}{C_NoTable:Addr}(X:K.In h)(G:h.Ns mainGlobals mg)(hfa:mg "law"=some (.ref fa))
  (h_closed:HasDef K "closed" s_closed)
  (h_open_cells:HasDef K "open_cells" s_open_cells)
  (h_around:HasDef K "around" s_around)
  (h_number_at:HasDef K "number_at" s_number_at)
  (h_cells_of:HasDef K "cells_of" s_cells_of)
  (h_sign_at:HasDef K "sign_at" s_sign_at)
  (h_layings:HasDef K "layings" s_layings)
  (h_numbers_told:HasDef K "numbers_told" s_numbers_told)
  (h_wrong_number:HasDef K "wrong_number" s_wrong_number)
  (h_picks:HasDef K "picks" s_picks)
  (h_law_cell_at:HasDef K "_law_cell_at" s_law_cell_at)
  (h_law_classes:HasDef K "_law_classes" s_law_classes)
  (h_law_told:HasDef K "_law_told" s_law_told)
  (h_law_many:HasDef K "_law_many" s_law_many)
  (h_law_rising:HasDef K "_law_rising" s_law_rising)
  (h_law_text:HasDef K "_law_text" s_law_text)
  (h_law_good:HasDef K "_law_good" s_law_good)
  (h_law_near:HasDef K "_law_near" s_law_near)
  (h_law:HasDef K "law" s_law)
  (z_ValueError:PySem.W.nsIn K mainGlobals "ValueError"=some none)
  (z_abs:PySem.W.nsIn K mainGlobals "abs"=some none)
  (z_all:PySem.W.nsIn K mainGlobals "all"=some none)
  (z_enumerate:PySem.W.nsIn K mainGlobals "enumerate"=some none)
  (z_int:PySem.W.nsIn K mainGlobals "int"=some none)
  (z_isinstance:PySem.W.nsIn K mainGlobals "isinstance"=some none)
  (z_len:PySem.W.nsIn K mainGlobals "len"=some none)
  (z_list:PySem.W.nsIn K mainGlobals "list"=some none)
  (z_max:PySem.W.nsIn K mainGlobals "max"=some none)
  (z_min:PySem.W.nsIn K mainGlobals "min"=some none)
  (z_range:PySem.W.nsIn K mainGlobals "range"=some none)
  (z_sorted:PySem.W.nsIn K mainGlobals "sorted"=some none)
  (z_str:PySem.W.nsIn K mainGlobals "str"=some none)
  (z_zip:PySem.W.nsIn K mainGlobals "zip"=some none)
  (g_CLOSED_SIGN:PySem.W.nsIn K mainGlobals "CLOSED_SIGN"=some (some (.str "?" t_CLOSED_SIGN)))
  (g_MOST_CLOSED:PySem.W.nsIn K mainGlobals "MOST_CLOSED"=some (some (.int 12 t_MOST_CLOSED)))
  (g_NO_CELL_SIGN:PySem.W.nsIn K mainGlobals "NO_CELL_SIGN"=some (some (.str "#" t_NO_CELL_SIGN)))
  (a_StoneError:PySem.W.nsIn K mainGlobals "StoneError"=some (some (.ref C_StoneError)))
  (x_StoneError:PySem.W.excIn K C_StoneError vmro "ValueError.__new__"=true)
  (a_TooGreat:PySem.W.nsIn K mainGlobals "TooGreat"=some (some (.ref C_TooGreat)))
  (x_TooGreat:PySem.W.excIn K C_TooGreat vmro "ValueError.__new__"=true)
  (a_NoLaying:PySem.W.nsIn K mainGlobals "NoLaying"=some (some (.ref C_NoLaying)))
  (x_NoLaying:PySem.W.excIn K C_NoLaying vmro "ValueError.__new__"=true)
  (a_NoBoard:PySem.W.nsIn K mainGlobals "NoBoard"=some (some (.ref C_NoBoard)))
  (x_NoBoard:PySem.W.excIn K C_NoBoard vmro "ValueError.__new__"=true)
  (a_NoCount:PySem.W.nsIn K mainGlobals "NoCount"=some (some (.ref C_NoCount)))
  (x_NoCount:PySem.W.excIn K C_NoCount vmro "ValueError.__new__"=true)
  (a_NoCell:PySem.W.nsIn K mainGlobals "NoCell"=some (some (.ref C_NoCell)))
  (x_NoCell:PySem.W.excIn K C_NoCell vmro "ValueError.__new__"=true)
  (a_NoText:PySem.W.nsIn K mainGlobals "NoText"=some (some (.ref C_NoText)))
  (x_NoText:PySem.W.excIn K C_NoText vmro "ValueError.__new__"=true)
  (a_NoRow:PySem.W.nsIn K mainGlobals "NoRow"=some (some (.ref C_NoRow)))
  (x_NoRow:PySem.W.excIn K C_NoRow vmro "ValueError.__new__"=true)
  (a_NoNumber:PySem.W.nsIn K mainGlobals "NoNumber"=some (some (.ref C_NoNumber)))
  (x_NoNumber:PySem.W.excIn K C_NoNumber vmro "ValueError.__new__"=true)
  (a_NoTable:PySem.W.nsIn K mainGlobals "NoTable"=some (some (.ref C_NoTable)))
  (x_NoTable:PySem.W.excIn K C_NoTable vmro "ValueError.__new__"=true)
  (y_FG_0:PySem.W.findIn K (.ref C_TooGreat) "__getattribute__"=some (some (.builtin "BaseException.__getattribute__")))
  (y_FG_1:PySem.W.findIn K (.ref C_TooGreat) "__getattr__"=some none)
  (y_FG_2:PySem.W.findIn K (.ref C_TooGreat) "__class__"=some (some (.builtin "object.__class__")))
  (y_FG_3:PySem.W.mroIn K C_TooGreat (.type "BaseException")=some true)
  (y_FG_4:PySem.W.mroIn K C_TooGreat (.type "object")=some true)
  (y_FG_5:PySem.W.isClsIn K C_TooGreat=true)
  (y_FG_6:PySem.W.mroIn K C_TooGreat (.ref C_StoneError)=some true)
  (y_FG_7:PySem.W.kitOne K (.ref C_TooGreat) (.ref C_TooGreat)=some true)
  (y_FG_8:PySem.W.kitOne K (.ref C_TooGreat) (.ref C_NoLaying)=some false)
  (y_FG_9:PySem.W.kitOne K (.ref C_TooGreat) (.ref C_NoBoard)=some false)
  (y_FG_10:PySem.W.kitOne K (.ref C_TooGreat) (.ref C_NoCount)=some false)
  (y_FG_11:PySem.W.kitOne K (.ref C_TooGreat) (.ref C_NoCell)=some false)
  (y_FG_12:PySem.W.kitOne K (.ref C_TooGreat) (.ref C_NoText)=some false)
  (y_FG_13:PySem.W.kitOne K (.ref C_TooGreat) (.ref C_NoRow)=some false)
  (y_FG_14:PySem.W.kitOne K (.ref C_TooGreat) (.ref C_NoNumber)=some false)
  (y_FG_15:PySem.W.kitOne K (.ref C_TooGreat) (.ref C_NoTable)=some false)
  (y_FG_16:PySem.W.kitOne K (.ref C_TooGreat) (.type "ValueError")=some true) :
  ∃ fd:FuncData,(∀ (s:Shared) (v:Value),BindsTo s fd ⟨[v],[]⟩ [("_law_script",v)])/\∀ base:Heap,K.In base->base.Ns mainGlobals mg->FnOk l.prog w K mg base CX0 8 fa fd ["_law_script"] (spLaw K):=by
 obtain ⟨f,oc,od,an,sl,kV,dc,pm,cd,ct,a,l0,c,k⟩:=h_law
 have e:=hfa.symm.trans (PySem.W.mg_of X G a)
 cases e
 have T:Txt mg:=⟨PySem.W.mg_none_of X G z_ValueError,PySem.W.mg_none_of X G z_abs,PySem.W.mg_none_of X G z_all,PySem.W.mg_none_of X G z_enumerate,PySem.W.mg_none_of X G z_int,PySem.W.mg_none_of X G z_isinstance,PySem.W.mg_none_of X G z_len,PySem.W.mg_none_of X G z_list,PySem.W.mg_none_of X G z_max,PySem.W.mg_none_of X G z_min,PySem.W.mg_none_of X G z_range,PySem.W.mg_none_of X G z_sorted,PySem.W.mg_none_of X G z_str,PySem.W.mg_none_of X G z_zip,⟨_,PySem.W.mg_of X G g_CLOSED_SIGN⟩,⟨_,PySem.W.mg_of X G g_MOST_CLOSED⟩,⟨_,PySem.W.mg_of X G g_NO_CELL_SIGN⟩⟩
 have Z:Prog K mg:=⟨h_closed.at X G (fun _ _ _ _ _ _=>us1 fun _=>rfl),h_open_cells.at X G (fun _ _ _ _ _ _=>us1 fun _=>rfl),h_around.at X G (fun _ _ _ _ _ _=>us2 fun _ _=>rfl),h_number_at.at X G (fun _ _ _ _ _ _=>us2 fun _ _=>rfl),h_cells_of.at X G (fun _ _ _ _ _ _=>us1 fun _=>rfl),h_sign_at.at X G (fun _ _ _ _ _ _=>us2 fun _ _=>rfl),h_layings.at X G (fun _ _ _ _ _ _=>us1 fun _=>rfl),h_numbers_told.at X G (fun _ _ _ _ _ _=>us1 fun _=>rfl),h_wrong_number.at X G (fun _ _ _ _ _ _=>us2 fun _ _=>rfl),h_picks.at X G (fun _ _ _ _ _ _=>us2 fun _ _=>rfl),h_law_cell_at.at X G (fun _ _ _ _ _ _=>us2 fun _ _=>rfl),h_law_classes.at X G (fun _ _ _ _ _ _=>us1 fun _=>rfl),h_law_told.at X G (fun _ _ _ _ _ _=>us1 fun _=>rfl),h_law_many.at X G (fun _ _ _ _ _ _=>us2 fun _ _=>rfl),h_law_rising.at X G (fun _ _ _ _ _ _=>us1 fun _=>rfl),h_law_text.at X G (fun _ _ _ _ _ _=>us1 fun _=>rfl),h_law_good.at X G (fun _ _ _ _ _ _=>us5 fun _ _ _ _ _=>rfl),h_law_near.at X G (fun _ _ _ _ _ _=>us2 fun _ _=>rfl)⟩
 have F:=fun_mk (st:=s_law) l0 c k
 have D:DefAt K mg "law" s_law ["_law_script"] _ _:=⟨F,PySem.W.mg_of X G a,F.binds (ps:=["_law_script"]) (fun _ _ _ _ _ _=>us1 fun _=>rfl)⟩
 have O_StoneError:ExCls K mg "StoneError" C_StoneError:=⟨PySem.W.mg_of X G a_StoneError,x_StoneError⟩
 have O_TooGreat:ExCls K mg "TooGreat" C_TooGreat:=⟨PySem.W.mg_of X G a_TooGreat,x_TooGreat⟩
 have O_NoLaying:ExCls K mg "NoLaying" C_NoLaying:=⟨PySem.W.mg_of X G a_NoLaying,x_NoLaying⟩
 have O_NoBoard:ExCls K mg "NoBoard" C_NoBoard:=⟨PySem.W.mg_of X G a_NoBoard,x_NoBoard⟩
 have O_NoCount:ExCls K mg "NoCount" C_NoCount:=⟨PySem.W.mg_of X G a_NoCount,x_NoCount⟩
 have O_NoCell:ExCls K mg "NoCell" C_NoCell:=⟨PySem.W.mg_of X G a_NoCell,x_NoCell⟩
 have O_NoText:ExCls K mg "NoText" C_NoText:=⟨PySem.W.mg_of X G a_NoText,x_NoText⟩
 have O_NoRow:ExCls K mg "NoRow" C_NoRow:=⟨PySem.W.mg_of X G a_NoRow,x_NoRow⟩
 have O_NoNumber:ExCls K mg "NoNumber" C_NoNumber:=⟨PySem.W.mg_of X G a_NoNumber,x_NoNumber⟩
 have O_NoTable:ExCls K mg "NoTable" C_NoTable:=⟨PySem.W.mg_of X G a_NoTable,x_NoTable⟩
 have FG:Facts K C_TooGreat C_StoneError C_TooGreat C_NoLaying C_NoBoard C_NoCount C_NoCell C_NoText C_NoRow C_NoNumber C_NoTable true false:=⟨⟨y_FG_0,y_FG_1,y_FG_2,y_FG_3,y_FG_4,y_FG_5⟩,y_FG_6,y_FG_7,y_FG_8,y_FG_9,y_FG_10,y_FG_11,y_FG_12,y_FG_13,y_FG_14,y_FG_15,y_FG_16⟩
 exact ⟨_,fun s v=>.of_eq rfl,fun base _ _=>ok_law T O_StoneError O_TooGreat O_NoLaying O_NoBoard O_NoCount O_NoCell O_NoText O_NoRow O_NoNumber O_NoTable FG Z D⟩
theorem walk {l:PySem.W.OpenLaw}{q:Program}{loose:List Str}{XP:(Str->Option Value)->Heap->Prop}{YP:World->Heap->Prop}{d:DefRec}{K:Params->PySem.W.Frag}(hn:l.most=some 63)(hdf:d.params.defaults=[])
  (hY:∀ (w:World) (h:Heap),YP w h->(K w.params).In h)
  (F:∀ (w:World) (mg:Str->Option Value) (fa:Addr) (h:Heap),(K w.params).In h->h.Ns mainGlobals mg->mg d.name=some (.ref fa) ->
   ∃ fd:FuncData,(∀ (s:Shared) (u:Value),BindsTo s fd ⟨[u],[]⟩ [("_law_script",u)])/\∀ base:Heap,(K w.params).In base->base.Ns mainGlobals mg->FnOk l.prog w (K w.params) mg base CX0 8 fa fd ["_law_script"] (spLaw (K w.params))) :
  PySem.W.WalkO q loose XP YP l.row.toRowW d [] (fun f vs=>PySem.call f vs) :=
 L2.walk_of (n:=63) (k:=8) (x:="_law_script") (CX:=fun _=>CX0) (sp:=fun w=>spLaw (K w.params)) hn (by decide) hdf ⟨rfl,by decide,by decide⟩ hY F (fun _ _ a ns hl _ hS=>⟨a,ns,rfl,hS,hl,fun _=>rfl⟩) fun _ _ _ _ _ z=>z
end K13
open PySem PySem.W PyProof.Rows
set_option maxRecDepth 100000 in
set_option maxHeartbeats 0 in
theorem PySem.Challenge.cw_stonelay_k13_too_many_closed_holds : PySem.Challenge.rw_stonelay_k13_too_many_closed.Holds := by
 refine K13E.early fun {q XP YP d K} hdf hY hn F=>?_
 refine K13.walk (l:=PySem.Challenge.rw_stonelay_k13_too_many_closed) rfl hdf hY fun w mg fa h KX G hmg=>?_
 rw [hn] at hmg
 obtain ⟨h_closed,h_open_cells,h_around,h_number_at,h_cells_of,h_sign_at,h_layings,h_numbers_told,h_wrong_number,h_picks,h_law_cell_at,h_law_classes,h_law_told,h_law_many,h_law_rising,h_law_text,h_law_good,h_law_near,h_law,z_ValueError,z_abs,z_all,z_enumerate,z_int,z_isinstance,z_len,z_list,z_max,z_min,z_range,z_sorted,z_str,z_zip,⟨_,g_CLOSED_SIGN⟩,⟨_,g_MOST_CLOSED⟩,⟨_,g_NO_CELL_SIGN⟩,⟨_,_,_,_,_,_,_,_,_,_,a_StoneError,a_TooGreat,a_NoLaying,a_NoBoard,a_NoCount,a_NoCell,a_NoText,a_NoRow,a_NoNumber,a_NoTable,x_StoneError,x_TooGreat,x_NoLaying,x_NoBoard,x_NoCount,x_NoCell,x_NoText,x_NoRow,x_NoNumber,x_NoTable,y_FG_0,y_FG_1,y_FG_2,y_FG_3,y_FG_4,y_FG_5,y_FG_6,y_FG_7,y_FG_8,y_FG_9,y_FG_10,y_FG_11,y_FG_12,y_FG_13,y_FG_14,y_FG_15,y_FG_16⟩⟩:=F w
 exact K13.all_mk KX G hmg h_closed h_open_cells h_around h_number_at h_cells_of h_sign_at h_layings h_numbers_told h_wrong_number h_picks h_law_cell_at h_law_classes h_law_told h_law_many h_law_rising h_law_text h_law_good h_law_near h_law z_ValueError z_abs z_all z_enumerate z_int z_isinstance z_len z_list z_max z_min z_range z_sorted z_str z_zip g_CLOSED_SIGN g_MOST_CLOSED g_NO_CELL_SIGN a_StoneError x_StoneError a_TooGreat x_TooGreat a_NoLaying x_NoLaying a_NoBoard x_NoBoard a_NoCount x_NoCount a_NoCell x_NoCell a_NoText x_NoText a_NoRow x_NoRow a_NoNumber x_NoNumber a_NoTable x_NoTable y_FG_0 y_FG_1 y_FG_2 y_FG_3 y_FG_4 y_FG_5 y_FG_6 y_FG_7 y_FG_8 y_FG_9 y_FG_10 y_FG_11 y_FG_12 y_FG_13 y_FG_14 y_FG_15 y_FG_16