import PyProof.Rows.All
import Wide.All
import OpenK.AllK
import Wide.FinOn
import Lean
import PyProof.EqAt
import PyProof.EqKinds
import PyProof.TupleCall
import PySem.Challenge.RW_stonelay_k32_whole_counted_by_all
set_option Elab.async false
set_option linter.all false
set_option maxRecDepth 100000
namespace zbE
open PySem PySem.W
noncomputable def sel:List Nat->Nat->List Stmt->List Stmt
 | _,_,[]=>[]
 | ns,i,x::xs=>match ns.contains i with
  | true=>sel ns (i+1) xs
  | false=>x::sel ns (i+1) xs
theorem ziS {r:OpenRow}{q:Program}{H:Hook}{d:DefRec}{kwd:List (PySem.Str×Expr)}{N:Nat}(left:LeftO r.prog q [] (fun s=>xlAt q [] s&&recOk (RowW.records r.toRowW) s) (Hook.obs H) (Hook.val H) N)
  (hdef:defOf q r.name=some (d,kwd)) (hp:r.prog.theDef r.name=some (d.params,d.body,d.scope)) (hk:kwWritten? d.params.kwonlyargs d.params.kw_defaults=some kwd) (hwr:(!r.writes || r.records.isEmpty)=true)
  (k1:r.wellSaid=true) (ok:(chainsOk q&&opensWell r.prog&&(frees r.toRowW&&r.within.isEmpty))=true) (hb:r.prog.bare) (hw:r.toRowW.promised)
  (call:WalkO q [] (XL q []) (Hook.says H) r.toRowW d kwd fun f vs=>PySem.call f vs):r.Holds :=
 holds_open (q:=q) (loose:=[]) (Xt:=fun s=>xlAt q [] s&&recOk (RowW.records r.toRowW) s) (XP:=XL q []) (Yf:=Hook.obs H) (Ya:=Hook.val H) (YP:=Hook.says H) (N:=N) left (Hook.of H) (Hook.keeps H) (fun s e=>xl_of s (Bool.and_eq_true_iff.mp e).1) XL.keeps hdef hp hk
  (fun s e=>recFacts_of (Bool.and_eq_true_iff.mp e).2) hwr k1 ok hb hw call
noncomputable def top (i:Nat):Stmt:=PySem.Challenge.pw_stonelay_k32_whole_counted_by_all.main.body.getD i (.Pass ⟨0,0,0,0⟩)
noncomputable def JI (s:Stmt):Arguments:=match s with
 | .FunctionDef _ a _ _ _ _ _ _ _ _=>a
 | _=>{ posonlyargs:=[],args:=[],vararg:=none,kwonlyargs:=[],kw_defaults:=[],kwarg:=none,defaults:=[] }
noncomputable def xX (s:Stmt):List Stmt:=match s with
 | .FunctionDef _ _ b _ _ _ _ _ _ _=>b
 | _=>[]
noncomputable def zg (s:Stmt):Scope:=match s with
 | .FunctionDef _ _ _ _ _ _ sc _ _ _=>sc
 | _=>{ kind:=.function,names:=[],isGenerator:=false,isCoroutine:=false }
def HD (K:PySem.W.Frag)(x:Str)(i:Nat):Prop:=∃(f:Addr) (oc:Value) (od an:Option Addr) (sl:Array (Option Value)) (kV dc pm cd ct:Value),PySem.W.nsIn K mainGlobals x=some (some (.ref f))/\K.lookup f=some ⟨oc,od,.func (PySem.W.fnOf x x (JI (top i)) (xX (top i)) (zg (top i)) .none kV dc pm an cd ct),sl⟩/\PySem.W.codeIn K cd x=true/\PySem.W.keepIn K (.ref f)=true
structure Facts (K:PySem.W.Frag):Prop where
 QG:HD K "closed" 6
 xY:HD K "open_cells" 7
 QH:HD K "around" 8
 JJ:HD K "number_at" 9
 ZF:HD K "cells_of" 10
 YI:HD K "sign_at" 11
 zbm:HD K "parts" 13
 QI:HD K "joined" 14
 zhT:HD K "far" 15
 xZ:HD K "numbers_of" 16
 x6:HD K "bare_wrong" 17
 ye:HD K "closed_around" 18
 yy:HD K "part_layings" 21
 ZG:HD K "needs_at" 22
 YJ:HD K "may_fit" 23
 yX:HD K "part_counts" 24
 YK:HD K "counted" 25
 x8:HD K "counted_at" 26
 YL:HD K "choices" 28
 QJ:HD K "poured" 29
 yY:HD K "near_counts" 31
 zbn:HD K "count" 32
 ZH:HD K "count_at" 33
 jY:HD K "counts_by_cell" 34
 x9:HD K "all_poured" 35
 zbo:HD K "dealt" 36
 yZ:HD K "_law_cell_at" 38
 JK:HD K "_law_whole" 39
 ZI:HD K "_law_near" 40
 JL:HD K "_law_signs" 41
 JM:HD K "_law_texts" 42
 YM:HD K "_law_dug" 43
 JN:HD K "_law_board" 44
 xg:HD K "_law_numbers" 45
 ZJ:HD K "_law_fits" 46
 xh:HD K "_law_choices" 47
 xj:HD K "_law_layings" 48
 Ja:HD K "_law_closed" 49
 YN:HD K "_law_one" 50
 zhU:HD K "law" 51
 zhV:PySem.W.nsIn K mainGlobals "any"=some none
 zef:PySem.W.nsIn K mainGlobals "bool"=some none
 zeg:PySem.W.nsIn K mainGlobals "dict"=some none
 QK:PySem.W.nsIn K mainGlobals "divmod"=some none
 JO:PySem.W.nsIn K mainGlobals "enumerate"=some none
 zhW:PySem.W.nsIn K mainGlobals "int"=some none
 Jb:PySem.W.nsIn K mainGlobals "isinstance"=some none
 zhX:PySem.W.nsIn K mainGlobals "len"=some none
 zeh:PySem.W.nsIn K mainGlobals "list"=some none
 zhY:PySem.W.nsIn K mainGlobals "max"=some none
 zhZ:PySem.W.nsIn K mainGlobals "min"=some none
 zbp:PySem.W.nsIn K mainGlobals "range"=some none
 zh0:PySem.W.nsIn K mainGlobals "set"=some none
 QL:PySem.W.nsIn K mainGlobals "sorted"=some none
 zh1:PySem.W.nsIn K mainGlobals "str"=some none
 zh2:PySem.W.nsIn K mainGlobals "sum"=some none
 zh3:PySem.W.nsIn K mainGlobals "zip"=some none
 xo:∃t,PySem.W.nsIn K mainGlobals "CLOSED_SIGN"=some (some (.str "?" t))
 yC:∃t,PySem.W.nsIn K mainGlobals "MOST_OF_PART"=some (some (.int 14 t))
 yD:∃t,PySem.W.nsIn K mainGlobals "NO_CELL_SIGN"=some (some (.str "#" t))
end zbE
noncomputable def zbE.view:PySem.Program:={ PySem.Challenge.rw_stonelay_k32_whole_counted_by_all.prog with main:={ PySem.Challenge.rw_stonelay_k32_whole_counted_by_all.prog.main with body:=zbE.sel [0,3,12,19,27,30,37] 0 PySem.Challenge.rw_stonelay_k32_whole_counted_by_all.prog.main.body } }
local macro_rules | `(tactic| o_head $H)=>`(tactic| (refine' zbE.ziS (q:=zbE.view) (H:=$H) (N:=3408) (fun _=>by kernel_rfl) (by rfl) (by rfl) (by rfl) (by rfl) (by first | assumption | decide +kernel) (by decide +kernel) ⟨rfl,rfl,rfl,rfl,rfl,by decide +kernel⟩ ?_ ?_))
open PySem PySem.W PyProof.Rows in
set_option maxRecDepth 100000 in
set_option maxHeartbeats 0 in
theorem zbE.look:PySem.Challenge.rw_stonelay_k32_whole_counted_by_all.wellSaid=true:=by kernel_rfl
open PySem PySem.W PyProof.Rows in
set_option maxRecDepth 100000 in
set_option maxHeartbeats 0 in
theorem zbE.early (h:∀{q:Program} {XP:(Str->Option Value)->Heap->Prop} {YP:World->Heap->Prop} {d:DefRec} {K:Params->PySem.W.Frag},d.params.defaults=[]->(∀(w:World) (h:Heap),YP w h->(K w.params).In h)->d.name="law"->(∀w:World,zbE.Facts (K w.params))->PySem.W.WalkO q [] XP YP PySem.Challenge.rw_stonelay_k32_whole_counted_by_all.row.toRowW d [] (fun f vs=>PySem.call f vs)):PySem.Challenge.rw_stonelay_k32_whole_counted_by_all.Holds:=by
 w_on;refine holds_law zbE.look fun said=>?_
 k_head;w_witness2
 k_fill
 refine h rfl (fun w h Y=>PySem.W.kIn_of Y) rfl fun w=>?_
 constructor
 all_goals first | k_is | exact⟨_,_,_,_,_,_,_,_,_,_,by k_is,by k_is,by k_is,by k_is⟩ | exact⟨_,by k_is⟩
open List (length_map mem_of_getElem? length_append getElem?_eq_getElem mem_cons_self mem_cons_of_mem length_take map_cons take_length length_cons size_toArray take_add_one map_append getElem?_map append_nil map_map length_range mem_append_right map_congr_left replicate filter_append append_assoc countP_cons getD_eq_getElem?_getD length_filter_le flatten_cons mem_append_left filter_cons flatten_append take_append_drop take_of_length_le foldl_cons drop_eq_getElem_cons filter_sublist length_drop mem_of_mem_take not_mem_nil lookup_cons countP_congr any_map range_succ length_nil getElem?_append_left replicate_succ filter_congr countP_append filterMap_cons take_sublist find?_cons map_take filter_map map_id any_cons getElem_mem ext_getElem? nodup_nil)
open Nat (le_trans le_refl ne_of_lt zero_le lt_of_le_of_lt lt_of_lt_of_le lt_succ_of_lt le_succ zero_add lt_irrefl ne_of_gt succ_ne_self pow_succ pow_le_pow_right add_comm mod_lt mul_comm sub_self lt_or_ge succ_pos add_zero mul_le_mul)
open Array (length_toList getElem?_toList toList_append getElem?_eq_none size_map toList_map toList_reverse size_reverse size_extract getElem_toList toList_push)
open Int (toNat_natCast le_of_lt toNat_of_nonneg natCast_mul)
open Bool (not_eq_true' false_eq_true and_eq_true)
open Option (map_some getD_some)
noncomputable section
namespace L2
open PySem PySem.Spec PyProof.Rows
abbrev Key:=Sum Int Str
noncomputable def zdl:Key->Value->Bool
 | .inl k,v=>Value.isInt k v
 | .inr x,v=>Value.isStrOf x v
noncomputable def zm6 (w:World):Key->Int
 | .inl k=>hashInt k
 | .inr x=>hashStr w x
theorem jb:∀{k:Key} {v:Value},zdl k v=true->(∃i t,k=Sum.inl i/\v=Value.int i t)\/(∃x t,k=Sum.inr x/\v=Value.str x t)
 | .inl i,v,h=>by
  obtain⟨t,e⟩:=Value.isInt_shape (k:=i) (v:=v) h
  exact .inl ⟨i,t,rfl,e⟩
 | .inr x,v,h=>by
  obtain⟨t,e⟩:=Value.isStrOf_shape (x:=x) (v:=v) h
  exact .inr ⟨x,t,rfl,e⟩
theorem zay (i:Int)(t:Tok):zdl (.inl i) (.int i t)=true:=by simp [zdl,Value.isInt]
theorem ziT (x:Str)(t:Tok):zdl (.inr x) (.str x t)=true:=by simp [zdl,Value.isStrOf]
theorem zm7 (a b:Int):decide ((Sum.inl a:Key)=Sum.inl b)=(a==b):=by
 by_cases e:a=b
 ·subst e;simp
 ·have h:¬ (Sum.inl a:Key)=Sum.inl b:=fun q=>e (Sum.inl.inj q)
  rw [decide_eq_false h]
  exact(beq_eq_false_iff_ne.mpr e).symm
theorem zm8 (a b:Str):decide ((Sum.inr a:Key)=Sum.inr b)=decide (a=b):=by
 by_cases e:a=b
 ·subst e;simp
 ·have h:¬ (Sum.inr a:Key)=Sum.inr b:=fun q=>e (Sum.inr.inj q)
  rw [decide_eq_false h,decide_eq_false e]
theorem zm9 (a:Int)(b:Str):decide ((Sum.inl a:Key)=Sum.inr b)=false:=decide_eq_false (fun q=>nomatch q)
theorem zna (a:Str)(b:Int):decide ((Sum.inr a:Key)=Sum.inl b)=false:=decide_eq_false (fun q=>nomatch q)
noncomputable def zY (prog:Program)(w:World):PySem.KeyKind prog w Key where
 is:=zdl
 hash:=zm6 w
 inj:=fun v a b ha hb=>by
  rcases jb ha with ⟨i,t,rfl,rfl⟩ | ⟨x,t,rfl,rfl⟩
  ·rcases jb hb with ⟨j,u,rfl,e⟩ | ⟨y,u,rfl,e⟩
   ·injection e with e1 _;rw [e1]
   ·exact nomatch e
  ·rcases jb hb with ⟨j,u,rfl,e⟩ | ⟨y,u,rfl,e⟩
   ·exact nomatch e
   ·injection e with e1 _;rw [e1]
 byValue:=fun k v h=>by
  rcases jb h with ⟨i,t,rfl,rfl⟩ | ⟨x,t,rfl,rfl⟩<;>rfl
 pyHash:=fun hv h=>by
  rcases jb hv with ⟨i,t,rfl,rfl⟩ | ⟨x,t,rfl,rfl⟩
  ·exact wpAny_pyHash_int h
  ·exact wpAny_pyHash_str h
 eqBool:=fun hu hv h=>by
  rcases jb hu with ⟨i,t,rfl,rfl⟩ | ⟨x,t,rfl,rfl⟩
  ·rcases jb hv with ⟨j,u,rfl,rfl⟩ | ⟨y,u,rfl,rfl⟩
   ·rw [zm7] at h;exact wpAny_eqBool_int h
   ·rw [zm9] at h;exact SeqAt.EqAt.int_str i t y u _ _ _ _ h
  ·rcases jb hv with ⟨j,u,rfl,rfl⟩ | ⟨y,u,rfl,rfl⟩
   ·rw [zna] at h;exact SeqAt.EqAt.str_int x t j u _ _ _ _ h
   ·rw [zm8] at h;exact wpAny_eqBool_str h
 «strs»:=fun k x t v h=>by
  rcases jb h with ⟨i,u,rfl,e⟩ | ⟨y,u,rfl,e⟩
  ·exact nomatch e
  ·injection e with e1 _
   subst e1
   cases v<;>rfl
theorem zfd (prog:Program)(w:World)(i:Int)(t:Tok):(zY prog w).is (.inl i) (.int i t)=true:=zay i t
theorem zfe (prog:Program)(w:World)(x:Str)(t:Tok):(zY prog w).is (.inr x) (.str x t)=true:=ziT x t
inductive V where
 | non | bl (b:Bool) | int (i:Int) | str (x:Str) | byt (b:Array UInt8) | flt (b:UInt64) | ref (a:Addr) | ty (n:String)
 deriving DecidableEq
def RelV:V->Value->Prop
 | .non,u=>u=Value.none
 | .bl b,u=>u=Value.bool b
 | .int i,u=>∃t,u=Value.int i t
 | .str x,u=>∃t,u=Value.str x t
 | .byt b,u=>∃t,u=Value.bytes b t
 | .flt b,u=>∃t,u=Value.float b t
 | .ref a,u=>u=Value.ref a
 | .ty n,u=>u=Value.type n
abbrev Vals:List V->List Value->Prop:=Paired RelV
theorem Vals.length {xs:List V}{us:List Value}(r:Vals xs us):xs.length=us.length:=Paired.length r
theorem Vals.get:∀{xs:List V} {us:List Value} {i:Nat} {x:V},Vals xs us->xs[i]?=some x->∃u,us[i]?=some u/\RelV x u
 | _,_,_,_,.nil,e=>by simp at e
 | _,_,0,_,.cons r _,e=>by simp at e;subst e;exact⟨_,rfl,r⟩
 | _,_,i+1,x,.cons _ t,e=>by
  obtain⟨u,h1,h2⟩:=Vals.get (i:=i) (x:=x) t (by simpa using e)
  exact⟨u,by simpa using h1,h2⟩
theorem Vals.set {x:V}{u:Value}(r:RelV x u):∀{xs:List V} {us:List Value} (i:Nat),Vals xs us->Vals (xs.set i x) (us.set i u)
 | _,_,_,.nil=>.nil
 | _,_,0,.cons _ t=>.cons r t
 | _,_,i+1,.cons q t=>.cons q (Vals.set r i t)
theorem Vals.append:∀{xs ys:List V} {us ws:List Value},Vals xs us->Vals ys ws->Vals (xs++ys) (us++ws)
 | _,_,_,_,.nil,s=>s
 | _,_,_,_,.cons r t,s=>.cons r (Vals.append t s)
theorem Vals.take:∀{xs:List V} {us:List Value} (n:Nat),Vals xs us->Vals (xs.take n) (us.take n)
 | _,_,0,_=>.nil
 | _,_,_+1,.nil=>.nil
 | _,_,n+1,.cons r t=>.cons r (Vals.take n t)
theorem Vals.drop:∀{xs:List V} {us:List Value} (n:Nat),Vals xs us->Vals (xs.drop n) (us.drop n)
 | _,_,0,r=>r
 | _,_,_+1,.nil=>.nil
 | _,_,n+1,.cons _ t=>Vals.drop n t
def zbF:Option V->Option Value->Prop
 | some v,some u=>RelV v u
 | none,none=>True
 | _,_=>False
def KV {κ:Type}:List (κ × V)->List (κ × Value)->Prop:=Paired fun (p:κ × V) (q:κ × Value)=>p.1=q.1/\RelV p.2 q.2
noncomputable def kV:Key->V
 | .inl i=>.int i
 | .inr x=>.str x
inductive HO where
  | lst (xs:List V)
  | tup (xs:List V)
  | dK (kvs:List (Key×V)) | dT (kvs:List (List Key×V))
  | set (S:Int->Bool) (n:Nat)
  | ins (C dx:Addr) (fs:List (Str×V))
  | own (x:Addr)
  | xd (fs:List (Str×V))
  | met (f x:Addr)
  | rng (lo hi:Int)
  | frz (o:Obj) (u:HO)
  | tbl (ps:Array Value)
  | ext (φ:Heap->Prop)
abbrev Hp:=Addr->Option HO
noncomputable def upd (H:Hp)(a:Addr)(o:HO):Hp:=fun b=>if b=a then some o else H b
theorem zc {H:Hp}{a:Addr}{o:HO}:upd H a o a=some o:=by unfold upd;rw [if_pos rfl]
theorem zj {H:Hp}{a b:Addr}{o:HO}(h:b≠a):upd H a o b=H b:=by unfold upd;rw [if_neg h]
theorem zff {H:Hp}{a b:Addr}{o u:HO}(h:H a=some o)(h':H b=some u)(d:o≠u):a≠b:=by
 intro e;subst e;rw [h] at h';exact d (Option.some.inj h')
theorem zh {H:Hp}{a b:Addr}{o:HO}(h:H a=some o)(h':H b=none):a≠b:=by
 intro e;subst e;rw [h] at h';cases h'
section
variable (P:Program)(w:World)
def jc (H:Hp)(h:Heap)(a:Addr):HO->Prop
 | .lst xs=>xs.length<=sizeLine/\∃(its:List Value) (n:Nat),Vals xs its/\h.get? a=some { cls:=.type "list",data:=.seq its.toArray n }
 | .tup xs=>xs.length<=sizeLine/\∃its:List Value,Vals xs its/\IsTup h a its.toArray
 | .dK kvs=>kvs.length<=sizeLine/\(a==sysModules)=false/\∃vs,KV kvs vs/\h.DictOf (zY P w) a vs
 | .dT kvs=>kvs.length<=sizeLine/\(a==sysModules)=false/\∃xs:List (List Key×Addr×Value),
   Paired (fun (p:List Key×V) (q:List Key×Addr×Value)=>p.1=q.1/\H q.2.1=some (.tup (p.1.map kV))/\RelV p.2 q.2.2) kvs xs /\
   ∃o es ep,h.get? a=some o/\o.ExactDict/\o.data=.dict es ep/\es.toList=xs.map (entryOfKey (tupleKind (zY P w)))/\(xs.map (·.1)).Nodup
 | .set S n=>h.SetOf (intKind P w) a S n
 | .ins C dx fs=>H dx=some (.own a)/\fs.length<=1000/\dx≠a/\h.get? a=some (PySem.W.instObj C dx) /\
   ∃mA,h.Ns1 dx mA/\(∀f,zbF (fs.lookup f) (mA f))/\PySem.Within mA (fs.map (·.1))
 | .own _=>∃o,h.get? a=some o
 | .xd fs=>∃mA,h.Ns1 a mA/\∀f,zbF (fs.lookup f) (mA f)
 | .rng lo hi=>∃t u v,h.get? a=some { cls:=.type "range",data:=.fields #[.int lo t,.int hi u,.int 1 v] }
 | .frz o u=>h.get? a=some o/\jc H h a u
 | .tbl ps=>h.get? a=some { cls:=.none,data:=.fields ps }
 | .met f x=>h.get? a=some (PySem.W.methodObj (.ref f) (.ref x))
 | .ext φ=>φ h/\(∃o,h.get? a=some o)/\∀h1 h2:Heap,φ h1->(∀o,h1.get? a=some o->h2.get? a=some o)->φ h2
def HOk (H:Hp)(h:Heap):Prop:=∀a o,H a=some o->jc P w H h a o
end
section
variable {P:Program}{w:World}{H H':Hp}{h h':Heap}{a:Addr}{o:HO}
theorem jc.lt (x:jc P w H h a o):a<h.objs.size:=by
 cases o with
 | lst xs=>obtain⟨_,_,_,_,e⟩:=x;exact Heap.lt_size e
 | tup xs=>obtain⟨_,_,_,p⟩:=x;exact p.lt
 | dK kvs=>obtain⟨_,_,_,_,o,_,_,e,_⟩:=x;exact Heap.lt_size e
 | dT kvs=>obtain⟨_,_,_,_,o,_,_,e,_⟩:=x;exact Heap.lt_size e
 | set S n=>obtain⟨o,_,_,_,e,_⟩:=x;exact Heap.lt_size e
 | ins C dx fs=>obtain⟨_,_,_,e,_⟩:=x;exact Heap.lt_size e
 | own y=>obtain⟨_,e⟩:=x;exact Heap.lt_size e
 | xd fs=>obtain⟨_,⟨_,_,_,e,_⟩,_⟩:=x;exact Heap.lt_size e
 | rng lo hi=>obtain⟨_,_,_,e⟩:=x;exact Heap.lt_size e
 | frz ob u=>obtain⟨e,_⟩:=x;exact Heap.lt_size e
 | tbl ps=>exact Heap.lt_size (show h.get? a=some _ from x)
 | met f y=>exact Heap.lt_size (show h.get? a=some _ from x)
 | ext φ=>obtain⟨_,⟨_,e⟩,_⟩:=x;exact Heap.lt_size e
theorem Paired.mapP {α β:Type}{F G:α->β->Prop}:∀{l₁:List α} {l₂:List β},Paired F l₁ l₂->(∀a b,F a b->G a b)->Paired G l₁ l₂
 | _,_,.nil,_=>.nil
 | _,_,.cons r t,f=>.cons (f _ _ r) (Paired.mapP t f)
theorem jc.stay (x:jc P w H h a o)(k:∀b u,(b=a\/H b=some (.own a))->h.get? b=some u->h'.get? b=some u)
  (ho:∀b,H b=some (.own a)->H' b=some (.own a)) (ht:∀b xs,H b=some (.tup xs)->H' b=some (.tup xs)):jc P w H' h' a o:=by
 induction o with
 | lst xs=>obtain⟨z,its,n,r,e⟩:=x;exact⟨z,its,n,r,k _ _ (.inl rfl) e⟩
 | tup xs=>obtain⟨z,its,r,ob,e,c⟩:=x;exact⟨z,its,r,ob,k _ _ (.inl rfl) e,c⟩
 | dK kvs=>obtain⟨z,y,vs,r,ob,es,ep,e,c⟩:=x;exact⟨z,y,vs,r,ob,es,ep,k _ _ (.inl rfl) e,c⟩
 | dT kvs =>
  obtain⟨z,y,xs,r,ob,es,ep,e,c⟩:=x
  exact⟨z,y,xs,Paired.mapP r fun p q z=>⟨z.1,ht _ _ z.2.1,z.2.2⟩,ob,es,ep,k _ _ (.inl rfl) e,c⟩
 | set S n=>obtain⟨ob,es,ep,t,e,c⟩:=x;exact⟨ob,es,ep,t,k _ _ (.inl rfl) e,c⟩
 | ins C dx fs =>
  obtain⟨d,z,ne,e,mA,⟨od,es,ep,e2,c⟩,r⟩:=x
  exact⟨ho _ d,z,ne,k _ _ (.inl rfl) e,mA,⟨od,es,ep,k _ _ (.inr d) e2,c⟩,r⟩
 | own y=>obtain⟨ob,e⟩:=x;exact⟨ob,k _ _ (.inl rfl) e⟩
 | xd fs=>obtain⟨mA,⟨od,es,ep,e,c⟩,r⟩:=x;exact⟨mA,⟨od,es,ep,k _ _ (.inl rfl) e,c⟩,r⟩
 | rng lo hi=>obtain⟨t,u,v,e⟩:=x;exact⟨t,u,v,k _ _ (.inl rfl) e⟩
 | frz ob u ih=>obtain⟨e,q⟩:=x;exact⟨k _ _ (.inl rfl) e,ih q⟩
 | tbl ps =>
  have e:h.get? a=some { cls:=.none,data:=.fields ps }:=x
  show h'.get? a=some { cls:=.none,data:=.fields ps }
  exact k a _ (.inl rfl) e
 | met f y =>
  have e:h.get? a=some (PySem.W.methodObj (.ref f) (.ref y)):=x
  show h'.get? a=some (PySem.W.methodObj (.ref f) (.ref y))
  exact k a _ (.inl rfl) e
 | ext φ=>obtain⟨p,⟨o,e⟩,st⟩:=x;exact⟨st _ _ p fun o q=>k _ _ (.inl rfl) q,⟨o,k _ _ (.inl rfl) e⟩,st⟩
theorem HOk.lt (x:HOk P w H h)(e:H a=some o):a<h.objs.size:=(x a o e).lt
theorem HOk.fresh (x:HOk P w H h)(e:h.objs.size<=a):H a=none:=by
 cases q:H a with
 | none=>rfl
 | some u=>exact absurd (lt_of_lt_of_le (x.lt q) e) (lt_irrefl _)
theorem HOk.kept (x:HOk P w H h)(k:∀b u,h.get? b=some u->h'.get? b=some u):HOk P w H h':=fun a o e =>
 (x a o e).stay (fun b u _ q=>k b u q) (fun _ q=>q) fun _ _ q=>q
theorem HOk.laid (x:HOk P w H h)(k:∀b u,h.get? b=some u->h'.get? b=some u)(hp:h.objs.size<=a)(new:jc P w (upd H a o) h' a o):HOk P w (upd H a o) h':=fun b u e=>by
 have hn:=x.fresh hp
 by_cases hb:b=a
 ·subst hb;rw [zc] at e;cases e;exact new
 ·rw [zj hb] at e
  exact(x b u e).stay (fun c v _ q=>k c v q) (fun c q=>by rw [zj (zh q hn)];exact q) fun c xs q=>by rw [zj (zh q hn)];exact q
end
def Rd (H:Hp)(a:Addr)(u:HO):Prop:=H a=some u\/∃o,H a=some (.frz o u)
theorem Rd.ok {P:Program}{w:World}{H:Hp}{h:Heap}{a:Addr}{u:HO}(r:Rd H a u)(x:HOk P w H h):jc P w H h a u:=by
 rcases r with r | ⟨o,r⟩
 ·exact x a u r
 ·obtain⟨_,q⟩:=x a _ r
  exact q
def Mut:Option HO->Prop
 | some (.lst _)=>True
 | some (.dK _)=>True
 | some (.dT _)=>True
 | some (.set _ _)=>True
 | some (.ins _ _ _)=>True
 | some (.ext _)=>True
 | _=>False
section
variable {P:Program}{w:World}{H:Hp}{h h':Heap}{x e:Addr}{o':HO}
theorem HOk.write (ok:HOk P w H h)(mu:Mut (H x))(he:e=x\/H e=some (.own x))(k:∀b u,b≠e->h.get? b=some u->h'.get? b=some u)(heo:∃u,h'.get? e=some u)
  (new:jc P w (upd H x o') h' x o'):HOk P w (upd H x o') h':=fun b u q=>by
 have nown:∀c y,H c=some (.own y)->c≠x:=fun c y r z=>by subst z;rw [r] at mu;exact mu
 have ntup:∀c xs,H c=some (.tup xs)->c≠x:=fun c xs r z=>by subst z;rw [r] at mu;exact mu
 by_cases hb:b=x
 ·subst hb;rw [zc] at q;cases q;exact new
 ·rw [zj hb] at q
  by_cases hbe:b=e
  ·have q':H b=some (.own x):=by
    rcases he with z | z
    ·exact absurd (hbe.trans z) hb
    ·rw [hbe];exact z
   rw [q] at q';cases q'
   obtain⟨v,hv⟩:=heo
   exact⟨v,by rw [hbe];exact hv⟩
  ·refine(ok b u q).stay (fun c v hc r=>k c v ?_ r) (fun c r=>by rw [zj (nown c b r)];exact r) fun c xs r=>by rw [zj (ntup c xs r)];exact r
   rcases hc with rfl | hc
   ·exact hbe
   ·rintro rfl
    rcases he with z | z
    ·exact nown c b hc z
    ·rw [hc] at z;cases z;exact hb rfl
end
structure Un (fs ex:List Addr)(H H':Hp)(h h':Heap):Prop where
 keep:∀b o,h.get? b=some o->H b=none->b ∉ fs->b ∉ ex->h'.get? b=some o
 slot:∀b o,h.get? b=some o->H b=none->b∈fs->b ∉ ex->∃sl,h'.get? b=some { o with slots:=sl }
 free:∀b o,h.get? b=some o->H b=none->b ∉ ex->H' b=none
 there:∀b o,h.get? b=some o->b ∉ ex->∃o',h'.get? b=some o'
 tups:∀b xs,H b=some (.tup xs)->H' b=some (.tup xs)
 frzs:∀b o u,H b=some (.frz o u)->H' b=some (.frz o u)
 tbls:∀b ps,H b=some (.tbl ps)->∃more,H' b=some (.tbl (ps++more))
section
variable {fs fs' ex ex':List Addr}{H H1 H2:Hp}{h h1 h2 h':Heap}{a x e:Addr}{o:HO}
theorem Un.any (u:Un fs ex H H1 h h1){b:Addr}{ob:Obj}(q:h.get? b=some ob)(n:H b=none)(hx:b ∉ ex):∃sl,h1.get? b=some { ob with slots:=sl }:=by
 by_cases hb:b∈fs
 ·exact u.slot b ob q n hb hx
 ·exact⟨ob.slots,u.keep b ob q n hb hx⟩
theorem Un.kept (k:∀b u,h.get? b=some u->h'.get? b=some u):Un fs ex H H h h' :=
 ⟨fun b ob q _ _ _=>k b ob q,fun b ob q _ _ _=>⟨ob.slots,k b ob q⟩,fun _ _ _ n _=>n,fun b ob q _=>⟨ob,k b ob q⟩,fun _ _ q=>q,fun _ _ _ q=>q,fun _ ps q=>⟨#[],by rw [q];simp⟩⟩
theorem Un.refl:Un fs ex H H h h:=Un.kept fun _ _ q=>q
theorem Un.laid (k:∀b u,h.get? b=some u->h'.get? b=some u)(hp:h.objs.size<=a)(hn:H a=none):Un fs ex H (upd H a o) h h' where
 keep:=fun b u q _ _ _=>k b u q
 slot:=fun b u q _ _ _=>⟨u.slots,k b u q⟩
 free:=fun b u q n _=>by rw [zj (ne_of_lt (lt_of_lt_of_le (Heap.lt_size q) hp))];exact n
 there:=fun b u q _=>⟨u,k b u q⟩
 tups:=fun b xs q=>by rw [zj (zh q hn)];exact q
 frzs:=fun b u xs q=>by rw [zj (zh q hn)];exact q
 tbls:=fun b ps q=>⟨#[],by rw [zj (zh q hn),q];simp⟩
theorem Un.write (mu:Mut (H x))(he:e=x\/H e=some (.own x))(k:∀b u,b≠e->h.get? b=some u->h'.get? b=some u)(heo:∃u,h'.get? e=some u):Un fs ex H (upd H x o) h h':=by
 have hx:∀b,H b=none->b≠x:=fun b n z=>by subst z;rw [n] at mu;exact mu
 have hb:∀b,H b=none->b≠e:=fun b n z=>by
  subst z
  rcases he with r | r
  ·exact hx b n r
  ·rw [n] at r;cases r
 have hm:∀b u,H b=some u->¬ Mut (some u)->b≠x:=fun b u q nm z=>by subst z;rw [q] at mu;exact nm mu
 refine⟨fun b u q n _ _=>k b u (hb b n) q,fun b u q n _ _=>⟨u.slots,k b u (hb b n) q⟩,fun b u q n _=>by rw [zj (hx b n)];exact n,fun b u q _=>?_,
  fun b xs q=>by rw [zj (hm b _ q fun z=>z)];exact q,fun b u xs q=>by rw [zj (hm b _ q fun z=>z)];exact q,fun b ps q=>⟨#[],by rw [zj (hm b _ q fun z=>z),q];simp⟩⟩
 by_cases hbe:b=e
 ·subst hbe;exact heo
 ·exact⟨u,k b u hbe q⟩
end
noncomputable def trk (h:Heap)(H:Hp):List Addr:=(List.range h.objs.size).filter fun a=>(H a).isSome
noncomputable def zei (h:Heap)(H:Hp):Heap:=PySem.W.hideAll h (trk h H)
theorem ziU (h:Heap)(H:Hp):(zei h H).objs.size=h.objs.size:=PySem.W.hideAll_size _ _
theorem zj1 {h:Heap}{H:Hp}{b:Addr}{o:Obj}(e:h.get? b=some o)(n:H b=none):(zei h H).get? b=some o :=
 PySem.W.hideAll_get _ e fun hm=>by
  have q:(H b).isSome=true:=(List.mem_filter.mp hm).2
  rw [n] at q;simp at q
theorem zlR {h:Heap}{H:Hp}{b:Addr}{o:Obj}(e:(zei h H).get? b=some o):h.get? b=some o/\H b=none:=by
 have e':h.get? b=some o:=PySem.W.of_hideAll (trk h H) e
 refine⟨e',?_⟩
 cases q:H b with
 | none=>rfl
 | some x =>
  have hm:b∈trk h H:=List.mem_filter.mpr ⟨List.mem_range.mpr (Heap.lt_size e'),by simp [q]⟩
  have z:(zei h H).get? b=none:=PySem.W.hideAll_none (trk h H) hm
  rw [z] at e;cases e
structure Mod (K:PySem.W.Frag)(mg:Str->Option Value)(base:Heap):Prop where
 kin:K.In base
 glob:base.Ns mainGlobals mg
 blt:∃mb,base.Ns builtinsNs mb/\∀x:Str,x ≠ "__name__"->mb x=bootBuiltins x
 nolimit:base.NoLimit
structure Cx where
 prog:Program
 w:World
 K:PySem.W.Frag
 mg:Str->Option Value
 base:Heap
 A:Around
 N:List Str
 s₀:Shared
 H₀:Hp
 env:Env
 outer:List Env
 stack:List Env
 ex:List Addr
 fn:Str->Bool
 calm:Bool
 pn:List (Addr×Obj)
 xe:Value->Shared->Prop
noncomputable def frs (l:List Env):List Addr:=l.filterMap (·.frame)
abbrev Cx.fs (X:Cx):List Addr:=frs X.outer
def Vis (sc:Scope)(x:Str):Prop:=sc.names.lookup x=some .local\/sc.names.lookup x=some .cell\/sc.names.lookup x=some .free
def Loc (sc:Scope)(x:Str):Prop:=sc.names.lookup x=some .local\/sc.names.lookup x=some .cell
def Look (env:Env)(h:Heap)(m:Str->Option Value)(x:Str)(u:Value):Prop :=
 (env.kindOf x=some .local/\m x=some u)\/((env.kindOf x=some .cell\/env.kindOf x=some .free)/\∃c,env.cells.lookup x=some c/\h.IsCell c (some u))
structure Cx.Ok (X:Cx):Prop where
 mod:Mod X.K X.mg X.base
 kind:X.env.scope.kind=.function
 glob:X.env.globals=mainGlobals
 blt:X.env.builtins=builtinsNs
 above:X.s₀.heap.objs.size<=X.env.locals
 inj:∀x y c,X.env.cells.lookup x=some c->X.env.cells.lookup y=some c->x=y
 has:∀x,(X.env.kindOf x=some .cell\/X.env.kindOf x=some .free)->∃c,X.env.cells.lookup x=some c
 cab:∀x c,X.fn x=true->X.env.cells.lookup x=some c->X.s₀.heap.objs.size<=c
 hd:X.calm=true->X.A.handled=none
 frames:X.A.frames=some X.stack
 stk:X.stack=X.outer\/(X.stack=X.env::X.outer/\X.env.frame=some X.env.locals)
 exf:∀b∈X.ex,b≠X.env.locals/\∀x c,X.env.cells.lookup x=some c->c≠b
 bs:∀b o,X.base.get? b=some o->X.s₀.heap.get? b=some o/\X.H₀ b=none
 bsz:X.base.objs.size<=X.s₀.heap.objs.size
 noex:∀b o,X.base.get? b=some o->b ∉ X.ex
 exfs:∀b∈X.ex,b ∉ X.fs
 funs:X.s₀.heap.FunFrames X.base X.outer
 frf:∀b∈X.fs,X.H₀ b=none
structure Inv (X:Cx)(pins:List (Addr×Obj))(σ:List (Option V))(H:Hp)(s:Shared):Prop where
 ok:X.Ok
 os:s.os=X.s₀.os
 bare:AllBare s.gens
 base:Un X.fs X.ex X.H₀ H X.s₀.heap s.heap
 loc:∃m,s.heap.Ns X.env.locals m/\∀(i:Nat) (x:Str) (v:V),X.N[i]?=some x->σ[i]?=some (some v)->Vis X.env.scope x->∃u,RelV v u/\Look X.env s.heap m x u
 cell:∀x c,X.env.cells.lookup x=some c->∃v,s.heap.IsCell c v
 free:H X.env.locals=none
 freeC:∀x c,X.env.cells.lookup x=some c->H c=none
 pin:∀p∈X.pn++pins,s.heap.get? p.1=some p.2/\H p.1=none/\p.1≠X.env.locals/\p.1 ∉ X.fs/\∀v,p.2.data ≠ .cell v
 hok:HOk X.prog X.w H s.heap
 len:σ.length=X.N.length
section
variable {X:Cx}{pins:List (Addr×Obj)}{σ:List (Option V)}{H H':Hp}{s:Shared}{h':Heap}
theorem Cx.Ok.nofr (ok:X.Ok){b:Addr}{o:Obj}(e:X.base.get? b=some o):b ∉ X.fs:=fun hb=>by
 have:=(ok.funs.mem hb).1
 rw [e] at this;cases this
theorem Inv.bs (I:Inv X pins σ H s):∀b o,X.base.get? b=some o->s.heap.get? b=some o/\H b=none:=fun b o e =>
 ⟨I.base.keep b o (I.ok.bs b o e).1 (I.ok.bs b o e).2 (I.ok.nofr e) (I.ok.noex b o e),I.base.free b o (I.ok.bs b o e).1 (I.ok.bs b o e).2 (I.ok.noex b o e)⟩
theorem Inv.bk (I:Inv X pins σ H s):∀b o,X.base.get? b=some o->s.heap.get? b=some o:=fun b o e=>(I.bs b o e).1
theorem Inv.mod (I:Inv X pins σ H s):Mod X.K X.mg X.base:=I.ok.mod
theorem Inv.kIn (I:Inv X pins σ H s):X.K.In s.heap:=I.ok.mod.kin.keeps I.bk
theorem Inv.lt (I:Inv X pins σ H s):X.env.locals<s.heap.objs.size:=let ⟨_,hn,_⟩:=I.loc;hn.lt
theorem Inv.sz (I:Inv X pins σ H s):X.s₀.heap.objs.size<=s.heap.objs.size:=le_trans I.ok.above (Nat.le_of_lt I.lt)
theorem Inv.nofs (I:Inv X pins σ H s){a:Addr}(h:s.heap.objs.size<=a):a ∉ X.fs:=fun hb=>by
 obtain⟨_,o,ho,_⟩:=I.ok.funs.mem hb
 exact absurd (lt_of_lt_of_le (Heap.lt_size ho) (le_trans I.sz h)) (lt_irrefl _)
theorem Inv.cne (I:Inv X pins σ H s):∀x c,X.env.cells.lookup x=some c->c≠X.env.locals:=fun x c e z=>by
 obtain⟨v,o,ho,hd⟩:=I.cell x c e
 obtain⟨m,⟨o',es,ep,ho',hd',_⟩,_⟩:=I.loc
 rw [z,ho'] at ho;cases ho;rw [hd'] at hd;cases hd
theorem Inv.funs (I:Inv X pins σ H s):s.heap.FunFrames X.base X.outer:=by
 have all:∀(l:List Env),(∀b∈frs l,b∈X.fs)->X.s₀.heap.FunFrames X.base l->s.heap.FunFrames X.base l:=by
  intro l
  induction l with
  | nil=>intro _ _;trivial
  | cons env r ih =>
   intro hs hl
   obtain⟨hk,⟨L,o,hf,hn,ho,hd⟩,hr⟩:=hl
   have hL:L∈X.fs:=hs L (by unfold frs;rw [filterMap_cons,hf];exact mem_cons_self)
   obtain⟨sl,e⟩:=I.base.slot L o ho (I.ok.frf L hL) hL fun z=>I.ok.exfs L z hL
   exact⟨hk,⟨L,_,hf,hn,e,hd⟩,ih (fun b hb=>hs b (by unfold frs;rw [filterMap_cons,hf];exact mem_cons_of_mem _ hb)) hr⟩
 exact all X.outer (fun _ hb=>hb) I.ok.funs
theorem Inv.stack (I:Inv X pins σ H s):s.heap.FunFrames X.base X.stack:=by
 rcases I.ok.stk with e | ⟨e,hf⟩
 ·rw [e];exact I.funs
 ·rw [e]
  obtain⟨m,hn,_⟩:=I.loc
  refine .cons (by rw [I.ok.kind];decide) hf hn ?_ I.funs
  exact Heap.get?_none_of_le (le_trans I.ok.bsz I.ok.above)
theorem Inv.stkSub (I:Inv X pins σ H s):∀b∈frs X.stack,b∈X.env.locals::X.fs:=fun b hb=>by
 rcases I.ok.stk with e | ⟨e,hf⟩
 ·rw [e] at hb;exact mem_cons_of_mem _ hb
 ·rw [e] at hb
  unfold frs at hb
  rw [filterMap_cons,hf] at hb
  exact hb
theorem Inv.stkFree (I:Inv X pins σ H s):∀b∈frs X.stack,H b=none:=fun b hb=>by
 rcases List.mem_cons.mp (I.stkSub b hb) with e | hb
 ·rw [e];exact I.free
 ·obtain⟨_,o,ho,_⟩:=I.ok.funs.mem hb
  exact I.base.free b o ho (I.ok.frf b hb) fun z=>I.ok.exfs b z hb
theorem Inv.step {g':Array GenState}{t':Nat}{d':Drawn}{ch:List Addr}(I:Inv X pins σ H s)
  (hch:∀b∈ch,(b∈X.ex\/X.s₀.heap.objs.size<=b)/\b≠X.env.locals/\(∀x c,X.env.cells.lookup x=some c->c≠b)/\∀p∈X.pn++pins,p.1≠b)
  (keep:∀b o,b≠X.env.locals->b ∉ X.fs->b ∉ ch->s.heap.get? b=some o->H b=none->h'.get? b=some o)
  (slot:∀b o,b≠X.env.locals->b∈X.fs->b ∉ ch->s.heap.get? b=some o->H b=none->∃sl,h'.get? b=some { o with slots:=sl }) (free:∀b o,b ∉ ch->s.heap.get? b=some o->H b=none->H' b=none)
  (there:∀b o,b ∉ ch->s.heap.get? b=some o->∃o',h'.get? b=some o')
  (tups:∀b xs,H b=some (.tup xs)->H' b=some (.tup xs)) (frzs:∀b o u,H b=some (.frz o u)->H' b=some (.frz o u)) (tbls:∀b ps,H b=some (.tbl ps)->∃more,H' b=some (.tbl (ps++more)))
  (ns:∀m,s.heap.Ns X.env.locals m->h'.Ns X.env.locals m) (hok:HOk X.prog X.w H' h') (hg:AllBare g') :
  Inv X pins σ H' { s with heap:=h',gens:=g',drawn:=d',toks:=t' }:=by
 have neL:∀b o,X.s₀.heap.get? b=some o->b≠X.env.locals:=fun b o e=>ne_of_lt (lt_of_lt_of_le (Heap.lt_size e) I.ok.above)
 have neC:∀b o,X.s₀.heap.get? b=some o->b ∉ X.ex->b ∉ ch:=fun b o e hx hb=>by
  rcases(hch b hb).1 with z | z
  ·exact hx z
  ·exact absurd (lt_of_lt_of_le (Heap.lt_size e) z) (lt_irrefl _)
 have cellK:∀x c,X.env.cells.lookup x=some c->∀v,s.heap.IsCell c v->h'.IsCell c v:=fun x c e v ⟨o,ho,hd⟩=>by
  have nch:c ∉ ch:=fun z=>(hch c z).2.2.1 x c e rfl
  by_cases hc:c∈X.fs
  ·obtain⟨sl,q⟩:=slot c o (I.cne x c e) hc nch ho (I.freeC x c e)
   exact⟨_,q,hd⟩
  ·exact⟨o,keep c o (I.cne x c e) hc nch ho (I.freeC x c e),hd⟩
 refine⟨I.ok,I.os,hg,⟨fun b o e n hb hx=>?_,fun b o e n hb hx=>?_,fun b o e n hx=>?_,fun b o e hx=>?_,fun b xs e=>tups b xs (I.base.tups b xs e),fun b o xs e=>frzs b o xs (I.base.frzs b o xs e),fun b ps e=>?_⟩,?_,fun x c e=>?_,?_,fun x c e=>?_,fun p hp=>?_,hok,I.len⟩
 ·exact keep b o (neL b o e) hb (neC b o e hx) (I.base.keep b o e n hb hx) (I.base.free b o e n hx)
 ·obtain⟨sl,e1⟩:=I.base.slot b o e n hb hx
  obtain⟨sl',e2⟩:=slot b _ (neL b o e) hb (neC b o e hx) e1 (I.base.free b o e n hx)
  exact⟨sl',e2⟩
 ·obtain⟨o',e1⟩:=I.base.there b o e hx
  exact free b o' (neC b o e hx) e1 (I.base.free b o e n hx)
 ·obtain⟨o',e1⟩:=I.base.there b o e hx
  exact there b o' (neC b o e hx) e1
 ·obtain⟨m1,e1⟩:=I.base.tbls b ps e
  obtain⟨m2,e2⟩:=tbls b _ e1
  exact⟨m1++m2,by rw [e2,Array.append_assoc]⟩
 ·obtain⟨m,hn,hl⟩:=I.loc
  refine⟨m,ns m hn,fun i x v e1 e2 e3=>?_⟩
  obtain⟨u,r,l⟩:=hl i x v e1 e2 e3
  refine⟨u,r,?_⟩
  rcases l with l | ⟨k,c,e,z⟩
  ·exact .inl l
  ·exact .inr ⟨k,c,e,cellK x c e _ z⟩
 ·obtain⟨v,z⟩:=I.cell x c e
  exact⟨v,cellK x c e v z⟩
 ·obtain⟨m,⟨o,_,_,ho,_⟩,_⟩:=I.loc
  exact free _ o (fun z=>(hch _ z).2.1 rfl) ho I.free
 ·obtain⟨v,o,ho,hd⟩:=I.cell x c e
  exact free c o (fun z=>(hch c z).2.2.1 x c e rfl) ho (I.freeC x c e)
 ·obtain⟨e,n,ne,nf,d⟩:=I.pin p hp
  have nch:p.1 ∉ ch:=fun z=>(hch p.1 z).2.2.2 p hp rfl
  exact⟨keep p.1 p.2 ne nf nch e n,free p.1 p.2 nch e n,ne,nf,d⟩
theorem Inv.un {t':Nat}(I:Inv X pins σ H s)(u:Un X.fs [] H H' s.heap h')(hok:HOk X.prog X.w H' h'):Inv X pins σ H' { s with heap:=h',toks:=t' }:=by
 obtain⟨m,⟨o,es,ep,ho,r⟩,_⟩:=id I.loc
 obtain⟨sl,hL⟩:=u.any ho I.free (by simp)
 exact I.step (g':=s.gens) (d':=s.drawn) (ch:=[]) (fun _ z=>nomatch z) (fun b o _ hb _ e n=>u.keep b o e n hb (by simp)) (fun b o _ hb _ e n=>u.slot b o e n hb (by simp)) (fun b o _ e n=>u.free b o e n (by simp)) (fun b o _ e=>u.there b o e (by simp)) u.tups u.frzs u.tbls (fun m' hm=>by
  obtain⟨o',es',ep',ho',r'⟩:=hm
  rw [ho] at ho';cases ho'
  exact⟨_,es',ep',hL,r'⟩) hok I.bare
theorem Inv.call {g':Array GenState}{t':Nat}{d':Drawn}{ch:List Addr}(I:Inv X pins σ H s)(u:Un (frs X.stack) ch H H' s.heap h')(hok:HOk X.prog X.w H' h')(hg:AllBare g')
  (hch:∀b∈ch,(b∈X.ex\/X.s₀.heap.objs.size<=b)/\b≠X.env.locals/\(∀x c,X.env.cells.lookup x=some c->c≠b)/\∀p∈X.pn++pins,p.1≠b) :
  Inv X pins σ H' { s with heap:=h',gens:=g',drawn:=d',toks:=t' }:=by
 obtain⟨m,⟨o,es,ep,ho,r⟩,_⟩:=id I.loc
 obtain⟨sl,hL⟩:=u.any ho I.free fun z=>(hch _ z).2.1 rfl
 exact I.step (ch:=ch) hch (fun b o hL hb hc e n=>u.keep b o e n (fun z=>(List.mem_cons.mp (I.stkSub b z)).elim hL hb) hc) (fun b o _ _ hc e n=>u.any e n hc) (fun b o hc e n=>u.free b o e n hc) (fun b o hc e=>u.there b o e hc) u.tups u.frzs u.tbls (fun m' hm=>by
  obtain⟨o',es',ep',ho',r'⟩:=hm
  rw [ho] at ho';cases ho'
  exact⟨_,es',ep',hL,r'⟩) hok hg
theorem Inv.turned {t':Nat}{it:Addr}(I:Inv X pins σ H s)(k:∀b o,b≠it->s.heap.get? b=some o->h'.get? b=some o)(hn:H it=none)(hL:it≠X.env.locals)
  (h1:it∈X.ex\/X.s₀.heap.objs.size<=it) (h2:∀x c,X.env.cells.lookup x=some c->c≠it) (h3:∀p∈X.pn++pins,p.1≠it):Inv X pins σ H { s with heap:=h',toks:=t' }:=by
 have nit:∀b u,H b=some u->b≠it:=fun b u e z=>by rw [z,hn] at e;cases e
 refine I.step (g':=s.gens) (d':=s.drawn) (ch:=[it]) (fun b hb=>?_) (fun b o _ _ hc e _=>k b o (fun z=>hc (by simp [z])) e) (fun b o _ _ hc e _=>⟨o.slots,k b o (fun z=>hc (by simp [z])) e⟩) (fun _ _ _ _ n=>n)
  (fun b o hc e=>⟨o,k b o (fun z=>hc (by simp [z])) e⟩) (fun _ _ e=>e) (fun _ _ _ e=>e) (fun b ps e=>⟨#[],by rw [e];simp⟩) (fun m hm=>?_) (fun b u e=>?_) I.bare
 ·have e:b=it:=by simpa using hb
  subst e
  exact⟨h1,hL,h2,h3⟩
 ·obtain⟨o,es,ep,ho,r⟩:=hm
  exact⟨o,es,ep,k _ o (Ne.symm hL) ho,r⟩
 ·refine(I.hok b u e).stay (fun c v hc q=>k c v ?_ q) (fun _ q=>q) fun _ _ q=>q
  rcases hc with z | z
  ·rw [z];exact nit b u e
  ·exact nit c _ z
theorem Inv.tok (I:Inv X pins σ H s)(t:Nat):Inv X pins σ H { s with toks:=t }:=I.un (h':=s.heap) (t':=t) Un.refl I.hok
theorem Inv.kept {t':Nat}(I:Inv X pins σ H s)(k:∀b u,s.heap.get? b=some u->h'.get? b=some u):Inv X pins σ H { s with heap:=h',toks:=t' }:=I.un (Un.kept k) (I.hok.kept k)
theorem Inv.laid {a:Addr}{o:HO}{t':Nat}(I:Inv X pins σ H s)(k:∀b u,s.heap.get? b=some u->h'.get? b=some u)(hp:s.heap.objs.size<=a)(new:jc X.prog X.w (upd H a o) h' a o) :
  Inv X pins σ (upd H a o) { s with heap:=h',toks:=t' }:=I.un (Un.laid k hp (I.hok.fresh hp)) (I.hok.laid k hp new)
theorem Inv.write {x e:Addr}{o:HO}{t':Nat}(I:Inv X pins σ H s)(mu:Mut (H x))(he:e=x\/H e=some (.own x))(k:∀b u,b≠e->s.heap.get? b=some u->h'.get? b=some u)(heo:∃u,h'.get? e=some u)
  (new:jc X.prog X.w (upd H x o) h' x o):Inv X pins σ (upd H x o) { s with heap:=h',toks:=t' }:=I.un (Un.write mu he k heo) (I.hok.write mu he k heo new)
theorem Inv.pins_of {pins':List (Addr×Obj)}(I:Inv X pins σ H s)(h:∀p∈pins',s.heap.get? p.1=some p.2/\H p.1=none/\p.1≠X.env.locals/\p.1 ∉ X.fs/\∀v,p.2.data ≠ .cell v):Inv X pins' σ H s :=
 ⟨I.ok,I.os,I.bare,I.base,I.loc,I.cell,I.free,I.freeC,fun p hp=>(List.mem_append.mp hp).elim (fun z=>I.pin p (mem_append_left _ z)) (h p),I.hok,I.len⟩
theorem zfg {N:List Str}(hN:N.Nodup){i j:Nat}{x:Str}(a:N[i]?=some x)(b:N[j]?=some x):i=j:=by
 obtain⟨h1,e1⟩:=List.getElem?_eq_some_iff.mp a
 obtain⟨h2,e2⟩:=List.getElem?_eq_some_iff.mp b
 exact(List.getElem_inj hN).mp (e1.trans e2.symm)
theorem zdm {M:Model}{A:Around}{E:Value->Shared->Prop}{i:Nat}{x:Str}{v:V}{u:Value}{Q:Unit->Shared->Prop}(I:Inv X pins σ H s)(hN:X.N.Nodup)(hi:X.N[i]?=some x)(hx:Loc X.env.scope x)(r:RelV v u)
  (h:∀s',Inv X pins (σ.set i (some v)) H s'->(∃a,Heap.SameBut a s.heap s'.heap/\(a=X.env.locals\/X.env.cells.lookup x=some a))->Q () s') (hf:X.fn x=true\/X.env.scope.names.lookup x=some .local:=by first | exact .inl rfl | exact .inr rfl | assumption):wpAny M A (storeName X.env x u) Q E s:=by
 obtain⟨m,hn,hl⟩:=id I.loc
 have hcls:(X.env.scope.kind == .class || (X.env.scope.kind == .module&&X.env.locals != X.env.globals))=false:=by rw [I.ok.kind];rfl
 have hiσ:i < σ.length:=by rw [I.len];exact(List.getElem?_eq_some_iff.mp hi).1
 have cne:=I.cne
 have tracked:∀{a:Addr} {h':Heap},(∃o,s.heap.get? a=some o/\H a=none)->Heap.SameBut a s.heap h'->HOk X.prog X.w H h':=fun {a h'} ha hs b ob e=>by
  obtain⟨_,_,hfree⟩:=ha
  refine(I.hok b ob e).stay (fun c w' hc q=>(hs.2 c ?_).trans q) (fun _ q=>q) fun _ _ q=>q
  rintro rfl
  rcases hc with rfl | hc
  ·rw [hfree] at e;cases e
  ·rw [hfree] at hc;cases hc
 rcases hx with hk | hk
 ·refine wpAny_storeName_local hk hn (fun h' hn' hs=>?_) hcls
  obtain⟨oL,_,_,hoL,_⟩:=id hn
  refine h _ ⟨I.ok,I.os,I.bare,⟨fun b o e n hb hx=>?_,fun b o e n hb hx=>?_,I.base.free,fun b o e hx=>?_,I.base.tups,I.base.frzs,I.base.tbls⟩,⟨_,hn',fun j y v' e1 e2 e3=>?_⟩,fun y c e=>?_,I.free,I.freeC,fun p hp=>?_,tracked ⟨oL,hoL,I.free⟩ hs,by simpa using I.len⟩ ⟨_,hs,.inl rfl⟩
  ·exact(hs.2 b (ne_of_lt (lt_of_lt_of_le (Heap.lt_size e) I.ok.above))).trans (I.base.keep b o e n hb hx)
  ·obtain⟨sl,e1⟩:=I.base.slot b o e n hb hx
   exact⟨sl,(hs.2 b (ne_of_lt (lt_of_lt_of_le (Heap.lt_size e) I.ok.above))).trans e1⟩
  ·obtain⟨o',e1⟩:=I.base.there b o e hx
   exact⟨o',(hs.2 b (ne_of_lt (lt_of_lt_of_le (Heap.lt_size e) I.ok.above))).trans e1⟩
  ·by_cases hj:j=i
   ·subst hj
    rw [hi] at e1;cases e1
    rw [List.getElem?_set_self hiσ] at e2
    cases e2
    exact⟨u,r,.inl ⟨hk,by simp⟩⟩
   ·rw [List.getElem?_set_ne (Ne.symm hj)] at e2
    obtain⟨u',r',q⟩:=hl j y v' e1 e2 e3
    refine⟨u',r',?_⟩
    rcases q with ⟨k,e⟩ | ⟨k,c,e,z⟩
    ·refine .inl ⟨k,?_⟩
     have:y≠x:=fun e=>hj (zfg hN e1 (e ▸ hi))
     simp [this,e]
    ·exact .inr ⟨k,c,e,z.sameBut hs (cne y c e)⟩
  ·obtain⟨w',z⟩:=I.cell y c e
   exact⟨w',z.sameBut hs (cne y c e)⟩
  ·obtain⟨e,n,ne,nf,d⟩:=I.pin p hp
   exact⟨(hs.2 p.1 ne).trans e,n,ne,nf,d⟩
 ·have hfn:X.fn x=true:=by
   rcases hf with z | z
   ·exact z
   ·rw [z] at hk;cases hk
  obtain⟨c,hc⟩:=I.ok.has x (.inl hk)
  obtain⟨w',z⟩:=I.cell x c hc
  refine wpAny_storeName_cell I.ok.kind hk hc z (fun h' hc' hs=>?_)
  obtain⟨oc,hoc,hocd⟩:=id z
  refine h { s with heap:=h' } ⟨I.ok,I.os,I.bare,⟨fun b o e n hb hx=>?_,fun b o e n hb hx=>?_,I.base.free,fun b o e hx=>?_,I.base.tups,I.base.frzs,I.base.tbls⟩,⟨m,hn.sameBut hs (Ne.symm (cne x c hc)),fun j y v' e1 e2 e3=>?_⟩,fun y c' e=>?_,I.free,I.freeC,fun p hp=>?_,tracked ⟨oc,hoc,I.freeC x c hc⟩ hs,by simpa using I.len⟩ ⟨c,hs,.inr hc⟩
  ·exact(hs.2 b (ne_of_lt (lt_of_lt_of_le (Heap.lt_size e) (I.ok.cab x c hfn hc)))).trans (I.base.keep b o e n hb hx)
  ·obtain⟨sl,e1⟩:=I.base.slot b o e n hb hx
   exact⟨sl,(hs.2 b (ne_of_lt (lt_of_lt_of_le (Heap.lt_size e) (I.ok.cab x c hfn hc)))).trans e1⟩
  ·obtain⟨o',e1⟩:=I.base.there b o e hx
   exact⟨o',(hs.2 b (ne_of_lt (lt_of_lt_of_le (Heap.lt_size e) (I.ok.cab x c hfn hc)))).trans e1⟩
  ·by_cases hj:j=i
   ·subst hj
    rw [hi] at e1;cases e1
    rw [List.getElem?_set_self hiσ] at e2
    cases e2
    exact⟨u,r,.inr ⟨.inl hk,c,hc,hc'⟩⟩
   ·rw [List.getElem?_set_ne (Ne.symm hj)] at e2
    obtain⟨u',r',q⟩:=hl j y v' e1 e2 e3
    refine⟨u',r',?_⟩
    rcases q with q | ⟨k,c',e,z'⟩
    ·exact .inl q
    ·refine .inr ⟨k,c',e,z'.sameBut hs ?_⟩
     rintro rfl
     exact hj (zfg hN e1 (I.ok.inj _ _ _ e hc ▸ hi))
  ·by_cases hcc:c'=c
   ·subst hcc;exact⟨_,hc'⟩
   ·obtain⟨w2,z2⟩:=I.cell y c' e
    exact⟨w2,z2.sameBut hs hcc⟩
  ·obtain⟨e,n,ne,nf,d⟩:=I.pin p hp
   refine⟨(hs.2 p.1 ?_).trans e,n,ne,nf,d⟩
   intro q
   rw [q,hoc] at e
   have q':oc=p.2:=Option.some.inj e
   exact d w' (by rw [<- q'];exact hocd)
theorem zfh {M:Model}{A:Around}{E:Value->Shared->Prop}{i:Nat}{x:Str}{v:V}{u:Value}{Q:Unit->Shared->Prop}(I:Inv X pins σ H s)(hN:X.N.Nodup)(hi:X.N[i]?=some x)(hx:Loc X.env.scope x)(r:RelV v u)
  (h:∀s',Inv X pins (σ.set i (some v)) H s'->Q () s') (hf:X.fn x=true\/X.env.scope.names.lookup x=some .local:=by first | exact .inl rfl | exact .inr rfl | assumption):wpAny M A (storeName X.env x u) Q E s :=
 zdm I hN hi hx r (fun s' I' _=>h s' I') hf
theorem Inv.call' {s':Shared}{ch:List Addr}(I:Inv X pins σ H s)(ho:s'.os=s.os)(u:Un (frs X.stack) ch H H' s.heap s'.heap)(hok:HOk X.prog X.w H' s'.heap)(hg:AllBare s'.gens)
  (hch:∀b∈ch,(b∈X.ex\/X.s₀.heap.objs.size<=b)/\b≠X.env.locals/\(∀x c,X.env.cells.lookup x=some c->c≠b)/\∀p∈X.pn++pins,p.1≠b):Inv X pins σ H' s':=by
 obtain⟨h',g',d',t',o'⟩:=s'
 have e:o'=s.os:=ho
 subst e
 exact I.call (g':=g') (t':=t') (d':=d') u hok hg hch
end
abbrev XK:=Value->Option Addr->Hp->Prop
abbrev St:=List (Option V)
abbrev VK:=V->Hp->Prop
abbrev TE:=St->Hp->VK->Prop
abbrev TT:=St->Hp->(Bool->Hp->Prop)->Prop
abbrev TA:=St->Hp->(List V->Hp->Prop)->Prop
structure Ends where
 nx:St->Hp->Prop
 rt:VK
 bk:St->Hp->Prop:=fun _ _=>False
 ct:St->Hp->Prop:=fun _ _=>False
abbrev TS:=Ends->St->Hp->Prop
def EP (X:Cx)(pins:List (Addr×Obj))(σ:St)(Q:VK)(u:Value)(s':Shared):Prop:=∃v H',Inv X pins σ H' s'/\RelV v u/\Q v H'
def TP (X:Cx)(pins:List (Addr×Obj))(σ:St)(Q:Bool->Hp->Prop)(b:Bool)(s':Shared):Prop:=∃H',Inv X pins σ H' s'/\Q b H'
def AP (X:Cx)(pins:List (Addr×Obj))(σ:St)(Q:List V->Hp->Prop)(us:List Value)(s':Shared):Prop:=∃vs H',Inv X pins σ H' s'/\Vals vs us/\Q vs H'
def SP (X:Cx)(pins:List (Addr×Obj))(D:Ends)(f:Flow)(s':Shared):Prop :=
 match f with
 | .next=>∃ σ' H',Inv X pins σ' H' s'/\D.nx σ' H'
 | .brk=>∃ σ' H',Inv X pins σ' H' s'/\D.bk σ' H'
 | .cont=>∃ σ' H',Inv X pins σ' H' s'/\D.ct σ' H'
 | .ret u=>∃v σ' H',Inv X pins σ' H' s'/\RelV v u/\D.rt v H'
def PE (X:Cx)(e:Expr)(t:TE):Prop :=
 ∀(pins:List (Addr×Obj)) (s:Shared) (σ:St) (H:Hp) (Q:VK),Inv X pins σ H s->t σ H Q->wpAny (model X.prog X.w) X.A (eval e X.env) (EP X pins σ Q) X.xe s
def PT (X:Cx)(e:Expr)(t:TT):Prop :=
 ∀(pins:List (Addr×Obj)) (s:Shared) (σ:St) (H:Hp) (Q:Bool->Hp->Prop),Inv X pins σ H s->t σ H Q->wpAny (model X.prog X.w) X.A (isTrue e X.env (eval e X.env)) (TP X pins σ Q) X.xe s
def PW (X:Cx)(e:Expr)(t:TT):Prop :=
 ∀(whole:Sem Value) (pins:List (Addr×Obj)) (s:Shared) (σ:St) (H:Hp) (Q:Bool->Hp->Prop),Inv X pins σ H s->t σ H Q->wpAny (model X.prog X.w) X.A (isTrue e X.env whole) (TP X pins σ Q) X.xe s
theorem PW.pt {X:Cx}{e:Expr}{t:TT}(h:PW X e t):PT X e t:=h _
def PA (X:Cx)(es:List Expr)(t:TA):Prop :=
 ∀(pos:Pos) (pins:List (Addr×Obj)) (s:Shared) (σ:St) (H:Hp) (Q:List V->Hp->Prop),Inv X pins σ H s->t σ H Q->wpAny (model X.prog X.w) X.A (spliced (backTo pos (starEach es X.env))) (AP X pins σ Q) X.xe s
def PS (X:Cx)(st:Stmt)(t:TS):Prop :=
 ∀(pins:List (Addr×Obj)) (s:Shared) (σ:St) (H:Hp) (D:Ends),Inv X pins σ H s->t D σ H->wpAny (model X.prog X.w) X.A (exec st X.env) (SP X pins D) X.xe s
def PSs (X:Cx)(st:List Stmt)(t:TS):Prop :=
 ∀(pins:List (Addr×Obj)) (s:Shared) (σ:St) (H:Hp) (D:Ends),Inv X pins σ H s->t D σ H->wpAny (model X.prog X.w) X.A (execs st X.env) (SP X pins D) X.xe s
theorem thn {α:Type}{t:Sem α}{Q Q':α->Shared->Prop}{M:Model}{A:Around}{E:Value->Shared->Prop}{s:Shared}(h:wpAny M A t Q E s)(hQ:∀a s,Q a s->Q' a s):wpAny M A t Q' E s:=wpAny_mono h hQ fun _ _ x=>x
section
variable {X:Cx}
def zn2 (i:Nat):TE:=fun σ H Q=>∃v,σ[i]?=some (some v)/\Q v H
def tC (v:V):TE:=fun _ H Q=>Q v H
theorem znb {i:Nat}{x:Str}{pos:Pos}(hN:X.N[i]?=some x)(hv:Vis X.env.scope x)(hd:(x==("__debug__":Str))=false:=by decide)(hcd:(x==("__classdict__":Str))=false:=by decide):PE X (.Name x pos) (zn2 i):=by
 intro pins s σ H Q I h
 obtain⟨v,e,h⟩:=h
 obtain⟨m,hn,hl⟩:=I.loc
 obtain⟨u,r,l⟩:=hl i x v hN e hv
 have fin:EP X pins σ Q u s:=⟨v,H,I,r,h⟩
 rcases l with ⟨hk,hm⟩ | ⟨hk,c,hc,hcell⟩
 ·exact wpAny_Name (wpAny_loadName_local I.ok.kind hk hn hm fin) hd
 ·rcases hk with hk | hk
  ·exact wpAny_Name (wpAny_loadName_cell I.ok.kind hk hc hcell fin) hd
  ·exact wpAny_Name (wpAny_loadName_free I.ok.kind hk hc hcell fin hcd) hd
theorem zq {i j pos}:PE X (.Constant (.int i) j pos) (tC (.int i)):=fun _ _ _ H _ I h=>wpAny_Constant_int ⟨.int i,H,I.tok _,⟨_,rfl⟩,h⟩
theorem za4 {b j pos}:PE X (.Constant (.bool b) j pos) (tC (.bl b)):=fun _ _ _ H _ I h=>Constant_bool ⟨.bl b,H,I,rfl,h⟩
theorem qQ {x j pos}:PE X (.Constant (.str x) j pos) (tC (.str x)):=fun _ _ _ H _ I h=>Calls.Constant_str ⟨.str x,H,I.tok _,⟨_,rfl⟩,h⟩
def Gl (X:Cx)(x:Str):Prop:=X.env.kindOf x=some .globalImplicit
theorem zh4 {E:Value->Shared->Prop}{pins:List (Addr×Obj)}{s:Shared}{σ:St}{H:Hp}{x:Str}{u:Value}{pos:Pos}{Q:Value->Shared->Prop}(I:Inv X pins σ H s)(hg:Gl X x)(hm:X.mg x=some u)(h:Q u s)
  (hd:(x==("__debug__":Str))=false:=by decide):wpAny (model X.prog X.w) X.A (eval (.Name x pos) X.env) Q E s :=
 Calls.Name_function_global I.ok.kind hg (Calls.loadGlobal_global (by rw [I.ok.glob];exact I.mod.glob.keeps I.bk) hm h) hd
theorem Ym {E:Value->Shared->Prop}{pins:List (Addr×Obj)}{s:Shared}{σ:St}{H:Hp}{x:Str}{u:Value}{pos:Pos}{Q:Value->Shared->Prop}(I:Inv X pins σ H s)(hg:Gl X x)(hm:X.mg x=none)(hv:bootBuiltins x=some u)(h:Q u s)
  (hn:x ≠ "__name__":=by decide) (hd:(x==("__debug__":Str))=false:=by decide):wpAny (model X.prog X.w) X.A (eval (.Name x pos) X.env) Q E s:=by
 obtain⟨mb,h1,h2⟩:=I.mod.blt
 exact Calls.Name_function_global I.ok.kind hg (Calls.loadGlobal_builtin (by rw [I.ok.glob];exact I.mod.glob.keeps I.bk) hm (by rw [I.ok.blt];exact h1.keeps I.bk) ((h2 x hn).trans hv) h) hd
theorem YO {x:Str}{v:V}{u:Value}{pos:Pos}(hg:Gl X x)(hm:X.mg x=some u)(r:RelV v u)(hd:(x==("__debug__":Str))=false:=by decide):PE X (.Name x pos) (tC v) :=
 fun _ _ _ H _ I h=>zh4 I hg hm ⟨v,H,I,r,h⟩ hd
theorem zh5 {x:Str}{v:V}{u:Value}{pos:Pos}(hg:Gl X x)(hm:X.mg x=none)(hv:bootBuiltins x=some u)(r:RelV v u)(hn:x ≠ "__name__":=by decide)(hd:(x==("__debug__":Str))=false:=by decide):PE X (.Name x pos) (tC v) :=
 fun _ _ _ H _ I h=>Ym I hg hm hv ⟨v,H,I,r,h⟩ hn hd
variable {a b:Expr}{ta tb:TE}{pos:Pos}
variable {tA tB':TT}{rest:List Expr}
def zoV (t u:TT):TT:=fun σ H Q=>t σ H fun c H1=>if c=true then u σ H1 Q else Q false H1
def tOr (t u:TT):TT:=fun σ H Q=>t σ H fun c H1=>if c=true then Q true H1 else u σ H1 Q
def zoW (t:TT):TT:=fun σ H Q=>t σ H fun c H1=>Q (!c) H1
theorem zbq (ha:PT X a tA):PW X (.BoolOp .And [a] pos) tA:=by
 intro wh pins s σ H Q I h
 refine isTrue_and (thn (ha pins s σ H Q I h) fun c s1 e=>?_)
 cases c with
 | true=>exact isTrue_and_nil e
 | false=>exact e
theorem zgL (ha:PT X a tA):PW X (.BoolOp .Or [a] pos) tA:=by
 intro wh pins s σ H Q I h
 refine isTrue_or (thn (ha pins s σ H Q I h) fun c s1 e=>?_)
 cases c with
 | false=>exact isTrue_or_nil e
 | true=>exact e
theorem zej (ha:PT X a tA)(hb:PW X (.BoolOp .And (b::rest) pos) tB'):PW X (.BoolOp .And (a::b::rest) pos) (zoV tA tB'):=by
 intro wh pins s σ H Q I h
 refine isTrue_and (thn (ha pins s σ H _ I h) fun c s1 ⟨H1,I1,q1⟩=>?_)
 cases c with
 | true=>exact hb wh pins s1 σ H1 Q I1 q1
 | false=>exact⟨H1,I1,q1⟩
theorem zj2 (ha:PT X a tA)(hb:PW X (.BoolOp .Or (b::rest) pos) tB'):PW X (.BoolOp .Or (a::b::rest) pos) (tOr tA tB'):=by
 intro wh pins s σ H Q I h
 refine isTrue_or (thn (ha pins s σ H _ I h) fun c s1 ⟨H1,I1,q1⟩=>?_)
 cases c with
 | true=>exact⟨H1,I1,q1⟩
 | false=>exact hb wh pins s1 σ H1 Q I1 q1
theorem zaz (ha:PT X a tA):PT X (.UnaryOp .Not a pos) (zoW tA):=by
 intro pins s σ H Q I h
 exact isTrue_not (ha pins s σ H (fun c H1=>Q (!c) H1) I h)
def zn3 (ta tb:TE):TE:=fun σ H Q=>ta σ H fun x H1=>∃c,x=.bl c/\if c=true then tb σ H1 Q else Q (.bl false) H1
def zn4 (ta:TE):TE:=fun σ H Q=>ta σ H fun x H1=>∃c,x=.bl c/\Q (.bl (!c)) H1
theorem zj3 {op}{t:TE}(h:PE X a t):PE X (.BoolOp op [a] pos) t:=fun pins s σ H Q I hw=>BoolOp_one (h pins s σ H Q I hw)
theorem zj4 (ha:PE X a ta)(hb:PE X (.BoolOp .And (b::rest) pos) tb):PE X (.BoolOp .And (a::b::rest) pos) (zn3 ta tb):=by
 intro pins s σ H Q I h
 refine BoolOp_and (thn (ha pins s σ H _ I h) fun v s1 ⟨x,H1,I1,r1,q1⟩=>?_)
 obtain⟨c,rfl,q1⟩:=q1
 cases r1
 refine wpAny_truthy_bool ?_
 cases c with
 | true=>exact hb pins s1 σ H1 Q I1 q1
 | false=>exact⟨.bl false,H1,I1,rfl,q1⟩
theorem znc (ha:PE X a ta):PE X (.UnaryOp .Not a pos) (zn4 ta):=by
 intro pins s σ H Q I h
 refine UnaryOp_ (thn (ha pins s σ H _ I h) fun v s1 ⟨x,H1,I1,r1,q1⟩=>?_)
 obtain⟨c,rfl,q1⟩:=q1
 cases r1
 exact not_of (wpAny_truthy_bool ⟨.bl (!c),H1,I1,rfl,q1⟩)
end
def SqL (K:PySem.W.Frag)(H:Hp)(a:Addr)(xs:List V):Prop :=
 Rd H a (.lst xs) \/
  ∃(o:Obj) (its:Array Value) (n:Nat),K.lookup a=some o/\o.cls=.type "list"/\o.dict=none/\o.data=.seq its n/\its.size<=sizeLine/\Vals xs its.toList
def SqT (K:PySem.W.Frag)(H:Hp)(a:Addr)(xs:List V):Prop :=
 Rd H a (.tup xs) \/
  ∃(o:Obj) (its:Array Value) (n:Nat),K.lookup a=some o/\o.cls=.type "tuple"/\o.data=.seq its n/\its.size<=sizeLine/\Vals xs its.toList
noncomputable def zoX:Value->Option V
 | .none=>some .non
 | .bool b=>some (.bl b)
 | .int i _=>some (.int i)
 | .str x _=>some (.str x)
 | .bytes b _=>some (.byt b)
 | .float b _=>some (.flt b)
 | .ref a=>some (.ref a)
 | .type n=>some (.ty n)
 | _=>none
theorem RelV.abs {x:V}{u:Value}(r:RelV x u):zoX u=some x:=by
 cases x with
 | non=>cases r;rfl
 | bl _=>cases r;rfl
 | int _=>obtain⟨t,rfl⟩:=r;rfl
 | str _=>obtain⟨t,rfl⟩:=r;rfl
 | byt _=>obtain⟨t,rfl⟩:=r;rfl
 | flt _=>obtain⟨t,rfl⟩:=r;rfl
 | ref _=>cases r;rfl
 | ty _=>cases r;rfl
theorem RelV.inj {x y:V}{u:Value}(r:RelV x u)(q:RelV y u):x=y:=Option.some.inj (r.abs.symm.trans q.abs)
theorem Vals.inj:∀{xs ys:List V} {us:List Value},Vals xs us->Vals ys us->xs=ys
 | _,_,_,.nil,.nil=>rfl
 | _,_,_,.cons r t,.cons r' t'=>by rw [r.inj r',Vals.inj t t']
section
variable {X:Cx}{pins:List (Addr×Obj)}{σ:St}{H:Hp}{s:Shared}{a:Addr}{xs ys:List V}
theorem SqL.of {K:PySem.W.Frag}(h:H a=some (.lst xs)):SqL K H a xs:=.inl (.inl h)
theorem SqT.of {K:PySem.W.Frag}(h:H a=some (.tup xs)):SqT K H a xs:=.inl (.inl h)
theorem Inv.list (I:Inv X pins σ H s)(h:SqL X.K H a xs):∃its:List Value,Vals xs its/\PlainL s.heap a its.toArray/\xs.length<=sizeLine:=by
 rcases h with h | ⟨o,its,n,hk,hc,hd,hs,hz,r⟩
 ·obtain⟨z,its,n,r,e⟩:=h.ok I.hok
  exact⟨its,r,⟨_,n,e,rfl,rfl,rfl⟩,z⟩
 ·refine⟨its.toList,r,⟨o,n,I.kIn a o hk,hc,hd,by simpa using hs⟩,?_⟩
  have e:=r.length
  simp only [length_toList] at e
  omega
theorem Inv.tuple (I:Inv X pins σ H s)(h:SqT X.K H a xs):∃its:List Value,Vals xs its/\IsTup s.heap a its.toArray/\xs.length<=sizeLine:=by
 rcases h with h | ⟨o,its,n,hk,hc,hs,hz,r⟩
 ·obtain⟨z,its,r,p⟩:=h.ok I.hok
  exact⟨its,r,p,z⟩
 ·refine⟨its.toList,r,⟨o,I.kIn a o hk,hc,n,by simpa using hs⟩,?_⟩
  have e:=r.length
  simp only [length_toList] at e
  omega
theorem Inv.list_inj (I:Inv X pins σ H s)(h:SqL X.K H a xs)(h':SqL X.K H a ys):xs=ys:=by
 obtain⟨its,r,⟨o,n,e,_,_,d⟩,_⟩:=I.list h
 obtain⟨its',r',⟨o',n',e',_,_,d'⟩,_⟩:=I.list h'
 rw [e] at e';cases e'
 rw [d] at d'
 injection d' with d1 _
 have:its=its':=by simpa using congrArg Array.toList d1
 subst this
 exact r.inj r'
end
abbrev Cx.wish (X:Cx)(E:Value->Shared->Prop):Cx:={ X with xe:=E }
abbrev Cx.nox (X:Cx):Cx:=X.wish fun _ _=>False
theorem Cx.Ok.wish {X:Cx}(ok:X.Ok)(E:Value->Shared->Prop):(X.wish E).Ok :=
 ⟨ok.mod,ok.kind,ok.glob,ok.blt,ok.above,ok.inj,ok.has,ok.cab,ok.hd,ok.frames,ok.stk,ok.exf,ok.bs,ok.bsz,ok.noex,ok.exfs,ok.funs,ok.frf⟩
theorem Cx.Ok.unwish {X:Cx}{E:Value->Shared->Prop}(ok:(X.wish E).Ok):X.Ok :=
 ⟨ok.mod,ok.kind,ok.glob,ok.blt,ok.above,ok.inj,ok.has,ok.cab,ok.hd,ok.frames,ok.stk,ok.exf,ok.bs,ok.bsz,ok.noex,ok.exfs,ok.funs,ok.frf⟩
section
variable {X:Cx}{pins:List (Addr×Obj)}{σ:St}{H:Hp}{s:Shared}{E:Value->Shared->Prop}
theorem Inv.wish (I:Inv X pins σ H s)(E:Value->Shared->Prop):Inv (X.wish E) pins σ H s:=⟨I.ok.wish E,I.os,I.bare,I.base,I.loc,I.cell,I.free,I.freeC,I.pin,I.hok,I.len⟩
theorem Inv.unwish (I:Inv (X.wish E) pins σ H s):Inv X pins σ H s:=⟨I.ok.unwish,I.os,I.bare,I.base,I.loc,I.cell,I.free,I.freeC,I.pin,I.hok,I.len⟩
theorem SP.unwish {D:Ends}{f:Flow}{s':Shared}(h:SP (X.wish E) pins D f s'):SP X pins D f s':=by
 cases f with
 | next=>obtain⟨σ',H',I,q⟩:=h;exact⟨σ',H',I.unwish,q⟩
 | brk=>obtain⟨σ',H',I,q⟩:=h;exact⟨σ',H',I.unwish,q⟩
 | cont=>obtain⟨σ',H',I,q⟩:=h;exact⟨σ',H',I.unwish,q⟩
 | ret u=>obtain⟨v,σ',H',I,r,q⟩:=h;exact⟨v,σ',H',I.unwish,r,q⟩
theorem PSs.nox {st:List Stmt}{t:TS}(h:PSs X.nox st t):PSs X st t:=fun pins s σ H D I hw =>
 wpAny_mono (h pins s σ H D (I.wish _) hw) (fun _ _ q=>q.unwish) fun _ _ z=>False.elim z
end
section
variable {X:Cx}{st:Stmt}{rest:List Stmt}{t u:TS}{e:Expr}{te:TE}{pos:Pos}
def zn5:TS:=fun D σ H=>D.nx σ H
def zoY (t u:TS):TS:=fun D σ H=>t { D with nx:=u D } σ H
theorem qk:PSs X [] zn5:=fun _ _ σ H _ I h=>wpAny_execs_nil ⟨σ,H,I,h⟩
theorem zd (h1:PS X st t)(h2:PSs X rest u):PSs X (st::rest) (zoY t u):=by
 intro pins s σ H D I h
 refine wpAny_execs_cons (thn (h1 pins s σ H { D with nx:=u D } I h) fun f s1 q=>?_)
 cases f with
 | next =>
  obtain⟨σ',H',I',q⟩:=q
  exact h2 pins s1 σ' H' D I' q
 | ret v=>exact q
 | brk=>exact q
 | cont=>exact q
theorem zf (h1:PS X st t):PSs X [st] t:=by
 intro pins s σ H D I h
 refine wpAny_execs_cons (thn (h1 pins s σ H D I h) fun f s1 q=>?_)
 cases f with
 | next=>exact wpAny_execs_nil q
 | ret v=>exact q
 | brk=>exact q
 | cont=>exact q
theorem Inv.quiet {pins:List (Addr×Obj)}{σ:St}{H:Hp}{s:Shared}(I:Inv X pins σ H s):interactive X.env=false:=by simp [interactive,I.ok.kind]
def zn6 (te:TE):TS:=fun D σ H=>te σ H fun _ H1=>D.nx σ H1
theorem yE (he:PE X e te)(hs:swapsWith e none pos.line X.env=pure false:=by rfl):PS X (.Expr e pos) (zn6 te):=by
 intro pins s σ H D I h
 exact wpAny_Expr_any (thn (he pins s σ H _ I h) fun v s1 ⟨x,H1,I1,r1,q1⟩=>⟨σ,H1,I1,q1⟩) I.quiet hs
def zoZ (te:TE):TS:=fun D σ H=>te σ H D.rt
theorem zO (he:PE X e te):PS X (.Return (some e) pos) (zoZ te):=by
 intro pins s σ H D I h
 exact wpAny_Return_some (thn (he pins s σ H _ I h) fun v s1 ⟨x,H1,I1,r1,q1⟩=>⟨x,σ,H1,I1,r1,q1⟩)
def zo0 (c:TT)(t u:TS):TS:=fun D σ H=>c σ H fun b H1=>if b=true then t D σ H1 else u D σ H1
theorem jA {c:Expr}{a b:List Stmt}{tc:TT}(hc:PT X c tc)(ha:PSs X a t)(hb:PSs X b u):PS X (.If c a b pos) (zo0 tc t u):=by
 intro pins s σ H D I h
 refine wpAny_If (thn (hc pins s σ H _ I h) fun d s1 ⟨H1,I1,q1⟩=>?_)
 cases d with
 | true=>exact ha pins s1 σ H1 D I1 q1
 | false=>exact hb pins s1 σ H1 D I1 q1
def znd:TS:=fun _ _ _=>False
theorem zj5:PS X st znd:=fun _ _ _ _ _ _ h=>h.elim
end
abbrev TG:=V->St->Hp->(St->Hp->Prop)->Prop
abbrev TGs:=List V->St->Hp->(St->Hp->Prop)->Prop
def PG (X:Cx)(target:Expr)(t:TG):Prop :=
 ∀(pins:List (Addr×Obj)) (s:Shared) (σ:St) (H:Hp) (v:V) (u:Value) (Q:St->Hp->Prop),Inv X pins σ H s->RelV v u->t v σ H Q ->
  wpAny (model X.prog X.w) X.A (assign target X.env u) (fun _ s'=>∃ σ' H',Inv X pins σ' H' s'/\Q σ' H') X.xe s
def PGs (X:Cx)(ts:List Expr)(t:TGs):Prop :=
 ∀(pins:List (Addr×Obj)) (s:Shared) (σ:St) (H:Hp) (vs:List V) (us:List Value) (Q:St->Hp->Prop),Inv X pins σ H s->Vals vs us->t vs σ H Q ->
  wpAny (model X.prog X.w) X.A (assignInOrder ((assignEach ts X.env).map (·.2)) us) (fun _ s'=>∃ σ' H',Inv X pins σ' H' s'/\Q σ' H') X.xe s
abbrev zj6:=V->V->V->Hp->(Hp->Prop)->Prop
def zne (X:Cx)(t:zj6):Prop :=
 ∀(pins:List (Addr×Obj)) (s:Shared) (σ:St) (H:Hp) (o i v:V) (ov iv u:Value) (Q:Hp->Prop),Inv X pins σ H s->RelV o ov->RelV i iv->RelV v u->t o i v H Q ->
  wpAny (model X.prog X.w) X.A (setItem ov iv u) (fun _ s'=>∃H',Inv X pins σ H' s'/\Q H') X.xe s
abbrev TIp:=V->V->Hp->VK->Prop
def PIp (X:Cx)(op:Operator)(t:TIp):Prop :=
 ∀(pins:List (Addr×Obj)) (s:Shared) (σ:St) (H:Hp) (x y:V) (v u:Value) (Q:VK),Inv X pins σ H s->RelV x v->RelV y u->t x y H Q ->
  wpAny (model X.prog X.w) X.A (inplaceOp op v u) (EP X pins σ Q) X.xe s
section
variable {X:Cx}{pos:Pos}
def xU (i:Nat):TG:=fun v σ H Q=>Q (σ.set i (some v)) H
theorem zm {i:Nat}{x:Str}(hN:X.N.Nodup)(hi:X.N[i]?=some x)(hx:Loc X.env.scope x)(hf:X.fn x=true\/X.env.scope.names.lookup x=some .local:=by first | exact .inl rfl | exact .inr rfl | assumption):PG X (.Name x pos) (xU i):=by
 intro pins s σ H v u Q I r h
 exact wpAny_assign_Name (zfh I hN hi hx r (fun s' I'=>⟨_,H,I',h⟩) hf)
def zo1:TGs:=fun vs σ H Q=>vs=[]/\Q σ H
def zn7 (t:TG)(u:TGs):TGs:=fun vs σ H Q=>∃v r,vs=v::r/\t v σ H fun σ' H'=>u r σ' H' Q
theorem jZ:PGs X [] zo1:=by
 intro pins s σ H vs us Q I r h
 obtain⟨e,h⟩:=h
 subst e
 cases r
 exact assignInOrder_nil ⟨σ,H,I,h⟩
theorem zV {e:Expr}{es:List Expr}{t:TG}{u:TGs}(h1:PG X e t)(h2:PGs X es u)
  (hs:(assignEach (e::es) X.env).map (·.2)=assign e X.env::(assignEach es X.env).map (·.2):=by rfl):PGs X (e::es) (zn7 t u):=by
 intro pins s σ H vs us Q I r h
 obtain⟨v,vr,e1,h⟩:=h
 subst e1
 cases r with
 | cons r rr =>
  rw [hs]
  refine assignInOrder_cons (thn (h1 pins s σ H _ _ _ I r h) fun _ s1 ⟨σ1,H1,I1,q1⟩=>?_)
  exact h2 pins s1 σ1 H1 _ _ Q I1 rr q1
def zn8 (K:PySem.W.Frag)(n:Nat)(t:TGs):TG:=fun v σ H Q=>∃a xs,v=.ref a/\SqT K H a xs/\xs.length=n/\t xs σ H Q
theorem Jr {es:List Expr}{k:Nat}{t:TGs}{n:Nat}(hc:X.calm=true)(h:PGs X es t)
  (hn:(assignEach es X.env).length=n:=by rfl) (hst:(assignEach es X.env).findIdx? (·.1)=none:=by rfl):PG X (.Tuple es k pos) (zn8 X.K n t):=by
 intro pins s σ H v u Q I r hw
 obtain⟨a,xs,e1,hq,hl,hw⟩:=hw
 subst e1
 cases r
 obtain⟨its,rv,ht,hz⟩:=I.tuple hq
 refine assign_Tuple_tuple (I.ok.hd hc) ht (by simp [hn,<- hl,rv.length]) hst fun h' hx=>?_
 have I1:Inv X pins σ H { s with heap:=h' }:=I.kept (t':=s.toks) fun b o e=>hx b o (ne_of_lt (Heap.lt_size e)) e
 exact h pins _ σ H xs _ Q I1 (by simpa using rv) hw
def zo2 (to ti:TE)(t:zj6):TG:=fun v σ H Q=>to σ H fun o H1=>ti σ H1 fun i H2=>t o i v H2 fun H3=>Q σ H3
theorem zgM {o i:Expr}{to ti:TE}{t:zj6}(ho:PE X o to)(hi:PE X i ti)(hs:zne X t)
  (ha:∀v,assign (.Subscript o i pos) X.env v=(do
   let ov <- holding [v] (eval o X.env)
   let iv <- holding [v,ov] (eval i X.env)
   standAt pos
   holding [v,ov,iv] (setItem ov iv v)
   release [v,ov,iv] []):=by intro _;rfl):PG X (.Subscript o i pos) (zo2 to ti t):=by
 intro pins s σ H v u Q I r h
 rw [ha]
 refine wpAny_bind (wpAny_holding (thn (ho pins s σ H _ I h) fun ov s1 ⟨x,H1,I1,r1,q1⟩=>?_))
 refine wpAny_bind (wpAny_holding (thn (hi pins s1 σ H1 _ I1 q1) fun iv s2 ⟨y,H2,I2,r2,q2⟩=>?_))
 refine wpAny_bind (wpAny_standAt (wpAny_bind (wpAny_holding (thn (hs pins s2 σ H2 x y v ov iv u _ I2 r1 r2 r q2) fun _ s3 ⟨H3,I3,q3⟩=>?_))))
 exact wpAny_release ⟨σ,H3,I3,q3⟩
def znf (te:TE)(g:TG):TS:=fun D σ H=>te σ H fun x H1=>g x σ H1 D.nx
theorem zbG {tg e:Expr}{te:TE}{g:TG}(he:PE X e te)(hg:PG X tg g)(hs:swapsWithSole [tg] e pos.line X.env=pure false:=by rfl)(hw:swappedStores [tg] e X.env=pure none:=by rfl)
  (h1:(assignEach [tg] X.env).map (·.2)=[assign tg X.env]:=by rfl):PS X (.Assign [tg] e pos) (znf te g):=by
 intro pins s σ H D I h
 refine wpAny_Assign_stores (thn (he pins s σ H _ I h) fun v s1 ⟨x,H1,I1,r1,q1⟩=>?_) hs hw
 rw [h1]
 exact thn (hg pins s1 σ H1 x v _ I1 r1 q1) fun _ s2 q=>q
theorem zB {i:Nat}{x:Str}{e:Expr}{te:TE}{pos':Pos}(hN:X.N.Nodup)(hi:X.N[i]?=some x)(hx:Loc X.env.scope x)(he:PE X e te)(hs:swapsWith e (some (.Name x pos')) pos.line X.env=pure false:=by rfl)(hf:X.fn x=true\/X.env.scope.names.lookup x=some .local:=by first | exact .inl rfl | exact .inr rfl | assumption) :
  PS X (.Assign [.Name x pos'] e pos) (znf te (xU i)):=by
 intro pins s σ H D I h
 refine wpAny_Assign_Name (thn (he pins s σ H _ I h) fun v s1 ⟨y,H1,I1,r1,q1⟩=>?_) hs
 exact zfh I1 hN hi hx r1 (fun s2 I2=>⟨_,H1,I2,q1⟩) hf
def zn9 (to ti te:TE)(tget:V->V->Hp->VK->Prop)(tip:TIp)(tset:zj6):TS:=fun D σ H=>to σ H fun o H1=>ti σ H1 fun i H2=>tget o i H2 fun x H3=>te σ H3 fun y H4=>tip x y H4 fun z H5=>tset o i z H5 fun H6=>D.nx σ H6
def zoa (X:Cx)(t:V->V->Hp->VK->Prop):Prop :=
 ∀(pins:List (Addr×Obj)) (s:Shared) (σ:St) (H:Hp) (o i:V) (ov iv:Value) (Q:VK),Inv X pins σ H s->RelV o ov->RelV i iv->t o i H Q ->
  wpAny (model X.prog X.w) X.A (getItem ov iv) (EP X pins σ Q) X.xe s
theorem zh6 {o i e:Expr}{to ti te:TE}{tget:V->V->Hp->VK->Prop}{tip:TIp}{tset:zj6}{op:Operator}{tpos:Pos}(ho:PE X o to)(hi:PE X i ti)(hg:zoa X tget)(he:PE X e te)(hp:PIp X op tip)(hs:zne X tset)
  (ha:∀ov iv new,augStore i ov iv new=(do holding [new,ov,iv] (setItem ov iv new);release [new,ov,iv] [];pure .next):=by intros;rfl):PS X (.AugAssign (.Subscript o i tpos) op e pos) (zn9 to ti te tget tip tset):=by
 intro pins s σ H D I h
 refine wpAny_AugAssign_SubscriptAny (thn (ho pins s σ H _ I h) fun ov s1 ⟨x1,H1,I1,r1,q1⟩=>?_) ha
 refine thn (hi pins s1 σ H1 _ I1 q1) fun iv s2 ⟨x2,H2,I2,r2,q2⟩=>?_
 refine thn (hg pins s2 σ H2 x1 x2 ov iv _ I2 r1 r2 q2) fun old s3 ⟨x3,H3,I3,r3,q3⟩=>?_
 refine thn (he pins s3 σ H3 _ I3 q3) fun v s4 ⟨x4,H4,I4,r4,q4⟩=>?_
 refine thn (hp pins s4 σ H4 x3 x4 old v _ I4 r3 r4 q4) fun new s5 ⟨x5,H5,I5,r5,q5⟩=>?_
 exact thn (hs pins s5 σ H5 x1 x2 x5 ov iv new _ I5 r1 r2 r5 q5) fun _ s6 ⟨H6,I6,q6⟩=>⟨σ,H6,I6,q6⟩
def ipI (f:Int->Int->Int):TIp:=fun x y H Q=>∃i j,x=.int i/\y=.int j/\Q (.int (f i j)) H
theorem zj7:PIp X .Add (ipI fun i j=>i+j):=by
 intro pins s σ H x y v u Q I r1 r2 h
 obtain⟨i,j,e1,e2,q⟩:=h
 subst e1;subst e2
 obtain⟨t,rfl⟩:=r1
 obtain⟨t',rfl⟩:=r2
 exact iadd_int ⟨.int _,H,I.tok _,⟨_,rfl⟩,q⟩
end
section
variable {X:Cx}{pos:Pos}
end
structure It where
 go:Nat->Hp->Prop
 yld:Nat->Hp->V->Hp->Prop
 stop:Nat->Hp->Prop
def QM (X:Cx)(pins:List (Addr×Obj))(H:Hp)(b:Addr):Prop :=
 H b=none/\b≠X.env.locals/\b ∉ X.fs/\(b∈X.ex\/X.s₀.heap.objs.size<=b)/\(∀x c,X.env.cells.lookup x=some c->c≠b)/\∀p∈X.pn++pins,p.1≠b
theorem Inv.fpOk {X:Cx}{pins:List (Addr×Obj)}{σ:St}{H H':Hp}{s:Shared}{b:Addr}(I:Inv X pins σ H s)(hb:s.heap.objs.size<=b)(hn:H' b=none):QM X pins H' b:=by
 refine⟨hn,ne_of_gt (lt_of_lt_of_le I.lt hb),I.nofs hb,.inr (le_trans I.sz hb),fun x c e z=>?_,fun p hp z=>?_⟩
 ·obtain⟨v,q⟩:=I.cell x c e
  exact absurd (lt_of_lt_of_le q.lt (by rw [z];exact hb)) (lt_irrefl _)
 ·exact absurd (lt_of_lt_of_le (Heap.lt_size (I.pin p hp).1) (by rw [z];exact hb)) (lt_irrefl _)
structure Turn (P:Program)(w:World)(K:PySem.W.Frag)(tg:Expr)(J:It)(fp:List Addr)(it:Addr)(tn:Nat->Heap->Prop):Prop where
 mem:it∈fp
 obj:∀i h,tn i h->∀b∈fp,∃o,h.get? b=some o/\∀v,o.data ≠ .cell v
 keep:∀i h h',tn i h->(∀b∈fp,∀o,h.get? b=some o->h'.get? b=some o)->tn i h'
 item:∀(X:Cx),X.prog=P->X.w=w->X.K=K->X.calm=true->∀(i:Nat) (pins:List (Addr×Obj)) (s:Shared) (σ:St) (H:Hp) (E:Value->Shared->Prop),Inv X pins σ H s->(∀b∈fp,QM X pins H b)->tn i s.heap->J.go i H ->
  wpAny (model P w) X.A (pyNext (.ref it)) (fun r s1=>∃u,r=some u /\
   wpAny (model P w) X.A (letOwnedTupleGo tg (.ref it) u) (fun _ s2=>∃x H',Inv X pins σ H' s2/\RelV x u/\J.yld i H x H'/\tn (i+1) s2.heap/\∀b∈fp,H' b=none) E s1) E s
 done:∀(X:Cx),X.prog=P->X.w=w->X.K=K->X.calm=true->∀(i:Nat) (pins:List (Addr×Obj)) (s:Shared) (σ:St) (H:Hp) (E:Value->Shared->Prop),Inv X pins σ H s->(∀b∈fp,QM X pins H b)->tn i s.heap->J.stop i H ->
  wpAny (model P w) X.A (pyNext (.ref it)) (fun r s1=>r=none/\Inv X pins σ H s1) E s
 self:∀(A:Around) (i:Nat) (s:Shared) (Q:Value->Shared->Prop) (E:Value->Shared->Prop),tn i s.heap->Q (.ref it) s->wpAny (model P w) A (pyIter (.ref it)) Q E s
abbrev TI:=St->Hp->(It->Hp->Prop)->Prop
def PIE (X:Cx)(pins:List (Addr×Obj))(σ:St)(tg:Expr)(R:It->Hp->Prop)(itv:Value)(s2:Shared):Prop :=
 ∃(it:Addr) (fp:List Addr) (tn:Nat->Heap->Prop) (J:It) (H':Hp),itv=.ref it/\Inv X pins σ H' s2/\Turn X.prog X.w X.K tg J fp it tn/\tn 0 s2.heap/\(∀b∈fp,QM X pins H' b)/\R J H'
def PI (X:Cx)(tg iter:Expr)(wi:TI):Prop :=
 ∀(pins:List (Addr×Obj)) (s:Shared) (σ:St) (H:Hp) (R:It->Hp->Prop),Inv X pins σ H s->wi σ H R ->
  wpAny (model X.prog X.w) X.A (eval iter X.env) (fun v s1=>wpAny (model X.prog X.w) X.A (pyIter v) (PIE X pins σ tg R) X.xe s1) X.xe s
theorem zmL {M:Model}{A:Around}{E:Value->Shared->Prop}{s:Shared}{tg:Expr}{it:Addr}{u:Value}{o:Obj}{n:String}{vs:Array Value}{Q:Unit->Shared->Prop}(ho:s.heap.get? it=some o)(hc:o.cls=.type n)(hd:o.data=.fields vs)
    (hn:["enumerate","zip","dict_itemiterator","dict_reverseitemiterator","odict_iterator","itertools.zip_longest","itertools.pairwise"].contains n=false) (hQ:Q () s):wpAny M A (letOwnedTupleGo tg (.ref it) u) Q E s:=by
  unfold letOwnedTupleGo
  cases tg<;>first
    | exact wpAny_pure hQ
    | (cases u<;>first
        | exact wpAny_pure hQ
        | (refine wpAny_bind (wpAny_load ho ?_)
           rw [hc,hd]
           show wpAny M A (if (["enumerate","zip","dict_itemiterator","dict_reverseitemiterator","odict_iterator","itertools.zip_longest","itertools.pairwise"].contains n&&vs[0]?==some (rawInt _))=true then _ else _) Q E s
           rw [if_neg (by intro h;rw [hn,Bool.false_and] at h;cases h)]
           exact wpAny_pure hQ))
noncomputable def Itl (K:PySem.W.Frag)(a:Addr):It :=
 ⟨fun i H=>∃xs x,SqL K H a xs/\xs[i]?=some x,fun i H x H'=>H'=H/\∀xs,SqL K H a xs->xs[i]?=some x,fun i H=>∃xs,SqL K H a xs/\xs.length<=i⟩
noncomputable def Itr (lo:Int)(n:Nat):It:=⟨fun i _=>i<n,fun i H x H'=>H'=H/\x=.int (lo+i),fun i _=>n<=i⟩
theorem ziV {P:Program}{w:World}{K:PySem.W.Frag}{tg:Expr}(a it:Addr):Turn P w K tg (Itl K a) [it] it (fun i h=>h.IsListIter it a i) where
 mem:=by simp
 obj:=fun i h st b hb=>by
  have e:b=it:=by simpa using hb
  subst e
  obtain⟨o,e,c,d⟩:=st
  exact⟨o,e,fun v z=>by rw [d] at z;cases z⟩
 keep:=fun i h h' st k=>st.at fun o e=>k it (by simp) o e
 item:=by
  intro X hP hw hK hc i pins s σ H E I hf st hg
  subst hP hw hK
  obtain⟨xs,x,hq,hx⟩:=hg
  obtain⟨its,rv,p,hz⟩:=I.list hq
  obtain⟨u,hu,ru⟩:=rv.get hx
  obtain⟨f0,f1,f2,f3,f4,f5⟩:=hf it (by simp)
  refine wpAny_pyNext_list_item st p.isList (x:=u) (by simpa using hu) fun h' st' sb=>?_
  have I1:Inv X pins σ H { s with heap:=h' }:=I.turned (t':=s.toks) (fun b o hb e=>(sb.2 b hb).trans e) f0 f1 f3 f4 f5
  obtain⟨o,e,c,d⟩:=id st'
  exact⟨u,rfl,zmL (s:={ s with heap:=h' }) e c d (by decide) ⟨x,H,I1,ru,⟨rfl,fun ys hy=>by rw [I.list_inj hy hq];exact hx⟩,st',fun b hb=>(hf b hb).1⟩⟩
 done:=by
  intro X hP hw hK hc i pins s σ H E I hf st hg
  subst hP hw hK
  obtain⟨xs,hq,hx⟩:=hg
  obtain⟨its,rv,p,hz⟩:=I.list hq
  obtain⟨f0,f1,f2,f3,f4,f5⟩:=hf it (by simp)
  have hl:=rv.length
  exact wpAny_pyNext_list_end (I.ok.hd hc) st p.isList (by simp;omega) fun h' eb=>⟨rfl,I.turned (t':=s.toks) (fun b o hb e=>eb b o hb e) f0 f1 f3 f4 f5⟩
 self:=fun _ _ _ _ _ st h=>wpAny_pyIter_listiter st h
theorem zgN {P:Program}{w:World}{K:PySem.W.Frag}{tg:Expr}(it:Addr)(lo:Int)(n:Nat):Turn P w K tg (Itr lo n) [it] it (fun i h=>IsRangeIter h it (lo+(i:Nat)*1) ((n:Int)-(i:Nat)) 1) where
 mem:=by simp
 obj:=fun i h st b hb=>by
  have e:b=it:=by simpa using hb
  subst e
  exact⟨_,st,fun v z=>by
   have z':Data.fields _=Data.cell v:=z
   cases z'⟩
 keep:=fun i h h' st k=>k it (by simp) _ st
 item:=by
  intro X hP hw hK hc i pins s σ H E I hf st hg
  subst hP hw hK
  obtain⟨f0,f1,f2,f3,f4,f5⟩:=hf it (by simp)
  have W:=Walks.range (prog:=X.prog) (w:=X.w) (I.ok.hd hc) it lo 1 n
  refine W.item i s _ _ hg st fun v h' tk hv st' kk=>?_
  obtain⟨t,rfl⟩:=hv
  have I1:Inv X pins σ H { s with heap:=h',toks:=tk }:=I.turned (fun b o hb e=>kk b o (by simpa using hb) e) f0 f1 f3 f4 f5
  refine⟨_,rfl,zmL (s:={ s with heap:=h',toks:=tk }) (n:="range_iterator") st' rfl rfl (by decide) ⟨.int (lo+i),H,I1,⟨t,?_⟩,⟨rfl,rfl⟩,st',fun b hb=>(hf b hb).1⟩⟩
  rw [Int.mul_one]
 done:=by
  intro X hP hw hK hc i pins s σ H E I hf st hg
  subst hP hw hK
  obtain⟨f0,f1,f2,f3,f4,f5⟩:=hf it (by simp)
  exact wpAny_pyNext_range_end (I.ok.hd hc) st (by have:n<=i:=hg;omega) fun h' eb=>⟨rfl,I.turned (t':=s.toks) (fun b o hb e=>eb b o hb e) f0 f1 f3 f4 f5⟩
 self:=fun _ _ _ _ _ st h=>wpAny_pyIter_rangeiter st h
section
variable {X:Cx}{tg:Expr}
def zmM (K:PySem.W.Frag)(tl:TE):TI:=fun σ H R=>tl σ H fun x H1=>∃a,x=.ref a/\(∃xs,SqL K H1 a xs)/\R (Itl K a) H1
theorem zT {l:Expr}{tl:TE}(hl:PE X l tl):PI X tg l (zmM X.K tl):=by
 intro pins s σ H R I h
 refine thn (hl pins s σ H _ I h) fun v s1 ⟨x,H1,I1,r1,q1⟩=>?_
 obtain⟨a,e,⟨xs,hq⟩,q⟩:=q1
 subst e
 cases r1
 obtain⟨its,rv,p,hz⟩:=I1.list hq
 refine wpAny_pyIter_list p.isList ?_
 refine⟨s1.heap.objs.size,[s1.heap.objs.size],_,_,H1,rfl,I1.kept (t':=s1.toks) fun b o e=>Heap.get?_push_of_some _ e,ziV a _,⟨_,Heap.get?_push_size _ rfl,rfl,rfl⟩,fun b hb=>?_,q⟩
 have e:b=s1.heap.objs.size:=by simpa using hb
 subst e
 exact I1.fpOk (le_refl _) (I1.hok.fresh (le_refl _))
theorem zfi {pins:List (Addr×Obj)}{σ:St}{H:Hp}{s:Shared}{R:It->Hp->Prop}{E:Value->Shared->Prop}{lo hi:Int}{t u v:Tok}{tk:Nat}(I:Inv X pins σ H s)(h1:-(2^62)<=lo)(h2:lo<2^62)(h3:-(2^62)<=hi)(h4:hi<2^62)
  (q:R (Itr lo (hi-lo).toNat) H):wpAny (model X.prog X.w) X.A (pyIter (.ref s.heap.objs.size)) (PIE X pins σ tg R) E { s with heap:=s.heap.push { cls:=.type "range",data:=.fields #[.int lo t,.int hi u,.int 1 v] },toks:=tk }:=by
 refine wpAny_pyIter_range (IsRange.new ..) (small_one h1 h2 h3 h4) ?_
 have I1:Inv X pins σ H { s with heap:=s.heap.push { cls:=.type "range",data:=.fields #[.int lo t,.int hi u,.int 1 v] },toks:=tk }:=I.kept fun b o e=>Heap.get?_push_of_some _ e
 refine⟨(s.heap.push { cls:=.type "range",data:=.fields #[.int lo t,.int hi u,.int 1 v] }).objs.size,[(s.heap.push { cls:=.type "range",data:=.fields #[.int lo t,.int hi u,.int 1 v] }).objs.size],_,_,H,rfl,
  I1.kept (t':=tk) fun b o e=>Heap.get?_push_of_some _ e,zgN _ lo (hi-lo).toNat,?_,fun b hb=>?_,q⟩
 ·have e1:lo+((0:Nat):Int)*1=lo:=by simp
  have e2:(((hi-lo).toNat:Nat):Int)-((0:Nat):Int)=Builtin.Range.rangeSize lo hi 1:=by rw [rangeSize_one];split<;>omega
  show IsRangeIter _ _ (lo+((0:Nat):Int)*1) ((((hi-lo).toNat:Nat):Int)-((0:Nat):Int)) 1
  rw [e1,e2]
  exact Heap.get?_push_size _ rfl
 ·have e:b=(s.heap.push { cls:=.type "range",data:=.fields #[.int lo t,.int hi u,.int 1 v] }).objs.size:=by simpa using hb
  subst e
  exact I1.fpOk (le_refl _) (I1.hok.fresh (le_refl _))
def zob (ta:TA):TI:=fun σ H R=>ta σ H fun vs H1=>∃j:Int,vs=[.int j]/\-(2^62)<=j/\j<2^62/\R (Itr 0 j.toNat) H1
def zoc (ta:TA):TI:=fun σ H R=>ta σ H fun vs H1=>∃i j:Int,vs=[.int i,.int j]/\(-(2^62)<=i/\i<2^62/\-(2^62)<=j/\j<2^62)/\R (Itr i (j-i).toNat) H1
theorem qH {a:Expr}{ta:TA}{p pos:Pos}(hg:Gl X "range")(hm:X.mg "range"=none)(ha:PA X [a] ta)(hs:starEach [a] X.env=[(false,eval a X.env)]:=by rfl):PI X tg (.Call (.Name "range" p) [a] [] pos) (zob ta):=by
 intro pins s σ H R I h
 refine Call_ (Ym I hg hm boot_range (PyProof.Rows.callWith_type1 (thn (ha pos pins s σ H _ I h) fun us s1 ⟨vs,H1,I1,r1,q1⟩=>?_) hs rfl))
 obtain⟨j,e,q1,q2,q⟩:=q1
 subst e
 cases r1 with
 | cons r rr =>
  cases rr
  obtain⟨t,rfl⟩:=r
  exact call_range_1 (zfi I1 (by omega) (by omega) q1 q2 (by simpa using q))
theorem YQ {a b:Expr}{ta:TA}{p pos:Pos}(hg:Gl X "range")(hm:X.mg "range"=none)(ha:PA X [a,b] ta)(hs:starEach [a,b] X.env=[(false,eval a X.env),(false,eval b X.env)]:=by rfl)(hs2:starEach [b] X.env=[(false,eval b X.env)]:=by rfl) :
  PI X tg (.Call (.Name "range" p) [a,b] [] pos) (zoc ta):=by
 intro pins s σ H R I h
 refine Call_ (Ym I hg hm boot_range (PyProof.Rows.callWith_type1 (thn (ha pos pins s σ H _ I h) fun us s1 ⟨vs,H1,I1,r1,q1⟩=>?_) (by rw [hs,hs2]) (by rw [hs2];rfl)))
 obtain⟨i,j,e,⟨q1,q2,q3,q4⟩,q⟩:=q1
 subst e
 cases r1 with
 | cons r rr =>
  cases rr with
  | cons r' rr =>
   cases rr
   obtain⟨t,rfl⟩:=r
   obtain⟨t',rfl⟩:=r'
   exact call_range_2 (zfi I1 q1 q2 q3 q4 q)
def zo3 (wi:TI)(g:TG)(tb:TS):TS:=fun D σ H=>wi σ H fun J H1=>∃W:Nat->Nat->St->Hp->Prop,(∃m,W 0 m σ H1)/\∀i m σ H,W i m σ H ->
 (J.stop i H/\D.nx σ H)\/(J.go i H/\∃N:St->Hp->Prop,(∀ σ' H',N σ' H'->∃m',m'<m/\W (i+1) m' σ' H')/\∀x H',J.yld i H x H'->g x σ H' fun σ2 H2=>tb { D with nx:=N,ct:=N,bk:=D.nx } σ2 H2)
noncomputable def Qo (fp:List Addr)(h:Heap):List (Addr×Obj):=fp.filterMap fun b=>(h.get? b).map fun o=>(b,o)
theorem jN {fp:List Addr}{h:Heap}{b:Addr}{o:Obj}(hb:b∈fp)(e:h.get? b=some o):(b,o)∈Qo fp h:=List.mem_filterMap.mpr ⟨b,hb,by rw [e];rfl⟩
theorem ziW {fp:List Addr}{h:Heap}{p:Addr×Obj}(hp:p∈Qo fp h):p.1∈fp/\h.get? p.1=some p.2:=by
 obtain⟨b,hb,e⟩:=List.mem_filterMap.mp hp
 cases q:h.get? b with
 | none=>rw [q] at e;cases e
 | some o =>
  rw [q] at e
  have e':(b,o)=p:=Option.some.inj e
  subst e'
  exact⟨hb,q⟩
theorem Inv.pinned {pins:List (Addr×Obj)}{σ:St}{H:Hp}{s:Shared}{fp:List Addr}(I:Inv X pins σ H s)(hf:∀b∈fp,QM X pins H b)(ho:∀b∈fp,∃o,s.heap.get? b=some o/\∀v,o.data ≠ .cell v):Inv X (pins++Qo fp s.heap) σ H s :=
 I.pins_of fun p hp=>(List.mem_append.mp hp).elim (fun z=>I.pin p (mem_append_right _ z)) fun z=>by
  obtain⟨hb,e⟩:=ziW z
  obtain⟨f0,f1,f2,_⟩:=hf p.1 hb
  obtain⟨o,e',d⟩:=ho p.1 hb
  rw [e] at e';cases e'
  exact⟨e,f0,f1,f2,d⟩
theorem Inv.unpinned {pins pl:List (Addr×Obj)}{σ:St}{H:Hp}{s:Shared}(I:Inv X (pins++pl) σ H s):Inv X pins σ H s:=I.pins_of fun p hp=>I.pin p (mem_append_right _ (mem_append_left _ hp))
theorem qo {iter:Expr}{body:List Stmt}{wi:TI}{g:TG}{tb:TS}{pos:Pos}(hp:PassesOwn (model X.prog X.w) X.A X.env X.xe)(hc:X.calm=true)(hi:PI X tg iter wi)(hg:PG X tg g)(hb:PSs X body tb)
  (hs:∀x,foldedSetIterable iter X.env x=pure x:=by intro _;rfl):PS X (.For tg iter body [] pos) (zo3 wi g tb):=by
 intro pins s σ H D I h
 refine wpAny_For (thn (hi pins s σ H _ I h) fun v s1 h1=>thn h1 fun itv s2 h2=>?_) hs
 obtain⟨it,fp,tn,J,H2,e,I2,T,st2,f2,W,⟨m0,w0⟩,turn⟩:=h2
 subst e
 have stat:∀{H':Hp},(∀b∈fp,H' b=none)->∀b∈fp,QM X pins H' b:=fun hn b hb=>⟨hn b hb,(f2 b hb).2⟩
 refine codeAny_forLoop_any (fun n s'=>∃i σ' H',Inv X pins σ' H' s'/\tn i s'.heap/\(∀b∈fp,H' b=none)/\W i n σ' H') ?_ m0 ⟨0,σ,H2,I2,st2,fun b hb=>(f2 b hb).1,w0⟩
 rintro n s3 ⟨i,σ3,H3,I3,st3,fr3,w3⟩
 rcases turn i n σ3 H3 w3 with ⟨stop,qn⟩ | ⟨go,N,hN,step⟩
 ·refine wpAny_passesOwn hp (thn (T.done X rfl rfl rfl hc i pins s3 σ3 H3 X.xe I3 (stat fr3) st3 stop) fun r s4 ⟨hr,I4⟩=>?_)
  subst hr
  exact wpAny_execs_nil ⟨σ3,H3,I4,qn⟩
 ·refine wpAny_passesOwn hp (thn (T.item X rfl rfl rfl hc i pins s3 σ3 H3 X.xe I3 (stat fr3) st3 go) fun r s4 ⟨u,hr,h4⟩=>?_)
  subst hr
  refine wpAny_passesOwn hp (thn h4 fun _ s5 ⟨x,H5,I5,r5,y5,st5,fr5⟩=>?_)
  have I5':=I5.pinned (stat fr5) (T.obj _ _ st5)
  refine wpAny_passesOwn hp (thn (hg _ s5 σ3 H5 x u _ I5' r5 (step x H5 y5)) fun _ s6 ⟨σ6,H6,I6,q6⟩=>?_)
  refine wpAny_passesOwn hp (thn (hb _ s6 σ6 H6 _ I6 q6) fun f s7 q7=>?_)
  have again:∀{σ7:St} {H7:Hp},Inv X (pins++Qo fp s5.heap) σ7 H7 s7->N σ7 H7->∃m,m<n/\∃i σ' H',Inv X pins σ' H' s7/\tn i s7.heap/\(∀b∈fp,H' b=none)/\W i m σ' H':=fun {σ7 H7} I7 n7=>by
   obtain⟨m',hm,w7⟩:=hN σ7 H7 n7
   refine⟨m',hm,i+1,σ7,H7,I7.unpinned,T.keep _ _ _ st5 fun b hb o e=>(I7.pin (b,o) (mem_append_right _ (mem_append_right _ (jN hb e)))).1,fun b hb=>?_,w7⟩
   obtain⟨o,e,d⟩:=T.obj _ _ st5 b hb
   exact(I7.pin (b,o) (mem_append_right _ (mem_append_right _ (jN hb e)))).2.1
  cases f with
  | next=>obtain⟨σ7,H7,I7,n7⟩:=q7;exact again I7 n7
  | cont=>obtain⟨σ7,H7,I7,n7⟩:=q7;exact again I7 n7
  | brk=>obtain⟨σ7,H7,I7,q7⟩:=q7;exact⟨σ7,H7,I7.unpinned,q7⟩
  | ret v=>obtain⟨x7,σ7,H7,I7,r7,q7⟩:=q7;exact⟨x7,σ7,H7,I7.unpinned,r7,q7⟩
end
theorem j9 {K:PySem.W.Frag}{a:Addr}{xs:List V}{g:TG}{tb:TS}{D:Ends}{σ:St}{H:Hp}(Pv:Nat->St->Hp->Prop)(h0:Pv 0 σ H)(hl:∀i σ H,i<=xs.length->Pv i σ H->SqL K H a xs)
  (hs:∀i x σ H,xs[i]?=some x->Pv i σ H->g x σ H fun σ2 H2=>tb { D with nx:=Pv (i+1),ct:=Pv (i+1),bk:=D.nx } σ2 H2) (hd:∀ σ H,Pv xs.length σ H->D.nx σ H) :
  ∃W:Nat->Nat->St->Hp->Prop,(∃m,W 0 m σ H)/\∀i m σ H,W i m σ H ->
   ((Itl K a).stop i H/\D.nx σ H)\/((Itl K a).go i H/\∃N:St->Hp->Prop,(∀ σ' H',N σ' H'->∃m',m'<m/\W (i+1) m' σ' H')/\∀x H',(Itl K a).yld i H x H'->g x σ H' fun σ2 H2=>tb { D with nx:=N,ct:=N,bk:=D.nx } σ2 H2):=by
 refine⟨fun i m σ H=>m=xs.length-i/\i<=xs.length/\Pv i σ H,⟨xs.length,by simp,zero_le _,h0⟩,?_⟩
 rintro i m σ H ⟨rfl,hi,p⟩
 have q:=hl i σ H hi p
 by_cases hlt:i<xs.length
 ·refine .inr ⟨⟨xs,xs[i],q,by simp [hlt]⟩,Pv (i+1),fun σ' H' p'=>⟨xs.length-(i+1),by omega,rfl,hlt,p'⟩,fun x H' y=>?_⟩
  obtain⟨e,y⟩:=y
  subst e
  exact hs i x σ _ (y xs q) p
 ·have e:i=xs.length:=by omega
  subst e
  exact .inl ⟨⟨xs,q,le_refl _⟩,hd σ H p⟩
theorem qz {lo:Int}{n:Nat}{g:TG}{tb:TS}{D:Ends}{σ:St}{H:Hp}(Pv:Nat->St->Hp->Prop)(h0:Pv 0 σ H)
  (hs:∀i σ H,i<n->Pv i σ H->g (.int (lo+i)) σ H fun σ2 H2=>tb { D with nx:=Pv (i+1),ct:=Pv (i+1),bk:=D.nx } σ2 H2) (hd:∀ σ H,Pv n σ H->D.nx σ H) :
  ∃W:Nat->Nat->St->Hp->Prop,(∃m,W 0 m σ H)/\∀i m σ H,W i m σ H ->
   ((Itr lo n).stop i H/\D.nx σ H)\/((Itr lo n).go i H/\∃N:St->Hp->Prop,(∀ σ' H',N σ' H'->∃m',m'<m/\W (i+1) m' σ' H')/\∀x H',(Itr lo n).yld i H x H'->g x σ H' fun σ2 H2=>tb { D with nx:=N,ct:=N,bk:=D.nx } σ2 H2):=by
 refine⟨fun i m σ H=>m=n-i/\i<=n/\Pv i σ H,⟨n,by simp,zero_le _,h0⟩,?_⟩
 rintro i m σ H ⟨rfl,hi,p⟩
 by_cases hlt:i<n
 ·refine .inr ⟨hlt,Pv (i+1),fun σ' H' p'=>⟨n-(i+1),by omega,rfl,hlt,p'⟩,fun x H' y=>?_⟩
  obtain⟨e,y⟩:=y
  subst e y
  exact hs i σ _ hlt p
 ·have e:i=n:=by omega
  subst e
  exact .inl ⟨le_refl _,hd σ H p⟩
abbrev R2:=V->V->Hp->VK->Prop
def OpR (X:Cx)(f:Value->Value->Sem Value)(r:R2):Prop :=
 ∀(pins:List (Addr×Obj)) (s:Shared) (σ:St) (H:Hp) (x y:V) (v u:Value) (Q:VK),Inv X pins σ H s->RelV x v->RelV y u->r x y H Q ->
  wpAny (model X.prog X.w) X.A (f v u) (EP X pins σ Q) X.xe s
def UnR (X:Cx)(f:Value->Sem Value)(r:V->Hp->VK->Prop):Prop :=
 ∀(pins:List (Addr×Obj)) (s:Shared) (σ:St) (H:Hp) (x:V) (v:Value) (Q:VK),Inv X pins σ H s->RelV x v->r x H Q ->
  wpAny (model X.prog X.w) X.A (f v) (EP X pins σ Q) X.xe s
def yr (X:Cx)(f:Value)(r:List V->Hp->VK->Prop):Prop :=
 ∀(pins:List (Addr×Obj)) (s:Shared) (σ:St) (H:Hp) (xs:List V) (us:List Value) (Q:VK),Inv X pins σ H s->Vals xs us->r xs H Q ->
  wpAny (model X.prog X.w) X.A (call f us) (EP X pins σ Q) X.xe s
def zo4 (X:Cx)(r:V->Hp->(Bool->Hp->Prop)->Prop):Prop :=
 ∀(pins:List (Addr×Obj)) (s:Shared) (σ:St) (H:Hp) (x:V) (v:Value) (Q:Bool->Hp->Prop),Inv X pins σ H s->RelV x v->r x H Q ->
  wpAny (model X.prog X.w) X.A (truthy v) (TP X pins σ Q) X.xe s
def tOp (r:R2)(ta tb:TE):TE:=fun σ H Q=>ta σ H fun x H1=>tb σ H1 fun y H2=>r x y H2 Q
def tUn (r:V->Hp->VK->Prop)(ta:TE):TE:=fun σ H Q=>ta σ H fun x H1=>r x H1 Q
def rI (C:Int->Int->Prop)(g:Int->Int->V):R2:=fun x y H Q=>∃i j,x=.int i/\y=.int j/\C i j/\Q (g i j) H
def rI0 (g:Int->Int->V):R2:=fun x y H Q=>∃i j,x=.int i/\y=.int j/\Q (g i j) H
def rU (g:Int->V):V->Hp->VK->Prop:=fun x H Q=>∃i,x=.int i/\Q (g i) H
section
variable {X:Cx}{a b c:Expr}{ta tb tc:TE}{pos:Pos}
theorem zng (ha:PE X a ta)(hb:PE X b tb){pins:List (Addr×Obj)}{s:Shared}{σ:St}{H:Hp}{R:V->V->Hp->Prop}(I:Inv X pins σ H s)
  (h:ta σ H fun x H1=>tb σ H1 fun y H2=>R x y H2) {Q:Value->Shared->Prop} {f:Value->Value->Sem Value}
  (hf:∀v u s2 x y H2,Inv X pins σ H2 s2->RelV x v->RelV y u->R x y H2->wpAny (model X.prog X.w) X.A (f v u) Q X.xe s2) :
  wpAny (model X.prog X.w) X.A (eval a X.env) (fun v s₁=>wpAny (model X.prog X.w) X.A (eval b X.env) (fun u s₂=>wpAny (model X.prog X.w) X.A (f v u) Q X.xe s₂) X.xe s₁) X.xe s:=by
 refine thn (ha pins s σ H _ I h) fun v s1 ⟨x,H1,I1,r1,q1⟩=>?_
 refine thn (hb pins s1 σ H1 _ I1 q1) fun u s2 ⟨y,H2,I2,r2,q2⟩=>?_
 exact hf v u s2 x y H2 I2 r1 r2 q2
theorem zD {op:Operator}{r:R2}(ho:OpR X (binaryOp op) r)(ha:PE X a ta)(hb:PE X b tb):PE X (.BinOp a op b pos) (tOp r ta tb):=by
 intro pins s σ H Q I h
 exact wpAny_BinOp (zng ha hb I h fun v u s2 x y H2 I2 rx ry q=>ho pins s2 σ H2 x y v u Q I2 rx ry q)
theorem zod {op:UnaryOp}{r:V->Hp->VK->Prop}(ho:UnR X (unaryOp op) r)(ha:PE X a ta):PE X (.UnaryOp op a pos) (tUn r ta):=by
 intro pins s σ H Q I h
 exact UnaryOp_ (thn (ha pins s σ H _ I h) fun v s1 ⟨x,H1,I1,r1,q1⟩=>ho pins s1 σ H1 x v Q I1 r1 q1)
theorem opI {f:Value->Value->Sem Value}{C:Int->Int->Prop}{g:Int->Int->Int}
  (rule:∀(i j:Int) (t u:Tok) (s:Shared) (Q:Value->Shared->Prop) (E:Value->Shared->Prop),C i j->Q (.int (g i j) s.toks) { s with toks:=s.toks+1 }->wpAny (model X.prog X.w) X.A (f (.int i t) (.int j u)) Q E s) :
  OpR X f (rI C fun i j=>.int (g i j)):=by
 intro pins s σ H x y v u Q I rx ry h
 obtain⟨i,j,rfl,rfl,hc,q⟩:=h
 obtain⟨t,rfl⟩:=rx
 obtain⟨t',rfl⟩:=ry
 exact rule i j t t' s _ _ hc ⟨.int (g i j),H,I.tok _,⟨_,rfl⟩,q⟩
theorem zoe {f:Value->Value->Sem Value}{g:Int->Int->Int}
  (rule:∀(i j:Int) (t u:Tok) (s:Shared) (Q:Value->Shared->Prop) (E:Value->Shared->Prop),Q (.int (g i j) s.toks) { s with toks:=s.toks+1 }->wpAny (model X.prog X.w) X.A (f (.int i t) (.int j u)) Q E s) :
  OpR X f (rI0 fun i j=>.int (g i j)):=by
 intro pins s σ H x y v u Q I rx ry h
 obtain⟨i,j,rfl,rfl,q⟩:=h
 obtain⟨t,rfl⟩:=rx
 obtain⟨t',rfl⟩:=ry
 exact rule i j t t' s _ _ ⟨.int (g i j),H,I.tok _,⟨_,rfl⟩,q⟩
theorem znh {f:Value->Value->Sem Value}{g:Int->Int->Bool}
  (rule:∀(i j:Int) (t u:Tok) (s:Shared) (Q:Value->Shared->Prop) (E:Value->Shared->Prop),Q (.bool (g i j)) s->wpAny (model X.prog X.w) X.A (f (.int i t) (.int j u)) Q E s) :
  OpR X f (rI0 fun i j=>.bl (g i j)):=by
 intro pins s σ H x y v u Q I rx ry h
 obtain⟨i,j,rfl,rfl,q⟩:=h
 obtain⟨t,rfl⟩:=rx
 obtain⟨t',rfl⟩:=ry
 exact rule i j t t' s _ _ ⟨.bl (g i j),H,I,rfl,q⟩
def zo5 (i j:Int):Prop:=0<j/\j<1073741824
theorem qp:OpR X (binaryOp .Add) (rI0 fun i j=>.int (i+j)):=zoe fun _ _ _ _ _ _ _ q=>add_int q
theorem J2:OpR X (binaryOp .Sub) (rI0 fun i j=>.int (i-j)):=zoe fun _ _ _ _ _ _ _ q=>sub_int q
theorem jO:OpR X (binaryOp .Mod) (rI (fun _ j=>0<j) fun i j=>.int (i%j)):=opI fun i j _ _ _ _ _ hc q=>by
 have h1:(0:Int)<j:=hc
 exact mod_int' (by omega) (by rw [Int.fmod_eq_emod_of_nonneg i (by omega)];exact q)
theorem unI {f:Value->Sem Value}{g:Int->Int}
  (rule:∀(i:Int) (t:Tok) (s:Shared) (Q:Value->Shared->Prop) (E:Value->Shared->Prop),Q (.int (g i) s.toks) { s with toks:=s.toks+1 }->wpAny (model X.prog X.w) X.A (f (.int i t)) Q E s) :
  UnR X f (rU fun i=>.int (g i)):=by
 intro pins s σ H x v Q I rx h
 obtain⟨i,rfl,q⟩:=h
 obtain⟨t,rfl⟩:=rx
 exact rule i t s _ _ ⟨.int (g i),H,I.tok _,⟨_,rfl⟩,q⟩
theorem zni:UnR X (unaryOp .USub) (rU fun i=>.int (-i)):=unI fun _ _ _ _ _ q=>neg_int q
end
noncomputable def zof:V->V->Bool
 | .non,.non=>true | .non,.int _=>true | .int _,.non=>true | .non,.bl _=>true | .bl _,.non=>true | .non,.str _=>true | .str _,.non=>true
 | .int _,.int _=>true | .bl _,.bl _=>true | .str _,.str _=>true | .byt _,.byt _=>true
 | .int _,.str _=>true | .str _,.int _=>true | .bl _,.str _=>true | .str _,.bl _=>true
 | _,_=>false
def rEq:R2:=fun x y H Q=>zof x y=true/\Q (.bl (decide (x=y))) H
def rNe:R2:=fun x y H Q=>zof x y=true/\Q (.bl (!decide (x=y))) H
theorem zek {i j:Int}:decide (V.int i=V.int j)=(i==j):=by
 rw [Bool.eq_iff_iff]
 simp
theorem zj8 {i j:Bool}:decide (V.bl i=V.bl j)=(i==j):=by
 rw [Bool.eq_iff_iff]
 simp
theorem zh7 {i j:Str}:decide (V.str i=V.str j)=(i==j):=by
 rw [Bool.eq_iff_iff]
 simp
theorem zh8 {i j:Array UInt8}:decide (V.byt i=V.byt j)=(i.toList==j.toList):=by
 rw [Bool.eq_iff_iff]
 cases i
 cases j
 simp
section
variable {X:Cx}{a b c:Expr}{ta tb tc:TE}{pos:Pos}
theorem qq {pins:List (Addr×Obj)}{σ:St}{H:Hp}{s:Shared}{Q:VK}{k k':Bool}(I:Inv X pins σ H s)(q:Q (.bl k) H)(e:k=k'):EP X pins σ Q (.bool k') s:=by
 subst e
 exact⟨.bl k,H,I,rfl,q⟩
theorem Js:OpR X (compareOp .Eq) rEq:=by
 intro pins s σ H x y v u Q I rx ry h
 obtain⟨hs,q⟩:=h
 cases x with
 | non =>
  cases rx
  cases y with
  | non=>cases ry;exact PySem.EqNone.eq_none_none (qq I q (by simp))
  | bl j=>cases ry;exact PySem.EqNone.eq_none_bool (qq I q (by simp))
  | int j=>obtain⟨t',rfl⟩:=ry;exact PySem.EqNone.eq_none_int (qq I q (by simp))
  | str j=>obtain⟨t',rfl⟩:=ry;exact PySem.EqNone.eq_none_str (qq I q (by simp))
  | _=>exact absurd (show false=true from hs) Bool.false_ne_true
 | bl i =>
  cases rx
  cases y with
  | non=>cases ry;exact PySem.EqNone.eq_bool_none (qq I q (by simp))
  | bl j=>cases ry;exact eq_bool (qq I q zj8)
  | str j=>obtain⟨t',rfl⟩:=ry;exact PySem.EqMixed.eq_bool_str (qq I q (by simp))
  | _=>exact absurd (show false=true from hs) Bool.false_ne_true
 | int i =>
  obtain⟨t,rfl⟩:=rx
  cases y with
  | non=>cases ry;exact PySem.EqNone.eq_int_none (qq I q (by simp))
  | int j=>obtain⟨t',rfl⟩:=ry;exact eq_int (qq I q zek)
  | str j=>obtain⟨t',rfl⟩:=ry;exact PySem.EqMixed.eq_int_str (qq I q (by simp))
  | _=>exact absurd (show false=true from hs) Bool.false_ne_true
 | str i =>
  obtain⟨t,rfl⟩:=rx
  cases y with
  | non=>cases ry;exact PySem.EqNone.eq_str_none (qq I q (by simp))
  | bl j=>cases ry;exact PySem.EqMixed.eq_str_bool (qq I q (by simp))
  | int j=>obtain⟨t',rfl⟩:=ry;exact PySem.EqMixed.eq_str_int (qq I q (by simp))
  | str j=>obtain⟨t',rfl⟩:=ry;exact eq_str (qq I q zh7)
  | _=>exact absurd (show false=true from hs) Bool.false_ne_true
 | byt i =>
  obtain⟨t,rfl⟩:=rx
  cases y with
  | byt j=>obtain⟨t',rfl⟩:=ry;exact PySem.W.eq_bytes (qq I q zh8)
  | _=>exact absurd (show false=true from hs) Bool.false_ne_true
 | _=>cases y<;>exact absurd (show false=true from hs) Bool.false_ne_true
theorem QN:OpR X (compareOp .NotEq) rNe:=by
 intro pins s σ H x y v u Q I rx ry h
 obtain⟨hs,q⟩:=h
 cases x with
 | non =>
  cases rx
  cases y with
  | non=>cases ry;exact PySem.EqNone.ne_none_none (qq I q (by simp))
  | bl j=>cases ry;exact PySem.EqNone.ne_none_bool (qq I q (by simp))
  | int j=>obtain⟨t',rfl⟩:=ry;exact PySem.EqNone.ne_none_int (qq I q (by simp))
  | str j=>obtain⟨t',rfl⟩:=ry;exact PySem.EqNone.ne_none_str (qq I q (by simp))
  | _=>exact absurd (show false=true from hs) Bool.false_ne_true
 | bl i =>
  cases rx
  cases y with
  | non=>cases ry;exact PySem.EqNone.ne_bool_none (qq I q (by simp))
  | bl j=>cases ry;exact ne_bool (qq I q (congrArg not zj8))
  | str j=>obtain⟨t',rfl⟩:=ry;exact PySem.EqMixed.ne_bool_str (qq I q (by simp))
  | _=>exact absurd (show false=true from hs) Bool.false_ne_true
 | int i =>
  obtain⟨t,rfl⟩:=rx
  cases y with
  | non=>cases ry;exact PySem.EqNone.ne_int_none (qq I q (by simp))
  | int j=>obtain⟨t',rfl⟩:=ry;exact ne_int (qq I q (congrArg not zek))
  | str j=>obtain⟨t',rfl⟩:=ry;exact PySem.EqMixed.ne_int_str (qq I q (by simp))
  | _=>exact absurd (show false=true from hs) Bool.false_ne_true
 | str i =>
  obtain⟨t,rfl⟩:=rx
  cases y with
  | non=>cases ry;exact PySem.EqNone.ne_str_none (qq I q (by simp))
  | bl j=>cases ry;exact PySem.EqMixed.ne_str_bool (qq I q (by simp))
  | int j=>obtain⟨t',rfl⟩:=ry;exact PySem.EqMixed.ne_str_int (qq I q (by simp))
  | str j=>obtain⟨t',rfl⟩:=ry;exact ne_str (qq I q (congrArg not zh7))
  | _=>exact absurd (show false=true from hs) Bool.false_ne_true
 | byt i =>
  obtain⟨t,rfl⟩:=rx
  cases y with
  | byt j=>obtain⟨t',rfl⟩:=ry;exact PySem.W.ne_bytes (qq I q (congrArg not zh8))
  | _=>exact absurd (show false=true from hs) Bool.false_ne_true
 | _=>cases y<;>exact absurd (show false=true from hs) Bool.false_ne_true
theorem zog:OpR X (compareOp .Lt) (rI0 fun i j=>.bl (decide (i<j))):=znh fun _ _ _ _ _ _ _ q=>lt_int q
theorem zh9:OpR X (compareOp .LtE) (rI0 fun i j=>.bl (decide (i<=j))):=znh fun _ _ _ _ _ _ _ q=>le_int q
theorem zoh:OpR X (compareOp .Gt) (rI0 fun i j=>.bl (decide (j<i))):=znh fun _ _ _ _ _ _ _ q=>gt_int q
theorem qc (b:Expr){op:CmpOp}(h:op ≠ .In:=by decide)(h2:op ≠ .NotIn:=by decide):behindInMarks op b=false:=by
 have e1:(op==CmpOp.In)=false:=by cases op<;>first | rfl | exact absurd rfl h
 have e2:(op==CmpOp.NotIn)=false:=by cases op<;>first | rfl | exact absurd rfl h2
 cases b<;>simp [behindInMarks,e1,e2]
theorem YR {op:CmpOp}{r:R2}(ho:OpR X (compareOp op) r)(ha:PE X a ta)(hb:PE X b tb)(hm:behindInMarks op b=false):PE X (.Compare a [op] [b] pos) (tOp r ta tb):=by
 intro pins s σ H Q I h
 exact wpAny_Compare1 (zng ha hb I h fun v u s2 x y H2 I2 rx ry q=>ho pins s2 σ H2 x y v u Q I2 rx ry q) hm
def zmN (t:TE):TT:=fun σ H Q=>t σ H fun x H'=>∃k,x=.bl k/\Q k H'
theorem zQ {op:CmpOp}{r:R2}(ho:OpR X (compareOp op) r)(ha:PE X a ta)(hb:PE X b tb)(hm:behindInMarks op b=false):PT X (.Compare a [op] [b] pos) (zmN (tOp r ta tb)):=by
 intro pins s σ H Q I h
 refine wpAny_isTrue_Compare1 (thn (ha pins s σ H _ I h) fun v s1 ⟨x,H1,I1,r1,q1⟩=>thn (hb pins s1 σ H1 _ I1 q1) fun u s2 ⟨y,H2,I2,r2,q2⟩ =>
  thn (ho pins s2 σ H2 x y v u _ I2 r1 r2 q2) fun c s3 ⟨z,H3,I3,r3,k,e,q3⟩=>?_) hm
 subst e
 cases r3
 exact wpAny_truthy_bool ⟨H3,I3,q3⟩
def znj (r r':R2)(ta tb tc:TE):TE:=fun σ H Q=>ta σ H fun x H1=>tb σ H1 fun y H2=>r x y H2 fun z H3=>∃k,z=.bl k /\
 (if k=true then tc σ H3 fun w' H4=>r' y w' H4 Q else Q (.bl false) H3)
theorem zfj {op op':CmpOp}{r r':R2}(ho:OpR X (compareOp op) r)(ho':OpR X (compareOp op') r')(ha:PE X a ta)(hb:PE X b tb)(hc:PE X c tc)
  (hm:lastMarks [op,op'] [b,c]=false:=by with_unfolding_all rfl):PT X (.Compare a [op,op'] [b,c] pos) (zmN (znj r r' ta tb tc)):=by
 intro pins s σ H Q I h
 refine isTrue_chain (thn (ha pins s σ H _ I h) fun v s1 ⟨x,H1,I1,r1,q1⟩=>test_link (thn (hb pins s1 σ H1 _ I1 q1) fun u s2 ⟨y,H2,I2,r2,q2⟩ =>
  thn (ho pins s2 σ H2 x y v u _ I2 r1 r2 q2) fun d s3 ⟨z,H3,I3,r3,k,e,q3⟩=>?_)) hm
 subst e
 cases r3
 refine wpAny_truthy_bool ?_
 cases k with
 | false =>
  obtain⟨k',e',q'⟩:=q3
  cases e'
  exact ite_ff ⟨H3,I3,q'⟩
 | true =>
  refine ite_tt (test_last (thn (hc pins s3 σ H3 _ I3 q3) fun w' s4 ⟨z',H4,I4,r4,q4⟩=>thn (ho' pins s4 σ H4 y z' u w' _ I4 r2 r4 q4) fun d' s5 ⟨z2,H5,I5,r5,k2,e2,q5⟩=>?_))
  subst e2
  cases r5
  exact wpAny_truthy_bool ⟨H5,I5,q5⟩
def znk (K:PySem.W.Frag)(x:V)(H:Hp)(k:Bool):Prop :=
 match x with
 | .non=>k=false
 | .bl b=>k=b
 | .int i=>k=(i != 0)
 | .str y=>y.length<=sizeLine/\k=((y.length:Int) != 0)
 | .byt y=>y.size<=sizeLine/\k=((y.size:Int) != 0)
 | .ref p=>(∃xs,SqL K H p xs/\k=!xs.isEmpty)\/(∃xs,SqT K H p xs/\k=!xs.isEmpty)\/∃kvs,H p=some (.dK kvs)/\k=!kvs.isEmpty
 | _=>False
theorem zgO {κ:Type}{kvs:List (κ × V)}{vs:List (κ × Value)}(r:KV kvs vs):(!vs.isEmpty)=!kvs.isEmpty:=by
 cases r<;>rfl
theorem zbH {xs:List V}{its:List Value}(r:Vals xs its):(!its.toArray.isEmpty)=!xs.isEmpty:=by
 cases r<;>simp
theorem Yn:(sizeLine:Nat)<2^63:=by rw [sizeLine_eq];decide
theorem znl:zo4 X (fun x H Q=>∃k,znk X.K x H k/\Q k H):=by
 intro pins s σ H x v Q I rx h
 obtain⟨k,e,q⟩:=h
 have hl:=Yn
 have hs:sizeLine=16777216:=sizeLine_eq
 cases x with
 | non =>
  cases rx
  have e':k=false:=e
  subst e'
  exact truthy_none ⟨H,I,q⟩
 | bl b =>
  cases rx
  have e':k=b:=e
  subst e'
  exact wpAny_truthy_bool ⟨H,I,q⟩
 | int i =>
  obtain⟨t,rfl⟩:=rx
  have e':k=(i != 0):=e
  subst e'
  exact PySem.P.truthy_int ⟨H,I,q⟩
 | str y =>
  obtain⟨t,rfl⟩:=rx
  obtain⟨hy,e'⟩:y.length<=sizeLine/\k=((y.length:Int) != 0):=e
  subst e'
  exact PySem.P.truthy_str (by omega) ⟨H,I.tok _,q⟩
 | byt y =>
  obtain⟨t,rfl⟩:=rx
  obtain⟨hy,e'⟩:y.size<=sizeLine/\k=((y.size:Int) != 0):=e
  subst e'
  exact PySem.W.truthy_bytes (by omega) ⟨H,I.tok _,q⟩
 | ref p =>
  cases rx
  have e':(∃xs,SqL X.K H p xs/\k=!xs.isEmpty)\/(∃xs,SqT X.K H p xs/\k=!xs.isEmpty)\/∃kvs,H p=some (.dK kvs)/\k=!kvs.isEmpty:=e
  rcases e' with ⟨xs,hx,e'⟩ | ⟨xs,hx,e'⟩ | ⟨kvs,hx,e'⟩
  ·subst e'
   obtain⟨its,r,pl,hz⟩:=I.list hx
   have hlen:=r.length
   exact wpAny_truthy_list pl.isList (by simp only [size_toArray];omega) ⟨H,I.tok _,by rw [zbH r];exact q⟩
  ·subst e'
   obtain⟨its,r,pl,hz⟩:=I.tuple hx
   have hlen:=r.length
   exact truthy_tuple pl (by simp only [size_toArray];omega) ⟨H,I.tok _,by rw [zbH r];exact q⟩
  ·subst e'
   obtain⟨hz,hS,vs,r,m⟩:kvs.length<=sizeLine/\(p==sysModules)=false/\∃vs,KV kvs vs/\s.heap.DictOf (zY X.prog X.w) p vs:=I.hok p _ hx
   have hlen:kvs.length=vs.length:=Paired.length r
   exact wpAny_truthy_dict hS m (by omega) ⟨H,I.tok _,by rw [zgO r];exact q⟩
 | _=>exact(show False from e).elim
theorem J9 (ha:PE X a ta)(he:∀whole,isTrue a X.env whole=(do let v <- whole;standAt a.pos;holding [v] (truthy v))) :
  PT X a (fun σ H Q=>ta σ H fun x H'=>∃k,znk X.K x H' k/\Q k H'):=by
 intro pins s σ H Q I h
 exact isTrue_plain (thn (ha pins s σ H _ I h) fun v s1 ⟨x,H1,I1,r1,q1⟩=>znl pins s1 σ H1 x v Q I1 r1 q1) (he _)
theorem zgP:OpR X (binaryOp .Add) (fun x y H Q=>∃i j,x=.str i/\y=.str j/\i.length+j.length<=sizeLine/\Q (.str (i++j)) H):=by
 intro pins s σ H x y v u Q I rx ry h
 obtain⟨i,j,rfl,rfl,hz,q⟩:=h
 obtain⟨t,rfl⟩:=rx
 obtain⟨t',rfl⟩:=ry
 exact add_str (fun t' tk=>⟨.str (i++j),H,I.tok _,⟨_,rfl⟩,q⟩) hz
theorem vals1 {x:V}{us:List Value}(r:Vals [x] us):∃u,us=[u]/\RelV x u:=by
 cases r with
 | cons r1 r2=>cases r2;exact⟨_,rfl,r1⟩
theorem vals2 {x y:V}{us:List Value}(r:Vals [x,y] us):∃u w',us=[u,w']/\RelV x u/\RelV y w':=by
 cases r with
 | cons r1 r2 =>
  cases r2 with
  | cons r3 r4=>cases r4;exact⟨_,_,rfl,r1,r3⟩
theorem Za (hc:X.calm=true):yr X (.builtin "max") (fun xs H Q=>∃i j,xs=[.int i,.int j]/\Q (.int (if j>i then j else i)) H):=by
 intro pins s σ H xs us Q I r h
 obtain⟨i,j,rfl,q⟩:=h
 obtain⟨u,w',rfl,⟨t,rfl⟩,⟨t',rfl⟩⟩:=vals2 r
 refine max_two_ints (I.ok.hd hc) fun h' tk k=>⟨_,H,I.kept k,?_,q⟩
 by_cases hj:j>i
 ·rw [if_pos hj,if_pos hj];exact⟨_,rfl⟩
 ·rw [if_neg hj,if_neg hj];exact⟨_,rfl⟩
theorem YS (hc:X.calm=true):yr X (.builtin "min") (fun xs H Q=>∃i j,xs=[.int i,.int j]/\Q (.int (if j<i then j else i)) H):=by
 intro pins s σ H xs us Q I r h
 obtain⟨i,j,rfl,q⟩:=h
 obtain⟨u,w',rfl,⟨t,rfl⟩,⟨t',rfl⟩⟩:=vals2 r
 refine min_two_ints (I.ok.hd hc) fun h' tk k=>⟨_,H,I.kept k,?_,q⟩
 by_cases hj:j<i
 ·rw [if_pos hj,if_pos hj];exact⟨_,rfl⟩
 ·rw [if_neg hj,if_neg hj];exact⟨_,rfl⟩
theorem ziX:yr X (.type "int") (fun xs H Q=>(∃i,xs=[.int i]/\Q (.int i) H)\/∃k,xs=[.bl k]/\Q (.int (if k then 1 else 0)) H):=by
 intro pins s σ H xs us Q I r h
 rcases h with ⟨i,rfl,q⟩ | ⟨k,rfl,q⟩
 ·obtain⟨u,rfl,t,rfl⟩:=vals1 r
  exact call_int_int ⟨.int i,H,I,⟨_,rfl⟩,q⟩
 ·obtain⟨u,rfl,r1⟩:=vals1 r
  cases r1
  exact call_int_bool ⟨.int (if k then 1 else 0),H,I.tok _,⟨_,rfl⟩,q⟩
theorem QO:yr X (.type "str") (fun xs H Q=>∃i,xs=[.int i]/\i.natAbs.log2<1920/\Q (.str (toString i)) H):=by
 intro pins s σ H xs us Q I r h
 obtain⟨i,rfl,hz,q⟩:=h
 obtain⟨u,rfl,t,rfl⟩:=vals1 r
 exact PySem.P.str_of_int hz ⟨.str _,H,I.tok _,⟨_,rfl⟩,q⟩
theorem za5:yr X (.builtin "divmod") (fun xs H Q=>∃i j,xs=[.int i,.int j]/\zo5 i j/\∀p,H p=none->Q (.ref p) (upd H p (.tup [.int (i/j),.int (i%j)]))):=by
 intro pins s σ H xs us Q I r h
 obtain⟨i,j,rfl,⟨h1,h2⟩,q⟩:=h
 obtain⟨u,w',rfl,⟨t,rfl⟩,⟨t',rfl⟩⟩:=vals2 r
 refine divmod_int (by omega) ?_ (.inl (PyProof.noPylong_small (by omega)))
 rw [Int.fdiv_eq_ediv_of_nonneg i (by omega),Int.fmod_eq_emod_of_nonneg i (by omega)]
 have hn:H s.heap.objs.size=none:=I.hok.fresh (le_refl _)
 refine⟨.ref s.heap.objs.size,_,?_,rfl,q _ hn⟩
 refine I.laid (fun b o e=>Heap.get?_push_of_some _ e) (le_refl _) ⟨by simp only [length_cons,length_nil];rw [sizeLine_eq];decide,[.int (i/j) s.toks,.int (i%j) (s.toks+1)],.cons ⟨_,rfl⟩ (.cons ⟨_,rfl⟩ .nil),?_⟩
 exact⟨_,Heap.get?_push_size s.heap rfl,rfl,0,rfl⟩
end
structure znm (h:Heap)(x dx C:Addr)(mA:Str->Option Value):Prop where
 obj:h.get? x=some (PySem.W.instObj C dx)
 ns:h.Ns1 dx mA
 ne:dx≠x
theorem ziY {h:Heap}{dx:Addr}{mA:Str->Option Value}(n:h.Ns1 dx mA):∃od,h.get? dx=some od/\∀name,PySem.W.lookIn name od=some (mA name):=by
 obtain⟨o,es,ep,ho,hd,hk,_,hm⟩:=n
 refine⟨o,ho,fun name=>?_⟩
 have e:=hm name
 unfold nsFind findBy at e
 rw [<- Array.find?_toList] at e
 unfold PySem.W.lookIn
 rw [hd]
 dsimp only
 split
 ·rename_i y q
  rw [q] at e
  exact congrArg some e
 ·rename_i q
  rw [q] at e
  have a:es.toList.any (·.refKey)=false:=by
   rw [List.any_eq_false]
   intro y hy
   obtain⟨z,t,hkey⟩:=hk y (Array.mem_toList_iff.mp hy)
   simp [DictEntry.refKey,hkey]
  have a':¬ es.toList.any (·.refKey)=true:=by rw [a];exact Bool.false_ne_true
  rw [if_neg a']
  exact congrArg some e
theorem znm.look {h:Heap}{x dx C:Addr}{mA:Str->Option Value}(I:znm h x dx C mA):∃od,PySem.W.InstAt h x (PySem.W.instObj C dx) C (some od)/\∀name,PySem.W.lookIn name od=some (mA name) :=
 let ⟨od,ho,hl⟩:=ziY I.ns
 ⟨od,⟨I.obj,rfl,rfl,ho⟩,hl⟩
section
variable {prog:Program}{w:World}{A:Around}{E:Value->Shared->Prop}{s:Shared}{K:PySem.W.Frag}{x dx C f:Addr}{mA:Str->Option Value}{name:Str}{v:Value}
end
theorem zbF.some_of {v:V}{o:Option Value}(r:zbF (some v) o):∃u,o=some u/\RelV v u:=by
 cases o with
 | none=>exact(show False from r).elim
 | some u=>exact⟨u,rfl,r⟩
section
variable {P:Program}{w:World}{H H':Hp}{h h':Heap}{a C dx:Addr}{fs fs':List (Str×V)}
theorem zlS (hok:HOk P w H h)(e:H a=some (.ins C dx fs)):∃mA,znm h a dx C mA/\(∀f,zbF (fs.lookup f) (mA f))/\PySem.Within mA (fs.map (·.1))/\fs.length<=1000/\H dx=some (.own a):=by
 obtain⟨d,z,ne,ob,mA,n,r,q⟩:=(show jc P w H h a (.ins C dx fs) from hok a _ e)
 exact⟨mA,⟨ob,n,ne⟩,r,q,z,d⟩
end
structure Cls (K:PySem.W.Frag)(C:Addr):Prop where
 pg:PySem.W.plainGet K C Str.empty=true
 hd:PySem.W.hasDictIn K C=true
 po:PySem.W.plainOver K C=true
 sa:PySem.W.findIn K (.ref C) "__setattr__"=some (some (.builtin "object.__setattr__"))
theorem Cls.get {K:PySem.W.Frag}{C:Addr}(c:Cls K C)(f:Str):PySem.W.plainGet K C f=true:=c.pg
section
variable {X:Cx}{pins:List (Addr×Obj)}{σ:St}{H:Hp}{s:Shared}{a C dx:Addr}{fs:List (Str×V)}{f:Str}{v:V}{A:Around}{E:Value->Shared->Prop}
end
section
variable {X:Cx}{o e value:Expr}{f:Str}{pos pos' tpos:Pos}{ta tv:TE}
end
section
variable {X:Cx}{pins:List (Addr×Obj)}{σ:St}{H:Hp}{s:Shared}{A:Around}{E:Value->Shared->Prop}{Q:Value->Shared->Prop}{c:Value}{b:Bool}
inductive zaA (K:PySem.W.Frag)(H:Hp):V->Value->Prop where
 | non:zaA K H .non (.type "NoneType")
 | bl (x:Bool):zaA K H (.bl x) (.type "bool")
 | int (i:Int):zaA K H (.int i) (.type "int")
 | str (x:Str):zaA K H (.str x) (.type "str")
 | flt (x:UInt64):zaA K H (.flt x) (.type "float")
 | lst {a:Addr} {xs:List V} (e:H a=some (.lst xs)):zaA K H (.ref a) (.type "list")
 | frz {a:Addr} {o:Obj} {xs:List V} (e:H a=some (.frz o (.lst xs))):zaA K H (.ref a) (.type "list")
 | tup {a:Addr} {xs:List V} (e:H a=some (.tup xs)):zaA K H (.ref a) (.type "tuple")
 | dK {a:Addr} {kvs:List (Key×V)} (e:H a=some (.dK kvs)):zaA K H (.ref a) (.type "dict")
 | dT {a:Addr} {kvs:List (List Key×V)} (e:H a=some (.dT kvs)):zaA K H (.ref a) (.type "dict")
 | ins {a C dx:Addr} {fs:List (Str×V)} (e:H a=some (.ins C dx fs)) (cl:Cls K C) (ha:PySem.W.findIn K (.ref C) "__class__"=some (some (.builtin "object.__class__")))
   (hn:PySem.W.specialIn K (.builtin "object.__class__") "__get__"=some (some (.builtin "getset_descriptor.__get__"))) (htk:PySem.W.takesIn K (.builtin "object.__class__")=some true)
   (hm:PySem.W.mroIn K C (.type "object")=some true):zaA K H (.ref a) (.ref C)
theorem ziZ {x:V}{u t:Value}(I:Inv X pins σ H s)(rx:RelV x u)(ty:zaA X.K H x t)(e:PySem.W.kitOne X.K t c=some b)(h:∀tk,Q (.bool b) { s with toks:=tk }) :
  wpAny (model X.prog X.w) A (call (.builtin "isinstance") [u,c]) Q E s:=by
 cases ty with
 | non=>cases (show u=Value.none from rx);exact PySem.W.kia_one PySem.W.kitx_none I.kIn True.intro e (fun z=>nomatch z) h
 | bl y=>cases (show u=Value.bool y from rx);exact PySem.W.kia_one PySem.W.kitx_bool I.kIn True.intro e (fun z=>nomatch z) h
 | int i=>obtain⟨t,q⟩:=(show ∃t,u=Value.int i t from rx);cases q;exact PySem.W.kia_one PySem.W.kitx_int I.kIn True.intro e (fun z=>nomatch z) h
 | str y=>obtain⟨t,q⟩:=(show ∃t,u=Value.str y t from rx);cases q;exact PySem.W.kia_one PySem.W.kitx_str I.kIn True.intro e (fun z=>nomatch z) h
 | flt y=>obtain⟨t,q⟩:=(show ∃t,u=Value.float y t from rx);cases q;exact PySem.W.kia_one PySem.W.kitx_float I.kIn True.intro e (fun z=>nomatch z) h
 | @lst a xs ea =>
  cases (show u=Value.ref a from rx)
  obtain⟨_,_,n,_,h1⟩:=(show jc X.prog X.w H s.heap a (.lst xs) from I.hok a _ ea)
  exact PySem.W.kia_one PySem.W.kitx_list I.kIn ⟨_,h1,rfl⟩ e (fun z=>nomatch z) h
 | @frz a ob xs ea =>
  cases (show u=Value.ref a from rx)
  obtain⟨_,_,_,n,_,h1⟩:=(show jc X.prog X.w H s.heap a (.frz ob (.lst xs)) from I.hok a _ ea)
  exact PySem.W.kia_one PySem.W.kitx_list I.kIn ⟨_,h1,rfl⟩ e (fun z=>nomatch z) h
 | @tup a xs ea =>
  cases (show u=Value.ref a from rx)
  obtain⟨_,_,_,p⟩:=(show jc X.prog X.w H s.heap a (.tup xs) from I.hok a _ ea)
  obtain⟨o,h1,h2,_⟩:=p
  exact PySem.W.kia_one PySem.W.kitx_tuple I.kIn ⟨o,h1,h2⟩ e (fun z=>nomatch z) h
 | @dK a kvs ea =>
  cases (show u=Value.ref a from rx)
  obtain⟨_,_,vs,_,p⟩:=(show jc X.prog X.w H s.heap a (.dK kvs) from I.hok a _ ea)
  obtain⟨o,es,ep,h1,h2,_⟩:=p
  exact PySem.W.kia_one PySem.W.kitx_dict I.kIn ⟨o,h1,h2.1⟩ e (fun z=>nomatch z) h
 | @dT a kvs ea =>
  cases (show u=Value.ref a from rx)
  obtain⟨_,_,xs,_,o,es,ep,h1,h2,_⟩:=(show jc X.prog X.w H s.heap a (.dT kvs) from I.hok a _ ea)
  exact PySem.W.kia_one PySem.W.kitx_dict I.kIn ⟨o,h1,h2.1⟩ e (fun z=>nomatch z) h
 | @ins a C dx fs ea cl ha hn htk hm =>
  cases (show u=Value.ref a from rx)
  obtain⟨mA,O,_⟩:=zlS I.hok ea
  obtain⟨od,J,_⟩:=O.look
  exact PySem.W.kia_one (PySem.W.kitx_own (cl.get _) cl.hd ha hn htk hm) I.kIn J e (fun z=>nomatch z) h
end
structure Yo (k:Nat)(A:Around):Prop where
 hd:A.handled=none
 dp:A.depth+3*k+5<recursionLimit
 un:A.units+16*k+200<cLine
theorem Yo.mono {j k:Nat}{A:Around}(r:Yo k A)(h:j<=k):Yo j A:=⟨r.hd,by have:=r.dp;omega,by have:=r.un;omega⟩
theorem Yo.deeper {k:Nat}{A:Around}(r:Yo (k+1) A)(env:Env):Yo k (A.deeper env) :=
 ⟨r.hd,by have:=r.dp;show A.depth+1+3*k+5<_;omega,by have:=r.un;show A.units+3+16*k+200<_;omega⟩
theorem Yo.depth {k:Nat}{A:Around}(r:Yo k A):A.depth<recursionLimit:=by have:=r.dp;omega
theorem Yo.units {k:Nat}{A:Around}(r:Yo k A):A.units+64<cLine:=by have:=r.un;omega
def zo6:TA:=fun _ H Q=>Q [] H
def zoi (ta:TE)(tr:TA):TA:=fun σ H Q=>ta σ H fun x H1=>tr σ H1 fun xs H2=>Q (x::xs) H2
section
variable {X:Cx}{e:Expr}{es:List Expr}{te:TE}{t:TA}{pos:Pos}
theorem zb:PA X [] zo6:=fun _ _ _ _ H Q I h=>Calls.spliced_nil ⟨[],H,I,.nil,h⟩
theorem za (ha:PE X e te)(hr:PA X es t)(hs:starEach (e::es) X.env=(false,eval e X.env)::starEach es X.env:=by rfl):PA X (e::es) (zoi te t):=by
 intro pos pins s σ H Q I h
 rw [hs]
 show wpAny _ _ (spliced ((false,eval e X.env)::backTo pos (starEach es X.env))) _ _ s
 refine Calls.spliced_cons (thn (ha pins s σ H _ I h) fun u s1 ⟨x,H1,I1,r1,q1⟩=>?_)
 exact thn (hr pos pins s1 σ H1 _ I1 q1) fun us s2 ⟨xs,H2,I2,r2,q2⟩=>⟨x::xs,H2,I2,.cons r1 r2,q2⟩
def zo7 (t:TA):TE:=fun σ H Q=>t σ H fun xs H1=>xs.length<=sizeLine/\∀p,H1 p=none->Q (.ref p) (upd H1 p (.tup xs))
def zo8 (t:TA):TE:=fun σ H Q=>t σ H fun xs H1=>xs.length<=sizeLine/\∀p,H1 p=none->Q (.ref p) (upd H1 p (.lst xs))
theorem yM {x1}(h:PA X es t):PE X (.Tuple es x1 pos) (zo7 t):=by
 intro pins s σ H Q I hq
 refine wpAny_Tuple_spliced (thn (h pos pins s σ H _ I hq) fun us s1 ⟨xs,H1,I1,r,z,q⟩=>⟨by rw [<- r.length];exact z,?_⟩)
 have hf:H1 s1.heap.objs.size=none:=I1.hok.fresh (le_refl _)
 refine⟨.ref s1.heap.objs.size,upd H1 s1.heap.objs.size (.tup xs),I1.laid (t':=s1.toks) (fun b u e=>Heap.get?_push_of_some _ e) (le_refl _) ?_,rfl,q _ hf⟩
 exact⟨z,us,r,⟨_,Heap.get?_push_size _ rfl,rfl,_,rfl⟩⟩
theorem qu (h:PA X es t):PE X (.List es pos) (zo8 t):=by
 intro pins s σ H Q I hq
 refine wpAny_List_spliced (thn (h pos pins s σ H _ I hq) fun us s1 ⟨xs,H1,I1,r,z,q⟩=>⟨by rw [<- r.length];exact z,?_⟩)
 have hf:H1 s1.heap.objs.size=none:=I1.hok.fresh (le_refl _)
 refine⟨.ref s1.heap.objs.size,upd H1 s1.heap.objs.size (.lst xs),I1.laid (t':=s1.toks) (fun b u e=>Heap.get?_push_of_some _ e) (le_refl _) ?_,rfl,q _ hf⟩
 exact⟨z,us,0,r,Heap.get?_push_size _ rfl⟩
end
abbrev Sp:=List V->Hp->VK->XK->Prop
abbrev CXT:=List Env->Hp->Shared->XK->Value->Shared->Prop
structure zlT (P:Program)(w:World)(K:PySem.W.Frag)(mg:Str->Option Value)(base:Heap)(A:Around)(outer:List Env)(s:Shared)(H:Hp):Prop where
 frames:A.frames=some outer
 mod:Mod K mg base
 bs:∀b o,base.get? b=some o->s.heap.get? b=some o/\H b=none
 bsz:base.objs.size<=s.heap.objs.size
 funs:s.heap.FunFrames base outer
 frf:∀b∈frs outer,H b=none
 hok:HOk P w H s.heap
 bare:AllBare s.gens
def CE (outer:List Env)(P:Program)(w:World)(H:Hp)(s:Shared)(Q:VK)(u:Value)(s':Shared):Prop :=
 ∃v H',s'.os=s.os/\AllBare s'.gens/\Un (frs outer) [] H H' s.heap s'.heap/\HOk P w H' s'.heap/\RelV v u/\Q v H'
def CR (CX:CXT)(outer:List Env)(P:Program)(w:World)(H:Hp)(s:Shared)(Q:VK)(E:XK)(r:Result)(s':Shared):Prop :=
 match r with
 | .ok (.ret u)=>CE outer P w H s Q u s'
 | .ok _=>False
 | .error e=>CX outer H s E e s'
structure zH (P:Program)(w:World)(K:PySem.W.Frag)(mg:Str->Option Value)(base:Heap)(CX:CXT)(k:Nat)(f:Addr)(fd:FuncData)(ps:List Str)(sp:Sp):Prop where
 len:∀vs H Q E,sp vs H Q E->vs.length=ps.length
 run:∀(A:Around) (outer:List Env) (s:Shared) (H:Hp) (args:Args) (us:List Value) (vs:List V) (Q:VK) (E:XK),Yo k A->zlT P w K mg base A outer s H->BindsTo s fd args (ps.zip us)->Vals vs us->sp vs H Q E ->
  codeAny (model P w) A (.call (.ref f) args) (CR CX outer P w H s Q E) s
section
variable {X:Cx}{pins:List (Addr×Obj)}{σ:St}{H:Hp}{s s':Shared}
theorem Inv.env0 (I:Inv X pins σ H s):zlT X.prog X.w X.K X.mg X.base X.A X.stack s H :=
 ⟨I.ok.frames,I.ok.mod,I.bs,le_trans I.ok.bsz I.sz,I.stack,I.stkFree,I.hok,I.bare⟩
theorem Inv.after {Q:VK}{u:Value}(I:Inv X pins σ H s)(h:CE X.stack X.prog X.w H s Q u s'):EP X pins σ Q u s':=by
 obtain⟨v,H',os,bare,un,hok,r,q⟩:=h
 obtain⟨hh,g,d,t,os'⟩:=s'
 obtain rfl:os'=s.os:=os
 exact⟨v,H',I.call (h':=hh) (g':=g) (d':=d) (t':=t) (ch:=[]) un hok bare (fun b z=>absurd z (by simp)),r,q⟩
end
def zoj (sp:Sp)(dvs:List V)(E:XK)(t:TA):TE:=fun σ H Q=>t σ H fun vs H1=>sp (vs++dvs) H1 Q E
def Binds (K:PySem.W.Frag)(fd:FuncData)(ps:List Str)(ds:List Value):Prop :=
 ∀(s:Shared) (us:List Value),K.In s.heap->(us++ds).length=ps.length->BindsTo s fd ⟨us,[]⟩ (ps.zip (us++ds))
theorem Binds.all {K:PySem.W.Frag}{fd:FuncData}{ps:List Str}(h:∀us:List Value,us.length=ps.length->bindArgs fd ⟨us,[]⟩=pure (ps.zip us)):Binds K fd ps []:=fun s us _ hl=>by
 rw [append_nil] at hl ⊢
 exact .of_eq (h us hl)
def Passes (CX:CXT)(X:Cx)(E:XK):Prop:=∀(pins:List (Addr×Obj)) (σ:St) (H:Hp) (s:Shared) (e:Value) (s':Shared),Inv X pins σ H s->CX X.stack H s E e s'->X.xe e s'
section
variable {X:Cx}{CX:CXT}{k:Nat}{f C:Addr}{fd:FuncData}{ps:List Str}{sp:Sp}{dvs:List V}{ds:List Value}{E:XK}{x m:Str}{p pos apos:Pos}{e o:Expr}{es:List Expr}{ta:TE}{t:TA}
theorem znn {pins:List (Addr×Obj)}{σ:St}{H:Hp}{s:Shared}{Q:VK}{us:List Value}{vs:List V}(F:zH X.prog X.w X.K X.mg X.base CX k f fd ps sp)(hr:Yo k X.A)(hb:Binds X.K fd ps ds)(hd:Vals dvs ds)(hx:Passes CX X E)
  (I:Inv X pins σ H s) (r:Vals vs us) (h:sp (vs++dvs) H Q E):wpAny (model X.prog X.w) X.A (call (.ref f) us) (EP X pins σ Q) X.xe s:=by
 have r2:Vals (vs++dvs) (us++ds):=r.append hd
 have hl:(us++ds).length=ps.length:=by rw [<- r2.length];exact F.len _ _ _ _ h
 refine wpAny_call (codeAny_mono (F.run X.A X.stack s H ⟨us,[]⟩ (us++ds) (vs++dvs) Q E hr I.env0 (hb s us I.kIn hl) r2 h) fun r s' hq=>?_)
 cases r with
 | error e=>exact hx pins σ H s e s' I hq
 | ok fl =>
  cases fl with
  | ret u=>exact I.after hq
  | next=>exact False.elim hq
  | brk=>exact False.elim hq
  | cont=>exact False.elim hq
theorem zp (F:zH X.prog X.w X.K X.mg X.base CX k f fd ps sp)(hr:Yo k X.A)(hg:Gl X x)(hm:X.mg x=some (.ref f))(hk:PySem.W.keepIn X.K (.ref f)=true)(hb:Binds X.K fd ps ds)(hd:Vals dvs ds)(hx:Passes CX X E)
  (ha:PA X (e::es) t) (hdb:(x==("__debug__":Str))=false:=by decide) (he:starEach (e::es) X.env=(false,eval e X.env)::starEach es X.env:=by rfl) (hpl:(backTo pos (starEach es X.env)).any (·.1)=false:=by rfl) :
  PE X (.Call (.Name x p) (e::es) [] pos) (zoj sp dvs E t):=by
 intro pins s σ H Q I h
 refine wpAny_Call_Name_kw (zh4 I hg hm ?_ hdb)
 refine PySem.W.callWith_K (h₀:=X.base) I.ok.mod.kin hk (thn (ha pos pins s σ H _ I h) fun us s1 ⟨vs,H1,I1,r,q⟩=>⟨I1.kIn,?_⟩) he hpl
 exact znn F hr hb hd hx I1 r q
end
section
variable {X:Cx}{CX:CXT}{k:Nat}{f C:Addr}{fd:FuncData}{ps ks:List Str}{sp:Sp}{E:XK}{x m:Str}{p pos apos kpos:Pos}{e o:Expr}{es:List Expr}{kws:List Keyword}{te ta:TE}{t tk:TA}{nm:Option Str}
variable {g:List Value->List Value->List Value}{gV:List V->List V->List V}
end
structure zL (N P:List Str)(sc:Scope):Prop where
 kind:sc.kind=.function
 co:sc.isCoroutine=false
 gen:sc.isGenerator=false
 nd:N.Nodup
 pre:N.take P.length=P
 par:∀x∈P,sc.names.lookup x=some .local\/sc.names.lookup x=some .cell
 nofree:∀y∈sc.names,y.2 ≠ .free
theorem zdn {kindOf:Str->Option NameKind}{x:Str}:∀{binds:List (Str×Value)} {m:Str->Option Value},(∀v,(x,v) ∉ binds)->bindL kindOf binds m x=m x
 | [],_,_=>rfl
 | (n,v)::r,m,h=>by
  unfold bindL
  rw [zdn fun w hw=>h w (mem_cons_of_mem _ hw)]
  split
  ·have:x≠n:=by rintro rfl;exact h v mem_cons_self
   simp [this]
  ·rfl
theorem zdo {kindOf:Str->Option NameKind}{x:Str}:∀{binds:List (Str×Value)} {m:Str->Option Value},(∀v,(x,v) ∉ binds)->bindC kindOf binds m x=m x
 | [],_,_=>rfl
 | (n,v)::r,m,h=>by
  unfold bindC
  rw [zdo fun w hw=>h w (mem_cons_of_mem _ hw)]
  split
  ·rfl
  ·have:x≠n:=by rintro rfl;exact h v mem_cons_self
   simp [this]
theorem zdp {kindOf:Str->Option NameKind}{x:Str}{v:Value}:∀{P:List Str} {vs:List Value} {i:Nat} {m:Str->Option Value},P.Nodup->P[i]?=some x->vs[i]?=some v->kindOf x=some .local ->
  bindL kindOf (P.zip vs) m x=some v
 | [],_,_,_,_,h,_,_=>by simp at h
 | _::_,[],_,_,_,_,h,_=>by simp at h
 | p::P,w::vs,0,m,nd,h1,h2,hk=>by
  simp at h1 h2;subst h1;subst h2
  show bindL kindOf ((p,w)::P.zip vs) m p=_
  unfold bindL
  rw [zdn fun v hv=>(List.nodup_cons.mp nd).1 (List.of_mem_zip hv).1,if_pos hk]
  simp
 | p::P,w::vs,i+1,m,nd,h1,h2,hk=>by
  show bindL kindOf ((p,w)::P.zip vs) m x=_
  unfold bindL
  exact zdp (i:=i) (List.nodup_cons.mp nd).2 (by simpa using h1) (by simpa using h2) hk
theorem zdq {kindOf:Str->Option NameKind}{x:Str}{v:Value}:∀{P:List Str} {vs:List Value} {i:Nat} {m:Str->Option Value},P.Nodup->P[i]?=some x->vs[i]?=some v->kindOf x≠some .local ->
  bindC kindOf (P.zip vs) m x=some v
 | [],_,_,_,_,h,_,_=>by simp at h
 | _::_,[],_,_,_,_,h,_=>by simp at h
 | p::P,w::vs,0,m,nd,h1,h2,hk=>by
  simp at h1 h2;subst h1;subst h2
  show bindC kindOf ((p,w)::P.zip vs) m p=_
  unfold bindC
  rw [zdo fun v hv=>(List.nodup_cons.mp nd).1 (List.of_mem_zip hv).1,if_neg hk]
  simp
 | p::P,w::vs,i+1,m,nd,h1,h2,hk=>by
  show bindC kindOf ((p,w)::P.zip vs) m x=_
  unfold bindC
  exact zdq (i:=i) (List.nodup_cons.mp nd).2 (by simpa using h1) (by simpa using h2) hk
noncomputable def start (N:List Str)(vs:List V):St:=vs.map some++replicate (N.length-vs.length) none
noncomputable def zi0 (CX:CXT)(P:Program)(w:World)(K:PySem.W.Frag)(mg:Str->Option Value)(base:Heap)(N:List Str)(qual:Str)(scope:Scope)(f:Addr)(cd:Value)(A:Around)(outer:List Env)(s:Shared)(H:Hp)(E:XK):Cx where
 prog:=P
 w:=w
 K:=K
 mg:=mg
 base:=base
 A:=A.deeper (envOfC qual scope s.heap.objs.size f cd)
 N:=N
 s₀:=s
 H₀:=H
 env:=envOfC qual scope s.heap.objs.size f cd
 outer:=outer
 stack:=envOfC qual scope s.heap.objs.size f cd::outer
 ex:=[]
 calm:=true
 fn:=fun _=>true
 pn:=[]
 xe:=fun e s'=>wpAny (model P w) (A.deeper (envOfC qual scope s.heap.objs.size f cd)) (leaving (envOfC qual scope s.heap.objs.size f cd) e) (fun _ s''=>CX outer H s E e s'') (fun e' s''=>CX outer H s E e' s'') s'
theorem zfk {sc:Scope}{n:Nat}{x:Str}(h:sc.names.lookup x=some .cell):∃c,(cellsFrom n sc.names []).lookup x=some c:=by
 have q:=PySem.W.cellsFrom_some sc.names n [] (.inl h)
 exact Option.isSome_iff_exists.mp q
theorem zi1 {CX:CXT}{P:Program}{w:World}{K:PySem.W.Frag}{mg:Str->Option Value}{base:Heap}{N ps:List Str}{qual:Str}{scope:Scope}{f:Addr}{cd:Value}{A:Around}{outer:List Env}{s s1:Shared}{H:Hp}{E:XK}{us:List Value}{vs:List V}
  (S:zL N ps scope) (hd:A.handled=none) (e0:zlT P w K mg base A outer s H) (hl:vs.length=ps.length) (r:Vals vs us)
  (x:InCallC s s.heap.objs.size (bindL (envOfC qual scope s.heap.objs.size f cd).kindOf (ps.zip us) fun _=>none) (cellsFrom (s.heap.objs.size+1) scope.names []) (bindC (envOfC qual scope s.heap.objs.size f cd).kindOf (ps.zip us) fun _=>none) s1) :
  Inv (zi0 CX P w K mg base N qual scope f cd A outer s H E) [] (start N vs) H s1:=by
 have hpl:ps.length<=N.length:=by have:=congrArg List.length S.pre;rw [length_take] at this;omega
 obtain⟨h1,tk,rfl,hk⟩:=x.done
 have noA:∀b:Addr,b ∉ (zi0 CX P w K mg base N qual scope f cd A outer s H E).ex:=fun b z=>absurd (show b∈([]:List Addr) from z) (by simp)
 refine⟨⟨e0.mod,S.kind,rfl,rfl,le_refl _,fun y z c h1 h2=>?_,fun y hy=>?_,fun y c _ h=>?_,fun _=>hd,Around.frames_deeper e0.frames,.inr ⟨rfl,rfl⟩,fun b z=>absurd z (noA b),e0.bs,e0.bsz,fun b _ _=>noA b,fun b z=>absurd z (noA b),e0.funs,e0.frf⟩,
  rfl,e0.bare,Un.kept hk,⟨_,x.toInCall.ns,fun i y v h1 h2 h3=>?_⟩,fun y c h=>⟨_,x.cell y c h⟩,e0.hok.fresh (le_refl _),fun y c h=>?_,fun p hp=>absurd (show p∈([]:List (Addr×Obj)) from hp) (by simp),e0.hok.kept hk,?_⟩
 ·exact name_of_addr x.apart (PySem.mem_of_lookup h1) (PySem.mem_of_lookup h2)
 ·have hy:scope.names.lookup y=some .cell\/scope.names.lookup y=some .free:=hy
  rcases hy with hy | hy
  ·exact zfk hy
  ·exact absurd rfl (S.nofree _ (PySem.mem_of_lookup hy))
 ·exact Nat.le_of_lt (x.above y c (PySem.mem_of_lookup h))
 ·have hi:i<vs.length:=by
   unfold start at h2
   by_cases hi:i<vs.length
   ·exact hi
   ·rw [List.getElem?_append_right (by simpa using hi)] at h2
    rw [List.getElem?_replicate] at h2
    split at h2<;>cases h2
  have ha:vs[i]?=some v:=by
   unfold start at h2
   rw [getElem?_append_left (by simpa using hi),getElem?_map] at h2
   cases e:vs[i]? with
   | none=>rw [e] at h2;cases h2
   | some a=>rw [e] at h2;cases h2;rfl
  obtain⟨u,hu,rv⟩:=r.get ha
  have hp:ps[i]?=some y:=by
   rw [<- S.pre,List.getElem?_take_of_lt (by omega)];exact h1
  have ndP:ps.Nodup:=by rw [<- S.pre];exact S.nd.sublist (take_sublist _ _)
  refine⟨u,rv,?_⟩
  rcases S.par y (mem_of_getElem? hp) with k | k
  ·exact .inl ⟨k,zdp ndP hp hu k⟩
  ·obtain⟨c,e⟩:=zfk (n:=s.heap.objs.size+1) k
   refine .inr ⟨.inl k,c,e,?_⟩
   have q:=x.cell y c e
   rw [zdq ndP hp hu (by show scope.names.lookup y≠_;rw [k];decide)] at q
   exact q
 ·exact e0.hok.fresh (Nat.le_of_lt (x.above y c (PySem.mem_of_lookup h)))
 ·unfold start
  show _=N.length
  rw [length_append,length_map,List.length_replicate]
  omega
theorem zok {CX:CXT}{P:Program}{w:World}{K:PySem.W.Frag}{mg:Str->Option Value}{base:Heap}{k:Nat}{f:Addr}{name qual:Str}{params:Arguments}{body:List Stmt}{scope:Scope}{dV kV doc pm cdv ct oc:Value}{an od:Option Addr}
  {osl:Array (Option Value)} {N ps:List Str} {sp:Sp} (lk:K.lookup f=some ⟨oc,od,.func (PySem.W.fnOf name qual params body scope dV kV doc pm an cdv ct),osl⟩) (hcd:PySem.W.codeIn K cdv qual=true) (S:zL N ps scope)
  (len:∀vs H Q E,sp vs H Q E->vs.length=ps.length)
  (hbody:∀(A:Around) (outer:List Env) (s:Shared) (H:Hp) (vs:List V) (Q:VK) (E:XK),Yo k (A.deeper (envOfC qual scope s.heap.objs.size f cdv))->sp vs H Q E ->
   ∃t,PSs (zi0 CX P w K mg base N qual scope f cdv A outer s H E) body t/\t { nx:=fun _ H'=>Q .non H',rt:=Q } (start N vs) H) :
  zH P w K mg base CX (k+1) f (PySem.W.fnOf name qual params body scope dV kV doc pm an cdv ct) ps sp:=by
 refine⟨len,fun A outer s H args us vs Q E hr e0 hb r hsp=>?_⟩
 have hl:=len _ _ _ _ hsp
 have KX:K.In s.heap:=e0.mod.kin.keeps fun b o e=>(e0.bs b o e).1
 have lim:s.heap.NoLimit:=e0.mod.nolimit.keeps fun b o e=>(e0.bs b o e).1
 have hkind:∀y∈ps.zip us,scope.names.lookup y.1=some .local\/(scope.names.lookup y.1=some .cell/\((cellsFrom (s.heap.objs.size+1) scope.names []).lookup y.1).isSome=true):=fun ⟨n,v⟩ hy=>by
  rcases S.par n (List.of_mem_zip hy).1 with q | q
  ·exact .inl q
  ·exact .inr ⟨q,PySem.W.cellsFrom_some _ _ _ (.inl q)⟩
 refine codeAny_call_function hr.depth (KX _ _ lk) rfl S.co S.gen rfl (PySem.W.codeRec_of KX hcd) (hb _ _ _ _ ?_)
 refine wpAny_newFunctionEnv_cells S.kind hkind fun env he s1 x=>?_
 subst he
 refine⟨lim.keeps x.toInCall.keep,codeAny_func ?_⟩
 obtain⟨t,ht,hq⟩:=hbody A outer s H vs Q E (hr.deeper _) hsp
 have I:Inv (zi0 CX P w K mg base N qual scope f cdv A outer s H E) [] (start N vs) H s1:=zi1 S hr.hd e0 hl r x
 refine wpAny_mono (ht [] s1 (start N vs) H _ I hq) (fun fl s' hs=>?_) fun e s' hs=>hs
 have fin:∀{σ':St} {H':Hp} {v:V} {u:Value},Inv (zi0 CX P w K mg base N qual scope f cdv A outer s H E) [] σ' H' s'->RelV v u->Q v H'->CE outer P w H s Q u s' :=
  fun {σ' H' v u} J rv q=>⟨v,H',J.os,J.bare,J.base,J.hok,rv,q⟩
 cases fl with
 | ret u =>
  obtain⟨v,σ',H',J,rv,q⟩:=hs
  exact fin J rv q
 | next =>
  obtain⟨σ',H',J,q⟩:=hs
  exact fin (v:=V.non) (u:=Value.none) J rfl q
 | brk =>
  obtain⟨_,_,_,q⟩:=hs
  exact False.elim q
 | cont =>
  obtain⟨_,_,_,q⟩:=hs
  exact False.elim q
section
variable {X:Cx}{x:Str}{p pos:Pos}{e:Expr}{es:List Expr}{t:TA}{id T:String}{r:List V->Hp->VK->Prop}
def tCB (r:List V->Hp->VK->Prop)(t:TA):TE:=fun σ H Q=>t σ H fun vs H1=>r vs H1 Q
theorem zx (hc:yr X (.builtin id) r)(hg:Gl X x)(hm:X.mg x=none)(hv:bootBuiltins x=some (.builtin id))(ha:PA X (e::es) t)(hn:x ≠ "__name__":=by decide)(hdb:(x==("__debug__":Str))=false:=by decide)
  (he:starEach (e::es) X.env=(false,eval e X.env)::starEach es X.env:=by rfl) (hpl:(backTo pos (starEach es X.env)).any (·.1)=false:=by rfl):PE X (.Call (.Name x p) (e::es) [] pos) (tCB r t):=by
 intro pins s σ H Q I h
 refine wpAny_Call_Name_kw (Ym I hg hm hv ?_ hn hdb)
 exact PyProof.Rows.callWith_builtin1 (thn (ha pos pins s σ H _ I h) fun us s1 ⟨vs,H1,I1,r1,q1⟩=>hc pins s1 σ H1 vs us Q I1 r1 q1) he hpl
theorem jk (hc:yr X (.type T) r)(hg:Gl X x)(hm:X.mg x=none)(hv:bootBuiltins x=some (.type T))(ha:PA X (e::es) t)(hn:x ≠ "__name__":=by decide)(hdb:(x==("__debug__":Str))=false:=by decide)
  (he:starEach (e::es) X.env=(false,eval e X.env)::starEach es X.env:=by rfl) (hpl:(backTo pos (starEach es X.env)).any (·.1)=false:=by rfl):PE X (.Call (.Name x p) (e::es) [] pos) (tCB r t):=by
 intro pins s σ H Q I h
 refine wpAny_Call_Name_kw (Ym I hg hm hv ?_ hn hdb)
 exact PyProof.Rows.callWith_type1 (thn (ha pos pins s σ H _ I h) fun us s1 ⟨vs,H1,I1,r1,q1⟩=>hc pins s1 σ H1 vs us Q I1 r1 q1) he hpl
end
end L2
namespace HT
open PySem PyProof.Rows
section
open PySem.SeqAt
open PySem.AutoSeq1 (wpAny_loadPart')
open PySem.MeetsSeq PySem.MeetsSeq2 PySem.MeetsSeq3
end
section
variable {prog:Program}{w:World}{A:Around}{E:Value->Shared->Prop}{s:Shared}
noncomputable def sIx (n d:Nat):Option Int->Nat
 | none=>d
 | some v=>if v<0 then (v+(n:Int)).toNat else min v.toNat n
theorem zbr (n d k:Nat):sIx n d (some (k:Int))=min k n:=by
 show (if (k:Int)<0 then ((k:Int)+(n:Int)).toNat else min (k:Int).toNat n)=min k n
 rw [if_neg (by omega),toNat_natCast]
end
end HT
namespace L2
open PySem PySem.Spec PyProof.Rows
abbrev TO:=St->Hp->(Option Int->Hp->Prop)->Prop
def PO (X:Cx)(e:Option Expr)(t:TO):Prop :=
 ∀(pins:List (Addr×Obj)) (s:Shared) (σ:St) (H:Hp) (Q:Option Int->Hp->Prop),Inv X pins σ H s->t σ H Q ->
  wpAny (model X.prog X.w) X.A (evalPart e X.env) (fun u s'=>∃o H',Inv X pins σ H' s'/\IsPart u o/\Q o H') X.xe s
def zlU:TO:=fun _ H Q=>Q none H
def zol (t:TE):TO:=fun σ H Q=>t σ H fun x H1=>∃i,x=.int i/\Q (some i) H1
section
variable {X:Cx}{e:Expr}{te:TE}{lo hi:Option Expr}{tl th:TO}{pos p2:Pos}
theorem zel:PO X none zlU:=by
 intro pins s σ H Q I h
 rw [evalPart_none]
 exact wpAny_pure ⟨none,H,I,.none,h⟩
theorem QS (h:PE X e te):PO X (some e) (zol te):=by
 intro pins s σ H Q I hw
 rw [evalPart_some]
 refine thn (h pins s σ H _ I hw) fun u s1 ⟨x,H1,I1,r1,q1⟩=>?_
 obtain⟨i,rfl,q⟩:=q1
 obtain⟨t,rfl⟩:=r1
 exact⟨some i,H1,I1,.int i t,q⟩
def SlR (X:Cx)(r:V->Option Int->Option Int->Hp->VK->Prop):Prop :=
 ∀(pins:List (Addr×Obj)) (s:Shared) (σ:St) (H:Hp) (x:V) (v vl vu:Value) (lo hi:Option Int) (sl:Addr) (Q:VK),Inv X pins σ H s->RelV x v->s.heap.IsSliceOf sl vl vu .none->IsPart vl lo->IsPart vu hi->r x lo hi H Q ->
  ∃T id,typeLookup (.type T) "__getitem__"=pure (some (.builtin id))/\s.TypeIs v T/\wpAny (model X.prog X.w) X.A (getItem v (.ref sl)) (EP X pins σ Q) X.xe s
def tSl (r:V->Option Int->Option Int->Hp->VK->Prop)(te:TE)(tl th:TO):TE:=fun σ H Q=>te σ H fun x H1=>tl σ H1 fun l H2=>th σ H2 fun u H3=>r x l u H3 Q
theorem QT {r:V->Option Int->Option Int->Hp->VK->Prop}(hr:SlR X r)(he:PE X e te)(hl:PO X lo tl)(hu:PO X hi th):PE X (.Subscript e (.Slice lo hi none p2) pos) (tSl r te tl th):=by
 intro pins s σ H Q I h
 refine Subscript_ (thn (he pins s σ H _ I h) fun v s1 ⟨x,H1,I1,r1,q1⟩=>?_)
 refine wpAny_Slice (thn (hl pins s1 σ H1 _ I1 q1) fun vl s2 ⟨l,H2,I2,pl,q2⟩=>thn (hu pins s2 σ H2 _ I2 q2) fun vu s3 ⟨u,H3,I3,pu,q3⟩=>?_)
 rw [evalPart_none]
 refine wpAny_pure ?_
 have I4:Inv X pins σ H3 { s3 with heap:=s3.heap.push { cls:=.type "slice",data:=.fields #[vl,vu,.none] } }:=I3.kept (t':=s3.toks) fun b ob q=>Heap.get?_push_of_some _ q
 obtain⟨T,id,hT,ht,hg⟩:=hr pins { s3 with heap:=s3.heap.push { cls:=.type "slice",data:=.fields #[vl,vu,.none] } } σ H3 x v vl vu l u s3.heap.objs.size Q I4 r1 (Heap.IsSliceOf.new ..) pl pu q3
 show wpAny (model X.prog X.w) X.A (subscriptTail e (.Slice lo hi none p2) v (.ref s3.heap.objs.size)) (EP X pins σ Q) X.xe { s3 with heap:=s3.heap.push { cls:=.type "slice",data:=.fields #[vl,vu,.none] } }
 exact tail_any (ops:=[.ref s3.heap.objs.size,v]) ht hT hg (by with_unfolding_all rfl)
noncomputable def QU (xs:List V)(lo hi:Option Int):List V:=(xs.drop (HT.sIx xs.length 0 lo)).take (HT.sIx xs.length xs.length hi-HT.sIx xs.length 0 lo)
theorem zfl (xs:List V)(lo hi:Option Int):(QU xs lo hi).length<=xs.length:=by
 unfold QU
 rw [length_take,length_drop]
 omega
end
noncomputable def ixN (n:Nat)(i:Int):Option Nat:=if 0<=i then (if i<n then some i.toNat else none) else if -(n:Int)<=i then some (i+n).toNat else none
noncomputable def atI {α:Type}(xs:List α)(i:Int):Option α:=(ixN xs.length i).bind fun j=>xs[j]?
theorem zia {n:Nat}{i:Int}{j:Nat}(h:ixN n i=some j):seqIndex? i n=some j/\j<n/\-(n:Int)<=i/\i<n:=by
 unfold ixN at h
 by_cases h0:0<=i
 ·rw [if_pos h0] at h
  by_cases h1:i<n
  ·rw [if_pos h1] at h
   have e:i.toNat=j:=Option.some.inj h
   exact⟨by rw [seqIndex_of h0 h1,e],by omega,by omega,h1⟩
  ·rw [if_neg h1] at h;cases h
 ·rw [if_neg h0] at h
  by_cases h1:-(n:Int)<=i
  ·rw [if_pos h1] at h
   have e:(i+n).toNat=j:=Option.some.inj h
   exact⟨by rw [seqIndex_neg (by omega) h1,e],by omega,h1,by omega⟩
  ·rw [if_neg h1] at h;cases h
theorem zbs {α:Type}{xs:List α}{i:Int}{v:α}(h:atI xs i=some v):∃j,seqIndex? i xs.length=some j/\xs[j]?=some v/\j<xs.length/\-(xs.length:Int)<=i/\i<xs.length:=by
 unfold atI at h
 cases e:ixN xs.length i with
 | none=>rw [e] at h;cases h
 | some j =>
  rw [e] at h
  obtain⟨h1,h2,h3,h4⟩:=zia e
  exact⟨j,h1,h,h2,h3,h4⟩
theorem QV {α:Type}{xs:List α}{j:Nat}{v:α}(h:xs[j]?=some v):atI xs (j:Int)=some v:=by
 have hj:j<xs.length:=(List.getElem?_eq_some_iff.mp h).1
 have e:ixN xs.length (j:Int)=some j:=by
  unfold ixN
  rw [if_pos (by omega),if_pos (by omega)];simp
 unfold atI;rw [e];exact h
def zlV (b:Expr):Prop:=∀o i,subscripted b false o i=operate [o,i] (getItem o i)
def IxR (X:Cx)(r:R2):Prop :=
 ∀(value slice:Expr) (pins:List (Addr×Obj)) (s:Shared) (σ:St) (H:Hp) (x y:V) (v u:Value) (Q:VK),Inv X pins σ H s->RelV x v->RelV y u->r x y H Q ->
  subscripted slice false v u=operate [v,u] (getItem v u)->wpAny (model X.prog X.w) X.A (subscriptTail value slice v u) (EP X pins σ Q) X.xe s
def MtR (X:Cx)(id:String)(r:V->List V->Hp->VK->Prop):Prop :=
 ∀(pins:List (Addr×Obj)) (s:Shared) (σ:St) (H:Hp) (x:V) (xs:List V) (v:Value) (us:List Value) (Q:VK),Inv X pins σ H s->RelV x v->Vals xs us->r x xs H Q ->
  wpAny (model X.prog X.w) X.A (call (.builtin id) (v::us)) (EP X pins σ Q) X.xe s
section
variable {X:Cx}{a b:Expr}{ta tb:TE}{pos:Pos}
theorem qx {r:R2}(hr:IxR X r)(ha:PE X a ta)(hb:PE X b tb)(hs:zlV b):PE X (.Subscript a b pos) (tOp r ta tb):=by
 intro pins s σ H Q I h
 exact Subscript_ (zng ha hb I h fun v u s2 x y H2 I2 rx ry q=>hr a b pins s2 σ H2 x y v u Q I2 rx ry q (hs _ _))
def zno (K:PySem.W.Frag):R2:=fun x y H Q=>∃p xs i v,x=.ref p/\y=.int i/\SqL K H p xs/\atI xs i=some v/\Q v H
def zo9 (K:PySem.W.Frag):R2:=fun x y H Q=>∃p xs i v,x=.ref p/\y=.int i/\SqT K H p xs/\atI xs i=some v/\Q v H
def zpa:R2:=fun x y H Q=>∃z i c,x=.str z/\y=.int i/\z.length<=sizeLine/\atI z.cps.toList i=some c/\Q (.str ⟨#[c]⟩) H
theorem ju:IxR X (zno X.K):=by
 intro value slice pins s σ H x y v u Q I rx ry h hs
 obtain⟨p,xs,i,z,rfl,rfl,hq,he,q⟩:=h
 cases rx
 obtain⟨t,rfl⟩:=ry
 obtain⟨its,r,pl,hz⟩:=I.list hq
 obtain⟨j,h1,h2,h3,h4,h5⟩:=zbs he
 obtain⟨w,ew,rw'⟩:=r.get h2
 have hl:=r.length
 have hn:=Yn
 have fin:EP X pins σ Q w s:=⟨z,H,I,rw',q⟩
 by_cases h0:0<=i
 ·have hj:i.toNat=j:=by
   rw [seqIndex_of h0 h5] at h1
   exact Option.some.inj h1
  exact item_listR pl.isList h0 (by omega) (by rw [hj];simpa using ew) fin hs
 ·have hj:(i+(its.toArray.size:Int)).toNat=j:=by
   rw [seqIndex_neg (by omega) h4] at h1
   rw [size_toArray,<- hl]
   exact Option.some.inj h1
  exact subscriptTail_builtinR (x:=w) pl.isList.typeIs slot_list_getitem.lookup
   (wpAny_getItem_list_neg (Q:=fun r s'=>r=w/\EP X pins σ Q r s') pl.isList (by omega) (by rw [size_toArray]<;>omega) (by omega) (by rw [hj];simpa using ew) ⟨rfl,fin⟩) hs
theorem xO:IxR X (zo9 X.K):=by
 intro value slice pins s σ H x y v u Q I rx ry h hs
 obtain⟨p,xs,i,z,rfl,rfl,hq,he,q⟩:=h
 cases rx
 obtain⟨t,rfl⟩:=ry
 obtain⟨its,r,pl,hz⟩:=I.tuple hq
 obtain⟨j,h1,h2,h3,h4,h5⟩:=zbs he
 obtain⟨w,ew,rw'⟩:=r.get h2
 have hl:=r.length
 have hn:=Yn
 have fin:EP X pins σ Q w s:=⟨z,H,I,rw',q⟩
 exact subscriptTail_builtinR (x:=w) pl.typeIs slot_tuple_getitem.lookup
  (getItem_tuple (j:=j) (Q:=fun r s'=>r=w/\EP X pins σ Q r s') pl (by omega) (by omega) (by rw [size_toArray,<- hl];exact h1) (by simpa using ew) ⟨rfl,fin⟩) hs
theorem Yp:IxR X zpa:=by
 intro value slice pins s σ H x y v u Q I rx ry h hs
 obtain⟨z,i,c,rfl,rfl,hz,he,q⟩:=h
 obtain⟨t,rfl⟩:=rx
 obtain⟨t',rfl⟩:=ry
 obtain⟨j,h1,h2,h3,h4,h5⟩:=zbs he
 have hl:z.cps.toList.length=z.length:=by simp [Str.length]
 rw [hl] at h1 h4 h5
 have hn:=Yn
 exact tail_any (typeIs_str s z t) slot_str_getitem.lookup (getItem_str (c:=c) (by
  have e1:decide (i < -(2^63:Int))=false:=decide_eq_false (by omega)
  have e2:decide (i >= 2^63)=false:=decide_eq_false (by omega)
  rw [e1,e2,Bool.or_false]) (by rw [h1];simpa using h2) ⟨.str ⟨#[c]⟩,H,I.tok _,⟨_,rfl⟩,q⟩) hs
theorem zgQ (its:List Value)(n j:Nat)(u:Value):Obj.mapSeq (·.setIfInBounds j u) { cls:=.type "list",data:=.seq its.toArray n }={ cls:=.type "list",data:=.seq (its.set j u).toArray n }:=by
 simp [Obj.mapSeq]
theorem Inv.lst {pins:List (Addr×Obj)}{σ:St}{H:Hp}{s:Shared}{p:Addr}{xs:List V}(I:Inv X pins σ H s)(h:H p=some (.lst xs)) :
  ∃(its:List Value) (n:Nat),Vals xs its/\s.heap.get? p=some { cls:=.type "list",data:=.seq its.toArray n }/\xs.length<=sizeLine:=by
 obtain⟨z,its,n,r,e⟩:=I.hok p _ h
 exact⟨its,n,r,e,z⟩
theorem Inv.lstUpd {pins:List (Addr×Obj)}{σ:St}{H:Hp}{s:Shared}{p:Addr}{xs ys:List V}{its its':List Value}{n n':Nat}{f:Obj->Obj}(I:Inv X pins σ H s)(h:H p=some (.lst xs))
  (ho:s.heap.get? p=some { cls:=.type "list",data:=.seq its.toArray n }) (hf:f { cls:=.type "list",data:=.seq its.toArray n }={ cls:=.type "list",data:=.seq its'.toArray n' }) (r:Vals ys its') (hz:ys.length<=sizeLine) (t:Nat) :
  Inv X pins σ (upd H p (.lst ys)) { s with heap:=s.heap.update p f,toks:=t }:=by
 have e:(s.heap.update p f).get? p=some { cls:=.type "list",data:=.seq its'.toArray n' }:=by
  rw [Heap.get?_update_self f ho (by rw [hf]<;>rfl),hf]
 refine I.write (x:=p) (e:=p) (by rw [h];trivial) (.inl rfl) (fun b u hb q=>(Heap.get?_update_other _ _ (Ne.symm hb)).trans q) ⟨_,e⟩ ?_
 exact⟨hz,its',n',r,e⟩
def zom:V->V->V->Hp->(Hp->Prop)->Prop:=fun o i v H Q=>∃p xs k j,o=.ref p/\i=.int k/\H p=some (.lst xs)/\ixN xs.length k=some j/\Q (upd H p (.lst (xs.set j v)))
theorem set_list:zne X zom:=by
 intro pins s σ H o i v ov iv u Q I ro ri rv h
 obtain⟨p,xs,k,j,rfl,rfl,hp,hj,q⟩:=h
 cases ro
 obtain⟨t,rfl⟩:=ri
 obtain⟨its,n,r,ho,hz⟩:=I.lst hp
 obtain⟨h1,h2,h3,h4⟩:=zia hj
 have hl:=r.length
 have hn:=Yn
 have I':Inv X pins σ (upd H p (.lst (xs.set j v))) { s with heap:=s.heap.update p (Obj.mapSeq (·.setIfInBounds j u)) } :=
  I.lstUpd hp ho (zgQ its n j u) (r.set rv j) (by rw [List.length_set];exact hz) s.toks
 by_cases h0:0<=k
 ·have hk:k.toNat=j:=by
   rw [seqIndex_of h0 h4] at h1
   exact Option.some.inj h1
  exact PySem.W.ki_setAt ho h0 (by omega) (by rw [size_toArray,<- hl];exact h4) (by rw [hk];exact⟨_,I',q⟩)
 ·have hk:(k+(its.toArray.size:Int)).toNat=j:=by
   rw [seqIndex_neg (by omega) h3] at h1
   rw [size_toArray,<- hl]
   exact Option.some.inj h1
  exact PySem.W.ki_setBack ho (by omega) (by rw [size_toArray,<- hl];exact h3) (by omega) (by rw [hk];exact⟨_,I',q⟩)
theorem zem (lo hi:Option Int)(n:Nat):(sliceBounds lo hi none n).1=((HT.sIx n 0 lo:Nat):Int)/\(sliceBounds lo hi none n).2.1=((HT.sIx n n hi:Nat):Int)/\(sliceBounds lo hi none n).2.2=1:=by
 refine⟨?_,?_,rfl⟩
 ·cases lo with
  | none=>simp [sliceBounds,HT.sIx]
  | some i =>
   simp only [sliceBounds,HT.sIx,Option.getD_none,show (1:Int)>0 by decide,if_true]
   by_cases h:i<0
   ·simp only [h,if_true]<;>omega
   ·simp only [h,if_false]<;>omega
 ·cases hi with
  | none=>simp [sliceBounds,HT.sIx]
  | some i =>
   simp only [sliceBounds,HT.sIx,Option.getD_none,show (1:Int)>0 by decide,if_true]
   by_cases h:i<0
   ·simp only [h,if_true]<;>omega
   ·simp only [h,if_false]<;>omega
theorem zcV (its:List Value)(lo hi:Option Int):slicePick its.toArray lo hi none=((its.drop (HT.sIx its.length 0 lo)).take (HT.sIx its.length its.length hi-HT.sIx its.length 0 lo)).toArray:=by
 obtain⟨h1,h2,h3⟩:=zem lo hi its.toArray.size
 unfold slicePick
 rw [h1,h2,h3]
 simp only [sliceRange_one,pick_run,size_toArray]<;>rfl
def zon (K:PySem.W.Frag):V->Option Int->Option Int->Hp->VK->Prop:=fun x lo hi H Q=>∃a xs,x=.ref a/\SqL K H a xs/\∀p,H p=none->Q (.ref p) (upd H p (.lst (QU xs lo hi)))
theorem zbt:SlR X (zon X.K):=by
 intro pins s σ H x v vl vu lo hi sl Q I rx hs pl pu h
 obtain⟨a,xs,rfl,hx,q⟩:=h
 cases rx
 obtain⟨its,r,ht,hz⟩:=I.list hx
 have hlen:=r.length
 refine⟨"list",_,slot_list_getitem.lookup,ht.isList.typeIs,?_⟩
 refine wpAny_getItem_list_slice ht.isList hs pl pu .none (by simp) ?_ (by rw [size_toArray]<;>omega)
 rw [zcV,<- hlen]
 refine⟨.ref s.heap.objs.size,_,I.laid (t':=s.toks) (o:=.lst (QU xs lo hi)) (fun b ob q=>Heap.get?_push_of_some _ q) (le_refl _) ?_,rfl,q _ (I.hok.fresh (le_refl _))⟩
 exact⟨le_trans (zfl xs lo hi) hz,_,0,(r.drop (HT.sIx xs.length 0 lo)).take (HT.sIx xs.length xs.length hi-HT.sIx xs.length 0 lo),Heap.get?_push_size _ rfl⟩
noncomputable def QW:V->Bool
 | .non=>true
 | .bl _=>true
 | .int _=>true
 | .str _=>true
 | _=>false
noncomputable def eqV:V->V->Bool
 | .non,.non=>true
 | .bl a,.bl b=>a==b
 | .bl a,.int b=>(if a then 1 else 0)==b
 | .int a,.bl b=>a==(if b then 1 else 0)
 | .int a,.int b=>a==b
 | .str a,.str b=>a==b
 | _,_=>false
theorem znp {A:Around}{s:Shared}{y x:V}{u v:Value}(ry:RelV y u)(rx:RelV x v)(fy:QW y=true)(fx:QW x=true):SeqAt.EqAt A s u v (eqV y x):=by
 cases y with
 | non =>
  cases ry
  cases x with
  | non=>cases rx;exact SeqAt.EqAt.same _
  | bl b=>cases rx;exact SeqAt.EqAt.none_bool b
  | int b=>obtain⟨t,rfl⟩:=rx;exact SeqAt.EqAt.none_int b t
  | str b=>obtain⟨t,rfl⟩:=rx;exact SeqAt.EqAt.none_str b t
  | _=>exact absurd (show false=true from fx) Bool.false_ne_true
 | bl a =>
  cases ry
  cases x with
  | non=>cases rx;exact SeqAt.EqAt.bool_none a
  | bl b=>cases rx;exact SeqAt.EqAt.bool_bool a b
  | int b=>obtain⟨t,rfl⟩:=rx;exact SeqAt.EqAt.bool_int a b t
  | str b=>obtain⟨t,rfl⟩:=rx;exact SeqAt.EqAt.bool_str a b t
  | _=>exact absurd (show false=true from fx) Bool.false_ne_true
 | int a =>
  obtain⟨t',rfl⟩:=ry
  cases x with
  | non=>cases rx;exact SeqAt.EqAt.int_none a t'
  | bl b=>cases rx;exact SeqAt.EqAt.int_bool a t' b
  | int b=>obtain⟨t,rfl⟩:=rx;exact SeqAt.EqAt.int_int a t' b t
  | str b=>obtain⟨t,rfl⟩:=rx;exact SeqAt.EqAt.int_str a t' b t
  | _=>exact absurd (show false=true from fx) Bool.false_ne_true
 | str a =>
  obtain⟨t',rfl⟩:=ry
  cases x with
  | non=>cases rx;exact SeqAt.EqAt.str_none a t'
  | bl b=>cases rx;exact SeqAt.EqAt.str_bool a t' b
  | int b=>obtain⟨t,rfl⟩:=rx;exact SeqAt.EqAt.str_int a t' b t
  | str b=>obtain⟨t,rfl⟩:=rx;exact SeqAt.EqAt.str_str a t' b t
  | _=>exact absurd (show false=true from fx) Bool.false_ne_true
 | _=>exact absurd (show false=true from fy) Bool.false_ne_true
def eqU (x:V)(u:Value):Bool:=match u with
 | .none=>eqV .non x
 | .bool b=>eqV (.bl b) x
 | .int i _=>eqV (.int i) x
 | .str z _=>eqV (.str z) x
 | _=>false
theorem zj9 {x y:V}{u:Value}(r:RelV y u)(f:QW y=true):eqU x u=eqV y x:=by
 cases y with
 | non=>cases r;rfl
 | bl b=>cases r;rfl
 | int i=>obtain⟨t,rfl⟩:=r;rfl
 | str z=>obtain⟨t,rfl⟩:=r;rfl
 | _=>exact absurd (show false=true from f) Bool.false_ne_true
theorem zen {x:V}:∀{xs:List V} {us:List Value},Vals xs us->xs.all QW=true->us.any (eqU x)=xs.any fun y=>eqV y x
 | _,_,.nil,_=>rfl
 | y::xs,u::us,.cons r t,f=>by
  rw [List.all_cons,and_eq_true] at f
  rw [any_cons,any_cons,zj9 r f.1,zen t f.2]
theorem zbI {A:Around}{s:Shared}{x:V}{v:Value}(rx:RelV x v)(fx:QW x=true):∀{xs:List V} {us:List Value},Vals xs us->xs.all QW=true->∀u∈us,SeqAt.EqAt A s u v (eqU x u)
 | _,_,.nil,_=>fun u hu=>by cases hu
 | y::xs,u::us,.cons r t,f=>fun u' hu=>by
  rw [List.all_cons,and_eq_true] at f
  rcases List.mem_cons.mp hu with rfl | hu
  ·rw [zj9 r f.1];exact znp r rx f.1 fx
  ·exact zbI rx fx t f.2 u' hu
def inV (x:V)(xs:List V):Bool:=xs.any fun y=>eqV y x
def rIn (K:PySem.W.Frag)(neg:Bool):R2:=fun x y H Q=>∃p xs,y=.ref p/\(SqL K H p xs\/SqT K H p xs)/\QW x=true/\xs.all QW=true/\Q (.bl (if neg then !inV x xs else inV x xs)) H
theorem zi2:OpR X (compareOp .In) (rIn X.K false):=by
 intro pins s σ H x y v u Q I rx ry h
 obtain⟨p,xs,rfl,hq,fx,fs,q⟩:=h
 cases ry
 rcases hq with hq | hq
 ·obtain⟨its,r,pl,hz⟩:=I.list hq
  refine SeqAt.in_listAt (eqU x) pl.isList (fun w hw=>zbI rx fx r fs w (by simpa using hw)) ⟨.bl _,H,I,rfl,?_⟩
  rw [show its.toArray.any (eqU x)=its.any (eqU x) by simp,zen r fs]
  exact q
 ·obtain⟨its,r,pl,hz⟩:=I.tuple hq
  refine SeqAt.in_tupleAt (eqU x) pl (fun w hw=>zbI rx fx r fs w (by simpa using hw)) ⟨.bl _,H,I,rfl,?_⟩
  rw [show its.toArray.any (eqU x)=its.any (eqU x) by simp,zen r fs]
  exact q
theorem QX:OpR X (compareOp .NotIn) (fun x y H Q=>∃i j,x=.str i/\y=.str j/\Q (.bl (!(!(Builtin.Str.occurrences j i 0 j.length 1).isEmpty))) H):=by
 intro pins s σ H x y v u Q I rx ry h
 obtain⟨i,j,rfl,rfl,q⟩:=h
 obtain⟨t,rfl⟩:=rx
 obtain⟨t',rfl⟩:=ry
 exact notIn_str ⟨.bl _,H,I,rfl,q⟩
theorem zG:yr X (.builtin "len") (fun xs H Q=>∃p ys,xs=[.ref p]/\(SqL X.K H p ys\/SqT X.K H p ys)/\Q (.int ys.length) H):=by
 intro pins s σ H xs us Q I r h
 obtain⟨p,ys,rfl,hq,q⟩:=h
 obtain⟨u,rfl,rx⟩:=vals1 r
 cases rx
 have hn:=Yn
 rcases hq with hq | hq
 ·obtain⟨its,r',pl,hz⟩:=I.list hq
  have hlen:=r'.length
  exact Calls.call_len_list pl.isList (by simp only [size_toArray]<;>omega) ⟨.int ys.length,H,I.tok _,⟨s.toks+1,by rw [size_toArray,hlen]⟩,q⟩
 ·obtain⟨its,r',pl,hz⟩:=I.tuple hq
  have hlen:=r'.length
  exact len_tuple pl (by simp only [size_toArray]<;>omega) ⟨.int ys.length,H,I.tok _,⟨s.toks+1,by rw [size_toArray,hlen]⟩,q⟩
theorem yF:yr X (.builtin "len") (fun xs H Q=>∃z,xs=[.str z]/\z.length<=sizeLine/\Q (.int z.length) H):=by
 intro pins s σ H xs us Q I r h
 obtain⟨z,rfl,hz,q⟩:=h
 obtain⟨u,rfl,t,rfl⟩:=vals1 r
 have hn:=Yn
 exact len_str (by omega) ⟨.int z.length,H,I.tok _,⟨_,rfl⟩,q⟩
theorem QY:yr X (.type "list") (fun xs H Q=>∃p ys,xs=[.ref p]/\(SqL X.K H p ys\/SqT X.K H p ys)/\∀l,H l=none->Q (.ref l) (upd H l (.lst ys))):=by
 intro pins s σ H xs us Q I r h
 obtain⟨p,ys,rfl,hq,q⟩:=h
 obtain⟨u,rfl,rx⟩:=vals1 r
 cases rx
 have fin:∀(its:List Value),Vals ys its->ys.length<=sizeLine->∀(h':Heap) (c':Nat),(∀b o',s.heap.get? b=some o'->h'.get? b=some o') ->
   h'.get? s.heap.objs.size=some { cls:=.type "list",dict:=none,data:=.seq its.toArray c',slots:=#[] }->EP X pins σ Q (.ref s.heap.objs.size) { s with heap:=h' }:=fun its r' hz h' c' kp e =>
  ⟨.ref s.heap.objs.size,_,I.laid (t':=s.toks) kp (le_refl _) (show jc X.prog X.w _ h' _ (.lst ys) from ⟨hz,its,c',r',e⟩),rfl,q _ (I.hok.fresh (le_refl _))⟩
 rcases hq with hq | hq
 ·obtain⟨its,r',pl,hz⟩:=I.list hq
  have hlen:=r'.length
  obtain⟨o,ho,hc,n,hd⟩:=pl.isList
  exact call_list_seq p (.inl rfl) ho hc hd (fun h' c' kp e=>fin its r' hz h' c' kp e) (by simp only [size_toArray]<;>omega)
 ·obtain⟨its,r',pl,hz⟩:=I.tuple hq
  have hlen:=r'.length
  obtain⟨o,ho,hc,n,hd⟩:=pl
  exact call_list_seq p (.inr rfl) ho hc hd (fun h' c' kp e=>fin its r' hz h' c' kp e) (by simp only [size_toArray]<;>omega)
def tyV (K:PySem.W.Frag)(T:String)(x:V)(H:Hp):Prop:=match x with
 | .str _=>T="str"
 | .int _=>T="int"
 | .ref p=>(T="list"/\∃xs,SqL K H p xs)\/(T="tuple"/\∃o,K.lookup p=some o/\o.cls=.type "tuple"/\o.dict=none) \/
   (T="dict"/\((∃kvs,H p=some (.dK kvs))\/∃kvs,H p=some (.dT kvs)))\/(T="set"/\∃S n,H p=some (.set S n))
 | _=>False
theorem znq {pins:List (Addr×Obj)}{σ:St}{H:Hp}{s:Shared}{T:String}{x:V}{v:Value}(I:Inv X pins σ H s)(r:RelV x v)(ty:tyV X.K T x H) :
  s.TypeIs v T/\∀a,v=.ref a->∃ob,s.heap.get? a=some ob/\ob.dict=none:=by
 cases x with
 | str z =>
  obtain⟨t,rfl⟩:=r
  cases (show T="str" from ty)
  exact⟨typeIs_str s z t,fun _ e=>nomatch e⟩
 | int i =>
  obtain⟨t,rfl⟩:=r
  cases (show T="int" from ty)
  exact⟨typeIs_int s i t,fun _ e=>nomatch e⟩
 | ref p =>
  cases r
  rcases ty with ⟨rfl,xs,hq⟩ | ⟨rfl,o,hk,hc,hd⟩ | ⟨rfl,hk⟩ | ⟨rfl,S,n,hk⟩
  ·obtain⟨its,_,pl,_⟩:=I.list hq
   refine⟨pl.isList.typeIs,fun a e=>?_⟩
   cases e
   obtain⟨o,n,e,c,hd,_⟩:=pl
   exact⟨o,e,hd⟩
  ·refine⟨⟨o,I.kIn p o hk,hc⟩,fun a e=>?_⟩
   cases e
   exact⟨o,I.kIn _ o hk,hd⟩
  ·have z:∃o,s.heap.get? p=some o/\o.ExactDict:=by
    rcases hk with ⟨kvs,hk⟩ | ⟨kvs,hk⟩
    ·obtain⟨_,_,_,_,o,_,_,e,ex,_⟩:=I.hok p _ hk
     exact⟨o,e,ex⟩
    ·obtain⟨_,_,_,_,o,_,_,e,ex,_⟩:=I.hok p _ hk
     exact⟨o,e,ex⟩
   obtain⟨o,e,ex⟩:=z
   refine⟨⟨o,e,ex.1⟩,fun a e2=>?_⟩
   cases e2
   exact⟨o,e,ex.2.1⟩
  ·obtain⟨o,_,_,_,e,ex,_⟩:=I.hok p _ hk
   refine⟨⟨o,e,ex.1⟩,fun a e2=>?_⟩
   cases e2
   exact⟨o,e,ex.2.1⟩
 | _=>exact False.elim ty
def tBM (K:PySem.W.Frag)(T:String)(r:V->List V->Hp->VK->Prop)(to:TE)(t:TA):TE:=fun σ H Q=>to σ H fun x H1=>tyV K T x H1/\t σ H1 fun xs H2=>r x xs H2 Q
variable {o e:Expr}{es:List Expr}{to:TE}{t:TA}{name:Str}{apos cpos:Pos}{T id:String}{r:V->List V->Hp->VK->Prop}
theorem Jt (pa:PlainAttrs T)(slot:Slot T name id)(hty:typeOf (.builtin id)=pure (.type "method_descriptor"))(hm:MtR X id r)(ho:PE X o to)(ha:PA X (e::es) t)
  (hbase:attributeBase o name X.env (eval o X.env)=eval o X.env:=by rfl)
  (hfew:((backTo cpos (starEach (e::es) X.env)).all (fun x=>!x.1)&&(backToKw cpos (keywordEach [] X.env)).all (fun x=>x.1.isSome)
   && decide ((e::es).length+([]:List Keyword).length+(if ([]:List Keyword).isEmpty then 0 else 1)<30))=true:=by rfl)
  (hline:(apos.endLine==cpos.line)=true:=by rfl) (hs:starEach (e::es) X.env=(false,eval e X.env)::starEach es X.env:=by rfl) (hplain:(backTo cpos (starEach es X.env)).any (·.1)=false:=by rfl) :
  PE X (.Call (.Attribute o name apos) (e::es) [] cpos) (tBM X.K T r to t):=by
 intro pins s σ H Q I h
 refine wpAny_Call_method_late hbase hfew hline rfl (thn (ho pins s σ H _ I h) fun v s1 ⟨x,H1,I1,r1,ty,q1⟩=>?_)
 obtain⟨h1,h2⟩:=znq I1 r1 ty
 refine⟨T,id,pa,slot,hty,h1,h2,?_⟩
 have hA:=ha cpos pins s1 σ H1 _ I1 q1
 rw [hs] at hA ⊢
 refine Calls.callWith_builtin (by show (false || (backTo cpos (starEach es X.env)).any (·.1))=false;rw [hplain]<;>rfl) (Calls.evalArgs_plain ?_)
 exact thn hA fun us s2 ⟨vs,H2,I2,r2,q2⟩=>hm pins s2 σ H2 x vs v us Q I2 r1 r2 q2
/- xs.append(e),list.index on a module's tuple .. are MtR facts of 06m -/
end
def MtM (X:Cx)(id:String)(r:V->List V->Hp->VK->Prop):Prop :=
 ∀(pins:List (Addr×Obj)) (s:Shared) (σ:St) (H:Hp) (x:V) (xs:List V) (v:Value) (us:List Value) (Q:VK),Inv X pins σ H s->RelV x v->Vals xs us->r x xs H Q ->
  wpAny (model X.prog X.w) X.A (call (.builtin id) (v::us)) (EP X pins σ Q) X.xe s
theorem Vals.one:∀{x:V} {us:List Value},Vals [x] us->∃u,us=[u]/\RelV x u
 | _,_,.cons r .nil=>⟨_,rfl,r⟩
theorem Vals.rep {xs:List V}{us:List Value}(h:Vals xs us):∀k:Nat,Vals (replicate k xs).flatten (replicate k us).flatten
 | 0=>.nil
 | k+1=>by
  rw [replicate_succ,replicate_succ,flatten_cons,flatten_cons]
  exact Vals.append h (Vals.rep h k)
theorem foldl_rep (its:List Value):∀(k:Nat) (acc:List Value),
  List.foldl (fun x1 x2=>x1++x2) acc.toArray (replicate k its.toArray)=(acc++(replicate k its).flatten).toArray
 | 0,acc=>by simp
 | k+1,acc=>by
  have e:acc.toArray++its.toArray=(acc++its).toArray:=by simp
  have e2:(acc++its)++(replicate k its).flatten=acc++(replicate (k+1) its).flatten:=by
   rw [replicate_succ,flatten_cons,append_assoc]
  rw [<- e2,<- foldl_rep its k (acc++its),<- e,replicate_succ,foldl_cons]
section
variable {X:Cx}{pins:List (Addr×Obj)}{σ:St}{H:Hp}{s:Shared}{l b:Addr}{xs ys zs:List V}
theorem Inv.lset {its its':List Value}{n:Nat}{f:Array Value->Array Value}{t':Nat}(I:Inv X pins σ H s)(hH:H l=some (.lst xs))
  (e:s.heap.get? l=some { cls:=.type "list",data:=.seq its.toArray n }) (hf:f its.toArray=its'.toArray) (hv:Vals ys its') (hz:ys.length<=sizeLine) :
  Inv X pins σ (upd H l (.lst ys)) { s with heap:=s.heap.update l (Obj.mapSeq f),toks:=t' }:=by
 have q:=PySem.IsL.update e f
 rw [hf] at q
 refine I.write (x:=l) (e:=l) (by rw [hH];exact trivial) (.inl rfl) (fun b' u hb hu=>(Heap.get?_update_other s.heap (Obj.mapSeq f) (Ne.symm hb)).trans hu) ⟨_,q⟩ ?_
 exact⟨hz,its',_,hv,q⟩
theorem Inv.lnew {its:List Value}{t':Nat}(I:Inv X pins σ H s)(hv:Vals ys its)(hz:ys.length<=sizeLine) :
  Inv X pins σ (upd H s.heap.objs.size (.lst ys)) { s with heap:=s.heap.push { cls:=.type "list",data:=.seq its.toArray },toks:=t' } :=
 I.laid (fun _ _ q=>Heap.get?_push_of_some _ q) (le_refl _) ⟨hz,its,0,hv,Heap.get?_push_size _ rfl⟩
theorem Inv.fresh (I:Inv X pins σ H s):H s.heap.objs.size=none:=I.hok.fresh (le_refl _)
theorem Inv.lstM (I:Inv X pins σ H s)(hH:H l=some (.lst xs)):xs.length<=sizeLine/\∃(its:List Value) (n:Nat),Vals xs its/\xs.length=its.length/\s.heap.get? l=some { cls:=.type "list",data:=.seq its.toArray n }:=by
 obtain⟨z,its,n,r,e⟩:=I.hok l _ hH
 exact⟨z,its,n,r,r.length,e⟩
theorem zfm {n:Nat}(h:n<=sizeLine):Builtin.List.listTooLong n=false:=by
 unfold Builtin.List.listTooLong
 exact decide_eq_false (by omega)
end
section
variable {X:Cx}
def zlW:V->List V->Hp->VK->Prop:=fun x vs H Q=>∃l xs y,x=.ref l/\vs=[y]/\H l=some (.lst xs)/\xs.length<sizeLine/\Q .non (upd H l (.lst (xs++[y])))
theorem qY:MtM X "list.append" zlW:=by
 intro pins s σ H x vs v us Q I rx rv h
 obtain⟨l,xs,y,rfl,rfl,hH,hz,q⟩:=h
 cases rx
 obtain⟨u,rfl,ru⟩:=rv.one
 obtain⟨z,its,n,r,hl,e⟩:=I.lstM hH
 refine call_meets F.slot_list_append ⟨_,e,rfl⟩ F.entry_list_append (F.args_list_append_2 _ _) (PySem.list_append l its.toArray n u (by rw [size_toArray];omega)) ⟨e,?_⟩
 refine⟨.non,_,I.lset (its':=its++[u]) hH e (by simp) (r.append (.cons ru .nil)) ?_,rfl,q⟩
 rw [length_append,List.length_singleton]
 omega
def zlX:V->List V->Hp->VK->Prop:=fun x vs H Q=>∃l b xs zs,x=.ref l/\vs=[.ref b]/\H l=some (.lst xs)/\H b=some (.lst zs)/\xs.length+zs.length<=sizeLine/\Q .non (upd H l (.lst (xs++zs)))
theorem zdr:MtM X "list.extend" zlX:=by
 intro pins s σ H x vs v us Q I rx rv h
 obtain⟨l,b,xs,zs,rfl,rfl,hH,hB,hz,q⟩:=h
 cases rx
 obtain⟨u,rfl,ru⟩:=rv.one
 cases ru
 obtain⟨z,its,n,r,hl,e⟩:=I.lstM hH
 obtain⟨z2,its2,n2,r2,hl2,e2⟩:=I.lstM hB
 have hsz:its.toArray.size+its2.toArray.size<=sizeLine:=by rw [size_toArray,size_toArray];omega
 have hlong:¬ (!its.toArray.isEmpty&&Builtin.List.listTooLong (its.toArray.size+its2.toArray.size))=true:=by
  rw [zfm hsz,Bool.and_false]
  exact Bool.false_ne_true
 refine call_meets F.slot_list_extend ⟨_,e,rfl⟩ F.entry_list_extend (F.args_list_extend_2 _ _)
  (AutoSeq1.list_extend_list_list_0 l its.toArray n b its2.toArray n2 hlong (by rw [size_toArray];omega) (by omega)) ⟨e,e2,?_⟩
 refine⟨.non,_,I.lset (its':=its++its2) hH e (by simp) (r.append r2) ?_,rfl,q⟩
 rw [length_append]
 omega
def zpb:R2:=fun x y H Q=>∃l b xs zs,x=.ref l/\y=.ref b/\H l=some (.lst xs)/\H b=some (.lst zs)/\xs.length+zs.length<=sizeLine/\∀p,H p=none->Q (.ref p) (upd H p (.lst (xs++zs)))
theorem zaB:OpR X (binaryOp .Add) zpb:=by
 intro pins s σ H x y v u Q I rx ry h
 obtain⟨l,b,xs,zs,rfl,rfl,hH,hB,hz,q⟩:=h
 cases rx
 cases ry
 obtain⟨z,its,n,r,hl,e⟩:=I.lstM hH
 obtain⟨z2,its2,n2,r2,hl2,e2⟩:=I.lstM hB
 refine PySem.P.add_list e e2 ?_ (by rw [size_toArray,size_toArray];omega)
 have ea:its.toArray++its2.toArray=(its++its2).toArray:=by simp
 rw [ea]
 exact⟨.ref _,_,I.lnew (t':=s.toks) (r.append r2) (by rw [length_append];omega),rfl,q _ I.fresh⟩
def zpc:R2:=fun x y H Q=>∃l k xs,x=.ref l/\y=.int k/\H l=some (.lst xs)/\-(2^63)<=k/\k<2^63/\xs.length*k.toNat<=sizeLine /\
 ∀p,H p=none->Q (.ref p) (upd H p (.lst (replicate k.toNat xs).flatten))
theorem len_rep {α:Type}(xs:List α)(k:Nat):(replicate k xs).flatten.length=k*xs.length:=by
 induction k with
 | zero=>simp
 | succ k ih=>rw [replicate_succ,flatten_cons,length_append,ih,Nat.succ_mul,add_comm]
theorem zgR:OpR X (binaryOp .Mult) zpc:=by
 intro pins s σ H x y v u Q I rx ry h
 obtain⟨l,k,xs,rfl,rfl,hH,h1,h2,hz,q⟩:=h
 cases rx
 obtain⟨t,rfl⟩:=ry
 obtain⟨z,its,n,r,hl,e⟩:=I.lstM hH
 have hlen:its.toArray.size*k.toNat<=sizeLine:=by rw [size_toArray,<- hl];exact hz
 have hcap:¬ its.toArray.size*k.toNat>(2^63-1)/8:=by
  have:(sizeLine:Nat)<=(2^63-1)/8:=by decide
  omega
 have hfit:¬ (!Builtin.List.listFitsIndex k)=true:=by
  rw [fitsIndex_both h1 h2]
  exact Bool.false_ne_true
 have hlong:¬ Builtin.List.listTooLong (its.toArray.size*k.toNat)=true:=by
  rw [zfm hlen]
  exact Bool.false_ne_true
 have hnew:List.foldl (fun x1 x2=>x1++x2) #[] (replicate (if its.toArray.isEmpty=true then 0 else k.toNat) its.toArray)=(replicate k.toNat its).flatten.toArray:=by
  have f0:∀m:Nat,List.foldl (fun x1 x2=>x1++x2) #[] (replicate m its.toArray)=(replicate m its).flatten.toArray:=fun m=>by
   have:=foldl_rep its m []
   rw [List.nil_append] at this
   exact this
  rw [f0]
  cases its with
  | nil=>simp
  | cons a r'=>rw [if_neg (by simp)]
 refine wpAny_binaryOp_repeat_ref (T:="list") (U:="int") (by decide) ⟨_,e,rfl⟩ (fun s'=>typeIs_int s' k t) noFill_list_mul F.fills_int_mul F.slot_int_rmul repeat_list F.slot_int_index.lookup
  (call_meets F.slot_int_rmul (typeIs_int s k t) F.entry_int_rmul (F.args_int_rmul_2 _ _) (int___rmul___int_list k t l its.toArray n)
   ⟨e,rfl,⟨_,e,rfl⟩,call_meets F.slot_list_mul ⟨_,e,rfl⟩ F.entry_list_mul (F.args_list_mul_2 _ _) (AutoListH.list___mul___list_int_3 l its.toArray n k t hfit hcap hlong) ⟨e,?_⟩⟩)
 rw [hnew]
 exact⟨.ref _,_,I.lnew (t':=s.toks) (r.rep k.toNat) (by rw [len_rep,mul_comm];exact hz),rfl,q _ I.fresh⟩
end
section
variable {prog:Program}{w:World}{A:Around}{E:Value->Shared->Prop}{s:Shared}
end
section
variable {X:Cx}
end
end L2
namespace Att
open PySem PySem.W PySem.Calls PyProof.Rows
theorem zbl {P:Params}{h:Heap}:∀(ns:List Int) (vs:List Value),WellAll P h vs (ns.map WData.int)->IntsAre vs ns:=by
 intro ns
 induction ns with
 | nil =>
  intro vs w
  rw [List.map_nil] at w
  cases w
  exact .nil
 | cons n ns ih =>
  intro vs w
  rw [map_cons] at w
  cases w with
  | cons a b =>
   cases a
   exact .cons _ _ (ih _ b)
theorem zi3 {l:OpenLaw}{n:Nat}(hn:l.most=some n){P:Params}{h:Heap}{args:List WData}{vals:List Value}
  (hpre:l.row.toRowW.claim.pre args=true) (hwl:WellAll P h vals args) :
  ∃a vs ns,vals=[Value.ref a]/\args=[WData.list (ns.map WData.int)]/\h.get? a=some { cls:=.type "list",data:=.seq vs.toArray }/\IntsAre vs ns/\ns.length<=n:=by
 have hsh:WShape.hasAll [] args [.list .int]=true:=(pre_splitW hpre).1
 have hc:l.pre.holds [] { args:=args }=true:=(pre_splitW hpre).2
 obtain⟨d,r,rfl,h1,h2⟩:=hasAllW_cons hsh
 obtain rfl:=hasAllW_nil h2
 obtain⟨xs,rfl,h3⟩:=hasW_list h1
 obtain⟨ns,rfl⟩:=items_int h3
 have hlen:ns.length<=n:=by
  unfold OpenLaw.pre at hc
  have h4:(WTm.not (.lt (.lit (.int (n:Int))) (.len (.arg 0)))).holds [] { args:=[.list (ns.map .int)] }=true:=by
   have h4:=(holds_andW hc).1
   rw [hn] at h4
   exact h4
  have h5:=condW_of h4 (w_not (w_lt w_lit (w_len_list (w_arg rfl))))
  rw [length_map] at h5
  refine Nat.le_of_not_lt fun q=>?_
  have q':(n:Int)<((ns.length:Nat):Int):=by omega
  first
   | (rw [decide_eq_true q'] at h5;exact absurd h5 (by decide))
   | (simp at h5;omega)
 cases hwl with
 | cons w1 w2 =>
  cases w2
  cases w1 with
  | list ho hall=>exact⟨_,_,ns,rfl,rfl,ho,zbl ns _ hall,hlen⟩
theorem zi4 (l:OpenLaw)(args:List WData):l.row.toRowW.claim.post args (.bool true) args=true :=
 postW_of (r:=l.row.toRowW) (X:=(true==true))
  (show WShape.has [] (.bool true) .bool=true by first | rfl | decide | simp [WShape.has,WShape.arms,WShape.armsAll])
  (show (WTm.eq .res (.lit (.bool true))).value [] { args:=args,res:=some (.bool true),after:=args }=some (.bool (true==true)) from w_eq_bool (w_res rfl) w_lit) rfl
theorem zfn {l:OpenLaw}{n:Nat}{q:Program}{loose:List Str}{XP:(Str->Option Value)->Heap->Prop}{YP:World->Heap->Prop}{d:DefRec}
  (hn:l.most=some n) (hdf:d.params.defaults=[])
  (call:∀(w:World) (s₀ s₁:Shared) (mg mb:Str->Option Value) (fa:Addr) (o:Obj) (pm cd doc:Value) (a:Addr) (vs:List Value) (ns:List Int),
   Ground q loose [] XP w s₀ mg mb s₁.heap->YP w s₁.heap ->
   s₁.heap.get? fa=some o->o.data=.func (docDef d.name d.params d.body d.scope pm cd doc)->s₁.heap.CodeRec cd d.name->mg d.name=some (.ref fa) ->
   s₁.heap.get? a=some { cls:=.type "list",data:=.seq vs.toArray }->IntsAre vs ns->ns.length<=n->s₁.gens=#[] ->
   codeAny (model l.prog w) callerA (.call (.ref fa) ⟨[.ref a],[]⟩) (fun r s'=>r=.ok (.ret (.bool true))/\OldK s₁.heap s'.heap/\s'.os=s₁.os/\AllBare s'.gens) s₁) :
  WalkO q loose XP YP l.row.toRowW d [] (fun f vs=>PySem.call f vs):=by
 intro w s₀ s₁ mg mb G Y fa o pm cd doc dV kV ho hd hcd hD hmg hg args vals as hpre hlay hrd hwl hlo
 obtain rfl:dV=.none:=Dflts.none hD hdf
 obtain rfl:kV=.none:=Dflts.noKw hD
 obtain⟨a,vs,ns,rfl,rfl,hobj,hints,hlen⟩:=zi3 hn hpre hwl
 refine enter_call (codeAny_mono (call w s₀ s₁ mg mb fa o pm cd doc a vs ns G Y ho (fd_plain hd) hcd hmg hobj hints hlen hg) fun r s' hq=>?_)
 obtain⟨rfl,h2,h3,h4⟩:=hq
 exact⟨.inl ⟨.bool true,.bool true,[],rfl,fun _=>rfl,.bool true,zi4 l _,fun _=>⟨List.Pairwise.nil,fun _ hm=>(nomatch hm)⟩⟩,h2,h3,h4⟩
section
variable {prog:Program}{w:World}{A:Around}{E:Value->Shared->Prop}{s:Shared}{K:Frag}
end
end Att
namespace L2
open PySem PySem.Spec PyProof.Rows
theorem zds:∀{vs:List Value} {ns:List Int},IntsAre vs ns->Vals (ns.map V.int) vs
 | _,_,.nil=>.nil
 | _,_,.cons n t h=>.cons ⟨t,rfl⟩ (zds h)
def znr (H:Hp):Prop:=∀b,H b=none\/∃o xs,H b=some (.frz o (.lst xs))
theorem zka {P:Program}{w:World}{K:PySem.W.Frag}{mg mb:Str->Option Value}{CX:CXT}{k:Nat}{fa a:Addr}{fd:FuncData}{x:Str}{sp:Sp}{s₁:Shared}{vs:List Value}{ns:List Int}
  (KX:K.In s₁.heap) (hns:s₁.heap.Ns mainGlobals mg) (hb:s₁.heap.Ns builtinsNs mb) (hbb:∀x:Str,x ≠ "__name__"->mb x=bootBuiltins x) (hlim:s₁.heap.NoLimit) (hg:s₁.gens=#[])
  (ha:s₁.heap.get? a=some { cls:=.type "list",data:=.seq vs.toArray }) (hi:IntsAre vs ns) (hl:ns.length<=sizeLine) (hr:Yo k callerA)
  (F:∀base:Heap,K.In base->base.Ns mainGlobals mg->zH P w K mg base CX k fa fd [x] sp) (hbind:∀(s:Shared) (u:Value),BindsTo s fd ⟨[u],[]⟩ [(x,u)])
  (hsp:∀H:Hp,znr H->SqL K H a (ns.map V.int)->sp [.ref a] H (fun v _=>v=.bl true) fun _ _ _=>False)
  (hCX:∀H e s',CX [] H s₁ (fun _ _ _=>False) e s'->False) :
  codeAny (model P w) callerA (.call (.ref fa) ⟨[.ref a],[]⟩) (fun r s'=>r=.ok (.ret (.bool true))/\OldK s₁.heap s'.heap/\s'.os=s₁.os/\AllBare s'.gens) s₁:=by
 have rv:=zds hi
 have lenV:=hi.length
 have core:∀H:Hp,znr H->SqL K H a (ns.map V.int)->HOk P w H s₁.heap->(∀b,H b≠none->b=a)->(H a≠none->K.lookup a=none) ->
   codeAny (model P w) callerA (.call (.ref fa) ⟨[.ref a],[]⟩) (fun r s'=>r=.ok (.ret (.bool true))/\OldK s₁.heap s'.heap/\s'.os=s₁.os/\AllBare s'.gens) s₁:=by
  intro H hO hS hok hA hK
  have base_of:∀{b:Addr} {o:Obj},s₁.heap.get? b=some o->H b=none->(zei s₁.heap H).get? b=some o:=fun e n=>zj1 e n
  have noA:∀{b:Addr} {o:Obj} {es:Array DictEntry} {ep:Nat},s₁.heap.get? b=some o->o.data=.dict es ep->H b=none:=fun {b o es ep} e d=>by
   cases q:H b with
   | none=>rfl
   | some u =>
    have e':b=a:=hA b (by rw [q];simp)
    subst e'
    rw [ha] at e;cases e
    have d':Data.seq vs.toArray _=Data.dict es ep:=d
    cases d'
  have nsK:∀{b:Addr} {m:Str->Option Value},s₁.heap.Ns b m->(zei s₁.heap H).Ns b m:=fun {b m} ⟨o,es,ep,e,d,r⟩=>⟨o,es,ep,base_of e (noA e d),d,r⟩
  have hKb:K.In (zei s₁.heap H):=fun b o e=>base_of (KX b o e) (by
   cases q:H b with
   | none=>rfl
   | some u =>
    have e':b=a:=hA b (by rw [q];simp)
    subst e'
    rw [hK (by rw [q];simp)] at e;cases e)
  have hM:Mod K mg (zei s₁.heap H):=⟨hKb,nsK hns,⟨mb,nsK hb,hbb⟩,let ⟨mc,h1,h2⟩:=hlim;⟨mc,nsK h1,h2⟩⟩
  have e0:zlT P w K mg (zei s₁.heap H) callerA [] s₁ H:=⟨rfl,hM,fun b o e=>zlR e,Nat.le_of_eq (ziU _ _),trivial,fun b hb=>absurd (show b∈([]:List Addr) from hb) (by simp),hok,.of_eq hg⟩
  refine codeAny_mono ((F _ hKb (nsK hns)).run callerA [] s₁ H ⟨[.ref a],[]⟩ [.ref a] [.ref a] _ _ hr e0 (hbind s₁ (.ref a)) (.cons rfl .nil) (hsp H hO hS)) fun r s' h=>?_
  cases r with
  | error e=>exact(hCX H e s' h).elim
  | ok fl =>
   cases fl with
   | next=>exact False.elim h
   | brk=>exact False.elim h
   | cont=>exact False.elim h
   | ret u =>
    obtain⟨v,H',os,bare,un,hok',r',q⟩:=h
    have q':v=.bl true:=q
    subst q'
    obtain rfl:u=Value.bool true:=r'
    refine⟨rfl,OldK.of_keep fun b o e=>?_,os,bare⟩
    cases q:H b with
    | none=>exact un.keep b o e q (by intro z;exact absurd (show b∈([]:List Addr) from z) (by simp)) (by simp)
    | some u =>
     rcases hO b with z | ⟨ob,xs,z⟩
     ·rw [q] at z;cases z
     ·have z2:=un.frzs b ob _ z
      obtain⟨e1,_⟩:=hok b _ z
      obtain⟨e2,_⟩:=hok' b _ z2
      rw [e] at e1;cases e1
      exact e2
 cases hk:K.lookup a with
 | some o =>
  have e:=KX a o hk
  rw [ha] at e
  cases e
  refine core (fun _=>none) (fun _=>.inl rfl) (.inr ⟨_,vs.toArray,_,hk,rfl,rfl,rfl,by rw [size_toArray,lenV];exact hl,by simpa using rv⟩) (fun b u z=>by have z':(none:Option HO)=some u:=z;cases z') (fun b z=>absurd rfl z) fun z=>absurd rfl z
 | none =>
  refine core (fun b=>if b=a then some (.frz { cls:=.type "list",data:=.seq vs.toArray } (.lst (ns.map V.int))) else none) (fun b=>?_) (.inl (.inr ⟨{ cls:=.type "list",data:=.seq vs.toArray },if_pos rfl⟩)) (fun b u z=>?_) (fun b z=>?_) fun _=>hk
  ·by_cases hb:b=a
   ·exact .inr ⟨_,_,if_pos hb⟩
   ·exact .inl (if_neg hb)
  ·by_cases hb:b=a
   ·have z':=(if_pos hb).symm.trans z
    cases z'
    subst hb
    exact⟨ha,by rw [length_map];exact hl,vs,_,rv,ha⟩
   ·have z':=(if_neg hb).symm.trans z
    cases z'
  ·by_cases hb:b=a
   ·exact hb
   ·exact absurd (if_neg hb) z
theorem zib {l:PySem.W.OpenLaw}{n k:Nat}{q:Program}{loose:List Str}{XP:(Str->Option Value)->Heap->Prop}{YP:World->Heap->Prop}{d:DefRec}{K:Params->PySem.W.Frag}{CX:World->CXT}{sp:World->Sp}{x:Str}
  (hn:l.most=some n) (hn2:n<=sizeLine) (hdf:d.params.defaults=[]) (hr:Yo k callerA)
  (hY:∀(w:World) (h:Heap),YP w h->(K w.params).In h)
  (F:∀(w:World) (mg:Str->Option Value) (fa:Addr) (h:Heap),(K w.params).In h->h.Ns mainGlobals mg->mg d.name=some (.ref fa) ->
   ∃fd:FuncData,(∀(s:Shared) (u:Value),BindsTo s fd ⟨[u],[]⟩ [(x,u)]) /\
    ∀base:Heap,(K w.params).In base->base.Ns mainGlobals mg->zH l.prog w (K w.params) mg base (CX w) k fa fd [x] (sp w))
  (hsp:∀(w:World) (H:Hp) (a:Addr) (ns:List Int),ns.length<=n->znr H->SqL (K w.params) H a (ns.map V.int)->sp w [.ref a] H (fun v _=>v=.bl true) fun _ _ _=>False)
  (hCX:∀(w:World) (H:Hp) (s:Shared) (e:Value) (s':Shared),CX w [] H s (fun _ _ _=>False) e s'->False) :
  PySem.W.WalkO q loose XP YP l.row.toRowW d [] (fun f vs=>PySem.call f vs):=by
 refine Att.zfn hn hdf fun w s₀ s₁ mg mb fa o pm cd doc a vs ns G Y ho hd hcd hmg hobj hints hlen hg=>?_
 have KX:=hY w _ Y
 obtain⟨fd,hb,hF⟩:=F w mg fa _ KX G.T.g hmg
 exact zka KX G.T.g G.T.b G.T.builtins G.T.nolimit hg hobj hints (le_trans hlen hn2) hr hF hb (fun H hO hS=>hsp w H a ns hlen hO hS) fun H e s'=>hCX w H s₁ e s'
end L2
/- THE LAST THEOREM (shape;LID,My.* are yours):
   My.Adr: a structure of the addresses that your layer names (classes,functions);My.Txt K t: a structure (Prop) of the equations over K;
   My.txt_mk:{K} {implicit addresses ..} (e1:nsIn K mainGlobals "law"=some (some (.ref f))) (e2:K.lookup f=some ⟨oc,od,.func (fnOf "law" "law" params body scope dV kV doc pm an cdv ct),sl⟩) (e3:codeIn K cdv "law"=true) ..:∃t,My.Txt K t
set_option maxRecDepth 100000 in
set_option maxHeartbeats 0 in
theorem PySem.Challenge.cw_LID_holds : PySem.Challenge.rw_LID.Holds := by
 w_on;o_law;k_head;(case hw=>w_witness2)
 k_fill
 refine L2.zib (l:=PySem.Challenge.rw_LID) (n:=63) (k:=40) (x:="script") (CX:=fun w=>..) (sp:=fun _=>My.zpd) rfl (by decide) rfl ⟨rfl,by decide,by decide⟩ (fun w h Y=>PySem.W.kIn_of Y) ?F ?S ?C
 case F =>
  intro w mg fa h KX G hmg
  have T:∃t,My.Txt (L2.KOf KX) t:=by
   dsimp only [L2.KOf]                          -- K must stand as «<heap const> w.params» for k_is
   refine' My.txt_mk ?e1 ?e2 ?e3 ..
   (case e1=>PySem.W.k_is)                    -- in the order: a name->its address->its object->its parts
   (case e2=>PySem.W.k_is)
   ..
  obtain⟨t,T⟩:=T
  have e0:=hmg.symm.trans (PySem.W.mg_of KX G T.law)
  cases e0                                       -- fa is the law's own address
  exact⟨_,fun s u=>.of_eq rfl,fun base kb nb=>My.law_fn T kb nb⟩     -- if «.of_eq rfl» comes too early: refine' ⟨_,?b,fun base kb nb=>My.law_fn T kb nb⟩;exact fun s u=>.of_eq rfl
 case S=>exact fun w H a ns hl hO hS=>..
 case C=>exact ..
(the tactic k_is has no namespace: write k_is) -/
namespace L2
open PySem PySem.Spec PyProof.Rows
noncomputable def JI (s:Stmt):Arguments:=match s with
 | .FunctionDef _ a _ _ _ _ _ _ _ _=>a
 | _=>{ posonlyargs:=[],args:=[],vararg:=none,kwonlyargs:=[],kw_defaults:=[],kwarg:=none,defaults:=[] }
noncomputable def xX (s:Stmt):List Stmt:=match s with
 | .FunctionDef _ _ b _ _ _ _ _ _ _=>b
 | _=>[]
noncomputable def zg (s:Stmt):Scope:=match s with
 | .FunctionDef _ _ _ _ _ _ sc _ _ _=>sc
 | _=>{ kind:=.function,names:=[],isGenerator:=false,isCoroutine:=false }
abbrev CX0:CXT:=fun _ _ _ _ _ _=>False
abbrev E0:XK:=fun _ _ _=>False
theorem zI {X:Cx}:Passes CX0 X E0:=fun _ _ _ _ _ _ _ h=>h.elim
structure Fun (K:PySem.W.Frag)(x qual:Str)(st:Stmt)(f:Addr)(fd:FuncData):Prop where
 ex:∃(oc:Value) (od:Option Addr) (kV doc pm:Value) (an:Option Addr) (cdv ct:Value) (osl:Array (Option Value)),
  fd=PySem.W.fnOf x qual (JI st) (xX st) (zg st) .none kV doc pm an cdv ct/\K.lookup f=some ⟨oc,od,.func fd,osl⟩/\PySem.W.codeIn K cdv qual=true
 kp:PySem.W.keepIn K (.ref f)=true
section
variable {P:Program}{w:World}{K:PySem.W.Frag}{mg:Str->Option Value}{base:Heap}
theorem Fun.ok {x qual:Str}{st:Stmt}{f:Addr}{fd:FuncData}{N ps:List Str}{k:Nat}{sp:Sp}(F:Fun K x qual st f fd)(S:zL N ps (zg st))(len:∀vs H Q E,sp vs H Q E->vs.length=ps.length)
  (hbody:∀(cdv:Value) (A:Around) (outer:List Env) (s:Shared) (H:Hp) (vs:List V) (Q:VK) (E:XK),Yo k (A.deeper (envOfC qual (zg st) s.heap.objs.size f cdv))->sp vs H Q E ->
   ∃t,PSs (zi0 CX0 P w K mg base N qual (zg st) f cdv A outer s H E).nox (xX st) t/\t { nx:=fun _ H'=>Q .non H',rt:=Q } (start N vs) H):zH P w K mg base CX0 (k+1) f fd ps sp:=by
 obtain⟨oc,od,kV,doc,pm,an,cdv,ct,osl,rfl,lk,hcd⟩:=F.ex
 refine zok lk hcd S len fun A outer s H vs Q E hr hsp=>?_
 obtain⟨t,h,q⟩:=hbody cdv A outer s H vs Q E hr hsp
 exact⟨t,h.nox,q⟩
theorem Fun.binds {x qual:Str}{st:Stmt}{f:Addr}{fd:FuncData}{ps:List Str}(F:Fun K x qual st f fd)
  (h:∀(kV doc pm:Value) (an:Option Addr) (cdv ct:Value) (us:List Value),us.length=ps.length->bindArgs (PySem.W.fnOf x qual (JI st) (xX st) (zg st) .none kV doc pm an cdv ct) ⟨us,[]⟩=pure (ps.zip us)):Binds K fd ps []:=by
 obtain⟨oc,od,kV,doc,pm,an,cdv,ct,osl,rfl,lk,hcd⟩:=F.ex
 exact .all (h kV doc pm an cdv ct)
theorem zkb {x qual:Str}{st:Stmt}{f:Addr}{oc:Value}{od an:Option Addr}{osl:Array (Option Value)}{kV doc pm cdv ct:Value}(l:K.lookup f=some ⟨oc,od,.func (PySem.W.fnOf x qual (JI st) (xX st) (zg st) .none kV doc pm an cdv ct),osl⟩)
  (c:PySem.W.codeIn K cdv qual=true) (k:PySem.W.keepIn K (.ref f)=true):Fun K x qual st f (PySem.W.fnOf x qual (JI st) (xX st) (zg st) .none kV doc pm an cdv ct):=⟨⟨oc,od,kV,doc,pm,an,cdv,ct,osl,rfl,l,c⟩,k⟩
end
section
variable {X:Cx}
theorem pv (i:Nat){x:Str}{pos:Pos}(hN:X.N[i]?=some x:=by rfl)(hv:Vis X.env.scope x:=by first | exact Or.inl rfl | exact Or.inr (Or.inl rfl) | exact Or.inr (Or.inr rfl))(hd:(x==("__debug__":Str))=false:=by decide)
  (hcd:(x==("__classdict__":Str))=false:=by decide):PE X (.Name x pos) (zn2 i):=znb hN hv hd hcd
end
theorem Qp {A B:Prop}(h:B):if false=true then A else B:=by
 rw [if_neg Bool.false_ne_true]
 exact h
theorem Qd {A B:Prop}(h:A):if true=true then A else B:=by
 rw [if_pos rfl]
 exact h
theorem zeo {c A B:Prop} [Decidable c](h1:c->A)(h2:¬ c->B):if c then A else B:=by
 by_cases h:c
 ·rw [if_pos h]
  exact h1 h
 ·rw [if_neg h]
  exact h2 h
def zw (H H':Hp):Prop:=∀b o,H b=some o->H' b=some o
theorem zw.refl (H:Hp):zw H H:=fun _ _ h=>h
theorem zw.trans {H H1 H2:Hp}(a:zw H H1)(b:zw H1 H2):zw H H2:=fun c o h=>b c o (a c o h)
theorem zw.free {H H':Hp}(e:zw H H'){l:Addr}(h:H' l=Option.none):H l=Option.none:=by
 cases q:H l with
 | none=>rfl
 | some o =>
  rw [e l o q] at h
  cases h
theorem zw.seq {K:PySem.W.Frag}{H H':Hp}{a:Addr}{xs:List V}(e:zw H H')(h:SqL K H a xs):SqL K H' a xs:=by
 rcases h with (h | ⟨o,h⟩) | h
 ·exact .inl (.inl (e _ _ h))
 ·exact .inl (.inr ⟨o,e _ _ h⟩)
 ·exact .inr h
end L2
set_option maxHeartbeats 4000000
namespace L2
open PySem PySem.Spec PyProof.Rows
section
variable {X:Cx}
theorem yf:OpR X (binaryOp .Mult) (rI IntMulOk fun i j=>.int (i*j)):=opI fun _ _ _ _ _ _ _ hc q=>mul_int q hc
def Ju (_ j:Int):Prop:=0<j/\j.natAbs.log2<9000
theorem jB:OpR X (binaryOp .FloorDiv) (rI Ju fun i j=>.int (i/j)):=opI fun i j _ _ _ _ _ hc q=>by
 have h1:(0:Int)<j:=hc.1
 exact floordiv_int (by omega) (by rw [Int.fdiv_eq_ediv_of_nonneg i (by omega)];exact q) (.inl (PyProof.noPylong_of_log2 hc.2))
theorem Ju.small {i j:Int}(h:0<j)(h':j<1073741824):Ju i j:=by
 refine⟨h,?_⟩
 have h0:j.natAbs≠0:=by omega
 have:j.natAbs.log2<30:=(Nat.log2_lt h0).mpr (by omega)
 omega
theorem zcW {i j:Int}(h1:-(2^64)<j)(h2:j<2^64):IntMulOk i j:=IntMulOk.of_right (intBits_le_64 h1 h2)
theorem zoo {i j:Int}(h1:i.natAbs<2^8000)(h2:j.natAbs<2^8000):IntMulOk i j:=IntMulOk.of_le (m:=8000) (n:=8000) (intBits_le_iff.mpr h1) (intBits_le_iff.mpr h2) (by decide)
noncomputable def zop (T U:String):Option Bool:=if (Value.type T==Value.type U)=true then some true else if PySem.W.kitMeta U=true then (fastBuiltinMro T).map (·.contains (.type U)) else none
theorem zns (K:PySem.W.Frag){T U:String}{b:Bool}(e:zop T U=some b):PySem.W.kitOne K (.type T) (.type U)=some b:=e
theorem za6:yr X (.builtin "isinstance") (fun xs H Q=>∃x T U b,xs=[x,.ty U]/\zaA X.K H x (.type T)/\zop T U=some b/\Q (.bl b) H):=by
 intro pins s σ H xs us Q I r h
 obtain⟨x,T,U,b,rfl,ty,e,q⟩:=h
 obtain⟨u,w',rfl,rx,ru⟩:=vals2 r
 cases ru
 exact ziZ I rx ty (zns X.K e) fun tk=>⟨.bl b,H,I.tok tk,rfl,q⟩
end
theorem yN {b:Bool}{A B:Prop}(e:b=true)(h:A):if b=true then A else B:=by
 rw [if_pos e]
 exact h
theorem yk {b:Bool}{A B:Prop}(e:b=false)(h:B):if b=true then A else B:=by
 subst e
 exact Qp h
structure zo (K:PySem.W.Frag)(mg:Str->Option Value)(x:Str)(st:Stmt)(ps:List Str)(f:Addr)(fd:FuncData):Prop where
 F:Fun K x x st f fd
 g:mg x=some (.ref f)
 b:Binds K fd ps []
theorem jJ {α:Type}{xs:List α}{i:Int}{v:α}(h:0<=i)(e:xs[i.toNat]?=some v):atI xs i=some v:=by
 have:=QV e
 rwa [toNat_of_nonneg h] at this
def zpe (t u:TS):TS:=fun D σ H=>∃M:St->Hp->Prop,t { D with nx:=M } σ H/\∀ σ' H',M σ' H'->u D σ' H'
theorem QZ {X:Cx}{st:Stmt}{rest:List Stmt}{t u:TS}(h1:PS X st t)(h2:PSs X rest u):PSs X (st::rest) (zpe t u):=by
 intro pins s σ H D I h
 obtain⟨M,h3,h4⟩:=h
 refine wpAny_execs_cons (thn (h1 pins s σ H _ I h3) fun f s1 q=>?_)
 cases f with
 | next =>
  obtain⟨σ1,H1,I1,q1⟩:=q
  exact h2 pins s1 σ1 H1 D I1 (h4 σ1 H1 q1)
 | brk=>exact q
 | cont=>exact q
 | ret v=>exact q
theorem ze {H:Hp}{l:Addr}{o:HO}(h:H l=none):zw H (upd H l o):=fun b u e=>by rw [zj (zh e h)];exact e
section
variable {X:Cx}{tg:Expr}
end
mutual
inductive Rdv (K:PySem.W.Frag)(H:Hp):V->PyData->Prop
 | non:Rdv K H .non .none
 | bl (b:Bool):Rdv K H (.bl b) (.bool b)
 | int (i:Int):Rdv K H (.int i) (.int i)
 | str (x:Str):Rdv K H (.str x) (.str x)
 | lst {a:Addr} {xs:List V} {ds:List PyData}:SqL K H a xs->xP K H xs ds->Rdv K H (.ref a) (.list ds)
 | tup {a:Addr} {xs:List V} {ds:List PyData}:SqT K H a xs->xP K H xs ds->Rdv K H (.ref a) (.tuple ds)
inductive xP (K:PySem.W.Frag)(H:Hp):List V->List PyData->Prop
 | nil:xP K H [] []
 | cons {x:V} {d:PyData} {xs:List V} {ds:List PyData}:Rdv K H x d->xP K H xs ds->xP K H (x::xs) (d::ds)
end
section
variable {X:Cx}{pins:List (Addr×Obj)}{σ:St}{H:Hp}{s:Shared}
theorem zi5 {a:Addr}{xs:List V}{ds:List PyData}(I:Inv X pins σ H s)(hq:SqL X.K H a xs)(h:∀us,Vals xs us->∃as,ReadsAll s.heap us ds as):∀u,RelV (.ref a) u->∃as,Reads s.heap u (.list ds) as:=by
 intro u r
 cases r
 obtain⟨its,rv,p,hz⟩:=I.list hq
 obtain⟨as,ra⟩:=h _ rv
 obtain⟨o,ho,hc,n,hd⟩:=p.isList
 exact⟨_,.list ho hc hd (by simpa using ra)⟩
theorem zi6 {a:Addr}{xs:List V}{ds:List PyData}(I:Inv X pins σ H s)(hq:SqT X.K H a xs)(h:∀us,Vals xs us->∃as,ReadsAll s.heap us ds as):∀u,RelV (.ref a) u->∃as,Reads s.heap u (.tuple ds) as:=by
 intro u r
 cases r
 obtain⟨its,rv,p,hz⟩:=I.tuple hq
 obtain⟨as,ra⟩:=h _ rv
 obtain⟨o,ho,hc,n,hd⟩:=p
 exact⟨_,.tuple ho hc hd (by simpa using ra)⟩
theorem zgS {v:V}{vs:List V}{d:PyData}{ds:List PyData}(h:∀u,RelV v u->∃as,Reads s.heap u d as)(t:∀us,Vals vs us->∃as,ReadsAll s.heap us ds as):∀us,Vals (v::vs) us->∃as,ReadsAll s.heap us (d::ds) as:=by
 intro us r
 cases r with
 | cons r1 r2 =>
  obtain⟨as,ra⟩:=h _ r1
  obtain⟨bs,rb⟩:=t _ r2
  exact⟨_,.cons ra rb⟩
theorem Rdv.reads (I:Inv X pins σ H s){v:V}{d:PyData}{u:Value}(h:Rdv X.K H v d):RelV v u->∃as,Reads s.heap u d as :=
 Rdv.rec (motive_1:=fun v d _=>∀u,RelV v u->∃as,Reads s.heap u d as) (motive_2:=fun vs ds _=>∀us,Vals vs us->∃as,ReadsAll s.heap us ds as)
  (fun u r=>by cases r;exact⟨_,.none⟩) (fun b u r=>by cases r;exact⟨_,.bool b⟩) (fun i u r=>by obtain⟨t,rfl⟩:=r;exact⟨_,.int i t⟩) (fun x u r=>by obtain⟨t,rfl⟩:=r;exact⟨_,.str x t⟩)
  (fun hq _ h=>zi5 I hq h) (fun hq _ h=>zi6 I hq h) (fun us r=>by cases r;exact⟨_,.nil⟩) (fun _ _ h t=>zgS h t) h u
structure zi7 (x y:PyData):Prop where
 l1:x.canLay0=true
 l2:y.canLay0=true
 dp:x.depth<=64
def znt (K:PySem.W.Frag)(neg:Bool):R2:=fun x y H Q=>∃dx dy,Rdv K H x dx/\Rdv K H y dy/\zi7 dx dy/\Q (.bl (if neg then !PyData.eqv dx dy else PyData.eqv dx dy)) H
theorem Qq (hu:X.A.units+64<cLine):OpR X (compareOp .Eq) (znt X.K false):=by
 intro pins s σ H x y v u Q I rx ry h
 obtain⟨dx,dy,hx,hy,c,q⟩:=h
 obtain⟨as,ra⟩:=hx.reads I rx
 obtain⟨bs,rb⟩:=hy.reads I ry
 have:=c.dp
 exact SeqAt.compareEq_reads ra rb c.l1 c.l2 (by omega) ⟨.bl _,H,I,rfl,q⟩
theorem ZK (hu:X.A.units+64<cLine):OpR X (compareOp .NotEq) (znt X.K true):=by
 intro pins s σ H x y v u Q I rx ry h
 obtain⟨dx,dy,hx,hy,c,q⟩:=h
 obtain⟨as,ra⟩:=hx.reads I rx
 obtain⟨bs,rb⟩:=hy.reads I ry
 have:=c.dp
 exact SeqAt.compareNe_reads ra rb c.l1 c.l2 (by omega) ⟨.bl _,H,I,rfl,q⟩
def zoq (K:PySem.W.Frag)(neg:Bool):R2:=fun x y H Q=>∃d ds,Rdv K H x d/\Rdv K H y (.list ds)/\d.canLay0=true/\PyData.canLayAll0 ds=true/\d.depth<=60/\Q (.bl (if neg then !ds.any (fun z=>PyData.eqv z d) else ds.any fun z=>PyData.eqv z d)) H
theorem zbJ (hu:X.A.units+64<cLine):OpR X (compareOp .In) (zoq X.K false):=by
 intro pins s σ H x y v u Q I rx ry h
 obtain⟨d,ds,hx,hy,c1,c2,c3,q⟩:=h
 obtain⟨as,ra⟩:=hx.reads I rx
 obtain⟨bs,rb⟩:=hy.reads I ry
 exact SeqAt.in_list_reads rb ra c2 c1 (by omega) ⟨.bl _,H,I,rfl,q⟩
end
noncomputable def qR (X:Cx)(N:List Str)(scope:Scope)(cl:List (Str×Addr))(C:Addr)(fp:List Addr)(pins:List (Addr×Obj))(s:Shared)(H:Hp):Cx where
 prog:=X.prog
 w:=X.w
 K:=X.K
 mg:=X.mg
 base:=X.base
 A:=X.A
 N:=N
 s₀:=s
 H₀:=H
 env:=compEnvC scope cl C X.env
 outer:=X.stack
 stack:=X.stack
 ex:=fp
 fn:=fun _=>false
 calm:=X.calm
 pn:=X.pn++pins
 xe:=fun _ _=>False
noncomputable def pull (src:List (Option Nat))(σ:St):St:=src.map fun o=>match o with
 | some j=>(σ[j]?).getD none
 | none=>none
structure zW (X:Cx)(N:List Str)(src:List (Option Nat))(scope:Scope)(cl:List (Str×Addr)):Prop where
 kind:scope.kind=.function
 nocell:∀y∈scope.names,y.2 ≠ .cell
 names:∀y∈scope.names,y.2=.local->scope.names.lookup y.1=some .local
 clos:closureFor scope X.env=pure cl
 sub:∀x c,cl.lookup x=some c->X.env.cells.lookup x=some c
 has:∀x,((relabel scope X.env).names.lookup x=some .cell\/(relabel scope X.env).names.lookup x=some .free)->∃c,cl.lookup x=some c
 len:src.length=N.length
 pulls:∀(i j:Nat) (x:Str),N[i]?=some x->src[i]?=some (some j)->X.N[j]?=some x/\(X.env.kindOf x=some .cell\/X.env.kindOf x=some .free)/\((relabel scope X.env).names.lookup x=some .cell\/(relabel scope X.env).names.lookup x=some .free)
theorem zcX {scope:Scope}{env:Env}(nf:∀y∈scope.names,y.2 ≠ .free):(relabel scope env).names=scope.names:=by
 show scope.names.map _=scope.names
 refine map_eq_self fun x hx=>?_
 obtain⟨n,k⟩:=x
 have:(k==NameKind.free)=false:=by simpa using nf _ hx
 simp [this]
theorem zW.plain {X:Cx}{N:List Str}{src:List (Option Nat)}{scope:Scope}(kind:scope.kind=.function)(nocell:∀y∈scope.names,y.2 ≠ .cell)(nofree:∀y∈scope.names,y.2 ≠ .free)
  (names:∀y∈scope.names,y.2=.local->scope.names.lookup y.1=some .local) (len:src.length=N.length) (none:∀o∈src,o=none):zW X N src scope [] where
 kind:=kind
 nocell:=nocell
 names:=names
 clos:=closureFor_none nofree
 sub:=fun x c h=>nomatch h
 has:=fun x h=>by
  rw [zcX nofree] at h
  rcases h with h | h
  ·exact absurd rfl (nocell _ (PySem.mem_of_lookup h))
  ·exact absurd rfl (nofree _ (PySem.mem_of_lookup h))
 len:=len
 pulls:=fun i j x _ h=>by
  have:=none _ (mem_of_getElem? h)
  cases this
def zkc (X:Cx)(ifs:List Expr)(t:TT):Prop :=
 ∀(pins:List (Addr×Obj)) (s:Shared) (σ:St) (H:Hp) (Q:Bool->Hp->Prop),Inv X pins σ H s->t σ H Q ->
  wpAny (model X.prog X.w) X.A (forIn ifs true fun c r=>if r=true then do let ok <- isTrue c X.env (eval c X.env);pure (ForInStep.yield ok) else pure (ForInStep.yield r)) (TP X pins σ Q) X.xe s
def zlY:TT:=fun _ H Q=>Q true H
theorem qS {X:Cx}:zkc X [] zlY:=fun _ _ _ H _ I h=>wpAny_tests_nil ⟨H,I,h⟩
theorem qE {X:Cx}{c:Expr}{t:TT}(h:PT X c t):zkc X [c] t:=fun pins s σ H Q I hq=>wpAny_tests_one (h pins s σ H Q I hq)
def Jv (J:It)(g:TG)(tc:TT)(te:TE)(Q:VK)(D:Addr)(σ0:St)(H0:Hp):Prop :=
 ∃W:Nat->Nat->St->Hp->Prop,(∃m,W 0 m σ0 H0)/\∀i m σ' H',W i m σ' H' ->
  (J.stop i H'/\Q (.ref D) H')\/(J.go i H'/\∃N:St->Hp->Prop,(∀ σ'' H'',N σ'' H''->∃m',m'<m/\W (i+1) m' σ'' H'') /\
   ∀x H2,J.yld i H' x H2->g x σ' H2 fun σ2 H3=>tc σ2 H3 fun b H4=>if b=true then te σ2 H4 fun y H5=>∃ys,H5 D=some (.lst ys)/\ys.length<sizeLine/\N σ2 (upd H5 D (.lst (ys++[y]))) else N σ2 H4)
def zkd (wi:TI)(src:List (Option Nat))(g:TG)(tc:TT)(te:TE):TE:=fun σ H Q=>wi σ H fun J H1=>∀D,H1 D=none->Jv J g tc te Q D (pull src σ) (upd H1 D (.lst []))
theorem Un.but {fs ex:List Addr}{H H1:Hp}{h h1 h2:Heap}{C:Addr}(u:Un fs ex H H1 h h1)(hC:h.objs.size<=C)(sb:Heap.SameBut C h1 h2):Un fs ex H H1 h h2:=by
 have ne:∀b o,h.get? b=some o->b≠C:=fun b o e=>ne_of_lt (lt_of_lt_of_le (Heap.lt_size e) hC)
 refine⟨fun b o e n hb hx=>(sb.2 b (ne b o e)).trans (u.keep b o e n hb hx),fun b o e n hb hx=>?_,u.free,fun b o e hx=>?_,u.tups,u.frzs,u.tbls⟩
 ·obtain⟨sl,q⟩:=u.slot b o e n hb hx
  exact⟨sl,(sb.2 b (ne b o e)).trans q⟩
 ·obtain⟨o',q⟩:=u.there b o e hx
  exact⟨o',(sb.2 b (ne b o e)).trans q⟩
theorem HOk.but {P:Program}{w:World}{H:Hp}{h h':Heap}{C:Addr}(ok:HOk P w H h)(hn:H C=none)(sb:Heap.SameBut C h h'):HOk P w H h':=fun b ob e=>by
 refine(ok b ob e).stay (fun c w' hc q=>(sb.2 c ?_).trans q) (fun _ q=>q) fun _ _ q=>q
 rintro rfl
 rcases hc with rfl | hc
 ·rw [hn] at e;cases e
 ·rw [hn] at hc;cases hc
section
variable {X:Cx}{tg iter elt:Expr}{ifs:List Expr}{scope:Scope}{pos:Pos}{N:List Str}{src:List (Option Nat)}{cl:List (Str×Addr)}{wi:TI}{g:TG}{tc:TT}{te:TE}
theorem zbK {pins:List (Addr×Obj)}{σ:St}{H:Hp}{s:Shared}{fp:List Addr}{h1:Heap}{C:Addr}{tk:Nat}(ok:zW X N src scope cl)(I:Inv X pins σ H s)(hf:∀b∈fp,QM X pins H b)(ho:∀b∈fp,∃o,s.heap.get? b=some o)
  (hC:C=s.heap.objs.size+1) (k:∀b u,s.heap.get? b=some u->h1.get? b=some u) (hD:h1.get? s.heap.objs.size=some { cls:=.type "list",data:=.seq #[] }) {m:Str->Option Value} (hn:h1.Ns C m) :
  Inv (qR X N scope cl C fp pins s H) [] (pull src σ) (upd H s.heap.objs.size (.lst [])) { s with heap:=h1,toks:=tk }:=by
 have lt:∀b o,s.heap.get? b=some o->b<s.heap.objs.size:=fun b o e=>Heap.lt_size e
 have nC:∀b o,s.heap.get? b=some o->b≠C:=fun b o e=>by rw [hC];exact ne_of_lt (lt_succ_of_lt (lt b o e))
 have nD:∀b o,s.heap.get? b=some o->b≠s.heap.objs.size:=fun b o e=>ne_of_lt (lt b o e)
 have fr:∀b,s.heap.objs.size<=b->H b=none:=fun b hb=>I.hok.fresh hb
 have nst:∀b,b≠X.env.locals->b ∉ X.fs->b ∉ frs X.stack:=fun b h1 h2 z=>(List.mem_cons.mp (I.stkSub b z)).elim h1 h2
 have sub:=ok.sub
 refine⟨⟨I.ok.mod,ok.kind,I.ok.glob,I.ok.blt,by rw [show (qR X N scope cl C fp pins s H).env.locals=C from rfl,hC];exact le_succ _,fun x y c e1 e2=>I.ok.inj x y c (sub x c e1) (sub y c e2),ok.has,(fun x c z _=>nomatch z),I.ok.hd,I.ok.frames,.inl rfl,fun b hb=>?_,I.bs,le_trans I.ok.bsz I.sz,fun b o e hb=>?_,fun b hb hz=>?_,I.stack,I.stkFree⟩,
  rfl,I.bare,Un.laid k (le_refl _) (fr _ (le_refl _)),⟨m,hn,fun i x v e1 e2 e3=>?_⟩,fun x c e=>?_,?_,fun x c e=>?_,fun p hp=>?_,I.hok.laid k (le_refl _) ⟨zero_le _,[],0,.nil,hD⟩,?_⟩
 ·obtain⟨o,e⟩:=ho b hb
  exact⟨nC b o e,fun x c z=>(hf b hb).2.2.2.2.1 x c (sub x c z)⟩
 ·rcases(hf b hb).2.2.2.1 with z | z
  ·exact I.ok.noex b o e z
  ·exact absurd (lt_of_lt_of_le (Heap.lt_size (I.ok.bs b o e).1) z) (lt_irrefl _)
 ·exact nst b (hf b hb).2.1 (hf b hb).2.2.1 hz
 ·have hi:i<src.length:=by
   have:=(List.getElem?_eq_some_iff.mp e2).1
   unfold pull at this
   rw [length_map] at this
   exact this
  unfold pull at e2
  rw [getElem?_map,getElem?_eq_getElem hi] at e2
  cases q:src[i] with
  | none=>rw [q] at e2;cases e2
  | some j =>
   rw [q] at e2
   have e2':(σ[j]?).getD none=some v:=Option.some.inj e2
   have e4:σ[j]?=some (some v):=by
    cases z:σ[j]? with
    | none=>rw [z] at e2';cases e2'
    | some o=>rw [z] at e2';exact congrArg some e2'
   obtain⟨p1,p2,p3⟩:=ok.pulls i j x e1 (by rw [getElem?_eq_getElem hi,q])
   obtain⟨m',hn',hl⟩:=I.loc
   obtain⟨u,r,l⟩:=hl j x v p1 e4 (by
    rcases p2 with z | z
    ·exact .inr (.inl z)
    ·exact .inr (.inr z))
   refine⟨u,r,.inr ⟨p3,?_⟩⟩
   obtain⟨c,hc⟩:=ok.has x p3
   refine⟨c,hc,?_⟩
   rcases l with ⟨z,_⟩ | ⟨_,c',hc',o,ho',hd'⟩
   ·rcases p2 with y | y<;>rw [z] at y<;>cases y
   ·rw [sub x c hc] at hc'
    cases hc'
    exact⟨o,k _ o ho',hd'⟩
 ·obtain⟨v,o,e1,e2⟩:=I.cell x c (sub x c e)
  exact⟨v,o,k c o e1,e2⟩
 ·show upd H s.heap.objs.size (.lst []) C=none
  rw [hC,zj (succ_ne_self _)]
  exact fr _ (le_succ _)
 ·show upd H s.heap.objs.size (.lst []) c=none
  obtain⟨v,o,e1,e2⟩:=I.cell x c (sub x c e)
  rw [zj (nD c o e1)]
  exact I.freeC x c (sub x c e)
 ·have hp':p∈X.pn++pins:=by
   have:p∈(X.pn++pins)++[]:=hp
   simpa using this
  obtain⟨e1,e2,e3,e4,e5⟩:=I.pin p hp'
  refine⟨k _ _ e1,?_,nC _ _ e1,nst _ e3 e4,e5⟩
  show upd H s.heap.objs.size (.lst []) p.1=none
  rw [zj (nD _ _ e1)]
  exact e2
 ·unfold pull
  rw [length_map]
  exact ok.len
theorem qm (ok:zW X N src scope cl)(hcalm:X.calm=true)(hi:PI X tg iter wi)
  (hg:∀C fp pins s H,PG (qR X N scope cl C fp pins s H) tg g) (hc:∀C fp pins s H,zkc (qR X N scope cl C fp pins s H) ifs tc) (he:∀C fp pins s H,PE (qR X N scope cl C fp pins s H) elt te)
  (hs:∀x,foldedSetIterable iter X.env x=pure x:=by intro _;rfl):PE X (.ListComp elt [⟨tg,iter,ifs,0⟩] scope pos) (zkd wi src g tc te):=by
 intro pins s σ H Q I h
 rw [eval_ListComp]
 refine wpAny_comprehension_free (use:=none) rfl hs ok.clos ok.kind ok.names (thn (hi pins s σ H _ I h) fun xv s1 h1=>thn h1 fun itv s2 h2=>?_)
 obtain⟨it,fp,tn,J,H2,e,I2,T,st2,f2,q2⟩:=h2
 subst e
 refine wpAny_newObj_type (wpAny_newFunctionEnv ok.nocell (by intro y hy;simp at hy) (fun h₁ hns₁ hsb₁=>?_) ok.kind)
 dsimp only at hns₁ hsb₁ ⊢
 generalize hP:s2.heap.push { cls:=.type "list",dict:=none,data:=.seq ([]:List Value).toArray }=P2 at hns₁ hsb₁ ⊢
 have hC:P2.objs.size=s2.heap.objs.size+1:=by rw [<- hP,Heap.size_push]
 have k:∀b u,s2.heap.get? b=some u->h₁.get? b=some u:=fun b u e=>by
  have lt:=Heap.lt_size e
  exact(hsb₁.2 b (by rw [hC];exact ne_of_lt (lt_succ_of_lt lt))).trans (Heap.get?_push_of_some _ (hP ▸ Heap.get?_push_of_some _ e))
 have hD:h₁.get? s2.heap.objs.size=some { cls:=.type "list",data:=.seq #[] }:=(hsb₁.2 _ (by rw [hC];exact(succ_ne_self _).symm)).trans (Heap.get?_push_of_some _ (hP ▸ Heap.get?_push_size _ rfl))
 have ho:∀b∈fp,∃o,s2.heap.get? b=some o:=fun b hb=>let ⟨o,e,_⟩:=T.obj 0 _ st2 b hb;⟨o,e⟩
 obtain⟨W,⟨m0,w0⟩,turn⟩:=q2 s2.heap.objs.size (I2.hok.fresh (le_refl _))
 have I0:=zbK (tk:=s2.toks+([]:List (Str×Value)).length) ok I2 f2 ho hC k hD hns₁
 have st0:tn 0 h₁:=T.keep 0 _ _ st2 fun b _ o e=>k b o e
 have fr0:∀b∈fp,upd H2 s2.heap.objs.size (.lst []) b=none:=fun b hb=>by
  obtain⟨o,e⟩:=ho b hb
  rw [zj (ne_of_lt (Heap.lt_size e))]
  exact(f2 b hb).1
 have stat:∀{H':Hp},(∀b∈fp,H' b=none)->∀b∈fp,QM (qR X N scope cl P2.objs.size fp pins s2 H2) [] H' b:=fun {H'} hn b hb=>by
  obtain⟨o,e⟩:=ho b hb
  have lt:=Heap.lt_size e
  refine⟨hn b hb,?_,fun z=>(List.mem_cons.mp (I2.stkSub b z)).elim (f2 b hb).2.1 (f2 b hb).2.2.1,.inl hb,fun x c z=>(f2 b hb).2.2.2.2.1 x c (ok.sub x c z),fun p hp=>?_⟩
  ·show b≠P2.objs.size
   rw [hC]
   exact ne_of_lt (lt_succ_of_lt lt)
  ·have hp':p∈X.pn++pins:=by
    have:p∈(X.pn++pins)++[]:=hp
    simpa using this
   exact(f2 b hb).2.2.2.2.2 p hp'
 have loop:∀s₃:Shared,s₃={ s2 with heap:=h₁,toks:=s2.toks+([]:List (Str×Value)).length } ->
   codeAny (model X.prog X.w) X.A (.compLoop (.ListComp elt [⟨tg,iter,ifs,0⟩] scope pos) 0 (.ref it) (.ref s2.heap.objs.size) (compEnvC scope cl P2.objs.size X.env))
    (compPost (model X.prog X.w) X.A X.xe none (EP X pins σ Q) (.ref s2.heap.objs.size) P2.objs.size) s₃:=by
  rintro s₃ rfl
  refine codeAny_loop rfl (fun n s'=>∃i σ' H',Inv (qR X N scope cl P2.objs.size fp pins s2 H2) [] σ' H' s'/\tn i s'.heap/\(∀b∈fp,H' b=none)/\W i n σ' H') ?_ m0 ⟨0,_,_,I0,st0,fr0,w0⟩
  rintro n s3 ⟨i,σ3,H3,I3,st3,fr3,w3⟩
  show wpAny _ X.A ((compTurn (.ListComp elt [⟨tg,iter,ifs,0⟩] scope pos) 0 (.ref it) (.ref s2.heap.objs.size) (compEnvC scope cl P2.objs.size X.env)).onRaise (fun x=>do noteFrame x (compEnvC scope cl P2.objs.size X.env);theTreesLotGoes x)) _ _ s3
  refine wpAny_noted ?_
  rw [compTurn_list]
  rcases turn i n σ3 H3 w3 with ⟨stop,qn⟩ | ⟨go,N',hN,step⟩
  ·refine wpAny_bind (wpAny_standAt (wpAny_bind (thn (T.done (qR X N scope cl P2.objs.size fp pins s2 H2) rfl rfl rfl hcalm i [] s3 σ3 H3 _ I3 (stat fr3) st3 stop) fun r s4 ⟨hr,I4⟩=>?_)))
   subst hr
   refine wpAny_pure ?_
   obtain⟨m,hm,_⟩:=I4.loc
   refine⟨m,hm,fun h' sb=>⟨.ref s2.heap.objs.size,H3,?_,rfl,qn⟩⟩
   have un:Un (frs X.stack) fp H2 H3 s2.heap h':=Un.but I4.base (by show s2.heap.objs.size<=P2.objs.size;rw [hC];exact le_succ _) sb
   have hok:HOk X.prog X.w H3 h':=HOk.but I4.hok I4.free sb
   exact I2.call' (s':={ s4 with heap:=h' }) (ch:=fp) I4.os un hok I4.bare fun b hb=>⟨(f2 b hb).2.2.2.1,(f2 b hb).2.1,(f2 b hb).2.2.2.2.1,(f2 b hb).2.2.2.2.2⟩
  ·refine wpAny_bind (wpAny_standAt (wpAny_bind (thn (T.item (qR X N scope cl P2.objs.size fp pins s2 H2) rfl rfl rfl hcalm i [] s3 σ3 H3 _ I3 (stat fr3) st3 go) fun r s4 ⟨u,hr,h4⟩=>?_)))
   subst hr
   dsimp only
   refine wpAny_bind (thn h4 fun _ s5 ⟨x,H5,I5,r5,y5,st5,fr5⟩=>?_)
   have I5':=I5.pinned (stat fr5) (T.obj _ _ st5)
   refine wpAny_bind (wpAny_mono (hg P2.objs.size fp pins s2 H2 _ s5 σ3 H5 x u _ I5' r5 (step x H5 y5)) (fun _ s6 ⟨σ6,H6,I6,q6⟩=>?_) fun _ _ z=>False.elim z)
   have again:∀{s7:Shared} {σ7:St} {H7:Hp},Inv (qR X N scope cl P2.objs.size fp pins s2 H2) ([]++Qo fp s5.heap) σ7 H7 s7->N' σ7 H7->∃m,m<n/\∃i σ' H',Inv (qR X N scope cl P2.objs.size fp pins s2 H2) [] σ' H' s7/\tn i s7.heap/\(∀b∈fp,H' b=none)/\W i m σ' H':=fun {s7 σ7 H7} I7 n7=>by
    obtain⟨m',hm,w7⟩:=hN σ7 H7 n7
    refine⟨m',hm,i+1,σ7,H7,I7.unpinned,T.keep _ _ _ st5 fun b hb o e=>(I7.pin (b,o) (mem_append_right _ (mem_append_right _ (jN hb e)))).1,fun b hb=>?_,w7⟩
    obtain⟨o,e,d⟩:=T.obj _ _ st5 b hb
    exact(I7.pin (b,o) (mem_append_right _ (mem_append_right _ (jN hb e)))).2.1
   refine wpAny_bind (wpAny_mono (hc P2.objs.size fp pins s2 H2 _ s6 σ6 H6 _ I6 q6) (fun b s7 ⟨H7,I7,q7⟩=>?_) fun _ _ z=>False.elim z)
   cases b with
   | false =>
    rw [if_neg Bool.false_ne_true] at q7
    exact wpAny_pure ⟨rfl,again I7 q7⟩
   | true =>
    rw [if_pos rfl] at q7
    refine wpAny_bind (wpAny_bind (wpAny_mono (he P2.objs.size fp pins s2 H2 _ s7 σ6 H7 _ I7 q7) (fun y s8 ⟨v8,H8,I8,r8,ys,hys,hlen,q8⟩=>?_) fun _ _ z=>False.elim z))
    refine wpAny_bind (wpAny_mono (qY (X:=qR X N scope cl P2.objs.size fp pins s2 H2) _ s8 σ6 H8 (.ref s2.heap.objs.size) [v8] (.ref s2.heap.objs.size) [y] (fun _ H9=>N' σ6 H9) I8 rfl (.cons r8 .nil) ⟨_,ys,v8,rfl,rfl,hys,hlen,q8⟩) (fun _ s9 ⟨v9,H9,I9,_,q9⟩=>?_) fun _ _ z=>False.elim z)
    exact wpAny_pure (wpAny_pure ⟨rfl,again I9 q9⟩)
 exact codeAny_compStart_list (loop _ rfl) (T.self _ 0 _ _ _ st0 (loop _ rfl))
end
section
variable {K:PySem.W.Frag}{src:List (Option Nat)}{g:TG}{tc:TT}{te:TE}{Q:VK}{σ:St}{H:Hp}{D:Addr}
theorem qA {a:Addr}{xs:List V}(Pv:Nat->St->Hp->Prop)(h0:Pv 0 σ H)(hl:∀i σ H,i<=xs.length->Pv i σ H->SqL K H a xs)
  (hs:∀i x σ H,xs[i]?=some x->Pv i σ H->g x σ H fun σ2 H3=>tc σ2 H3 fun b H4=>if b=true then te σ2 H4 fun y H5=>∃ys,H5 D=some (.lst ys)/\ys.length<sizeLine/\Pv (i+1) σ2 (upd H5 D (.lst (ys++[y]))) else Pv (i+1) σ2 H4)
  (hd:∀ σ H,Pv xs.length σ H->Q (.ref D) H):Jv (Itl K a) g tc te Q D σ H:=by
 refine⟨fun i m σ H=>m=xs.length-i/\i<=xs.length/\Pv i σ H,⟨xs.length,by simp,zero_le _,h0⟩,?_⟩
 rintro i m σ H ⟨rfl,hi,p⟩
 have q:=hl i σ H hi p
 by_cases hlt:i<xs.length
 ·refine .inr ⟨⟨xs,xs[i],q,by simp [hlt]⟩,Pv (i+1),fun σ' H' p'=>⟨xs.length-(i+1),by omega,rfl,hlt,p'⟩,fun x H' y=>?_⟩
  obtain⟨e,y⟩:=y
  subst e
  exact hs i x σ _ (y xs q) p
 ·have e:i=xs.length:=by omega
  subst e
  exact .inl ⟨⟨xs,q,le_refl _⟩,hd σ H p⟩
theorem Qs {lo:Int}{n:Nat}(Pv:Nat->St->Hp->Prop)(h0:Pv 0 σ H)
  (hs:∀i σ H,i<n->Pv i σ H->g (.int (lo+i)) σ H fun σ2 H3=>tc σ2 H3 fun b H4=>if b=true then te σ2 H4 fun y H5=>∃ys,H5 D=some (.lst ys)/\ys.length<sizeLine/\Pv (i+1) σ2 (upd H5 D (.lst (ys++[y]))) else Pv (i+1) σ2 H4)
  (hd:∀ σ H,Pv n σ H->Q (.ref D) H):Jv (Itr lo n) g tc te Q D σ H:=by
 refine⟨fun i m σ H=>m=n-i/\i<=n/\Pv i σ H,⟨n,by simp,zero_le _,h0⟩,?_⟩
 rintro i m σ H ⟨rfl,hi,p⟩
 by_cases hlt:i<n
 ·refine .inr ⟨hlt,Pv (i+1),fun σ' H' p'=>⟨n-(i+1),by omega,rfl,hlt,p'⟩,fun x H' y=>?_⟩
  obtain⟨e,y⟩:=y
  subst e y
  exact hs i σ _ hlt p
 ·have e:i=n:=by omega
  subst e
  exact .inl ⟨le_refl _,hd σ H p⟩
end
theorem zfo {K:PySem.W.Frag}{H:Hp}:∀rs:List Str,xP K H (rs.map V.str) (rs.map PyData.str)
 | []=>.nil
 | t::r=>.cons (.str t) (zfo r)
section
variable {X:Cx}{K:PySem.W.Frag}
theorem zaC {a:Expr}{ta:TE}(hK:X.K=K)(ha:PE X a ta)(he:∀whole,isTrue a X.env whole=(do let v <- whole;standAt a.pos;holding [v] (truthy v))) :
  PT X a (fun σ H Q=>ta σ H fun x H'=>∃k,znk K x H' k/\Q k H'):=by
 subst hK
 exact J9 ha he
theorem Q0 (hK:X.K=K):IxR X (zno K):=by
 subst hK
 exact ju
theorem zcY (hK:X.K=K):yr X (.builtin "len") (fun xs H Q=>∃p ys,xs=[.ref p]/\(SqL K H p ys\/SqT K H p ys)/\Q (.int ys.length) H):=by
 subst hK
 exact zG
theorem zfp (hK:X.K=K)(hu:X.A.units+64<cLine):OpR X (compareOp .Eq) (znt K false):=by
 subst hK
 exact Qq hu
theorem jP (hK:X.K=K)(hu:X.A.units+64<cLine):OpR X (compareOp .In) (zoq K false):=by
 subst hK
 exact zbJ hu
theorem zep {es:List Expr}{k:Nat}{t:TGs}{n:Nat}{pos:Pos}(hK:X.K=K)(hc:X.calm=true)(h:PGs X es t)
  (hn:(assignEach es X.env).length=n:=by rfl) (hst:(assignEach es X.env).findIdx? (·.1)=none:=by rfl):PG X (.Tuple es k pos) (zn8 K n t):=by
 subst hK
 exact Jr hc h hn hst
end
section
variable {fs ch:List Addr}{H:Hp}{h h':Heap}{a:Addr}{o:HO}
theorem Un.laidX (k:∀b u,b ∉ ch->h.get? b=some u->h'.get? b=some u)(hp:h.objs.size<=a)(hn:H a=none):Un fs ch H (upd H a o) h h' where
 keep:=fun b u q _ _ hx=>k b u hx q
 slot:=fun b u q _ _ hx=>⟨u.slots,k b u hx q⟩
 free:=fun b u q n _=>by rw [zj (ne_of_lt (lt_of_lt_of_le (Heap.lt_size q) hp))];exact n
 there:=fun b u q hx=>⟨u,k b u hx q⟩
 tups:=fun b xs q=>by rw [zj (zh q hn)];exact q
 frzs:=fun b u xs q=>by rw [zj (zh q hn)];exact q
 tbls:=fun b ps q=>⟨#[],by rw [zj (zh q hn),q];simp⟩
theorem Un.keptX (k:∀b u,b ∉ ch->h.get? b=some u->h'.get? b=some u):Un fs ch H H h h' :=
 ⟨fun b ob q _ _ hx=>k b ob hx q,fun b ob q _ _ hx=>⟨ob.slots,k b ob hx q⟩,fun _ _ _ n _=>n,fun b ob q hx=>⟨ob,k b ob hx q⟩,fun _ _ q=>q,fun _ _ _ q=>q,fun _ ps q=>⟨#[],by rw [q];simp⟩⟩
theorem HOk.keptX {P:Program}{w:World}(x:HOk P w H h)(k:∀b u,b ∉ ch->h.get? b=some u->h'.get? b=some u)(hch:∀b∈ch,H b=none):HOk P w H h':=fun b u e=>by
 refine(x b u e).stay (fun c v hc q=>k c v (fun z=>?_) q) (fun _ q=>q) fun _ _ q=>q
 have n:=hch c z
 rcases hc with rfl | hc
 ·rw [n] at e;cases e
 ·rw [n] at hc;cases hc
theorem HOk.laidX {P:Program}{w:World}(x:HOk P w H h)(k:∀b u,b ∉ ch->h.get? b=some u->h'.get? b=some u)(hch:∀b∈ch,H b=none)(hp:h.objs.size<=a)(new:jc P w (upd H a o) h' a o):HOk P w (upd H a o) h':=fun b u e=>by
 have hn:=x.fresh hp
 by_cases hb:b=a
 ·subst hb;rw [zc] at e;cases e;exact new
 ·rw [zj hb] at e
  refine(x b u e).stay (fun c v hc q=>k c v (fun z=>?_) q) (fun c q=>by rw [zj (zh q hn)];exact q) fun c xs q=>by rw [zj (zh q hn)];exact q
  have n:=hch c z
  rcases hc with rfl | hc
  ·rw [n] at e;cases e
  ·rw [n] at hc;cases hc
end
section
variable {X:Cx}{pins:List (Addr×Obj)}{s:Shared}{σ:St}{H:Hp}{E:Value->Shared->Prop}{fp wr FP:List Addr}{elts:List Expr}{k:Nat}{pos:Pos}{e:Addr}{n i:Nat}{Pt:Nat->Array Value->Prop}{Sn:Nat->Heap->Prop}{Mid:Nat->Addr->Heap->Prop}{J:It}{tn:Nat->Heap->Prop}
theorem zgT (I:Inv X pins σ H s)(hf:∀b∈fp,QM X pins H b)(ho:∀b∈fp,∃o,s.heap.get? b=some o)(hwr:∀b∈wr,b∈fp)(W:WalksT X.prog X.w X.A e FP wr n Pt Sn Mid)(hi:i<n)(st:Sn i s.heap)
  (y:∀T vals,H T=none->Pt i vals->∃vs,Vals vs vals.toList/\vs.length<=sizeLine/\J.yld i H (.ref T) (upd H T (.tup vs))) (nx:∀h'',Sn (i+1) h''->tn (i+1) h'') :
  wpAny (model X.prog X.w) X.A (pyNext (.ref e)) (fun r s1=>∃u,r=some u /\
   wpAny (model X.prog X.w) X.A (letOwnedTupleGo (.Tuple elts k pos) (.ref e) u) (fun _ s2=>∃x H',Inv X pins σ H' s2/\RelV x u/\J.yld i H x H'/\tn (i+1) s2.heap/\∀b∈fp,H' b=none) E s1) E s:=by
 refine W.item i s _ E hi st fun T vals h' tk hP hT0 hT hm kk=>⟨.ref T,rfl,?_⟩
 have hn:H T=none:=I.hok.fresh hT0
 obtain⟨vs,hv,hl,hy⟩:=y T vals hn hP
 refine W.go elts k pos i T { s with heap:=h',toks:=tk } _ E hm fun h'' st'' kk2=>?_
 have k2:∀b o,b ∉ wr->s.heap.get? b=some o->h''.get? b=some o:=fun b o hb e=>kk2 b o hb (kk b o hb e)
 have hTup:IsTup h'' T vals:=by
  obtain⟨o,e1,c,m,d⟩:=hT
  exact⟨o,kk2 T o (W.apart i T _ hm) e1,c,m,d⟩
 have hch:∀b∈wr,H b=none:=fun b hb=>(hf b (hwr b hb)).1
 refine⟨.ref T,upd H T (.tup vs),?_,rfl,hy,nx _ st'',fun b hb=>?_⟩
 ·exact I.call' (s':={ s with heap:=h'',toks:=tk }) (ch:=wr) rfl (Un.laidX k2 hT0 hn) (HOk.laidX I.hok k2 hch hT0 ⟨hl,vals.toList,hv,by simpa using hTup⟩) I.bare fun b hb=>let f:=hf b (hwr b hb);⟨f.2.2.2.1,f.2.1,f.2.2.2.2.1,f.2.2.2.2.2⟩
 ·obtain⟨o,e1⟩:=ho b hb
  rw [zj (ne_of_lt (lt_of_lt_of_le (Heap.lt_size e1) hT0))]
  exact(hf b hb).1
theorem zgU (I:Inv X pins σ H s)(hf:∀b∈fp,QM X pins H b)(hwr:∀b∈wr,b∈fp)(W:WalksT X.prog X.w X.A e FP wr n Pt Sn Mid)(st:Sn n s.heap) :
  wpAny (model X.prog X.w) X.A (pyNext (.ref e)) (fun r s1=>r=none/\Inv X pins σ H s1) E s :=
 W.done s _ E st fun h' tk kk=>⟨rfl,I.call' (s':={ s with heap:=h',toks:=tk }) (ch:=wr) rfl (Un.keptX kk) (HOk.keptX I.hok kk fun b hb=>(hf b (hwr b hb)).1) I.bare fun b hb=>let f:=hf b (hwr b hb);⟨f.2.2.2.1,f.2.1,f.2.2.2.2.1,f.2.2.2.2.2⟩⟩
end
theorem Jw {h:Heap}{b:Addr}{o:Obj}{vs:Array Value}(e:h.get? b=some o)(d:o.data=.fields vs):∃o,h.get? b=some o/\∀v,o.data ≠ .cell v:=⟨o,e,fun v z=>by rw [d] at z;cases z⟩
noncomputable def Ite (K:PySem.W.Frag)(l:Addr):It:=⟨fun i H=>∃xs,SqL K H l xs/\i<xs.length,fun i H x H'=>∃T,x=.ref T/\H T=none/\∀xs,SqL K H l xs->∃v,xs[i]?=some v/\H'=upd H T (.tup [.int i,v]),fun i H=>∃xs,SqL K H l xs/\i=xs.length⟩
theorem zi8 {P:Program}{w:World}{K:PySem.W.Frag}{elts:List Expr}{k:Nat}{pos:Pos}(e it l:Addr)(hei:e≠it)(hle:l≠e)(hli:l≠it) :
  Turn P w K (.Tuple elts k pos) (Ite K l) [e,it] e (fun i h=>(∃old,IsEnum h e it i old)/\h.IsListIter it l i) where
 mem:=by simp
 obj:=fun i h st b hb=>by
  obtain⟨⟨old,he⟩,o,e2,c,d⟩:=st
  rcases List.mem_cons.mp hb with rfl | hb
  ·exact Jw he rfl
  ·have z:b=it:=by simpa using hb
   subst z
   exact Jw e2 d
 keep:=fun i h h' st kk=>by
  obtain⟨⟨old,he⟩,o,e2,r⟩:=st
  exact⟨⟨old,kk e (by simp) _ he⟩,o,kk it (by simp) o e2,r⟩
 item:=by
  intro X hP hw hK hc i pins s σ H E I hf st hg
  subst hP hw hK
  obtain⟨xs,hq,hlt⟩:=hg
  obtain⟨its,rv,p,hz⟩:=I.list hq
  have hl:=rv.length
  obtain⟨⟨old,he⟩,o2,e2,c2,d2⟩:=id st
  refine zgT (wr:=[e,it]) (J:=Ite X.K l) (tn:=fun i h=>(∃old,IsEnum h e it i old)/\h.IsListIter it l i) I hf (fun b hb=>?_) (fun b hb=>hb) (WalksT.enumerate (I.ok.hd hc) e it l hei hle hli its.toArray) (by simp;omega) ⟨st.1,st.2,p.isList⟩ (fun T vals hn hp=>?_) fun h'' q=>⟨q.1,q.2.1⟩
  ·rcases List.mem_cons.mp hb with rfl | hb
   ·exact⟨_,he⟩
   ·have z:b=it:=by simpa using hb
    subst z
    exact⟨_,e2⟩
  ·obtain⟨t,x,hx,rfl⟩:=hp
   have hx':its[i]?=some x:=by simpa using hx
   obtain⟨u,hu,ru⟩:=rv.get (i:=i) (x:=xs[i]) (by rw [getElem?_eq_getElem hlt])
   rw [hu] at hx'
   cases hx'
   exact⟨[.int i,xs[i]],.cons ⟨t,rfl⟩ (.cons ru .nil),(by show 2<=sizeLine;decide),T,rfl,hn,fun ys hy=>⟨xs[i],by rw [I.list_inj hy hq,getElem?_eq_getElem hlt],rfl⟩⟩
 done:=by
  intro X hP hw hK hc i pins s σ H E I hf st hg
  subst hP hw hK
  obtain⟨xs,hq,rfl⟩:=hg
  obtain⟨its,rv,p,hz⟩:=I.list hq
  have hl:its.toArray.size=xs.length:=by simp [rv.length]
  refine zgU (fp:=[e,it]) (wr:=[e,it]) I hf (fun b hb=>hb) (WalksT.enumerate (I.ok.hd hc) e it l hei hle hli its.toArray) ?_
  rw [hl]
  exact⟨st.1,st.2,p.isList⟩
 self:=fun A i s Q E st h=>by
  obtain⟨⟨old,he⟩,_⟩:=st
  exact wpAny_pyIter_enum he h
noncomputable def zlZ (x:Str):It:=⟨fun i _=>i<x.cps.size,fun i H v H'=>∃T c,v=.ref T/\H T=none/\x.cps[i]?=some c/\H'=upd H T (.tup [.int i,.str ⟨#[c]⟩]),fun i _=>i=x.cps.size⟩
theorem zbL {P:Program}{w:World}{K:PySem.W.Frag}{elts:List Expr}{k:Nat}{pos:Pos}(e it:Addr)(x:Str)(t:Tok)(n:String)(hei:e≠it)
  (D:∀A:Around,A.handled=none->Draws P w A it [it] x.cps.size (fun i v=>∃c u,x.cps[i]?=some c/\v=.str ⟨#[c]⟩ u) (fun i h=>h.IsStrIter it n x t i)) :
  Turn P w K (.Tuple elts k pos) (zlZ x) [e,it] e (fun i h=>(∃old,IsEnum h e it i old)/\h.IsStrIter it n x t i) where
 mem:=by simp
 obj:=fun i h st b hb=>by
  obtain⟨⟨old,he⟩,o,e2,c,d⟩:=st
  rcases List.mem_cons.mp hb with rfl | hb
  ·exact Jw he rfl
  ·have z:b=it:=by simpa using hb
   subst z
   exact Jw e2 d
 keep:=fun i h h' st kk=>by
  obtain⟨⟨old,he⟩,o,e2,r⟩:=st
  exact⟨⟨old,kk e (by simp) _ he⟩,o,kk it (by simp) o e2,r⟩
 item:=by
  intro X hP hw hK hc i pins s σ H E I hf st hg
  subst hP hw hK
  obtain⟨⟨old,he⟩,o2,e2,c2,d2⟩:=id st
  refine zgT (wr:=[e,it]) (J:=zlZ x) (tn:=fun i h=>(∃old,IsEnum h e it i old)/\h.IsStrIter it n x t i) I hf (fun b hb=>?_) (fun b hb=>hb) (WalksT.enumerateD (D X.A.in1 (I.ok.hd hc)) e hei (by simpa using hei) (by simp)) hg st (fun T vals hn hp=>?_) fun h'' q=>q
  ·rcases List.mem_cons.mp hb with rfl | hb
   ·exact⟨_,he⟩
   ·have z:b=it:=by simpa using hb
    subst z
    exact⟨_,e2⟩
  ·obtain⟨t',v,⟨c,u,hx,rfl⟩,rfl⟩:=hp
   exact⟨[.int i,.str ⟨#[c]⟩],.cons ⟨t',rfl⟩ (.cons ⟨u,rfl⟩ .nil),(by show 2<=sizeLine;decide),T,c,rfl,hn,hx,rfl⟩
 done:=by
  intro X hP hw hK hc i pins s σ H E I hf st hg
  subst hP hw hK
  have z:i=x.cps.size:=hg
  subst z
  exact zgU (fp:=[e,it]) (wr:=[e,it]) I hf (fun b hb=>hb) (WalksT.enumerateD (D X.A.in1 (I.ok.hd hc)) e hei (by simpa using hei) (by simp)) st
 self:=fun A i s Q E st h=>by
  obtain⟨⟨old,he⟩,_⟩:=st
  exact wpAny_pyIter_enum he h
noncomputable def Itz (K:PySem.W.Frag)(l1 l2:Addr):It:=⟨fun i H=>∃xs ys,SqL K H l1 xs/\SqL K H l2 ys/\i<xs.length/\i<ys.length,
 fun i H x H'=>∃T,x=.ref T/\H T=none/\∀xs ys,SqL K H l1 xs->SqL K H l2 ys->∃v v',xs[i]?=some v/\ys[i]?=some v'/\H'=upd H T (.tup [v,v']),fun i H=>∃xs ys,SqL K H l1 xs/\SqL K H l2 ys/\i=min xs.length ys.length⟩
theorem zke {P:Program}{w:World}{K:PySem.W.Frag}{elts:List Expr}{k:Nat}{pos:Pos}(z TI TO i1 i2 l1 l2:Addr)(D:ZipApart z TI TO i1 i2 l1 l2) :
  Turn P w K (.Tuple elts k pos) (Itz K l1 l2) [z,TI,TO,i1,i2] z (fun i h=>IsZip h z TI TO .none/\IsPair h TI (.ref i1) (.ref i2)/\(∃a b,IsPair h TO a b)/\h.IsListIter i1 l1 i/\h.IsListIter i2 l2 i) where
 mem:=by simp
 obj:=fun i h st b hb=>by
  obtain⟨hz,hTI,⟨a,b',hTO⟩,⟨o1,e1,c1,d1⟩,⟨o2,e2,c2,d2⟩⟩:=st
  simp only [List.mem_cons,not_mem_nil,or_false] at hb
  rcases hb with rfl | rfl | rfl | rfl | rfl
  ·exact Jw hz rfl
  ·exact⟨_,hTI,fun v q=>by cases q⟩
  ·exact⟨_,hTO,fun v q=>by cases q⟩
  ·exact Jw e1 d1
  ·exact Jw e2 d2
 keep:=fun i h h' st kk=>by
  obtain⟨hz,hTI,⟨a,b',hTO⟩,⟨o1,e1,r1⟩,⟨o2,e2,r2⟩⟩:=st
  exact⟨kk z (by simp) _ hz,kk TI (by simp) _ hTI,⟨a,b',kk TO (by simp) _ hTO⟩,⟨o1,kk i1 (by simp) _ e1,r1⟩,⟨o2,kk i2 (by simp) _ e2,r2⟩⟩
 item:=by
  intro X hP hw hK hc i pins s σ H E I hf st hg
  subst hP hw hK
  obtain⟨xs,ys,hq1,hq2,hlt1,hlt2⟩:=hg
  obtain⟨its1,rv1,p1,hz1⟩:=I.list hq1
  obtain⟨its2,rv2,p2,hz2⟩:=I.list hq2
  have g1:=rv1.length
  have g2:=rv2.length
  obtain⟨hz,hTI,⟨a,b',hTO⟩,⟨o1,e1,r1⟩,⟨o2,e2,r2⟩⟩:=id st
  refine zgT (wr:=[z,TO,i1,i2]) (J:=Itz X.K l1 l2) (tn:=fun i h=>IsZip h z TI TO .none/\IsPair h TI (.ref i1) (.ref i2)/\(∃a b,IsPair h TO a b)/\h.IsListIter i1 l1 i/\h.IsListIter i2 l2 i) I hf (fun b hb=>?_) (fun b hb=>?_) (WalksT.zip2 (I.ok.hd hc) z TI TO i1 i2 l1 l2 D its1.toArray its2.toArray) (by simp;omega) ⟨st.1,st.2.1,st.2.2.1,st.2.2.2.1,st.2.2.2.2,p1.isList,p2.isList⟩ (fun T vals hn hp=>?_) fun h'' q=>⟨q.1,q.2.1,q.2.2.1,q.2.2.2.1,q.2.2.2.2.1⟩
  ·simp only [List.mem_cons,not_mem_nil,or_false] at hb
   rcases hb with rfl | rfl | rfl | rfl | rfl
   ·exact⟨_,hz⟩
   ·exact⟨_,hTI⟩
   ·exact⟨_,hTO⟩
   ·exact⟨_,e1⟩
   ·exact⟨_,e2⟩
  ·simp only [List.mem_cons,not_mem_nil,or_false] at hb ⊢
   rcases hb with rfl | rfl | rfl | rfl<;>simp
  ·obtain⟨x,y,hx,hy,rfl⟩:=hp
   have hx':its1[i]?=some x:=by simpa using hx
   have hy':its2[i]?=some y:=by simpa using hy
   obtain⟨u,hu,ru⟩:=rv1.get (i:=i) (x:=xs[i]) (by rw [getElem?_eq_getElem hlt1])
   obtain⟨u',hu',ru'⟩:=rv2.get (i:=i) (x:=ys[i]) (by rw [getElem?_eq_getElem hlt2])
   rw [hu] at hx'
   rw [hu'] at hy'
   cases hx'
   cases hy'
   exact⟨[xs[i],ys[i]],.cons ru (.cons ru' .nil),(by show 2<=sizeLine;decide),T,rfl,hn,fun xs' ys' h1 h2=>⟨xs[i],ys[i],by rw [I.list_inj h1 hq1,getElem?_eq_getElem hlt1],by rw [I.list_inj h2 hq2,getElem?_eq_getElem hlt2],rfl⟩⟩
 done:=by
  intro X hP hw hK hc i pins s σ H E I hf st hg
  subst hP hw hK
  obtain⟨xs,ys,hq1,hq2,rfl⟩:=hg
  obtain⟨its1,rv1,p1,hz1⟩:=I.list hq1
  obtain⟨its2,rv2,p2,hz2⟩:=I.list hq2
  have g1:min its1.toArray.size its2.toArray.size=min xs.length ys.length:=by simp [rv1.length,rv2.length]
  refine zgU (fp:=[z,TI,TO,i1,i2]) (wr:=[z,TO,i1,i2]) I hf (fun b hb=>?_) (WalksT.zip2 (I.ok.hd hc) z TI TO i1 i2 l1 l2 D its1.toArray its2.toArray) ?_
  ·simp only [List.mem_cons,not_mem_nil,or_false] at hb ⊢
   rcases hb with rfl | rfl | rfl | rfl<;>simp
  ·rw [g1]
   exact⟨st.1,st.2.1,st.2.2.1,st.2.2.2.1,st.2.2.2.2,p1.isList,p2.isList⟩
 self:=fun A i s Q E st h=>wpAny_pyIter_zip st.1 h
section
variable {X:Cx}{elts:List Expr}{k:Nat}{tpos:Pos}
def znu (K:PySem.W.Frag)(ta:TA):TI:=fun σ H R=>ta σ H fun vs H1=>∃l,vs=[.ref l]/\(∃xs,SqL K H1 l xs)/\R (Ite K l) H1
theorem Zb {a:Expr}{ta:TA}{p pos:Pos}(hg:Gl X "enumerate")(hm:X.mg "enumerate"=none)(ha:PA X [a] ta)(hs:starEach [a] X.env=[(false,eval a X.env)]:=by rfl):PI X (.Tuple elts k tpos) (.Call (.Name "enumerate" p) [a] [] pos) (znu X.K ta):=by
 intro pins s σ H R I h
 refine Call_ (Ym I hg hm boot_enumerate (PyProof.Rows.callWith_type1 (thn (ha pos pins s σ H _ I h) fun us s1 ⟨vs,H1,I1,r1,q1⟩=>?_) hs rfl))
 obtain⟨l,rfl,⟨xs,hq⟩,q⟩:=q1
 obtain⟨u,rfl,ru⟩:=vals1 r1
 cases ru
 obtain⟨its,rv,pl,hz⟩:=I1.list hq
 obtain⟨ol,hol,_⟩:=pl.isList
 have hlt:=Heap.lt_size hol
 refine call_enumerate_list pl.isList fun h' he hit hsz kk=>?_
 have I2:Inv X pins σ H1 { s1 with heap:=h' }:=I1.kept (t':=s1.toks) kk
 refine wpAny_pyIter_enum he ?_
 refine⟨s1.heap.objs.size+1,[s1.heap.objs.size+1,s1.heap.objs.size],_,_,H1,rfl,I2,zi8 (s1.heap.objs.size+1) s1.heap.objs.size l (succ_ne_self _) (ne_of_lt (lt_succ_of_lt hlt)) (ne_of_lt hlt),⟨⟨_,he⟩,hit⟩,fun b hb=>?_,q⟩
 have hb':s1.heap.objs.size<=b:=by
  rcases List.mem_cons.mp hb with e | hb
  ·rw [e];exact le_succ _
  ·have e:b=s1.heap.objs.size:=by simpa using hb
   rw [e];exact le_refl _
 exact I1.fpOk hb' (I1.hok.fresh hb')
def znv (ta:TA):TI:=fun σ H R=>ta σ H fun vs H1=>∃z,vs=[.str z]/\R (zlZ z) H1
theorem zkf {a:Expr}{ta:TA}{p pos:Pos}(hg:Gl X "enumerate")(hm:X.mg "enumerate"=none)(ha:PA X [a] ta)(hs:starEach [a] X.env=[(false,eval a X.env)]:=by rfl):PI X (.Tuple elts k tpos) (.Call (.Name "enumerate" p) [a] [] pos) (znv ta):=by
 intro pins s σ H R I h
 refine Call_ (Ym I hg hm boot_enumerate (PyProof.Rows.callWith_type1 (thn (ha pos pins s σ H _ I h) fun us s1 ⟨vs,H1,I1,r1,q1⟩=>?_) hs rfl))
 obtain⟨z,rfl,q⟩:=q1
 obtain⟨u,rfl,t,rfl⟩:=vals1 r1
 refine call_enumerate_str fun h' he hit hsz kk=>?_
 have I2:Inv X pins σ H1 { s1 with heap:=h' }:=I1.kept (t':=s1.toks) kk
 refine wpAny_pyIter_enum he ?_
 have fpk:∀b ∈ [s1.heap.objs.size+1,s1.heap.objs.size],QM X pins H1 b:=fun b hb=>by
  have hb':s1.heap.objs.size<=b:=by
   rcases List.mem_cons.mp hb with e | hb
   ·rw [e];exact le_succ _
   ·have e:b=s1.heap.objs.size:=by simpa using hb
    rw [e];exact le_refl _
  exact I1.fpOk hb' (I1.hok.fresh hb')
 unfold strIterType at hit
 by_cases ha:z.cps.all (· < 128)=true
 ·rw [if_pos ha] at hit
  exact⟨s1.heap.objs.size+1,[s1.heap.objs.size+1,s1.heap.objs.size],_,_,H1,rfl,I2,zbL (s1.heap.objs.size+1) s1.heap.objs.size z t "str_ascii_iterator" (succ_ne_self _) (fun A hA=>Draws.strAscii hA _ z t),⟨⟨_,he⟩,hit⟩,fpk,q⟩
 ·rw [if_neg ha] at hit
  exact⟨s1.heap.objs.size+1,[s1.heap.objs.size+1,s1.heap.objs.size],_,_,H1,rfl,I2,zbL (s1.heap.objs.size+1) s1.heap.objs.size z t "str_iterator" (succ_ne_self _) (fun A hA=>Draws.strWide hA _ z t),⟨⟨_,he⟩,hit⟩,fpk,q⟩
def zpf (K:PySem.W.Frag)(ta:TA):TI:=fun σ H R=>ta σ H fun vs H1=>∃l1 l2,vs=[.ref l1,.ref l2]/\(∃xs,SqL K H1 l1 xs)/\(∃ys,SqL K H1 l2 ys)/\R (Itz K l1 l2) H1
theorem znw {a b:Expr}{ta:TA}{p pos:Pos}(hg:Gl X "zip")(hm:X.mg "zip"=none)(ha:PA X [a,b] ta)(hs:starEach [a,b] X.env=[(false,eval a X.env),(false,eval b X.env)]:=by rfl)(hs2:starEach [b] X.env=[(false,eval b X.env)]:=by rfl) :
  PI X (.Tuple elts k tpos) (.Call (.Name "zip" p) [a,b] [] pos) (zpf X.K ta):=by
 intro pins s σ H R I h
 refine Call_ (Ym I hg hm boot_zip (PyProof.Rows.callWith_type1 (thn (ha pos pins s σ H _ I h) fun us s1 ⟨vs,H1,I1,r1,q1⟩=>?_) (by rw [hs,hs2]) (by rw [hs2];rfl)))
 obtain⟨l1,l2,rfl,⟨xs,hq1⟩,⟨ys,hq2⟩,q⟩:=q1
 obtain⟨u,u',rfl,ru,ru'⟩:=vals2 r1
 cases ru
 cases ru'
 obtain⟨its1,rv1,p1,hz1⟩:=I1.list hq1
 obtain⟨its2,rv2,p2,hz2⟩:=I1.list hq2
 obtain⟨o1,ho1,_⟩:=p1.isList
 obtain⟨o2,ho2,_⟩:=p2.isList
 have lt1:@LT.lt Nat _ l1 s1.heap.objs.size:=Heap.lt_size ho1
 have lt2:@LT.lt Nat _ l2 s1.heap.objs.size:=Heap.lt_size ho2
 refine call_zip_2 p1.isList p2.isList fun h' hz hTI hTO hi1 hi2 hsz kk=>?_
 have I2:Inv X pins σ H1 { s1 with heap:=h' }:=I1.kept (t':=s1.toks) kk
 refine wpAny_pyIter_zip hz ?_
 generalize hN:s1.heap.objs.size=N at *
 have apart:ZipApart (N+4) (N+2) (N+3) N (N+1) l1 l2:=by
  constructor<;>first
   | exact ne_of_lt (by omega)
   | exact ne_of_gt (by omega)
 refine⟨N+4,[N+4,N+2,N+3,N,N+1],_,_,H1,rfl,I2,zke (N+4) (N+2) (N+3) N (N+1) l1 l2 apart,⟨hz,hTI,⟨_,_,hTO⟩,hi1,hi2⟩,fun b hb=>?_,q⟩
 have hb':s1.heap.objs.size<=b:=by
  rw [hN]
  simp only [List.mem_cons,not_mem_nil,or_false] at hb
  rcases hb with rfl | rfl | rfl | rfl | rfl<;>omega
 exact I1.fpOk hb' (I1.hok.fresh hb')
theorem ZL:yr X (.type "int") (fun xs H Q=>∃x n,xs=[.str x]/\PySem.intText? x=some n/\x.length<=640/\Q (.int n) H):=by
 intro pins s σ H xs us Q I r h
 obtain⟨x,n,rfl,hn,hl,q⟩:=h
 obtain⟨u,rfl,t,rfl⟩:=vals1 r
 exact PySem.W.KIN.call_text hn hl ⟨.int n,H,I.tok _,⟨_,rfl⟩,q⟩
end
theorem Zc {K:PySem.W.Frag}{l:Addr}{xs:List V}{g:TG}{tb:TS}{D:Ends}{σ:St}{H:Hp}(Pv:Nat->St->Hp->Prop)(h0:Pv 0 σ H)(hl:∀i σ H,i<=xs.length->Pv i σ H->SqL K H l xs)
  (hs:∀i x T σ H,xs[i]?=some x->H T=none->Pv i σ H->g (.ref T) σ (upd H T (.tup [.int i,x])) fun σ2 H2=>tb { D with nx:=Pv (i+1),ct:=Pv (i+1),bk:=D.nx } σ2 H2) (hd:∀ σ H,Pv xs.length σ H->D.nx σ H) :
  ∃W:Nat->Nat->St->Hp->Prop,(∃m,W 0 m σ H)/\∀i m σ H,W i m σ H ->
   ((Ite K l).stop i H/\D.nx σ H)\/((Ite K l).go i H/\∃N:St->Hp->Prop,(∀ σ' H',N σ' H'->∃m',m'<m/\W (i+1) m' σ' H')/\∀x H',(Ite K l).yld i H x H'->g x σ H' fun σ2 H2=>tb { D with nx:=N,ct:=N,bk:=D.nx } σ2 H2):=by
 refine⟨fun i m σ H=>m=xs.length-i/\i<=xs.length/\Pv i σ H,⟨xs.length,by simp,zero_le _,h0⟩,?_⟩
 rintro i m σ H ⟨rfl,hi,p⟩
 have q:=hl i σ H hi p
 by_cases hlt:i<xs.length
 ·refine .inr ⟨⟨xs,q,hlt⟩,Pv (i+1),fun σ' H' p'=>⟨xs.length-(i+1),by omega,rfl,hlt,p'⟩,fun x H' y=>?_⟩
  obtain⟨T,rfl,hT,y⟩:=y
  obtain⟨v,hv,rfl⟩:=y xs q
  exact hs i v T σ H hv hT p
 ·have e:i=xs.length:=by omega
  subst e
  exact .inl ⟨⟨xs,q,rfl⟩,hd σ H p⟩
theorem zgV {g:TG}{tc:TT}{te:TE}{Q:VK}{σ:St}{H:Hp}{D:Addr}{x:Str}(Pv:Nat->St->Hp->Prop)(h0:Pv 0 σ H)
  (hs:∀i c T σ H,x.cps[i]?=some c->H T=none->Pv i σ H->g (.ref T) σ (upd H T (.tup [.int i,.str ⟨#[c]⟩])) fun σ2 H3=>tc σ2 H3 fun b H4=>if b=true then te σ2 H4 fun y H5=>∃ys,H5 D=some (.lst ys)/\ys.length<sizeLine/\Pv (i+1) σ2 (upd H5 D (.lst (ys++[y]))) else Pv (i+1) σ2 H4)
  (hd:∀ σ H,Pv x.cps.size σ H->Q (.ref D) H):Jv (zlZ x) g tc te Q D σ H:=by
 refine⟨fun i m σ H=>m=x.cps.size-i/\i<=x.cps.size/\Pv i σ H,⟨x.cps.size,by simp,zero_le _,h0⟩,?_⟩
 rintro i m σ H ⟨rfl,hi,p⟩
 by_cases hlt:i<x.cps.size
 ·refine .inr ⟨hlt,Pv (i+1),fun σ' H' p'=>⟨x.cps.size-(i+1),by omega,rfl,hlt,p'⟩,fun v H' y=>?_⟩
  obtain⟨T,c,rfl,hT,hc,rfl⟩:=y
  exact hs i c T σ H hc hT p
 ·have e:i=x.cps.size:=by omega
  subst e
  exact .inl ⟨rfl,hd σ H p⟩
noncomputable def zaD (look:Str->Option Addr):List (Str×NameKind)->List (Str×Addr)->List (Str×Addr)
 | [],acc=>acc
 | (n,k)::r,acc=>if k == .free then (match look n with
  | some c=>zaD look r ((n,c)::acc)
  | none=>zaD look r acc) else zaD look r acc
theorem Zd {look:Str->Option Addr}:∀(names:List (Str×NameKind)) (acc:List (Str×Addr)) (p:Str×Addr),p∈zaD look names acc->p∈acc\/look p.1=some p.2
 | [],acc,p,h=>.inl h
 | (n,k)::r,acc,p,h=>by
  unfold zaD at h
  split at h
  ·cases e:look n with
   | none =>
    rw [e] at h
    exact Zd r acc p h
   | some c =>
    rw [e] at h
    rcases Zd r _ p h with h | h
    ·rcases List.mem_cons.mp h with h | h
     ·subst h
      exact .inr e
     ·exact .inl h
    ·exact .inr h
  ·exact Zd r acc p h
theorem Ze {x n:Str}{c:Addr}{acc:List (Str×Addr)}(h:(acc.lookup x).isSome=true\/x=n):(List.lookup x ((n,c)::acc)).isSome=true:=by
 rw [lookup_cons]
 cases e:x==n with
 | true=>rfl
 | false =>
  rcases h with h | h
  ·exact h
  ·subst h
   simp at e
theorem zbM {look:Str->Option Addr}{x:Str}(names:List (Str×NameKind))(acc:List (Str×Addr))(h:(acc.lookup x).isSome=true\/((x,NameKind.free)∈names/\(look x).isSome=true)):((zaD look names acc).lookup x).isSome=true:=by
 induction names generalizing acc with
 | nil =>
  rcases h with h | h
  ·exact h
  ·cases h.1
 | cons y r ih =>
  obtain⟨n,k⟩:=y
  unfold zaD
  split
  ·rename_i hk
   cases e:look n with
   | none =>
    refine ih acc ?_
    rcases h with h | ⟨h,h2⟩
    ·exact .inl h
    ·rcases List.mem_cons.mp h with h | h
     ·cases h
      rw [e] at h2
      cases h2
     ·exact .inr ⟨h,h2⟩
   | some c =>
    refine ih _ ?_
    rcases h with h | ⟨h,h2⟩
    ·exact .inl (Ze (.inl h))
    ·rcases List.mem_cons.mp h with h | h
     ·cases h
      exact .inl (Ze (.inr rfl))
     ·exact .inr ⟨h,h2⟩
  ·rename_i hk
   refine ih acc ?_
   rcases h with h | ⟨h,h2⟩
   ·exact .inl h
   ·rcases List.mem_cons.mp h with h | h
    ·cases h
     exact absurd rfl hk
    ·exact .inr ⟨h,h2⟩
theorem xQ {scope:Scope}{env:Env}(h:∀y∈scope.names,y.2=.free->(env.cells.lookup y.1).isSome=true):closureFor scope env=pure (zaD (fun x=>env.cells.lookup x) scope.names []):=by
 have go:∀(names:List (Str×NameKind)) (acc:List (Str×Addr)),(∀y∈names,y.2=.free->(env.cells.lookup y.1).isSome=true) ->
   (forIn names acc fun x cs=>(match x with
    | (name,kind)=>if (kind == .free)=true then do let a <- cellOf env name;pure (ForInStep.yield ((name,a)::cs)) else pure (ForInStep.yield cs):Sem (ForInStep (List (Str×Addr)))))=(pure (zaD (fun x=>env.cells.lookup x) names acc):Sem _):=by
  intro names
  induction names with
  | nil=>intro acc _;rfl
  | cons y r ih =>
   intro acc hy
   obtain⟨n,k⟩:=y
   have hr:∀y∈r,y.2=.free->(env.cells.lookup y.1).isSome=true:=fun y hm=>hy y (mem_cons_of_mem _ hm)
   rw [List.forIn_cons]
   unfold zaD
   by_cases hk:(k==NameKind.free)=true
   ·have hk':k=.free:=by simpa using hk
    have hs:=hy (n,k) mem_cons_self hk'
    obtain⟨c,hc⟩:=Option.isSome_iff_exists.mp hs
    have hc':List.lookup n env.cells=some c:=hc
    have e1:cellOf env n=pure c:=by
     unfold cellOf
     rw [hc']
    simp only [hk,if_true,e1,hc',pure_bind]
    exact ih _ hr
   ·simp only [hk,false_eq_true,if_false,pure_bind]
    exact ih _ hr
 simp only [closureFor]
 exact Eq.trans (congrArg (fun m:Sem (List (Str×Addr))=>m >>= fun cs=>pure cs) (go scope.names [] h)) rfl
theorem yt {scope:Scope}{env:Env}{x:Str}{k:NameKind}(h:(x,k)∈(relabel scope env).names)(hk:k=.cell\/k=.free):(x,NameKind.cell)∈scope.names\/(x,NameKind.free)∈scope.names:=by
 obtain⟨y,hy,e⟩:=List.mem_map.mp h
 obtain⟨n,k0⟩:=y
 by_cases c:(k0==NameKind.free&&env.scope.kind == .function&&env.kindOf n==some .cell)=true
 ·have e':(if (k0==NameKind.free&&env.scope.kind == .function&&env.kindOf n==some .cell)=true then (n,NameKind.cell) else (n,k0))=(x,k):=e
  rw [if_pos c] at e'
  cases e'
  have c1:k0=.free:=by
   have:=(Bool.and_eq_true_iff.mp (Bool.and_eq_true_iff.mp c).1).1
   simpa using this
  subst c1
  exact .inr hy
 ·have e':(if (k0==NameKind.free&&env.scope.kind == .function&&env.kindOf n==some .cell)=true then (n,NameKind.cell) else (n,k0))=(x,k):=e
  rw [if_neg c] at e'
  cases e'
  rcases hk with rfl | rfl
  ·exact .inl hy
  ·exact .inr hy
theorem zeq {scope:Scope}{env:Env}{x:Str}(hk:env.scope.kind=.function)(ho:env.kindOf x=some .cell)(h:scope.names.lookup x=some .free):(relabel scope env).names.lookup x=some .cell:=by
 have go:∀names:List (Str×NameKind),names.lookup x=some .free->(names.map fun (n,k)=>if (k==NameKind.free&&env.scope.kind == .function&&env.kindOf n==some .cell)=true then (n,NameKind.cell) else (n,k)).lookup x=some .cell:=by
  intro names
  induction names with
  | nil=>intro h;cases h
  | cons y r ih =>
   obtain⟨n,k⟩:=y
   intro h
   show List.lookup x ((if (k==NameKind.free&&env.scope.kind == .function&&env.kindOf n==some .cell)=true then (n,NameKind.cell) else (n,k))::_)=_
   rw [lookup_cons] at h
   cases e:x==n with
   | true =>
    rw [e] at h
    have hk':k=.free:=Option.some.inj h
    have hn:x=n:=by simpa using e
    subst hk' hn
    rw [if_pos (by rw [hk,ho];rfl),lookup_cons,beq_self_eq_true]
   | false =>
    rw [e] at h
    by_cases c:(k==NameKind.free&&env.scope.kind == .function&&env.kindOf n==some .cell)=true
    ·rw [if_pos c,lookup_cons,e]
     exact ih h
    ·rw [if_neg c,lookup_cons,e]
     exact ih h
 exact go scope.names h
theorem zW.free {X:Cx}{N:List Str}{src:List (Option Nat)}{scope:Scope}{O:List (Str×NameKind)}{XN:List Str}(hO:X.env.scope.names=O)(hK:X.env.scope.kind=.function)(hC:∃n,X.env.cells=cellsFrom n O [])(hX:X.N=XN)
  (kind:scope.kind=.function) (nocell:∀y∈scope.names,y.2 ≠ .cell) (names:∀y∈scope.names,y.2=.local->scope.names.lookup y.1=some .local) (fr:∀y∈scope.names,y.2=.free->O.lookup y.1=some .cell) (len:src.length=N.length)
  (pc:∀q∈N.zip src,q.2=none\/(∃j∈List.range XN.length,q.2=some j/\XN[j]?=some q.1/\O.lookup q.1=some .cell/\scope.names.lookup q.1=some .free)):zW X N src scope (zaD (fun x=>X.env.cells.lookup x) scope.names []):=by
 have hs:∀y∈scope.names,y.2=.free->(X.env.cells.lookup y.1).isSome=true:=fun y hy e=>by
  obtain⟨n,hn⟩:=hC
  rw [hn]
  exact PySem.W.cellsFrom_some O n [] (.inl (fr y hy e))
 refine⟨kind,nocell,names,xQ hs,fun x c h=>?_,fun x h=>?_,len,fun i j x h1 h2=>?_⟩
 ·rcases Zd _ _ _ (PySem.mem_of_lookup h) with z | z
  ·cases z
  ·exact z
 ·refine Option.isSome_iff_exists.mp (zbM _ _ (.inr ?_))
  have hm:(x,NameKind.cell)∈scope.names\/(x,NameKind.free)∈scope.names:=by
   rcases h with h | h
   ·exact yt (PySem.mem_of_lookup h) (.inl rfl)
   ·exact yt (PySem.mem_of_lookup h) (.inr rfl)
  rcases hm with hm | hm
  ·exact absurd rfl (nocell _ hm)
  ·exact⟨hm,hs _ hm rfl⟩
 ·have hm:(x,some j)∈N.zip src:=by
   refine mem_of_getElem? (i:=i) ?_
   rw [List.getElem?_zip_eq_some]
   exact⟨h1,h2⟩
  rcases pc _ hm with z | ⟨j',_,e,e1,e2,e3⟩
  ·cases z
  ·cases e
   have ko:X.env.kindOf x=some .cell:=by
    show X.env.scope.names.lookup x=some .cell
    rw [hO]
    exact e2
   exact⟨by rw [hX];exact e1,.inl ko,.inl (zeq hK ko e3)⟩
open PySem PySem.Spec PyProof.Rows PySem.W
section
variable {α β:Type}{R:α->β->Prop}{us us':List α}{cs cs':List β}{i:Nat}{v:α}{c:β}
theorem zaE (h:Paired R us cs)(k:Paired R us' cs'):Paired R (us++us') (cs++cs'):=by
 induction h with
 | nil=>exact k
 | cons q _ ih=>exact .cons q ih
theorem zbN (h:Paired R us cs)(e:us[i]?=some v):∃c,cs[i]?=some c/\R v c:=by
 induction h generalizing i with
 | nil=>cases e
 | cons q _ ih =>
  cases i with
  | zero =>
   cases e
   exact⟨_,rfl,q⟩
  | succ i=>exact ih (i:=i) e
theorem zkg (h:Paired R us cs)(e:v∈us):∃c∈cs,R v c:=by
 induction h with
 | nil=>cases e
 | cons q _ ih =>
  rcases List.mem_cons.mp e with rfl | e
  ·exact⟨_,mem_cons_self,q⟩
  ·obtain⟨c,h,r⟩:=ih e
   exact⟨c,mem_cons_of_mem _ h,r⟩
end
def yO (H:Hp):List V->List (Int×Int)->Prop:=Paired fun v p=>∃a,v=V.ref a/\H a=some (.tup [.int p.1,.int p.2])
def lt2 (p q:Int×Int):Bool:=if p.1=q.1 then decide (p.2<q.2) else decide (p.1<q.1)
structure zE (h:Heap)(v:Value)(p:Int×Int):Prop where
 ex:∃a o n t u,v=.ref a/\h.get? a=some o/\o.cls=.type "tuple"/\o.data=.seq #[.int p.1 t,.int p.2 u] n
section
variable {X:Cx}{pins:List (Addr×Obj)}{σ:St}{H:Hp}{s:Shared}
theorem yO.pairs (I:Inv X pins σ H s){us:List V}{ps:List (Int×Int)}{its:List Value}(hp:yO H us ps)(r:Vals us its):Paired (zE s.heap) its ps:=by
 induction hp generalizing its with
 | nil =>
  cases r
  exact .nil
 | cons q _ ih =>
  obtain⟨a,e,h⟩:=q
  subst e
  cases r with
  | cons r1 r2 =>
   cases r1
   refine .cons ?_ (ih r2)
   obtain⟨items,rv,tp,_⟩:=I.tuple (SqT.of h)
   obtain⟨u1,u2,rfl,⟨t1,rfl⟩,⟨t2,rfl⟩⟩:=vals2 rv
   obtain⟨ob,e1,c1,n,d1⟩:=tp
   exact⟨a,ob,n,t1,t2,rfl,e1,c1,d1⟩
end
theorem ZM {h h':Heap}(k:∀b o,h.get? b=some o->h'.get? b=some o):∀{its:List Value} {ps:List (Int×Int)},Paired (zE h) its ps->Paired (zE h') its ps
 | _,_,.nil=>.nil
 | _,_,.cons ⟨a,o,n,t,u,e,e1,r⟩ tl=>.cons ⟨a,o,n,t,u,e,k _ _ e1,r⟩ (ZM k tl)
theorem Q2 {h:Heap}:∀{its:List Value} {ps:List (Int×Int)},Paired (zE h) its ps->∃fs:List Value,KatTups h its fs/\fs.length=its.length/\∀v∈fs,∃x t,v=Value.int x t
 | _,_,.nil=>⟨[],.nil,rfl,fun _ z=>nomatch z⟩
 | _,_,.cons ⟨a,o,n,t,u,e,e1,c,d⟩ tl=>by
  obtain⟨fs,k,l,q⟩:=Q2 tl
  subst e
  refine⟨.int _ t::fs,KatTups.cons e1 c d rfl k,by simp [l],fun v hv=>?_⟩
  rcases List.mem_cons.mp hv with rfl | hv
  ·exact⟨_,t,rfl⟩
  ·exact q v hv
section
variable {prog:Program}{w:World}{A:Around}{E:Value->Shared->Prop}{s:Shared}
theorem zl0 {v v':Value}{p q:Int×Int}{C:Bool->Shared->Prop}(hv:zE s.heap v p)(hv':zE s.heap v' q)(h:C (lt2 p q) s):wpAny (model prog w) A (keyLt' (tuples' true) v v') C E s:=by
 obtain⟨a,o,n,t,u,rfl,e1,c1,d1⟩:=hv
 obtain⟨a',o',n',t',u',rfl,e1',c1',d1'⟩:=hv'
 refine kat_lt e1 d1 e1' d1' ?_
 show KatLex prog w A true _ C [(Value.int p.1 t,Value.int q.1 t'),(Value.int p.2 u,Value.int q.2 u')] 0 s
 unfold lt2 at h
 refine kat_cons (SeqAt.EqAt.int_int _ _ _ _ prog w _ _ (kat_go (fun ee=>kat_yes ?_) fun ee=>kat_no ?_))
 ·have e:p.1=q.1:=by simpa using ee
  rw [if_pos e] at h
  refine kat_cons (SeqAt.EqAt.int_int _ _ _ _ prog w _ _ (kat_go (fun e2=>kat_yes (kat_nil ?_)) fun e2=>kat_no ?_))
  ·have e3:p.2=q.2:=by simpa using e2
   have e4:decide (p.2<q.2)=false:=decide_eq_false (by omega)
   rw [e4] at h
   exact h
  ·exact kat_one _ _ (lt_int h)
 ·have e:¬ p.1=q.1:=by simpa using ee
  rw [if_neg e] at h
  exact oneLt_int h
end
section
variable {X:Cx}
end
section
variable {X:Cx}
theorem zfq:zoa X (zno X.K):=by
 intro pins s σ H x y v u Q I rx ry h
 obtain⟨p,xs,i,z,rfl,rfl,hq,he,q⟩:=h
 cases rx
 obtain⟨t,rfl⟩:=ry
 obtain⟨its,r,pl,hz⟩:=I.list hq
 obtain⟨j,h1,h2,h3,h4,h5⟩:=zbs he
 obtain⟨w,ew,rw'⟩:=r.get h2
 have hl:=r.length
 have hn:=Yn
 have fin:EP X pins σ Q w s:=⟨z,H,I,rw',q⟩
 by_cases h0:0<=i
 ·have hj:i.toNat=j:=by
   rw [seqIndex_of h0 h5] at h1
   exact Option.some.inj h1
  exact wpAny_getItem_list pl.isList h0 (by omega) (by rw [hj];simpa using ew) fin
 ·have hj:(i+(its.toArray.size:Int)).toNat=j:=by
   rw [seqIndex_neg (by omega) h4] at h1
   rw [size_toArray,<- hl]
   exact Option.some.inj h1
  exact wpAny_getItem_list_neg pl.isList (by omega) (by rw [size_toArray]<;>omega) (by omega) (by rw [hj];simpa using ew) fin
theorem zfr:∀{ns:List Int} {its:List Value},Vals (ns.map V.int) its->IntsAre its ns
 | [],_,r=>by cases r;exact .nil
 | n::ns,_,r=>by
  cases r with
  | cons r1 r2 =>
   obtain⟨t,rfl⟩:=r1
   exact .cons n t (zfr r2)
theorem zkh (hc:X.calm=true):yr X (.builtin "sum") (fun xs H Q=>∃(l:Addr) (ns:List Int),xs=[.ref l]/\SqL X.K H l (ns.map V.int)/\Q (.int ns.sum) H):=by
 intro pins s σ H xs us Q I r h
 obtain⟨l,ns,rfl,hq,q⟩:=h
 obtain⟨u,rfl,ru⟩:=vals1 r
 cases ru
 obtain⟨its,rv,pl,hz⟩:=I.list hq
 have hi:IntsAre its ns:=zfr rv
 obtain⟨ys,ey⟩:=hi.allInts.items
 refine sum_intListG (I.ok.hd hc) (xs:=ys) (ey ▸ pl.isList) fun h' tk t' hk=>?_
 have f1:ns=ys.toList.map (·.1):=by
  rw [<- nums_intItems,<- ey]
  exact(show numsOf its.toArray.toList=ns from hi.numsOf).symm
 have f2:preSum (numAt ys) ys.size=ns.sum:=by
  rw [f1,preSum_eq,take_of_length_le (by simp)]
 rw [f2]
 exact⟨.int _,H,I.kept hk,⟨_,rfl⟩,q⟩
theorem zi9 {bs:List Bool}{its:List Value}(r:Vals (bs.map V.bl) its){i:Nat}{v:Value}(e:its[i]?=some v):∃b,bs[i]?=some b/\v=.bool b:=by
 have hl:=r.length
 rw [length_map] at hl
 have hi:i<bs.length:=by
  have:=(List.getElem?_eq_some_iff.mp e).1
  omega
 obtain⟨u,hu,ru⟩:=r.get (i:=i) (x:=.bl bs[i]) (by rw [getElem?_map,getElem?_eq_getElem hi];rfl)
 rw [hu] at e
 cases e
 exact⟨bs[i],getElem?_eq_getElem hi,ru⟩
theorem zfs (hc:X.calm=true):yr X (.builtin "any") (fun xs H Q=>∃(l:Addr) (bs:List Bool),xs=[.ref l]/\SqL X.K H l (bs.map V.bl)/\Q (.bl (bs.any id)) H):=by
 intro pins s σ H xs us Q I r h
 obtain⟨l,bs,rfl,hq,q⟩:=h
 obtain⟨u,rfl,ru⟩:=vals1 r
 cases ru
 obtain⟨its,rv,pl,hz⟩:=I.list hq
 have hl:=pl.isList
 have hlt:l<s.heap.objs.size:=let ⟨_,he,_⟩:=hl;Heap.lt_size he
 have hln:=rv.length
 rw [length_map] at hln
 refine call_any_walk (wpAny_pyIter_list hl ?_)
 refine⟨s.heap.objs.size,[s.heap.objs.size,l],[s.heap.objs.size],its.toArray.size,_,_,fun i=>(bs[i]?).getD false,rfl,Walks.list (A:=X.A.in1) (I.ok.hd hc) _ l (ne_of_lt hlt) its.toArray,
  ⟨⟨_,Heap.get?_push_size _ rfl,rfl,rfl⟩,hl.push _⟩,fun i v s' Q' E' hP hQ=>?_,fun h' tk hk=>?_⟩
 ·obtain⟨b,eb,rfl⟩:=zi9 rv (i:=i) (v:=v) (by simpa using hP)
  simp only [eb,getD_some] at hQ
  exact wpAny_truthy_bool hQ
 ·have e:((List.range its.toArray.size).any fun i=>(bs[i]?).getD false)=bs.any id:=by
   rw [size_toArray,<- hln];exact LSm.range_any bs
  rw [e]
  exact⟨.bl _,H,I.kept (LSm.kept_iter hk),rfl,q⟩
end
mutual
inductive Rdn (N:Addr->Prop)(H:Hp):V->PyData->Prop
 | non:Rdn N H .non .none
 | bl (b:Bool):Rdn N H (.bl b) (.bool b)
 | int (i:Int):Rdn N H (.int i) (.int i)
 | str (x:Str):Rdn N H (.str x) (.str x)
 | lst {a:Addr} {xs:List V} {ds:List PyData}:N a->H a=some (.lst xs)->zF N H xs ds->Rdn N H (.ref a) (.list ds)
 | tup {a:Addr} {xs:List V} {ds:List PyData}:H a=some (.tup xs)->zF N H xs ds->Rdn N H (.ref a) (.tuple ds)
inductive zF (N:Addr->Prop)(H:Hp):List V->List PyData->Prop
 | nil:zF N H [] []
 | cons {x:V} {d:PyData} {xs:List V} {ds:List PyData}:Rdn N H x d->zF N H xs ds->zF N H (x::xs) (d::ds)
end
section
variable {K:PySem.W.Frag}{N N':Addr->Prop}{H H':Hp}
theorem Rdn.rdv {v:V}{d:PyData}(h:Rdn N H v d):Rdv K H v d :=
 Rdn.rec (motive_1:=fun v d _=>Rdv K H v d) (motive_2:=fun vs ds _=>xP K H vs ds) .non .bl .int .str (fun _ h _ t=>.lst (SqL.of h) t) (fun h _ t=>.tup (SqT.of h) t) .nil (fun _ _ a t=>.cons a t) h
theorem zF.rdv {vs:List V}{ds:List PyData}(h:zF N H vs ds):xP K H vs ds :=
 zF.rec (motive_1:=fun v d _=>Rdv K H v d) (motive_2:=fun vs ds _=>xP K H vs ds) .non .bl .int .str (fun _ h _ t=>.lst (SqL.of h) t) (fun h _ t=>.tup (SqT.of h) t) .nil (fun _ _ a t=>.cons a t) h
theorem Rdn.mono (s:zw H H')(i:∀a,N a->N' a){v:V}{d:PyData}(h:Rdn N H v d):Rdn N' H' v d :=
 Rdn.rec (motive_1:=fun v d _=>Rdn N' H' v d) (motive_2:=fun vs ds _=>zF N' H' vs ds) .non .bl .int .str (fun n h _ t=>.lst (i _ n) (s _ _ h) t) (fun h _ t=>.tup (s _ _ h) t) .nil (fun _ _ a t=>.cons a t) h
theorem zF.mono (s:zw H H')(i:∀a,N a->N' a){vs:List V}{ds:List PyData}(h:zF N H vs ds):zF N' H' vs ds :=
 zF.rec (motive_1:=fun v d _=>Rdn N' H' v d) (motive_2:=fun vs ds _=>zF N' H' vs ds) .non .bl .int .str (fun n h _ t=>.lst (i _ n) (s _ _ h) t) (fun h _ t=>.tup (s _ _ h) t) .nil (fun _ _ a t=>.cons a t) h
theorem zF.into {D:Addr}{o:HO}{old:List V}(hD:H D=some (.lst old))(i:∀a,N a->a≠D){vs:List V}{ds:List PyData}(h:zF N H vs ds):zF N (upd H D o) vs ds :=
 zF.rec (motive_1:=fun v d _=>Rdn N (upd H D o) v d) (motive_2:=fun vs ds _=>zF N (upd H D o) vs ds) .non .bl .int .str (fun n h _ t=>.lst n (by rw [zj (i _ n)];exact h) t) (fun h _ t=>.tup (by rw [zj (zff h hD (by intro z;cases z))];exact h) t) .nil (fun _ _ a t=>.cons a t) h
theorem Rdn.keep (s:zw H H'){v:V}{d:PyData}(h:Rdn N H v d):Rdn N H' v d:=h.mono s fun _ n=>n
theorem zF.keep (s:zw H H'){vs:List V}{ds:List PyData}(h:zF N H vs ds):zF N H' vs ds:=h.mono s fun _ n=>n
theorem zF.append {vs ws:List V}{ds es:List PyData}(h:zF N H vs ds)(k:zF N H ws es):zF N H (vs++ws) (ds++es) :=
 zF.rec (motive_1:=fun _ _ _=>True) (motive_2:=fun vs ds _=>zF N H (vs++ws) (ds++es))
  trivial (fun _=>trivial) (fun _=>trivial) (fun _=>trivial) (fun _ _ _ _=>trivial) (fun _ _ _=>trivial) k (fun a _ _ t=>.cons a t) h
theorem zF.snoc {vs:List V}{ds:List PyData}{v:V}{d:PyData}(h:zF N H vs ds)(k:Rdn N H v d):zF N H (vs++[v]) (ds++[d]):=h.append (.cons k .nil)
theorem zF.paired {vs:List V}{ds:List PyData}(h:zF N H vs ds):Paired (Rdn N H) vs ds :=
 zF.rec (motive_1:=fun _ _ _=>True) (motive_2:=fun vs ds _=>Paired (Rdn N H) vs ds)
  trivial (fun _=>trivial) (fun _=>trivial) (fun _=>trivial) (fun _ _ _ _=>trivial) (fun _ _ _=>trivial) .nil (fun a _ _ t=>.cons a t) h
theorem zF.length {vs:List V}{ds:List PyData}(h:zF N H vs ds):vs.length=ds.length:=Paired.length h.paired
theorem zF.get {vs:List V}{ds:List PyData}{i:Nat}{v:V}(h:zF N H vs ds)(e:vs[i]?=some v):∃d,ds[i]?=some d/\Rdn N H v d:=zbN h.paired e
end
section
variable {K:PySem.W.Frag}{g:TG}{tc:TT}{te:TE}{Q:VK}{σ0:St}{H1:Hp}{D:Addr}
def zl1 (N:Addr->Prop)(inv:St->Prop)(H:Hp)(o:Option PyData)(Y:St->V->Hp->Prop):Prop:=∀d y σ2 H5,o=some d->inv σ2->zw H H5->Rdn N H5 y d->Y σ2 y H5
def znx (inv:St->Prop)(H:Hp)(o:Option PyData)(Z:St->Hp->Prop):Prop:=∀ σ2 H4,o=none->inv σ2->zw H H4->Z σ2 H4
theorem qZ {a:Addr}{xs:List V}(N:Addr->Prop)(outs:List (Option PyData))(inv:St->Prop)(hD:H1 D=none)(hN:∀a,N a->a≠D)(h0:inv σ0)(hlen:outs.length=xs.length)(hz:xs.length<=100000)
  (hl:SqL K H1 a xs)
  (hs:∀(i:Nat) (x:V) (o:Option PyData) (σ:St) (H:Hp),xs[i]?=some x->outs[i]?=some o->zw H1 H->H D≠none->inv σ->∀Y Z,zl1 N inv H o Y->znx inv H o Z ->
   g x σ H fun σ2 H3=>tc σ2 H3 fun b H4=>if b=true then te σ2 H4 fun y H5=>Y σ2 y H5 else Z σ2 H4)
  (hd:∀ys H',zw H1 H'->H' D=some (.lst ys)->zF N H' ys (outs.filterMap id)->Q (.ref D) H'):Jv (Itl K a) g tc te Q D σ0 (upd H1 D (.lst [])):=by
 refine qA (K:=K) (a:=a) (xs:=xs) (fun i σ H'=>inv σ/\zw H1 H'/\∃ys,H' D=some (.lst ys)/\ys.length<=i/\zF N H' ys ((outs.take i).filterMap id)) ⟨h0,ze hD,[],zc,le_refl _,.nil⟩ (fun i σ H' _ ⟨_,s,_⟩=>s.seq hl) ?_ ?_
 ·rintro i x σ H hx ⟨hi,s,ys,hy,yl,hr⟩
  have hil:i<xs.length:=(List.getElem?_eq_some_iff.mp hx).1
  obtain⟨o,ho⟩:∃o,outs[i]?=some o:=⟨outs[i]'(by omega),getElem?_eq_getElem (by omega)⟩
  have step:(outs.take (i+1)).filterMap id=(outs.take i).filterMap id++o.toList:=by
   rw [take_add_one,ho,List.filterMap_append]
   cases o<;>rfl
  refine hs i x o σ H hx ho s (by rw [hy];exact fun z=>nomatch z) hi _ _ (fun d y σ2 H5 e hi2 s5 hr5=>?_) (fun σ2 H4 e hi2 s4=>?_)
  ·subst e
   refine⟨ys,s5 _ _ hy,lt_of_le_of_lt yl (lt_of_lt_of_le hil (le_trans hz (by decide))),hi2,fun b ob e=>?_,ys++[y],zc,?_,?_⟩
   ·rw [zj (zh e hD)]
    exact s5 _ _ (s _ _ e)
   ·rw [length_append]
    exact Nat.add_le_add_right yl 1
   ·rw [step]
    exact zF.into (s5 _ _ hy) hN (zF.snoc (hr.keep s5) hr5)
  ·subst e
   refine⟨hi2,s.trans s4,ys,s4 _ _ hy,Nat.le_succ_of_le yl,?_⟩
   rw [step]
   simpa using hr.keep s4
 ·rintro σ H ⟨_,s,ys,hy,_,hr⟩
  rw [<- hlen,take_length] at hr
  exact hd ys H s hy hr
theorem zgW {a:Addr}{xs:List V}(Pv:Nat->St->Hp->Prop){H:Hp}(h0:Pv 0 σ0 H)(hl:∀i σ H,i<=xs.length->Pv i σ H->SqL K H a xs)
  (hs:∀i x T σ H,xs[i]?=some x->H T=none->Pv i σ H->g (.ref T) σ (upd H T (.tup [.int i,x])) fun σ2 H3=>tc σ2 H3 fun b H4=>if b=true then te σ2 H4 fun y H5=>∃ys,H5 D=some (.lst ys)/\ys.length<sizeLine/\Pv (i+1) σ2 (upd H5 D (.lst (ys++[y]))) else Pv (i+1) σ2 H4)
  (hd:∀ σ H,Pv xs.length σ H->Q (.ref D) H):Jv (Ite K a) g tc te Q D σ0 H:=by
 refine⟨fun i m σ H=>m=xs.length-i/\i<=xs.length/\Pv i σ H,⟨xs.length,by simp,zero_le _,h0⟩,?_⟩
 rintro i m σ H ⟨rfl,hi,p⟩
 have q:=hl i σ H hi p
 by_cases hlt:i<xs.length
 ·refine .inr ⟨⟨xs,q,hlt⟩,Pv (i+1),fun σ' H' p'=>⟨xs.length-(i+1),by omega,rfl,hlt,p'⟩,fun x H' y=>?_⟩
  obtain⟨T,rfl,hT,y⟩:=y
  obtain⟨v,hv,rfl⟩:=y xs q
  exact hs i v T σ H hv hT p
 ·have e:i=xs.length:=by omega
  subst e
  exact .inl ⟨⟨xs,q,rfl⟩,hd σ H p⟩
theorem ZN {i:Nat}{v:V}{σ:St}{H:Hp}{A B:St->Hp->Prop}(h:A (σ.set i (some v)) H):xU i v σ H fun σ2 H3=>zlY σ2 H3 fun b H4=>if b=true then A σ2 H4 else B σ2 H4:=by
 show if true=true then A (σ.set i (some v)) H else B (σ.set i (some v)) H
 exact Qd h
end
section
variable {X:Cx}{tg iter elt:Expr}{ifs:List Expr}{scope:Scope}{pos:Pos}{N:List Str}{src:List (Option Nat)}{cl:List (Str×Addr)}{wi:TI}{g:TG}{tc:TT}{te:TE}
theorem ZO {i:Nat}{x:Str}{xpos spos:Pos}(hN:X.N.Nodup)(hix:X.N[i]?=some x)(hlx:X.env.scope.names.lookup x=some .local)(ok:zW X N src scope cl)(hcalm:X.calm=true)(hi:PI X tg iter wi)
  (hg:∀C fp pins s H,PG (qR X N scope cl C fp pins s H) tg g) (hc:∀C fp pins s H,zkc (qR X N scope cl C fp pins s H) ifs tc) (he:∀C fp pins s H,PE (qR X N scope cl C fp pins s H) elt te)
  (hs:∀x,foldedSetIterable iter X.env x=pure x:=by intro _;rfl) (hsw:swapsWith (.ListComp elt [⟨tg,iter,ifs,0⟩] scope pos) (some (.Name x xpos)) spos.line X.env=pure true:=by rfl) :
  PS X (.Assign [.Name x xpos] (.ListComp elt [⟨tg,iter,ifs,0⟩] scope pos) spos) (znf (zkd wi src g tc te) (xU i)):=by
 intro pins s σ H D I h
 rw [exec_Assign_Name_used _ _ _ _ hsw]
 refine wpAny_bind (wpAny_standAt (wpAny_bind ?_))
 unfold evalThenUse
 refine wpAny_bind (wpAny_mono (Q:=fun _ s''=>∃ σ' H',Inv X pins σ' H' s''/\D.nx σ' H') ?_ (fun _ s'' ⟨σ',H',I',q'⟩=>wpAny_pure (wpAny_pure ⟨σ',H',I',q'⟩)) fun _ _ z=>z)
 refine wpAny_comprehension_free (use:=some (assign (.Name x xpos) X.env)) rfl hs ok.clos ok.kind ok.names (thn (hi pins s σ H _ I h) fun xv s1 h1=>thn h1 fun itv s2 h2=>?_)
 obtain⟨it,fp,tn,J,H2,e,I2,T,st2,f2,q2⟩:=h2
 subst e
 refine wpAny_newObj_type (wpAny_newFunctionEnv ok.nocell (by intro y hy;simp at hy) (fun h₁ hns₁ hsb₁=>?_) ok.kind)
 dsimp only at hns₁ hsb₁ ⊢
 generalize hP:s2.heap.push { cls:=.type "list",dict:=none,data:=.seq ([]:List Value).toArray }=P2 at hns₁ hsb₁ ⊢
 have hC:P2.objs.size=s2.heap.objs.size+1:=by rw [<- hP,Heap.size_push]
 have k:∀b u,s2.heap.get? b=some u->h₁.get? b=some u:=fun b u e=>by
  have lt:=Heap.lt_size e
  exact(hsb₁.2 b (by rw [hC];exact ne_of_lt (lt_succ_of_lt lt))).trans (Heap.get?_push_of_some _ (hP ▸ Heap.get?_push_of_some _ e))
 have hD:h₁.get? s2.heap.objs.size=some { cls:=.type "list",data:=.seq #[] }:=(hsb₁.2 _ (by rw [hC];exact(succ_ne_self _).symm)).trans (Heap.get?_push_of_some _ (hP ▸ Heap.get?_push_size _ rfl))
 have ho:∀b∈fp,∃o,s2.heap.get? b=some o:=fun b hb=>let ⟨o,e,_⟩:=T.obj 0 _ st2 b hb;⟨o,e⟩
 obtain⟨W,⟨m0,w0⟩,turn⟩:=q2 s2.heap.objs.size (I2.hok.fresh (le_refl _))
 have I0:=zbK (tk:=s2.toks+([]:List (Str×Value)).length) ok I2 f2 ho hC k hD hns₁
 have st0:tn 0 h₁:=T.keep 0 _ _ st2 fun b _ o e=>k b o e
 have fr0:∀b∈fp,upd H2 s2.heap.objs.size (.lst []) b=none:=fun b hb=>by
  obtain⟨o,e⟩:=ho b hb
  rw [zj (ne_of_lt (Heap.lt_size e))]
  exact(f2 b hb).1
 have stat:∀{H':Hp},(∀b∈fp,H' b=none)->∀b∈fp,QM (qR X N scope cl P2.objs.size fp pins s2 H2) [] H' b:=fun {H'} hn b hb=>by
  obtain⟨o,e⟩:=ho b hb
  have lt:=Heap.lt_size e
  refine⟨hn b hb,?_,fun z=>(List.mem_cons.mp (I2.stkSub b z)).elim (f2 b hb).2.1 (f2 b hb).2.2.1,.inl hb,fun x c z=>(f2 b hb).2.2.2.2.1 x c (ok.sub x c z),fun p hp=>?_⟩
  ·show b≠P2.objs.size
   rw [hC]
   exact ne_of_lt (lt_succ_of_lt lt)
  ·have hp':p∈X.pn++pins:=by
    have:p∈(X.pn++pins)++[]:=hp
    simpa using this
   exact(f2 b hb).2.2.2.2.2 p hp'
 have loop:∀s₃:Shared,s₃={ s2 with heap:=h₁,toks:=s2.toks+([]:List (Str×Value)).length } ->
   codeAny (model X.prog X.w) X.A (.compLoop (.ListComp elt [⟨tg,iter,ifs,0⟩] scope pos) 0 (.ref it) (.ref s2.heap.objs.size) (compEnvC scope cl P2.objs.size X.env))
    (compPost (model X.prog X.w) X.A X.xe (some (assign (.Name x xpos) X.env)) (fun _ s''=>∃ σ' H',Inv X pins σ' H' s''/\D.nx σ' H') (.ref s2.heap.objs.size) P2.objs.size) s₃:=by
  rintro s₃ rfl
  refine codeAny_loop rfl (fun n s'=>∃i σ' H',Inv (qR X N scope cl P2.objs.size fp pins s2 H2) [] σ' H' s'/\tn i s'.heap/\(∀b∈fp,H' b=none)/\W i n σ' H') ?_ m0 ⟨0,_,_,I0,st0,fr0,w0⟩
  rintro n s3 ⟨i,σ3,H3,I3,st3,fr3,w3⟩
  show wpAny _ X.A ((compTurn (.ListComp elt [⟨tg,iter,ifs,0⟩] scope pos) 0 (.ref it) (.ref s2.heap.objs.size) (compEnvC scope cl P2.objs.size X.env)).onRaise (fun x=>do noteFrame x (compEnvC scope cl P2.objs.size X.env);theTreesLotGoes x)) _ _ s3
  refine wpAny_noted ?_
  rw [compTurn_list]
  rcases turn i n σ3 H3 w3 with ⟨stop,qn⟩ | ⟨go,N',hN,step⟩
  ·refine wpAny_bind (wpAny_standAt (wpAny_bind (thn (T.done (qR X N scope cl P2.objs.size fp pins s2 H2) rfl rfl rfl hcalm i [] s3 σ3 H3 _ I3 (stat fr3) st3 stop) fun r s4 ⟨hr,I4⟩=>?_)))
   subst hr
   refine wpAny_pure ?_
   obtain⟨m,hm,_⟩:=I4.loc
   have leC:s2.heap.objs.size<=P2.objs.size:=by rw [hC];exact le_succ _
   have IX:Inv X pins σ H3 s4:=I2.call' (s':=s4) (ch:=fp) I4.os I4.base I4.hok I4.bare fun b hb=>⟨(f2 b hb).2.2.2.1,(f2 b hb).2.1,(f2 b hb).2.2.2.2.1,(f2 b hb).2.2.2.2.2⟩
   have cellLt:∀y c,X.env.cells.lookup y=some c->c≠P2.objs.size:=fun y c e z=>by
    obtain⟨_,o,e1,_⟩:=I2.cell y c e
    have:=Heap.lt_size e1
    rw [z] at this
    exact lt_irrefl _ (lt_of_lt_of_le this leC)
   have locNe:X.env.locals≠P2.objs.size:=fun z=>by
    have:=I2.lt
    rw [z] at this
    exact lt_irrefl _ (lt_of_lt_of_le this leC)
   refine wpAny_assign_Name (zdm IX hN hix (.inl hlx) (v:=.ref s2.heap.objs.size) rfl (fun s5 I5 ⟨a5,sb5,ha5⟩=>?_) (.inr hlx))
   have na:a5≠P2.objs.size:=by
    rcases ha5 with z | z
    ·rw [z]
     exact locNe
    ·exact cellLt _ _ z
   refine⟨m,hm.sameBut sb5 (Ne.symm na),fun h' sb=>⟨_,H3,?_,qn⟩⟩
   exact I5.turned (t':=s5.toks) (it:=P2.objs.size) (fun b o hb e=>(sb.2 b hb).trans e) I4.free (Ne.symm locNe) (.inr (le_trans I2.sz leC)) cellLt fun p hp z=>by
    obtain⟨e1,_⟩:=I2.pin p hp
    have:=Heap.lt_size e1
    rw [z] at this
    exact lt_irrefl _ (lt_of_lt_of_le this leC)
  ·refine wpAny_bind (wpAny_standAt (wpAny_bind (thn (T.item (qR X N scope cl P2.objs.size fp pins s2 H2) rfl rfl rfl hcalm i [] s3 σ3 H3 _ I3 (stat fr3) st3 go) fun r s4 ⟨u,hr,h4⟩=>?_)))
   subst hr
   dsimp only
   refine wpAny_bind (thn h4 fun _ s5 ⟨x,H5,I5,r5,y5,st5,fr5⟩=>?_)
   have I5':=I5.pinned (stat fr5) (T.obj _ _ st5)
   refine wpAny_bind (wpAny_mono (hg P2.objs.size fp pins s2 H2 _ s5 σ3 H5 x u _ I5' r5 (step x H5 y5)) (fun _ s6 ⟨σ6,H6,I6,q6⟩=>?_) fun _ _ z=>False.elim z)
   have again:∀{s7:Shared} {σ7:St} {H7:Hp},Inv (qR X N scope cl P2.objs.size fp pins s2 H2) ([]++Qo fp s5.heap) σ7 H7 s7->N' σ7 H7->∃m,m<n/\∃i σ' H',Inv (qR X N scope cl P2.objs.size fp pins s2 H2) [] σ' H' s7/\tn i s7.heap/\(∀b∈fp,H' b=none)/\W i m σ' H':=fun {s7 σ7 H7} I7 n7=>by
    obtain⟨m',hm,w7⟩:=hN σ7 H7 n7
    refine⟨m',hm,i+1,σ7,H7,I7.unpinned,T.keep _ _ _ st5 fun b hb o e=>(I7.pin (b,o) (mem_append_right _ (mem_append_right _ (jN hb e)))).1,fun b hb=>?_,w7⟩
    obtain⟨o,e,d⟩:=T.obj _ _ st5 b hb
    exact(I7.pin (b,o) (mem_append_right _ (mem_append_right _ (jN hb e)))).2.1
   refine wpAny_bind (wpAny_mono (hc P2.objs.size fp pins s2 H2 _ s6 σ6 H6 _ I6 q6) (fun b s7 ⟨H7,I7,q7⟩=>?_) fun _ _ z=>False.elim z)
   cases b with
   | false =>
    rw [if_neg Bool.false_ne_true] at q7
    exact wpAny_pure ⟨rfl,again I7 q7⟩
   | true =>
    rw [if_pos rfl] at q7
    refine wpAny_bind (wpAny_bind (wpAny_mono (he P2.objs.size fp pins s2 H2 _ s7 σ6 H7 _ I7 q7) (fun y s8 ⟨v8,H8,I8,r8,ys,hys,hlen,q8⟩=>?_) fun _ _ z=>False.elim z))
    refine wpAny_bind (wpAny_mono (qY (X:=qR X N scope cl P2.objs.size fp pins s2 H2) _ s8 σ6 H8 (.ref s2.heap.objs.size) [v8] (.ref s2.heap.objs.size) [y] (fun _ H9=>N' σ6 H9) I8 rfl (.cons r8 .nil) ⟨_,ys,v8,rfl,rfl,hys,hlen,q8⟩) (fun _ s9 ⟨v9,H9,I9,_,q9⟩=>?_) fun _ _ z=>False.elim z)
    exact wpAny_pure (wpAny_pure ⟨rfl,again I9 q9⟩)
 exact codeAny_compStart_list (loop _ rfl) (T.self _ 0 _ _ _ st0 (loop _ rfl))
end
theorem zW.byRfl {X:Cx}{N:List Str}{src:List (Option Nat)}{scope:Scope}(kind:scope.kind=.function)(nocell:∀y∈scope.names,y.2 ≠ .cell)(names:∀y∈scope.names,y.2=.local->scope.names.lookup y.1=some .local)
  (hs:(scope.names.all fun y=>y.2 != .free || (X.env.cells.lookup y.1).isSome)=true) (len:src.length=N.length)
  (pc:((N.zip src).all fun q=>match q.2 with | none=>true | some j=>X.N[j]?==some q.1&&X.env.kindOf q.1==some .cell&&(relabel scope X.env).names.lookup q.1==some .cell)=true):zW X N src scope (zaD (fun x=>X.env.cells.lookup x) scope.names []):=by
 have hs':∀y∈scope.names,y.2=.free->(X.env.cells.lookup y.1).isSome=true:=fun y hy e=>by
  have z:=List.all_eq_true.mp hs y hy
  rw [e] at z
  simpa using z
 refine⟨kind,nocell,names,xQ hs',fun x c h=>?_,fun x h=>?_,len,fun i j x h1 h2=>?_⟩
 ·rcases Zd _ _ _ (PySem.mem_of_lookup h) with z | z
  ·cases z
  ·exact z
 ·refine Option.isSome_iff_exists.mp (zbM _ _ (.inr ?_))
  have hm:(x,NameKind.cell)∈scope.names\/(x,NameKind.free)∈scope.names:=by
   rcases h with h | h
   ·exact yt (PySem.mem_of_lookup h) (.inl rfl)
   ·exact yt (PySem.mem_of_lookup h) (.inr rfl)
  rcases hm with hm | hm
  ·exact absurd rfl (nocell _ hm)
  ·exact⟨hm,hs' _ hm rfl⟩
 ·have hm:(x,some j)∈N.zip src:=mem_of_getElem? (i:=i) (by rw [List.getElem?_zip_eq_some];exact⟨h1,h2⟩)
  have z:=List.all_eq_true.mp pc _ hm
  simp only [and_eq_true,beq_iff_eq] at z
  exact⟨z.1.1,.inl z.1.2,.inl z.2⟩
structure ZP (X:Cx)(N:List Str)(src:List (Option Nat))(scope:Scope)(cl:List (Str×Addr))(y:Str):Prop where
 kind:scope.kind=.function
 one:∀n acc,cellsFrom n scope.names acc=(y,n)::acc
 push:∀h,pushCells h scope.names=h.push { cls:=.type "cell",data:=.cell none }
 names:∀y∈scope.names,y.2=.local->scope.names.lookup y.1=some .local
 clos:closureFor scope X.env=pure cl
 sub:∀x c,cl.lookup x=some c->X.env.cells.lookup x=some c
 has:∀x,((relabel scope X.env).names.lookup x=some .cell\/(relabel scope X.env).names.lookup x=some .free)->x=y\/∃c,cl.lookup x=some c
 len:src.length=N.length
 pulls:∀(i j:Nat) (x:Str),N[i]?=some x->src[i]?=some (some j)->X.N[j]?=some x/\(X.env.kindOf x=some .cell\/X.env.kindOf x=some .free)/\((relabel scope X.env).names.lookup x=some .cell\/(relabel scope X.env).names.lookup x=some .free)
 pny:∀(i j:Nat) (x:Str),N[i]?=some x->src[i]?=some (some j)->x≠y
theorem ZP.has1 {X:Cx}{N:List Str}{src:List (Option Nat)}{scope:Scope}{cl:List (Str×Addr)}{y:Str}{C:Addr}(ok:ZP X N src scope cl y)(x:Str)(h:(relabel scope X.env).names.lookup x=some .cell\/(relabel scope X.env).names.lookup x=some .free):∃c,List.lookup x ((y,C)::cl)=some c:=by
 rw [lookup_cons]
 cases q:x==y with
 | true=>exact⟨_,rfl⟩
 | false =>
  rcases ok.has x h with z | z
  ·rw [z] at q
   simp at q
  ·exact z
theorem ZP.byRfl {X:Cx}{N:List Str}{src:List (Option Nat)}{scope:Scope}{y:Str}(kind:scope.kind=.function)(one:∀n acc,cellsFrom n scope.names acc=(y,n)::acc)(push:∀h,pushCells h scope.names=h.push { cls:=.type "cell",data:=.cell none })
  (only:∀z∈scope.names,z.2=.cell->z.1=y) (names:∀y∈scope.names,y.2=.local->scope.names.lookup y.1=some .local)
  (hs:(scope.names.all fun y=>y.2 != .free || (X.env.cells.lookup y.1).isSome)=true) (len:src.length=N.length)
  (pc:((N.zip src).all fun q=>match q.2 with | none=>true | some j=>X.N[j]?==some q.1&&X.env.kindOf q.1==some .cell&&(relabel scope X.env).names.lookup q.1==some .cell&&q.1 != y)=true):ZP X N src scope (zaD (fun x=>X.env.cells.lookup x) scope.names []) y:=by
 have hs':∀y∈scope.names,y.2=.free->(X.env.cells.lookup y.1).isSome=true:=fun y hy e=>by
  have z:=List.all_eq_true.mp hs y hy
  rw [e] at z
  simpa using z
 have pk:∀(i j:Nat) (x:Str),N[i]?=some x->src[i]?=some (some j)->(X.N[j]?=some x/\X.env.kindOf x=some .cell/\(relabel scope X.env).names.lookup x=some .cell)/\x≠y:=fun i j x h1 h2=>by
  have hm:(x,some j)∈N.zip src:=mem_of_getElem? (i:=i) (by rw [List.getElem?_zip_eq_some];exact⟨h1,h2⟩)
  have z:=List.all_eq_true.mp pc _ hm
  simp only [and_eq_true,beq_iff_eq,bne_iff_ne] at z
  exact⟨⟨z.1.1.1,z.1.1.2,z.1.2⟩,z.2⟩
 refine⟨kind,one,push,names,xQ hs',fun x c h=>?_,fun x h=>?_,len,fun i j x h1 h2=>⟨(pk i j x h1 h2).1.1,.inl (pk i j x h1 h2).1.2.1,.inl (pk i j x h1 h2).1.2.2⟩,fun i j x h1 h2=>(pk i j x h1 h2).2⟩
 ·rcases Zd _ _ _ (PySem.mem_of_lookup h) with z | z
  ·cases z
  ·exact z
 ·have hm:(x,NameKind.cell)∈scope.names\/(x,NameKind.free)∈scope.names:=by
   rcases h with h | h
   ·exact yt (PySem.mem_of_lookup h) (.inl rfl)
   ·exact yt (PySem.mem_of_lookup h) (.inr rfl)
  rcases hm with hm | hm
  ·exact .inl (only _ hm rfl)
  ·exact .inr (Option.isSome_iff_exists.mp (zbM _ _ (.inr ⟨hm,hs' _ hm rfl⟩)))
noncomputable def yg (X:Cx)(N:List Str)(scope:Scope)(cl:List (Str×Addr))(y:Str)(C:Addr)(fp:List Addr)(pins:List (Addr×Obj))(s:Shared)(H:Hp):Cx :=
 { qR X N scope ((y,C+1)::cl) C fp pins s H with fn:=fun x=>decide (x=y) }
theorem zl2 {M:Model}{A:Around}{E:Value->Shared->Prop}{s:Shared}{scope:Scope}{globals:Addr}{cl:List (Str×Addr)}{qual:Str}{env:Env}{y:Str}{Q:Env->Shared->Prop}(one:∀n acc,cellsFrom n scope.names acc=(y,n)::acc)(push:∀h,pushCells h scope.names=h.push { cls:=.type "cell",data:=.cell none })
  (hQ:Q (newEnv scope s.heap.objs.size globals ((y,s.heap.objs.size+1)::cl) qual none .none (some env) builtinsNs) { s with heap:=(s.heap.push { cls:=.type "dict",data:=.dict #[] }).push { cls:=.type "cell",data:=.cell none } }) :
  wpAny M A (newFunctionEnv scope globals cl [] qual none .none (some env)) Q E s:=by
 simp only [newFunctionEnv,Option.isSome_some,if_true]
 refine wpAny_bind (wpAny_alloc ?_)
 refine wpAny_bind (wpAny_layCells _ (fun name kind cells=>by cases hkc:kind==NameKind.cell<;>simp [hkc]) _ _ _ _ ?_)
 rw [push,one,show ({ s with heap:=s.heap.push { cls:=.type "dict",data:=.dict #[] } }:Shared).heap.objs.size=s.heap.objs.size+1 from Heap.size_push ..]
 exact wpAny_bind (wpAny_pure (wpAny_pure hQ))
section
variable {X:Cx}{tg iter elt:Expr}{ifs:List Expr}{scope:Scope}{pos:Pos}{N:List Str}{src:List (Option Nat)}{cl:List (Str×Addr)}{wi:TI}{g:TG}{tc:TT}{te:TE}{y:Str}
theorem zft {pins:List (Addr×Obj)}{σ:St}{H:Hp}{s:Shared}{fp:List Addr}{h1:Heap}{C:Addr}{tk:Nat}(ok:ZP X N src scope cl y)(I:Inv X pins σ H s)(hf:∀b∈fp,QM X pins H b)(ho:∀b∈fp,∃o,s.heap.get? b=some o)
  (hC:C=s.heap.objs.size+1) (k:∀b u,s.heap.get? b=some u->h1.get? b=some u) (hD:h1.get? s.heap.objs.size=some { cls:=.type "list",data:=.seq #[] }) {m:Str->Option Value} (hn:h1.Ns C m) (hcc:h1.IsCell (C+1) none) :
  Inv (yg X N scope cl y C fp pins s H) [] (pull src σ) (upd H s.heap.objs.size (.lst [])) { s with heap:=h1,toks:=tk }:=by
 have lt:∀b o,s.heap.get? b=some o->b<s.heap.objs.size:=fun b o e=>Heap.lt_size e
 have nC:∀b o,s.heap.get? b=some o->b≠C:=fun b o e=>by rw [hC];exact ne_of_lt (lt_succ_of_lt (lt b o e))
 have nD:∀b o,s.heap.get? b=some o->b≠s.heap.objs.size:=fun b o e=>ne_of_lt (lt b o e)
 have fr:∀b,s.heap.objs.size<=b->H b=none:=fun b hb=>I.hok.fresh hb
 have nst:∀b,b≠X.env.locals->b ∉ X.fs->b ∉ frs X.stack:=fun b h1 h2 z=>(List.mem_cons.mp (I.stkSub b z)).elim h1 h2
 have nC1:∀b o,s.heap.get? b=some o->b≠C+1:=fun b o e=>by rw [hC];exact ne_of_lt (lt_succ_of_lt (lt_succ_of_lt (lt b o e)))
 have own:∀x c,List.lookup x ((y,C+1)::cl)=some c->(x=y/\c=C+1)\/(x≠y/\X.env.cells.lookup x=some c):=fun x c e=>by
  rw [lookup_cons] at e
  cases q:x==y with
  | true =>
   rw [q] at e
   exact .inl ⟨by simpa using q,(Option.some.inj e).symm⟩
  | false =>
   rw [q] at e
   exact .inr ⟨by simpa using q,ok.sub x c e⟩
 have oldc:∀x c,X.env.cells.lookup x=some c->c≠C+1:=fun x c e=>by
  obtain⟨_,o,e1,_⟩:=I.cell x c e
  exact nC1 c o e1
 refine⟨⟨I.ok.mod,ok.kind,I.ok.glob,I.ok.blt,by rw [show (yg X N scope cl y C fp pins s H).env.locals=C from rfl,hC];exact le_succ _,?inj,ok.has1,?cab,I.ok.hd,I.ok.frames,.inl rfl,fun b hb=>?_,I.bs,le_trans I.ok.bsz I.sz,fun b o e hb=>?_,fun b hb hz=>?_,I.stack,I.stkFree⟩,
  rfl,I.bare,Un.laid k (le_refl _) (fr _ (le_refl _)),⟨m,hn,fun i x v e1 e2 e3=>?_⟩,fun x c e=>?_,?_,fun x c e=>?_,fun p hp=>?_,I.hok.laid k (le_refl _) ⟨zero_le _,[],0,.nil,hD⟩,?_⟩
 case inj =>
  intro x x' c e1 e2
  rcases own x c e1 with ⟨a1,a2⟩ | ⟨a1,a2⟩
  ·rcases own x' c e2 with ⟨b1,b2⟩ | ⟨b1,b2⟩
   ·rw [a1,b1]
   ·exact absurd a2 (oldc x' c b2)
  ·rcases own x' c e2 with ⟨b1,b2⟩ | ⟨b1,b2⟩
   ·exact absurd b2 (oldc x c a2)
   ·exact I.ok.inj x x' c a2 b2
 case cab =>
  intro x c z e
  have zy:x=y:=of_decide_eq_true z
  rcases own x c e with ⟨_,a2⟩ | ⟨a1,_⟩
  ·rw [a2,hC]
   exact Nat.le_succ_of_le (le_succ _)
  ·exact absurd zy a1
 ·obtain⟨o,e⟩:=ho b hb
  refine⟨nC b o e,fun x c z=>?_⟩
  rcases own x c z with ⟨_,a2⟩ | ⟨_,a2⟩
  ·rw [a2]
   exact Ne.symm (nC1 b o e)
  ·exact(hf b hb).2.2.2.2.1 x c a2
 ·rcases(hf b hb).2.2.2.1 with z | z
  ·exact I.ok.noex b o e z
  ·exact absurd (lt_of_lt_of_le (Heap.lt_size (I.ok.bs b o e).1) z) (lt_irrefl _)
 ·exact nst b (hf b hb).2.1 (hf b hb).2.2.1 hz
 ·have hi:i<src.length:=by
   have:=(List.getElem?_eq_some_iff.mp e2).1
   unfold pull at this
   rw [length_map] at this
   exact this
  unfold pull at e2
  rw [getElem?_map,getElem?_eq_getElem hi] at e2
  cases q:src[i] with
  | none=>rw [q] at e2;cases e2
  | some j =>
   rw [q] at e2
   have e2':(σ[j]?).getD none=some v:=Option.some.inj e2
   have e4:σ[j]?=some (some v):=by
    cases z:σ[j]? with
    | none=>rw [z] at e2';cases e2'
    | some o=>rw [z] at e2';exact congrArg some e2'
   obtain⟨p1,p2,p3⟩:=ok.pulls i j x e1 (by rw [getElem?_eq_getElem hi,q])
   obtain⟨m',hn',hl⟩:=I.loc
   obtain⟨u,r,l⟩:=hl j x v p1 e4 (by
    rcases p2 with z | z
    ·exact .inr (.inl z)
    ·exact .inr (.inr z))
   refine⟨u,r,.inr ⟨p3,?_⟩⟩
   obtain⟨c,hc⟩:=ok.has1 x p3
   refine⟨c,hc,?_⟩
   rcases l with ⟨z,_⟩ | ⟨_,c',hc',o,ho',hd'⟩
   ·rcases p2 with y | y<;>rw [z] at y<;>cases y
   ·rcases own x c hc with ⟨a1,_⟩ | ⟨_,a2⟩
    ·exact absurd a1 (ok.pny i j x e1 (by rw [getElem?_eq_getElem hi,q]))
    ·rw [a2] at hc'
     cases hc'
     exact⟨o,k _ o ho',hd'⟩
 ·rcases own x c e with ⟨_,a2⟩ | ⟨_,a2⟩
  ·rw [a2]
   exact⟨_,hcc⟩
  ·obtain⟨v,o,e1,e2⟩:=I.cell x c a2
   exact⟨v,o,k c o e1,e2⟩
 ·show upd H s.heap.objs.size (.lst []) C=none
  rw [hC,zj (succ_ne_self _)]
  exact fr _ (le_succ _)
 ·show upd H s.heap.objs.size (.lst []) c=none
  rcases own x c e with ⟨_,a2⟩ | ⟨_,a2⟩
  ·rw [a2,hC,zj (ne_of_gt (lt_succ_of_lt (Nat.lt_succ_self _)))]
   exact fr _ (Nat.le_succ_of_le (le_succ _))
  ·obtain⟨v,o,e1,e2⟩:=I.cell x c a2
   rw [zj (nD c o e1)]
   exact I.freeC x c a2
 ·have hp':p∈X.pn++pins:=by
   have:p∈(X.pn++pins)++[]:=hp
   simpa using this
  obtain⟨e1,e2,e3,e4,e5⟩:=I.pin p hp'
  refine⟨k _ _ e1,?_,nC _ _ e1,nst _ e3 e4,e5⟩
  show upd H s.heap.objs.size (.lst []) p.1=none
  rw [zj (nD _ _ e1)]
  exact e2
 ·unfold pull
  rw [length_map]
  exact ok.len
theorem zki {y:Str}(ok:ZP X N src scope cl y)(hcalm:X.calm=true)(hi:PI X tg iter wi)
  (hg:∀C fp pins s H,PG (yg X N scope cl y C fp pins s H) tg g) (hc:∀C fp pins s H,zkc (yg X N scope cl y C fp pins s H) ifs tc) (he:∀C fp pins s H,PE (yg X N scope cl y C fp pins s H) elt te)
  (hs:∀x,foldedSetIterable iter X.env x=pure x:=by intro _;rfl):PE X (.ListComp elt [⟨tg,iter,ifs,0⟩] scope pos) (zkd wi src g tc te):=by
 intro pins s σ H Q I h
 rw [eval_ListComp]
 refine wpAny_comprehension_free (use:=none) rfl hs ok.clos ok.kind ok.names (thn (hi pins s σ H _ I h) fun xv s1 h1=>thn h1 fun itv s2 h2=>?_)
 obtain⟨it,fp,tn,J,H2,e,I2,T,st2,f2,q2⟩:=h2
 subst e
 refine wpAny_newObj_type (zl2 ok.one ok.push ?_)
 generalize hP:s2.heap.push { cls:=.type "list",dict:=none,data:=.seq ([]:List Value).toArray }=P2
 have hC:P2.objs.size=s2.heap.objs.size+1:=by rw [<- hP,Heap.size_push]
 have sz1:(P2.push { cls:=.type "dict",data:=.dict #[] }).objs.size=P2.objs.size+1:=Heap.size_push ..
 generalize hh1:(P2.push { cls:=.type "dict",data:=.dict #[] }).push { cls:=.type "cell",data:=.cell none }=h₁
 have hns₁:h₁.Ns P2.objs.size (fun _=>none):=by
  rw [<- hh1]
  exact(Heap.Ns.new P2 _).push _
 have hcc:h₁.IsCell (P2.objs.size+1) none:=by
  rw [<- hh1,<- sz1]
  exact⟨_,Heap.get?_push_size _ rfl,rfl⟩
 have k:∀b u,s2.heap.get? b=some u->h₁.get? b=some u:=fun b u e=>by
  rw [<- hh1]
  exact Heap.get?_push_of_some _ (Heap.get?_push_of_some _ (hP ▸ Heap.get?_push_of_some _ e))
 have hD:h₁.get? s2.heap.objs.size=some { cls:=.type "list",data:=.seq #[] }:=by
  rw [<- hh1]
  exact Heap.get?_push_of_some _ (Heap.get?_push_of_some _ (hP ▸ Heap.get?_push_size _ rfl))
 have ho:∀b∈fp,∃o,s2.heap.get? b=some o:=fun b hb=>let ⟨o,e,_⟩:=T.obj 0 _ st2 b hb;⟨o,e⟩
 obtain⟨W,⟨m0,w0⟩,turn⟩:=q2 s2.heap.objs.size (I2.hok.fresh (le_refl _))
 have I0:=zft (tk:=s2.toks) ok I2 f2 ho hC k hD hns₁ hcc
 have st0:tn 0 h₁:=T.keep 0 _ _ st2 fun b _ o e=>k b o e
 have fr0:∀b∈fp,upd H2 s2.heap.objs.size (.lst []) b=none:=fun b hb=>by
  obtain⟨o,e⟩:=ho b hb
  rw [zj (ne_of_lt (Heap.lt_size e))]
  exact(f2 b hb).1
 have stat:∀{H':Hp},(∀b∈fp,H' b=none)->∀b∈fp,QM (yg X N scope cl y P2.objs.size fp pins s2 H2) [] H' b:=fun {H'} hn b hb=>by
  obtain⟨o,e⟩:=ho b hb
  have lt:=Heap.lt_size e
  refine⟨hn b hb,?_,fun z=>(List.mem_cons.mp (I2.stkSub b z)).elim (f2 b hb).2.1 (f2 b hb).2.2.1,.inl hb,fun x c z=>?own,fun p hp=>?_⟩
  case own =>
   have z':List.lookup x ((y,P2.objs.size+1)::cl)=some c:=z
   rw [lookup_cons] at z'
   cases q:x==y with
   | true =>
    rw [q] at z'
    rw [<- Option.some.inj z',hC]
    exact ne_of_gt (lt_succ_of_lt (lt_succ_of_lt lt))
   | false =>
    rw [q] at z'
    exact(f2 b hb).2.2.2.2.1 x c (ok.sub x c z')
  ·show b≠P2.objs.size
   rw [hC]
   exact ne_of_lt (lt_succ_of_lt lt)
  ·have hp':p∈X.pn++pins:=by
    have:p∈(X.pn++pins)++[]:=hp
    simpa using this
   exact(f2 b hb).2.2.2.2.2 p hp'
 have loop:∀s₃:Shared,s₃={ s2 with heap:=h₁,toks:=s2.toks } ->
   codeAny (model X.prog X.w) X.A (.compLoop (.ListComp elt [⟨tg,iter,ifs,0⟩] scope pos) 0 (.ref it) (.ref s2.heap.objs.size) (compEnvC scope ((y,P2.objs.size+1)::cl) P2.objs.size X.env))
    (compPost (model X.prog X.w) X.A X.xe none (EP X pins σ Q) (.ref s2.heap.objs.size) P2.objs.size) s₃:=by
  rintro s₃ rfl
  refine codeAny_loop rfl (fun n s'=>∃i σ' H',Inv (yg X N scope cl y P2.objs.size fp pins s2 H2) [] σ' H' s'/\tn i s'.heap/\(∀b∈fp,H' b=none)/\W i n σ' H') ?_ m0 ⟨0,_,_,I0,st0,fr0,w0⟩
  rintro n s3 ⟨i,σ3,H3,I3,st3,fr3,w3⟩
  show wpAny _ X.A ((compTurn (.ListComp elt [⟨tg,iter,ifs,0⟩] scope pos) 0 (.ref it) (.ref s2.heap.objs.size) (compEnvC scope ((y,P2.objs.size+1)::cl) P2.objs.size X.env)).onRaise (fun x=>do noteFrame x (compEnvC scope ((y,P2.objs.size+1)::cl) P2.objs.size X.env);theTreesLotGoes x)) _ _ s3
  refine wpAny_noted ?_
  rw [compTurn_list]
  rcases turn i n σ3 H3 w3 with ⟨stop,qn⟩ | ⟨go,N',hN,step⟩
  ·refine wpAny_bind (wpAny_standAt (wpAny_bind (thn (T.done (yg X N scope cl y P2.objs.size fp pins s2 H2) rfl rfl rfl hcalm i [] s3 σ3 H3 _ I3 (stat fr3) st3 stop) fun r s4 ⟨hr,I4⟩=>?_)))
   subst hr
   refine wpAny_pure ?_
   obtain⟨m,hm,_⟩:=I4.loc
   refine⟨m,hm,fun h' sb=>⟨.ref s2.heap.objs.size,H3,?_,rfl,qn⟩⟩
   have un:Un (frs X.stack) fp H2 H3 s2.heap h':=Un.but I4.base (by show s2.heap.objs.size<=P2.objs.size;rw [hC];exact le_succ _) sb
   have hok:HOk X.prog X.w H3 h':=HOk.but I4.hok I4.free sb
   exact I2.call' (s':={ s4 with heap:=h' }) (ch:=fp) I4.os un hok I4.bare fun b hb=>⟨(f2 b hb).2.2.2.1,(f2 b hb).2.1,(f2 b hb).2.2.2.2.1,(f2 b hb).2.2.2.2.2⟩
  ·refine wpAny_bind (wpAny_standAt (wpAny_bind (thn (T.item (yg X N scope cl y P2.objs.size fp pins s2 H2) rfl rfl rfl hcalm i [] s3 σ3 H3 _ I3 (stat fr3) st3 go) fun r s4 ⟨u,hr,h4⟩=>?_)))
   subst hr
   dsimp only
   refine wpAny_bind (thn h4 fun _ s5 ⟨x,H5,I5,r5,y5,st5,fr5⟩=>?_)
   have I5':=I5.pinned (stat fr5) (T.obj _ _ st5)
   refine wpAny_bind (wpAny_mono (hg P2.objs.size fp pins s2 H2 _ s5 σ3 H5 x u _ I5' r5 (step x H5 y5)) (fun _ s6 ⟨σ6,H6,I6,q6⟩=>?_) fun _ _ z=>False.elim z)
   have again:∀{s7:Shared} {σ7:St} {H7:Hp},Inv (yg X N scope cl y P2.objs.size fp pins s2 H2) ([]++Qo fp s5.heap) σ7 H7 s7->N' σ7 H7->∃m,m<n/\∃i σ' H',Inv (yg X N scope cl y P2.objs.size fp pins s2 H2) [] σ' H' s7/\tn i s7.heap/\(∀b∈fp,H' b=none)/\W i m σ' H':=fun {s7 σ7 H7} I7 n7=>by
    obtain⟨m',hm,w7⟩:=hN σ7 H7 n7
    refine⟨m',hm,i+1,σ7,H7,I7.unpinned,T.keep _ _ _ st5 fun b hb o e=>(I7.pin (b,o) (mem_append_right _ (mem_append_right _ (jN hb e)))).1,fun b hb=>?_,w7⟩
    obtain⟨o,e,d⟩:=T.obj _ _ st5 b hb
    exact(I7.pin (b,o) (mem_append_right _ (mem_append_right _ (jN hb e)))).2.1
   refine wpAny_bind (wpAny_mono (hc P2.objs.size fp pins s2 H2 _ s6 σ6 H6 _ I6 q6) (fun b s7 ⟨H7,I7,q7⟩=>?_) fun _ _ z=>False.elim z)
   cases b with
   | false =>
    rw [if_neg Bool.false_ne_true] at q7
    exact wpAny_pure ⟨rfl,again I7 q7⟩
   | true =>
    rw [if_pos rfl] at q7
    refine wpAny_bind (wpAny_bind (wpAny_mono (he P2.objs.size fp pins s2 H2 _ s7 σ6 H7 _ I7 q7) (fun yv s8 ⟨v8,H8,I8,r8,ys,hys,hlen,q8⟩=>?_) fun _ _ z=>False.elim z))
    refine wpAny_bind (wpAny_mono (qY (X:=yg X N scope cl y P2.objs.size fp pins s2 H2) _ s8 σ6 H8 (.ref s2.heap.objs.size) [v8] (.ref s2.heap.objs.size) [yv] (fun _ H9=>N' σ6 H9) I8 rfl (.cons r8 .nil) ⟨_,ys,v8,rfl,rfl,hys,hlen,q8⟩) (fun _ s9 ⟨v9,H9,I9,_,q9⟩=>?_) fun _ _ z=>False.elim z)
    exact wpAny_pure (wpAny_pure ⟨rfl,again I9 q9⟩)
 exact codeAny_compStart_list (loop _ rfl) (T.self _ 0 _ _ _ st0 (loop _ rfl))
end
section
variable {X:Cx}{K:PySem.W.Frag}
theorem zdu (hK:X.K=K)(hc:X.calm=true):yr X (.builtin "any") (fun xs H Q=>∃(l:Addr) (bs:List Bool),xs=[.ref l]/\SqL K H l (bs.map V.bl)/\Q (.bl (bs.any id)) H):=by
 subst hK
 exact zfs hc
theorem zfu {tg l:Expr}{tl:TE}(hK:X.K=K)(hl:PE X l tl):PI X tg l (zmM K tl):=by
 subst hK
 exact zT hl
end
section
variable {X:Cx}
theorem zkj:MtM X "list.count" (fun x vs H Q=>∃(l:Addr) (ts:List Str) (y:Str),x=.ref l/\vs=[.str y]/\H l=some (.lst (ts.map V.str))/\Q (.int ((ts.countP fun t=>t==y:Nat):Int)) H):=by
 intro pins s σ H x vs v us Q I rx rv h
 obtain⟨l,ts,y,rfl,rfl,hH,q⟩:=h
 cases rx
 obtain⟨u,rfl,t,rfl⟩:=rv.one
 obtain⟨z,its,n,r,hl,e⟩:=I.lstM hH
 have hv:∃f:Value->Bool,(∀w∈its,∃a k,w=.str a k/\f w=(a==y))/\its.countP f=ts.countP fun t=>t==y:=by
  refine⟨fun w=>match w with | .str a _=>a==y | _=>false,?_⟩
  clear hl e z hH q
  generalize ew:ts.map V.str=ws at r
  induction r generalizing ts with
  | nil =>
   cases ts with
   | nil=>exact⟨(fun _ h=>nomatch h),rfl⟩
   | cons a b=>cases ew
  | cons r1 r2 ih =>
   cases ts with
   | nil=>cases ew
   | cons a b =>
    rw [map_cons] at ew
    obtain⟨e1,e2⟩:=List.cons.inj ew
    subst e1
    obtain⟨k,rfl⟩:=r1
    obtain⟨h1,h2⟩:=ih b e2
    refine⟨fun w hw=>?_,?_⟩
    ·rcases List.mem_cons.mp hw with rfl | hw
     ·exact⟨a,k,rfl,rfl⟩
     ·exact h1 w hw
    ·rw [countP_cons,countP_cons,h2]
 obtain⟨f,hf,hc⟩:=hv
 refine call_meets F.slot_list_count ⟨_,e,rfl⟩ F.entry_list_count (F.args_list_count_2 _ _) (PySem.SeqAt.list_countAt l its.toArray n none #[] (.str y t) f) ⟨e,fun w hw=>?_,?_⟩
 ·obtain⟨a,k,rfl,h2⟩:=hf w (by simpa using hw)
  rw [h2]
  exact PySem.SeqAt.EqAt.str_str a k y t
 ·refine⟨.int _,H,I.tok _,⟨_,rfl⟩,?_⟩
  show Q (.int ((its.countP f:Nat):Int)) H
  rw [hc]
  exact q
end
theorem zdv:∀{ts:List Str} {its:List Value},Vals (ts.map V.str) its->StrsAre its ts
 | [],_,.nil=>.nil
 | t::_,_,.cons ⟨k,e⟩ h=>by
  subst e
  exact .cons t k (zdv h)
section
variable {X:Cx}
def rJoin (K:PySem.W.Frag):V->List V->Hp->VK->Prop:=fun x xs H Q=>∃(z:Str) (l:Addr) (ts:List Str),x=.str z/\xs=[.ref l]/\SqL K H l (ts.map V.str)/\(ts.map (·.length)).sum+ts.length*z.length<=16777216/\Q (.str (Str.join z ts)) H
theorem zer:MtR X "str.join" (rJoin X.K):=by
 intro pins s σ H x xs v us Q I rx rv h
 obtain⟨z,l,ts,rfl,rfl,hl,hsz,q⟩:=h
 obtain⟨tk,rfl⟩:=rx
 obtain⟨u,rfl,r⟩:=rv.one
 cases r
 obtain⟨its,rv2,p,hz⟩:=I.list hl
 refine join_list (ys:=ts) p.isList (by simpa using zdv rv2) hsz fun t' k=>⟨.str (Str.join z ts),H,I.tok k,⟨t',?_⟩,q⟩
 rw [show Txt.join z ts=Str.join z ts from StrLaws.glued_eq_join z ts]
end
theorem zgX {α:Type}(d:α)(xs:List α):((List.range xs.length).map fun i=>xs.getD i d)=xs:=by
 refine List.ext_getElem (by simp) fun i h1 h2=>?_
 simp [h2]
theorem zic (p:Int×Int):lt2 p p=false:=by
 unfold lt2
 rw [if_pos rfl,decide_eq_false (by omega)]
theorem zbu {p q:Int×Int}(h:p≠q):lt2 q p=!lt2 p q:=by
 unfold lt2
 obtain⟨a,b⟩:=p
 obtain⟨c,d⟩:=q
 simp only
 by_cases e:a=c
 ·subst e
  rw [if_pos rfl,if_pos rfl]
  have hb:b≠d:=fun z=>h (by rw [z])
  by_cases l:b<d
  ·rw [decide_eq_true l,decide_eq_false (by omega)]
   rfl
  ·rw [decide_eq_false l,decide_eq_true (by omega)]
   rfl
 ·rw [if_neg e,if_neg (fun z=>e z.symm)]
  by_cases l:a<c
  ·rw [decide_eq_true l,decide_eq_false (by omega)]
   rfl
  ·rw [decide_eq_false l,decide_eq_true (by omega)]
   rfl
theorem zgY {p q r:Int×Int}(h1:lt2 p q=true)(h2:lt2 q r=true):lt2 p r=true:=by
 unfold lt2 at *
 obtain⟨a,b⟩:=p
 obtain⟨c,d⟩:=q
 obtain⟨e,f⟩:=r
 simp only at *
 by_cases e1:a=c
 ·subst e1
  rw [if_pos rfl,decide_eq_true_eq] at h1
  by_cases e2:a=e
  ·subst e2
   rw [if_pos rfl,decide_eq_true_eq] at h2 ⊢
   omega
  ·rw [if_neg e2] at h2 ⊢
   exact h2
 ·rw [if_neg e1,decide_eq_true_eq] at h1
  by_cases e2:c=e
  ·subst e2
   rw [if_neg e1,decide_eq_true_eq]
   exact h1
  ·rw [if_neg e2,decide_eq_true_eq] at h2
   rw [if_neg (by omega),decide_eq_true_eq]
   omega
def Up2 (ps:List (Int×Int)):Prop:=ps.Pairwise fun p q=>lt2 p q=true
section
variable {X:Cx}
end
end L2
namespace PySem.SeqAt
open L2 AutoSeq1 MeetsSeq MeetsSeq2 MeetsSeq3
def Qt (A:Around)(s:Shared)(y x:Value)(b:Bool):Prop:=∀(prog:Program) (w:World) (E:Value->Shared->Prop) (Q:Value->Shared->Prop),Q (.bool b) s->wpAny (model prog w) A (richCompare .Lt y x) Q E s
theorem Qt.int_int {A:Around}{s:Shared}(a:Int)(t:Tok)(b:Int)(u:Tok):Qt A s (.int a t) (.int b u) (decide (a<b)):=fun prog w E Q h=>wpAny_lt_int h
theorem zgZ (l b:Addr)(x y x2 y2:Int)(t u t2 u2:Tok)(n n2:Nat)(dd dd2:Option Addr)(sl sl2:Array (Option Value)) :
  Meets (Builtin.«tuple.__lt__» ⟨[.ref l,.ref b],[]⟩)
   (fun _ R s=>s.heap.get? l=some { cls:=.type "tuple",dict:=dd,data:=.seq #[.int x t,.int y u] n,slots:=sl }/\s.heap.get? b=some { cls:=.type "tuple",dict:=dd2,data:=.seq #[.int x2 t2,.int y2 u2] n2,slots:=sl2 } /\
    R (.ok (.ret (.bool (lt2 (x,y) (x2,y2))))) s) :=
 .of_wp fun prog w A R s h=>by
  obtain⟨hp1,g1,d1,tk1,os1⟩:=s
  obtain⟨hL,hB,h⟩:=h
  have fT:=sub_tuple_tuple
  wp_walk using wpAny_loadPart' hL,wpAny_loadPart' hB
  refine EqAt.int_int x t x2 t2 prog w _ _ ?_
  unfold lt2 at h
  by_cases e:x=x2
  ·have e':(x==x2)=true:=by simpa using e
   rw [e']
   rw [if_pos e] at h
   wp_walk
   refine EqAt.int_int y u y2 u2 prog w _ _ ?_
   by_cases e2:y=y2
   ·have e2':(y==y2)=true:=by simpa using e2
    rw [e2']
    rw [decide_eq_false (by show ¬ y<y2;omega)] at h
    wp_walk
    exact⟨_,rfl,h⟩
   ·have e2':(y==y2)=false:=by simpa using e2
    rw [e2']
    simp only [Bool.not_false,if_true]
    refine wpAny_bind (wpAny_rule (wpAny_bind (Qt.int_int y u y2 u2 prog w _ _ ?_)))
    wp_walk
    exact⟨_,rfl,h⟩
  ·have e':(x==x2)=false:=by simpa using e
   rw [e']
   rw [if_neg e] at h
   simp only [Bool.not_false,if_true]
   refine wpAny_bind (wpAny_rule (wpAny_bind (Qt.int_int x t x2 t2 prog w _ _ ?_)))
   wp_walk
   exact⟨_,rfl,h⟩
theorem Qt.pairs {A:Around}{s:Shared}{v v':Value}{p q:Int×Int}(hv:zE s.heap v p)(hv':zE s.heap v' q)(hu:A.units<cLine):Qt A s v v' (lt2 p q):=fun prog w E Q h=>by
 obtain⟨a,⟨cls,dd,data,sl⟩,n,t,u,rfl,e1,c1,d1⟩:=hv
 obtain⟨a',⟨cls2,dd2,data2,sl2⟩,n',t',u',rfl,e1',c1',d1'⟩:=hv'
 simp only at c1 d1 c1' d1'
 subst c1 d1 c1' d1'
 exact richCompare_meets_room (op:=.Lt) ⟨_,e1,rfl⟩ ⟨_,e1',rfl⟩ F.slot_tuple_lt F.entry_tuple_lt (F.args_tuple_lt_2 _ _) (zgZ a a' p.1 p.2 q.1 q.2 t u t' u' n n' dd dd2 sl sl2)
  ⟨e1,e1',show Value.bool (lt2 p q)≠Value.notImplemented/\Q (.bool (lt2 p q)) s from ⟨(fun x=>nomatch x),h⟩⟩ hu
theorem Qe {h:Heap}{v:Value}{p:Int×Int}(hv:zE h v p):∃as,Reads h v (.tuple [.int p.1,.int p.2]) as:=by
 obtain⟨a,o,n,t,u,rfl,e1,c1,d1⟩:=hv
 exact⟨_,.tuple e1 c1 d1 (.cons (.int _ _) (.cons (.int _ _) .nil))⟩
theorem zdw (p q:Int×Int):PyData.eqv (.tuple [.int p.1,.int p.2]) (.tuple [.int q.1,.int q.2])=decide (p=q):=by
 obtain⟨a,b⟩:=p
 obtain⟨c,d⟩:=q
 show ((a==c)&&((b==d)&&true))=_
 by_cases h1:a=c
 ·by_cases h2:b=d
  ·subst h1 h2
   simp
  ·simp [h2]
 ·simp [h1]
end PySem.SeqAt
namespace L2
open PySem PySem.Spec PyProof.Rows PySem.W PySem.SeqAt
section
variable {X:Cx}{pins:List (Addr×Obj)}{σ:St}{H:Hp}{s:Shared}
end
section
variable {X:Cx}
end
open PySem PySem.Spec PyProof.Rows
section
variable {κ:Type} [DecidableEq κ]
noncomputable def xF (kvs:List (κ × V))(k:κ):Option V:=(kvs.find? fun kv=>decide (kv.1=k)).map (·.2)
noncomputable def putK (kvs:List (κ × V))(k:κ)(v:V):List (κ × V) :=
 if (kvs.any fun kv=>decide (kv.1=k))=true then kvs.map (fun kv=>if kv.1=k then (kv.1,v) else kv) else kvs++[(k,v)]
theorem jQ {p:κ × V}{r:List (κ × V)}{k:κ}(e:p.1=k):xF (p::r) k=some p.2:=by simp [xF,find?_cons,e]
theorem jR {p:κ × V}{r:List (κ × V)}{k:κ}(e:¬ p.1=k):xF (p::r) k=xF r k:=by simp [xF,find?_cons,e]
theorem Q3 (k:κ):∀kvs:List (κ × V),(kvs.any fun kv=>decide (kv.1=k))=(xF kvs k).isSome
 | []=>rfl
 | p::r=>by
  rw [any_cons]
  by_cases e:p.1=k
  ·simp only [jQ e,decide_eq_true e,Bool.true_or,Option.isSome_some]
  ·rw [jR e,decide_eq_false e,Bool.false_or];exact Q3 k r
theorem zfv (k j:κ)(y:V):∀kvs:List (κ × V),xF (kvs.map fun kv=>if kv.1=k then (kv.1,y) else kv) j=(xF kvs j).map fun x=>if j=k then y else x
 | []=>rfl
 | p::r=>by
  have ih:=zfv k j y r
  rw [map_cons]
  by_cases h:p.1=k
  ·rw [if_pos h]
   by_cases e:p.1=j
   ·rw [jQ (p:=(p.1,y)) e,jQ e,map_some,if_pos (e.symm.trans h)]
   ·rw [jR (p:=(p.1,y)) e,jR e,ih]
  ·rw [if_neg h]
   by_cases e:p.1=j
   ·rw [jQ (p:=p) e,jQ e,map_some,if_neg (fun z=>h (e.trans z))]
   ·rw [jR (p:=p) e,jR e,ih]
theorem zdx (k j:κ)(y:V):∀kvs:List (κ × V),xF kvs k=none->xF (kvs++[(k,y)]) j=if j=k then some y else xF kvs j
 | [],_=>by
  by_cases e:k=j
  ·rw [if_pos e.symm];exact jQ (p:=(k,y)) e
  ·rw [if_neg (fun z=>e z.symm)];exact jR (p:=(k,y)) e
 | p::r,hn=>by
  rw [List.cons_append]
  have hk:¬ p.1=k:=fun z=>by rw [jQ z] at hn;cases hn
  rw [jR hk] at hn
  have ih:=zdx k j y r hn
  by_cases e:p.1=j
  ·rw [jQ e,jQ e,if_neg (fun z=>hk (e.trans z))]
  ·rw [jR e,jR e,ih]
theorem zfw (kvs:List (κ × V))(k j:κ)(y:V):xF (putK kvs k y) j=if j=k then some y else xF kvs j:=by
 unfold putK
 by_cases a:(kvs.any fun kv=>decide (kv.1=k))=true
 ·rw [if_pos a,zfv]
  rw [Q3] at a
  by_cases e:j=k
  ·obtain⟨x,hx⟩:=Option.isSome_iff_exists.mp a
   rw [if_pos e,e,hx,map_some,if_pos rfl]
  ·rw [if_neg e]
   cases xF kvs j with
   | none=>rfl
   | some x=>rw [map_some,if_neg e]
 ·rw [if_neg a]
  refine zdx k j y kvs ?_
  rw [Q3] at a
  cases q:xF kvs k with
  | none=>rfl
  | some x=>rw [q] at a;exact(a rfl).elim
theorem za7 (kvs:List (κ × V))(k:κ)(v:V):(putK kvs k v).length<=kvs.length+1:=by
 unfold putK
 split
 ·rw [length_map];omega
 ·rw [length_append,length_cons,length_nil];omega
theorem zbF.isSome_eq {o:Option V}{u:Option Value}(r:zbF o u):o.isSome=u.isSome:=by
 cases o with
 | none=>cases u with
  | none=>rfl
  | some _=>exact(show False from r).elim
 | some _=>cases u with
  | none=>exact(show False from r).elim
  | some _=>rfl
theorem KV.val {kvs:List (κ × V)}{vs:List (κ × Value)}(r:KV kvs vs)(k:κ):zbF (xF kvs k) (valueAt vs k):=by
 unfold KV at r
 induction r with
 | nil=>exact True.intro
 | @cons p q ps qs h t ih =>
  obtain⟨h1,h2⟩:=h
  by_cases e:p.1=k
  ·have e':q.1=k:=h1.symm.trans e
   have b:valueAt (q::qs) k=some q.2:=by simp [valueAt,find?_cons,e']
   rw [jQ e,b];exact h2
  ·have e':¬ q.1=k:=fun z=>e (h1.trans z)
   have b:valueAt (q::qs) k=valueAt qs k:=by simp [valueAt,find?_cons,e']
   rw [jR e,b];exact ih
theorem KV.any {kvs:List (κ × V)}{vs:List (κ × Value)}(r:KV kvs vs)(k:κ):(kvs.any fun kv=>decide (kv.1=k))=vs.any fun kv=>decide (kv.1=k):=by
 unfold KV at r
 induction r with
 | nil=>rfl
 | cons h t ih=>rw [any_cons,any_cons,ih,h.1]
theorem KV.repl {kvs:List (κ × V)}{vs:List (κ × Value)}(r:KV kvs vs)(k:κ){y:V}{u:Value}(ry:RelV y u) :
  KV (kvs.map fun kv=>if kv.1=k then (kv.1,y) else kv) (vs.map fun kv=>if kv.1=k then (kv.1,u) else kv):=by
 unfold KV at r ⊢
 induction r with
 | nil=>exact .nil
 | @cons p q ps qs h t ih =>
  rw [map_cons,map_cons]
  refine .cons ?_ ih
  obtain⟨h1,h2⟩:=h
  by_cases e:p.1=k
  ·rw [if_pos e,if_pos (h1.symm.trans e)];exact⟨h1,ry⟩
  ·rw [if_neg e,if_neg (fun z=>e (h1.trans z))];exact⟨h1,h2⟩
theorem KV.put {kvs:List (κ × V)}{vs:List (κ × Value)}(r:KV kvs vs)(k:κ){y:V}{u:Value}(ry:RelV y u):KV (putK kvs k y) (stored vs k u):=by
 unfold putK stored
 rw [r.any k]
 by_cases e:(vs.any fun kv=>decide (kv.1=k))=true
 ·rw [if_pos e,if_pos e];exact r.repl k ry
 ·rw [if_neg e,if_neg e];exact Paired.snoc r ⟨rfl,ry⟩
theorem KV.length {kvs:List (κ × V)}{vs:List (κ × Value)}(r:KV kvs vs):kvs.length=vs.length:=Paired.length r
end
theorem zkk {P:Program}{w:World}{k:Key}{u:Value}(r:RelV (kV k) u):(zY P w).is k u=true:=by
 cases k with
 | inl i=>obtain⟨t,e⟩:=(show ∃t,u=Value.int i t from r);subst e;exact zfd P w i t
 | inr x=>obtain⟨t,e⟩:=(show ∃t,u=Value.str x t from r);subst e;exact zfe P w x t
theorem zdy {P:Program}{w:World}:∀{ks:List Key} {us:List Value},Vals (ks.map kV) us->ItemsAre (zY P w) ks us
 | [],_,r=>by rw [List.map_nil] at r;cases r;exact .nil
 | k::ks,_,r=>by
  rw [map_cons] at r
  cases r with
  | cons h t=>exact .cons (zkk h) (zdy t)
abbrev KT (H:Hp):List (List Key×V)->List (List Key×Addr×Value)->Prop:=Paired fun p q=>p.1=q.1/\H q.2.1=some (.tup (p.1.map kV))/\RelV p.2 q.2.2
theorem KT.val {H:Hp}{kvs:List (List Key×V)}{xs:List (List Key×Addr×Value)}(r:KT H kvs xs)(k:List Key):zbF (xF kvs k) ((atKey xs k).map (·.2)):=by
 induction r with
 | nil=>exact True.intro
 | @cons p q ps qs h t ih =>
  obtain⟨h1,_,h2⟩:=h
  by_cases e:p.1=k
  ·have e':q.1=k:=h1.symm.trans e
   have b:atKey (q::qs) k=some q.2:=by simp [atKey,find?_cons,e']
   rw [jQ e,b];exact h2
  ·have e':¬ q.1=k:=fun z=>e (h1.trans z)
   have b:atKey (q::qs) k=atKey qs k:=by simp [atKey,find?_cons,e']
   rw [jR e,b];exact ih
theorem KT.repl {H:Hp}{kvs:List (List Key×V)}{xs:List (List Key×Addr×Value)}(r:KT H kvs xs)(k:List Key){y:V}{u:Value}(ry:RelV y u) :
  KT H (kvs.map fun kv=>if kv.1=k then (kv.1,y) else kv) (xs.map (putAt k u)):=by
 induction r with
 | nil=>exact .nil
 | @cons p q ps qs h t ih =>
  rw [map_cons,map_cons]
  refine .cons ?_ ih
  obtain⟨h1,h2,h3⟩:=h
  unfold putAt
  by_cases e:p.1=k
  ·rw [if_pos e,if_pos (h1.symm.trans e)];exact⟨h1,h2,ry⟩
  ·rw [if_neg e,if_neg (fun z=>e (h1.trans z))];exact⟨h1,h2,h3⟩
theorem KT.put {H:Hp}{kvs:List (List Key×V)}{xs:List (List Key×Addr×Value)}(r:KT H kvs xs)(k:List Key){b:Addr}{y:V}{u:Value}(hb:H b=some (.tup (k.map kV)))(ry:RelV y u) :
  KT H (putK kvs k y) (storedH xs k b u):=by
 have e:(kvs.any fun kv=>decide (kv.1=k))=(atKey xs k).isSome:=by
  rw [Q3,(r.val k).isSome_eq,Option.isSome_map]
 unfold putK storedH
 rw [e]
 by_cases q:(atKey xs k).isSome=true
 ·rw [if_pos q,if_pos q];exact r.repl k ry
 ·rw [if_neg q,if_neg q];exact Paired.snoc r ⟨rfl,hb,ry⟩
theorem KT.keeps {H H':Hp}{kvs:List (List Key×V)}{xs:List (List Key×Addr×Value)}(r:KT H kvs xs)(ht:∀b ys,H b=some (.tup ys)->H' b=some (.tup ys)):KT H' kvs xs :=
 Paired.mapP r fun _ _ z=>⟨z.1,ht _ _ z.2.1,z.2.2⟩
section
variable {P:Program}{w:World}{H:Hp}{h:Heap}{a:Addr}
theorem zmO {u:HO}(ok:HOk P w H h)(e:Rd H a u):jc P w H h a u:=e.ok ok
theorem zkl {kvs:List (Key×V)}(ok:HOk P w H h)(e:Rd H a (.dK kvs)):kvs.length<=sizeLine/\(a==sysModules)=false/\∃vs,KV kvs vs/\h.DictOf (zY P w) a vs :=
 show jc P w H h a (.dK kvs) from zmO ok e
theorem zor {kvs:List (Key×V)}(ok:HOk P w H h)(e:H a=some (.dK kvs)):kvs.length<=sizeLine/\(a==sysModules)=false/\∃vs,KV kvs vs/\h.DictOf (zY P w) a vs:=zkl ok (.inl e)
theorem zes {ks:List Key}(ok:HOk P w H h)(e:H a=some (.tup (ks.map kV))):(tupleKind (zY P w)).is h ks a:=by
 obtain⟨_,its,r,o,h1,h2,n,h3⟩:=(show jc P w H h a (.tup (ks.map kV)) from ok a _ e)
 exact⟨o,its.toArray,n,h1,h2,h3,by simpa using zdy r⟩
theorem zkm {kvs:List (List Key×V)}(ok:HOk P w H h)(e:Rd H a (.dT kvs)):kvs.length<=sizeLine/\(a==sysModules)=false /\
  ∃xs,KT H kvs xs/\h.DictOfH (tupleKind (zY P w)) a xs:=by
 obtain⟨z,y,xs,r,o,es,ep,h1,h2,h3,h4,h5⟩:=(show jc P w H h a (.dT kvs) from zmO ok e)
 refine⟨z,y,xs,r,o,es,ep,h1,h2,h3,h4,fun x hx=>?_,h5⟩
 have all:∀{l:List (List Key×V)} {m:List (List Key×Addr×Value)},KT H l m->∀x∈m,(tupleKind (zY P w)).is h x.1 x.2.1:=by
  intro l m q
  induction q with
  | nil=>intro x hx;exact nomatch hx
  | @cons p q ps qs hq t ih =>
   intro x hx
   rcases List.mem_cons.mp hx with e | hx
   ·subst e
    exact zes ok (by rw [<- hq.1];exact hq.2.1)
   ·exact ih x hx
 exact all r x hx
theorem zos {kvs:List (List Key×V)}(ok:HOk P w H h)(e:H a=some (.dT kvs)):kvs.length<=sizeLine/\(a==sysModules)=false /\
  ∃xs,KT H kvs xs/\h.DictOfH (tupleKind (zY P w)) a xs:=zkm ok (.inl e)
end
def zja (H:Hp)(a:Addr)(y:V)(r:Option V):Prop :=
 (∃kvs k,Rd H a (.dK kvs)/\y=kV k/\r=xF kvs k)\/∃kvs k b,Rd H a (.dT kvs)/\y=.ref b/\H b=some (.tup (k.map kV))/\r=xF kvs k
def zkn (H:Hp)(a:Addr)(y v:V)(H':Hp):Prop :=
 (∃kvs k,H a=some (.dK kvs)/\y=kV k/\kvs.length<sizeLine/\H'=upd H a (.dK (putK kvs k v))) \/
 ∃kvs k b,H a=some (.dT kvs)/\y=.ref b/\H b=some (.tup (k.map kV))/\kvs.length<sizeLine/\H'=upd H a (.dT (putK kvs k v))
theorem zja.t {H:Hp}{a b:Addr}{kvs:List (List Key×V)}{k:List Key}(e:H a=some (.dT kvs))(eb:H b=some (.tup (k.map kV))):zja H a (.ref b) (xF kvs k):=.inr ⟨kvs,k,b,.inl e,rfl,eb,rfl⟩
theorem zkn.t {H:Hp}{a b:Addr}{kvs:List (List Key×V)}{k:List Key}{v:V}(e:H a=some (.dT kvs))(eb:H b=some (.tup (k.map kV)))(hl:kvs.length<sizeLine) :
  zkn H a (.ref b) v (upd H a (.dT (putK kvs k v))):=.inr ⟨kvs,k,b,e,rfl,eb,hl,rfl⟩
section
variable {X:Cx}{pins:List (Addr×Obj)}{σ:St}{H:Hp}{s:Shared}{a:Addr}{y v:V}{u r:Value}{o:Option V}{A:Around}{E:Value->Shared->Prop}
theorem Inv.big (I:Inv X pins σ H s):sysModules<s.heap.objs.size:=by
 have h:mainGlobals<s.heap.objs.size:=(I.mod.glob.keeps I.bk).lt
 exact Nat.lt_trans (by decide) h
theorem zjb {Q:Value->Shared->Prop}(hu:A.units+1<cLine)(I:Inv X pins σ H s)(g:zja H a y (some v))(ry:RelV y u)(h:∀w' s',Inv X pins σ H s'->RelV v w'->Q w' s') :
  wpAny (model X.prog X.w) A (getItem (.ref a) u) Q E s:=by
 rcases g with ⟨kvs,k,e,ey,l⟩ | ⟨kvs,k,b,e,ey,eb,l⟩
 ·subst ey
  obtain⟨z,hd,vs,rel,dd⟩:=zkl I.hok e
  obtain⟨w',hw,rw'⟩:=zbF.some_of (v:=v) (o:=valueAt vs k) (by rw [l];exact rel.val k)
  exact wpAny_getItem_of (zkk ry) dd.mapOf hw (h w' _ (I.tok _) rw')
 ·subst ey
  cases (show u=Value.ref b from ry)
  obtain⟨z,hd,xs,rel,dd⟩:=zkm I.hok e
  obtain⟨w',hw,rw'⟩:=zbF.some_of (v:=v) (o:=(atKey xs k).map (·.2)) (by rw [l];exact rel.val k)
  obtain⟨p,hp,hp2⟩:=Option.map_eq_some_iff.mp hw
  refine wpAny_getItem_heap (tupleKind_room_in1 hu) (zes I.hok eb) dd hp ?_
  rw [hp2]
  exact h w' _ (I.tok _) rw'
theorem zid {h':Heap}{t':Nat}{ob:HO}(I:Inv X pins σ H s)(mu:Mut (H a))(hs:Heap.SameBut a s.heap h')(he:∃q,h'.get? a=some q)(new:jc X.prog X.w (upd H a ob) h' a ob) :
  Inv X pins σ (upd H a ob) { s with heap:=h',toks:=t' } :=
 I.write (x:=a) (e:=a) mu (.inl rfl) (fun b q hb z=>(hs.2 b hb).trans z) he new
theorem zny {P:Program}{w:World}{H':Hp}{h':Heap}{kvs:List (Key×V)}{vs:List (Key×Value)}(z:kvs.length<=sizeLine)(hd:(a==sysModules)=false)(rel:KV kvs vs)(dd:h'.DictOf (zY P w) a vs) :
  jc P w H' h' a (.dK kvs):=⟨z,hd,vs,rel,dd⟩
theorem zjc {H':Hp}{Q:Unit->Shared->Prop}(hu:A.units+1<cLine)(I:Inv X pins σ H s)(g:zkn H a y v H')(ry:RelV y u)(rv:RelV v r)(h:∀s',Inv X pins σ H' s'->Q () s') :
  wpAny (model X.prog X.w) A (setItem (.ref a) u r) Q E s:=by
 rcases g with ⟨kvs,k,e,ey,l,eH⟩ | ⟨kvs,k,b,e,ey,eb,l,eH⟩
 ·subst ey eH
  obtain⟨z,hd,vs,rel,dd⟩:=zor I.hok e
  have hz:vs.length<=sizeLine:=by rw [<- rel.length];exact z
  have hl:(putK kvs k v).length<=sizeLine:=by have:=za7 kvs k v;omega
  refine wpAny_setItem_pairs (hsz:=hz) (zkk ry) dd fun h' dd' hs=>h _ ?_
  have he:∃q,h'.get? a=some q:=let ⟨q,_,_,hq,_⟩:=dd';⟨q,hq⟩
  exact zid I (by rw [e];exact True.intro) hs he (zny hl hd (rel.put k rv) dd')
 ·subst ey eH
  cases (show u=Value.ref b from ry)
  obtain⟨z,hd,xs,rel,dd⟩:=zos I.hok e
  have hz:xs.length<=sizeLine:=by rw [<- Paired.length rel];exact z
  have hl:(putK kvs k v).length<=sizeLine:=by have:=za7 kvs k v;omega
  refine wpAny_setItem_heap (hsz:=hz) (tupleKind_room_in1 hu) (zes I.hok eb) dd fun h' dd' hs=>h _ ?_
  obtain⟨q,es,ep,hq,h2,h3,h4,_,h5⟩:=dd'
  refine zid I (by rw [e];exact True.intro) hs ⟨q,hq⟩ ⟨hl,hd,_,(rel.put k eb rv).keeps fun c ys ec=>?_,q,es,ep,hq,h2,h3,h4,h5⟩
  rw [zj (zff ec e (fun z=>nomatch z))]
  exact ec
end
section
variable {X:Cx}{pins:List (Addr×Obj)}{σ:St}{H:Hp}{s:Shared}{a:Addr}{kvs:List (Key×V)}{k:Key}{u:Value}{A:Around}{E:Value->Shared->Prop}
end
def zot (i:Expr):Prop:=∀ov iv,subscripted i false ov iv=operate [ov,iv] (getItem ov iv)
theorem zl3 {prog:Program}{w:World}{A:Around}{E:Value->Shared->Prop}{s:Shared}{env:Env}{value slice:Expr}{pos:Pos}{T id:String}{Q:Value->Shared->Prop}
  (hl:typeLookup (.type T) "__getitem__"=pure (some (.builtin id))) (hs:zot slice)
  (h:wpAny (model prog w) A (eval value env) (fun o s₁=>wpAny (model prog w) A (eval slice env) (fun i s₂=>s₂.TypeIs o T/\wpAny (model prog w) A (getItem o i) Q E s₂) E s₁) E s) :
  wpAny (model prog w) A (eval (.Subscript value slice pos) env) Q E s:=by
 refine Subscript_ (wpAny_mono h (fun o s₁ h₁=>wpAny_mono h₁ (fun i s₂ h₂=>?_) fun _ _ x=>x) fun _ _ x=>x)
 obtain⟨hT,h₂⟩:=h₂
 unfold subscriptTail
 refine wpAny_bind ?_
 rw [getitemInPython_of_ne hT.not_modules]
 refine wpAny_bind (wpAny_specialOf hT hl ?_)
 have fin:wpAny (model prog w) A (subscripted slice false o i) (fun r s₃=>wpAny (model prog w) A (letTemporaryGo value o r >>= fun _=>pure r) Q E s₃) E s₂:=by
  rw [hs o i]
  exact wpAny_operating (wpAny_mono h₂ (fun r s₃ h₃=>wpAny_bind (wpAny_letTemporaryGo (wpAny_pure h₃))) fun _ _ x=>x)
 first
  | exact wpAny_pure (wpAny_bind fin)
  | exact wpAny_bind (wpAny_pure (wpAny_bind fin))
  | exact wpAny_bind fin
theorem zfx {X:Cx}{pins:List (Addr×Obj)}{σ:St}{H:Hp}{s:Shared}{a:Addr}{y:V}{o:Option V}(I:Inv X pins σ H s)(g:zja H a y o):s.TypeIs (.ref a) "dict":=by
 rcases g with ⟨kvs,k,e,_,_⟩ | ⟨kvs,k,b,e,_,_,_⟩
 ·obtain⟨_,_,vs,_,dd⟩:=zkl I.hok e
  exact dd.typeIs
 ·obtain⟨_,_,xs,_,dd⟩:=zkm I.hok e
  exact dd.typeIs
def zou (td ty:TE):TE:=fun σ H Q=>td σ H fun x H1=>ty σ H1 fun y H2=>∃a v,x=.ref a/\zja H2 a y (some v)/\Q v H2
def zov (td ty tv:TE):TS:=fun D σ H=>tv σ H fun v H1=>td σ H1 fun x H2=>ty σ H2 fun y H3=>∃a H4,x=.ref a/\zkn H3 a y v H4/\D.nx σ H4
section
variable {X:Cx}{o i e value:Expr}{pos pos' tpos:Pos}{td ty tv:TE}
theorem zl4 (hu:X.A.units+1<cLine)(ho:PE X o td)(hi:PE X i ty)(hs:zot i):PE X (.Subscript o i pos) (zou td ty):=by
 intro pins s σ H Q I h
 refine zl3 PySem.F.slot_dict_getitem.lookup hs (thn (ho pins s σ H _ I h) fun u s1 ⟨x,H1,I1,rx,q1⟩=>thn (hi pins s1 σ H1 _ I1 q1) fun iv s2 ⟨y,H2,I2,ry,a,v,ex,g,q2⟩=>?_)
 subst ex
 obtain rfl:u=Value.ref a:=rx
 exact⟨zfx I2 g,zjb hu I2 g ry fun w' s3 I3 rw'=>⟨v,H2,I3,rw',q2⟩⟩
theorem zl5 (hu:X.A.units+1<cLine)(ho:PE X o td)(hi:PE X i ty)(hv:PE X value tv)(hs:swapsWith value (some (.Subscript o i pos')) pos.line X.env=pure false) :
  PS X (.Assign [.Subscript o i pos'] value pos) (zov td ty tv):=by
 intro pins s σ H D I h
 refine wpAny_Assign_Subscript (thn (hv pins s σ H _ I h) fun r s1 ⟨v,H1,I1,rv,q1⟩=>thn (ho pins s1 σ H1 _ I1 q1) fun u s2 ⟨x,H2,I2,rx,q2⟩=>thn (hi pins s2 σ H2 _ I2 q2) fun iv s3 ⟨y,H3,I3,ry,a,H4,ex,g,q3⟩=>?_) hs
 subst ex
 obtain rfl:u=Value.ref a:=rx
 exact zjc hu I3 g ry rv fun s4 I4=>⟨σ,H4,I4,q3⟩
end
section
variable {X:Cx}{pos:Pos}
end
section
variable {X:Cx}{pins:List (Addr×Obj)}{σ:St}{H:Hp}{s:Shared}{a:Addr}{y d:V}{u r:Value}{o:Option V}{A:Around}{E:Value->Shared->Prop}
end
section
variable {X:Cx}{o e f:Expr}{apos cpos:Pos}{td ty tx:TE}
end
section
variable {X:Cx}{pins:List (Addr×Obj)}{σ:St}{H:Hp}{s:Shared}{a:Addr}{kvs:List (Key×V)}{A:Around}{E:Value->Shared->Prop}
end
section
variable {X:Cx}{pins:List (Addr×Obj)}{σ:St}{H:Hp}{s:Shared}{a:Addr}{y:V}{u:Value}{A:Around}{E:Value->Shared->Prop}
end
theorem zjd:typeLookup (.type "list") "keys"=pure none:=by rw [typeLookup_type,builtinLookup_eq_fast];kernel_rfl
theorem zje:typeLookup (.type "list") "__getattr__"=pure none:=by rw [typeLookup_type,builtinLookup_eq_fast];kernel_rfl
theorem zbO:isSubtype (.type "AttributeError") (.type "AttributeError")=pure true:=by rw [isSubtype_type];kernel_rfl
theorem zko (args:List Value):ownMembersOf (.type "AttributeError") args=#[unsetMember,unsetMember]:=rfl
theorem zg0:((Manifest.find? "AttributeError").elim false fun t=>t.mro.contains "StopIteration" || t.mro.contains "SystemExit")=false:=by decide +kernel
section
variable {prog:Program}{w:World}{A:Around}{E:Value->Shared->Prop}{h:Heap}{g:Array GenState}{d:Drawn}{t:Nat}{os:OsState}{a:Addr}{its:Array Value}{n:Nat}
theorem zkp {tk:Tok}{Q:Fin->Shared->Prop}(hx:h.get? a=some { cls:=.type "list",dict:=none,data:=.seq its n,slots:=#[] })(hh:A.handled=none)
  (he:∀h' t' e,(∀b o',h.get? b=some o'->h'.get? b=some o')->(⟨h',g,d,t',os⟩:Shared).TypeIs (.ref e) "AttributeError"->E (.ref e) ⟨h',g,d,t',os⟩) :
  wpAny (model prog w) A (Builtin.«object.__getattribute__» ⟨[.ref a,.str "keys" tk],[]⟩) Q E ⟨h,g,d,t,os⟩:=by
 have hT:(⟨h,g,d,t,os⟩:Shared).TypeIs (.ref a) "list":=⟨_,hx,rfl⟩
 have f4:=zjd
 have f5:=zbO
 repeat (any_goals (first | assumption | wp_step))
 unfold raiseAttrError
 refine wpAny_bind (wpAny_mkStr (wpAny_bind ?_) (by decide +kernel))
 unfold newExc newTuple
 refine wpAny_bind (wpAny_newObj_type ?_)
 refine wpAny_bind (m:=firstArgMember _ _) (wpAny_of_eq (a:=Value.none) (by simp only [firstArgMember,zg0];rfl) ?_)
 rw [zko]
 refine wpAny_newObj_type ?_
 refine wpAny_bind (wpAny_mkText ?_)
 refine wpAny_bind ?_
 unfold noteAttr lacksNameAndObj
 repeat (any_goals (first | assumption | wp_step))
 unfold raiseNew
 refine wpAny_bind (wpAny_handled ?_)
 rw [hh]
 refine wpAny_bind (wpAny_pure (wpAny_throw ?_))
 dsimp only
 refine he _ _ _ (fun b o' hb=>?_) ?_
 ·rw [(Heap.SameBut.update ..).2 b (ne_of_lt ?_)]
  ·exact Heap.get?_push_of_some _ (Heap.get?_push_of_some _ hb)
  ·rw [Heap.size_push]
   exact lt_succ_of_lt (Heap.lt_size hb)
 ·refine⟨_,Heap.get?_update_self _ (Heap.get?_push_size _ rfl) rfl,rfl⟩
theorem zl6 {tk:Tok}{R:Result->Shared->Prop}(hx:h.get? a=some { cls:=.type "list",dict:=none,data:=.seq its n,slots:=#[] })(hh:A.handled=none)
  (he:∀h' t' e,(∀b o',h.get? b=some o'->h'.get? b=some o')->(⟨h',g,d,t',os⟩:Shared).TypeIs (.ref e) "AttributeError"->R (.error (.ref e)) ⟨h',g,d,t',os⟩) :
  codeAny (model prog w) A (.call (.builtin "list.__getattribute__") ⟨[.ref a,.str "keys" tk],[]⟩) R ⟨h,g,d,t,os⟩ :=
 codeAny_call_builtin PySem.F.slot_list_getattribute.plain PySem.F.entry_list_ga (PySem.F.slot_list_getattribute.check _ _ _ _ _ _ _ _ (show (⟨h,g,d,t,os⟩:Shared).TypeIs (.ref a) "list" from ⟨_,hx,rfl⟩) (PySem.F.args_list_getattribute_2 _ _) (zkp hx (by simp [hh]) he))
theorem zow {tk:Tok}{Q:Value->Shared->Prop}(hx:h.get? a=some { cls:=.type "list",dict:=none,data:=.seq its n,slots:=#[] })(hh:A.handled=none)
  (he:∀h' t' e,(∀b o',h.get? b=some o'->h'.get? b=some o')->(⟨h',g,d,t',os⟩:Shared).TypeIs (.ref e) "AttributeError"->E (.ref e) ⟨h',g,d,t',os⟩) :
  wpAny (model prog w) A (getAttrBy (.ref a) (.str "keys" tk) false) Q E ⟨h,g,d,t,os⟩:=by
 have hT:(⟨h,g,d,t,os⟩:Shared).TypeIs (.ref a) "list":=⟨_,hx,rfl⟩
 have f2:=PySem.F.slot_list_getattribute.lookup
 have f3:=PySem.F.slot_list_getattribute.bind (.ref a)
 have f4:=zje
 have f5:=zbO
 repeat (any_goals (first | assumption | wp_step))
 refine zl6 hx (by simp [hh]) fun h' t' e kp hE=>?_
 repeat (any_goals (first | assumption | wp_step))
 exact he _ _ _ kp hE
theorem zl7 {Q:Option Value->Shared->Prop}(hx:h.get? a=some { cls:=.type "list",dict:=none,data:=.seq its n,slots:=#[] })(hh:A.handled=none)
  (hq:∀h' t',(∀b o',h.get? b=some o'->h'.get? b=some o')->Q none ⟨h',g,d,t',os⟩) :
  wpAny (model prog w) A (getAttr? (.ref a) "keys") Q E ⟨h,g,d,t,os⟩:=by
 have f5:=zbO
 unfold getAttr? getAttrBy?
 refine wpAny_bind (wpAny_mkText (wpAny_bind (wpAny_attempt ?_)))
 refine zow (t:=t+1) hx hh fun h' t' e kp hE=>?_
 repeat (any_goals (first | assumption | wp_step))
 exact hq _ _ kp
theorem Q4:entryFor table "dict.update.loop"=some Builtin.«dict.update.loop»:=entryFor_of_tree (by kernel_rfl)
theorem Jc:plainId "dict.update.loop"=true:=by decide +kernel
end
section
variable {prog:Program}{w:World}{A:Around}{R:Result->Shared->Prop}{I:Addr}{fp wr:List Addr}{G:Array GenState->Array GenState->Prop}{n:Nat}{P:Nat->Value->Prop}{St:Nat->Shared->Prop}
abbrev KQ:=List Key×Addr×Value
noncomputable def putAll (ks:List KQ):List KQ:=ks.foldl (fun acc q=>storedH acc q.1 q.2.1 q.2.2) []
theorem putAll_snoc (ks:List KQ)(q:KQ):putAll (ks++[q])=storedH (putAll ks) q.1 q.2.1 q.2.2:=by
 unfold putAll
 rw [List.foldl_append]
 rfl
theorem zfy (xs:List KQ)(k:List Key)(a:Addr)(v:Value):(storedH xs k a v).length<=xs.length+1:=by
 unfold storedH
 split
 ·rw [length_map]
  omega
 ·rw [length_append]
  exact le_refl _
theorem zbP (ks:List KQ):(putAll ks).length<=ks.length:=by
 suffices h:∀(ks acc:List KQ),(ks.foldl (fun acc q=>storedH acc q.1 q.2.1 q.2.2) acc).length<=acc.length+ks.length by
  have:=h ks []
  simpa [putAll] using this
 intro ks
 induction ks with
 | nil=>intro acc;exact le_refl _
 | cons q r ih =>
  intro acc
  have h1:=ih (storedH acc q.1 q.2.1 q.2.2)
  have h2:=zfy acc q.1 q.2.1 q.2.2
  rw [foldl_cons,length_cons]
  omega
theorem zet {A:Around}{E:Value->Shared->Prop}{s:Shared}{ta:Addr}{x y:Value}{Q:List Value->Shared->Prop}(h:IsTup s.heap ta #[x,y])(q:Q [x,y] s):wpAny (model prog w) A (Builtin.Dict.pairItems (.ref ta)) Q E s:=by
 obtain⟨o,h1,h2,n,h3⟩:=h
 have hT:s.TypeIs (.ref ta) "tuple":=⟨o,h1,h2⟩
 unfold Builtin.Dict.pairItems
 repeat (any_goals (first | assumption | wp_step))
 rw [h3]
 exact wpAny_pure (wpAny_pure q)
end
section
variable {prog:Program}{w:World}{A:Around}{R:Result->Shared->Prop}{I:Addr}{fp wr:List Addr}{G:Array GenState->Array GenState->Prop}{n:Nat}{P:Nat->Value->Prop}{St:Nat->Shared->Prop}
theorem za8 (T:List Key->Addr->Prop):∀(js acc:List KQ),(∀x∈acc,T x.1 x.2.1)->(∀x∈js,T x.1 x.2.1)->∀x∈js.foldl (fun acc q=>storedH acc q.1 q.2.1 q.2.2) acc,T x.1 x.2.1
 | [],_,ha,_=>ha
 | q::r,acc,ha,hj=>by
  rw [foldl_cons]
  refine za8 T r _ (fun x hx=>?_) fun x hx=>hj x (mem_cons_of_mem _ hx)
  unfold storedH at hx
  split at hx
  ·obtain⟨y,hy,rfl⟩:=List.mem_map.mp hx
   have:=ha y hy
   unfold putAt
   split
   ·exact this
   ·exact this
  ·rcases List.mem_append.mp hx with hx | hx
   ·exact ha x hx
   ·have e:x=(q.1,q.2.1,q.2.2):=by simpa using hx
    subst e
    exact hj q mem_cons_self
theorem zg1 {h0:Heap}(W:WalksS prog w A.in1 I fp wr G n P St)(D:Addr)(hDf:D ∉ fp)(hD0:h0.get? D=none)(hw0:∀b∈wr,h0.get? b=none)(ks:List KQ)(hlen:ks.length=n)(hb:n<=sizeLine)(hu:A.units+1<cLine)
  (hks:∀q∈ks,(tupleKind (zY prog w)).is h0 q.1 q.2.1) (hP:∀i v,P i v->∃ta q,v=.ref ta/\ks[i]?=some q/\IsTup h0 ta #[.ref q.2.1,q.2.2]) :
  ∀(k i:Nat) (s:Shared),n-i=k->i<=n->St i s->(∀b o,h0.get? b=some o->s.heap.get? b=some o)->s.heap.DictOfH (tupleKind (zY prog w)) D (putAll (ks.take i)) ->
   (∀s',Moved (D::wr) G s s'->s'.heap.DictOfH (tupleKind (zY prog w)) D (putAll ks)->R (.ok (.ret .none)) s') ->
   codeAny (model prog w) A (.builtin "dict.update.loop" ⟨[.ref D,.ref I,rawInt (i:Int),.none],[]⟩) R s:=by
 have hDw:D ∉ wr:=fun h=>hDf (W.sub _ h)
 have more:∀b∈wr,b∈D::wr:=fun b hb=>mem_cons_of_mem _ hb
 have tup_up:∀{h:Heap} {ta:Addr} {xs:Array Value},(∀b o,h0.get? b=some o->h.get? b=some o)->IsTup h0 ta xs->IsTup h ta xs:=fun kp ⟨o,h1,h2,m,h3⟩=>⟨o,kp _ _ h1,h2,m,h3⟩
 have key_up:∀{h:Heap} {ka:Addr} {q:List Key},(∀b o,h0.get? b=some o->h.get? b=some o)->(tupleKind (zY prog w)).is h0 q ka->(tupleKind (zY prog w)).is h q ka:=fun kp ⟨o,xs,m,h1,h2⟩=>⟨o,xs,m,kp _ _ h1,h2⟩
 have dict_to:∀{s s':Shared} {xs:List KQ},Moved wr G s s'->(∀b o,h0.get? b=some o->s'.heap.get? b=some o)->(∀x∈xs,(tupleKind (zY prog w)).is h0 x.1 x.2.1)->s.heap.DictOfH (tupleKind (zY prog w)) D xs->s'.heap.DictOfH (tupleKind (zY prog w)) D xs :=
  fun hm kp hk ⟨o,es,ep,e1,e2,e3,e4,_,e6⟩=>⟨o,es,ep,hm.heap D _ hDw e1,e2,e3,e4,fun x hx=>key_up kp (hk x hx),e6⟩
 have keep_to:∀{s s':Shared},Moved wr G s s'->(∀b o,h0.get? b=some o->s.heap.get? b=some o)->∀b o,h0.get? b=some o->s'.heap.get? b=some o:=fun hm kp b o e =>
  hm.heap b o (fun hb=>by
   rw [hw0 b hb] at e
   cases e) (kp b o e)
 have keys0:∀i,∀x∈putAll (ks.take i),(tupleKind (zY prog w)).is h0 x.1 x.2.1:=fun i=>za8 (fun a b=>(tupleKind (zY prog w)).is h0 a b) _ [] (fun x hx=>nomatch hx) fun x hx=>hks x (mem_of_mem_take hx)
 intro k
 induction k with
 | zero =>
  intro i s hk hi hst kp hS hR
  have hin:i=n:=by omega
  subst hin
  refine codeAny_builtin Q4 ?_
  rw [Around.under_plainId Jc _]
  show wpAny _ A.in1 (pyNext (.ref I) >>= _) _ _ s
  refine wpAny_bind (W.done s _ _ hst fun s' hm=>?_)
  show wpAny _ A.in1 (Builtin.Dict.addKeywords D [] >>= fun _=>ret Value.none) _ _ s'
  refine wpAny_bind (wpAny_pure (wpAny_pure (hR s' (hm.mono more) ?_)))
  have:=dict_to hm (keep_to hm kp) (keys0 _) hS
  rw [<- hlen,take_length] at this
  exact this
 | succ k ih =>
  intro i s hk hi hst kp hS hR
  have hlt:i<n:=by omega
  refine codeAny_builtin Q4 ?_
  rw [Around.under_plainId Jc _]
  show wpAny _ A.in1 (pyNext (.ref I) >>= _) _ _ s
  refine wpAny_bind (W.item i s _ _ hlt hst fun v s' hPv hst' hm=>?_)
  obtain⟨ta,q,rfl,hq,ht⟩:=hP i v hPv
  have kp':=keep_to hm kp
  have hS':=dict_to hm kp' (keys0 _) hS
  have l1:=zbP (ks.take i)
  have l2:(ks.take i).length<=n:=by
   rw [length_take]
   omega
  have tk:ks.take (i+1)=ks.take i++[q]:=by
   rw [take_add_one,hq]
   rfl
  refine wpAny_bind (wpAny_holding (wpAny_bind (wpAny_tryCatch (zet (tup_up kp' ht) ?_))))
  refine wpAny_holding (wpAny_dictSet_heap (show A.in1.units<cLine from hu) (key_up kp' (hks q (mem_of_getElem? hq))) hS' (fun h' hd' hs'=>?_) (by omega))
  have kp2:∀b o,h0.get? b=some o->h'.get? b=some o:=fun b o e=>by
   rw [hs'.2 b (fun z=>by
    rw [z,hD0] at e
    cases e)]
   exact kp' b o e
  have d2:h'.DictOfH (tupleKind (zY prog w)) D (putAll (ks.take (i+1))):=by
   rw [tk,putAll_snoc]
   exact hd'
  refine wpAny_pure ⟨plainId_quiet Jc _,?_⟩
  show codeAny _ A (.builtin "dict.update.loop" ⟨[.ref D,.ref I,rawInt ((i:Int)+1),.none],[]⟩) R _
  rw [show ((i:Int)+1)=((i+1:Nat):Int) by omega]
  refine ih (i+1) _ (by omega) hlt (W.frame _ s' _ _ hst' (Nat.le_add_right _ _) fun b hb o e=>?_) kp2 d2 fun s'' hm'' hS''=>?_
  ·rw [hs'.2 b (fun z=>hDf (by rw [<- z];exact hb))]
   exact e
  ·refine hR s'' (Moved.trans W.gtrans ((hm.mono more).then_heap (Nat.le_add_right _ _) fun b o hb e=>?_) hm'') hS''
   rw [hs'.2 b (fun z=>hb (by rw [z];exact mem_cons_self))]
   exact e
end
def zox (H:Hp)(v:V)(kv:List Key×V):Prop:=∃a b,v=V.ref a/\H a=some (.tup [.ref b,kv.2])/\H b=some (.tup (kv.1.map kV))
def yu (H:Hp):List V->List (List Key×V)->Prop:=Paired (zox H)
theorem yu.mono {H H':Hp}(s:zw H H'){vs:List V}{kvs:List (List Key×V)}(hp:yu H vs kvs):yu H' vs kvs:=by
 induction hp with
 | nil=>exact .nil
 | cons q _ ih =>
  obtain⟨a,b,e,h1,h2⟩:=q
  exact .cons ⟨a,b,e,s _ _ h1,s _ _ h2⟩ ih
noncomputable def Qf (kvs:List (List Key×V)):List (List Key×V):=kvs.foldl (fun acc kv=>putK acc kv.1 kv.2) []
theorem KT.puts {H:Hp}{kvs:List (List Key×V)}{ks:List KQ}{acc:List (List Key×V)}{xs:List KQ}(hp:KT H kvs ks)(r:KT H acc xs):KT H (kvs.foldl (fun acc kv=>putK acc kv.1 kv.2) acc) (ks.foldl (fun acc q=>storedH acc q.1 q.2.1 q.2.2) xs):=by
 induction hp generalizing acc xs with
 | nil=>exact r
 | cons q _ ih =>
  obtain⟨h1,h2,h3⟩:=q
  rw [foldl_cons,foldl_cons]
  refine ih ?_
  rw [<- h1]
  exact r.put _ h2 h3
theorem zl8 {P:Program}{w:World}{H:Hp}{h:Heap}(ok:HOk P w H h){kvs:List (List Key×V)}{ks:List KQ}(hp:KT H kvs ks):∀x∈ks,(tupleKind (zY P w)).is h x.1 x.2.1:=by
 induction hp with
 | nil=>exact fun x hx=>nomatch hx
 | cons q _ ih =>
  intro x hx
  rcases List.mem_cons.mp hx with e | hx
  ·subst e
   exact zes ok (by rw [<- q.1];exact q.2.1)
  ·exact ih x hx
theorem zl9 {P:Program}{w:World}{H:Hp}{h:Heap}(ok:HOk P w H h){vs:List V}{kvs:List (List Key×V)}{its:List Value}(hp:yu H vs kvs)(hv:Vals vs its):∃ks:List KQ,KT H kvs ks/\ks.length=its.length/\(∀(i:Nat) (v:Value),its[i]?=some v->∃(ta:Addr) (q:KQ),v=Value.ref ta/\ks[i]?=some q/\IsTup h ta #[.ref q.2.1,q.2.2]):=by
 induction hp generalizing its with
 | nil =>
  cases hv
  exact⟨[],.nil,rfl,fun i v e=>by simp at e⟩
 | @cons x kv xs ys q _ ih =>
  obtain⟨a,b,e,h1,h2⟩:=q
  cases hv with
  | cons rv rs =>
  obtain⟨ks,k1,k2,k3⟩:=ih rs
  subst e
  cases rv
  obtain⟨_,xs,r,tp⟩:=(show jc P w H h a (.tup [.ref b,kv.2]) from ok a _ h1)
  obtain⟨u,u2,rfl,ru,ru2⟩:=vals2 r
  cases ru
  refine⟨(kv.1,b,u2)::ks,.cons ⟨rfl,h2,ru2⟩ k1,by rw [length_cons,length_cons,k2],fun i v e=>?_⟩
  cases i with
  | zero =>
   have e':Value.ref a=v:=by simpa using e
   exact⟨a,_,e'.symm,rfl,tp⟩
  | succ i =>
   obtain⟨ta,q,h1,h2,h3⟩:=k3 i v (by simpa using e)
   exact⟨ta,q,h1,by simpa using h2,h3⟩
section
variable {X:Cx}
set_option maxHeartbeats 8000000 in
theorem Yh (hu:X.A.units+64<cLine)(hh:X.A.handled=none):yr X (.type "dict") (fun xs H Q=>∃l us kvs,xs=[.ref l]/\H l=some (.lst us)/\yu H us kvs/\∀d,H d=none->Q (.ref d) (upd H d (.dT (Qf kvs)))):=by
 intro pins s σ H xs us' Q I r h
 obtain⟨l,us,kvs,rfl,hl,hp,q⟩:=h
 obtain⟨u,rfl,ru⟩:=vals1 r
 cases ru
 obtain⟨hz,its,n,rv,e⟩:=(show jc X.prog X.w H s.heap l (.lst us) from I.hok l _ hl)
 obtain⟨ks,hkt,hkl,hraw⟩:=zl9 I.hok hp rv
 have big:=I.big
 have hil:its.length<=sizeLine:=by
  rw [<- rv.length]
  exact hz
 have hks:=zl8 I.hok hkt
 refine callType_codes (Q₁:=fun obj s₁=>obj=.ref s.heap.objs.size/\s₁={ s with heap:=s.heap.push { cls:=.type "dict",data:=.dict #[] } }) PySem.F.kt_called_dict (PySem.F.kt_typeCall_dict_1 _) PySem.F.entry_dict_init (kt_code_dict_new _ ⟨rfl,rfl⟩) ?_
 rintro obj s₁ ⟨rfl,rfl⟩
 have hnew:(s.heap.push { cls:=.type "dict",data:=.dict #[] }).DictOfH (tupleKind (zY X.prog X.w)) s.heap.objs.size []:=Heap.DictOfH.new s.heap
 have e1:(s.heap.push { cls:=.type "dict",data:=.dict #[] }).get? l=some { cls:=.type "list",dict:=none,data:=.seq its.toArray n,slots:=#[] }:=Heap.get?_push_of_some _ e
 refine⟨hnew.typeIs,PySem.F.args_dict_init_2 _ _,?_⟩
 unfold Builtin.«dict.__init__»
 refine wpAny_bind ?_
 unfold Builtin.Dict.selfAndRest
 refine wpAny_bind (wpAny_notOrdered_dict hnew.typeIs ?_)
 show wpAny _ _ (pure (s.heap.objs.size,[Value.ref l])) _ _ _
 refine wpAny_pure ?_
 show wpAny _ _ (Builtin.Dict.updateFrom "dict.__init__" s.heap.objs.size (.ref l) [] .none) _ _ _
 unfold Builtin.Dict.updateFrom
 have hT:Shared.TypeIs { s with heap:=s.heap.push { cls:=.type "dict",data:=.dict #[] } } (.ref l) "list":=⟨_,e1,rfl⟩
 refine wpAny_bind (wpAny_typeOf hT ?_)
 rw [if_pos (by decide)]
 refine wpAny_bind (zl7 e1 (by simp [hh]) fun h2 t2 kp=>?_)
 rw [if_pos (show (none:Option Value).isNone=true from rfl)]
 have kp0:∀b o',s.heap.get? b=some o'->h2.get? b=some o':=fun b o' z=>kp b o' (Heap.get?_push_of_some _ z)
 have hl2:h2.IsList l its.toArray:=⟨_,kp _ _ e1,rfl,n,rfl⟩
 refine wpAny_bind (wpAny_rule (wpAny_bind (wpAny_pyIter_list hl2 ?_)))
 have hls:l<s.heap.objs.size:=Heap.lt_size e
 have hDl:s.heap.objs.size<h2.objs.size:=by
  obtain⟨o,_,_,ho,_⟩:=hnew
  exact Heap.lt_size (kp _ _ ho)
 have hneI:l≠h2.objs.size:=ne_of_lt (Nat.lt_trans hls hDl)
 have hDf:s.heap.objs.size ∉ [h2.objs.size,l]:=by
  simp only [List.mem_cons,not_mem_nil,or_false,not_or]
  exact⟨ne_of_lt hDl,ne_of_gt hls⟩
 refine wpAny_pure ⟨plainId_quiet Jc _,?_⟩
 have hd2:(h2.push { cls:=.type "list_iterator",data:=.fields #[.ref l,.int 0 0] }).DictOfH (tupleKind (zY X.prog X.w)) s.heap.objs.size []:=by
  obtain⟨o,es,ep,ho,h3,h4,h5,_,h6⟩:=hnew
  exact⟨o,es,ep,Heap.get?_push_of_some _ (kp _ _ ho),h3,h4,h5,(fun x hx=>nomatch hx),h6⟩
 refine zg1 (h0:=s.heap) ((Walks.list (by simp [hh]) h2.objs.size l hneI its.toArray).toS) s.heap.objs.size hDf (Heap.get?_none_of_le (le_refl _)) (fun b hb=>?_) ks (by rw [hkl];simp) (by simpa using hil) (by show X.A.units+1+1<cLine;omega) hks (fun i v hv=>hraw i v (by rw [<- hv];simp)) _ 0 _ rfl (zero_le _)
  ⟨⟨_,Heap.get?_push_size _ rfl,rfl,rfl⟩,hl2.push _⟩ (fun b o z=>Heap.get?_push_of_some _ (kp0 b o z)) hd2 ?_
 ·have e:b=h2.objs.size:=by simpa using hb
  rw [e]
  exact Heap.get?_none_of_le (Nat.le_of_lt hDl)
 ·intro s' hm hS'
  obtain⟨h',g',d',tk',os'⟩:=s'
  have eg:g'=s.gens:=hm.gens
  have ed:d'=s.drawn:=hm.drawn
  have eo:os'=s.os:=hm.os
  subst eg
  subst ed
  subst eo
  have kp3:∀b o',s.heap.get? b=some o'->h'.get? b=some o':=fun b o' z=>by
   have lt:=Heap.lt_size z
   refine hm.heap b o' (fun hb=>?_) (Heap.get?_push_of_some _ (kp0 b o' z))
   rcases List.mem_cons.mp hb with e | hb
   ·exact lt_irrefl _ (e ▸ lt)
   ·have e:b=h2.objs.size:=by simpa using hb
    rw [e] at lt
    exact lt_irrefl _ (Nat.lt_trans lt hDl)
  obtain⟨o,es,ep,ho,h3,h4,h5,_,h6⟩:=hS'
  have hkk:KT H (Qf kvs) (putAll ks):=KT.puts hkt .nil
  have hfresh:H s.heap.objs.size=none:=I.hok.fresh (le_refl _)
  refine⟨rfl,.ref s.heap.objs.size,_,I.laid (a:=s.heap.objs.size) (o:=.dT (Qf kvs)) (t':=tk') kp3 (le_refl _) ⟨?_,beq_eq_false_iff_ne.mpr (Ne.symm (ne_of_lt big)),_,KT.keeps hkk fun b ys hb=>?_,o,es,ep,ho,h3,h4,h5,h6⟩,rfl,q _ hfresh⟩
  ·rw [Paired.length hkk]
   exact le_trans (zbP ks) (by rw [hkl];exact hil)
  ·rw [zj (zh hb hfresh)]
   exact hb
end
theorem u1 {A:PySem.Around}(h:A.units+64<PySem.cLine):A.units+1<PySem.cLine:=by omega
section
variable {K:PySem.W.Frag}{g:TG}{tc:TT}{te:TE}{Q:VK}{σ0:St}{D:Addr}
theorem zkq {l1 l2:Addr}{xs ys:List V}(Pv:Nat->St->Hp->Prop){H:Hp}(he:xs.length=ys.length)(h0:Pv 0 σ0 H)(hl:∀i σ H,i<=xs.length->Pv i σ H->SqL K H l1 xs/\SqL K H l2 ys)
  (hs:∀i x y T σ H,xs[i]?=some x->ys[i]?=some y->H T=none->Pv i σ H->g (.ref T) σ (upd H T (.tup [x,y])) fun σ2 H3=>tc σ2 H3 fun b H4=>if b=true then te σ2 H4 fun y H5=>∃zs,H5 D=some (.lst zs)/\zs.length<sizeLine/\Pv (i+1) σ2 (upd H5 D (.lst (zs++[y]))) else Pv (i+1) σ2 H4)
  (hd:∀ σ H,Pv xs.length σ H->Q (.ref D) H):Jv (Itz K l1 l2) g tc te Q D σ0 H:=by
 refine⟨fun i m σ H=>m=xs.length-i/\i<=xs.length/\Pv i σ H,⟨xs.length,by simp,zero_le _,h0⟩,?_⟩
 rintro i m σ H ⟨rfl,hi,p⟩
 obtain⟨q1,q2⟩:=hl i σ H hi p
 by_cases hlt:i<xs.length
 ·refine .inr ⟨⟨xs,ys,q1,q2,hlt,by omega⟩,Pv (i+1),fun σ' H' p'=>⟨xs.length-(i+1),by omega,rfl,hlt,p'⟩,fun x H' y=>?_⟩
  obtain⟨T,rfl,hT,y⟩:=y
  obtain⟨v,v',hv,hv',rfl⟩:=y xs ys q1 q2
  exact hs i v v' T σ H hv hv' hT p
 ·have e:i=xs.length:=by omega
  subst e
  exact .inl ⟨⟨xs,ys,q1,q2,by omega⟩,hd σ H p⟩
end
theorem yu.into {H:Hp}(z:Addr)(o:HO){old:List V}(hz:H z=some (.lst old)):∀{vs:List V} {kvs:List (List Key×V)},yu H vs kvs->yu (upd H z o) vs kvs
 | _,_,.nil=>.nil
 | _,_,.cons ⟨a,b,e,h1,h2⟩ t=>.cons ⟨a,b,e,by rw [zj (zff h1 hz (by intro y;cases y))];exact h1,by rw [zj (zff h2 hz (by intro y;cases y))];exact h2⟩ (yu.into z o hz t)
theorem yu.snoc {H:Hp}{vs:List V}{kvs:List (List Key×V)}{v:V}{kv:List Key×V}(h:yu H vs kvs)(x:zox H v kv):yu H (vs++[v]) (kvs++[kv]):=Paired.snoc h x
theorem yu.length {H:Hp}{vs:List V}{kvs:List (List Key×V)}(h:yu H vs kvs):vs.length=kvs.length:=Paired.length h
theorem zaF {v:V}{k:List Key}:∀(ks:List (List Key)) (acc:List (List Key×V)),(k∈ks\/xF acc k=some v)->xF ((ks.map fun x=>(x,v)).foldl (fun acc kv=>putK acc kv.1 kv.2) acc) k=some v
 | [],acc,h=>by
  rcases h with h | h
  ·cases h
  ·exact h
 | x::r,acc,h=>by
  rw [map_cons,foldl_cons]
  refine zaF r _ ?_
  rw [zfw]
  by_cases e:k=x
  ·rw [if_pos e]
   exact .inr rfl
  ·rw [if_neg e]
   rcases h with h | h
   ·rcases List.mem_cons.mp h with h | h
    ·exact absurd h e
    ·exact .inl h
   ·exact .inr h
section
variable {prog:Program}{w:World}{A:Around}{E:Value->Shared->Prop}{s:Shared}{d o a:Addr}{xs ys:List KQ}{k:List Key}{v:Value}
abbrev tk2 (prog:Program)(w:World):HeapKind prog w (List Key):=tupleKind (zY prog w)
end
def HH (i j:Nat):Int:=reduceHash (Builtin.Tuple.tupleHashOf [hashInt (i:Int),hashInt (j:Int)])
theorem Q5 (prog:Program)(w:World)(i j:Nat):(tk2 prog w).hash [.inl ((i:Nat):Int),.inl ((j:Nat):Int)]=HH i j:=by
 show tupleKeyHash (zY prog w) [.inl ((i:Nat):Int),.inl ((j:Nat):Int)]=HH i j
 unfold tupleKeyHash HH
 rw [map_cons,map_cons,List.map_nil]
 have e:∀n:Nat,(zY prog w).hash (.inl ((n:Nat):Int))=hashInt ((n:Nat):Int):=fun n=>by
  show zm6 w (.inl ((n:Nat):Int))=_
  unfold zm6
  with_reducible rfl
 rw [e,e]
theorem znz:(List.range 64).all fun n=>(List.range 64).all fun m=>decide (HH (n/8) (n%8)=HH (m/8) (m%8))==decide (n=m):=by decide +kernel
theorem zkr {i j i' j':Nat}(h1:i<8)(h2:j<8)(h3:i'<8)(h4:j'<8)(e:HH i j=HH i' j'):i=i'/\j=j':=by
 have h:=znz
 rw [List.all_eq_true] at h
 have a:=h (8*i+j) (List.mem_range.mpr (by omega))
 rw [List.all_eq_true] at a
 have b:=a (8*i'+j') (List.mem_range.mpr (by omega))
 rw [show (8*i+j)/8=i by omega,show (8*i+j)%8=j by omega,show (8*i'+j')/8=i' by omega,show (8*i'+j')%8=j' by omega,decide_eq_true e] at b
 have c:decide (8*i+j=8*i'+j')=true:=by simpa using b
 have d:=of_decide_eq_true c
 omega
section
variable {X:Cx}
end
section
variable {X:Cx}
end
section
variable {prog:Program}{w:World}{A:Around}{E:Value->Shared->Prop}{s:Shared}{a b:Addr}{H:Hp}{kvs:List (List Key×V)}{ka kb:List KQ}
end
section
variable {X:Cx}
end
section
variable {prog:Program}{w:World}{A:Around}{E:Value->Shared->Prop}{s:Shared}{d it:Addr}{od:Obj}{es:Array DictEntry}{ep i:Nat}
end
section
variable {X:Cx}{tg:Expr}
end
open PySem
namespace ST
noncomputable def run (mask i:Nat):List Nat:=(List.range (SetTable.runEnd mask i+1-i)).map (i + ·)
noncomputable def walk (mask:Nat):Nat->Nat->Nat->List Nat
 | 0,_,_=>[]
 | f+1,i,p=>run mask i++walk mask f (SetTable.leap mask i p).1 (SetTable.leap mask i p).2
theorem zma (mask i:Nat):1<=(run mask i).length/\(run mask i).length<=10:=by
 unfold run SetTable.runEnd
 rw [length_map,length_range]
 split<;>omega
theorem zbQ (mask:Nat):∀f i p,(walk mask f i p).length<=10*f
 | 0,_,_=>le_refl _
 | f+1,i,p=>by
  rw [walk,length_append]
  have:=(zma mask i).2
  have:=zbQ mask f (SetTable.leap mask i p).1 (SetTable.leap mask i p).2
  omega
noncomputable def steps (t:SetTable):Nat->SetTable.Probe->SetTable.Probe
 | 0,p=>p
 | n+1,p=>steps t n (t.advance p)
theorem zaG (t:SetTable):∀n m p,steps t (n+m) p=steps t m (steps t n p)
 | 0,m,p=>by rw [zero_add];rfl
 | n+1,m,p=>by
  rw [show n+1+m=(n+m)+1 from by omega]
  exact zaG t n m (t.advance p)
theorem zaH (t:SetTable)(i pt:Nat)(dm:Option Nat):∀(d r j:Nat),d<=r->steps t d { j:=j,more:=r,i:=i,perturb:=pt,dummy:=dm }={ j:=j+d,more:=r-d,i:=i,perturb:=pt,dummy:=dm }
 | 0,r,j,_=>rfl
 | d+1,r,j,h=>by
  have e:t.advance { j:=j,more:=r,i:=i,perturb:=pt,dummy:=dm }={ j:=j+1,more:=r-1,i:=i,perturb:=pt,dummy:=dm }:=by
   unfold SetTable.advance
   rw [if_pos (by show r>0;omega)]
  show steps t d (t.advance _)=_
  rw [e,zaH t i pt dm d (r-1) (j+1) (by omega)]
  congr 1<;>omega
noncomputable def YT (mask i pt:Nat)(dm:Option Nat):SetTable.Probe:={ j:=i,more:=SetTable.runEnd mask i-i,i:=i,perturb:=pt,dummy:=dm }
theorem zaI (mask i:Nat):i<=SetTable.runEnd mask i:=by
 unfold SetTable.runEnd
 split<;>omega
theorem zg2 (t:SetTable)(i pt:Nat)(dm:Option Nat):steps t (run t.mask i).length (YT t.mask i pt dm)=YT t.mask (SetTable.leap t.mask i pt).1 (SetTable.leap t.mask i pt).2 dm:=by
 have hl:(run t.mask i).length=(SetTable.runEnd t.mask i-i)+1:=by
  unfold run
  rw [length_map,length_range]
  have:=zaI t.mask i
  omega
 rw [hl,zaG]
 unfold YT
 rw [zaH t i pt dm _ _ _ (le_refl _),sub_self]
 rw [steps,steps]
 unfold SetTable.advance
 rw [if_neg (by show ¬ 0>0;omega)]
theorem Jx (t:SetTable):∀(f i pt:Nat) (dm:Option Nat) (n:Nat) (j:Nat),(walk t.mask f i pt)[n]?=some j->(steps t n (YT t.mask i pt dm)).j=j
 | 0,_,_,_,_,_,h=>by simp [walk] at h
 | f+1,i,pt,dm,n,j,h=>by
  rw [walk] at h
  by_cases hn:n<(run t.mask i).length
  ·rw [getElem?_append_left hn] at h
   unfold run at h
   rw [getElem?_map,List.getElem?_range (by unfold run at hn;simpa using hn)] at h
   have hl:(run t.mask i).length=(SetTable.runEnd t.mask i-i)+1:=by
    unfold run
    rw [length_map,length_range]
    have:=zaI t.mask i
    omega
   unfold YT
   rw [zaH t i pt dm n _ _ (by omega)]
   exact Option.some.inj h
  ·rw [List.getElem?_append_right (by omega)] at h
   have e:n=(run t.mask i).length+(n-(run t.mask i).length):=by omega
   rw [e,zaG,zg2]
   exact Jx t f _ _ dm _ j h
theorem zeu (t:SetTable)(hashAt:Nat->Int)(h:Int):∀(n F:Nat) (p:SetTable.Probe),(∀k,k<n->∃i,t.slot (steps t k p).j=.live i/\(hashAt i==h)=false)->n<=F->SetTable.probe.go t hashAt h F p=SetTable.probe.go t hashAt h (F-n) (steps t n p)
 | 0,F,p,_,_=>rfl
 | n+1,F,p,hk,hF=>by
  obtain⟨F',rfl⟩:∃F',F=F'+1:=⟨F-1,by omega⟩
  obtain⟨i,h1,h2⟩:=hk 0 (by omega)
  have h1':t.slot p.j=.live i:=h1
  rw [SetTable.probe.go,h1']
  show (if (hashAt i==h)=true then _ else _)=_
  rw [if_neg (by rw [h2];decide),zeu t hashAt h n F' (t.advance p) (fun k hk'=>hk (k+1) (by omega)) (by omega),Nat.add_sub_add_right]
  rfl
def Up (xs:Array Nat):Prop:=∀i j,i<j->j<xs.size->xs.getD i 0<xs.getD j 0
theorem zks {xs:Array Nat}(U:Up xs)(j:Nat):∀(f lo hi:Nat),hi-lo<=f->lo<=hi->hi<=xs.size->(∀i,i<lo->xs.getD i 0<j)->(∀i,hi<=i->i<xs.size->j<=xs.getD i 0) ->
  SetTable.below.go xs j f lo hi<=xs.size/\(∀i,i<SetTable.below.go xs j f lo hi->xs.getD i 0<j)/\(∀i,SetTable.below.go xs j f lo hi<=i->i<xs.size->j<=xs.getD i 0):=by
 intro f
 induction f with
 | zero =>
  intro lo hi hf hl hs h1 h2
  have:lo=hi:=by omega
  subst this
  exact⟨hs,h1,h2⟩
 | succ f ih =>
  intro lo hi hf hl hs h1 h2
  by_cases hlt:lo<hi
  ·have hm:(lo+hi)/2<hi:=by omega
   have hm2:lo<=(lo+hi)/2:=by omega
   have hms:(lo+hi)/2<xs.size:=by omega
   have e:xs.getD ((lo+hi)/2) j=xs.getD ((lo+hi)/2) 0:=by
    simp [Array.getD,hms]
   have e2:SetTable.below.go xs j (f+1) lo hi=if xs.getD ((lo+hi)/2) 0<j then SetTable.below.go xs j f ((lo+hi)/2+1) hi else SetTable.below.go xs j f lo ((lo+hi)/2):=by
    rw [SetTable.below.go,if_pos hlt]
    show (if xs.getD ((lo+hi)/2) j<j then _ else _)=_
    rw [e]
   by_cases hx:xs.getD ((lo+hi)/2) 0<j
   ·rw [e2,if_pos hx]
    refine ih ((lo+hi)/2+1) hi (by omega) (by omega) hs (fun i hi'=>?_) h2
    by_cases he:i=(lo+hi)/2
    ·rw [he]
     exact hx
    ·exact Nat.lt_trans (U i ((lo+hi)/2) (by omega) hms) hx
   ·rw [e2,if_neg hx]
    refine ih lo ((lo+hi)/2) (by omega) (by omega) (by omega) h1 (fun i hi' hi2=>?_)
    by_cases he:i=(lo+hi)/2
    ·rw [he]
     omega
    ·have:=U ((lo+hi)/2) i (by omega) hi2
     omega
  ·rw [SetTable.below.go,if_neg hlt]
   have:lo=hi:=by omega
   subst this
   exact⟨hs,h1,h2⟩
theorem Zf {xs:Array Nat}(U:Up xs)(j:Nat):SetTable.below xs j<=xs.size/\(∀i,i<SetTable.below xs j->xs.getD i 0<j)/\(∀i,SetTable.below xs j<=i->i<xs.size->j<=xs.getD i 0) :=
 zks U j xs.size 0 xs.size (by omega) (zero_le _) (le_refl _) (fun _ h=>absurd h (Nat.not_lt_zero _)) (fun i h1 h2=>absurd h2 (by omega))
theorem Jy {xs:Array Nat}{i:Nat}(h:i<xs.size):xs[i]?=some (xs.getD i 0):=by
 simp [Array.getD,h]
theorem Zg {t:SetTable}(U:Up t.place){i:Nat}(hi:i<t.place.size):t.slot (t.place.getD i 0)=.live i:=by
 have b:=Zf U (t.place.getD i 0)
 have e:SetTable.below t.place (t.place.getD i 0)=i:=by
  rcases Nat.lt_trichotomy (SetTable.below t.place (t.place.getD i 0)) i with h | h | h
  ·have h1:=b.2.2 _ (le_refl _) (by omega)
   have h2:=U _ i h hi
   omega
  ·exact h
  ·have:=b.2.1 i h
   omega
 unfold SetTable.slot
 simp only [e,Jy hi]
 rw [if_pos (by simp)]
theorem slot_of {t:SetTable}(U:Up t.place)(hd:t.dummies=#[])(j:Nat):(∃i,i<t.place.size/\t.place.getD i 0=j/\t.slot j=.live i)\/(t.slot j=.empty/\∀i,i<t.place.size->t.place.getD i 0≠j):=by
 by_cases h:∃i,i<t.place.size/\t.place.getD i 0=j
 ·obtain⟨i,hi,rfl⟩:=h
  exact .inl ⟨i,hi,rfl,Zg U hi⟩
 ·have hn:∀i,i<t.place.size->t.place.getD i 0≠j:=fun i hi e=>h ⟨i,hi,e⟩
  refine .inr ⟨?_,hn⟩
  unfold SetTable.slot
  have h1:¬ ((t.place[SetTable.below t.place j]?==some j)=true):=fun z=>by
   have z':t.place[SetTable.below t.place j]?=some j:=by simpa using z
   have hl:SetTable.below t.place j<t.place.size:=by
    rcases lt_or_ge (SetTable.below t.place j) t.place.size with q | q
    ·exact q
    ·rw [getElem?_eq_none q] at z'
     cases z'
   rw [Jy hl] at z'
   exact hn _ hl (Option.some.inj z')
  simp only []
  rw [if_neg h1,hd]
  rfl
def Reach (t:SetTable)(h:Int)(j:Nat):Prop:=∃n:Nat,(walk t.mask (SetTable.turns t.mask) (SetTable.bits h%(t.mask+1)) (SetTable.bits h))[n]?=some j/\∀k:Nat,k<n->∀j',(walk t.mask (SetTable.turns t.mask) (SetTable.bits h%(t.mask+1)) (SetTable.bits h))[k]?=some j'->∃i,i<t.place.size/\t.place.getD i 0=j'
theorem Q6 (t:SetTable)(h:Int):t.probeStart h=YT t.mask (SetTable.bits h%(t.mask+1)) (SetTable.bits h) none:=rfl
theorem zfz (t:SetTable):∀n p,(steps t n p).dummy=p.dummy
 | 0,_=>rfl
 | n+1,p=>by
  rw [steps,zfz t n]
  unfold SetTable.advance
  split<;>rfl
theorem zfA {t:SetTable}(U:Up t.place)(hashAt:Nat->Int){h:Int}{i:Nat}(hi:i<t.place.size)(eh:hashAt i=h)(one:∀i',i'<t.place.size->hashAt i'=h->i'=i)(R:Reach t h (t.place.getD i 0)):∃nx,t.probe hashAt h (t.probeStart h)=some (.candidate (t.place.getD i 0) i nx):=by
 obtain⟨n,hn,hk⟩:=R
 have hlen:=(List.getElem?_eq_some_iff.mp hn).1
 have wl:=zbQ t.mask (SetTable.turns t.mask) (SetTable.bits h%(t.mask+1)) (SetTable.bits h)
 have key:∀m:Nat,m<=n->(∀k,k<m->∃i',t.slot (steps t k (t.probeStart h)).j=.live i'/\(hashAt i'==h)=false)\/∃m',m'<m/\(∀k,k<m'->∃i',t.slot (steps t k (t.probeStart h)).j=.live i'/\(hashAt i'==h)=false)/\t.slot (steps t m' (t.probeStart h)).j=.live i/\(steps t m' (t.probeStart h)).j=t.place.getD i 0:=fun m=>by
  induction m with
  | zero=>exact fun _=>.inl fun k hk=>absurd hk (Nat.not_lt_zero _)
  | succ m ih =>
   intro hm
   rcases ih (by omega) with h1 | ⟨m',a,b⟩
   ·have hw:∃j',(walk t.mask (SetTable.turns t.mask) (SetTable.bits h%(t.mask+1)) (SetTable.bits h))[m]?=some j':=⟨_,getElem?_eq_getElem (by omega)⟩
    obtain⟨j',hj'⟩:=hw
    obtain⟨i',hi',ei'⟩:=hk m (by omega) j' hj'
    have ej:(steps t m (t.probeStart h)).j=j':=by
     rw [Q6]
     exact Jx t _ _ _ none m j' hj'
    have sl:t.slot (steps t m (t.probeStart h)).j=.live i':=by
     rw [ej,<- ei']
     exact Zg U hi'
    by_cases he:hashAt i'=h
    ·have:=one i' hi' he
     subst this
     exact .inr ⟨m,by omega,h1,sl,by rw [ej,ei']⟩
    ·refine .inl fun k hk'=>?_
     by_cases hkm:k=m
     ·subst hkm
      exact⟨i',sl,by simpa using he⟩
     ·exact h1 k (by omega)
   ·exact .inr ⟨m',by omega,b⟩
 have fin:∀m:Nat,m<10*SetTable.turns t.mask->(∀k,k<m->∃i',t.slot (steps t k (t.probeStart h)).j=.live i'/\(hashAt i'==h)=false)->t.slot (steps t m (t.probeStart h)).j=.live i->(steps t m (t.probeStart h)).j=t.place.getD i 0->∃nx,t.probe hashAt h (t.probeStart h)=some (.candidate (t.place.getD i 0) i nx):=fun m hm hp sl ej=>by
  unfold SetTable.probe
  rw [zeu t hashAt h m _ _ hp (by omega)]
  obtain⟨F',hF⟩:∃F',10*SetTable.turns t.mask-m=F'+1:=⟨10*SetTable.turns t.mask-m-1,by omega⟩
  rw [hF,SetTable.probe.go,sl]
  simp only []
  rw [if_pos (by simpa using eh),ej]
  exact⟨_,rfl⟩
 rcases key n (le_refl _) with h1 | ⟨m',a,b,c,d⟩
 ·have ej:(steps t n (t.probeStart h)).j=t.place.getD i 0:=by
   rw [Q6]
   exact Jx t _ _ _ none n _ hn
  exact fin n (by omega) h1 (by rw [ej];exact Zg U hi) ej
 ·exact fin m' (by omega) b c d
theorem zew {t:SetTable}(U:Up t.place)(hd:t.dummies=#[])(hashAt:Nat->Int){h:Int}(no:∀i,i<t.place.size->hashAt i≠h){e:Nat}(he:∀i,i<t.place.size->t.place.getD i 0≠e)(hw:e∈walk t.mask (SetTable.turns t.mask) (SetTable.bits h%(t.mask+1)) (SetTable.bits h)) :
  ∃j,t.probe hashAt h (t.probeStart h)=some (.empty j none)/\t.slot j=.empty/\Reach t h j/\j∈walk t.mask (SetTable.turns t.mask) (SetTable.bits h%(t.mask+1)) (SetTable.bits h):=by
 obtain⟨N,hN⟩:=List.mem_iff_getElem?.mp hw
 have hlen:=(List.getElem?_eq_some_iff.mp hN).1
 have wl:=zbQ t.mask (SetTable.turns t.mask) (SetTable.bits h%(t.mask+1)) (SetTable.bits h)
 have key:∀m:Nat,m<=N+1->(∀k:Nat,k<m->∀j',(walk t.mask (SetTable.turns t.mask) (SetTable.bits h%(t.mask+1)) (SetTable.bits h))[k]?=some j'->∃i,i<t.place.size/\t.place.getD i 0=j')\/∃m' j:Nat,m'<m/\(walk t.mask (SetTable.turns t.mask) (SetTable.bits h%(t.mask+1)) (SetTable.bits h))[m']?=some j/\t.slot j=.empty/\(∀k:Nat,k<m'->∀j',(walk t.mask (SetTable.turns t.mask) (SetTable.bits h%(t.mask+1)) (SetTable.bits h))[k]?=some j'->∃i,i<t.place.size/\t.place.getD i 0=j'):=fun m=>by
  induction m with
  | zero=>exact fun _=>.inl fun k hk=>absurd hk (Nat.not_lt_zero _)
  | succ m ih =>
   intro hm
   rcases ih (by omega) with h1 | ⟨m',j,a,b⟩
   ·obtain⟨j',hj'⟩:∃j',(walk t.mask (SetTable.turns t.mask) (SetTable.bits h%(t.mask+1)) (SetTable.bits h))[m]?=some j':=⟨_,getElem?_eq_getElem (by omega)⟩
    rcases slot_of U hd j' with ⟨i,hi,ei,_⟩ | ⟨se,_⟩
    ·refine .inl fun k hk' j2 hj2=>?_
     by_cases hkm:k=m
     ·subst hkm
      rw [hj'] at hj2
      exact⟨i,hi,by rw [ei];exact Option.some.inj hj2⟩
     ·exact h1 k (by omega) j2 hj2
    ·exact .inr ⟨m,j',by omega,hj',se,h1⟩
   ·exact .inr ⟨m',j,by omega,b⟩
 rcases key (N+1) (le_refl _) with h1 | ⟨m',j,a,b,c,d⟩
 ·obtain⟨i,hi,ei⟩:=h1 N (by omega) e hN
  exact absurd ei (he i hi)
 ·refine⟨j,?_,c,⟨m',b,d⟩,mem_of_getElem? b⟩
  have ej:(steps t m' (t.probeStart h)).j=j:=by
   rw [Q6]
   exact Jx t _ _ _ none m' j b
  have hp:∀k,k<m'->∃i',t.slot (steps t k (t.probeStart h)).j=.live i'/\(hashAt i'==h)=false:=fun k hk=>by
   obtain⟨j',hj'⟩:∃j',(walk t.mask (SetTable.turns t.mask) (SetTable.bits h%(t.mask+1)) (SetTable.bits h))[k]?=some j':=⟨_,getElem?_eq_getElem (by omega)⟩
   obtain⟨i,hi,ei⟩:=d k hk j' hj'
   refine⟨i,?_,by simpa using no i hi⟩
   have:(steps t k (t.probeStart h)).j=j':=by
    rw [Q6]
    exact Jx t _ _ _ none k j' hj'
   rw [this,<- ei]
   exact Zg U hi
  unfold SetTable.probe
  rw [zeu t hashAt h m' _ _ hp (by omega)]
  obtain⟨F',hF⟩:∃F',10*SetTable.turns t.mask-m'=F'+1:=⟨10*SetTable.turns t.mask-m'-1,by omega⟩
  rw [hF,SetTable.probe.go,ej,c]
  simp only [zfz]
  rfl
noncomputable def orb (m:Nat):Nat->Nat->Nat
 | 0,i=>i
 | n+1,i=>orb m n ((i*5+1)%m)
noncomputable def zjf (m:Nat):Nat->Nat->List Nat
 | 0,_=>[]
 | n+1,i=>i::zjf m n ((i*5+1)%m)
theorem zbR (m:Nat):∀(n i e:Nat),e∈zjf m n i->∃k,k<n/\orb m k i=e
 | 0,_,_,h=>nomatch h
 | n+1,i,e,h=>by
  rcases List.mem_cons.mp h with rfl | h
  ·exact⟨0,succ_pos _,rfl⟩
  ·obtain⟨k,hk,q⟩:=zbR m n _ e h
   exact⟨k+1,by omega,q⟩
theorem zbv (m:Nat):∀a b i,orb m (a+b) i=orb m b (orb m a i)
 | 0,b,i=>by rw [zero_add];rfl
 | a+1,b,i=>by
  rw [show a+1+b=(a+b)+1 from by omega]
  exact zbv m a b _
theorem full {m:Nat}(h1:∀e,e<m->e∈zjf m m 0)(h2:orb m m 0=0){i e:Nat}(hi:i<m)(he:e<m):∃k,k<m+1/\orb m k i=e:=by
 obtain⟨a,ha,ea⟩:=zbR m m 0 i (h1 i hi)
 obtain⟨b,hb,eb⟩:=zbR m m 0 e (h1 e he)
 rcases lt_or_ge b a with q | q
 ·refine⟨m-a+b,by omega,?_⟩
  rw [<- ea,<- zbv,show a+(m-a+b)=m+b from by omega,zbv,h2,eb]
 ·refine⟨b-a,by omega,?_⟩
  rw [<- ea,<- zbv,show a+(b-a)=b from by omega,eb]
theorem zmP:(∀e,e<8->e∈zjf 8 8 0)/\orb 8 8 0=0:=by decide +kernel
theorem zkt:(∀e,e<32->e∈zjf 32 32 0)/\orb 32 32 0=0:=by decide +kernel
theorem zie:(∀e,e<128->e∈zjf 128 128 0)/\orb 128 128 0=0:=by decide +kernel
noncomputable def Zh (mask:Nat):Nat->Nat->Nat->Nat×Nat
 | 0,i,p=>(i,p)
 | n+1,i,p=>Zh mask n (SetTable.leap mask i p).1 (SetTable.leap mask i p).2
theorem zdz (mask:Nat):∀a b i p,Zh mask (a+b) i p=Zh mask b (Zh mask a i p).1 (Zh mask a i p).2
 | 0,b,i,p=>by rw [zero_add];rfl
 | a+1,b,i,p=>by
  rw [show a+1+b=(a+b)+1 from by omega]
  exact zdz mask a b _ _
theorem zif (mask:Nat):∀n i p,(Zh mask n i p).2=p/32^n
 | 0,i,p=>by rw [Nat.pow_zero,Nat.div_one];rfl
 | n+1,i,p=>by
  rw [Zh,zif mask n]
  show p/32/32^n=_
  rw [Nat.div_div_eq_div_mul,pow_succ,mul_comm]
theorem zfB (mask:Nat):∀n i p,i<mask+1->(Zh mask n i p).1<mask+1
 | 0,i,p,h=>h
 | n+1,i,p,h=>zfB mask n _ _ (mod_lt _ (succ_pos _))
theorem zdA (mask:Nat):∀n i,(Zh mask n i 0).1=orb (mask+1) n i
 | 0,_=>rfl
 | n+1,i=>by
  have e1:(SetTable.leap mask i 0).1=(i*5+1)%(mask+1):=rfl
  have e2:(SetTable.leap mask i 0).2=0:=rfl
  rw [Zh,e1,e2]
  exact zdA mask n _
theorem head_mem (mask:Nat):∀(f n i p:Nat),n<f->(Zh mask n i p).1∈walk mask f i p
 | 0,_,_,_,h=>absurd h (Nat.not_lt_zero _)
 | f+1,0,i,p,_=>by
  rw [walk]
  refine mem_append_left _ ?_
  unfold run
  refine List.mem_map.mpr ⟨0,List.mem_range.mpr ?_,by rfl⟩
  have:=zaI mask i
  omega
 | f+1,n+1,i,p,h=>by
  rw [walk]
  exact mem_append_right _ (head_mem mask f n _ _ (by omega))
theorem zfC {mask:Nat}(hm:mask=7\/mask=31\/mask=127)(h:Int){e:Nat}(he:e<mask+1):e∈walk mask (SetTable.turns mask) (SetTable.bits h%(mask+1)) (SetTable.bits h):=by
 have hb:SetTable.bits h<2^64:=by
  unfold SetTable.bits
  have h1:=Int.emod_nonneg h (show (2^64:Int)≠0 by decide)
  have h2:=Int.emod_lt_of_pos h (show (0:Int)<2^64 by decide)
  omega
 have hp:(Zh mask 13 (SetTable.bits h%(mask+1)) (SetTable.bits h)).2=0:=by
  rw [zif]
  exact Nat.div_eq_of_lt (Nat.lt_trans hb (by decide))
 have hi:=zfB mask 13 (SetTable.bits h%(mask+1)) (SetTable.bits h) (mod_lt _ (succ_pos _))
 obtain⟨k,hk,ek⟩:∃k,k<mask+1+1/\orb (mask+1) k (Zh mask 13 (SetTable.bits h%(mask+1)) (SetTable.bits h)).1=e:=by
  rcases hm with rfl | rfl | rfl
  ·exact full zmP.1 zmP.2 hi he
  ·exact full zkt.1 zkt.2 hi he
  ·exact full zie.1 zie.2 hi he
 have hh:=head_mem mask (SetTable.turns mask) (13+k) (SetTable.bits h%(mask+1)) (SetTable.bits h) (by unfold SetTable.turns;omega)
 rw [zdz,hp,zdA,ek] at hh
 exact hh
theorem Yq {α:Type}(xs:Array α){p:Nat}(x:α):(SetTable.insertAt xs p x).toList=xs.toList.take p++x::xs.toList.drop p:=by
 unfold SetTable.insertAt
 simp
 rw [take_of_length_le (by rw [length_drop,length_toList];omega)]
theorem zku {α:Type}(xs:Array α){p:Nat}(hp:p<=xs.size)(x:α)(i:Nat):(SetTable.insertAt xs p x)[i]?=if i<p then xs[i]? else if i=p then some x else xs[i-1]?:=by
 have hl:(xs.toList.take p).length=p:=by
  rw [length_take,length_toList]
  omega
 rw [<- getElem?_toList,Yq]
 by_cases h1:i<p
 ·rw [if_pos h1,getElem?_append_left (by omega),List.getElem?_take_of_lt h1,getElem?_toList]
 ·rw [if_neg h1,List.getElem?_append_right (by omega),hl]
  by_cases h2:i=p
  ·rw [if_pos h2,h2,sub_self]
   rfl
  ·rw [if_neg h2,show i-p=(i-p-1)+1 from by omega,List.getElem?_cons_succ,List.getElem?_drop,getElem?_toList]
   congr 1
   omega
theorem jC {α:Type}(xs:Array α){p:Nat}(hp:p<=xs.size)(x:α):(SetTable.insertAt xs p x).size=xs.size+1:=by
 rw [<- length_toList,Yq,length_append,length_cons,length_take,length_drop,length_toList]
 omega
theorem Zi (xs:Array Nat){p:Nat}(hp:p<=xs.size)(x i:Nat)(hi:i<xs.size+1):(SetTable.insertAt xs p x).getD i 0=if i<p then xs.getD i 0 else if i=p then x else xs.getD (i-1) 0:=by
 have h:=zku xs hp x i
 rw [Jy (by rw [jC xs hp x];exact hi)] at h
 by_cases h1:i<p
 ·rw [if_pos h1] at h ⊢
  rw [Jy (by omega)] at h
  exact Option.some.inj h
 ·rw [if_neg h1] at h ⊢
  by_cases h2:i=p
  ·rw [if_pos h2] at h ⊢
   exact Option.some.inj h
  ·rw [if_neg h2] at h ⊢
   rw [Jy (by omega)] at h
   exact Option.some.inj h
theorem zkv {t:SetTable}(U:Up t.place)(hd:t.dummies=#[]){j:Nat}(he:∀i,i<t.place.size->t.place.getD i 0≠j):(t.put j).2=SetTable.below t.place j/\(t.put j).1={ t with place:=SetTable.insertAt t.place (SetTable.below t.place j) j }/\Up (SetTable.insertAt t.place (SetTable.below t.place j) j):=by
 have b:=Zf U j
 refine⟨rfl,?_,fun a c hac hc=>?_⟩
 ·unfold SetTable.put
  simp only [hd]
  rfl
 ·rw [jC _ b.1] at hc
  rw [Zi _ b.1 _ _ (by omega),Zi _ b.1 _ _ hc]
  have lo:∀i,i<SetTable.below t.place j->t.place.getD i 0<j:=b.2.1
  have hi:∀i,SetTable.below t.place j<=i->i<t.place.size->j<t.place.getD i 0:=fun i h1 h2=>by
   have:=b.2.2 i h1 h2
   have:=he i h2
   omega
  by_cases a1:a<SetTable.below t.place j
  ·rw [if_pos a1]
   by_cases c1:c<SetTable.below t.place j
   ·rw [if_pos c1]
    exact U a c hac (by omega)
   ·rw [if_neg c1]
    by_cases c2:c=SetTable.below t.place j
    ·rw [if_pos c2]
     exact lo a a1
    ·rw [if_neg c2]
     have h1:=lo a a1
     have h2:=hi (c-1) (by omega) (by omega)
     omega
  ·have c1:¬ c<SetTable.below t.place j:=by omega
   have c2:¬ c=SetTable.below t.place j:=by omega
   rw [if_neg a1,if_neg c1,if_neg c2]
   by_cases a2:a=SetTable.below t.place j
   ·rw [if_pos a2]
    exact hi (c-1) (by omega) (by omega)
   ·rw [if_neg a2]
    exact U (a-1) (c-1) (by omega) (by omega)
theorem Reach.more {t t':SetTable}(hm:t'.mask=t.mask)(hp:∀i,i<t.place.size->∃i',i'<t'.place.size/\t'.place.getD i' 0=t.place.getD i 0){h:Int}{j:Nat}(R:Reach t h j):Reach t' h j:=by
 obtain⟨n,h1,h2⟩:=R
 unfold Reach
 rw [hm]
 refine⟨n,h1,fun k hk j' hj'=>?_⟩
 obtain⟨i,hi,ei⟩:=h2 k hk j' hj'
 obtain⟨i',hi',ei'⟩:=hp i hi
 exact⟨i',hi',ei'.trans ei⟩
theorem zkw {t:SetTable}(U:Up t.place)(j:Nat):∀i,i<t.place.size->∃i',i'<(SetTable.insertAt t.place (SetTable.below t.place j) j).size/\(SetTable.insertAt t.place (SetTable.below t.place j) j).getD i' 0=t.place.getD i 0:=fun i hi=>by
 have b:=Zf U j
 by_cases h:i<SetTable.below t.place j
 ·refine⟨i,by rw [jC _ b.1];omega,?_⟩
  rw [Zi _ b.1 _ _ (by omega),if_pos h]
 ·refine⟨i+1,by rw [jC _ b.1];omega,?_⟩
  rw [Zi _ b.1 _ _ (by omega),if_neg (by omega),if_neg (by omega),Nat.add_sub_cancel]
theorem zig (mask:Nat)(owner:Array (Option Nat)):∀(f i p:Nat),SetTable.layClean.free mask owner f i p=(walk mask f i p).find? fun j=>(owner.getD j (some 0)).isNone
 | 0,_,_=>rfl
 | f+1,i,p=>by
  rw [SetTable.layClean.free,walk,List.find?_append]
  unfold run
  rw [List.find?_map]
  have e:((fun j=>(owner.getD j (some 0)).isNone)∘fun x=>i+x)=fun k=>(owner.getD (i+k) (some 0)).isNone:=rfl
  rw [e]
  cases h:(List.range (SetTable.runEnd mask i+1-i)).find? fun k=>(owner.getD (i+k) (some 0)).isNone with
  | some k=>rfl
  | none =>
   simp only [Option.map_none,Option.none_or]
   exact zig mask owner f _ _
structure Own (mask:Nat)(hs:List Int)(owner:Array (Option Nat))(k:Nat):Prop where
 sz:owner.size=mask+1
 few:(owner.toList.countP fun o=>o.isNone)+k=mask+1
 at_:∀i,i<k->∃j:Nat,owner[j]?=some (some i)/\∃n:Nat,(walk mask (SetTable.turns mask) (SetTable.bits (hs.getD i 0)%(mask+1)) (SetTable.bits (hs.getD i 0)))[n]?=some j/\∀m:Nat,m<n->∀j':Nat,(walk mask (SetTable.turns mask) (SetTable.bits (hs.getD i 0)%(mask+1)) (SetTable.bits (hs.getD i 0)))[m]?=some j'->∃o,owner[j']?=some (some o)
 lt:∀j i:Nat,owner[j]?=some (some i)->i<k
 inj:∀j j' i:Nat,owner[j]?=some (some i)->owner[j']?=some (some i)->j=j'
theorem Own.nil (mask:Nat)(hs:List Int):Own mask hs (Array.replicate (mask+1) none) 0:=by
 refine⟨by simp,by rw [Array.toList_replicate,List.countP_replicate];rfl,fun i h=>absurd h (Nat.not_lt_zero _),fun j i h=>?_,fun j j' i h=>?_⟩
 ·rw [Array.getElem?_replicate] at h
  split at h<;>cases h
 ·rw [Array.getElem?_replicate] at h
  split at h<;>cases h
theorem count_set {l:List (Option Nat)}:∀{j:Nat} (k:Nat),l[j]?=some none->(l.set j (some k)).countP (fun o=>o.isNone)+1=l.countP fun o=>o.isNone:=by
 induction l with
 | nil=>exact fun _ h=>by simp at h
 | cons o r ih =>
  intro j k h
  cases j with
  | zero =>
   have:o=none:=by simpa using h
   subst this
   simp [countP_cons]
  | succ j =>
   have:=ih k (by simpa using h)
   rw [List.set_cons_succ,countP_cons,countP_cons]
   omega
theorem zjg {l:List (Option Nat)}(h:0<l.countP fun o=>o.isNone):∃j:Nat,l[j]?=some none:=by
 obtain⟨o,ho,hn⟩:=List.countP_pos_iff.mp h
 obtain⟨j,hj⟩:=List.mem_iff_getElem?.mp ho
 refine⟨j,?_⟩
 rw [hj]
 cases o with
 | none=>rfl
 | some _=>cases hn
theorem getD_none {owner:Array (Option Nat)}{j:Nat}:(owner.getD j (some 0)).isNone=true↔owner[j]?=some none:=by
 by_cases h:j<owner.size
 ·have e:owner[j]?=some (owner.getD j (some 0)):=by simp [Array.getD,h]
  rw [e]
  cases owner.getD j (some 0)<;>simp
 ·have e:owner.getD j (some 0)=some 0:=by simp [Array.getD,h]
  rw [e,getElem?_eq_none (by omega)]
  simp
theorem zex (mask:Nat):∀(f i p:Nat),i<mask+1->∀j∈walk mask f i p,j<mask+1
 | 0,_,_,_,_,h=>nomatch h
 | f+1,i,p,hi,j,h=>by
  rw [walk] at h
  rcases List.mem_append.mp h with h | h
  ·unfold run at h
   obtain⟨k,hk,rfl⟩:=List.mem_map.mp h
   have hk':=List.mem_range.mp hk
   have:SetTable.runEnd mask i<=mask:=by
    unfold SetTable.runEnd
    split<;>omega
   omega
  ·exact zex mask f _ _ (mod_lt _ (succ_pos _)) j h
theorem Own.step {mask:Nat}(hm:mask=7\/mask=31\/mask=127){hs:List Int}{owner:Array (Option Nat)}{k:Nat}(O:Own mask hs owner k)(hk:k<mask+1):∃j,SetTable.layClean.free mask owner (SetTable.turns mask) (SetTable.bits (hs.getD k 0)%(mask+1)) (SetTable.bits (hs.getD k 0))=some j/\Own mask hs (owner.setIfInBounds j (some k)) (k+1):=by
 obtain⟨e,he⟩:=zjg (l:=owner.toList) (by have:=O.few;omega)
 rw [getElem?_toList] at he
 have hel:e<owner.size:=by
  rcases lt_or_ge e owner.size with q | q
  ·exact q
  ·rw [getElem?_eq_none q] at he
   cases he
 have hw:=zfC hm (hs.getD k 0) (e:=e) (by have:=O.sz;omega)
 rw [zig]
 cases hf:(walk mask (SetTable.turns mask) (SetTable.bits (hs.getD k 0)%(mask+1)) (SetTable.bits (hs.getD k 0))).find? fun j=>(owner.getD j (some 0)).isNone with
 | none =>
  have:=List.find?_eq_none.mp hf e hw
  exact absurd (getD_none.mpr he) this
 | some j =>
  refine⟨j,rfl,?_⟩
  have hj:owner[j]?=some none:=getD_none.mp (List.find?_some (p:=fun j=>(owner.getD j (some 0)).isNone) hf)
  have hjl:j<owner.size:=by
   rcases lt_or_ge j owner.size with q | q
   ·exact q
   ·rw [getElem?_eq_none q] at hj
    cases hj
  have get:∀i:Nat,(owner.setIfInBounds j (some k))[i]?=if j=i then some (some k) else owner[i]?:=fun i=>by
   rw [Array.getElem?_setIfInBounds]
   by_cases h:j=i
   ·rw [if_pos h,if_pos h]
    simp [hjl]
   ·rw [if_neg h,if_neg h]
  have keep:∀(i o:Nat),owner[i]?=some (some o)->(owner.setIfInBounds j (some k))[i]?=some (some o):=fun i o h=>by
   rw [get,if_neg (fun z=>by rw [<- z,hj] at h;cases h)]
   exact h
  refine⟨by rw [Array.size_setIfInBounds];exact O.sz,?_,fun i hi=>?_,fun j' i h=>?_,fun j1 j2 i h1 h2=>?_⟩
  ·rw [Array.toList_setIfInBounds]
   have:=count_set (l:=owner.toList) (j:=j) k (by rw [getElem?_toList];exact hj)
   have:=O.few
   omega
  ·by_cases hik:i=k
   ·subst hik
    refine⟨j,by rw [get,if_pos rfl],?_⟩
    obtain⟨_,as,bs,hab,hn⟩:=List.find?_eq_some_iff_append.mp hf
    refine⟨as.length,by rw [hab];simp,fun m hm' j' hj'=>?_⟩
    rw [hab,getElem?_append_left hm'] at hj'
    have hmem:=mem_of_getElem? hj'
    have hnn:=hn j' hmem
    have hjw:j'∈walk mask (SetTable.turns mask) (SetTable.bits (hs.getD i 0)%(mask+1)) (SetTable.bits (hs.getD i 0)):=by
     rw [hab]
     exact mem_append_left _ hmem
    cases ho:owner[j']? with
    | none =>
     have:=zex mask (SetTable.turns mask) _ _ (mod_lt _ (succ_pos _)) j' hjw
     rw [Array.getElem?_eq_some_iff.mpr ⟨by rw [O.sz];exact this,rfl⟩] at ho
     cases ho
    | some o =>
     cases o with
     | none =>
      rw [getD_none.mpr ho] at hnn
      cases hnn
     | some o=>exact⟨o,keep j' o ho⟩
   ·obtain⟨j0,a,n,b,c⟩:=O.at_ i (by omega)
    refine⟨j0,keep _ _ a,n,b,fun m hm' j' hj'=>?_⟩
    obtain⟨o,ho⟩:=c m hm' j' hj'
    exact⟨o,keep _ _ ho⟩
  ·rw [get] at h
   split at h
   ·have:k=i:=by simpa using h
    omega
   ·have:=O.lt j' i h
    omega
  ·rw [get] at h1 h2
   split at h1<;>split at h2
   ·omega
   ·have:k=i:=by simpa using h1
    have:=O.lt j2 i h2
    omega
   ·have:k=i:=by simpa using h2
    have:=O.lt j1 i h1
    omega
   ·exact O.inj j1 j2 i h1 h2
theorem zfD {mask:Nat}(hm:mask=7\/mask=31\/mask=127)(hs:List Int)(hl:hs.length<=mask+1):∀(l done:List Int) (owner:Array (Option Nat)),hs=done++l->Own mask hs owner done.length ->
  ∃owner',l.foldl (fun (acc:Option (Array (Option Nat)×Nat)) h=>do
   let (owner,k) <- acc
   let j <- SetTable.layClean.free mask owner (SetTable.turns mask) (SetTable.bits h%(mask+1)) (SetTable.bits h)
   pure (owner.setIfInBounds j (some k),k+1)) (some (owner,done.length))=some (owner',hs.length)/\Own mask hs owner' hs.length
 | [],done,owner,e,O=>by
  rw [append_nil] at e
  subst e
  exact⟨owner,rfl,O⟩
 | h::r,done,owner,e,O=>by
  have hd:hs.getD done.length 0=h:=by
   rw [e]
   simp [List.getD]
  have hlen:done.length<mask+1:=by
   have:hs.length=done.length+(r.length+1):=by rw [e,length_append,length_cons]
   omega
  obtain⟨j,hj,O'⟩:=O.step hm hlen
  rw [hd] at hj
  obtain⟨owner',h1,h2⟩:=zfD hm hs hl r (done++[h]) (owner.setIfInBounds j (some done.length)) (by rw [e,append_assoc];rfl) (by rw [length_append];exact O')
  refine⟨owner',?_,h2⟩
  rw [length_append] at h1
  rw [foldl_cons]
  have e1:(do
   let (owner,k) <- (some (owner,done.length):Option (Array (Option Nat)×Nat))
   let j <- SetTable.layClean.free mask owner (SetTable.turns mask) (SetTable.bits h%(mask+1)) (SetTable.bits h)
   pure (owner.setIfInBounds j (some k),k+1))=some (owner.setIfInBounds j (some done.length),done.length+1):=by
   show (SetTable.layClean.free mask owner (SetTable.turns mask) (SetTable.bits h%(mask+1)) (SetTable.bits h)).bind _=_
   rw [hj]
   rfl
  rw [e1]
  exact h1
theorem znA {mask:Nat}(hm:mask=7\/mask=31\/mask=127)(hashes:Array Int)(hl:hashes.size<=mask+1):∃owner,SetTable.layClean mask hashes=some owner/\Own mask hashes.toList owner hashes.size:=by
 obtain⟨owner,h1,h2⟩:=zfD hm hashes.toList (by rw [length_toList];exact hl) hashes.toList [] _ rfl (Own.nil mask _)
 rw [length_toList] at h1 h2
 refine⟨owner,?_,h2⟩
 unfold SetTable.layClean
 rw [<- Array.foldl_toList]
 exact congrArg (Option.map (·.1)) h1
noncomputable def qM (mask:Nat)(owner:Array (Option Nat)):List (Nat×Nat):=(List.range (mask+1)).filterMap fun j=>(owner.getD j none).map (j,·)
theorem Jz {mask:Nat}{owner:Array (Option Nat)}(sz:owner.size=mask+1){j i:Nat}:(j,i)∈qM mask owner↔owner[j]?=some (some i):=by
 unfold qM
 rw [List.mem_filterMap]
 constructor
 ·rintro⟨a,ha,h⟩
  have hl:a<owner.size:=by rw [sz];exact List.mem_range.mp ha
  have e:owner[a]?=some (owner.getD a none):=by simp [Array.getD,hl]
  cases ho:owner.getD a none with
  | none =>
   rw [ho] at h
   cases h
  | some b =>
   rw [ho] at h
   have hb:(a,b)=(j,i):=Option.some.inj h
   cases hb
   rw [e,ho]
 ·intro h
  have hl:j<owner.size:=by
   rcases lt_or_ge j owner.size with q | q
   ·exact q
   ·rw [getElem?_eq_none q] at h
    cases h
  have e:owner[j]?=some (owner.getD j none):=by simp [Array.getD,hl]
  refine⟨j,List.mem_range.mpr (by rw [<- sz];exact hl),?_⟩
  rw [e] at h
  rw [Option.some.inj h]
  rfl
theorem zih (mask:Nat)(owner:Array (Option Nat)):(qM mask owner).Pairwise fun a b=>a.1<b.1:=by
 unfold qM
 rw [List.pairwise_filterMap]
 refine List.pairwise_lt_range.imp fun {a b} hab x hx y hy=>?_
 cases h1:owner.getD a none with
 | none=>rw [h1] at hx;cases hx
 | some p =>
  cases h2:owner.getD b none with
  | none=>rw [h2] at hy;cases hy
  | some q =>
   rw [h1] at hx
   rw [h2] at hy
   have e1:(a,p)=x:=Option.some.inj hx
   have e2:(b,q)=y:=Option.some.inj hy
   rw [<- e1,<- e2]
   exact hab
theorem zjh {mask:Nat}{hs:List Int}{owner:Array (Option Nat)}{k:Nat}(O:Own mask hs owner k):((qM mask owner).map (·.2)).Perm (List.range k):=by
 have nd:((qM mask owner).map (·.2)).Nodup:=by
  refine List.pairwise_map.mpr ((zih mask owner).imp_of_mem fun {a b} ha hb hab e=>?_)
  obtain⟨a1,a2⟩:=a
  obtain⟨b1,b2⟩:=b
  have e':a2=b2:=e
  subst e'
  have:=O.inj a1 b1 a2 ((Jz O.sz).mp ha) ((Jz O.sz).mp hb)
  have hab':a1<b1:=hab
  omega
 refine(List.perm_ext_iff_of_nodup nd List.nodup_range).mpr fun i=>?_
 rw [List.mem_range,List.mem_map]
 constructor
 ·rintro⟨⟨j,i'⟩,hm,rfl⟩
  exact O.lt j _ ((Jz O.sz).mp hm)
 ·intro hi
  obtain⟨j,hj,_⟩:=O.at_ i hi
  exact⟨(j,i),(Jz O.sz).mpr hj,rfl⟩
theorem zmb {mask:Nat}(hm:mask=7\/mask=31\/mask=127)(finger moves:Nat)(led plain:Bool)(hashes:Array Int)(hl:hashes.size<=mask+1):∃place order,SetTable.laid mask finger moves led plain hashes=some ({ mask:=mask,place:=place,dummies:=#[],finger:=finger,led:=led,moves:=moves,plain:=plain },order) /\
  Up place/\place.size=hashes.size/\order.size=hashes.size/\order.toList.Perm (List.range hashes.size)/\(∀i,i<place.size->place.getD i 0<mask+1) /\
  ∀i,i<place.size->Reach { mask:=mask,place:=place,dummies:=#[],finger:=finger,led:=led,moves:=moves,plain:=plain } (hashes.toList.getD (order.getD i 0) 0) (place.getD i 0):=by
 obtain⟨owner,h1,O⟩:=znA hm hashes hl
 have perm:=zjh O
 have up:=zih mask owner
 have ll:(qM mask owner).length=hashes.size:=by
  have:=perm.length_eq
  rw [length_map,length_range] at this
  exact this
 have pg:∀i (h:i<(qM mask owner).length),((qM mask owner).map (·.1)).toArray.getD i 0=((qM mask owner)[i]).1:=fun i h=>by
  simp [Array.getD,h]
 have og:∀i (h:i<(qM mask owner).length),((qM mask owner).map (·.2)).toArray.getD i 0=((qM mask owner)[i]).2:=fun i h=>by
  simp [Array.getD,h]
 refine⟨((qM mask owner).map (·.1)).toArray,((qM mask owner).map (·.2)).toArray,?_,fun i j hij hj=>?_,by simp [ll],by simp [ll],perm,fun i hi=>?_,fun i hi=>?_⟩
 ·unfold SetTable.laid
  rw [h1]
  rfl
 ·have hj':j<(qM mask owner).length:=by simpa using hj
  rw [pg i (by omega),pg j hj']
  exact List.pairwise_iff_getElem.mp up i j (by omega) hj' hij
 ·have hi':i<(qM mask owner).length:=by simpa using hi
  rw [pg i hi']
  have hmem:=getElem_mem hi'
  have:=(Jz O.sz (j:=(qM mask owner)[i].1) (i:=(qM mask owner)[i].2)).mp hmem
  rw [<- O.sz]
  rcases lt_or_ge (qM mask owner)[i].1 owner.size with q | q
  ·exact q
  ·rw [getElem?_eq_none q] at this
   cases this
 ·have hi':i<(qM mask owner).length:=by simpa using hi
  rw [pg i hi',og i hi']
  have hmem:=getElem_mem hi'
  have ho:=(Jz O.sz (j:=(qM mask owner)[i].1) (i:=(qM mask owner)[i].2)).mp hmem
  obtain⟨j0,a,n,b,c⟩:=O.at_ _ (O.lt _ _ ho)
  have ej:=O.inj _ _ _ a ho
  rw [ej] at b
  refine⟨n,b,fun k hk j' hj'=>?_⟩
  obtain⟨o,hoo⟩:=c k hk j' hj'
  obtain⟨x,hx,ex⟩:=List.getElem_of_mem ((Jz O.sz).mpr hoo)
  refine⟨x,by simpa using hx,?_⟩
  show ((qM mask owner).map (·.1)).toArray.getD x 0=j'
  rw [pg x hx,ex]
structure Good (t:SetTable)(hs:Array Int):Prop where
 mask:t.mask=7\/t.mask=31\/t.mask=127
 sz:t.place.size=hs.size
 dum:t.dummies=#[]
 up:Up t.place
 le:∀i,i<t.place.size->t.place.getD i 0<t.mask+1
 room:t.place.size*5<t.mask*3
 reach:∀i,i<t.place.size->Reach t (hs.toList.getD i 0) (t.place.getD i 0)
theorem Good.free {t:SetTable}{hs:Array Int}(G:Good t hs):∃e,e<t.mask+1/\∀i,i<t.place.size->t.place.getD i 0≠e:=by
 refine Classical.byContradiction fun hn=>?_
 have all:∀e,e<t.mask+1->∃i,i<t.place.size/\t.place.getD i 0=e:=fun e he=>Classical.byContradiction fun h2=>hn ⟨e,he,fun i hi z=>h2 ⟨i,hi,z⟩⟩
 have hr:=G.room
 have id_:∀e,e<t.mask+1->∃i,i<t.place.size/\e<=i:=fun e=>by
  induction e with
  | zero=>exact fun h=>let ⟨i,hi,_⟩:=all 0 h;⟨i,hi,zero_le _⟩
  | succ e ih =>
   intro h
   obtain⟨i,hi,hei⟩:=all (e+1) h
   obtain⟨i0,hi0,hei0⟩:=all e (by omega)
   have cnt:∀d,d<=e+1->∃i,i<t.place.size/\t.place.getD i 0=d/\d<=i:=fun d=>by
    induction d with
    | zero=>exact fun _=>let ⟨i,hi,he⟩:=all 0 (by omega);⟨i,hi,he,zero_le _⟩
    | succ d ihd =>
     intro hd
     obtain⟨a,ha,ea,la⟩:=ihd (by omega)
     obtain⟨b,hb,eb⟩:=all (d+1) (by omega)
     have:a<b:=by
      rcases Nat.lt_trichotomy a b with q | q | q
      ·exact q
      ·subst q
       omega
      ·have:=G.up b a q ha
       omega
     exact⟨b,hb,eb,by omega⟩
   obtain⟨x,hx,_,lx⟩:=cnt (e+1) (le_refl _)
   exact⟨x,hx,lx⟩
 obtain⟨i,hi,le⟩:=id_ t.mask (by omega)
 omega
theorem Good.found {t:SetTable}{hs:Array Int}(G:Good t hs)(hashAt:Nat->Int)(hh:∀i,i<hs.size->hashAt i=hs.toList.getD i 0)(nd:hs.toList.Nodup){i:Nat}(hi:i<hs.size):∃nx,t.probe hashAt (hs.toList.getD i 0) (t.probeStart (hs.toList.getD i 0))=some (.candidate (t.place.getD i 0) i nx):=by
 have gd:∀k (h:k<hs.size),hs.toList.getD k 0=hs.toList[k]'(by rw [length_toList];exact h):=fun k h=>by
  rw [getD_eq_getElem?_getD,getElem?_eq_getElem (by rw [length_toList];exact h)]
  rfl
 refine zfA G.up hashAt (by rw [G.sz];exact hi) (hh i hi) (fun i' hi' e=>?_) (G.reach i (by rw [G.sz];exact hi))
 rw [G.sz] at hi'
 rw [hh i' hi',gd i' hi',gd i hi] at e
 exact(List.getElem_inj nd).mp e
theorem Good.missed {t:SetTable}{hs:Array Int}(G:Good t hs)(hashAt:Nat->Int)(hh:∀i,i<hs.size->hashAt i=hs.toList.getD i 0){h:Int}(no:h ∉ hs.toList):∃j,t.probe hashAt h (t.probeStart h)=some (.empty j none)/\j<t.mask+1/\(∀i,i<t.place.size->t.place.getD i 0≠j)/\Reach t h j:=by
 obtain⟨e,he,hn⟩:=G.free
 have no':∀i,i<t.place.size->hashAt i≠h:=fun i hi z=>by
  rw [G.sz] at hi
  rw [hh i hi,getD_eq_getElem?_getD,getElem?_eq_getElem (by rw [length_toList];exact hi)] at z
  have z':hs.toList[i]'(by rw [length_toList];exact hi)=h:=z
  exact no (z' ▸ getElem_mem _)
 obtain⟨j,h1,h2,h3,h4⟩:=zew G.up G.dum hashAt (h:=h) no' hn (zfC G.mask h he)
 refine⟨j,h1,zex _ _ _ _ (mod_lt _ (succ_pos _)) j h4,fun i hi z=>?_,h3⟩
 rw [<- z,Zg G.up hi] at h2
 cases h2
theorem Good.put {t:SetTable}{hs:Array Int}(G:Good t hs){h:Int}{j:Nat}(hj:j<t.mask+1)(he:∀i,i<t.place.size->t.place.getD i 0≠j)(R:Reach t h j)(room:(t.place.size+1)*5<t.mask*3):Good (t.put j).1 (SetTable.insertAt hs (t.put j).2 h):=by
 obtain⟨e2,e1,U⟩:=zkv G.up G.dum he
 have b:=Zf G.up j
 rw [e2,e1]
 have bs:SetTable.below t.place j<=hs.size:=by rw [<- G.sz];exact b.1
 have hget:∀i,(SetTable.insertAt hs (SetTable.below t.place j) h).toList.getD i 0=if i<SetTable.below t.place j then hs.toList.getD i 0 else if i=SetTable.below t.place j then h else hs.toList.getD (i-1) 0:=fun i=>by
  rw [getD_eq_getElem?_getD,getElem?_toList,zku hs bs]
  split
  ·rw [getD_eq_getElem?_getD,getElem?_toList]
  ·split
   ·rfl
   ·rw [getD_eq_getElem?_getD,getElem?_toList]
 have more:∀{h':Int} {j':Nat},Reach t h' j'->Reach { t with place:=SetTable.insertAt t.place (SetTable.below t.place j) j } h' j':=fun R'=>Reach.more (t:=t) (t':={ t with place:=SetTable.insertAt t.place (SetTable.below t.place j) j }) rfl (zkw G.up j) R'
 refine⟨G.mask,?_,G.dum,U,fun i hi=>?_,?_,fun i hi=>?_⟩
 ·show (SetTable.insertAt t.place _ j).size=_
  rw [jC _ b.1,jC _ bs,G.sz]
 ·have hi':i<t.place.size+1:=by
   have:=hi
   rw [show ({ t with place:=SetTable.insertAt t.place (SetTable.below t.place j) j }:SetTable).place=SetTable.insertAt t.place (SetTable.below t.place j) j from rfl,jC _ b.1] at this
   exact this
  show (SetTable.insertAt t.place _ j).getD i 0<t.mask+1
  rw [Zi _ b.1 _ _ hi']
  split
  ·exact G.le i (by omega)
  ·split
   ·exact hj
   ·exact G.le (i-1) (by omega)
 ·show (SetTable.insertAt t.place _ j).size*5<t.mask*3
  rw [jC _ b.1]
  exact room
 ·have hi':i<t.place.size+1:=by
   have:=hi
   rw [show ({ t with place:=SetTable.insertAt t.place (SetTable.below t.place j) j }:SetTable).place=SetTable.insertAt t.place (SetTable.below t.place j) j from rfl,jC _ b.1] at this
   exact this
  show Reach _ _ ((SetTable.insertAt t.place _ j).getD i 0)
  rw [hget,Zi _ b.1 _ _ hi']
  by_cases h1:i<SetTable.below t.place j
  ·rw [if_pos h1,if_pos h1]
   exact more (G.reach i (by omega))
  ·rw [if_neg h1,if_neg h1]
   by_cases h2:i=SetTable.below t.place j
   ·rw [if_pos h2,if_pos h2]
    exact more R
   ·rw [if_neg h2,if_neg h2]
    exact more (G.reach (i-1) (by omega))
theorem zg3 (t:SetTable)(hs:Array Int)(hn:hs.size=5\/hs.size=19):∃t' order,t.relaid hs (SetTable.grown hs.size)=some (t',order)/\order.size=hs.size/\order.toList.Perm (List.range hs.size)/\t'.led=t.led/\t'.plain=t.plain/\t'.place.size=hs.size/\Good t' (order.map fun i=>hs.toList.getD i 0):=by
 have key:∀mask,(mask=7\/mask=31\/mask=127)->hs.size<=mask+1->hs.size*5<mask*3->SetTable.sizeAbove (SetTable.grown hs.size)-1=mask->∃t' order,t.relaid hs (SetTable.grown hs.size)=some (t',order)/\order.size=hs.size/\order.toList.Perm (List.range hs.size)/\t'.led=t.led/\t'.plain=t.plain/\t'.place.size=hs.size/\Good t' (order.map fun i=>hs.toList.getD i 0):=fun mask hm hl hr em=>by
  obtain⟨place,order,h1,h2,h3,h4,h5,h6,h7⟩:=zmb hm t.finger (t.movedTo mask) t.led t.plain hs hl
  refine⟨{ mask:=mask,place:=place,dummies:=#[],finger:=t.finger,led:=t.led,moves:=t.movedTo mask,plain:=t.plain },order,?_,h4,h5,rfl,rfl,h3,hm,?_,rfl,h2,h6,?_,fun i hi=>?_⟩
  ·unfold SetTable.relaid
   rw [em]
   exact h1
  ·show place.size=_
   rw [size_map,h3,h4]
  ·show place.size*5<mask*3
   rw [h3]
   exact hr
  ·have hi':i<order.size:=by
    have:i<place.size:=hi
    omega
   have e:(order.map fun i=>hs.toList.getD i 0).toList.getD i 0=hs.toList.getD (order.getD i 0) 0:=by
    rw [getD_eq_getElem?_getD,getElem?_toList,Array.getElem?_map,Jy hi']
    rfl
   rw [e]
   exact h7 i hi
 rcases hn with e | e
 ·exact key 31 (.inr (.inl rfl)) (by omega) (by omega) (by rw [e];decide +kernel)
 ·exact key 127 (.inr (.inr rfl)) (by omega) (by omega) (by rw [e];decide +kernel)
end ST
namespace ST
noncomputable def qt (es:Array (Int×Value))(ep:Nat)(t:SetTable):Obj:={ cls:=.type "set",dict:=none,data:=.set es ep t }
noncomputable def kP (p:Int×Int):List Key:=[.inl p.1,.inl p.2]
def InB (p:Int×Int):Prop:=(0<=p.1/\p.1<8)/\(0<=p.2/\p.2<8)
def hP (prog:Program)(w:World)(p:Int×Int):Int:=(tk2 prog w).hash (kP p)
section
variable {prog:Program}{w:World}{A:Around}{E:Value->Shared->Prop}{s:Shared}{a:Addr}{es:Array (Int×Value)}{ep:Nat}{t:SetTable}
theorem znB {p q:Int×Int}(hp:InB p)(hq:InB q)(e:hP prog w p=hP prog w q):p=q:=by
 obtain⟨p1,p2⟩:=p
 obtain⟨q1,q2⟩:=q
 obtain⟨⟨a1,a2⟩,a3,a4⟩:=hp
 obtain⟨⟨b1,b2⟩,b3,b4⟩:=hq
 simp only at a1 a2 a3 a4 b1 b2 b3 b4
 obtain⟨i,rfl⟩:∃i:Nat,p1=i:=⟨p1.toNat,by omega⟩
 obtain⟨j,rfl⟩:∃i:Nat,p2=i:=⟨p2.toNat,by omega⟩
 obtain⟨k,rfl⟩:∃i:Nat,q1=i:=⟨q1.toNat,by omega⟩
 obtain⟨l,rfl⟩:∃i:Nat,q2=i:=⟨q2.toNat,by omega⟩
 unfold hP kP at e
 rw [Q5,Q5] at e
 obtain⟨c,d⟩:=zkr (by omega) (by omega) (by omega) (by omega) e
 rw [c,d]
theorem JA {h:Heap}{x:Addr}{p:Int×Int}(h1:zE h (.ref x) p):(tk2 prog w).is h (kP p) x:=by
 obtain⟨b,o,n,t,u,e,e1,e2,e3⟩:=h1
 cases e
 exact⟨o,#[.int p.1 t,.int p.2 u],n,e1,e2,e3,.cons (zay p.1 t) (.cons (zay p.2 u) .nil)⟩
theorem Good.fits {hs:Array Int}(G:Good t hs):t.fits hs.size=true:=by
 have h1:=G.sz
 have h2:=G.room
 unfold SetTable.fits SetTable.fill
 rw [G.dum,h1]
 simp
 omega
theorem Good.odd {hs:Array Int}(G:Good t hs):t.gaveWay=false:=by
 unfold SetTable.gaveWay
 rcases G.mask with e | e | e<;>rw [e]<;>rfl
theorem xG {Q:Array (Int×Value)×Nat×SetTable->Shared->Prop}(ho:s.heap.get? a=some (qt es ep t))(G:Good t (es.map (·.1)))(q:Q (es,ep,t) s):wpAny (model prog w) A (setState a) Q E s:=by
 refine wpAny_setState_of ho rfl ?_ q
 have:=G.fits
 rwa [size_map] at this
theorem zey (i:Nat)(hi:i<(es.map (·.1)).size):(es[i]?.map (·.1)).getD 0=(es.map (·.1)).toList.getD i 0:=by
 rw [getD_eq_getElem?_getD,getElem?_toList,Array.getElem?_map]
theorem zcZ {n:Nat}{h:Int}{x:Value}{Q:SetFound->Shared->Prop}(ho:s.heap.get? a=some (qt es ep t))(G:Good t (es.map (·.1)))(no:h ∉ (es.map (·.1)).toList)
  (hQ:∀j,j<t.mask+1->(∀i,i<t.place.size->t.place.getD i 0≠j)->Reach t h j->Q (.free j false) s):wpAny (model prog w) A (setSearchFrom a x h true (n+1) none) Q E s:=by
 obtain⟨j,e,h1,h2,h3⟩:=G.missed (fun i=>(es[i]?.map (·.1)).getD 0) zey no
 rw [setSearchFrom]
 refine wpAny_bind (xG ho G ?_)
 dsimp only
 rw [G.odd,if_neg Bool.false_ne_true]
 generalize hm:t.probe _ h _=m
 have em:m=some (.empty j none):=hm.symm.trans e
 subst em
 exact wpAny_pure (hQ j h1 h2 h3)
theorem zdB {d:Nat}{x:Addr}{p:Int×Int}{Q:Bool->Shared->Prop}(hx:zE s.heap (.ref x) p)(q:Q false s):wpAny (model prog w) A (ofAClassStatement 8 (.ref x)) Q E s:=by
 obtain⟨b,o,n,t,u,e,e1,e2,e3⟩:=hx
 cases e
 have hT:s.TypeIs (.ref x) "tuple":=⟨o,e1,e2⟩
 unfold ofAClassStatement
 refine wpAny_bind (wpAny_typeOf hT ?_)
 dsimp only
 rw [if_pos (by decide)]
 refine wpAny_bind (wpAny_pure ?_)
 rw [if_neg (by decide)]
 refine wpAny_bind (wpAny_seqItems e1 e3 ?_)
 dsimp only
 refine wpAny_bind ?_
 rw [<- Array.forIn_toList]
 refine wpAny_forIn_list _ (fun rest r s'=>r.1=none/\s'=s/\∀v∈rest,∃i t,v=Value.int i t) _ ?_ ?_ _ _ ⟨rfl,rfl,fun v hv=>?_⟩
 ·rintro v rest r s' ⟨hr,rfl,hall⟩
  obtain⟨i,t,rfl⟩:=hall v mem_cons_self
  rw [show ofAClassStatement 7 (Value.int i t)=pure false by unfold ofAClassStatement;rfl]
  refine wpAny_bind (wpAny_pure ?_)
  rw [if_neg Bool.false_ne_true]
  exact wpAny_pure ⟨rfl,rfl,fun u hu'=>hall u (mem_cons_of_mem _ hu')⟩
 ·rintro⟨r1,r2⟩ s' ⟨hr,rfl,_⟩
  simp only at hr
  subst hr
  exact wpAny_pure q
 ·simp at hv
  rcases hv with rfl | rfl
  ·exact⟨_,_,rfl⟩
  ·exact⟨_,_,rfl⟩
theorem zkx {x:Addr}{p:Int×Int}{l:List Value}{Q:Bool->Shared->Prop}(hx:zE s.heap (.ref x) p)(hl:∀v∈l,∃b q,v=.ref b/\zE s.heap (.ref b) q)(q:Q false s):wpAny (model prog w) A (searchCouldBeSeen (.ref x) l) Q E s:=by
 unfold searchCouldBeSeen
 refine wpAny_bind ?_
 refine wpAny_forIn_list _ (fun rest r s'=>r.1=none/\s'=s/\∀v∈rest,∃b q,v=.ref b/\zE s.heap (.ref b) q) _ ?_ ?_ _ _ ⟨rfl,rfl,hl⟩
 ·rintro v rest r s' ⟨hr,rfl,hall⟩
  obtain⟨b,q',rfl,hb⟩:=hall v mem_cons_self
  dsimp only
  split
  ·exact wpAny_pure ⟨rfl,rfl,fun u hu'=>hall u (mem_cons_of_mem _ hu')⟩
  ·refine wpAny_bind ((tk2 prog w).quiet (JA hx) ?_)
   rw [if_neg (by decide)]
   refine wpAny_bind ((tk2 prog w).quiet (JA hb) ?_)
   rw [if_neg (by decide)]
   refine wpAny_bind (zdB (d:=0) hx ?_)
   rw [if_neg Bool.false_ne_true]
   refine wpAny_bind (zdB (d:=0) hb ?_)
   rw [if_neg Bool.false_ne_true]
   exact wpAny_pure ⟨rfl,rfl,fun u hu'=>hall u (mem_cons_of_mem _ hu')⟩
 ·rintro⟨r1,r2⟩ s' ⟨hr,rfl,_⟩
  simp only at hr
  subst hr
  exact wpAny_pure q
theorem zky {x:Addr}{p:Int×Int}{Q:Bool->Shared->Prop}(hx:zE s.heap (.ref x) p)(q:Q true s):wpAny (model prog w) A (hashByValue 8 (.ref x)) Q E s:=by
 obtain⟨b,o,n,t,u,e,e1,e2,e3⟩:=hx
 cases e
 have hT:s.TypeIs (.ref x) "tuple":=⟨o,e1,e2⟩
 unfold hashByValue
 refine wpAny_bind (wpAny_specialOf hT PySem.F.slot_tuple_hash.lookup ?_)
 dsimp only
 refine wpAny_bind (wpAny_seqItems e1 e3 ?_)
 dsimp only [Option.getD]
 refine wpAny_bind ?_
 rw [<- Array.forIn_toList]
 refine wpAny_forIn_list _ (fun rest r s'=>r.1=none/\s'=s/\∀v∈rest,∃i t,v=Value.int i t) _ ?_ ?_ _ _ ⟨rfl,rfl,fun v hv=>?_⟩
 ·rintro v rest r s' ⟨hr,rfl,hall⟩
  obtain⟨i,t,rfl⟩:=hall v mem_cons_self
  rw [show hashByValue 7 (Value.int i t)=pure true by unfold hashByValue;rfl]
  refine wpAny_bind (wpAny_pure ?_)
  rw [if_neg (by decide)]
  exact wpAny_pure ⟨rfl,rfl,fun u hu'=>hall u (mem_cons_of_mem _ hu')⟩
 ·rintro⟨r1,r2⟩ s' ⟨hr,rfl,_⟩
  simp only at hr
  subst hr
  exact wpAny_pure q
 ·simp at hv
  rcases hv with rfl | rfl
  ·exact⟨_,_,rfl⟩
  ·exact⟨_,_,rfl⟩
theorem zez {n:Nat}{h:Int}{x b:Addr}{p:Int×Int}{i:Nat}{Q:SetFound->Shared->Prop}(hu:A.units<cLine)(ho:s.heap.get? a=some (qt es ep t))(G:Good t (es.map (·.1)))(nd:(es.map (·.1)).toList.Nodup)
  (all:∀e∈es.toList,∃b q,e.2=Value.ref b/\zE s.heap (.ref b) q) (hi:es[i]?=some (h,.ref b)) (hx:zE s.heap (.ref x) p) (hb:zE s.heap (.ref b) p)
  (hQ:Q (.there none) s):wpAny (model prog w) A (setSearchFrom a (.ref x) h true (n+1) none) Q E s:=by
 have hlt:i<(es.map (·.1)).size:=by
  rw [size_map]
  exact(Array.getElem?_eq_some_iff.mp hi).1
 have eh:(es.map (·.1)).toList.getD i 0=h:=by
  rw [<- zey i hlt,hi]
  rfl
 obtain⟨nx,e⟩:=G.found (fun i=>(es[i]?.map (·.1)).getD 0) zey nd hlt
 rw [eh] at e
 rw [setSearchFrom]
 refine wpAny_bind (xG ho G ?_)
 dsimp only
 rw [G.odd,if_neg Bool.false_ne_true]
 generalize hm:t.probe _ h _=m
 have em:m=some (.candidate (t.place.getD i 0) i nx):=hm.symm.trans e
 subst em
 dsimp only
 have seen:∀v∈(es.filter (·.1==h)).toList.map (·.2),∃b q,v=Value.ref b/\zE s.heap (.ref b) q:=fun v hv=>by
  obtain⟨e,he,rfl⟩:=List.mem_map.mp hv
  rw [Array.toList_filter] at he
  exact all e (List.mem_filter.mp he).1
 rw [hi]
 cases hl:t.led with
 | true =>
  rw [if_neg (by decide)]
  refine wpAny_bind (wpAny_holding ((tk2 prog w).eqBool hu (JA hb) (JA hx) ?_))
  refine wpAny_bind (xG ho G ?_)
  dsimp only
  rw [decide_eq_true rfl,if_pos (by decide)]
  exact wpAny_pure hQ
 | false =>
  rw [if_pos (by decide)]
  refine wpAny_bind (zkx hx seen ?_)
  rw [if_neg Bool.false_ne_true]
  refine wpAny_bind (wpAny_holding ((tk2 prog w).eqBool hu (JA hb) (JA hx) ?_))
  refine wpAny_bind (xG ho G ?_)
  dsimp only
  rw [decide_eq_true rfl,if_pos (by decide)]
  exact wpAny_pure hQ
end
end ST
namespace ST
noncomputable def zbS (f:Int×Int->Int)(q:Addr×(Int×Int)):Int×Value:=(f q.2,Value.ref q.1)
structure zc0 (f:Int×Int->Int)(led:Bool)(h:Heap)(a:Addr)(ks:List (Addr×(Int×Int))):Prop where
 ex:∃es ep t,h.get? a=some (qt es ep t)/\es.toList=ks.map (zbS f)/\Good t (es.map (·.1))/\t.led=led/\t.plain=true
 nd:(ks.map (·.2)).Nodup
 cells:∀q∈ks,zE h (.ref q.1) q.2
 inb:∀q∈ks,InB q.2
theorem zE.up {h h':Heap}{x:Addr}{p:Int×Int}(H:zE h (.ref x) p){a:Addr}(hs:Heap.SameBut a h h'){o:Obj}(ho:h.get? a=some o)(hc:o.cls=.type "set"):zE h' (.ref x) p:=by
 obtain⟨b,o',n,t,u,e,e1,e2,e3⟩:=H
 cases e
 refine⟨x,o',n,t,u,rfl,?_,e2,e3⟩
 rw [hs.2 x fun z=>?_]
 ·exact e1
 ·subst z
  rw [ho] at e1
  cases e1
  rw [hc] at e2
  exact absurd e2 (by decide)
section
variable {prog:Program}{w:World}{A:Around}{E:Value->Shared->Prop}{s:Shared}{a:Addr}{es:Array (Int×Value)}{ep:Nat}{t:SetTable}{ks:List (Addr×(Int×Int))}{f:Int×Int->Int}{led:Bool}
theorem ZQ (he:es.toList=ks.map (zbS f)):(es.map (·.1)).toList=ks.map fun q=>f q.2:=by
 rw [toList_map,he,map_map]
 rfl
theorem zji (inj:∀p q,InB p->InB q->f p=f q->p=q)(nd:(ks.map (·.2)).Nodup)(inb:∀q∈ks,InB q.2):(ks.map fun q=>f q.2).Nodup:=by
 rw [List.Nodup,List.pairwise_map] at nd ⊢
 refine nd.imp_of_mem fun {x y} hx hy h e=>h (inj _ _ (inb x hx) (inb y hy) e)
theorem zfE {es':Array (Int×Value)}{t':SetTable}{Q:Unit->Shared->Prop}(ho:s.heap.get? a=some (qt es ep t))(hz:es'.size<=64)
  (q:∀h',Heap.SameBut a s.heap h'->h'.get? a=some (qt es' (ep+1) t')->Q () { s with heap:=h' }):wpAny (model prog w) A (storeSet a es' t') Q E s:=by
 refine wpAny_storeSet_of (o:=qt es ep t) ho rfl (q _ (Heap.SameBut.update ..) ?_) (le_trans hz (by rw [sizeLine_eq];decide))
 have:=Heap.get?_update_self (Obj.putSet es' t') ho (by rw [putSet_of es' t' (o:=qt es ep t) rfl];rfl)
 rw [putSet_of es' t' (o:=qt es ep t) rfl] at this
 exact this
theorem zfF {α:Type}(d:α)(xs:Array α):∀(l:List Nat),(∀i∈l,i<xs.size)->l.filterMap (fun i=>xs[i]?)=l.map fun i=>xs.toList.getD i d
 | [],_=>rfl
 | i::l,h=>by
  have hi:=h i mem_cons_self
  rw [filterMap_cons,map_cons,Array.getElem?_eq_getElem hi]
  dsimp only
  rw [zfF d xs l fun j hj=>h j (mem_cons_of_mem _ hj)]
  congr 1
  rw [getD_eq_getElem?_getD,getElem?_toList,Array.getElem?_eq_getElem hi]
  rfl
theorem zeA {n:Nat}(hn:n=5\/n=19):¬ SetTable.sizeAbove (SetTable.grown n)>sizeLine:=by
 rw [sizeLine_eq]
 rcases hn with rfl | rfl
 ·rw [show SetTable.sizeAbove (SetTable.grown 5)=32 by decide +kernel]
  omega
 ·rw [show SetTable.sizeAbove (SetTable.grown 19)=128 by decide +kernel]
  omega
theorem zkz {Q:Unit->Shared->Prop}(ho:s.heap.get? a=some (qt es ep t))(hf:t.fits es.size=true)(hn:es.size=5\/es.size=19)(he:es.toList=ks.map (zbS f))
  (q:∀(h':Heap) (es':Array (Int×Value)) (t':SetTable) (ks':List (Addr×(Int×Int))),Heap.SameBut a s.heap h'->h'.get? a=some (qt es' (ep+1) t')->es'.toList=ks'.map (zbS f)->ks'.Perm ks->Good t' (es'.map (·.1))->t'.led=t.led->t'.plain=t.plain->Q () { s with heap:=h' }):wpAny (model prog w) A (setRelay a (SetTable.grown es.size)) Q E s:=by
 have hsz:(es.map (·.1)).size=es.size:=size_map ..
 obtain⟨t',order,e1,e2,e3,e4,e5,e6,e7⟩:=zg3 t (es.map (·.1)) (by rw [hsz];exact hn)
 rw [hsz] at e1 e2 e3 e6
 have hlt:∀i∈order.toList,i<es.size:=fun i hi=>List.mem_range.mp (e3.mem_iff.mp hi)
 have hkl:ks.length=es.size:=by
  rw [<- length_toList,he,length_map]
 have d0:Addr×(Int×Int):=(0,(0,0))
 have el:(order.filterMap (es[·]?)).toList=(order.toList.map fun i=>ks.getD i d0).map (zbS f):=by
  rw [Array.toList_filterMap,zfF (zbS f d0) es order.toList hlt,map_map]
  refine map_congr_left fun i hi=>?_
  have h1:=hlt i hi
  show es.toList.getD i _=zbS f (ks.getD i d0)
  rw [he,getD_eq_getElem?_getD,getElem?_map,getD_eq_getElem?_getD,getElem?_eq_getElem (by omega),map_some,getD_some,getD_some]
 have es_:(order.filterMap (es[·]?)).size=es.size:=by
  rw [<- length_toList,el,length_map,length_map,length_toList,e2]
 unfold setRelay
 refine wpAny_bind (wpAny_setState_of (o:=qt es ep t) ho rfl hf ?_)
 dsimp only
 rw [if_neg (zeA hn),e1]
 refine wpAny_bind ?_
 show wpAny (model prog w) A (do
  let es':=order.filterMap (es[·]?)
  if es'.size != es.size then unsupported "internal:set-table-lost-an-element"
  pure (es',t')) _ _ _
 dsimp only
 rw [es_,if_neg (by simp)]
 refine wpAny_pure ?_
 dsimp only
 refine zfE ho (by rw [es_];omega) fun h' h1 h2=>q h' _ t' _ h1 h2 el ?_ ?_ e4 e5
 ·have:=e3.map fun i=>ks.getD i d0
  rw [<- hkl,zgX] at this
  exact this
 ·have eh:(order.filterMap (es[·]?)).map (·.1)=order.map fun i=>(es.map (·.1)).toList.getD i 0:=by
   apply Array.toList_inj.mp
   rw [ZQ el,toList_map,map_map]
   refine map_congr_left fun i hi=>?_
   have h1:=hlt i hi
   show f (ks.getD i d0).2=_
   rw [ZQ he,getD_eq_getElem?_getD,getD_eq_getElem?_getD,getElem?_map,getElem?_eq_getElem (by omega),map_some,getD_some,getD_some]
  rw [eh]
  exact e7
theorem zkA {n:Nat}{x:Addr}{p:Int×Int}{Q:Bool->Shared->Prop}(inj:∀p q,InB p->InB q->f p=f q->p=q)(hu:A.units<cLine)(S:zc0 f led s.heap a ks)(hx:zE s.heap (.ref x) p)(hb:InB p)(hn:p ∉ ks.map (·.2)->ks.length<63)
  (q:∀(b:Bool) (h':Heap) (ks':List (Addr×(Int×Int))),Heap.SameBut a s.heap h'->zc0 f led h' a ks'->(∀c,c∈ks'.map (·.2)↔c∈ks.map (·.2)\/c=p)->(∀c∈ks',c∈ks\/c=(x,p))->Q b { s with heap:=h' }) :
  wpAny (model prog w) A (setAddHashedIn a (.ref x) (f p) (n+1)) Q E s:=by
 obtain⟨⟨es,ep,t,ho,he,G,hl,hp⟩,nd,hc,inb⟩:=S
 have hkl:ks.length=es.size:=by
  rw [<- length_toList,he,length_map]
 generalize hh:f p=h
 rw [setAddHashedIn]
 refine wpAny_bind (xG ho G ?_)
 dsimp only
 rw [show byScan (.ref x) es=false by simp [byScan,Value.scannable],if_neg Bool.false_ne_true]
 by_cases hm:p∈ks.map (·.2)
 ·obtain⟨⟨b,p'⟩,hk,e⟩:=List.mem_map.mp hm
  simp only at e
  subst e
  obtain⟨i,hi,ei⟩:=List.getElem_of_mem hk
  have eg:es[i]?=some (h,.ref b):=by
   rw [<- getElem?_toList,he,getElem?_map,getElem?_eq_getElem hi,ei,<- hh]
   rfl
  unfold setSearch
  refine wpAny_bind (zez (n:=99999) hu ho G (by rw [ZQ he];exact zji inj nd inb) (fun e hm'=>?_) eg hx (hc _ hk) ?_)
  ·rw [he] at hm'
   obtain⟨c,h1,rfl⟩:=List.mem_map.mp hm'
   exact⟨c.1,c.2,rfl,hc c h1⟩
  ·refine wpAny_pure (q false s.heap ks (Heap.SameBut.refl _ _) ⟨⟨es,ep,t,ho,he,G,hl,hp⟩,nd,hc,inb⟩ (fun c=>⟨.inl,fun z=>z.elim id fun z=>z ▸ hm⟩) fun c h1=>.inl h1)
 ·have hlen:=hn hm
  have no:h ∉ (es.map (·.1)).toList:=fun z=>by
   rw [ZQ he,<- hh] at z
   obtain⟨c,h1,h2⟩:=List.mem_map.mp z
   exact hm (List.mem_map.mpr ⟨c,h1,inj _ _ (inb c h1) hb h2⟩)
  unfold setSearch
  refine wpAny_bind (zcZ (n:=99999) ho G no fun j h1 h2 h3=>?_)
  dsimp only
  refine wpAny_bind (xG ho G ?_)
  obtain⟨f1,f2,f3⟩:=zkv G.up G.dum h2
  have hsz:t.place.size=es.size:=by rw [G.sz,size_map]
  have bs:SetTable.below t.place j<=es.size:=by
   rw [<- hsz]
   exact(Zf G.up j).1
  generalize hpos:SetTable.below t.place j=pos at f1 f2 f3 bs
  have ep1:(t.put j).1.plain=true:=by rw [f2];exact hp
  have el1:(t.put j).1.led=led:=by rw [f2];exact hl
  have hks:∃ks1,ks1=ks.take pos++(x,p)::ks.drop pos:=⟨_,rfl⟩
  obtain⟨ks1,hks⟩:=hks
  have he1:(SetTable.insertAt es pos (h,Value.ref x)).toList=ks1.map (zbS f):=by
   rw [Yq,he,hks,map_append,map_cons,map_take,List.map_drop]
   simp only [zbS,hh]
  have hsz1:(SetTable.insertAt es pos (h,Value.ref x)).size=es.size+1:=jC _ bs _
  have pm:ks1.Perm ((x,p)::ks):=by
   rw [hks]
   refine List.perm_middle.trans (List.Perm.cons _ ?_)
   rw [take_append_drop]
  have fits1:(t.put j).1.fits (SetTable.insertAt es pos (h,Value.ref x)).size=true:=by
   have hr:=G.room
   have bp:pos<=t.place.size:=by rw [hsz];exact bs
   rw [hsz1,f2]
   unfold SetTable.fits SetTable.fill
   simp only [G.dum,jC _ bp,hsz]
   rcases G.mask with e | e | e<;>simp [e]<;>rw [hsz,e] at hr<;>omega
  have fin:∀(h':Heap) (ks':List (Addr×(Int×Int))) (es':Array (Int×Value)) (ep':Nat) (t':SetTable),Heap.SameBut a s.heap h'->h'.get? a=some (qt es' ep' t')->es'.toList=ks'.map (zbS f)->ks'.Perm ((x,p)::ks)->Good t' (es'.map (·.1))->t'.led=led->t'.plain=true->Q true { s with heap:=h' }:=by
   intro h' ks' es' ep' t' hs hg hel hpm hG hle hpl
   have mem:∀c,c∈ks'↔c=(x,p)\/c∈ks:=fun c=>by rw [hpm.mem_iff,List.mem_cons]
   refine q true h' ks' hs ⟨⟨es',ep',t',hg,hel,hG,hle,hpl⟩,?_,fun c hc'=>?_,fun c hc'=>?_⟩ (fun c=>?_) fun c hc'=>(mem c).mp hc' |>.symm
   ·rw [(hpm.map (·.2)).nodup_iff,map_cons,List.nodup_cons]
    exact⟨hm,nd⟩
   ·rcases(mem c).mp hc' with rfl | z
    ·exact zE.up hx hs ho rfl
    ·exact zE.up (hc c z) hs ho rfl
   ·rcases(mem c).mp hc' with rfl | z
    ·exact hb
    ·exact inb c z
   ·rw [(hpm.map (·.2)).mem_iff,map_cons,List.mem_cons]
    exact Or.comm
  have eT:t.put j=((t.put j).1,pos):=by rw [<- f1]
  have fl:(t.put j).1.tooFull=decide ((es.size+1)*5 >= t.mask*3):=by
   have bp:pos<=t.place.size:=by rw [hsz];exact bs
   rw [f2]
   unfold SetTable.tooFull SetTable.fill
   simp only [G.dum,jC _ bp,hsz]
   rfl
  have gd:¬ (es.size+1)*5 >= t.mask*3->Good (t.put j).1 ((SetTable.insertAt es pos (h,Value.ref x)).map (·.1)):=fun hr=>by
   have:=G.put (h:=h) h1 h2 h3 (by rw [hsz];omega)
   rw [f1] at this
   have e:(SetTable.insertAt es pos (h,Value.ref x)).map (·.1)=SetTable.insertAt (es.map (·.1)) pos h:=by
    apply Array.toList_inj.mp
    rw [toList_map,Yq,Yq,toList_map,map_append,map_cons,map_take,List.map_drop]
   rw [e]
   exact this
  have hroom:=G.room
  have hmask:=G.mask
  rw [hsz] at hroom
  dsimp only
  rw [eT]
  dsimp only
  generalize t.put j=T at ep1 el1 fits1 fl gd
  obtain⟨t1,p1⟩:=T
  dsimp only at ep1 el1 fits1 fl gd ⊢
  rw [ep1,if_pos rfl]
  refine wpAny_bind (zky hx ?_)
  rw [if_pos rfl]
  refine wpAny_bind (zfE ho (by rw [hsz1];omega) fun h' hs hg=>?_)
  by_cases full:(es.size+1)*5 >= t.mask*3
  ·rw [fl,decide_eq_true full,if_pos (by decide)]
   rw [<- hsz1]
   refine wpAny_bind (zkz (s:={ s with heap:=h' }) hg fits1 (by rw [hsz1];rcases hmask with e | e | e<;>rw [e] at full hroom<;>omega) he1 fun h2' es' t' ks' hs' hg' hel hpm hG hle hpl=>?_)
   exact wpAny_pure (fin h2' ks' es' _ t' (hs.trans hs') hg' hel (hpm.trans pm) hG (hle.trans el1) (hpl.trans ep1))
  ·rw [fl,decide_eq_false full,if_neg (by decide)]
   exact wpAny_pure (fin h' ks1 _ _ t1 hs hg he1 pm (gd full) el1 ep1)
theorem zkB {x:Addr}{p:Int×Int}{Q:Bool->Shared->Prop}(hu:A.units<cLine)(S:zc0 (hP prog w) led s.heap a ks)(hx:zE s.heap (.ref x) p)(hb:InB p)(hn:p ∉ ks.map (·.2)->ks.length<63)
  (q:∀(b:Bool) (h':Heap) (ks':List (Addr×(Int×Int))),Heap.SameBut a s.heap h'->zc0 (hP prog w) led h' a ks'->(∀c,c∈ks'.map (·.2)↔c∈ks.map (·.2)\/c=p)->(∀c∈ks',c∈ks\/c=(x,p))->Q b { s with heap:=h',toks:=s.toks+3 }) :
  wpAny (model prog w) A (setAdd a (.ref x)) Q E s:=by
 unfold setAdd
 refine wpAny_holding (wpAny_bind ((tk2 prog w).pyHash hu (JA hx) ?_))
 show wpAny (model prog w) A (setAddHashed a (.ref x) (hP prog w p)) Q E { s with toks:=s.toks+3 }
 unfold setAddHashed
 refine wpAny_holding ?_
 exact zkA (n:=99999) (s:={ s with toks:=s.toks+3 }) (fun p q h1 h2 h3=>znB h1 h2 h3) hu S hx hb hn q
end
end ST
namespace ST
theorem zii {α:Type}(next:Nat->Nat):∀(fuel k:Nat) (left:List α) (out:Array α),left.length=fuel->(pickOrder.go next fuel k left out).toList.Perm (out.toList++left)
 | 0,k,left,out,h=>by
  rw [List.length_eq_zero_iff.mp h,append_nil]
  exact List.Perm.refl _
 | fuel+1,k,left,out,h=>by
  have hl:next k%left.length<left.length:=mod_lt _ (by omega)
  rw [pickOrder.go,getElem?_eq_getElem hl]
  dsimp only
  refine(zii next fuel (k+1) _ _ (by rw [List.length_eraseIdx_of_lt hl];omega)).trans ?_
  rw [toList_push,append_assoc]
  refine List.Perm.append_left _ ?_
  have e:left=left.take (next k%left.length)++left[next k%left.length]::left.drop (next k%left.length+1):=by
   rw [<- drop_eq_getElem_cons hl,take_append_drop]
  rw [List.eraseIdx_eq_take_drop_succ]
  have e2:=@List.perm_middle _ left[next k%left.length] (left.take (next k%left.length)) (left.drop (next k%left.length+1))
  rw [<- e] at e2
  exact e2.symm
theorem zjj {α:Type}(next:Nat->Nat)(xs:Array α):(pickOrder next xs).toList.Perm xs.toList:=by
 have h:=zii next xs.size 0 xs.toList #[] (by simp)
 rw [show (#[]:Array α).toList++xs.toList=xs.toList from rfl] at h
 exact h
theorem yw:Slot "set_iterator" "__next__" "set_iterator.__next__" :=
 .of (owner:="set_iterator") (n:="__next__") (by rw [typeLookup_type,builtinLookup_eq_fast];kernel_rfl) (by decide +kernel) (by decide +kernel) (by decide +kernel) (.inl (by decide +kernel)) (by rw [isSubtype_type];kernel_rfl)
theorem Q7:entryFor table "set_iterator.__next__"=some Builtin.«set_iterator.__next__»:=entryFor_of_tree (by kernel_rfl)
theorem zbT:Manifest.owners.lookup (String.ofList ['r','o','t','a','r','e','t','i','_','t','e','s'].reverse)=some Manifest.sig_set_iterator:=by kernel_rfl
theorem za9 (a:Value):argsOk "set_iterator.__next__" ⟨[a],[]⟩:=by
 unfold argsOk
 rw [signature?_of (id:="set_iterator.__next__") (n:=['_','_','t','x','e','n','_','_']) (o:=['r','o','t','a','r','e','t','i','_','t','e','s']) (by kernel_rfl) zbT]
 kernel_rfl
theorem zeB:entryFor table "set.__iter__"=some Builtin.«frozenset.__iter__»:=entryFor_alias (id':="frozenset.__iter__") (by kernel_rfl) rfl (by decide +kernel) (by kernel_rfl)
noncomputable def zbU (slot i:Nat)(a:Addr)(n ep:Nat):Obj:={ cls:=.type "set_iterator",data:=.fields #[rawInt slot,rawInt i,.ref a,rawInt n,rawInt ep] }
noncomputable def slotAt (byText:Bool)(t:SetTable)(i:Nat):Nat:=if byText then 0 else if i=0 then 0 else t.place.getD (i-1) 0+1
noncomputable def Zj (w:World)(a:Addr)(ep:Nat)(es:Array (Int×Value)):Array (Int×Value):=if w.params.followText "set-order" then pickOrder (w.params.setOrder a ep) es else es
theorem Q8 (w:World)(a:Addr)(ep:Nat)(es:Array (Int×Value)):(Zj w a ep es).toList.Perm es.toList:=by
 unfold Zj
 split
 ·exact zjj _ _
 ·exact List.Perm.refl _
section
variable {prog:Program}{w:World}{A:Around}{E:Value->Shared->Prop}{s:Shared}{a:Addr}{es:Array (Int×Value)}{ep:Nat}{t:SetTable}
theorem zeC {Q:Bool->Shared->Prop}(q:Q (w.params.followText "set-order") s):wpAny (model prog w) A setsByText Q E s:=by
 unfold setsByText
 exact wpAny_bind (wpAny_askSetting (wpAny_pure q))
theorem below_at {t:SetTable}(U:Up t.place){i:Nat}(hi:i<=t.place.size):SetTable.below t.place (slotAt false t i)=i:=by
 obtain⟨b1,b2,b3⟩:=Zf U (slotAt false t i)
 unfold slotAt at *
 simp only [false_eq_true,if_false] at *
 by_cases h0:i=0
 ·subst h0
  rw [if_pos rfl] at *
  rcases Nat.eq_zero_or_pos (SetTable.below t.place 0) with e | e
  ·exact e
  ·have:=b2 0 e
   omega
 ·rw [if_neg h0] at *
  rcases Nat.lt_trichotomy (SetTable.below t.place (t.place.getD (i-1) 0+1)) i with e | e | e
  ·have:=b3 (i-1) (by omega) (by omega)
   omega
  ·exact e
  ·have h1:=b2 i e
   have h2:=U (i-1) i (by omega) (by omega)
   omega
theorem zij {i:Nat}{Q:Option (Value×Nat)->Shared->Prop}(ho:s.heap.get? a=some (qt es ep t))(G:Good t (es.map (·.1)))(hl:t.led=!w.params.followText "set-order")(hp:t.plain=true)(hi:i<=es.size)
  (q1:∀v,(Zj w a ep es)[i]?.map (·.2)=some v->Q (some (v,slotAt (w.params.followText "set-order") t (i+1))) s) (q2:i=es.size->Q none s) :
  wpAny (model prog w) A (setNext a (slotAt (w.params.followText "set-order") t i) i ep) Q E s:=by
 have hsz:t.place.size=es.size:=by rw [G.sz,size_map]
 have hos:(Zj w a ep es).size=es.size:=by
  rw [<- length_toList,(Q8 w a ep es).length_eq,length_toList]
 unfold setNext
 refine wpAny_bind (xG ho G ?_)
 dsimp only
 refine wpAny_bind (zeC ?_)
 cases hb:w.params.followText "set-order" with
 | true =>
  rw [if_pos rfl]
  rw [hb] at q1
  rw [if_neg (by simp)]
  unfold setWalk
  refine wpAny_bind (wpAny_bind (xG ho G ?_))
  dsimp only
  refine wpAny_bind (zeC ?_)
  rw [hb,if_pos rfl]
  refine wpAny_bind (wpAny_askSetting (wpAny_pure (wpAny_pure ?_)))
  have eo:Zj w a ep es=pickOrder (w.params.setOrder a ep) es:=by
   unfold Zj
   rw [hb,if_pos rfl]
  rw [eo] at q1 hos
  show Q (Option.map _ (pickOrder (w.params.setOrder a ep) es)[i]?) s
  by_cases h:i<es.size
  ·have e:(pickOrder (w.params.setOrder a ep) es)[i]?=some (pickOrder (w.params.setOrder a ep) es)[i]:=Array.getElem?_eq_getElem (by omega)
   rw [e] at q1 ⊢
   exact q1 _ rfl
  ·rw [getElem?_eq_none (by omega)]
   exact q2 (by omega)
 | false =>
  rw [if_neg Bool.false_ne_true]
  rw [hb] at q1 hl
  have eo:Zj w a ep es=es:=by
   unfold Zj
   rw [hb,if_neg Bool.false_ne_true]
  rw [eo] at q1
  split
  ·rename_i h
   exact absurd h (by show ¬ ((!t.plain&&decide (es.size>1))=true);rw [hp];exact Bool.false_ne_true)
  refine wpAny_bind ?_
  show wpAny _ _ (if (!t.led && !es.isEmpty)=true then unsupported "set:maker-not-led" else pure ()) _ _ _
  rw [hl,if_neg (by simp)]
  refine wpAny_pure ?_
  rw [below_at G.up (by omega)]
  by_cases h:i<es.size
  ·have e:es[i]?=some es[i]:=Array.getElem?_eq_getElem h
   have e2:t.place[i]?=some (t.place.getD i 0):=Jy (by omega)
   rw [e] at q1 ⊢
   rw [e2]
   refine wpAny_pure (q1 _ rfl)
  ·rw [getElem?_eq_none (by omega)]
   exact wpAny_pure (q2 (by omega))
end
end ST
namespace ST
theorem zdC:Slot "set_iterator" "__iter__" "set_iterator.__iter__" :=
 .of (owner:="set_iterator") (n:="__iter__") (by rw [typeLookup_type,builtinLookup_eq_fast];kernel_rfl) (by decide +kernel) (by decide +kernel) (by decide +kernel) (.inl (by decide +kernel)) (by rw [isSubtype_type];kernel_rfl)
theorem zg4:entryFor table "set_iterator.__iter__"=some Builtin.«dict_keyiterator.__iter__»:=entryFor_alias (id':="dict_keyiterator.__iter__") (by kernel_rfl) rfl (by decide +kernel) (by kernel_rfl)
theorem zjk (a:Value):argsOk "set_iterator.__iter__" ⟨[a],[]⟩:=by
 unfold argsOk
 rw [signature?_of (id:="set_iterator.__iter__") (n:=['_','_','r','e','t','i','_','_']) (o:=['r','o','t','a','r','e','t','i','_','t','e','s']) (by kernel_rfl) zbT]
 kernel_rfl
section
variable {prog:Program}{w:World}{A:Around}{E:Value->Shared->Prop}{s:Shared}{a I:Addr}{es:Array (Int×Value)}{ep:Nat}{t:SetTable}
theorem zg5 {slot i a n ep:Nat}(x y:Nat):Obj.mapFields (·.setIfInBounds 1 (rawInt y)) (Obj.mapFields (·.setIfInBounds 0 (rawInt x)) (zbU slot i a n ep))=zbU x y a n ep:=rfl
theorem zmc {i:Nat}{Q:Option Value->Shared->Prop}(hI:s.heap.get? I=some (zbU (slotAt (w.params.followText "set-order") t i) i a es.size ep))(ho:s.heap.get? a=some (qt es ep t))(G:Good t (es.map (·.1)))(hl:t.led=!w.params.followText "set-order")(hp:t.plain=true)(hi:i<es.size)
  (q:∀v h',(Zj w a ep es)[i]?.map (·.2)=some v->h'.get? I=some (zbU (slotAt (w.params.followText "set-order") t (i+1)) (i+1) a es.size ep)->Heap.SameBut I s.heap h'->Q (some v) { s with heap:=h' }) :
  wpAny (model prog w) A (pyNext (.ref I)) Q E s:=by
 have hT:s.TypeIs (.ref I) "set_iterator":=⟨_,hI,rfl⟩
 unfold pyNext
 refine wpAny_bind (wpAny_attempt (wpAny_callSpecial?_slot (name:=Str.ofString "__next__") hT yw (wpAny_call_entry yw hT Q7 ?_ (za9 _))))
 unfold Builtin.«set_iterator.__next__»
 refine wpAny_bind (wpAny_pure ?_)
 refine wpAny_bind (wpAny_fieldsOf hI rfl ?_)
 dsimp only [rawInt]
 refine wpAny_bind (wpAny_setEntries_of (o:=qt es ep t) ho rfl ?_ ?_)
 ·have:=G.fits
  rwa [size_map] at this
 rw [if_neg (by simp)]
 show wpAny _ _ (setNext a (slotAt (w.params.followText "set-order") t i) i ep >>= _) _ _ _
 refine wpAny_bind (zij ho G hl hp (Nat.le_of_lt hi) (fun v hv=>?_) fun z=>absurd z (by omega))
 dsimp only
 refine wpAny_bind (wpAny_setField hI rfl (by simp [zbU]) ?_)
 have h1:=Heap.get?_update_self (Obj.mapFields (·.setIfInBounds 0 (rawInt ((slotAt (w.params.followText "set-order") t (i+1):Nat):Int)))) hI rfl
 refine wpAny_bind (wpAny_setField h1 rfl (by simp [zbU,Obj.mapFields]) ?_)
 have h2:=Heap.get?_update_self (Obj.mapFields (·.setIfInBounds 1 (rawInt ((i:Int)+1)))) h1 rfl
 refine wpAny_pure ⟨_,rfl,wpAny_pure (q v _ hv ?_ ((Heap.SameBut.update ..).trans (Heap.SameBut.update ..)))⟩
 rw [show ((i:Int)+1)=((i+1:Nat):Int) by omega] at h2 ⊢
 rw [zg5] at h2
 exact h2
theorem znC {Q:Option Value->Shared->Prop}(hh:A.handled=none)(hI:s.heap.get? I=some (zbU (slotAt (w.params.followText "set-order") t es.size) es.size a es.size ep))(ho:s.heap.get? a=some (qt es ep t))(G:Good t (es.map (·.1)))(hl:t.led=!w.params.followText "set-order")(hp:t.plain=true)
  (q:∀h',Heap.ExtBut I s.heap h'->Q none { s with heap:=h' }):wpAny (model prog w) A (pyNext (.ref I)) Q E s:=by
 have hT:s.TypeIs (.ref I) "set_iterator":=⟨_,hI,rfl⟩
 unfold pyNext
 refine wpAny_bind (wpAny_attempt (wpAny_callSpecial?_slot (name:=Str.ofString "__next__") hT yw (wpAny_call_entry yw hT Q7 ?_ (za9 _))))
 unfold Builtin.«set_iterator.__next__»
 refine wpAny_bind (wpAny_pure ?_)
 refine wpAny_bind (wpAny_fieldsOf hI rfl ?_)
 dsimp only [rawInt]
 refine wpAny_bind (wpAny_setEntries_of (o:=qt es ep t) ho rfl ?_ ?_)
 ·have:=G.fits
  rwa [size_map] at this
 rw [if_neg (by simp)]
 show wpAny _ _ (setNext a (slotAt (w.params.followText "set-order") t es.size) es.size ep >>= _) _ _ _
 refine wpAny_bind (zij ho G hl hp (le_refl _) (fun v hv=>?_) fun _=>?_)
 ·have hos:(Zj w a ep es).size=es.size:=by
   rw [<- length_toList,(Q8 w a ep es).length_eq,length_toList]
  rw [getElem?_eq_none (by omega)] at hv
  cases hv
 dsimp only
 refine wpAny_bind (wpAny_setField hI rfl (by simp [zbU]) ?_)
 refine wpAny_bind ?_
 simp only [newExc,newTuple]
 refine wpAny_bind (wpAny_newObj_type ?_ (by size_fits))
 refine wpAny_bind (m:=firstArgMember _ _) (wpAny_of_eq (a:=Value.none) (by first | rfl | (simp only [firstArgMember];rfl)) ?_)
 refine wpAny_newObj_type ?_ (by size_fits)
 simp only [raiseNew]
 refine wpAny_bind (wpAny_handled ?_)
 rw [show A.in1.handled=none from hh]
 refine wpAny_bind (wpAny_pure (wpAny_throw ?_))
 refine wpAny_bind (wpAny_isInstance (T:="StopIteration") (b:=true) ⟨_,Heap.get?_push_size _ rfl,rfl⟩ isSubtype_stop ?_)
 exact wpAny_pure (q _ (((Heap.SameBut.update ..).extBut.push _).push _))
theorem zmd {slot i n:Nat}{Q:Value->Shared->Prop}(hI:s.heap.get? I=some (zbU slot i a n ep))(q:Q (.ref I) s):wpAny (model prog w) A (pyIter (.ref I)) Q E s:=by
 have hT:s.TypeIs (.ref I) "set_iterator":=⟨_,hI,rfl⟩
 refine wpAny_pyIter_slot hT zdC (wpAny_call_entry zdC hT zg4 ?_ (zjk _))
 exact wpAny_pure ⟨_,rfl,"set_iterator",_,hT,yw.lookup,q⟩
theorem walks (hh:A.handled=none)(hne:a≠I)(G:Good t (es.map (·.1)))(hl:t.led=!w.params.followText "set-order")(hp:t.plain=true) :
  Walks prog w A I [I,a] [I] es.size (fun i v=>(Zj w a ep es)[i]?.map (·.2)=some v) (fun i h=>h.get? I=some (zbU (slotAt (w.params.followText "set-order") t i) i a es.size ep)/\h.get? a=some (qt es ep t)) where
 sub:=fun b hb=>by simp at hb;simp [hb]
 frame:=fun _ _ _ st hk=>⟨hk I (by simp) _ st.1,hk a (by simp) _ st.2⟩
 item:=fun i s Q E hi st hQ=>zmc st.1 st.2 G hl hp hi fun v h' hv h1 hs=>hQ v h' s.toks hv ⟨h1,(hs.2 a hne).trans st.2⟩ fun b o hb e=>(hs.2 b fun z=>hb (by simp [z])).trans e
 done:=fun s Q E st hQ=>znC hh st.1 st.2 G hl hp fun h' he=>hQ h' s.toks fun b o hb e=>he b o (fun z=>hb (by simp [z])) e
 self:=fun _ _ _ _ st hQ=>zmd st.1 hQ
theorem zfG:splitId "set.__len__"=some ("set","__len__"):=by decide +kernel
theorem zfH {Q:List Value->Shared->Prop}(hh:A.handled=none)(ho:s.heap.get? a=some (qt es ep t))(G:Good t (es.map (·.1)))(hl:t.led=!w.params.followText "set-order")(hp:t.plain=true)(hn:es.size<=64)
  (q:∀vs h' tk,vs.Perm (es.toList.map (·.2))->(∀b o,s.heap.get? b=some o->h'.get? b=some o)->s.heap.objs.size<=h'.objs.size->Q vs { s with heap:=h',toks:=tk }):wpAny (model prog w) A (collect (.ref a)) Q E s:=by
 have hlt:a<s.heap.objs.size:=Heap.lt_size ho
 unfold collect
 refine wpAny_bind (wpAny_runValue (codeAny_builtin PySem.F.entry_proto_collect ?_))
 rw [Around.under_plainId PySem.F.plain_proto_collect _]
 show wpAny _ A.in1 (newList [] >>= fun l=>again (.builtin "list.__iadd__" ⟨[l,.ref a],[]⟩)) _ _ s
 refine wpAny_bind (wpAny_newObj_type ?_)
 refine wpAny_pure ⟨plainId_quiet PySem.F.plain_list_iadd _,codeAny_builtin PySem.F.entry_list_iadd ?_⟩
 rw [Around.under_plainId PySem.F.plain_list_iadd _]
 show wpAny _ A.in1 (Builtin.List.listExtendWith (.ref s.heap.objs.size) (.ref a) (.ref s.heap.objs.size)) _ _ _
 generalize hL:(s.heap.push { cls:=.type "list",data:=.seq ([]:List Value).toArray })=h1
 have ho1:h1.get? a=some (qt es ep t):=by rw [<- hL];exact Heap.get?_push_of_some _ ho
 have hS1:h1.get? s.heap.objs.size=some { cls:=.type "list",data:=.seq #[] }:=by rw [<- hL];exact Heap.get?_push_size _ rfl
 have kp1:∀b o,s.heap.get? b=some o->h1.get? b=some o:=fun b o e=>by rw [<- hL];exact Heap.get?_push_of_some _ e
 have z1:h1.objs.size=s.heap.objs.size+1:=by rw [<- hL];exact Heap.size_push ..
 have hT:Shared.TypeIs { s with heap:=h1 } (.ref a) "set":=⟨_,ho1,rfl⟩
 have h1':Builtin.List.listSameRef (.ref s.heap.objs.size) (.ref a)=false:=by
  simp [Builtin.List.listSameRef]
  exact ne_of_gt hlt
 unfold Builtin.List.listExtendWith
 refine wpAny_bind (wpAny_typeOf hT ?_)
 rw [if_neg (by rw [h1'];decide)]
 have hf:t.fits es.size=true:=by
  have:=G.fits
  rwa [size_map] at this
 refine wpAny_bind (wpAny_pyIter_slot hT PySem.F.slot_set_iter (wpAny_call_entry PySem.F.slot_set_iter hT zeB ?_ (PySem.F.args_set_iter_1 _)))
 unfold Builtin.«frozenset.__iter__» Builtin.Frozenset.slot0 slotArgs
 simp only [List.isEmpty_nil,Bool.not_true,false_eq_true,↓reduceIte,bind_assoc,length_nil,bne_self_eq_false]
 unfold Builtin.Frozenset.addrOf Builtin.Frozenset.sizeOf
 refine wpAny_bind (wpAny_pure ?_)
 dsimp only
 refine wpAny_bind (wpAny_pure ?_)
 refine wpAny_bind (wpAny_bind (wpAny_setEntries_of (s:={ s with heap:=h1 }) (o:=qt es ep t) ho1 rfl hf (wpAny_pure ?_)))
 unfold setDrawn
 refine wpAny_bind (wpAny_bind (wpAny_setState_of (s:={ s with heap:=h1 }) (o:=qt es ep t) ho1 rfl hf ?_))
 dsimp only
 refine wpAny_bind (zeC (wpAny_pure ?_))
 split
 ·rename_i h
  exact absurd h (by show ¬ ((!w.params.followText "set-order" && (!t.plain&&decide (es.size>1)))=true);rw [hp];simp)
 refine wpAny_bind (wpAny_pure ?_)
 unfold setEpoch
 refine wpAny_bind (wpAny_bind (wpAny_setState_of (s:={ s with heap:=h1 }) (o:=qt es ep t) ho1 rfl hf (wpAny_pure ?_)))
 unfold newFields
 refine wpAny_bind (wpAny_newObj_type ?_)
 generalize hI:h1.push { cls:=.type "set_iterator",data:=.fields (List.toArray [rawInt 0,rawInt 0,Value.ref a,rawInt ((es.size:Nat):Int),rawInt ((ep:Nat):Int)]) }=h2
 have ho2:h2.get? a=some (qt es ep t):=by rw [<- hI];exact Heap.get?_push_of_some _ ho1
 have hS2:h2.get? s.heap.objs.size=some { cls:=.type "list",data:=.seq #[] }:=by rw [<- hI];exact Heap.get?_push_of_some _ hS1
 have kp2:∀b o,s.heap.get? b=some o->h2.get? b=some o:=fun b o e=>by rw [<- hI];exact Heap.get?_push_of_some _ (kp1 b o e)
 have hI2:h2.get? h1.objs.size=some (zbU 0 0 a es.size ep):=by rw [<- hI];exact Heap.get?_push_size _ rfl
 have hTI:Shared.TypeIs { s with heap:=h2 } (.ref h1.objs.size) "set_iterator":=⟨_,hI2,rfl⟩
 have hT2:Shared.TypeIs { s with heap:=h2 } (.ref a) "set":=⟨_,ho2,rfl⟩
 refine wpAny_pure ⟨_,rfl,"set_iterator",_,hTI,yw.lookup,?_⟩
 refine wpAny_bind (wpAny_holding ?_)
 unfold Builtin.List.listLengthHint
 refine wpAny_bind (wpAny_specialOf hT2 PySem.F.slot_set_len.lookup ?_)
 dsimp only
 rw [zfG]
 dsimp only
 refine wpAny_bind (wpAny_isInstance (b:=true) hT2 sub_set_self ?_)
 rw [if_neg (by decide)]
 show wpAny _ _ (typeOf (Value.ref a) >>= _) _ _ _
 refine wpAny_bind (wpAny_typeOf hT2 ?_)
 show wpAny _ _ (pure false) _ _ _
 refine wpAny_pure ?_
 show wpAny _ A.in1 (rule "list.extend.makes-room" >>= fun _=>Builtin.List.listTouch (.ref s.heap.objs.size) >>= fun _=>again (.builtin "list.extend.loop" ⟨[.ref s.heap.objs.size,.ref h1.objs.size,.ref s.heap.objs.size],[]⟩)) _ _ _
 refine wpAny_bind (wpAny_rule (wpAny_bind ?_))
 show wpAny _ A.in1 (updateSeq s.heap.objs.size (·.push .none) >>= fun _=>updateSeq s.heap.objs.size (·.pop)) _ _ _
 refine wpAny_bind (wpAny_updateSeq hS2 rfl ?_)
 have hS3:=Heap.get?_update_self (Obj.mapSeq (·.push Value.none)) hS2 rfl
 refine wpAny_updateSeq hS3 rfl ?_
 have hS4:=Heap.get?_update_self (Obj.mapSeq (·.pop)) hS3 rfl
 have oth:∀b o,b≠s.heap.objs.size->h2.get? b=some o->((h2.update s.heap.objs.size (Obj.mapSeq (·.push Value.none))).update s.heap.objs.size (Obj.mapSeq (·.pop))).get? b=some o :=
  fun b o hb e=>(Heap.get?_update_other _ _ (Ne.symm hb)).trans ((Heap.get?_update_other _ _ (Ne.symm hb)).trans e)
 generalize (h2.update s.heap.objs.size (Obj.mapSeq (·.push Value.none))).update s.heap.objs.size (Obj.mapSeq (·.pop))=h4 at hS4 oth
 have hne:a≠h1.objs.size:=by
  rw [z1]
  exact ne_of_lt (lt_succ_of_lt hlt)
 have hSf:s.heap.objs.size ∉ [h1.objs.size,a]:=by
  rw [z1]
  simp only [List.mem_cons,not_mem_nil,or_false,not_or]
  exact⟨ne_of_lt (Nat.lt_succ_self _),ne_of_gt hlt⟩
 have sl0:slotAt (w.params.followText "set-order") t 0=0:=by
  unfold slotAt
  split<;>rfl
 have hos:(Zj w a ep es).size=es.size:=by
  rw [<- length_toList,(Q8 w a ep es).length_eq,length_toList]
 refine wpAny_pure ⟨plainId_quiet PySem.F.plain_extend_loop _,codeAny_extend_loopS ((walks (A:=A.in1) (prog:=prog) (ep:=ep) hh hne G hl hp).toS) (le_trans hn (by rw [sizeLine_eq];decide)) _ hSf _ es.size 0 _ _ _ rfl (zero_le _)
  ⟨by rw [sl0];exact oth _ _ (by rw [z1];exact succ_ne_self _) hI2,oth _ _ (ne_of_lt hlt) ho2⟩ hS4 (ItemsOf.nil _) fun s' acc' c' hm hS' hacc=>?_⟩
 show wpAny _ A (load s.heap.objs.size >>= _) _ _ s'
 refine wpAny_bind (wpAny_load hS' ?_)
 obtain⟨h',g',d',tk',os'⟩:=s'
 have eg:g'=s.gens:=hm.gens
 have ed:d'=s.drawn:=hm.drawn
 have eo:os'=s.os:=hm.os
 subst eg
 subst ed
 subst eo
 refine wpAny_pure (q _ _ _ ?_ (fun b o e=>?_) (Nat.le_of_lt (Heap.lt_size hS')))
 ·have e:acc'.toList=(Zj w a ep es).toList.map (·.2):=by
   refine ext_getElem? fun i=>?_
   rw [getElem?_toList,getElem?_map,getElem?_toList]
   by_cases hi:i<es.size
   ·have hi':i<acc'.size:=by rw [hacc.1];exact hi
    have e1:acc'[i]?=some acc'[i]:=Array.getElem?_eq_getElem hi'
    rw [e1]
    exact(hacc.2 i _ e1).symm
   ·rw [getElem?_eq_none (by rw [hacc.1];omega),getElem?_eq_none (by omega)]
    rfl
  rw [e]
  exact(Q8 w a ep es).map _
 ·have hb:b<s.heap.objs.size:=Heap.lt_size e
  refine hm.heap b o (fun z=>?_) (oth b o (ne_of_lt hb) (kp2 b o e))
  rcases List.mem_cons.mp z with z | z
  ·exact lt_irrefl _ (z ▸ hb)
  ·have z':b=h1.objs.size:=by simpa using z
   rw [z',z1] at hb
   exact absurd hb (Nat.not_lt.mpr (le_succ _))
end
end ST
open PySem PySem.Spec PyProof.Rows PySem.W
namespace ST
noncomputable def zfI (prog:Program)(w:World)(d:Addr)(ks:List (Addr×(Int×Int))):HO:=.ext fun h=>∃es ep t,h.get? d=some (qt es ep t)/\es.toList=ks.map (zbS (hP prog w))/\Good t (es.map (·.1))/\t.led=(!w.params.followText "set-order")/\t.plain=true
section
variable {prog:Program}{w:World}{A:Around}{R:Result->Shared->Prop}{I:Addr}{fp wr:List Addr}{G:Array GenState->Array GenState->Prop}{n:Nat}{P:Nat->Value->Prop}{St:Nat->Shared->Prop}{led:Bool}
theorem zkC {h0:Heap}(W:WalksS prog w A.in1 I fp wr G n P St)(D:Addr)(hDf:D ∉ fp)(hD0:h0.get? D=none)(hw0:∀b∈wr,h0.get? b=none)(ps:List (Int×Int))(hlen:ps.length=n)(hu:A.units+1<cLine)
  (T:Addr->Int×Int->Prop) (hT:∀x p,T x p->zE h0 (.ref x) p) (hP':∀i v,P i v->∃x p,v=.ref x/\ps[i]?=some p/\T x p) (hb:∀p∈ps,InB p) (few:∀l:List (Int×Int),l.Nodup->(∀c∈l,c∈ps)->l.length<=63) :
  ∀(k i:Nat) (s:Shared) (ks:List (Addr×(Int×Int))),n-i=k->i<=n->St i s->(∀b o,h0.get? b=some o->s.heap.get? b=some o)->zc0 (hP prog w) led s.heap D ks->(∀c,c∈ks.map (·.2)↔c∈ps.take i)->(∀q∈ks,T q.1 q.2) ->
   (∀s' ks',Moved (D::wr) G s s'->zc0 (hP prog w) led s'.heap D ks'->(∀c,c∈ks'.map (·.2)↔c∈ps)->(∀q∈ks',T q.1 q.2)->R (.ok (.ret .none)) s') ->
   codeAny (model prog w) A (.builtin "set.update.loop" ⟨[.ref D,.ref I],[]⟩) R s:=by
 have hDw:D ∉ wr:=fun h=>hDf (W.sub _ h)
 have more:∀b∈wr,b∈D::wr:=fun b hb=>mem_cons_of_mem _ hb
 have pair_up:∀{h:Heap} {x:Addr} {p:Int×Int},(∀b o,h0.get? b=some o->h.get? b=some o)->T x p->zE h (.ref x) p:=fun kp hx=>by
  obtain⟨b,o,m,t,u,e,e1,e2,e3⟩:=hT _ _ hx
  exact⟨b,o,m,t,u,e,kp _ _ e1,e2,e3⟩
 have keep_to:∀{s s':Shared},Moved wr G s s'->(∀b o,h0.get? b=some o->s.heap.get? b=some o)->∀b o,h0.get? b=some o->s'.heap.get? b=some o:=fun hm kp b o e =>
  hm.heap b o (fun hb=>by
   rw [hw0 b hb] at e
   cases e) (kp b o e)
 have set_to:∀{s s':Shared} {ks:List (Addr×(Int×Int))},Moved wr G s s'->(∀b o,h0.get? b=some o->s'.heap.get? b=some o)->(∀q∈ks,T q.1 q.2)->zc0 (hP prog w) led s.heap D ks->zc0 (hP prog w) led s'.heap D ks :=
  fun hm kp hk ⟨⟨es,ep,t,e1,e2⟩,e3,_,e5⟩=>⟨⟨es,ep,t,hm.heap D _ hDw e1,e2⟩,e3,fun q hq=>pair_up kp (hk q hq),e5⟩
 intro k
 induction k with
 | zero =>
  intro i s ks hk hi hst kp hS hm' hTk hR
  have hin:i=n:=by omega
  subst hin
  refine codeAny_builtin PyProof.Rows.F.entry_set_update_loop ?_
  rw [Around.under_plainId PyProof.Rows.F.plain_set_update_loop _]
  show wpAny _ A.in1 (pyNext (.ref I) >>= _) _ _ s
  refine wpAny_bind (W.done s _ _ hst fun s' hm=>?_)
  refine wpAny_pure (hR s' ks (hm.mono more) (set_to hm (keep_to hm kp) hTk hS) (fun c=>?_) hTk)
  rw [hm' c,<- hlen,take_length]
 | succ k ih =>
  intro i s ks hk hi hst kp hS hm' hTk hR
  have hlt:i<n:=by omega
  refine codeAny_builtin PyProof.Rows.F.entry_set_update_loop ?_
  rw [Around.under_plainId PyProof.Rows.F.plain_set_update_loop _]
  show wpAny _ A.in1 (pyNext (.ref I) >>= _) _ _ s
  refine wpAny_bind (W.item i s _ _ hlt hst fun v s' hPv hst' hm=>?_)
  obtain⟨x,p,rfl,hq,hx⟩:=hP' i v hPv
  have kp':=keep_to hm kp
  have hS':=set_to hm kp' hTk hS
  have hpm:p∈ps:=mem_of_getElem? hq
  have tk:ps.take (i+1)=ps.take i++[p]:=by
   rw [take_add_one,hq]
   rfl
  refine wpAny_bind (wpAny_holding (zkB (show A.in1.units<cLine from hu) hS' (pair_up kp' hx) (hb p hpm) (fun hno=>?_) fun b h' ks' hs' hS2 hmem zoy=>?_))
  ·have:=few (p::ks.map (·.2)) (List.nodup_cons.mpr ⟨hno,hS'.nd⟩) fun c hc=>by
    rcases List.mem_cons.mp hc with rfl | hc
    ·exact hpm
    ·exact mem_of_mem_take ((hm' c).mp hc)
   rw [length_cons,length_map] at this
   omega
  have kp2:∀b o,h0.get? b=some o->h'.get? b=some o:=fun b o e=>by
   rw [hs'.2 b (fun z=>by
    rw [z,hD0] at e
    cases e)]
   exact kp' b o e
  refine wpAny_pure ⟨plainId_quiet PyProof.Rows.F.plain_set_update_loop _,?_⟩
  refine ih (i+1) _ ks' (by omega) hlt (W.frame _ s' _ _ hst' (Nat.le_add_right _ _) fun b hb o e=>?_) kp2 hS2 (fun c=>?_) (fun q hq'=>?_) fun s'' ks'' hm'' hS'' hc'' hT''=>?_
  ·rw [hs'.2 b (fun z=>hDf (by rw [<- z];exact hb))]
   exact e
  ·rw [hmem c,hm' c,tk,List.mem_append,List.mem_singleton]
  ·rcases zoy q hq' with z | z
   ·exact hTk q z
   ·rw [z]
    exact hx
  ·refine hR s'' ks'' (Moved.trans W.gtrans ((hm.mono more).then_heap (Nat.le_add_right _ _) fun b o hb e=>?_) hm'') hS'' hc'' hT''
   rw [hs'.2 b (fun z=>hb (by rw [z];exact mem_cons_self))]
   exact e
end
section
variable {prog:Program}{w:World}{A:Around}{E:Value->Shared->Prop}{s:Shared}
theorem zme (a:Value){Q₁:Value->Shared->Prop}(h:Q₁ (.ref s.heap.objs.size) { s with heap:=s.heap.push (qt #[] 0 (.fresh 0 0 (!w.params.followText "set-order"))) }) :
  codeAny (model prog w) A (.call (.builtin "set.__new__") ⟨[.type "set",a],[]⟩) (wants Q₁ E) s:=by
 refine codeAny_of_tree ?_
 show wpAny _ A.in1 (do checkBuiltinCall "set.__new__" ⟨[.type "set",a],[]⟩;again (.builtin "set.__new__" ⟨[.type "set",a],[]⟩)) _ _ s
 refine wpAny_bind (wpAny_of_eq (PySem.F.newCall_set_1 a) (wpAny_pure ⟨plainId_quiet PySem.F.plain_set_new _,codeAny_builtin PySem.F.entry_set_new ?_⟩))
 rw [Around.under_plainId PySem.F.plain_set_new _]
 unfold Builtin.«set.__new__» Builtin.Frozenset.newClass
 have hsub:=sub_set_self
 obtain⟨hp,g,d,tk,os⟩:=s
 dsimp only
 wp_walk
 refine wpAny_askSetting (wpAny_pure ?_)
 dsimp only
 simp only [newObj]
 refine wpAny_bind (wpAny_alloc (wpAny_pure ?_))
 exact wpAny_pure h
theorem zg6 (led:Bool):Good (.fresh 0 0 led) #[]:=⟨.inl rfl,rfl,rfl,fun i j _ h=>absurd h (by simp [SetTable.fresh]),fun i h=>absurd h (by simp [SetTable.fresh]),by simp [SetTable.fresh],fun i h=>absurd h (by simp [SetTable.fresh])⟩
end
end ST
namespace ST
section
variable {prog:Program}{w:World}{A:Around}{E:Value->Shared->Prop}{s:Shared}
set_option maxHeartbeats 8000000 in
theorem zkD {l:Addr}{its:Array Value}{ps:List (Int×Int)}{T:Addr->Int×Int->Prop}{Q:Value->Shared->Prop}(hh:A.handled=none)(hu:A.units+64<cLine)(hl:s.heap.IsList l its)(hlen:ps.length=its.size)
  (hT:∀x p,T x p->zE s.heap (.ref x) p) (hP':∀(i:Nat) (v:Value),its[i]?=some v->∃x p,v=Value.ref x/\ps[i]?=some p/\T x p) (hb:∀p∈ps,InB p) (few:∀l:List (Int×Int),l.Nodup->(∀c∈l,c∈ps)->l.length<=63)
  (h:∀(h':Heap) (tk:Nat) (ks:List (Addr×(Int×Int))),(∀b o,s.heap.get? b=some o->h'.get? b=some o)->zc0 (hP prog w) (!w.params.followText "set-order") h' s.heap.objs.size ks->(∀c,c∈ks.map (·.2)↔c∈ps)->(∀q∈ks,T q.1 q.2)->Q (.ref s.heap.objs.size) { s with heap:=h',toks:=tk }) :
  wpAny (model prog w) A (call (.type "set") [.ref l]) Q E s:=by
 obtain⟨c,tl,hmro⟩:=PySem.F.called_set.mro
 have hmade:=PySem.F.called_set.made
 have hsub:=PySem.F.called_set.sub
 refine wpAny_call (codeAny_of_tree ?_)
 show wpAny _ _ (callAny (.type "set") _) _ _ _
 refine wpAny_pure ⟨Code.quiet_builtin _ (by decide +kernel),codeAny_builtin PySem.F.entry_type_call ?_⟩
 rw [Around.under_plain (weight_type_call_type "set" [.ref l] []) rfl]
 have h1:=PySem.F.called_set.notType
 have h2:=PySem.F.called_set.canCreate
 have hct:=PySem.F.typeCall_set_1 (.ref l)
 repeat (any_goals (first | assumption | wp_step))
 refine codeAny_mono (zme (.ref l) (E:=E) (Q₁:=fun obj s₁=>obj=.ref s.heap.objs.size/\s₁={ s with heap:=s.heap.push (qt #[] 0 (.fresh 0 0 (!w.params.followText "set-order"))) }) ⟨rfl,rfl⟩) fun r s₁ hr=>?_
 cases r with
 | error e=>exact hr
 | ok fl =>
  cases fl with
  | ret obj =>
   obtain⟨rfl,rfl⟩:=hr
   generalize hled:(!w.params.followText "set-order")=led at h ⊢
   have hS:(s.heap.push (qt #[] 0 (.fresh 0 0 led))).get? s.heap.objs.size=some (qt #[] 0 (.fresh 0 0 led)):=Heap.get?_push_size _ rfl
   have hTy:Shared.TypeIs { s with heap:=s.heap.push (qt #[] 0 (.fresh 0 0 led)) } (.ref s.heap.objs.size) "set":=⟨_,hS,rfl⟩
   have hli:=PySem.F.called_set.init.lookup
   have hbi:=PySem.F.called_set.init.bind (.ref s.heap.objs.size)
   repeat (any_goals (first | assumption | wp_step))
   refine codeAny_mono (codeAny_call_builtin (R:=wants (fun r s₂=>r=.none/\∃h' tk ks,s₂={ s with heap:=h',toks:=tk }/\zc0 (hP prog w) led h' s.heap.objs.size ks/\(∀c,c∈ks.map (·.2)↔c∈ps)/\(∀q∈ks,T q.1 q.2) /\
     (∀b o,s.heap.get? b=some o->h'.get? b=some o)) E) PySem.F.called_set.init.plain PySem.F.entry_set_init (check_set_init_1 hTy ?_)) fun r₂ s₂ hr₂=>?_
   ·obtain⟨ol,hol,hcl,nl,hdl⟩:=hl
    obtain⟨ocls,odict,odata,oslots⟩:=ol
    simp only at hcl hdl
    subst hcl
    subst hdl
    have hol':(s.heap.push (qt #[] 0 (.fresh 0 0 led))).get? l=some { cls:=.type "list",dict:=odict,data:=.seq its nl,slots:=oslots }:=Heap.get?_push_of_some _ hol
    have hsls:=PySem.F.sub_list_set
    have hslf:=PySem.F.sub_list_frozenset
    have hne:(Value.type "list" == Value.type "dict")=false:=by decide
    have hl1:(s.heap.push (qt #[] 0 (.fresh 0 0 led))).IsList l its:=⟨_,hol',rfl,nl,rfl⟩
    unfold Builtin.«set.__init__» noKeywords Builtin.Frozenset.updateFrom
    unfold qt at hS hTy hol' hl1 ⊢
    generalize hPI:pyIter=PI
    wp_walk
    subst hPI
    refine wpAny_pyIter_list hl1 ?_
    refine wpAny_bind (wpAny_runValue ?_)
    have hlS:l<s.heap.objs.size:=Heap.lt_size hol
    have zS:(s.heap.push (qt #[] 0 (.fresh 0 0 led))).objs.size=s.heap.objs.size+1:=Heap.size_push ..
    have hneI:l≠(s.heap.push (qt #[] 0 (.fresh 0 0 led))).objs.size:=by
     rw [zS]
     exact ne_of_lt (lt_succ_of_lt hlS)
    have hSf:s.heap.objs.size ∉ [(s.heap.push (qt #[] 0 (.fresh 0 0 led))).objs.size,l]:=by
     rw [zS]
     simp only [List.mem_cons,not_mem_nil,or_false,not_or]
     exact⟨ne_of_lt (Nat.lt_succ_self _),ne_of_gt hlS⟩
    refine zkC (h0:=s.heap) (led:=led) ((Walks.list (by simp [hh]) (s.heap.push (qt #[] 0 (.fresh 0 0 led))).objs.size l hneI its).toS) s.heap.objs.size hSf (Heap.get?_none_of_le (le_refl _)) (fun b hb=>?_) ps hlen (by show A.units+1+1+1<cLine;omega) T hT hP' hb few (its.size-0) 0 _ [] rfl (zero_le _)
     ⟨⟨_,Heap.get?_push_size _ rfl,rfl,rfl⟩,(hl1.push _)⟩ (fun b o z=>Heap.get?_push_of_some _ (Heap.get?_push_of_some _ z)) ⟨⟨#[],0,.fresh 0 0 led,Heap.get?_push_of_some _ hS,rfl,(by rw [Array.map_empty];exact zg6 led),rfl,rfl⟩,nodup_nil,(fun q z=>nomatch z),(fun q z=>nomatch z)⟩ (fun c=>by simp) (fun q z=>nomatch z) ?_
    ·have e:b=(s.heap.push (qt #[] 0 (.fresh 0 0 led))).objs.size:=by simpa using hb
     rw [e,zS]
     exact Heap.get?_none_of_le (le_succ _)
    ·intro s' ks hm hS' hm' hT'
     obtain⟨h',g',d',tk',os'⟩:=s'
     have eg:g'=s.gens:=hm.gens
     have ed:d'=s.drawn:=hm.drawn
     have eo:os'=s.os:=hm.os
     subst eg
     subst ed
     subst eo
     show wpAny _ _ _ _ _ _
     refine wpAny_pure ?_
     show wpAny _ _ (ret Value.none) _ _ _
     refine wpAny_pure ⟨rfl,h',tk',ks,rfl,hS',hm',hT',fun b o e=>?_⟩
     have lt:=Heap.lt_size e
     refine hm.heap b o (fun z=>?_) (Heap.get?_push_of_some _ (Heap.get?_push_of_some _ e))
     rcases List.mem_cons.mp z with z | z
     ·exact lt_irrefl _ (z ▸ lt)
     ·have z':b=(s.heap.push (qt #[] 0 (.fresh 0 0 led))).objs.size:=by simpa using z
      rw [z',zS] at lt
      exact absurd lt (Nat.not_lt.mpr (le_succ _))
   ·cases r₂ with
    | error e=>exact hr₂
    | ok fl₂ =>
     cases fl₂ with
     | ret r =>
      obtain⟨rfl,h',tk,ks,rfl,hS',hm',hT',hk'⟩:=hr₂
      repeat (any_goals (first | assumption | wp_step))
      exact h _ _ _ hk' hS' hm' hT'
     | _=>exact hr₂.elim
  | _=>exact hr.elim
end
end ST
namespace ST
theorem zbV {α β:Type}(f:α->β){l l':List β}(h:l.Perm l'):∀ks:List α,l'=ks.map f->∃js:List α,js.Perm ks/\l=js.map f:=by
 induction h with
 | nil=>exact fun ks e=>⟨ks,List.Perm.refl _,e⟩
 | cons x h ih =>
  intro ks e
  cases ks with
  | nil=>simp at e
  | cons k ks =>
   rw [map_cons] at e
   injection e with e1 e2
   obtain⟨js,h1,h2⟩:=ih ks e2
   exact⟨k::js,h1.cons k,by rw [map_cons,e1,h2]⟩
 | swap x y l =>
  intro ks e
  match ks,e with
  | [],e=>simp at e
  | [k],e=>simp at e
  | k1::k2::ks,e =>
   rw [map_cons,map_cons] at e
   injection e with e1 e2
   injection e2 with e2 e3
   exact⟨k2::k1::ks,List.Perm.swap k1 k2 ks,by rw [map_cons,map_cons,e1,e2,e3]⟩
 | trans h1 h2 ih1 ih2 =>
  intro ks e
  obtain⟨js,a,b⟩:=ih2 ks e
  obtain⟨is,c,d⟩:=ih1 js b
  exact⟨is,c.trans a,d⟩
section
variable {X:Cx}
theorem zjl (hu:X.A.units+64<cLine)(hh:X.A.handled=none):yr X (.type "set") (fun xs H Q=>∃l us ps,xs=[.ref l]/\SqL X.K H l us/\yO H us ps/\(∀p∈ps,InB p)/\(∀l:List (Int×Int),l.Nodup->(∀c∈l,c∈ps)->l.length<=63) /\
  ∀d ks,H d=none->(∀q∈ks,H q.1=some (.tup [.int q.2.1,.int q.2.2]))->(ks.map (·.2)).Nodup->(∀c,c∈ks.map (·.2)↔c∈ps)->Q (.ref d) (upd H d (zfI X.prog X.w d ks))):=by
 intro pins s σ H xs us' Q I r h
 obtain⟨l,us,ps,rfl,hq,ht,hb,few,q⟩:=h
 obtain⟨u,rfl,ru⟩:=vals1 r
 cases ru
 obtain⟨its,rv,pl,hz⟩:=I.list hq
 have hp:=yO.pairs I ht rv
 have hlp:its.length=ps.length:=Paired.length hp
 have tw:∀{us:List V} {ps:List (Int×Int)} {its:List Value},yO H us ps->Vals us its->∀(i:Nat) (v:Value),its[i]?=some v->∃x p,v=Value.ref x/\ps[i]?=some p/\H x=some (.tup [.int p.1,.int p.2]):=by
  intro us ps its h1
  induction h1 generalizing its with
  | nil =>
   intro r i v e
   cases r
   simp at e
  | cons a t ih =>
   intro r i v e
   obtain⟨x,rfl,hx⟩:=a
   cases r with
   | cons r1 r2 =>
    cases r1
    cases i with
    | zero =>
     simp at e
     exact⟨x,_,e.symm,rfl,hx⟩
    | succ i =>
     obtain⟨y,p,h1,h2,h3⟩:=ih r2 i v (by simpa using e)
     exact⟨y,p,h1,by simpa using h2,h3⟩
 refine zkD (T:=fun x p=>H x=some (.tup [.int p.1,.int p.2])) hh hu pl.isList (by simp [hlp]) (fun x p hx=>?_) (fun i v e=>tw ht rv i v (by simpa using e)) hb few fun h' tk ks kk hS hm hT=>?_
 ·obtain⟨items,rv',tp,_⟩:=I.tuple (SqT.of hx)
  obtain⟨u1,u2,rfl,⟨t1,rfl⟩,⟨t2,rfl⟩⟩:=vals2 rv'
  obtain⟨ob,e1,c1,n,d1⟩:=tp
  exact⟨x,ob,n,t1,t2,rfl,e1,c1,d1⟩
 ·have hD:H s.heap.objs.size=none:=I.hok.fresh (le_refl _)
  obtain⟨es,ep,t,ho,rest⟩:=hS.ex
  refine⟨.ref s.heap.objs.size,upd H s.heap.objs.size (zfI X.prog X.w s.heap.objs.size ks),I.laid (t':=tk) kk (le_refl _) ⟨⟨es,ep,t,ho,rest⟩,⟨_,ho⟩,fun h1 h2 ⟨es,ep,t,ho,rest⟩ k=>⟨es,ep,t,k _ ho,rest⟩⟩,rfl,q _ _ hD hT hS.nd hm⟩
end
end ST
namespace GS
section
variable {prog:Program}{w:World}{A:Around}{E:Value->Shared->Prop}{s:Shared}{rk:Keyed->Int}{κ:SortKind}{a0:Array Keyed}
def Rk (rk:Keyed->Int)(xs:Array Keyed)(i:Nat):Int:=match xs[i]? with
 | some p=>rk p
 | none=>0
theorem JB {xs ys:Array Keyed}{i j:Nat}(h:xs[i]?=ys[j]?):Rk rk xs i=Rk rk ys j:=by
 unfold Rk
 rw [h]
def Up (rk:Keyed->Int)(xs:Array Keyed)(lo hi:Nat):Prop:=∀i j,lo<=i->i<=j->j<hi->Rk rk xs i<=Rk rk xs j
def Tells (prog:Program)(w:World)(A:Around)(s:Shared)(κ:SortKind)(rk:Keyed->Int)(a0:Array Keyed):Prop :=
 ∀x∈a0.toList,∀y∈a0.toList,∀C:Bool->Shared->Prop,C (decide (rk x<rk y)) s->wpAny (model prog w) A (keyLt' κ x.1 y.1) C (fun _ _=>False) s
structure Ok (κ:SortKind)(a0:Array Keyed)(st:SortSt):Prop where
 perm:(arrOf st).Perm a0
 kind:kindOf st=κ
 good:failedOf st=none
theorem Ok.size {st:SortSt}(h:Ok κ a0 st):(arrOf st).size=a0.size:=h.perm.size_eq
theorem Ok.at {st:SortSt}(h:Ok κ a0 st){i:Nat}(hi:i<a0.size):∃x,(arrOf st)[i]?=some x/\x∈a0.toList/\Rk rk (arrOf st) i=rk x:=by
 have hi':i<(arrOf st).size:=by rw [h.size];exact hi
 have e:(arrOf st)[i]?=some (arrOf st)[i]:=getElem?_pos _ i hi'
 refine⟨(arrOf st)[i],e,(Array.perm_iff_toList_perm.mp h.perm).mem_iff.mp (by simp),?_⟩
 unfold Rk
 rw [e]
theorem zkE {st:SortSt}{x y:Keyed}{Q:Option Bool->SortSt->Prop}(T:Tells prog w A s κ rk a0)(hk:kindOf st=κ)(hx:x∈a0.toList)(hy:y∈a0.toList)(h:Q (some (decide (rk x<rk y))) st):wpS (model prog w) A E s (lt' x y) Q st:=by
 rw [lt'_eq]
 refine wpS_bind (wpS_get ?_)
 rw [hk]
 refine wpS_bind (wpS_lift (wpAny_attempt (wpAny_mono (T x hx y hy (fun b s'=>s'=s/\b=decide (rk x<rk y)) ⟨rfl,rfl⟩) (fun b s' hb=>⟨hb.1,?_⟩) fun _ _ hF=>hF.elim)))
 rw [hb.2]
 exact wpS_pure h
theorem qT {st:SortSt}{xs:Array Keyed}{i:Nat}{x:Keyed}{Q:Keyed->SortSt->Prop}(e:xs[i]?=some x)(h:Q x st):wpS (model prog w) A E s (elem' xs i) Q st:=by
 rw [elem'_eq,e]
 exact wpS_pure h
theorem zbW {st:SortSt}{i j:Nat}{Q:Option Bool->SortSt->Prop}(T:Tells prog w A s κ rk a0)(O:Ok κ a0 st)(hi:i<a0.size)(hj:j<a0.size)(h:Q (some (decide (Rk rk (arrOf st) i<Rk rk (arrOf st) j))) st):wpS (model prog w) A E s (ltAt' i j) Q st:=by
 obtain⟨x,e1,m1,r1⟩:=O.at (rk:=rk) hi
 obtain⟨y,e2,m2,r2⟩:=O.at (rk:=rk) hj
 rw [r1,r2] at h
 rw [ltAt'_eq]
 refine wpS_bind (wpS_get ?_)
 exact wpS_bind (qT e1 (wpS_bind (qT e2 (zkE T O.kind m1 m2 h))))
structure Step (κ:SortKind)(a0:Array Keyed)(lo:Nat)(st st':SortSt):Prop where
 ok:Ok κ a0 st'
 pend:pendingOf st'=pendingOf st
 low:∀i:Nat,i<lo->(arrOf st')[i]?=(arrOf st)[i]?
theorem Step.refl {lo:Nat}{st:SortSt}(O:Ok κ a0 st):Step κ a0 lo st st:=⟨O,rfl,fun _ _=>rfl⟩
theorem zaJ {xs:Array Keyed}{i j:Nat}(hj:j<=xs.size)(k:Nat):Rk rk (mirror xs i j ((j-i)/2)) k=if i<=k/\k<j then Rk rk xs (i+j-1-k) else Rk rk xs k:=by
 have e:=getElem?_mirror_all (i:=i) hj k
 by_cases h1:i<=k/\k<j
 ·rw [if_pos h1] at e ⊢
  exact JB e
 ·rw [if_neg h1] at e ⊢
  exact JB e
theorem jS {xs:Array Keyed}{i j:Nat}(hj:j<=xs.size)(heq:∀k,i<=k->k<j->Rk rk xs k=Rk rk xs (j-1))(k:Nat):Rk rk (mirror xs i j ((j-i)/2)) k=Rk rk xs k:=by
 rw [zaJ hj]
 split
 ·rw [heq _ (by omega) (by omega),heq k (by omega) (by omega)]
 ·rfl
theorem Step.mirror {lo i j:Nat}{st st':SortSt}(x:Step κ a0 lo st st')(hi:lo<=i)(hj:j<=a0.size):Step κ a0 lo st (setArr st' (mirror (arrOf st') i j ((j-i)/2))):=by
 refine⟨⟨(mirror_perm _ _ _ _).trans x.ok.perm,x.ok.kind,x.ok.good⟩,x.pend,fun k hk=>?_⟩
 show (PyProof.Rows.mirror (arrOf st') i j ((j-i)/2))[k]?=_
 rw [getElem?_mirror_all (by rw [x.ok.size];exact hj),if_neg (by omega)]
 exact x.low k hk
theorem zik {st:SortSt}{i j:Nat}{Q:Unit->SortSt->Prop}(h:Q () (setArr st (mirror (arrOf st) i j ((j-i)/2)))):wpS (model prog w) A E s (reverseSlice' i j) Q st:=by
 rw [reverseSlice'_eq]
 exact wpS_modify h
noncomputable def up1 (lo a nrem:Nat):StateT SortSt Sem AscSt :=
 forIn [a:nrem] ((none,a):AscSt) fun _ c=>do
  let x <- ltAt' (lo+c.snd) (lo+c.snd-1)
  match x with
  | some b=>if b=true then pure (ForInStep.done (none,c.snd)) else pure (ForInStep.yield (none,c.snd+1))
  | _=>pure (ForInStep.done (some none,c.snd))
noncomputable def zkF (lo n nrem:Nat):StateT SortSt Sem (Option Nat):=do
 reverseSlice' lo (lo+n)
 let c <- up1 lo n nrem
 match c.fst with
 | some r=>pure r
 | none=>pure (some c.snd)
noncomputable def zil (lo n nrem:Nat):StateT SortSt Sem DescSt :=
 forIn [n:nrem] ((none,n,0):DescSt) fun _ c=>do
  let x <- ltAt' (lo+c.snd.fst) (lo+c.snd.fst-1)
  match x with
  | some b =>
   if b=true then
    if c.snd.snd>0 then do
     reverseSlice' (lo+c.snd.fst-(c.snd.snd+1)) (lo+c.snd.fst)
     pure (ForInStep.yield (none,c.snd.fst+1,0))
    else pure (ForInStep.yield (none,c.snd.fst+1,0))
   else do
    let x <- ltAt' (lo+c.snd.fst-1) (lo+c.snd.fst)
    match x with
    | some b =>
     if b=true then pure (ForInStep.done (none,c.snd.fst,c.snd.snd))
     else pure (ForInStep.yield (none,c.snd.fst+1,c.snd.snd+1))
    | _=>pure (ForInStep.done (some none,c.snd.fst,c.snd.snd))
  | _=>pure (ForInStep.done (some none,c.snd.fst,c.snd.snd))
noncomputable def part2 (lo n nrem:Nat):StateT SortSt Sem (Option Nat):=do
 liftM (rule "list.sort.descending-run")
 let c <- zil lo (n+1) nrem
 match c.fst with
 | some r=>pure r
 | none =>
  if c.snd.snd>0 then do
   reverseSlice' (lo+c.snd.fst-(c.snd.snd+1)) (lo+c.snd.fst)
   zkF lo c.snd.fst nrem
  else zkF lo c.snd.fst nrem
theorem run_eq (lo nrem:Nat):countRun' lo nrem=(do
  let c <- up1 lo 1 nrem
  match c.fst with
  | some r=>pure r
  | none =>
   if (c.snd==nrem)=true then pure (some c.snd)
   else if c.snd>1 then do
    let x <- ltAt' lo (lo+c.snd-1)
    match x with
    | some b=>if b=true then pure (some c.snd) else do
      reverseSlice' lo (lo+c.snd)
      part2 lo c.snd nrem
    | _=>pure none
   else part2 lo c.snd nrem):=by
 rw [countRun'_eq]
 unfold part2 zkF zil up1
 refine bind_congr fun c=>?_
 obtain⟨r,n⟩:=c
 cases r with
 | some r=>rfl
 | none =>
  dsimp only
  split
  ·rfl
  ·split
   ·refine bind_congr fun x=>?_
    cases x with
    | none=>rfl
    | some b =>
     dsimp only
     split
     ·rfl
     ·refine bind_congr fun _=>bind_congr fun _=>bind_congr fun c2=>?_
      obtain⟨r2,n2,q2⟩:=c2
      cases r2 with
      | some r2=>rfl
      | none =>
       dsimp only
       split
       ·refine bind_congr fun _=>bind_congr fun _=>bind_congr fun c3=>?_
        obtain⟨r3,n3⟩:=c3
        cases r3<;>rfl
       ·refine bind_congr fun _=>bind_congr fun c3=>?_
        obtain⟨r3,n3⟩:=c3
        cases r3<;>rfl
   ·refine bind_congr fun _=>bind_congr fun c2=>?_
    obtain⟨r2,n2,q2⟩:=c2
    cases r2 with
    | some r2=>rfl
    | none =>
     dsimp only
     split
     ·refine bind_congr fun _=>bind_congr fun _=>bind_congr fun c3=>?_
      obtain⟨r3,n3⟩:=c3
      cases r3<;>rfl
     ·refine bind_congr fun _=>bind_congr fun c3=>?_
      obtain⟨r3,n3⟩:=c3
      cases r3<;>rfl
end
end GS
namespace GS
section
variable {prog:Program}{w:World}{A:Around}{E:Value->Shared->Prop}{s:Shared}{rk:Keyed->Int}{κ:SortKind}{a0:Array Keyed}
def Down (rk:Keyed->Int)(xs:Array Keyed)(lo n:Nat):Prop:=∀i j,i<=j->j<n->Rk rk xs (lo+j)<=Rk rk xs (lo+i)
theorem zmQ {st:SortSt}{lo a nrem:Nat}{Q:AscSt->SortSt->Prop}(T:Tells prog w A s κ rk a0)(O:Ok κ a0 st)(hn:lo+nrem<=a0.size)(ha:1<=a)(han:a<=nrem)(hs:Up rk (arrOf st) lo (lo+a))
  (h:∀n,a<=n->n<=nrem->Up rk (arrOf st) lo (lo+n)->(n=nrem\/Rk rk (arrOf st) (lo+n)<Rk rk (arrOf st) (lo+n-1))->Q (none,n) st):wpS (model prog w) A E s (up1 lo a nrem) Q st:=by
 unfold up1
 refine wpS_forRange (I:=fun x c st'=>st'=st/\c=(none,x)/\Up rk (arrOf st) lo (lo+x)) ?step ?fin ⟨rfl,rfl,hs⟩
 case fin =>
  rintro c st' ⟨rfl,rfl,hs'⟩
  rw [show max a nrem=nrem by omega] at hs' ⊢
  exact h nrem han (le_refl _) hs' (.inl rfl)
 case step =>
  rintro x c st' hax hxn ⟨rfl,rfl,hs'⟩
  dsimp only
  refine wpS_bind (zbW T O (by omega) (by omega) ?_)
  by_cases hless:Rk rk (arrOf st') (lo+x)<Rk rk (arrOf st') (lo+x-1)
  ·simp only [hless,decide_true,if_true]
   exact wpS_pure (h x hax (by omega) hs' (.inr hless))
  ·simp only [hless,decide_false,false_eq_true,if_false]
   refine wpS_pure ⟨rfl,rfl,fun i j hi hij hj=>?_⟩
   by_cases hjx:j<lo+x
   ·exact hs' i j hi hij hjx
   ·obtain rfl:j=lo+x:=by omega
    by_cases hi':i=lo+x
    ·subst hi'
     exact Int.le_refl _
    ·exact Int.le_trans (hs' i (lo+x-1) hi (by omega) (by omega)) (Int.not_lt.mp hless)
theorem zkG {st0 st:SortSt}{lo n nrem:Nat}{Q:Option Nat->SortSt->Prop}(T:Tells prog w A s κ rk a0)(S:Step κ a0 lo st0 st)(hn:lo+nrem<=a0.size)(h1:1<=n)(hnn:n<=nrem)(hs:Down rk (arrOf st) lo n)
  (h:∀m st',Step κ a0 lo st0 st'->1<=m->m<=nrem->Up rk (arrOf st') lo (lo+m)->Q (some m) st'):wpS (model prog w) A E s (zkF lo n nrem) Q st:=by
 unfold zkF
 refine wpS_bind (zik ?_)
 have S':=S.mirror (i:=lo) (j:=lo+n) (le_refl _) (by omega)
 refine wpS_bind (zmQ T S'.ok hn h1 hnn ?_ fun m hm1 hm2 hsm _=>wpS_pure (h m _ S' (by omega) hm2 hsm))
 intro i j hi hij hj
 have hsz:lo+n<=(arrOf st).size:=by
  rw [S.ok.size]
  omega
 show Rk rk (mirror (arrOf st) lo (lo+n) ((lo+n-lo)/2)) i<=Rk rk (mirror (arrOf st) lo (lo+n) ((lo+n-lo)/2)) j
 rw [zaJ hsz,zaJ hsz,if_pos (by omega),if_pos (by omega)]
 have:=hs (lo+n-1-j) (lo+n-1-i) (by omega) (by omega)
 rw [show lo+(lo+n-1-j)=lo+(lo+n)-1-j by omega,show lo+(lo+n-1-i)=lo+(lo+n)-1-i by omega] at this
 exact this
theorem zmf {st0 st:SortSt}{lo n nrem:Nat}{Q:DescSt->SortSt->Prop}(T:Tells prog w A s κ rk a0)(S:Step κ a0 lo st0 st)(hn:lo+nrem<=a0.size)(h1:1<=n)(hnn:n<=nrem)(hs:Down rk (arrOf st) lo n)
  (h:∀m q st',Step κ a0 lo st0 st'->n<=m->m<=nrem->Down rk (arrOf st') lo m->q+1<=m->(∀i,m-(q+1)<=i->i<m->Rk rk (arrOf st') (lo+i)=Rk rk (arrOf st') (lo+(m-1)))->Q (none,m,q) st'):wpS (model prog w) A E s (zil lo n nrem) Q st:=by
 unfold zil
 refine wpS_forRange (I:=fun x c st'=>∃q,c=(none,x,q)/\Step κ a0 lo st0 st'/\Down rk (arrOf st') lo x/\q+1<=x /\
   (∀i,x-(q+1)<=i->i<x->Rk rk (arrOf st') (lo+i)=Rk rk (arrOf st') (lo+(x-1)))) ?step ?fin ⟨0,rfl,S,hs,by omega,fun i h1 h2=>by congr 1;omega⟩
 case fin =>
  rintro c st' ⟨q,rfl,S',hs',hq,he⟩
  rw [show max n nrem=nrem by omega] at hs' hq he ⊢
  exact h nrem q st' S' hnn (le_refl _) hs' hq he
 case step =>
  rintro x c st' hax hxn ⟨q,rfl,S',hs',hq,he⟩
  dsimp only
  have hsz:lo+x<=(arrOf st').size:=by
   rw [S'.ok.size]
   omega
  refine wpS_bind (zbW T S'.ok (by omega) (by omega) ?_)
  by_cases hless:Rk rk (arrOf st') (lo+x)<Rk rk (arrOf st') (lo+x-1)
  ·simp only [hless,decide_true,if_true]
   have step1:∀xs:Array Keyed,(∀k,Rk rk xs k=Rk rk (arrOf st') k)->Down rk xs lo (x+1):=by
    intro xs hk i j hij hj
    rw [hk,hk]
    by_cases hjx:j<x
    ·exact hs' i j hij hjx
    ·obtain rfl:j=x:=by omega
     by_cases hi':i=j
     ·subst hi'
      exact Int.le_refl _
     ·have a1:=hs' i (j-1) (by omega) (by omega)
      rw [show lo+(j-1)=lo+j-1 by omega] at a1
      exact Int.le_trans (le_of_lt hless) a1
   by_cases hq0:q>0
   ·rw [if_pos hq0]
    refine wpS_bind (zik (wpS_pure ⟨0,rfl,S'.mirror (by omega) (by omega),step1 _ (jS hsz fun k k1 k2=>?_),by omega,fun i h1 h2=>by congr 1;omega⟩))
    have a1:=he (k-lo) (by omega) (by omega)
    rw [show lo+(k-lo)=k by omega,show lo+(x-1)=lo+x-1 by omega] at a1
    exact a1
   ·rw [if_neg hq0]
    exact wpS_pure ⟨0,rfl,S',step1 _ (fun _=>rfl),by omega,fun i h1 h2=>by congr 1;omega⟩
  ·simp only [hless,decide_false,false_eq_true,if_false]
   refine wpS_bind (zbW T S'.ok (by omega) (by omega) ?_)
   by_cases hmore:Rk rk (arrOf st') (lo+x-1)<Rk rk (arrOf st') (lo+x)
   ·simp only [hmore,decide_true,if_true]
    exact wpS_pure (h x q st' S' hax (by omega) hs' hq he)
   ·simp only [hmore,decide_false,false_eq_true,if_false]
    have heqx:Rk rk (arrOf st') (lo+x)=Rk rk (arrOf st') (lo+(x-1)):=by
     rw [show lo+(x-1)=lo+x-1 by omega]
     omega
    refine wpS_pure ⟨q+1,rfl,S',fun i j hij hj=>?_,by omega,fun i h1 h2=>?_⟩
    ·by_cases hjx:j<x
     ·exact hs' i j hij hjx
     ·obtain rfl:j=x:=by omega
      by_cases hi':i=j
      ·subst hi'
       exact Int.le_refl _
      ·rw [heqx]
       exact hs' i (j-1) (by omega) (by omega)
    ·rw [show x+1-1=x by omega]
     by_cases hix:i=x
     ·subst hix
      rfl
     ·rw [heqx]
      exact he i (by omega) (by omega)
theorem zim {st0 st:SortSt}{lo n nrem:Nat}{Q:Option Nat->SortSt->Prop}(T:Tells prog w A s κ rk a0)(S:Step κ a0 lo st0 st)(hn:lo+nrem<=a0.size)(hnn:n+1<=nrem)(hs:Down rk (arrOf st) lo (n+1))
  (h:∀m st',Step κ a0 lo st0 st'->1<=m->m<=nrem->Up rk (arrOf st') lo (lo+m)->Q (some m) st'):wpS (model prog w) A E s (part2 lo n nrem) Q st:=by
 unfold part2
 refine wpS_bind (wpS_lift (wpAny_rule ⟨rfl,?_⟩))
 refine wpS_bind (zmf T S hn (by omega) hnn hs fun m q st' S' hm1 hm2 hs' hq he=>?_)
 dsimp only
 have hsz:lo+m<=(arrOf st').size:=by
  rw [S'.ok.size]
  omega
 by_cases hq0:q>0
 ·rw [if_pos hq0]
  refine wpS_bind (zik (zkG T (S'.mirror (by omega) (by omega)) hn (by omega) hm2 ?_ h))
  intro i j hij hj
  show Rk rk (mirror (arrOf st') _ _ _) (lo+j)<=Rk rk (mirror (arrOf st') _ _ _) (lo+i)
  have same:∀k,lo+m-(q+1)<=k->k<lo+m->Rk rk (arrOf st') k=Rk rk (arrOf st') (lo+m-1):=fun k k1 k2=>by
   have a1:=he (k-lo) (by omega) (by omega)
   rw [show lo+(k-lo)=k by omega,show lo+(m-1)=lo+m-1 by omega] at a1
   exact a1
  rw [jS hsz same,jS hsz same]
  exact hs' i j hij hj
 ·rw [if_neg hq0]
  exact zkG T S' hn (by omega) hm2 hs' h
theorem zoz {st:SortSt}{lo nrem:Nat}{Q:Option Nat->SortSt->Prop}(T:Tells prog w A s κ rk a0)(O:Ok κ a0 st)(hn:lo+nrem<=a0.size)(h1:1<=nrem)
  (h:∀m st',Step κ a0 lo st st'->1<=m->m<=nrem->Up rk (arrOf st') lo (lo+m)->Q (some m) st'):wpS (model prog w) A E s (countRun' lo nrem) Q st:=by
 have S:=Step.refl (lo:=lo) O
 rw [run_eq]
 refine wpS_bind (zmQ T O hn (le_refl 1) h1 (fun i j hi hij hj=>by
  obtain rfl:i=j:=by omega
  exact Int.le_refl _) fun n hn1 hn2 hsn hor=>?_)
 dsimp only
 by_cases hnn:n=nrem
 ·rw [if_pos (by simpa using hnn)]
  exact wpS_pure (h n st S hn1 hn2 hsn)
 ·rw [if_neg (by simpa using hnn)]
  have hlt:Rk rk (arrOf st) (lo+n)<Rk rk (arrOf st) (lo+n-1):=hor.resolve_left hnn
  have hsz:lo+n<=(arrOf st).size:=by
   rw [O.size]
   omega
  by_cases hgt:n>1
  ·rw [if_pos hgt]
   refine wpS_bind (zbW T O (by omega) (by omega) ?_)
   by_cases hrose:Rk rk (arrOf st) lo<Rk rk (arrOf st) (lo+n-1)
   ·simp only [hrose,decide_true,if_true]
    exact wpS_pure (h n st S hn1 hn2 hsn)
   ·simp only [hrose,decide_false,false_eq_true,if_false]
    have hall:∀k,lo<=k->k<lo+n->Rk rk (arrOf st) k=Rk rk (arrOf st) (lo+n-1):=by
     intro k k1 k2
     have a1:=hsn lo k (le_refl _) k1 k2
     have a2:=hsn k (lo+n-1) k1 (by omega) (by omega)
     omega
    refine wpS_bind (zik (zim T (S.mirror (le_refl _) (by omega)) hn (by omega) ?_ h))
    intro i j hij hj
    show Rk rk (mirror (arrOf st) _ _ _) (lo+j)<=Rk rk (mirror (arrOf st) _ _ _) (lo+i)
    rw [jS hsz hall,jS hsz hall]
    by_cases hjn:j<n
    ·rw [hall (lo+i) (by omega) (by omega),hall (lo+j) (by omega) (by omega)]
     exact Int.le_refl _
    ·obtain rfl:j=n:=by omega
     by_cases hi':i=j
     ·subst hi'
      exact Int.le_refl _
     ·rw [hall (lo+i) (by omega) (by omega)]
      exact le_of_lt hlt
  ·rw [if_neg hgt]
   obtain rfl:n=1:=by omega
   refine zim T S hn (by omega) ?_ h
   intro i j hij hj
   by_cases hi':i=j
   ·subst hi'
    exact Int.le_refl _
   ·obtain rfl:i=0:=by omega
    obtain rfl:j=1:=by omega
    rw [Nat.add_sub_cancel] at hlt
    exact le_of_lt hlt
theorem zdD {xs:Array Keyed}{src d:Nat}(hs:src<xs.size)(hd:d<=src)(k:Nat):Rk rk (bubble xs src d) k=if k=src-d then Rk rk xs src else if src-d<k/\k<=src then Rk rk xs (k-1) else Rk rk xs k:=by
 have e:=getElem?_bubble hs d hd k
 by_cases h1:k=src-d
 ·rw [if_pos h1] at e ⊢
  exact JB e
 ·rw [if_neg h1] at e ⊢
  by_cases h2:src-d<k/\k<=src
  ·rw [if_pos h2] at e ⊢
   exact JB e
  ·rw [if_neg h2] at e ⊢
   exact JB e
theorem zoA {st:SortSt}{lo n ok:Nat}{Q:Bool->SortSt->Prop}(T:Tells prog w A s κ rk a0)(O:Ok κ a0 st)(hn:lo+n<=a0.size)(hok:ok<=n)(hs:Up rk (arrOf st) lo (lo+ok))
  (h:∀st',Step κ a0 lo st st'->Up rk (arrOf st') lo (lo+n)->Q true st'):wpS (model prog w) A E s (binarySort' lo n ok) Q st:=by
 rw [binarySort'_eq]
 refine wpS_bind (wpS_mono (wpS_forRange (I:=fun k c st'=>c=(none,())/\Step κ a0 lo st st'/\Up rk (arrOf st') lo (lo+min k n))
  (Q:=fun c st'=>c=(none,())/\Step κ a0 lo st st'/\Up rk (arrOf st') lo (lo+n)) ?step ?fin ?init) ?post)
 case post =>
  rintro c st' ⟨rfl,S',hs'⟩
  exact wpS_pure (h st' S' hs')
 case init =>
  refine⟨rfl,Step.refl O,fun i j hi hij hj=>?_⟩
  by_cases h1:ok=0
  ·obtain rfl:i=j:=by omega
   exact Int.le_refl _
  ·exact hs i j hi hij (by omega)
 case fin =>
  rintro c st' ⟨hc,S',hs'⟩
  refine⟨hc,S',?_⟩
  rwa [show min (max (max ok 1) n) n=n by omega] at hs'
 case step =>
  rintro k c st' hak hkn ⟨rfl,S',hs'⟩
  rw [show min k n=k by omega] at hs'
  have O':=S'.ok
  have hk:lo+k<a0.size:=by omega
  refine wpS_bind (wpS_mono (wpS_forRange (I:=fun x c st''=>st''=st'/\∃l r,c=(none,l,r)/\l<=r/\r<=k/\r-l<=k-x /\
    (∀i,i<l->Rk rk (arrOf st') (lo+i)<=Rk rk (arrOf st') (lo+k))/\(∀i,r<=i->i<k->Rk rk (arrOf st') (lo+k)<Rk rk (arrOf st') (lo+i)))
   (Q:=fun c st''=>st''=st'/\∃l r,c=(none,l,r)/\l<=k /\
    (∀i,i<l->Rk rk (arrOf st') (lo+i)<=Rk rk (arrOf st') (lo+k))/\(∀i,l<=i->i<k->Rk rk (arrOf st') (lo+k)<Rk rk (arrOf st') (lo+i))) ?istep ?ifin ?iinit) ?ipost)
  case iinit=>exact⟨rfl,0,k,rfl,by omega,by omega,by omega,fun i hi=>by omega,fun i h1 h2=>by omega⟩
  case ifin =>
   rintro c st'' ⟨rfl,l,r,rfl,hlr,hrk,hm,hlo,hhi⟩
   obtain rfl:l=r:=by omega
   exact⟨rfl,l,l,rfl,hrk,hlo,hhi⟩
  case istep =>
   rintro x c st'' _ hxk ⟨rfl,l,r,rfl,hlr,hrk,hm,hlo,hhi⟩
   dsimp only
   by_cases hge:l >= r
   ·rw [if_pos hge]
    obtain rfl:l=r:=by omega
    exact wpS_pure ⟨rfl,l,l,rfl,hrk,hlo,hhi⟩
   ·rw [if_neg hge]
    refine wpS_bind (zbW T O' hk (by omega) ?_)
    by_cases hless:Rk rk (arrOf st'') (lo+k)<Rk rk (arrOf st'') (lo+(l+r)/2)
    ·simp only [hless,decide_true,if_true]
     refine wpS_pure ⟨rfl,l,(l+r)/2,rfl,by omega,by omega,by omega,hlo,fun i h1 h2=>?_⟩
     exact Int.lt_of_lt_of_le hless (hs' _ _ (by omega) (by omega) (by omega))
    ·simp only [hless,decide_false,false_eq_true,if_false]
     refine wpS_pure ⟨rfl,(l+r)/2+1,r,rfl,by omega,by omega,by omega,fun i h1=>?_,hhi⟩
     exact Int.le_trans (hs' (lo+i) (lo+(l+r)/2) (by omega) (by omega) (by omega)) (Int.not_lt.mp hless)
  case ipost =>
   rintro c st'' ⟨rfl,l,r,rfl,hlk,hlo,hhi⟩
   show wpS _ _ _ _ (do moveDown' (lo+k) (lo+l);pure (ForInStep.yield (none,()))) _ _
   rw [moveDown'_eq]
   have hks:lo+k<(arrOf st'').size:=by
    rw [O'.size]
    exact hk
   refine wpS_bind (wpS_modify (wpS_pure ⟨rfl,⟨⟨(bubble_perm _ _ _).trans O'.perm,O'.kind,O'.good⟩,S'.pend,fun i hi=>?_⟩,?_⟩))
   ·show (bubble (arrOf st'') (lo+k) (lo+k-(lo+l)))[i]?=_
    rw [getElem?_bubble hks _ (by omega),if_neg (by omega),if_neg (by omega)]
    exact S'.low i hi
   ·rw [show min (k+1) n=k+1 by omega]
    intro i j hi hij hj
    show Rk rk (bubble (arrOf st'') (lo+k) (lo+k-(lo+l))) i<=Rk rk (bubble (arrOf st'') (lo+k) (lo+k-(lo+l))) j
    rw [zdD hks (by omega),zdD hks (by omega),show lo+k-(lo+k-(lo+l))=lo+l by omega]
    have up:∀a b,lo<=a->a<=b->b<lo+k->Rk rk (arrOf st'') a<=Rk rk (arrOf st'') b:=hs'
    have low:∀a,lo<=a->a<lo+l->Rk rk (arrOf st'') a<=Rk rk (arrOf st'') (lo+k):=fun a a1 a2=>by
     have:=hlo (a-lo) (by omega)
     rwa [show lo+(a-lo)=a by omega] at this
    have high:∀a,lo+l<=a->a<lo+k->Rk rk (arrOf st'') (lo+k)<Rk rk (arrOf st'') a:=fun a a1 a2=>by
     have:=hhi (a-lo) (by omega) (by omega)
     rwa [show lo+(a-lo)=a by omega] at this
    repeat' split
    all_goals first
     | (exfalso;omega)
     | exact Int.le_refl _
     | exact low _ (by omega) (by omega)
     | exact le_of_lt (high _ (by omega) (by omega))
     | exact up _ _ (by omega) (by omega) (by omega)
end
end GS
namespace GS
noncomputable def gallop':Bool->Keyed->Array Keyed->Nat->Nat->Nat->StateT SortSt Sem (Option Nat):=sortPriv% PySem.Builtin.gallop
noncomputable def mergeLo':Array Keyed->Array Keyed->StateT SortSt Sem (Array Keyed):=sortPriv% PySem.Builtin.mergeLo
noncomputable def mergeHi':Array Keyed->Array Keyed->StateT SortSt Sem (Array Keyed):=sortPriv% PySem.Builtin.mergeHi
section
variable {prog:Program}{w:World}{A:Around}{E:Value->Shared->Prop}{s:Shared}{rk:Keyed->Int}{κ:SortKind}{a0:Array Keyed}
def bey (rk:Keyed->Int)(left:Bool)(key x:Keyed):Bool:=if left then decide (rk x<rk key) else !decide (rk key<rk x)
theorem zfJ {st:SortSt}{left:Bool}{key:Keyed}{arr:Array Keyed}{base n hint:Nat}{Q:Option Nat->SortSt->Prop}(T:Tells prog w A s κ rk a0)(hk:kindOf st=κ)(hkey:key∈a0.toList)(b:Nat->Bool)
  (he:∀i,i<n->∃x,arr[base+i]?=some x/\x∈a0.toList/\b i=bey rk left key x) (mono:∀i j,i<=j->j<n->b j=true->b i=true) (hh:hint<n)
  (h:∀k,k<=n->(∀i,i<k->b i=true)->(∀i,k<=i->i<n->b i=false)->Q (some k) st):wpS (model prog w) A E s (gallop' left key arr base n hint) Q st:=by
 have one:∀{i:Nat} {Q':Option Bool->SortSt->Prop},i<n->Q' (some (b i)) st->wpS (model prog w) A E s (do
   let x <- elem' arr (base+i)
   if left=true then lt' x key
    else do
     let r <- lt' key x
     pure (Option.map (fun x=>!x) r)) Q' st:=by
  intro i Q' hi hq
  obtain⟨x,e1,e2,e3⟩:=he i hi
  refine wpS_bind (qT e1 ?_)
  unfold bey at e3
  cases left with
  | true =>
   rw [if_pos rfl] at e3 ⊢
   rw [e3] at hq
   exact zkE T hk e2 hkey hq
  | false =>
   rw [if_neg Bool.false_ne_true] at e3 ⊢
   rw [e3] at hq
   exact wpS_bind (zkE T hk hkey e2 (wpS_pure hq))
 have last:∀{f:Nat->Option (Option Nat)×Nat×Nat->StateT SortSt Sem (ForInStep (Option (Option Nat)×Nat×Nat))} {g:Option (Option Nat)×Nat×Nat->StateT SortSt Sem (Option Nat)},
   (∀x l r (R:ForInStep (Option (Option Nat)×Nat×Nat)->SortSt->Prop),l >= r->R (.done (none,l,r)) st->wpS (model prog w) A E s (f x (none,l,r)) R st) ->
   (∀x l r (R:ForInStep (Option (Option Nat)×Nat×Nat)->SortSt->Prop),l<r->r<=n->R (.yield (if b (l+(r-l)/2)=true then (none,l+(r-l)/2+1,r) else (none,l,l+(r-l)/2))) st->wpS (model prog w) A E s (f x (none,l,r)) R st) ->
   (∀l r,Q (some r) st->wpS (model prog w) A E s (g (none,l,r)) Q st) ->
   ∀(lo hi:Nat),lo<=hi->hi<=n->(∀i,i<lo->b i=true)->(∀i,hi<=i->i<n->b i=false)->wpS (model prog w) A E s (forIn [:n] ((none,lo,hi):Option (Option Nat)×Nat×Nat) f >>= g) Q st:=by
  intro f g f1 f2 g1 lo hi h1 h2 h3 h4
  refine wpS_bind (wpS_mono (wpS_forRange (I:=fun x c st'=>st'=st/\∃l r,c=(none,l,r)/\l<=r/\r<=n/\r-l<=n-x/\(∀i,i<l->b i=true)/\(∀i,r<=i->i<n->b i=false))
   (Q:=fun c st'=>st'=st/\∃l,c=(none,l,l)/\l<=n/\(∀i,i<l->b i=true)/\(∀i,l<=i->i<n->b i=false)) ?step ?fin ⟨rfl,lo,hi,rfl,h1,h2,by omega,h3,h4⟩) ?post)
  case fin =>
   rintro c st' ⟨rfl,l,r,rfl,a1,a2,a3,a4,a5⟩
   obtain rfl:l=r:=by omega
   exact⟨rfl,l,rfl,a2,a4,a5⟩
  case post =>
   rintro c st' ⟨rfl,l,rfl,a2,a4,a5⟩
   exact g1 l l (h l a2 a4 a5)
  case step =>
   rintro x c st' _ hx ⟨rfl,l,r,rfl,a1,a2,a3,a4,a5⟩
   by_cases hge:l >= r
   ·obtain rfl:l=r:=by omega
    exact f1 x l l _ hge ⟨rfl,l,rfl,a2,a4,a5⟩
   ·refine f2 x l r _ (by omega) a2 ?_
    cases hb:b (l+(r-l)/2) with
    | true =>
     rw [if_pos rfl]
     exact⟨rfl,l+(r-l)/2+1,r,rfl,by omega,a2,by omega,fun i hi=>mono i _ (by omega) (by omega) hb,a5⟩
    | false =>
     rw [if_neg Bool.false_ne_true]
     refine⟨rfl,l,l+(r-l)/2,rfl,by omega,by omega,by omega,a4,fun i i1 i2=>?_⟩
     cases hbi:b i with
     | false=>rfl
     | true =>
      have:=mono _ i i1 i2 hbi
      rw [hb] at this
      cases this
 refine wpS_bind (one hh ?_)
 dsimp only
 cases hb:b hint with
 | true =>
  rw [if_pos rfl]
  refine wpS_bind (wpS_mono (wpS_forRange (I:=fun x c st'=>st'=st/\∃l o,c=(none,l,o)/\l<o/\hint+l<n/\b (hint+l)=true/\x+1<=o)
   (Q:=fun c st'=>st'=st/\∃l o,c=(none,l,o)/\l<o/\hint+l<n/\b (hint+l)=true/\(o >= n-hint\/(hint+o<n/\b (hint+o)=false))) ?step ?fin ⟨rfl,0,1,rfl,by omega,hh,hb,by omega⟩) ?post)
  case fin =>
   rintro c st' ⟨rfl,l,o,rfl,a1,a2,a3,a4⟩
   exact⟨rfl,l,o,rfl,a1,a2,a3,.inl (by omega)⟩
  case step =>
   rintro x c st' _ hx ⟨rfl,l,o,rfl,a1,a2,a3,a4⟩
   dsimp only
   by_cases hge:o >= n-hint
   ·rw [if_pos hge]
    exact wpS_pure ⟨rfl,l,o,rfl,a1,a2,a3,.inl hge⟩
   ·rw [if_neg hge]
    refine wpS_bind (one (by omega) ?_)
    dsimp only
    cases hbo:b (hint+o) with
    | false =>
     rw [if_pos (by decide)]
     exact wpS_pure ⟨rfl,l,o,rfl,a1,a2,a3,.inr ⟨by omega,hbo⟩⟩
    | true =>
     rw [if_neg (by decide)]
     exact wpS_pure ⟨rfl,o,2*o+1,rfl,by omega,by omega,hbo,by omega⟩
  case post =>
   rintro c st' ⟨rfl,l,o,rfl,a1,a2,a3,a4⟩
   refine last (fun x l r R hge hR=>?_) (fun x l r R hlt hr hR=>?_) (fun l r hq=>wpS_pure hq) (hint+l+1) (hint+min o (n-hint)) (by omega) (by omega) (fun i hi=>mono i (hint+l) (by omega) a2 a3) fun i i1 i2=>?_
   ·dsimp only
    rw [if_pos hge]
    exact wpS_pure hR
   ·dsimp only
    rw [if_neg (by omega)]
    refine wpS_bind (one (by omega) ?_)
    dsimp only
    cases hbm:b (l+(r-l)/2) with
    | true =>
     rw [hbm,if_pos rfl] at hR
     rw [if_pos rfl]
     exact wpS_pure hR
    | false =>
     rw [hbm,if_neg Bool.false_ne_true] at hR
     rw [if_neg Bool.false_ne_true]
     exact wpS_pure hR
   ·rcases a4 with a4 | ⟨a4,a5⟩
    ·omega
    ·cases hbi:b i with
     | false=>rfl
     | true =>
      have:=mono _ i (show hint+o<=i by omega) i2 hbi
      rw [a5] at this
      cases this
 | false =>
  rw [if_neg Bool.false_ne_true]
  refine wpS_bind (wpS_mono (wpS_forRange (I:=fun x c st'=>st'=st/\∃l o,c=(none,l,o)/\l<o/\l<=hint/\b (hint-l)=false/\x+1<=o)
   (Q:=fun c st'=>st'=st/\∃l o,c=(none,l,o)/\l<o/\l<=hint/\b (hint-l)=false/\(o >= hint+1\/(o<=hint/\b (hint-o)=true))) ?step ?fin ⟨rfl,0,1,rfl,by omega,by omega,hb,by omega⟩) ?post)
  case fin =>
   rintro c st' ⟨rfl,l,o,rfl,a1,a2,a3,a4⟩
   exact⟨rfl,l,o,rfl,a1,a2,a3,.inl (by omega)⟩
  case step =>
   rintro x c st' _ hx ⟨rfl,l,o,rfl,a1,a2,a3,a4⟩
   dsimp only
   by_cases hge:o >= hint+1
   ·rw [if_pos hge]
    exact wpS_pure ⟨rfl,l,o,rfl,a1,a2,a3,.inl hge⟩
   ·rw [if_neg hge]
    refine wpS_bind (one (by omega) ?_)
    dsimp only
    cases hbo:b (hint-o) with
    | true =>
     rw [if_pos rfl]
     exact wpS_pure ⟨rfl,l,o,rfl,a1,a2,a3,.inr ⟨by omega,hbo⟩⟩
    | false =>
     rw [if_neg (by decide)]
     exact wpS_pure ⟨rfl,o,2*o+1,rfl,by omega,by omega,hbo,by omega⟩
  case post =>
   rintro c st' ⟨rfl,l,o,rfl,a1,a2,a3,a4⟩
   refine last (fun x l r R hge hR=>?_) (fun x l r R hlt hr hR=>?_) (fun l r hq=>wpS_pure hq) (hint+1-min o (hint+1)) (hint-l) (by omega) (by omega) (fun i hi=>?_) fun i i1 i2=>?_
   ·dsimp only
    rw [if_pos hge]
    exact wpS_pure hR
   ·dsimp only
    rw [if_neg (by omega)]
    refine wpS_bind (one (by omega) ?_)
    dsimp only
    cases hbm:b (l+(r-l)/2) with
    | true =>
     rw [hbm,if_pos rfl] at hR
     rw [if_pos rfl]
     exact wpS_pure hR
    | false =>
     rw [hbm,if_neg Bool.false_ne_true] at hR
     rw [if_neg Bool.false_ne_true]
     exact wpS_pure hR
   ·rcases a4 with a4 | ⟨a4,a5⟩
    ·omega
    ·exact mono i (hint-o) (by omega) (by omega) a5
   ·cases hbi:b i with
    | false=>rfl
    | true =>
     have:=mono _ i i1 i2 hbi
     rw [a3] at this
     cases this
end
end GS
namespace GS
structure MI (rk:Keyed->Int)(aL bL:List Keyed)(ia ib:Nat)(oL:List Keyed):Prop where
 perm:oL.Perm (aL.take ia++bL.take ib)
 srt:oL.Pairwise fun x y=>rk x<=rk y
 la:∀x∈oL,∀y∈aL.drop ia,rk x<=rk y
 lb:∀x∈oL,∀y∈bL.drop ib,rk x<=rk y
section
variable {rk:Keyed->Int}{aL bL oL:List Keyed}{ia ib:Nat}
theorem MI.swap (M:MI rk aL bL ia ib oL):MI rk bL aL ib ia oL:=⟨M.perm.trans List.perm_append_comm,M.srt,M.lb,M.la⟩
theorem zjm (l:List Keyed)(i k:Nat):l.take (i+k)=l.take i++(l.drop i).take k:=by
 rw [List.take_add]
theorem MI.takeA (M:MI rk aL bL ia ib oL)(sa:aL.Pairwise fun x y=>rk x<=rk y)(k:Nat)(h:∀x∈(aL.drop ia).take k,∀y∈bL.drop ib,rk x<=rk y):MI rk aL bL (ia+k) ib (oL++(aL.drop ia).take k):=by
 have sd:(aL.drop ia).Pairwise fun x y=>rk x<=rk y:=sa.sublist (List.drop_sublist _ _)
 have e2:(aL.drop ia).drop k=aL.drop (ia+k):=List.drop_drop
 refine⟨?_,?_,fun x hx y hy=>?_,fun x hx y hy=>?_⟩
 ·rw [zjm,append_assoc]
  refine(M.perm.append_right _).trans ?_
  rw [append_assoc]
  exact List.Perm.append_left _ List.perm_append_comm
 ·rw [List.pairwise_append]
  exact⟨M.srt,sd.sublist (take_sublist _ _),fun x hx y hy=>M.la x hx y (mem_of_mem_take hy)⟩
 ·rw [<- e2] at hy
  rcases List.mem_append.mp hx with hx | hx
  ·exact M.la x hx y (List.mem_of_mem_drop hy)
  ·have:=sd
   rw [<- take_append_drop k (aL.drop ia),List.pairwise_append] at this
   exact this.2.2 x hx y hy
 ·rcases List.mem_append.mp hx with hx | hx
  ·exact M.lb x hx y hy
  ·exact h x hx y hy
theorem MI.takeB (M:MI rk aL bL ia ib oL)(sb:bL.Pairwise fun x y=>rk x<=rk y)(k:Nat)(h:∀x∈(bL.drop ib).take k,∀y∈aL.drop ia,rk x<=rk y):MI rk aL bL ia (ib+k) (oL++(bL.drop ib).take k):=(M.swap.takeA sb k h).swap
def Mg (rk:Keyed->Int)(aL bL oL:List Keyed):Prop:=oL.Perm (aL++bL)/\oL.Pairwise fun x y=>rk x<=rk y
theorem MI.all (M:MI rk aL bL ia ib oL)(ha:aL.length<=ia)(hb:bL.length<=ib):Mg rk aL bL oL:=by
 have:=M.perm
 rw [take_of_length_le ha,take_of_length_le hb] at this
 exact⟨this,M.srt⟩
theorem MI.doneB (M:MI rk aL bL ia ib oL)(sa:aL.Pairwise fun x y=>rk x<=rk y)(hb:bL.length<=ib):Mg rk aL bL (oL++aL.drop ia):=by
 have:=M.takeA sa (aL.drop ia).length (fun x _ y hy=>by
  rw [List.drop_eq_nil_of_le hb] at hy
  cases hy)
 rw [take_length] at this
 exact this.all (by rw [length_drop];omega) hb
theorem MI.lastA (M:MI rk aL bL ia ib oL)(sa:aL.Pairwise fun x y=>rk x<=rk y)(sb:bL.Pairwise fun x y=>rk x<=rk y)(h:∀x∈bL,∀y∈aL.drop ia,rk x<=rk y):Mg rk aL bL (oL++bL.drop ib++aL.drop ia):=by
 have M2:=M.takeB sb (bL.drop ib).length (fun x hx y hy=>h x (List.mem_of_mem_drop (mem_of_mem_take hx)) y hy)
 rw [take_length] at M2
 exact M2.doneB sa (by rw [length_drop];omega)
theorem ext_toList (a:Array Keyed)(i j:Nat)(hj:i<=j):(a.extract i j).toList=(a.toList.drop i).take (j-i):=by
 rw [Array.toList_extract,List.extract_eq_take_drop]
theorem Q9 (a:Array Keyed)(i:Nat):(a.extract i a.size).toList=a.toList.drop i:=by
 rw [Array.toList_extract,List.extract_eq_take_drop,take_of_length_le]
 rw [length_drop,length_toList]
 exact le_refl _
theorem zkH {a:Array Keyed}{i:Nat}{x:Keyed}(h:a[i]?=some x):(a.toList.drop i).take 1=[x]:=by
 have hi:i<a.toList.length:=by
  rw [length_toList]
  exact(Array.getElem?_eq_some_iff.mp h).1
 rw [drop_eq_getElem_cons hi,List.take_succ_cons,List.take_zero]
 have:a.toList[i]?=some x:=by rw [getElem?_toList];exact h
 rw [getElem?_eq_getElem hi] at this
 rw [Option.some.inj this]
end
section
variable {prog:Program}{w:World}{A:Around}{E:Value->Shared->Prop}{s:Shared}{rk:Keyed->Int}{κ:SortKind}{a0:Array Keyed}
structure Kept (st st':SortSt):Prop where
 arr:arrOf st'=arrOf st
 kind:kindOf st'=kindOf st
 pend:pendingOf st'=pendingOf st
 bad:failedOf st'=failedOf st
noncomputable def setG':Nat->StateT SortSt Sem Unit:=sortPriv% PySem.Builtin.setMinGallop
theorem Kept.refl (st:SortSt):Kept st st:=⟨rfl,rfl,rfl,rfl⟩
theorem zeD {st0 st:SortSt}{g:Nat}{Q:Unit->SortSt->Prop}(k:Kept st0 st)(h:∀st',Kept st0 st'->Q () st'):wpS (model prog w) A E s (setG' g) Q st:=by
 have e:setG' g=modify fun c=>SortSt.mk' (kindOf c) (arrOf c) (pendingOf c) g (failedOf c):=rfl
 rw [e]
 exact wpS_modify (h _ ⟨k.arr,k.kind,k.pend,k.bad⟩)
theorem qv {α:Type}{c:Prop} [Decidable c]{x y:StateT SortSt Sem α}{Q:α->SortSt->Prop}{st:SortSt}(h1:c->wpS (model prog w) A E s x Q st)(h2:¬ c->wpS (model prog w) A E s y Q st):wpS (model prog w) A E s (if c then x else y) Q st:=by
 by_cases hc:c
 ·rw [if_pos hc]
  exact h1 hc
 ·rw [if_neg hc]
  exact h2 hc
theorem jg {a:Array Keyed}{i:Nat}(h:i<a.size):∃x,a[i]?=some x/\x∈a.toList:=⟨a[i],getElem?_pos a i h,by simp⟩
theorem JP {a:Array Keyed}(sa:a.toList.Pairwise fun x y=>rk x<=rk y){i:Nat}{x:Keyed}(e:a[i]?=some x):∀y∈a.toList.drop i,rk x<=rk y:=by
 have hi:i<a.toList.length:=by
  rw [length_toList]
  exact(Array.getElem?_eq_some_iff.mp e).1
 have e':a.toList[i]?=some x:=by rw [getElem?_toList];exact e
 rw [getElem?_eq_getElem hi] at e'
 have ex:=Option.some.inj e'
 have sd:=sa.sublist (List.drop_sublist i a.toList)
 rw [drop_eq_getElem_cons hi,ex,List.pairwise_cons] at sd
 rw [drop_eq_getElem_cons hi,ex]
 intro y hy
 rcases List.mem_cons.mp hy with rfl | hy
 ·exact Int.le_refl _
 ·exact sd.1 y hy
theorem Yr {a b out:Array Keyed}{ia ib:Nat}(M:MI rk a.toList b.toList ia ib out.toList)(sa:a.toList.Pairwise fun x y=>rk x<=rk y)(hb:b.size<=ib):Mg rk a.toList b.toList (out++a.extract ia a.size++b.extract ib b.size).toList:=by
 rw [toList_append,toList_append,Q9,Q9,List.drop_eq_nil_of_le (as:=b.toList) (by rw [length_toList];exact hb),append_nil]
 exact M.doneB sa (by rw [length_toList];exact hb)
theorem Ys {a b out:Array Keyed}{ia ib:Nat}(M:MI rk a.toList b.toList ia ib out.toList)(sa:a.toList.Pairwise fun x y=>rk x<=rk y)(sb:b.toList.Pairwise fun x y=>rk x<=rk y)(hl:∀x∈b.toList,∀y,a[a.size-1]?=some y->rk x<=rk y)(ha:ia+1=a.size):Mg rk a.toList b.toList (out++b.extract ib b.size++a.extract ia a.size).toList:=by
 rw [toList_append,toList_append,Q9,Q9]
 refine M.lastA sa sb fun x hx y hy=>?_
 have hi:ia<a.toList.length:=by rw [length_toList];omega
 rw [drop_eq_getElem_cons hi,List.drop_eq_nil_of_le (by rw [length_toList];omega)] at hy
 have ey:y=a.toList[ia]:=by simpa using hy
 refine hl x hx y ?_
 rw [show a.size-1=ia by omega,<- getElem?_toList,getElem?_eq_getElem hi,ey]
theorem zjn (out:Array Keyed)(x:Keyed):(out.push x).toList=out.toList++[x]:=toList_push ..
theorem MI.oneB {a b out:Array Keyed}{ia ib:Nat}{x:Keyed}(M:MI rk a.toList b.toList ia ib out.toList)(sb:b.toList.Pairwise fun x y=>rk x<=rk y)(e:b[ib]?=some x)(h:∀y∈a.toList.drop ia,rk x<=rk y):MI rk a.toList b.toList ia (ib+1) (out.push x).toList:=by
 rw [zjn,<- zkH e]
 refine M.takeB sb 1 fun z hz y hy=>?_
 rw [zkH e] at hz
 have ez:z=x:=by simpa using hz
 rw [ez]
 exact h y hy
theorem MI.oneA {a b out:Array Keyed}{ia ib:Nat}{x:Keyed}(M:MI rk a.toList b.toList ia ib out.toList)(sa:a.toList.Pairwise fun x y=>rk x<=rk y)(e:a[ia]?=some x)(h:∀y∈b.toList.drop ib,rk x<=rk y):MI rk a.toList b.toList (ia+1) ib (out.push x).toList:=(MI.oneB M.swap sa e h).swap
theorem MI.someA {a b out:Array Keyed}{ia ib k:Nat}{y:Keyed}(M:MI rk a.toList b.toList ia ib out.toList)(sa:a.toList.Pairwise fun x y=>rk x<=rk y)(sb:b.toList.Pairwise fun x y=>rk x<=rk y)(e:b[ib]?=some y)(h:∀i x,i<k->a[ia+i]?=some x->rk x<=rk y):MI rk a.toList b.toList (ia+k) ib (out++a.extract ia (ia+k)).toList:=by
 rw [toList_append,ext_toList _ _ _ (Nat.le_add_right _ _),Nat.add_sub_cancel_left]
 refine M.takeA sa k fun x hx z hz=>Int.le_trans ?_ (JP sb e z hz)
 obtain⟨i,hi,ex⟩:=List.getElem_of_mem hx
 have hik:i<k:=by
  rw [length_take] at hi
  omega
 refine h i x hik ?_
 have:((a.toList.drop ia).take k)[i]?=some x:=by rw [getElem?_eq_getElem hi,ex]
 rw [List.getElem?_take,if_pos hik,List.getElem?_drop,getElem?_toList] at this
 exact this
theorem MI.someB {a b out:Array Keyed}{ia ib k:Nat}{y:Keyed}(M:MI rk a.toList b.toList ia ib out.toList)(sa:a.toList.Pairwise fun x y=>rk x<=rk y)(sb:b.toList.Pairwise fun x y=>rk x<=rk y)(e:a[ia]?=some y)(h:∀i x,i<k->b[ib+i]?=some x->rk x<=rk y):MI rk a.toList b.toList ia (ib+k) (out++b.extract ib (ib+k)).toList:=(MI.someA M.swap sb sa e h).swap
end
end GS
namespace GS
section
variable {prog:Program}{w:World}{A:Around}{E:Value->Shared->Prop}{s:Shared}{rk:Keyed->Int}{κ:SortKind}{a0:Array Keyed}
theorem zaK {st:SortSt}{key:Keyed}{a:Array Keyed}{base n hint:Nat}{Q:Option Nat->SortSt->Prop}(T:Tells prog w A s κ rk a0)(hk:kindOf st=κ)(hkey:key∈a0.toList)(ma:∀x∈a.toList,x∈a0.toList)(up:∀i j x y,base<=i->i<=j->j<base+n->a[i]?=some x->a[j]?=some y->rk x<=rk y)(hn:base+n<=a.size)(hh:hint<n)
  (h:∀k,k<=n->(∀i x,i<k->a[base+i]?=some x->rk x<=rk key)->(∀i x,k<=i->i<n->a[base+i]?=some x->rk key<rk x)->Q (some k) st):wpS (model prog w) A E s (gallop' false key a base n hint) Q st:=by
 have he:∀i,i<n->∃x,a[base+i]?=some x/\x∈a.toList:=fun i hi=>jg (by omega)
 refine zfJ T hk hkey (fun i=>match a[base+i]? with | some x=>bey rk false key x | none=>false) (fun i hi=>?_) (fun i j hij hj hb=>?_) hh fun k hk1 h1 h2=>h k hk1 (fun i x hi e=>?_) fun i x hi1 hi2 e=>?_
 ·obtain⟨x,e,m⟩:=he i hi
  refine⟨x,e,ma x m,?_⟩
  try dsimp only
  rw [e]
 ·obtain⟨x,ex,_⟩:=he i (by omega)
  obtain⟨y,ey,_⟩:=he j hj
  try dsimp only at hb ⊢
  rw [ey] at hb
  rw [ex]
  have:=up (base+i) (base+j) x y (by omega) (by omega) (by omega) ex ey
  unfold bey at hb ⊢
  simp only [false_eq_true,if_false,not_eq_true',decide_eq_false_iff_not] at hb ⊢
  omega
 ·have:=h1 i hi
  try dsimp only at this
  rw [e] at this
  unfold bey at this
  simp only [false_eq_true,if_false,not_eq_true',decide_eq_false_iff_not] at this
  omega
 ·have:=h2 i hi1 hi2
  try dsimp only at this
  rw [e] at this
  unfold bey at this
  simp only [false_eq_true,if_false,Bool.not_eq_false',decide_eq_true_eq] at this
  exact this
theorem zaL {st:SortSt}{key:Keyed}{a:Array Keyed}{base n hint:Nat}{Q:Option Nat->SortSt->Prop}(T:Tells prog w A s κ rk a0)(hk:kindOf st=κ)(hkey:key∈a0.toList)(ma:∀x∈a.toList,x∈a0.toList)(up:∀i j x y,base<=i->i<=j->j<base+n->a[i]?=some x->a[j]?=some y->rk x<=rk y)(hn:base+n<=a.size)(hh:hint<n)
  (h:∀k,k<=n->(∀i x,i<k->a[base+i]?=some x->rk x<rk key)->(∀i x,k<=i->i<n->a[base+i]?=some x->rk key<=rk x)->Q (some k) st):wpS (model prog w) A E s (gallop' true key a base n hint) Q st:=by
 have he:∀i,i<n->∃x,a[base+i]?=some x/\x∈a.toList:=fun i hi=>jg (by omega)
 refine zfJ T hk hkey (fun i=>match a[base+i]? with | some x=>bey rk true key x | none=>false) (fun i hi=>?_) (fun i j hij hj hb=>?_) hh fun k hk1 h1 h2=>h k hk1 (fun i x hi e=>?_) fun i x hi1 hi2 e=>?_
 ·obtain⟨x,e,m⟩:=he i hi
  refine⟨x,e,ma x m,?_⟩
  try dsimp only
  rw [e]
 ·obtain⟨x,ex,_⟩:=he i (by omega)
  obtain⟨y,ey,_⟩:=he j hj
  try dsimp only at hb ⊢
  rw [ey] at hb
  rw [ex]
  have:=up (base+i) (base+j) x y (by omega) (by omega) (by omega) ex ey
  unfold bey at hb ⊢
  simp only [if_true,decide_eq_true_eq] at hb ⊢
  omega
 ·have:=h1 i hi
  try dsimp only at this
  rw [e] at this
  unfold bey at this
  simp only [if_true,decide_eq_true_eq] at this
  exact this
 ·have:=h2 i hi1 hi2
  try dsimp only at this
  rw [e] at this
  unfold bey at this
  simp only [if_true,decide_eq_false_iff_not] at this
  omega
theorem zin {a:Array Keyed}(sa:a.toList.Pairwise fun x y=>rk x<=rk y){i j:Nat}{x y:Keyed}(hij:i<=j)(ex:a[i]?=some x)(ey:a[j]?=some y):rk x<=rk y:=by
 refine JP sa ex y ?_
 have hj:j<a.toList.length:=by
  rw [length_toList]
  exact(Array.getElem?_eq_some_iff.mp ey).1
 refine mem_of_getElem? (i:=j-i) ?_
 rw [List.getElem?_drop,getElem?_toList,show i+(j-i)=j by omega]
 exact ey
set_option maxHeartbeats 8000000 in
theorem via {P:Prop}(h:∀G:Prop,(P->G)->G):P:=h P id
structure Key (P:Prop):Prop where
 get:P
theorem cut {P R:Prop}(k:P)(h:Key P->R):R:=h ⟨k⟩
theorem zjo {st0:SortSt}{a b:Array Keyed}{Q:Array Keyed->SortSt->Prop}(T:Tells prog w A s κ rk a0)(hk:kindOf st0=κ)(ma:∀x∈a.toList,x∈a0.toList)(mb:∀x∈b.toList,x∈a0.toList)(sa:a.toList.Pairwise fun x y=>rk x<=rk y)(sb:b.toList.Pairwise fun x y=>rk x<=rk y)
  (ha:0<a.size) (hb:0<b.size) (h0:∀x y,b[0]?=some x->y∈a.toList->rk x<=rk y) (hl':∀x∈b.toList,∀y,a[a.size-1]?=some y->rk x<rk y)
  (h:∀out st',Kept st0 st'->Mg rk a.toList b.toList out.toList->Q out st'):wpS (model prog w) A E s (mergeLo' a b) Q st0:=by
 have hl:∀x∈b.toList,∀y,a[a.size-1]?=some y->rk x<=rk y:=fun x hx y hy=>le_of_lt (hl' x hx y hy)
 refine wpS_bind (wpS_lift (wpAny_rule ⟨rfl,?_⟩))
 obtain⟨b0,eb0,_⟩:=jg hb
 refine wpS_bind (qT eb0 ?_)
 have M0:MI rk a.toList b.toList 0 0 (#[]:Array Keyed).toList:=⟨by simp,List.Pairwise.nil,(fun x hx=>nomatch hx),(fun x hx=>nomatch hx)⟩
 have M1:MI rk a.toList b.toList 0 1 (#[b0]:Array Keyed).toList:=MI.oneB M0 sb eb0 fun y hy=>h0 b0 y eb0 (by simpa using hy)
 dsimp -zeta only
 refine qv (fun hc=>wpS_pure (h _ _ (Kept.refl _) (Yr M1 sa (by rw [show 1=b.size by simpa using hc];exact le_refl _)))) fun hc=>?_
 refine qv (fun hc2=>wpS_pure (h _ _ (Kept.refl _) (Ys M1 sa sb hl (by simpa using hc2)))) fun hc2=>?_
 have hb2:1<b.size:=by
  have:¬ 1=b.size:=by simpa using hc
  omega
 have ha2:0+1<a.size:=by
  have:¬ 0+1=a.size:=by simpa using hc2
  omega
 refine wpS_bind (wpS_get ?_)
 refine wpS_bind (wpS_mono (wpS_forRange (I:=fun x c st'=>∃out ia ib mg,c=(none,out,ia,ib,mg)/\MI rk a.toList b.toList ia ib out.toList/\ia+1<a.size/\ib<b.size/\x+1<=ia+ib/\Kept st0 st')
  (Q:=fun c st'=>∃res,c.1=some res/\Mg rk a.toList b.toList res.toList/\Kept st0 st') ?step ?fin ⟨_,0,1,_,rfl,M1,ha2,hb2,by omega,Kept.refl _⟩) ?post)
 case fin =>
  rintro c st' ⟨out,ia,ib,mg,rfl,M,h1,h2,h3,k⟩
  omega
 case post =>
  rintro⟨c1,c2⟩ st' ⟨res,e,hM,k⟩
  dsimp only at e ⊢
  subst e
  exact wpS_pure (h _ _ k hM)
 case step =>
  intro x0 c st1 _ hx0 hI
  refine via fun G hG=>?_
  obtain⟨out,ia,ib,mg,rfl,M,h1,h2,h3,k1⟩:=hI
  refine hG ?_
  clear hG
  have hk1:kindOf st1=κ:=k1.kind.trans hk
  dsimp -zeta only
  refine wpS_bind (wpS_mono (wpS_forRange (I:=fun x c st'=>st'=st1/\∃out ia ib ac bc,c=(none,out,ia,ib,ac,bc)/\MI rk a.toList b.toList ia ib out.toList/\ia+1<a.size/\ib<b.size/\x0+1+x<=ia+ib)
   (Q:=fun c st'=>st'=st1/\((∃res,c.1=some res/\Mg rk a.toList b.toList res.toList)\/∃out ia ib ac bc,c=(none,out,ia,ib,ac,bc)/\MI rk a.toList b.toList ia ib out.toList/\ia+1<a.size/\ib<b.size/\x0+2<=ia+ib)) ?step1 ?fin1 ⟨rfl,_,_,_,_,_,rfl,M,h1,h2,by omega⟩) ?post1)
  case fin1 =>
   rintro c st' ⟨rfl,out,ia,ib,ac,bc,rfl,M,h1,h2,h3⟩
   exact⟨rfl,.inr ⟨out,ia,ib,ac,bc,rfl,M,h1,h2,by omega⟩⟩
  case step1 =>
   intro x c st' _ hx hI
   refine via fun G hG=>?_
   obtain⟨rfl,out,ia,ib,ac,bc,rfl,M,h1,h2,h3⟩:=hI
   obtain⟨y,ey,my⟩:=jg h2
   obtain⟨z,ez,mz⟩:=jg (a:=a) (i:=ia) (by omega)
   refine hG ?_
   clear hG
   dsimp -zeta only
   refine wpS_bind (qT ey (wpS_bind (qT ez (wpS_bind (zkE T hk1 (mb y my) (ma z mz) ?_)))))
   dsimp -zeta only
   refine qv (fun hlt=>?_) fun hlt=>?_
   ·have hlt':rk y<rk z:=of_decide_eq_true hlt
    have M2:=MI.oneB M sb ey fun v hv=>Int.le_trans (le_of_lt hlt') (JP sa ez v hv)
    refine wpS_bind (qT ey ?_)
    refine qv (fun he=>wpS_pure ⟨rfl,.inl ⟨_,rfl,Yr M2 sa (by rw [show ib+1=b.size by simpa using he];exact le_refl _)⟩⟩) fun he=>?_
    have hb3:ib+1<b.size:=by
     have:¬ ib+1=b.size:=by simpa using he
     omega
    exact qv (fun _=>wpS_pure ⟨rfl,.inr ⟨_,_,_,_,_,rfl,M2,h1,hb3,by omega⟩⟩) fun _=>wpS_pure ⟨rfl,_,_,_,_,_,rfl,M2,h1,hb3,by omega⟩
   ·have hlt':¬ rk y<rk z:=fun q=>hlt (decide_eq_true q)
    have M2:=MI.oneA M sa ez fun v hv=>Int.le_trans (Int.not_lt.mp hlt') (JP sb ey v hv)
    refine wpS_bind (qT ez ?_)
    refine qv (fun he=>wpS_pure ⟨rfl,.inl ⟨_,rfl,Ys M2 sa sb hl (by simpa using he)⟩⟩) fun he=>?_
    have ha3:ia+1+1<a.size:=by
     have:¬ ia+1+1=a.size:=by simpa using he
     omega
    exact qv (fun _=>wpS_pure ⟨rfl,.inr ⟨_,_,_,_,_,rfl,M2,ha3,h2,by omega⟩⟩) fun _=>wpS_pure ⟨rfl,_,_,_,_,_,rfl,M2,ha3,h2,by omega⟩
  case post1 =>
   intro c st' hI
   refine via fun G hG=>?_
   rcases hI with ⟨rfl,hc1 | ⟨out,ia,ib,ac,bc,rfl,M,h1,h2,h3⟩⟩
   all_goals (refine hG ?_;clear hG)
   ·obtain⟨res,e,hM⟩:=hc1
    obtain⟨c1,c2⟩:=c
    dsimp only at e ⊢
    subst e
    exact wpS_pure ⟨res,rfl,hM,k1⟩
   dsimp -zeta only
   refine wpS_bind (wpS_lift (wpAny_rule ⟨rfl,?_⟩))
   refine wpS_bind (wpS_mono (wpS_forRange (I:=fun x c st2=>∃out ia ib mg ac bc,c=(none,out,ia,ib,mg,ac,bc)/\MI rk a.toList b.toList ia ib out.toList/\ia+1<a.size/\ib<b.size/\x0+2<=ia+ib/\Kept st0 st2)
    (Q:=fun c st2=>(∃res,c.1=some res/\Mg rk a.toList b.toList res.toList/\Kept st0 st2)\/∃out ia ib mg ac bc,c=(none,out,ia,ib,mg,ac,bc)/\MI rk a.toList b.toList ia ib out.toList/\ia+1<a.size/\ib<b.size/\x0+2<=ia+ib/\Kept st0 st2) ?step2 ?fin2 ⟨_,_,_,_,_,_,rfl,M,h1,h2,h3,k1⟩) ?post2)
   case fin2 =>
    rintro c st2 hc
    exact .inr hc
   case post2 =>
    rintro c st2 (⟨res,e,hM,k2⟩ | ⟨out,ia,ib,mg,ac,bc,rfl,M,h1,h2,h3,k2⟩)
    ·obtain⟨c1,c2⟩:=c
     dsimp only at e ⊢
     subst e
     exact wpS_pure ⟨res,rfl,hM,k2⟩
    ·dsimp -zeta only
     exact wpS_bind (zeD k2 fun st3 k3=>wpS_pure ⟨_,_,_,_,rfl,M,h1,h2,by omega,k3⟩)
   case step2 =>
    intro x c st2 _ hx hI
    refine via fun G hG=>?_
    obtain⟨out,ia,ib,mg,ac,bc,rfl,M,h1,h2,h3,k2⟩:=hI
    obtain⟨y,ey,my⟩:=jg h2
    refine hG ?_
    clear hG
    dsimp -zeta only
    refine' cut ?key1 fun key=>qv (fun hmg=>?a1) fun hmg=>?b1
    case a1 =>
     generalize mg-1=mg1
     revert mg1
     exact key.get
    case b1=>exact key.get mg
    intro mg1
    dsimp -zeta only
    refine wpS_bind (zeD k2 fun st3 k3=>?_)
    have hk3:kindOf st3=κ:=k3.kind.trans hk
    refine wpS_bind (qT ey (wpS_bind (zaK T hk3 (mb y my) ma (fun i j u v _ hij _ eu ev=>zin sa hij eu ev) (by omega) (by omega) fun k hk4 g1 g2=>?_)))
    dsimp -zeta only
    refine' cut ?key2 fun key=>qv (fun hk0=>?a2) fun hk0=>?b2
    case a2 =>
     have M2:=MI.someA M sa sb ey g1
     refine qv (fun he=>wpS_pure (.inl ⟨_,rfl,Ys M2 sa sb hl (by simpa using he),k3⟩)) fun he=>?_
     have ne1:¬ ia+k+1=a.size:=by simpa using he
     have kl:ia+k<a.size:=by
      refine Nat.lt_of_not_le fun hge=>?_
      obtain⟨v,ev,mv⟩:=jg (a:=a) (i:=a.size-1) (by omega)
      have q1:=g1 (a.size-1-ia) v (by omega) (by rw [show ia+(a.size-1-ia)=a.size-1 by omega];exact ev)
      have q2:=hl' y my v ev
      omega
     refine qv (fun he2=>absurd (show ia+k=a.size by simpa using he2) (by omega)) fun he2=>?_
     have h1':ia+k+1<a.size:=by omega
     have h3':x0+2<=ia+k+ib:=by omega
     have g2':∀z,a[ia+k]?=some z->rk y<=rk z:=fun z ez=>le_of_lt (g2 k z (le_refl _) (by omega) ez)
     generalize out++a.extract ia (ia+k)=zeE at M2 ⊢
     generalize ia+k=ia1 at M2 h1' h3' g2' ⊢
     revert g2';revert h3';revert h1';revert M2;revert ia1;revert zeE
     exact key.get
    case b2=>exact key.get out ia M h1 h3 fun z ez=>le_of_lt (g2 0 z (by omega) (by omega) (by simpa using ez))
    intro zeE ia1 M2 h1' h3' g2'
    refine via fun G hG=>?_
    obtain⟨z,ez,mz⟩:=jg (a:=a) (i:=ia1) (by omega)
    refine hG ?_
    clear hG
    have M3:=MI.oneB M2 sb ey fun v hv=>Int.le_trans (g2' z ez) (JP sa ez v hv)
    refine wpS_bind (qT ey ?_)
    refine qv (fun he=>wpS_pure (.inl ⟨_,rfl,Yr M3 sa (by rw [show ib+1=b.size by simpa using he];exact le_refl _),k3⟩)) fun he=>?_
    have hb3:ib+1<b.size:=by
     have:¬ ib+1=b.size:=by simpa using he
     omega
    refine wpS_bind (qT ez (wpS_bind (zaL T hk3 (ma z mz) mb (fun i j u v _ hij _ eu ev=>zin sb hij eu ev) (by omega) (by omega) fun k' hk5 g3 g4=>?_)))
    dsimp -zeta only
    refine' cut ?key3 fun key=>qv (fun hk0'=>?a3) fun hk0'=>?b3
    case a3 =>
     have M4:=MI.someB M3 sa sb ez fun i u hi eu=>le_of_lt (g3 i u hi eu)
     refine qv (fun he=>wpS_pure (.inl ⟨_,rfl,Yr M4 sa (by rw [show ib+1+k'=b.size by simpa using he];exact le_refl _),k3⟩)) fun he=>?_
     have hb4:ib+1+k'<b.size:=by
      have:¬ ib+1+k'=b.size:=by simpa using he
      omega
     have g4':∀v,b[ib+1+k']?=some v->rk z<=rk v:=fun v ev=>g4 k' v (le_refl _) (by omega) ev
     have h3'':x0+2<=ia1+(ib+1+k'):=by omega
     generalize zeE.push y++b.extract (ib+1) (ib+1+k')=zkI at M4 ⊢
     generalize ib+1+k'=ib1 at M4 hb4 g4' h3'' ⊢
     revert h3'';revert g4';revert hb4;revert M4;revert ib1;revert zkI
     exact key.get
    case b3=>exact key.get (zeE.push y) (ib+1) M3 hb3 (fun v ev=>g4 0 v (by omega) (by omega) (by simpa using ev)) (by omega)
    intro zkI ib1 M4 hb4 g4' h3''
    refine via fun G hG=>?_
    obtain⟨v,ev,mv⟩:=jg (a:=b) (i:=ib1) hb4
    refine hG ?_
    clear hG
    have M5:=MI.oneA M4 sa ez fun u hu=>Int.le_trans (g4' v ev) (JP sb ev u hu)
    refine wpS_bind (qT ez ?_)
    refine qv (fun he=>wpS_pure (.inl ⟨_,rfl,Ys M5 sa sb hl (by simpa using he),k3⟩)) fun he=>?_
    have ha3:ia1+1+1<a.size:=by
     have:¬ ia1+1+1=a.size:=by simpa using he
     omega
    exact qv (fun _=>wpS_pure (.inr ⟨_,_,_,_,_,_,rfl,M5,ha3,hb4,by omega,k3⟩)) fun _=>wpS_pure ⟨_,_,_,_,_,_,rfl,M5,ha3,hb4,by omega,k3⟩
end
end GS
namespace GS
noncomputable def neg (rk:Keyed->Int):Keyed->Int:=fun x=>- rk x
theorem zbw {a:Array Keyed}{j:Nat}(h:j<a.size):a.reverse[j]?=a[a.size-1-j]?:=by
 rw [Array.getElem?_reverse h]
def Hi (rk:Keyed->Int)(a b:Array Keyed)(na nb:Nat)(out:Array Keyed):Prop:=MI (neg rk) a.reverse.toList b.reverse.toList (a.size-na) (b.size-nb) out.toList
section
variable {rk:Keyed->Int}{a b out:Array Keyed}{na nb:Nat}
theorem ZR (sa:a.toList.Pairwise fun x y=>rk x<=rk y):a.reverse.toList.Pairwise fun x y=>neg rk x<=neg rk y:=by
 rw [toList_reverse,List.pairwise_reverse]
 exact sa.imp fun h=>Int.neg_le_neg h
theorem zbX {i:Nat}{x:Keyed}(h1:1<=i)(h2:i<=a.size)(e:a[i-1]?=some x):a.reverse[a.size-i]?=some x:=by
 rw [zbw (by omega),show a.size-1-(a.size-i)=i-1 by omega]
 exact e
theorem Hi.oneA {x y:Keyed}(M:Hi rk a b na nb out)(sa:a.toList.Pairwise fun x y=>rk x<=rk y)(sb:b.toList.Pairwise fun x y=>rk x<=rk y)(h1:1<=na)(h2:na<=a.size)(h3:1<=nb)(h4:nb<=b.size)(ex:a[na-1]?=some x)(ey:b[nb-1]?=some y)(h:rk y<=rk x):Hi rk a b (na-1) nb (out.push x):=by
 have:=MI.oneA (rk:=neg rk) M (ZR sa) (zbX h1 h2 ex) fun v hv=>Int.le_trans (Int.neg_le_neg h) (JP (ZR sb) (zbX h3 h4 ey) v hv)
 unfold Hi
 rw [show a.size-(na-1)=a.size-na+1 by omega]
 exact this
theorem Hi.oneB {x y:Keyed}(M:Hi rk a b na nb out)(sa:a.toList.Pairwise fun x y=>rk x<=rk y)(sb:b.toList.Pairwise fun x y=>rk x<=rk y)(h1:1<=na)(h2:na<=a.size)(h3:1<=nb)(h4:nb<=b.size)(ex:a[na-1]?=some x)(ey:b[nb-1]?=some y)(h:rk x<=rk y):Hi rk a b na (nb-1) (out.push y):=by
 have:=MI.oneB (rk:=neg rk) M (ZR sb) (zbX h3 h4 ey) fun v hv=>Int.le_trans (Int.neg_le_neg h) (JP (ZR sa) (zbX h1 h2 ex) v hv)
 unfold Hi
 rw [show b.size-(nb-1)=b.size-nb+1 by omega]
 exact this
theorem zmg {i j:Nat}(h1:i<=j)(h2:j<=a.size):(a.extract i j).reverse=a.reverse.extract (a.size-j) (a.size-j+(j-i)):=by
 apply Array.ext_getElem?
 intro k
 by_cases hk:k<j-i
 ·rw [Array.getElem?_reverse (by rw [size_extract];omega),Array.getElem?_extract,Array.getElem?_extract,size_extract]
  rw [if_pos (by omega),if_pos (by rw [size_reverse];omega),zbw (by omega)]
  congr 1
  omega
 ·rw [getElem?_eq_none (by rw [size_reverse,size_extract];omega),getElem?_eq_none (by rw [size_extract,size_reverse];omega)]
theorem Hi.someA {i:Nat}{y:Keyed}(M:Hi rk a b na nb out)(sa:a.toList.Pairwise fun x y=>rk x<=rk y)(sb:b.toList.Pairwise fun x y=>rk x<=rk y)(h1:i<=na)(h2:na<=a.size)(h3:1<=nb)(h4:nb<=b.size)(ey:b[nb-1]?=some y)(h:∀j x,i<=j->j<na->a[j]?=some x->rk y<=rk x):Hi rk a b i nb (out++(a.extract i na).reverse):=by
 have:=MI.someA (rk:=neg rk) (k:=na-i) M (ZR sa) (ZR sb) (zbX h3 h4 ey) fun j x hj ex=>Int.neg_le_neg (h (na-1-j) x (by omega) (by omega) (by
  rw [zbw (by omega)] at ex
  rw [<- ex]
  congr 1
  omega))
 unfold Hi
 rw [zmg h1 h2,show a.size-i=a.size-na+(na-i) by omega]
 exact this
theorem Hi.someB {i:Nat}{y:Keyed}(M:Hi rk a b na nb out)(sa:a.toList.Pairwise fun x y=>rk x<=rk y)(sb:b.toList.Pairwise fun x y=>rk x<=rk y)(h1:i<=nb)(h2:nb<=b.size)(h3:1<=na)(h4:na<=a.size)(ey:a[na-1]?=some y)(h:∀j x,i<=j->j<nb->b[j]?=some x->rk y<=rk x):Hi rk a b na i (out++(b.extract i nb).reverse):=(Hi.someA (a:=b) (b:=a) M.swap sb sa h1 h2 h3 h4 ey h).swap
theorem zkJ {oL:List Keyed}(h:Mg (neg rk) b.reverse.toList a.reverse.toList oL):Mg rk a.toList b.toList oL.reverse:=by
 obtain⟨p,q⟩:=h
 rw [toList_reverse,toList_reverse] at p
 refine⟨?_,?_⟩
 ·refine(List.reverse_perm _).trans (p.trans (List.perm_append_comm.trans ?_))
  exact List.Perm.append (List.reverse_perm _) (List.reverse_perm _)
 ·rw [List.pairwise_reverse]
  refine q.imp fun {x y} h=>?_
  have h':- rk x<=- rk y:=h
  omega
theorem zbx {i:Nat}(h:i<=a.size):(a.reverse.extract (a.size-i) a.reverse.size).toList.reverse=(a.extract 0 i).toList:=by
 rw [Q9,toList_reverse,ext_toList _ _ _ (zero_le _),List.drop_zero,Nat.sub_zero]
 have:=List.reverse_take (l:=a.toList) (i:=i)
 rw [length_toList] at this
 rw [<- this,List.reverse_reverse]
theorem Hi.done (M:Hi rk a b 0 nb out)(sb:b.toList.Pairwise fun x y=>rk x<=rk y)(h:nb<=b.size):Mg rk a.toList b.toList (a.extract 0 0++b.extract 0 nb++out.reverse).toList:=by
 have h1:=Yr (rk:=neg rk) (a:=b.reverse) (b:=a.reverse) M.swap (ZR sb) (by rw [size_reverse];omega)
 have h2:=zkJ h1
 rw [toList_append,toList_append,List.reverse_append,List.reverse_append,zbx h] at h2
 have e0:=zbx (a:=a) (i:=0) (zero_le _)
 rw [e0] at h2
 rw [toList_append,toList_append,toList_reverse,append_assoc]
 exact h2
theorem Hi.first (M:Hi rk a b na 1 out)(sa:a.toList.Pairwise fun x y=>rk x<=rk y)(sb:b.toList.Pairwise fun x y=>rk x<=rk y)(hb:0<b.size)(h:na<=a.size)(h0:∀x y,b[0]?=some x->y∈a.toList->rk x<rk y):Mg rk a.toList b.toList (b.extract 0 1++a.extract 0 na++out.reverse).toList:=by
 have h1:=Ys (rk:=neg rk) (a:=b.reverse) (b:=a.reverse) M.swap (ZR sb) (ZR sa) (fun x hx y ey=>by
  rw [size_reverse,zbw (by omega),show b.size-1-(b.size-1)=0 by omega] at ey
  have hx':x∈a.toList:=by simpa using hx
  exact Int.neg_le_neg (le_of_lt (h0 y x ey hx'))) (by rw [size_reverse];omega)
 have h2:=zkJ h1
 rw [toList_append,toList_append,List.reverse_append,List.reverse_append,zbx h,zbx (by omega)] at h2
 rw [toList_append,toList_append,toList_reverse,append_assoc]
 exact h2
end
section
variable {prog:Program}{w:World}{A:Around}{E:Value->Shared->Prop}{s:Shared}{rk:Keyed->Int}{κ:SortKind}{a0:Array Keyed}
set_option maxHeartbeats 8000000 in
theorem zjp {st0:SortSt}{a b:Array Keyed}{Q:Array Keyed->SortSt->Prop}(T:Tells prog w A s κ rk a0)(hk:kindOf st0=κ)(ma:∀x∈a.toList,x∈a0.toList)(mb:∀x∈b.toList,x∈a0.toList)(sa:a.toList.Pairwise fun x y=>rk x<=rk y)(sb:b.toList.Pairwise fun x y=>rk x<=rk y)
  (ha:0<a.size) (hb:0<b.size) (h0:∀x y,b[0]?=some x->y∈a.toList->rk x<rk y) (hl:∀x∈b.toList,∀y,a[a.size-1]?=some y->rk x<rk y)
  (h:∀out st',Kept st0 st'->Mg rk a.toList b.toList out.toList->Q out st'):wpS (model prog w) A E s (mergeHi' a b) Q st0:=by
 refine wpS_bind (wpS_lift (wpAny_rule ⟨rfl,?_⟩))
 obtain⟨z0,ez0,_⟩:=jg (a:=a) (i:=a.size-1) (by omega)
 obtain⟨y0,ey0,my0⟩:=jg (a:=b) (i:=b.size-1) (by omega)
 refine wpS_bind (qT ez0 ?_)
 have M0:Hi rk a b a.size b.size #[]:=by
  unfold Hi
  rw [sub_self,sub_self]
  exact⟨by simp,List.Pairwise.nil,(fun x hx=>nomatch hx),(fun x hx=>nomatch hx)⟩
 have M1:Hi rk a b (a.size-1) b.size #[z0]:=M0.oneA sa sb (by omega) (le_refl _) (by omega) (le_refl _) ez0 ey0 (le_of_lt (hl y0 my0 z0 ez0))
 dsimp -zeta only
 refine qv (fun hc=>wpS_pure (h _ _ (Kept.refl _) ?_)) fun hc=>?_
 ·have e:a.size-1=0:=by simpa using hc
  rw [e] at M1 ⊢
  exact M1.done sb (le_refl _)
 refine qv (fun hc2=>wpS_pure (h _ _ (Kept.refl _) ?_)) fun hc2=>?_
 ·have e:b.size=1:=by simpa using hc2
  rw [e] at M1 ⊢
  exact M1.first sa sb hb (by omega) h0
 have ha2:1<=a.size-1:=by
  have:¬ a.size-1=0:=by simpa using hc
  omega
 have hb2:1<b.size:=by
  have:¬ b.size=1:=by simpa using hc2
  omega
 refine wpS_bind (wpS_get ?_)
 refine wpS_bind (wpS_mono (wpS_forRange (I:=fun x c st'=>∃na nb out mg,c=(none,na,nb,out,mg)/\Hi rk a b na nb out/\1<=na/\na<a.size/\1<nb/\nb<=b.size/\na+nb+x+1<=a.size+b.size/\Kept st0 st')
  (Q:=fun c st'=>∃res,c.1=some res/\Mg rk a.toList b.toList res.toList/\Kept st0 st') ?step ?fin ⟨_,_,_,_,rfl,M1,ha2,by omega,hb2,le_refl _,by omega,Kept.refl _⟩) ?post)
 case fin =>
  rintro c st' ⟨na,nb,out,mg,rfl,M,h1,h2,h3,h4,h5,k⟩
  omega
 case post =>
  rintro⟨c1,c2⟩ st' ⟨res,e,hM,k⟩
  dsimp only at e ⊢
  subst e
  exact wpS_pure (h _ _ k hM)
 case step =>
  intro x0 c st1 _ hx0 hI
  refine via fun G hG=>?_
  obtain⟨na,nb,out,mg,rfl,M,h1,h2,h3,h4,h5,k1⟩:=hI
  refine hG ?_
  clear hG
  have hk1:kindOf st1=κ:=k1.kind.trans hk
  dsimp -zeta only
  refine wpS_bind (wpS_mono (wpS_forRange (I:=fun x c st'=>st'=st1/\∃na nb out ac bc,c=(none,na,nb,out,ac,bc)/\Hi rk a b na nb out/\1<=na/\na<a.size/\1<nb/\nb<=b.size/\na+nb+x0+1+x<=a.size+b.size)
   (Q:=fun c st'=>st'=st1/\((∃res,c.1=some res/\Mg rk a.toList b.toList res.toList)\/∃na nb out ac bc,c=(none,na,nb,out,ac,bc)/\Hi rk a b na nb out/\1<=na/\na<a.size/\1<nb/\nb<=b.size/\na+nb+x0+2<=a.size+b.size)) ?step1 ?fin1 ⟨rfl,_,_,_,_,_,rfl,M,h1,h2,h3,h4,by omega⟩) ?post1)
  case fin1 =>
   rintro c st' ⟨rfl,na,nb,out,ac,bc,rfl,M,h1,h2,h3,h4,h5⟩
   exact⟨rfl,.inr ⟨na,nb,out,ac,bc,rfl,M,h1,h2,h3,h4,by omega⟩⟩
  case step1 =>
   intro x c st' _ hx hI
   refine via fun G hG=>?_
   obtain⟨rfl,na,nb,out,ac,bc,rfl,M,h1,h2,h3,h4,h5⟩:=hI
   obtain⟨y,ey,my⟩:=jg (a:=b) (i:=nb-1) (by omega)
   obtain⟨z,ez,mz⟩:=jg (a:=a) (i:=na-1) (by omega)
   refine hG ?_
   clear hG
   dsimp -zeta only
   refine wpS_bind (qT ey (wpS_bind (qT ez (wpS_bind (zkE T hk1 (mb y my) (ma z mz) ?_)))))
   dsimp -zeta only
   refine qv (fun hlt=>?_) fun hlt=>?_
   ·have hlt':rk y<rk z:=of_decide_eq_true hlt
    have M2:=M.oneA sa sb h1 (by omega) (by omega) h4 ez ey (le_of_lt hlt')
    refine wpS_bind (qT ez ?_)
    refine qv (fun he=>wpS_pure ⟨rfl,.inl ⟨_,rfl,?_⟩⟩) fun he=>?_
    ·have e:na-1=0:=by simpa using he
     rw [e] at M2 ⊢
     exact M2.done sb h4
    have hn:1<=na-1:=by
     have:¬ na-1=0:=by simpa using he
     omega
    exact qv (fun _=>wpS_pure ⟨rfl,.inr ⟨_,_,_,_,_,rfl,M2,hn,by omega,h3,h4,by omega⟩⟩) fun _=>wpS_pure ⟨rfl,_,_,_,_,_,rfl,M2,hn,by omega,h3,h4,by omega⟩
   ·have hlt':¬ rk y<rk z:=fun q=>hlt (decide_eq_true q)
    have M2:=M.oneB sa sb h1 (by omega) (by omega) h4 ez ey (Int.not_lt.mp hlt')
    refine wpS_bind (qT ey ?_)
    refine qv (fun he=>wpS_pure ⟨rfl,.inl ⟨_,rfl,?_⟩⟩) fun he=>?_
    ·have e:nb-1=1:=by simpa using he
     rw [e] at M2 ⊢
     exact M2.first sa sb hb (by omega) h0
    have hn:1<nb-1:=by
     have:¬ nb-1=1:=by simpa using he
     omega
    exact qv (fun _=>wpS_pure ⟨rfl,.inr ⟨_,_,_,_,_,rfl,M2,h1,h2,hn,by omega,by omega⟩⟩) fun _=>wpS_pure ⟨rfl,_,_,_,_,_,rfl,M2,h1,h2,hn,by omega,by omega⟩
  case post1 =>
   intro c st' hI
   refine via fun G hG=>?_
   rcases hI with ⟨rfl,hc1 | ⟨na,nb,out,ac,bc,rfl,M,h1,h2,h3,h4,h5⟩⟩
   all_goals (refine hG ?_;clear hG)
   ·obtain⟨res,e,hM⟩:=hc1
    obtain⟨c1,c2⟩:=c
    dsimp only at e ⊢
    subst e
    exact wpS_pure ⟨res,rfl,hM,k1⟩
   dsimp -zeta only
   refine wpS_bind (wpS_lift (wpAny_rule ⟨rfl,?_⟩))
   refine wpS_bind (wpS_mono (wpS_forRange (I:=fun x c st2=>∃na nb out mg ac bc,c=(none,na,nb,out,mg,ac,bc)/\Hi rk a b na nb out/\1<=na/\na<a.size/\1<nb/\nb<=b.size/\na+nb+x0+2<=a.size+b.size/\Kept st0 st2)
    (Q:=fun c st2=>(∃res,c.1=some res/\Mg rk a.toList b.toList res.toList/\Kept st0 st2)\/∃na nb out mg ac bc,c=(none,na,nb,out,mg,ac,bc)/\Hi rk a b na nb out/\1<=na/\na<a.size/\1<nb/\nb<=b.size/\na+nb+x0+2<=a.size+b.size/\Kept st0 st2) ?step2 ?fin2 ⟨_,_,_,_,_,_,rfl,M,h1,h2,h3,h4,h5,k1⟩) ?post2)
   case fin2 =>
    rintro c st2 hc
    exact .inr hc
   case post2 =>
    rintro c st2 (⟨res,e,hM,k2⟩ | ⟨na,nb,out,mg,ac,bc,rfl,M,h1,h2,h3,h4,h5,k2⟩)
    ·obtain⟨c1,c2⟩:=c
     dsimp only at e ⊢
     subst e
     exact wpS_pure ⟨res,rfl,hM,k2⟩
    ·dsimp -zeta only
     exact wpS_bind (zeD k2 fun st3 k3=>wpS_pure ⟨_,_,_,_,rfl,M,h1,h2,h3,h4,by omega,k3⟩)
   case step2 =>
    intro x c st2 _ hx hI
    refine via fun G hG=>?_
    obtain⟨na,nb,out,mg,ac,bc,rfl,M,h1,h2,h3,h4,h5,k2⟩:=hI
    obtain⟨y,ey,my⟩:=jg (a:=b) (i:=nb-1) (by omega)
    refine hG ?_
    clear hG
    dsimp -zeta only
    refine' cut ?key1 fun key=>qv (fun hmg=>?a1) fun hmg=>?b1
    case a1 =>
     generalize mg-1=mg1
     revert mg1
     exact key.get
    case b1=>exact key.get mg
    intro mg1
    dsimp -zeta only
    refine wpS_bind (zeD k2 fun st3 k3=>?_)
    have hk3:kindOf st3=κ:=k3.kind.trans hk
    refine wpS_bind (qT ey (wpS_bind (zaK T hk3 (mb y my) ma (fun i j u v _ hij _ eu ev=>zin sa hij eu ev) (by omega) (by omega) fun k hk4 g1 g2=>?_)))
    dsimp -zeta only
    refine' cut ?key2 fun key=>qv (fun hk0=>?a2) fun hk0=>?b2
    case a2 =>
     have M2:=M.someA sa sb (i:=k) (by omega) (by omega) (by omega) h4 ey fun j u hj1 hj2 eu=>le_of_lt (g2 j u hj1 hj2 (by simpa using eu))
     refine qv (fun he=>wpS_pure (.inl ⟨_,rfl,(by
      have e:k=0:=by simpa using he
      rw [e] at M2 ⊢
      exact M2.done sb h4),k3⟩)) fun he=>?_
     have h1':1<=k:=by
      have:¬ k=0:=by simpa using he
      omega
     have h2':k<a.size:=by omega
     have h5':k+nb+x0+2<=a.size+b.size:=by omega
     have g1':∀z,a[k-1]?=some z->rk z<=rk y:=fun z ez=>g1 (k-1) z (by omega) (by simpa using ez)
     generalize out++(a.extract k na).reverse=zeE at M2 ⊢
     generalize na-k=kk
     generalize k=na1 at M2 h1' h2' h5' g1' ⊢
     revert g1';revert h5';revert h2';revert h1';revert M2;revert na1;revert kk;revert zeE
     exact key.get
    case b2=>exact key.get out (na-k) na M h1 h2 h5 fun z ez=>g1 (na-1) z (by omega) (by simpa using ez)
    intro zeE kk na1 M2 h1' h2' h5' g1'
    refine via fun G hG=>?_
    obtain⟨z,ez,mz⟩:=jg (a:=a) (i:=na1-1) (by omega)
    refine hG ?_
    clear hG
    have M3:=M2.oneB sa sb h1' (by omega) (by omega) h4 ez ey (g1' z ez)
    refine wpS_bind (qT ey ?_)
    refine qv (fun he=>wpS_pure (.inl ⟨_,rfl,(by
     have e:nb-1=1:=by simpa using he
     rw [e] at M3 ⊢
     exact M3.first sa sb hb (by omega) h0),k3⟩)) fun he=>?_
    have hn:1<nb-1:=by
     have:¬ nb-1=1:=by simpa using he
     omega
    refine wpS_bind (qT ez (wpS_bind (zaL T hk3 (ma z mz) mb (fun i j u v _ hij _ eu ev=>zin sb hij eu ev) (by omega) (by omega) fun k' hk5 g3 g4=>?_)))
    dsimp -zeta only
    refine' cut ?key3 fun key=>qv (fun hk0'=>?a3) fun hk0'=>?b3
    case a3 =>
     have M4:=M3.someB sa sb (i:=k') (by omega) (by omega) h1' (by omega) ez fun j u hj1 hj2 eu=>g4 j u hj1 hj2 (by simpa using eu)
     refine qv (fun he=>wpS_pure (.inl ⟨_,rfl,(by
      have e:k'=1:=by simpa using he
      rw [e] at M4 ⊢
      exact M4.first sa sb hb (by omega) h0),k3⟩)) fun he=>?_
     have k1':1<=k':=by
      refine Nat.one_le_iff_ne_zero.mpr fun hz=>?_
      obtain⟨v,ev,mv⟩:=jg (a:=b) (i:=0) hb
      have q1:=g4 0 v (by omega) (by omega) (by simpa using ev)
      have q2:=h0 v z ev mz
      omega
     refine qv (fun he2=>absurd (show k'=0 by simpa using he2) (by omega)) fun he2=>?_
     have hn':1<k':=by
      have:¬ k'=1:=by simpa using he
      omega
     have hb':k'<=b.size:=by omega
     have h5'':na1+k'+x0+2<=a.size+b.size:=by omega
     have g3':∀v,b[k'-1]?=some v->rk v<=rk z:=fun v ev=>le_of_lt (g3 (k'-1) v (by omega) (by simpa using ev))
     generalize zeE.push y++(b.extract k' (nb-1)).reverse=zkI at M4 ⊢
     generalize nb-1-k'=kk'
     generalize k'=nb1 at M4 hn' hb' h5'' g3' ⊢
     revert g3';revert h5'';revert hb';revert hn';revert M4;revert nb1;revert kk';revert zkI
     exact key.get
    case b3=>exact key.get (zeE.push y) (nb-1-k') (nb-1) M3 hn (by omega) (by omega) fun v ev=>le_of_lt (g3 (nb-1-1) v (by omega) (by simpa using ev))
    intro zkI kk' nb1 M4 hn' hb' h5'' g3'
    obtain⟨v,ev,mv⟩:=jg (a:=b) (i:=nb1-1) (by omega)
    have M5:=M4.oneA sa sb h1' (by omega) (by omega) hb' ez ev (g3' v ev)
    refine wpS_bind (qT ez ?_)
    refine qv (fun he=>wpS_pure (.inl ⟨_,rfl,(by
     have e:na1-1=0:=by simpa using he
     rw [e] at M5 ⊢
     exact M5.done sb hb'),k3⟩)) fun he=>?_
    have hn2:1<=na1-1:=by
     have:¬ na1-1=0:=by simpa using he
     omega
    exact qv (fun _=>wpS_pure (.inr ⟨_,_,_,_,_,_,rfl,M5,hn2,by omega,hn',hb',by omega,k3⟩)) fun _=>wpS_pure ⟨_,_,_,_,_,_,rfl,M5,hn2,by omega,hn',hb',by omega,k3⟩
end
end GS
namespace GS
theorem zdE (sa:Nat):∀(l:List Keyed) (j:Nat) (arr:Array Keyed),((l.zipIdx j).foldl (fun a (p:Keyed×Nat)=>a.setIfInBounds (sa+p.2) p.1) arr).size=arr.size
 | [],_,_=>rfl
 | x::l,j,arr=>by
  rw [List.zipIdx_cons,foldl_cons,zdE sa l (j+1)]
  exact Array.size_setIfInBounds
theorem zmh (sa:Nat):∀(l:List Keyed) (j:Nat) (arr:Array Keyed) (i:Nat),sa+j+l.length<=arr.size->((l.zipIdx j).foldl (fun a (p:Keyed×Nat)=>a.setIfInBounds (sa+p.2) p.1) arr)[i]?=if sa+j<=i/\i<sa+j+l.length then l[i-(sa+j)]? else arr[i]?:=by
 intro l
 induction l with
 | nil =>
  intro j arr i h
  rw [if_neg (by simp only [length_nil];omega)]
  rfl
 | cons x l ih =>
  intro j arr i h
  rw [length_cons] at h
  rw [List.zipIdx_cons,foldl_cons,ih (j+1) _ i (by rw [Array.size_setIfInBounds];omega),length_cons]
  by_cases h1:sa+(j+1)<=i/\i<sa+(j+1)+l.length
  ·rw [if_pos h1,if_pos (by omega),show i-(sa+j)=(i-(sa+(j+1)))+1 by omega,List.getElem?_cons_succ]
  ·rw [if_neg h1]
   by_cases h2:i=sa+j
   ·subst h2
    rw [if_pos (by omega),sub_self,List.getElem?_cons_zero]
    show (arr.setIfInBounds (sa+j) x)[sa+j]?=some x
    rw [Array.getElem?_setIfInBounds,if_pos rfl,if_pos (by omega)]
   ·rw [if_neg (by omega)]
    show (arr.setIfInBounds (sa+j) x)[i]?=arr[i]?
    rw [Array.getElem?_setIfInBounds,if_neg (fun e=>h2 e.symm)]
section
variable {prog:Program}{w:World}{A:Around}{E:Value->Shared->Prop}{s:Shared}{rk:Keyed->Int}{κ:SortKind}{a0:Array Keyed}
theorem yP {xs:Array Keyed}{lo hi:Nat}(u:Up rk xs lo hi){i j:Nat}{x y:Keyed}(h1:lo<=i)(h2:i<=j)(h3:j<hi)(ex:xs[i]?=some x)(ey:xs[j]?=some y):rk x<=rk y:=by
 have:=u i j h1 h2 h3
 unfold Rk at this
 rw [ex,ey] at this
 exact this
theorem zmR {xs:Array Keyed}{lo hi:Nat}(hz:hi<=xs.size)(h:∀i j x y,lo<=i->i<=j->j<hi->xs[i]?=some x->xs[j]?=some y->rk x<=rk y):Up rk xs lo hi:=fun i j h1 h2 h3=>by
 obtain⟨x,ex,_⟩:=jg (a:=xs) (i:=i) (by omega)
 obtain⟨y,ey,_⟩:=jg (a:=xs) (i:=j) (by omega)
 unfold Rk
 rw [ex,ey]
 exact h i j x y h1 h2 h3 ex ey
theorem zio {xs:Array Keyed}{i:Nat}{x:Keyed}(e:xs[i]?=some x):x∈xs.toList:=mem_of_getElem? (by rw [getElem?_toList];exact e)
theorem ext_get {xs:Array Keyed}{i j k:Nat}(h1:i<=j)(h2:j<=xs.size)(hk:k<j-i):(xs.extract i j)[k]?=xs[i+k]?:=by
 rw [Array.getElem?_extract,if_pos (by omega)]
theorem zaa {xs:Array Keyed}{i j:Nat}(h2:j<=xs.size):(xs.extract i j).size=j-i:=by
 rw [size_extract]
 omega
theorem zkK {xs:Array Keyed}{lo hi i j:Nat}(u:Up rk xs lo hi)(h1:lo<=i)(h2:j<=hi)(h3:j<=xs.size):(xs.extract i j).toList.Pairwise fun x y=>rk x<=rk y:=by
 rw [List.pairwise_iff_getElem]
 intro m n hm hn hmn
 rw [length_toList,zaa h3] at hm hn
 have em:=ext_get (xs:=xs) (i:=i) (j:=j) (k:=m) (by omega) h3 hm
 have en:=ext_get (xs:=xs) (i:=i) (j:=j) (k:=n) (by omega) h3 hn
 refine yP u (i:=i+m) (j:=i+n) (by omega) (by omega) (by omega) ?_ ?_
 ·rw [<- em,getElem_toList]
  exact getElem?_pos _ _ _
 ·rw [<- en,getElem_toList]
  exact getElem?_pos _ _ _
theorem ext_mem {xs:Array Keyed}{i j:Nat}{x:Keyed}(h3:j<=xs.size)(h:x∈(xs.extract i j).toList):∃k,i<=k/\k<j/\xs[k]?=some x:=by
 obtain⟨k,hk,e⟩:=List.getElem_of_mem h
 rw [length_toList,zaa h3] at hk
 refine⟨i+k,by omega,by omega,?_⟩
 rw [<- ext_get (xs:=xs) (i:=i) (j:=j) (by omega) h3 hk,<- e,getElem_toList]
 exact getElem?_pos _ _ _
theorem zoB {st st1:SortSt}{Q:PUnit->SortSt->Prop}(h:∀st2,st2=st1->Q ⟨⟩ st2):wpS (model prog w) A E s (set st1:StateT SortSt Sem PUnit) Q st:=by
 unfold wpS
 rw [StateT.run_set]
 exact wpAny_pure ⟨rfl,h _ rfl⟩
set_option maxHeartbeats 8000000 in
theorem zjq {st:SortSt}{i sa na p1 nb p2:Nat}{Q:Bool->SortSt->Prop}(T:Tells prog w A s κ rk a0)(O:Ok κ a0 st)(e1:(pendingOf st)[i]?=some (sa,na,p1))(e2:(pendingOf st)[i+1]?=some (sa+na,nb,p2))(hna:1<=na)(hnb:1<=nb)(hz:sa+na+nb<=a0.size)(u1:Up rk (arrOf st) sa (sa+na))(u2:Up rk (arrOf st) (sa+na) (sa+na+nb))
  (h:∀st',Ok κ a0 st'->pendingOf st'=((pendingOf st).setIfInBounds i (sa,na+nb,p1)).eraseIdxIfInBounds (i+1)->Up rk (arrOf st') sa (sa+na+nb)->(∀j:Nat,(j<sa\/sa+na+nb<=j)->(arrOf st')[j]?=(arrOf st)[j]?)->Q true st'):wpS (model prog w) A E s (mergeAt' i) Q st:=by
 have hsz:=O.size
 have mX:∀x∈(arrOf st).toList,x∈a0.toList:=fun x hx=>(Array.perm_iff_toList_perm.mp O.perm).mem_iff.mp hx
 obtain⟨b0,eb0,mb0⟩:=jg (a:=arrOf st) (i:=sa+na) (by omega)
 refine wpS_bind (wpS_get ?_)
 rw [e1,e2]
 dsimp only
 refine wpS_bind (zoB fun st1 hst=>?_)
 have k1:kindOf st1=κ:=by rw [hst];exact O.kind
 have ea:arrOf st1=arrOf st:=by rw [hst]
 have ep:pendingOf st1=((pendingOf st).setIfInBounds i (sa,na+nb,p1)).eraseIdxIfInBounds (i+1):=by rw [hst]
 have ef:failedOf st1=none:=by rw [hst];exact O.good
 have O1:Ok κ a0 st1:=⟨by rw [ea];exact O.perm,k1,ef⟩
 refine wpS_bind (qT eb0 (wpS_bind (zaK T k1 (mX b0 mb0) mX (fun p q u v h1 h2 h3 eu ev=>yP u1 h1 h2 h3 eu ev) (by show sa+na<=(arrOf st).size;omega) (by omega) fun k hk g1 g2=>?_)))
 dsimp only
 refine qv (fun hc=>wpS_pure (h st1 O1 ep (zmR (by rw [ea];omega) fun p q u v h1 h2 h3 eu ev=>?_) fun j _=>by rw [ea])) fun hc=>?_
 ·have ek:k=na:=by
   have:na-k=0:=by simpa using hc
   omega
  rw [ea] at eu ev
  by_cases c1:q<sa+na
  ·exact yP u1 h1 h2 c1 eu ev
  ·by_cases c2:p<sa+na
   ·have q1:=g1 (p-sa) u (by omega) (by rw [show sa+(p-sa)=p by omega];exact eu)
    have q2:=yP u2 (le_refl _) (by omega) h3 eb0 ev
    omega
   ·exact yP u2 (by omega) h2 h3 eu ev
 have hkn:k<na:=by
  have:¬ na-k=0:=by simpa using hc
  omega
 obtain⟨al,eal,mal⟩:=jg (a:=arrOf st) (i:=sa+k+(na-k)-1) (by omega)
 have eal':(arrOf st)[sa+na-1]?=some al:=by
  rw [<- eal]
  congr 1
  omega
 refine wpS_bind (qT eal (wpS_bind (zaL T k1 (mX al mal) mX (fun p q u v h1 h2 h3 eu ev=>yP u2 h1 h2 h3 eu ev) (by show sa+na+nb<=(arrOf st).size;omega) (by omega) fun k' hk' g3 g4=>?_)))
 dsimp only
 have b0a:rk b0<rk al:=g2 (na-1) al (by omega) (by omega) (by rw [show sa+(na-1)=sa+na-1 by omega];exact eal')
 have k'1:1<=k':=by
  refine Nat.one_le_iff_ne_zero.mpr fun hz0=>?_
  have:=g4 0 b0 (by omega) (by omega) (by simpa using eb0)
  omega
 refine qv (fun hc=>absurd (show k'=0 by simpa using hc) (by omega)) fun _=>?_
 have X3:sa+na<=(arrOf st).size:=by omega
 have Y3:sa+na+k'<=(arrOf st).size:=by omega
 have xs:=zkK (i:=sa+k) (j:=sa+na) u1 (by omega) (le_refl _) X3
 have ys:=zkK (i:=sa+na) (j:=sa+na+k') u2 (le_refl _) (by omega) Y3
 have xm:∀x∈((arrOf st).extract (sa+k) (sa+na)).toList,x∈a0.toList:=fun x hx=>by
  obtain⟨j,_,_,ej⟩:=ext_mem X3 hx
  exact mX x (zio ej)
 have ym:∀x∈((arrOf st).extract (sa+na) (sa+na+k')).toList,x∈a0.toList:=fun x hx=>by
  obtain⟨j,_,_,ej⟩:=ext_mem Y3 hx
  exact mX x (zio ej)
 have xz:((arrOf st).extract (sa+k) (sa+na)).size=na-k:=by
  rw [zaa X3]
  omega
 have yz:((arrOf st).extract (sa+na) (sa+na+k')).size=k':=by
  rw [zaa Y3]
  omega
 have first:∀x y,((arrOf st).extract (sa+na) (sa+na+k'))[0]?=some x->y∈((arrOf st).extract (sa+k) (sa+na)).toList->rk x<rk y:=fun x y ex my=>by
  rw [ext_get (by omega) Y3 (by omega),add_zero,eb0] at ex
  cases ex
  obtain⟨j,j1,j2,ej⟩:=ext_mem X3 my
  exact g2 (j-sa) y (by omega) (by omega) (by rw [show sa+(j-sa)=j by omega];exact ej)
 have last:∀x∈((arrOf st).extract (sa+na) (sa+na+k')).toList,∀y,((arrOf st).extract (sa+k) (sa+na))[((arrOf st).extract (sa+k) (sa+na)).size-1]?=some y->rk x<rk y:=fun x mx y ey=>by
  rw [xz,ext_get (by omega) X3 (by omega),show sa+k+(na-k-1)=sa+na-1 by omega,eal'] at ey
  cases ey
  obtain⟨j,j1,j2,ej⟩:=ext_mem Y3 mx
  exact g3 (j-(sa+na)) x (by omega) (by rw [show sa+na+(j-(sa+na))=j by omega];exact ej)
 have tail:∀(merged:Array Keyed) (st2:SortSt),Kept st1 st2->Mg rk ((arrOf st).extract (sa+k) (sa+na)).toList ((arrOf st).extract (sa+na) (sa+na+k')).toList merged.toList ->
   Q true (setArr st2 (merged.toList.zipIdx.foldl (fun a (p:Keyed×Nat)=>a.setIfInBounds (sa+k+p.2) p.1) (arrOf st2))):=fun merged st2 K2 hM=>by
  have ea2:arrOf st2=arrOf st:=K2.arr.trans ea
  have ml:merged.toList.length=na-k+k':=by
   rw [hM.1.length_eq,length_append,length_toList,length_toList,xz,yz]
  have at_:∀j:Nat,(merged.toList.zipIdx.foldl (fun a (p:Keyed×Nat)=>a.setIfInBounds (sa+k+p.2) p.1) (arrOf st2))[j]?=if sa+k<=j/\j<sa+na+k' then merged.toList[j-(sa+k)]? else (arrOf st)[j]?:=fun j=>by
   have:=zmh (sa+k) merged.toList 0 (arrOf st2) j (by rw [ea2,ml];omega)
   rw [this,ea2,add_zero,ml]
   by_cases c:sa+k<=j/\j<sa+na+k'
   ·rw [if_pos c,if_pos (by omega)]
   ·rw [if_neg c,if_neg (by omega)]
  have zA:=zdE (sa+k) merged.toList 0 (arrOf st2)
  generalize hN:merged.toList.zipIdx.foldl (fun a (p:Keyed×Nat)=>a.setIfInBounds (sa+k+p.2) p.1) (arrOf st2)=N at at_ zA ⊢
  have zN:N.size=a0.size:=by
   rw [zA,ea2,hsz]
  have nl:N.toList=(arrOf st).toList.take (sa+k)++merged.toList++(arrOf st).toList.drop (sa+na+k'):=by
   refine ext_getElem? fun j=>?_
   rw [getElem?_toList,at_ j]
   by_cases c1:j<sa+k
   ·rw [if_neg (by omega),append_assoc,getElem?_append_left (by rw [length_take,length_toList];omega),List.getElem?_take,if_pos c1,getElem?_toList]
   ·rw [append_assoc,List.getElem?_append_right (by rw [length_take,length_toList];omega),length_take,length_toList,show min (sa+k) (arrOf st).size=sa+k by omega]
    by_cases c2:j<sa+na+k'
    ·rw [if_pos ⟨by omega,c2⟩,getElem?_append_left (by rw [ml];omega)]
    ·rw [if_neg (by omega),List.getElem?_append_right (by rw [ml];omega),List.getElem?_drop,getElem?_toList,ml]
     congr 1
     omega
  have ol:(arrOf st).toList=(arrOf st).toList.take (sa+k)++(((arrOf st).extract (sa+k) (sa+na)).toList++((arrOf st).extract (sa+na) (sa+na+k')).toList)++(arrOf st).toList.drop (sa+na+k'):=by
   rw [ext_toList _ _ _ (by omega),ext_toList _ _ _ (by omega)]
   have d1:(arrOf st).toList.drop (sa+na)=((arrOf st).toList.drop (sa+k)).drop (na-k):=by
    rw [List.drop_drop]
    congr 1
    omega
   have d2:(arrOf st).toList.drop (sa+na+k')=((arrOf st).toList.drop (sa+na)).drop k':=by
    rw [List.drop_drop]
   rw [d2,show sa+na+k'-(sa+na)=k' by omega,append_assoc,append_assoc,take_append_drop,d1,show sa+na-(sa+k)=na-k by omega,take_append_drop,take_append_drop]
  refine h _ ⟨?_,K2.kind.trans k1,K2.bad.trans ef⟩ (K2.pend.trans ep) (zmR (by show _<=N.size;omega) fun p q u v h1 h2 h3 eu ev=>?_) fun j hj=>?_
  ·refine Array.Perm.trans ?_ O.perm
   rw [Array.perm_iff_toList_perm]
   show N.toList.Perm _
   have pm:=List.Perm.append_right ((arrOf st).toList.drop (sa+na+k')) (List.Perm.append_left ((arrOf st).toList.take (sa+k)) hM.1)
   rw [<- ol,<- nl] at pm
   exact pm
  ·have eu':N[p]?=some u:=eu
   have ev':N[q]?=some v:=ev
   rw [at_] at eu' ev'
   have mid:∀{j:Nat} {x:Keyed},sa+k<=j->j<sa+na+k'->merged.toList[j-(sa+k)]?=some x->(∃m,sa+k<=m/\m<sa+na/\(arrOf st)[m]?=some x)\/∃m,sa+na<=m/\m<sa+na+k'/\(arrOf st)[m]?=some x:=fun _ _ e=>by
    rcases List.mem_append.mp (hM.1.mem_iff.mp (mem_of_getElem? e)) with z | z
    ·exact .inl (ext_mem X3 z)
    ·exact .inr (ext_mem Y3 z)
   by_cases c1:p<sa+k
   ·rw [if_neg (by omega)] at eu'
    by_cases c2:q<sa+k
    ·rw [if_neg (by omega)] at ev'
     exact yP u1 h1 h2 (by omega) eu' ev'
    ·have low:∀{m:Nat} {x:Keyed},sa+na<=m->m<sa+na+nb->(arrOf st)[m]?=some x->rk u<=rk x:=fun m1 m2 em=>by
      have q1:=g1 (p-sa) u (by omega) (by rw [show sa+(p-sa)=p by omega];exact eu')
      exact Int.le_trans q1 (yP u2 (le_refl _) m1 m2 eb0 em)
     by_cases c3:q<sa+na+k'
     ·rw [if_pos ⟨by omega,c3⟩] at ev'
      rcases mid (by omega) c3 ev' with ⟨m,m1,m2,em⟩ | ⟨m,m1,m2,em⟩
      ·exact yP u1 h1 (by omega) m2 eu' em
      ·exact low m1 (by omega) em
     ·rw [if_neg (by omega)] at ev'
      exact low (by omega) h3 ev'
   ·by_cases c4:p<sa+na+k'
    ·rw [if_pos ⟨by omega,c4⟩] at eu'
     by_cases c3:q<sa+na+k'
     ·rw [if_pos ⟨by omega,c3⟩] at ev'
      by_cases epq:p=q
      ·subst epq
       rw [eu'] at ev'
       cases ev'
       exact Int.le_refl _
      ·have sp:=hM.2
       rw [List.pairwise_iff_getElem] at sp
       obtain⟨a1,a2⟩:=List.getElem?_eq_some_iff.mp eu'
       obtain⟨b1,b2⟩:=List.getElem?_eq_some_iff.mp ev'
       have:=sp _ _ a1 b1 (by omega)
       rw [a2,b2] at this
       exact this
     ·rw [if_neg (by omega)] at ev'
      have q4:=g4 (q-(sa+na)) v (by omega) (by omega) (by rw [show sa+na+(q-(sa+na))=q by omega];exact ev')
      rcases mid (by omega) c4 eu' with ⟨m,m1,m2,em⟩ | ⟨m,m1,m2,em⟩
      ·exact Int.le_trans (yP u1 (by omega) (by omega) (by omega) em eal') q4
      ·exact yP u2 m1 (by omega) h3 em ev'
    ·rw [if_neg (by omega)] at eu' ev'
     exact yP u2 (by omega) h2 h3 eu' ev'
  ·show N[j]?=_
   rw [at_,if_neg (by omega)]
 refine qv (fun _=>?_) fun _=>?_
 ·refine wpS_bind (zjo T k1 xm ym xs ys (Nat.lt_of_lt_of_eq (show 0<na-k by omega) xz.symm) (Nat.lt_of_lt_of_eq (show 0<k' by omega) yz.symm) (fun x y ex my=>le_of_lt (first x y ex my)) last fun out st2 K2 hM=>?_)
  refine wpS_bind (wpS_modify (wpS_bind (wpS_get ?_)))
  rw [show (failedOf st2).isNone=true by rw [K2.bad,ef];rfl]
  exact wpS_pure (tail out st2 K2 hM)
 ·refine wpS_bind (zjp T k1 xm ym xs ys (Nat.lt_of_lt_of_eq (show 0<na-k by omega) xz.symm) (Nat.lt_of_lt_of_eq (show 0<k' by omega) yz.symm) first last fun out st2 K2 hM=>?_)
  refine wpS_bind (wpS_modify (wpS_bind (wpS_get ?_)))
  rw [show (failedOf st2).isNone=true by rw [K2.bad,ef];rfl]
  exact wpS_pure (tail out st2 K2 hM)
end
end GS
namespace GS
def Qg:List (Nat×Nat×Nat)->Nat->Nat->Prop
 | [],s,e=>s=e
 | r::l,s,e=>r.1=s/\1<=r.2.1/\Qg l (s+r.2.1) e
theorem yG:∀{l1 l2:List (Nat×Nat×Nat)} {s e:Nat},Qg (l1++l2) s e ↔ ∃m,Qg l1 s m/\Qg l2 m e
 | [],l2,s,e=>⟨fun h=>⟨s,rfl,h⟩,fun ⟨m,h1,h2⟩=>by
  have e:s=m:=h1
  subst e
  exact h2⟩
 | r::l1,l2,s,e=>by
  constructor
  ·rintro⟨h1,h2,h3⟩
   obtain⟨m,h4,h5⟩:=yG.mp h3
   exact⟨m,⟨h1,h2,h4⟩,h5⟩
  ·rintro⟨m,⟨h1,h2,h3⟩,h4⟩
   exact⟨h1,h2,yG.mpr ⟨m,h3,h4⟩⟩
theorem Yt:∀{l:List (Nat×Nat×Nat)} {s e:Nat},Qg l s e->s<=e/\l.length+s<=e/\∀r∈l,s<=r.1/\r.1+r.2.1<=e
 | [],s,e,h=>by
  have e':s=e:=h
  subst e'
  exact⟨le_refl _,by simp,fun r hr=>nomatch hr⟩
 | r::l,s,e,⟨h1,h2,h3⟩=>by
  obtain⟨a1,a2,a3⟩:=Yt h3
  refine⟨by omega,by rw [length_cons];omega,fun q hq=>?_⟩
  rcases List.mem_cons.mp hq with rfl | hq
  ·omega
  ·have:=a3 q hq
   omega
section
variable {prog:Program}{w:World}{A:Around}{E:Value->Shared->Prop}{s:Shared}{rk:Keyed->Int}{κ:SortKind}{a0:Array Keyed}
structure PI (rk:Keyed->Int)(κ:SortKind)(a0:Array Keyed)(lo:Nat)(st:SortSt):Prop where
 ok:Ok κ a0 st
 til:Qg (pendingOf st).toList 0 lo
 up:∀r∈(pendingOf st).toList,Up rk (arrOf st) r.1 (r.1+r.2.1)
theorem zby {xs ys:Array Keyed}{lo hi:Nat}(u:Up rk xs lo hi)(h:∀j:Nat,lo<=j->j<hi->ys[j]?=xs[j]?):Up rk ys lo hi:=fun i j h1 h2 h3=>by
 rw [JB (h i h1 (by omega)),JB (h j (by omega) h3)]
 exact u i j h1 h2 h3
theorem znD {p:List (Nat×Nat×Nat)}{i:Nat}(h:i+1<p.length):∃l1 r1 r2 l2,p=l1++r1::r2::l2/\l1.length=i/\p[i]?=some r1/\p[i+1]?=some r2:=by
 refine⟨p.take i,p[i],p[i+1],p.drop (i+2),?_,by rw [length_take];omega,getElem?_eq_getElem (by omega),getElem?_eq_getElem h⟩
 rw [<- drop_eq_getElem_cons h,<- drop_eq_getElem_cons (by omega),take_append_drop]
theorem zfK {st:SortSt}{lo i:Nat}{Q:Bool->SortSt->Prop}(T:Tells prog w A s κ rk a0)(P:PI rk κ a0 lo st)(hi:i+1<(pendingOf st).size)(hlo:lo<=a0.size)
  (h:∀st',PI rk κ a0 lo st'->(pendingOf st').size+1=(pendingOf st).size->(∀j:Nat,lo<=j->(arrOf st')[j]?=(arrOf st)[j]?)->Q true st'):wpS (model prog w) A E s (mergeAt' i) Q st:=by
 obtain⟨l1,⟨sa,na,p1⟩,⟨sb,nb,p2⟩,l2,ep,el,e1,e2⟩:=znD (p:=(pendingOf st).toList) (i:=i) (by rw [length_toList];exact hi)
 have til:=P.til
 rw [ep] at til
 obtain⟨m,t1,⟨a1,a2,a3,a4,a5⟩⟩:=yG.mp til
 dsimp only at a1 a2 a3 a4 a5
 subst a1
 subst a3
 rw [getElem?_toList] at e1 e2
 have u1:=P.up (sa,na,p1) (by rw [ep];simp)
 have u2:=P.up (sa+na,nb,p2) (by rw [ep];simp)
 dsimp only at u1 u2
 obtain⟨b1,b2,b3⟩:=Yt a5
 obtain⟨c1,c2,c3⟩:=Yt t1
 refine zjq T P.ok e1 e2 a2 a4 (by omega) u1 u2 fun st' O' ep' up' out'=>?_
 have el':(pendingOf st').toList=l1++(sa,na+nb,p1)::l2:=by
  rw [ep',Array.toList_eraseIdxIfInBounds,Array.toList_setIfInBounds,ep,<- el]
  rw [List.set_append_right _ _ (le_refl _),sub_self,List.set_cons_zero,List.eraseIdx_append_of_length_le (by omega),show l1.length+1-l1.length=1 by omega]
  rfl
 refine h st' ⟨O',?_,fun r hr=>?_⟩ ?_ fun j hj=>out' j (by omega)
 ·rw [el']
  exact yG.mpr ⟨sa,t1,rfl,by show 1<=na+nb;omega,by rw [show sa+(na+nb)=sa+na+nb by omega];exact a5⟩
 ·rw [el'] at hr
  rcases List.mem_append.mp hr with hr | hr
  ·have:=c3 r hr
   exact zby (P.up r (by rw [ep];exact mem_append_left _ hr)) fun j h1 h2=>out' j (by omega)
  ·rcases List.mem_cons.mp hr with rfl | hr
   ·show Up rk (arrOf st') sa (sa+(na+nb))
    rw [show sa+(na+nb)=sa+na+nb by omega]
    exact up'
   ·have:=b3 r hr
    exact zby (P.up r (by rw [ep];simp [hr])) fun j h1 h2=>out' j (by omega)
 ·rw [<- length_toList,el',<- length_toList,ep]
  simp only [length_append,length_cons]
  omega
theorem PI.step {lo lo':Nat}{st st':SortSt}(P:PI rk κ a0 lo st)(S:Step κ a0 lo' st st')(h:lo<=lo'):PI rk κ a0 lo st':=by
 refine⟨S.ok,by rw [S.pend];exact P.til,fun r hr=>?_⟩
 rw [S.pend] at hr
 have:=(Yt P.til).2.2 r hr
 exact zby (P.up r hr) fun j h1 h2=>S.low j (by omega)
theorem zba (pw:Nat):∀{l:List (Nat×Nat×Nat)} {k s e:Nat},Qg l s e->Qg (l.modify k fun r=>(r.1,r.2.1,pw)) s e
 | [],k,s,e,h=>by
  cases k<;>exact h
 | r::l,0,s,e,⟨h1,h2,h3⟩=>⟨h1,h2,h3⟩
 | r::l,k+1,s,e,⟨h1,h2,h3⟩=>⟨h1,h2,zba pw h3⟩
theorem zdF {pw:Nat}:∀{l:List (Nat×Nat×Nat)} {k:Nat} {r:Nat×Nat×Nat},r∈l.modify k (fun r=>(r.1,r.2.1,pw))->∃q∈l,q.1=r.1/\q.2.1=r.2.1
 | [],k,r,h=>by
  cases k<;>cases h
 | q::l,0,r,h=>by
  rcases List.mem_cons.mp h with rfl | h
  ·exact⟨q,mem_cons_self,rfl,rfl⟩
  ·exact⟨r,mem_cons_of_mem _ h,rfl,rfl⟩
 | q::l,k+1,r,h=>by
  rcases List.mem_cons.mp h with rfl | h
  ·exact⟨r,mem_cons_self,rfl,rfl⟩
  ·obtain⟨q',h1,h2⟩:=zdF h
   exact⟨q',mem_cons_of_mem _ h1,h2⟩
theorem ite_le (c:Prop) [Decidable c](n:Nat):(if c then n-1 else n)<=n:=by
 split<;>omega
theorem znE {st:SortSt}{Q:Unit->SortSt->Prop}(T:Tells prog w A s κ rk a0)(O:Ok κ a0 st)(hp:pendingOf st=#[])(h:∀st',Ok κ a0 st'->Up rk (arrOf st') 0 a0.size->Q () st'):wpS (model prog w) A E s sortRuns' Q st:=by
 rw [sortRuns'_eq]
 refine wpS_bind (wpS_get ?_)
 dsimp only
 rw [O.size]
 generalize minRun' a0.size a0.size 0=mr
 refine wpS_bind (wpS_mono (wpS_forRange (I:=fun x c st'=>∃lo,c=(none,lo)/\PI rk κ a0 lo st'/\lo<=a0.size/\x<=lo)
  (Q:=fun c st'=>c=(none,a0.size)/\PI rk κ a0 a0.size st') ?step ?fin ⟨0,rfl,⟨O,by rw [hp];rfl,fun r hr=>by rw [hp] at hr;cases hr⟩,zero_le _,le_refl _⟩) ?post)
 case fin =>
  rintro c st' ⟨lo,rfl,P,h1,h2⟩
  obtain rfl:lo=a0.size:=by omega
  exact⟨rfl,P⟩
 case step =>
  rintro x c st1 _ hx ⟨lo,rfl,P,h1,h2⟩
  dsimp only
  refine qv (fun hge=>?_) fun hge=>?_
  ·obtain rfl:lo=a0.size:=by omega
   exact wpS_pure ⟨rfl,P⟩
  refine wpS_bind (zoz T P.ok (by omega) (by omega) fun m st2 S m1 m2 hu=>?_)
  dsimp only
  have P2:=P.step S (le_refl _)
  refine qv (fun hmr=>?_) fun hmr=>?_
  refine wpS_bind (wpS_lift (wpAny_rule ⟨rfl,?_⟩))
  refine wpS_bind (zoA T S.ok (by omega) (by omega) hu fun st3 S3 hu3=>?_)
  rw [if_neg (by decide)]
  have P3:=P2.step S3 (le_refl _)
  have n1:1<=min (a0.size-lo) mr:=by omega
  have n2:lo+min (a0.size-lo) mr<=a0.size:=by omega
  clear P2 S3
  generalize min (a0.size-lo) mr=n at hu3 n1 n2 ⊢
  rotate_left
  have P3:=P2
  have hu3:=hu
  have n1:=m1
  have n2:lo+m<=a0.size:=by omega
  clear P2
  generalize m=n at hu3 n1 n2 ⊢
  generalize st2=st3 at P3 hu3 ⊢
  rotate_left
  all_goals
   refine wpS_bind (wpS_get ?_)
   have fin:∀st4,PI rk κ a0 lo st4->Up rk (arrOf st4) lo (lo+n)->PI rk κ a0 (lo+n) (setPending st4 ((pendingOf st4).push (lo,n,0))):=fun st4 P4 u4=>by
    refine⟨⟨P4.ok.perm,P4.ok.kind,P4.ok.good⟩,?_,fun r hr=>?_⟩
    ·show Qg ((pendingOf st4).push (lo,n,0)).toList 0 (lo+n)
     rw [toList_push]
     exact yG.mpr ⟨lo,P4.til,rfl,n1,rfl⟩
    ·have hr':r∈((pendingOf st4).push (lo,n,0)).toList:=hr
     rw [toList_push] at hr'
     rcases List.mem_append.mp hr' with hr' | hr'
     ·exact P4.up r hr'
     ·have er:r=(lo,n,0):=by simpa using hr'
      subst er
      exact u4
   cases hbk:(pendingOf st3).back? with
   | none =>
    dsimp only
    exact wpS_bind (wpS_modify (wpS_pure ⟨lo+n,rfl,fin st3 P3 hu3,n2,by omega⟩))
   | some r =>
    obtain⟨s1,k1,q1⟩:=r
    dsimp only
    generalize power' a0.size (2*s1+k1) (2*s1+k1+k1+n) a0.size=pw
    refine wpS_bind (wpS_mono (wpS_forRange (I:=fun _ c st4=>c=(none,())/\PI rk κ a0 lo st4/\Up rk (arrOf st4) lo (lo+n)) (Q:=fun c st4=>c=(none,())/\PI rk κ a0 lo st4/\Up rk (arrOf st4) lo (lo+n)) ?_ (fun _ _ hh=>hh) ⟨rfl,P3,hu3⟩) ?_)
    ·rintro y c st4 _ _ ⟨rfl,P4,u4⟩
     refine wpS_bind (wpS_get ?_)
     by_cases hz:(pendingOf st4).size>1
     ·rw [if_pos hz,getElem?_pos (pendingOf st4) ((pendingOf st4).size-2) (by omega)]
      generalize (pendingOf st4)[(pendingOf st4).size-2]'(by omega)=r2
      obtain⟨r2a,r2b,r2c⟩:=r2
      dsimp only
      refine qv (fun _=>wpS_pure ⟨rfl,P4,u4⟩) fun _=>?_
      refine wpS_bind (zfK T P4 (by omega) h1 fun st5 P5 _ zpg=>?_)
      rw [if_neg (by decide)]
      exact wpS_pure ⟨rfl,P5,zby u4 fun j j1 _=>zpg j j1⟩
     ·rw [if_neg hz]
      exact wpS_pure ⟨rfl,P4,u4⟩
    ·rintro c st4 ⟨rfl,P4,u4⟩
     dsimp only
     refine wpS_bind (wpS_modify (wpS_bind (wpS_modify (wpS_pure ⟨lo+n,rfl,fin _ ⟨⟨P4.ok.perm,P4.ok.kind,P4.ok.good⟩,?_,fun r hr=>?_⟩ u4,n2,by omega⟩))))
     ·show Qg ((pendingOf st4).modify ((pendingOf st4).size-1) fun r=>(r.1,r.2.1,pw)).toList 0 lo
      rw [Array.toList_modify]
      exact zba pw P4.til
     ·have hr':r∈((pendingOf st4).modify ((pendingOf st4).size-1) fun r=>(r.1,r.2.1,pw)).toList:=hr
      rw [Array.toList_modify] at hr'
      obtain⟨q,hq,e1,e2⟩:=zdF hr'
      have:=P4.up q hq
      rw [e1,e2] at this
      exact this
 case post =>
  rintro c st1 ⟨rfl,P⟩
  dsimp only
  have len0:=(Yt P.til).2.1
  rw [length_toList] at len0
  refine wpS_bind (wpS_mono (wpS_forRange (I:=fun x c st2=>c=(none,())/\PI rk κ a0 a0.size st2/\((pendingOf st2).size+x<=a0.size\/(pendingOf st2).size<=1)) (Q:=fun c st2=>c=(none,())/\PI rk κ a0 a0.size st2/\(pendingOf st2).size<=1) ?step2 ?fin2 ⟨rfl,P,.inl (by omega)⟩) ?post2)
  case fin2 =>
   rintro c st2 ⟨rfl,P2,hz⟩
   exact⟨rfl,P2,by omega⟩
  case step2 =>
   rintro x c st2 _ hx ⟨rfl,P2,hz⟩
   refine wpS_bind (wpS_get ?_)
   refine qv (fun h1=>wpS_pure ⟨rfl,P2,h1⟩) fun h1=>?_
   refine wpS_bind (zfK T P2 ?_ (le_refl _) fun st3 P3 z3 _=>?_)
   ·exact lt_of_le_of_lt (Nat.add_le_add_right (ite_le _ _) 1) (show (pendingOf st2).size-2+1<(pendingOf st2).size by omega)
   ·rw [if_neg (by decide)]
    exact wpS_pure ⟨rfl,P3,by omega⟩
  case post2 =>
   rintro c st2 ⟨rfl,P2,hz⟩
   dsimp only
   refine wpS_pure (h st2 P2.ok ?_)
   have til:=P2.til
   have up:=P2.up
   have zl:(pendingOf st2).toList.length<=1:=by rw [length_toList];exact hz
   cases hl:(pendingOf st2).toList with
   | nil =>
    rw [hl] at til
    have e:0=a0.size:=til
    exact fun i j _ _ h3=>absurd h3 (by omega)
   | cons r l =>
    rw [hl] at til zl up
    obtain rfl:l=[]:=List.length_eq_zero_iff.mp (by rw [length_cons] at zl;omega)
    obtain⟨t1,t2,t3⟩:=til
    have t3':0+r.2.1=a0.size:=t3
    have u:=up r mem_cons_self
    rw [t1,t3'] at u
    exact u
end
end GS
namespace GS
structure Wk {K:Type}(lt:K->K->Bool):Prop where
 tot:∀x y,lt x y=true->lt y x=false
 tr:∀x y z,lt y x=false->lt z y=false->lt z x=false
def rkK {K:Type}(lt:K->K->Bool)(ks:List K)(k:K):Int:=((ks.countP fun q=>lt q k:Nat):Int)
theorem count_le {K:Type}{p q:K->Bool}:∀{ks:List K},(∀x∈ks,p x=true->q x=true)->ks.countP p<=ks.countP q
 | [],_=>le_refl _
 | x::ks,h=>by
  have ih:=count_le (ks:=ks) fun y hy=>h y (mem_cons_of_mem _ hy)
  rw [countP_cons,countP_cons]
  have hx:=h x mem_cons_self
  by_cases c:p x=true
  ·rw [if_pos c,if_pos (hx c)]
   omega
  ·rw [if_neg c]
   omega
theorem zkL {K:Type}{p q:K->Bool}{ks:List K}(h:∀x∈ks,p x=true->q x=true)(hq:∃x∈ks,p x=false/\q x=true):ks.countP p<ks.countP q:=by
 obtain⟨y,hy,h1,h2⟩:=hq
 induction ks with
 | nil=>cases hy
 | cons x ks ih =>
  rw [countP_cons,countP_cons]
  have hx:=h x mem_cons_self
  rcases List.mem_cons.mp hy with rfl | hy
  ·have ih:=count_le (ks:=ks) fun y hy=>h y (mem_cons_of_mem _ hy)
   rw [h1,h2,if_neg Bool.false_ne_true,if_pos rfl]
   omega
  ·have ih:=ih (fun y hy=>h y (mem_cons_of_mem _ hy)) hy
   by_cases c:p x=true
   ·rw [if_pos c,if_pos (hx c)]
    omega
   ·rw [if_neg c]
    omega
theorem Wk.rank {K:Type}{lt:K->K->Bool}(W:Wk lt){ks:List K}{x y:K}(hx:x∈ks):lt x y=decide (rkK lt ks x<rkK lt ks y):=by
 unfold rkK
 cases h:lt x y with
 | true =>
  refine(decide_eq_true ?_).symm
  have:=zkL (ks:=ks) (p:=fun q=>lt q x) (q:=fun q=>lt q y) (fun q _ hq=>?_) ⟨x,hx,?_,h⟩
  ·omega
  ·cases hc:lt q y with
   | true=>rfl
   | false =>
    have:=W.tr x y q (W.tot x y h) hc
    have hq':lt q x=true:=hq
    rw [this] at hq'
    cases hq'
  ·cases hc:lt x x with
   | false=>rfl
   | true=>exact hc.symm.trans (W.tot x x hc)
 | false =>
  refine(decide_eq_false ?_).symm
  have:=count_le (ks:=ks) (p:=fun q=>lt q y) (q:=fun q=>lt q x) fun q _ hq=>by
   cases hc:lt q x with
   | true=>rfl
   | false =>
    have:=W.tr y x q h hc
    have hq':lt q y=true:=hq
    rw [this] at hq'
    cases hq'
  omega
section
variable {prog:Program}{w:World}{A:Around}{E:Value->Shared->Prop}{s:Shared}
theorem zdG {a:Addr}{vs:List Value}{n:Nat}{P:PySem.Fin->Shared->Prop}(ho:s.heap.get? a=some (seqObj "list" vs.toArray n))(hz:vs.length<=sizeLine)(r:Value->Int)
  (hk:2<=vs.length->∀s':Shared,(∀b o,b≠a->s.heap.get? b=some o->s'.heap.get? b=some o)->wpAny (model prog w) A (keyKind' vs.toArray) (fun κ s2=>s2=s'/\Tells prog w A s' κ (fun p=>r p.1) (pairsOf vs)) (fun _ _=>False) s')
  (h:∀(ws:List Value) (h':Heap) (c:Nat),ws.Perm vs->ws.Pairwise (fun x y=>r x<=r y)->(∀b o,b≠a->s.heap.get? b=some o->h'.get? b=some o)->h'.get? a=some (seqObj "list" ws.toArray c)->P (.done (.ret .none)) { s with heap:=h' }) :
  wpAny (model prog w) A (Builtin.«list.sort» ⟨[.ref a],[]⟩) P E s:=by
 have lta:a<s.heap.objs.size:=Heap.lt_size ho
 have hu1:=get?_update_seq ho fun _=>(#[]:Array Value)
 generalize hX:s.heap.update a (Obj.mapSeq fun _=>(#[]:Array Value))=X1 at hu1
 have zX:X1.objs.size=s.heap.objs.size:=by rw [<- hX,Heap.size_update]
 have kX:∀b o,b≠a->s.heap.get? b=some o->X1.get? b=some o:=fun b o hb e=>by
  rw [<- hX,Heap.get?_update_ne _ _ _ _ hb]
  exact e
 obtain⟨e1,hu⟩:∃e1,X1.get? a=some (seqObj "list" #[] e1):=⟨_,hu1⟩
 generalize hY:(X1.push (seqObj "tuple" vs.toArray 0)).push (seqObj "list" #[] 0)=Y
 have hYa:Y.get? a=some (seqObj "list" #[] e1):=by
  rw [<- hY]
  exact Heap.get?_push_of_some _ (Heap.get?_push_of_some _ hu)
 have kY:∀b o,b≠a->s.heap.get? b=some o->Y.get? b=some o:=fun b o hb e=>by
  rw [<- hY]
  exact Heap.get?_push_of_some _ (Heap.get?_push_of_some _ (kX b o hb e))
 have last:∀(st:SortSt),(((arrOf st).map (·.2)).toList.Perm vs)->(((arrOf st).map (·.2)).toList.Pairwise fun x y=>r x<=r y)->failedOf st=none ->
   wpAny (model prog w) A (do
    let touched:=(<- seqEpoch a) != e1
    Builtin.List.listUpdate (.ref a) fun _=>(arrOf st).map (·.2)
    if let some e:=failedOf st then rule "list.sort.comparison-raised";throw e
    if touched then rule "list.sort.modified";raiseError "ValueError" "list modified during sort"
    ret .none) P E { s with heap:=Y }:=by
  intro st hp hs hf
  generalize ew:(arrOf st).map (·.2)=wsA at hp hs
  rw [hf]
  have hlen:wsA.size=vs.length:=by rw [<- length_toList,hp.length_eq]
  have hu2:=get?_update_seq hYa fun _=>wsA
  refine wpAny_bind (seqEpoch_at hYa rfl (wpAny_bind (listUpdate_at hYa rfl ?_ (zero_le _) (by rw [hlen];omega))))
  simp only [bne_self_eq_false,false_eq_true,if_false]
  refine wpAny_pure (h wsA.toList _ _ hp hs (fun b o hb e=>?_) hu2)
  rw [Heap.get?_update_ne _ _ _ _ hb]
  exact kY b o hb e
 rw [list_sort_plain]
 refine wpAny_bind (listItems_at ho rfl (wpAny_bind (listUpdate_at ho rfl ?_ (by rw [size_toArray];exact hz) (zero_le _))))
 rw [hX]
 refine wpAny_bind (seqEpoch_at hu rfl (wpAny_bind (wpAny_newTuple (wpAny_bind (wpAny_newList ?_ (zero_le _))) hz)))
 show wpAny (model prog w) A _ P E { s with heap:=(X1.push (seqObj "tuple" vs.toArray 0)).push (seqObj "list" #[] 0) }
 rw [hY]
 refine wpAny_holding ?_
 dsimp only
 have e2:((pairsOf vs).map (·.2)).toList=vs:=by
  rw [toList_map,pairsOf_toList]
  exact List.map_snd_zip (le_refl _)
 by_cases c2:vs.toArray.size<2
 ·have c2':vs.length<2:=by rw [size_toArray] at c2;exact c2
  rw [if_pos c2,if_pos c2]
  refine wpAny_bind (wpAny_pure ?_)
  rw [StateT.run_pure]
  refine wpAny_bind (wpAny_pure ?_)
  refine last (SortSt.mk' general' (pairsOf vs) #[] 7 none) (by show ((pairsOf vs).map (·.2)).toList.Perm vs;rw [e2]) (by
   show ((pairsOf vs).map (·.2)).toList.Pairwise _
   rw [e2,List.pairwise_iff_getElem]
   intro i j hi hj hij
   omega) rfl
 ·have c2':2<=vs.length:=by rw [size_toArray] at c2;omega
  rw [if_neg c2,if_neg c2]
  refine wpAny_bind (wpAny_mono (hk c2' { s with heap:=Y } kY) (fun κ s2 ⟨e3,T⟩=>?_) fun _ _ x=>x.elim)
  subst e3
  have run:=znE (E:=E) (st:=SortSt.mk' κ (pairsOf vs) #[] 7 none) (Q:=fun _ st'=>(((arrOf st').map (·.2)).toList.Perm vs)/\(((arrOf st').map (·.2)).toList.Pairwise fun x y=>r x<=r y)/\failedOf st'=none) T ⟨Array.Perm.refl _,rfl,rfl⟩ rfl fun st' O hu=>?_
  ·unfold wpS at run
   refine wpAny_bind (wpAny_mono run ?_ fun _ _ z=>z)
   rintro⟨⟨⟩,st'⟩ s' ⟨rfl,hp,hs,hf⟩
   exact last st' hp hs hf
  ·have pm:=Array.perm_iff_toList_perm.mp O.perm
   have same:∀p∈(arrOf st').toList,p.1=p.2:=fun p hp=>by
    have:=pm.mem_iff.mp hp
    rw [pairsOf_toList] at this
    exact(mem_zip_self this).1
   refine⟨?_,?_,O.good⟩
   ·have:=pm.map (·.2)
    rw [toList_map]
    rw [pairsOf_toList,List.map_snd_zip (le_refl _)] at this
    exact this
   ·rw [toList_map,List.pairwise_map,List.pairwise_iff_getElem]
    intro i j hi hj hij
    have zs:=O.size
    rw [length_toList] at hi hj
    have u:=yP hu (i:=i) (j:=j) (zero_le _) (by omega) (by omega) (getElem?_pos _ i hi) (getElem?_pos _ j hj)
    have s1:=same (arrOf st')[i] (by simp)
    have s2:=same (arrOf st')[j] (by simp)
    rw [getElem_toList,getElem_toList,<- s1,<- s2]
    exact u
theorem zjr {l:Addr}{vs:List Value}{Q:Value->Shared->Prop}(hl:s.heap.IsList l vs.toArray)(hz:vs.length<=sizeLine)(r:Value->Int)
  (hk:2<=vs.length->∀s':Shared,(∀b o,s.heap.get? b=some o->s'.heap.get? b=some o)->wpAny (model prog w) A.in1.in1 (keyKind' vs.toArray) (fun κ s2=>s2=s'/\Tells prog w A.in1.in1 s' κ (fun p=>r p.1) (pairsOf vs)) (fun _ _=>False) s')
  (h:∀(ws:List Value) (h':Heap) (c:Nat),ws.Perm vs->ws.Pairwise (fun x y=>r x<=r y)->(∀b o,s.heap.get? b=some o->h'.get? b=some o)->h'.get? (s.heap.objs.size+1)=some (seqObj "list" ws.toArray c)->Q (.ref (s.heap.objs.size+1)) { s with heap:=h' }) :
  wpAny (model prog w) A (call (.builtin "sorted") [.ref l]) Q E s:=by
 generalize hX:(s.heap.push (seqObj "list" #[] 0)).update s.heap.objs.size (Obj.mapSeq (·++vs.toArray))=X1
 have zX:X1.objs.size=s.heap.objs.size+1:=by rw [<- hX,Heap.size_update,Heap.size_push]
 have kX:∀b o,s.heap.get? b=some o->X1.get? b=some o:=fun b o e=>by
  have lt:=Heap.lt_size e
  rw [<- hX,Heap.get?_update_ne _ _ _ _ (ne_of_lt lt)]
  exact Heap.get?_push_of_some _ e
 apply Calls.call_function_entry kind_sorted plain_sorted entry_sorted (args_sorted1 _)
 unfold Builtin.«sorted»
 refine wpAny_bind (m:=checkCount "sorted" 1 1 _) (wpAny_pure (wpAny_bind (collect_list hl ?_ hz)))
 rw [hX]
 refine wpAny_bind (wpAny_newList ?_ hz)
 show wpAny _ _ _ _ _ { s with heap:=X1.push (seqObj "list" vs.toArray 0) }
 have hoL:(X1.push (seqObj "list" vs.toArray 0)).get? (s.heap.objs.size+1)=some (seqObj "list" vs.toArray 0):=by
  rw [<- zX]
  exact Heap.get?_push_size _ rfl
 have kL:∀b o,s.heap.get? b=some o->(X1.push (seqObj "list" vs.toArray 0)).get? b=some o:=fun b o e=>Heap.get?_push_of_some _ (kX b o e)
 have ne:∀b o,s.heap.get? b=some o->b≠s.heap.objs.size+1:=fun b o e=>ne_of_lt (lt_succ_of_lt (Heap.lt_size e))
 rw [zX]
 refine wpAny_bind (wpAny_holding (wpAny_call_entry slot_list_sort ⟨_,hoL,rfl⟩ entry_list_sort (zdG (s:={ s with heap:=X1.push (seqObj "list" vs.toArray 0) }) hoL hz r (fun c s' k=>hk c s' fun b o e=>k b o (ne b o e) (kL b o e)) ?_) (args_list_sort _)))
 intro ws h' c hp hs kk ha
 exact⟨_,rfl,wpAny_pure ⟨_,rfl,h ws h' c hp hs (fun b o e=>kk b o (ne b o e) (kL b o e)) ha⟩⟩
end
theorem zbY {α β:Type}{R:α->β->Prop}{xs:List α}{ys:List β}(hp:Paired R xs ys):(∀p∈xs.zip ys,R p.1 p.2)/\(xs.zip ys).map (·.1)=xs/\(xs.zip ys).map (·.2)=ys:=by
 induction hp with
 | nil=>exact⟨(fun p h=>nomatch h),rfl,rfl⟩
 | cons h _ ih =>
  obtain⟨a,b,c⟩:=ih
  refine⟨fun p hp=>?_,by rw [List.zip_cons_cons,map_cons,b],by rw [List.zip_cons_cons,map_cons,c]⟩
  rcases List.mem_cons.mp hp with rfl | hp
  ·exact h
  ·exact a p hp
theorem zdH {α β:Type}{R:α->β->Prop}:∀{zs:List (α × β)},(∀p∈zs,R p.1 p.2)->Paired R (zs.map (·.1)) (zs.map (·.2))
 | [],_=>.nil
 | p::zs,h=>.cons (h p mem_cons_self) (zdH fun q hq=>h q (mem_cons_of_mem _ hq))
end GS
namespace GS
theorem JC {α β:Type}{R:α->β->Prop}:∀{xs:List α} {ys:List β},Paired R xs ys->∀x∈xs,∃y∈ys,R x y
 | _,_,.nil,x,h=>nomatch h
 | _,_,.cons h t,x,hx=>by
  rcases List.mem_cons.mp hx with rfl | hx
  ·exact⟨_,mem_cons_self,h⟩
  ·obtain⟨y,h1,h2⟩:=JC t x hx
   exact⟨y,mem_cons_of_mem _ h1,h2⟩
def Tri {K:Type}(RV:V->K->Prop)(RH:Value->K->Prop)(t:V×Value×K):Prop:=RelV t.1 t.2.1/\RV t.1 t.2.2/\RH t.2.1 t.2.2
theorem znF {K:Type}{RV:V->K->Prop}{RH:Value->K->Prop}{us:List V}{its:List Value}{ks:List K}(h1:Vals us its):Paired RV us ks->Paired RH its ks->∃T:List (V×Value×K),(∀t∈T,Tri RV RH t)/\T.map (·.1)=us/\T.map (·.2.1)=its/\T.map (·.2.2)=ks:=by
 induction h1 generalizing ks with
 | nil =>
  intro h2 h3
  cases h2
  exact⟨[],(fun t h=>nomatch h),rfl,rfl,rfl⟩
 | @cons u i us its r1 t1 ih =>
  intro h2 h3
  cases h2 with
  | @cons _ k _ ks r2 t2 =>
   cases h3 with
   | cons r3 t3 =>
    obtain⟨T,h1,h2,h3,h4⟩:=ih t2 t3
    refine⟨(u,i,k)::T,fun t ht=>?_,by rw [map_cons,h2],by rw [map_cons,h3],by rw [map_cons,h4]⟩
    rcases List.mem_cons.mp ht with rfl | ht
    ·exact⟨r1,r2,r3⟩
    ·exact h1 t ht
theorem zfL {K:Type}{RV:V->K->Prop}{RH:Value->K->Prop}:∀{T:List (V×Value×K)},(∀t∈T,Tri RV RH t)->Vals (T.map (·.1)) (T.map (·.2.1))/\Paired RV (T.map (·.1)) (T.map (·.2.2))
 | [],_=>⟨.nil,.nil⟩
 | t::T,h=>by
  obtain⟨h1,h2⟩:=zfL fun x hx=>h x (mem_cons_of_mem _ hx)
  obtain⟨a,b,c⟩:=h t mem_cons_self
  exact⟨.cons a h1,.cons b h2⟩
section
variable {X:Cx}{pins:List (Addr×Obj)}{σ:St}{H:Hp}{s:Shared}{K:Type}
theorem zjs {lt:K->K->Bool}(W:Wk lt){RV:V->K->Prop}{RH:Heap->Value->K->Prop}(fn:∀h v k k',RH h v k->RH h v k'->k=k')(kp:∀h h' v k,(∀b o,h.get? b=some o->h'.get? b=some o)->RH h v k->RH h' v k)
  {l:Addr} {us:List V} {its:List Value} {ks:List K} {Q:VK} (I:Inv X pins σ H s) (hl:s.heap.IsList l its.toArray) (hz:us.length<=1000000) (rv:Vals us its) (hv:Paired RV us ks) (hp:Paired (RH s.heap) its ks)
  (kind:∀s':Shared,Paired (RH s'.heap) its ks->2<=its.length->wpAny (model X.prog X.w) X.A.in1.in1 (keyKind' its.toArray) (fun κ s2=>s2=s'/\∀v v' k k',RH s'.heap v k->RH s'.heap v' k'->∀C:Bool->Shared->Prop,C (lt k k') s'->wpAny (model X.prog X.w) X.A.in1.in1 (keyLt' κ v v') C (fun _ _=>False) s') (fun _ _=>False) s')
  (q:∀d us' ks',H d=none->Paired RV us' ks'->ks'.Perm ks->ks'.Pairwise (fun x y=>lt y x=false)->(us'.Perm us)->Q (.ref d) (upd H d (.lst us'))) :
  wpAny (model X.prog X.w) X.A (call (.builtin "sorted") [.ref l]) (EP X pins σ Q) X.xe s:=by
 classical
 have hil:=rv.length
 obtain⟨T,hT,e1,e2,e3⟩:=znF rv hv hp
 let r:Value->Int:=fun v=>if h:∃k,RH s.heap v k then rkK lt ks h.choose else 0
 have rk_:∀{v:Value} {k:K},RH s.heap v k->r v=rkK lt ks k:=fun {v k} h=>by
  have hx:∃k,RH s.heap v k:=⟨k,h⟩
  show (if h:∃k,RH s.heap v k then rkK lt ks h.choose else 0)=_
  rw [dif_pos hx,fn _ _ _ _ hx.choose_spec h]
 have z1:its.length<=sizeLine:=by
  rw [<- hil,sizeLine_eq]
  omega
 refine zjr (vs:=its) hl z1 r (fun h2 s' kk=>?_) fun ws h' c hpm hs kk ha=>?_
 ·have hp':Paired (RH s'.heap) its ks:=by
   obtain⟨a,b,c⟩:=zbY hp
   have:=zdH (R:=RH s'.heap) (zs:=its.zip ks) fun p hp=>kp _ _ _ _ kk (a p hp)
   rw [b,c] at this
   exact this
  refine wpAny_mono (kind s' hp' h2) (fun κ s2 ⟨e,hc⟩=>⟨e,fun x hx y hy C hC=>?_⟩) fun _ _ z=>z
  have mx:x.1∈its:=by
   rw [pairsOf_toList] at hx
   exact(mem_zip_self hx).2
  have my:y.1∈its:=by
   rw [pairsOf_toList] at hy
   exact(mem_zip_self hy).2
  obtain⟨k,k1,k2⟩:=JC hp x.1 mx
  obtain⟨k',k1',k2'⟩:=JC hp y.1 my
  refine hc x.1 y.1 k k' (kp _ _ _ _ kk k2) (kp _ _ _ _ kk k2') C ?_
  have hC':C (decide (r x.1<r y.1)) s':=hC
  rw [rk_ k2,rk_ k2',<- W.rank k1] at hC'
  exact hC'
 ·obtain⟨T',hT',eT⟩:=ST.zbV (fun t:V×Value×K=>t.2.1) hpm T e2.symm
  have hTr:∀t∈T',Tri RV (RH s.heap) t:=fun t ht=>hT t (hT'.mem_iff.mp ht)
  obtain⟨rv',hv'⟩:=zfL hTr
  rw [<- eT] at rv'
  have hD:H (s.heap.objs.size+1)=none:=I.hok.fresh (le_succ _)
  refine⟨.ref (s.heap.objs.size+1),upd H (s.heap.objs.size+1) (.lst (T'.map (·.1))),I.laid (t':=s.toks) kk (le_succ _) ⟨?_,ws,c,rv',ha⟩,rfl,q _ _ _ hD hv' (by rw [<- e3];exact hT'.map _) ?_ (by rw [<- e1];exact hT'.map _)⟩
  ·rw [rv'.length,hpm.length_eq]
   exact z1
  ·rw [eT,List.pairwise_map] at hs
   rw [List.pairwise_map]
   refine hs.imp_of_mem fun {x y} hx hy h=>?_
   obtain⟨_,_,h1⟩:=hTr x hx
   obtain⟨_,_,h2⟩:=hTr y hy
   rw [rk_ h1,rk_ h2] at h
   have my:y.2.2∈ks:=by
    rw [<- e3]
    exact List.mem_map.mpr ⟨y,hT'.mem_iff.mp hy,rfl⟩
   rw [W.rank my]
   exact decide_eq_false (by omega)
end
theorem znG:Wk lt2:=by
 refine⟨fun x y h=>?_,fun x y z h1 h2=>?_⟩
 ·cases e:lt2 y x with
  | false=>rfl
  | true =>
   have:=zgY h e
   rw [zic] at this
   cases this
 ·cases e:lt2 z x with
  | false=>rfl
  | true =>
   by_cases exy:x=y
   ·subst exy
    rw [e] at h2
    exact h2
   ·have h3:lt2 x y=true:=by
     have:=zbu (p:=x) (q:=y) exy
     rw [h1] at this
     cases hh:lt2 x y with
     | true=>rfl
     | false =>
      rw [hh] at this
      cases this
    have:=zgY e h3
    rw [this] at h2
    exact h2
theorem ziq {h:Heap}{v:Value}{p q:Int×Int}(h1:zE h v p)(h2:zE h v q):p=q:=by
 obtain⟨a,o,n,t,u,e,e1,c1,d1⟩:=h1
 obtain⟨a',o',n',t',u',e',e1',c1',d1'⟩:=h2
 subst e
 cases e'
 rw [e1] at e1'
 cases e1'
 rw [d1] at d1'
 obtain⟨p1,p2⟩:=p
 obtain⟨q1,q2⟩:=q
 injection d1' with d1' _
 have e2:[Value.int p1 t,Value.int p2 u]=[Value.int q1 t',Value.int q2 u']:=congrArg Array.toList d1'
 injection e2 with e3 e4
 injection e4 with e4 _
 injection e3 with e3 _
 injection e4 with e4 _
 rw [e3,e4]
section
variable {X:Cx}
end
end GS
end L2
namespace PySem.SeqAt
open L2 AutoSeq1 MeetsSeq MeetsSeq2 MeetsSeq3
end PySem.SeqAt
namespace L2
open PySem PySem.Spec PyProof.Rows PySem.W PySem.SeqAt
section
variable {X:Cx}
end
end L2
namespace PySem.SeqAt
open L2 AutoSeq1 MeetsSeq MeetsSeq2 MeetsSeq3
noncomputable def ltL:List (Int×Int)->List (Int×Int)->Bool
 | _,[]=>false
 | [],_::_=>true
 | p::r,q::t=>if p=q then ltL r t else lt2 p q
theorem zeF (ps:List (Int×Int)):ltL ps []=false:=by cases ps<;>rfl
theorem zir:∀ps:List (Int×Int),ltL ps ps=false
 | []=>rfl
 | p::r=>by
  unfold ltL
  rw [if_pos rfl]
  exact zir r
theorem zis:∀{ps qs:List (Int×Int)},ps≠qs->ltL qs ps=!ltL ps qs
 | [],[],h=>absurd rfl h
 | [],q::t,_=>rfl
 | p::r,[],_=>rfl
 | p::r,q::t,h=>by
  unfold ltL
  by_cases e:p=q
  ·subst e
   rw [if_pos rfl,if_pos rfl]
   exact zis fun z=>h (by rw [z])
  ·rw [if_neg e,if_neg (Ne.symm e)]
   exact zbu e
theorem zg7:∀{ps qs ss:List (Int×Int)},ltL ps qs=true->ltL qs ss=true->ltL ps ss=true
 | ps,[],_,h,_=>by
  rw [zeF] at h
  cases h
 | _,_::_,[],_,h=>by
  rw [zeF] at h
  cases h
 | [],_::_,_::_,_,_=>rfl
 | p::r,q::t,x::y,h1,h2=>by
  unfold ltL at *
  by_cases e1:p=q
  ·subst e1
   rw [if_pos rfl] at h1
   by_cases e2:p=x
   ·rw [if_pos e2] at h2 ⊢
    exact zg7 h1 h2
   ·rw [if_neg e2] at h2 ⊢
    exact h2
  ·rw [if_neg e1] at h1
   by_cases e2:q=x
   ·subst e2
    rw [if_neg e1]
    exact h1
   ·rw [if_neg e2] at h2
    have h3:=zgY h1 h2
    rw [if_neg]
    ·exact h3
    ·intro e
     subst e
     rw [zic] at h3
     cases h3
theorem zg8 {A:Around}{s:Shared}{v v':Value}{p q:Int×Int}(h1:zE s.heap v p)(h2:zE s.heap v' q)(hu:A.units+10<cLine):EqAt A s v v' (decide (p=q)):=by
 obtain⟨as,ra⟩:=Qe h1
 obtain⟨bs,rb⟩:=Qe h2
 have:=eqAt_reads _ _ A s _ _ as bs ra rb rfl rfl (by show A.units+min 1 1<cLine;omega)
 rw [zdw] at this
 exact this
theorem Zk {h:Heap}{xs:Array Value}{ps:List (Int×Int)}(hp:Paired (zE h) xs.toList ps){i:Nat}(hi:i<xs.size):∃p r,ps.drop i=p::r/\ps.drop (i+1)=r/\zE h xs[i] p:=by
 have hl:xs.toList.length=ps.length:=Paired.length hp
 rw [length_toList] at hl
 have h2:i<ps.length:=by omega
 obtain⟨a,b,c⟩:=GS.zbY hp
 refine⟨ps[i],ps.drop (i+1),drop_eq_getElem_cons h2,rfl,?_⟩
 have hz:i<(xs.toList.zip ps).length:=by
  rw [List.length_zip,length_toList]
  omega
 have:=a _ (getElem_mem hz)
 rw [List.getElem_zip] at this
 simpa using this
theorem zjt (l b:Addr)(items items2:Array Value)(n n2:Nat)(dd dd2:Option Addr)(sl sl2:Array (Option Value))(ps qs:List (Int×Int))(k:Nat) :
  ∀i:Nat,items.size-i=k->i<=items.size->i<=items2.size->Meets (Builtin.«list.__eq__.loop» ⟨[.ref l,.ref b,rawInt i,rawInt 0],[]⟩)
   (fun A R s=>s.heap.get? l=some { cls:=.type "list",dict:=dd,data:=.seq items n,slots:=sl }/\s.heap.get? b=some { cls:=.type "list",dict:=dd2,data:=.seq items2 n2,slots:=sl2 } /\
    Paired (zE s.heap) items.toList ps/\Paired (zE s.heap) items2.toList qs/\A.units+20<cLine /\
    R (.ok (.ret (.bool (ltL (ps.drop i) (qs.drop i))))) s):=by
 induction k with
 | zero =>
  intro i hk h1 h2 prog w A R s h
  obtain⟨hp,g,d,tk,os⟩:=s;obtain⟨hl,hb,hp1,hp2,hu,h⟩:=h
  have l1:items.toList.length=ps.length:=Paired.length hp1
  have l2:items2.toList.length=qs.length:=Paired.length hp2
  rw [length_toList] at l1 l2
  wp_walk using wpAny_loadPart' hl,wpAny_loadPart' hb
  have hi1:items[((i:Nat):Int).toNat]?=none:=by simp;omega
  rw [hi1]
  have hd:ps.drop i=[]:=by simp;omega
  have e:ltL (ps.drop i) (qs.drop i)=decide (items.size<items2.size):=by
   rw [hd]
   by_cases hq:i<qs.length
   ·rw [drop_eq_getElem_cons hq]
    exact(decide_eq_true (by omega)).symm
   ·rw [List.drop_of_length_le (by omega)]
    exact(decide_eq_false (by omega)).symm
  rw [e] at h
  wp_walk using wpAny_loadPart' hl,wpAny_loadPart' hb
  exact h
 | succ k ih =>
  intro i hk h1 h2 prog w A R s h
  obtain⟨hp,g,d,tk,os⟩:=s;obtain⟨hl,hb,hp1,hp2,hu,h⟩:=h
  have l1:items.toList.length=ps.length:=Paired.length hp1
  have l2:items2.toList.length=qs.length:=Paired.length hp2
  rw [length_toList] at l1 l2
  wp_walk using wpAny_loadPart' hl,wpAny_loadPart' hb
  have hlt:i<items.size:=by omega
  have hi1:items[((i:Nat):Int).toNat]?=some items[i]:=by simp [hlt]
  by_cases hlt2:i<items2.size
  ·have hi2:items2[((i:Nat):Int).toNat]?=some items2[i]:=by simp [hlt2]
   have hc:((i:Int)+1)=((i+1:Nat):Int):=by push_cast;rfl
   obtain⟨p,r,ep,er,rp⟩:=Zk hp1 hlt
   obtain⟨q,t,eq,et,rq⟩:=Zk hp2 hlt2
   rw [hi1,hi2]
   refine wpAny_bind (zg8 rp rq (by show A.units+1+10<cLine;omega) prog w _ _ ?_)
   rw [ep,eq] at h
   unfold ltL at h
   by_cases e:p=q
   ·rw [if_pos e] at h
    rw [decide_eq_true e]
    wp_walk
    rw [hc]
    exact⟨plainId_quiet plain_eq_loop _,codeAny_builtin entry_eq_loop (by
     rw [Around.under_plainId plain_eq_loop _]
     exact ih (i+1) (by omega) (by omega) (by omega) prog w A R _ ⟨hl,hb,hp1,hp2,hu,by rw [er,et];exact h⟩)⟩
   ·rw [if_neg e] at h
    rw [decide_eq_false e]
    simp only [false_eq_true,if_false]
    refine wpAny_bind (PyProof.Rows.listItems_at hl rfl (wpAny_bind (PyProof.Rows.listItems_at hb rfl ?_)))
    rw [hi1,hi2]
    exact wpAny_bind (Qt.pairs rp rq (by show A.units+1<cLine;omega) prog w _ _ (wpAny_pure h))
  ·have hi2:items2[((i:Nat):Int).toNat]?=none:=by simp;omega
   rw [hi1,hi2]
   have hd:qs.drop i=[]:=by simp;omega
   rw [hd,zeF,show false=decide (items.size<items2.size) from (decide_eq_false (by omega)).symm] at h
   wp_walk using wpAny_loadPart' hl,wpAny_loadPart' hb
   exact h
theorem zg9 (l b:Addr)(items items2:Array Value)(n n2:Nat)(dd dd2:Option Addr)(sl sl2:Array (Option Value))(ps qs:List (Int×Int)) :
  Meets (Builtin.«list.__lt__» ⟨[.ref l,.ref b],[]⟩)
   (fun A R s=>s.heap.get? l=some { cls:=.type "list",dict:=dd,data:=.seq items n,slots:=sl }/\s.heap.get? b=some { cls:=.type "list",dict:=dd2,data:=.seq items2 n2,slots:=sl2 } /\
    Paired (zE s.heap) items.toList ps/\Paired (zE s.heap) items2.toList qs/\A.units+20<cLine/\R (.ok (.ret (.bool (ltL ps qs)))) s):=by
 intro prog w A R s h
 obtain⟨hp1,g1,d1,tk1,os1⟩:=s
 obtain⟨hL,hB,hp,hq,hu,h⟩:=h
 have fL:=sub_list_list
 wp_walk using wpAny_loadPart' hL,wpAny_loadPart' hB
 exact⟨plainId_quiet plain_eq_loop _,codeAny_builtin entry_eq_loop (by
  rw [Around.under_plainId plain_eq_loop _]
  exact zjt l b items items2 n n2 dd dd2 sl sl2 ps qs _ 0 rfl (zero_le _) (zero_le _) prog w A R _ ⟨hL,hB,hp,hq,hu,by simpa using h⟩)⟩
structure ListPairs (h:Heap)(v:Value)(ps:List (Int×Int)):Prop where
 ex:∃a o xs n,v=.ref a/\h.get? a=some o/\o.cls=.type "list"/\o.data=.seq xs n/\Paired (zE h) xs.toList ps
theorem zkM {prog:Program}{w:World}{A:Around}{E:Value->Shared->Prop}{s:Shared}{v v':Value}{ps qs:List (Int×Int)}{C:Bool->Shared->Prop}(hv:ListPairs s.heap v ps)(hv':ListPairs s.heap v' qs)(hu:A.units+30<cLine)(h:C (ltL ps qs) s) :
  wpAny (model prog w) A (PyProof.Rows.keyLt' PyProof.Rows.oneType' v v') C E s:=by
 obtain⟨a,⟨cls,dd,data,sl⟩,xs,n,rfl,e1,c1,d1,p1⟩:=hv
 obtain⟨a',⟨cls2,dd2,data2,sl2⟩,xs',n',rfl,e1',c1',d1',p1'⟩:=hv'
 simp only at c1 d1 c1' d1'
 subst c1 d1 c1' d1'
 rw [PyProof.Rows.keyLt'_oneType,PyProof.Rows.oneLt'_eq]
 simp only [if_true]
 refine wpAny_bind (wpAny_cRoomFor (by omega) ?_)
 refine wpAny_bind (wpAny_callSpecialIfBound?_slot (T:="list") ⟨_,e1,rfl⟩ F.slot_list_lt ?_)
 refine call_meets F.slot_list_lt ⟨_,e1,rfl⟩ F.entry_list_lt (F.args_list_lt_2 _ _) (zg9 a a' xs xs' n n' dd dd2 sl sl2 ps qs) ⟨e1,e1',p1,p1',(by omega),?_⟩
 exact wpAny_truthy_bool h
end PySem.SeqAt
namespace L2
open PySem PySem.Spec PyProof.Rows PySem.W PySem.SeqAt
namespace GS
theorem znH:Wk ltL:=by
 refine⟨fun x y h=>?_,fun x y z h1 h2=>?_⟩
 ·cases e:ltL y x with
  | false=>rfl
  | true =>
   have:=zg7 h e
   rw [zir] at this
   cases this
 ·cases e:ltL z x with
  | false=>rfl
  | true =>
   by_cases exy:x=y
   ·subst exy
    rw [e] at h2
    exact h2
   ·have h3:ltL x y=true:=by
     have:=zis (ps:=x) (qs:=y) exy
     rw [h1] at this
     cases hh:ltL x y with
     | true=>rfl
     | false =>
      rw [hh] at this
      cases this
    have:=zg7 e h3
    rw [this] at h2
    exact h2
def LstAt (H:Hp)(v:V)(ps:List (Int×Int)):Prop:=∃a ws,v=V.ref a/\H a=some (.lst ws)/\yO H ws ps
theorem zju {h:Heap}{vs:List Value}{ps qs:List (Int×Int)}(hp:Paired (zE h) vs ps):Paired (zE h) vs qs->ps=qs:=by
 induction hp generalizing qs with
 | nil =>
  intro hq
  cases hq
  rfl
 | cons a _ ih =>
  intro hq
  cases hq with
  | cons b u=>rw [ziq a b,ih u]
theorem zkN {h:Heap}{v:Value}{ps qs:List (Int×Int)}(h1:ListPairs h v ps)(h2:ListPairs h v qs):ps=qs:=by
 obtain⟨a,o,xs,n,e,e1,c1,d1,p1⟩:=h1
 obtain⟨a',o',xs',n',e',e1',c1',d1',p1'⟩:=h2
 subst e
 cases e'
 rw [e1] at e1'
 cases e1'
 rw [d1] at d1'
 injection d1' with d1' _
 subst d1'
 exact zju p1 p1'
theorem ZM {h h':Heap}(k:∀b o,h.get? b=some o->h'.get? b=some o){vs:List Value}{ps:List (Int×Int)}(hp:Paired (zE h) vs ps):Paired (zE h') vs ps:=by
 induction hp with
 | nil=>exact .nil
 | cons q _ ih =>
  obtain⟨a,o,n,t,u,e,e1,r⟩:=q
  exact .cons ⟨a,o,n,t,u,e,k _ _ e1,r⟩ ih
section
variable {X:Cx}{pins:List (Addr×Obj)}{σ:St}{H:Hp}{s:Shared}
theorem zha (I:Inv X pins σ H s){us:List V}{ks:List (List (Int×Int))}{its:List Value}(hp:Paired (LstAt H) us ks)(r:Vals us its):Paired (ListPairs s.heap) its ks:=by
 induction hp generalizing its with
 | nil =>
  cases r
  exact .nil
 | cons q _ ih =>
  obtain⟨a,ws,e,h,ht⟩:=q
  subst e
  cases r with
  | cons r1 r2 =>
   cases r1
   refine .cons ?_ (ih r2)
   obtain⟨z,its,n,rv,hl,e⟩:=I.lstM h
   exact⟨a,_,its.toArray,n,rfl,e,rfl,rfl,by rw [List.toList_toArray];exact yO.pairs I ht rv⟩
end
theorem zhb {h:Heap}{its:List Value}{ks:List (List (Int×Int))}(hp:Paired (ListPairs h) its ks):∀v∈its,∃a o,v=Value.ref a/\h.get? a=some o/\o.cls=.type "list":=by
 induction hp with
 | nil=>exact fun v hv=>nomatch hv
 | cons q _ ih =>
  intro v hv
  rcases List.mem_cons.mp hv with rfl | hv
  ·obtain⟨a,o,xs,n,e,e1,c,_⟩:=q
   exact⟨a,o,e,e1,c⟩
  ·exact ih v hv
section
variable {X:Cx}
theorem Qh (hu:X.A.units+64<cLine):yr X (.builtin "sorted") (fun xs H Q=>∃l us ks,xs=[.ref l]/\SqL X.K H l us/\Paired (LstAt H) us ks/\us.length<=1000000 /\
  ∀d us' ks',H d=none->Paired (LstAt H) us' ks'->ks'.Perm ks->ks'.Pairwise (fun p q=>ltL q p=false)->us'.Perm us->Q (.ref d) (upd H d (.lst us'))):=by
 intro pins s σ H xs us' Q I r h
 obtain⟨l,us,ks,rfl,hq,ht,hz,q⟩:=h
 obtain⟨u,rfl,ru⟩:=vals1 r
 cases ru
 obtain⟨its,rv,pl,_⟩:=I.list hq
 have hp:=zha I ht rv
 refine zjs znH (RH:=ListPairs) (fun h v k k'=>zkN) (fun h h' v k kk ⟨a,o,xs,n,e,e1,c,d,r⟩=>⟨a,o,xs,n,e,kk _ _ e1,c,d,ZM kk r⟩) I pl.isList hz rv ht hp (fun s' hp' h2=>?_) fun d us' ks' hd h1 h2 h3 h4=>q d us' ks' hd h1 h2 h3 h4
 refine kas_kind (T:=.type "list") h2 (fun v hv=>?_) (by decide) (by decide) ⟨rfl,fun v v' k k' h1 h2 C hC=>?_⟩
 ·obtain⟨a,o,rfl,e1,c1⟩:=zhb hp' v hv
  exact c1 ▸ (Looks.ld e1).andThen .now
 ·exact zkM h1 h2 (by show X.A.units+1+1+30<cLine;omega) hC
end
end GS
open PySem PySem.Spec PyProof.Rows
section
variable {X:Cx}{K:PySem.W.Frag}
theorem zkO (hK:X.K=K):MtR X "str.join" (rJoin K):=by
 subst hK
 exact zer
theorem zkP (hK:X.K=K):SlR X (zon K):=by
 subst hK
 exact zbt
theorem zbZ (hK:X.K=K):OpR X (compareOp .In) (rIn K false):=by
 subst hK
 exact zi2
theorem znI {T:String}{name:Str}{id:String}{r:V->List V->Hp->VK->Prop}{o e:Expr}{es:List Expr}{to:TE}{t:TA}{apos cpos:Pos}(hK:X.K=K)(pa:PlainAttrs T)(slot:Slot T name id)(hty:typeOf (.builtin id)=pure (.type "method_descriptor"))(hm:MtR X id r)(ho:PE X o to)(ha:PA X (e::es) t)
  (h1:attributeBase o name X.env (eval o X.env)=eval o X.env:=by rfl)
  (h2:((backTo cpos (starEach (e::es) X.env)).all (fun x=>!x.1)&&(backToKw cpos (keywordEach [] X.env)).all (fun x=>x.1.isSome)
   && decide ((e::es).length+([]:List Keyword).length+(if ([]:List Keyword).isEmpty then 0 else 1)<30))=true:=by rfl)
  (h3:(apos.endLine==cpos.line)=true:=by rfl) (h4:starEach (e::es) X.env=(false,eval e X.env)::starEach es X.env:=by rfl) (h5:(backTo cpos (starEach es X.env)).any (·.1)=false:=by rfl) :
  PE X (.Call (.Attribute o name apos) (e::es) [] cpos) (tBM K T r to t):=by
 subst hK
 exact Jt pa slot hty hm ho ha h1 h2 h3 h4 h5
end
def HasDef (K:PySem.W.Frag)(x:Str)(st:Stmt):Prop:=∃(f:Addr) (oc:Value) (od an:Option Addr) (sl:Array (Option Value)) (kV dc pm cd ct:Value),PySem.W.nsIn K mainGlobals x=some (some (.ref f))/\K.lookup f=some ⟨oc,od,.func (PySem.W.fnOf x x (JI st) (xX st) (zg st) .none kV dc pm an cd ct),sl⟩/\PySem.W.codeIn K cd x=true/\PySem.W.keepIn K (.ref f)=true
theorem HasDef.at {K:PySem.W.Frag}{h:Heap}{mg:Str->Option Value}{x:Str}{st:Stmt}{ps:List Str}(H:HasDef K x st)(X:K.In h)(G:h.Ns mainGlobals mg)
  (hb:∀(kV doc pm:Value) (an:Option Addr) (cdv ct:Value) (us:List Value),us.length=ps.length->bindArgs (PySem.W.fnOf x x (JI st) (xX st) (zg st) .none kV doc pm an cdv ct) ⟨us,[]⟩=pure (ps.zip us)):∃f fd,zo K mg x st ps f fd:=by
 obtain⟨f,oc,od,an,sl,kV,dc,pm,cd,ct,a,l,c,k⟩:=H
 have F:=zkb (st:=st) l c k
 exact⟨f,_,F,PySem.W.mg_of X G a,F.binds hb⟩
open PySem PySem.W
theorem us0 {P:List Value->Prop}(h:P []):∀us:List Value,us.length=0->P us:=by
 intro us e
 cases us with
 | nil=>exact h
 | cons a t=>cases e
theorem usS {n:Nat}{P:List Value->Prop}(h:∀a t,t.length=n->P (a::t)):∀us:List Value,us.length=n+1->P us:=by
 intro us e
 cases us with
 | nil=>cases e
 | cons a t=>exact h a t (Nat.succ.inj e)
theorem us1 {P:List Value->Prop}(h:∀a,P [a]):∀us:List Value,us.length=1->P us:=usS fun a=>us0 (h a)
theorem us2 {P:List Value->Prop}(h:∀a b,P [a,b]):∀us:List Value,us.length=2->P us:=usS fun a=>us1 (h a)
theorem us3 {P:List Value->Prop}(h:∀a b c,P [a,b,c]):∀us:List Value,us.length=3->P us:=usS fun a=>us2 (h a)
theorem us4 {P:List Value->Prop}(h:∀a b c d,P [a,b,c,d]):∀us:List Value,us.length=4->P us:=usS fun a=>us3 (h a)
open PySem PySem.Spec PyProof.Rows PySem.W
namespace ST
variable {X:Cx}
theorem zc1 (hh:X.A.handled=none):yr X (.builtin "sorted") (fun xs H Q=>∃l ks,xs=[.ref l]/\H l=some (zfI X.prog X.w l ks)/\(∀q∈ks,H q.1=some (.tup [.int q.2.1,.int q.2.2]))/\(ks.map (·.2)).Nodup/\ks.length<64 /\
  ∀d us' ps',H d=none->yO H us' ps'->ps'.Perm (ks.map (·.2))->Up2 ps'->Q (.ref d) (upd H d (.lst us'))):=by
 intro pins s σ H xs us' Q I r h
 obtain⟨l,ks,rfl,hl,hT,hnd,h64,q⟩:=h
 obtain⟨u,rfl,ru⟩:=vals1 r
 cases ru
 obtain⟨⟨es,ep,t,ho,he,G,hled,hpl⟩,_,_⟩:=(show jc X.prog X.w H s.heap l (zfI X.prog X.w l ks) from I.hok l _ hl)
 have hkl:ks.length=es.size:=by
  rw [<- length_toList,he,length_map]
 apply Calls.call_function_entry kind_sorted plain_sorted entry_sorted (args_sorted1 _)
 unfold Builtin.«sorted»
 refine wpAny_bind (m:=checkCount "sorted" 1 1 _) (wpAny_pure (wpAny_bind (zfH (by simp [hh]) ho G hled hpl (by omega) fun its h1 tk hpm kk1 zle=>?_)))
 have hvs:es.toList.map (·.2)=ks.map fun q=>Value.ref q.1:=by
  rw [he,map_map]
  rfl
 rw [hvs] at hpm
 obtain⟨js,hjp,hj⟩:=zbV (fun q:Addr×(Int×Int)=>Value.ref q.1) hpm ks rfl
 have hTj:∀q∈js,H q.1=some (.tup [.int q.2.1,.int q.2.2]):=fun q hq=>hT q (hjp.mem_iff.mp hq)
 have hndj:(js.map (·.2)).Nodup:=(hjp.map (·.2)).nodup_iff.mpr hnd
 have hjl:js.length=ks.length:=hjp.length_eq
 have hil:its.length=js.length:=by rw [hj,length_map]
 have rv:∀{js:List (Addr×(Int×Int))},Vals (js.map fun q=>V.ref q.1) (js.map fun q=>Value.ref q.1):=fun {js}=>by
  induction js with
  | nil=>exact .nil
  | cons a t ih=>exact .cons rfl ih
 have ht:∀{js:List (Addr×(Int×Int))},(∀q∈js,H q.1=some (.tup [.int q.2.1,.int q.2.2]))->yO H (js.map fun q=>V.ref q.1) (js.map (·.2)):=fun {js}=>by
  induction js with
  | nil=>exact fun _=>.nil
  | cons a t ih=>exact fun h=>.cons ⟨a.1,rfl,h a mem_cons_self⟩ (ih fun q hq=>h q (mem_cons_of_mem _ hq))
 have hp0:Paired (zE s.heap) its (js.map (·.2)):=by
  rw [hj]
  exact yO.pairs I (ht hTj) rv
 generalize hps:js.map (·.2)=ps at hp0 hndj
 have hlp:its.length=ps.length:=Paired.length hp0
 have W:=GS.znG
 have ip:∀q:Addr×(Int×Int),H q.1=some (.tup [.int q.2.1,.int q.2.2])->zE s.heap (.ref q.1) q.2:=fun q hq=>by
  have:=yO.pairs I (.cons ⟨q.1,rfl,hq⟩ .nil:yO H [V.ref q.1] [q.2]) (.cons rfl .nil:Vals [V.ref q.1] [Value.ref q.1])
  cases this with
  | cons h _=>exact h
 classical
 let r:Value->Int:=fun v=>if h:∃k,zE s.heap v k then GS.rkK lt2 ps h.choose else 0
 have rk_:∀{v:Value} {k:Int×Int},zE s.heap v k->r v=GS.rkK lt2 ps k:=fun {v k} h=>by
  have hx:∃k,zE s.heap v k:=⟨k,h⟩
  show (if h:∃k,zE s.heap v k then GS.rkK lt2 ps h.choose else 0)=_
  rw [dif_pos hx,GS.ziq hx.choose_spec h]
 have small:its.length<=sizeLine:=by rw [sizeLine_eq];omega
 refine wpAny_bind (wpAny_newList ?_ small)
 have hoL:(h1.push (seqObj "list" its.toArray 0)).get? h1.objs.size=some (seqObj "list" its.toArray 0):=Heap.get?_push_size _ rfl
 have kL:∀b o,s.heap.get? b=some o->(h1.push (seqObj "list" its.toArray 0)).get? b=some o:=fun b o e=>Heap.get?_push_of_some _ (kk1 b o e)
 have ne:∀b o,s.heap.get? b=some o->b≠h1.objs.size:=fun b o e=>ne_of_lt (Heap.lt_size (kk1 b o e))
 show wpAny _ _ _ _ _ { s with heap:=h1.push (seqObj "list" its.toArray 0),toks:=tk }
 refine wpAny_bind (wpAny_holding (wpAny_call_entry slot_list_sort ⟨_,hoL,rfl⟩ entry_list_sort (GS.zdG (s:={ s with heap:=h1.push (seqObj "list" its.toArray 0),toks:=tk }) hoL small r (fun h2 s' kk=>?_) ?_) (args_list_sort _)))
 ·have hp':=ZM (fun b o e=>kk b o (ne b o e) (kL b o e)) hp0
  obtain⟨fs,hk,hfl,hint⟩:=Q2 hp'
  refine kat_kind (T:=.type "int") hk (by omega) (fun v hv=>?_) (by decide) ⟨rfl,fun x hx y hy C hC=>?_⟩
  ·obtain⟨x,t,rfl⟩:=hint v hv
   exact Looks.of_pure rfl
  ·have mx:x.1∈its:=by
    rw [pairsOf_toList] at hx
    exact(mem_zip_self hx).2
   have my:y.1∈its:=by
    rw [pairsOf_toList] at hy
    exact(mem_zip_self hy).2
   obtain⟨k,k1,k2⟩:=GS.JC hp0 x.1 mx
   obtain⟨k',k1',k2'⟩:=GS.JC hp0 y.1 my
   have kp:∀{v:Value} {k:Int×Int},zE s.heap v k->zE s'.heap v k:=fun {v k} ⟨a,o,n,t,u,e,e1,r⟩=>⟨a,o,n,t,u,e,kk _ _ (ne _ _ e1) (kL _ _ e1),r⟩
   have hC':C (decide (r x.1<r y.1)) s':=hC
   rw [rk_ k2,rk_ k2',<- W.rank k1] at hC'
   exact zl0 (kp k2) (kp k2') hC'
 ·intro ws h' c hpm' hs kk ha
  obtain⟨js',hjp',ej⟩:=zbV (fun q:Addr×(Int×Int)=>Value.ref q.1) hpm' js hj
  have hD:H h1.objs.size=none:=I.hok.fresh zle
  have hT':∀q∈js',H q.1=some (.tup [.int q.2.1,.int q.2.2]):=fun q hq=>hTj q (hjp'.mem_iff.mp hq)
  have rv':Vals (js'.map fun q=>V.ref q.1) ws:=by
   rw [ej]
   exact rv
  have nd':(js'.map (·.2)).Nodup:=(hjp'.map (·.2)).nodup_iff.mpr (by rw [hps];exact hndj)
  have hup:Up2 (js'.map (·.2)):=by
   unfold Up2
   unfold List.Nodup at nd'
   rw [List.pairwise_map] at nd' ⊢
   rw [ej,List.pairwise_map] at hs
   refine(hs.and nd').imp_of_mem fun {x y} hx hy ⟨h1,h2⟩=>?_
   rw [rk_ (ip x (hT' x hx)),rk_ (ip y (hT' y hy))] at h1
   have my:y.2∈ps:=by
    rw [<- hps]
    exact List.mem_map.mpr ⟨y,hjp'.mem_iff.mp hy,rfl⟩
   have e1:lt2 y.2 x.2=false:=by
    rw [W.rank my]
    exact decide_eq_false (by omega)
   have e2:=zbu h2
   rw [e1] at e2
   cases hh:lt2 x.2 y.2 with
   | true=>rfl
   | false =>
    rw [hh] at e2
    cases e2
  refine⟨_,rfl,wpAny_pure ⟨_,rfl,.ref h1.objs.size,upd H h1.objs.size (.lst (js'.map fun q=>V.ref q.1)),I.laid (t':=tk) (fun b o e=>kk b o (ne b o e) (kL b o e)) zle ⟨?_,_,c,rv',ha⟩,rfl,q _ _ _ hD (ht hT') ((hjp'.trans hjp).map _) hup⟩⟩
  rw [rv'.length,hpm'.length_eq]
  exact small
end ST
end L2
namespace Cells
noncomputable def z4 (p:Nat->Bool)(i:Nat):Nat->List Nat->List (Nat×Nat)
 | _,[]=>[]
 | j,c::r=>(if p c=true then [(i,j)] else [])++z4 p i (j+1) r
noncomputable def zP (p:Nat->Bool):Nat->List (List Nat)->List (Nat×Nat)
 | _,[]=>[]
 | i,t::r=>z4 p i 0 t++zP p (i+1) r
theorem ZS (p:Nat->Bool)(i:Nat):∀(j:Nat) (a b:List Nat),z4 p i j (a++b)=z4 p i j a++z4 p i (j+a.length) b
 | j,[],b=>by simp [z4]
 | j,c::a,b=>by
  simp only [List.cons_append,z4,ZS p i (j+1) a b,length_cons,append_assoc]
  rw [show j+1+a.length=j+(a.length+1) by omega]
theorem ZT (p:Nat->Bool):∀(i:Nat) (a b:List (List Nat)),zP p i (a++b)=zP p i a++zP p (i+a.length) b
 | i,[],b=>by simp [zP]
 | i,t::a,b=>by
  simp only [List.cons_append,zP,ZT p (i+1) a b,length_cons,append_assoc]
  rw [show i+1+a.length=i+(a.length+1) by omega]
theorem Qu {p:Nat->Bool}{i j c:Nat}{t:List Nat}(h:t[j]?=some c):z4 p i 0 (t.take (j+1))=z4 p i 0 (t.take j)++(if p c=true then [(i,j)] else []):=by
 rw [take_add_one,h,ZS]
 have hl:(t.take j).length=j:=by
  have:=(List.getElem?_eq_some_iff.mp h).1
  rw [length_take];omega
 simp [z4,hl]
theorem Qv {p:Nat->Bool}{i:Nat}{t:List Nat}{rs:List (List Nat)}(h:rs[i]?=some t):zP p 0 (rs.take (i+1))=zP p 0 (rs.take i)++z4 p i 0 t:=by
 rw [take_add_one,h,ZT]
 have hl:(rs.take i).length=i:=by
  have:=(List.getElem?_eq_some_iff.mp h).1
  rw [length_take];omega
 simp [zP,hl]
theorem j3 (p:Nat->Bool)(i:Nat):∀(j:Nat) (t:List Nat),(z4 p i j t).length<=t.length
 | j,[]=>by simp [z4]
 | j,c::r=>by
  have:=j3 p i (j+1) r
  simp only [z4,length_append,length_cons]
  split<;>simp<;>omega
theorem jv (p:Nat->Bool):∀(i:Nat) (rs:List (List Nat)),(∀t∈rs,t.length<=8)->(zP p i rs).length<=8*rs.length
 | i,[],_=>by simp [zP]
 | i,t::r,h=>by
  have h1:=j3 p i 0 t
  have h2:=jv p (i+1) r fun u hu=>h u (mem_cons_of_mem _ hu)
  have h3:=h t mem_cons_self
  simp only [zP,length_append,length_cons]
  omega
theorem Jl {p:Nat->Bool}{i:Nat}:∀{j:Nat} {t:List Nat} {x:Nat×Nat},x∈z4 p i j t->∃m c,x=(i,j+m)/\t[m]?=some c/\p c=true
 | j,[],x,h=>by simp [z4] at h
 | j,c::r,x,h=>by
  simp only [z4,List.mem_append] at h
  rcases h with h | h
  ·split at h
   ·rename_i hp
    have:x=(i,j):=by simpa using h
    exact⟨0,c,this,rfl,hp⟩
   ·cases h
  ·obtain⟨m,c',e,h1,h2⟩:=Jl h
   exact⟨m+1,c',by rw [e,show j+1+m=j+(m+1) by omega],by simpa using h1,h2⟩
theorem Jm {p:Nat->Bool}{i:Nat}{rs:List (List Nat)}{x:Nat×Nat}(h:x∈zP p i rs):∃k j t c,x=(i+k,j)/\rs[k]?=some t/\t[j]?=some c/\p c=true:=by
 induction rs generalizing i with
 | nil=>simp [zP] at h
 | cons t r ih =>
  simp only [zP,List.mem_append] at h
  rcases h with h | h
  ·obtain⟨m,c,e,h1,h2⟩:=Jl h
   exact⟨0,m,t,c,by simpa using e,rfl,h1,h2⟩
  ·obtain⟨k,j,u,c,e,h1,h2,h3⟩:=ih h
   exact⟨k+1,j,u,c,by rw [e,show i+1+k=i+(k+1) by omega],by simpa using h1,h2,h3⟩
noncomputable def sgn (rs:List (List Nat))(x:Nat×Nat):Nat:=(rs.getD x.1 []).getD x.2 0
theorem zab {p q:Nat->Bool}{i:Nat}(f:Nat×Nat->Bool):∀(j:Nat) (t:List Nat),(∀m c,t[m]?=some c->f (i,j+m)=q c)->(z4 p i j t).filter f=z4 (fun c=>p c&&q c) i j t
 | j,[],_=>by simp [z4]
 | j,c::r,h=>by
  have ih:=zab (p:=p) (q:=q) (i:=i) f (j+1) r fun m c' hm=>by
   have:=h (m+1) c' (by simpa using hm)
   rw [show j+1+m=j+(m+1) by omega];exact this
  have h0:=h 0 c rfl
  simp only [z4,filter_append,ih]
  congr 1
  simp only [add_zero] at h0
  by_cases hp:p c=true
  ·by_cases hq:q c=true
   ·simp [hp,hq,h0]
   ·simp [hp,hq,h0]
  ·simp [hp]
theorem zac {p q:Nat->Bool}(f:Nat×Nat->Bool):∀(i:Nat) (rs:List (List Nat)),(∀k t m c,rs[k]?=some t->t[m]?=some c->f (i+k,m)=q c)->(zP p i rs).filter f=zP (fun c=>p c&&q c) i rs
 | i,[],_=>by simp [zP]
 | i,t::r,h=>by
  have ih:=zac (p:=p) (q:=q) f (i+1) r fun k u m c hk hm=>by
   have:=h (k+1) u m c (by simpa using hk) hm
   rw [show i+1+k=i+(k+1) by omega];exact this
  simp only [zP,filter_append,ih]
  rw [zab (p:=p) (q:=q) f 0 t fun m c hm=>by simpa using h 0 t m c rfl hm]
theorem zeG {rs:List (List Nat)}{i j:Nat}{t:List Nat}{c:Nat}(h:rs[i]?=some t)(h2:t[j]?=some c):sgn rs (i,j)=c:=by
 unfold sgn
 simp [List.getD,h,h2]
theorem all_filter {p q:Nat->Bool}(rs:List (List Nat)):(zP p 0 rs).filter (fun x=>q (sgn rs x))=zP (fun c=>p c&&q c) 0 rs :=
 zac _ 0 rs fun k t m c hk hm=>by rw [show 0+k=k by omega,zeG hk hm]
theorem zfM {p q:Nat->Bool}(h:∀c,p c=q c)(i:Nat)(rs:List (List Nat)):zP p i rs=zP q i rs:=by
 rw [show p=q from funext h]
def near (x y:Nat×Nat):Bool:=decide ((if (x.1:Int)-(y.1:Int)<0 then -((x.1:Int)-(y.1:Int)) else (x.1:Int)-(y.1:Int))<2)&&(decide ((if (x.2:Int)-(y.2:Int)<0 then -((x.2:Int)-(y.2:Int)) else (x.2:Int)-(y.2:Int))<2) && !decide (x=y))
theorem Yu (x y:Nat×Nat):near x y=true↔(x.1<=y.1+1/\y.1<=x.1+1)/\(x.2<=y.2+1/\y.2<=x.2+1)/\¬ x=y:=by
 unfold near
 rw [and_eq_true,and_eq_true,decide_eq_true_iff,decide_eq_true_iff,not_eq_true',decide_eq_false_iff_not]
 constructor
 ·rintro⟨h1,h2,h3⟩
  refine⟨?_,?_,h3⟩
  ·split at h1<;>omega
  ·split at h2<;>omega
 ·rintro⟨h1,h2,h3⟩
  refine⟨?_,?_,h3⟩
  ·split<;>omega
  ·split<;>omega
def lex (a b:Nat×Nat):Prop:=a.1<b.1\/(a.1=b.1/\a.2<b.2)
theorem zdI (p:Nat->Bool)(i:Nat):∀(j:Nat) (t:List Nat),(z4 p i j t).Pairwise lex
 | j,[]=>by simp [z4]
 | j,c::r=>by
  simp only [z4]
  rw [List.pairwise_append]
  refine⟨?_,zdI p i (j+1) r,fun a ha b hb=>?_⟩
  ·split<;>simp
  ·split at ha
   ·have e:a=(i,j):=by simpa using ha
    obtain⟨m,c',e',_,_⟩:=Jl hb
    subst e e'
    exact .inr ⟨rfl,by show j<j+1+m;omega⟩
   ·cases ha
theorem YU (p:Nat->Bool):∀(i:Nat) (rs:List (List Nat)),(zP p i rs).Pairwise lex
 | i,[]=>by simp [zP]
 | i,t::r=>by
  simp only [zP]
  rw [List.pairwise_append]
  refine⟨zdI p i 0 t,YU p (i+1) r,fun a ha b hb=>?_⟩
  obtain⟨m,c,e,_,_⟩:=Jl ha
  obtain⟨k,j,u,c',e',_,_,_⟩:=Jm hb
  subst e e'
  exact .inl (by show i<i+1+k;omega)
theorem zkQ {p:Nat->Bool}{f:Nat×Nat->Bool}{n:Nat}{rs:List (List Nat)}(h:∀r c,r<n->f (r,c)=false):(zP p 0 (rs.take n)).filter f=[]:=by
 rw [List.filter_eq_nil_iff]
 intro x hx
 obtain⟨k,j,t,c,e,hk,_,_⟩:=Jm hx
 have hkl:k<n:=by
  have:=(List.getElem?_eq_some_iff.mp hk).1
  rw [length_take] at this
  omega
 subst e
 rw [h _ _ (by omega)]
 exact Bool.false_ne_true
theorem zjv {p:Nat->Bool}{f:Nat×Nat->Bool}{n:Nat}{rs:List (List Nat)}(h:∀r c,n<=r->f (r,c)=false):(zP p 0 (rs.take n)).filter f=(zP p 0 rs).filter f:=by
 by_cases hn:n<=rs.length
 ·have e:=take_append_drop n rs
  have e2:zP p 0 rs=zP p 0 (rs.take n)++zP p (0+(rs.take n).length) (rs.drop n):=by rw [<- ZT,e]
  rw [e2,filter_append]
  have z:(zP p (0+(rs.take n).length) (rs.drop n)).filter f=[]:=by
   rw [List.filter_eq_nil_iff]
   intro x hx
   obtain⟨k,j,t,c,e,hk,_,_⟩:=Jm hx
   subst e
   rw [length_take,h _ _ (by omega)]
   exact Bool.false_ne_true
  rw [z,append_nil]
 ·rw [take_of_length_le (by omega)]
theorem zkR {p:Nat->Bool}{f:Nat×Nat->Bool}{i n:Nat}{t:List Nat}(h:∀c,c<n->f (i,c)=false):(z4 p i 0 (t.take n)).filter f=[]:=by
 rw [List.filter_eq_nil_iff]
 intro x hx
 obtain⟨m,c,e,hm,_⟩:=Jl hx
 have hml:m<n:=by
  have:=(List.getElem?_eq_some_iff.mp hm).1
  rw [length_take] at this
  omega
 subst e
 rw [h _ (by omega)]
 exact Bool.false_ne_true
theorem zjw {p:Nat->Bool}{f:Nat×Nat->Bool}{i n:Nat}{t:List Nat}(h:∀c,n<=c->f (i,c)=false):(z4 p i 0 (t.take n)).filter f=(z4 p i 0 t).filter f:=by
 by_cases hn:n<=t.length
 ·have e:=take_append_drop n t
  have e2:z4 p i 0 t=z4 p i 0 (t.take n)++z4 p i (0+(t.take n).length) (t.drop n):=by rw [<- ZS,e]
  rw [e2,filter_append]
  have z:(z4 p i (0+(t.take n).length) (t.drop n)).filter f=[]:=by
   rw [List.filter_eq_nil_iff]
   intro x hx
   obtain⟨m,c,e,hm,_⟩:=Jl hx
   subst e
   rw [length_take,h _ (by omega)]
   exact Bool.false_ne_true
  rw [z,append_nil]
 ·rw [take_of_length_le (by omega)]
end Cells
namespace Parts
abbrev C:=Nat×Nat
structure Good (cl:C->List C)(done:List C)(gs:List (List C)):Prop where
 ne:∀g∈gs,g ≠ []
 nd:gs.flatten.Nodup
 from_:∀x∈gs.flatten,∃o∈done,x∈cl o
 cov:∀o∈done,cl o ≠ []->∃g∈gs,∀x∈cl o,x∈g
 con:∀g∈gs,∀S:C->Prop,(∀o∈done,(∃x∈cl o,S x)->∀x∈cl o,S x)->(∃x∈g,S x)->∀x∈g,S x
 srt:∀g∈gs,g.Pairwise Cells.lex
theorem Good.start (cl:C->List C):Good cl [] []:=⟨(fun _ h=>nomatch h),nodup_nil,(fun _ h=>nomatch h),(fun _ h=>nomatch h),(fun _ h=>nomatch h),(fun _ h=>nomatch h)⟩
theorem Good.skip {cl:C->List C}{done:List C}{gs:List (List C)}(G:Good cl done gs){o:C}(h:cl o=[]):Good cl (done++[o]) gs:=by
 refine⟨G.ne,G.nd,fun x hx=>?_,fun p hp hn=>?_,fun g hg S hS=>G.con g hg S fun p hp=>hS p (mem_append_left _ hp),G.srt⟩
 ·obtain⟨p,hp,hx⟩:=G.from_ x hx
  exact⟨p,mem_append_left _ hp,hx⟩
 ·rcases List.mem_append.mp hp with hp | hp
  ·exact G.cov p hp hn
  ·have e:p=o:=by simpa using hp
   subst e
   exact absurd h hn
theorem zdJ {gs:List (List C)}(nd:gs.flatten.Nodup):∀{g g':List C} {x:C},g∈gs->g'∈gs->x∈g->x∈g'->g=g':=by
 induction gs with
 | nil=>intro g g' x h;cases h
 | cons a r ih =>
  rw [flatten_cons,List.nodup_append] at nd
  obtain⟨_,h2,h3⟩:=nd
  intro g g' x hg hg' hx hx'
  rcases List.mem_cons.mp hg with e1 | g1
  ·rcases List.mem_cons.mp hg' with e2 | g2
   ·rw [e1,e2]
   ·exact absurd rfl (h3 x (e1 ▸ hx) x (List.mem_flatten.mpr ⟨g',g2,hx'⟩))
  ·rcases List.mem_cons.mp hg' with e2 | g2
   ·exact absurd rfl (h3 x (e2 ▸ hx') x (List.mem_flatten.mpr ⟨g,g1,hx⟩))
   ·exact ih h2 g1 g2 hx hx'
theorem qU (p:List C->Bool):∀gs:List (List C),(gs.filter p).flatten.Sublist gs.flatten
 | []=>List.Sublist.refl _
 | a::r=>by
  rw [filter_cons,flatten_cons]
  split
  ·rw [flatten_cons]
   exact List.Sublist.append (List.Sublist.refl _) (qU p r)
  ·exact List.Sublist.trans (qU p r) (List.sublist_append_right _ _)
def meets (g0 g:List C):Bool:=!(g.filter fun c=>g0.any fun x=>decide (x=c)).isEmpty
theorem Zl {g0 g:List C}:meets g0 g=true ↔ ∃x∈g,x∈g0:=by
 unfold meets
 rw [not_eq_true',List.isEmpty_eq_false_iff]
 constructor
 ·intro h
  obtain⟨x,hx⟩:=List.exists_mem_of_ne_nil _ h
  rw [List.mem_filter,List.any_eq_true] at hx
  obtain⟨h1,y,h2,h3⟩:=hx
  have e:y=x:=of_decide_eq_true h3
  subst e
  exact⟨y,h1,h2⟩
 ·rintro⟨x,h1,h2⟩ hn
  have:x∈g.filter fun c=>g0.any fun x=>decide (x=c):=List.mem_filter.mpr ⟨h1,List.any_eq_true.mpr ⟨x,h2,decide_eq_true rfl⟩⟩
  rw [hn] at this
  cases this
noncomputable def whole (w:List C):List (List C)->List C
 | []=>w
 | g::r=>whole (w++g.filter fun c=>!(w.any fun x=>decide (x=c))) r
theorem zad (w:List C)(c:C):(w.any fun x=>decide (x=c))=true↔c∈w:=by
 rw [List.any_eq_true]
 constructor
 ·rintro⟨x,h1,h2⟩
  have e:x=c:=of_decide_eq_true h2
  subst e
  exact h1
 ·intro h
  exact⟨c,h,decide_eq_true rfl⟩
theorem zaM {x:C}:∀{w:List C} {ms:List (List C)},x∈whole w ms↔x∈w\/∃m∈ms,x∈m
 | w,[]=>by simp [whole]
 | w,g::r=>by
  rw [whole,zaM,List.mem_append,List.mem_filter]
  constructor
  ·rintro((h | ⟨h,_⟩) | ⟨m,hm,h⟩)
   ·exact .inl h
   ·exact .inr ⟨g,mem_cons_self,h⟩
   ·exact .inr ⟨m,mem_cons_of_mem _ hm,h⟩
  ·rintro(h | ⟨m,hm,h⟩)
   ·exact .inl (.inl h)
   ·rcases List.mem_cons.mp hm with rfl | hm
    ·by_cases hw:x∈w
     ·exact .inl (.inl hw)
     ·refine .inl (.inr ⟨h,?_⟩)
      rw [not_eq_true',Bool.eq_false_iff]
      exact fun z=>hw ((zad w x).mp z)
    ·exact .inr ⟨m,hm,h⟩
theorem Yv:∀{w:List C} {ms:List (List C)},w.Nodup->(∀m∈ms,m.Nodup)->(whole w ms).Nodup
 | w,[],h,_=>h
 | w,g::r,h,hm=>by
  rw [whole]
  refine Yv ?_ fun m hm'=>hm m (mem_cons_of_mem _ hm')
  rw [List.nodup_append]
  refine⟨h,(hm g mem_cons_self).sublist filter_sublist,fun a ha b hb e=>?_⟩
  subst e
  have hb2:=(List.mem_filter.mp hb).2
  rw [(zad w a).mpr ha] at hb2
  cases hb2
theorem Good.step {cl:C->List C}{done:List C}{gs:List (List C)}(G:Good cl done gs){o:C}(h:cl o ≠ [])(hn:(cl o).Nodup){rest:List (List C)}{w:List C}(hr:rest=gs.filter fun g=>!((gs.filter (meets (cl o))).any fun m=>decide (m=g)))
  (hw:w.Perm (whole (cl o) (gs.filter (meets (cl o))))) (hs:w.Pairwise Cells.lex):Good cl (done++[o]) (rest++[w]):=by
 have mr:∀g,g∈rest↔g∈gs/\¬ ∃x∈g,x∈cl o:=fun g=>by
  rw [hr,List.mem_filter,not_eq_true',Bool.eq_false_iff]
  constructor
  ·rintro⟨h1,h2⟩
   exact⟨h1,fun h3=>h2 (List.any_eq_true.mpr ⟨g,List.mem_filter.mpr ⟨h1,Zl.mpr h3⟩,decide_eq_true rfl⟩)⟩
  ·rintro⟨h1,h2⟩
   refine⟨h1,fun h3=>?_⟩
   obtain⟨m,hm,e⟩:=List.any_eq_true.mp h3
   have e':m=g:=of_decide_eq_true e
   subst e'
   exact h2 (Zl.mp (List.mem_filter.mp hm).2)
 have mw:∀x,x∈w↔x∈cl o\/∃g∈gs,(∃y∈g,y∈cl o)/\x∈g:=fun x=>by
  rw [hw.mem_iff,zaM]
  constructor
  ·rintro(h1 | ⟨m,hm,h1⟩)
   ·exact .inl h1
   ·obtain⟨h2,h3⟩:=List.mem_filter.mp hm
    exact .inr ⟨m,h2,Zl.mp h3,h1⟩
  ·rintro(h1 | ⟨g,h2,h3,h1⟩)
   ·exact .inl h1
   ·exact .inr ⟨g,List.mem_filter.mpr ⟨h2,Zl.mpr h3⟩,h1⟩
 have gn:∀g∈gs,g.Nodup:=fun g hg=>G.nd.sublist (List.sublist_flatten_of_mem hg)
 have wn:w.Nodup:=hw.nodup_iff.mpr (Yv hn fun m hm=>gn m (List.mem_filter.mp hm).1)
 refine⟨fun g hg=>?_,?_,fun x hx=>?_,fun p hp hne=>?_,fun g hg S hS=>?_,fun g hg=>?_⟩
 ·rcases List.mem_append.mp hg with hg | hg
  ·exact G.ne g ((mr g).mp hg).1
  ·have e:g=w:=by simpa using hg
   subst e
   obtain⟨x,hx⟩:=List.exists_mem_of_ne_nil _ h
   exact List.ne_nil_of_mem ((mw x).mpr (.inl hx))
 ·rw [flatten_append,List.nodup_append]
  refine⟨G.nd.sublist (by rw [hr];exact qU _ gs),by simpa using wn,fun a ha b hb e=>?_⟩
  subst e
  have hb':a∈w:=by simpa using hb
  obtain⟨g,hg,hx⟩:=List.mem_flatten.mp ha
  obtain⟨g1,g2⟩:=(mr g).mp hg
  rcases(mw a).mp hb' with h1 | ⟨m,m1,m2,m3⟩
  ·exact g2 ⟨a,hx,h1⟩
  ·have e:=zdJ G.nd g1 m1 hx m3
   subst e
   exact g2 m2
 ·rw [flatten_append] at hx
  rcases List.mem_append.mp hx with hx | hx
  ·obtain⟨g,hg,hx⟩:=List.mem_flatten.mp hx
   obtain⟨p,hp,hx⟩:=G.from_ x (List.mem_flatten.mpr ⟨g,((mr g).mp hg).1,hx⟩)
   exact⟨p,mem_append_left _ hp,hx⟩
  ·have hx':x∈w:=by simpa using hx
   rcases(mw x).mp hx' with h1 | ⟨g,g1,_,g3⟩
   ·exact⟨o,by simp,h1⟩
   ·obtain⟨p,hp,hx⟩:=G.from_ x (List.mem_flatten.mpr ⟨g,g1,g3⟩)
    exact⟨p,mem_append_left _ hp,hx⟩
 ·rcases List.mem_append.mp hp with hp | hp
  ·obtain⟨g,hg,hx⟩:=G.cov p hp hne
   by_cases hm:∃x∈g,x∈cl o
   ·exact⟨w,by simp,fun x hx'=>(mw x).mpr (.inr ⟨g,hg,hm,hx x hx'⟩)⟩
   ·exact⟨g,mem_append_left _ ((mr g).mpr ⟨hg,hm⟩),hx⟩
  ·have e:p=o:=by simpa using hp
   subst e
   exact⟨w,by simp,fun x hx=>(mw x).mpr (.inl hx)⟩
 ·have hS':∀p∈done,(∃x∈cl p,S x)->∀x∈cl p,S x:=fun p hp=>hS p (mem_append_left _ hp)
  rcases List.mem_append.mp hg with hg | hg
  ·exact G.con g ((mr g).mp hg).1 S hS'
  ·have e:g=w:=by simpa using hg
   subst e
   rintro⟨x,hx,sx⟩
   have all0:∀y∈cl o,S y:=by
    refine hS o (by simp) ?_
    rcases(mw x).mp hx with h1 | ⟨m,m1,⟨y,y1,y2⟩,m3⟩
    ·exact⟨x,h1,sx⟩
    ·exact⟨y,y2,G.con m m1 S hS' ⟨x,m3,sx⟩ y y1⟩
   intro z hz
   rcases(mw z).mp hz with h1 | ⟨m,m1,⟨y,y1,y2⟩,m3⟩
   ·exact all0 z h1
   ·exact G.con m m1 S hS' ⟨y,y1,all0 y y2⟩ z m3
 ·rcases List.mem_append.mp hg with hg | hg
  ·exact G.srt g ((mr g).mp hg).1
  ·have e:g=w:=by simpa using hg
   subst e
   exact hs
theorem Good.perm {cl:C->List C}{done:List C}{gs gs':List (List C)}(G:Good cl done gs)(h:gs'.Perm gs):Good cl done gs':=by
 refine⟨fun g hg=>G.ne g (h.mem_iff.mp hg),h.flatten.nodup_iff.mpr G.nd,fun x hx=>G.from_ x (h.flatten.mem_iff.mp hx),fun o ho hn=>?_,fun g hg=>G.con g (h.mem_iff.mp hg),fun g hg=>G.srt g (h.mem_iff.mp hg)⟩
 obtain⟨g,hg,hx⟩:=G.cov o ho hn
 exact⟨g,h.mem_iff.mpr hg,hx⟩
theorem Yw:∀{gs:List (List C)},(∀g∈gs,g ≠ [])->gs.length<=gs.flatten.length
 | [],_=>le_refl _
 | g::r,h=>by
  have ih:=Yw (gs:=r) fun x hx=>h x (mem_cons_of_mem _ hx)
  have:1<=g.length:=List.length_pos_iff.mpr (h g mem_cons_self)
  rw [flatten_cons,length_append,length_cons]
  omega
theorem j4:∀{a b:List C},a.Nodup->(∀x∈a,x∈b)->a.length<=b.length
 | [],_,_,_=>zero_le _
 | x::r,b,h,s=>by
  obtain⟨h1,h2⟩:=List.nodup_cons.mp h
  have hx:=s x mem_cons_self
  have ih:=j4 (a:=r) (b:=b.erase x) h2 fun y hy=>(List.mem_erase_of_ne (fun (e:y=x)=>h1 (by rw [<- e];exact hy))).mpr (s y (mem_cons_of_mem _ hy))
  rw [List.length_erase_of_mem hx] at ih
  have:=List.length_pos_of_mem hx
  rw [length_cons]
  omega
end Parts
namespace Subs
variable {α:Type}
noncomputable def step (S:List (List α))(c:α):List (List α):=S++S.map (·++[c])
noncomputable def subs (cs:List α):List (List α):=cs.foldl step [[]]
noncomputable def pick:List α->Nat->List α
 | [],_=>[]
 | c::r,b=>(if b%2=1 then [c] else [])++pick r (b/2)
theorem zdK (cs:List α)(c:α):subs (cs++[c])=step (subs cs) c:=by
 unfold subs
 rw [List.foldl_append]
 rfl
theorem zit:∀(cs:List α) (c:α) (b:Nat),b<2^cs.length->pick (cs++[c]) b=pick cs b
 | [],c,b,h=>by
  have:b=0:=by
   simp at h
   omega
  subst this
  rfl
 | d::r,c,b,h=>by
  show _++pick (r++[c]) (b/2)=_++pick r (b/2)
  rw [zit r c (b/2) (by
   rw [length_cons,pow_succ] at h
   omega)]
theorem ziu:∀(cs:List α) (c:α) (b:Nat),b<2^cs.length->pick (cs++[c]) (2^cs.length+b)=pick cs b++[c]
 | [],c,b,h=>by
  have:b=0:=by
   simp at h
   omega
  subst this
  rfl
 | d::r,c,b,h=>by
  rw [length_cons,pow_succ] at h
  show (if (2^(r.length+1)+b)%2=1 then [d] else [])++pick (r++[c]) ((2^(r.length+1)+b)/2)=((if b%2=1 then [d] else [])++pick r (b/2))++[c]
  have e1:(2^(r.length+1)+b)%2=b%2:=by
   rw [pow_succ]
   omega
  have e2:(2^(r.length+1)+b)/2=2^r.length+b/2:=by
   rw [pow_succ]
   omega
  rw [e1,e2,ziu r c (b/2) (by omega),append_assoc]
theorem YV (cs:List α):subs cs=(List.range (2^cs.length)).map (pick cs):=by
 rw [<- List.reverse_reverse cs]
 induction cs.reverse with
 | nil=>rfl
 | cons c r ih =>
  rw [List.reverse_cons,zdK,ih,length_append,List.length_singleton,pow_succ,Nat.mul_two,List.range_add,map_append,map_map]
  unfold step
  rw [map_map]
  congr 1
  ·refine map_congr_left fun b hb=>?_
   exact(zit _ _ _ (List.mem_range.mp hb)).symm
  ·refine map_congr_left fun b hb=>?_
   exact(ziu _ _ _ (List.mem_range.mp hb)).symm
end Subs
namespace Grow
variable {α β:Type}
noncomputable def cnt (near:β->α->Bool)(o:β)(p:List α):Nat:=(p.filter (near o)).length
def zb0 (near:β->α->Bool)(num:β->Int)(rest:List α)(o:β)(p:List α):Bool:=decide (num o-((cnt near o rest:Nat):Int)<=((cnt near o p:Nat):Int))&&decide (((cnt near o p:Nat):Int)<=num o)
def chk (near:β->α->Bool)(num:β->Int)(O:List β)(c:α)(rest:List α)(p:List α):Bool:=(O.filter fun o=>near o c).all fun o=>zb0 near num rest o p
noncomputable def grow (near:β->α->Bool)(num:β->Int)(O:List β):List (List α)->List α->List (List α)
 | F,[]=>F
 | F,c::rest=>grow near num O ((Subs.step F c).filter (chk near num O c rest)) rest
def good (near:β->α->Bool)(num:β->Int)(O:List β)(done rest:List α)(p:List α):Bool:=(O.filter fun o=>done.any (near o)).all fun o=>zb0 near num rest o p
theorem cnt_cons (near:β->α->Bool)(o:β)(c:α)(r:List α):cnt near o (c::r)=cnt near o r+if near o c=true then 1 else 0:=by
 unfold cnt
 rw [filter_cons]
 split<;>rfl
theorem zfN (near:β->α->Bool)(o:β)(p:List α)(c:α):cnt near o (p++[c])=cnt near o p+if near o c=true then 1 else 0:=by
 unfold cnt
 rw [filter_append,length_append]
 congr 1
 rw [filter_cons]
 split<;>rfl
theorem yh {near:β->α->Bool}{num:β->Int}{rest:List α}{o:β}{p:List α}:zb0 near num rest o p=true↔num o-((cnt near o rest:Nat):Int)<=((cnt near o p:Nat):Int)/\((cnt near o p:Nat):Int)<=num o:=by
 unfold zb0
 rw [and_eq_true,decide_eq_true_eq,decide_eq_true_eq]
theorem ziv {near:β->α->Bool}{num:β->Int}{O:List β}{c:α}{rest p:List α}:chk near num O c rest p=true ↔ ∀o∈O,near o c=true->zb0 near num rest o p=true:=by
 unfold chk
 rw [List.all_eq_true]
 exact⟨fun h o ho hn=>h o (List.mem_filter.mpr ⟨ho,hn⟩),fun h o ho=>h o (List.mem_filter.mp ho).1 (List.mem_filter.mp ho).2⟩
theorem Yx {near:β->α->Bool}{num:β->Int}{O:List β}{done rest p:List α}:good near num O done rest p=true ↔ ∀o∈O,done.any (near o)=true->zb0 near num rest o p=true:=by
 unfold good
 rw [List.all_eq_true]
 exact⟨fun h o ho hn=>h o (List.mem_filter.mpr ⟨ho,hn⟩),fun h o ho=>h o (List.mem_filter.mp ho).1 (List.mem_filter.mp ho).2⟩
theorem Zm (near:β->α->Bool)(o:β)(done:List α)(c:α):(done++[c]).any (near o)=true↔done.any (near o)=true\/near o c=true:=by
 rw [List.any_append,Bool.or_eq_true]
 simp
theorem zmi (near:β->α->Bool)(num:β->Int)(O:List β)(done rest:List α)(c:α)(p:List α):(good near num O done (c::rest) p&&chk near num O c rest p)=good near num O (done++[c]) rest p:=by
 rw [Bool.eq_iff_iff,and_eq_true,Yx,ziv,Yx]
 constructor
 ·rintro⟨h1,h2⟩ o ho hn
  by_cases hc:near o c=true
  ·exact h2 o ho hc
  ·have:=h1 o ho (((Zm near o done c).mp hn).resolve_right hc)
   rw [yh,cnt_cons,if_neg hc] at this
   exact yh.mpr this
 ·intro h
  refine⟨fun o ho hn=>?_,fun o ho hc=>h o ho ((Zm near o done c).mpr (.inr hc))⟩
  have:=yh.mp (h o ho ((Zm near o done c).mpr (.inl hn)))
  rw [yh,cnt_cons]
  split<;>omega
theorem zmj (near:β->α->Bool)(num:β->Int)(O:List β)(done rest:List α)(c:α)(p:List α):(good near num O done (c::rest) p&&chk near num O c rest (p++[c]))=good near num O (done++[c]) rest (p++[c]):=by
 rw [Bool.eq_iff_iff,and_eq_true,Yx,ziv,Yx]
 constructor
 ·rintro⟨h1,h2⟩ o ho hn
  by_cases hc:near o c=true
  ·exact h2 o ho hc
  ·have:=h1 o ho (((Zm near o done c).mp hn).resolve_right hc)
   rw [yh,cnt_cons,if_neg hc] at this
   rw [yh,zfN,if_neg hc]
   exact this
 ·intro h
  refine⟨fun o ho hn=>?_,fun o ho hc=>h o ho ((Zm near o done c).mpr (.inr hc))⟩
  have:=yh.mp (h o ho ((Zm near o done c).mpr (.inl hn)))
  rw [zfN] at this
  rw [yh,cnt_cons]
  split at this<;>rename_i hc
  ·rw [if_pos hc]
   omega
  ·rw [if_neg hc]
   omega
theorem zjx (near:β->α->Bool)(num:β->Int)(O:List β)(done rest:List α)(c:α)(S:List (List α)):(Subs.step (S.filter (good near num O done (c::rest))) c).filter (chk near num O c rest)=(Subs.step S c).filter (good near num O (done++[c]) rest):=by
 unfold Subs.step
 rw [filter_append,filter_append]
 congr 1
 ·rw [List.filter_filter]
  refine filter_congr fun p _=>?_
  rw [<- zmi,Bool.and_comm]
 ·rw [filter_map,filter_map,List.filter_filter]
  congr 1
  refine filter_congr fun p _=>?_
  show (chk near num O c rest (p++[c])&&good near num O done (c::rest) p)=good near num O (done++[c]) rest (p++[c])
  rw [<- zmj,Bool.and_comm]
theorem zdL (near:β->α->Bool)(num:β->Int)(O:List β):∀(rest done:List α) (S:List (List α)),grow near num O (S.filter (good near num O done rest)) rest=(rest.foldl Subs.step S).filter (good near num O (done++rest) [])
 | [],done,S=>by
  rw [append_nil]
  rfl
 | c::r,done,S=>by
  show grow near num O ((Subs.step (S.filter (good near num O done (c::r))) c).filter (chk near num O c r)) r=_
  rw [zjx,zdL near num O r (done++[c]) (Subs.step S c),append_assoc]
  rfl
def fits (near:β->α->Bool)(num:β->Int)(O:List β)(part:List α)(p:List α):Bool:=(O.filter fun o=>part.any (near o)).all fun o=>decide (((cnt near o p:Nat):Int)=num o)
theorem zmk (near:β->α->Bool)(num:β->Int)(O:List β)(part:List α):grow near num O [[]] part=(Subs.subs part).filter (fits near num O part):=by
 have h:=zdL near num O part [] [[]]
 have e:([[]]:List (List α)).filter (good near num O [] part)=[[]]:=by
  have:good near num O [] part []=true:=Yx.mpr fun o _ hn=>by simp at hn
  rw [filter_cons,if_pos this]
  rfl
 rw [e] at h
 rw [h]
 show (Subs.subs part).filter _=_
 refine filter_congr fun p _=>?_
 rw [List.nil_append]
 unfold good fits
 congr 1
 funext o
 rw [Bool.eq_iff_iff,yh,decide_eq_true_eq]
 show num o-((0:Nat):Int)<=_/\_↔_
 omega
end Grow
namespace Cnt
variable {α:Type}
noncomputable def xR (g:Nat)(ks:List (List α)):List Int:=(List.range (g+1)).map fun n=>((ks.countP fun k=>decide (k.length=n):Nat):Int)
theorem zae (g:Nat)(ks:List (List α)):(xR g ks).length=g+1:=by
 unfold xR
 rw [length_map,length_range]
theorem zkS (g:Nat):xR g ([]:List (List α))=replicate (g+1) 0:=by
 unfold xR
 refine List.eq_replicate_iff.mpr ⟨by rw [length_map,length_range],fun b hb=>?_⟩
 obtain⟨n,_,rfl⟩:=List.mem_map.mp hb
 rfl
theorem zb1 {g n:Nat}(ks:List (List α))(h:n<=g):(xR g ks)[n]?=some ((ks.countP fun k=>decide (k.length=n):Nat):Int):=by
 unfold xR
 rw [getElem?_map,List.getElem?_range (by omega)]
 rfl
theorem zjy {g:Nat}(ks:List (List α)){k:List α}(h:k.length<=g):xR g (ks++[k])=(xR g ks).set k.length (((ks.countP fun x=>decide (x.length=k.length):Nat):Int)+1):=by
 refine ext_getElem? fun n=>?_
 rw [List.getElem?_set]
 by_cases hn:n<=g
 ·rw [zb1 _ hn,zb1 _ hn,zae,countP_append]
  by_cases e:k.length=n
  ·rw [if_pos e,if_pos (by omega)]
   subst e
   simp
  ·rw [if_neg e]
   simp [e]
 ·have e1:∀xs:List (List α),(xR g xs)[n]?=none:=fun xs=>List.getElem?_eq_none (by rw [zae];omega)
  rw [e1,e1,zae,if_neg (by omega)]
theorem zaN {g:Nat}{as bs:List (List α)}(h:as.Perm bs):xR g as=xR g bs:=by
 unfold xR
 refine map_congr_left fun n _=>?_
 rw [h.countP_eq]
end Cnt
namespace Pour
noncomputable def S (h:Nat->Int):Nat->Int
 | 0=>0
 | n+1=>S h n+h n
def F (xs:List Int)(i:Nat):Int:=(xs[i]?).getD 0
def hk (xs ys:List Int)(k i:Nat):Int:=if i<=k then F xs i*F ys (k-i) else 0
noncomputable def J3 (xs ys:List Int):List Int:=(List.range (xs.length+ys.length-1)).map fun k=>S (hk xs ys k) xs.length
def part (xs ys:List Int)(i j k:Nat):Int:=S (hk xs ys k) i+(if i<=k/\k-i<j then F xs i*F ys (k-i) else 0)
noncomputable def st (xs ys:List Int)(i j:Nat):List Int:=(List.range (xs.length+ys.length-1)).map (part xs ys i j)
theorem zb2 {xs:List Int}{i:Nat}(h:xs.length<=i):F xs i=0:=by
 unfold F
 rw [List.getElem?_eq_none h]
 rfl
theorem zml {xs:List Int}{i:Nat}{x:Int}(h:xs[i]?=some x):F xs i=x:=by
 unfold F
 rw [h]
 rfl
theorem JQ {f g:Nat->Int}:∀n,(∀i,i<n->f i=g i)->S f n=S g n
 | 0,_=>rfl
 | n+1,h=>by
  show S f n+f n=S g n+g n
  rw [JQ n fun i hi=>h i (by omega),h n (by omega)]
theorem zkT {f:Nat->Int}{n:Nat}:∀m,(∀i,n<=i->i<n+m->f i=0)->S f (n+m)=S f n
 | 0,_=>rfl
 | m+1,h=>by
  show S f (n+m)+f (n+m)=S f n
  rw [zkT m fun i h1 h2=>h i h1 (by omega),h (n+m) (by omega) (by omega),Int.add_zero]
theorem zmm {f:Nat->Int}{n m:Nat}(hm:n<=m)(h:∀i,n<=i->i<m->f i=0):S f m=S f n:=by
 obtain⟨d,rfl⟩:∃d,m=n+d:=⟨m-n,by omega⟩
 exact zkT d h
theorem znJ (xs ys:List Int)(k:Nat):S (hk xs ys k) xs.length=S (fun i=>F xs i*F ys (k-i)) (k+1):=by
 have e1:S (fun i=>F xs i*F ys (k-i)) (k+1)=S (hk xs ys k) (k+1):=JQ _ fun i hi=>by
  unfold hk
  rw [if_pos (by omega)]
 rw [e1]
 by_cases c:xs.length<=k+1
 ·refine(zmm c fun i h1 _=>?_).symm
  unfold hk
  rw [zb2 h1]
  split<;>simp
 ·refine zmm (by omega) fun i h1 _=>?_
  unfold hk
  rw [if_neg (by omega)]
theorem zhc (xs ys:List Int)(i j:Nat):(st xs ys i j).length=xs.length+ys.length-1:=by
 unfold st
 rw [length_map,length_range]
theorem zhd {xs ys:List Int}{i j k:Nat}(h:k<xs.length+ys.length-1):(st xs ys i j)[k]?=some (part xs ys i j k):=by
 unfold st
 rw [getElem?_map,List.getElem?_range h]
 rfl
theorem zkU (xs ys:List Int):st xs ys 0 0=replicate (xs.length+ys.length-1) 0:=by
 unfold st
 have e:∀k,part xs ys 0 0 k=0:=fun k=>by
  unfold part
  rw [if_neg (by omega)]
  rfl
 refine(map_congr_left (g:=fun _=>(0:Int)) fun k _=>e k).trans ?_
 rw [List.map_const',length_range]
theorem zkV (xs ys:List Int)(i k:Nat):part xs ys i ys.length k=part xs ys (i+1) 0 k:=by
 unfold part
 rw [if_neg (show ¬ (i+1<=k/\k-(i+1)<0) by omega),Int.add_zero]
 show _=S (hk xs ys k) i+hk xs ys k i
 congr 1
 unfold hk
 by_cases c:i<=k
 ·by_cases d:k-i<ys.length
  ·rw [if_pos ⟨c,d⟩,if_pos c]
  ·rw [if_neg (fun z=>d z.2),if_pos c,zb2 (show ys.length<=k-i by omega),Int.mul_zero]
 ·rw [if_neg (fun z=>c z.1),if_neg c]
theorem znK (xs ys:List Int)(i:Nat):st xs ys i ys.length=st xs ys (i+1) 0:=by
 unfold st
 exact map_congr_left fun k _=>zkV xs ys i k
theorem zmn {xs ys:List Int}{i j:Nat}{x y:Int}(hx:xs[i]?=some x)(hy:ys[j]?=some y):(st xs ys i j).set (i+j) (part xs ys i j (i+j)+x*y)=st xs ys i (j+1):=by
 have hi:i<xs.length:=(List.getElem?_eq_some_iff.mp hx).1
 have hj:j<ys.length:=(List.getElem?_eq_some_iff.mp hy).1
 apply ext_getElem?
 intro k
 rw [List.getElem?_set]
 by_cases c:k<xs.length+ys.length-1
 ·rw [zhd c,zhd c]
  by_cases e:i+j=k
  ·subst e
   rw [if_pos rfl,if_pos (by rw [zhc];exact c)]
   congr 1
   unfold part
   rw [if_neg (by omega),if_pos (by omega),Int.add_zero,zml hx,Nat.add_sub_cancel_left,zml hy]
  ·rw [if_neg e]
   congr 1
   unfold part
   congr 1
   by_cases d:i<=k/\k-i<j
   ·rw [if_pos d,if_pos (by omega)]
   ·rw [if_neg d,if_neg (by omega)]
 ·have n1:∀j',(st xs ys i j')[k]?=none:=fun j'=>List.getElem?_eq_none (by rw [zhc];omega)
  rw [n1,n1]
  by_cases e:i+j=k
  ·omega
  ·rw [if_neg e]
theorem znL (xs ys:List Int):st xs ys xs.length 0=J3 xs ys:=by
 unfold st J3
 refine map_congr_left fun k _=>?_
 unfold part
 rw [if_neg (by omega),Int.add_zero]
end Pour
namespace Choose
noncomputable def ch:Nat->Nat->Nat
 | _,0=>1
 | 0,_+1=>0
 | n+1,k+1=>ch n k+ch n (k+1)
theorem YW (n:Nat):ch n 0=1:=by cases n<;>rfl
theorem zaO:∀(n k:Nat),n<k->ch n k=0
 | 0,0,h=>absurd h (by omega)
 | 0,k+1,_=>rfl
 | n+1,0,h=>absurd h (by omega)
 | n+1,k+1,h=>by
  show ch n k+ch n (k+1)=0
  rw [zaO n k (by omega),zaO n (k+1) (by omega)]
theorem zbz:∀n k:Nat,(k+1)*ch n (k+1)+k*ch n k=n*ch n k
 | 0,0=>rfl
 | 0,k+1=>by
  show (k+1+1)*0+(k+1)*0=0*0
  simp
 | n+1,0=>by
  have h:=zbz n 0
  rw [YW] at h ⊢
  show (0+1)*(ch n 0+ch n (0+1))+0*1=(n+1)*1
  rw [YW]
  omega
 | n+1,j+1=>by
  have h1:=zbz n (j+1)
  have h2:=zbz n j
  show (j+1+1)*(ch n (j+1)+ch n (j+1+1))+(j+1)*(ch n j+ch n (j+1))=(n+1)*(ch n j+ch n (j+1))
  generalize ch n (j+1+1)=C2 at *
  generalize ch n (j+1)=C1 at *
  generalize ch n j=C0 at *
  simp only [Nat.add_mul,Nat.mul_add,Nat.one_mul] at *
  omega
theorem zmo {n k:Nat}(h:k<n):(ch n k:Int)*((n:Int)-k)/((k:Int)+1)=ch n (k+1):=by
 have e:=zbz n k
 have e2:(ch n k:Int)*((n:Int)-k)=(ch n (k+1):Int)*((k:Int)+1):=by
  have:((k+1)*ch n (k+1)+k*ch n k:Int)=(n*ch n k:Int):=by exact_mod_cast e
  rw [Int.mul_sub,Int.mul_comm (ch n k:Int) n,<- this,Int.mul_comm (ch n (k+1):Int) ((k:Int)+1),Int.mul_comm (ch n k:Int) (k:Int)]
  omega
 rw [e2]
 exact Int.mul_ediv_cancel _ (by omega)
theorem zoC (n:Nat):∀k,ch n k<=2^n:=by
 induction n with
 | zero =>
  intro k
  cases k with
  | zero=>decide
  | succ k =>
   show (0:Nat)<=2^0
   decide
 | succ n ih =>
  intro k
  cases k with
  | zero =>
   rw [YW]
   exact Nat.one_le_two_pow
  | succ k =>
   show ch n k+ch n (k+1)<=2^(n+1)
   rw [pow_succ]
   have:=ih k
   have:=ih (k+1)
   omega
end Choose
namespace Tally
open Subs
variable {α:Type}
theorem zaf:∀(B:List α) (S0:List (List α)),B.foldl step S0=(subs B).flatMap fun b=>S0.map (·++b)
 | [],S0=>by simp [subs]
 | c::r,S0=>by
  have e:subs (c::r)=(subs r).flatMap fun b=>[b,c::b]:=by
   show r.foldl step (step [[]] c)=_
   rw [zaf r]
   rfl
  show r.foldl step (step S0 c)=_
  rw [zaf r,e,List.flatMap_assoc]
  congr 1
  funext b
  show (S0++S0.map (·++[c])).map (·++b)=S0.map (·++b)++(S0.map (·++(c::b))++[])
  rw [map_append,append_nil,map_map]
  congr 1
  refine map_congr_left fun x _=>?_
  show x++[c]++b=_
  rw [append_assoc]
  rfl
theorem YX (c:α)(r:List α):subs (c::r)=(subs r).flatMap fun b=>[b,c::b]:=by
 show r.foldl step (step [[]] c)=_
 rw [zaf r]
 rfl
theorem zag (A B:List α):subs (A++B)=(subs B).flatMap fun b=>(subs A).map (·++b):=by
 unfold subs
 rw [List.foldl_append]
 exact zaf B _
theorem zdM (c:α)(p:List α->Bool):∀L:List (List α),(L.flatMap fun b=>[b,c::b]).countP p=L.countP p+L.countP fun S=>p (c::S)
 | []=>rfl
 | b::L=>by
  have ih:=zdM c p L
  rw [List.flatMap_cons,countP_append,ih,countP_cons (l:=L),countP_cons (l:=L),countP_cons,countP_cons,List.countP_nil]
  omega
theorem count_cons (c:α)(r:List α)(p:List α->Bool):(subs (c::r)).countP p=(subs r).countP p+(subs r).countP fun S=>p (c::S):=by
 rw [YX,zdM]
def Inv (p:List α->Bool):Prop:=∀a b,a.Perm b->p a=p b
theorem Inv.cons {p:List α->Bool}(h:Inv p)(c:α):Inv fun S=>p (c::S):=fun _ _ e=>h _ _ (e.cons c)
theorem zhe {cs ds:List α}(e:cs.Perm ds):∀{p:List α->Bool},Inv p->(subs cs).countP p=(subs ds).countP p:=by
 induction e with
 | nil=>intro p _;rfl
 | cons c _ ih =>
  intro p h
  rw [count_cons,count_cons,ih h,ih (h.cons c)]
 | swap x y l =>
  intro p h
  rw [count_cons,count_cons,count_cons,count_cons,count_cons,count_cons]
  have:(subs l).countP (fun S=>p (y::x::S))=(subs l).countP fun S=>p (x::y::S):=countP_congr fun S _=>by rw [h _ _ (List.Perm.swap x y S)]
  omega
 | trans _ _ i1 i2 =>
  intro p h
  exact(i1 h).trans (i2 h)
noncomputable def T (cs:List α)(p:List α->Bool)(k:Nat):Nat:=(subs cs).countP fun S=>decide (S.length=k)&&p S
theorem zeH {cs ds:List α}(e:cs.Perm ds){p:List α->Bool}(h:Inv p)(k:Nat):T cs p k=T ds p k:=zhe e fun a b e=>by rw [h a b e,e.length_eq]
theorem ziw {cs:List α}{p q:List α->Bool}(h:∀S∈subs cs,p S=q S)(k:Nat):T cs p k=T cs q k:=countP_congr fun S hS=>by rw [h S hS]
theorem zmS (f g:Nat->Int):∀n,Pour.S (fun i=>f i+g i) n=Pour.S f n+Pour.S g n
 | 0=>rfl
 | n+1=>by
  show Pour.S (fun i=>f i+g i) n+(f n+g n)=Pour.S f n+f n+(Pour.S g n+g n)
  rw [zmS f g n]
  omega
theorem zkW:∀n,Pour.S (fun _=>0) n=0
 | 0=>rfl
 | n+1=>by
  show Pour.S (fun _=>0) n+0=0
  rw [zkW n]
  rfl
theorem zfO (j:Nat)(x:Int):∀n,Pour.S (fun i=>if i=j then x else 0) n=if j<n then x else 0
 | 0=>rfl
 | n+1=>by
  show Pour.S (fun i=>if i=j then x else 0) n+(if n=j then x else 0)=_
  rw [zfO j x n]
  by_cases h:n=j
  ·rw [if_neg (by omega),if_pos h,if_pos (by omega),Int.zero_add]
  ·rw [if_neg h,Int.add_zero]
   by_cases h2:j<n
   ·rw [if_pos h2,if_pos (by omega)]
   ·rw [if_neg h2,if_neg (by omega)]
theorem zfP (q:List α->Bool)(f:Nat->Nat)(k:Nat):∀L:List (List α),(((L.map fun b=>if (q b&&decide (b.length<=k))=true then f (k-b.length) else 0).sum:Nat):Int)=Pour.S (fun i=>(f i:Int)*((L.countP fun b=>decide (b.length=k-i)&&q b:Nat):Int)) (k+1):=by
 intro L
 induction L with
 | nil =>
  have:Pour.S (fun i=>(f i:Int)*((([]:List (List α)).countP fun b=>decide (b.length=k-i)&&q b:Nat):Int)) (k+1)=Pour.S (fun _=>0) (k+1):=Pour.JQ _ fun i _=>by
   show (f i:Int)*0=0
   omega
  rw [this,zkW]
  rfl
 | cons b L ih =>
  rw [map_cons,List.sum_cons,Int.natCast_add,ih]
  have e:Pour.S (fun i=>(f i:Int)*(((b::L).countP fun b=>decide (b.length=k-i)&&q b:Nat):Int)) (k+1)=Pour.S (fun i=>(f i:Int)*((L.countP fun b=>decide (b.length=k-i)&&q b:Nat):Int)+if i=k-b.length then (if (q b&&decide (b.length<=k))=true then (f (k-b.length):Int) else 0) else 0) (k+1):=Pour.JQ _ fun i hi=>by
   rw [countP_cons]
   by_cases hq:q b=true
   ·by_cases hb:b.length<=k
    ·by_cases hik:i=k-b.length
     ·have h1:b.length=k-i:=by omega
      have h2:k-i<=k:=by omega
      simp only [hq,h1,h2,decide_true,Bool.and_true,if_true,if_pos hik]
      rw [show k-(k-i)=i by omega,if_pos rfl,Int.natCast_add,Int.mul_add]
      omega
     ·have h1:¬b.length=k-i:=by omega
      simp only [hq,h1,decide_false,Bool.and_true,if_neg hik]
      simp
    ·have h1:¬b.length=k-i:=by omega
     simp [hq,h1,hb]
   ·have hq':q b=false:=Bool.eq_false_iff.mpr hq
    simp [hq']
  rw [e,zmS,zfO,if_pos (show k-b.length<k+1 by omega),Int.add_comm]
  congr 1
  split<;>rfl
theorem zkX {A B:List α}{P pA pB:List α->Bool}(h:∀a∈subs A,∀b∈subs B,P (a++b)=(pA a&&pB b))(k:Nat):(T (A++B) P k:Int)=Pour.S (fun i=>(T A pA i:Int)*(T B pB (k-i):Int)) (k+1):=by
 unfold T
 rw [zag,List.countP_flatMap]
 have e:(subs B).map (List.countP (fun S=>decide (S.length=k)&&P S)∘fun b=>(subs A).map (·++b))=(subs B).map fun b=>if (pB b&&decide (b.length<=k))=true then (T A pA) (k-b.length) else 0:=by
  refine map_congr_left fun b hb=>?_
  show List.countP _ ((subs A).map (·++b))=_
  rw [List.countP_map]
  by_cases hq:(pB b&&decide (b.length<=k))=true
  ·rw [if_pos hq]
   obtain⟨h1,h2⟩:=Bool.and_eq_true_iff.mp hq
   have h2:=of_decide_eq_true h2
   refine countP_congr fun a ha=>?_
   show (decide ((a++b).length=k)&&P (a++b))=true↔(decide (a.length=k-b.length)&&pA a)=true
   rw [h a ha b hb,h1,Bool.and_true,length_append,show (decide (a.length+b.length=k))=decide (a.length=k-b.length) from decide_eq_decide.mpr (by omega)]
  ·rw [if_neg hq]
   refine List.countP_eq_zero.mpr fun a ha hh=>hq ?_
   have hh:(decide ((a++b).length=k)&&P (a++b))=true:=hh
   rw [h a ha b hb] at hh
   obtain⟨h1,h2⟩:=Bool.and_eq_true_iff.mp hh
   have h1:=of_decide_eq_true h1
   rw [length_append] at h1
   rw [(Bool.and_eq_true_iff.mp h2).2,decide_eq_true (by omega)]
   rfl
 rw [e,zfP]
 rfl
theorem jL {cs S:List α}(h:S∈subs cs):S.Sublist cs:=by
 revert S
 induction cs with
 | nil=>intro S h;simp [subs] at h;subst h;exact List.Sublist.refl _
 | cons c r ih =>
  intro S h
  rw [YX] at h
  obtain⟨b,hb,h⟩:=List.mem_flatMap.mp h
  have:=ih hb
  simp at h
  rcases h with rfl | rfl
  ·exact this.cons c
  ·exact this.cons_cons c
theorem zb3 {cs:List α}{p:List α->Bool}{k:Nat}(h:cs.length<k):T cs p k=0:=by
 refine List.countP_eq_zero.mpr fun S hS hh=>?_
 have h1:=of_decide_eq_true (Bool.and_eq_true_iff.mp hh).1
 have h2:=(jL hS).length_le
 omega
noncomputable def tl (cs:List α)(p:List α->Bool):List Int:=(List.range (cs.length+1)).map fun k=>(T cs p k:Int)
theorem jT (cs:List α)(p:List α->Bool):(tl cs p).length=cs.length+1:=by
 unfold tl
 rw [length_map,length_range]
theorem zjz (cs:List α)(p:List α->Bool)(i:Nat):Pour.F (tl cs p) i=(T cs p i:Int):=by
 by_cases h:i<cs.length+1
 ·refine Pour.zml ?_
  unfold tl
  rw [getElem?_map,List.getElem?_range h]
  rfl
 ·rw [Pour.zb2 (by rw [jT];omega),zb3 (by omega)]
  rfl
theorem zmp {A B:List α}{P pA pB:List α->Bool}(h:∀a∈subs A,∀b∈subs B,P (a++b)=(pA a&&pB b)):Pour.J3 (tl A pA) (tl B pB)=tl (A++B) P:=by
 unfold Pour.J3
 rw [jT,jT]
 show _=(List.range ((A++B).length+1)).map fun k=>(T (A++B) P k:Int)
 rw [length_append,show A.length+1+(B.length+1)-1=A.length+B.length+1 by omega]
 refine map_congr_left fun k _=>?_
 have e:=Pour.znJ (tl A pA) (tl B pB) k
 rw [jT] at e
 rw [e,zkX h]
 exact Pour.JQ _ fun i _=>by rw [zjz,zjz]
theorem zkY {cs:List α}{p q:List α->Bool}(h:∀S∈subs cs,p S=q S):tl cs p=tl cs q:=by
 unfold tl
 refine map_congr_left fun k _=>by rw [ziw h]
theorem zfQ:∀(cs:List α) (k:Nat),T cs (fun _=>true) k=Choose.ch cs.length k
 | [],0=>rfl
 | [],k+1=>rfl
 | c::r,0=>by
  have e:=zfQ r 0
  unfold T at e ⊢
  rw [count_cons,e,Choose.YW,Choose.YW]
  have:(subs r).countP (fun S=>decide ((c::S).length=0)&&true)=0:=List.countP_eq_zero.mpr fun S _ hh=>by simp at hh
  rw [this]
 | c::r,k+1=>by
  have e1:=zfQ r k
  have e2:=zfQ r (k+1)
  unfold T at e1 e2 ⊢
  rw [count_cons,e2]
  have:(subs r).countP (fun S=>decide ((c::S).length=k+1)&&true)=(subs r).countP fun S=>decide (S.length=k)&&true:=countP_congr fun S _=>by
   rw [length_cons,show decide (S.length+1=k+1)=decide (S.length=k) from decide_eq_decide.mpr (by omega)]
  rw [this,e1]
  show _=Choose.ch r.length k+Choose.ch r.length (k+1)
  omega
theorem znM [DecidableEq α]{cs:List α}{c:α}(hc:c∈cs)(nd:cs.Nodup)(k:Nat):T cs (fun S=>decide (c∈S)) k=if k=0 then 0 else Choose.ch (cs.length-1) (k-1):=by
 have hp:cs.Perm (c::cs.erase c):=List.perm_cons_erase hc
 have hn:c ∉ cs.erase c:=fun h=>by
  have:=hp.nodup_iff.mp nd
  exact(List.nodup_cons.mp this).1 h
 rw [zeH hp (fun a b e=>decide_eq_decide.mpr e.mem_iff)]
 unfold T
 rw [count_cons]
 have z:(subs (cs.erase c)).countP (fun S=>decide (S.length=k)&&decide (c∈S))=0:=List.countP_eq_zero.mpr fun S hS hh=>by
  have h1:=of_decide_eq_true (Bool.and_eq_true_iff.mp hh).2
  exact hn ((jL hS).subset h1)
 rw [z,zero_add]
 have el:(cs.erase c).length=cs.length-1:=by rw [List.length_erase,if_pos hc]
 cases k with
 | zero =>
  rw [if_pos rfl]
  exact List.countP_eq_zero.mpr fun S _ hh=>by simp at hh
 | succ k =>
  rw [if_neg (by omega),<- el,Nat.add_sub_cancel,<- zfQ]
  unfold T
  refine countP_congr fun S _=>?_
  rw [length_cons,show decide (S.length+1=k+1)=decide (S.length=k) from decide_eq_decide.mpr (by omega)]
  show (_&&decide (c∈c::S))=true↔_
  rw [decide_eq_true mem_cons_self]
variable {α:Type}
structure Loc (U:List α)(p:List α->Bool)(g:List α):Prop where
 l:∀a b,(∀c∈a,c∈U/\c ∉ g)->p (a++b)=p b
 r:∀a b,(∀c∈b,c∈U/\c ∉ g)->p (a++b)=p a
def j5 (fit:List α->List α->Bool)(gs:List (List α))(S:List α):Bool:=gs.all fun g=>fit g S
theorem zb4 (fit:List α->List α->Bool)(as bs:List (List α))(S:List α):j5 fit (as++bs) S=(j5 fit as S&&j5 fit bs S):=List.all_append
theorem zhf {fit:List α->List α->Bool}{gs:List (List α)}{S S':List α}(h:∀g∈gs,fit g S=fit g S'):j5 fit gs S=j5 fit gs S':=by
 unfold j5
 induction gs with
 | nil=>rfl
 | cons g r ih =>
  rw [List.all_cons,List.all_cons,h g mem_cons_self,ih fun x hx=>h x (mem_cons_of_mem _ hx)]
theorem zb5 {U:List α}{fit:List α->List α->Bool}{done:List (List α)}{g:List α}{q:List α->Bool}(nd:(done.flatten++g).Nodup)(hU:∀c∈done.flatten++g,c∈U)(hd:∀x∈done,Loc U (fit x) x)(hg:Loc U q g) :
  Pour.J3 (tl done.flatten (j5 fit done)) (tl g q)=tl (done.flatten++g) fun S=>j5 fit done S&&q S:=by
 obtain⟨_,_,n3⟩:=List.nodup_append.mp nd
 refine zmp fun a ha b hb=>?_
 have sa:=(jL ha).subset
 have sb:=(jL hb).subset
 rw [hg.l a b fun c hc=>⟨hU c (mem_append_left _ (sa hc)),fun h=>n3 c (sa hc) c h rfl⟩]
 congr 1
 exact zhf fun x hx=>(hd x hx).r a b fun c hc=>⟨hU c (mem_append_right _ (sb hc)),fun h=>n3 c (List.mem_flatten.mpr ⟨x,hx,h⟩) c (sb hc) rfl⟩
theorem zmq {U:List α}{fit:List α->List α->Bool}:∀(gs done:List (List α)),(done++gs).flatten.Nodup->(∀c∈(done++gs).flatten,c∈U)->(∀g∈done++gs,Loc U (fit g) g)->(gs.map fun g=>tl g (fit g)).foldl Pour.J3 (tl done.flatten (j5 fit done))=tl (done++gs).flatten (j5 fit (done++gs)):=by
 intro gs
 induction gs with
 | nil =>
  intro done _ _ _
  rw [append_nil]
  rfl
 | cons g r ih =>
  intro done nd hU hL
  have e:done++g::r=(done++[g])++r:=by rw [append_assoc];rfl
  rw [e] at nd hU hL ⊢
  have e2:(done++[g]).flatten=done.flatten++g:=by rw [flatten_append];simp
  have nd2:(done.flatten++g).Nodup:=by
   rw [flatten_append,e2] at nd
   exact(List.nodup_append.mp nd).1
  have ih:=ih (done++[g]) nd hU hL
  rw [<- ih,map_cons,foldl_cons,e2]
  congr 1
  rw [zb5 nd2 (fun c hc=>hU c (by rw [flatten_append,e2];exact mem_append_left _ hc)) (fun x hx=>hL x (by simp [hx])) (hL g (by simp))]
  refine zkY fun S _=>?_
  rw [zb4]
  congr 1
  show fit g S=(fit g S&&true)
  rw [Bool.and_true]
theorem zhg {U:List α}{fit:List α->List α->Bool}{gs:List (List α)}(nd:gs.flatten.Nodup)(hU:∀c∈gs.flatten,c∈U)(hL:∀g∈gs,Loc U (fit g) g):(gs.map fun g=>tl g (fit g)).foldl Pour.J3 [1]=tl gs.flatten (j5 fit gs):=zmq gs [] nd hU hL
def chZ (n:Nat)(k:Int):Int:=if k<0 then 0 else (Choose.ch n k.toNat:Nat)
def dl (xs:List Int)(m:Nat)(s:Int):Int:=Pour.S (fun k=>Pour.F xs k*chZ m (s-(k:Nat))) xs.length
theorem zkZ (g:Nat->Int){a b:Nat}(ha:∀i,a<=i->g i=0)(hb:∀i,b<=i->g i=0):Pour.S g a=Pour.S g b:=by
 by_cases h:a<=b
 ·exact(Pour.zmm h fun i h1 _=>ha i h1).symm
 ·exact Pour.zmm (by omega) fun i h1 _=>hb i h1
theorem zmT {A far:List α}{P pA:List α->Bool}(h:∀a∈subs A,∀b∈subs far,P (a++b)=pA a)(s:Nat):dl (tl A pA) far.length (s:Nat)=(T (A++far) P s:Int):=by
 rw [zkX (pB:=fun _=>true) (fun a ha b hb=>by rw [h a ha b hb,Bool.and_true]) s]
 unfold dl
 rw [jT]
 rw [zkZ (fun k=>Pour.F (tl A pA) k*chZ far.length ((s:Int)-(k:Nat))) (a:=A.length+1) (b:=s+1) (fun i hi=>by rw [zjz,zb3 (by omega)];simp) (fun i hi=>by
  unfold chZ
  rw [if_pos (by omega),Int.mul_zero])]
 refine Pour.JQ _ fun i hi=>?_
 show Pour.F (tl A pA) i*chZ far.length ((s:Int)-(i:Nat))=_
 rw [zjz,zfQ]
 unfold chZ
 rw [if_neg (by omega),show ((s:Int)-(i:Nat)).toNat=s-i by omega]
theorem zmr [DecidableEq α]{A far:List α}{P pA:List α->Bool}{c:α}(hc:c∈far)(nd:far.Nodup)(h:∀a∈subs A,∀b∈subs far,P (a++b)=(pA a&&decide (c∈b)))(s:Nat):dl (tl A pA) (far.length-1) ((s:Nat)-1)=(T (A++far) P s:Int):=by
 rw [zkX h s]
 unfold dl
 rw [jT]
 rw [zkZ (fun k=>Pour.F (tl A pA) k*chZ (far.length-1) ((s:Int)-1-(k:Nat))) (a:=A.length+1) (b:=s+1) (fun i hi=>by rw [zjz,zb3 (by omega)];simp) (fun i hi=>by
  unfold chZ
  rw [if_pos (by omega),Int.mul_zero])]
 refine Pour.JQ _ fun i hi=>?_
 show Pour.F (tl A pA) i*chZ (far.length-1) ((s:Int)-1-(i:Nat))=_
 rw [zjz,znM hc nd]
 unfold chZ
 by_cases e:s-i=0
 ·rw [if_pos (by omega),if_pos e]
  rfl
 ·rw [if_neg (by omega),if_neg e,show ((s:Int)-1-(i:Nat)).toNat=s-i-1 by omega]
theorem zbA {cs:List α}{p:List α->Bool}(h:∀S∈subs cs,p S=false)(k:Nat):T cs p k=0:=List.countP_eq_zero.mpr fun S hS hh=>by
 rw [h S hS,Bool.and_false] at hh
 cases hh
theorem zix (cs:List α)(p:List α->Bool):Cnt.xR cs.length ((subs cs).filter p)=tl cs p:=by
 unfold Cnt.xR tl T
 refine map_congr_left fun k _=>?_
 rw [List.countP_filter]
theorem zfR {β:Type}(g:Nat)(f:List α->List β)(hf:∀k,(f k).length=k.length)(ks:List (List α)):Cnt.xR g (ks.map f)=Cnt.xR g ks:=by
 unfold Cnt.xR
 refine map_congr_left fun n _=>?_
 rw [List.countP_map]
 congr 1
 refine countP_congr fun k _=>?_
 show decide ((f k).length=n)=true↔_
 rw [hf]
variable {α β:Type}
theorem zfS (f:α->β):∀L:List α,subs (L.map f)=(subs L).map (List.map f)
 | []=>rfl
 | c::r=>by
  rw [map_cons,YX,YX,zfS f r,List.map_flatMap,List.flatMap_map]
  rfl
theorem zoD (f:α->β)(L:List α)(p:List β->Bool)(k:Nat):T (L.map f) p k=T L (fun S=>p (S.map f)) k:=by
 unfold T
 rw [zfS,List.countP_map]
 refine countP_congr fun S _=>?_
 show (decide ((S.map f).length=k)&&p (S.map f))=true↔_
 rw [length_map]
theorem zk0 [DecidableEq α]{a b:List α}(ha:a.Nodup)(hb:b.Nodup):(a.filter fun x=>decide (x∈b)).length=(b.filter fun x=>decide (x∈a)).length:=by
 refine List.Perm.length_eq ((List.perm_ext_iff_of_nodup (ha.sublist filter_sublist) (hb.sublist filter_sublist)).mpr fun x=>?_)
 rw [List.mem_filter,List.mem_filter,decide_eq_true_eq,decide_eq_true_eq]
 exact⟨fun h=>⟨h.2,h.1⟩,fun h=>⟨h.2,h.1⟩⟩
theorem zb6 (L:List α)(d:α):(List.range L.length).map (fun k=>L.getD k d)=L:=by
 refine ext_getElem? fun k=>?_
 rw [getElem?_map]
 by_cases h:k<L.length
 ·rw [List.getElem?_range h,getElem?_eq_getElem h]
  show some (L.getD k d)=_
  rw [getD_eq_getElem?_getD,getElem?_eq_getElem h]
  rfl
 ·rw [List.getElem?_eq_none (by rw [length_range];omega),List.getElem?_eq_none (by omega)]
  rfl
end Tally
namespace K32
open PySem L2
abbrev top (i:Nat):Stmt:=zbE.top i
abbrev Zn:Stmt:=top 6
abbrev qw:Stmt:=top 7
abbrev jU:Stmt:=top 8
abbrev jV:Stmt:=top 9
abbrev qB:Stmt:=top 10
abbrev qI:Stmt:=top 11
abbrev zbB:Stmt:=top 13
abbrev Zo:Stmt:=top 14
abbrev zfT:Stmt:=top 15
abbrev jw:Stmt:=top 16
abbrev j6:Stmt:=top 17
abbrev qK:Stmt:=top 18
abbrev qF:Stmt:=top 21
abbrev yp:Stmt:=top 22
abbrev yQ:Stmt:=top 23
abbrev xq:Stmt:=top 24
abbrev Jo:Stmt:=top 25
abbrev yH:Stmt:=top 26
abbrev YY:Stmt:=top 28
abbrev zah:Stmt:=top 29
abbrev yb:Stmt:=top 31
abbrev zbC:Stmt:=top 32
abbrev ZU:Stmt:=top 33
abbrev qP:Stmt:=top 34
abbrev Jd:Stmt:=top 35
abbrev zai:Stmt:=top 36
abbrev xr:Stmt:=top 38
abbrev JR:Stmt:=top 39
abbrev ZV:Stmt:=top 40
abbrev JS:Stmt:=top 41
abbrev xH:Stmt:=top 42
abbrev YZ:Stmt:=top 43
abbrev xJ:Stmt:=top 44
abbrev yc:Stmt:=top 45
abbrev JD:Stmt:=top 46
abbrev yd:Stmt:=top 47
abbrev jF:Stmt:=top 48
abbrev Je:Stmt:=top 49
abbrev Zp:Stmt:=top 50
abbrev zfU:Stmt:=top 51
structure Txt (mg:Str->Option Value):Prop where
 zk1:mg "any"=none
 znN:mg "bool"=none
 zk2:mg "dict"=none
 zfV:mg "divmod"=none
 jW:mg "enumerate"=none
 zfW:mg "int"=none
 zaj:mg "isinstance"=none
 jd:mg "len"=none
 zk3:mg "list"=none
 zfX:mg "max"=none
 ziy:mg "min"=none
 qW:mg "range"=none
 zoE:mg "set"=none
 zb7:mg "sorted"=none
 zmU:mg "str"=none
 zoF:mg "sum"=none
 zoG:mg "zip"=none
 J4:∃t,mg "CLOSED_SIGN"=some (.str "?" t)
 zb8:∃t,mg "MOST_OF_PART"=some (.int 14 t)
 Yy:∃t,mg "NO_CELL_SIGN"=some (.str "#" t)
structure Prog (K:PySem.W.Frag)(mg:Str->Option Value):Prop where
 closed:∃(f:Addr) (fd:FuncData),zo K mg "closed" Zn ["board"] f fd
 open_cells:∃(f:Addr) (fd:FuncData),zo K mg "open_cells" qw ["board"] f fd
 around:∃(f:Addr) (fd:FuncData),zo K mg "around" jU ["board","cell"] f fd
 number_at:∃(f:Addr) (fd:FuncData),zo K mg "number_at" jV ["board","cell"] f fd
 cells_of:∃(f:Addr) (fd:FuncData),zo K mg "cells_of" qB ["board"] f fd
 sign_at:∃(f:Addr) (fd:FuncData),zo K mg "sign_at" qI ["board","cell"] f fd
 parts:∃(f:Addr) (fd:FuncData),zo K mg "parts" zbB ["board"] f fd
 joined:∃(f:Addr) (fd:FuncData),zo K mg "joined" Zo ["groups","cells"] f fd
 far:∃(f:Addr) (fd:FuncData),zo K mg "far" zfT ["board"] f fd
 numbers_of:∃(f:Addr) (fd:FuncData),zo K mg "numbers_of" jw ["board","part"] f fd
 bare_wrong:∃(f:Addr) (fd:FuncData),zo K mg "bare_wrong" j6 ["board"] f fd
 closed_around:∃(f:Addr) (fd:FuncData),zo K mg "closed_around" qK ["board","cell"] f fd
 part_layings:∃(f:Addr) (fd:FuncData),zo K mg "part_layings" qF ["board","part"] f fd
 needs_at:∃(f:Addr) (fd:FuncData),zo K mg "needs_at" yp ["told","cell","rest"] f fd
 may_fit:∃(f:Addr) (fd:FuncData),zo K mg "may_fit" yQ ["needs","pick"] f fd
 part_counts:∃(f:Addr) (fd:FuncData),zo K mg "part_counts" xq ["board","part"] f fd
 counted:∃(f:Addr) (fd:FuncData),zo K mg "counted" Jo ["found","greatest"] f fd
 counted_at:∃(f:Addr) (fd:FuncData),zo K mg "counted_at" yH ["found","greatest","cell"] f fd
 choices:∃(f:Addr) (fd:FuncData),zo K mg "choices" YY ["n","k"] f fd
 poured:∃(f:Addr) (fd:FuncData),zo K mg "poured" zah ["one","other"] f fd
 near_counts:∃(f:Addr) (fd:FuncData),zo K mg "near_counts" yb ["board"] f fd
 count:∃(f:Addr) (fd:FuncData),zo K mg "count" zbC ["board"] f fd
 count_at:∃(f:Addr) (fd:FuncData),zo K mg "count_at" ZU ["board","cell"] f fd
 counts_by_cell:∃(f:Addr) (fd:FuncData),zo K mg "counts_by_cell" qP ["board"] f fd
 all_poured:∃(f:Addr) (fd:FuncData),zo K mg "all_poured" Jd ["lists"] f fd
 dealt:∃(f:Addr) (fd:FuncData),zo K mg "dealt" zai ["counts","cells","stones"] f fd
 law_cell_at:∃(f:Addr) (fd:FuncData),zo K mg "_law_cell_at" xr ["_law_script","_law_k"] f fd
 law_whole:∃(f:Addr) (fd:FuncData),zo K mg "_law_whole" JR ["_law_found"] f fd
 law_near:∃(f:Addr) (fd:FuncData),zo K mg "_law_near" ZV ["_law_at","_law_rows","_law_columns"] f fd
 law_signs:∃(f:Addr) (fd:FuncData),zo K mg "_law_signs" JS ["_law_script","_law_start","_law_rows","_law_columns"] f fd
 law_texts:∃(f:Addr) (fd:FuncData),zo K mg "_law_texts" xH ["_law_signs_here","_law_rows","_law_columns"] f fd
 law_dug:∃(f:Addr) (fd:FuncData),zo K mg "_law_dug" YZ ["_law_script","_law_start","_law_rows","_law_columns"] f fd
 law_board:∃(f:Addr) (fd:FuncData),zo K mg "_law_board" xJ ["_law_script","_law_start"] f fd
 law_numbers:∃(f:Addr) (fd:FuncData),zo K mg "_law_numbers" yc ["_law_texts_here","_law_shut"] f fd
 law_fits:∃(f:Addr) (fd:FuncData),zo K mg "_law_fits" JD ["_law_some","_law_numbers_here"] f fd
 law_choices:∃(f:Addr) (fd:FuncData),zo K mg "_law_choices" yd ["_law_many"] f fd
 law_layings:∃(f:Addr) (fd:FuncData),zo K mg "_law_layings" jF ["_law_texts_here","_law_stones"] f fd
 law_closed:∃(f:Addr) (fd:FuncData),zo K mg "_law_closed" Je ["_law_texts_here"] f fd
 law_one:∃(f:Addr) (fd:FuncData),zo K mg "_law_one" Zp ["_law_texts_here","_law_stones"] f fd
def zb9 (K:PySem.W.Frag):Sp:=fun vs H Q _=>∃(a:Addr) (ns:List Int) (k:Int),vs=[.ref a,.int k]/\SqL K H a (ns.map V.int)/\0<=k/\∀z:Int,Q (.int z) H
structure Row (signs:List Nat)(n:Nat)(t:Str):Prop where
 len:t.cps.size=n
 mem:∀c∈t.cps.toList,c∈signs
structure Rows (signs:List Nat)(rs:List Str):Prop where
 lo:1<=rs.length
 hi:rs.length<=8
 ex:∃n,1<=n/\n<=8/\∀t∈rs,Row signs n t
noncomputable def bd:Str:="?012345678#"
section
variable {P:Program}{w:World}{K:PySem.W.Frag}{mg:Str->Option Value}{base:Heap}{f:Addr}{fd:FuncData}
theorem zca:zL ["_law_script","_law_k"] ["_law_script","_law_k"] (zg xr):=⟨rfl,rfl,rfl,by decide +kernel,rfl,by decide +kernel,by decide +kernel⟩
theorem yI (T:Txt mg)(D:zo K mg "_law_cell_at" xr ["_law_script","_law_k"] f fd):zH P w K mg base CX0 1 f fd ["_law_script","_law_k"] (zb9 K):=by
 refine D.F.ok zca (fun vs H Q E h=>?_) (fun cdv A outer s H vs Q E hr h=>?_)
 ·obtain⟨a,ns,i,rfl,_⟩:=h
  rfl
 ·obtain⟨a,ns,i,rfl,hS,hi,k⟩:=h
  refine⟨_,(zd (jA (zQ zog (pv 1) (zx zG (by rfl) T.jd PySem.boot_len (za (pv 0) zb)) (qc _)) (zf (zO (qx ju (pv 0) (pv 1) (fun _ _=>rfl)))) qk)
   (zf (zO zq))),?_⟩
  refine⟨_,rfl,_,rfl,a,_,rfl,.inl hS,_,_,rfl,rfl,_,rfl,?_⟩
  refine zeo (fun c=>?_) (fun c=>?_)
  ·have c':i<((ns.map V.int).length:Nat):=of_decide_eq_true c
   rw [length_map] at c'
   have hl:i.toNat<ns.length:=by omega
   refine⟨_,rfl,_,rfl,a,_,i,.int ns[i.toNat],rfl,rfl,hS,jJ hi (by rw [getElem?_map,getElem?_eq_getElem hl];rfl),?_⟩
   exact k _
  ·exact k 0
end
structure qf (H:Hp)(p l:Addr)(rs:List Str)(n:Int):Prop where
 tp:H p=some (.tup [.ref l,.int n])
 rw:H l=some (.lst (rs.map V.str))
theorem zk4:∀c∈bd.cps.toList,c<1114112:=by decide +kernel
theorem zms {n:Nat}{t:Str}(r:Row bd.cps.toList n t):PyData.canLay0 (.str t)=true:=by
 show t.cps.all (· < 0x110000)=true
 rw [Array.all_eq_true']
 intro c hc
 exact decide_eq_true (zk4 c (r.mem c (Array.mem_toList_iff.mpr hc)))
theorem zfY {rs:List Str}{n:Nat}(h:∀t∈rs,Row bd.cps.toList n t):PyData.canLayAll0 (rs.map PyData.str)=true:=by
 induction rs with
 | nil=>rfl
 | cons t r ih =>
  show (PyData.canLay0 (.str t)&&PyData.canLayAll0 (r.map PyData.str))=true
  rw [zms (h t mem_cons_self),ih fun u hu=>h u (mem_cons_of_mem _ hu)]
  rfl
theorem zcb (rs:List Str):PyData.depthAll (rs.map PyData.str)=0:=by
 induction rs with
 | nil=>rfl
 | cons t r ih =>
  show max (PyData.depth (.str t)) (PyData.depthAll (r.map PyData.str))=0
  rw [ih]
  rfl
theorem Rows.cmp {rs:List Str}(R:Rows bd.cps.toList rs):zi7 (.list (rs.map PyData.str)) (.list (rs.map PyData.str)):=by
 obtain⟨n,_,_,h⟩:=R.ex
 refine⟨zfY h,zfY h,?_⟩
 show PyData.depthAll (rs.map PyData.str)+1<=64
 rw [zcb]
 decide
noncomputable def bData (rs:List Str)(n:Int):PyData:=.tuple [.list (rs.map PyData.str),.int n]
theorem Rows.cmpB {rs:List Str}(R:Rows bd.cps.toList rs)(n:Int):zi7 (bData rs n) (bData rs n):=by
 have c:=R.cmp
 have h1:PyData.canLay0 (bData rs n)=true:=by
  show (PyData.canLay0 (.list (rs.map PyData.str))&&(PyData.canLay0 (.int n)&&true))=true
  rw [c.l1]
  rfl
 refine⟨h1,h1,?_⟩
 show max (PyData.depthAll (rs.map PyData.str)+1) (max 0 0)+1<=64
 rw [zcb]
 decide
theorem qf.rdv {K:PySem.W.Frag}{H:Hp}{p l:Addr}{rs:List Str}{n:Int}(b:qf H p l rs n):Rdv K H (.ref p) (bData rs n):=.tup (SqT.of b.tp) (.cons (.lst (SqL.of b.rw) (zfo rs)) (.cons (.int n) .nil))
theorem qf.mono {H H':Hp}{p l:Addr}{rs:List Str}{n:Int}(b:qf H p l rs n)(s:zw H H'):qf H' p l rs n:=⟨s _ _ b.tp,s _ _ b.rw⟩
noncomputable def codes (rs:List Str):List (List Nat):=rs.map fun t=>t.cps.toList
theorem jG {rs:List Str}{i:Nat}{t:Str}(h:rs[i]?=some t):(codes rs)[i]?=some t.cps.toList:=by
 unfold codes
 rw [getElem?_map,h]
 rfl
theorem zaP {rs:List Str}{i:Nat}{u:List Nat}(h:(codes rs)[i]?=some u):∃t,rs[i]?=some t/\u=t.cps.toList:=by
 unfold codes at h
 rw [getElem?_map] at h
 cases e:rs[i]? with
 | none =>
  rw [e] at h
  cases h
 | some t =>
  rw [e] at h
  cases h
  exact⟨t,rfl,rfl⟩
theorem jm (rs:List Str):(codes rs).length=rs.length:=by
 unfold codes
 rw [length_map]
theorem Rows.short {s:List Nat}{rs:List Str}(R:Rows s rs):∀u∈codes rs,u.length<=8:=fun u hu=>by
 obtain⟨t,ht,rfl⟩:=List.mem_map.mp hu
 obtain⟨n,_,h8,q⟩:=R.ex
 have:=(q t ht).len
 rw [length_toList]
 omega
theorem Rows.tlen {s:List Nat}{rs:List Str}{i:Nat}{t:Str}(R:Rows s rs)(h:rs[i]?=some t):t.length<=sizeLine:=by
 obtain⟨n,_,h8,q⟩:=R.ex
 have e:t.length=n:=(q t (mem_of_getElem? h)).len
 rw [e]
 exact le_trans h8 (by decide)
def Zq (H:Hp)(v:V)(c:Nat×Nat):Prop:=∃a,v=V.ref a/\H a=some (.tup [.int (c.1:Nat),.int (c.2:Nat)])
def Cel (H:Hp):List V->List (Nat×Nat)->Prop:=Paired (Zq H)
theorem Cel.mono {H H':Hp}(s:zw H H'){vs:List V}{cs:List (Nat×Nat)}(hp:Cel H vs cs):Cel H' vs cs:=by
 induction hp with
 | nil=>exact .nil
 | cons q _ ih =>
  obtain⟨a,e,h⟩:=q
  exact .cons ⟨a,e,s _ _ h⟩ ih
theorem Cel.snoc {H:Hp}{vs:List V}{cs:List (Nat×Nat)}{v:V}{c:Nat×Nat}(h:Cel H vs cs)(x:Zq H v c):Cel H (vs++[v]) (cs++[c]):=Paired.snoc h x
theorem Cel.append {H:Hp}{vs ws:List V}{cs ds:List (Nat×Nat)}(h:Cel H vs cs)(k:Cel H ws ds):Cel H (vs++ws) (cs++ds):=zaE h k
theorem Cel.into {H:Hp}(z:Addr)(o:HO){old:List V}(hz:H z=some (.lst old)){vs:List V}{cs:List (Nat×Nat)}(hp:Cel H vs cs):Cel (upd H z o) vs cs:=by
 induction hp with
 | nil=>exact .nil
 | cons q _ ih =>
  obtain⟨a,e,h⟩:=q
  exact .cons ⟨a,e,by rw [zj (zff h hz (by intro y;cases y))];exact h⟩ ih
theorem Cel.length {H:Hp}{vs:List V}{cs:List (Nat×Nat)}(h:Cel H vs cs):vs.length=cs.length:=Paired.length h
theorem Cel.get {H:Hp}:∀{vs:List V} {cs:List (Nat×Nat)} {i:Nat} {v:V},Cel H vs cs->vs[i]?=some v->∃c,cs[i]?=some c/\Zq H v c
 | _,_,_,_,.nil,e=>by simp at e
 | _,_,0,_,.cons r _,e=>by
  simp at e
  subst e
  exact⟨_,rfl,r⟩
 | _,_,i+1,v,.cons _ t,e=>by
  obtain⟨c,h1,h2⟩:=Cel.get (i:=i) (v:=v) t (by simpa using e)
  exact⟨c,by simpa using h1,h2⟩
noncomputable def zz (c:Nat×Nat):PyData:=.tuple [.int (c.1:Nat),.int (c.2:Nat)]
theorem Zq.rdv {K:PySem.W.Frag}{H:Hp}{v:V}{c:Nat×Nat}(h:Zq H v c):Rdv K H v (zz c):=by
 obtain⟨a,rfl,h⟩:=h
 exact .tup (SqT.of h) (.cons (.int _) (.cons (.int _) .nil))
theorem zjA (c d:Nat×Nat):zi7 (zz c) (zz d):=⟨rfl,rfl,by show max 0 (max 0 0)+1<=64;decide⟩
theorem zdN (c d:Nat×Nat):PyData.eqv (zz c) (zz d)=decide (c=d):=by
 obtain⟨a,b⟩:=c
 obtain⟨x,y⟩:=d
 show ((((a:Nat):Int)==((x:Nat):Int))&&((((b:Nat):Int)==((y:Nat):Int))&&true))=decide ((a,b)=(x,y))
 by_cases h1:a=x
 ·by_cases h2:b=y
  ·subst h1 h2
   simp
  ·have:¬ ((b:Int)=(y:Int)):=by omega
   simp [h2,this]
 ·have:¬ ((a:Int)=(x:Int)):=by omega
  simp [h1,this]
theorem Qw (c k:Nat):(V.str ⟨#[c]⟩=V.str ⟨#[k]⟩)=(c=k):=by
 apply propext
 constructor
 ·intro h
  have h2:(⟨#[c]⟩:Str)=⟨#[k]⟩:=V.str.inj h
  have h3:(#[c]:Array Nat)=#[k]:=congrArg Str.cps h2
  simpa using h3
 ·rintro rfl
  rfl
theorem Q5:("#":Str)=⟨#[35]⟩:=by decide +kernel
theorem ZW:("?":Str)=⟨#[63]⟩:=by decide +kernel
def qh (c:Nat):Bool:=!decide (c=35)
def qJ (c:Nat):Bool:=decide (c=63)
def xV (c:Nat):Bool:=qh c && !decide (c=63)
def zcc:Sp:=fun vs H Q _=>∃(p l c:Addr) (rs:List Str) (n:Int) (i j:Nat) (t:Str) (k:Nat),vs=[.ref p,.ref c]/\qf H p l rs n/\H c=some (.tup [.int (i:Nat),.int (j:Nat)])/\rs[i]?=some t/\t.cps.toList[j]?=some k/\t.length<=sizeLine/\Q (.str ⟨#[k]⟩) H
def JE (p:Nat->Bool):Sp:=fun vs H Q _=>∃(a l:Addr) (rs:List Str) (n:Int),vs=[.ref a]/\qf H a l rs n/\Rows bd.cps.toList rs /\
 ∀(d:Addr) (ws:List V) (H':Hp),H d=none->H' d=some (.lst ws)->Cel H' ws (Cells.zP p 0 (codes rs))->zw H H'->Q (.ref d) H'
def zcd:Sp:=fun vs H Q _=>∃(p l c:Addr) (rs:List Str) (n:Int) (i j:Nat) (t:Str) (k:Nat),vs=[.ref p,.ref c]/\qf H p l rs n/\H c=some (.tup [.int (i:Nat),.int (j:Nat)])/\rs[i]?=some t/\t.cps.toList[j]?=some k/\t.length<=sizeLine/\48<=k/\k<=56/\Q (.int ((k:Int)-48)) H
theorem int_sign {k:Nat}(h1:48<=k)(h2:k<=56):PySem.intText? ⟨#[k]⟩=some ((k:Int)-48):=by
 have:∀k∈List.range 57,48<=k->PySem.intText? ⟨#[k]⟩=some ((k:Int)-48):=by decide +kernel
 exact this k (List.mem_range.mpr (by omega)) h1
section
variable {P:Program}{w:World}{K:PySem.W.Frag}{mg:Str->Option Value}{base:Heap}{f:Addr}{fd:FuncData}
theorem zhh:zL ["board","cell"] ["board","cell"] (zg qI):=⟨rfl,rfl,rfl,by decide +kernel,rfl,by decide +kernel,by decide +kernel⟩
theorem ZX (D:zo K mg "sign_at" qI ["board","cell"] f fd):zH P w K mg base CX0 1 f fd ["board","cell"] zcc:=by
 refine D.F.ok zhh (fun vs H Q E h=>?_) (fun cdv A outer s H vs Q E hr h=>?_)
 ·obtain⟨p,l,c,rs,n,i,j,t,k,rfl,_⟩:=h
  rfl
 ·obtain⟨p,l,c,rs,n,i,j,t,k,rfl,b,hc,hi,hj,hl,q⟩:=h
  refine⟨_,(zf (zO (qx Yp (qx ju (qx xO (pv 0) zq (fun _ _=>rfl)) (qx xO (pv 1) zq (fun _ _=>rfl)) (fun _ _=>rfl)) (qx xO (pv 1) zq (fun _ _=>rfl)) (fun _ _=>rfl)))),?_⟩
  exact⟨_,rfl,p,_,0,_,rfl,rfl,SqT.of b.tp,rfl,_,rfl,c,_,0,_,rfl,rfl,SqT.of hc,rfl,l,_,_,_,rfl,rfl,SqL.of b.rw,QV (v:=V.str t) (by rw [getElem?_map,hi];rfl),_,rfl,c,_,1,_,rfl,rfl,SqT.of hc,rfl,t,_,k,rfl,rfl,hl,QV hj,q⟩
theorem JT:zL ["board","found","row","text"] ["board"] (zg qB):=⟨rfl,rfl,rfl,by decide +kernel,rfl,by decide +kernel,by decide +kernel⟩
theorem zbb (T:Txt mg)(D:zo K mg "cells_of" qB ["board"] f fd):zH P w K mg base CX0 1 f fd ["board"] (JE qh):=by
 refine D.F.ok JT (fun vs H Q E h=>?_) (fun cdv A outer s H vs Q E hr h=>?_)
 ·obtain⟨a,l,rs,n,rfl,_⟩:=h
  rfl
 ·obtain⟨a,l,rs,n,rfl,b,R,q⟩:=h
  refine⟨_,(zd (zB (i:=1) JT.nd rfl (Or.inl rfl) (qu zb))
   (zd (qo PassesOwn.never rfl (Zb (by rfl) T.jW (za (qx xO (pv 0) zq (fun _ _=>rfl)) zb)) (Jr rfl (zV (zm (i:=2) JT.nd rfl (Or.inr rfl)) (zV (zm (i:=3) JT.nd rfl (Or.inl rfl)) jZ))) (zf (yE (Jt PySem.F.plainAttrs_list PySem.F.slot_list_extend PySem.F.type_list_extend zdr (pv 1) (za (qm (N:=["column","sign","row"]) (src:=[none,none,some 2]) (zW.free (O:=(zg qB).names) (XN:=["board","found","row","text"]) rfl rfl ⟨_,rfl⟩ rfl rfl (by decide +kernel) (by decide +kernel) (by decide +kernel) rfl (by decide +kernel)) rfl (zkf (by rfl) T.jW (za (pv 3) zb)) (fun _ _ _ _ _=>(zep (n:=2) (K:=K) (by rfl) rfl (zV (zm (i:=0) (by show List.Nodup (["column","sign","row"]:List Str);decide +kernel) rfl (Or.inl rfl)) (zV (zm (i:=1) (by show List.Nodup (["column","sign","row"]:List Str);decide +kernel) rfl (Or.inl rfl)) jZ)))) (fun _ _ _ _ _=>(qE (zQ QN (pv 1) (YO (v:=.str "#") (by rfl) T.Yy.choose_spec (by exact⟨_,rfl⟩)) (qc _)))) (fun _ _ _ _ _=>(yM (za (pv 2) (za (pv 0) zb))))) zb)))))
   (zf (zO (pv 1))))),?_⟩
  refine⟨(by show 0<=sizeLine;decide),fun d hd=>?_⟩
  have s0:zw H (upd H d (.lst [])):=ze hd
  refine⟨_,rfl,a,_,0,_,rfl,rfl,SqT.of (b.mono s0).tp,rfl,l,rfl,⟨_,SqL.of (b.mono s0).rw⟩,?_⟩
  refine Zc (K:=K) (l:=l) (xs:=rs.map V.str) (fun i σ H'=>∃(v2 v3:Option V) (ws:List V),σ=[some (.ref a),some (.ref d),v2,v3]/\zw H H'/\H' d=some (.lst ws)/\Cel H' ws (Cells.zP qh 0 ((codes rs).take i)))
   ⟨_,_,[],rfl,s0,zc,.nil⟩ (fun i σ H' _ ⟨_,_,_,_,s1,_⟩=>SqL.of (b.mono s1).rw) ?_ ?_
  ·rintro i x tt σ H1 hx htt ⟨v2,v3,ws,rfl,s1,hd1,hc1⟩
   rw [getElem?_map] at hx
   cases e:rs[i]? with
   | none =>
    rw [e] at hx
    cases hx
   | some t =>
    rw [e] at hx
    cases hx
    have hil:i<rs.length:=(List.getElem?_eq_some_iff.mp e).1
    have st:zw H1 (upd H1 tt (.tup [.int (i:Nat),.str t])):=ze htt
    refine⟨tt,_,rfl,SqT.of zc,rfl,_,_,rfl,_,_,rfl,rfl,?_⟩
    have hd2:upd H1 tt (.tup [.int (i:Nat),.str t]) d=some (.lst ws):=st _ _ hd1
    refine⟨_,rfl,.inl ⟨rfl,_,SqL.of hd2⟩,_,rfl,t,rfl,fun z hz=>?_⟩
    refine zgV (x:=t) (fun j σ H'=>∃(u0 u1:Option V) (ys:List V),σ=[u0,u1,some (.int (i:Nat))]/\zw (upd H1 tt (.tup [.int (i:Nat),.str t])) H'/\H' z=some (.lst ys)/\Cel H' ys (Cells.z4 qh i 0 (t.cps.toList.take j)))
     ⟨_,_,[],rfl,ze hz,zc,.nil⟩ ?_ ?_
    ·rintro j c t2 σ H2 hc ht2 ⟨u0,u1,ys,rfl,s2,hz2,hc2⟩
     refine⟨t2,_,rfl,SqT.of zc,rfl,_,_,rfl,_,_,rfl,rfl,?_⟩
     refine⟨_,rfl,rfl,_,rfl,?_⟩
     have hc':t.cps.toList[j]?=some c:=by rw [getElem?_toList];exact hc
     have s3:zw H2 (upd H2 t2 (.tup [.int (j:Nat),.str ⟨#[c]⟩])):=ze ht2
     have step:=Cells.Qu (p:=qh) (i:=i) hc'
     have ed:(!decide (V.str ⟨#[c]⟩=V.str "#"))=qh c:=by
      rw [Q5]
      simp only [Qw]
      rfl
     rw [ed]
     by_cases hp:qh c=true
     ·rw [hp] at step
      refine yN hp ?_
      refine⟨_,rfl,_,rfl,(by show 2<=sizeLine;decide),fun t3 ht3=>?_⟩
      have nz3:z≠t3:=zh (s3 _ _ hz2) ht3
      have s4:zw (upd H2 t2 (.tup [.int (j:Nat),.str ⟨#[c]⟩])) (upd (upd H2 t2 (.tup [.int (j:Nat),.str ⟨#[c]⟩])) t3 (.tup [.int (i:Nat),.int (j:Nat)])):=ze ht3
      have hlen:ys.length<=8:=by
       rw [hc2.length]
       refine le_trans (Cells.j3 _ _ _ _) ?_
       have:=R.short _ (mem_of_getElem? (jG e))
       rw [length_take]
       omega
      refine⟨ys,s4 _ _ (s3 _ _ hz2),lt_of_le_of_lt hlen (by decide),some (.int (j:Nat)),some (.str ⟨#[c]⟩),ys++[.ref t3],rfl,fun b' o e'=>?_,zc,?_⟩
      ·have hb:b'≠z:=fun y=>by
        subst y
        rw [hz] at e'
        cases e'
       rw [zj hb]
       exact s4 _ _ (s3 _ _ (s2 _ _ e'))
      ·rw [step]
       have keep:∀x o,x≠z->upd (upd H2 t2 (.tup [.int (j:Nat),.str ⟨#[c]⟩])) t3 (.tup [.int (i:Nat),.int (j:Nat)]) x=some o->upd (upd (upd H2 t2 (.tup [.int (j:Nat),.str ⟨#[c]⟩])) t3 (.tup [.int (i:Nat),.int (j:Nat)])) z (.lst (ys++[.ref t3])) x=some o:=fun x o hx e'=>by
        rw [zj hx]
        exact e'
       refine Cel.snoc ?_ ⟨t3,rfl,keep _ _ nz3.symm zc⟩
       exact Cel.into z (.lst (ys++[.ref t3])) (s4 _ _ (s3 _ _ hz2)) (Cel.mono s4 (Cel.mono s3 hc2))
     ·have hp':qh c=false:=by simpa using hp
      rw [hp'] at step
      refine yk hp' ?_
      refine⟨some (.int (j:Nat)),some (.str ⟨#[c]⟩),ys,rfl,s2.trans s3,s3 _ _ hz2,?_⟩
      rw [step]
      simpa using Cel.mono s3 hc2
    ·rintro σ H2 ⟨u0,u1,ys,rfl,s2,hz2,hc2⟩
     have hne:d≠z:=zh hd2 hz
     have hd3:H2 d=some (.lst ws):=s2 _ _ hd2
     have full:t.cps.toList.take t.cps.size=t.cps.toList:=by
      rw [<- length_toList,take_length]
     rw [full] at hc2
     have step:=Cells.Qv (p:=qh) (jG e)
     have l1:ws.length<=64:=by
      rw [hc1.length]
      refine le_trans (Cells.jv _ _ _ fun u hu=>R.short u (mem_of_mem_take hu)) ?_
      have:=R.hi
      rw [length_take,jm]
      omega
     have l2:ys.length<=8:=by
      rw [hc2.length]
      exact le_trans (Cells.j3 _ _ _ _) (R.short _ (mem_of_getElem? (jG e)))
     refine⟨d,z,ws,ys,rfl,rfl,hd3,hz2,le_trans (Nat.add_le_add l1 l2) (by decide),?_⟩
     refine⟨_,_,ws++ys,rfl,fun b' o e'=>?_,zc,?_⟩
     ·have hb:b'≠d:=fun y=>by
       subst y
       rw [hd] at e'
       cases e'
      rw [zj hb]
      exact s2 _ _ (st _ _ (s1 _ _ e'))
     ·rw [step]
      exact Cel.into d _ hd3 (Cel.append (Cel.mono s2 (Cel.mono st hc1)) hc2)
  ·rintro σ H1 ⟨v2,v3,ws,rfl,s1,hd1,hc1⟩
   rw [length_map,<- jm,take_length] at hc1
   exact⟨_,rfl,q d ws H1 hd hd1 hc1 s1⟩
end
theorem zmt (c:Nat):(qh c&&decide (c=63))=qJ c:=by
 unfold qh qJ
 by_cases h:c=63
 ·subst h
  rfl
 ·simp [h]
section
variable {P:Program}{w:World}{K:PySem.W.Frag}{mg:Str->Option Value}{base:Heap}{f:Addr}{fd:FuncData}
theorem zjB:zL ["board"] ["board"] (zg Zn):=⟨rfl,rfl,rfl,by decide +kernel,rfl,by decide +kernel,by decide +kernel⟩
theorem zdO {f1 f2:Addr}{fd1 fd2:FuncData}(T:Txt mg)(D:zo K mg "closed" Zn ["board"] f fd)(zC:zo K mg "cells_of" qB ["board"] f1 fd1)(zv:zo K mg "sign_at" qI ["board","cell"] f2 fd2) :
  zH P w K mg base CX0 2 f fd ["board"] (JE qJ):=by
 have Qx:zH P w K mg base CX0 1 f1 fd1 ["board"] (JE qh):=zbb T zC
 have yR:zH P w K mg base CX0 1 f2 fd2 ["board","cell"] zcc:=ZX zv
 refine D.F.ok zjB (fun vs H Q E h=>?_) (fun cdv A outer s H vs Q E hr h=>?_)
 ·obtain⟨a,l,rs,n,rfl,_⟩:=h
  rfl
 ·obtain⟨a,l,rs,n,rfl,b,R,q⟩:=h
  refine⟨_,(zf (zO (qm (N:=["cell","board"]) (src:=[none,some 0]) (zW.free (O:=(zg Zn).names) (XN:=["board"]) rfl rfl ⟨_,rfl⟩ rfl rfl (by decide +kernel) (by decide +kernel) (by decide +kernel) rfl (by decide +kernel)) rfl (zT (zp Qx (hr.mono (by decide)) (by rfl) zC.g zC.F.kp zC.b .nil zI (za (pv 0) zb))) (fun _ _ _ _ _=>(zm (i:=0) (by show List.Nodup (["cell","board"]:List Str);decide +kernel) rfl (Or.inl rfl))) (fun _ _ _ _ _=>(qE (zQ Js (zp yR (hr.mono (by decide)) (by rfl) zv.g zv.F.kp zv.b .nil zI (za (pv 1) (za (pv 0) zb))) (YO (v:=.str "?") (by rfl) T.J4.choose_spec (by exact⟨_,rfl⟩)) (qc _)))) (fun _ _ _ _ _=>(pv 0))))),?_⟩
  refine⟨_,rfl,a,l,rs,n,rfl,b,R,fun d ws H1 hd hd1 hc1 s1=>⟨d,rfl,⟨_,SqL.of hd1⟩,fun z hz=>?_⟩⟩
  have nz:d≠z:=zh hd1 hz
  refine qA (K:=K) (a:=d) (xs:=ws) (fun i σ H'=>∃(u0:Option V) (ys:List V),σ=[u0,some (.ref a)]/\zw H1 H'/\H' z=some (.lst ys)/\Cel H' ys (((Cells.zP qh 0 (codes rs)).take i).filter fun x=>decide (Cells.sgn (codes rs) x=63)))
   ⟨_,[],rfl,ze hz,zc,.nil⟩ (fun i σ H' _ ⟨_,_,_,s2,_⟩=>SqL.of (s2 _ _ hd1)) ?_ ?_
  ·rintro i x σ H2 hx ⟨u0,ys,rfl,s2,hz2,hc2⟩
   obtain⟨c,hci,ca,rfl,hca⟩:=Cel.get (Cel.mono s2 hc1) hx
   obtain⟨k0,j,u,k,ec,hk0,hj,hpc⟩:=Cells.Jm (mem_of_getElem? hci)
   obtain⟨t,ht,rfl⟩:=zaP hk0
   rw [zero_add] at ec
   subst ec
   refine⟨_,rfl,_,rfl,a,l,ca,rs,n,k0,j,t,k,rfl,(b.mono s1).mono s2,hca,ht,hj,R.tlen ht,rfl,_,rfl,?_⟩
   have es:Cells.sgn (codes rs) (k0,j)=k:=Cells.zeG hk0 hj
   have step:((Cells.zP qh 0 (codes rs)).take (i+1)).filter (fun x=>decide (Cells.sgn (codes rs) x=63))=((Cells.zP qh 0 (codes rs)).take i).filter (fun x=>decide (Cells.sgn (codes rs) x=63))++(if decide (k=63)=true then [(k0,j)] else []):=by
    rw [take_add_one,hci,filter_append]
    congr 1
    show List.filter _ [(k0,j)]=_
    rw [filter_cons]
    try dsimp only
    rw [es]
    split<;>rfl
   have ed:decide (V.str ⟨#[k]⟩=V.str "?")=decide (k=63):=by
    rw [ZW]
    simp only [Qw]
   rw [ed]
   by_cases hp:decide (k=63)=true
   ·rw [if_pos hp] at step
    refine yN hp ?_
    have hlen:ys.length<=64:=by
     rw [hc2.length]
     refine le_trans (length_filter_le _ _) ?_
     rw [length_take]
     have h1:=Cells.jv qh 0 (codes rs) R.short
     have h2:=R.hi
     rw [jm] at h1
     omega
    refine⟨_,rfl,ys,hz2,lt_of_le_of_lt hlen (by decide),_,ys++[.ref ca],rfl,fun b' o e'=>?_,zc,?_⟩
    ·have hb:b'≠z:=fun y=>by
      subst y
      rw [hz] at e'
      cases e'
     rw [zj hb]
     exact s2 _ _ e'
    ·rw [step]
     exact Cel.into z _ hz2 (Cel.snoc hc2 ⟨ca,rfl,hca⟩)
   ·rw [if_neg hp] at step
    refine yk (by simpa using hp) ?_
    refine⟨_,ys,rfl,s2,hz2,?_⟩
    rw [step]
    simpa using hc2
  ·rintro σ H2 ⟨u0,ys,rfl,s2,hz2,hc2⟩
   rw [hc1.length,take_length,Cells.all_filter (p:=qh) (q:=fun k=>decide (k=63)) (codes rs)] at hc2
   have hz0:H z=none:=s1.free hz
   exact q z ys H2 hz0 hz2 (by rw [Cells.zfM (q:=qJ) zmt] at hc2;exact hc2) (s1.trans s2)
end
section
variable {P:Program}{w:World}{K:PySem.W.Frag}{mg:Str->Option Value}{base:Heap}{f:Addr}{fd:FuncData}
theorem zc2:zL ["board"] ["board"] (zg qw):=⟨rfl,rfl,rfl,by decide +kernel,rfl,by decide +kernel,by decide +kernel⟩
theorem xu {f1 f2:Addr}{fd1 fd2:FuncData}(T:Txt mg)(D:zo K mg "open_cells" qw ["board"] f fd)(zC:zo K mg "cells_of" qB ["board"] f1 fd1)(zv:zo K mg "sign_at" qI ["board","cell"] f2 fd2) :
  zH P w K mg base CX0 2 f fd ["board"] (JE xV):=by
 have Qx:zH P w K mg base CX0 1 f1 fd1 ["board"] (JE qh):=zbb T zC
 have yR:zH P w K mg base CX0 1 f2 fd2 ["board","cell"] zcc:=ZX zv
 refine D.F.ok zc2 (fun vs H Q E h=>?_) (fun cdv A outer s H vs Q E hr h=>?_)
 ·obtain⟨a,l,rs,n,rfl,_⟩:=h
  rfl
 ·obtain⟨a,l,rs,n,rfl,b,R,q⟩:=h
  refine⟨_,(zf (zO (qm (N:=["cell","board"]) (src:=[none,some 0]) (zW.free (O:=(zg qw).names) (XN:=["board"]) rfl rfl ⟨_,rfl⟩ rfl rfl (by decide +kernel) (by decide +kernel) (by decide +kernel) rfl (by decide +kernel)) rfl (zT (zp Qx (hr.mono (by decide)) (by rfl) zC.g zC.F.kp zC.b .nil zI (za (pv 0) zb))) (fun _ _ _ _ _=>(zm (i:=0) (by show List.Nodup (["cell","board"]:List Str);decide +kernel) rfl (Or.inl rfl))) (fun _ _ _ _ _=>(qE (zQ QN (zp yR (hr.mono (by decide)) (by rfl) zv.g zv.F.kp zv.b .nil zI (za (pv 1) (za (pv 0) zb))) (YO (v:=.str "?") (by rfl) T.J4.choose_spec (by exact⟨_,rfl⟩)) (qc _)))) (fun _ _ _ _ _=>(pv 0))))),?_⟩
  refine⟨_,rfl,a,l,rs,n,rfl,b,R,fun d ws H1 hd hd1 hc1 s1=>⟨d,rfl,⟨_,SqL.of hd1⟩,fun z hz=>?_⟩⟩
  have nz:d≠z:=zh hd1 hz
  refine qA (K:=K) (a:=d) (xs:=ws) (fun i σ H'=>∃(u0:Option V) (ys:List V),σ=[u0,some (.ref a)]/\zw H1 H'/\H' z=some (.lst ys)/\Cel H' ys (((Cells.zP qh 0 (codes rs)).take i).filter fun x=>!decide (Cells.sgn (codes rs) x=63)))
   ⟨_,[],rfl,ze hz,zc,.nil⟩ (fun i σ H' _ ⟨_,_,_,s2,_⟩=>SqL.of (s2 _ _ hd1)) ?_ ?_
  ·rintro i x σ H2 hx ⟨u0,ys,rfl,s2,hz2,hc2⟩
   obtain⟨c,hci,ca,rfl,hca⟩:=Cel.get (Cel.mono s2 hc1) hx
   obtain⟨k0,j,u,k,ec,hk0,hj,hpc⟩:=Cells.Jm (mem_of_getElem? hci)
   obtain⟨t,ht,rfl⟩:=zaP hk0
   rw [zero_add] at ec
   subst ec
   refine⟨_,rfl,_,rfl,a,l,ca,rs,n,k0,j,t,k,rfl,(b.mono s1).mono s2,hca,ht,hj,R.tlen ht,rfl,_,rfl,?_⟩
   have es:Cells.sgn (codes rs) (k0,j)=k:=Cells.zeG hk0 hj
   have step:((Cells.zP qh 0 (codes rs)).take (i+1)).filter (fun x=>!decide (Cells.sgn (codes rs) x=63))=((Cells.zP qh 0 (codes rs)).take i).filter (fun x=>!decide (Cells.sgn (codes rs) x=63))++(if (!decide (k=63))=true then [(k0,j)] else []):=by
    rw [take_add_one,hci,filter_append]
    congr 1
    show List.filter _ [(k0,j)]=_
    rw [filter_cons]
    try dsimp only
    rw [es]
    split<;>rfl
   have ed:(!decide (V.str ⟨#[k]⟩=V.str "?"))=(!decide (k=63)):=by
    rw [ZW]
    simp only [Qw]
   rw [ed]
   by_cases hp:(!decide (k=63))=true
   ·rw [if_pos hp] at step
    refine yN hp ?_
    have hlen:ys.length<=64:=by
     rw [hc2.length]
     refine le_trans (length_filter_le _ _) ?_
     rw [length_take]
     have h1:=Cells.jv qh 0 (codes rs) R.short
     have h2:=R.hi
     rw [jm] at h1
     omega
    refine⟨_,rfl,ys,hz2,lt_of_le_of_lt hlen (by decide),_,ys++[.ref ca],rfl,fun b' o e'=>?_,zc,?_⟩
    ·have hb:b'≠z:=fun y=>by
      subst y
      rw [hz] at e'
      cases e'
     rw [zj hb]
     exact s2 _ _ e'
    ·rw [step]
     exact Cel.into z _ hz2 (Cel.snoc hc2 ⟨ca,rfl,hca⟩)
   ·rw [if_neg hp] at step
    refine yk (by simpa using hp) ?_
    refine⟨_,ys,rfl,s2,hz2,?_⟩
    rw [step]
    simpa using hc2
  ·rintro σ H2 ⟨u0,ys,rfl,s2,hz2,hc2⟩
   rw [hc1.length,take_length,Cells.all_filter (p:=qh) (q:=fun k=>(!decide (k=63))) (codes rs)] at hc2
   have hz0:H z=none:=s1.free hz
   exact q z ys H2 hz0 hz2 hc2 (s1.trans s2)
end
section
variable {P:Program}{w:World}{K:PySem.W.Frag}{mg:Str->Option Value}{base:Heap}{f:Addr}{fd:FuncData}
theorem zeI:zL ["board","cell"] ["board","cell"] (zg jV):=⟨rfl,rfl,rfl,by decide +kernel,rfl,by decide +kernel,by decide +kernel⟩
theorem zak {f1:Addr}{fd1:FuncData}(T:Txt mg)(D:zo K mg "number_at" jV ["board","cell"] f fd)(zv:zo K mg "sign_at" qI ["board","cell"] f1 fd1):zH P w K mg base CX0 2 f fd ["board","cell"] zcd:=by
 have yR:zH P w K mg base CX0 1 f1 fd1 ["board","cell"] zcc:=ZX zv
 refine D.F.ok zeI (fun vs H Q E h=>?_) (fun cdv A outer s H vs Q E hr h=>?_)
 ·obtain⟨p,l,c,rs,n,i,j,t,k,rfl,_⟩:=h
  rfl
 ·obtain⟨p,l,c,rs,n,i,j,t,k,rfl,b,hc,hi,hj,hl,k1,k2,q⟩:=h
  refine⟨_,(zf (zO (jk ZL (by rfl) T.zfW PyProof.Rows.boot_int (za (zp yR (hr.mono (by decide)) (by rfl) zv.g zv.F.kp zv.b .nil zI (za (pv 0) (za (pv 1) zb))) zb)))),?_⟩
  exact⟨_,rfl,_,rfl,p,l,c,rs,n,i,j,t,k,rfl,b,hc,hi,hj,hl,⟨#[k]⟩,_,rfl,int_sign k1 k2,(by show 1<=640;decide),q⟩
end
theorem zk5 {k:Nat}(h1:48<=k)(h2:k<=56):V.str (toString ((k:Int)-48))=V.str ⟨#[k]⟩:=by
 have:∀k∈List.range 57,48<=k->((toString ((k:Int)-48):String):Str)=⟨#[k]⟩:=by decide +kernel
 exact congrArg V.str (this k (List.mem_range.mpr (by omega)) h1)
theorem zaQ {k:Nat}(h:k∈bd.cps.toList)(hp:xV k=true):48<=k/\k<=56:=by
 have:∀k∈bd.cps.toList,xV k=true->48<=k/\k<=56:=by decide +kernel
 exact this k h hp
noncomputable def zM (rs:List Str)(y:Nat×Nat):List (Nat×Nat):=(Cells.zP qh 0 (codes rs)).filter fun x=>Cells.near x y
def Yz:Sp:=fun vs H Q _=>∃(p l ca:Addr) (rs:List Str) (n:Int) (i j:Nat),vs=[.ref p,.ref ca]/\qf H p l rs n/\Rows bd.cps.toList rs/\H ca=some (.tup [.int (i:Nat),.int (j:Nat)])/\i<64/\j<64 /\
 ∀(d:Addr) (ws:List V) (H':Hp),H d=none->H' d=some (.lst ws)->Cel H' ws (zM rs (i,j))->zw H H'->Q (.ref d) H'
theorem zfZ (i:Nat):(if (0:Int)>(i:Int)-1 then (0:Int) else (i:Int)-1)=((i-1:Nat):Int):=by
 split<;>omega
theorem zf0 (i m:Nat):(if ((m:Nat):Int)<(i:Int)+2 then ((m:Nat):Int) else (i:Int)+2)=((min (i+2) m:Nat):Int):=by
 split<;>omega
theorem zf1 {f:Nat×Nat->Bool}{l:List (Nat×Nat)}{x:Nat×Nat}(a:Bool):(l++(if a=true then [x] else [])).filter f=l.filter f++(if (a&&f x)=true then [x] else []):=by
 rw [filter_append]
 congr 1
 by_cases h:a=true
 ·by_cases h2:f x=true
  ·simp [h,h2]
  ·simp [h,h2]
 ·simp [h]
section
variable {P:Program}{w:World}{K:PySem.W.Frag}{mg:Str->Option Value}{base:Heap}{f:Addr}{fd:FuncData}
theorem Zr:zL ["board","cell","rows","found","row","column"] ["board","cell"] (zg jU):=⟨rfl,rfl,rfl,by decide +kernel,rfl,by decide +kernel,by decide +kernel⟩
theorem Y0 (T:Txt mg)(D:zo K mg "around" jU ["board","cell"] f fd):zH P w K mg base CX0 1 f fd ["board","cell"] Yz:=by
 refine D.F.ok Zr (fun vs H Q E h=>?_) (fun cdv A outer s H vs Q E hr h=>?_)
 ·obtain⟨p,l,ca,rs,n,i,j,rfl,_⟩:=h
  rfl
 ·obtain⟨p,l,ca,rs,n,i,j,rfl,b,R,hca,hi64,hj64,q⟩:=h
  refine⟨_,(zd (zB (i:=2) Zr.nd rfl (Or.inl rfl) (qx xO (pv 0) zq (fun _ _=>rfl)))
   (zd (zB (i:=3) Zr.nd rfl (Or.inl rfl) (qu zb))
   (zd (qo PassesOwn.never rfl (YQ (by rfl) T.qW (za (zx (Za rfl) (by rfl) T.zfX PyProof.Rows.boot_max (za (zD J2 (qx xO (pv 1) zq (fun _ _=>rfl)) zq) (za zq zb))) (za (zx (YS rfl) (by rfl) T.ziy PyProof.Rows.boot_min (za (zD qp (qx xO (pv 1) zq (fun _ _=>rfl)) zq) (za (zx zG (by rfl) T.jd PySem.boot_len (za (pv 2) zb)) zb))) zb))) (zm (i:=4) Zr.nd rfl (Or.inl rfl)) (zf (qo PassesOwn.never rfl (YQ (by rfl) T.qW (za (zx (Za rfl) (by rfl) T.zfX PyProof.Rows.boot_max (za (zD J2 (qx xO (pv 1) zq (fun _ _=>rfl)) zq) (za zq zb))) (za (zx (YS rfl) (by rfl) T.ziy PyProof.Rows.boot_min (za (zD qp (qx xO (pv 1) zq (fun _ _=>rfl)) zq) (za (zx yF (by rfl) T.jd PySem.boot_len (za (qx ju (pv 2) (pv 4) (fun _ _=>rfl)) zb)) zb))) zb))) (zm (i:=5) Zr.nd rfl (Or.inl rfl)) (zf (jA (PW.pt (zej (zQ QN (qx Yp (qx ju (pv 2) (pv 4) (fun _ _=>rfl)) (pv 5) (fun _ _=>rfl)) (YO (v:=.str "#") (by rfl) T.Yy.choose_spec (by exact⟨_,rfl⟩)) (qc _)) (zbq (zQ (ZK hr.units) (yM (za (pv 4) (za (pv 5) zb))) (pv 1) (qc _))))) (zf (yE (Jt PySem.F.plainAttrs_list PySem.F.slot_list_append PySem.F.type_list_append qY (pv 3) (za (yM (za (pv 4) (za (pv 5) zb))) zb)))) qk)))))
   (zf (zO (pv 3)))))),?_⟩
  refine⟨_,rfl,p,_,0,_,rfl,rfl,SqT.of b.tp,rfl,?_⟩
  refine⟨(by show 0<=sizeLine;decide),fun d hd=>?_⟩
  have s0:zw H (upd H d (.lst [])):=ze hd
  have r8:=R.hi
  refine⟨_,rfl,ca,_,0,_,rfl,rfl,SqT.of (s0 _ _ hca),rfl,_,_,rfl,rfl,_,_,rfl,_,rfl,ca,_,0,_,rfl,rfl,SqT.of (s0 _ _ hca),rfl,_,_,rfl,rfl,_,rfl,l,_,rfl,.inl (SqL.of (b.mono s0).rw),_,_,rfl,((i-1:Nat):Int),((min (i+2) rs.length:Nat):Int),?_,⟨by omega,by omega,by omega,by omega⟩,?_⟩
  ·show [V.int (if (0:Int)>(i:Int)-1 then (0:Int) else (i:Int)-1),V.int (if (((rs.map V.str).length:Nat):Int)<(i:Int)+2 then (((rs.map V.str).length:Nat):Int) else (i:Int)+2)]=_
   rw [length_map,zfZ,zf0]
  refine qz (lo:=((i-1:Nat):Int)) (fun k σ H'=>∃(v4 v5:Option V) (ws:List V),σ=[some (.ref p),some (.ref ca),some (.ref l),some (.ref d),v4,v5]/\zw H H'/\H' d=some (.lst ws)/\Cel H' ws ((Cells.zP qh 0 ((codes rs).take (i-1+k))).filter fun x=>Cells.near x (i,j)))
   ⟨_,_,[],rfl,s0,zc,?_⟩ ?_ ?_
  ·rw [Cells.zkQ]
   ·exact .nil
   ·intro r c hr'
    rw [Bool.eq_false_iff,ne_eq,Cells.Yu]
    rintro⟨⟨_,h2⟩,_⟩
    dsimp only at h2
    omega
  ·rintro k σ H1 hk ⟨v4,v5,ws,rfl,s1,hd1,hc1⟩
   have hrl:i-1+k<rs.length:=by omega
   have ecast:((i-1:Nat):Int)+(k:Nat)=((i-1+k:Nat):Int):=by omega
   rw [ecast]
   generalize hr0:i-1+k=r at *
   obtain⟨t,ht⟩:∃t,rs[r]?=some t:=⟨_,getElem?_eq_getElem hrl⟩
   have htl:t.length<=sizeLine:=R.tlen ht
   have ht8:t.cps.toList.length<=8:=R.short _ (mem_of_getElem? (jG ht))
   have hat:atI (rs.map V.str) ((r:Nat):Int)=some (V.str t):=QV (by rw [getElem?_map,ht];rfl)
   refine⟨_,rfl,ca,_,1,_,rfl,rfl,SqT.of (s1 _ _ hca),rfl,_,_,rfl,rfl,_,_,rfl,_,rfl,ca,_,1,_,rfl,rfl,SqT.of (s1 _ _ hca),rfl,_,_,rfl,rfl,_,rfl,_,rfl,l,_,_,_,rfl,rfl,SqL.of (b.mono s1).rw,hat,t,rfl,htl,_,_,rfl,((j-1:Nat):Int),((min (j+2) t.cps.size:Nat):Int),?_,⟨by omega,by omega,by omega,?_⟩,?_⟩
   ·show [V.int (if (0:Int)>(j:Int)-1 then (0:Int) else (j:Int)-1),V.int (if ((t.cps.size:Nat):Int)<(j:Int)+2 then ((t.cps.size:Nat):Int) else (j:Int)+2)]=_
    rw [zfZ,zf0]
   ·omega
   have hsz:t.cps.toList.length=t.cps.size:=length_toList
   refine qz (lo:=((j-1:Nat):Int)) (fun m σ H'=>∃(v5:Option V) (ws:List V),σ=[some (.ref p),some (.ref ca),some (.ref l),some (.ref d),some (.int (r:Nat)),v5]/\zw H H'/\H' d=some (.lst ws)/\Cel H' ws ((Cells.zP qh 0 ((codes rs).take r)).filter (fun x=>Cells.near x (i,j))++(Cells.z4 qh r 0 (t.cps.toList.take (j-1+m))).filter fun x=>Cells.near x (i,j)))
    ⟨_,ws,rfl,s1,hd1,?_⟩ ?_ ?_
   ·rw [Cells.zkR (t:=t.cps.toList),append_nil]
    ·exact hc1
    ·intro c hc'
     rw [Bool.eq_false_iff,ne_eq,Cells.Yu]
     rintro⟨_,⟨_,h2⟩,_⟩
     dsimp only at h2
     omega
   ·rintro m σ H2 hm ⟨v5,ws2,rfl,s2,hd2,hc2⟩
    have hcl:j-1+m<t.cps.size:=by omega
    have ecast2:((j-1:Nat):Int)+(m:Nat)=((j-1+m:Nat):Int):=by omega
    rw [ecast2]
    generalize hc0:j-1+m=c at *
    have hc0':j-1+(m+1)=c+1:=by omega
    obtain⟨k0,hk0⟩:∃k0,t.cps.toList[c]?=some k0:=⟨_,getElem?_eq_getElem (by omega)⟩
    have step:=Cells.Qu (p:=qh) (i:=r) hk0
    have step2:(Cells.z4 qh r 0 (t.cps.toList.take (c+1))).filter (fun x=>Cells.near x (i,j))=(Cells.z4 qh r 0 (t.cps.toList.take c)).filter (fun x=>Cells.near x (i,j))++(if (qh k0&&Cells.near (r,c) (i,j))=true then [(r,c)] else []):=by
     rw [step,zf1]
    have nr:Cells.near (r,c) (i,j)=!decide ((r,c)=(i,j)):=by
     rw [Bool.eq_iff_iff,Cells.Yu]
     simp only [not_eq_true',decide_eq_false_iff_not]
     constructor
     ·exact fun h=>h.2.2
     ·intro h
      refine⟨⟨?_,?_⟩,⟨?_,?_⟩,h⟩<;>(try dsimp only)<;>omega
    refine⟨_,rfl,_,rfl,l,_,_,_,rfl,rfl,SqL.of (b.mono s2).rw,hat,_,rfl,t,_,k0,rfl,rfl,htl,QV hk0,rfl,_,rfl,?_⟩
    have ed:(!decide (V.str ⟨#[k0]⟩=V.str "#"))=qh k0:=by
     rw [Q5]
     simp only [Qw]
     rfl
    rw [ed]
    by_cases hp:qh k0=true
    ·refine yN hp ?_
     refine⟨_,rfl,_,rfl,(by show 2<=sizeLine;decide),fun tp htp=>?_⟩
     have s3:zw H2 (upd H2 tp (.tup [.int (r:Nat),.int (c:Nat)])):=ze htp
     have hca3:=s3 _ _ (s2 _ _ hca)
     refine⟨_,rfl,_,_,Zq.rdv (c:=(r,c)) ⟨tp,rfl,zc⟩,Zq.rdv (c:=(i,j)) ⟨ca,rfl,hca3⟩,zjA _ _,_,rfl,?_⟩
     have ee:(if true=true then !PyData.eqv (zz (r,c)) (zz (i,j)) else PyData.eqv (zz (r,c)) (zz (i,j)))=Cells.near (r,c) (i,j):=by
      rw [zdN,nr]
      rfl
     rw [ee]
     rw [hp,Bool.true_and] at step2
     by_cases hn:Cells.near (r,c) (i,j)=true
     ·refine yN hn ?_
      rw [if_pos hn] at step2
      have hd3:=s3 _ _ hd2
      refine⟨_,rfl,.inl ⟨rfl,_,SqL.of hd3⟩,_,rfl,_,rfl,(by show 2<=sizeLine;decide),fun tq htq=>?_⟩
      have s4:zw (upd H2 tp (.tup [.int (r:Nat),.int (c:Nat)])) (upd (upd H2 tp (.tup [.int (r:Nat),.int (c:Nat)])) tq (.tup [.int (r:Nat),.int (c:Nat)])):=ze htq
      have hlen:ws2.length<=128:=by
       rw [hc2.length,length_append]
       have h1:=length_filter_le (fun x=>Cells.near x (i,j)) (Cells.zP qh 0 ((codes rs).take r))
       have h2:=length_filter_le (fun x=>Cells.near x (i,j)) (Cells.z4 qh r 0 (t.cps.toList.take c))
       have h3:=Cells.jv qh 0 ((codes rs).take r) fun u hu=>R.short u (mem_of_mem_take hu)
       have h4:=Cells.j3 qh r 0 (t.cps.toList.take c)
       rw [length_take,jm] at h3
       rw [length_take] at h4
       omega
      refine⟨d,_,_,rfl,rfl,s4 _ _ hd3,lt_of_le_of_lt hlen (by decide),?_⟩
      refine⟨_,ws2++[.ref tq],rfl,fun b' o e'=>?_,zc,?_⟩
      ·rw [zj (zh e' hd)]
       exact s4 _ _ (s3 _ _ (s2 _ _ e'))
      ·rw [hc0',step2,<- append_assoc]
       exact Cel.into d _ (s4 _ _ hd3) (Cel.snoc (Cel.mono s4 (Cel.mono s3 hc2)) ⟨tq,rfl,zc⟩)
     ·have hn':Cells.near (r,c) (i,j)=false:=by simpa using hn
      refine yk hn' ?_
      rw [if_neg hn,append_nil] at step2
      refine⟨_,ws2,rfl,s2.trans s3,s3 _ _ hd2,?_⟩
      rw [hc0',step2]
      exact Cel.mono s3 hc2
    ·have hp':qh k0=false:=by simpa using hp
     refine yk hp' ?_
     refine Qp ?_
     rw [hp',Bool.false_and,if_neg Bool.false_ne_true,append_nil] at step2
     refine⟨_,ws2,rfl,s2,hd2,?_⟩
     rw [hc0',step2]
     exact hc2
   ·rintro σ H2 ⟨v5,ws2,rfl,s2,hd2,hc2⟩
    refine⟨_,_,ws2,rfl,s2,hd2,?_⟩
    have full:(Cells.z4 qh r 0 (t.cps.toList.take (j-1+(((min (j+2) t.cps.size:Nat):Int)-((j-1:Nat):Int)).toNat))).filter (fun x=>Cells.near x (i,j))=(Cells.z4 qh r 0 t.cps.toList).filter fun x=>Cells.near x (i,j):=by
     by_cases hbig:t.cps.size<=j-1+(((min (j+2) t.cps.size:Nat):Int)-((j-1:Nat):Int)).toNat
     ·rw [take_of_length_le (by omega)]
     ·refine Cells.zjw fun c hc'=>?_
      rw [Bool.eq_false_iff,ne_eq,Cells.Yu]
      rintro⟨_,⟨h2,_⟩,_⟩
      dsimp only at h2
      omega
    rw [full] at hc2
    have e1:i-1+(k+1)=r+1:=by omega
    rw [e1,Cells.Qv (jG ht),filter_append]
    exact hc2
  ·rintro σ H1 ⟨v4,v5,ws,rfl,s1,hd1,hc1⟩
   have full:(Cells.zP qh 0 ((codes rs).take (i-1+(((min (i+2) rs.length:Nat):Int)-((i-1:Nat):Int)).toNat))).filter (fun x=>Cells.near x (i,j))=zM rs (i,j):=by
    by_cases hbig:rs.length<=i-1+(((min (i+2) rs.length:Nat):Int)-((i-1:Nat):Int)).toNat
    ·rw [take_of_length_le (by rw [jm];omega)]
     rfl
    ·refine Cells.zjv fun r c hr'=>?_
     rw [Bool.eq_false_iff,ne_eq,Cells.Yu]
     rintro⟨⟨h2,_⟩,_⟩
     dsimp only at h2
     omega
   rw [full] at hc1
   exact⟨_,rfl,q d ws H1 hd hd1 hc1 s1⟩
end
theorem Zq.rdn {N:Addr->Prop}{H:Hp}{v:V}{c:Nat×Nat}(h:Zq H v c):Rdn N H v (zz c):=by
 obtain⟨a,rfl,h⟩:=h
 exact .tup h (.cons (.int _) (.cons (.int _) .nil))
theorem Cel.rdn {N:Addr->Prop}{H:Hp}{vs:List V}{cs:List (Nat×Nat)}(hp:Cel H vs cs):zF N H vs (cs.map zz):=by
 induction hp with
 | nil=>exact .nil
 | cons h _ ih =>
  exact .cons (Zq.rdn h) ih
theorem Rdn.celR {N:Addr->Prop}{H:Hp}{v:V}{c:Nat×Nat}(h:Rdn N H v (zz c)):Zq H v c:=by
 cases h with
 | tup h t =>
  cases t with
  | cons a t =>
   cases a
   cases t with
   | cons b t =>
    cases b
    cases t
    exact⟨_,rfl,h⟩
theorem zF.cel {N:Addr->Prop}{H:Hp}:∀{cs:List (Nat×Nat)} {vs:List V},zF N H vs (cs.map zz)->Cel H vs cs
 | [],_,h=>by cases h;exact .nil
 | c::r,_,h=>by
  cases h with
  | cons a t=>exact .cons (Rdn.celR a) (zF.cel t)
theorem zF.bools {N:Addr->Prop}{H:Hp}:∀{bs:List Bool} {vs:List V},zF N H vs (bs.map PyData.bool)->vs=bs.map V.bl
 | [],_,h=>by cases h;rfl
 | b::r,_,h=>by
  cases h with
  | cons a t =>
   cases a
   rw [zF.bools t]
   rfl
theorem je {α:Type}(p:α->Bool)(g:α->PyData):∀cs:List α,(cs.map fun x=>if p x=true then some (g x) else none).filterMap id=(cs.filter p).map g
 | []=>rfl
 | c::r=>by
  rw [map_cons,filterMap_cons,filter_cons]
  by_cases h:p c=true
  ·rw [if_pos h,if_pos h]
   show g c::_=g c::_
   rw [je p g r]
  ·rw [if_neg h,if_neg h]
   exact je p g r
theorem Zs {α:Type}(g:α->PyData):∀cs:List α,(cs.map fun x=>some (g x)).filterMap id=cs.map g
 | []=>rfl
 | c::r=>by
  rw [map_cons,filterMap_cons]
  show g c::_=g c::_
  rw [Zs g r]
theorem xS {α β:Type}{g:α->β}{cs:List α}{i:Nat}{c:α}{o:β}(h:cs[i]?=some c)(ho:(cs.map g)[i]?=some o):o=g c:=by
 rw [getElem?_map,h] at ho
 exact(Option.some.inj ho).symm
noncomputable def clA (rs:List Str)(c:Nat×Nat):List (Nat×Nat):=(zM rs c).filter fun x=>decide (Cells.sgn (codes rs) x=63)
noncomputable def qb (rs:List Str):List (Nat×Nat):=Cells.zP qJ 0 (codes rs)
noncomputable def qd (rs:List Str):List (Nat×Nat):=Cells.zP xV 0 (codes rs)
noncomputable def jM (rs:List Str):List (Nat×Nat):=(qb rs).filter fun c=>!((qd rs).map fun o=>(zM rs o).any fun z=>decide (z=c)).any id
noncomputable def jr (rs:List Str):List (Nat×Nat):=((qd rs).filter fun o=>(clA rs o).isEmpty).filter fun o=>!decide (Cells.sgn (codes rs) o=48)
theorem jH {p:Nat->Bool}{rs:List Str}(R:Rows bd.cps.toList rs):(Cells.zP p 0 (codes rs)).length<=64:=by
 have h1:=Cells.jv p 0 (codes rs) R.short
 have h2:=R.hi
 rw [jm] at h1
 omega
theorem J5 {rs:List Str}(R:Rows bd.cps.toList rs)(c:Nat×Nat):(zM rs c).length<=64:=le_trans (length_filter_le _ _) (jH R)
theorem qe {p:Nat->Bool}{rs:List Str}{c:Nat×Nat}(h:c∈Cells.zP p 0 (codes rs)):∃t k,rs[c.1]?=some t/\t.cps.toList[c.2]?=some k/\p k=true/\Cells.sgn (codes rs) c=k:=by
 obtain⟨k0,j,u,k,ec,hk0,hj,hpc⟩:=Cells.Jm h
 obtain⟨t,ht,rfl⟩:=zaP hk0
 rw [zero_add] at ec
 subst ec
 exact⟨t,k,ht,hj,hpc,Cells.zeG hk0 hj⟩
theorem JF {rs:List Str}{c:Nat×Nat}{t:Str}{k:Nat}(R:Rows bd.cps.toList rs)(h1:rs[c.1]?=some t)(h2:t.cps.toList[c.2]?=some k):c.1<64/\c.2<64:=by
 have a:=(List.getElem?_eq_some_iff.mp h1).1
 have b:=(List.getElem?_eq_some_iff.mp h2).1
 have e:=R.hi
 have f:=R.short _ (mem_of_getElem? (jG h1))
 omega
theorem ziz {rs:List Str}{i j:Nat}{t:Str}{k:Nat}(R:Rows bd.cps.toList rs)(h1:rs[i]?=some t)(h2:t.cps.toList[j]?=some k):k∈bd.cps.toList:=by
 obtain⟨n,_,_,h⟩:=R.ex
 exact(h t (mem_of_getElem? h1)).mem k (mem_of_getElem? h2)
def zk6:Sp:=fun vs H Q _=>∃(p l ca:Addr) (rs:List Str) (n:Int) (c:Nat×Nat),vs=[.ref p,.ref ca]/\qf H p l rs n/\Rows bd.cps.toList rs/\H ca=some (.tup [.int (c.1:Nat),.int (c.2:Nat)])/\c.1<64/\c.2<64 /\
 ∀(d:Addr) (ws:List V) (H':Hp),H d=none->H' d=some (.lst ws)->Cel H' ws (clA rs c)->zw H H'->Q (.ref d) H'
def zdP (g:List Str->List (Nat×Nat)):Sp:=fun vs H Q _=>∃(a l:Addr) (rs:List Str) (n:Int),vs=[.ref a]/\qf H a l rs n/\Rows bd.cps.toList rs /\
 ∀(d:Addr) (ws:List V) (H':Hp),H d=none->H' d=some (.lst ws)->Cel H' ws (g rs)->zw H H'->Q (.ref d) H'
section
variable {P:Program}{w:World}{K:PySem.W.Frag}{mg:Str->Option Value}{base:Heap}{f:Addr}{fd:FuncData}
theorem zaR:zL ["board","cell"] ["board","cell"] (zg qK):=⟨rfl,rfl,rfl,by decide +kernel,rfl,by decide +kernel,by decide +kernel⟩
theorem Zt {f1 f2:Addr}{fd1 fd2:FuncData}(T:Txt mg)(D:zo K mg "closed_around" qK ["board","cell"] f fd)(zJ:zo K mg "around" jU ["board","cell"] f1 fd1)(zv:zo K mg "sign_at" qI ["board","cell"] f2 fd2) :
  zH P w K mg base CX0 2 f fd ["board","cell"] zk6:=by
 have JG:zH P w K mg base CX0 1 f1 fd1 ["board","cell"] Yz:=Y0 T zJ
 have yR:zH P w K mg base CX0 1 f2 fd2 ["board","cell"] zcc:=ZX zv
 refine D.F.ok zaR (fun vs H Q E h=>?_) (fun cdv A outer s H vs Q E hr h=>?_)
 ·obtain⟨p,l,ca,rs,n,c,rfl,_⟩:=h
  rfl
 ·obtain⟨p,l,ca,rs,n,c,rfl,b,R,hca,ci,cj,q⟩:=h
  refine⟨_,(zf (zO (qm (N:=["place","board"]) (src:=[none,some 0]) (zW.free (O:=(zg qK).names) (XN:=["board","cell"]) rfl rfl ⟨_,rfl⟩ rfl rfl (by decide +kernel) (by decide +kernel) (by decide +kernel) rfl (by decide +kernel)) rfl (zT (zp JG (hr.mono (by decide)) (by rfl) zJ.g zJ.F.kp zJ.b .nil zI (za (pv 0) (za (pv 1) zb)))) (fun _ _ _ _ _=>(zm (i:=0) (by show List.Nodup (["place","board"]:List Str);decide +kernel) rfl (Or.inl rfl))) (fun _ _ _ _ _=>(qE (zQ Js (zp yR (hr.mono (by decide)) (by rfl) zv.g zv.F.kp zv.b .nil zI (za (pv 1) (za (pv 0) zb))) (YO (v:=.str "?") (by rfl) T.J4.choose_spec (by exact⟨_,rfl⟩)) (qc _)))) (fun _ _ _ _ _=>(pv 0))))),?_⟩
  refine⟨_,rfl,_,rfl,p,l,ca,rs,n,c.1,c.2,rfl,b,R,hca,ci,cj,fun d ws H1 hd hd1 hc1 s1=>⟨d,rfl,⟨_,SqL.of hd1⟩,fun z hz=>?_⟩⟩
  refine qZ (K:=K) (a:=d) (xs:=ws) (fun a=>a≠z) ((zM rs c).map fun x=>if decide (Cells.sgn (codes rs) x=63)=true then some (zz x) else none) (fun σ=>∃u0,σ=[u0,some (.ref p)]) hz (fun _ h=>h) ⟨_,rfl⟩ (by rw [length_map];exact hc1.length.symm) (by rw [hc1.length];exact le_trans (J5 R c) (by decide)) (SqL.of hd1) ?_ ?_
  ·rintro k x o σ H2 hx ho s2 _ ⟨u0,rfl⟩ Y Z yes no
   obtain⟨y,hy,r1⟩:=Cel.get hc1 hx
   have eo:=xS hy ho
   obtain⟨t,sg,ht,hj,_,es⟩:=qe (List.mem_filter.mp (mem_of_getElem? hy)).1
   obtain⟨ya,rfl,hya⟩:=r1
   refine⟨_,rfl,_,rfl,p,l,ya,rs,n,y.1,y.2,t,sg,rfl,(b.mono s1).mono s2,s2 _ _ hya,ht,hj,R.tlen ht,rfl,_,rfl,?_⟩
   have ed:decide (V.str ⟨#[sg]⟩=V.str "?")=decide (sg=63):=by
    rw [ZW]
    simp only [Qw]
   rw [ed]
   rw [es] at eo
   by_cases hp:sg=63
   ·rw [decide_eq_true hp]
    rw [if_pos (decide_eq_true hp)] at eo
    exact Qd ⟨_,rfl,yes _ _ _ _ eo ⟨_,rfl⟩ (zw.refl _) (Zq.rdn ⟨ya,rfl,s2 _ _ hya⟩)⟩
   ·rw [decide_eq_false hp]
    rw [if_neg (by rw [decide_eq_false hp];exact Bool.false_ne_true)] at eo
    exact Qp (no _ _ eo ⟨_,rfl⟩ (zw.refl _))
  ·rintro ys H2 s2 hz2 hr2
   rw [je] at hr2
   exact q z ys H2 (s1.free hz) hz2 (zF.cel hr2) (s1.trans s2)
theorem zf2 (cs:List (Nat×Nat)):PyData.canLayAll0 (cs.map zz)=true:=by
 induction cs with
 | nil=>rfl
 | cons c r ih =>
  show (PyData.canLay0 (zz c)&&PyData.canLayAll0 (r.map zz))=true
  rw [ih]
  rfl
theorem znO (cs:List (Nat×Nat)):PyData.depthAll (cs.map zz)<=1:=by
 induction cs with
 | nil=>exact zero_le _
 | cons c r ih =>
  show max (PyData.depth (zz c)) (PyData.depthAll (r.map zz))<=1
  have:PyData.depth (zz c)=1:=rfl
  omega
theorem zeJ (cs ds:List (Nat×Nat)):zi7 (.list (cs.map zz)) (.list (ds.map zz)):=⟨zf2 cs,zf2 ds,by
 show PyData.depthAll (cs.map zz)+1<=64
 have:=znO cs
 omega⟩
theorem Zu (cs:List (Nat×Nat))(c:Nat×Nat):(cs.map zz).any (fun z=>PyData.eqv z (zz c))=cs.any fun z=>decide (z=c):=by
 rw [any_map]
 congr 1
 funext z
 exact zdN z c
theorem eq_nil (cs:List (Nat×Nat)):PyData.eqv (.list (cs.map zz)) (.list [])=cs.isEmpty:=by
 cases cs<;>rfl
theorem zk7:zL ["board","told"] ["board"] (zg zfT):=⟨rfl,rfl,rfl,by decide +kernel,rfl,by decide +kernel,by decide +kernel⟩
theorem zk8 {f1 f2 f3 f4 f5:Addr}{fd1 fd2 fd3 fd4 fd5:FuncData}(T:Txt mg)(D:zo K mg "far" zfT ["board"] f fd)(zJ:zo K mg "around" jU ["board","cell"] f1 fd1)(zv:zo K mg "sign_at" qI ["board","cell"] f2 fd2)
  (zC:zo K mg "cells_of" qB ["board"] f3 fd3) (jD:zo K mg "closed" Zn ["board"] f4 fd4) (zu:zo K mg "open_cells" qw ["board"] f5 fd5):zH P w K mg base CX0 3 f fd ["board"] (zdP jM):=by
 have JG:zH P w K mg base CX0 1 f1 fd1 ["board","cell"] Yz:=Y0 T zJ
 have zce:zH P w K mg base CX0 2 f4 fd4 ["board"] (JE qJ):=zdO T jD zC zv
 have jx:zH P w K mg base CX0 2 f5 fd5 ["board"] (JE xV):=xu T zu zC zv
 refine D.F.ok zk7 (fun vs H Q E h=>?_) (fun cdv A outer s H vs Q E hr h=>?_)
 ·obtain⟨a,l,rs,n,rfl,_⟩:=h
  rfl
 ·obtain⟨a,l,rs,n,rfl,b,R,q⟩:=h
  refine⟨_,(zd (zB (i:=1) zk7.nd rfl (Or.inr rfl) (qm (N:=["cell","board"]) (src:=[none,some 0]) (zW.free (O:=(zg zfT).names) (XN:=["board","told"]) rfl rfl ⟨_,rfl⟩ rfl rfl (by decide +kernel) (by decide +kernel) (by decide +kernel) rfl (by decide +kernel)) rfl (zT (zp jx (hr.mono (by decide)) (by rfl) zu.g zu.F.kp zu.b .nil zI (za (pv 0) zb))) (fun _ _ _ _ _=>(zm (i:=0) (by show List.Nodup (["cell","board"]:List Str);decide +kernel) rfl (Or.inl rfl))) (fun _ _ _ _ _=>qS) (fun _ _ _ _ _=>(zp JG (hr.mono (by decide)) (by rfl) zJ.g zJ.F.kp zJ.b .nil zI (za (pv 1) (za (pv 0) zb))))))
   (zf (zO (zki (N:=["cell","told"]) (src:=[none,some 1]) (ZP.byRfl (y:="cell") rfl (fun _ _=>rfl) (fun _=>rfl) (by decide +kernel) (by decide +kernel) (by rfl) rfl (by rfl)) rfl (zT (zp zce (hr.mono (by decide)) (by rfl) jD.g jD.F.kp jD.b .nil zI (za (pv 0) zb))) (fun _ _ _ _ _=>(zm (i:=0) (by show List.Nodup (["cell","told"]:List Str);decide +kernel) rfl (Or.inr rfl))) (fun _ _ _ _ _=>(qE (zaz (zaC (K:=K) (by rfl) (zx (zdu (K:=K) (by rfl) (by rfl)) (by rfl) T.zk1 PyProof.Rows.boot_any (za (qm (N:=["near","cell"]) (src:=[none,some 0]) (zW.byRfl rfl (by decide +kernel) (by decide +kernel) (by rfl) rfl (by rfl)) (by rfl) (zfu (K:=K) (by rfl) (pv 1)) (fun _ _ _ _ _=>(zm (i:=0) (by show List.Nodup (["near","cell"]:List Str);decide +kernel) rfl (Or.inl rfl))) (fun _ _ _ _ _=>qS) (fun _ _ _ _ _=>(YR (jP (K:=K) (by rfl) hr.units) (pv 1) (pv 0) (by rfl)))) zb)) (fun _=>rfl))))) (fun _ _ _ _ _=>(pv 0)))))),?_⟩
  refine⟨_,rfl,a,l,rs,n,rfl,b,R,fun d ws H1 hd hd1 hc1 s1=>⟨d,rfl,⟨_,SqL.of hd1⟩,fun z hz=>?_⟩⟩
  have b1:=b.mono s1
  refine qZ (K:=K) (a:=d) (xs:=ws) (fun a=>a≠z) ((qd rs).map fun o=>some (.list ((zM rs o).map zz))) (fun σ=>∃u0,σ=[u0,some (.ref a)]) hz (fun _ h=>h) ⟨_,rfl⟩ (by rw [length_map];exact hc1.length.symm) (by rw [hc1.length];exact le_trans (jH R) (by decide)) (SqL.of hd1) ?_ ?_
  ·rintro k x o σ H2 hx ho s2 hzn ⟨u0,rfl⟩ Y Z yes no
   obtain⟨y,hy,r1⟩:=Cel.get hc1 hx
   have eo:=xS hy ho
   obtain⟨t,sg,ht,hj,_,es⟩:=qe (mem_of_getElem? hy)
   obtain⟨ya,rfl,hya⟩:=r1
   obtain⟨l1,l2⟩:=JF R ht hj
   refine ZN ⟨_,rfl,_,rfl,a,l,ya,rs,n,y.1,y.2,rfl,b1.mono s2,R,s2 _ _ hya,l1,l2,fun d2 ws2 H3 hd2 hd3 hc2 s3=>?_⟩
   refine yes _ _ _ _ eo ⟨_,rfl⟩ s3 (.lst (fun e=>hzn (e ▸ hd2)) hd3 (Cel.rdn hc2))
  ·rintro ys H2 s2 hz2 hr2
   rw [Zs] at hr2
   have b2:=b1.mono s2
   refine⟨_,rfl,a,l,rs,n,rfl,b2,R,fun d3 ws3 H3 hd3 hd4 hc3 s3=>⟨d3,rfl,⟨_,SqL.of hd4⟩,fun z3 hz3=>?_⟩⟩
   have hz4:=s3 _ _ hz2
   have hr3:=hr2.keep s3
   refine qZ (K:=K) (a:=d3) (xs:=ws3) (fun a=>a≠z3) ((qb rs).map fun c=>if (!((qd rs).map fun o=>(zM rs o).any fun z=>decide (z=c)).any id)=true then some (zz c) else none) (fun σ=>∃u0,σ=[u0,some (.ref z)]) hz3 (fun _ h=>h) ⟨_,rfl⟩ (by rw [length_map];exact hc3.length.symm) (by rw [hc3.length];exact le_trans (jH R) (by decide)) (SqL.of hd4) ?_ ?_
   ·rintro k x o σ H4 hx ho s4 _ ⟨u0,rfl⟩ Y Z yes no
    obtain⟨y,hy,r1⟩:=Cel.get hc3 hx
    have eo:=xS hy ho
    have r2:Zq H4 x y:=by
     obtain⟨ya,e,hya⟩:=r1
     exact⟨ya,e,s4 _ _ hya⟩
    refine⟨_,rfl,z,rfl,⟨_,SqL.of (s4 _ _ hz4)⟩,fun z5 hz5=>?_⟩
    have hyl:ys.length=(qd rs).length:=by rw [hr2.length,length_map]
    refine qZ (K:=K) (a:=z) (xs:=ys) (fun a=>a≠z5) ((qd rs).map fun o=>some (.bool ((zM rs o).any fun z=>decide (z=y)))) (fun σ=>∃u0,σ=[u0,some x]) hz5 (fun _ h=>h) ⟨_,rfl⟩ (by rw [length_map];exact hyl.symm) (by rw [hyl];exact le_trans (jH R) (by decide)) (SqL.of (s4 _ _ hz4)) ?_ ?_
    ·rintro m v o2 σ H5 hv ho2 s5 _ ⟨u1,rfl⟩ Y2 Z2 yes2 no2
     obtain⟨dv,hdv,rv⟩:=hr3.get hv
     rw [getElem?_map] at hdv
     cases eoc:(qd rs)[m]? with
     | none=>rw [eoc] at hdv;cases hdv
     | some oc =>
      rw [eoc] at hdv
      cases hdv
      have eo2:=xS eoc ho2
      have r3:Zq H5 x y:=by
       obtain⟨ya,e,hya⟩:=r2
       exact⟨ya,e,s5 _ _ hya⟩
      refine ZN ⟨_,rfl,_,rfl,zz y,(zM rs oc).map zz,r3.rdv,(((rv.keep s4).keep s5).rdv),rfl,zf2 _,(by show 1<=60;decide),?_⟩
      have ei:(if false=true then !((zM rs oc).map zz).any (fun z=>PyData.eqv z (zz y)) else ((zM rs oc).map zz).any fun z=>PyData.eqv z (zz y))=(zM rs oc).any fun z=>decide (z=y):=Zu _ _
      rw [ei]
      exact yes2 _ _ _ _ eo2 ⟨_,rfl⟩ (zw.refl _) (.bl _)
    ·rintro ys5 H5 s5 hz6 hr5
     rw [Zs,show ((qd rs).map fun o=>PyData.bool ((zM rs o).any fun z=>decide (z=y)))=((qd rs).map fun o=>(zM rs o).any fun z=>decide (z=y)).map PyData.bool by rw [map_map];rfl] at hr5
     rw [zF.bools hr5] at hz6
     refine⟨z5,_,rfl,SqL.of hz6,_,rfl,?_⟩
     by_cases hp:(!((qd rs).map fun o=>(zM rs o).any fun z=>decide (z=y)).any id)=true
     ·rw [if_pos hp] at eo
      refine yN hp ⟨_,rfl,yes _ _ _ _ eo ⟨_,rfl⟩ s5 (Zq.rdn ?_)⟩
      obtain⟨ya,e,hya⟩:=r2
      exact⟨ya,e,s5 _ _ hya⟩
     ·rw [if_neg hp] at eo
      exact yk (by simpa using hp) (no _ _ eo ⟨_,rfl⟩ s5)
   ·rintro ys4 H4 s4 hz6 hr4
    rw [je] at hr4
    exact q z3 ys4 H4 (s1.free (s2.free (s3.free hz3))) hz6 (zF.cel hr4) (((s1.trans s2).trans s3).trans s4)
theorem Qi:zL ["board","bare"] ["board"] (zg j6):=⟨rfl,rfl,rfl,by decide +kernel,rfl,by decide +kernel,by decide +kernel⟩
theorem Qj {f1 f2 f3 f4 f5 f6:Addr}{fd1 fd2 fd3 fd4 fd5 fd6:FuncData}(T:Txt mg)(D:zo K mg "bare_wrong" j6 ["board"] f fd)(zJ:zo K mg "around" jU ["board","cell"] f1 fd1)(zv:zo K mg "sign_at" qI ["board","cell"] f2 fd2)
  (zC:zo K mg "cells_of" qB ["board"] f3 fd3) (zK:zo K mg "closed_around" qK ["board","cell"] f4 fd4) (zu:zo K mg "open_cells" qw ["board"] f5 fd5) (zU:zo K mg "number_at" jV ["board","cell"] f6 fd6):zH P w K mg base CX0 3 f fd ["board"] (zdP jr):=by
 have xT:zH P w K mg base CX0 2 f4 fd4 ["board","cell"] zk6:=Zt T zK zJ zv
 have jx:zH P w K mg base CX0 2 f5 fd5 ["board"] (JE xV):=xu T zu zC zv
 have YA:zH P w K mg base CX0 2 f6 fd6 ["board","cell"] zcd:=zak T zU zv
 refine D.F.ok Qi (fun vs H Q E h=>?_) (fun cdv A outer s H vs Q E hr h=>?_)
 ·obtain⟨a,l,rs,n,rfl,_⟩:=h
  rfl
 ·obtain⟨a,l,rs,n,rfl,b,R,q⟩:=h
  refine⟨_,(zd (ZO (i:=1) Qi.nd rfl rfl (N:=["cell","board"]) (src:=[none,some 0]) (zW.free (O:=(zg j6).names) (XN:=["board","bare"]) rfl rfl ⟨_,rfl⟩ rfl rfl (by decide +kernel) (by decide +kernel) (by decide +kernel) rfl (by decide +kernel)) rfl (zT (zp jx (hr.mono (by decide)) (by rfl) zu.g zu.F.kp zu.b .nil zI (za (pv 0) zb))) (fun _ _ _ _ _=>(zm (i:=0) (by show List.Nodup (["cell","board"]:List Str);decide +kernel) rfl (Or.inl rfl))) (fun _ _ _ _ _=>(qE (zQ (zfp (K:=K) (by rfl) hr.units) (zp xT (hr.mono (by decide)) (by rfl) zK.g zK.F.kp zK.b .nil zI (za (pv 1) (za (pv 0) zb))) (qu zb) (qc _)))) (fun _ _ _ _ _=>(pv 0)))
   (zf (zO (qm (N:=["cell","board"]) (src:=[none,some 0]) (zW.free (O:=(zg j6).names) (XN:=["board","bare"]) rfl rfl ⟨_,rfl⟩ rfl rfl (by decide +kernel) (by decide +kernel) (by decide +kernel) rfl (by decide +kernel)) rfl (zT (pv 1)) (fun _ _ _ _ _=>(zm (i:=0) (by show List.Nodup (["cell","board"]:List Str);decide +kernel) rfl (Or.inl rfl))) (fun _ _ _ _ _=>(qE (zQ QN (zp YA (hr.mono (by decide)) (by rfl) zU.g zU.F.kp zU.b .nil zI (za (pv 1) (za (pv 0) zb))) zq (qc _)))) (fun _ _ _ _ _=>(pv 0)))))),?_⟩
  refine⟨_,rfl,a,l,rs,n,rfl,b,R,fun d ws H1 hd hd1 hc1 s1=>⟨d,rfl,⟨_,SqL.of hd1⟩,fun z hz=>?_⟩⟩
  have b1:=b.mono s1
  refine qZ (K:=K) (a:=d) (xs:=ws) (fun a=>a≠z) ((qd rs).map fun o=>if (clA rs o).isEmpty=true then some (zz o) else none) (fun σ=>∃u0,σ=[u0,some (.ref a)]) hz (fun _ h=>h) ⟨_,rfl⟩ (by rw [length_map];exact hc1.length.symm) (by rw [hc1.length];exact le_trans (jH R) (by decide)) (SqL.of hd1) ?_ ?_
  ·rintro k x o σ H2 hx ho s2 hzn ⟨u0,rfl⟩ Y Z yes no
   obtain⟨y,hy,r1⟩:=Cel.get hc1 hx
   have eo:=xS hy ho
   obtain⟨t,sg,ht,hj,_,es⟩:=qe (mem_of_getElem? hy)
   obtain⟨ya,rfl,hya⟩:=r1
   obtain⟨l1,l2⟩:=JF R ht hj
   refine⟨_,rfl,_,rfl,a,l,ya,rs,n,y,rfl,b1.mono s2,R,s2 _ _ hya,l1,l2,fun d2 ws2 H3 hd2 hd3 hc2 s3=>⟨(by show 0<=sizeLine;decide),fun e he=>?_⟩⟩
   have s4:=ze (o:=.lst []) he
   refine⟨.list ((clA rs y).map zz),.list [],.lst (SqL.of (s4 _ _ hd3)) (zF.rdv (N:=fun _=>True) (Cel.rdn (Cel.mono s4 hc2))),.lst (SqL.of zc) .nil,zeJ _ [],_,rfl,?_⟩
   have ee:(if false=true then !PyData.eqv (.list ((clA rs y).map zz)) (.list []) else PyData.eqv (.list ((clA rs y).map zz)) (.list []))=(clA rs y).isEmpty:=eq_nil _
   rw [ee]
   by_cases hp:(clA rs y).isEmpty=true
   ·rw [if_pos hp] at eo
    exact yN hp ⟨_,rfl,yes _ _ _ _ eo ⟨_,rfl⟩ (s3.trans s4) (Zq.rdn ⟨ya,rfl,s4 _ _ (s3 _ _ (s2 _ _ hya))⟩)⟩
   ·rw [if_neg hp] at eo
    exact yk (by simpa using hp) (no _ _ eo ⟨_,rfl⟩ (s3.trans s4))
  ·rintro ys H2 s2 hz2 hr2
   rw [je] at hr2
   have hc2:=zF.cel hr2
   have b2:=b1.mono s2
   refine⟨_,rfl,z,rfl,⟨_,SqL.of hz2⟩,fun z3 hz3=>?_⟩
   refine qZ (K:=K) (a:=z) (xs:=ys) (fun a=>a≠z3) (((qd rs).filter fun o=>(clA rs o).isEmpty).map fun o=>if (!decide (Cells.sgn (codes rs) o=48))=true then some (zz o) else none) (fun σ=>∃u0,σ=[u0,some (.ref a)]) hz3 (fun _ h=>h) ⟨_,rfl⟩ (by rw [length_map];exact hc2.length.symm) (by rw [hc2.length];exact le_trans (length_filter_le _ _) (le_trans (jH R) (by decide))) (SqL.of hz2) ?_ ?_
   ·rintro k x o σ H4 hx ho s4 _ ⟨u0,rfl⟩ Y Z yes no
    obtain⟨y,hy,r1⟩:=Cel.get hc2 hx
    have eo:=xS hy ho
    obtain⟨t,sg,ht,hj,hpo,es⟩:=qe (List.mem_filter.mp (mem_of_getElem? hy)).1
    obtain⟨ya,rfl,hya⟩:=r1
    obtain⟨k1,k2⟩:=zaQ (ziz R ht hj) hpo
    refine⟨_,rfl,_,rfl,a,l,ya,rs,n,y.1,y.2,t,sg,rfl,b2.mono s4,s4 _ _ hya,ht,hj,R.tlen ht,k1,k2,rfl,_,rfl,?_⟩
    have ed:(!decide (V.int ((sg:Int)-48)=V.int 0))=!decide (Cells.sgn (codes rs) y=48):=by
     rw [es,zek]
     congr 1
     by_cases h:sg=48
     ·rw [decide_eq_true h,h]
      rfl
     ·rw [decide_eq_false h]
      simp only [beq_eq_false_iff_ne,ne_eq]
      omega
    rw [ed]
    by_cases hp:(!decide (Cells.sgn (codes rs) y=48))=true
    ·rw [if_pos hp] at eo
     exact yN hp ⟨_,rfl,yes _ _ _ _ eo ⟨_,rfl⟩ (zw.refl _) (Zq.rdn ⟨ya,rfl,s4 _ _ hya⟩)⟩
    ·rw [if_neg hp] at eo
     exact yk (by simpa using hp) (no _ _ eo ⟨_,rfl⟩ (zw.refl _))
   ·rintro ys4 H4 s4 hz6 hr4
    rw [je] at hr4
    exact q z3 ys4 H4 (s1.free (s2.free hz3)) hz6 (zF.cel hr4) ((s1.trans s2).trans s4)
end
theorem zk9 {K:PySem.W.Frag}{H:Hp}{vs:List V}{cs:List (Nat×Nat)}(hp:Cel H vs cs):xP K H vs (cs.map zz):=by
 induction hp with
 | nil=>exact .nil
 | cons h _ ih =>
  exact .cons (Zq.rdv h) ih
noncomputable def toI (c:Nat×Nat):Int×Int:=(((c.1:Nat):Int),((c.2:Nat):Int))
noncomputable def ofI (p:Int×Int):Nat×Nat:=(p.1.toNat,p.2.toNat)
theorem ziA (c:Nat×Nat):ofI (toI c)=c:=rfl
theorem zmu {c d:Nat×Nat}(h:toI c=toI d):c=d:=by rw [<- ziA c,h,ziA]
theorem zmv {c d:Nat×Nat}:lt2 (toI c) (toI d)=true↔Cells.lex c d:=by
 obtain⟨a,b⟩:=c
 obtain⟨x,y⟩:=d
 unfold lt2 Cells.lex
 show (if ((a:Nat):Int)=((x:Nat):Int) then decide (((b:Nat):Int)<((y:Nat):Int)) else decide (((a:Nat):Int)<((x:Nat):Int)))=true↔a<x\/(a=x/\b<y)
 by_cases e:a=x
 ·rw [if_pos (by omega),decide_eq_true_eq]
  omega
 ·rw [if_neg (by omega),decide_eq_true_eq]
  omega
theorem Cel.tup2 {H:Hp}{vs:List V}{cs:List (Nat×Nat)}(hp:Cel H vs cs):yO H vs (cs.map toI):=by
 induction hp with
 | nil=>exact .nil
 | cons q _ ih =>
  obtain⟨a,e,h⟩:=q
  exact .cons ⟨a,e,h⟩ ih
theorem JU {H:Hp}:∀{cs:List (Nat×Nat)} {vs:List V},yO H vs (cs.map toI)->Cel H vs cs
 | [],_,.nil=>.nil
 | _::_,_,.cons ⟨a,e,h⟩ t=>.cons ⟨a,e,h⟩ (JU t)
theorem zmw {ps:List (Int×Int)}{cs:List (Nat×Nat)}(h:ps.Perm (cs.map toI)):∃ds:List (Nat×Nat),ps=ds.map toI/\ds.Perm cs:=by
 refine⟨ps.map ofI,?_,?_⟩
 ·rw [map_map]
  refine(map_id ps).symm.trans (map_congr_left fun p hp=>?_)
  obtain⟨c,_,rfl⟩:=List.mem_map.mp (h.mem_iff.mp hp)
  rfl
 ·have:=h.map ofI
  rw [map_map] at this
  have e:cs.map (ofI∘toI)=cs:=(map_congr_left fun c _=>ziA c).trans (map_id cs)
  rwa [e] at this
theorem znP {cs:List (Nat×Nat)}(h:Up2 (cs.map toI)):cs.Pairwise Cells.lex:=by
 unfold Up2 at h
 rw [List.pairwise_map] at h
 exact h.imp fun z=>zmv.mp z
theorem yS {cs:List (Nat×Nat)}(h:cs.Pairwise Cells.lex):cs.Nodup:=h.imp fun {a b} z e=>by
 subst e
 unfold Cells.lex at z
 omega
def zjC (H:Hp)(v:V)(g:List (Nat×Nat)):Prop:=∃a us,v=V.ref a/\H a=some (.lst us)/\Cel H us g
def yq (H:Hp):List V->List (List (Nat×Nat))->Prop:=Paired (zjC H)
theorem zjC.mono {H H':Hp}{v:V}{g:List (Nat×Nat)}(s:zw H H')(h:zjC H v g):zjC H' v g:=by
 obtain⟨a,us,e,h1,h2⟩:=h
 exact⟨a,us,e,s _ _ h1,h2.mono s⟩
theorem yq.mono {H H':Hp}(s:zw H H'){vs:List V}{gs:List (List (Nat×Nat))}(hp:yq H vs gs):yq H' vs gs:=by
 induction hp with
 | nil=>exact .nil
 | cons h _ ih =>
  exact .cons (h.mono s) ih
theorem yq.get {H:Hp}:∀{vs:List V} {gs:List (List (Nat×Nat))} {i:Nat} {v:V},yq H vs gs->vs[i]?=some v->∃g,gs[i]?=some g/\zjC H v g
 | _,_,_,_,.nil,e=>by simp at e
 | _,_,0,_,.cons r _,e=>by
  simp at e
  subst e
  exact⟨_,rfl,r⟩
 | _,_,i+1,v,.cons _ t,e=>by
  obtain⟨c,h1,h2⟩:=yq.get (i:=i) (v:=v) t (by simpa using e)
  exact⟨c,by simpa using h1,h2⟩
theorem yq.length {H:Hp}{vs:List V}{gs:List (List (Nat×Nat))}(h:yq H vs gs):vs.length=gs.length:=Paired.length h
theorem yq.snoc {H:Hp}{vs:List V}{gs:List (List (Nat×Nat))}{v:V}{g:List (Nat×Nat)}(h:yq H vs gs)(x:zjC H v g):yq H (vs++[v]) (gs++[g]):=Paired.snoc h x
noncomputable def lD (g:List (Nat×Nat)):PyData:=.list (g.map zz)
theorem zdQ {p q:Nat->Bool}(h:∀c,p c=true->q c=false)(i:Nat):∀(j:Nat) (t:List Nat),(Cells.z4 p i j t).length+(Cells.z4 q i j t).length<=t.length
 | _,[]=>le_refl _
 | j,c::r=>by
  have ih:=zdQ h i (j+1) r
  rw [Cells.z4,Cells.z4,length_append,length_append,length_cons]
  by_cases hp:p c=true
  ·rw [if_pos hp,if_neg (by rw [h c hp];exact Bool.false_ne_true)]
   simp only [length_cons,length_nil]
   omega
  ·rw [if_neg hp]
   split<;>simp only [length_cons,length_nil]<;>omega
theorem zdR {p q:Nat->Bool}(h:∀c,p c=true->q c=false):∀(i:Nat) (rs:List (List Nat)),(∀t∈rs,t.length<=8)->(Cells.zP p i rs).length+(Cells.zP q i rs).length<=8*rs.length
 | _,[],_=>le_refl _
 | i,t::r,ht=>by
  have ih:=zdR h (i+1) r fun u hu=>ht u (mem_cons_of_mem _ hu)
  have h1:=zdQ h i 0 t
  have h2:=ht t mem_cons_self
  rw [Cells.zP,Cells.zP,length_append,length_append,length_cons]
  omega
theorem zdS {rs:List Str}(R:Rows bd.cps.toList rs):(qd rs).length+(qb rs).length<=64:=by
 have:=zdR (p:=xV) (q:=qJ) (fun c hc=>by
  unfold xV at hc
  rw [and_eq_true,not_eq_true'] at hc
  exact hc.2) 0 (codes rs) R.short
 have h2:=R.hi
 rw [jm] at this
 unfold qd qb
 omega
theorem zal {p:Nat->Bool}{i:Nat}:∀{j m:Nat} {t:List Nat} {c:Nat},t[m]?=some c->p c=true->(i,j+m)∈Cells.z4 p i j t
 | j,m,[],c,h,_=>by simp at h
 | j,0,d::r,c,h,hp=>by
  have e:d=c:=by simpa using h
  subst e
  rw [Cells.z4,if_pos hp]
  exact mem_append_left _ mem_cons_self
 | j,m+1,d::r,c,h,hp=>by
  rw [Cells.z4]
  refine mem_append_right _ ?_
  have:=zal (i:=i) (j:=j+1) (m:=m) (t:=r) (c:=c) (by simpa using h) hp
  rwa [show j+1+m=j+(m+1) by omega] at this
theorem ZY {p:Nat->Bool}:∀{i m:Nat} {rs:List (List Nat)} {t:List Nat} {j c:Nat},rs[m]?=some t->t[j]?=some c->p c=true->(i+m,j)∈Cells.zP p i rs
 | i,m,[],t,j,c,h,_,_=>by simp at h
 | i,0,d::r,t,j,c,h,hj,hp=>by
  have e:d=t:=by simpa using h
  subst e
  rw [Cells.zP]
  refine mem_append_left _ ?_
  have:=zal (i:=i) (j:=0) hj hp
  rwa [show 0+j=j by omega] at this
 | i,m+1,d::r,t,j,c,h,hj,hp=>by
  rw [Cells.zP]
  refine mem_append_right _ ?_
  have:=ZY (i:=i+1) (m:=m) (rs:=r) (t:=t) (j:=j) (c:=c) (by simpa using h) hj hp
  rwa [show i+1+m=i+(m+1) by omega] at this
theorem zdT (rs:List Str)(c:Nat×Nat):(clA rs c).Nodup:=((yS (Cells.YU _ 0 (codes rs))).sublist filter_sublist).sublist filter_sublist
theorem Zv {rs:List Str}{c x:Nat×Nat}(h:x∈clA rs c):x∈qb rs:=by
 unfold clA at h
 obtain⟨h1,h2⟩:=List.mem_filter.mp h
 obtain⟨t,k,ht,hj,_,es⟩:=qe (List.mem_filter.mp h1).1
 have e63:k=63:=by
  have:=of_decide_eq_true h2
  omega
 subst e63
 have:=ZY (p:=qJ) (i:=0) (jG ht) hj (by decide)
 rwa [zero_add] at this
noncomputable def heads (gs:List (List (Nat×Nat))):List (Int×Int):=gs.map fun g=>toI (g.headD (0,0))
theorem head_mem {g:List (Nat×Nat)}(h:g ≠ []):g.headD (0,0)∈g:=by
 cases g with
 | nil=>exact absurd rfl h
 | cons a r=>exact mem_cons_self
theorem zbc:∀{gs:List (List (Nat×Nat))},(∀g∈gs,g ≠ [])->gs.flatten.Nodup->(heads gs).Nodup
 | [],_,_=>nodup_nil
 | g::r,h,nd=>by
  rw [flatten_cons,List.nodup_append] at nd
  obtain⟨_,h2,h3⟩:=nd
  unfold heads
  rw [map_cons,List.nodup_cons]
  refine⟨fun hm=>?_,zbc (fun x hx=>h x (mem_cons_of_mem _ hx)) h2⟩
  obtain⟨g2,hg2,e⟩:=List.mem_map.mp hm
  have e':=zmu e
  have m1:=head_mem (h g mem_cons_self)
  have m2:=head_mem (h g2 (mem_cons_of_mem _ hg2))
  rw [e'] at m2
  exact h3 _ m1 _ (List.mem_flatten.mpr ⟨g2,hg2,m2⟩) rfl
noncomputable def Jf (rs:List Str)(part:List (Nat×Nat)):List (Nat×Nat):=(qd rs).filter fun o=>((zM rs o).map fun z=>part.any fun x=>decide (x=z)).any id
def zla:Sp:=fun vs H Q _=>∃(a l pa:Addr) (rs:List Str) (n:Int) (ps:List V) (part:List (Nat×Nat)),vs=[.ref a,.ref pa]/\qf H a l rs n/\Rows bd.cps.toList rs/\H pa=some (.lst ps)/\Cel H ps part /\
 ∀(d:Addr) (ws:List V) (H':Hp),H d=none->H' d=some (.lst ws)->Cel H' ws (Jf rs part)->zw H H'->Q (.ref d) H'
section
variable {P:Program}{w:World}{K:PySem.W.Frag}{mg:Str->Option Value}{base:Heap}{f:Addr}{fd:FuncData}
theorem zc3:zL ["board","part"] ["board","part"] (zg jw):=⟨rfl,rfl,rfl,by decide +kernel,rfl,by decide +kernel,by decide +kernel⟩
theorem zc4 {f1 f2 f3 f5:Addr}{fd1 fd2 fd3 fd5:FuncData}(T:Txt mg)(D:zo K mg "numbers_of" jw ["board","part"] f fd)(zJ:zo K mg "around" jU ["board","cell"] f1 fd1)(zv:zo K mg "sign_at" qI ["board","cell"] f2 fd2)
  (zC:zo K mg "cells_of" qB ["board"] f3 fd3) (zu:zo K mg "open_cells" qw ["board"] f5 fd5):zH P w K mg base CX0 3 f fd ["board","part"] zla:=by
 have JG:zH P w K mg base CX0 1 f1 fd1 ["board","cell"] Yz:=Y0 T zJ
 have jx:zH P w K mg base CX0 2 f5 fd5 ["board"] (JE xV):=xu T zu zC zv
 refine D.F.ok zc3 (fun vs H Q E h=>?_) (fun cdv A outer s H vs Q E hr h=>?_)
 ·obtain⟨a,l,pa,rs,n,ps,part,rfl,_⟩:=h
  rfl
 ·obtain⟨a,l,pa,rs,n,ps,part,rfl,b,R,hpa,hpt,q⟩:=h
  refine⟨_,(zf (zO (qm (N:=["cell","part","board"]) (src:=[none,some 1,some 0]) (zW.free (O:=(zg jw).names) (XN:=["board","part"]) rfl rfl ⟨_,rfl⟩ rfl rfl (by decide +kernel) (by decide +kernel) (by decide +kernel) rfl (by decide +kernel)) rfl (zT (zp jx (hr.mono (by decide)) (by rfl) zu.g zu.F.kp zu.b .nil zI (za (pv 0) zb))) (fun _ _ _ _ _=>(zm (i:=0) (by show List.Nodup (["cell","part","board"]:List Str);decide +kernel) rfl (Or.inl rfl))) (fun _ _ _ _ _=>(qE (zaC (K:=K) (by rfl) (zx (zdu (K:=K) (by rfl) (by rfl)) (by rfl) T.zk1 PyProof.Rows.boot_any (za (qm (N:=["place","part"]) (src:=[none,some 1]) (zW.byRfl rfl (by decide +kernel) (by decide +kernel) (by rfl) rfl (by rfl)) (by rfl) (zfu (K:=K) (by rfl) (zp JG (hr.mono (by decide)) (by rfl) zJ.g zJ.F.kp zJ.b .nil zI (za (pv 2) (za (pv 0) zb)))) (fun _ _ _ _ _=>(zm (i:=0) (by show List.Nodup (["place","part"]:List Str);decide +kernel) rfl (Or.inl rfl))) (fun _ _ _ _ _=>qS) (fun _ _ _ _ _=>(YR (jP (K:=K) (by rfl) hr.units) (pv 0) (pv 1) (by rfl)))) zb)) (fun _=>rfl)))) (fun _ _ _ _ _=>(pv 0))))),?_⟩
  refine⟨_,rfl,a,l,rs,n,rfl,b,R,fun d ws H1 hd hd1 hc1 s1=>⟨d,rfl,⟨_,SqL.of hd1⟩,fun z hz=>?_⟩⟩
  have b1:=b.mono s1
  refine qZ (K:=K) (a:=d) (xs:=ws) (fun a=>a≠z) ((qd rs).map fun o=>if (((zM rs o).map fun z=>part.any fun x=>decide (x=z)).any id)=true then some (zz o) else none) (fun σ=>∃u0,σ=[u0,some (.ref pa),some (.ref a)]) hz (fun _ h=>h) ⟨_,rfl⟩ (by rw [length_map];exact hc1.length.symm) (by rw [hc1.length];exact le_trans (jH R) (by decide)) (SqL.of hd1) ?_ ?_
  ·rintro k x o σ H2 hx ho s2 hzn ⟨u0,rfl⟩ Y Z yes no
   obtain⟨y,hy,r1⟩:=Cel.get hc1 hx
   have eo:=xS hy ho
   obtain⟨t,sg,ht,hj,_,es⟩:=qe (mem_of_getElem? hy)
   obtain⟨ya,rfl,hya⟩:=r1
   obtain⟨l1,l2⟩:=JF R ht hj
   refine⟨_,rfl,_,rfl,a,l,ya,rs,n,y.1,y.2,rfl,b1.mono s2,R,s2 _ _ hya,l1,l2,fun d2 ws2 H3 hd2 hd3 hc2 s3=>⟨d2,rfl,⟨_,SqL.of hd3⟩,fun z5 hz5=>?_⟩⟩
   refine qZ (K:=K) (a:=d2) (xs:=ws2) (fun a=>a≠z5) ((zM rs y).map fun c=>some (.bool (part.any fun x=>decide (x=c)))) (fun σ=>∃u0,σ=[u0,some (.ref pa)]) hz5 (fun _ h=>h) ⟨_,rfl⟩ (by rw [length_map];exact hc2.length.symm) (by rw [hc2.length];exact le_trans (J5 R y) (by decide)) (SqL.of hd3) ?_ ?_
   ·rintro m v o2 σ H5 hv ho2 s5 _ ⟨u1,rfl⟩ Y2 Z2 yes2 no2
    obtain⟨c,hc,rc⟩:=Cel.get (Cel.mono s5 hc2) hv
    have eo2:=xS hc ho2
    have sA:=((s1.trans s2).trans s3).trans s5
    refine ZN ⟨_,rfl,_,rfl,zz c,part.map zz,rc.rdv,.lst (SqL.of (sA _ _ hpa)) (zF.rdv (N:=fun _=>True) (Cel.rdn (Cel.mono sA hpt))),rfl,zf2 _,(by show 1<=60;decide),?_⟩
    have ei:(if false=true then !(part.map zz).any (fun z=>PyData.eqv z (zz c)) else (part.map zz).any fun z=>PyData.eqv z (zz c))=part.any fun z=>decide (z=c):=Zu _ _
    rw [ei]
    exact yes2 _ _ _ _ eo2 ⟨_,rfl⟩ (zw.refl _) (.bl _)
   ·rintro ys5 H5 s5 hz6 hr5
    rw [Zs,show ((zM rs y).map fun c=>PyData.bool (part.any fun x=>decide (x=c)))=((zM rs y).map fun c=>part.any fun x=>decide (x=c)).map PyData.bool by rw [map_map];rfl] at hr5
    rw [zF.bools hr5] at hz6
    refine⟨z5,_,rfl,SqL.of hz6,_,rfl,?_⟩
    by_cases hp:(((zM rs y).map fun z=>part.any fun x=>decide (x=z)).any id)=true
    ·rw [if_pos hp] at eo
     exact yN hp ⟨_,rfl,yes _ _ _ _ eo ⟨_,rfl⟩ (s3.trans s5) (Zq.rdn ⟨ya,rfl,s5 _ _ (s3 _ _ (s2 _ _ hya))⟩)⟩
    ·rw [if_neg hp] at eo
     exact yk (by simpa using hp) (no _ _ eo ⟨_,rfl⟩ (s3.trans s5))
  ·rintro ys H2 s2 hz2 hr2
   rw [je] at hr2
   exact q z ys H2 (s1.free hz) hz2 (zF.cel hr2) (s1.trans s2)
end
theorem zhi {cl:Nat×Nat->List (Nat×Nat)}{done:List (Nat×Nat)}{gs:List (List (Nat×Nat))}{o:Nat×Nat}(G:Parts.Good cl done gs)(h:cl o ≠ [])(hn:(cl o).Nodup){w:List (Nat×Nat)}(hs:w.Pairwise Cells.lex)(hw:∀x,x∈w↔x∈cl o\/∃g∈gs,Parts.meets (cl o) g=true/\x∈g):Parts.Good cl (done++[o]) ((gs.filter fun g=>!Parts.meets (cl o) g)++[w]):=by
 refine G.step h hn ?_ ?_ hs
 ·refine filter_congr fun g hg=>?_
  congr 1
  rw [Bool.eq_iff_iff,List.any_eq_true]
  constructor
  ·exact fun z=>⟨g,List.mem_filter.mpr ⟨hg,z⟩,decide_eq_true rfl⟩
  ·rintro⟨m,hm,e⟩
   have e':m=g:=of_decide_eq_true e
   subst e'
   exact(List.mem_filter.mp hm).2
 ·refine(List.perm_ext_iff_of_nodup (yS hs) (Parts.Yv hn fun m hm=>G.nd.sublist (List.sublist_flatten_of_mem (List.mem_filter.mp hm).1))).mpr fun x=>?_
  rw [hw,Parts.zaM]
  constructor
  ·rintro(z | ⟨g,h1,h2,h3⟩)
   ·exact .inl z
   ·exact .inr ⟨g,List.mem_filter.mpr ⟨h1,h2⟩,h3⟩
  ·rintro(z | ⟨g,h1,h3⟩)
   ·exact .inl z
   ·exact .inr ⟨g,(List.mem_filter.mp h1).1,(List.mem_filter.mp h1).2,h3⟩
theorem zjD (cs g:List (Nat×Nat)):(cs.map fun c=>g.any fun z=>decide (z=c)).any id=Parts.meets cs g:=by
 rw [Bool.eq_iff_iff,Parts.Zl,any_map,List.any_eq_true]
 constructor
 ·rintro⟨c,h1,h2⟩
  have h2':(g.any fun z=>decide (z=c))=true:=h2
  obtain⟨z,h3,h4⟩:=List.any_eq_true.mp h2'
  have e:z=c:=of_decide_eq_true h4
  subst e
  exact⟨z,h3,h1⟩
 ·rintro⟨x,h1,h2⟩
  refine⟨x,h2,?_⟩
  show (g.any fun z=>decide (z=x))=true
  exact List.any_eq_true.mpr ⟨x,h1,decide_eq_true rfl⟩
noncomputable def JV (p:List (Nat×Nat)->Bool):List V->List (List (Nat×Nat))->List V
 | v::vs,g::gs=>if p g=true then v::JV p vs gs else JV p vs gs
 | _,_=>[]
theorem Zw (p:List (Nat×Nat)->Bool):∀(vs:List V) (gs:List (List (Nat×Nat))),(JV p vs gs).Sublist vs
 | [],_=>List.nil_sublist _
 | _::_,[]=>List.nil_sublist _
 | v::vs,g::gs=>by
  rw [JV]
  split
  ·exact(Zw p vs gs).cons_cons v
  ·exact(Zw p vs gs).cons v
theorem Qy {H:Hp}(p:List (Nat×Nat)->Bool):∀{vs:List V} {gs:List (List (Nat×Nat))},yq H vs gs->yq H (JV p vs gs) (gs.filter p)
 | _,_,.nil=>.nil
 | _,_,.cons (a:=v) (b:=g) h t=>by
  rw [JV,filter_cons]
  by_cases hp:p g=true
  ·rw [if_pos hp,if_pos hp]
   exact .cons h (Qy p t)
  ·rw [if_neg hp,if_neg hp]
   exact Qy p t
theorem zhj (p:List (Nat×Nat)->Bool){vs:List V}{gs:List (List (Nat×Nat))}{i:Nat}{v:V}{g:List (Nat×Nat)}(h1:vs[i]?=some v)(h2:gs[i]?=some g):JV p (vs.take (i+1)) (gs.take (i+1))=JV p (vs.take i) (gs.take i)++if p g=true then [v] else []:=by
 induction vs generalizing gs i with
 | nil=>cases h1
 | cons w vs ih =>
  cases gs with
  | nil=>cases h2
  | cons k gs =>
   cases i with
   | zero =>
    cases h1
    cases h2
    simp [JV]
   | succ i =>
    rw [List.take_succ_cons,List.take_succ_cons,List.take_succ_cons,List.take_succ_cons,JV,JV,ih h1 h2]
    split<;>rfl
theorem zeK {m:List (Int×Int)}{l:List (Nat×Nat)}(h:∀c∈m,c∈l.map toI):m=(m.map ofI).map toI:=by
 rw [map_map]
 refine(map_id m).symm.trans (map_congr_left fun c hc=>?_)
 obtain⟨x,_,rfl⟩:=List.mem_map.mp (h c hc)
 rfl
def zf3:Sp:=fun vs H Q _=>∃(ga ca:Addr) (ws us:List V) (gs:List (List (Nat×Nat))) (cs B:List (Nat×Nat)),vs=[.ref ga,.ref ca]/\H ga=some (.lst ws)/\yq H ws gs/\H ca=some (.lst us)/\Cel H us cs/\cs.Nodup/\gs.flatten.Nodup/\(∀x∈cs,x∈B)/\(∀x∈gs.flatten,x∈B)/\(∀x∈B,x.1<8/\x.2<8)/\B.length<=63/\gs.length<=63 /\
 (cs=[]->∀H',zw H H'->Q (.ref ga) H') /\
 (cs ≠ []->∀(d wa:Addr) (va:List V) (w:List (Nat×Nat)) (H':Hp),H d=none->H wa=none->H' d=some (.lst (va++[.ref wa]))->va.Sublist ws->yq H' (va++[.ref wa]) ((gs.filter fun g=>!Parts.meets cs g)++[w])->w.Pairwise Cells.lex->(∀x,x∈w↔x∈cs\/∃g∈gs,Parts.meets cs g=true/\x∈g)->zw H H'->Q (.ref d) H')
section
variable {P:Program}{w:World}{K:PySem.W.Frag}{mg:Str->Option Value}{base:Heap}{f:Addr}{fd:FuncData}
theorem Y4:zL ["groups","cells","apart","together","group"] ["groups","cells"] (zg Zo):=⟨rfl,rfl,rfl,by decide +kernel,rfl,by decide +kernel,by decide +kernel⟩
theorem zjE (T:Txt mg)(D:zo K mg "joined" Zo ["groups","cells"] f fd):zH P w K mg base CX0 1 f fd ["groups","cells"] zf3:=by
 refine D.F.ok Y4 (fun vs H Q E h=>?_) (fun cdv A outer s H vs Q E hr h=>?_)
 ·obtain⟨ga,ca,ws,us,gs,cs,B,rfl,_⟩:=h
  rfl
 ·obtain⟨ga,ca,ws,us,gs,cs,B,rfl,hga,hG,hca,hC,cnd,gnd,cB,gB,B8,B63,g63,q1,q2⟩:=h
  have cl63:cs.length<=63:=le_trans (Parts.j4 cnd cB) B63
  have fl63:gs.flatten.length<=63:=le_trans (Parts.j4 gnd gB) B63
  refine⟨_,(zd (jA (zQ (Qq hr.units) (pv 1) (qu zb) (qc _)) (zf (zO (pv 0))) qk)
   (zd (zB (i:=2) Y4.nd rfl (Or.inl rfl) (qu zb))
   (zd (zB (i:=3) Y4.nd rfl (Or.inl rfl) (jk QY (by rfl) T.zk3 PyProof.Rows.boot_list (za (pv 1) zb)))
   (zd (qo PassesOwn.never rfl (zT (pv 0)) (zm (i:=4) Y4.nd rfl (Or.inr rfl)) (zf (jA (J9 (zx (zfs rfl) (by rfl) T.zk1 PyProof.Rows.boot_any (za (qm (N:=["cell","group"]) (src:=[none,some 4]) (zW.free (O:=(zg Zo).names) (XN:=["groups","cells","apart","together","group"]) rfl rfl ⟨_,rfl⟩ rfl rfl (by decide +kernel) (by decide +kernel) (by decide +kernel) rfl (by decide +kernel)) rfl (zT (pv 1)) (fun _ _ _ _ _=>(zm (i:=0) (by show List.Nodup (["cell","group"]:List Str);decide +kernel) rfl (Or.inl rfl))) (fun _ _ _ _ _=>qS) (fun _ _ _ _ _=>(YR (jP (K:=K) (by rfl) hr.units) (pv 0) (pv 1) (by rfl)))) zb)) (fun _=>rfl)) (zf (yE (Jt PySem.F.plainAttrs_list PySem.F.slot_list_extend PySem.F.type_list_extend zdr (pv 3) (za (pv 4) zb)))) (zf (yE (Jt PySem.F.plainAttrs_list PySem.F.slot_list_append PySem.F.type_list_append qY (pv 2) (za (pv 4) zb)))))))
   (zf (zO (zD zaB (pv 2) (qu (za (zx (ST.zc1 hr.hd) (by rfl) T.zb7 PyProof.Rows.boot_sorted (za (jk (ST.zjl hr.units hr.hd) (by rfl) T.zoE PyProof.Rows.boot_set (za (pv 3) zb)) zb)) zb))))))))),?_⟩
  refine⟨_,rfl,(by show 0<=sizeLine;decide),fun e he=>?_⟩
  have s1:zw H (upd H e (.lst [])):=ze he
  refine⟨lD cs,.list [],.lst (SqL.of (s1 _ _ hca)) (zk9 (hC.mono s1)),.lst (SqL.of zc) .nil,zeJ _ [],_,rfl,?_⟩
  have en:(if false=true then !PyData.eqv (lD cs) (.list []) else PyData.eqv (lD cs) (.list []))=cs.isEmpty:=by
   show PyData.eqv _ _=_
   exact eq_nil cs
  rw [en]
  by_cases zjF:cs=[]
  ·rw [show cs.isEmpty=true by rw [zjF];rfl]
   exact Qd ⟨_,rfl,q1 zjF _ s1⟩
  rw [show cs.isEmpty=false by rw [List.isEmpty_eq_false_iff];exact zjF]
  refine Qp ?_
  generalize upd H e (.lst [])=H1 at *
  refine⟨(by show 0<=sizeLine;decide),fun ap hap=>?_⟩
  have s2:=s1.trans (ze (o:=.lst []) hap)
  have ha2:upd H1 ap (.lst []) ap=some (.lst []):=zc
  have hap0:=s1.free hap
  generalize upd H1 ap (.lst [])=H2 at *
  refine⟨_,rfl,ca,_,rfl,.inl (SqL.of (s2 _ _ hca)),fun tg htg=>?_⟩
  have z3:=ze (o:=.lst us) htg
  have s3:=s2.trans z3
  have ha3:=z3 _ _ ha2
  have ht3:upd H2 tg (.lst us) tg=some (.lst us):=zc
  have htg0:=s2.free htg
  have nat:ap≠tg:=zh ha2 htg
  generalize upd H2 tg (.lst us)=H3 at *
  refine⟨_,rfl,ga,rfl,⟨_,SqL.of (s3 _ _ hga)⟩,?_⟩
  refine j9 (K:=K) (a:=ga) (xs:=ws) (fun i σ H'=>∃(ut:List V) (v4:Option V),σ=[some (.ref ga),some (.ref ca),some (.ref ap),some (.ref tg),v4]/\zw H H'/\H' ap=some (.lst (JV (fun g=>!Parts.meets cs g) (ws.take i) (gs.take i)))/\H' tg=some (.lst ut)/\Cel H ut (cs++((gs.take i).filter (Parts.meets cs)).flatten))
   ⟨us,_,rfl,s3,ha3,ht3,by simpa using hC⟩ (fun i σ H' _ ⟨_,_,_,z,_⟩=>SqL.of (z _ _ hga)) ?_ ?_
  ·rintro i x σ H4 hx ⟨ut,v4,rfl,s4,ha4,ht4,hct⟩
   obtain⟨g,hg,gad,ug,rfl,hgad,hcg⟩:=yq.get hG hx
   have gm:=mem_of_getElem? hg
   have tk:(gs.take (i+1)).filter (Parts.meets cs)=(gs.take i).filter (Parts.meets cs)++if Parts.meets cs g=true then [g] else []:=by
    rw [take_add_one,hg,filter_append]
    congr 1
    show [g].filter _=_
    rw [filter_cons]
    rfl
   have pk:=zhj (fun g=>!Parts.meets cs g) hx hg
   refine⟨_,rfl,ca,rfl,⟨_,SqL.of (s4 _ _ hca)⟩,fun z hz=>?_⟩
   refine qZ (K:=K) (a:=ca) (xs:=us) (fun a=>a≠z) (cs.map fun c=>some (.bool (g.any fun z=>decide (z=c)))) (fun σ=>∃u0,σ=[u0,some (.ref gad)]) hz (fun _ h=>h) ⟨_,rfl⟩ (by rw [length_map];exact hC.length.symm) (by rw [hC.length];exact le_trans cl63 (by decide)) (SqL.of (s4 _ _ hca)) ?_ ?_
   ·rintro m v o σ H5 hv ho s5 _ ⟨u1,rfl⟩ Y Z yes no
    have s05:=s4.trans s5
    obtain⟨c,hc,rc⟩:=Cel.get (hC.mono s05) hv
    have eo:=xS hc ho
    refine ZN ⟨_,rfl,_,rfl,zz c,g.map zz,rc.rdv,.lst (SqL.of (s05 _ _ hgad)) (zk9 (hcg.mono s05)),rfl,zf2 _,(by show 1<=60;decide),?_⟩
    have ei:(if false=true then !(g.map zz).any (fun z=>PyData.eqv z (zz c)) else (g.map zz).any fun z=>PyData.eqv z (zz c))=g.any fun z=>decide (z=c):=Zu _ _
    rw [ei]
    exact yes _ _ _ _ eo ⟨_,rfl⟩ (zw.refl _) (.bl _)
   ·rintro ys H5 s5 hz5 hr5
    rw [Zs,show (cs.map fun c=>PyData.bool (g.any fun z=>decide (z=c)))=(cs.map fun c=>g.any fun z=>decide (z=c)).map PyData.bool by rw [map_map];rfl] at hr5
    rw [zF.bools hr5] at hz5
    refine⟨z,_,rfl,SqL.of hz5,_,rfl,?_⟩
    rw [zjD]
    have s05:=s4.trans s5
    have ha5:=s5 _ _ ha4
    have ht5:=s5 _ _ ht4
    have gsub:∀(q:List (Nat×Nat)->Bool) (j:Nat),(((gs.take j).filter q).flatten).length<=63:=fun q j=>by
     refine le_trans (List.Sublist.length_le ?_) fl63
     refine List.Sublist.trans (Parts.qU q (gs.take j)) ?_
     have e2:gs=gs.take j++gs.drop j:=(take_append_drop j gs).symm
     conv=>rhs;rw [e2,flatten_append]
     exact List.sublist_append_left _ _
    by_cases hp:Parts.meets cs g=true
    ·refine yN hp ?_
     refine⟨_,rfl,.inl ⟨rfl,_,SqL.of ht5⟩,_,rfl,tg,gad,ut,ug,rfl,rfl,ht5,s05 _ _ hgad,?_,?_⟩
     ·rw [hct.length,hcg.length,length_append]
      have a1:=gsub (Parts.meets cs) i
      have a2:g.length<=63:=le_trans (List.Sublist.length_le (List.sublist_flatten_of_mem gm)) fl63
      exact le_trans (show _<=200 by omega) (by decide)
     ·refine⟨ut++ug,_,rfl,fun b o eb=>?_,?_,zc,?_⟩
      ·rw [zj (zh eb htg0)]
       exact s05 _ _ eb
      ·rw [zj nat,pk,hp]
       simpa using ha5
      ·rw [tk,if_pos hp,flatten_append,<- append_assoc]
       simpa using Cel.append hct hcg
    ·have hp2:=Bool.eq_false_iff.mpr hp
     refine yk hp2 ?_
     refine⟨_,rfl,.inl ⟨rfl,_,SqL.of ha5⟩,_,rfl,ap,_,_,rfl,rfl,ha5,?_,?_⟩
     ·refine lt_of_le_of_lt (List.Sublist.length_le ((Zw _ _ _).trans (take_sublist _ _))) ?_
      rw [hG.length]
      exact lt_of_le_of_lt g63 (by decide)
     ·refine⟨ut,_,rfl,fun b o eb=>?_,?_,?_,?_⟩
      ·rw [zj (zh eb hap0)]
       exact s05 _ _ eb
      ·rw [zc,pk,hp2]
       rfl
      ·rw [zj (Ne.symm nat)]
       exact ht5
      ·rw [tk,if_neg hp,append_nil]
       exact hct
  ·rintro σ H4 ⟨ut,v4,rfl,s4,ha4,ht4,hct⟩
   rw [take_length,hG.length,take_length] at ha4
   rw [hG.length,take_length] at hct
   generalize hl:cs++(gs.filter (Parts.meets cs)).flatten=l at hct
   have lB:∀x∈l,x∈B:=fun x hx=>by
    rw [<- hl] at hx
    rcases List.mem_append.mp hx with hx | hx
    ·exact cB x hx
    ·exact gB x ((Parts.qU _ gs).subset hx)
   refine⟨_,rfl,_,rfl,tg,ut,_,rfl,SqL.of ht4,Cel.tup2 (hct.mono s4),(fun p hp=>?_),(fun m hm hs=>?_),fun ds ks hds hT hnd hmem=>?_⟩
   ·obtain⟨x,hx,rfl⟩:=List.mem_map.mp hp
    have:=B8 x (lB x hx)
    unfold ST.InB toI
    show (0<=((x.1:Nat):Int)/\((x.1:Nat):Int)<8)/\(0<=((x.2:Nat):Int)/\((x.2:Nat):Int)<8)
    omega
   ·have h1:=zeK hs
    have h2:(m.map ofI).Nodup:=by
     rw [h1] at hm
     unfold List.Nodup at hm ⊢
     rw [List.pairwise_map] at hm
     exact hm.imp fun z e=>z (by rw [e])
    have h3:=Parts.j4 (b:=B) h2 fun x hx=>by
     obtain⟨c,hc,rfl⟩:=List.mem_map.mp hx
     obtain⟨y,hy,rfl⟩:=List.mem_map.mp (hs c hc)
     exact lB y hy
    rw [length_map] at h3
    omega
   have z5:=ze (o:=ST.zfI P w ds ks) hds
   have hks:∀c∈ks.map (·.2),c∈l.map toI:=fun c hc=>(hmem c).mp hc
   have kl:ks.length<=63:=by
    have h1:=zeK hks
    have h2:((ks.map (·.2)).map ofI).Nodup:=by
     rw [h1] at hnd
     unfold List.Nodup at hnd ⊢
     rw [List.pairwise_map] at hnd
     exact hnd.imp fun z e=>z (by rw [e])
    have h3:=Parts.j4 (b:=B) h2 fun x hx=>by
     obtain⟨c,hc,rfl⟩:=List.mem_map.mp hx
     obtain⟨y,hy,rfl⟩:=List.mem_map.mp (hks c hc)
     exact lB y hy
    rw [length_map,length_map] at h3
    omega
   have hds5:upd H4 ds (ST.zfI P w ds ks) ds=some (ST.zfI P w ds ks):=zc
   have s5:=s4.trans z5
   have ha5:=z5 _ _ ha4
   have hT5:∀q∈ks,upd H4 ds (ST.zfI P w ds ks) q.1=some (.tup [.int q.2.1,.int q.2.2]):=fun q hq=>z5 _ _ (hT q hq)
   refine⟨ds,ks,rfl,hds5,hT5,hnd,(by omega),fun wa us' ps' hwa ht zdU hup=>?_⟩
   rw [zeK hks] at zdU
   obtain⟨wc,rfl,hperm2⟩:=zmw zdU
   have z6:=ze (o:=.lst us') hwa
   refine⟨(by show 1<=sizeLine;decide),fun p1 hp1=>?_⟩
   have z7:=ze (o:=.lst [V.ref wa]) hp1
   have z67:=z6.trans z7
   refine⟨ap,p1,_,[.ref wa],rfl,rfl,z67 _ _ ha5,zc,?_,fun k2 hk2=>?_⟩
   ·have a1:(JV (fun g=>!Parts.meets cs g) ws gs).length<=63:=le_trans (List.Sublist.length_le (Zw _ _ _)) (by rw [hG.length];exact g63)
    exact le_trans (show _+1<=200 by omega) (by decide)
   ·have z8:=ze (o:=.lst (JV (fun g=>!Parts.meets cs g) ws gs++[.ref wa])) hk2
    have s8:=s5.trans (z67.trans z8)
    refine q2 zjF k2 wa _ wc _ ((s5.trans z67).free hk2) (s5.free hwa) zc (Zw _ _ _) ?_ (znP hup) (fun x=>?_) s8
    ·exact yq.snoc ((Qy _ hG).mono s8) ⟨wa,us',rfl,z8 _ _ (z7 _ _ zc),Cel.mono (z67.trans z8) (JU ht)⟩
    ·rw [hperm2.mem_iff,List.mem_map]
     have hx:(∃a,a∈ks.map (·.2)/\ofI a=x)↔x∈l:=by
      constructor
      ·rintro⟨c,hc,rfl⟩
       obtain⟨y,hy,rfl⟩:=List.mem_map.mp (hks c hc)
       exact hy
      ·intro h
       exact⟨toI x,(hmem _).mpr (List.mem_map.mpr ⟨x,h,rfl⟩),rfl⟩
     rw [hx,<- hl,List.mem_append,List.mem_flatten]
     constructor
     ·rintro(h | ⟨g,h1,h2⟩)
      ·exact .inl h
      ·exact .inr ⟨g,(List.mem_filter.mp h1).1,(List.mem_filter.mp h1).2,h2⟩
     ·rintro(h | ⟨g,h1,h2,h3⟩)
      ·exact .inl h
      ·exact .inr ⟨g,List.mem_filter.mpr ⟨h1,h2⟩,h3⟩
end
def zeL:Sp:=fun vs H Q _=>∃(p l:Addr) (rs:List Str) (n:Int),vs=[.ref p]/\qf H p l rs n/\Rows bd.cps.toList rs /\
 ∀(d:Addr) (ws:List V) (gs:List (List (Nat×Nat))) (H':Hp),H d=none->H' d=some (.lst ws)->yq H' ws gs->ws.Nodup->(∀v∈ws,∃a,v=V.ref a/\H a=none/\a≠d)->Parts.Good (clA rs) (qd rs) gs->Up2 (heads gs)->zw H H'->Q (.ref d) H'
theorem zhk {rs:List Str}(R:Rows bd.cps.toList rs){x:Nat×Nat}(h:x∈qb rs):x.1<8/\x.2<8:=by
 obtain⟨t,k,ht,hj,_,_⟩:=qe h
 have a:=(List.getElem?_eq_some_iff.mp ht).1
 have b:=(List.getElem?_eq_some_iff.mp hj).1
 have e:=R.hi
 have g:=R.short _ (mem_of_getElem? (jG ht))
 omega
theorem yq.some {H:Hp}{ws:List V}{gs:List (List (Nat×Nat))}(h:yq H ws gs):∀v∈ws,∃a us,v=V.ref a/\H a=some (.lst us):=by
 intro v hv
 obtain⟨_,_,a,us,e,h1,_⟩:=zkg h hv
 exact⟨a,us,e,h1⟩
theorem zlb {H:Hp}{ws:List V}{gs:List (List (Nat×Nat))}(h:yq H ws gs):Paired (GS.LstAt H) ws (gs.map (List.map toI)):=by
 induction h with
 | nil=>exact .nil
 | cons r _ ih =>
  obtain⟨a,us,e,h1,h2⟩:=r
  exact .cons ⟨a,us,e,h1,h2.tup2⟩ ih
theorem zlc {H:Hp}:∀{gs:List (List (Nat×Nat))} {ws:List V},Paired (GS.LstAt H) ws (gs.map (List.map toI))->yq H ws gs:=by
 intro gs
 induction gs with
 | nil =>
  intro ws h
  cases h
  exact .nil
 | cons g r ih =>
  intro ws h
  cases h with
  | cons q t =>
   obtain⟨a,us,e,h1,h2⟩:=q
   exact .cons ⟨a,us,e,h1,JU h2⟩ (ih t)
theorem zf4 {ks:List (List (Int×Int))}{gs:List (List (Nat×Nat))}(h:ks.Perm (gs.map (List.map toI))):∃ds:List (List (Nat×Nat)),ks=ds.map (List.map toI)/\ds.Perm gs:=by
 have oo:∀g:List (Nat×Nat),(g.map toI).map ofI=g:=fun g=>by
  rw [map_map]
  exact(map_congr_left fun c _=>ziA c).trans (map_id g)
 refine⟨ks.map (List.map ofI),?_,?_⟩
 ·rw [map_map]
  refine(map_id ks).symm.trans (map_congr_left fun p hp=>?_)
  obtain⟨c,_,rfl⟩:=List.mem_map.mp (h.mem_iff.mp hp)
  show c.map toI=((c.map toI).map ofI).map toI
  rw [oo]
 ·have:=h.map (List.map ofI)
  rw [map_map] at this
  have e:gs.map (List.map ofI∘List.map toI)=gs:=(map_congr_left fun c _=>oo c).trans (map_id gs)
  rwa [e] at this
theorem zld {gs:List (List (Nat×Nat))}(h:(gs.map (List.map toI)).Pairwise (fun p q=>PySem.SeqAt.ltL q p=false))(ne:∀g∈gs,g ≠ [])(nd:(heads gs).Nodup):Up2 (heads gs):=by
 induction gs with
 | nil=>exact List.Pairwise.nil
 | cons g r ih =>
  rw [map_cons,List.pairwise_cons] at h
  have nd':toI (g.headD (0,0)) ∉ heads r/\(heads r).Nodup:=List.nodup_cons.mp nd
  refine List.pairwise_cons.mpr ⟨fun p hp=>?_,ih h.2 (fun x hx=>ne x (mem_cons_of_mem _ hx)) nd'.2⟩
  obtain⟨g2,hg2,rfl⟩:=List.mem_map.mp hp
  have a:=h.1 _ (List.mem_map.mpr ⟨g2,hg2,rfl⟩)
  have hne:toI (g.headD (0,0))≠toI (g2.headD (0,0)):=fun e=>nd'.1 (e ▸ hp)
  have n1:=ne g mem_cons_self
  have n2:=ne g2 (mem_cons_of_mem _ hg2)
  cases g with
  | nil=>exact absurd rfl n1
  | cons x xs =>
   cases g2 with
   | nil=>exact absurd rfl n2
   | cons y ys =>
    have hne':toI x≠toI y:=hne
    show lt2 (toI x) (toI y)=true
    have a':(if toI y=toI x then PySem.SeqAt.ltL (ys.map toI) (xs.map toI) else lt2 (toI y) (toI x))=false:=a
    rw [if_neg (Ne.symm hne')] at a'
    have:=zbu hne'
    rw [a'] at this
    cases hh:lt2 (toI x) (toI y) with
    | true=>rfl
    | false =>
     rw [hh] at this
     cases this
section
variable {P:Program}{w:World}{K:PySem.W.Frag}{mg:Str->Option Value}{base:Heap}{f:Addr}{fd:FuncData}
theorem zam:zL ["board","found","cell"] ["board"] (zg zbB):=⟨rfl,rfl,rfl,by decide +kernel,rfl,by decide +kernel,by decide +kernel⟩
theorem zf5 {f1 f2 f3 f4 f5 f6:Addr}{fd1 fd2 fd3 fd4 fd5 fd6:FuncData}(T:Txt mg)(D:zo K mg "parts" zbB ["board"] f fd)(zJ:zo K mg "around" jU ["board","cell"] f1 fd1)(zv:zo K mg "sign_at" qI ["board","cell"] f2 fd2)
  (zC:zo K mg "cells_of" qB ["board"] f3 fd3) (zu:zo K mg "open_cells" qw ["board"] f4 fd4) (zK:zo K mg "closed_around" qK ["board","cell"] f5 fd5) (xK:zo K mg "joined" Zo ["groups","cells"] f6 fd6):zH P w K mg base CX0 3 f fd ["board"] zeL:=by
 have jx:zH P w K mg base CX0 2 f4 fd4 ["board"] (JE xV):=xu T zu zC zv
 have xT:zH P w K mg base CX0 2 f5 fd5 ["board","cell"] zk6:=Zt T zK zJ zv
 have zlf:zH P w K mg base CX0 1 f6 fd6 ["groups","cells"] zf3:=zjE T xK
 refine D.F.ok zam (fun vs H Q E h=>?_) (fun cdv A outer s H vs Q E hr h=>?_)
 ·obtain⟨p,l,rs,n,rfl,_⟩:=h
  rfl
 ·obtain⟨p,l,rs,n,rfl,b,R,q⟩:=h
  refine⟨_,(zd (zB (i:=1) zam.nd rfl (Or.inl rfl) (qu zb))
   (zd (qo PassesOwn.never rfl (zT (zp jx (hr.mono (by decide)) (by rfl) zu.g zu.F.kp zu.b .nil zI (za (pv 0) zb))) (zm (i:=2) zam.nd rfl (Or.inl rfl)) (zf (zB (i:=1) zam.nd rfl (Or.inl rfl) (zp zlf (hr.mono (by decide)) (by rfl) xK.g xK.F.kp xK.b .nil zI (za (pv 1) (za (zp xT (hr.mono (by decide)) (by rfl) zK.g zK.F.kp zK.b .nil zI (za (pv 0) (za (pv 2) zb))) zb))))))
   (zf (zO (zx (GS.Qh hr.units) (by rfl) T.zb7 PyProof.Rows.boot_sorted (za (pv 1) zb)))))),?_⟩
  refine⟨(by show 0<=sizeLine;decide),fun k0 hk0=>?_⟩
  have s0:zw H (upd H k0 (.lst [])):=ze hk0
  have hk00:upd H k0 (.lst []) k0=some (.lst []):=zc
  generalize upd H k0 (.lst [])=H0 at *
  refine⟨_,rfl,p,l,rs,n,rfl,b.mono s0,R,fun dc wc H1 hdc zoH hcc s1=>⟨dc,rfl,⟨_,SqL.of zoH⟩,?_⟩⟩
  have s01:=s0.trans s1
  have b1:=b.mono s01
  have hcc:Cel H1 wc (qd rs):=hcc
  have o64:=zdS R
  refine j9 (K:=K) (a:=dc) (xs:=wc) (fun i σ H'=>∃(k:Addr) (ws:List V) (gs:List (List (Nat×Nat))) (v2:Option V),σ=[some (.ref p),some (.ref k),v2]/\zw H1 H'/\H' k=some (.lst ws)/\yq H' ws gs/\ws.Nodup/\(∀v∈ws,∃a,v=V.ref a/\H a=none)/\Parts.Good (clA rs) ((qd rs).take i) gs)
   ⟨k0,[],[],_,rfl,zw.refl _,s1 _ _ hk00,.nil,nodup_nil,(fun v h=>nomatch h),Parts.Good.start _⟩ (fun i σ H' _ ⟨_,_,_,_,_,z,_⟩=>SqL.of (z _ _ zoH)) ?_ ?_
  ·rintro i x σ H2 hx ⟨k,ws,gs,v2,rfl,s2,hk,hG,wnd,wnew,G⟩
   obtain⟨c,hc,ca,rfl,hca⟩:=Cel.get (Cel.mono s2 hcc) hx
   have cm:=mem_of_getElem? hc
   obtain⟨t,sg,ht,hj,_,es⟩:=qe cm
   obtain⟨l1,l2⟩:=JF R ht hj
   have tk:(qd rs).take (i+1)=(qd rs).take i++[c]:=by
    rw [take_add_one,hc]
    rfl
   have lshut:(qb rs).length<=63:=by
    have:=List.length_pos_of_mem cm
    omega
   have gB:∀x∈gs.flatten,x∈qb rs:=fun x hx=>by
    obtain⟨o,_,h2⟩:=G.from_ x hx
    exact Zv h2
   refine⟨_,rfl,_,rfl,_,rfl,p,l,ca,rs,n,c,rfl,(b1.mono s2),R,hca,l1,l2,fun d ws1 H3 hd hd3 hc3 s3=>?_⟩
   have s03:=s01.trans (s2.trans s3)
   refine⟨k,d,ws,ws1,gs,clA rs c,qb rs,rfl,s3 _ _ hk,hG.mono s3,hd3,hc3,zdT rs c,G.nd,(fun x hx=>Zv hx),gB,(fun x hx=>zhk R hx),lshut,le_trans (Parts.Yw G.ne) (le_trans (Parts.j4 G.nd gB) lshut),(fun zjF H' s'=>?_),fun hne d2 wa va wc2 H' hd2 hwa hd2' hsub hG' zph hmem s'=>?_⟩
   ·refine⟨k,ws,gs,_,rfl,s2.trans (s3.trans s'),s' _ _ (s3 _ _ hk),(hG.mono s3).mono s',wnd,wnew,?_⟩
    rw [tk]
    exact G.skip zjF
   ·refine⟨d2,_,_,_,rfl,s2.trans (s3.trans s'),hd2',hG',?_,(fun v hv=>?_),?_⟩
    ·rw [List.nodup_append]
     refine⟨wnd.sublist hsub,by simp,fun a ha b hb e=>?_⟩
     have hb':b=V.ref wa:=by simpa using hb
     subst e
     obtain⟨a',us',e1,e2⟩:=yq.some (hG.mono s3) a (hsub.subset ha)
     rw [hb'] at e1
     injection e1 with e1
     rw [<- e1,hwa] at e2
     cases e2
    ·rcases List.mem_append.mp hv with hv | hv
     ·exact wnew v (hsub.subset hv)
     ·have hb':v=V.ref wa:=by simpa using hv
      exact⟨wa,hb',s03.free hwa⟩
    ·rw [tk]
     exact zhi G hne (zdT rs c) zph hmem
  ·rintro σ H2 ⟨k,ws,gs,v2,rfl,s2,hk,hG,wnd,wnew,G⟩
   rw [hcc.length,take_length] at G
   have gsh:∀x∈gs.flatten,x∈qb rs:=fun x hx=>by
    obtain⟨o,_,h2⟩:=G.from_ x hx
    exact Zv h2
   have wl:gs.length<=63:=by
    cases gs with
    | nil=>exact zero_le _
    | cons g r =>
     have m1:=head_mem (G.ne g mem_cons_self)
     obtain⟨o,ho,_⟩:=G.from_ _ (List.mem_flatten.mpr ⟨g,mem_cons_self,m1⟩)
     have:=List.length_pos_of_mem ho
     have h3:=le_trans (Parts.Yw G.ne) (Parts.j4 (b:=qb rs) G.nd gsh)
     omega
   refine⟨_,rfl,k,ws,_,rfl,SqL.of hk,zlb hG,(by rw [hG.length];omega),fun d us' ks' hd hl zdU zoI pw=>?_⟩
   have s3:=ze (o:=.lst us') hd
   obtain⟨ds,rfl,pg⟩:=zf4 zdU
   have G':=G.perm pg
   refine q d us' ds _ ((s01.trans s2).free hd) zc ((zlc hl).mono s3) (pw.nodup_iff.mpr wnd) (fun v hv=>?_) G' (zld zoI G'.ne (zbc G'.ne G'.nd)) ((s01.trans s2).trans s3)
   have hv':=pw.mem_iff.mp hv
   obtain⟨a,e1,e2⟩:=wnew v hv'
   obtain⟨a',us',e3,e4⟩:=yq.some hG v hv'
   refine⟨a,e1,e2,fun z=>?_⟩
   rw [e1] at e3
   injection e3 with e3
   rw [<- e3,z,hd] at e4
   cases e4
end
noncomputable def pD (p:Int×Int):PyData:=.tuple [.int p.1,.int p.2]
theorem znQ (p q:Int×Int):PyData.eqv (pD p) (pD q)=decide (p=q):=PySem.SeqAt.zdw p q
def PR (H:Hp)(v:V)(p:Int×Int):Prop:=∃a,v=V.ref a/\H a=some (.tup [.int p.1,.int p.2])
theorem PR.mono {H H':Hp}(s:zw H H'){v:V}{p:Int×Int}(h:PR H v p):PR H' v p:=let ⟨a,e,h⟩:=h;⟨a,e,s _ _ h⟩
theorem yT {H H':Hp}(s:zw H H'){us:List V}{ps:List (Int×Int)}(hp:yO H us ps):yO H' us ps:=by
 induction hp with
 | nil=>exact .nil
 | cons h _ ih =>
  exact .cons (PR.mono s h) ih
theorem zcf {H:Hp}{us:List V}{ps:List (Int×Int)}(h:yO H us ps):us.length=ps.length:=Paired.length h
theorem PR.rdv {K:PySem.W.Frag}{H:Hp}{v:V}{p:Int×Int}(h:PR H v p):Rdv K H v (pD p):=by
 obtain⟨a,rfl,h⟩:=h
 exact .tup (SqT.of h) (.cons (.int _) (.cons (.int _) .nil))
theorem zf6 {K:PySem.W.Frag}{H:Hp}{us:List V}{ps:List (Int×Int)}(hp:yO H us ps):xP K H us (ps.map pD):=by
 induction hp with
 | nil=>exact .nil
 | cons h _ ih =>
  exact .cons (PR.rdv h) ih
theorem zhl:∀ps:List (Int×Int),PyData.canLayAll0 (ps.map pD)=true
 | []=>rfl
 | p::r=>by
  show (PyData.canLay0 (pD p)&&PyData.canLayAll0 (r.map pD))=true
  rw [zhl r]
  rfl
theorem znR (ps:List (Int×Int))(p:Int×Int):(ps.map pD).any (fun z=>PyData.eqv z (pD p))=ps.any fun z=>decide (z=p):=by
 rw [any_map]
 congr 1
 funext z
 exact znQ z p
theorem zlg (ps:List (Int×Int))(c:Nat×Nat):(ps.map pD).any (fun z=>PyData.eqv z (zz c))=ps.any fun z=>decide (z=toI c):=znR ps (toI c)
theorem zlh {H:Hp}{a z:Addr}{o o':HO}(h:H a=some o)(hz:H z=some o')(hne:o≠o'):a≠z:=fun e=>by
 subst e
 rw [h] at hz
 exact hne (Option.some.inj hz)
theorem zmx {H:Hp}{z:Addr}{ys ys':List V}(hz:H z=some (.lst ys)){v:V}{p:Int×Int}(h:PR H v p):PR (upd H z (.lst ys')) v p:=by
 obtain⟨a,e,h⟩:=h
 refine⟨a,e,?_⟩
 rw [zj (zlh h hz (fun z=>nomatch z))]
 exact h
theorem Jp {H:Hp}{z:Addr}{ys ys':List V}(hz:H z=some (.lst ys)){us:List V}{ps:List (Int×Int)}(hp:yO H us ps):yO (upd H z (.lst ys')) us ps:=by
 induction hp with
 | nil=>exact .nil
 | cons h _ ih =>
  exact .cons (zmx hz h) ih
def jt (N:Addr->Prop)(H:Hp):List V->List (List (Int×Int))->Prop:=Paired fun v k=>∃a ws,v=V.ref a/\N a/\H a=some (.lst ws)/\yO H ws k
theorem qi {N:Addr->Prop}{H H':Hp}(s:zw H H'){us:List V}{ks:List (List (Int×Int))}(hp:jt N H us ks):jt N H' us ks:=by
 induction hp with
 | nil=>exact .nil
 | cons q _ ih =>
  obtain⟨a,ws,e,n,h,t⟩:=q
  exact .cons ⟨a,ws,e,n,s _ _ h,yT s t⟩ ih
theorem Qz {N M:Addr->Prop}{H:Hp}(w:∀a,N a->M a){us:List V}{ks:List (List (Int×Int))}(hp:jt N H us ks):jt M H us ks:=by
 induction hp with
 | nil=>exact .nil
 | cons q _ ih =>
  obtain⟨a,ws,e,n,h,t⟩:=q
  exact .cons ⟨a,ws,e,w a n,h,t⟩ ih
theorem yU {N:Addr->Prop}{H:Hp}{z:Addr}{ys ys':List V}(hz:H z=some (.lst ys))(w:∀a,N a->a≠z){us:List V}{ks:List (List (Int×Int))}(hp:jt N H us ks):jt N (upd H z (.lst ys')) us ks:=by
 induction hp with
 | nil=>exact .nil
 | cons q _ ih =>
  obtain⟨a,ws,e,n,h,t⟩:=q
  exact .cons ⟨a,ws,e,n,by rw [zj (w a n)];exact h,Jp hz t⟩ ih
theorem Zx {N:Addr->Prop}{H:Hp}{us:List V}{ks:List (List (Int×Int))}{us':List V}{ks':List (List (Int×Int))}(h:jt N H us ks)(k:jt N H us' ks'):jt N H (us++us') (ks++ks'):=zaE h k
theorem ja {N:Addr->Prop}{H:Hp}{us:List V}{ks:List (List (Int×Int))}(h:jt N H us ks):us.length=ks.length:=Paired.length h
theorem YB {N:Addr->Prop}{H:Hp}{us:List V}{ks:List (List (Int×Int))}{i:Nat}{v:V}(h:jt N H us ks)(e:us[i]?=some v):∃k a ws,ks[i]?=some k/\v=V.ref a/\N a/\H a=some (.lst ws)/\yO H ws k:=by
 obtain⟨k,h1,a,ws,h2⟩:=zbN h e
 exact⟨k,a,ws,h1,h2⟩
theorem zjG {N:Addr->Prop}{H:Hp}{us:List V}{ks:List (List (Int×Int))}(hp:jt N H us ks):Paired (GS.LstAt H) us ks:=by
 induction hp with
 | nil=>exact .nil
 | cons q _ ih =>
  obtain⟨a,ws,e,_,h,t⟩:=q
  exact .cons ⟨a,ws,e,h,t⟩ ih
theorem zli {N:Addr->Prop}{H:Hp}{us:List V}{ks:List (List (Int×Int))}(hp:Paired (GS.LstAt H) us ks)(n:∀v∈us,∃a,v=V.ref a/\N a):jt N H us ks:=by
 induction hp with
 | nil=>exact .nil
 | cons q _ ih =>
  obtain⟨a,ws,e,h,t⟩:=q
  obtain⟨b,e2,n2⟩:=n _ mem_cons_self
  subst e
  cases e2
  exact .cons ⟨_,ws,rfl,n2,h,t⟩ (ih fun v hv=>n v (mem_cons_of_mem _ hv))
theorem Y5 {N:Addr->Prop}{H:Hp}{us:List V}{ks:List (List (Int×Int))}{v:V}(h:jt N H us ks)(e:v∈us):∃a ws,v=V.ref a/\N a/\H a=some (.lst ws):=by
 obtain⟨k,_,a,ws,h1,h2,h3,_⟩:=zkg h e
 exact⟨a,ws,h1,h2,h3⟩
theorem zf7 {H:Hp}{us:List V}{ps:List (Int×Int)}{us':List V}{ps':List (Int×Int)}(h:yO H us ps)(k:yO H us' ps'):yO H (us++us') (ps++ps'):=zaE h k
def nearF (rs:List Str)(c x:Nat×Nat):Bool:=(zM rs c).any fun z=>decide (z=x)
def jq (rs:List Str)(c:Nat×Nat):Int:=((Cells.sgn (codes rs) c:Nat):Int)-48
theorem zjH (rs:List Str)(c:Nat×Nat):(zM rs c).Nodup:=(yS (Cells.YU _ 0 (codes rs))).sublist filter_sublist
theorem zlj {rs:List Str}{o:Nat×Nat}{q:List (Nat×Nat)}(hq:q.Nodup):((zM rs o).filter fun x=>q.any fun z=>decide (z=x)).length=Grow.cnt (nearF rs) o q:=by
 unfold Grow.cnt
 refine List.Perm.length_eq ((List.perm_ext_iff_of_nodup ((zjH rs o).sublist filter_sublist) (hq.sublist filter_sublist)).mpr fun x=>?_)
 rw [List.mem_filter,List.mem_filter]
 unfold nearF
 rw [List.any_eq_true,List.any_eq_true]
 constructor
 ·rintro⟨h1,y,hy,e⟩
  have e2:y=x:=of_decide_eq_true e
  subst e2
  exact⟨hy,y,h1,decide_eq_true rfl⟩
 ·rintro⟨h1,y,hy,e⟩
  have e2:y=x:=of_decide_eq_true e
  subst e2
  exact⟨hy,y,h1,decide_eq_true rfl⟩
def zf8 (H:Hp)(rs:List Str)(v:V)(o:Nat×Nat):Prop:=∃a na wn,v=V.ref a/\H a=some (.tup [.int (jq rs o),.ref na])/\H na=some (.lst wn)/\Cel H wn (zM rs o)
def zf9 (H:Hp)(rs:List Str)(rest:List (Nat×Nat))(v:V)(o:Nat×Nat):Prop:=∃a na wn,v=V.ref a/\H a=some (.tup [.int (jq rs o-((Grow.cnt (nearF rs) o rest:Nat):Int)),.int (jq rs o),.ref na])/\H na=some (.lst wn)/\Cel H wn (zM rs o)
theorem zjI {H H':Hp}(s:zw H H'){rs:List Str}{vs:List V}{cs:List (Nat×Nat)}(hp:Paired (zf8 H rs) vs cs):Paired (zf8 H' rs) vs cs:=by
 induction hp with
 | nil=>exact .nil
 | cons q _ ih =>
  obtain⟨a,na,wn,e,h1,h3,h4⟩:=q
  exact .cons ⟨a,na,wn,e,s _ _ h1,s _ _ h3,h4.mono s⟩ ih
theorem zaS {H H':Hp}(s:zw H H'){rs:List Str}{rest:List (Nat×Nat)}{vs:List V}{cs:List (Nat×Nat)}(hp:Paired (zf9 H rs rest) vs cs):Paired (zf9 H' rs rest) vs cs:=by
 induction hp with
 | nil=>exact .nil
 | cons q _ ih =>
  obtain⟨a,na,wn,e,h1,h3,h4⟩:=q
  exact .cons ⟨a,na,wn,e,s _ _ h1,s _ _ h3,h4.mono s⟩ ih
theorem Zk {α β:Type}{R:α->β->Prop}{vs:List α}{cs:List β}{i:Nat}{v:α}(h:Paired R vs cs)(e:vs[i]?=some v):∃c,cs[i]?=some c/\R v c:=zbN h e
theorem zhm {α β:Type}{R:α->β->Prop}{us:List α}{cs:List β}{us':List α}{cs':List β}(h:Paired R us cs)(k:Paired R us' cs'):Paired R (us++us') (cs++cs'):=zaE h k
def zdV (H H':Hp)(rs:List Str)(rest:List (Nat×Nat))(v:V)(o:Nat×Nat):Prop:=∃a na wn,v=V.ref a/\H' a=some (.tup [.int (jq rs o-((Grow.cnt (nearF rs) o rest:Nat):Int)),.int (jq rs o),.ref na])/\H na=some (.lst wn)/\Cel H wn (zM rs o)
theorem zhn {H H1 H2:Hp}(s:zw H1 H2){rs:List Str}{rest:List (Nat×Nat)}{vs:List V}{cs:List (Nat×Nat)}(hp:Paired (zdV H H1 rs rest) vs cs):Paired (zdV H H2 rs rest) vs cs:=by
 induction hp with
 | nil=>exact .nil
 | cons q _ ih =>
  obtain⟨a,na,wn,e,h1,h3,h4⟩:=q
  exact .cons ⟨a,na,wn,e,s _ _ h1,h3,h4⟩ ih
theorem zcg {H H1:Hp}{z:Addr}{ys ys':List V}(hz:H1 z=some (.lst ys)){rs:List Str}{rest:List (Nat×Nat)}:∀{vs:List V} {cs:List (Nat×Nat)},Paired (zdV H H1 rs rest) vs cs->Paired (zdV H (upd H1 z (.lst ys')) rs rest) vs cs
 | _,_,.nil=>.nil
 | _,_,.cons ⟨a,na,wn,e,h1,h3,h4⟩ t=>.cons ⟨a,na,wn,e,by
   have ne:a≠z:=fun e=>by
    subst e
    rw [h1] at hz
    cases hz
   rw [zj ne]
   exact h1,h3,h4⟩ (zcg hz t)
theorem zho {H H1:Hp}(s:zw H H1){rs:List Str}{rest:List (Nat×Nat)}{vs:List V}{cs:List (Nat×Nat)}(hp:Paired (zdV H H1 rs rest) vs cs):Paired (zf9 H1 rs rest) vs cs:=by
 induction hp with
 | nil=>exact .nil
 | cons q _ ih =>
  obtain⟨a,na,wn,e,h1,h3,h4⟩:=q
  exact .cons ⟨a,na,wn,e,h1,s _ _ h3,h4.mono s⟩ ih
def ziB:Sp:=fun vs H Q _=>∃(ta ca ra:Addr) (ut ur:List V) (rs:List Str) (O rest:List (Nat×Nat)) (c:Nat×Nat),vs=[.ref ta,.ref ca,.ref ra]/\H ta=some (.lst ut)/\Paired (zf8 H rs) ut O/\O.length<=64/\Rows bd.cps.toList rs/\H ca=some (.tup [.int (c.1:Nat),.int (c.2:Nat)])/\H ra=some (.lst ur)/\Cel H ur rest/\rest.Nodup /\
 ∀(d:Addr) (uw:List V) (H':Hp),H' d=some (.lst uw)->Paired (zf9 H' rs rest) uw (O.filter fun o=>nearF rs o c)->zw H H'->Q (.ref d) H'
def zmV:Sp:=fun vs H Q _=>∃(na pa:Addr) (un up:List V) (rs:List Str) (rest O q:List (Nat×Nat)),vs=[.ref na,.ref pa]/\H na=some (.lst un)/\Paired (zf9 H rs rest) un O/\H pa=some (.lst up)/\Cel H up q/\q.length<=64 /\
 ∀H':Hp,zw H H'->Q (.bl (O.all fun o=>Grow.zb0 (nearF rs) (jq rs) rest o q)) H'
section
variable {P:Program}{w:World}{K:PySem.W.Frag}{mg:Str->Option Value}{base:Heap}{f:Addr}{fd:FuncData}
theorem xM:zL ["told","cell","rest","needs","number","near","left"] ["told","cell","rest"] (zg yp):=⟨rfl,rfl,rfl,by decide +kernel,rfl,by decide +kernel,by decide +kernel⟩
theorem zga (T:Txt mg)(D:zo K mg "needs_at" yp ["told","cell","rest"] f fd):zH P w K mg base CX0 1 f fd ["told","cell","rest"] ziB:=by
 refine D.F.ok xM (fun vs H Q E h=>?_) (fun cdv A outer s H vs Q E hr h=>?_)
 ·obtain⟨ta,ca,ra,ut,ur,rs,O,rest,c,rfl,_⟩:=h
  rfl
 ·obtain⟨ta,ca,ra,ut,ur,rs,O,rest,c,rfl,hta,hT,ol,R,hca,hra,hcr,rnd,q⟩:=h
  refine⟨_,(zd (zB (i:=3) xM.nd rfl (Or.inl rfl) (qu zb))
   (zd (qo PassesOwn.never rfl (zT (pv 0)) (Jr rfl (zV (zm (i:=4) xM.nd rfl (Or.inl rfl)) (zV (zm (i:=5) xM.nd rfl (Or.inl rfl)) jZ))) (zf (jA (zQ (zbJ hr.units) (pv 1) (pv 5) (by rfl)) (zd (zB (i:=6) xM.nd rfl (Or.inl rfl) (zx zG (by rfl) T.jd PySem.boot_len (za (qm (N:=["place","rest"]) (src:=[none,some 2]) (zW.free (O:=(zg yp).names) (XN:=["told","cell","rest","needs","number","near","left"]) rfl rfl ⟨_,rfl⟩ rfl rfl (by decide +kernel) (by decide +kernel) (by decide +kernel) rfl (by decide +kernel)) rfl (zT (pv 5)) (fun _ _ _ _ _=>(zm (i:=0) (by show List.Nodup (["place","rest"]:List Str);decide +kernel) rfl (Or.inl rfl))) (fun _ _ _ _ _=>(qE (zQ (jP (K:=K) (by rfl) hr.units) (pv 0) (pv 1) (by rfl)))) (fun _ _ _ _ _=>(pv 0))) zb)))
   (zf (yE (Jt PySem.F.plainAttrs_list PySem.F.slot_list_append PySem.F.type_list_append qY (pv 3) (za (yM (za (zD J2 (pv 4) (pv 6)) (za (pv 4) (za (pv 5) zb)))) zb))))) qk)))
   (zf (zO (pv 3))))),?_⟩
  refine⟨(by show 0<=sizeLine;decide),fun d hd=>?_⟩
  have s0:=ze (o:=.lst []) hd
  refine⟨_,rfl,ta,rfl,⟨_,SqL.of (s0 _ _ hta)⟩,?_⟩
  refine j9 (K:=K) (a:=ta) (xs:=ut) (fun i σ H'=>∃(uw:List V) (v4 v5 v6:Option V),σ=[some (.ref ta),some (.ref ca),some (.ref ra),some (.ref d),v4,v5,v6]/\zw H H'/\H' d=some (.lst uw)/\Paired (zdV H H' rs rest) uw ((O.take i).filter fun o=>nearF rs o c))
   ⟨[],_,_,_,rfl,s0,zc,.nil⟩ (fun i σ H' _ ⟨_,_,_,_,_,z,_⟩=>SqL.of (z _ _ hta)) ?_ ?_
  ·rintro i x σ H1 hx ⟨uw,v4,v5,v6,rfl,s1,hd1,hN⟩
   obtain⟨o,ho,a,na,wn,rfl,ha0,hna0,hcn0⟩:=Zk hT hx
   have ha:=s1 _ _ ha0
   have hna:=s1 _ _ hna0
   have hcn:=hcn0.mono s1
   have tk:O.take (i+1)=O.take i++[o]:=by
    rw [take_add_one,ho]
    rfl
   refine⟨a,_,rfl,SqT.of ha,rfl,_,_,rfl,_,_,rfl,rfl,?_⟩
   refine⟨_,rfl,_,rfl,zz c,(zM rs o).map zz,Zq.rdv ⟨ca,rfl,s1 _ _ hca⟩,.lst (SqL.of hna) (zk9 hcn),rfl,zf2 _,(by show 1<=60;decide),_,rfl,?_⟩
   have ei:(if false=true then !((zM rs o).map zz).any (fun z=>PyData.eqv z (zz c)) else ((zM rs o).map zz).any fun z=>PyData.eqv z (zz c))=nearF rs o c:=Zu _ _
   rw [ei,tk,filter_append,filter_cons]
   by_cases hp:nearF rs o c=true
   ·rw [if_pos hp]
    refine yN hp ⟨_,rfl,na,rfl,⟨_,SqL.of hna⟩,fun z hz=>?_⟩
    refine qZ (K:=K) (a:=na) (xs:=wn) (fun a=>a≠z) ((zM rs o).map fun x=>if (rest.any fun z=>decide (z=x))=true then some (zz x) else none) (fun σ=>∃u0,σ=[u0,some (.ref ra)]) hz (fun _ h=>h) ⟨_,rfl⟩ (by rw [length_map];exact hcn.length.symm) (by rw [hcn.length];exact le_trans (J5 R o) (by decide)) (SqL.of hna) ?_ ?_
    ·rintro m v u σ H2 hv hu s2 _ ⟨u1,rfl⟩ Y Z yes no
     obtain⟨e,he,rc⟩:=Cel.get (hcn.mono s2) hv
     have eo:=xS he hu
     refine⟨_,rfl,_,rfl,zz e,rest.map zz,rc.rdv,.lst (SqL.of (s2 _ _ (s1 _ _ hra))) (zk9 ((hcr.mono s1).mono s2)),rfl,zf2 _,(by show 1<=60;decide),_,rfl,?_⟩
     have ei:(if false=true then !(rest.map zz).any (fun z=>PyData.eqv z (zz e)) else (rest.map zz).any fun z=>PyData.eqv z (zz e))=rest.any fun z=>decide (z=e):=Zu _ _
     rw [ei]
     by_cases hp:(rest.any fun z=>decide (z=e))=true
     ·rw [if_pos hp] at eo
      exact yN hp ⟨_,rfl,yes _ _ _ _ eo ⟨_,rfl⟩ (zw.refl _) rc.rdn⟩
     ·rw [if_neg hp] at eo
      exact yk (Bool.eq_false_iff.mpr hp) (no _ _ eo ⟨_,rfl⟩ (zw.refl _))
    rintro ys H2 s2 hz2 hr2
    have er:((zM rs o).map fun x=>if (rest.any fun z=>decide (z=x))=true then some (zz x) else none).filterMap id=((zM rs o).filter fun x=>rest.any fun z=>decide (z=x)).map zz:=je _ _ _
    rw [er] at hr2
    have yl:ys.length=Grow.cnt (nearF rs) o rest:=(zF.cel hr2).length.trans (zlj rnd)
    have hd2:=s2 _ _ hd1
    refine⟨z,ys,rfl,.inl (SqL.of hz2),?_⟩
    rw [yl]
    refine⟨_,rfl,.inl ⟨rfl,_,SqL.of hd2⟩,_,rfl,_,rfl,_,_,rfl,rfl,_,rfl,_,rfl,(by show 3<=sizeLine;decide),fun tt htt=>?_⟩
    have z3:=ze (o:=.tup [.int (jq rs o-((Grow.cnt (nearF rs) o rest:Nat):Int)),.int (jq rs o),.ref na]) htt
    have s23:=s2.trans z3
    have uwl:uw.length<=64:=by
     rw [Paired.length hN]
     refine le_trans (length_filter_le _ _) ?_
     rw [length_take]
     omega
    have hd3:=z3 _ _ hd2
    refine⟨d,uw,_,rfl,rfl,hd3,lt_of_le_of_lt uwl (by decide),uw++[.ref tt],_,_,_,rfl,fun b e' h'=>?_,zc,zhm (zcg hd3 (zhn s23 hN)) (.cons ⟨tt,na,wn,rfl,?_,hna0,hcn0⟩ .nil)⟩
    ·rw [zj (zh h' hd)]
     exact s23 _ _ (s1 _ _ h')
    ·have ne:tt≠d:=fun e=>by
      subst e
      rw [hd2] at htt
      cases htt
     rw [zj ne,zc]
   ·rw [if_neg hp]
    refine yk (Bool.eq_false_iff.mpr hp) ⟨uw,_,_,_,rfl,s1,hd1,?_⟩
    rw [List.filter_nil,append_nil]
    exact hN
  ·rintro σ H1 ⟨uw,v4,v5,v6,rfl,s1,hd1,hN⟩
   rw [Paired.length hT,take_length] at hN
   exact⟨_,rfl,q d uw H1 hd1 (zho s1 hN) s1⟩
theorem ZZ:zL ["needs","pick","least","most","near"] ["needs","pick"] (zg yQ):=⟨rfl,rfl,rfl,by decide +kernel,rfl,by decide +kernel,by decide +kernel⟩
theorem zhp (T:Txt mg)(D:zo K mg "may_fit" yQ ["needs","pick"] f fd):zH P w K mg base CX0 1 f fd ["needs","pick"] zmV:=by
 refine D.F.ok ZZ (fun vs H Q E h=>?_) (fun cdv A outer s H vs Q E hr h=>?_)
 ·obtain⟨na,pa,un,up,rs,rest,O,p,rfl,_⟩:=h
  rfl
 ·obtain⟨na,pa,un,up,rs,rest,O,p,rfl,hna,hN,hpa,hcp,pl,q⟩:=h
  refine⟨_,(zd (qo PassesOwn.never rfl (zT (pv 0)) (Jr rfl (zV (zm (i:=2) ZZ.nd rfl (Or.inl rfl)) (zV (zm (i:=3) ZZ.nd rfl (Or.inl rfl)) (zV (zm (i:=4) ZZ.nd rfl (Or.inr rfl)) jZ)))) (zf (jA (zaz (zfj zh9 zh9 (pv 2) (zx zG (by rfl) T.jd PySem.boot_len (za (qm (N:=["cell","near"]) (src:=[none,some 4]) (zW.free (O:=(zg yQ).names) (XN:=["needs","pick","least","most","near"]) rfl rfl ⟨_,rfl⟩ rfl rfl (by decide +kernel) (by decide +kernel) (by decide +kernel) rfl (by decide +kernel)) rfl (zT (pv 1)) (fun _ _ _ _ _=>(zm (i:=0) (by show List.Nodup (["cell","near"]:List Str);decide +kernel) rfl (Or.inl rfl))) (fun _ _ _ _ _=>(qE (zQ (jP (K:=K) (by rfl) hr.units) (pv 0) (pv 1) (by rfl)))) (fun _ _ _ _ _=>(pv 0))) zb)) (pv 3))) (zf (zO za4)) qk)))
   (zf (zO za4))),?_⟩
  refine⟨_,rfl,na,rfl,⟨_,SqL.of hna⟩,?_⟩
  refine j9 (K:=K) (a:=na) (xs:=un) (fun i σ H'=>∃(v2 v3 v4:Option V),σ=[some (.ref na),some (.ref pa),v2,v3,v4]/\zw H H'/\∀o∈O.take i,Grow.zb0 (nearF rs) (jq rs) rest o p=true)
   ⟨_,_,_,rfl,zw.refl _,fun o ho=>by simp at ho⟩ (fun i σ H' _ ⟨_,_,_,_,z,_⟩=>SqL.of (z _ _ hna)) ?_ ?_
  ·rintro i x σ H1 hx ⟨v2,v3,v4,rfl,s1,hall⟩
   obtain⟨o,ho,a,ra,wn,rfl,ha,hra,hcn⟩:=Zk (zaS s1 hN) hx
   refine⟨a,_,rfl,SqT.of ha,rfl,_,_,rfl,_,_,rfl,_,_,rfl,rfl,?_⟩
   refine⟨_,rfl,_,rfl,pa,rfl,⟨_,SqL.of (s1 _ _ hpa)⟩,fun z hz=>?_⟩
   refine qZ (K:=K) (a:=pa) (xs:=up) (fun a=>a≠z) (p.map fun x=>if nearF rs o x=true then some (zz x) else none) (fun σ=>∃u0,σ=[u0,some (.ref ra)]) hz (fun _ h=>h) ⟨_,rfl⟩ (by rw [length_map];exact hcp.length.symm) (by rw [hcp.length];exact le_trans pl (by decide)) (SqL.of (s1 _ _ hpa)) ?_ ?_
   ·rintro m v u σ H2 hv hu s2 _ ⟨u1,rfl⟩ Y Z yes no
    obtain⟨e,he,rc⟩:=Cel.get ((hcp.mono s1).mono s2) hv
    have eo:=xS he hu
    refine⟨_,rfl,_,rfl,zz e,(zM rs o).map zz,rc.rdv,.lst (SqL.of (s2 _ _ hra)) (zk9 (hcn.mono s2)),rfl,zf2 _,(by show 1<=60;decide),_,rfl,?_⟩
    have ei:(if false=true then !((zM rs o).map zz).any (fun z=>PyData.eqv z (zz e)) else ((zM rs o).map zz).any fun z=>PyData.eqv z (zz e))=nearF rs o e:=Zu _ _
    rw [ei]
    by_cases hp:nearF rs o e=true
    ·rw [if_pos hp] at eo
     exact yN hp ⟨_,rfl,yes _ _ _ _ eo ⟨_,rfl⟩ (zw.refl _) rc.rdn⟩
    ·rw [if_neg hp] at eo
     exact yk (Bool.eq_false_iff.mpr hp) (no _ _ eo ⟨_,rfl⟩ (zw.refl _))
   rintro ys H2 s2 hz2 hr2
   have er:(p.map fun x=>if nearF rs o x=true then some (zz x) else none).filterMap id=(p.filter (nearF rs o)).map zz:=je _ _ _
   rw [er] at hr2
   have yl:ys.length=Grow.cnt (nearF rs) o p:=(zF.cel hr2).length
   refine⟨z,ys,rfl,.inl (SqL.of hz2),?_⟩
   rw [yl]
   have om:=mem_of_getElem? ho
   have tk:O.take (i+1)=O.take i++[o]:=by
    rw [take_add_one,ho]
    rfl
   have bad:Grow.zb0 (nearF rs) (jq rs) rest o p=false->Q (.bl false) H2:=fun e=>by
    have e2:(O.all fun o=>Grow.zb0 (nearF rs) (jq rs) rest o p)=false:=Bool.eq_false_iff.mpr fun z=>by
     have:=List.all_eq_true.mp z o om
     rw [e] at this
     cases this
    rw [e2] at q
    exact q _ (s1.trans s2)
   refine⟨_,_,rfl,rfl,_,rfl,?_⟩
   by_cases h1:jq rs o-((Grow.cnt (nearF rs) o rest:Nat):Int)<=((Grow.cnt (nearF rs) o p:Nat):Int)
   ·rw [decide_eq_true h1]
    refine Qd ⟨_,rfl,_,_,rfl,rfl,_,rfl,?_⟩
    by_cases h2:((Grow.cnt (nearF rs) o p:Nat):Int)<=jq rs o
    ·rw [decide_eq_true h2]
     refine Qp ⟨_,_,_,rfl,s1.trans s2,fun o' ho'=>?_⟩
     rw [tk] at ho'
     rcases List.mem_append.mp ho' with ho' | ho'
     ·exact hall o' ho'
     ·have e:o'=o:=by simpa using ho'
      rw [e]
      exact Grow.yh.mpr ⟨h1,h2⟩
    ·rw [decide_eq_false h2]
     exact Qd (bad (Bool.eq_false_iff.mpr fun z=>h2 (Grow.yh.mp z).2))
   ·rw [decide_eq_false h1]
    refine Qp ⟨_,rfl,?_⟩
    exact Qd (bad (Bool.eq_false_iff.mpr fun z=>h1 (Grow.yh.mp z).1))
  ·rintro σ H1 ⟨v2,v3,v4,rfl,s1,hall⟩
   rw [Paired.length hN,take_length] at hall
   have e:(O.all fun o=>Grow.zb0 (nearF rs) (jq rs) rest o p)=true:=List.all_eq_true.mpr hall
   rw [e] at q
   exact q H1 s1
end
noncomputable def toL (q:List (Nat×Nat)):List (Int×Int):=q.map toI
def znS:Sp:=fun vs H Q _=>∃(a l pa:Addr) (rs:List Str) (n:Int) (ups:List V) (part:List (Nat×Nat)),vs=[.ref a,.ref pa]/\qf H a l rs n/\Rows bd.cps.toList rs/\H pa=some (.lst ups)/\Cel H ups part/\part.Nodup/\part.length<=14 /\
 ∀(d:Addr) (ws:List V) (ks:List (List (Int×Int))) (H':Hp),H d=none->H' d=some (.lst ws)->jt (fun a=>H a=none/\a≠d) H' ws ks->ws.Nodup->ks.Perm (((Subs.subs part).filter (Grow.fits (nearF rs) (jq rs) (Jf rs part) part)).map toL)->ks.Pairwise (fun p q=>PySem.SeqAt.ltL q p=false)->zw H H'->Q (.ref d) H'
noncomputable def jy (rs:List Str)(part:List (Nat×Nat)):Nat->List (List (Nat×Nat))
 | 0=>[[]]
 | i+1=>match part[i]? with
  | some c=>(Subs.step (jy rs part i) c).filter (Grow.chk (nearF rs) (jq rs) (Jf rs part) c (part.drop (i+1)))
  | none=>jy rs part i
theorem zch {rs:List Str}{part:List (Nat×Nat)}{i:Nat}{c:Nat×Nat}(h:part[i]?=some c):jy rs part (i+1)=(Subs.step (jy rs part i) c).filter (Grow.chk (nearF rs) (jq rs) (Jf rs part) c (part.drop (i+1))):=by
 show (match part[i]? with | some c=>_ | none=>_)=_
 rw [h]
theorem zci {rs:List Str}{part:List (Nat×Nat)}:∀(k i:Nat),part.length-i=k->i<=part.length->Grow.grow (nearF rs) (jq rs) (Jf rs part) (jy rs part i) (part.drop i)=jy rs part part.length
 | 0,i,h,hi=>by
  have e:i=part.length:=by omega
  subst e
  rw [List.drop_length]
  rfl
 | k+1,i,h,hi=>by
  have hl:i<part.length:=by omega
  rw [drop_eq_getElem_cons hl]
  show Grow.grow _ _ _ ((Subs.step (jy rs part i) part[i]).filter _) (part.drop (i+1))=_
  rw [<- zch (getElem?_eq_getElem hl)]
  exact zci k (i+1) (by omega) (by omega)
theorem zdW (rs:List Str)(part:List (Nat×Nat)):jy rs part part.length=(Subs.subs part).filter (Grow.fits (nearF rs) (jq rs) (Jf rs part) part):=by
 rw [<- Grow.zmk]
 exact(zci (rs:=rs) (part:=part) part.length 0 (by omega) (zero_le _)).symm
theorem Y6 (rs:List Str)(part:List (Nat×Nat)):∀i,(jy rs part i).length<=2^i
 | 0=>le_refl _
 | i+1=>by
  have ih:=Y6 rs part i
  show (match part[i]? with | some c=>_ | none=>_:List (List (Nat×Nat))).length<=_
  rw [pow_succ]
  split
  ·refine le_trans (length_filter_le _ _) ?_
   unfold Subs.step
   rw [length_append,length_map]
   omega
  ·omega
theorem zcj (rs:List Str)(part:List (Nat×Nat)):∀i,∀q∈jy rs part i,q.length<=i
 | 0,q,h=>by
  have e:q=[]:=by simpa [jy] using h
  rw [e]
  exact le_refl _
 | i+1,q,h=>by
  have ih:=zcj rs part i
  cases e:part[i]? with
  | none =>
   have e2:jy rs part (i+1)=jy rs part i:=by
    show (match part[i]? with | some c=>_ | none=>_)=_
    rw [e]
   rw [e2] at h
   exact Nat.le_succ_of_le (ih q h)
  | some c =>
   rw [zch e] at h
   have h:=(List.mem_filter.mp h).1
   rcases List.mem_append.mp h with h | h
   ·exact Nat.le_succ_of_le (ih q h)
   ·obtain⟨p,hp,rfl⟩:=List.mem_map.mp h
    rw [length_append]
    exact Nat.succ_le_succ (ih p hp)
noncomputable def tD2 (rs:List Str)(c:Nat×Nat):PyData:=.tuple [.int (jq rs c),.list ((zM rs c).map zz)]
theorem zlk {N:Addr->Prop}{H:Hp}{rs:List Str}{v:V}{c:Nat×Nat}(h:Rdn N H v (tD2 rs c)):zf8 H rs v c:=by
 unfold tD2 at h
 generalize ed:(zM rs c).map zz=ds at h
 cases h with
 | tup h t =>
  cases t with
  | cons b t =>
   cases b
   cases t with
   | cons d t =>
    cases t
    cases d with
    | lst n h1 h2 =>
     subst ed
     exact⟨_,_,_,rfl,h,h1,zF.cel h2⟩
theorem zdX {N:Addr->Prop}{H:Hp}{rs:List Str}:∀{cs:List (Nat×Nat)} {vs:List V},zF N H vs (cs.map (tD2 rs))->Paired (zf8 H rs) vs cs
 | [],_,.nil=>.nil
 | _::_,_,.cons h t=>.cons (zlk h) (zdX t)
theorem QA {σ:St}{H:Hp}{A B:Hp->Prop}(h:A H):zlY σ H fun b H4=>if b=true then A H4 else B H4:=by
 show if true=true then A H else B H
 rw [if_pos rfl]
 exact h
theorem zll {F:List (List (Nat×Nat))}{j:Nat}{k:List (Int×Int)}(h:(F.map toL)[j]?=some k):∃q,F[j]?=some q/\k=toL q:=by
 rw [getElem?_map] at h
 cases e:F[j]? with
 | none=>rw [e] at h;cases h
 | some q =>
  rw [e] at h
  cases h
  exact⟨q,rfl,rfl⟩
theorem zgb (xs:List V)(i:Nat)(hi:i<xs.length):QU xs (some (((i:Nat):Int)+1)) none=xs.drop (i+1):=by
 have e:HT.sIx xs.length 0 (some (((i:Nat):Int)+1))=i+1:=by
  have:=HT.zbr xs.length 0 (i+1)
  rw [Int.natCast_add] at this
  rw [show (((i:Nat):Int)+1)=((i:Nat):Int)+((1:Nat):Int) from rfl,this]
  omega
 unfold QU
 rw [e]
 show (xs.drop (i+1)).take (xs.length-(i+1))=_
 rw [take_of_length_le (by rw [length_drop];omega)]
theorem zgc {H:Hp}:∀{us:List V} {cs:List (Nat×Nat)} (i:Nat),Cel H us cs->Cel H (us.drop i) (cs.drop i)
 | _,_,0,h=>h
 | _,_,i+1,.nil=>.nil
 | _,_,i+1,.cons _ t=>zgc i t
section
variable {P:Program}{w:World}{K:PySem.W.Frag}{mg:Str->Option Value}{base:Heap}{f:Addr}{fd:FuncData}
theorem qy:zL ["board","part","told","found","place","cell","needs","grown"] ["board","part"] (zg qF):=⟨rfl,rfl,rfl,by decide +kernel,rfl,by decide +kernel,by decide +kernel⟩
theorem Yi {f1 f2 f3 f4 f5 f6 f7 f8:Addr}{fd1 fd2 fd3 fd4 fd5 fd6 fd7 fd8:FuncData}(T:Txt mg)(D:zo K mg "part_layings" qF ["board","part"] f fd)(zJ:zo K mg "around" jU ["board","cell"] f1 fd1)(zv:zo K mg "sign_at" qI ["board","cell"] f2 fd2)
  (zC:zo K mg "cells_of" qB ["board"] f3 fd3) (zu:zo K mg "open_cells" qw ["board"] f4 fd4) (zU:zo K mg "number_at" jV ["board","cell"] f5 fd5) (qC:zo K mg "numbers_of" jw ["board","part"] f6 fd6)
  (jh:zo K mg "needs_at" yp ["told","cell","rest"] f7 fd7) (jI:zo K mg "may_fit" yQ ["needs","pick"] f8 fd8):zH P w K mg base CX0 4 f fd ["board","part"] znS:=by
 have JG:zH P w K mg base CX0 1 f1 fd1 ["board","cell"] Yz:=Y0 T zJ
 have YA:zH P w K mg base CX0 2 f5 fd5 ["board","cell"] zcd:=zak T zU zv
 have zeM:zH P w K mg base CX0 3 f6 fd6 ["board","part"] zla:=zc4 T qC zJ zv zC zu
 have zhq:zH P w K mg base CX0 1 f7 fd7 ["told","cell","rest"] ziB:=zga T jh
 have zjJ:zH P w K mg base CX0 1 f8 fd8 ["needs","pick"] zmV:=zhp T jI
 refine D.F.ok qy (fun vs H Q E h=>?_) (fun cdv A outer s H vs Q E hr h=>?_)
 ·obtain⟨a,l,pa,rs,n,ups,part,rfl,_⟩:=h
  rfl
 ·obtain⟨a,l,pa,rs,n,ups,part,rfl,b,R,hpa,hcp,pnd,pl,q⟩:=h
  have ul:=hcp.length
  refine⟨_,(zd (jA (zQ zoh (zx zG (by rfl) T.jd PySem.boot_len (za (pv 1) zb)) (YO (v:=.int 14) (by rfl) T.zb8.choose_spec (by exact⟨_,rfl⟩)) (qc _)) (zf zj5) qk)
   (zd (ZO (i:=2) qy.nd rfl rfl (N:=["cell","board"]) (src:=[none,some 0]) (zW.free (O:=(zg qF).names) (XN:=["board","part","told","found","place","cell","needs","grown"]) rfl rfl ⟨_,rfl⟩ rfl rfl (by decide +kernel) (by decide +kernel) (by decide +kernel) rfl (by decide +kernel)) rfl (zT (zp zeM (hr.mono (by decide)) (by rfl) qC.g qC.F.kp qC.b .nil zI (za (pv 0) (za (pv 1) zb)))) (fun _ _ _ _ _=>(zm (i:=0) (by show List.Nodup (["cell","board"]:List Str);decide +kernel) rfl (Or.inl rfl))) (fun _ _ _ _ _=>qS) (fun _ _ _ _ _=>(yM (za (zp YA (hr.mono (by decide)) (by rfl) zU.g zU.F.kp zU.b .nil zI (za (pv 1) (za (pv 0) zb))) (za (zp JG (hr.mono (by decide)) (by rfl) zJ.g zJ.F.kp zJ.b .nil zI (za (pv 1) (za (pv 0) zb))) zb)))))
   (zd (zB (i:=3) qy.nd rfl (Or.inl rfl) (qu (za (qu zb) zb)))
   (zd (qo PassesOwn.never rfl (Zb (by rfl) T.jW (za (pv 1) zb)) (Jr rfl (zV (zm (i:=4) qy.nd rfl (Or.inl rfl)) (zV (zm (i:=5) qy.nd rfl (Or.inr rfl)) jZ))) (zd (zB (i:=6) qy.nd rfl (Or.inr rfl) (zp zhq (hr.mono (by decide)) (by rfl) jh.g jh.F.kp jh.b .nil zI (za (pv 2) (za (pv 5) (za (QT zbt (pv 1) (QS (zD qp (pv 4) zq)) zel) zb)))))
   (zd (zB (i:=7) qy.nd rfl (Or.inl rfl) (zD zaB (pv 3) (qm (N:=["pick","cell"]) (src:=[none,some 5]) (zW.free (O:=(zg qF).names) (XN:=["board","part","told","found","place","cell","needs","grown"]) rfl rfl ⟨_,rfl⟩ rfl rfl (by decide +kernel) (by decide +kernel) (by decide +kernel) rfl (by decide +kernel)) rfl (zT (pv 3)) (fun _ _ _ _ _=>(zm (i:=0) (by show List.Nodup (["pick","cell"]:List Str);decide +kernel) rfl (Or.inl rfl))) (fun _ _ _ _ _=>qS) (fun _ _ _ _ _=>(zD zaB (pv 0) (qu (za (pv 1) zb)))))))
   (zf (ZO (i:=3) qy.nd rfl rfl (N:=["pick","needs"]) (src:=[none,some 6]) (zW.free (O:=(zg qF).names) (XN:=["board","part","told","found","place","cell","needs","grown"]) rfl rfl ⟨_,rfl⟩ rfl rfl (by decide +kernel) (by decide +kernel) (by decide +kernel) rfl (by decide +kernel)) rfl (zT (pv 7)) (fun _ _ _ _ _=>(zm (i:=0) (by show List.Nodup (["pick","needs"]:List Str);decide +kernel) rfl (Or.inl rfl))) (fun _ _ _ _ _=>(qE (zaC (K:=K) (by rfl) (zp zjJ (hr.mono (by decide)) (by rfl) jI.g jI.F.kp jI.b .nil zI (za (pv 1) (za (pv 0) zb))) (fun _=>rfl)))) (fun _ _ _ _ _=>(pv 0)))))))
   (zf (zO (zx (GS.Qh hr.units) (by rfl) T.zb7 PyProof.Rows.boot_sorted (za (pv 3) zb)))))))),?_⟩
  refine⟨_,rfl,pa,ups,rfl,.inl (SqL.of hpa),_,_,rfl,rfl,_,rfl,?_⟩
  refine yk (decide_eq_false (by omega)) ?_
  refine⟨_,rfl,_,rfl,a,l,pa,rs,n,ups,part,rfl,b,R,hpa,hcp,fun d ws H1 hd hd1 hc1 s1=>⟨d,rfl,⟨_,SqL.of hd1⟩,fun z hz=>?_⟩⟩
  have b1:=b.mono s1
  have nl:(Jf rs part).length<=64:=le_trans (length_filter_le _ _) (jH (p:=xV) R)
  refine qZ (K:=K) (a:=d) (xs:=ws) (fun a=>a≠z) ((Jf rs part).map fun c=>some (tD2 rs c)) (fun σ=>∃u0,σ=[u0,some (.ref a)]) hz (fun _ h=>h) ⟨_,rfl⟩ (by rw [length_map];exact hc1.length.symm) (by rw [hc1.length];exact le_trans nl (by decide)) (SqL.of hd1) ?_ ?_
  ·rintro k x o σ H2 hx ho s2 hzn ⟨u0,rfl⟩ Y Z yes no
   obtain⟨y,hy,r1⟩:=Cel.get hc1 hx
   have eo:=xS hy ho
   have yo:y∈qd rs:=(List.mem_filter.mp (mem_of_getElem? hy)).1
   obtain⟨t,sg,ht,hj,hop,es⟩:=qe yo
   obtain⟨ya,rfl,hya⟩:=r1
   obtain⟨l1,l2⟩:=JF R ht hj
   obtain⟨o1,o2⟩:=zaQ (ziz R ht hj) hop
   have b2:=b1.mono s2
   have hya2:=s2 _ _ hya
   refine ZN ⟨_,rfl,_,rfl,a,l,ya,rs,n,y.1,y.2,t,sg,rfl,b2,hya2,ht,hj,R.tlen ht,o1,o2,_,rfl,_,rfl,a,l,ya,rs,n,y.1,y.2,rfl,b2,R,hya2,l1,l2,fun d2 ws2 H3 hd2 hd3 hc2 s3=>⟨(by show 2<=sizeLine;decide),fun tt htt=>?_⟩⟩
   have s4:=ze (o:=.tup [.int (((sg:Nat):Int)-48),.ref d2]) htt
   have en:jq rs y=((sg:Nat):Int)-48:=by
    unfold jq
    rw [es]
   refine yes _ _ _ _ eo ⟨_,rfl⟩ (s3.trans s4) (.tup zc (.cons ?_ (.cons (.lst (fun e=>hzn (e ▸ hd2)) (s4 _ _ hd3) (Cel.rdn (hc2.mono s4))) .nil)))
   rw [en]
   exact .int _
  rintro ut H2 s2 hz2 hr2
  rw [Zs] at hr2
  have hT:=zdX hr2
  have s02:=s1.trans s2
  refine⟨(by show 0<=sizeLine;decide),fun e0 he0=>⟨(by show 1<=sizeLine;decide),fun f0 hf0=>?_⟩⟩
  have y1:=ze (o:=.lst []) he0
  have y2:=ze (o:=.lst [.ref e0]) hf0
  have y12:=y1.trans y2
  have hL0:jt (fun a=>H2 a=none) (upd (upd H2 e0 (.lst [])) f0 (.lst [.ref e0])) [.ref e0] ([[]]:List (List (Int×Int))):=.cons ⟨e0,[],rfl,he0,y2 _ _ zc,.nil⟩ .nil
  have hf3:upd (upd H2 e0 (.lst [])) f0 (.lst [.ref e0]) f0=some (.lst [.ref e0]):=zc
  generalize upd (upd H2 e0 (.lst [])) f0 (.lst [.ref e0])=H3 at *
  have hpa2:=s02 _ _ hpa
  refine⟨_,rfl,pa,rfl,⟨_,SqL.of (y12 _ _ hpa2)⟩,?_⟩
  refine Zc (K:=K) (l:=pa) (xs:=ups) (fun i σ H'=>∃(fa:Addr) (fs:List V) (v4 v5 v6 v7:Option V),σ=[some (.ref a),some (.ref pa),some (.ref z),some (.ref fa),v4,v5,v6,v7]/\zw H2 H'/\H' fa=some (.lst fs)/\jt (fun a=>H2 a=none) H' fs ((jy rs part i).map toL)/\fs.Nodup)
   ⟨f0,_,_,_,_,_,rfl,y12,hf3,hL0,by simp⟩ (fun i σ H' _ ⟨_,_,_,_,_,_,_,y,_⟩=>SqL.of (y _ _ hpa2)) ?_ ?_
  ·rintro i x tt σ H4 hx htt ⟨fa,fs,v4,v5,v6,v7,rfl,s4,hfa,hL,hnd⟩
   obtain⟨c,hc,ca,rfl,hca⟩:=Cel.get ((hcp.mono s02).mono s4) hx
   have il:=(List.getElem?_eq_some_iff.mp hx).1
   have z5:=ze (o:=.tup [.int (i:Nat),.ref ca]) htt
   refine⟨tt,_,rfl,SqT.of zc,rfl,_,_,rfl,_,_,rfl,rfl,?_⟩
   have s5:=s4.trans z5
   have hca5:=z5 _ _ hca
   have hfa5:=z5 _ _ hfa
   have hL5:=qi z5 hL
   generalize upd H4 tt (.tup [.int (i:Nat),.ref ca])=H5 at *
   refine⟨_,rfl,_,rfl,_,rfl,_,rfl,_,_,rfl,rfl,_,rfl,pa,ups,rfl,SqL.of (s5 _ _ hpa2),fun x1 hx1=>?_⟩
   have e1:=zgb ups i il
   rw [e1] at *
   have z6:=ze (o:=.lst (ups.drop (i+1))) hx1
   have s6:=s5.trans z6
   refine⟨z,ca,x1,ut,ups.drop (i+1),rs,Jf rs part,part.drop (i+1),c,rfl,s6 _ _ hz2,zjI s6 hT,nl,R,z6 _ _ hca5,zc,zgc _ ((hcp.mono s02).mono s6),pnd.sublist (List.drop_sublist _ _),fun nd un H6 zpi hN s7=>?_⟩
   have s56:=z6.trans s7
   have s26:=s5.trans s56
   have hfa6:=s56 _ _ hfa5
   have hL6:=qi s56 hL5
   have hca6:=s56 _ _ hca5
   have i14:i<=13:=by omega
   have fl:fs.length<=8192:=by
    rw [ja hL,length_map]
    exact le_trans (Y6 rs part i) (pow_le_pow_right (by decide) i14)
   have dp:=zcj rs part i
   have eG:=zch (rs:=rs) hc
   have gl:=Y6 rs part i
   generalize jy rs part i=F at *
   refine⟨_,rfl,_,rfl,fa,rfl,⟨_,SqL.of hfa6⟩,fun y hy=>?_⟩
   refine qA (K:=K) (a:=fa) (xs:=fs) (fun j σ' H'=>∃(u0:Option V) (ys:List V),σ'=[u0,some (.ref ca)]/\zw H6 H'/\H' y=some (.lst ys)/\jt (fun a=>H6 a=none/\a≠y) H' ys (((F.take j).map (·++[c])).map toL)/\ys.Nodup)
    ⟨_,[],rfl,ze hy,zc,.nil,nodup_nil⟩ (fun j σ' H' _ ⟨_,_,_,z,_⟩=>SqL.of (z _ _ hfa6)) ?_ ?_
   ·rintro j v σ' H7 hv ⟨u0,ys,rfl,s8,hy7,hL7,nd7⟩
    obtain⟨k,a1,w1,hk,rfl,an,ha1,t1⟩:=YB hL6 hv
    obtain⟨q1,hq1,rfl⟩:=zll hk
    have kd:=dp q1 (mem_of_getElem? hq1)
    have wl:w1.length=q1.length:=(zcf t1).trans (length_map _)
    have tj:((F.take (j+1)).map (·++[c])).map toL=((F.take j).map (·++[c])).map toL++[toL q1++[toI c]]:=by
     rw [take_add_one,hq1,map_append,map_append]
     simp [toL]
    rw [tj]
    unfold xU
    refine QA ?_
    refine⟨_,rfl,_,rfl,(by show 1<=sizeLine;decide),fun t2 ht2=>?_⟩
    have y5:=ze (o:=.lst [.ref ca]) ht2
    refine⟨a1,t2,w1,[.ref ca],rfl,rfl,y5 _ _ (s8 _ _ ha1),zc,le_trans (show w1.length+1<=100 by omega) (by decide),fun t3 ht3=>?_⟩
    have y6:=ze (o:=.lst (w1++[.ref ca])) ht3
    have y56:=y5.trans y6
    have h6:upd (upd H7 t2 (.lst [.ref ca])) t3 (.lst (w1++[.ref ca])) t3=some (.lst (w1++[.ref ca])):=zc
    have tz:t3≠y:=fun e=>by
     subst e
     rw [y5 _ _ hy7] at ht3
     cases ht3
    have n4:=y5.free ht3
    have n3:=s8.free n4
    have c1:yO (upd (upd H7 t2 (.lst [.ref ca])) t3 (.lst (w1++[.ref ca]))) [.ref ca] [toI c]:=.cons ⟨ca,rfl,y56 _ _ (s8 _ _ hca6)⟩ .nil
    have tw6:=zf7 (yT (s8.trans y56) t1) c1
    generalize upd (upd H7 t2 (.lst [.ref ca])) t3 (.lst (w1++[.ref ca]))=H8 at *
    have hy8:=y56 _ _ hy7
    have yl:ys.length<=8192:=by
     rw [ja hL7,length_map,length_map,length_take]
     have:=ja hL
     rw [length_map] at this
     omega
    refine⟨ys,hy8,lt_of_le_of_lt yl (by decide),_,ys++[.ref t3],rfl,fun b' o e=>?_,zc,Zx (yU hy8 (fun a h=>h.2) (qi y56 hL7)) (.cons ⟨t3,w1++[.ref ca],rfl,⟨n3,tz⟩,by rw [zj tz];exact h6,Jp hy8 tw6⟩ .nil),?_⟩
    ·rw [zj (zh e hy)]
     exact y56 _ _ (s8 _ _ e)
    ·refine List.nodup_append.mpr ⟨nd7,by simp,fun u hu u' hu' e=>?_⟩
     obtain⟨b',wb,rfl,_,hb⟩:=Y5 hL7 hu
     have e2:u'=.ref t3:=by simpa using hu'
     rw [e2] at e
     cases e
     rw [hb] at n4
     cases n4
   rintro σ' H7 ⟨u0,ys,rfl,s8,hy7,hL7,nd7⟩
   have fsl:fs.length=F.length:=(ja hL).trans (length_map _)
   rw [fsl,take_length] at hL7
   have yl:ys.length<=8192:=by
    rw [ja hL7,length_map,length_map]
    omega
   refine⟨fa,y,fs,ys,rfl,rfl,s8 _ _ hfa6,hy7,le_trans (Nat.add_le_add fl yl) (by decide),fun g hg=>?_⟩
   have y9:=ze (o:=.lst (fs++ys)) hg
   have s27:=s26.trans s8
   have s28:=s27.trans y9
   have hg8:upd H7 g (.lst (fs++ys)) g=some (.lst (fs++ys)):=zc
   have hLg:jt (fun a=>H2 a=none) (upd H7 g (.lst (fs++ys))) (fs++ys) ((Subs.step F c).map toL):=by
    unfold Subs.step
    rw [map_append]
    exact Zx (qi (s8.trans y9) hL6) (qi y9 (Qz (fun a h=>s26.free h.1) hL7))
   have gnd:(fs++ys).Nodup:=by
    refine List.nodup_append.mpr ⟨hnd,nd7,fun u hu u' hu' e=>?_⟩
    obtain⟨b',wb,rfl,_,hb⟩:=Y5 hL6 hu
    obtain⟨b2,wb2,rfl,hb2,_⟩:=Y5 hL7 hu'
    cases e
    rw [hb] at hb2
    cases hb2.1
   have hnd8:=(s8.trans y9) _ _ zpi
   have hN8:=zaS (s8.trans y9) hN
   have gll:(fs++ys).length<=16384:=by
    rw [length_append]
    omega
   have dps:∀q∈Subs.step F c,q.length<=64:=fun q hq=>by
    rcases List.mem_append.mp hq with hq | hq
    ·have:=dp q hq
     omega
    ·obtain⟨p',hp',rfl⟩:=List.mem_map.mp hq
     have:=dp p' hp'
     rw [length_append]
     show p'.length+1<=64
     omega
   generalize fs++ys=gs at *
   generalize Subs.step F c=S at *
   generalize upd H7 g (.lst gs)=H8 at *
   refine⟨_,rfl,g,rfl,⟨_,SqL.of hg8⟩,fun y2 hy2=>?_⟩
   refine qA (K:=K) (a:=g) (xs:=gs) (fun j σ' H'=>∃(u0:Option V) (ys:List V),σ'=[u0,some (.ref nd)]/\zw H8 H'/\H' y2=some (.lst ys)/\jt (fun a=>H2 a=none/\a≠y2) H' ys (((S.take j).filter (Grow.chk (nearF rs) (jq rs) (Jf rs part) c (part.drop (i+1)))).map toL)/\ys.Sublist (gs.take j))
    ⟨_,[],rfl,ze hy2,zc,.nil,List.Sublist.slnil⟩ (fun j σ' H' _ ⟨_,_,_,z,_⟩=>SqL.of (z _ _ hg8)) ?_ ?_
   ·rintro j v σ' H9 hv ⟨u0,ys,rfl,s9,hz9,hL9,sb9⟩
    obtain⟨k,a1,w1,hk,rfl,an,ha1,t1⟩:=YB hLg hv
    obtain⟨q1,hq1,rfl⟩:=zll hk
    have tf:gs.take (j+1)=gs.take j++[.ref a1]:=by
     rw [take_add_one,hv]
     rfl
    refine⟨_,rfl,_,rfl,nd,a1,un,w1,rs,part.drop (i+1),_,q1,rfl,s9 _ _ hnd8,zaS s9 hN8,s9 _ _ ha1,(JU t1).mono s9,dps q1 (mem_of_getElem? hq1),fun H10 s10=>⟨_,rfl,?_⟩⟩
    rw [tf]
    have hz10:=s10 _ _ hz9
    show if Grow.chk (nearF rs) (jq rs) (Jf rs part) c (part.drop (i+1)) q1=true then _ else _
    by_cases hlt:Grow.chk (nearF rs) (jq rs) (Jf rs part) c (part.drop (i+1)) q1=true
    ·have e1:((S.take (j+1)).filter (Grow.chk (nearF rs) (jq rs) (Jf rs part) c (part.drop (i+1)))).map toL=((S.take j).filter (Grow.chk (nearF rs) (jq rs) (Jf rs part) c (part.drop (i+1)))).map toL++[toL q1]:=by
      rw [take_add_one,hq1,filter_append,map_append]
      simp [hlt]
     rw [e1]
     have az:a1≠y2:=zh ha1 hy2
     have yl:ys.length<=16384:=by
      have:=sb9.length_le
      rw [length_take] at this
      omega
     refine yN hlt ⟨_,rfl,ys,hz10,lt_of_le_of_lt yl (by decide),_,ys++[.ref a1],rfl,fun b' o e=>?_,zc,Zx (yU hz10 (fun a h=>h.2) (qi s10 hL9)) (.cons ⟨a1,w1,rfl,⟨an,az⟩,by rw [zj az];exact s10 _ _ (s9 _ _ ha1),Jp hz10 (yT (s9.trans s10) t1)⟩ .nil),List.Sublist.append sb9 (List.Sublist.refl _)⟩
     rw [zj (zh e hy2)]
     exact s10 _ _ (s9 _ _ e)
    ·have e1:((S.take (j+1)).filter (Grow.chk (nearF rs) (jq rs) (Jf rs part) c (part.drop (i+1)))).map toL=((S.take j).filter (Grow.chk (nearF rs) (jq rs) (Jf rs part) c (part.drop (i+1)))).map toL:=by
      rw [take_add_one,hq1,filter_append,map_append]
      simp [hlt]
     rw [e1]
     exact yk (Bool.eq_false_iff.mpr hlt) ⟨_,ys,rfl,s9.trans s10,hz10,qi s10 hL9,sb9.trans (List.sublist_append_left _ _)⟩
   ·rintro σ' H9 ⟨u0,ys,rfl,s9,hz9,hL9,sb9⟩
    have gsl:gs.length=S.length:=(ja hLg).trans (length_map _)
    rw [gsl,take_length,<- eG] at hL9
    rw [gsl,<- gsl,take_length] at sb9
    exact⟨y2,ys,_,_,_,_,rfl,s28.trans s9,hz9,Qz (fun a h=>h.1) hL9,gnd.sublist sb9⟩
  ·rintro σ H4 ⟨fa,fs,v4,v5,v6,v7,rfl,s4,hfa,hL,hnd⟩
   have gl:=Y6 rs part part.length
   rw [ul,zdW] at hL
   rw [zdW] at gl
   have fl:fs.length<=16384:=by
    rw [ja hL,length_map]
    exact le_trans gl (pow_le_pow_right (by decide) pl)
   refine⟨_,rfl,fa,fs,_,rfl,SqL.of hfa,zjG hL,by omega,fun d' us' ks' hd' hp' zdU hpw hup=>?_⟩
   have y5:=ze (o:=.lst us') hd'
   have s04:=s02.trans s4
   refine q d' us' ks' _ (s04.free hd') zc (qi y5 (zli hp' fun v hv=>?_)) (hup.nodup_iff.mpr hnd) zdU hpw (s04.trans y5)
   obtain⟨a1,wa,e,na,ha⟩:=Y5 hL (hup.mem_iff.mp hv)
   exact⟨a1,e,s02.free na,zh ha hd'⟩
end
abbrev iL (xs:List Int):List V:=xs.map V.int
noncomputable def Zy (xs:List Int):PyData:=.list (xs.map PyData.int)
theorem zbd {K:PySem.W.Frag}{H:Hp}:∀xs:List Int,xP K H (iL xs) (xs.map PyData.int)
 | []=>.nil
 | x::r=>.cons (.int x) (zbd r)
theorem zgd {K:PySem.W.Frag}{H:Hp}{a:Addr}{xs:List Int}(h:SqL K H a (iL xs)):Rdv K H (.ref a) (Zy xs):=.lst h (zbd xs)
theorem lay_ints:∀xs:List Int,PyData.canLayAll0 (xs.map PyData.int)=true
 | []=>rfl
 | x::r=>by
  show (PyData.canLay0 (.int x)&&PyData.canLayAll0 (r.map PyData.int))=true
  rw [lay_ints r]
  rfl
theorem zck:∀xs:List Int,PyData.depthAll (xs.map PyData.int)=0
 | []=>rfl
 | x::r=>by
  show max (PyData.depth (.int x)) (PyData.depthAll (r.map PyData.int))=0
  rw [zck r]
  rfl
theorem zaT (xs:List Int):(Zy xs).canLay0=true:=lay_ints xs
theorem zge (xs:List Int):(Zy xs).depth=1:=by
 show PyData.depthAll (xs.map PyData.int)+1=1
 rw [zck]
theorem zjK (xs ys:List Int):zi7 (Zy xs) (Zy ys):=⟨zaT xs,zaT ys,by rw [zge];decide⟩
theorem zhr (xs:List Int):PyData.eqv (Zy xs) (Zy xs)=true:=SeqAt.eqv_refl _ (zaT xs)
theorem ints_get {xs:List Int}{i:Nat}{v:V}(h:(iL xs)[i]?=some v):∃x,xs[i]?=some x/\v=.int x:=by
 rw [getElem?_map] at h
 cases e:xs[i]? with
 | none=>rw [e] at h;cases h
 | some x =>
  rw [e] at h
  cases h
  exact⟨x,rfl,rfl⟩
theorem ziC {xs:List Int}{i:Nat}{x:Int}(h:xs[i]?=some x):(iL xs)[i]?=some (.int x):=by
 rw [getElem?_map,h]
 rfl
theorem zcl {n:Nat}{k:Int}(h0:0<=k)(h1:k<n):ixN n k=some k.toNat:=by
 unfold ixN
 rw [if_pos h0,if_pos h1]
theorem zmy (xs:List Int)(z:Int):iL (xs++[z])=iL xs++[.int z]:=by
 show List.map V.int (xs++[z])=_
 rw [map_append]
 rfl
def Yl (c:Nat×Nat)(k:List (Int×Int)):Bool:=k.any fun z=>decide (z=toI c)
noncomputable def Z0 (rs:List Str)(part:List (Nat×Nat)):List (List (Int×Int)):=((Subs.subs part).filter (Grow.fits (nearF rs) (jq rs) (Jf rs part) part)).map toL
def ziD:Sp:=fun vs H Q _=>∃(fa:Addr) (us:List V) (ks:List (List (Int×Int))) (N:Addr->Prop) (g:Nat),vs=[.ref fa,.int (g:Nat)]/\H fa=some (.lst us)/\jt N H us ks/\(∀k∈ks,k.length<=g)/\g<=64 /\
 ∀(d:Addr) (H':Hp),H d=none->H' d=some (.lst (iL (Cnt.xR g ks)))->zw H H'->Q (.ref d) H'
def ziE:Sp:=fun vs H Q _=>∃(fa ca:Addr) (us:List V) (ks:List (List (Int×Int))) (N:Addr->Prop) (g:Nat) (c:Nat×Nat),vs=[.ref fa,.int (g:Nat),.ref ca]/\H fa=some (.lst us)/\jt N H us ks/\(∀k∈ks,k.length<=g)/\g<=64/\ks.length<=16384/\H ca=some (.tup [.int (c.1:Nat),.int (c.2:Nat)]) /\
 ∀(d:Addr) (H':Hp),H d=none->H' d=some (.lst (iL (Cnt.xR g (ks.filter (Yl c)))))->zw H H'->Q (.ref d) H'
def zoJ:Sp:=fun vs H Q _=>∃(a l pa:Addr) (rs:List Str) (n:Int) (ups:List V) (part:List (Nat×Nat)),vs=[.ref a,.ref pa]/\qf H a l rs n/\Rows bd.cps.toList rs/\H pa=some (.lst ups)/\Cel H ups part/\part.Nodup/\part.length<=14 /\
 ∀(d:Addr) (H':Hp),H d=none->H' d=some (.lst (iL (Cnt.xR part.length (Z0 rs part))))->zw H H'->Q (.ref d) H'
theorem zgf (n:Nat):(replicate n [V.int 0]).flatten=iL (replicate n 0):=by
 induction n with
 | zero=>rfl
 | succ n ih =>
  rw [replicate_succ,flatten_cons,ih]
  rfl
theorem zgg {α:Type}:∀(cs:List α) (b:Nat),(Subs.pick cs b).length<=cs.length
 | [],_=>zero_le _
 | c::r,b=>by
  have:=zgg r (b/2)
  show ((if b%2=1 then [c] else [])++Subs.pick r (b/2)).length<=r.length+1
  rw [length_append]
  split
  ·show 1+_<=_
   omega
  ·show 0+_<=_
   omega
theorem zlm {α:Type}{cs q:List α}(h:q∈Subs.subs cs):q.length<=cs.length:=by
 rw [Subs.YV] at h
 obtain⟨b,_,rfl⟩:=List.mem_map.mp h
 exact zgg cs b
theorem zcm {rs:List Str}{part:List (Nat×Nat)}{k:List (Int×Int)}(h:k∈Z0 rs part):k.length<=part.length:=by
 obtain⟨q1,h1,rfl⟩:=List.mem_map.mp h
 show (q1.map toI).length<=_
 rw [length_map]
 exact zlm (List.mem_filter.mp h1).1
theorem zjL {rs:List Str}{part:List (Nat×Nat)}(h:part.length<=14):(Z0 rs part).length<=16384:=by
 unfold Z0
 rw [length_map]
 refine le_trans (length_filter_le _ _) ?_
 rw [Subs.YV,length_map,length_range]
 exact le_trans (pow_le_pow_right (by decide) h) (by decide)
section
variable {P:Program}{w:World}{K:PySem.W.Frag}{mg:Str->Option Value}{base:Heap}{f:Addr}{fd:FuncData}
theorem QB:zL ["found","greatest","counts","laying"] ["found","greatest"] (zg Jo):=⟨rfl,rfl,rfl,by decide +kernel,rfl,by decide +kernel,by decide +kernel⟩
theorem QC (T:Txt mg)(D:zo K mg "counted" Jo ["found","greatest"] f fd):zH P w K mg base CX0 1 f fd ["found","greatest"] ziD:=by
 refine D.F.ok QB (fun vs H Q E h=>?_) (fun cdv A outer s H vs Q E hr h=>?_)
 ·obtain⟨fa,us,ks,N,g,rfl,_⟩:=h
  rfl
 ·obtain⟨fa,us,ks,N,g,rfl,hfa,hL,hk,g64,q⟩:=h
  refine⟨_,(zd (zB (i:=2) QB.nd rfl (Or.inl rfl) (zD zgR (qu (za zq zb)) (zD qp (pv 1) zq)))
   (zd (qo PassesOwn.never rfl (zT (pv 0)) (zm (i:=3) QB.nd rfl (Or.inl rfl)) (zf (zh6 (pv 2) (zx zG (by rfl) T.jd PySem.boot_len (za (pv 3) zb)) zfq zq zj7 set_list)))
   (zf (zO (pv 2))))),?_⟩
  refine⟨(by show 1<=sizeLine;decide),fun l0 hl0=>?_⟩
  have s0:zw H (upd H l0 (.lst [.int 0])):=ze hl0
  refine⟨_,rfl,_,_,rfl,rfl,l0,_,_,rfl,rfl,zc,by omega,by omega,?_,fun p hp=>?_⟩
  ·exact le_trans (show 1*((g:Int)+1).toNat<=120 by omega) (by decide)
  rw [show ((g:Int)+1).toNat=g+1 by omega,zgf,<- Cnt.zkS (α:=Int×Int)]
  have s1:=s0.trans (ze (o:=.lst (iL (Cnt.xR g ([]:List (List (Int×Int)))))) hp)
  have hp0:H p=none:=s0.free hp
  refine⟨_,rfl,fa,rfl,⟨_,SqL.of (s1 _ _ hfa)⟩,?_⟩
  refine j9 (K:=K) (a:=fa) (xs:=us) (fun i σ H'=>∃v3,σ=[some (.ref fa),some (.int (g:Nat)),some (.ref p),v3]/\zw H H'/\H' p=some (.lst (iL (Cnt.xR g (ks.take i)))))
   ⟨_,rfl,s1,zc⟩ (fun i σ H' _ ⟨_,_,y,_⟩=>SqL.of (y _ _ hfa)) ?_ ?_
  ·rintro i v σ H1 hv ⟨v3,rfl,s2,hp2⟩
   obtain⟨k,a1,wa,hk1,rfl,_,ha1,t1⟩:=YB hL hv
   have kl:=hk k (mem_of_getElem? hk1)
   have wl:=zcf t1
   refine⟨_,rfl,_,rfl,a1,wa,rfl,.inl (SqL.of (s2 _ _ ha1)),p,_,_,_,rfl,rfl,SqL.of hp2,jJ (by omega) (ziC (Cnt.zb1 (n:=wa.length) _ (by omega))),_,_,rfl,rfl,p,_,_,_,rfl,rfl,hp2,zcl (by omega) (by rw [length_map,Cnt.zae];omega),?_⟩
   refine⟨_,rfl,fun c o e=>?_,?_⟩
   ·rw [zj (zh e hp0)]
    exact s2 _ _ e
   ·rw [zc,take_add_one,hk1]
    show _=some (HO.lst (iL (Cnt.xR g (ks.take i++[k]))))
    rw [Cnt.zjy _ kl,wl]
    show some (HO.lst ((List.map V.int _).set _ (V.int _)))=_
    rw [<- List.map_set]
    rfl
  ·rintro σ H1 ⟨v3,rfl,s2,hp2⟩
   rw [ja hL,take_length] at hp2
   exact⟨_,rfl,q p H1 hp0 hp2 s2⟩
theorem zcn:zL ["board","part"] ["board","part"] (zg xq):=⟨rfl,rfl,rfl,by decide +kernel,rfl,by decide +kernel,by decide +kernel⟩
theorem zco {f1 f2 f3 f4 f5 f6 f7 f8 f9 f10:Addr}{fd1 fd2 fd3 fd4 fd5 fd6 fd7 fd8 fd9 fd10:FuncData}(T:Txt mg)(D:zo K mg "part_counts" xq ["board","part"] f fd)(zJ:zo K mg "around" jU ["board","cell"] f1 fd1)(zv:zo K mg "sign_at" qI ["board","cell"] f2 fd2)
  (zC:zo K mg "cells_of" qB ["board"] f3 fd3) (zu:zo K mg "open_cells" qw ["board"] f4 fd4) (zU:zo K mg "number_at" jV ["board","cell"] f5 fd5) (qC:zo K mg "numbers_of" jw ["board","part"] f6 fd6)
  (jh:zo K mg "needs_at" yp ["told","cell","rest"] f7 fd7) (jI:zo K mg "may_fit" yQ ["needs","pick"] f8 fd8) (qa:zo K mg "part_layings" qF ["board","part"] f9 fd9) (qj:zo K mg "counted" Jo ["found","greatest"] f10 fd10):zH P w K mg base CX0 5 f fd ["board","part"] zoJ:=by
 have JH:zH P w K mg base CX0 4 f9 fd9 ["board","part"] znS:=Yi T qa zJ zv zC zu zU qC jh jI
 have Zz:zH P w K mg base CX0 1 f10 fd10 ["found","greatest"] ziD:=QC T qj
 refine D.F.ok zcn (fun vs H Q E h=>?_) (fun cdv A outer s H vs Q E hr h=>?_)
 ·obtain⟨a,l,pa,rs,n,ups,part,rfl,_⟩:=h
  rfl
 ·obtain⟨a,l,pa,rs,n,ups,part,rfl,b,R,hpa,hcp,pnd,pl,q⟩:=h
  refine⟨_,(zf (zO (zp Zz (hr.mono (by decide)) (by rfl) qj.g qj.F.kp qj.b .nil zI (za (zp JH (hr.mono (by decide)) (by rfl) qa.g qa.F.kp qa.b .nil zI (za (pv 0) (za (pv 1) zb))) (za (zx zG (by rfl) T.jd PySem.boot_len (za (pv 1) zb)) zb))))),?_⟩
  refine⟨_,rfl,_,rfl,a,l,pa,rs,n,ups,part,rfl,b,R,hpa,hcp,pnd,pl,fun d ws ks H1 hd hd1 hL _ hpm _ s1=>?_⟩
  refine⟨_,rfl,pa,ups,rfl,.inl (SqL.of (s1 _ _ hpa)),d,ws,ks,_,ups.length,rfl,hd1,hL,fun k hk=>?_,?_,fun e H2 he he2 s2=>?_⟩
  ·rw [hcp.length]
   exact zcm (hpm.mem_iff.mp hk)
  ·rw [hcp.length]
   omega
  ·rw [hcp.length,Cnt.zaN hpm] at he2
   exact q e H2 (s1.free he) he2 (s1.trans s2)
end
def qN (rs:List Str)(g S:List (Nat×Nat)):Bool:=Grow.fits (nearF rs) (jq rs) (Jf rs g) g S
theorem Y7 {rs:List Str}{o x:Nat×Nat}:nearF rs o x=true↔x∈zM rs o:=Parts.zad _ _
theorem znT {rs:List Str}{x:Nat×Nat}(h:x∈qb rs):Cells.sgn (codes rs) x=63:=by
 obtain⟨t,k,ht,hj,hk,es⟩:=qe h
 have:k=63:=by
  unfold qJ at hk
  simpa using hk
 rw [es,this]
theorem Z1 {rs:List Str}{o x:Nat×Nat}(hx:x∈qb rs):nearF rs o x=true↔x∈clA rs o:=by
 rw [Y7]
 constructor
 ·exact fun h=>List.mem_filter.mpr ⟨h,decide_eq_true (znT hx)⟩
 ·exact fun h=>(List.mem_filter.mp h).1
theorem zeN {rs:List Str}{g:List (Nat×Nat)}{o:Nat×Nat}:o∈Jf rs g↔o∈qd rs/\∃x∈g,nearF rs o x=true:=by
 unfold Jf
 rw [List.mem_filter,any_map,List.any_eq_true]
 refine and_congr_right fun _=>?_
 constructor
 ·rintro⟨z,hz,h⟩
  have h':(g.any fun x=>decide (x=z))=true:=h
  exact⟨z,(Parts.zad _ _).mp h',Y7.mpr hz⟩
 ·rintro⟨x,hx,h⟩
  exact⟨x,Y7.mp h,(Parts.zad _ _).mpr hx⟩
section
variable {rs:List Str}{gs:List (List (Nat×Nat))}(G:Parts.Good (clA rs) (qd rs) gs)
include G
theorem yi:∀c∈gs.flatten,c∈qb rs:=fun c hc=>by
 obtain⟨o,_,h⟩:=G.from_ c hc
 exact Zv h
theorem zmz {g:List (Nat×Nat)}(hg:g∈gs){o x:Nat×Nat}(ho:o∈Jf rs g)(hx:x∈qb rs)(hn:nearF rs o x=true):x∈g:=by
 obtain⟨h1,y,hy,h2⟩:=zeN.mp ho
 have hys:=yi G y (List.mem_flatten.mpr ⟨g,hg,hy⟩)
 have hyc:=(Z1 hys).mp h2
 obtain⟨g',hg',hall⟩:=G.cov o h1 (List.ne_nil_of_mem hyc)
 have e:=Parts.zdJ G.nd hg' hg (hall y hyc) hy
 rw [<- e]
 exact hall x ((Z1 hx).mp hn)
theorem ziF {g:List (Nat×Nat)}(hg:g∈gs){o:Nat×Nat}(ho:o∈Jf rs g){a:List (Nat×Nat)}(h:∀c∈a,c∈qb rs/\c ∉ g):Grow.cnt (nearF rs) o a=0:=by
 unfold Grow.cnt
 rw [List.length_eq_zero_iff,List.filter_eq_nil_iff]
 intro c hc hn
 exact(h c hc).2 (zmz G hg ho (h c hc).1 hn)
theorem zan {g:List (Nat×Nat)}(hg:g∈gs):Tally.Loc (qb rs) (qN rs g) g:=by
 have key:∀S S':List (Nat×Nat),(∀o∈Jf rs g,Grow.cnt (nearF rs) o S=Grow.cnt (nearF rs) o S')->qN rs g S=qN rs g S':=fun S S' h=>by
  unfold qN Grow.fits
  rw [Bool.eq_iff_iff,List.all_eq_true,List.all_eq_true]
  constructor
  ·intro k o ho
   have:=k o ho
   rwa [h o (List.mem_filter.mp ho).1] at this
  ·intro k o ho
   have:=k o ho
   rwa [<- h o (List.mem_filter.mp ho).1] at this
 have app:∀(o:Nat×Nat) (a b:List (Nat×Nat)),Grow.cnt (nearF rs) o (a++b)=Grow.cnt (nearF rs) o a+Grow.cnt (nearF rs) o b:=fun o a b=>by
  unfold Grow.cnt
  rw [filter_append,length_append]
 refine⟨fun a b h=>key _ _ fun o ho=>?_,fun a b h=>key _ _ fun o ho=>?_⟩
 ·rw [app,ziF G hg ho h,zero_add]
 ·rw [app,ziF G hg ho h,add_zero]
theorem zgh:(gs.map fun g=>Tally.tl g (qN rs g)).foldl Pour.J3 [1]=Tally.tl gs.flatten (Tally.j5 (qN rs) gs):=Tally.zhg G.nd (yi G) fun g hg=>zan G hg
theorem zjM (i:Nat):((gs.take i).map fun g=>Tally.tl g (qN rs g)).foldl Pour.J3 [1]=Tally.tl (gs.take i).flatten (Tally.j5 (qN rs) (gs.take i)):=by
 have sub:(gs.take i).flatten.Sublist gs.flatten:=by
  have e:gs.flatten=(gs.take i).flatten++(gs.drop i).flatten:=by rw [<- flatten_append,take_append_drop]
  rw [e]
  exact List.sublist_append_left _ _
 exact Tally.zhg (G.nd.sublist sub) (fun c hc=>yi G c (sub.subset hc)) fun g hg=>zan G (mem_of_mem_take hg)
theorem YC (R:Rows bd.cps.toList rs):gs.flatten.length<=64:=by
 have h1:=Parts.j4 G.nd (yi G)
 have h2:=zdS R
 omega
end
theorem zdY (rs:List Str)(part:List (Nat×Nat)):Cnt.xR part.length (Z0 rs part)=Tally.tl part (qN rs part):=by
 unfold Z0
 rw [Tally.zfR part.length toL (fun k=>length_map _)]
 exact Tally.zix part _
def zjN (xs:List Int):Prop:=∀z∈xs,z.natAbs<2^8000
theorem zmA {cs:List (Nat×Nat)}{p:List (Nat×Nat)->Bool}{k:Nat}(h:cs.length<=64):Tally.T cs p k<=2^64:=by
 refine le_trans List.countP_le_length ?_
 rw [Subs.YV,length_map,length_range]
 exact pow_le_pow_right (by decide) h
theorem Z3 {cs:List (Nat×Nat)}{p:List (Nat×Nat)->Bool}(h:cs.length<=64):zjN (Tally.tl cs p):=fun z hz=>by
 unfold Tally.tl at hz
 obtain⟨k,_,rfl⟩:=List.mem_map.mp hz
 rw [Int.natAbs_natCast]
 exact lt_of_le_of_lt (zmA h) (Nat.pow_lt_pow_right (by decide) (by decide))
def ZA (rs:List Str)(S:List (Nat×Nat)):Bool:=((qd rs).filter fun o=>!(clA rs o).isEmpty).all fun o=>decide (((Grow.cnt (nearF rs) o S:Nat):Int)=jq rs o)
theorem Jg {rs:List Str}{S:List (Nat×Nat)}:ZA rs S=true ↔ ∀o∈qd rs,clA rs o ≠ []->((Grow.cnt (nearF rs) o S:Nat):Int)=jq rs o:=by
 unfold ZA
 rw [List.all_eq_true]
 constructor
 ·intro h o ho hc
  exact of_decide_eq_true (h o (List.mem_filter.mpr ⟨ho,by rw [not_eq_true'];exact List.isEmpty_eq_false_iff.mpr hc⟩))
 ·intro h o ho
  obtain⟨h1,h2⟩:=List.mem_filter.mp ho
  rw [not_eq_true'] at h2
  exact decide_eq_true (h o h1 (List.isEmpty_eq_false_iff.mp h2))
theorem zaU {rs:List Str}{gs:List (List (Nat×Nat))}(G:Parts.Good (clA rs) (qd rs) gs)(S:List (Nat×Nat)):Tally.j5 (qN rs) gs S=ZA rs S:=by
 rw [Bool.eq_iff_iff,Jg]
 unfold Tally.j5 qN Grow.fits
 rw [List.all_eq_true]
 constructor
 ·intro h o ho hc
  obtain⟨x,hx⟩:=List.exists_mem_of_ne_nil _ hc
  obtain⟨g,hg,hall⟩:=G.cov o ho hc
  have hn:nearF rs o x=true:=(Z1 (Zv hx)).mpr hx
  have:=h g hg
  rw [List.all_eq_true] at this
  exact of_decide_eq_true (this o (List.mem_filter.mpr ⟨zeN.mpr ⟨ho,x,hall x hx,hn⟩,List.any_eq_true.mpr ⟨x,hall x hx,hn⟩⟩))
 ·intro h g hg
  rw [List.all_eq_true]
  intro o ho
  obtain⟨h1,x,hx,hn⟩:=zeN.mp (List.mem_filter.mp ho).1
  have hxs:=yi G x (List.mem_flatten.mpr ⟨g,hg,hx⟩)
  exact decide_eq_true (h o h1 (List.ne_nil_of_mem ((Z1 hxs).mp hn)))
theorem zln {rs:List Str}{gs:List (List (Nat×Nat))}(G:Parts.Good (clA rs) (qd rs) gs){c:Nat×Nat}:c∈gs.flatten↔c∈qb rs/\∃o∈qd rs,nearF rs o c=true:=by
 constructor
 ·intro h
  obtain⟨o,ho,hc⟩:=G.from_ c h
  have hs:=Zv hc
  exact⟨hs,o,ho,(Z1 hs).mpr hc⟩
 ·rintro⟨hs,o,ho,hn⟩
  have hc:=(Z1 hs).mp hn
  obtain⟨g,hg,hall⟩:=G.cov o ho (List.ne_nil_of_mem hc)
  exact List.mem_flatten.mpr ⟨g,hg,hall c hc⟩
def jK (rs:List Str)(S:List (Nat×Nat)):Bool:=(qd rs).all fun o=>decide (((Grow.cnt (nearF rs) o S:Nat):Int)=jq rs o)
theorem Z4 {rs:List Str}{S:List (Nat×Nat)}:jK rs S=true ↔ ∀o∈qd rs,((Grow.cnt (nearF rs) o S:Nat):Int)=jq rs o:=by
 unfold jK
 rw [List.all_eq_true]
 exact⟨fun h o ho=>of_decide_eq_true (h o ho),fun h o ho=>decide_eq_true (h o ho)⟩
theorem zcp (rs:List Str):Tally.Inv (jK rs):=fun a b e=>by
 rw [Bool.eq_iff_iff,Z4,Z4]
 have:∀o,Grow.cnt (nearF rs) o a=Grow.cnt (nearF rs) o b:=fun o=>(e.filter _).length_eq
 constructor
 ·intro h o ho
  rw [<- this o]
  exact h o ho
 ·intro h o ho
  rw [this o]
  exact h o ho
theorem zlo {rs:List Str}:(jr rs).isEmpty=true ↔ ∀o∈qd rs,clA rs o=[]->jq rs o=0:=by
 rw [List.isEmpty_iff]
 unfold jr jq
 rw [List.filter_eq_nil_iff]
 constructor
 ·intro h o ho hc
  have:=h o (List.mem_filter.mpr ⟨ho,by rw [hc];rfl⟩)
  rw [not_eq_true',Bool.not_eq_false] at this
  rw [of_decide_eq_true this]
  rfl
 ·intro h o ho
  obtain⟨h1,h2⟩:=List.mem_filter.mp ho
  have:=h o h1 (List.isEmpty_iff.mp h2)
  rw [not_eq_true',Bool.not_eq_false]
  exact decide_eq_true (by omega)
theorem zao {rs:List Str}{S:List (Nat×Nat)}(hS:∀c∈S,c∈qb rs):jK rs S=((jr rs).isEmpty&&ZA rs S):=by
 have z:∀o,clA rs o=[]->Grow.cnt (nearF rs) o S=0:=fun o ho=>by
  unfold Grow.cnt
  rw [List.length_eq_zero_iff,List.filter_eq_nil_iff]
  intro c hc hn
  have:=(Z1 (hS c hc)).mp hn
  rw [ho] at this
  cases this
 rw [Bool.eq_iff_iff,and_eq_true,Z4,zlo,Jg]
 constructor
 ·intro h
  refine⟨fun o ho hc=>?_,fun o ho _=>h o ho⟩
  rw [<- h o ho,z o hc]
  rfl
 ·rintro⟨h1,h2⟩ o ho
  by_cases hc:clA rs o=[]
  ·rw [z o hc,h1 o ho hc]
   rfl
  ·exact h2 o ho hc
theorem ziG {rs:List Str}{c o:Nat×Nat}(hc:c∈jM rs)(ho:o∈qd rs):nearF rs o c=false:=by
 unfold jM at hc
 have h:=(List.mem_filter.mp hc).2
 rw [not_eq_true',any_map,List.any_eq_false] at h
 exact Bool.eq_false_iff.mpr (h o ho)
theorem zcq {rs:List Str}{a b:List (Nat×Nat)}(hb:∀c∈b,c∈jM rs):ZA rs (a++b)=ZA rs a:=by
 have e:∀o∈qd rs,Grow.cnt (nearF rs) o (a++b)=Grow.cnt (nearF rs) o a:=fun o ho=>by
  unfold Grow.cnt
  rw [filter_append,length_append]
  have:b.filter (nearF rs o)=[]:=List.filter_eq_nil_iff.mpr fun c hc hn=>by
   rw [ziG (hb c hc) ho] at hn
   cases hn
  rw [this]
  rfl
 rw [Bool.eq_iff_iff,Jg,Jg]
 constructor
 ·intro h o ho hc
  rw [<- e o ho]
  exact h o ho hc
 ·intro h o ho hc
  rw [e o ho]
  exact h o ho hc
theorem zap {rs:List Str}{c:Nat×Nat}(h:c∈jM rs):c∈qb rs:=(List.mem_filter.mp h).1
theorem zcr (rs:List Str):(qb rs).Nodup:=yS (Cells.YU _ 0 (codes rs))
theorem zdZ (rs:List Str):(jM rs).Nodup:=(zcr rs).sublist filter_sublist
section
variable {rs:List Str}{gs:List (List (Nat×Nat))}(G:Parts.Good (clA rs) (qd rs) gs)
include G
theorem zaq {c:Nat×Nat}:c∈jM rs↔c∈qb rs/\c ∉ gs.flatten:=by
 rw [zln G]
 constructor
 ·intro h
  refine⟨zap h,?_⟩
  rintro⟨_,o,ho,hn⟩
  rw [ziG h ho] at hn
  cases hn
 ·rintro⟨h1,h2⟩
  unfold jM
  refine List.mem_filter.mpr ⟨h1,?_⟩
  rw [not_eq_true',any_map,List.any_eq_false]
  intro o ho hn
  exact h2 ⟨h1,o,ho,hn⟩
theorem zaV:(qb rs).Perm (gs.flatten++jM rs):=by
 refine(List.perm_ext_iff_of_nodup (zcr rs) (List.nodup_append.mpr ⟨G.nd,zdZ rs,fun a ha b hb e=>?_⟩)).mpr fun c=>?_
 ·subst e
  exact((zaq G).mp hb).2 ha
 ·rw [List.mem_append,zaq G]
  constructor
  ·intro h
   by_cases hc:c∈gs.flatten
   ·exact .inl hc
   ·exact .inr ⟨h,hc⟩
  ·rintro(h | h)
   ·exact yi G c h
   ·exact h.1
theorem count_is (s:Nat):(if (jr rs).isEmpty=true then Tally.dl (Tally.tl gs.flatten (Tally.j5 (qN rs) gs)) (jM rs).length ((s:Nat):Int) else 0)=((Tally.T (qb rs) (jK rs) s:Nat):Int):=by
 rw [Tally.zeH (zaV G) (zcp rs)]
 have key:∀a∈Subs.subs gs.flatten,∀b∈Subs.subs (jM rs),jK rs (a++b)=((jr rs).isEmpty&&Tally.j5 (qN rs) gs a):=fun a ha b hb=>by
  have sa:=(Tally.jL ha).subset
  have sb:=(Tally.jL hb).subset
  rw [zao fun c hc=>(List.mem_append.mp hc).elim (fun h=>yi G c (sa h)) fun h=>zap (sb h),zcq fun c hc=>sb hc,zaU G]
 cases hb:(jr rs).isEmpty with
 | true =>
  rw [if_pos rfl]
  refine Tally.zmT (fun a ha b hb'=>?_) s
  rw [key a ha b hb',hb,Bool.true_and]
 | false =>
  rw [if_neg (by decide),Tally.zbA fun S hS=>?_]
  ·rfl
  ·rw [Tally.zag] at hS
   obtain⟨b,hb',hS⟩:=List.mem_flatMap.mp hS
   obtain⟨a,ha,rfl⟩:=List.mem_map.mp hS
   rw [key a ha b hb',hb,Bool.false_and]
theorem zlp (c:Nat×Nat):Tally.Inv fun S=>jK rs S&&decide (c∈S):=fun a b e=>by
 show (jK rs a&&decide (c∈a))=(jK rs b&&decide (c∈b))
 rw [zcp rs a b e,show decide (c∈a)=decide (c∈b) from decide_eq_decide.mpr e.mem_iff]
theorem znU {c:Nat×Nat}(hc:c∈jM rs)(s:Nat):(if (jr rs).isEmpty=true then Tally.dl (Tally.tl gs.flatten (Tally.j5 (qN rs) gs)) ((jM rs).length-1) (((s:Nat):Int)-1) else 0)=((Tally.T (qb rs) (fun S=>jK rs S&&decide (c∈S)) s:Nat):Int):=by
 rw [Tally.zeH (zaV G) (zlp G c)]
 have key:∀a∈Subs.subs gs.flatten,∀b∈Subs.subs (jM rs),(jK rs (a++b)&&decide (c∈a++b))=((jr rs).isEmpty&&(Tally.j5 (qN rs) gs a&&decide (c∈b))):=fun a ha b hb=>by
  have sa:=(Tally.jL ha).subset
  have sb:=(Tally.jL hb).subset
  have e:decide (c∈a++b)=decide (c∈b):=decide_eq_decide.mpr ⟨fun h=>(List.mem_append.mp h).elim (fun h=>absurd (sa h) ((zaq G).mp hc).2) id,fun h=>mem_append_right _ h⟩
  rw [zao fun c hc=>(List.mem_append.mp hc).elim (fun h=>yi G c (sa h)) fun h=>zap (sb h),zcq fun c hc=>sb hc,zaU G,e,Bool.and_assoc]
 cases hb:(jr rs).isEmpty with
 | true =>
  rw [if_pos rfl]
  refine Tally.zmr hc (zdZ rs) (fun a ha b hb'=>?_) s
  rw [key a ha b hb',hb,Bool.true_and]
  exact congrArg _ (decide_eq_decide.mpr Iff.rfl)
 | false =>
  rw [if_neg (by decide),Tally.zbA fun S hS=>?_]
  ·rfl
  ·rw [Tally.zag] at hS
   obtain⟨b,hb',hS⟩:=List.mem_flatMap.mp hS
   obtain⟨a,ha,rfl⟩:=List.mem_map.mp hS
   rw [key a ha b hb',hb,Bool.false_and]
end
theorem zeO (A B:List (List (Nat×Nat)))(g:List (Nat×Nat)):(A++g::B).flatten.Perm ((A++B).flatten++g):=by
 rw [flatten_append,flatten_append,flatten_cons,append_assoc]
 exact(List.perm_append_comm (l₁:=g) (l₂:=B.flatten)).append_left _
theorem ziH {rs:List Str}{A B:List (List (Nat×Nat))}{g:List (Nat×Nat)}(G:Parts.Good (clA rs) (qd rs) (A++g::B)){c:Nat×Nat}(hc:c∈g):Pour.J3 (Tally.tl (A++B).flatten (Tally.j5 (qN rs) (A++B))) (Tally.tl g fun S=>qN rs g S&&decide (c∈S))=Tally.tl ((A++B).flatten++g) fun S=>Tally.j5 (qN rs) (A++B) S&&(qN rs g S&&decide (c∈S)):=by
 have hp:=zeO A B g
 have nd:((A++B).flatten++g).Nodup:=hp.nodup_iff.mp G.nd
 have hU:∀x∈(A++B).flatten++g,x∈qb rs:=fun x hx=>yi G x (hp.mem_iff.mpr hx)
 have hgm:g∈A++g::B:=by simp
 have hAB:∀x∈A++B,x∈A++g::B:=fun x hx=>by
  rcases List.mem_append.mp hx with h | h
  ·exact mem_append_left _ h
  ·exact mem_append_right _ (mem_cons_of_mem _ h)
 have L:=zan G hgm
 have Lc:Tally.Loc (qb rs) (fun S=>qN rs g S&&decide (c∈S)) g:=by
  refine⟨fun a b h=>?_,fun a b h=>?_⟩
  ·show (qN rs g (a++b)&&decide (c∈a++b))=(qN rs g b&&decide (c∈b))
   rw [L.l a b h,show decide (c∈a++b)=decide (c∈b) from decide_eq_decide.mpr ⟨fun k=>(List.mem_append.mp k).elim (fun k=>absurd hc (h c k).2) id,fun k=>mem_append_right _ k⟩]
  ·show (qN rs g (a++b)&&decide (c∈a++b))=(qN rs g a&&decide (c∈a))
   rw [L.r a b h,show decide (c∈a++b)=decide (c∈a) from decide_eq_decide.mpr ⟨fun k=>(List.mem_append.mp k).elim id fun k=>absurd hc (h c k).2,fun k=>mem_append_left _ k⟩]
 exact Tally.zb5 nd hU (fun x hx=>zan G (hAB x hx)) Lc
theorem zmB {rs:List Str}{A B:List (List (Nat×Nat))}{g:List (Nat×Nat)}(G:Parts.Good (clA rs) (qd rs) (A++g::B)){c:Nat×Nat}(hc:c∈g)(s:Nat) :
  (if (jr rs).isEmpty=true then Tally.dl (Pour.J3 (Tally.tl (A++B).flatten (Tally.j5 (qN rs) (A++B))) (Tally.tl g fun S=>qN rs g S&&decide (c∈S))) (jM rs).length ((s:Nat):Int) else 0)=((Tally.T (qb rs) (fun S=>jK rs S&&decide (c∈S)) s:Nat):Int):=by
 have hp:=zeO A B g
 have hU:∀x∈(A++B).flatten++g,x∈qb rs:=fun x hx=>yi G x (hp.mem_iff.mpr hx)
 have hgm:g∈A++g::B:=by simp
 rw [ziH G hc]
 have hP:(qb rs).Perm ((A++B).flatten++g++jM rs):=(zaV G).trans (hp.append_right _)
 rw [Tally.zeH hP (zlp G c)]
 have key:∀a∈Subs.subs ((A++B).flatten++g),∀b∈Subs.subs (jM rs),(jK rs (a++b)&&decide (c∈a++b))=((jr rs).isEmpty&&(Tally.j5 (qN rs) (A++B) a&&(qN rs g a&&decide (c∈a)))):=fun a ha b hb=>by
  have sa:=(Tally.jL ha).subset
  have sb:=(Tally.jL hb).subset
  have e:decide (c∈a++b)=decide (c∈a):=decide_eq_decide.mpr ⟨fun h=>(List.mem_append.mp h).elim id fun h=>absurd (List.mem_flatten.mpr ⟨g,hgm,hc⟩) ((zaq G).mp (sb h)).2,fun h=>mem_append_left _ h⟩
  have ep:Tally.j5 (qN rs) (A++g::B) a=(Tally.j5 (qN rs) (A++B) a&&qN rs g a):=by
   rw [Tally.zb4,Tally.zb4]
   show (_&&(qN rs g a&&Tally.j5 (qN rs) B a))=_
   rw [Bool.and_comm (qN rs g a),Bool.and_assoc]
  rw [zao fun c hc=>(List.mem_append.mp hc).elim (fun h=>hU c (sa h)) fun h=>zap (sb h),zcq fun c hc=>sb hc,<- zaU G,ep,e,Bool.and_assoc,Bool.and_assoc]
 cases hb:(jr rs).isEmpty with
 | true =>
  rw [if_pos rfl]
  refine Tally.zmT (fun a ha b hb'=>?_) s
  show (jK rs (a++b)&&decide (c∈a++b))=_
  rw [key a ha b hb',hb,Bool.true_and]
 | false =>
  rw [if_neg (by decide),Tally.zbA fun S hS=>?_]
  ·rfl
  ·rw [Tally.zag] at hS
   obtain⟨b,hb',hS⟩:=List.mem_flatMap.mp hS
   obtain⟨a,ha,rfl⟩:=List.mem_map.mp hS
   rw [key a ha b hb',hb,Bool.false_and]
def zhs (K:PySem.W.Frag):Sp:=fun vs H Q _=>∃(a b:Addr) (xs ys:List Int),vs=[.ref a,.ref b]/\SqL K H a (iL xs)/\SqL K H b (iL ys)/\1<=xs.length/\xs.length<=70/\1<=ys.length/\ys.length<=70/\zjN xs/\zjN ys /\
 ∀(l:Addr) (H':Hp),H l=none->H' l=some (.lst (iL (Pour.J3 xs ys)))->zw H H'->Q (.ref l) H'
def yL (H:Hp):List V->List (List Int)->Prop:=Paired fun v xs=>∃a,v=V.ref a/\H a=some (.lst (iL xs))
theorem yV {H H':Hp}(s:zw H H'){us:List V}{xss:List (List Int)}(hp:yL H us xss):yL H' us xss:=by
 induction hp with
 | nil=>exact .nil
 | cons q _ ih =>
  obtain⟨a,e,h⟩:=q
  exact .cons ⟨a,e,s _ _ h⟩ ih
theorem Y8 {H:Hp}{us:List V}{xss:List (List Int)}(h:yL H us xss):us.length=xss.length:=Paired.length h
theorem zlq {H:Hp}{us:List V}{xss:List (List Int)}{i:Nat}{v:V}(h:yL H us xss)(e:us[i]?=some v):∃xs a,xss[i]?=some xs/\v=V.ref a/\H a=some (.lst (iL xs)):=by
 obtain⟨S,h1,a,h2⟩:=zbN h e
 exact⟨S,a,h1,h2⟩
structure zht (xss:List (List Int)):Prop where
 one:∀xs∈xss,1<=xs.length/\xs.length<=70/\zjN xs
 acc:∀i,1<=((xss.take i).foldl Pour.J3 [1]).length/\((xss.take i).foldl Pour.J3 [1]).length<=70/\zjN ((xss.take i).foldl Pour.J3 [1])
def zhu:Sp:=fun vs H Q _=>∃(la:Addr) (us:List V) (xss:List (List Int)),vs=[.ref la]/\H la=some (.lst us)/\yL H us xss/\zht xss /\
 ∀(d:Addr) (H':Hp),H d=none->H' d=some (.lst (iL (xss.foldl Pour.J3 [1])))->zw H H'->Q (.ref d) H'
def Small (rs:List Str):Prop:=∀gs,Parts.Good (clA rs) (qd rs) gs->∀g∈gs,g.length<=14
theorem zlr {rs:List Str}(h:(qb rs).length<=14):Small rs:=fun gs G g hg=>by
 have:=Parts.j4 (yS (G.srt g hg)) fun x hx=>yi G x (List.mem_flatten.mpr ⟨g,hg,hx⟩)
 omega
noncomputable def tls (rs:List Str)(gs:List (List (Nat×Nat))):List (List Int):=gs.map fun g=>Tally.tl g (qN rs g)
theorem zls {rs:List Str}(R:Rows bd.cps.toList rs){gs:List (List (Nat×Nat))}(G:Parts.Good (clA rs) (qd rs) gs):zht (tls rs gs):=by
 have n64:=YC G R
 refine⟨fun xs hx=>?_,fun i=>?_⟩
 ·obtain⟨g,hg,rfl⟩:=List.mem_map.mp hx
  have gl:g.length<=64:=le_trans (List.Sublist.length_le (List.sublist_flatten_of_mem hg)) n64
  rw [Tally.jT]
  exact⟨by omega,by omega,Z3 gl⟩
 ·unfold tls
  rw [<- map_take,zjM G i]
  have tl64:(gs.take i).flatten.length<=64:=by
   have e:gs.flatten=(gs.take i).flatten++(gs.drop i).flatten:=by rw [<- flatten_append,take_append_drop]
   rw [e,length_append] at n64
   omega
  rw [Tally.jT]
  exact⟨by omega,by omega,Z3 tl64⟩
def zlt:Sp:=fun vs H Q _=>∃(p l:Addr) (rs:List Str) (n:Int),vs=[.ref p]/\qf H p l rs n/\Rows bd.cps.toList rs/\Small rs /\
 ∀(d:Addr) (gs:List (List (Nat×Nat))) (H':Hp),H d=none->Parts.Good (clA rs) (qd rs) gs->Up2 (heads gs)->H' d=some (.lst (iL (Tally.tl gs.flatten (Tally.j5 (qN rs) gs))))->zw H H'->Q (.ref d) H'
section
variable {P:Program}{w:World}{K:PySem.W.Frag}{mg:Str->Option Value}{base:Heap}{f:Addr}{fd:FuncData}
theorem Jq:zL ["one","other","counts","i","many","j","more"] ["one","other"] (zg zah):=⟨rfl,rfl,rfl,by decide +kernel,rfl,by decide +kernel,by decide +kernel⟩
theorem zd0 (T:Txt mg)(D:zo K mg "poured" zah ["one","other"] f fd):zH P w K mg base CX0 1 f fd ["one","other"] (zhs K):=by
 refine D.F.ok Jq (fun vs H Q E h=>?_) (fun cdv A outer s H vs Q E hr h=>?_)
 ·obtain⟨a,b,xs,ys,rfl,_⟩:=h
  rfl
 ·obtain⟨a,b,xs,ys,rfl,ha,hb,x1,x2,y1,y2,bx,bY,q⟩:=h
  refine⟨_,(zd (zB (i:=2) Jq.nd rfl (Or.inl rfl) (zD zgR (qu (za zq zb)) (zD J2 (zD qp (zx zG (by rfl) T.jd PySem.boot_len (za (pv 0) zb)) (zx zG (by rfl) T.jd PySem.boot_len (za (pv 1) zb))) zq)))
   (zd (qo PassesOwn.never rfl (Zb (by rfl) T.jW (za (pv 0) zb)) (Jr rfl (zV (zm (i:=3) Jq.nd rfl (Or.inl rfl)) (zV (zm (i:=4) Jq.nd rfl (Or.inl rfl)) jZ))) (zf (qo PassesOwn.never rfl (Zb (by rfl) T.jW (za (pv 1) zb)) (Jr rfl (zV (zm (i:=5) Jq.nd rfl (Or.inl rfl)) (zV (zm (i:=6) Jq.nd rfl (Or.inl rfl)) jZ))) (zf (zh6 (pv 2) (zD qp (pv 3) (pv 5)) zfq (zD yf (pv 4) (pv 6)) zj7 set_list)))))
   (zf (zO (pv 2))))),?_⟩
  refine⟨(by show 1<=sizeLine;decide),fun l0 hl0=>?_⟩
  have s0:zw H (upd H l0 (.lst [.int 0])):=ze hl0
  refine⟨_,rfl,a,_,rfl,.inl (s0.seq ha),_,rfl,b,_,rfl,.inl (s0.seq hb),_,_,rfl,rfl,_,_,rfl,rfl,l0,_,_,rfl,rfl,zc,?_,?_,?_,fun p hp=>?_⟩
  ·rw [length_map,length_map];omega
  ·rw [length_map,length_map];omega
  ·rw [length_map,length_map]
   exact le_trans (show 1*((xs.length:Int)+(ys.length:Int)-1).toNat<=140 by omega) (by decide)
  have en:(((iL xs).length:Nat)+((iL ys).length:Nat)-1:Int).toNat=xs.length+ys.length-1:=by
   rw [length_map,length_map];omega
  rw [en,zgf,<- Pour.zkU]
  have s1:zw H (upd (upd H l0 (.lst [.int 0])) p (.lst (iL (Pour.st xs ys 0 0)))):=s0.trans (ze hp)
  have hp0:H p=none:=s0.free hp
  refine⟨_,rfl,a,rfl,⟨_,s1.seq ha⟩,?_⟩
  refine Zc (K:=K) (l:=a) (xs:=iL xs) (fun i σ H'=>∃v3 v4 v5 v6,σ=[some (.ref a),some (.ref b),some (.ref p),v3,v4,v5,v6]/\zw H H'/\H' p=some (.lst (iL (Pour.st xs ys i 0))))
   ⟨_,_,_,_,rfl,s1,zc⟩ (fun i σ H' _ ⟨_,_,_,_,_,s,_⟩=>s.seq ha) ?_ ?_
  ·rintro i v t σ H1 hv ht ⟨v3,v4,v5,v6,rfl,s2,hp2⟩
   obtain⟨x,hx,rfl⟩:=ints_get hv
   have st:zw H1 (upd H1 t (.tup [.int (i:Nat),.int x])):=ze ht
   refine⟨t,_,rfl,SqT.of zc,rfl,_,_,rfl,_,_,rfl,rfl,?_⟩
   refine⟨_,rfl,b,rfl,⟨_,(s2.trans st).seq hb⟩,?_⟩
   refine Zc (K:=K) (l:=b) (xs:=iL ys) (fun j σ H'=>∃v5 v6,σ=[some (.ref a),some (.ref b),some (.ref p),some (.int (i:Nat)),some (.int x),v5,v6]/\zw H H'/\H' p=some (.lst (iL (Pour.st xs ys i j))))
    ⟨_,_,rfl,s2.trans st,st _ _ hp2⟩ (fun j σ H' _ ⟨_,_,_,s,_⟩=>s.seq hb) ?_ ?_
   ·rintro j v t2 σ H2 hv2 ht2 ⟨v5,v6,rfl,s3,hp3⟩
    obtain⟨y,hy,rfl⟩:=ints_get hv2
    have st2:zw H2 (upd H2 t2 (.tup [.int (j:Nat),.int y])):=ze ht2
    have hp4:=st2 _ _ hp3
    have hi:i<xs.length:=(List.getElem?_eq_some_iff.mp hx).1
    have hj:j<ys.length:=(List.getElem?_eq_some_iff.mp hy).1
    have en2:((i:Int)+(j:Int)).toNat=i+j:=by omega
    refine⟨t2,_,rfl,SqT.of zc,rfl,_,_,rfl,_,_,rfl,rfl,?_⟩
    refine⟨_,rfl,_,rfl,_,rfl,_,_,rfl,rfl,p,_,_,_,rfl,rfl,SqL.of hp4,jJ (by omega) (by rw [en2];exact ziC (Pour.zhd (by omega))),?_⟩
    refine⟨_,rfl,_,rfl,_,_,rfl,rfl,zoo (bx _ (mem_of_getElem? hx)) (bY _ (mem_of_getElem? hy)),_,_,rfl,rfl,p,_,_,_,rfl,rfl,hp4,zcl (by omega) (by rw [length_map,Pour.zhc];omega),?_⟩
    refine⟨_,_,rfl,fun c o e=>?_,?_⟩
    ·have hc:c≠p:=fun z=>by
      subst z
      rw [hp0] at e
      cases e
     rw [zj hc]
     exact st2 _ _ (s3 _ _ e)
    ·rw [zc,en2,<- Pour.zmn hx hy]
     show some (HO.lst ((List.map V.int _).set _ (V.int _)))=_
     rw [<- List.map_set]
   ·rintro σ H2 ⟨v5,v6,rfl,s3,hp3⟩
    rw [length_map,Pour.znK] at hp3
    exact⟨_,_,_,_,rfl,s3,hp3⟩
  ·rintro σ H1 ⟨v3,v4,v5,v6,rfl,s2,hp2⟩
   rw [length_map,Pour.znL] at hp2
   exact⟨_,rfl,q p H1 hp0 hp2 s2⟩
theorem xw:zL ["lists","counts","others"] ["lists"] (zg Jd):=⟨rfl,rfl,rfl,by decide +kernel,rfl,by decide +kernel,by decide +kernel⟩
theorem Qk (T:Txt mg)(Z:Prog K mg)(D:zo K mg "all_poured" Jd ["lists"] f fd):zH P w K mg base CX0 2 f fd ["lists"] zhu:=by
 obtain⟨zcs,zaW,yJ⟩:=Z.poured
 have zct:zH P w K mg base CX0 1 zcs zaW ["one","other"] (zhs K):=zd0 T yJ
 refine D.F.ok xw (fun vs H Q E h=>?_) (fun cdv A outer s H vs Q E hr h=>?_)
 ·obtain⟨la,us,xss,rfl,_⟩:=h
  rfl
 ·obtain⟨la,us,xss,rfl,hla,hx,ok,q⟩:=h
  refine⟨_,(zd (zB (i:=1) xw.nd rfl (Or.inl rfl) (qu (za zq zb)))
   (zd (qo PassesOwn.never rfl (zT (pv 0)) (zm (i:=2) xw.nd rfl (Or.inl rfl)) (zf (zB (i:=1) xw.nd rfl (Or.inl rfl) (zp zct (hr.mono (by decide)) (by rfl) yJ.g yJ.F.kp yJ.b .nil zI (za (pv 1) (za (pv 2) zb))))))
   (zf (zO (pv 1))))),?_⟩
  refine⟨(by show 1<=sizeLine;decide),fun c0 hc0=>?_⟩
  have s0:zw H (upd H c0 (.lst [.int 1])):=ze hc0
  refine⟨_,rfl,la,rfl,⟨_,SqL.of (s0 _ _ hla)⟩,?_⟩
  refine j9 (K:=K) (a:=la) (xs:=us) (fun i σ H'=>∃(c:Addr) (v2:Option V),σ=[some (.ref la),some (.ref c),v2]/\zw H H'/\H c=none/\H' c=some (.lst (iL ((xss.take i).foldl Pour.J3 [1]))))
   ⟨c0,_,rfl,s0,hc0,zc⟩ (fun i σ H' _ ⟨_,_,_,y,_⟩=>SqL.of (y _ _ hla)) ?_ ?_
  ·rintro i v σ H1 hv ⟨c,v2,rfl,s1,hc,hc1⟩
   obtain⟨xs,a1,hxs,rfl,ha1⟩:=zlq hx hv
   obtain⟨o1,o2,o3⟩:=ok.one xs (mem_of_getElem? hxs)
   obtain⟨p1,p2,p3⟩:=ok.acc i
   refine⟨_,rfl,_,rfl,c,a1,_,xs,rfl,SqL.of hc1,SqL.of (s1 _ _ ha1),p1,p2,o1,o2,p3,o3,fun d H2 hd hd2 s2=>?_⟩
   refine⟨d,_,rfl,s1.trans s2,s1.free hd,?_⟩
   rw [hd2,take_add_one,hxs,List.foldl_append]
   rfl
  ·rintro σ H1 ⟨c,v2,rfl,s1,hc,hc1⟩
   rw [Y8 hx,take_length] at hc1
   exact⟨_,rfl,q c H1 hc hc1 s1⟩
theorem zcu:zL ["board"] ["board"] (zg yb):=⟨rfl,rfl,rfl,by decide +kernel,rfl,by decide +kernel,by decide +kernel⟩
theorem zcv (T:Txt mg)(Z:Prog K mg)(D:zo K mg "near_counts" yb ["board"] f fd):zH P w K mg base CX0 6 f fd ["board"] zlt:=by
 obtain⟨zgi,zd1,zJ⟩:=Z.around
 obtain⟨zd2,zcw,zv⟩:=Z.sign_at
 obtain⟨zcx,zbe,zC⟩:=Z.cells_of
 obtain⟨zar,Ql,zu⟩:=Z.open_cells
 obtain⟨zbf,zas,zU⟩:=Z.number_at
 obtain⟨zeP,zc5,qC⟩:=Z.numbers_of
 obtain⟨zhv,zgj,jh⟩:=Z.needs_at
 obtain⟨zjO,zhw,jI⟩:=Z.may_fit
 obtain⟨YD,Yj,qa⟩:=Z.part_layings
 obtain⟨zd3,zcy,qj⟩:=Z.counted
 obtain⟨zc6,zcz,xx⟩:=Z.part_counts
 obtain⟨Yk,ZC,zK⟩:=Z.closed_around
 obtain⟨zlu,zjP,xK⟩:=Z.joined
 obtain⟨zeQ,zcA,Jh⟩:=Z.parts
 obtain⟨Z5,J6,qg⟩:=Z.all_poured
 have zeR:zH P w K mg base CX0 3 zeQ zcA ["board"] zeL:=zf5 T Jh zJ zv zC zu zK xK
 have zc7:zH P w K mg base CX0 5 zc6 zcz ["board","part"] zoJ:=zco T xx zJ zv zC zu zU qC jh jI qa qj
 have Ji:zH P w K mg base CX0 2 Z5 J6 ["lists"] zhu:=Qk T Z qg
 refine D.F.ok zcu (fun vs H Q E h=>?_) (fun cdv A outer s H vs Q E hr h=>?_)
 ·obtain⟨p,l,rs,n,rfl,_⟩:=h
  rfl
 ·obtain⟨p,l,rs,n,rfl,b,R,sm,q⟩:=h
  refine⟨_,(zf (zO (zp Ji (hr.mono (by decide)) (by rfl) qg.g qg.F.kp qg.b .nil zI (za (qm (N:=["part","board"]) (src:=[none,some 0]) (zW.free (O:=(zg yb).names) (XN:=["board"]) rfl rfl ⟨_,rfl⟩ rfl rfl (by decide +kernel) (by decide +kernel) (by decide +kernel) rfl (by decide +kernel)) rfl (zT (zp zeR (hr.mono (by decide)) (by rfl) Jh.g Jh.F.kp Jh.b .nil zI (za (pv 0) zb))) (fun _ _ _ _ _=>(zm (i:=0) (by show List.Nodup (["part","board"]:List Str);decide +kernel) rfl (Or.inl rfl))) (fun _ _ _ _ _=>qS) (fun _ _ _ _ _=>(zp zc7 (hr.mono (by decide)) (by rfl) xx.g xx.F.kp xx.b .nil zI (za (pv 1) (za (pv 0) zb))))) zb)))),?_⟩
  refine⟨_,rfl,p,l,rs,n,rfl,b,R,fun d ws gs H1 hd hd1 hG _ _ G up s1=>⟨d,rfl,⟨_,SqL.of hd1⟩,fun z hz=>?_⟩⟩
  have g64:gs.length<=64:=le_trans (Parts.Yw G.ne) (YC G R)
  refine qA (K:=K) (a:=d) (xs:=ws) (fun j σ' H'=>∃(u0:Option V) (ys:List V),σ'=[u0,some (.ref p)]/\zw H1 H'/\H' z=some (.lst ys)/\(∀v∈ys,∀a,v=V.ref a->a≠z)/\yL H' ys (tls rs (gs.take j)))
   ⟨_,[],rfl,ze hz,zc,(fun _ h=>nomatch h),.nil⟩ (fun j σ' H' _ ⟨_,_,_,y,_⟩=>SqL.of (y _ _ hd1)) ?_ ?_
  ·rintro j v σ' H2 hv ⟨u0,ys,rfl,s2,hz2,nz,hy2⟩
   obtain⟨g,hg,ga,ug,rfl,hga,hcg⟩:=yq.get (hG.mono s2) hv
   have gm:=mem_of_getElem? hg
   have il:=(List.getElem?_eq_some_iff.mp hg).1
   unfold xU
   refine QA ?_
   refine⟨_,rfl,_,rfl,p,l,ga,rs,n,ug,g,rfl,(b.mono s1).mono s2,R,hga,hcg,yS (G.srt g gm),sm gs G g gm,fun e H3 he he3 s3=>?_⟩
   rw [zdY] at he3
   have ez:e≠z:=fun y=>by
    subst y
    rw [hz2] at he
    cases he
   refine⟨_,s3 _ _ hz2,?_,_,ys++[.ref e],rfl,fun b o e'=>?_,zc,fun v hv a ea=>?_,?_⟩
   ·rw [Y8 hy2]
    unfold tls
    rw [length_map,length_take]
    exact lt_of_le_of_lt (show _<=64 by omega) (by decide)
   ·rw [zj (zh e' hz)]
    exact s3 _ _ (s2 _ _ e')
   ·rcases List.mem_append.mp hv with hv | hv
    ·exact nz v hv a ea
    ·have:v=V.ref e:=by simpa using hv
     rw [this] at ea
     cases ea
     exact ez
   ·have t1:tls rs (gs.take (j+1))=tls rs (gs.take j)++[Tally.tl g (qN rs g)]:=by
     unfold tls
     rw [take_add_one,hg,map_append]
     rfl
    rw [t1]
    have into:∀{us:List V} {xss:List (List Int)},yL H3 us xss->(∀v∈us,∀a,v=V.ref a->a≠z)->yL (upd H3 z (.lst (ys++[.ref e]))) us xss:=by
     intro us xss h
     induction h with
     | nil=>exact fun _=>.nil
     | cons h t ih =>
      intro nz
      obtain⟨a,rfl,ha⟩:=h
      exact .cons ⟨a,rfl,by rw [zj (nz _ mem_cons_self a rfl)];exact ha⟩ (ih fun v hv=>nz v (mem_cons_of_mem _ hv))
    exact Paired.snoc (into (yV s3 hy2) nz) ⟨e,rfl,by rw [zj ez];exact he3⟩
  rintro σ' H2 ⟨u0,ys,rfl,s2,hz2,_,hy2⟩
  rw [hG.length,take_length] at hy2
  refine⟨z,ys,tls rs gs,rfl,hz2,hy2,zls R G,fun e H3 he he3 s3=>?_⟩
  have s12:=s1.trans s2
  rw [show (tls rs gs).foldl Pour.J3 [1]=Tally.tl gs.flatten (Tally.j5 (qN rs) gs) from zgh G] at he3
  exact q e gs H3 (s12.free he) G up he3 (s12.trans s3)
end
def chV (n k:Int):Int:=if 0<=k/\k<=n then ((Choose.ch n.toNat k.toNat:Nat):Int) else 0
theorem zmC (m:Nat)(k:Int):chV (m:Nat) k=Tally.chZ m k:=by
 unfold chV Tally.chZ
 rw [toNat_natCast]
 by_cases h0:k<0
 ·rw [if_neg (by omega),if_pos h0]
 ·rw [if_neg h0]
  by_cases h1:k<=(m:Int)
  ·rw [if_pos ⟨by omega,h1⟩]
  ·rw [if_neg (by omega),Choose.zaO m k.toNat (by omega)]
   rfl
theorem zmD {n k:Int}(h:n<=64):(chV n k).natAbs<2^8000:=by
 have h1:(2:Nat)^64<2^8000:=Nat.pow_lt_pow_right (by decide) (by decide)
 have hz:(0:Nat)<2^8000:=lt_of_le_of_lt (zero_le _) h1
 unfold chV
 split
 ·rw [Int.natAbs_natCast]
  exact lt_of_le_of_lt (le_trans (Choose.zoC _ _) (pow_le_pow_right (by decide) (show n.toNat<=64 by omega))) h1
 ·exact hz
def dlV (xs:List Int)(m st:Int):Int:=Pour.S (fun k=>Pour.F xs k*chV m (st-(k:Nat))) xs.length
theorem zeS (xs:List Int)(m:Nat)(st:Int):dlV xs (m:Nat) st=Tally.dl xs m st:=by
 unfold dlV Tally.dl
 exact Pour.JQ _ fun i _=>by rw [zmC]
theorem zmW (h:Nat->Int):∀n,((List.range n).map h).sum=Pour.S h n
 | 0=>rfl
 | n+1=>by
  rw [range_succ,map_append,List.sum_append,zmW h n]
  show _+(h n+0)=Pour.S h n+h n
  omega
def zoK:Sp:=fun vs H Q _=>∃(n k:Int),vs=[.int n,.int k]/\n<=64/\Q (.int (chV n k)) H
def zeT:Sp:=fun vs H Q _=>∃(c:Addr) (xs:List Int) (m st:Int),vs=[.ref c,.int m,.int st]/\H c=some (.lst (iL xs))/\zjN xs/\xs.length<=150/\m<=64/\∀H',zw H H'->Q (.int (dlV xs m st)) H'
def zmE (rs:List Str)(n:Int):Int:=((Tally.T (qb rs) (jK rs) n.toNat:Nat):Int)
def ziI:Sp:=fun vs H Q _=>∃(p l:Addr) (rs:List Str) (n:Int),vs=[.ref p]/\qf H p l rs n/\Rows bd.cps.toList rs/\Small rs/\0<=n/\∀H',zw H H'->Q (.int (zmE rs n)) H'
section
variable {P:Program}{w:World}{K:PySem.W.Frag}{mg:Str->Option Value}{base:Heap}{f:Addr}{fd:FuncData}
theorem Z6:zL ["n","k","found","step"] ["n","k"] (zg YY):=⟨rfl,rfl,rfl,by decide +kernel,rfl,by decide +kernel,by decide +kernel⟩
theorem zhx (T:Txt mg)(D:zo K mg "choices" YY ["n","k"] f fd):zH P w K mg base CX0 1 f fd ["n","k"] zoK:=by
 refine D.F.ok Z6 (fun vs H Q E h=>?_) (fun cdv A outer s H vs Q E hr h=>?_)
 ·obtain⟨n,k,rfl,_⟩:=h
  rfl
 ·obtain⟨n,k,rfl,n1,q⟩:=h
  refine⟨_,(zd (jA (zaz (zfj zh9 zh9 zq (pv 1) (pv 0))) (zf (zO zq)) qk)
   (zd (zB (i:=2) Z6.nd rfl (Or.inl rfl) zq)
   (zd (qo PassesOwn.never rfl (qH (by rfl) T.qW (za (pv 1) zb)) (zm (i:=3) Z6.nd rfl (Or.inl rfl)) (zf (zB (i:=2) Z6.nd rfl (Or.inl rfl) (zD jB (zD yf (pv 2) (zD J2 (pv 0) (pv 3))) (zD qp (pv 3) zq)))))
   (zf (zO (pv 2)))))),?_⟩
  refine⟨_,rfl,_,_,rfl,rfl,_,rfl,?_⟩
  unfold chV at q
  refine zeo (fun c=>?_) (fun c=>?_)
  ·have k0:(0:Int)<=k:=of_decide_eq_true c
   refine⟨_,rfl,_,_,rfl,rfl,_,rfl,?_⟩
   by_cases c:k<=n
   ·rw [if_pos ⟨k0,c⟩] at q
    rw [decide_eq_true c]
    refine Qp ?_
    refine⟨_,rfl,k,rfl,by omega,by omega,?_⟩
    refine qz (lo:=0) (n:=k.toNat) (fun i σ H'=>∃v,σ=[some (.int n),some (.int k),some (.int (Choose.ch n.toNat i)),v]/\H'=H) ⟨_,by rw [Choose.YW];rfl,rfl⟩ ?_ ?_
    ·rintro i σ H' hi ⟨v,rfl,rfl⟩
     refine⟨_,rfl,_,rfl,_,rfl,_,_,rfl,rfl,_,_,rfl,rfl,zcW (by omega) (by omega),_,rfl,_,_,rfl,rfl,_,_,rfl,rfl,Ju.small (by omega) (by omega),?_⟩
     refine⟨some (.int (0+(i:Int))),?_,rfl⟩
     have e:=Choose.zmo (n:=n.toNat) (k:=i) (by omega)
     have e1:((n.toNat:Nat):Int)=n:=toNat_of_nonneg (by omega)
     rw [e1] at e
     have e2:(Choose.ch n.toNat i:Int)*(n-(0+(i:Int)))/(0+(i:Int)+1)=Choose.ch n.toNat (i+1):=by
      rw [Int.zero_add]
      exact e
     show [_,_,some (V.int ((Choose.ch n.toNat i:Int)*(n-(0+(i:Int)))/(0+(i:Int)+1))),_]=_
     rw [e2]
    ·rintro σ H' ⟨v,rfl,rfl⟩
     exact⟨_,rfl,q⟩
   ·rw [if_neg (fun h=>c h.2)] at q
    rw [decide_eq_false c]
    exact Qd q
  ·have k0:¬ (0:Int)<=k:=fun z=>c (decide_eq_true z)
   rw [if_neg (fun h=>k0 h.1)] at q
   exact⟨_,rfl,Qd q⟩
theorem zlv:zL ["counts","cells","stones"] ["counts","cells","stones"] (zg zai):=⟨rfl,rfl,rfl,by decide +kernel,rfl,by decide +kernel,by decide +kernel⟩
theorem zgk (T:Txt mg)(Z:Prog K mg)(D:zo K mg "dealt" zai ["counts","cells","stones"] f fd):zH P w K mg base CX0 2 f fd ["counts","cells","stones"] zeT:=by
 obtain⟨zjQ,zhy,Y9⟩:=Z.choices
 have zjR:zH P w K mg base CX0 1 zjQ zhy ["n","k"] zoK:=zhx T Y9
 refine D.F.ok zlv (fun vs H Q E h=>?_) (fun cdv A outer s H vs Q E hr h=>?_)
 ·obtain⟨c,xs,m,st,rfl,_⟩:=h
  rfl
 ·obtain⟨c,xs,m,st,rfl,hc,bx,xl,m1,q⟩:=h
  refine⟨_,(zf (zO (zx (zkh rfl) (by rfl) T.zoF PyProof.Rows.boot_sum (za (qm (N:=["k","many","cells","stones"]) (src:=[none,none,some 1,some 2]) (zW.free (O:=(zg zai).names) (XN:=["counts","cells","stones"]) rfl rfl ⟨_,rfl⟩ rfl rfl (by decide +kernel) (by decide +kernel) (by decide +kernel) rfl (by decide +kernel)) rfl (Zb (by rfl) T.jW (za (pv 0) zb)) (fun _ _ _ _ _=>(zep (n:=2) (K:=K) (by rfl) rfl (zV (zm (i:=0) (by show List.Nodup (["k","many","cells","stones"]:List Str);decide +kernel) rfl (Or.inl rfl)) (zV (zm (i:=1) (by show List.Nodup (["k","many","cells","stones"]:List Str);decide +kernel) rfl (Or.inl rfl)) jZ)))) (fun _ _ _ _ _=>qS) (fun _ _ _ _ _=>(zD yf (pv 1) (zp zjR (hr.mono (by decide)) (by rfl) Y9.g Y9.F.kp Y9.b .nil zI (za (pv 2) (za (zD J2 (pv 3) (pv 0)) zb)))))) zb)))),?_⟩
  refine⟨_,rfl,c,rfl,⟨_,SqL.of hc⟩,fun z hz=>?_⟩
  refine zgW (K:=K) (a:=c) (xs:=iL xs) (fun i σ H'=>(∃u0 u1,σ=[u0,u1,some (.int m),some (.int st)])/\zw H H'/\H' z=some (.lst (iL ((List.range i).map fun k=>Pour.F xs k*chV m (st-(k:Nat)))))) ⟨⟨_,_,rfl⟩,ze hz,zc⟩ (fun i σ H' _ ⟨_,s3,_⟩=>SqL.of (s3 _ _ hc)) ?_ ?_
  ·rintro i x tt σ H3 hx htt ⟨⟨u0,u1,rfl⟩,s3,hz3⟩
   obtain⟨y,hy,rfl⟩:=ints_get hx
   have il:=(List.getElem?_eq_some_iff.mp hy).1
   have s4:=ze (o:=.tup [.int ((i:Nat):Int),.int y]) htt
   refine⟨tt,_,rfl,SqT.of zc,rfl,_,_,rfl,_,_,rfl,rfl,?_⟩
   unfold zlY
   refine Qd ⟨_,rfl,_,rfl,_,rfl,_,rfl,_,_,rfl,rfl,m,_,rfl,m1,_,_,rfl,rfl,zoo (bx y (mem_of_getElem? hy)) (zmD m1),_,s4 _ _ hz3,?_,⟨_,_,rfl⟩,fun b' o e'=>?_,?_⟩
   ·rw [length_map,length_map,length_range]
    exact lt_of_lt_of_le (show i<150 by omega) (by decide)
   ·rw [zj (zh e' hz)]
    exact s4 _ _ (s3 _ _ e')
   ·rw [zc,range_succ,map_append]
    show _=some (HO.lst (iL (_++[Pour.F xs i*chV m (st-(i:Nat))])))
    rw [zmy,Pour.zml hy]
  ·rintro σ H3 ⟨_,s3,hz3⟩
   refine⟨z,_,rfl,SqL.of hz3,?_⟩
   rw [length_map,zmW]
   exact q _ s3
theorem zgl:zL ["board","near"] ["board"] (zg zbC):=⟨rfl,rfl,rfl,by decide +kernel,rfl,by decide +kernel,by decide +kernel⟩
theorem zlw (T:Txt mg)(Z:Prog K mg)(D:zo K mg "count" zbC ["board"] f fd):zH P w K mg base CX0 7 f fd ["board"] ziI:=by
 obtain⟨zgi,zd1,zJ⟩:=Z.around
 obtain⟨zd2,zcw,zv⟩:=Z.sign_at
 obtain⟨zcx,zbe,zC⟩:=Z.cells_of
 obtain⟨zgm,zd4,jD⟩:=Z.closed
 obtain⟨zar,Ql,zu⟩:=Z.open_cells
 obtain⟨zbf,zas,zU⟩:=Z.number_at
 obtain⟨Yk,ZC,zK⟩:=Z.closed_around
 obtain⟨zlx,zhz,zau⟩:=Z.far
 obtain⟨Z7,J7,qO⟩:=Z.bare_wrong
 obtain⟨zc8,zcB,xy⟩:=Z.near_counts
 obtain⟨zeU,zcC,yj⟩:=Z.dealt
 have zc9:zH P w K mg base CX0 6 zc8 zcB ["board"] zlt:=zcv T Z xy
 have zly:zH P w K mg base CX0 3 zlx zhz ["board"] (zdP jM):=zk8 T zau zJ zv zC jD zu
 have Z8:zH P w K mg base CX0 3 Z7 J7 ["board"] (zdP jr):=Qj T qO zJ zv zC zK zu zU
 have zbD:zH P w K mg base CX0 2 zeU zcC ["counts","cells","stones"] zeT:=zgk T Z yj
 refine D.F.ok zgl (fun vs H Q E h=>?_) (fun cdv A outer s H vs Q E hr h=>?_)
 ·obtain⟨p,l,rs,n,rfl,_⟩:=h
  rfl
 ·obtain⟨p,l,rs,n,rfl,b,R,sm,n0,q⟩:=h
  refine⟨_,(zd (zB (i:=1) zgl.nd rfl (Or.inl rfl) (zp zc9 (hr.mono (by decide)) (by rfl) xy.g xy.F.kp xy.b .nil zI (za (pv 0) zb)))
   (zd (jA (zQ (ZK hr.units) (zp Z8 (hr.mono (by decide)) (by rfl) qO.g qO.F.kp qO.b .nil zI (za (pv 0) zb)) (qu zb) (qc _)) (zf (zO zq)) qk)
   (zf (zO (zp zbD (hr.mono (by decide)) (by rfl) yj.g yj.F.kp yj.b .nil zI (za (pv 1) (za (zx zG (by rfl) T.jd PySem.boot_len (za (zp zly (hr.mono (by decide)) (by rfl) zau.g zau.F.kp zau.b .nil zI (za (pv 0) zb)) zb)) (za (qx xO (pv 0) zq (fun _ _=>rfl)) zb)))))))),?_⟩
  refine⟨_,rfl,p,l,rs,n,rfl,b,R,sm,fun d1 gs H1 hd1 G up zlz s1=>?_⟩
  refine⟨_,rfl,p,l,rs,n,rfl,b.mono s1,R,fun d2 w2 H2 hd2 zpj hc2 s2=>⟨(by show 0<=sizeLine;decide),fun e he=>?_⟩⟩
  have s3:=ze (o:=.lst []) he
  have ci:=count_is G n.toNat
  rw [toNat_of_nonneg n0] at ci
  unfold zmE at q
  rw [<- ci] at q
  refine⟨.list ((jr rs).map zz),.list [],.lst (SqL.of (s3 _ _ zpj)) (zF.rdv (N:=fun _=>True) (Cel.rdn (Cel.mono s3 hc2))),.lst (SqL.of zc) .nil,zeJ _ [],_,rfl,?_⟩
  have ee:(if true=true then !PyData.eqv (.list ((jr rs).map zz)) (.list []) else PyData.eqv (.list ((jr rs).map zz)) (.list []))=!(jr rs).isEmpty:=by
   show (!PyData.eqv _ _)=_
   rw [eq_nil]
  rw [ee]
  have s13:=(s1.trans s2).trans s3
  have hd13:=s3 _ _ (s2 _ _ zlz)
  generalize upd H2 e (.lst [])=H3 at *
  cases hb:(jr rs).isEmpty with
  | false =>
   rw [hb,if_neg Bool.false_ne_true] at q
   exact Qd (q _ s13)
  | true =>
   rw [hb,if_pos rfl] at q
   refine Qp ?_
   have b3:=b.mono s13
   refine⟨_,rfl,_,rfl,p,l,rs,n,rfl,b3,R,fun d4 ws4 H4 _ hd4 hc4 s4=>⟨d4,_,rfl,.inl (SqL.of hd4),?_⟩⟩
   have hl:=hc4.length
   have h64:(jM rs).length<=64:=le_trans (length_filter_le _ _) (jH (p:=qJ) R)
   have g64:=YC G R
   refine⟨_,rfl,p,_,1,_,rfl,rfl,SqT.of (b3.mono s4).tp,rfl,d1,_,(ws4.length:Nat),n,rfl,s4 _ _ hd13,Z3 g64,by rw [Tally.jT];omega,by omega,fun H' s'=>?_⟩
   rw [hl,zeS]
   exact q _ ((s13.trans s4).trans s')
end
section
variable {P:Program}{w:World}{K:PySem.W.Frag}{mg:Str->Option Value}{base:Heap}{f:Addr}{fd:FuncData}
theorem zda:zL ["found","greatest","cell"] ["found","greatest","cell"] (zg yH):=⟨rfl,rfl,rfl,by decide +kernel,rfl,by decide +kernel,by decide +kernel⟩
theorem zdb {f1:Addr}{fd1:FuncData}(T:Txt mg)(D:zo K mg "counted_at" yH ["found","greatest","cell"] f fd)(qj:zo K mg "counted" Jo ["found","greatest"] f1 fd1):zH P w K mg base CX0 2 f fd ["found","greatest","cell"] ziE:=by
 have Zz:zH P w K mg base CX0 1 f1 fd1 ["found","greatest"] ziD:=QC T qj
 refine D.F.ok zda (fun vs H Q E h=>?_) (fun cdv A outer s H vs Q E hr h=>?_)
 ·obtain⟨fa,ca,us,ks,N,g,c,rfl,_⟩:=h
  rfl
 ·obtain⟨fa,ca,us,ks,N,g,c,rfl,hfa,hL,hk,g64,kl,hca,q⟩:=h
  refine⟨_,(zf (zO (zp Zz (hr.mono (by decide)) (by rfl) qj.g qj.F.kp qj.b .nil zI (za (qm (N:=["laying","cell"]) (src:=[none,some 2]) (zW.free (O:=(zg yH).names) (XN:=["found","greatest","cell"]) rfl rfl ⟨_,rfl⟩ rfl rfl (by decide +kernel) (by decide +kernel) (by decide +kernel) rfl (by decide +kernel)) rfl (zT (pv 0)) (fun _ _ _ _ _=>(zm (i:=0) (by show List.Nodup (["laying","cell"]:List Str);decide +kernel) rfl (Or.inl rfl))) (fun _ _ _ _ _=>(qE (zQ (jP (K:=K) (by rfl) hr.units) (pv 1) (pv 0) (by rfl)))) (fun _ _ _ _ _=>(pv 0))) (za (pv 1) zb))))),?_⟩
  refine⟨_,rfl,fa,rfl,⟨_,SqL.of hfa⟩,fun z hz=>?_⟩
  refine qA (K:=K) (a:=fa) (xs:=us) (fun j σ' H'=>∃(u0:Option V) (ys:List V),σ'=[u0,some (.ref ca)]/\zw H H'/\H' z=some (.lst ys)/\jt (fun a=>a≠z) H' ys ((ks.take j).filter (Yl c)))
   ⟨_,[],rfl,ze hz,zc,.nil⟩ (fun j σ' H' _ ⟨_,_,_,y,_⟩=>SqL.of (y _ _ hfa)) ?_ ?_
  ·rintro j v σ' H1 hv ⟨u0,ys,rfl,s1,hz1,hy1⟩
   obtain⟨k,a1,wa,hk1,rfl,_,ha1,t1⟩:=YB hL hv
   have jl:j<ks.length:=(List.getElem?_eq_some_iff.mp hk1).1
   have e1:(ks.take (j+1)).filter (Yl c)=(ks.take j).filter (Yl c)++if Yl c k=true then [k] else []:=by
    rw [take_add_one,hk1,filter_append]
    congr 1
    show List.filter _ [k]=_
    rw [filter_cons]
    split<;>rfl
   refine⟨_,rfl,_,rfl,zz c,k.map pD,.tup (SqT.of (s1 _ _ hca)) (.cons (.int _) (.cons (.int _) .nil)),.lst (SqL.of (s1 _ _ ha1)) (zf6 (yT s1 t1)),rfl,zhl _,(by show 1<=60;decide),_,rfl,?_⟩
   have ei:(if false=true then !(k.map pD).any (fun z=>PyData.eqv z (zz c)) else (k.map pD).any fun z=>PyData.eqv z (zz c))=Yl c k:=zlg k c
   rw [ei]
   by_cases hh:Yl c k=true
   ·rw [if_pos hh] at e1
    refine yN hh ?_
    have yl:ys.length<=16384:=by
     rw [ja hy1]
     refine le_trans (length_filter_le _ _) ?_
     rw [length_take]
     omega
    refine⟨_,rfl,ys,hz1,lt_of_le_of_lt yl (by decide),_,ys++[.ref a1],rfl,fun b o e=>?_,zc,?_⟩
    ·rw [zj (zh e hz)]
     exact s1 _ _ e
    ·rw [e1]
     have nz:a1≠z:=zh ha1 hz
     exact Zx (yU hz1 (fun _ h=>h) hy1) (.cons ⟨a1,wa,rfl,nz,by rw [zj nz];exact s1 _ _ ha1,Jp hz1 (yT s1 t1)⟩ .nil)
   ·rw [if_neg hh,append_nil] at e1
    refine yk (Bool.eq_false_iff.mpr hh) ?_
    exact⟨_,ys,rfl,s1,hz1,by rw [e1];exact hy1⟩
  rintro σ' H1 ⟨u0,ys,rfl,s1,hz1,hy1⟩
  rw [ja hL,take_length] at hy1
  refine⟨_,rfl,z,ys,_,_,g,rfl,hz1,hy1,fun k hk2=>hk k (List.mem_filter.mp hk2).1,g64,fun d H2 hd hd2 s2=>?_⟩
  exact q d H2 (s1.free hd) hd2 (s1.trans s2)
end
noncomputable def xN (c:Nat×Nat):List Key:=[.inl ((c.1:Nat):Int),.inl ((c.2:Nat):Int)]
theorem zlA {c d:Nat×Nat}(h:xN c=xN d):c=d:=by
 unfold xN at h
 obtain⟨a,b⟩:=c
 obtain⟨x,y⟩:=d
 simp only [List.cons.injEq,Sum.inl.injEq,and_true] at h
 obtain⟨h1,h2⟩:=h
 have e1:a=x:=by omega
 have e2:b=y:=by omega
 rw [e1,e2]
def JW (rs:List Str)(n:Int)(c:Nat×Nat):Int:=((Tally.T (qb rs) (fun S=>jK rs S&&decide (c∈S)) n.toNat:Nat):Int)
theorem zhA {rs:List Str}{n:Int}{c:Nat×Nat}(h:(jr rs).isEmpty=false):JW rs n c=0:=by
 unfold JW
 rw [Tally.zbA fun S hS=>?_]
 ·rfl
 ·rw [zao fun c hc=>(Tally.jL hS).subset hc,h]
  rfl
theorem ziJ (c:Nat×Nat)(q:List (Nat×Nat)):Yl c (toL q)=decide (c∈q):=by
 unfold Yl toL
 rw [any_map,Bool.eq_iff_iff,List.any_eq_true,decide_eq_true_eq]
 constructor
 ·rintro⟨x,hx,h⟩
  have h':toI x=toI c:=of_decide_eq_true h
  have:x=c:=by
   unfold toI at h'
   obtain⟨a,b⟩:=x
   obtain⟨d,e⟩:=c
   simp only [Prod.mk.injEq] at h'
   have e1:a=d:=by omega
   have e2:b=e:=by omega
   rw [e1,e2]
  rw [<- this]
  exact hx
 ·intro h
  exact⟨c,h,decide_eq_true rfl⟩
theorem zeV (rs:List Str)(g:List (Nat×Nat))(c:Nat×Nat):Cnt.xR g.length ((Z0 rs g).filter (Yl c))=Tally.tl g fun S=>qN rs g S&&decide (c∈S):=by
 unfold Z0
 rw [filter_map,Tally.zfR g.length toL (fun k=>length_map _),List.filter_filter]
 have e:(fun a=>(Yl c∘toL) a&&Grow.fits (nearF rs) (jq rs) (Jf rs g) g a)=fun S=>qN rs g S&&decide (c∈S):=by
  funext S
  show (Yl c (toL S)&&qN rs g S)=_
  rw [ziJ,Bool.and_comm]
 rw [e]
 exact Tally.zix g _
theorem YE {A B:List (List (Nat×Nat))}(h:A.Sublist B):A.flatten.Sublist B.flatten:=by
 induction h with
 | slnil=>exact List.Sublist.refl _
 | cons a _ ih=>rw [flatten_cons];exact List.Sublist.trans ih (List.sublist_append_right _ _)
 | cons_cons a _ ih=>rw [flatten_cons,flatten_cons];exact List.Sublist.append (List.Sublist.refl _) ih
theorem ziK {rs:List Str}{gs A:List (List (Nat×Nat))}(G:Parts.Good (clA rs) (qd rs) gs)(h:A.Sublist gs):(tls rs A).foldl Pour.J3 [1]=Tally.tl A.flatten (Tally.j5 (qN rs) A) :=
 Tally.zhg (G.nd.sublist (YE h)) (fun c hc=>yi G c ((YE h).subset hc)) fun g hg=>zan G (h.subset hg)
theorem znV {rs:List Str}(R:Rows bd.cps.toList rs){gs A:List (List (Nat×Nat))}(G:Parts.Good (clA rs) (qd rs) gs)(h:A.Sublist gs):zht (tls rs A):=by
 have n64:=YC G R
 refine⟨fun xs hx=>?_,fun i=>?_⟩
 ·obtain⟨g,hg,rfl⟩:=List.mem_map.mp hx
  have gl:g.length<=64:=le_trans (List.Sublist.length_le (List.sublist_flatten_of_mem (h.subset hg))) n64
  rw [Tally.jT]
  exact⟨by omega,by omega,Z3 gl⟩
 ·have h2:=(take_sublist i A).trans h
  have e:(tls rs A).take i=tls rs (A.take i):=by
   unfold tls
   rw [map_take]
  have tl64:(A.take i).flatten.length<=64:=le_trans (YE h2).length_le n64
  rw [e,ziK G h2,Tally.jT]
  exact⟨by omega,by omega,Z3 tl64⟩
def zlB (rs:List Str)(z:Addr)(H:Hp)(v:V)(g:List (Nat×Nat)):Prop:=∃a ws ks,v=V.ref a/\a≠z/\H a=some (.lst ws)/\jt (fun b=>b≠z) H ws ks/\ks.Perm (Z0 rs g)
def zaX (rs:List Str)(z:Addr)(H:Hp):List V->List (List (Nat×Nat))->Prop:=Paired (zlB rs z H)
theorem JX {rs:List Str}{z:Addr}{H H':Hp}(s:zw H H'){us:List V}{gs:List (List (Nat×Nat))}(hp:zaX rs z H us gs):zaX rs z H' us gs:=by
 induction hp with
 | nil=>exact .nil
 | cons q _ ih =>
  obtain⟨a,ws,ks,e,n,h,l,p⟩:=q
  exact .cons ⟨a,ws,ks,e,n,s _ _ h,qi s l,p⟩ ih
theorem zgn {rs:List Str}{z:Addr}{H:Hp}{xs ys:List V}(hz:H z=some (.lst xs)){us:List V}{gs:List (List (Nat×Nat))}(hp:zaX rs z H us gs):zaX rs z (upd H z (.lst ys)) us gs:=by
 induction hp with
 | nil=>exact .nil
 | cons q _ ih =>
  obtain⟨a,ws,ks,e,n,h,l,p⟩:=q
  exact .cons ⟨a,ws,ks,e,n,by rw [zj n];exact h,yU hz (fun _ h=>h) l,p⟩ ih
theorem zd5 {rs:List Str}{z:Addr}{H:Hp}{us:List V}{gs:List (List (Nat×Nat))}{i:Nat}{v:V}(h:zaX rs z H us gs)(e:us[i]?=some v):∃g,gs[i]?=some g/\zlB rs z H v g:=zbN h e
theorem zhB {H:Hp}{z:Addr}{o:HO}{us:List V}{ks:List (List Int)}(hp:yL H us ks)(n:∀v∈us,v≠V.ref z):yL (upd H z o) us ks:=by
 induction hp with
 | nil=>exact .nil
 | cons q _ ih =>
  obtain⟨a,e,h⟩:=q
  exact .cons ⟨a,e,by rw [zj fun y=>n _ mem_cons_self (by rw [e,y])];exact h⟩ (ih fun v hv=>n v (mem_cons_of_mem _ hv))
theorem zcD {H:Hp}:∀{us:List V} {xss:List (List Int)} (i:Nat),yL H us xss->yL H (us.take i) (xss.take i)
 | _,_,0,_=>.nil
 | _,_,_+1,.nil=>.nil
 | _,_,i+1,.cons h t=>.cons h (zcD i t)
theorem zcE {H:Hp}:∀{us:List V} {xss:List (List Int)} (i:Nat),yL H us xss->yL H (us.drop i) (xss.drop i)
 | _,_,0,h=>h
 | _,_,_+1,.nil=>.nil
 | _,_,i+1,.cons _ t=>zcE i t
theorem zjS {H:Hp}{us:List V}{xss:List (List Int)}{us':List V}{xss':List (List Int)}(h:yL H us xss)(k:yL H us' xss'):yL H (us++us') (xss++xss'):=zaE h k
theorem ziL (kvs:List (List Key×V))(k:List Key)(v:V):(putK kvs k v).length<=kvs.length+1:=by
 unfold putK
 split
 ·rw [length_map]
  exact le_succ _
 ·rw [length_append]
  exact le_refl _
theorem zlC (l:List (List Key×V)):(Qf l).length<=l.length:=by
 have:∀(l acc:List (List Key×V)),(l.foldl (fun acc kv=>putK acc kv.1 kv.2) acc).length<=acc.length+l.length:=fun l=>by
  induction l with
  | nil=>exact fun acc=>le_refl _
  | cons x r ih =>
   intro acc
   rw [foldl_cons,length_cons]
   have h1:=ih (putK acc x.1 x.2)
   have h2:=ziL acc x.1 x.2
   omega
 have:=this l []
 rw [length_nil,zero_add] at this
 exact this
theorem znW (xs:List V){i:Nat}(h:i<=xs.length):QU xs none (some ((i:Nat):Int))=xs.take i:=by
 unfold QU
 rw [HT.zbr,Nat.min_eq_left h]
 show (xs.drop 0).take (i-0)=_
 rw [List.drop_zero,Nat.sub_zero]
def zgo:Sp:=fun vs H Q _=>∃(p l:Addr) (rs:List Str) (n:Int),vs=[.ref p]/\qf H p l rs n/\Rows bd.cps.toList rs/\Small rs/\0<=n /\
 ∀(d:Addr) (kvs:List (List Key×V)) (H':Hp),H d=none->H' d=some (.dT kvs)->(∀c∈qb rs,xF kvs (xN c)=some (V.int (JW rs n c)))->zw H H'->Q (.ref d) H'
def zd6:Sp:=fun vs H Q _=>∃(p l ca:Addr) (rs:List Str) (n:Int) (c:Nat×Nat),vs=[.ref p,.ref ca]/\qf H p l rs n/\Rows bd.cps.toList rs/\Small rs/\0<=n/\H ca=some (.tup [.int (c.1:Nat),.int (c.2:Nat)])/\c∈qb rs/\∀H',zw H H'->Q (.int (JW rs n c)) H'
section
variable {P:Program}{w:World}{K:PySem.W.Frag}{mg:Str->Option Value}{base:Heap}{f:Addr}{fd:FuncData}
theorem zR:zL ["board","pieces","found","counts","rest","at_far","told","place","part","others","cell","near"] ["board"] (zg qP):=⟨rfl,rfl,rfl,by decide +kernel,rfl,by decide +kernel,by decide +kernel⟩
theorem zav (T:Txt mg)(Z:Prog K mg)(D:zo K mg "counts_by_cell" qP ["board"] f fd):zH P w K mg base CX0 7 f fd ["board"] zgo:=by
 obtain⟨zgi,zd1,zJ⟩:=Z.around
 obtain⟨zd2,zcw,zv⟩:=Z.sign_at
 obtain⟨zcx,zbe,zC⟩:=Z.cells_of
 obtain⟨zgm,zd4,jD⟩:=Z.closed
 obtain⟨zar,Ql,zu⟩:=Z.open_cells
 obtain⟨zbf,zas,zU⟩:=Z.number_at
 obtain⟨zeP,zc5,qC⟩:=Z.numbers_of
 obtain⟨zhv,zgj,jh⟩:=Z.needs_at
 obtain⟨zjO,zhw,jI⟩:=Z.may_fit
 obtain⟨YD,Yj,qa⟩:=Z.part_layings
 obtain⟨zd3,zcy,qj⟩:=Z.counted
 obtain⟨zeW,zdc,Jj⟩:=Z.counted_at
 obtain⟨Yk,ZC,zK⟩:=Z.closed_around
 obtain⟨zlu,zjP,xK⟩:=Z.joined
 obtain⟨zeQ,zcA,Jh⟩:=Z.parts
 obtain⟨zlx,zhz,zau⟩:=Z.far
 obtain⟨Z7,J7,qO⟩:=Z.bare_wrong
 obtain⟨zcs,zaW,yJ⟩:=Z.poured
 obtain⟨Z5,J6,qg⟩:=Z.all_poured
 obtain⟨zeU,zcC,yj⟩:=Z.dealt
 have zeR:zH P w K mg base CX0 3 zeQ zcA ["board"] zeL:=zf5 T Jh zJ zv zC zu zK xK
 have JH:zH P w K mg base CX0 4 YD Yj ["board","part"] znS:=Yi T qa zJ zv zC zu zU qC jh jI
 have Zz:zH P w K mg base CX0 1 zd3 zcy ["found","greatest"] ziD:=QC T qj
 have zeX:zH P w K mg base CX0 2 zeW zdc ["found","greatest","cell"] ziE:=zdb T Jj qj
 have zce:zH P w K mg base CX0 2 zgm zd4 ["board"] (JE qJ):=zdO T jD zC zv
 have zly:zH P w K mg base CX0 3 zlx zhz ["board"] (zdP jM):=zk8 T zau zJ zv zC jD zu
 have Z8:zH P w K mg base CX0 3 Z7 J7 ["board"] (zdP jr):=Qj T qO zJ zv zC zK zu zU
 have zct:zH P w K mg base CX0 1 zcs zaW ["one","other"] (zhs K):=zd0 T yJ
 have Ji:zH P w K mg base CX0 2 Z5 J6 ["lists"] zhu:=Qk T Z qg
 have zbD:zH P w K mg base CX0 2 zeU zcC ["counts","cells","stones"] zeT:=zgk T Z yj
 refine D.F.ok zR (fun vs H Q E h=>?_) (fun cdv A outer s H vs Q E hr h=>?_)
 ·obtain⟨p,l,rs,n,rfl,_⟩:=h
  rfl
 ·obtain⟨p,l,rs,n,rfl,b,R,sm,n0,q⟩:=h
  have h64:(qb rs).length<=64:=jH R
  refine⟨_,(zd (zB (i:=1) zR.nd rfl (Or.inl rfl) (zp zeR (hr.mono (by decide)) (by rfl) Jh.g Jh.F.kp Jh.b .nil zI (za (pv 0) zb)))
   (zd (ZO (i:=2) zR.nd rfl rfl (N:=["part","board"]) (src:=[none,some 0]) (zW.free (O:=(zg qP).names) (XN:=["board","pieces","found","counts","rest","at_far","told","place","part","others","cell","near"]) rfl rfl ⟨_,rfl⟩ rfl rfl (by decide +kernel) (by decide +kernel) (by decide +kernel) rfl (by decide +kernel)) rfl (zT (pv 1)) (fun _ _ _ _ _=>(zm (i:=0) (by show List.Nodup (["part","board"]:List Str);decide +kernel) rfl (Or.inl rfl))) (fun _ _ _ _ _=>qS) (fun _ _ _ _ _=>(zp JH (hr.mono (by decide)) (by rfl) qa.g qa.F.kp qa.b .nil zI (za (pv 1) (za (pv 0) zb)))))
   (zd (jA (zQ (ZK hr.units) (zp Z8 (hr.mono (by decide)) (by rfl) qO.g qO.F.kp qO.b .nil zI (za (pv 0) zb)) (qu zb) (qc _)) (zf (zO (jk (Yh hr.units hr.hd) (by rfl) T.zk2 PyProof.Rows.boot_dict (za (qm (N:=["cell"]) (src:=[none]) (zW.plain rfl (by decide +kernel) (by decide +kernel) (by decide +kernel) rfl (by decide)) rfl (zT (zp zce (hr.mono (by decide)) (by rfl) jD.g jD.F.kp jD.b .nil zI (za (pv 0) zb))) (fun _ _ _ _ _=>(zm (i:=0) (by show List.Nodup (["cell"]:List Str);decide +kernel) rfl (Or.inl rfl))) (fun _ _ _ _ _=>qS) (fun _ _ _ _ _=>(yM (za (pv 0) (za zq zb))))) zb)))) qk)
   (zd (ZO (i:=3) zR.nd rfl rfl (N:=["part","some"]) (src:=[none,none]) (zW.plain rfl (by decide +kernel) (by decide +kernel) (by decide +kernel) rfl (by decide)) rfl (znw (by rfl) T.zoG (za (pv 1) (za (pv 2) zb))) (fun _ _ _ _ _=>(zep (n:=2) (K:=K) (by rfl) rfl (zV (zm (i:=0) (by show List.Nodup (["part","some"]:List Str);decide +kernel) rfl (Or.inl rfl)) (zV (zm (i:=1) (by show List.Nodup (["part","some"]:List Str);decide +kernel) rfl (Or.inl rfl)) jZ)))) (fun _ _ _ _ _=>qS) (fun _ _ _ _ _=>(zp Zz (hr.mono (by decide)) (by rfl) qj.g qj.F.kp qj.b .nil zI (za (pv 1) (za (zx (zcY (K:=K) (by rfl)) (by rfl) T.jd PySem.boot_len (za (pv 0) zb)) zb)))))
   (zd (zB (i:=4) zR.nd rfl (Or.inl rfl) (zp zly (hr.mono (by decide)) (by rfl) zau.g zau.F.kp zau.b .nil zI (za (pv 0) zb)))
   (zd (zB (i:=5) zR.nd rfl (Or.inr rfl) (zp zbD (hr.mono (by decide)) (by rfl) yj.g yj.F.kp yj.b .nil zI (za (zp Ji (hr.mono (by decide)) (by rfl) qg.g qg.F.kp qg.b .nil zI (za (pv 3) zb)) (za (zD J2 (zx zG (by rfl) T.jd PySem.boot_len (za (pv 4) zb)) zq) (za (zD J2 (qx xO (pv 0) zq (fun _ _=>rfl)) zq) zb)))))
   (zd (zB (i:=6) zR.nd rfl (Or.inl rfl) (jk (Yh hr.units hr.hd) (by rfl) T.zk2 PyProof.Rows.boot_dict (za (qm (N:=["cell","at_far"]) (src:=[none,some 5]) (zW.free (O:=(zg qP).names) (XN:=["board","pieces","found","counts","rest","at_far","told","place","part","others","cell","near"]) rfl rfl ⟨_,rfl⟩ rfl rfl (by decide +kernel) (by decide +kernel) (by decide +kernel) rfl (by decide +kernel)) rfl (zT (pv 4)) (fun _ _ _ _ _=>(zm (i:=0) (by show List.Nodup (["cell","at_far"]:List Str);decide +kernel) rfl (Or.inl rfl))) (fun _ _ _ _ _=>qS) (fun _ _ _ _ _=>(yM (za (pv 0) (za (pv 1) zb))))) zb)))
   (zd (qo PassesOwn.never rfl (Zb (by rfl) T.jW (za (pv 1) zb)) (Jr rfl (zV (zm (i:=7) zR.nd rfl (Or.inl rfl)) (zV (zm (i:=8) zR.nd rfl (Or.inl rfl)) jZ))) (zd (zB (i:=9) zR.nd rfl (Or.inl rfl) (zp Ji (hr.mono (by decide)) (by rfl) qg.g qg.F.kp qg.b .nil zI (za (zD zaB (QT zbt (pv 3) zel (QS (pv 7))) (QT zbt (pv 3) (QS (zD qp (pv 7) zq)) zel)) zb)))
   (zf (qo PassesOwn.never rfl (zT (pv 8)) (zm (i:=10) zR.nd rfl (Or.inl rfl)) (zd (zB (i:=11) zR.nd rfl (Or.inl rfl) (zp zct (hr.mono (by decide)) (by rfl) yJ.g yJ.F.kp yJ.b .nil zI (za (pv 9) (za (zp zeX (hr.mono (by decide)) (by rfl) Jj.g Jj.F.kp Jj.b .nil zI (za (qx ju (pv 2) (pv 7) (fun _ _=>rfl)) (za (zx zG (by rfl) T.jd PySem.boot_len (za (pv 8) zb)) (za (pv 10) zb)))) zb))))
   (zf (zl5 (u1 hr.units) (pv 6) (pv 10) (zp zbD (hr.mono (by decide)) (by rfl) yj.g yj.F.kp yj.b .nil zI (za (pv 11) (za (zx zG (by rfl) T.jd PySem.boot_len (za (pv 4) zb)) (za (qx xO (pv 0) zq (fun _ _=>rfl)) zb)))) rfl)))))))
   (zf (zO (pv 6))))))))))),?_⟩
  refine⟨_,rfl,p,l,rs,n,rfl,b,R,fun d1 w1 gs H1 hd1 zlz hG _ _ G up s1=>?_⟩
  have g64:=YC G R
  have gl64:gs.length<=64:=le_trans (Parts.Yw G.ne) g64
  refine⟨_,rfl,d1,rfl,⟨_,SqL.of zlz⟩,fun z hz=>?_⟩
  refine qA (K:=K) (a:=d1) (xs:=w1) (fun j σ' H'=>∃(u0:Option V) (ys:List V),σ'=[u0,some (.ref p)]/\zw H1 H'/\H' z=some (.lst ys)/\zaX rs z H' ys (gs.take j))
   ⟨_,[],rfl,ze hz,zc,.nil⟩ (fun j σ' H' _ ⟨_,_,_,y,_⟩=>SqL.of (y _ _ zlz)) ?_ ?_
  ·rintro j v σ' H2 hv ⟨u0,ys,rfl,s2,hz2,hy2⟩
   obtain⟨g,hg,ga,ug,rfl,hga,hcg⟩:=yq.get (hG.mono s2) hv
   have gm:=mem_of_getElem? hg
   have il:=(List.getElem?_eq_some_iff.mp hg).1
   unfold xU
   refine QA ?_
   refine⟨_,rfl,_,rfl,p,l,ga,rs,n,ug,g,rfl,(b.mono s1).mono s2,R,hga,hcg,yS (G.srt g gm),sm gs G g gm,fun e we ks H3 he he3 hL _ hpm _ s3=>?_⟩
   have ez:e≠z:=fun y=>by
    subst y
    rw [hz2] at he
    cases he
   have nz:∀a,(H2 a=none/\a≠e)->a≠z:=fun a h y=>by
    subst y
    rw [hz2] at h
    cases h.1
   have t1:gs.take (j+1)=gs.take j++[g]:=by
    rw [take_add_one,hg]
    rfl
   refine⟨_,s3 _ _ hz2,?_,_,ys++[.ref e],rfl,fun b' o e'=>?_,zc,?_⟩
   ·rw [show ys.length=(gs.take j).length from Paired.length hy2,length_take]
    exact lt_of_le_of_lt (show _<=64 by omega) (by decide)
   ·rw [zj (zh e' hz)]
    exact s3 _ _ (s2 _ _ e')
   ·rw [t1]
    exact Paired.snoc (zgn (s3 _ _ hz2) (JX s3 hy2)) ⟨e,we,ks,rfl,ez,by rw [zj ez];exact he3,yU (s3 _ _ hz2) (fun _ h=>h) (Qz nz hL),hpm⟩
  rintro σ' H2 ⟨u0,ys,rfl,s2,hz2,hF2⟩
  rw [hG.length,take_length] at hF2
  have s02:=s1.trans s2
  have hG2:=hG.mono s2
  have hd12:=s2 _ _ zlz
  refine⟨_,rfl,p,l,rs,n,rfl,b.mono s02,R,fun d w2 H3 hd hd3 hc3 s3=>⟨(by show 0<=sizeLine;decide),fun e he=>?_⟩⟩
  have s4:=ze (o:=.lst []) he
  refine⟨.list ((jr rs).map zz),.list [],.lst (SqL.of (s4 _ _ hd3)) (zF.rdv (N:=fun _=>True) (Cel.rdn (Cel.mono s4 hc3))),.lst (SqL.of zc) .nil,zeJ _ [],_,rfl,?_⟩
  have ee:(if true=true then !PyData.eqv (.list ((jr rs).map zz)) (.list []) else PyData.eqv (.list ((jr rs).map zz)) (.list []))=!(jr rs).isEmpty:=by
   show (!PyData.eqv _ _)=_
   rw [eq_nil]
  rw [ee]
  have s24:=s3.trans s4
  have s04:=s02.trans s24
  have b4:=b.mono s04
  have hd14:=s24 _ _ hd12
  have hz4:=s24 _ _ hz2
  have hG4:=hG2.mono s24
  have hF4:=JX s24 hF2
  generalize upd H3 e (.lst [])=H4 at *
  cases hb:(jr rs).isEmpty with
  | false =>
   refine Qd ?_
   refine⟨_,rfl,p,l,rs,n,rfl,b4,R,fun d5 w5 H5 hd5 hd5' hc5 s5=>⟨d5,rfl,⟨_,SqL.of hd5'⟩,fun y hy=>?_⟩⟩
   have hcs:Cel H5 w5 (qb rs):=hc5
   refine qA (K:=K) (a:=d5) (xs:=w5) (fun i σ H'=>(∃u0,σ=[u0])/\zw H5 H'/\∃ys,H' y=some (.lst ys)/\yu H' ys (((qb rs).take i).map fun c=>(xN c,V.int 0))) ⟨⟨_,rfl⟩,ze hy,[],zc,.nil⟩ (fun i σ H' _ ⟨_,s6,_⟩=>SqL.of (s6 _ _ hd5')) ?_ ?_
   ·rintro i x σ H6 hx ⟨⟨u0,rfl⟩,s6,ys,hy6,hp6⟩
    obtain⟨c,hci,ca,rfl,hca⟩:=Cel.get (Cel.mono s6 hcs) hx
    refine ZN ⟨_,rfl,(by show 2<=sizeLine;decide),fun p hp=>?_⟩
    have s7:=ze (o:=.tup [.ref ca,.int 0]) hp
    have hlen:ys.length<=64:=by
     rw [hp6.length,length_map,length_take]
     omega
    refine⟨ys,s7 _ _ hy6,lt_of_le_of_lt hlen (by decide),⟨_,rfl⟩,fun b' o e'=>?_,ys++[.ref p],zc,?_⟩
    ·rw [zj (zh e' hy)]
     exact s7 _ _ (s6 _ _ e')
    ·rw [take_add_one,hci,map_append]
     exact yu.into y _ (s7 _ _ hy6) (yu.snoc (hp6.mono s7) ⟨p,ca,rfl,zc,s7 _ _ hca⟩)
   ·rintro σ H6 ⟨_,s6,ys,hy6,hp6⟩
    rw [hcs.length,take_length] at hp6
    refine⟨y,ys,_,rfl,hy6,hp6,fun dd hdd=>?_⟩
    refine q dd _ _ ((s04.trans (s5.trans s6)).free hdd) zc (fun c hc=>?_) ((s04.trans (s5.trans s6)).trans (ze hdd))
    rw [zhA hb]
    have:=zaF (v:=V.int 0) (k:=xN c) ((qb rs).map xN) [] (.inl (List.mem_map.mpr ⟨c,hc,rfl⟩))
    rw [map_map] at this
    exact this
  | true =>
   refine Qp ?_
   refine⟨_,rfl,_,rfl,d1,z,rfl,⟨_,SqL.of hd14⟩,⟨_,SqL.of hz4⟩,fun t0 ht0=>?_⟩
   refine zkq (K:=K) (l1:=d1) (l2:=z) (xs:=w1) (ys:=ys) (fun j σ' H'=>∃(u0 u1:Option V) (cs:List V),σ'=[u0,u1]/\zw H4 H'/\H' t0=some (.lst cs)/\(∀v∈cs,v≠V.ref t0)/\yL H' cs (tls rs (gs.take j))) (hG.length.trans (Paired.length hF2).symm)
    ⟨_,_,[],rfl,ze ht0,zc,(fun _ h=>nomatch h),.nil⟩ (fun j σ' H' _ ⟨_,_,_,_,y,_⟩=>⟨SqL.of (y _ _ hd14),SqL.of (y _ _ hz4)⟩) ?_ ?_
   ·rintro j v v' tt σ' H5 hv hv' htt ⟨u0,u1,cs,rfl,s5,ht5,nt,hI5⟩
    obtain⟨g,hg,ga,ug,rfl,hga,hcg⟩:=yq.get (hG4.mono s5) hv
    obtain⟨g',hg',fa,wf,ks,rfl,fz,hfa,hLf,hpf⟩:=zd5 (JX s5 hF4) hv'
    rw [hg] at hg'
    cases hg'
    have gm:=mem_of_getElem? hg
    have il:=(List.getElem?_eq_some_iff.mp hg).1
    have z6:=ze (o:=.tup [V.ref ga,V.ref fa]) htt
    refine⟨tt,_,rfl,SqT.of zc,rfl,_,_,rfl,_,_,rfl,rfl,?_⟩
    have ht6:=z6 _ _ ht5
    have hga6:=z6 _ _ hga
    have hfa6:=z6 _ _ hfa
    have hLf6:=qi z6 hLf
    have s46:=s5.trans z6
    have hI6:=yV z6 hI5
    generalize upd H5 tt (.tup [V.ref ga,V.ref fa])=H6 at *
    refine QA ?_
    refine⟨_,rfl,_,rfl,ga,_,rfl,.inl (SqL.of hga6),fa,wf,ks,_,ug.length,rfl,hfa6,hLf6,fun k hk=>?_,?_,fun e7 H7 he7 zoL s7=>?_⟩
    ·rw [hcg.length]
     exact zcm (hpf.mem_iff.mp hk)
    ·rw [hcg.length]
     have:=sm gs G g gm
     omega
    ·rw [hcg.length,Cnt.zaN hpf,zdY] at zoL
     have et:e7≠t0:=fun y=>by
      subst y
      rw [ht6] at he7
      cases he7
     have t1:tls rs (gs.take (j+1))=tls rs (gs.take j)++[Tally.tl g (qN rs g)]:=by
      unfold tls
      rw [take_add_one,hg,map_append]
      rfl
     refine⟨_,s7 _ _ ht6,?_,_,_,cs++[.ref e7],rfl,fun b' o e'=>?_,zc,fun v hv=>?_,?_⟩
     ·rw [Y8 hI5]
      unfold tls
      rw [length_map,length_take]
      exact lt_of_le_of_lt (show _<=64 by omega) (by decide)
     ·rw [zj (zh e' ht0)]
      exact s7 _ _ (s46 _ _ e')
     ·rcases List.mem_append.mp hv with hv | hv
      ·exact nt v hv
      ·have:v=V.ref e7:=by simpa using hv
       rw [this]
       intro y
       cases y
       exact et rfl
     ·rw [t1]
      exact Paired.snoc (zhB (yV s7 hI6) nt) ⟨e7,rfl,by rw [zj et];exact zoL⟩
   rintro σ' H5 ⟨u0,u1,cs,rfl,s5,ht5,_,hI5⟩
   rw [hG.length,take_length] at hI5
   have s05:=s04.trans s5
   refine⟨_,rfl,p,l,rs,n,rfl,b.mono s05,R,fun d5 w5 H6 hd5 zoM hc5 s6=>?_⟩
   have wl:=hc5.length
   have f64:(jM rs).length<=64:=le_trans (length_filter_le _ _) h64
   refine⟨_,rfl,t0,cs,tls rs gs,rfl,s6 _ _ ht5,yV s6 hI5,zls R G,fun d7 H7 hd7 zoN s7=>?_⟩
   rw [show (tls rs gs).foldl Pour.J3 [1]=Tally.tl gs.flatten (Tally.j5 (qN rs) gs) from zgh G] at zoN
   have b7:=((b.mono s05).mono s6).mono s7
   refine⟨_,rfl,d5,_,rfl,.inl (SqL.of (s7 _ _ zoM)),_,_,rfl,rfl,_,rfl,p,_,1,_,rfl,rfl,SqT.of b7.tp,rfl,_,_,rfl,rfl,d7,_,_,_,rfl,zoN,Z3 g64,by rw [Tally.jT];omega,by omega,fun H8 s8=>?_⟩
   have s68:=s7.trans s8
   have s58:=s6.trans s68
   have s08:=s05.trans s58
   have hd58:=s68 _ _ zoM
   have hc8:=hc5.mono s68
   have farv:∀c∈jM rs,dlV (Tally.tl gs.flatten (Tally.j5 (qN rs) gs)) (((w5.length:Nat):Int)-1) (n-1)=JW rs n c:=fun c hc=>by
    have pos:=List.length_pos_of_mem hc
    have ci:=znU G hc n.toNat
    rw [hb,if_pos rfl,toNat_of_nonneg n0] at ci
    unfold JW
    rw [<- ci,wl,show (((jM rs).length:Nat):Int)-1=(((jM rs).length-1:Nat):Int) by omega,zeS]
   generalize dlV (Tally.tl gs.flatten (Tally.j5 (qN rs) gs)) (((w5.length:Nat):Int)-1) (n-1)=val at *
   refine⟨_,rfl,d5,rfl,⟨_,SqL.of hd58⟩,fun y hy=>?_⟩
   refine qA (K:=K) (a:=d5) (xs:=w5) (fun i σ H'=>(∃u0,σ=[u0,some (.int val)])/\zw H8 H'/\∃ys,H' y=some (.lst ys)/\yu H' ys (((jM rs).take i).map fun c=>(xN c,V.int val))) ⟨⟨_,rfl⟩,ze hy,[],zc,.nil⟩ (fun i σ H' _ ⟨_,s6,_⟩=>SqL.of (s6 _ _ hd58)) ?_ ?_
   ·rintro i x σ H6' hx ⟨⟨u0,rfl⟩,s6',ys',hy6,hp6⟩
    obtain⟨c,hci,ca,rfl,hca⟩:=Cel.get (Cel.mono s6' hc8) hx
    refine ZN ⟨_,rfl,_,rfl,(by show 2<=sizeLine;decide),fun p hp=>?_⟩
    have s7':=ze (o:=.tup [.ref ca,.int val]) hp
    have hlen:ys'.length<=64:=by
     rw [hp6.length,length_map,length_take]
     omega
    refine⟨ys',s7' _ _ hy6,lt_of_le_of_lt hlen (by decide),⟨_,rfl⟩,fun b' o e'=>?_,ys'++[.ref p],zc,?_⟩
    ·rw [zj (zh e' hy)]
     exact s7' _ _ (s6' _ _ e')
    ·rw [take_add_one,hci,map_append]
     exact yu.into y _ (s7' _ _ hy6) (yu.snoc (hp6.mono s7') ⟨p,ca,rfl,zc,s7' _ _ hca⟩)
   rintro σ H9 ⟨_,s9,ys',hy9,hp9⟩
   rw [hc8.length,take_length] at hp9
   refine⟨y,ys',_,rfl,hy9,hp9,fun dd hdd=>?_⟩
   have z10:=ze (o:=.dT (Qf ((jM rs).map fun c=>(xN c,V.int val)))) hdd
   have hdd10:upd H9 dd (.dT (Qf ((jM rs).map fun c=>(xN c,V.int val)))) dd=some (.dT (Qf ((jM rs).map fun c=>(xN c,V.int val)))):=zc
   have kl0:(Qf ((jM rs).map fun c=>(xN c,V.int val))).length<=64:=by
    have:=zlC ((jM rs).map fun c=>(xN c,V.int val))
    rw [length_map] at this
    omega
   have kv0:∀c∈jM rs,xF (Qf ((jM rs).map fun c=>(xN c,V.int val))) (xN c)=some (V.int (JW rs n c)):=fun c hc=>by
    have:=zaF (v:=V.int val) (k:=xN c) ((jM rs).map xN) [] (.inl (List.mem_map.mpr ⟨c,hc,rfl⟩))
    rw [map_map] at this
    rw [<- farv c hc]
    exact this
   generalize Qf ((jM rs).map fun c=>(xN c,V.int val))=kvs0 at *
   generalize upd H9 dd (.dT kvs0)=H10 at *
   have s49:=s5.trans (s58.trans s9)
   have s09:=s08.trans s9
   have ddn:H dd=none:=s09.free hdd
   have hd19:=s49 _ _ hd14
   have hz9:=s49 _ _ hz4
   have hG9:=hG4.mono s49
   have hF9:=JX s49 hF4
   have ht9:=(s58.trans s9) _ _ ht5
   have hI9:=yV (s58.trans s9) hI5
   have hd59:=s9 _ _ hd58
   have b9:=b.mono s09
   refine⟨_,rfl,d1,rfl,⟨_,SqL.of (z10 _ _ hd19)⟩,?_⟩
   refine Zc (K:=K) (l:=d1) (xs:=w1) (fun i σ H'=>∃(kvs:List (List Key×V)) (v7 v8 v9 v10 v11:Option V),σ=[some (.ref p),some (.ref d1),some (.ref z),some (.ref t0),some (.ref d5),some (.int val),some (.ref dd),v7,v8,v9,v10,v11]/\zw H9 H'/\H' dd=some (.dT kvs)/\kvs.length<=64+(gs.take i).flatten.length/\(∀c,c∈jM rs\/c∈(gs.take i).flatten->xF kvs (xN c)=some (V.int (JW rs n c))))
    ⟨kvs0,_,_,_,_,_,rfl,z10,hdd10,by simpa using kl0,fun c hc=>hc.elim (kv0 c) (fun h=>by simp at h)⟩ (fun i σ H' _ ⟨_,_,_,_,_,_,_,y,_⟩=>SqL.of (y _ _ hd19)) ?_ ?_
   ·rintro i v tt σ H11 hv htt ⟨kvs,v7,v8,v9,v10,v11,rfl,s11,hdd11,kl,kv⟩
    obtain⟨g,hg,ga,ug,rfl,hga,hcg⟩:=yq.get (hG9.mono s11) hv
    have gm:=mem_of_getElem? hg
    have il:=(List.getElem?_eq_some_iff.mp hg).1
    have g14:=sm gs G g gm
    have egs:gs=gs.take i++g::gs.drop (i+1):=by
     have e1:=(take_append_drop i gs).symm
     rw [drop_eq_getElem_cons il] at e1
     have e2:gs[i]=g:=by
      rw [getElem?_eq_getElem il] at hg
      exact Option.some.inj hg
     rwa [e2] at e1
    have tk:(gs.take (i+1)).flatten=(gs.take i).flatten++g:=by
     rw [take_add_one,hg,flatten_append]
     congr 1
     simp
    have AB:(gs.take i++gs.drop (i+1)).Sublist gs:=by
     conv=>rhs;rw [egs]
     exact List.Sublist.append (List.Sublist.refl _) (List.sublist_cons_self _ _)
    have tdd:tt≠dd:=fun y=>by
     subst y
     rw [hdd11] at htt
     cases htt
    have z12:=ze (o:=.tup [.int (i:Nat),V.ref ga]) htt
    refine⟨tt,_,rfl,SqT.of zc,rfl,_,_,rfl,_,_,rfl,rfl,?_⟩
    have s12:=s11.trans z12
    have hdd12:=z12 _ _ hdd11
    generalize upd H11 tt (.tup [.int (i:Nat),V.ref ga])=H12 at *
    have cl:=Y8 hI9
    have tlen:(tls rs gs).length=gs.length:=length_map _
    refine⟨_,rfl,_,rfl,_,rfl,t0,cs,rfl,SqL.of (s12 _ _ ht9),fun c1 hc1=>?_⟩
    have z13:=ze (o:=.lst (QU cs none (some ((i:Nat):Int)))) hc1
    refine⟨_,rfl,_,rfl,_,_,rfl,rfl,_,rfl,t0,cs,rfl,SqL.of (z13 _ _ (s12 _ _ ht9)),fun c2 hc2=>?_⟩
    have z14:=ze (o:=.lst (QU cs (some (((i:Nat):Int)+1)) none)) hc2
    rw [znW cs (show i<=cs.length by omega),zgb cs i (by omega)] at *
    refine⟨c1,c2,_,_,rfl,rfl,z14 _ _ zc,zc,?_,fun c3 hc3=>?_⟩
    ·rw [length_take,length_drop]
     exact le_trans (show _<=128 by omega) (by decide)
    have z15:=ze (o:=.lst (cs.take i++cs.drop (i+1))) hc3
    have s1215:=z13.trans (z14.trans z15)
    have s15:=s12.trans s1215
    have hdd15:=s1215 _ _ hdd12
    have hI15:=yV s15 hI9
    have et:tls rs (gs.take i++gs.drop (i+1))=(tls rs gs).take i++(tls rs gs).drop (i+1):=by
     unfold tls
     rw [map_append,map_take,List.map_drop]
    have hc315:upd (upd (upd H12 c1 (.lst (cs.take i))) c2 (.lst (cs.drop (i+1)))) c3 (.lst (cs.take i++cs.drop (i+1))) c3=some (.lst (cs.take i++cs.drop (i+1))):=zc
    generalize upd (upd (upd H12 c1 (.lst (cs.take i))) c2 (.lst (cs.drop (i+1)))) c3 (.lst (cs.take i++cs.drop (i+1)))=H15 at *
    refine⟨c3,_,tls rs (gs.take i++gs.drop (i+1)),rfl,hc315,by rw [et];exact zjS (zcD i hI15) (zcE (i+1) hI15),znV R G AB,fun oa H16 hoa zmX s16=>?_⟩
    rw [ziK G AB] at zmX
    have s916:=s15.trans s16
    have hdd16:=s16 _ _ hdd15
    have oadd:oa≠dd:=fun y=>by
     subst y
     rw [hdd15] at hoa
     cases hoa
    have fl64:(gs.take i++gs.drop (i+1)).flatten.length<=64:=le_trans (YE AB).length_le g64
    have hga9:H9 ga=some (.lst ug):=by
     obtain⟨g',hg',ga',ug',e',h1',_⟩:=yq.get hG9 hv
     cases e'
     have:=s11 _ _ h1'
     rw [hga] at this
     cases this
     exact h1'
    have hcg9:Cel H9 ug g:=by
     obtain⟨g',hg',ga',ug',e',h1',h2'⟩:=yq.get hG9 hv
     cases e'
     rw [hg] at hg'
     cases hg'
     rw [hga9] at h1'
     cases h1'
     exact h2'
    have zl:i<ys.length:=by
     rw [show ys.length=gs.length from Paired.length hF2]
     exact il
    obtain⟨g2,hg2,fa,wf,ks,efa,fz,hfa,hLf,hpf⟩:=zd5 hF9 (getElem?_eq_getElem zl)
    rw [hg] at hg2
    cases hg2
    refine⟨_,rfl,ga,rfl,⟨_,SqL.of (s916 _ _ hga9)⟩,?_⟩
    refine j9 (K:=K) (a:=ga) (xs:=ug) (fun j σ H'=>∃(kvs:List (List Key×V)) (v10 v11:Option V),σ=[some (.ref p),some (.ref d1),some (.ref z),some (.ref t0),some (.ref d5),some (.int val),some (.ref dd),some (.int (i:Nat)),some (.ref ga),some (.ref oa),v10,v11]/\zw H9 H'/\H' oa=some (.lst (iL (Tally.tl (gs.take i++gs.drop (i+1)).flatten (Tally.j5 (qN rs) (gs.take i++gs.drop (i+1))))))/\H' dd=some (.dT kvs)/\kvs.length<=64+(gs.take i).flatten.length+j/\(∀c,c∈jM rs\/c∈(gs.take i).flatten\/c∈g.take j->xF kvs (xN c)=some (V.int (JW rs n c))))
     ⟨kvs,_,_,rfl,s916,zmX,hdd16,by omega,fun c hc=>kv c (hc.elim .inl fun h=>h.elim .inr fun h=>by simp at h)⟩ (fun j σ H' _ ⟨_,_,_,_,y,_⟩=>SqL.of (y _ _ hga9)) ?_ ?_
    ·rintro j x σ H17 hx ⟨kvs',w10,w11,rfl,s17,hoa17,hdd17,kl17,kv17⟩
     obtain⟨c,hc,ca,rfl,hca⟩:=Cel.get (hcg9.mono s17) hx
     have cm:=mem_of_getElem? hc
     have jl:=(List.getElem?_eq_some_iff.mp hc).1
     have Gi:Parts.Good (clA rs) (qd rs) (gs.take i++g::gs.drop (i+1)):=by
      rw [<- egs]
      exact G
     have ap:=zmB Gi cm n.toNat
     rw [hb,if_pos rfl,toNat_of_nonneg n0] at ap
     refine⟨_,rfl,_,rfl,_,rfl,z,_,_,_,rfl,rfl,SqL.of (s17 _ _ hz9),jJ (by omega) (by rw [toNat_natCast];exact getElem?_eq_getElem zl),_,rfl,ga,_,rfl,.inl (SqL.of (s17 _ _ hga9)),_,rfl,?_⟩
     rw [efa]
     refine⟨fa,ca,wf,ks,_,ug.length,c,rfl,s17 _ _ hfa,qi s17 hLf,fun k hk=>?_,?_,?_,hca,fun ea H18 hea zmY s18=>?_⟩
     ·rw [hcg9.length]
      exact zcm (hpf.mem_iff.mp hk)
     ·rw [hcg9.length]
      omega
     ·rw [hpf.length_eq]
      exact zjL g14
     rw [hcg9.length,Cnt.zaN (hpf.filter _),zeV] at zmY
     have gl64:g.length<=64:=by omega
     refine⟨oa,ea,_,_,rfl,SqL.of (s18 _ _ hoa17),SqL.of zmY,?_,?_,?_,?_,Z3 fl64,Z3 gl64,fun na H19 hna zoO s19=>?_⟩
     ·rw [Tally.jT];omega
     ·rw [Tally.jT];omega
     ·rw [Tally.jT];omega
     ·rw [Tally.jT];omega
     have s1719:=s18.trans s19
     have s919:=s17.trans s1719
     have t64:(gs.take i).flatten.length<=64:=le_trans (YE (take_sublist i gs)).length_le g64
     have ab64:((gs.take i++gs.drop (i+1)).flatten++g).length<=64:=by
      rw [<- (zeO _ _ _).length_eq,<- egs]
      exact g64
     have epi:=ziH Gi cm
     refine⟨_,rfl,_,rfl,d5,_,rfl,.inl (SqL.of (s919 _ _ hd59)),_,rfl,p,_,1,_,rfl,rfl,SqT.of (b9.mono s919).tp,rfl,na,_,_,_,rfl,zoO,by rw [epi];exact Z3 ab64,by rw [epi,Tally.jT];omega,by omega,fun H20 s20=>?_⟩
     have s1720:=s1719.trans s20
     have hdd20:=s1720 _ _ hdd17
     have ev:dlV (Pour.J3 (Tally.tl (gs.take i++gs.drop (i+1)).flatten (Tally.j5 (qN rs) (gs.take i++gs.drop (i+1)))) (Tally.tl g fun S=>qN rs g S&&decide (c∈S))) (w5.length:Nat) n=JW rs n c:=by
      unfold JW
      rw [zeS,wl,ap]
     rw [ev]
     refine⟨_,rfl,_,rfl,dd,_,rfl,zkn.t (k:=xN c) hdd20 (s1720 _ _ hca) (lt_of_le_of_lt (show kvs'.length<=200 by omega) (by decide)),?_⟩
     refine⟨putK kvs' (xN c) (V.int (JW rs n c)),_,_,rfl,fun b' o e'=>?_,?_,zc,?_,fun c' hc'=>?_⟩
     ·rw [zj (zh e' hdd)]
      exact s1720 _ _ (s17 _ _ e')
     ·rw [zj oadd]
      exact s1720 _ _ hoa17
     ·have:=ziL kvs' (xN c) (V.int (JW rs n c))
      omega
     ·rw [zfw]
      by_cases ec:xN c'=xN c
      ·rw [if_pos ec,zlA ec]
      ·rw [if_neg ec]
       refine kv17 c' (hc'.elim .inl fun h=>h.elim (fun h=>.inr (.inl h)) fun h=>?_)
       rw [take_add_one,hc] at h
       rcases List.mem_append.mp h with h | h
       ·exact .inr (.inr h)
       ·have:c'=c:=by simpa using h
        exact absurd (by rw [this]) ec
    rintro σ H17 ⟨kvs',w10,w11,rfl,s17,hoa17,hdd17,kl17,kv17⟩
    have ul:ug.length=g.length:=hcg9.length
    refine⟨kvs',_,_,_,_,_,rfl,s17,hdd17,?_,fun c hc=>?_⟩
    ·rw [tk,length_append]
     omega
    ·rw [tk] at hc
     rw [ul,take_length] at kv17
     exact kv17 c (hc.elim .inl fun h=>(List.mem_append.mp h).elim (fun h=>.inr (.inl h)) fun h=>.inr (.inr h))
   rintro σ H11 ⟨kvs,v7,v8,v9,v10,v11,rfl,s11,hdd11,kl,kv⟩
   rw [hG.length,take_length] at kv
   refine⟨_,rfl,q dd kvs H11 ddn hdd11 (fun c hc=>kv c ?_) (s09.trans s11)⟩
   by_cases hm:c∈gs.flatten
   ·exact .inr hm
   ·exact .inl ((zaq G).mpr ⟨hc,hm⟩)
theorem zgp:zL ["board","cell"] ["board","cell"] (zg ZU):=⟨rfl,rfl,rfl,by decide +kernel,rfl,by decide +kernel,by decide +kernel⟩
theorem zgq (T:Txt mg)(Z:Prog K mg)(D:zo K mg "count_at" ZU ["board","cell"] f fd):zH P w K mg base CX0 8 f fd ["board","cell"] zd6:=by
 obtain⟨zaY,zaw,j7⟩:=Z.counts_by_cell
 have zaZ:zH P w K mg base CX0 7 zaY zaw ["board"] zgo:=zav T Z j7
 refine D.F.ok zgp (fun vs H Q E h=>?_) (fun cdv A outer s H vs Q E hr h=>?_)
 ·obtain⟨p,l,ca,rs,n,c,rfl,_⟩:=h
  rfl
 ·obtain⟨p,l,ca,rs,n,c,rfl,b,R,sm,n0,hca,hc,q⟩:=h
  refine⟨_,(zf (zO (zl4 (u1 hr.units) (zp zaZ (hr.mono (by decide)) (by rfl) j7.g j7.F.kp j7.b .nil zI (za (pv 0) zb)) (pv 1) (fun _ _=>rfl)))),?_⟩
  refine⟨_,rfl,p,l,rs,n,rfl,b,R,sm,n0,fun d kvs H1 _ hd kv s1=>⟨_,rfl,d,_,rfl,?_,q _ s1⟩⟩
  have g:=zja.t (k:=xN c) hd (s1 _ _ hca)
  rw [kv c hc] at g
  exact g
end
noncomputable def pV (xs:List Nat):List V:=xs.map fun x=>V.int (x:Nat)
def nrP (n at_ x:Nat):Bool:=Cells.near (x/n,x%n) (at_/n,at_%n)
noncomputable def xW (R n at_:Nat):List Nat:=(List.range (R*n)).filter (nrP n at_)
noncomputable def zcF (n at_ r c0 m:Nat):List Nat:=((List.range m).map fun i=>r*n+(c0+i)).filter fun x=>!decide (x=at_)
noncomputable def Qm (n at_ r0 k c0 m:Nat):List Nat:=(List.range k).flatMap fun i=>zcF n at_ (r0+i) c0 m
theorem zjT (n at_ r c0 m:Nat):zcF n at_ r c0 (m+1)=zcF n at_ r c0 m++if (!decide (r*n+(c0+m)=at_))=true then [r*n+(c0+m)] else []:=by
 unfold zcF
 rw [range_succ,map_append,filter_append]
 congr 1
 show List.filter _ [r*n+(c0+m)]=_
 rw [filter_cons]
 split<;>rfl
theorem zcG (n at_ r0 k c0 m:Nat):Qm n at_ r0 (k+1) c0 m=Qm n at_ r0 k c0 m++zcF n at_ (r0+k) c0 m:=by
 unfold Qm
 rw [range_succ,List.flatMap_append]
 simp
theorem zlD {R n at_:Nat}(hR:R<=5)(hn:n<=5)(ha:at_<R*n):Qm n at_ (at_/n-1) (min (at_/n+2) R-(at_/n-1)) (at_%n-1) (min (at_%n+2) n-(at_%n-1))=xW R n at_:=by
 have h:∀R∈List.range 6,∀n∈List.range 6,∀a∈List.range (R*n),Qm n a (a/n-1) (min (a/n+2) R-(a/n-1)) (a%n-1) (min (a%n+2) n-(a%n-1))=xW R n a:=by decide +kernel
 exact h R (List.mem_range.mpr (by omega)) n (List.mem_range.mpr (by omega)) at_ (List.mem_range.mpr ha)
theorem zcH {R n at_:Nat}(hR:R<=5)(hn:n<=5)(ha:at_<R*n):(xW R n at_).length<=8:=by
 have h:∀R∈List.range 6,∀n∈List.range 6,∀a∈List.range (R*n),(xW R n a).length<=8:=by decide +kernel
 exact h R (List.mem_range.mpr (by omega)) n (List.mem_range.mpr (by omega)) at_ (List.mem_range.mpr ha)
theorem zgr (n at_ r c0 m:Nat):(zcF n at_ r c0 m).length<=m:=by
 unfold zcF
 refine le_trans (length_filter_le _ _) ?_
 rw [length_map,length_range]
 exact le_refl _
theorem zd7 (n at_ r0 c0 m:Nat):∀k,(Qm n at_ r0 k c0 m).length<=k*m
 | 0=>zero_le _
 | k+1=>by
  rw [zcG,length_append,Nat.succ_mul]
  exact Nat.add_le_add (zd7 n at_ r0 c0 m k) (zgr _ _ _ _ _)
theorem zmZ (i:Nat):(if (i:Int)-1>0 then (i:Int)-1 else 0)=((i-1:Nat):Int):=by
 split<;>omega
theorem zm0 (i m:Nat):(if (i:Int)+2<((m:Nat):Int) then (i:Int)+2 else ((m:Nat):Int))=((min (i+2) m:Nat):Int):=by
 split<;>omega
theorem znX {a b:Nat}:decide (V.int ((a:Nat):Int)=V.int ((b:Nat):Int))=decide (a=b):=decide_eq_decide.mpr ⟨fun h=>by injection h with h;omega,fun h=>by rw [h]⟩
def zeY:Sp:=fun vs H Q _=>∃(a R n:Nat),vs=[.int (a:Nat),.int (R:Nat),.int (n:Nat)]/\R<=5/\1<=n/\n<=5/\a<R*n/\∀(d:Addr) (H':Hp),H d=none->H' d=some (.lst (pV (xW R n a)))->zw H H'->Q (.ref d) H'
section
variable {P:Program}{w:World}{K:PySem.W.Frag}{mg:Str->Option Value}{base:Heap}{f:Addr}{fd:FuncData}
theorem yx:zL ["_law_at","_law_rows","_law_columns","_law_row","_law_column","_law_found","_law_r","_law_c"] ["_law_at","_law_rows","_law_columns"] (zg ZV):=⟨rfl,rfl,rfl,by decide +kernel,rfl,by decide +kernel,by decide +kernel⟩
theorem zbg (T:Txt mg)(D:zo K mg "_law_near" ZV ["_law_at","_law_rows","_law_columns"] f fd):zH P w K mg base CX0 1 f fd ["_law_at","_law_rows","_law_columns"] zeY:=by
 refine D.F.ok yx (fun vs H Q E h=>?_) (fun cdv A outer s H vs Q E hr h=>?_)
 ·obtain⟨a,R,n,rfl,_⟩:=h
  rfl
 ·obtain⟨a,R,n,rfl,hR,n1,hn,ha,q⟩:=h
  have hrow:a/n<R:=Nat.div_lt_of_lt_mul (by rw [mul_comm];exact ha)
  have hcol:a%n<n:=mod_lt _ (by omega)
  refine⟨_,(zd (zbG (zx za5 (by rfl) T.zfV PyProof.Rows.boot_divmod (za (pv 0) (za (pv 2) zb))) (Jr rfl (zV (zm (i:=3) yx.nd rfl (Or.inl rfl)) (zV (zm (i:=4) yx.nd rfl (Or.inl rfl)) jZ))))
   (zd (zB (i:=5) yx.nd rfl (Or.inl rfl) (qu zb))
   (zd (qo PassesOwn.never rfl (YQ (by rfl) T.qW (za (zx (Za rfl) (by rfl) T.zfX PyProof.Rows.boot_max (za zq (za (zD J2 (pv 3) zq) zb))) (za (zx (YS rfl) (by rfl) T.ziy PyProof.Rows.boot_min (za (pv 1) (za (zD qp (pv 3) zq) zb))) zb))) (zm (i:=6) yx.nd rfl (Or.inl rfl)) (zf (qo PassesOwn.never rfl (YQ (by rfl) T.qW (za (zx (Za rfl) (by rfl) T.zfX PyProof.Rows.boot_max (za zq (za (zD J2 (pv 4) zq) zb))) (za (zx (YS rfl) (by rfl) T.ziy PyProof.Rows.boot_min (za (pv 2) (za (zD qp (pv 4) zq) zb))) zb))) (zm (i:=7) yx.nd rfl (Or.inl rfl)) (zf (jA (zQ QN (zD qp (zD yf (pv 6) (pv 2)) (pv 7)) (pv 0) (qc _)) (zf (yE (Jt PySem.F.plainAttrs_list PySem.F.slot_list_append PySem.F.type_list_append qY (pv 5) (za (zD qp (zD yf (pv 6) (pv 2)) (pv 7)) zb)))) qk)))))
   (zf (zO (pv 5)))))),?_⟩
  refine⟨_,rfl,_,rfl,_,_,rfl,⟨by omega,by omega⟩,fun p hp=>?_⟩
  have s0:=ze (o:=.tup [.int (((a:Nat):Int)/((n:Nat):Int)),.int (((a:Nat):Int)%((n:Nat):Int))]) hp
  refine⟨p,_,rfl,SqT.of zc,rfl,_,_,rfl,_,_,rfl,rfl,?_⟩
  generalize upd H p (.tup [.int (((a:Nat):Int)/((n:Nat):Int)),.int (((a:Nat):Int)%((n:Nat):Int))])=H0 at *
  rw [<- Int.natCast_ediv,<- Int.natCast_emod]
  generalize hr0:a/n=row at *
  generalize hc0:a%n=col at *
  refine⟨(by show 0<=sizeLine;decide),fun d hd=>?_⟩
  have s1:zw H0 (upd H0 d (.lst [])):=ze hd
  refine⟨_,rfl,_,_,rfl,rfl,0,_,rfl,_,rfl,_,rfl,_,_,rfl,rfl,_,_,rfl,((row-1:Nat):Int),((min (row+2) R:Nat):Int),?_,⟨by omega,by omega,by omega,by omega⟩,?_⟩
  ·show [V.int (if (row:Int)-1>0 then (row:Int)-1 else 0),V.int (if (row:Int)+2<((R:Nat):Int) then (row:Int)+2 else ((R:Nat):Int))]=_
   rw [zmZ,zm0]
  have hn9:∀k m:Nat,k<=5->m<=5->k*m<=25:=fun k m h1 h2=>mul_le_mul h1 h2
  refine qz (lo:=((row-1:Nat):Int)) (fun k σ H'=>∃(v6 v7:Option V),σ=[some (.int (a:Nat)),some (.int (R:Nat)),some (.int (n:Nat)),some (.int (row:Nat)),some (.int (col:Nat)),some (.ref d),v6,v7]/\zw H0 H'/\H' d=some (.lst (pV (Qm n a (row-1) k (col-1) (min (col+2) n-(col-1))))))
   ⟨_,_,rfl,s1,zc⟩ ?_ ?_
  ·rintro k σ H1 hk ⟨v6,v7,rfl,s2,hd1⟩
   rw [show ((row-1:Nat):Int)+(k:Nat)=((row-1+k:Nat):Int) by omega]
   refine⟨_,rfl,_,_,rfl,rfl,0,_,rfl,_,rfl,_,rfl,_,_,rfl,rfl,_,_,rfl,((col-1:Nat):Int),((min (col+2) n:Nat):Int),?_,⟨by omega,by omega,by omega,by omega⟩,?_⟩
   ·show [V.int (if (col:Int)-1>0 then (col:Int)-1 else 0),V.int (if (col:Int)+2<((n:Nat):Int) then (col:Int)+2 else ((n:Nat):Int))]=_
    rw [zmZ,zm0]
   refine qz (lo:=((col-1:Nat):Int)) (fun m σ H'=>∃(v7:Option V),σ=[some (.int (a:Nat)),some (.int (R:Nat)),some (.int (n:Nat)),some (.int (row:Nat)),some (.int (col:Nat)),some (.ref d),some (.int ((row-1+k:Nat):Int)),v7]/\zw H0 H'/\H' d=some (.lst (pV (Qm n a (row-1) k (col-1) (min (col+2) n-(col-1))++zcF n a (row-1+k) (col-1) m))))
    ⟨_,rfl,s2,by rw [hd1];unfold zcF;simp⟩ ?_ ?_
   ·rintro m σ H2 hm ⟨v7,rfl,s3,hd2⟩
    rw [show ((col-1:Nat):Int)+(m:Nat)=((col-1+m:Nat):Int) by omega]
    have ev:((row-1+k:Nat):Int)*((n:Nat):Int)+((col-1+m:Nat):Int)=(((row-1+k)*n+(col-1+m):Nat):Int):=by
     simp only [Int.natCast_add,natCast_mul]
    have hb:(!decide (V.int (((row-1+k:Nat):Int)*((n:Nat):Int)+((col-1+m:Nat):Int))=V.int ((a:Nat):Int)))=!decide ((row-1+k)*n+(col-1+m)=a):=by rw [ev,znX]
    refine⟨_,rfl,_,rfl,_,_,rfl,rfl,zcW (by omega) (by omega),_,rfl,_,_,rfl,rfl,_,rfl,rfl,_,rfl,?_⟩
    have e1:=zjT n a (row-1+k) (col-1) m
    by_cases hp:(!decide ((row-1+k)*n+(col-1+m)=a))=true
    ·rw [if_pos hp] at e1
     refine yN (hb.trans hp) ?_
     refine⟨_,rfl,.inl ⟨rfl,_,SqL.of hd2⟩,_,rfl,_,rfl,_,_,rfl,rfl,zcW (by omega) (by omega),_,rfl,_,_,rfl,rfl,d,_,_,rfl,rfl,hd2,?_,_,rfl,fun b o e=>?_,?_⟩
     ·unfold pV
      rw [length_map,length_append]
      have a1:=zd7 n a (row-1) (col-1) (min (col+2) n-(col-1)) k
      have a2:=zgr n a (row-1+k) (col-1) m
      have a3:=hn9 k (min (col+2) n-(col-1)) (by omega) (by omega)
      exact lt_of_le_of_lt (le_trans (Nat.add_le_add (le_trans a1 a3) (le_trans a2 (show m<=5 by omega))) (by decide:25+5<=64)) (by decide)
     ·rw [zj (zh e hd)]
      exact s3 _ _ e
     ·have e2:pV (Qm n a (row-1) k (col-1) (min (col+2) n-(col-1))++zcF n a (row-1+k) (col-1) (m+1))=pV (Qm n a (row-1) k (col-1) (min (col+2) n-(col-1))++zcF n a (row-1+k) (col-1) m)++[V.int (((row-1+k:Nat):Int)*((n:Nat):Int)+((col-1+m:Nat):Int))]:=by
       rw [ev,e1,<- append_assoc]
       unfold pV
       rw [map_append (l₂:=[_])]
       rfl
      rw [zc,e2]
    ·rw [if_neg hp,append_nil] at e1
     refine yk (hb.trans (Bool.eq_false_iff.mpr hp)) ?_
     exact⟨_,rfl,s3,by rw [e1];exact hd2⟩
   ·rintro σ H2 ⟨v7,rfl,s3,hd2⟩
    rw [show (((min (col+2) n:Nat):Int)-((col-1:Nat):Int)).toNat=min (col+2) n-(col-1) by omega] at hd2
    refine⟨_,_,rfl,s3,?_⟩
    rw [zcG]
    exact hd2
  ·rintro σ H1 ⟨v6,v7,rfl,s2,hd1⟩
   rw [show (((min (row+2) R:Nat):Int)-((row-1:Nat):Int)).toNat=min (row+2) R-(row-1) by omega,<- hr0,<- hc0,zlD hR hn ha] at hd1
   exact⟨_,rfl,q d H1 (s0.free hd) hd1 (s0.trans s2)⟩
end
noncomputable def cV (ts:List Nat):List V:=ts.map fun c=>V.str ⟨#[c]⟩
noncomputable def sg4:List Nat:=[46,63,111,35]
def QD (c:Nat):Bool:=decide (c=63) || decide (c=111)
theorem zcI (ts:List Nat):(cV ts).length=ts.length:=length_map _
theorem zhC (ts:List Nat)(j c:Nat):(cV ts).set j (V.str ⟨#[c]⟩)=cV (ts.set j c):=by
 unfold cV
 rw [List.map_set]
theorem zgs {ts:List Nat}{j:Nat}(h:j<ts.length):(cV ts)[j]?=some (V.str ⟨#[ts.getD j 0]⟩):=by
 unfold cV
 rw [getElem?_map,getElem?_eq_getElem h,getD_eq_getElem?_getD,getElem?_eq_getElem h]
 rfl
theorem getD_mem {ts:List Nat}{j:Nat}(h:j<ts.length):ts.getD j 0∈ts:=by
 rw [getD_eq_getElem?_getD,getElem?_eq_getElem h]
 exact getElem_mem h
theorem xA (p:Nat->Bool)(c:Nat):∀(ts:List Nat) (j:Nat),(ts.set j c).countP p<=ts.countP p+if p c=true then 1 else 0
 | [],_=>zero_le _
 | t::r,0=>by
  show (c::r).countP p<=_
  rw [countP_cons,countP_cons]
  omega
 | t::r,j+1=>by
  have:=xA p c r j
  show (t::r.set j c).countP p<=_
  rw [countP_cons,countP_cons]
  omega
theorem mem_set {c:Nat}{S:List Nat}(hc:c∈S){ts:List Nat}(h:∀x∈ts,x∈S)(j:Nat):∀x∈ts.set j c,x∈S:=fun x hx=>by
 rcases List.mem_or_eq_of_mem_set hx with h1 | h1
 ·exact h x h1
 ·rw [h1]
  exact hc
theorem znY (n:Nat):(replicate n [V.str "."]).flatten=cV (replicate n 46):=by
 induction n with
 | zero=>rfl
 | succ n ih =>
  rw [replicate_succ,flatten_cons,ih]
  have:(".":Str)=⟨#[46]⟩:=by decide +kernel
  rw [this]
  rfl
theorem zlE:(".":Str)=⟨#[46]⟩:=by decide +kernel
theorem zmF:("#":Str)=⟨#[35]⟩:=by decide +kernel
theorem znZ:("o":Str)=⟨#[111]⟩:=by decide +kernel
theorem zmG (x:Int):∃c:Nat,atI [V.str "?",V.str "o"] (x%2)=some (V.str ⟨#[c]⟩)/\c∈sg4:=by
 have h:x%2=0\/x%2=1:=by omega
 rw [ZW,znZ]
 rcases h with h | h<;>rw [h]
 ·exact⟨63,rfl,by decide⟩
 ·exact⟨111,rfl,by decide⟩
theorem Z9 {x:Int}{M:Nat}(h:0<M):0<=x%(M:Int)/\x%(M:Int)<(M:Int):=⟨Int.emod_nonneg _ (by omega),Int.emod_lt_of_pos _ (by omega)⟩
def zoP (K:PySem.W.Frag):Sp:=fun vs H Q _=>∃(a:Addr) (ns:List Int) (st:Int) (R n:Nat),vs=[.ref a,.int st,.int (R:Nat),.int (n:Nat)]/\SqL K H a (ns.map V.int)/\0<=st/\1<=R/\R<=5/\1<=n/\n<=5 /\
 ∀(d:Addr) (ts:List Nat) (H':Hp),H d=none->H' d=some (.lst (cV ts))->ts.length=R*n->(∀c∈ts,c∈sg4)->ts.countP QD<=10->zw H H'->Q (.ref d) H'
section
variable {P:Program}{w:World}{K:PySem.W.Frag}{mg:Str->Option Value}{base:Heap}{f:Addr}{fd:FuncData}
theorem jf:zL ["_law_script","_law_start","_law_rows","_law_columns","_law_many","_law_signs_here","_law_k","_law_cell","_law_holes"] ["_law_script","_law_start","_law_rows","_law_columns"] (zg JS):=⟨rfl,rfl,rfl,by decide +kernel,rfl,by decide +kernel,by decide +kernel⟩
theorem zeZ (T:Txt mg)(Z:Prog K mg)(D:zo K mg "_law_signs" JS ["_law_script","_law_start","_law_rows","_law_columns"] f fd):zH P w K mg base CX0 2 f fd ["_law_script","_law_start","_law_rows","_law_columns"] (zoP K):=by
 obtain⟨ji,qV,zk⟩:=Z.law_cell_at
 have zZ:zH P w K mg base CX0 1 ji qV ["_law_script","_law_k"] (zb9 K):=yI T zk
 refine D.F.ok jf (fun vs H Q E h=>?_) (fun cdv A outer s H vs Q E hr h=>?_)
 ·obtain⟨a,ns,st,R,n,rfl,_⟩:=h
  rfl
 ·obtain⟨a,ns,st,R,n,rfl,hS,st0,r1,r5,n1,n5,q⟩:=h
  have m1:0<R*n:=Nat.mul_pos (by omega) (by omega)
  have m25:R*n<=5*5:=mul_le_mul r5 n5
  refine⟨_,(zd (zB (i:=4) jf.nd rfl (Or.inl rfl) (zD yf (pv 2) (pv 3)))
   (zd (zB (i:=5) jf.nd rfl (Or.inl rfl) (zD zgR (qu (za qQ zb)) (pv 4)))
   (zd (qo PassesOwn.never rfl (qH (by rfl) T.qW (za (zD jO (zD jB (zp zZ (hr.mono (by decide)) (by rfl) zk.g zk.F.kp zk.b .nil zI (za (pv 0) (za (pv 1) zb))) zq) zq) zb)) (zm (i:=6) jf.nd rfl (Or.inl rfl)) (zd (zB (i:=7) jf.nd rfl (Or.inl rfl) (zp zZ (hr.mono (by decide)) (by rfl) zk.g zk.F.kp zk.b .nil zI (za (pv 0) (za (zD qp (zD qp (pv 1) zq) (pv 6)) zb))))
   (zf (zbG (qx ju (qu (za qQ (za qQ zb))) (zD jO (zD jB (pv 7) (pv 4)) zq) (fun _ _=>rfl)) (zgM (pv 5) (zD jO (pv 7) (pv 4)) set_list)))))
   (zd (zB (i:=8) jf.nd rfl (Or.inl rfl) (zD jB (zp zZ (hr.mono (by decide)) (by rfl) zk.g zk.F.kp zk.b .nil zI (za (pv 0) (za (zD qp (pv 1) zq) zb))) zq))
   (zd (qo PassesOwn.never rfl (qH (by rfl) T.qW (za (zD jO (zp zZ (hr.mono (by decide)) (by rfl) zk.g zk.F.kp zk.b .nil zI (za (pv 0) (za (zD qp (pv 1) zq) zb))) zq) zb)) (zm (i:=6) jf.nd rfl (Or.inl rfl)) (QZ (jA (zQ Js (qx ju (pv 5) (zD jO (pv 8) (pv 4)) (fun _ _=>rfl)) qQ (qc _)) (zf (zbG qQ (zgM (pv 5) (zD jO (pv 8) (pv 4)) set_list))) qk)
   (zf (zB (i:=8) jf.nd rfl (Or.inl rfl) (zD jB (pv 8) (pv 4))))))
   (zf (zO (pv 5)))))))),?_⟩
  refine⟨_,rfl,_,rfl,_,_,rfl,rfl,zcW (by omega) (by omega),?_⟩
  show xU 4 (V.int ((R*n:Nat):Int)) _ _ _
  generalize hM:R*n=M at *
  refine⟨(by show 1<=sizeLine;decide),fun l0 hl0=>?_⟩
  have s0:=ze (o:=.lst [.str "."]) hl0
  refine⟨_,rfl,l0,_,_,rfl,rfl,zc,by omega,by omega,?_,fun d hd=>?_⟩
  ·exact le_trans (show 1*((M:Nat):Int).toNat<=120 by omega) (by decide)
  rw [toNat_natCast,znY]
  have s1:=s0.trans (ze (o:=.lst (cV (replicate M 46))) hd)
  have hd0:H d=none:=s0.free hd
  have hd1:upd (upd H l0 (.lst [.str "."])) d (.lst (cV (replicate M 46))) d=some (.lst (cV (replicate M 46))):=zc
  generalize upd (upd H l0 (.lst [.str "."])) d (.lst (cV (replicate M 46)))=H1 at *
  refine⟨_,rfl,_,rfl,a,ns,_,rfl,s1.seq hS,st0,fun c0=>⟨_,_,rfl,rfl,Ju.small (by decide) (by decide),_,_,rfl,rfl,(by show (0:Int)<11;decide),?_⟩⟩
  obtain⟨k0,k1⟩:=Z9 (x:=c0/64) (M:=11) (by decide)
  refine⟨_,rfl,by omega,by omega,?_⟩
  refine qz (lo:=0) (n:=(c0/64%11).toNat) (fun i σ H'=>∃(ts:List Nat) (v6 v7:Option V),σ=[some (.ref a),some (.int st),some (.int (R:Nat)),some (.int (n:Nat)),some (.int (M:Nat)),some (.ref d),v6,v7,none]/\zw H H'/\H' d=some (.lst (cV ts))/\ts.length=M/\(∀c∈ts,c∈sg4)/\ts.countP QD<=i)
   ⟨replicate M 46,_,_,rfl,s1,hd1,List.length_replicate,fun c hc=>by rw [(List.mem_replicate.mp hc).2];decide,by rw [List.countP_replicate];simp [QD]⟩ ?_ ?_
  ·rintro i σ H2 hi ⟨ts,v6,v7,rfl,s2,hd2,tl,tm,tc⟩
   refine⟨_,rfl,_,rfl,_,_,rfl,rfl,_,rfl,_,_,rfl,rfl,a,ns,_,rfl,s2.seq hS,by omega,fun c=>?_⟩
   obtain⟨e0,e1⟩:=Z9 (x:=c) (M:=M) m1
   obtain⟨ch,hch,hc4⟩:=zmG (c/(M:Int))
   refine⟨(by show 2<=sizeLine;decide),fun ml hml=>?_⟩
   have z3:=ze (o:=.lst [.str "?",.str "o"]) hml
   refine⟨_,rfl,_,rfl,_,_,rfl,rfl,Ju.small (by omega) (by omega),_,_,rfl,rfl,(by show (0:Int)<2;decide),ml,_,_,_,rfl,rfl,SqL.of zc,hch,?_⟩
   refine⟨_,rfl,_,rfl,_,rfl,_,_,rfl,rfl,(by omega),d,_,_,_,rfl,rfl,z3 _ _ hd2,zcl e0 (by rw [zcI,tl];exact e1),?_⟩
   refine⟨ts.set (c%(M:Int)).toNat ch,_,_,rfl,fun b o e=>?_,?_,?_,mem_set hc4 tm _,?_⟩
   ·rw [zj (zh e hd0)]
    exact z3 _ _ (s2 _ _ e)
   ·rw [zc,zhC]
   ·rw [List.length_set,tl]
   ·refine le_trans (xA QD ch ts _) ?_
    split<;>omega
  rintro σ H2 ⟨ts,v6,v7,rfl,s2,hd2,tl,tm,tc⟩
  have tc10:ts.countP QD<=10:=by omega
  refine⟨_,rfl,_,rfl,_,_,rfl,rfl,a,ns,_,rfl,s2.seq hS,by omega,fun c1=>⟨_,_,rfl,rfl,Ju.small (by decide) (by decide),?_⟩⟩
  refine⟨_,rfl,_,rfl,_,_,rfl,rfl,a,ns,_,rfl,s2.seq hS,by omega,fun c2=>⟨_,_,rfl,rfl,(by show (0:Int)<4;decide),?_⟩⟩
  obtain⟨h0,h1⟩:=Z9 (x:=c2) (M:=4) (by decide)
  refine⟨_,rfl,by omega,by omega,?_⟩
  refine qz (lo:=0) (n:=(c2%4).toNat) (fun i σ H'=>∃(ts:List Nat) (v6 v7:Option V) (ho:Int),σ=[some (.ref a),some (.int st),some (.int (R:Nat)),some (.int (n:Nat)),some (.int (M:Nat)),some (.ref d),v6,v7,some (.int ho)]/\zw H H'/\H' d=some (.lst (cV ts))/\ts.length=M/\(∀c∈ts,c∈sg4)/\ts.countP QD<=10)
   ⟨ts,_,_,_,rfl,s2,hd2,tl,tm,tc10⟩ ?_ ?_
  ·rintro i σ H3 hi ⟨us,w6,w7,ho,rfl,s3,hd3,ul,um,uc⟩
   obtain⟨e0,e1⟩:=Z9 (x:=ho) (M:=M) m1
   have jl:(ho%(M:Int)).toNat<us.length:=by omega
   refine⟨fun σ' H'=>∃(ts:List Nat),σ'=[some (.ref a),some (.int st),some (.int (R:Nat)),some (.int (n:Nat)),some (.int (M:Nat)),some (.ref d),some (.int (0+(i:Int))),w7,some (.int ho)]/\zw H H'/\H' d=some (.lst (cV ts))/\ts.length=M/\(∀c∈ts,c∈sg4)/\ts.countP QD<=10,?_,?_⟩
   ·refine⟨_,rfl,_,rfl,_,rfl,_,_,rfl,rfl,(by omega),d,_,_,_,rfl,rfl,SqL.of hd3,jJ e0 (zgs jl),rfl,_,rfl,zeo (fun hc=>?_) (fun _=>?_)⟩
    ·refine⟨_,rfl,_,rfl,_,rfl,_,_,rfl,rfl,(by omega),d,_,_,_,rfl,rfl,hd3,zcl e0 (by rw [zcI,ul];exact e1),?_⟩
     refine⟨us.set (ho%(M:Int)).toNat 35,rfl,fun b o e=>?_,?_,?_,mem_set (by decide) um _,?_⟩
     ·rw [zj (zh e hd0)]
      exact s3 _ _ e
     ·rw [zc,zmF,zhC]
     ·rw [List.length_set,ul]
     ·refine le_trans (xA QD 35 us _) ?_
      rw [if_neg (by decide)]
      exact uc
    ·exact⟨us,rfl,s3,hd3,ul,um,uc⟩
   rintro σ' H4 ⟨ts',rfl,s4,hd4,tl4,tm4,tc4⟩
   exact⟨_,rfl,_,rfl,_,_,rfl,rfl,Ju.small (by omega) (by omega),ts',_,_,_,rfl,s4,hd4,tl4,tm4,tc4⟩
  rintro σ H3 ⟨us,w6,w7,ho,rfl,s3,hd3,ul,um,uc⟩
  exact⟨_,rfl,q d us H3 hd0 hd3 ul um uc s3⟩
end
theorem ZD:bd.cps.toList=[63,48,49,50,51,52,53,54,55,56,35]:=by decide +kernel
def zoQ:Sp:=fun vs H Q _=>∃(l:Addr) (ts:List Nat) (R n:Nat),vs=[.ref l,.int (R:Nat),.int (n:Nat)]/\H l=some (.lst (cV ts))/\ts.length=R*n/\(∀c∈ts,c∈sg4)/\ts.countP QD<=10/\1<=R/\R<=5/\1<=n/\n<=5 /\
 ∀(d:Addr) (us:List Nat) (H':Hp),H d=none->H' d=some (.lst (cV us))->us.length=R*n->(∀c∈us,c∈bd.cps.toList)->us.countP qJ<=10->zw H H'->Q (.ref d) H'
theorem zjU {c:Nat}(h:c∈sg4):c=46\/c=63\/c=111\/c=35:=by
 simpa [sg4] using h
theorem zcJ {m:Nat}(h:m<=8):48+m∈bd.cps.toList:=by
 rw [ZD]
 have:∀m∈List.range 9,48+m ∈ [63,48,49,50,51,52,53,54,55,56,35]:=by decide
 exact this m (List.mem_range.mpr (by omega))
theorem zd8 {m:Nat}(h:m<=8):V.str (toString ((m:Nat):Int))=V.str ⟨#[48+m]⟩:=by
 have:=zk5 (k:=48+m) (by omega) (by omega)
 rwa [show (((48+m:Nat):Int)-48)=((m:Nat):Int) by omega] at this
theorem zlF {xs:List Nat}{i:Nat}{v:V}(h:(pV xs)[i]?=some v):∃x,xs[i]?=some x/\v=.int ((x:Nat):Int):=by
 unfold pV at h
 rw [getElem?_map] at h
 cases e:xs[i]? with
 | none=>rw [e] at h;cases h
 | some x =>
  rw [e] at h
  cases h
  exact⟨x,rfl,rfl⟩
theorem JY (c k:Nat):decide (V.str ⟨#[c]⟩=V.str ⟨#[k]⟩)=decide (c=k):=decide_eq_decide.mpr (by rw [Qw])
section
variable {P:Program}{w:World}{K:PySem.W.Frag}{mg:Str->Option Value}{base:Heap}{f:Addr}{fd:FuncData}
theorem j8:zL ["_law_signs_here","_law_rows","_law_columns","_law_found","_law_at","_law_sign"] ["_law_signs_here","_law_rows","_law_columns"] (zg xH):=⟨rfl,rfl,rfl,by decide +kernel,rfl,by decide +kernel,by decide +kernel⟩
theorem ze0 (T:Txt mg)(Z:Prog K mg)(D:zo K mg "_law_texts" xH ["_law_signs_here","_law_rows","_law_columns"] f fd):zH P w K mg base CX0 2 f fd ["_law_signs_here","_law_rows","_law_columns"] zoQ:=by
 obtain⟨QE,YF,jz⟩:=Z.law_near
 have QF:zH P w K mg base CX0 1 QE YF ["_law_at","_law_rows","_law_columns"] zeY:=zbg T jz
 refine D.F.ok j8 (fun vs H Q E h=>?_) (fun cdv A outer s H vs Q E hr h=>?_)
 ·obtain⟨l,ts,R,n,rfl,_⟩:=h
  rfl
 ·obtain⟨l,ts,R,n,rfl,hl,tl,tm,tc,r1,r5,n1,n5,q⟩:=h
  have m25:R*n<=5*5:=mul_le_mul r5 n5
  refine⟨_,(zd (zB (i:=3) j8.nd rfl (Or.inl rfl) (qu zb))
   (zd (qo PassesOwn.never rfl (qH (by rfl) T.qW (za (zD yf (pv 1) (pv 2)) zb)) (zm (i:=4) j8.nd rfl (Or.inl rfl)) (zd (zB (i:=5) j8.nd rfl (Or.inl rfl) (qx ju (pv 0) (pv 4) (fun _ _=>rfl)))
   (QZ (jA (zQ Js (pv 5) qQ (qc _)) (zf (zB (i:=5) j8.nd rfl (Or.inl rfl) (jk QO (by rfl) T.zmU PyProof.Rows.boot_str (za (zx zG (by rfl) T.jd PySem.boot_len (za (qm (N:=["_law_one_here","_law_signs_here"]) (src:=[none,some 0]) (zW.free (O:=(zg xH).names) (XN:=["_law_signs_here","_law_rows","_law_columns","_law_found","_law_at","_law_sign"]) rfl rfl ⟨_,rfl⟩ rfl rfl (by decide +kernel) (by decide +kernel) (by decide +kernel) rfl (by decide +kernel)) rfl (zT (zp QF (hr.mono (by decide)) (by rfl) jz.g jz.F.kp jz.b .nil zI (za (pv 4) (za (pv 1) (za (pv 2) zb))))) (fun _ _ _ _ _=>(zm (i:=0) (by show List.Nodup (["_law_one_here","_law_signs_here"]:List Str);decide +kernel) rfl (Or.inl rfl))) (fun _ _ _ _ _=>(qE (zQ Js (qx (Q0 (K:=K) (by rfl)) (pv 1) (pv 0) (fun _ _=>rfl)) qQ (qc _)))) (fun _ _ _ _ _=>(pv 0))) zb)) zb)))) qk)
   (QZ (jA (zQ Js (pv 5) qQ (qc _)) (zf (zB (i:=5) j8.nd rfl (Or.inl rfl) qQ)) qk)
   (zf (yE (Jt PySem.F.plainAttrs_list PySem.F.slot_list_append PySem.F.type_list_append qY (pv 3) (za (pv 5) zb))))))))
   (zf (zO (pv 3))))),?_⟩
  refine⟨(by show 0<=sizeLine;decide),fun d hd=>?_⟩
  have s0:zw H (upd H d (.lst [])):=ze hd
  have em:(((R:Nat):Int)*((n:Nat):Int))=((R*n:Nat):Int):=(natCast_mul R n).symm
  refine⟨_,rfl,_,rfl,_,_,rfl,rfl,zcW (by omega) (by omega),_,rfl,by omega,by omega,?_⟩
  refine qz (lo:=0) (n:=(((R:Nat):Int)*((n:Nat):Int)).toNat) (fun i σ H'=>∃(us:List Nat) (v4 v5:Option V),σ=[some (.ref l),some (.int (R:Nat)),some (.int (n:Nat)),some (.ref d),v4,v5]/\zw H H'/\H' d=some (.lst (cV us))/\us.length=i/\(∀c∈us,c∈bd.cps.toList)/\us.countP qJ<=(ts.take i).countP QD)
   ⟨[],_,_,rfl,s0,zc,rfl,(fun _ h=>nomatch h),zero_le _⟩ ?_ ?_
  ·rintro i σ H1 hi ⟨us,v4,v5,rfl,s1,hd1,ul,um,uc⟩
   have iM:i<R*n:=by omega
   have jl:i<ts.length:=by omega
   have c4:=tm _ (getD_mem jl)
   have tk:(ts.take (i+1)).countP QD=(ts.take i).countP QD+if QD (ts.getD i 0)=true then 1 else 0:=by
    rw [take_add_one,countP_append,getElem?_eq_getElem jl,getD_eq_getElem?_getD,getElem?_eq_getElem jl]
    show _+List.countP QD [_]=_
    rw [countP_cons,List.countP_nil,zero_add]
    rfl
   rw [show (0:Int)+(i:Nat)=((i:Nat):Int) by omega]
   refine⟨_,rfl,_,rfl,l,_,_,_,rfl,rfl,SqL.of (s1 _ _ hl),jJ (by omega) (by rw [toNat_natCast];exact zgs jl),?_⟩
   generalize hc:ts.getD i 0=c at *
   refine⟨fun σ' H'=>∃(k:Nat),σ'=[some (.ref l),some (.int (R:Nat)),some (.int (n:Nat)),some (.ref d),some (.int ((i:Nat):Int)),some (.str ⟨#[k]⟩)]/\zw H1 H'/\(c=46->48<=k/\k<=56)/\(c≠46->k=c),?_,?_⟩
   ·refine⟨_,rfl,rfl,_,rfl,zeo (fun hx=>?_) (fun hx=>?_)⟩
    ·rw [zlE,JY] at hx
     have e46:c=46:=of_decide_eq_true hx
     refine⟨_,rfl,_,rfl,_,rfl,i,R,n,rfl,r5,n1,n5,iM,fun np H2 hnp zoR s2=>⟨np,rfl,⟨_,SqL.of zoR⟩,fun z hz=>?_⟩⟩
     refine qA (K:=K) (a:=np) (xs:=pV (xW R n i)) (fun j σ' H'=>∃(u0:Option V) (ys:List V),σ'=[u0,some (.ref l)]/\zw H2 H'/\H' z=some (.lst ys)/\ys.length<=j)
      ⟨_,[],rfl,ze hz,zc,zero_le _⟩ (fun j σ' H' _ ⟨_,_,_,y,_⟩=>SqL.of (y _ _ zoR)) ?_ ?_
     ·rintro j v σ' H3 hv ⟨u0,ys,rfl,s3,hz3,yl⟩
      obtain⟨x,hx',rfl⟩:=zlF hv
      have xm:=List.mem_range.mp (List.mem_filter.mp (mem_of_getElem? hx')).1
      have jn:=(List.getElem?_eq_some_iff.mp hx').1
      have n8:=zcH r5 n5 iM
      refine⟨_,rfl,_,rfl,l,_,_,_,rfl,rfl,SqL.of (s3 _ _ (s2 _ _ (s1 _ _ hl))),jJ (by omega) (by rw [toNat_natCast];exact zgs (j:=x) (by omega)),rfl,_,rfl,zeo (fun _=>?_) (fun _=>?_)⟩
      ·refine⟨_,rfl,_,hz3,lt_of_le_of_lt (show _<=64 by omega) (by decide),_,_,rfl,fun b o e=>?_,zc,?_⟩
       ·rw [zj (zh e hz)]
        exact s3 _ _ e
       ·rw [length_append]
        show _+1<=_
        omega
      ·exact⟨_,ys,rfl,s3,hz3,by omega⟩
     rintro σ' H3 ⟨u0,ys,rfl,s3,hz3,yl⟩
     have n8:=zcH r5 n5 iM
     have y8:ys.length<=8:=by
      unfold pV at yl
      rw [length_map] at yl
      omega
     refine⟨z,ys,rfl,.inl (SqL.of hz3),_,rfl,?_,?_⟩
     ·show (((ys.length:Nat):Int).natAbs).log2<1920
      rw [Int.natAbs_natCast]
      exact lt_of_le_of_lt (Nat.log2_le_self _) (by omega)
     ·exact⟨48+ys.length,congrArg (fun v=>[some (V.ref l),some (.int (R:Nat)),some (.int (n:Nat)),some (.ref d),some (.int ((i:Nat):Int)),some v]) (zd8 y8),s2.trans s3,fun _=>by omega,fun h=>absurd e46 h⟩
    ·rw [zlE,JY] at hx
     have e46:c≠46:=fun e=>hx (decide_eq_true e)
     exact⟨c,rfl,zw.refl _,fun e=>absurd e e46,fun _=>rfl⟩
   rintro σ' H2 ⟨k,rfl,s2,k1,k2⟩
   refine⟨fun σ' H'=>σ'=[some (.ref l),some (.int (R:Nat)),some (.int (n:Nat)),some (.ref d),some (.int ((i:Nat):Int)),some (.str ⟨#[if k=111 then 63 else k]⟩)]/\H'=H2,?_,?_⟩
   ·refine⟨_,rfl,rfl,_,rfl,zeo (fun hx=>?_) (fun hx=>?_)⟩
    ·rw [znZ,JY] at hx
     rw [if_pos (of_decide_eq_true hx)]
     exact⟨congrArg (fun v=>[some (V.ref l),some (.int (R:Nat)),some (.int (n:Nat)),some (.ref d),some (.int ((i:Nat):Int)),some (V.str v)]) ZW,rfl⟩
    ·rw [znZ,JY] at hx
     rw [if_neg fun e=>hx (decide_eq_true e)]
     exact⟨rfl,rfl⟩
   rintro σ' H3 ⟨rfl,rfl⟩
   have kk:(if k=111 then 63 else k)∈bd.cps.toList/\(if qJ (if k=111 then 63 else k)=true then 1 else 0)<=(if QD c=true then 1 else 0):=by
    rcases zjU c4 with e | e | e | e
    ·obtain⟨a1,a2⟩:=k1 e
     rw [if_neg (by omega),show k=48+(k-48) by omega]
     refine⟨zcJ (by omega),?_⟩
     rw [if_neg (by unfold qJ;rw [decide_eq_true_eq];omega)]
     exact zero_le _
    ·rw [k2 (by omega),e]
     exact⟨by rw [ZD];decide,by decide⟩
    ·rw [k2 (by omega),e]
     exact⟨by rw [ZD];decide,by decide⟩
    ·rw [k2 (by omega),e]
     exact⟨by rw [ZD];decide,by decide⟩
   generalize (if k=111 then 63 else k)=k' at *
   have hd3:=s2 _ _ hd1
   refine⟨_,rfl,.inl ⟨rfl,_,SqL.of hd3⟩,_,rfl,d,_,_,rfl,rfl,hd3,?_,us++[k'],_,_,rfl,fun b o e=>?_,?_,?_,fun x hx=>?_,?_⟩
   ·rw [zcI,ul]
    exact lt_of_lt_of_le (show i<64 by omega) (by decide)
   ·rw [zj (zh e hd)]
    exact s2 _ _ (s1 _ _ e)
   ·rw [zc]
    unfold cV
    rw [map_append]
    rfl
   ·rw [length_append,ul]
    rfl
   ·rcases List.mem_append.mp hx with hx | hx
    ·exact um x hx
    ·have:x=k':=by simpa using hx
     rw [this]
     exact kk.1
   ·rw [countP_append,tk]
    refine Nat.add_le_add uc ?_
    rw [countP_cons,List.countP_nil,zero_add]
    exact kk.2
  ·rintro σ H1 ⟨us,v4,v5,rfl,s1,hd1,ul,um,uc⟩
   rw [em,toNat_natCast] at ul
   refine⟨_,rfl,q d us H1 hd hd1 ul um (le_trans uc (le_trans (take_sublist _ ts).countP_le tc)) s1⟩
end
theorem ziM:("0":Str)=⟨#[48]⟩:=by decide +kernel
theorem zcK (a b:Str):(a++b).cps.toList=a.cps.toList++b.cps.toList:=by
 have e:(a++b).cps=a.cps++b.cps:=rfl
 rw [e,toList_append]
theorem zd9 (p:Nat->Bool)(i:Nat):∀(j:Nat) (t:List Nat),(Cells.z4 p i j t).length=t.countP p
 | _,[]=>rfl
 | j,c::r=>by
  rw [Cells.z4,length_append,zd9 p i (j+1) r,countP_cons]
  split<;>simp<;>omega
theorem zea (p:Nat->Bool):∀(i:Nat) (gs:List (List Nat)),(Cells.zP p i gs).length=gs.flatten.countP p
 | _,[]=>rfl
 | i,t::r=>by rw [Cells.zP,length_append,zd9,zea p (i+1) r,flatten_cons,countP_append]
theorem zeb (rs:List Str):(qb rs).length=(codes rs).flatten.countP qJ:=zea qJ 0 (codes rs)
theorem zhD (rs:List Str)(t:Str):(codes (rs++[t])).flatten=(codes rs).flatten++t.cps.toList:=by
 unfold codes
 rw [map_append,flatten_append]
 simp
theorem zn0 (x:Int):∃c:Nat,atI ("??#012345678":Str).cps.toList (x%12)=some c/\c∈bd.cps.toList:=by
 have e:("??#012345678":Str).cps.toList=[63,63,35,48,49,50,51,52,53,54,55,56]:=by decide +kernel
 rw [e,ZD]
 have a0:=Int.emod_nonneg x (show (12:Int)≠0 by decide)
 have a1:=Int.emod_lt_of_pos x (show (0:Int)<12 by decide)
 have t:∀m∈List.range 12,((atI [63,63,35,48,49,50,51,52,53,54,55,56] ((m:Nat):Int)).any fun c=>[63,48,49,50,51,52,53,54,55,56,35].contains c)=true:=by decide +kernel
 have h:=t (x%12).toNat (List.mem_range.mpr (by omega))
 rw [toNat_of_nonneg a0] at h
 cases ha:atI [63,63,35,48,49,50,51,52,53,54,55,56] (x%12) with
 | none =>
  rw [ha] at h
  cases h
 | some c =>
  rw [ha] at h
  exact⟨c,rfl,List.contains_iff_mem.mp h⟩
def zm1 (K:PySem.W.Frag):Sp:=fun vs H Q _=>∃(a:Addr) (ns:List Int) (st:Int) (R n:Nat),vs=[.ref a,.int st,.int (R:Nat),.int (n:Nat)]/\SqL K H a (ns.map V.int)/\0<=st/\1<=R/\R<=5/\1<=n/\n<=5 /\
 ∀(p l:Addr) (rs:List Str) (c:Int) (H':Hp),qf H' p l rs c->rs.length=R->(∀t∈rs,Row bd.cps.toList n t)->(qb rs).length<=10->0<=c->c<=64->zw H H'->Q (.ref p) H'
section
variable {P:Program}{w:World}{K:PySem.W.Frag}{mg:Str->Option Value}{base:Heap}{f:Addr}{fd:FuncData}
theorem qL:zL ["_law_script","_law_start","_law_rows","_law_columns","_law_texts_here","_law_shut","_law_row","_law_number","_law_text","_law_column","_law_sign"] ["_law_script","_law_start","_law_rows","_law_columns"] (zg YZ):=⟨rfl,rfl,rfl,by decide +kernel,rfl,by decide +kernel,by decide +kernel⟩
theorem zhE (T:Txt mg)(Z:Prog K mg)(D:zo K mg "_law_dug" YZ ["_law_script","_law_start","_law_rows","_law_columns"] f fd):zH P w K mg base CX0 2 f fd ["_law_script","_law_start","_law_rows","_law_columns"] (zm1 K):=by
 obtain⟨ji,qV,zk⟩:=Z.law_cell_at
 have zZ:zH P w K mg base CX0 1 ji qV ["_law_script","_law_k"] (zb9 K):=yI T zk
 refine D.F.ok qL (fun vs H Q E h=>?_) (fun cdv A outer s H vs Q E hr h=>?_)
 ·obtain⟨a,ns,st,R,n,rfl,_⟩:=h
  rfl
 ·obtain⟨a,ns,st,R,n,rfl,hS,st0,r1,r5,n1,n5,q⟩:=h
  refine⟨_,(zd (zB (i:=4) qL.nd rfl (Or.inl rfl) (qu zb))
   (zd (zB (i:=5) qL.nd rfl (Or.inl rfl) zq)
   (zd (qo PassesOwn.never rfl (qH (by rfl) T.qW (za (pv 2) zb)) (zm (i:=6) qL.nd rfl (Or.inl rfl)) (zd (zB (i:=7) qL.nd rfl (Or.inl rfl) (zp zZ (hr.mono (by decide)) (by rfl) zk.g zk.F.kp zk.b .nil zI (za (pv 0) (za (zD qp (zD qp (pv 1) zq) (pv 6)) zb))))
   (zd (zB (i:=8) qL.nd rfl (Or.inl rfl) qQ)
   (zd (qo PassesOwn.never rfl (qH (by rfl) T.qW (za (pv 3) zb)) (zm (i:=9) qL.nd rfl (Or.inl rfl)) (zd (zB (i:=10) qL.nd rfl (Or.inl rfl) (qx Yp qQ (zD jO (pv 7) zq) (fun _ _=>rfl)))
   (zd (zB (i:=7) qL.nd rfl (Or.inl rfl) (zD jB (pv 7) zq))
   (QZ (jA (PW.pt (zej (zQ Js (pv 10) qQ (qc _)) (zbq (zQ Js (pv 5) zq (qc _))))) (zf (zB (i:=10) qL.nd rfl (Or.inl rfl) qQ)) qk)
   (zd (zB (i:=5) qL.nd rfl (Or.inl rfl) (zD qp (pv 5) (jk ziX (by rfl) T.zfW PyProof.Rows.boot_int (za (YR Js (pv 10) qQ (qc _)) zb))))
   (zf (zB (i:=8) qL.nd rfl (Or.inl rfl) (zD zgP (pv 8) (pv 10)))))))))
   (zf (yE (Jt PySem.F.plainAttrs_list PySem.F.slot_list_append PySem.F.type_list_append qY (pv 4) (za (pv 8) zb))))))))
   (zf (zO (yM (za (pv 4) (za (zD jO (zp zZ (hr.mono (by decide)) (by rfl) zk.g zk.F.kp zk.b .nil zI (za (pv 0) (za (zD qp (pv 1) zq) zb))) (zD qp (pv 5) zq)) zb)))))))),?_⟩
  refine⟨(by show 0<=sizeLine;decide),fun d hd=>?_⟩
  have s0:zw H (upd H d (.lst [])):=ze hd
  refine⟨_,rfl,_,rfl,by omega,by omega,?_⟩
  refine qz (lo:=0) (n:=((R:Nat):Int).toNat) (fun i σ H'=>∃(rs:List Str) (m:Nat) (v6 v7 v8 v9 v10:Option V),σ=[some (.ref a),some (.int st),some (.int (R:Nat)),some (.int (n:Nat)),some (.ref d),some (.int (m:Nat)),v6,v7,v8,v9,v10]/\zw H H'/\H' d=some (.lst (rs.map V.str))/\rs.length=i/\(∀t∈rs,Row bd.cps.toList n t)/\(codes rs).flatten.countP qJ=m/\m<=10)
   ⟨[],0,_,_,_,_,_,rfl,s0,zc,rfl,(fun _ h=>nomatch h),rfl,zero_le _⟩ ?_ ?_
  ·rintro i σ H1 hi ⟨rs,m,v6,v7,v8,v9,v10,rfl,s1,hd1,rl,rr,rc,m10⟩
   refine⟨_,rfl,_,rfl,_,_,rfl,rfl,_,rfl,_,_,rfl,rfl,a,ns,_,rfl,s1.seq hS,by omega,fun c=>?_⟩
   refine⟨_,rfl,_,rfl,by omega,by omega,?_⟩
   refine qz (lo:=0) (n:=((n:Nat):Int).toNat) (fun j σ H'=>∃(t:Str) (k:Nat) (x:Int) (v9 v10:Option V),σ=[some (.ref a),some (.int st),some (.int (R:Nat)),some (.int (n:Nat)),some (.ref d),some (.int (k:Nat)),some (.int (0+(i:Int))),some (.int x),some (.str t),v9,v10]/\H'=H1/\t.cps.toList.length=j/\(∀c∈t.cps.toList,c∈bd.cps.toList)/\m+t.cps.toList.countP qJ=k/\k<=10)
    ⟨"",m,c,_,_,rfl,rfl,rfl,(by intro c hc;cases hc),rfl,m10⟩ ?_ ?_
   ·rintro j σ H2 hj ⟨t,k,x,w9,w10,rfl,rfl,tl,tm,tk,k10⟩
    obtain⟨ch,hch,hcb⟩:=zn0 x
    refine⟨_,rfl,_,_,rfl,rfl,(by show (0:Int)<12;decide),_,_,ch,rfl,rfl,(by decide +kernel),hch,?_⟩
    refine⟨_,rfl,_,_,rfl,rfl,Ju.small (by decide) (by decide),?_⟩
    refine⟨fun σ' H'=>∃(e:Nat),σ'=[some (.ref a),some (.int st),some (.int (R:Nat)),some (.int (n:Nat)),some (.ref d),some (.int (k:Nat)),some (.int (0+(i:Int))),some (.int (x/12)),some (.str t),some (.int (0+(j:Int))),some (.str ⟨#[e]⟩)]/\H'=H2/\e∈bd.cps.toList/\(e=63->k<10),?_,?_⟩
    ·refine⟨_,rfl,rfl,_,rfl,?_⟩
     have hb:decide (V.str ⟨#[ch]⟩=V.str "?")=decide (ch=63):=by rw [ZW,JY]
     by_cases hq:ch=63
     ·refine yN (hb.trans (decide_eq_true hq)) ?_
      refine⟨_,rfl,rfl,_,rfl,?_⟩
      have hb2:decide (V.int ((k:Nat):Int)=V.int 10)=decide (k=10):=decide_eq_decide.mpr ⟨fun h=>by injection h with h;omega,fun h=>by rw [h];rfl⟩
      by_cases hk:k=10
      ·refine yN (hb2.trans (decide_eq_true hk)) ?_
       refine⟨48,congrArg (fun v:Str=>[some (V.ref a),some (.int st),some (.int (R:Nat)),some (.int (n:Nat)),some (.ref d),some (.int (k:Nat)),some (.int (0+(i:Int))),some (.int (x/12)),some (.str t),some (.int (0+(j:Int))),some (V.str v)]) ziM,rfl,zcJ (m:=0) (by decide),fun e=>by omega⟩
      ·refine yk (hb2.trans (decide_eq_false hk)) ?_
       exact⟨ch,rfl,rfl,hcb,fun _=>by omega⟩
     ·refine yk (hb.trans (decide_eq_false hq)) ?_
      exact⟨ch,rfl,rfl,hcb,fun e=>absurd e hq⟩
    rintro σ' H3 ⟨e,rfl,rfl,eb,e10⟩
    have hb:decide (V.str ⟨#[e]⟩=V.str "?")=decide (e=63):=by rw [ZW,JY]
    refine⟨_,rfl,_,rfl,rfl,.inr ⟨_,rfl,_,_,rfl,rfl,?_⟩⟩
    refine⟨_,rfl,_,rfl,_,_,rfl,rfl,?_,?_⟩
    ·show t.cps.size+1<=sizeLine
     have:t.cps.size=j:=by rw [<- tl,length_toList]
     exact le_trans (show _<=64 by omega) (by decide)
    ·have hv:V.int (((k:Nat):Int)+(if decide (V.str ⟨#[e]⟩=V.str "?")=true then 1 else 0))=V.int ((k+(if e=63 then 1 else 0):Nat):Int):=by
      rw [hb]
      by_cases h63:e=63
      ·rw [if_pos h63,decide_eq_true h63]
       rfl
      ·rw [if_neg h63,decide_eq_false h63]
       rfl
     refine⟨t++⟨#[e]⟩,k+(if e=63 then 1 else 0),x/12,some (.int (0+(j:Int))),some (.str ⟨#[e]⟩),congrArg (fun v:V=>[some (V.ref a),some (.int st),some (.int (R:Nat)),some (.int (n:Nat)),some (.ref d),some v,some (.int (0+(i:Int))),some (.int (x/12)),some (.str (t++⟨#[e]⟩)),some (.int (0+(j:Int))),some (.str ⟨#[e]⟩)]) hv,rfl,?_,fun c hc=>?_,?_,?_⟩
     ·rw [zcK,length_append,tl]
      rfl
     ·rw [zcK] at hc
      rcases List.mem_append.mp hc with hc | hc
      ·exact tm c hc
      ·have:c=e:=by simpa using hc
       rw [this]
       exact eb
     ·rw [zcK,countP_append,<- tk]
      have:List.countP qJ (⟨#[e]⟩:Str).cps.toList=if e=63 then 1 else 0:=by
       show List.countP qJ [e]=_
       rw [countP_cons,List.countP_nil,zero_add]
       unfold qJ
       by_cases h63:e=63
       ·rw [if_pos h63,if_pos (decide_eq_true h63)]
       ·rw [if_neg h63,if_neg (fun h=>h63 (of_decide_eq_true h))]
      rw [this]
      omega
     ·by_cases h63:e=63
      ·rw [if_pos h63]
       exact e10 h63
      ·rw [if_neg h63]
       exact k10
   rintro σ H2 ⟨t,k,x,w9,w10,rfl,rfl,tl,tm,tk,k10⟩
   rw [toNat_natCast] at tl
   refine⟨_,rfl,.inl ⟨rfl,_,SqL.of hd1⟩,_,rfl,d,_,_,rfl,rfl,hd1,?_,rs++[t],k,_,_,_,_,_,rfl,fun b o e=>?_,?_,?_,fun u hu=>?_,?_,k10⟩
   ·rw [length_map,rl]
    exact lt_of_lt_of_le (show i<64 by omega) (by decide)
   ·rw [zj (zh e hd)]
    exact s1 _ _ e
   ·rw [zc,map_append]
    rfl
   ·rw [length_append,rl]
    rfl
   ·rcases List.mem_append.mp hu with hu | hu
    ·exact rr u hu
    ·have:u=t:=by simpa using hu
     rw [this]
     exact⟨by rw [<- tl,length_toList],tm⟩
   ·rw [zhD,countP_append,rc,tk]
  rintro σ H1 ⟨rs,m,v6,v7,v8,v9,v10,rfl,s1,hd1,rl,rr,rc,m10⟩
  rw [toNat_natCast] at rl
  refine⟨_,rfl,_,rfl,_,rfl,_,_,rfl,rfl,a,ns,_,rfl,s1.seq hS,by omega,fun c=>⟨_,rfl,_,_,rfl,rfl,_,_,rfl,rfl,(by omega),(by show 2<=sizeLine;decide),fun p hp=>?_⟩⟩
  have z2:=ze (o:=.tup [.ref d,.int (c%(((m:Nat):Int)+2))]) hp
  have c0:=Int.emod_nonneg c (show ((m:Nat):Int)+2≠0 by omega)
  have c1:=Int.emod_lt_of_pos c (show 0<((m:Nat):Int)+2 by omega)
  exact q p d rs _ _ ⟨zc,z2 _ _ hd1⟩ rl rr (by rw [zeb,rc];exact m10) c0 (by omega) (s1.trans z2)
end
theorem zjV {u:Nat}(h:u∈bd.cps.toList)(k:(!(!(Builtin.Str.occurrences ("?#":Str) ⟨#[u]⟩ 0 ("?#":Str).length 1).isEmpty))=true):48<=u/\u<=56:=by
 have:∀u∈bd.cps.toList,(!(!(Builtin.Str.occurrences ("?#":Str) ⟨#[u]⟩ 0 ("?#":Str).length 1).isEmpty))=true->48<=u/\u<=56:=by decide +kernel
 exact this u h k
theorem join_one:∀ts:List Nat,(Str.join "" (ts.map fun c=>(⟨#[c]⟩:Str)))=⟨ts.toArray⟩
 | []=>rfl
 | [c]=>rfl
 | c::c'::r=>by
  have ih:=join_one (c'::r)
  show (⟨#[c]⟩:Str)++("":Str)++Str.join "" ((c'::r).map fun c=>(⟨#[c]⟩:Str))=_
  rw [ih]
  have e:((⟨#[c]⟩:Str)++("":Str))=⟨#[c]⟩:=by
   show (⟨#[c]++("":Str).cps⟩:Str)=_
   have:("":Str).cps=#[]:=by decide +kernel
   rw [this]
   rfl
  rw [e]
  show (⟨#[c]++(c'::r).toArray⟩:Str)=⟨(c::c'::r).toArray⟩
  congr 1
  apply Array.toList_inj.mp
  rw [toList_append]
  rfl
noncomputable def rowOf (us:List Nat)(n k:Nat):List Nat:=(us.drop (n*k)).take n
noncomputable def rowsOf (us:List Nat)(n R:Nat):List Str:=(List.range R).map fun k=>(⟨(rowOf us n k).toArray⟩:Str)
theorem ze1 (us:List Nat)(n R:Nat):codes (rowsOf us n R)=(List.range R).map (rowOf us n):=by
 unfold codes rowsOf
 rw [map_map]
 rfl
theorem zbh (us:List Nat)(n:Nat):∀R,((List.range R).map (rowOf us n)).flatten=us.take (n*R)
 | 0=>by simp
 | R+1=>by
  rw [range_succ,map_append,flatten_append,zbh us n R]
  show _++(rowOf us n R++[])=_
  rw [append_nil]
  unfold rowOf
  rw [Nat.mul_succ,List.take_add]
theorem zec {us:List Nat}{n R k:Nat}(h:us.length=R*n)(hk:k<R):(rowOf us n k).length=n:=by
 unfold rowOf
 rw [length_take,length_drop,h]
 have:n*k+n<=R*n:=by
  rw [<- Nat.mul_succ,mul_comm]
  exact Nat.mul_le_mul_right n hk
 omega
theorem zmH {us:List Nat}{n R k:Nat}(h:us.length=R*n)(hk:k<R):QU (cV us) (some (((n*k:Nat):Nat):Int)) (some (((n*k+n:Nat):Nat):Int))=cV (rowOf us n k):=by
 have:n*k+n<=R*n:=by
  rw [<- Nat.mul_succ,mul_comm]
  exact Nat.mul_le_mul_right n hk
 unfold QU rowOf
 rw [zcI,HT.zbr,HT.zbr,Nat.min_eq_left (by omega),Nat.min_eq_left (by omega),show n*k+n-n*k=n by omega]
 unfold cV
 rw [map_take,List.map_drop]
theorem zoS (x:Int):∃z:Int,atI [V.int 0,V.int 0,V.int 0,V.int 1,V.int (-1),V.int 0] (x%6)=some (.int z)/\z<=1:=by
 have a0:=Int.emod_nonneg x (show (6:Int)≠0 by decide)
 have a1:=Int.emod_lt_of_pos x (show (0:Int)<6 by decide)
 have t:∀m∈List.range 6,∃z ∈ [(0:Int),1,-1],atI [V.int 0,V.int 0,V.int 0,V.int 1,V.int (-1),V.int 0] ((m:Nat):Int)=some (.int z):=by decide +kernel
 obtain⟨z,h1,h2⟩:=t (x%6).toNat (List.mem_range.mpr (by omega))
 rw [toNat_of_nonneg a0] at h2
 have t2:∀z ∈ [(0:Int),1,-1],z<=1:=by decide
 exact⟨z,h2,t2 z h1⟩
structure Brd (rs:List Str):Prop where
 r1:1<=rs.length
 r5:rs.length<=5
 ex:∃n,1<=n/\n<=5/\∀t∈rs,Row bd.cps.toList n t
 sh:(qb rs).length<=10
theorem Brd.rows {rs:List Str}(B:Brd rs):Rows bd.cps.toList rs:=by
 obtain⟨n,h1,h2,h3⟩:=B.ex
 exact⟨B.r1,le_trans B.r5 (by decide),n,h1,by omega,h3⟩
def zoT (K:PySem.W.Frag):Sp:=fun vs H Q _=>∃(a:Addr) (ns:List Int) (st:Int),vs=[.ref a,.int st]/\SqL K H a (ns.map V.int)/\0<=st /\
 ∀(p l:Addr) (rs:List Str) (c:Int) (H':Hp),qf H' p l rs c->Brd rs->0<=c->c<=64->zw H H'->Q (.ref p) H'
section
variable {P:Program}{w:World}{K:PySem.W.Frag}{mg:Str->Option Value}{base:Heap}{f:Addr}{fd:FuncData}
theorem qD:zL ["_law_script","_law_start","_law_head","_law_rows","_law_columns","_law_bent","_law_signs_here","_law_told","_law_stones","_law_at","_law_texts_here"] ["_law_script","_law_start"] (zg xJ):=⟨rfl,rfl,rfl,by decide +kernel,rfl,by decide +kernel,by decide +kernel⟩
theorem ze2 (T:Txt mg)(Z:Prog K mg)(D:zo K mg "_law_board" xJ ["_law_script","_law_start"] f fd):zH P w K mg base CX0 3 f fd ["_law_script","_law_start"] (zoT K):=by
 obtain⟨ji,qV,zk⟩:=Z.law_cell_at
 obtain⟨zgt,ze3,JZ⟩:=Z.law_signs
 obtain⟨zgu,ze4,J0⟩:=Z.law_texts
 obtain⟨zjW,zhF,Qa⟩:=Z.law_dug
 have zZ:zH P w K mg base CX0 1 ji qV ["_law_script","_law_k"] (zb9 K):=yI T zk
 have zgv:zH P w K mg base CX0 2 zgt ze3 ["_law_script","_law_start","_law_rows","_law_columns"] (zoP K):=zeZ T Z JZ
 have zgw:zH P w K mg base CX0 2 zgu ze4 ["_law_signs_here","_law_rows","_law_columns"] zoQ:=ze0 T Z J0
 have zjX:zH P w K mg base CX0 2 zjW zhF ["_law_script","_law_start","_law_rows","_law_columns"] (zm1 K):=zhE T Z Qa
 refine D.F.ok qD (fun vs H Q E h=>?_) (fun cdv A outer s H vs Q E hr h=>?_)
 ·obtain⟨a,ns,st,rfl,_⟩:=h
  rfl
 ·obtain⟨a,ns,st,rfl,hS,st0,q⟩:=h
  refine⟨_,(zd (zB (i:=2) qD.nd rfl (Or.inl rfl) (zp zZ (hr.mono (by decide)) (by rfl) zk.g zk.F.kp zk.b .nil zI (za (pv 0) (za (pv 1) zb))))
   (zd (zB (i:=3) qD.nd rfl (Or.inl rfl) (zD qp zq (zD jO (pv 2) zq)))
   (zd (zB (i:=4) qD.nd rfl (Or.inr rfl) (zD qp zq (zD jO (zD jB (pv 2) zq) zq)))
   (zd (zB (i:=5) qD.nd rfl (Or.inl rfl) (zD jB (zp zZ (hr.mono (by decide)) (by rfl) zk.g zk.F.kp zk.b .nil zI (za (pv 0) (za (zD qp (pv 1) zq) zb))) zq))
   (zd (jA (zQ Js (zD jO (zp zZ (hr.mono (by decide)) (by rfl) zk.g zk.F.kp zk.b .nil zI (za (pv 0) (za (zD qp (pv 1) zq) zb))) zq) zq (qc _)) (zf (zO (zp zjX (hr.mono (by decide)) (by rfl) Qa.g Qa.F.kp Qa.b .nil zI (za (pv 0) (za (pv 1) (za (pv 3) (za (pv 4) zb))))))) qk)
   (zd (zB (i:=6) qD.nd rfl (Or.inl rfl) (zp zgv (hr.mono (by decide)) (by rfl) JZ.g JZ.F.kp JZ.b .nil zI (za (pv 0) (za (pv 1) (za (pv 3) (za (pv 4) zb))))))
   (zd (zB (i:=7) qD.nd rfl (Or.inr rfl) (zp zgw (hr.mono (by decide)) (by rfl) J0.g J0.F.kp J0.b .nil zI (za (pv 6) (za (pv 3) (za (pv 4) zb)))))
   (zd (zB (i:=8) qD.nd rfl (Or.inl rfl) (zx (Za rfl) (by rfl) T.zfX PyProof.Rows.boot_max (za zq (za (zD qp (Jt PySem.F.plainAttrs_list PySem.F.slot_list_count PySem.F.type_list_count zkj (pv 6) (za qQ zb)) (qx ju (qu (za zq (za zq (za zq (za zq (za (zod zni zq) (za zq zb))))))) (zD jO (pv 5) zq) (fun _ _=>rfl))) zb))))
   (zd (zB (i:=9) qD.nd rfl (Or.inl rfl) (zD jO (zD jB (pv 5) zq) (zD yf (pv 3) (pv 4))))
   (QZ (jA (PW.pt (zej (zQ Js (zD jO (zD jB (pv 5) zq) zq) zq (qc _)) (zbq (zQ QX (qx ju (pv 7) (pv 9) (fun _ _=>rfl)) qQ (by rfl))))) (zf (zbG (jk QO (by rfl) T.zmU PyProof.Rows.boot_str (za (zD jO (zD qp (zD qp (jk ZL (by rfl) T.zfW PyProof.Rows.boot_int (za (qx ju (pv 7) (pv 9) (fun _ _=>rfl)) zb)) zq) (zD jO (zD jB (pv 5) zq) zq)) zq) zb)) (zgM (pv 7) (pv 9) set_list))) qk)
   (zd (ZO (i:=10) qD.nd rfl rfl (N:=["_law_k","_law_told","_law_columns"]) (src:=[none,some 7,some 4]) (zW.free (O:=(zg xJ).names) (XN:=["_law_script","_law_start","_law_head","_law_rows","_law_columns","_law_bent","_law_signs_here","_law_told","_law_stones","_law_at","_law_texts_here"]) rfl rfl ⟨_,rfl⟩ rfl rfl (by decide +kernel) (by decide +kernel) (by decide +kernel) rfl (by decide +kernel)) rfl (qH (by rfl) T.qW (za (pv 3) zb)) (fun _ _ _ _ _=>(zm (i:=0) (by show List.Nodup (["_law_k","_law_told","_law_columns"]:List Str);decide +kernel) rfl (Or.inl rfl))) (fun _ _ _ _ _=>qS) (fun _ _ _ _ _=>(znI (K:=K) (by rfl) PySem.F.plainAttrs_str PySem.F.slot_str_join PySem.F.type_str_join (zkO (K:=K) (by rfl)) qQ (za (QT (zkP (K:=K) (by rfl)) (pv 1) (QS (zD yf (pv 2) (pv 0))) (QS (zD qp (zD yf (pv 2) (pv 0)) (pv 2)))) zb))))
   (zf (zO (yM (za (pv 10) (za (pv 8) zb)))))))))))))))),?_⟩
  refine⟨_,rfl,_,rfl,a,ns,_,rfl,hS,st0,fun c=>?_⟩
  refine⟨_,rfl,_,_,rfl,rfl,(by show (0:Int)<5;decide),_,_,rfl,rfl,?_⟩
  show xU 3 (V.int (1+c%5)) _ _ _
  obtain⟨x0,x1⟩:=Z9 (x:=c) (M:=5) (by decide)
  obtain⟨R,hR⟩:∃R:Nat,1+c%5=(R:Int):=⟨(1+c%5).toNat,by omega⟩
  rw [hR]
  refine⟨_,rfl,_,_,rfl,rfl,Ju.small (by decide) (by decide),_,_,rfl,rfl,(by show (0:Int)<5;decide),_,_,rfl,rfl,?_⟩
  show xU 4 (V.int (1+c/5%5)) _ _ _
  obtain⟨y0,y1⟩:=Z9 (x:=c/5) (M:=5) (by decide)
  obtain⟨n,hn⟩:∃n:Nat,1+c/5%5=(n:Int):=⟨(1+c/5%5).toNat,by omega⟩
  rw [hn]
  have r1:1<=R:=by omega
  have r5:R<=5:=by omega
  have n1:1<=n:=by omega
  have n5:n<=5:=by omega
  have m1:0<R*n:=Nat.mul_pos (by omega) (by omega)
  have m25:R*n<=5*5:=mul_le_mul r5 n5
  refine⟨_,rfl,_,rfl,_,_,rfl,rfl,a,ns,_,rfl,hS,by omega,fun c2=>⟨_,_,rfl,rfl,Ju.small (by decide) (by decide),?_⟩⟩
  show xU 5 (V.int (c2/2)) _ _ _
  generalize c2/2=bent
  refine⟨_,rfl,_,rfl,_,_,rfl,rfl,a,ns,_,rfl,hS,by omega,fun c3=>⟨_,_,rfl,rfl,(by show (0:Int)<2;decide),rfl,_,rfl,zeo (fun _=>?_) (fun _=>?_)⟩⟩
  ·refine⟨_,rfl,_,rfl,_,rfl,_,rfl,a,ns,st,R,n,rfl,hS,st0,r1,r5,n1,n5,fun p l rs b H1 B rl rr sh b0 b1 s1=>?_⟩
   exact q p l rs b H1 B ⟨by omega,by omega,⟨n,n1,n5,rr⟩,sh⟩ b0 b1 s1
  refine⟨_,rfl,_,rfl,_,rfl,_,rfl,a,ns,st,R,n,rfl,hS,st0,r1,r5,n1,n5,fun d ts H1 hd hd1 tl tm tc s1=>?_⟩
  refine⟨_,rfl,_,rfl,_,rfl,d,ts,R,n,rfl,hd1,tl,tm,tc,r1,r5,n1,n5,fun e us H2 he he2 ul um uc s2=>?_⟩
  have hd2:=s2 _ _ hd1
  have s02:=s1.trans s2
  have he0:H e=none:=s1.free he
  have ecv:cV ts=(ts.map fun c=>(⟨#[c]⟩:Str)).map V.str:=by
   unfold cV
   rw [map_map]
   rfl
  obtain⟨z,hz,z1⟩:=zoS bent
  refine⟨_,rfl,.inl ⟨rfl,_,SqL.of hd2⟩,d,ts.map fun c=>(⟨#[c]⟩:Str),"o",rfl,rfl,by rw [<- ecv];exact hd2,_,rfl,(by show 6<=sizeLine;decide),fun ml hml=>?_⟩
  have z3:=ze (o:=.lst [.int 0,.int 0,.int 0,.int 1,.int (-1),.int 0]) hml
  refine⟨_,rfl,_,_,rfl,rfl,(by show (0:Int)<6;decide),ml,_,_,_,rfl,rfl,SqL.of zc,hz,_,_,rfl,rfl,_,_,rfl,?_⟩
  have he3:=z3 _ _ he2
  have s03:=s02.trans z3
  generalize upd H2 ml (.lst [.int 0,.int 0,.int 0,.int 1,.int (-1),.int 0])=H3 at *
  have cl:(List.countP (fun t=>t==("o":Str)) (ts.map fun c=>(⟨#[c]⟩:Str)))<=25:=by
   have:=List.countP_le_length (p:=fun t=>t==("o":Str)) (l:=ts.map fun c=>(⟨#[c]⟩:Str))
   rw [length_map] at this
   omega
  generalize List.countP (fun t=>t==("o":Str)) (ts.map fun c=>(⟨#[c]⟩:Str))=cn at *
  show xU 8 (V.int (if ((cn:Nat):Int)+z>0 then ((cn:Nat):Int)+z else 0)) _ _ _
  obtain⟨so,hso,so0,so1⟩:∃so:Int,(if ((cn:Nat):Int)+z>0 then ((cn:Nat):Int)+z else 0)=so/\0<=so/\so<=64:=⟨_,rfl,by split<;>omega,by split<;>omega⟩
  rw [hso]
  refine⟨_,rfl,_,_,rfl,rfl,Ju.small (by decide) (by decide),_,rfl,_,rfl,_,_,rfl,rfl,zcW (by omega) (by omega),_,_,rfl,rfl,(by rw [<- natCast_mul];omega),?_⟩
  show xU 9 (V.int (bent/18%(((R:Nat):Int)*((n:Nat):Int)))) _ _ _
  rw [<- natCast_mul]
  obtain⟨a0,a1⟩:=Z9 (x:=bent/18) (M:=R*n) m1
  generalize bent/18%((R*n:Nat):Int)=at_ at *
  have jl:at_.toNat<us.length:=by omega
  refine⟨fun σ' H'=>∃(vs:List Nat),σ'=[some (.ref a),some (.int st),some (.int c),some (.int (R:Nat)),some (.int (n:Nat)),some (.int bent),some (.ref d),some (.ref e),some (.int so),some (.int at_),none]/\zw H H'/\H' e=some (.lst (cV vs))/\vs.length=R*n/\(∀c∈vs,c∈bd.cps.toList)/\vs.countP qJ<=10,?_,?_⟩
  ·refine⟨_,rfl,_,_,rfl,rfl,Ju.small (by decide) (by decide),_,_,rfl,rfl,(by show (0:Int)<3;decide),rfl,_,rfl,zeo (fun _=>?_) (fun _=>?_)⟩
   ·refine⟨_,rfl,_,rfl,e,_,_,_,rfl,rfl,SqL.of he3,jJ a0 (zgs jl),_,_,rfl,rfl,_,rfl,zeo (fun hx=>?_) (fun _=>?_)⟩
    ·obtain⟨g1,g2⟩:=zjV (um _ (getD_mem jl)) hx
     obtain⟨w0,w1⟩:=Z9 (x:=((us.getD at_.toNat 0:Nat):Int)-48+1+bent/450%8) (M:=9) (by decide)
     refine⟨_,rfl,_,rfl,e,_,_,_,rfl,rfl,SqL.of he3,jJ a0 (zgs jl),_,_,rfl,int_sign g1 g2,(by show 1<=640;decide),_,_,rfl,rfl,_,rfl,_,_,rfl,rfl,Ju.small (by decide) (by decide),_,_,rfl,rfl,(by show (0:Int)<8;decide),_,_,rfl,rfl,_,_,rfl,rfl,(by show (0:Int)<9;decide),_,rfl,?_,?_⟩
     ·show (((((us.getD at_.toNat 0:Nat):Int)-48+1+bent/450%8)%9).natAbs).log2<1920
      exact lt_of_le_of_lt (Nat.log2_le_self _) (by omega)
     ·obtain⟨dg,hdg⟩:∃dg:Nat,(((us.getD at_.toNat 0:Nat):Int)-48+1+bent/450%8)%9=(dg:Int):=⟨((((us.getD at_.toNat 0:Nat):Int)-48+1+bent/450%8)%9).toNat,by omega⟩
      have ed:V.str (toString ((((us.getD at_.toNat 0:Nat):Int)-48+1+bent/450%8)%9))=V.str ⟨#[48+dg]⟩:=by
       rw [hdg]
       exact zd8 (by omega)
      refine⟨_,rfl,_,rfl,e,_,_,_,rfl,rfl,he3,zcl a0 (by rw [zcI,ul];exact a1),?_⟩
      refine⟨us.set at_.toNat (48+dg),rfl,fun b o ee=>?_,?_,?_,mem_set (zcJ (by omega)) um _,?_⟩
      ·rw [zj (zh ee he0)]
       exact s03 _ _ ee
      ·rw [zc,<- zhC]
       exact congrArg (fun v=>some (HO.lst ((cV us).set at_.toNat v))) ed
      ·rw [List.length_set,ul]
      ·refine le_trans (xA qJ (48+dg) us _) ?_
       rw [if_neg (by unfold qJ;rw [decide_eq_true_eq];omega)]
       exact uc
    ·exact⟨us,rfl,s03,he3,ul,um,uc⟩
   ·exact⟨us,rfl,s03,he3,ul,um,uc⟩
  rintro σ' H4 ⟨vs,rfl,s4,he4,vl,vm,vc⟩
  refine⟨_,rfl,_,rfl,by omega,by omega,fun p hp=>?_⟩
  refine Qs (lo:=0) (n:=((R:Nat):Int).toNat) (fun k σ' H'=>∃u0,σ'=[u0,some (.ref e),some (.int (n:Nat))]/\zw H4 H'/\H' p=some (.lst ((rowsOf vs n k).map V.str)))
   ⟨_,rfl,ze hp,zc⟩ ?_ ?_
  ·rintro k σ' H5 hk ⟨u0,rfl,s5,hp5⟩
   have kR:k<R:=by omega
   have e1:((n:Nat):Int)*(0+(k:Int))=((n*k:Nat):Int):=by
    rw [Int.zero_add,natCast_mul]
   have rl:=zec vl kR
   unfold xU
   refine QA ?_
   refine⟨rfl,_,rfl,_,rfl,_,rfl,_,_,rfl,rfl,zcW (by omega) (by omega),_,rfl,_,rfl,_,rfl,_,_,rfl,rfl,zcW (by omega) (by omega),_,rfl,_,_,rfl,rfl,_,rfl,e,_,rfl,SqL.of (s5 _ _ he4),fun cp hcp=>?_⟩
   have ec:QU (cV vs) (some (((n:Nat):Int)*(0+(k:Int)))) (some (((n:Nat):Int)*(0+(k:Int))+((n:Nat):Int)))=((rowOf vs n k).map fun c=>(⟨#[c]⟩:Str)).map V.str:=by
    rw [e1,<- Int.natCast_add,zmH vl kR]
    unfold cV
    rw [map_map]
    rfl
   have z6:=ze (o:=.lst (QU (cV vs) (some (((n:Nat):Int)*(0+(k:Int)))) (some (((n:Nat):Int)*(0+(k:Int))+((n:Nat):Int))))) hcp
   refine⟨"",cp,(rowOf vs n k).map fun c=>(⟨#[c]⟩:Str),rfl,rfl,SqL.of (by rw [<- ec];exact zc),?_,?_⟩
   ·have e0:("":Str).length=0:=by decide +kernel
    rw [e0,Nat.mul_zero,add_zero,map_map]
    have:∀l:List Nat,(l.map ((fun t:Str=>t.length)∘fun c=>(⟨#[c]⟩:Str))).sum=l.length:=fun l=>by
     induction l with
     | nil=>rfl
     | cons c r ih =>
      rw [map_cons,List.sum_cons,ih,length_cons]
      show 1+_=_
      omega
    have e2:=this (rowOf vs n k)
    rw [rl] at e2
    exact le_trans (Nat.le_of_eq e2) (by omega)
   ·refine⟨_,z6 _ _ hp5,?_,_,rfl,fun b o ee=>?_,?_⟩
    ·unfold rowsOf
     rw [length_map,length_map,length_range]
     exact lt_of_lt_of_le (show k<64 by omega) (by decide)
    ·rw [zj (zh ee hp)]
     exact z6 _ _ (s5 _ _ ee)
    ·rw [zc,join_one]
     unfold rowsOf
     rw [range_succ,map_append,map_append]
     rfl
  rintro σ' H5 ⟨u0,rfl,s5,hp5⟩
  rw [toNat_natCast] at hp5
  refine⟨_,rfl,_,rfl,(by show 2<=sizeLine;decide),fun o ho=>?_⟩
  have z6:=ze (o:=.tup [.ref p,.int so]) ho
  refine q o p (rowsOf vs n R) so _ ⟨zc,z6 _ _ hp5⟩ ⟨?_,?_,⟨n,n1,n5,fun t ht=>?_⟩,?_⟩ so0 so1 ((s4.trans s5).trans z6)
  ·unfold rowsOf
   rw [length_map,length_range]
   exact r1
  ·unfold rowsOf
   rw [length_map,length_range]
   exact r5
  ·obtain⟨k,hk,rfl⟩:=List.mem_map.mp ht
   refine⟨?_,fun x hx=>vm x ?_⟩
   ·show (rowOf vs n k).toArray.size=n
    rw [size_toArray]
    exact zec vl (List.mem_range.mp hk)
   ·exact List.mem_of_mem_drop (mem_of_mem_take hx)
  ·rw [zeb,ze1,zbh,mul_comm,<- vl,take_length]
   exact vc
end
theorem zm2 (x:Nat)(xs:List Nat):inV (.int ((x:Nat):Int)) (pV xs)=decide (x∈xs):=by
 unfold inV pV
 rw [any_map,Bool.eq_iff_iff,List.any_eq_true,decide_eq_true_eq]
 constructor
 ·rintro⟨y,hy,h⟩
  have h':eqV (.int ((y:Nat):Int)) (.int ((x:Nat):Int))=true:=h
  have:y=x:=by
   unfold eqV at h'
   have h2:((y:Nat):Int)=((x:Nat):Int):=by simpa using h'
   omega
  rw [<- this]
  exact hy
 ·intro h
  refine⟨x,h,?_⟩
  show eqV (.int ((x:Nat):Int)) (.int ((x:Nat):Int))=true
  unfold eqV
  simp
theorem ziN (xs:List Nat):(pV xs).all QW=true:=by
 unfold pV
 rw [List.all_map,List.all_eq_true]
 intro x _
 rfl
theorem J8 (xs:List Nat):(pV xs).length=xs.length:=length_map _
theorem ze5 (xs:List Nat)(x:Nat):pV (xs++[x])=pV xs++[.int ((x:Nat):Int)]:=by
 unfold pV
 rw [map_append]
 rfl
abbrev Qn:=Int×List Nat
def za0 (H:Hp):List V->List Qn->Prop:=Paired fun v q=>∃t l,v=V.ref t/\H t=some (.tup [.int q.1,.ref l])/\H l=some (.lst (pV q.2))
theorem zed {H H':Hp}(s:zw H H'){us:List V}{qs:List Qn}(hp:za0 H us qs):za0 H' us qs:=by
 induction hp with
 | nil=>exact .nil
 | cons q _ ih =>
  obtain⟨t,l,e,h1,h2⟩:=q
  exact .cons ⟨t,l,e,s _ _ h1,s _ _ h2⟩ ih
theorem zmI {H:Hp}{us:List V}{qs:List Qn}{i:Nat}{v:V}(h:za0 H us qs)(e:us[i]?=some v):∃q t l,qs[i]?=some q/\v=V.ref t/\H t=some (.tup [.int q.1,.ref l])/\H l=some (.lst (pV q.2)):=by
 obtain⟨q,h1,t,l,h2⟩:=zbN h e
 exact⟨q,t,l,h1,h2⟩
def zhG (S:List Nat)(q:Qn):Bool:=decide ((((q.2.filter fun k=>decide (k∈S)).length:Nat):Int)=q.1)
def zax (qs:List Qn)(S:List Nat):Bool:=qs.all (zhG S)
def zlG:Sp:=fun vs H Q _=>∃(sa na:Addr) (S:List Nat) (us:List V) (qs:List Qn),vs=[.ref sa,.ref na]/\H sa=some (.lst (pV S))/\H na=some (.lst us)/\za0 H us qs/\(∀q∈qs,q.2.length<=64)/\∀H',zw H H'->Q (.bl (zax qs S)) H'
def PLs (H:Hp):List V->List (List Nat)->Prop:=Paired fun v S=>∃a,v=V.ref a/\H a=some (.lst (pV S))
theorem YG {H H':Hp}(s:zw H H'){us:List V}{ks:List (List Nat)}(hp:PLs H us ks):PLs H' us ks:=by
 induction hp with
 | nil=>exact .nil
 | cons q _ ih =>
  obtain⟨a,e,h⟩:=q
  exact .cons ⟨a,e,s _ _ h⟩ ih
theorem Yb {H:Hp}{us:List V}{ks:List (List Nat)}(h:PLs H us ks):us.length=ks.length:=Paired.length h
theorem ziO {H:Hp}{us:List V}{ks:List (List Nat)}{us':List V}{ks':List (List Nat)}(h:PLs H us ks)(k:PLs H us' ks'):PLs H (us++us') (ks++ks'):=zaE h k
theorem zlH {H:Hp}{us:List V}{ks:List (List Nat)}{i:Nat}{v:V}(h:PLs H us ks)(e:us[i]?=some v):∃S a,ks[i]?=some S/\v=V.ref a/\H a=some (.lst (pV S)):=by
 obtain⟨S,h1,a,h2⟩:=zbN h e
 exact⟨S,a,h1,h2⟩
theorem zgx {H:Hp}{z:Addr}{o:HO}{us:List V}{ks:List (List Nat)}(hp:PLs H us ks)(n:∀v∈us,v≠V.ref z):PLs (upd H z o) us ks:=by
 induction hp with
 | nil=>exact .nil
 | cons q _ ih =>
  obtain⟨a,e,h⟩:=q
  exact .cons ⟨a,e,by rw [zj fun y=>n _ mem_cons_self (by rw [e,y])];exact h⟩ (ih fun v hv=>n v (mem_cons_of_mem _ hv))
def zlI:Sp:=fun vs H Q _=>∃m:Nat,vs=[.int (m:Nat)]/\m<=14/\∀(d:Addr) (us:List V) (H':Hp),H d=none->H' d=some (.lst us)->PLs H' us (Subs.subs (List.range m))->(∀v∈us,∀a,v=V.ref a->H a=none)->zw H H'->Q (.ref d) H'
theorem za1 {α:Type}(cs:List α):(Subs.subs cs).length=2^cs.length:=by
 rw [Subs.YV,length_map,length_range]
section
variable {P:Program}{w:World}{K:PySem.W.Frag}{mg:Str->Option Value}{base:Heap}{f:Addr}{fd:FuncData}
theorem YH:zL ["_law_some","_law_numbers_here","_law_number","_law_spots"] ["_law_some","_law_numbers_here"] (zg JD):=⟨rfl,rfl,rfl,by decide +kernel,rfl,by decide +kernel,by decide +kernel⟩
theorem zgy (T:Txt mg)(D:zo K mg "_law_fits" JD ["_law_some","_law_numbers_here"] f fd):zH P w K mg base CX0 1 f fd ["_law_some","_law_numbers_here"] zlG:=by
 refine D.F.ok YH (fun vs H Q E h=>?_) (fun cdv A outer s H vs Q E hr h=>?_)
 ·obtain⟨sa,na,S,us,qs,rfl,_⟩:=h
  rfl
 ·obtain⟨sa,na,S,us,qs,rfl,hsa,hna,hq,ql,q⟩:=h
  refine⟨_,(zd (qo PassesOwn.never rfl (zT (pv 1)) (Jr rfl (zV (zm (i:=2) YH.nd rfl (Or.inl rfl)) (zV (zm (i:=3) YH.nd rfl (Or.inl rfl)) jZ))) (zf (jA (zQ QN (zx zG (by rfl) T.jd PySem.boot_len (za (qm (N:=["_law_k","_law_some"]) (src:=[none,some 0]) (zW.free (O:=(zg JD).names) (XN:=["_law_some","_law_numbers_here","_law_number","_law_spots"]) rfl rfl ⟨_,rfl⟩ rfl rfl (by decide +kernel) (by decide +kernel) (by decide +kernel) rfl (by decide +kernel)) rfl (zT (pv 3)) (fun _ _ _ _ _=>(zm (i:=0) (by show List.Nodup (["_law_k","_law_some"]:List Str);decide +kernel) rfl (Or.inl rfl))) (fun _ _ _ _ _=>(qE (zQ (zbZ (K:=K) (by rfl)) (pv 0) (pv 1) (by rfl)))) (fun _ _ _ _ _=>(pv 0))) zb)) (pv 2) (qc _)) (zf (zO za4)) qk)))
   (zf (zO za4))),?_⟩
  refine⟨_,rfl,na,rfl,⟨_,SqL.of hna⟩,?_⟩
  refine j9 (K:=K) (a:=na) (xs:=us) (fun i σ H'=>∃(v2 v3:Option V),σ=[some (.ref sa),some (.ref na),v2,v3]/\zw H H'/\zax (qs.take i) S=true)
   ⟨_,_,rfl,zw.refl _,rfl⟩ (fun i σ H' _ ⟨_,_,_,y,_⟩=>SqL.of (y _ _ hna)) ?_ ?_
  ·rintro i v σ H1 hv ⟨v2,v3,rfl,s1,hf⟩
   obtain⟨qn,t,l,hqi,rfl,ht,hl⟩:=zmI hq hv
   have q64:=ql qn (mem_of_getElem? hqi)
   have tk:zax (qs.take (i+1)) S=(zax (qs.take i) S&&zhG S qn):=by
    unfold zax
    rw [take_add_one,hqi,List.all_append]
    show (_&&(zhG S qn&&true))=_
    rw [Bool.and_true]
   refine⟨t,_,rfl,SqT.of (s1 _ _ ht),rfl,_,_,rfl,_,_,rfl,rfl,?_⟩
   refine⟨_,rfl,l,rfl,⟨_,SqL.of (s1 _ _ hl)⟩,fun z hz=>?_⟩
   refine qA (K:=K) (a:=l) (xs:=pV qn.2) (fun j σ' H'=>∃(u0:Option V) (ys:List V),σ'=[u0,some (.ref sa)]/\zw H1 H'/\H' z=some (.lst ys)/\ys.length=((qn.2.take j).filter fun k=>decide (k∈S)).length)
    ⟨_,[],rfl,ze hz,zc,rfl⟩ (fun j σ' H' _ ⟨_,_,_,y,_⟩=>SqL.of (y _ _ (s1 _ _ hl))) ?_ ?_
   ·rintro j x σ' H2 hx ⟨u0,ys,rfl,s2,hz2,yl⟩
    obtain⟨k,hk,rfl⟩:=zlF hx
    have jl:=(List.getElem?_eq_some_iff.mp hk).1
    have e1:(qn.2.take (j+1)).filter (fun k=>decide (k∈S))=(qn.2.take j).filter (fun k=>decide (k∈S))++if decide (k∈S)=true then [k] else []:=by
     rw [take_add_one,hk,filter_append]
     congr 1
     show List.filter _ [k]=_
     rw [filter_cons]
     split<;>rfl
    refine⟨_,rfl,_,rfl,sa,_,rfl,.inl (SqL.of (s2 _ _ (s1 _ _ hsa))),rfl,ziN S,_,rfl,?_⟩
    have hb:(if false=true then !inV (.int ((k:Nat):Int)) (pV S) else inV (.int ((k:Nat):Int)) (pV S))=decide (k∈S):=zm2 k S
    by_cases hp:decide (k∈S)=true
    ·rw [if_pos hp] at e1
     refine yN (hb.trans hp) ⟨_,rfl,_,hz2,?_,_,_,rfl,fun b o e=>?_,zc,?_⟩
     ·rw [yl]
      refine lt_of_le_of_lt (le_trans (length_filter_le _ _) ?_) (show 64<sizeLine by decide)
      rw [length_take]
      omega
     ·rw [zj (zh e hz)]
      exact s2 _ _ e
     ·rw [e1,length_append,length_append,yl]
      rfl
    ·rw [if_neg hp,append_nil] at e1
     exact yk (hb.trans (Bool.eq_false_iff.mpr hp)) ⟨_,ys,rfl,s2,hz2,by rw [e1];exact yl⟩
   rintro σ' H2 ⟨u0,ys,rfl,s2,hz2,yl⟩
   rw [J8,take_length] at yl
   refine⟨z,ys,rfl,.inl (SqL.of hz2),_,rfl,rfl,_,rfl,?_⟩
   have hb:(!decide (V.int ((ys.length:Nat):Int)=V.int qn.1))=!zhG S qn:=by
    unfold zhG
    rw [yl]
    congr 1
    exact decide_eq_decide.mpr ⟨fun h=>by injection h,fun h=>by rw [h]⟩
   by_cases hp:zhG S qn=true
   ·refine yk (hb.trans (by rw [hp];rfl)) ?_
    refine⟨_,_,rfl,s1.trans s2,?_⟩
    rw [tk,hf,hp]
    rfl
   ·have hp':zhG S qn=false:=Bool.eq_false_iff.mpr hp
    refine yN (hb.trans (by rw [hp'];rfl)) ?_
    have:zax qs S=false:=by
     rw [Bool.eq_false_iff]
     intro h
     unfold zax at h
     rw [List.all_eq_true] at h
     exact hp (h qn (mem_of_getElem? hqi))
    rw [this] at q
    exact q H2 (s1.trans s2)
  ·rintro σ H1 ⟨v2,v3,rfl,s1,hf⟩
   rw [show us.length=qs.length from Paired.length hq,take_length] at hf
   rw [hf] at q
   exact q H1 s1
theorem yK:zL ["_law_many","_law_found","_law_k"] ["_law_many"] (zg yd):=⟨rfl,rfl,rfl,by decide +kernel,rfl,by decide +kernel,by decide +kernel⟩
theorem zcL (T:Txt mg)(D:zo K mg "_law_choices" yd ["_law_many"] f fd):zH P w K mg base CX0 1 f fd ["_law_many"] zlI:=by
 refine D.F.ok yK (fun vs H Q E h=>?_) (fun cdv A outer s H vs Q E hr h=>?_)
 ·obtain⟨m,rfl,_⟩:=h
  rfl
 ·obtain⟨m,rfl,m14,q⟩:=h
  refine⟨_,(zd (zB (i:=1) yK.nd rfl (Or.inl rfl) (qu (za (qu zb) zb)))
   (zd (qo PassesOwn.never rfl (qH (by rfl) T.qW (za (pv 0) zb)) (zm (i:=2) yK.nd rfl (Or.inr rfl)) (zf (zB (i:=1) yK.nd rfl (Or.inl rfl) (zD zaB (pv 1) (qm (N:=["_law_one_here","_law_k"]) (src:=[none,some 2]) (zW.free (O:=(zg yd).names) (XN:=["_law_many","_law_found","_law_k"]) rfl rfl ⟨_,rfl⟩ rfl rfl (by decide +kernel) (by decide +kernel) (by decide +kernel) rfl (by decide +kernel)) rfl (zT (pv 1)) (fun _ _ _ _ _=>(zm (i:=0) (by show List.Nodup (["_law_one_here","_law_k"]:List Str);decide +kernel) rfl (Or.inl rfl))) (fun _ _ _ _ _=>qS) (fun _ _ _ _ _=>(zD zaB (pv 0) (qu (za (pv 1) zb)))))))))
   (zf (zO (pv 1))))),?_⟩
  refine⟨(by show 0<=sizeLine;decide),fun e0 he0=>⟨(by show 1<=sizeLine;decide),fun f0 hf0=>?_⟩⟩
  have y1:=ze (o:=.lst []) he0
  have y2:=ze (o:=.lst [.ref e0]) hf0
  have y12:=y1.trans y2
  have hL0:PLs (upd (upd H e0 (.lst [])) f0 (.lst [.ref e0])) [.ref e0] [[]]:=.cons ⟨e0,rfl,y2 _ _ zc⟩ .nil
  have hf2:upd (upd H e0 (.lst [])) f0 (.lst [.ref e0]) f0=some (.lst [.ref e0]):=zc
  have fn:=y1.free hf0
  generalize upd (upd H e0 (.lst [])) f0 (.lst [.ref e0])=H2 at *
  refine⟨_,rfl,_,rfl,by omega,by omega,?_⟩
  refine qz (lo:=0) (n:=((m:Nat):Int).toNat) (fun i σ H'=>∃(fa:Addr) (fs:List V) (v2:Option V),σ=[some (.int (m:Nat)),some (.ref fa),v2]/\zw H H'/\H fa=none/\H' fa=some (.lst fs)/\PLs H' fs (Subs.subs (List.range i))/\∀v∈fs,∀a,v=V.ref a->H a=none)
   ⟨f0,_,_,rfl,y12,fn,hf2,hL0,fun v hv a ea=>by
    have:v=V.ref e0:=by simpa using hv
    rw [this] at ea
    cases ea
    exact he0⟩ ?_ ?_
  ·rintro i σ H3 hi ⟨fa,fs,v2,rfl,s3,fan,hfa,hL,hnw⟩
   have im:i<m:=by omega
   have fl:fs.length<=8192:=by
    rw [Yb hL,za1,length_range]
    exact le_trans (pow_le_pow_right (by decide) (show i<=13 by omega)) (by decide)
   have eF:Subs.subs (List.range (i+1))=Subs.step (Subs.subs (List.range i)) i:=by
    rw [range_succ]
    exact Subs.zdK _ _
   generalize hF:Subs.subs (List.range i)=F at *
   have fd:∀S∈F,S.length<=64:=fun S hS=>by
    rw [<- hF] at hS
    have:=(Tally.jL hS).length_le
    rw [length_range] at this
    omega
   refine⟨_,rfl,_,rfl,fa,rfl,⟨_,SqL.of hfa⟩,fun z hz=>?_⟩
   refine qA (K:=K) (a:=fa) (xs:=fs) (fun j σ' H'=>∃(u0:Option V) (ys:List V),σ'=[u0,some (.int (0+(i:Int)))]/\zw H3 H'/\H' z=some (.lst ys)/\(∀v∈ys,v≠V.ref z)/\PLs H' ys ((F.take j).map (·++[i]))/\∀v∈ys,∀a,v=V.ref a->H a=none)
    ⟨_,[],rfl,ze hz,zc,(fun _ h=>nomatch h),.nil,(fun _ h=>nomatch h)⟩ (fun j σ' H' _ ⟨_,_,_,z,_⟩=>SqL.of (z _ _ hfa)) ?_ ?_
   ·rintro j v σ' H4 hv ⟨u0,ys,rfl,s4,hz4,nz,hL4,hnw4⟩
    obtain⟨S,a,hS,rfl,ha⟩:=zlH hL hv
    have jl:=(List.getElem?_eq_some_iff.mp hS).1
    have Sl:=fd S (mem_of_getElem? hS)
    unfold xU
    refine QA ?_
    refine⟨_,rfl,_,rfl,(by show 1<=sizeLine;decide),fun t1 ht1=>?_⟩
    have y5:=ze (o:=.lst [V.int (0+(i:Int))]) ht1
    refine⟨a,t1,pV S,_,rfl,rfl,y5 _ _ (s4 _ _ ha),zc,le_trans (show (pV S).length+1<=100 by rw [J8];omega) (by decide),fun t2 ht2=>?_⟩
    have y6:=ze (o:=.lst (pV S++[V.int (0+(i:Int))])) ht2
    have y56:=y5.trans y6
    have h6:upd (upd H4 t1 (.lst [V.int (0+(i:Int))])) t2 (.lst (pV S++[V.int (0+(i:Int))])) t2=some (.lst (pV (S++[i]))):=by
     rw [zc,ze5,show (0:Int)+(i:Int)=((i:Nat):Int) by omega]
    have tz:t2≠z:=fun e=>by
     subst e
     rw [y5 _ _ hz4] at ht2
     cases ht2
    have n0:H t2=none:=s3.free (s4.free (y5.free ht2))
    generalize upd (upd H4 t1 (.lst [V.int (0+(i:Int))])) t2 (.lst (pV S++[V.int (0+(i:Int))]))=H6 at *
    refine⟨_,y56 _ _ hz4,?_,_,ys++[.ref t2],rfl,fun b o e=>?_,zc,fun v hv=>?_,?_,fun v hv a' ea=>?_⟩
    ·rw [Yb hL4,length_map,length_take]
     have:=Yb hL
     exact lt_of_le_of_lt (show _<=8192 by omega) (by decide)
    ·rw [zj (zh e hz)]
     exact y56 _ _ (s4 _ _ e)
    ·rcases List.mem_append.mp hv with hv | hv
     ·exact nz v hv
     ·have:v=V.ref t2:=by simpa using hv
      rw [this]
      intro y
      cases y
      exact tz rfl
    ·have e1:(F.take (j+1)).map (·++[i])=(F.take j).map (·++[i])++[S++[i]]:=by
      rw [take_add_one,hS,map_append]
      rfl
     rw [e1]
     exact ziO (zgx (YG y56 hL4) nz) (.cons ⟨t2,rfl,by rw [zj tz];exact h6⟩ .nil)
    ·rcases List.mem_append.mp hv with hv | hv
     ·exact hnw4 v hv a' ea
     ·have:v=V.ref t2:=by simpa using hv
      rw [this] at ea
      cases ea
      exact n0
   rintro σ' H4 ⟨u0,ys,rfl,s4,hz4,_,hL4,hnw4⟩
   rw [Yb hL,take_length] at hL4
   have yl:ys.length<=8192:=by
    rw [Yb hL4,length_map,<- Yb hL]
    exact fl
   refine⟨fa,z,fs,ys,rfl,rfl,s4 _ _ hfa,hz4,le_trans (show _<=16384 by omega) (by decide),fun g hg=>?_⟩
   have y7:=ze (o:=.lst (fs++ys)) hg
   refine⟨g,fs++ys,_,rfl,(s3.trans s4).trans y7,(s3.trans s4).free hg,zc,?_,fun v hv=>?_⟩
   ·rw [eF]
    exact YG y7 (ziO (YG s4 hL) hL4)
   ·rcases List.mem_append.mp hv with hv | hv
    ·exact hnw v hv
    ·exact hnw4 v hv
  ·rintro σ H3 ⟨fa,fs,v2,rfl,s3,fan,hfa,hL,hnw⟩
   rw [toNat_natCast] at hL
   exact⟨_,rfl,q fa fs H3 fan hfa hL hnw s3⟩
end
noncomputable def pos (n x:Nat):Nat×Nat:=(x/n,x%n)
noncomputable def jE (rs:List Str):List Nat:=(codes rs).flatten
theorem zgz {a b:List Nat}{x:Nat}(h:x<a.length):(a++b).getD x 0=a.getD x 0:=by
 rw [getD_eq_getElem?_getD,getD_eq_getElem?_getD,getElem?_append_left h]
theorem zgA {a b:List Nat}(x:Nat):(a++b).getD (a.length+x) 0=b.getD x 0:=by
 rw [getD_eq_getElem?_getD,getD_eq_getElem?_getD,List.getElem?_append_right (by omega),Nat.add_sub_cancel_left]
theorem zcM (p:Nat->Bool)(i:Nat):∀(t:List Nat) (j:Nat),Cells.z4 p i j t=((List.range t.length).filter fun x=>p (t.getD x 0)).map fun x=>(i,j+x)
 | [],_=>rfl
 | c::r,j=>by
  rw [Cells.z4,zcM p i r (j+1),length_cons,List.range_succ_eq_map,filter_cons,filter_map]
  have e:List.filter ((fun x=>p ((c::r).getD x 0))∘Nat.succ) (List.range r.length)=List.filter (fun x=>p (r.getD x 0)) (List.range r.length):=rfl
  rw [e]
  by_cases h:p c=true
  ·rw [if_pos h,if_pos (show p ((c::r).getD 0 0)=true from h),map_cons,map_map]
   show [(i,j)]++_=_
   refine congrArg (fun l=>(i,j)::l) (map_congr_left fun x _=>?_)
   show (i,j+1+x)=(i,j+(x+1))
   rw [Nat.add_assoc,add_comm 1 x]
  ·rw [if_neg h,if_neg (show ¬p ((c::r).getD 0 0)=true from h),List.nil_append,map_map]
   refine map_congr_left fun x _=>?_
   show (i,j+1+x)=(i,j+(x+1))
   rw [Nat.add_assoc,add_comm 1 x]
theorem zgB {n:Nat}:∀{gs:List (List Nat)},(∀t∈gs,t.length=n)->gs.flatten.length=gs.length*n
 | [],_=>by simp
 | t::r,h=>by
  rw [flatten_cons,length_append,zgB fun u hu=>h u (mem_cons_of_mem _ hu),h t mem_cons_self,length_cons,Nat.succ_mul,add_comm]
theorem zhH (p:Nat->Bool){n:Nat}(n1:1<=n):∀(gs:List (List Nat)) (i:Nat),(∀t∈gs,t.length=n)->Cells.zP p i gs=((List.range (gs.length*n)).filter fun x=>p (gs.flatten.getD x 0)).map fun x=>(i+x/n,x%n):=by
 intro gs
 induction gs with
 | nil=>exact fun _ _=>by simp [Cells.zP]
 | cons t r ih =>
  intro i h
  have tl:=h t mem_cons_self
  rw [Cells.zP,zcM,ih (i+1) fun u hu=>h u (mem_cons_of_mem _ hu),length_cons,Nat.succ_mul,add_comm (r.length*n) n,List.range_add,filter_append,map_append,tl]
  congr 1
  ·have e:(List.range n).filter (fun x=>p ((t::r).flatten.getD x 0))=(List.range n).filter fun x=>p (t.getD x 0):=filter_congr fun x hx=>by
    rw [flatten_cons,zgz (by rw [tl];exact List.mem_range.mp hx)]
   rw [e]
   refine map_congr_left fun x hx=>?_
   have hx:=List.mem_range.mp (List.mem_filter.mp hx).1
   rw [Nat.div_eq_of_lt hx,Nat.mod_eq_of_lt hx,zero_add]
   rfl
  ·rw [filter_map,map_map]
   have e:(List.range (r.length*n)).filter ((fun x=>p ((t::r).flatten.getD x 0))∘fun x=>n+x)=(List.range (r.length*n)).filter fun x=>p (r.flatten.getD x 0):=filter_congr fun x _=>by
    show p ((t::r).flatten.getD (n+x) 0)=_
    rw [flatten_cons,<- tl,zgA]
   rw [e]
   refine map_congr_left fun x _=>?_
   show (i+1+x/n,x%n)=(i+(n+x)/n,(n+x)%n)
   rw [Nat.add_div_left x (by omega),Nat.add_mod_left,Nat.add_assoc,add_comm 1]
structure Wide (rs:List Str)(n:Nat):Prop where
 n1:1<=n
 n5:n<=5
 row:∀t∈rs,Row bd.cps.toList n t
section
variable {rs:List Str}{n:Nat}(W:Wide rs n)
include W
theorem Wide.lens:∀t∈codes rs,t.length=n:=fun t ht=>by
 obtain⟨u,hu,rfl⟩:=List.mem_map.mp ht
 rw [length_toList]
 exact(W.row u hu).len
theorem Wide.flat:(jE rs).length=rs.length*n:=by
 unfold jE
 rw [zgB W.lens,jm]
theorem Wide.cells (p:Nat->Bool):Cells.zP p 0 (codes rs)=((List.range (rs.length*n)).filter fun x=>p ((jE rs).getD x 0)).map (pos n):=by
 rw [zhH p W.n1 _ 0 W.lens,jm]
 refine map_congr_left fun x _=>?_
 unfold pos
 rw [zero_add]
theorem Wide.mem {p:Nat->Bool}{c:Nat×Nat}:c∈Cells.zP p 0 (codes rs) ↔ ∃x,x<rs.length*n/\p ((jE rs).getD x 0)=true/\c=pos n x:=by
 rw [W.cells p,List.mem_map]
 constructor
 ·rintro⟨x,hx,rfl⟩
  obtain⟨h1,h2⟩:=List.mem_filter.mp hx
  exact⟨x,List.mem_range.mp h1,h2,rfl⟩
 ·rintro⟨x,h1,h2,rfl⟩
  exact⟨x,List.mem_filter.mpr ⟨List.mem_range.mpr h1,h2⟩,rfl⟩
theorem Wide.inj {x y:Nat}(h:pos n x=pos n y):x=y:=by
 have h1:x/n=y/n:=congrArg Prod.fst h
 have h2:x%n=y%n:=congrArg Prod.snd h
 rw [<- Nat.div_add_mod x n,<- Nat.div_add_mod y n,h1,h2]
theorem Wide.sgn {x:Nat}(hx:x<rs.length*n):Cells.sgn (codes rs) (pos n x)=(jE rs).getD x 0:=by
 have hm:pos n x∈Cells.zP (fun _=>true) 0 (codes rs):=W.mem.mpr ⟨x,hx,rfl,rfl⟩
 have hk:pos n x∈Cells.zP (fun k=>decide (k=Cells.sgn (codes rs) (pos n x))) 0 (codes rs):=by
  obtain⟨t,k,ht,hj,_,es⟩:=qe hm
  have:=ZY (p:=fun k=>decide (k=Cells.sgn (codes rs) (pos n x))) (i:=0) (jG ht) hj (decide_eq_true es.symm)
  rwa [zero_add] at this
 obtain⟨y,_,h2,h3⟩:=W.mem.mp hk
 rw [<- W.inj h3] at h2
 exact(of_decide_eq_true h2).symm
theorem Wide.near {x y:Nat}(hy:y<rs.length*n)(hc:qh ((jE rs).getD y 0)=true):nearF rs (pos n x) (pos n y)=true↔y∈xW rs.length n x:=by
 unfold xW nrP
 rw [Y7,List.mem_filter,List.mem_range]
 unfold zM
 rw [List.mem_filter]
 constructor
 ·rintro⟨_,h⟩
  exact⟨hy,h⟩
 ·rintro⟨_,h⟩
  exact⟨W.mem.mpr ⟨y,hy,hc,rfl⟩,h⟩
end
noncomputable def qX (rs:List Str)(n:Nat)(nh:List Nat)(x:Nat):List Nat:=(List.range nh.length).filter fun k=>decide (nh.getD k 0∈xW rs.length n x)
noncomputable def jj (rs:List Str)(n:Nat):List Nat:=(List.range (rs.length*n)).filter fun x=>decide ((jE rs).getD x 0=63)
noncomputable def ZE (rs:List Str)(n:Nat)(sh:List Nat)(N:Nat):List Qn:=((List.range N).filter fun x=>xV ((jE rs).getD x 0)&&(!(qX rs n sh x).isEmpty || !decide ((jE rs).getD x 0=48))).map fun x=>(((((jE rs).getD x 0:Nat):Int)-48),qX rs n sh x)
noncomputable def zbi (rs:List Str)(n:Nat)(st:Int):List (List (Int×Int)):=((Subs.subs (List.range (jj rs n).length)).filter fun S=>decide (((S.length:Nat):Int)=st)&&zax (ZE rs n (jj rs n) (rs.length*n)) S).map fun S=>S.map fun k=>toI (pos n ((jj rs n).getD k 0))
section
variable {rs:List Str}{n:Nat}(W:Wide rs n)
include W
theorem zcN:(jj rs n).map (pos n)=qb rs:=(W.cells qJ).symm
theorem zlJ {x:Nat}:x∈jj rs n↔x<rs.length*n/\(jE rs).getD x 0=63:=by
 unfold jj
 rw [List.mem_filter,List.mem_range,decide_eq_true_eq]
theorem zlK {x:Nat}{S:List Nat}(hS:S.Sublist (List.range (jj rs n).length)):Grow.cnt (nearF rs) (pos n x) (S.map fun k=>pos n ((jj rs n).getD k 0))=((qX rs n (jj rs n) x).filter fun k=>decide (k∈S)).length:=by
 have nS:S.Nodup:=List.nodup_range.sublist hS
 have nP:(qX rs n (jj rs n) x).Nodup:=List.nodup_range.sublist filter_sublist
 rw [Tally.zk0 nP nS]
 unfold Grow.cnt
 rw [filter_map,length_map]
 congr 1
 refine filter_congr fun k hk=>?_
 have kl:=List.mem_range.mp (hS.subset hk)
 obtain⟨a1,a2⟩:=(zlJ W).mp (getD_mem kl)
 show nearF rs (pos n x) (pos n ((jj rs n).getD k 0))=decide (k∈qX rs n (jj rs n) x)
 rw [Bool.eq_iff_iff,W.near a1 (by rw [a2];decide),decide_eq_true_eq]
 unfold qX
 rw [List.mem_filter,List.mem_range,decide_eq_true_eq]
 exact⟨fun h=>⟨kl,h⟩,fun h=>h.2⟩
theorem zhI {S:List Nat}(hS:S.Sublist (List.range (jj rs n).length)):zax (ZE rs n (jj rs n) (rs.length*n)) S=jK rs (S.map fun k=>pos n ((jj rs n).getD k 0)):=by
 rw [Bool.eq_iff_iff,Z4]
 unfold zax ZE
 rw [List.all_map,List.all_eq_true]
 constructor
 ·intro h o ho
  obtain⟨x,hx,hp,rfl⟩:=W.mem.mp ho
  rw [zlK W hS]
  unfold jq
  rw [W.sgn hx]
  by_cases hs:(!(qX rs n (jj rs n) x).isEmpty || !decide ((jE rs).getD x 0=48))=true
  ·exact of_decide_eq_true (h x (List.mem_filter.mpr ⟨List.mem_range.mpr hx,by rw [hp,hs];rfl⟩))
  ·rw [Bool.or_eq_true,not_or] at hs
   have e1:qX rs n (jj rs n) x=[]:=by
    have:=hs.1
    rw [not_eq_true',Bool.not_eq_false] at this
    exact List.isEmpty_iff.mp this
   have e2:(jE rs).getD x 0=48:=by
    have:=hs.2
    rw [not_eq_true',Bool.not_eq_false] at this
    exact of_decide_eq_true this
   rw [e1,e2]
   rfl
 ·intro h x hx
  obtain⟨h1,h2⟩:=List.mem_filter.mp hx
  have hxN:=List.mem_range.mp h1
  have hp:=(Bool.and_eq_true_iff.mp h2).1
  have hh:=h (pos n x) (W.mem.mpr ⟨x,hxN,hp,rfl⟩)
  rw [zlK W hS] at hh
  unfold jq at hh
  rw [W.sgn hxN] at hh
  exact decide_eq_true hh
theorem zlL:(List.range (jj rs n).length).map (fun k=>pos n ((jj rs n).getD k 0))=qb rs:=by
 rw [<- zcN W,show (fun k=>pos n ((jj rs n).getD k 0))=pos n∘fun k=>(jj rs n).getD k 0 from rfl,<- map_map,Tally.zb6]
theorem zgC {st:Int}(h:0<=st)(p:List (Nat×Nat)->Bool)(q:List (Int×Int)->Bool)(hq:∀T,q (toL T)=p T):(((zbi rs n st).countP q:Nat):Int)=((Tally.T (qb rs) (fun S=>jK rs S&&p S) st.toNat:Nat):Int):=by
 congr 1
 rw [<- zlL W,Tally.zoD]
 unfold zbi Tally.T
 rw [List.countP_map,List.countP_filter]
 refine countP_congr fun S hS=>?_
 have e1:=zhI W (Tally.jL hS)
 have e2:decide (((S.length:Nat):Int)=st)=decide (S.length=st.toNat):=decide_eq_decide.mpr (by omega)
 have e3:q (S.map fun k=>toI (pos n ((jj rs n).getD k 0)))=p (S.map fun k=>pos n ((jj rs n).getD k 0)):=by
  rw [<- hq]
  unfold toL
  rw [map_map]
  rfl
 show (q (S.map fun k=>toI (pos n ((jj rs n).getD k 0)))&&(decide (((S.length:Nat):Int)=st)&&zax (ZE rs n (jj rs n) (rs.length*n)) S))=true↔_
 rw [e1,e2,e3,Bool.and_comm,Bool.and_assoc]
theorem zlM {st:Int}(h:0<=st):(((zbi rs n st).length:Nat):Int)=zmE rs st:=by
 have:=zgC W h (fun _=>true) (fun _=>true) fun _=>rfl
 rw [List.countP_true] at this
 unfold zmE
 rw [this]
 congr 1
 exact Tally.ziw (fun S _=>Bool.and_true _) _
theorem zmJ {st:Int}(h:0<=st)(c:Nat×Nat):((((zbi rs n st).filter (Yl c)).length:Nat):Int)=JW rs st c:=by
 rw [<- List.countP_eq_length_filter]
 exact zgC W h (fun S=>decide (c∈S)) (Yl c) (ziJ c)
end
theorem za2:∀rs:List Str,(Str.join "" rs).cps.toList=(codes rs).flatten
 | []=>by decide +kernel
 | [t]=>by
  show t.cps.toList=_
  unfold codes
  simp
 | t::u::r=>by
  have ih:=za2 (u::r)
  show (t++("":Str)++Str.join "" (u::r)).cps.toList=_
  rw [zcK,zcK,ih]
  have e:("":Str).cps.toList=[]:=by decide +kernel
  rw [e,append_nil]
  rfl
theorem zoU (xs:List Nat):pV xs=iL (xs.map fun x=>((x:Nat):Int)):=by
 unfold pV
 show _=List.map V.int _
 rw [map_map]
 rfl
theorem zjY:∀xs:List Int,PyData.eqv (Zy xs) (Zy [])=xs.isEmpty
 | []=>zhr []
 | _::_=>rfl
theorem zhJ {c:Nat}(h:c∈bd.cps.toList):(!(!(Builtin.Str.occurrences ("?#":Str) ⟨#[c]⟩ 0 ("?#":Str).length 1).isEmpty))=xV c:=by
 have:∀c∈bd.cps.toList,(!(!(Builtin.Str.occurrences ("?#":Str) ⟨#[c]⟩ 0 ("?#":Str).length 1).isEmpty))=xV c:=by decide +kernel
 exact this c h
theorem zbj {α:Type}{p:α->Bool}{L:List α}{j:Nat}{k:α}(hk:L[j]?=some k):(L.take (j+1)).filter p=(L.take j).filter p++if p k=true then [k] else []:=by
 rw [take_add_one,hk,filter_append]
 congr 1
 show List.filter _ [k]=_
 rw [filter_cons]
 split<;>rfl
theorem Yc {p:Nat->Bool}(j:Nat):(List.range (j+1)).filter p=(List.range j).filter p++if p j=true then [j] else []:=by
 rw [range_succ,filter_append]
 congr 1
 show List.filter _ [j]=_
 rw [filter_cons]
 split<;>rfl
theorem zm3 {rs:List Str}{n:Nat}(W:Wide rs n){x:Nat}(h:x<rs.length*n):(jE rs).getD x 0∈bd.cps.toList:=by
 have hm:(jE rs).getD x 0∈jE rs:=getD_mem (by rw [W.flat];exact h)
 obtain⟨t,ht,hx⟩:=List.mem_flatten.mp hm
 obtain⟨u,hu,rfl⟩:=List.mem_map.mp ht
 exact(W.row u hu).mem _ hx
theorem zm4 {rs:List Str}{n:Nat}(W:Wide rs n){x:Nat}(h:x<rs.length*n):(jE rs)[x]?=some ((jE rs).getD x 0):=by
 rw [getD_eq_getElem?_getD,getElem?_eq_getElem (by rw [W.flat];exact h)]
 rfl
def zlN:Sp:=fun vs H Q _=>∃(l:Addr) (rs:List Str),vs=[.ref l]/\H l=some (.lst (rs.map V.str))/\Rows bd.cps.toList rs /\
 ∀(d:Addr) (ws:List V) (H':Hp),H d=none->H' d=some (.lst ws)->Cel H' ws (qb rs)->zw H H'->Q (.ref d) H'
section
variable {P:Program}{w:World}{K:PySem.W.Frag}{mg:Str->Option Value}{base:Heap}{f:Addr}{fd:FuncData}
theorem xB:zL ["_law_texts_here","_law_found","_law_row","_law_column"] ["_law_texts_here"] (zg Je):=⟨rfl,rfl,rfl,by decide +kernel,rfl,by decide +kernel,by decide +kernel⟩
theorem zdd (T:Txt mg)(D:zo K mg "_law_closed" Je ["_law_texts_here"] f fd):zH P w K mg base CX0 1 f fd ["_law_texts_here"] zlN:=by
 refine D.F.ok xB (fun vs H Q E h=>?_) (fun cdv A outer s H vs Q E hr h=>?_)
 ·obtain⟨l,rs,rfl,_⟩:=h
  rfl
 ·obtain⟨l,rs,rfl,hl,R,q⟩:=h
  obtain⟨C,c1,c8,hC⟩:=R.ex
  have hlo:=R.lo
  have hhi:=R.hi
  refine⟨_,(zd (zB (i:=1) xB.nd rfl (Or.inl rfl) (qu zb))
   (zd (qo PassesOwn.never rfl (qH (by rfl) T.qW (za (zx zG (by rfl) T.jd PySem.boot_len (za (pv 0) zb)) zb)) (zm (i:=2) xB.nd rfl (Or.inl rfl)) (zf (qo PassesOwn.never rfl (qH (by rfl) T.qW (za (zx yF (by rfl) T.jd PySem.boot_len (za (qx ju (pv 0) zq (fun _ _=>rfl)) zb)) zb)) (zm (i:=3) xB.nd rfl (Or.inl rfl)) (zf (jA (zQ Js (qx Yp (qx ju (pv 0) (pv 2) (fun _ _=>rfl)) (pv 3) (fun _ _=>rfl)) qQ (qc _)) (zf (yE (Jt PySem.F.plainAttrs_list PySem.F.slot_list_append PySem.F.type_list_append qY (pv 1) (za (yM (za (pv 2) (za (pv 3) zb))) zb)))) qk)))))
   (zf (zO (pv 1))))),?_⟩
  refine⟨(by show 0<=sizeLine;decide),fun d hd=>?_⟩
  have s0:zw H (upd H d (.lst [])):=ze hd
  have rl:(rs.map V.str).length=rs.length:=length_map _
  refine⟨_,rfl,l,_,rfl,.inl (SqL.of (s0 _ _ hl)),_,rfl,by omega,by omega,?_⟩
  rw [toNat_natCast,rl]
  refine qz (lo:=0) (n:=rs.length) (fun i σ H'=>∃(v2 v3:Option V) (ws:List V),σ=[some (.ref l),some (.ref d),v2,v3]/\zw H H'/\H' d=some (.lst ws)/\Cel H' ws (Cells.zP qJ 0 ((codes rs).take i))) ⟨_,_,[],rfl,s0,zc,.nil⟩ ?_ ?_
  ·rintro i σ H1 hi ⟨v2,v3,ws,rfl,s1,hd1,hc1⟩
   obtain⟨t0,ht0⟩:∃t0,rs[0]?=some t0:=⟨_,getElem?_eq_getElem (by omega)⟩
   obtain⟨t,ht⟩:∃t,rs[i]?=some t:=⟨_,getElem?_eq_getElem hi⟩
   have e0:t0.length=C:=(hC t0 (mem_of_getElem? ht0)).len
   have et:t.cps.toList.length=C:=by
    rw [length_toList]
    exact(hC t (mem_of_getElem? ht)).len
   have hat:∀{i:Nat} {t:Str},rs[i]?=some t->(rs.map V.str)[i]?=some (V.str t):=fun h=>by rw [getElem?_map,h];rfl
   refine⟨_,rfl,l,_,_,.str t0,rfl,rfl,SqL.of (s1 _ _ hl),jJ (by decide) (hat ht0),t0,rfl,R.tlen ht0,_,rfl,?_,?_,?_⟩
   ·show -(2^62)<=((t0.length:Nat):Int)
    omega
   ·show ((t0.length:Nat):Int)<2^62
    omega
   rw [toNat_natCast,e0]
   refine qz (lo:=0) (n:=C) (fun j σ H'=>∃(v3:Option V) (ws:List V),σ=[some (.ref l),some (.ref d),some (.int (0+(i:Int))),v3]/\zw H H'/\H' d=some (.lst ws)/\Cel H' ws (Cells.zP qJ 0 ((codes rs).take i)++Cells.z4 qJ i 0 (t.cps.toList.take j))) ⟨_,ws,rfl,s1,hd1,by rw [List.take_zero];show Cel H1 ws (_++[]);rw [append_nil];exact hc1⟩ ?_ ?_
   ·rintro j σ H2 hj ⟨v3,ws2,rfl,s2,hd2,hc2⟩
    obtain⟨k,hk⟩:∃k,t.cps.toList[j]?=some k:=⟨_,getElem?_eq_getElem (by omega)⟩
    have st:=Cells.Qu (p:=qJ) (i:=i) hk
    refine⟨_,rfl,_,rfl,l,_,_,.str t,rfl,rfl,SqL.of (s2 _ _ hl),jJ (by omega) (by rw [show ((0:Int)+(i:Int)).toNat=i by omega];exact hat ht),_,rfl,t,_,k,rfl,rfl,R.tlen ht,jJ (by omega) (by rw [show ((0:Int)+(j:Int)).toNat=j by omega];exact hk),rfl,_,rfl,?_⟩
    have ed:decide (V.str ⟨#[k]⟩=V.str "?")=decide (k=63):=by
     rw [ZW]
     simp only [Qw]
    rw [ed]
    by_cases hp:k=63
    ·rw [decide_eq_true hp]
     rw [if_pos (show qJ k=true from decide_eq_true hp)] at st
     refine Qd ?_
     have hlen:ws2.length<=1000:=by
      rw [hc2.length,length_append]
      have a1:=Cells.j3 qJ i 0 (t.cps.toList.take j)
      have a2:=Cells.jv qJ 0 ((codes rs).take i) fun u hu=>R.short u (mem_of_mem_take hu)
      rw [length_take] at a1 a2
      omega
     refine⟨_,rfl,.inl ⟨rfl,_,SqL.of hd2⟩,_,rfl,_,rfl,(by show 2<=sizeLine;decide),fun p hp=>?_⟩
     have s3:=ze (o:=.tup [.int (0+(i:Int)),.int (0+(j:Int))]) hp
     refine⟨d,_,_,rfl,rfl,s3 _ _ hd2,lt_of_le_of_lt hlen (by decide),?_⟩
     refine⟨_,ws2++[.ref p],rfl,fun b o e=>?_,zc,?_⟩
     ·rw [zj (zh e hd)]
      exact s3 _ _ (s2 _ _ e)
     ·rw [st,<- append_assoc]
      refine Cel.into d _ (s3 _ _ hd2) (Cel.snoc (Cel.mono s3 hc2) ⟨p,rfl,?_⟩)
      rw [zc,Int.zero_add,Int.zero_add]
    ·rw [decide_eq_false hp]
     rw [if_neg (show ¬ qJ k=true from fun y=>hp (of_decide_eq_true y)),append_nil] at st
     refine Qp ⟨_,ws2,rfl,s2,hd2,?_⟩
     rw [st]
     exact hc2
   ·rintro σ H2 ⟨v3,ws2,rfl,s2,hd2,hc2⟩
    refine⟨_,_,ws2,rfl,s2,hd2,?_⟩
    rw [take_of_length_le (l:=t.cps.toList) (by omega)] at hc2
    rw [Cells.Qv (jG ht)]
    exact hc2
  ·rintro σ H1 ⟨v2,v3,ws,rfl,s1,hd1,hc1⟩
   rw [take_of_length_le (by rw [jm];exact le_refl _)] at hc1
   exact⟨_,rfl,q d ws H1 hd hd1 hc1 s1⟩
end
def zee (na:Addr)(H:Hp):List V->List Qn->Prop:=Paired fun v q=>∃t l,v=V.ref t/\H t=some (.tup [.int q.1,.ref l])/\l≠na/\H l=some (.lst (pV q.2))
theorem zcO {na:Addr}{H H':Hp}(s:zw H H'){us:List V}{qs:List Qn}(hp:zee na H us qs):zee na H' us qs:=by
 induction hp with
 | nil=>exact .nil
 | cons q _ ih =>
  obtain⟨t,l,e,h1,n,h2⟩:=q
  exact .cons ⟨t,l,e,s _ _ h1,n,s _ _ h2⟩ ih
theorem zhK {na:Addr}{H:Hp}{us:List V}{qs:List Qn}(hp:zee na H us qs):za0 H us qs:=by
 induction hp with
 | nil=>exact .nil
 | cons q _ ih =>
  obtain⟨t,l,e,h1,_,h2⟩:=q
  exact .cons ⟨t,l,e,h1,h2⟩ ih
theorem zhL {na:Addr}{H:Hp}{xs ys:List V}(hz:H na=some (.lst xs)){us:List V}{qs:List Qn}(hp:zee na H us qs):zee na (upd H na (.lst ys)) us qs:=by
 induction hp with
 | nil=>exact .nil
 | cons q _ ih =>
  obtain⟨t,l,e,h1,n,h2⟩:=q
  exact .cons ⟨t,l,e,by rw [zj (zlh h1 hz (fun z=>nomatch z))];exact h1,n,by rw [zj n];exact h2⟩ ih
def ziP:Sp:=fun vs H Q _=>∃(l sa:Addr) (rs:List Str) (n:Nat) (sh:List Nat),vs=[.ref l,.ref sa]/\H l=some (.lst (rs.map V.str))/\H sa=some (.lst (pV sh))/\sh.length<=25/\Brd rs/\Wide rs n /\
 ∀(d:Addr) (us:List V) (H':Hp),H d=none->H' d=some (.lst us)->za0 H' us (ZE rs n sh (rs.length*n))->zw H H'->Q (.ref d) H'
theorem zhM (rs:List Str)(n:Nat)(sh:List Nat)(j:Nat):ZE rs n sh (j+1)=ZE rs n sh j++if (xV ((jE rs).getD j 0)&&(!(qX rs n sh j).isEmpty || !decide ((jE rs).getD j 0=48)))=true then [(((((jE rs).getD j 0:Nat):Int)-48),qX rs n sh j)] else []:=by
 unfold ZE
 rw [Yc,map_append]
 congr 1
 split<;>rfl
theorem zlO {xs:List Nat}{k:Nat}(hk:k<xs.length):(pV xs)[k]?=some (.int ((xs.getD k 0:Nat):Int)):=by
 unfold pV
 rw [getElem?_map,getD_eq_getElem?_getD,getElem?_eq_getElem hk]
 rfl
theorem zgD {n:Nat}:∀ts:List Str,(∀t∈ts,t.length=n)->(ts.map (·.length)).sum+ts.length*("":Str).length=ts.length*n:=fun ts h=>by
 have e0:("":Str).length=0:=by decide +kernel
 rw [e0,Nat.mul_zero,add_zero]
 induction ts with
 | nil=>simp
 | cons t r ih=>rw [map_cons,List.sum_cons,ih fun u hu=>h u (mem_cons_of_mem _ hu),h t mem_cons_self,length_cons,Nat.succ_mul,add_comm]
section
variable {P:Program}{w:World}{K:PySem.W.Frag}{mg:Str->Option Value}{base:Heap}{f:Addr}{fd:FuncData}
theorem qG:zL ["_law_texts_here","_law_shut","_law_rows","_law_columns","_law_signs_here","_law_found","_law_at","_law_near_here","_law_spots"] ["_law_texts_here","_law_shut"] (zg yc):=⟨rfl,rfl,rfl,by decide +kernel,rfl,by decide +kernel,by decide +kernel⟩
theorem zcP (T:Txt mg)(Z:Prog K mg)(D:zo K mg "_law_numbers" yc ["_law_texts_here","_law_shut"] f fd):zH P w K mg base CX0 2 f fd ["_law_texts_here","_law_shut"] ziP:=by
 obtain⟨QE,YF,jz⟩:=Z.law_near
 have QF:zH P w K mg base CX0 1 QE YF ["_law_at","_law_rows","_law_columns"] zeY:=zbg T jz
 refine D.F.ok qG (fun vs H Q E h=>?_) (fun cdv A outer s H vs Q E hr h=>?_)
 ·obtain⟨l,sa,rs,n,sh,rfl,_⟩:=h
  rfl
 ·obtain⟨l,sa,rs,n,sh,rfl,hl,hsa,sl,B,W,q⟩:=h
  have r1:=B.r1
  have r5:=B.r5
  have n1:=W.n1
  have n5:=W.n5
  have N25:rs.length*n<=5*5:=mul_le_mul r5 n5
  obtain⟨t0,ht0⟩:∃t,rs[0]?=some t:=⟨_,getElem?_eq_getElem (by omega)⟩
  have t0n:t0.length=n:=(W.row t0 (mem_of_getElem? ht0)).len
  have em:(((rs.length:Nat):Int)*((n:Nat):Int)).toNat=rs.length*n:=by
   rw [<- natCast_mul,toNat_natCast]
  have emi:(((rs.length:Nat):Int)*((n:Nat):Int))=((rs.length*n:Nat):Int):=(natCast_mul _ _).symm
  refine⟨_,(zd (zB (i:=2) qG.nd rfl (Or.inl rfl) (zx zG (by rfl) T.jd PySem.boot_len (za (pv 0) zb)))
   (zd (zB (i:=3) qG.nd rfl (Or.inl rfl) (zx yF (by rfl) T.jd PySem.boot_len (za (qx ju (pv 0) zq (fun _ _=>rfl)) zb)))
   (zd (zB (i:=4) qG.nd rfl (Or.inl rfl) (Jt PySem.F.plainAttrs_str PySem.F.slot_str_join PySem.F.type_str_join zer qQ (za (pv 0) zb)))
   (zd (zB (i:=5) qG.nd rfl (Or.inl rfl) (qu zb))
   (zd (qo PassesOwn.never rfl (qH (by rfl) T.qW (za (zD yf (pv 2) (pv 3)) zb)) (zm (i:=6) qG.nd rfl (Or.inl rfl)) (zf (jA (zQ QX (qx Yp (pv 4) (pv 6) (fun _ _=>rfl)) qQ (by rfl)) (zd (zB (i:=7) qG.nd rfl (Or.inr rfl) (zp QF (hr.mono (by decide)) (by rfl) jz.g jz.F.kp jz.b .nil zI (za (pv 6) (za (pv 2) (za (pv 3) zb)))))
   (zd (ZO (i:=8) qG.nd rfl rfl (N:=["_law_k","_law_near_here","_law_shut"]) (src:=[none,some 7,some 1]) (zW.free (O:=(zg yc).names) (XN:=["_law_texts_here","_law_shut","_law_rows","_law_columns","_law_signs_here","_law_found","_law_at","_law_near_here","_law_spots"]) rfl rfl ⟨_,rfl⟩ rfl rfl (by decide +kernel) (by decide +kernel) (by decide +kernel) rfl (by decide +kernel)) rfl (qH (by rfl) T.qW (za (zx zG (by rfl) T.jd PySem.boot_len (za (pv 1) zb)) zb)) (fun _ _ _ _ _=>(zm (i:=0) (by show List.Nodup (["_law_k","_law_near_here","_law_shut"]:List Str);decide +kernel) rfl (Or.inl rfl))) (fun _ _ _ _ _=>(qE (zQ (zbZ (K:=K) (by rfl)) (qx (Q0 (K:=K) (by rfl)) (pv 2) (pv 0) (fun _ _=>rfl)) (pv 1) (by rfl)))) (fun _ _ _ _ _=>(pv 0)))
   (zf (jA (PW.pt (zj2 (zQ (ZK hr.units) (pv 8) (qu zb) (qc _)) (zgL (zQ QN (qx Yp (pv 4) (pv 6) (fun _ _=>rfl)) qQ (qc _))))) (zf (yE (Jt PySem.F.plainAttrs_list PySem.F.slot_list_append PySem.F.type_list_append qY (pv 5) (za (yM (za (jk ZL (by rfl) T.zfW PyProof.Rows.boot_int (za (qx Yp (pv 4) (pv 6) (fun _ _=>rfl)) zb)) (za (pv 8) zb))) zb)))) qk)))) qk)))
   (zf (zO (pv 5)))))))),?_⟩
  refine⟨_,rfl,l,_,rfl,.inl (SqL.of hl),?_⟩
  rw [length_map]
  refine⟨_,rfl,l,_,0,.str t0,rfl,rfl,SqL.of hl,jJ (by omega) (by show (rs.map V.str)[0]?=_;rw [getElem?_map,ht0];rfl),t0,rfl,?_⟩
  rw [t0n]
  have fz:(Str.join "" rs).cps.toList=jE rs:=za2 rs
  have zl:(Str.join "" rs).length=rs.length*n:=by
   show (Str.join "" rs).cps.size=_
   rw [<- length_toList,fz,W.flat]
  refine⟨le_trans (show n<=64 by omega) (by decide),rfl,_,rfl,"",l,rs,rfl,rfl,SqL.of hl,?_,?_⟩
  ·rw [zgD rs fun t ht=>(W.row t ht).len]
   exact le_trans N25 (by decide)
  generalize Str.join "" rs=z at *
  have zat:∀{x:Nat},x<rs.length*n->atI z.cps.toList ((x:Nat):Int)=some ((jE rs).getD x 0):=fun {x} hx=>jJ (by omega) (by rw [toNat_natCast,fz];exact zm4 W hx)
  have zsz:z.length<=sizeLine:=le_trans (show z.length<=64 by omega) (by decide)
  refine⟨(by show 0<=sizeLine;decide),fun na hna=>?_⟩
  have s0:zw H (upd H na (.lst [])):=ze hna
  refine⟨_,rfl,_,rfl,_,_,rfl,rfl,zcW (by omega) (by omega),_,rfl,by omega,by omega,?_⟩
  refine qz (lo:=0) (n:=(((rs.length:Nat):Int)*((n:Nat):Int)).toNat) (fun j σ H'=>∃(v6 v7 v8:Option V) (us:List V),σ=[some (.ref l),some (.ref sa),some (.int (rs.length:Nat)),some (.int (n:Nat)),some (.str z),some (.ref na),v6,v7,v8]/\zw H H'/\H' na=some (.lst us)/\zee na H' us (ZE rs n sh j)/\us.length<=j)
   ⟨_,_,_,[],rfl,s0,zc,.nil,zero_le _⟩ ?_ ?_
  ·rintro j σ H2 hj' ⟨v6,v7,v8,us,rfl,s2,zgE,hN2,usl⟩
   have hj:j<rs.length*n:=by omega
   rw [show (0:Int)+(j:Nat)=((j:Nat):Int) by omega]
   have st:=zhM rs n sh j
   refine⟨_,rfl,_,rfl,z,_,_,rfl,rfl,zsz,zat hj,_,_,rfl,rfl,_,rfl,?_⟩
   have hb:=zhJ (zm3 W hj)
   by_cases hp:xV ((jE rs).getD j 0)=true
   ·refine yN (hb.trans hp) ?_
    rw [hp,Bool.true_and] at st
    refine⟨_,rfl,_,rfl,_,rfl,j,rs.length,n,rfl,r5,n1,n5,hj,fun np H3 hnp zpk s3=>?_⟩
    have hs3:=(s2.trans s3) _ _ hsa
    refine⟨_,rfl,sa,_,rfl,.inl (SqL.of hs3),_,rfl,by omega,by rw [J8];omega,fun y hy=>?_⟩
    rw [toNat_natCast,J8]
    have yna:y≠na:=fun e=>by
     subst e
     rw [s3 _ _ zgE] at hy
     cases hy
    refine Qs (lo:=0) (n:=sh.length) (fun i σ' H'=>∃(u0:Option V),σ'=[u0,some (.ref np),some (.ref sa)]/\zw H3 H'/\H' y=some (.lst (pV ((List.range i).filter fun k=>decide (sh.getD k 0∈xW rs.length n j)))))
     ⟨_,rfl,ze hy,zc⟩ ?_ ?_
    ·rintro i σ' H4 hi ⟨u0,rfl,s4,hy4⟩
     rw [show (0:Int)+(i:Nat)=((i:Nat):Int) by omega]
     have st2:=Yc (p:=fun k=>decide (sh.getD k 0∈xW rs.length n j)) i
     refine⟨_,rfl,_,rfl,sa,_,_,_,rfl,rfl,SqL.of (s4 _ _ hs3),jJ (by omega) (by rw [toNat_natCast];exact zlO hi),_,rfl,np,_,rfl,.inl (SqL.of (s4 _ _ zpk)),rfl,ziN _,_,rfl,?_⟩
     have hb2:(if false=true then !inV (.int ((sh.getD i 0:Nat):Int)) (pV (xW rs.length n j)) else inV (.int ((sh.getD i 0:Nat):Int)) (pV (xW rs.length n j)))=decide (sh.getD i 0∈xW rs.length n j):=zm2 _ _
     by_cases hp2:decide (sh.getD i 0∈xW rs.length n j)=true
     ·rw [if_pos hp2] at st2
      refine yN (hb2.trans hp2) ⟨_,rfl,_,hy4,?_,_,rfl,fun b o e=>?_,?_⟩
      ·rw [J8]
       refine lt_of_le_of_lt (le_trans (length_filter_le _ _) ?_) (show 64<sizeLine by decide)
       rw [length_range]
       omega
      ·rw [zj (zh e hy)]
       exact s4 _ _ e
      ·rw [zc,st2,ze5]
     ·rw [if_neg hp2,append_nil] at st2
      exact yk (hb2.trans (Bool.eq_false_iff.mpr hp2)) ⟨_,rfl,s4,by rw [st2];exact hy4⟩
    rintro σ' H4 ⟨u0,rfl,s4,hy4⟩
    have esp:(List.range sh.length).filter (fun k=>decide (sh.getD k 0∈xW rs.length n j))=qX rs n sh j:=rfl
    rw [esp] at hy4
    refine⟨_,rfl,(by show 0<=sizeLine;decide),fun t ht=>?_⟩
    have z5:=ze (o:=.lst []) ht
    refine⟨_,_,zgd (SqL.of (by rw [<- zoU];exact z5 _ _ hy4)),zgd (xs:=[]) (SqL.of zc),zjK _ _,_,rfl,?_⟩
    have hb3:(if true=true then !PyData.eqv (Zy ((qX rs n sh j).map fun x=>((x:Nat):Int))) (Zy []) else PyData.eqv (Zy ((qX rs n sh j).map fun x=>((x:Nat):Int))) (Zy []))=!(qX rs n sh j).isEmpty:=by
     rw [if_pos rfl,zjY,List.isEmpty_map]
    have s25:=(s3.trans s4).trans z5
    have hna5:=s25 _ _ zgE
    have hN5:=zcO s25 hN2
    have hy5:=z5 _ _ hy4
    generalize upd H4 t (.lst [])=H5 at *
    obtain⟨g1,g2⟩:=zaQ (zm3 W hj) hp
    have hb4:(!decide (V.str ⟨#[(jE rs).getD j 0]⟩=V.str "0"))=!decide ((jE rs).getD j 0=48):=by rw [ziM,JY]
    by_cases hp3:(!(qX rs n sh j).isEmpty || !decide ((jE rs).getD j 0=48))=true
    ·rw [if_pos hp3] at st
     by_cases h1:(!(qX rs n sh j).isEmpty)=true
     case' pos=>refine yN (hb3.trans h1) (Qd ?_)
     case' neg =>
      have h2:(!decide ((jE rs).getD j 0=48))=true:=by
       rw [Bool.eq_false_iff.mpr h1,Bool.false_or] at hp3
       exact hp3
      refine yk (hb3.trans (Bool.eq_false_iff.mpr h1)) ?_
      refine⟨_,rfl,_,rfl,z,_,_,rfl,rfl,zsz,zat hj,rfl,_,rfl,yN (hb4.trans h2) ?_⟩
     all_goals
      refine⟨_,rfl,.inl ⟨rfl,_,SqL.of hna5⟩,_,rfl,_,rfl,z,_,_,rfl,rfl,zsz,zat hj,_,_,rfl,int_sign g1 g2,(by show 1<=640;decide),_,rfl,(by show 2<=sizeLine;decide),fun tp htp=>?_⟩
      have z6:=ze (o:=.tup [.int ((((jE rs).getD j 0:Nat):Int)-48),.ref y]) htp
      have tna:tp≠na:=fun e=>by
       subst e
       rw [hna5] at htp
       cases htp
      refine⟨na,us,_,rfl,rfl,z6 _ _ hna5,lt_of_le_of_lt (show us.length<=64 by omega) (by decide),_,_,_,us++[.ref tp],rfl,fun b o e=>?_,zc,?_,?_⟩
      ·rw [zj (zh e hna)]
       exact z6 _ _ (s25 _ _ (s2 _ _ e))
      ·rw [st]
       exact Paired.snoc (zhL (z6 _ _ hna5) (zcO z6 hN5)) ⟨tp,y,rfl,by rw [zj tna];exact zc,yna,by rw [zj yna];exact z6 _ _ hy5⟩
      ·rw [length_append]
       show _+1<=_
       omega
    ·have h1:(!(qX rs n sh j).isEmpty)=false:=by
      rw [Bool.or_eq_true,not_or] at hp3
      exact Bool.eq_false_iff.mpr hp3.1
     have h2:(!decide ((jE rs).getD j 0=48))=false:=by
      rw [Bool.or_eq_true,not_or] at hp3
      exact Bool.eq_false_iff.mpr hp3.2
     rw [if_neg hp3,append_nil] at st
     refine yk (hb3.trans h1) ⟨_,rfl,_,rfl,z,_,_,rfl,rfl,zsz,zat hj,rfl,_,rfl,yk (hb4.trans h2) ⟨_,_,_,us,rfl,s2.trans s25,hna5,?_,by omega⟩⟩
     rw [st]
     exact hN5
   ·rw [Bool.eq_false_iff.mpr hp,Bool.false_and,if_neg (by decide),append_nil] at st
    refine yk (hb.trans (Bool.eq_false_iff.mpr hp)) ⟨_,_,_,us,rfl,s2,zgE,?_,by omega⟩
    rw [st]
    exact hN2
  rintro σ H2 ⟨v6,v7,v8,us,rfl,s2,zgE,hN2',_⟩
  rw [em] at hN2'
  exact⟨_,rfl,q na us H2 hna zgE (zhK hN2') s2⟩
end
def zlP:Sp:=fun vs H Q _=>∃(l:Addr) (rs:List Str) (n:Nat) (st:Int),vs=[.ref l,.int st]/\H l=some (.lst (rs.map V.str))/\Brd rs/\Wide rs n /\
 ∀(d:Addr) (us:List V) (N:Addr->Prop) (H':Hp),H d=none->H' d=some (.lst us)->jt N H' us (zbi rs n st)->zw H H'->Q (.ref d) H'
noncomputable def za3 (rs:List Str)(n:Nat)(S:List Nat):List (Int×Int):=S.map fun k=>toI (pos n ((jj rs n).getD k 0))
section
variable {P:Program}{w:World}{K:PySem.W.Frag}{mg:Str->Option Value}{base:Heap}{f:Addr}{fd:FuncData}
theorem jo:zL ["_law_texts_here","_law_stones","_law_signs_here","_law_shut","_law_numbers_here","_law_found","_law_some"] ["_law_texts_here","_law_stones"] (zg jF):=⟨rfl,rfl,rfl,by decide +kernel,rfl,by decide +kernel,by decide +kernel⟩
theorem zcQ (T:Txt mg)(Z:Prog K mg)(D:zo K mg "_law_layings" jF ["_law_texts_here","_law_stones"] f fd):zH P w K mg base CX0 3 f fd ["_law_texts_here","_law_stones"] zlP:=by
 obtain⟨zde,zcR,xC⟩:=Z.law_numbers
 obtain⟨zhN,zgF,Yd⟩:=Z.law_fits
 obtain⟨zdf,zcS,xD⟩:=Z.law_choices
 have zdg:zH P w K mg base CX0 2 zde zcR ["_law_texts_here","_law_shut"] ziP:=zcP T Z xC
 have zhO:zH P w K mg base CX0 1 zhN zgF ["_law_some","_law_numbers_here"] zlG:=zgy T Yd
 have zdh:zH P w K mg base CX0 1 zdf zcS ["_law_many"] zlI:=zcL T xD
 refine D.F.ok jo (fun vs H Q E h=>?_) (fun cdv A outer s H vs Q E hr h=>?_)
 ·obtain⟨l,rs,n,st,rfl,_⟩:=h
  rfl
 ·obtain⟨l,rs,n,st,rfl,hl,B,W,q⟩:=h
  have r1:=B.r1
  have r5:=B.r5
  have n1:=W.n1
  have n5:=W.n5
  have N25:rs.length*n<=5*5:=mul_le_mul r5 n5
  obtain⟨t0,ht0⟩:∃t,rs[0]?=some t:=⟨_,getElem?_eq_getElem (by omega)⟩
  have t0n:t0.length=n:=(W.row t0 (mem_of_getElem? ht0)).len
  have fz:(Str.join "" rs).cps.toList=jE rs:=za2 rs
  have zl:(Str.join "" rs).length=rs.length*n:=by
   show (Str.join "" rs).cps.size=_
   rw [<- length_toList,fz,W.flat]
  refine⟨_,(zd (zB (i:=2) jo.nd rfl (Or.inr rfl) (Jt PySem.F.plainAttrs_str PySem.F.slot_str_join PySem.F.type_str_join zer qQ (za (pv 0) zb)))
   (zd (zB (i:=3) jo.nd rfl (Or.inr rfl) (qm (N:=["_law_at","_law_signs_here"]) (src:=[none,some 2]) (zW.free (O:=(zg jF).names) (XN:=["_law_texts_here","_law_stones","_law_signs_here","_law_shut","_law_numbers_here","_law_found","_law_some"]) rfl rfl ⟨_,rfl⟩ rfl rfl (by decide +kernel) (by decide +kernel) (by decide +kernel) rfl (by decide +kernel)) rfl (qH (by rfl) T.qW (za (zx yF (by rfl) T.jd PySem.boot_len (za (pv 2) zb)) zb)) (fun _ _ _ _ _=>(zm (i:=0) (by show List.Nodup (["_law_at","_law_signs_here"]:List Str);decide +kernel) rfl (Or.inl rfl))) (fun _ _ _ _ _=>(qE (zQ Js (qx Yp (pv 1) (pv 0) (fun _ _=>rfl)) qQ (qc _)))) (fun _ _ _ _ _=>(pv 0))))
   (zd (zB (i:=4) jo.nd rfl (Or.inl rfl) (zp zdg (hr.mono (by decide)) (by rfl) xC.g xC.F.kp xC.b .nil zI (za (pv 0) (za (pv 3) zb))))
   (zd (zB (i:=5) jo.nd rfl (Or.inl rfl) (qu zb))
   (zd (qo PassesOwn.never rfl (zT (zp zdh (hr.mono (by decide)) (by rfl) xD.g xD.F.kp xD.b .nil zI (za (zx zG (by rfl) T.jd PySem.boot_len (za (pv 3) zb)) zb))) (zm (i:=6) jo.nd rfl (Or.inl rfl)) (zf (jA (PW.pt (zej (zQ Js (zx zG (by rfl) T.jd PySem.boot_len (za (pv 6) zb)) (pv 1) (qc _)) (zbq (J9 (zp zhO (hr.mono (by decide)) (by rfl) Yd.g Yd.F.kp Yd.b .nil zI (za (pv 6) (za (pv 4) zb))) (fun _=>rfl))))) (zf (yE (Jt PySem.F.plainAttrs_list PySem.F.slot_list_append PySem.F.type_list_append qY (pv 5) (za (qm (N:=["_law_k","_law_shut","_law_texts_here"]) (src:=[none,some 3,some 0]) (zW.free (O:=(zg jF).names) (XN:=["_law_texts_here","_law_stones","_law_signs_here","_law_shut","_law_numbers_here","_law_found","_law_some"]) rfl rfl ⟨_,rfl⟩ rfl rfl (by decide +kernel) (by decide +kernel) (by decide +kernel) rfl (by decide +kernel)) rfl (zT (pv 6)) (fun _ _ _ _ _=>(zm (i:=0) (by show List.Nodup (["_law_k","_law_shut","_law_texts_here"]:List Str);decide +kernel) rfl (Or.inl rfl))) (fun _ _ _ _ _=>qS) (fun _ _ _ _ _=>(zx za5 (by rfl) T.zfV PyProof.Rows.boot_divmod (za (qx (Q0 (K:=K) (by rfl)) (pv 1) (pv 0) (fun _ _=>rfl)) (za (zx yF (by rfl) T.jd PySem.boot_len (za (qx (Q0 (K:=K) (by rfl)) (pv 2) zq (fun _ _=>rfl)) zb)) zb))))) zb)))) qk)))
   (zf (zO (pv 5)))))))),?_⟩
  refine⟨rfl,_,rfl,"",l,rs,rfl,rfl,SqL.of hl,?_,?_⟩
  ·rw [zgD rs fun t ht=>(W.row t ht).len]
   exact le_trans N25 (by decide)
  generalize Str.join "" rs=z at *
  have zat:∀{x:Nat},x<rs.length*n->atI z.cps.toList ((x:Nat):Int)=some ((jE rs).getD x 0):=fun {x} hx=>jJ (by omega) (by rw [toNat_natCast,fz];exact zm4 W hx)
  have zsz:z.length<=sizeLine:=le_trans (show z.length<=64 by omega) (by decide)
  refine⟨_,rfl,z,rfl,zsz,_,rfl,by omega,by omega,fun sa hsa=>?_⟩
  rw [zl,toNat_natCast]
  refine Qs (lo:=0) (n:=rs.length*n) (fun i σ' H'=>∃(u0:Option V),σ'=[u0,some (.str z)]/\zw H H'/\H' sa=some (.lst (pV ((List.range i).filter fun x=>decide ((jE rs).getD x 0=63)))))
   ⟨_,rfl,ze hsa,zc⟩ ?_ ?_
  ·rintro i σ' H1 hi ⟨u0,rfl,s1,hs1⟩
   rw [show (0:Int)+(i:Nat)=((i:Nat):Int) by omega]
   have st2:=Yc (p:=fun x=>decide ((jE rs).getD x 0=63)) i
   refine⟨_,rfl,_,rfl,z,_,_,rfl,rfl,zsz,zat hi,rfl,_,rfl,?_⟩
   have hb:decide (V.str ⟨#[(jE rs).getD i 0]⟩=V.str "?")=decide ((jE rs).getD i 0=63):=by rw [ZW,JY]
   by_cases h63:decide ((jE rs).getD i 0=63)=true
   ·rw [if_pos h63] at st2
    refine yN (hb.trans h63) ⟨_,rfl,_,hs1,?_,_,rfl,fun b o e=>?_,?_⟩
    ·rw [J8]
     refine lt_of_le_of_lt (le_trans (length_filter_le _ _) ?_) (show 64<sizeLine by decide)
     rw [length_range]
     omega
    ·rw [zj (zh e hsa)]
     exact s1 _ _ e
    ·rw [zc,st2,ze5]
   ·rw [if_neg h63,append_nil] at st2
    exact yk (hb.trans (Bool.eq_false_iff.mpr h63)) ⟨_,rfl,s1,by rw [st2];exact hs1⟩
  rintro σ' H1 ⟨u0,rfl,s1,hs1⟩
  rw [show (List.range (rs.length*n)).filter (fun x=>decide ((jE rs).getD x 0=63))=jj rs n from rfl] at hs1
  have m10:(jj rs n).length<=10:=by
   have h1:=B.sh
   rw [<- zcN W,length_map] at h1
   exact h1
  have shN:∀{k:Nat},k<(jj rs n).length->(jj rs n).getD k 0<64:=fun hk=>by
   have:=((zlJ W).mp (getD_mem hk)).1
   omega
  refine⟨_,rfl,_,rfl,l,sa,rs,n,jj rs n,rfl,s1 _ _ hl,hs1,by omega,B,W,fun na un H2 hna zgE hN2 s2=>?_⟩
  have hs2:=s2 _ _ hs1
  have q64:∀q∈ZE rs n (jj rs n) (rs.length*n),q.2.length<=64:=fun q hq=>by
   obtain⟨x,_,rfl⟩:=List.mem_map.mp hq
   show (qX rs n (jj rs n) x).length<=64
   refine le_trans (length_filter_le _ _) ?_
   rw [length_range]
   omega
  refine⟨(by show 0<=sizeLine;decide),fun fo hfo=>?_⟩
  have z3:=ze (o:=.lst []) hfo
  have hfo3:upd H2 fo (.lst []) fo=some (.lst []):=zc
  have s03:=(s1.trans s2).trans z3
  have hs3:=z3 _ _ hs2
  have hna3:=z3 _ _ zgE
  have hN3:=zed z3 hN2
  have fo0:H fo=none:=(s1.trans s2).free hfo
  generalize upd H2 fo (.lst [])=H3 at *
  have hl3:=s03 _ _ hl
  refine⟨_,rfl,sa,_,rfl,.inl (SqL.of hs3),(pV (jj rs n)).length,rfl,by rw [J8];omega,fun d us5 H5 hd hd5 hP5 hnw s5=>⟨d,rfl,⟨_,SqL.of hd5⟩,?_⟩⟩
  rw [J8] at hP5
  have np5:∀v∈us5,v≠V.ref fo:=fun v hv e=>by
   have:=hnw v hv fo e
   rw [hfo3] at this
   cases this
  have hfo5:=s5 _ _ hfo3
  have dfo:fo≠d:=fun e=>by
   subst e
   rw [hfo3] at hd
   cases hd
  have s25:=z3.trans s5
  refine j9 (K:=K) (a:=d) (xs:=us5) (fun i σ H'=>∃(v6:Option V) (ws:List V),σ=[some (.ref l),some (.int st),some (.str z),some (.ref sa),some (.ref na),some (.ref fo),v6]/\zw H2 H'/\H' d=some (.lst us5)/\PLs H' us5 (Subs.subs (List.range (jj rs n).length))/\H' fo=some (.lst ws)/\jt (fun a=>a≠fo) H' ws ((((Subs.subs (List.range (jj rs n).length)).take i).filter fun S=>decide (((S.length:Nat):Int)=st)&&zax (ZE rs n (jj rs n) (rs.length*n)) S).map (za3 rs n)))
   ⟨_,[],rfl,s25,hd5,hP5,hfo5,.nil⟩ (fun i σ H' _ ⟨_,_,_,_,y,_⟩=>SqL.of y) ?_ ?_
  ·rintro i v σ H6 hv ⟨v6,ws,rfl,s6,hd6,hP6,hfo6,hL6⟩
   obtain⟨S,a,hS,rfl,ha⟩:=zlH hP6 hv
   have il:=(List.getElem?_eq_some_iff.mp hS).1
   have i1024:i<1024:=by
    rw [za1,length_range] at il
    exact lt_of_lt_of_le il (le_trans (pow_le_pow_right (by decide) m10) (by decide))
   have Ssub:=Tally.jL (mem_of_getElem? hS)
   have Sl:S.length<=10:=by
    have:=Ssub.length_le
    rw [length_range] at this
    omega
   have st2:=zbj (p:=fun S=>decide (((S.length:Nat):Int)=st)&&zax (ZE rs n (jj rs n) (rs.length*n)) S) hS
   have wlen:ws.length<=1024:=by
    rw [ja hL6,length_map]
    refine le_trans (length_filter_le _ _) ?_
    rw [length_take]
    omega
   refine⟨_,rfl,a,_,rfl,.inl (SqL.of ha),_,rfl,rfl,_,rfl,?_⟩
   have hb:decide (V.int (((pV S).length:Nat):Int)=V.int st)=decide (((S.length:Nat):Int)=st):=by
    rw [J8]
    exact decide_eq_decide.mpr ⟨fun h=>by injection h,fun h=>by rw [h]⟩
   by_cases h1:decide (((S.length:Nat):Int)=st)=true
   ·rw [h1,Bool.true_and] at st2
    refine yN (hb.trans h1) ?_
    refine⟨_,rfl,_,rfl,a,na,S,un,_,rfl,ha,s6 _ _ zgE,zed s6 hN2,q64,fun H7 s7=>?_⟩
    have ha7:=s7 _ _ ha
    have hfo7:=s7 _ _ hfo6
    have hL7:=qi s7 hL6
    have s27:=s6.trans s7
    by_cases hf:zax (ZE rs n (jj rs n) (rs.length*n)) S=true
    ·rw [if_pos hf] at st2
     rw [hf]
     refine⟨true,rfl,Qd ?_⟩
     refine⟨_,rfl,.inl ⟨rfl,_,SqL.of hfo7⟩,_,rfl,a,rfl,⟨_,SqL.of ha7⟩,fun y hy=>?_⟩
     have yfo:y≠fo:=fun e=>by
      subst e
      rw [hfo7] at hy
      cases hy
     refine qA (K:=K) (a:=a) (xs:=pV S) (fun j σ' H'=>∃(u0:Option V) (ys:List V),σ'=[u0,some (.ref sa),some (.ref l)]/\zw H7 H'/\H' y=some (.lst ys)/\yO H' ys (za3 rs n (S.take j)))
      ⟨_,[],rfl,ze hy,zc,.nil⟩ (fun j σ' H' _ ⟨_,_,_,s8,_⟩=>SqL.of (s8 _ _ ha7)) ?_ ?_
     ·rintro j x σ' H8 hx ⟨u0,ys,rfl,s8,hy8,hT8⟩
      obtain⟨k,hk,rfl⟩:=zlF hx
      have jl:=(List.getElem?_eq_some_iff.mp hk).1
      have kl:=List.mem_range.mp (Ssub.subset (mem_of_getElem? hk))
      have s28:=s27.trans s8
      unfold xU
      refine QA ?_
      refine⟨_,rfl,_,rfl,sa,_,_,_,rfl,rfl,SqL.of (s28 _ _ hs2),jJ (by omega) (by rw [toNat_natCast];exact zlO kl),_,rfl,l,_,0,.str t0,rfl,rfl,SqL.of (s28 _ _ (s2 _ _ (s1 _ _ hl))),jJ (by omega) (by show (rs.map V.str)[0]?=_;rw [getElem?_map,ht0];rfl),t0,rfl,?_⟩
      rw [t0n]
      refine⟨le_trans (show n<=64 by omega) (by decide),_,_,rfl,⟨by omega,by omega⟩,fun tp htp=>?_⟩
      have z9:=ze (o:=.tup [.int ((((jj rs n).getD k 0:Nat):Int)/((n:Nat):Int)),.int ((((jj rs n).getD k 0:Nat):Int)%((n:Nat):Int))]) htp
      have ty:tp≠y:=fun e=>by
       subst e
       rw [hy8] at htp
       cases htp
      refine⟨_,z9 _ _ hy8,?_,_,ys++[.ref tp],rfl,fun b o e=>?_,zc,?_⟩
      ·rw [zcf hT8]
       unfold za3
       rw [length_map,length_take]
       exact lt_of_le_of_lt (show _<=64 by omega) (by decide)
      ·rw [zj (zh e hy)]
       exact z9 _ _ (s8 _ _ e)
      ·have e1:za3 rs n (S.take (j+1))=za3 rs n (S.take j)++[toI (pos n ((jj rs n).getD k 0))]:=by
        unfold za3
        rw [take_add_one,hk,map_append]
        rfl
       rw [e1]
       refine zf7 (Jp (z9 _ _ hy8) (yT z9 hT8)) (.cons ⟨tp,rfl,?_⟩ .nil)
       rw [zj ty]
       exact zc
     rintro σ' H8 ⟨u0,ys,rfl,s8,hy8,hT8⟩
     rw [J8,take_length] at hT8
     have hfo8:=s8 _ _ hfo7
     refine⟨fo,ws,_,rfl,rfl,hfo8,lt_of_le_of_lt wlen (by decide),_,ws++[.ref y],rfl,fun b o e=>?_,?_,?_,zc,?_⟩
     ·rw [zj (zh e hfo)]
      exact s8 _ _ (s27 _ _ e)
     ·rw [zj (Ne.symm dfo)]
      exact s8 _ _ (s7 _ _ hd6)
     ·exact zgx (YG (s7.trans s8) hP6) np5
     ·rw [st2,map_append]
      exact Zx (yU hfo8 (fun _ h=>h) (qi s8 hL7)) (.cons ⟨y,ys,rfl,yfo,by rw [zj yfo];exact hy8,Jp hfo8 hT8⟩ .nil)
    ·have hf':=Bool.eq_false_iff.mpr hf
     rw [if_neg hf,append_nil] at st2
     rw [hf']
     refine⟨false,rfl,Qp ?_⟩
     exact⟨_,ws,rfl,s27,s7 _ _ hd6,YG s7 hP6,hfo7,by rw [st2];exact hL7⟩
   ·have h1':=Bool.eq_false_iff.mpr h1
    rw [h1',Bool.false_and,if_neg (by decide),append_nil] at st2
    refine yk (hb.trans h1') (Qp ?_)
    exact⟨_,ws,rfl,s6,hd6,hP6,hfo6,by rw [st2];exact hL6⟩
  rintro σ H6 ⟨v6,ws,rfl,s6,hd6,hP6,hfo6,hL6⟩
  rw [Yb hP5,take_length] at hL6
  exact⟨_,rfl,q fo ws _ H6 fo0 hfo6 hL6 ((s1.trans s2).trans s6)⟩
end
def zgG:Sp:=fun vs H Q _=>∃n:Int,vs=[.int n]/\Q (.bl true) H
section
variable {P:Program}{w:World}{K:PySem.W.Frag}{mg:Str->Option Value}{base:Heap}{f:Addr}{fd:FuncData}
theorem ze6:zL ["_law_found"] ["_law_found"] (zg JR):=⟨rfl,rfl,rfl,by decide +kernel,rfl,by decide +kernel,by decide +kernel⟩
theorem ze7 (T:Txt mg)(D:zo K mg "_law_whole" JR ["_law_found"] f fd):zH P w K mg base CX0 1 f fd ["_law_found"] zgG:=by
 refine D.F.ok ze6 (fun vs H Q E h=>?_) (fun cdv A outer s H vs Q E hr h=>?_)
 ·obtain⟨n,rfl,_⟩:=h
  rfl
 ·obtain⟨n,rfl,k⟩:=h
  refine⟨_,(zf (zO (zj4 (zx za6 (by rfl) T.zaj PyProof.Rows.boot_isinstance (za (pv 0) (za (zh5 (v:=.ty "int") (by rfl) T.zfW PyProof.Rows.boot_int (by rfl)) zb))) (zj3 (znc (zx za6 (by rfl) T.zaj PyProof.Rows.boot_isinstance (za (pv 0) (za (zh5 (v:=.ty "bool") (by rfl) T.znN PyProof.Rows.boot_bool (by rfl)) zb)))))))),?_⟩
  refine⟨_,rfl,_,"int","int",true,rfl,.int n,(by decide +kernel),true,rfl,Qd ?_⟩
  exact⟨_,rfl,_,"int","bool",false,rfl,.int n,(by decide +kernel),false,rfl,k⟩
end
def zm5:Sp:=fun vs H Q _=>∃(l:Addr) (rs:List Str) (st:Int),vs=[.ref l,.int st]/\H l=some (.lst (rs.map V.str))/\Brd rs/\0<=st/\st<=64/\∀H',zw H H'->Q (.bl true) H'
def ziQ (K:PySem.W.Frag):Sp:=fun vs H Q _=>∃(a:Addr) (ns:List Int),vs=[.ref a]/\SqL K H a (ns.map V.int)/\ns.length<=63/\∀H',Q (.bl true) H'
theorem zcT {a b:Int}(h:a=b):decide (V.int a=V.int b)=true:=decide_eq_true (by rw [h])
section
variable {P:Program}{w:World}{K:PySem.W.Frag}{mg:Str->Option Value}{base:Heap}{f:Addr}{fd:FuncData}
theorem yW:zL ["_law_texts_here","_law_stones","_law_board_here","_law_fitting","_law_found","_law_cell"] ["_law_texts_here","_law_stones"] (zg Zp):=⟨rfl,rfl,rfl,by decide +kernel,rfl,by decide +kernel,by decide +kernel⟩
theorem zhP (T:Txt mg)(Z:Prog K mg)(D:zo K mg "_law_one" Zp ["_law_texts_here","_law_stones"] f fd):zH P w K mg base CX0 9 f fd ["_law_texts_here","_law_stones"] zm5:=by
 obtain⟨zgH,ze8,jX⟩:=Z.law_whole
 obtain⟨zdi,zcU,xE⟩:=Z.law_layings
 obtain⟨ze9,zdj,Jk⟩:=Z.law_closed
 obtain⟨zmK,zlQ,Ye⟩:=Z.count
 obtain⟨zhQ,zgI,Yg⟩:=Z.count_at
 have zbk:zH P w K mg base CX0 1 zgH ze8 ["_law_found"] zgG:=ze7 T jX
 have zdk:zH P w K mg base CX0 3 zdi zcU ["_law_texts_here","_law_stones"] zlP:=zcQ T Z xE
 have zfa:zH P w K mg base CX0 1 ze9 zdj ["_law_texts_here"] zlN:=zdd T Jk
 have ziR:zH P w K mg base CX0 7 zmK zlQ ["board"] ziI:=zlw T Z Ye
 have zhR:zH P w K mg base CX0 8 zhQ zgI ["board","cell"] zd6:=zgq T Z Yg
 refine D.F.ok yW (fun vs H Q E h=>?_) (fun cdv A outer s H vs Q E hr h=>?_)
 ·obtain⟨l,rs,st,rfl,_⟩:=h
  rfl
 ·obtain⟨l,rs,st,rfl,hl,B,st0,st1,q⟩:=h
  obtain⟨n,n1,n5,hrow⟩:=B.ex
  have W:Wide rs n:=⟨n1,n5,hrow⟩
  have R:=B.rows
  have sm:Small rs:=zlr (le_trans B.sh (by decide))
  refine⟨_,(zd (zB (i:=2) yW.nd rfl (Or.inl rfl) (yM (za (jk QY (by rfl) T.zk3 PyProof.Rows.boot_list (za (pv 0) zb)) (za (pv 1) zb))))
   (zd (zB (i:=3) yW.nd rfl (Or.inl rfl) (zp zdk (hr.mono (by decide)) (by rfl) xE.g xE.F.kp xE.b .nil zI (za (pv 0) (za (pv 1) zb))))
   (zd (zB (i:=4) yW.nd rfl (Or.inl rfl) (zp ziR (hr.mono (by decide)) (by rfl) Ye.g Ye.F.kp Ye.b .nil zI (za (pv 2) zb)))
   (zd (jA (PW.pt (zj2 (zaz (J9 (zp zbk (hr.mono (by decide)) (by rfl) jX.g jX.F.kp jX.b .nil zI (za (pv 4) zb)) (fun _=>rfl))) (zgL (zQ QN (pv 4) (zx zG (by rfl) T.jd PySem.boot_len (za (pv 3) zb)) (qc _))))) (zf (zO za4)) qk)
   (zd (qo PassesOwn.never rfl (zT (zp zfa (hr.mono (by decide)) (by rfl) Jk.g Jk.F.kp Jk.b .nil zI (za (pv 0) zb))) (zm (i:=5) yW.nd rfl (Or.inr rfl)) (zd (zB (i:=4) yW.nd rfl (Or.inl rfl) (zp zhR (hr.mono (by decide)) (by rfl) Yg.g Yg.F.kp Yg.b .nil zI (za (pv 2) (za (pv 5) zb))))
   (zf (jA (PW.pt (zj2 (zaz (J9 (zp zbk (hr.mono (by decide)) (by rfl) jX.g jX.F.kp jX.b .nil zI (za (pv 4) zb)) (fun _=>rfl))) (zgL (zQ QN (pv 4) (zx zG (by rfl) T.jd PySem.boot_len (za (qm (N:=["_law_one_here","_law_cell"]) (src:=[none,some 5]) (zW.free (O:=(zg Zp).names) (XN:=["_law_texts_here","_law_stones","_law_board_here","_law_fitting","_law_found","_law_cell"]) rfl rfl ⟨_,rfl⟩ rfl rfl (by decide +kernel) (by decide +kernel) (by decide +kernel) rfl (by decide +kernel)) rfl (zT (pv 3)) (fun _ _ _ _ _=>(zm (i:=0) (by show List.Nodup (["_law_one_here","_law_cell"]:List Str);decide +kernel) rfl (Or.inl rfl))) (fun _ _ _ _ _=>(qE (zQ (jP (K:=K) (by rfl) hr.units) (pv 1) (pv 0) (by rfl)))) (fun _ _ _ _ _=>(pv 0))) zb)) (qc _))))) (zf (zO za4)) qk))))
   (zf (zO (zj4 (YR (Qq hr.units) (pv 2) (yM (za (pv 0) (za (pv 1) zb))) (qc _)) (zj3 (YR Js (zp ziR (hr.mono (by decide)) (by rfl) Ye.g Ye.F.kp Ye.b .nil zI (za (pv 2) zb)) (zx zG (by rfl) T.jd PySem.boot_len (za (pv 3) zb)) (qc _))))))))))),?_⟩
  refine⟨_,rfl,l,_,rfl,.inl (SqL.of hl),fun l2 hl2=>⟨_,rfl,(by show 2<=sizeLine;decide),fun h hh=>?_⟩⟩
  have z1:=ze (o:=.lst (rs.map V.str)) hl2
  have z2:=ze (o:=.tup [.ref l2,.int st]) hh
  have BH:qf (upd (upd H l2 (.lst (rs.map V.str))) h (.tup [.ref l2,.int st])) h l2 rs st:=⟨zc,z2 _ _ zc⟩
  have s02:=z1.trans z2
  generalize upd (upd H l2 (.lst (rs.map V.str))) h (.tup [.ref l2,.int st])=H2 at *
  have hl2':=s02 _ _ hl
  refine⟨_,rfl,_,rfl,l,rs,n,st,rfl,hl2',B,W,fun fa us N H3 hfa zpl hL3 s3=>?_⟩
  have ul:=ja hL3
  have ea:=zlM W st0
  rw [<- ul] at ea
  have u64:us.length<=1024:=by
   rw [ul]
   unfold zbi
   rw [length_map]
   refine le_trans (length_filter_le _ _) ?_
   rw [za1,length_range]
   refine le_trans (pow_le_pow_right (by decide) (show (jj rs n).length<=10 from ?_)) (by decide)
   have h1:=B.sh
   rw [<- zcN W,length_map] at h1
   exact h1
  refine⟨_,rfl,h,l2,rs,st,rfl,BH.mono s3,R,sm,st0,fun H4 s4=>?_⟩
  have s24:=s3.trans s4
  have hfa4:=s4 _ _ zpl
  refine⟨_,rfl,_,rfl,true,rfl,Qp ?_⟩
  refine⟨_,rfl,_,rfl,fa,_,rfl,.inl (SqL.of hfa4),rfl,_,rfl,?_⟩
  refine yk (by rw [zcT ea.symm];rfl) ?_
  refine⟨_,rfl,l,rs,rfl,s24 _ _ hl2',R,fun d wd H5 hd hd5 hc5 s5=>⟨d,rfl,⟨_,SqL.of hd5⟩,?_⟩⟩
  have s25:=s24.trans s5
  have hfa5:=s5 _ _ hfa4
  have hL5:=qi (s4.trans s5) hL3
  refine j9 (K:=K) (a:=d) (xs:=wd) (fun i σ H'=>∃(v4 v5:Option V),σ=[some (.ref l),some (.int st),some (.ref h),some (.ref fa),v4,v5]/\zw H5 H')
   ⟨_,_,rfl,zw.refl _⟩ (fun i σ H' _ ⟨_,_,_,y⟩=>SqL.of (y _ _ hd5)) ?_ ?_
  ·rintro i x σ H6 hx ⟨v4,v5,rfl,s6⟩
   obtain⟨c,hc,ca,rfl,hca⟩:=Cel.get (hc5.mono s6) hx
   have cm:=mem_of_getElem? hc
   refine⟨_,rfl,_,rfl,h,l2,ca,rs,st,c,rfl,(BH.mono s25).mono s6,R,sm,st0,hca,cm,fun H7 s7=>?_⟩
   have s57:=s6.trans s7
   refine⟨_,rfl,_,rfl,true,rfl,Qp ?_⟩
   refine⟨_,rfl,_,rfl,fa,rfl,⟨_,SqL.of (s57 _ _ hfa5)⟩,fun z hz=>?_⟩
   have hL7:=qi s57 hL5
   have hca7:=s7 _ _ hca
   refine qA (K:=K) (a:=fa) (xs:=us) (fun j σ' H'=>∃(u0:Option V) (ys:List V),σ'=[u0,some (.ref ca)]/\zw H7 H'/\H' z=some (.lst ys)/\ys.length=(((zbi rs n st).take j).filter (Yl c)).length)
    ⟨_,[],rfl,ze hz,zc,rfl⟩ (fun j σ' H' _ ⟨_,_,_,y,_⟩=>SqL.of (y _ _ (s57 _ _ hfa5))) ?_ ?_
   ·rintro j v σ' H8 hv ⟨u0,ys,rfl,s8,hz8,yl⟩
    obtain⟨k,a1,wa,hk1,rfl,_,ha1,t1⟩:=YB hL7 hv
    have jl:j<(zbi rs n st).length:=(List.getElem?_eq_some_iff.mp hk1).1
    have e1:=zbj (p:=Yl c) hk1
    refine⟨_,rfl,_,rfl,zz c,k.map pD,.tup (SqT.of (s8 _ _ hca7)) (.cons (.int _) (.cons (.int _) .nil)),.lst (SqL.of (s8 _ _ ha1)) (zf6 (yT s8 t1)),rfl,zhl _,(by show 1<=60;decide),_,rfl,?_⟩
    have ei:(if false=true then !(k.map pD).any (fun z=>PyData.eqv z (zz c)) else (k.map pD).any fun z=>PyData.eqv z (zz c))=Yl c k:=zlg k c
    by_cases hh:Yl c k=true
    ·rw [if_pos hh] at e1
     refine yN (ei.trans hh) ⟨_,rfl,_,hz8,?_,_,_,rfl,fun b o e=>?_,zc,?_⟩
     ·rw [yl]
      refine lt_of_le_of_lt (le_trans (length_filter_le _ _) ?_) (show 1024<sizeLine by decide)
      rw [length_take]
      omega
     ·rw [zj (zh e hz)]
      exact s8 _ _ e
     ·rw [e1,length_append,length_append,yl]
      rfl
    ·rw [if_neg hh,append_nil] at e1
     exact yk (ei.trans (Bool.eq_false_iff.mpr hh)) ⟨_,ys,rfl,s8,hz8,by rw [e1];exact yl⟩
   rintro σ' H8 ⟨u0,ys,rfl,s8,hz8,yl⟩
   rw [ul,take_length] at yl
   have eb:=zmJ W st0 c
   rw [<- yl] at eb
   refine⟨z,_,rfl,.inl (SqL.of hz8),rfl,_,rfl,?_⟩
   refine yk (by rw [zcT eb.symm];rfl) ?_
   exact⟨_,_,rfl,s57.trans s8⟩
  rintro σ H6 ⟨v4,v5,rfl,s6⟩
  have s26:=s25.trans s6
  refine⟨_,rfl,_,rfl,_,rfl,(by show 2<=sizeLine;decide),fun tq htq=>?_⟩
  have z7:=ze (o:=.tup [.ref l,.int st]) htq
  have s27:=s26.trans z7
  have BL:qf (upd H6 tq (.tup [.ref l,.int st])) tq l rs st:=⟨zc,s27 _ _ hl2'⟩
  refine⟨_,_,qf.rdv (BH.mono s27),qf.rdv BL,R.cmpB st,?_⟩
  have ee:(if false=true then !PyData.eqv (bData rs st) (bData rs st) else PyData.eqv (bData rs st) (bData rs st))=true:=SeqAt.eqv_refl _ (R.cmpB st).l1
  rw [ee]
  refine⟨true,rfl,Qd ?_⟩
  have hfa7:=(s6.trans z7) _ _ hfa5
  generalize upd H6 tq (.tup [.ref l,.int st])=H7 at *
  refine⟨_,rfl,h,l2,rs,st,rfl,BH.mono s27,R,sm,st0,fun H8 s8=>?_⟩
  refine⟨_,rfl,fa,_,rfl,.inl (SqL.of (s8 _ _ hfa7)),rfl,?_⟩
  rw [zcT ea.symm]
  exact q H8 (s02.trans (s27.trans s8))
theorem zfb:zL ["_law_script","_law_k","_law_texts_here","_law_stones"] ["_law_script"] (zg zfU):=⟨rfl,rfl,rfl,by decide +kernel,rfl,by decide +kernel,by decide +kernel⟩
theorem zn1 (T:Txt mg)(Z:Prog K mg)(D:zo K mg "law" zfU ["_law_script"] f fd):zH P w K mg base CX0 12 f fd ["_law_script"] (ziQ K):=by
 obtain⟨ji,qV,zk⟩:=Z.law_cell_at
 obtain⟨zgJ,zfc,J1⟩:=Z.law_board
 obtain⟨zjZ,zhS,Qc⟩:=Z.law_one
 have zZ:zH P w K mg base CX0 1 ji qV ["_law_script","_law_k"] (zb9 K):=yI T zk
 have zgK:zH P w K mg base CX0 3 zgJ zfc ["_law_script","_law_start"] (zoT K):=ze2 T Z J1
 have zj0:zH P w K mg base CX0 9 zjZ zhS ["_law_texts_here","_law_stones"] zm5:=zhP T Z Qc
 refine D.F.ok zfb (fun vs H Q E h=>?_) (fun cdv A outer s H vs Q E hr h=>?_)
 ·obtain⟨a,ns,rfl,_⟩:=h
  rfl
 ·obtain⟨a,ns,rfl,hS,hlen,q⟩:=h
  refine⟨_,(zd (qo PassesOwn.never rfl (qH (by rfl) T.qW (za (zD qp zq (zD jO (zD jB (zp zZ (hr.mono (by decide)) (by rfl) zk.g zk.F.kp zk.b .nil zI (za (pv 0) (za zq zb))) zq) zq)) zb)) (zm (i:=1) zfb.nd rfl (Or.inl rfl)) (zd (zbG (zp zgK (hr.mono (by decide)) (by rfl) J1.g J1.F.kp J1.b .nil zI (za (pv 0) (za (zD yf zq (pv 1)) zb))) (Jr rfl (zV (zm (i:=2) zfb.nd rfl (Or.inl rfl)) (zV (zm (i:=3) zfb.nd rfl (Or.inl rfl)) jZ))))
   (zf (jA (zaz (J9 (zp zj0 (hr.mono (by decide)) (by rfl) Qc.g Qc.F.kp Qc.b .nil zI (za (pv 2) (za (pv 3) zb))) (fun _=>rfl))) (zf (zO za4)) qk))))
   (zf (zO za4))),?_⟩
  refine⟨_,rfl,a,ns,_,rfl,hS,by decide,fun c=>⟨_,_,rfl,rfl,Ju.small (by decide) (by decide),_,_,rfl,rfl,(by show (0:Int)<3;decide),_,_,rfl,rfl,?_⟩⟩
  obtain⟨x0,x1⟩:=Z9 (x:=c/704) (M:=3) (by decide)
  refine⟨_,rfl,by omega,by omega,?_⟩
  refine qz (lo:=0) (n:=(1+c/704%3).toNat) (fun i σ H'=>∃(v1 v2 v3:Option V),σ=[some (.ref a),v1,v2,v3]/\zw H H') ⟨_,_,_,rfl,zw.refl _⟩ ?_ ?_
  ·rintro i σ H1 hi ⟨v1,v2,v3,rfl,s1⟩
   refine⟨_,rfl,_,rfl,_,_,rfl,rfl,zcW (by omega) (by omega),a,ns,_,rfl,s1.seq hS,by omega,fun p l rs b H2 B Br b0 b1 s2=>?_⟩
   refine⟨p,_,rfl,SqT.of B.tp,rfl,_,_,rfl,_,_,rfl,rfl,?_⟩
   refine⟨_,rfl,_,rfl,l,rs,b,rfl,B.rw,Br,b0,b1,fun H3 s3=>⟨true,rfl,Qp ?_⟩⟩
   exact⟨_,_,_,rfl,s1.trans (s2.trans s3)⟩
  ·rintro σ H1 ⟨v1,v2,v3,rfl,s1⟩
   exact q _
end
theorem all_mk {l:PySem.W.OpenLaw}{w:World}{K:PySem.W.Frag}{h:Heap}{mg:Str->Option Value}{fa:Addr}{t_CLOSED_SIGN:Tok}{t_MOST_OF_PART:Tok}{t_NO_CELL_SIGN:Tok}(X:K.In h)(G:h.Ns mainGlobals mg)(hfa:mg "law"=some (.ref fa))
  (QG:HasDef K "closed" Zn)
  (xY:HasDef K "open_cells" qw)
  (QH:HasDef K "around" jU)
  (JJ:HasDef K "number_at" jV)
  (ZF:HasDef K "cells_of" qB)
  (YI:HasDef K "sign_at" qI)
  (zbm:HasDef K "parts" zbB)
  (QI:HasDef K "joined" Zo)
  (zhT:HasDef K "far" zfT)
  (xZ:HasDef K "numbers_of" jw)
  (x6:HasDef K "bare_wrong" j6)
  (ye:HasDef K "closed_around" qK)
  (yy:HasDef K "part_layings" qF)
  (ZG:HasDef K "needs_at" yp)
  (YJ:HasDef K "may_fit" yQ)
  (yX:HasDef K "part_counts" xq)
  (YK:HasDef K "counted" Jo)
  (x8:HasDef K "counted_at" yH)
  (YL:HasDef K "choices" YY)
  (QJ:HasDef K "poured" zah)
  (yY:HasDef K "near_counts" yb)
  (zbn:HasDef K "count" zbC)
  (ZH:HasDef K "count_at" ZU)
  (jY:HasDef K "counts_by_cell" qP)
  (x9:HasDef K "all_poured" Jd)
  (zbo:HasDef K "dealt" zai)
  (yZ:HasDef K "_law_cell_at" xr)
  (JK:HasDef K "_law_whole" JR)
  (ZI:HasDef K "_law_near" ZV)
  (JL:HasDef K "_law_signs" JS)
  (JM:HasDef K "_law_texts" xH)
  (YM:HasDef K "_law_dug" YZ)
  (JN:HasDef K "_law_board" xJ)
  (xg:HasDef K "_law_numbers" yc)
  (ZJ:HasDef K "_law_fits" JD)
  (xh:HasDef K "_law_choices" yd)
  (xj:HasDef K "_law_layings" jF)
  (Ja:HasDef K "_law_closed" Je)
  (YN:HasDef K "_law_one" Zp)
  (zhU:HasDef K "law" zfU)
  (zhV:PySem.W.nsIn K mainGlobals "any"=some none)
  (zef:PySem.W.nsIn K mainGlobals "bool"=some none)
  (zeg:PySem.W.nsIn K mainGlobals "dict"=some none)
  (QK:PySem.W.nsIn K mainGlobals "divmod"=some none)
  (JO:PySem.W.nsIn K mainGlobals "enumerate"=some none)
  (zhW:PySem.W.nsIn K mainGlobals "int"=some none)
  (Jb:PySem.W.nsIn K mainGlobals "isinstance"=some none)
  (zhX:PySem.W.nsIn K mainGlobals "len"=some none)
  (zeh:PySem.W.nsIn K mainGlobals "list"=some none)
  (zhY:PySem.W.nsIn K mainGlobals "max"=some none)
  (zhZ:PySem.W.nsIn K mainGlobals "min"=some none)
  (zbp:PySem.W.nsIn K mainGlobals "range"=some none)
  (zh0:PySem.W.nsIn K mainGlobals "set"=some none)
  (QL:PySem.W.nsIn K mainGlobals "sorted"=some none)
  (zh1:PySem.W.nsIn K mainGlobals "str"=some none)
  (zh2:PySem.W.nsIn K mainGlobals "sum"=some none)
  (zh3:PySem.W.nsIn K mainGlobals "zip"=some none)
  (xo:PySem.W.nsIn K mainGlobals "CLOSED_SIGN"=some (some (.str "?" t_CLOSED_SIGN)))
  (yC:PySem.W.nsIn K mainGlobals "MOST_OF_PART"=some (some (.int 14 t_MOST_OF_PART)))
  (yD:PySem.W.nsIn K mainGlobals "NO_CELL_SIGN"=some (some (.str "#" t_NO_CELL_SIGN))) :
  ∃fd:FuncData,(∀(s:Shared) (v:Value),BindsTo s fd ⟨[v],[]⟩ [("_law_script",v)])/\∀base:Heap,K.In base->base.Ns mainGlobals mg->zH l.prog w K mg base CX0 12 fa fd ["_law_script"] (ziQ K):=by
 obtain⟨f,oc,od,an,sl,kV,dc,pm,cd,ct,a,l0,c,k⟩:=zhU
 have e:=hfa.symm.trans (PySem.W.mg_of X G a)
 cases e
 have T:Txt mg:=⟨PySem.W.mg_none_of X G zhV,PySem.W.mg_none_of X G zef,PySem.W.mg_none_of X G zeg,PySem.W.mg_none_of X G QK,PySem.W.mg_none_of X G JO,PySem.W.mg_none_of X G zhW,PySem.W.mg_none_of X G Jb,PySem.W.mg_none_of X G zhX,PySem.W.mg_none_of X G zeh,PySem.W.mg_none_of X G zhY,PySem.W.mg_none_of X G zhZ,PySem.W.mg_none_of X G zbp,PySem.W.mg_none_of X G zh0,PySem.W.mg_none_of X G QL,PySem.W.mg_none_of X G zh1,PySem.W.mg_none_of X G zh2,PySem.W.mg_none_of X G zh3,⟨_,PySem.W.mg_of X G xo⟩,⟨_,PySem.W.mg_of X G yC⟩,⟨_,PySem.W.mg_of X G yD⟩⟩
 have Z:Prog K mg:=⟨QG.at X G (fun _ _ _ _ _ _=>us1 fun _=>rfl),xY.at X G (fun _ _ _ _ _ _=>us1 fun _=>rfl),QH.at X G (fun _ _ _ _ _ _=>us2 fun _ _=>rfl),JJ.at X G (fun _ _ _ _ _ _=>us2 fun _ _=>rfl),ZF.at X G (fun _ _ _ _ _ _=>us1 fun _=>rfl),YI.at X G (fun _ _ _ _ _ _=>us2 fun _ _=>rfl),zbm.at X G (fun _ _ _ _ _ _=>us1 fun _=>rfl),QI.at X G (fun _ _ _ _ _ _=>us2 fun _ _=>rfl),zhT.at X G (fun _ _ _ _ _ _=>us1 fun _=>rfl),xZ.at X G (fun _ _ _ _ _ _=>us2 fun _ _=>rfl),x6.at X G (fun _ _ _ _ _ _=>us1 fun _=>rfl),ye.at X G (fun _ _ _ _ _ _=>us2 fun _ _=>rfl),yy.at X G (fun _ _ _ _ _ _=>us2 fun _ _=>rfl),ZG.at X G (fun _ _ _ _ _ _=>us3 fun _ _ _=>rfl),YJ.at X G (fun _ _ _ _ _ _=>us2 fun _ _=>rfl),yX.at X G (fun _ _ _ _ _ _=>us2 fun _ _=>rfl),YK.at X G (fun _ _ _ _ _ _=>us2 fun _ _=>rfl),x8.at X G (fun _ _ _ _ _ _=>us3 fun _ _ _=>rfl),YL.at X G (fun _ _ _ _ _ _=>us2 fun _ _=>rfl),QJ.at X G (fun _ _ _ _ _ _=>us2 fun _ _=>rfl),yY.at X G (fun _ _ _ _ _ _=>us1 fun _=>rfl),zbn.at X G (fun _ _ _ _ _ _=>us1 fun _=>rfl),ZH.at X G (fun _ _ _ _ _ _=>us2 fun _ _=>rfl),jY.at X G (fun _ _ _ _ _ _=>us1 fun _=>rfl),x9.at X G (fun _ _ _ _ _ _=>us1 fun _=>rfl),zbo.at X G (fun _ _ _ _ _ _=>us3 fun _ _ _=>rfl),yZ.at X G (fun _ _ _ _ _ _=>us2 fun _ _=>rfl),JK.at X G (fun _ _ _ _ _ _=>us1 fun _=>rfl),ZI.at X G (fun _ _ _ _ _ _=>us3 fun _ _ _=>rfl),JL.at X G (fun _ _ _ _ _ _=>us4 fun _ _ _ _=>rfl),JM.at X G (fun _ _ _ _ _ _=>us3 fun _ _ _=>rfl),YM.at X G (fun _ _ _ _ _ _=>us4 fun _ _ _ _=>rfl),JN.at X G (fun _ _ _ _ _ _=>us2 fun _ _=>rfl),xg.at X G (fun _ _ _ _ _ _=>us2 fun _ _=>rfl),ZJ.at X G (fun _ _ _ _ _ _=>us2 fun _ _=>rfl),xh.at X G (fun _ _ _ _ _ _=>us1 fun _=>rfl),xj.at X G (fun _ _ _ _ _ _=>us2 fun _ _=>rfl),Ja.at X G (fun _ _ _ _ _ _=>us1 fun _=>rfl),YN.at X G (fun _ _ _ _ _ _=>us2 fun _ _=>rfl)⟩
 have F:=zkb (st:=zfU) l0 c k
 have D:zo K mg "law" zfU ["_law_script"] _ _:=⟨F,PySem.W.mg_of X G a,F.binds (ps:=["_law_script"]) (fun _ _ _ _ _ _=>us1 fun _=>rfl)⟩
 exact⟨_,fun s v=>.of_eq rfl,fun base _ _=>zn1 T Z D⟩
theorem walk {l:PySem.W.OpenLaw}{q:Program}{loose:List Str}{XP:(Str->Option Value)->Heap->Prop}{YP:World->Heap->Prop}{d:DefRec}{K:Params->PySem.W.Frag}(hn:l.most=some 63)(hdf:d.params.defaults=[])
  (hY:∀(w:World) (h:Heap),YP w h->(K w.params).In h)
  (F:∀(w:World) (mg:Str->Option Value) (fa:Addr) (h:Heap),(K w.params).In h->h.Ns mainGlobals mg->mg d.name=some (.ref fa) ->
   ∃fd:FuncData,(∀(s:Shared) (u:Value),BindsTo s fd ⟨[u],[]⟩ [("_law_script",u)])/\∀base:Heap,(K w.params).In base->base.Ns mainGlobals mg->zH l.prog w (K w.params) mg base CX0 12 fa fd ["_law_script"] (ziQ (K w.params))) :
  PySem.W.WalkO q loose XP YP l.row.toRowW d [] (fun f vs=>PySem.call f vs) :=
 L2.zib (n:=63) (k:=12) (x:="_law_script") (CX:=fun _=>CX0) (sp:=fun w=>ziQ (K w.params)) hn (by decide) hdf ⟨rfl,by decide,by decide⟩ hY F (fun _ _ a ns hl _ hS=>⟨a,ns,rfl,hS,hl,fun _=>rfl⟩) fun _ _ _ _ _ z=>z
end K32
open PySem PySem.W PyProof.Rows
set_option maxRecDepth 100000 in
set_option maxHeartbeats 0 in
theorem PySem.Challenge.cw_stonelay_k32_whole_counted_by_all_holds : PySem.Challenge.rw_stonelay_k32_whole_counted_by_all.Holds := by
 refine zbE.early fun {q XP YP d K} hdf hY hn F=>?_
 refine K32.walk (l:=PySem.Challenge.rw_stonelay_k32_whole_counted_by_all) rfl hdf hY fun w mg fa h KX G hmg=>?_
 rw [hn] at hmg
 obtain⟨QG,xY,QH,JJ,ZF,YI,zbm,QI,zhT,xZ,x6,ye,yy,ZG,YJ,yX,YK,x8,YL,QJ,yY,zbn,ZH,jY,x9,zbo,yZ,JK,ZI,JL,JM,YM,JN,xg,ZJ,xh,xj,Ja,YN,zhU,zhV,zef,zeg,QK,JO,zhW,Jb,zhX,zeh,zhY,zhZ,zbp,zh0,QL,zh1,zh2,zh3,⟨_,xo⟩,⟨_,yC⟩,⟨_,yD⟩⟩:=F w
 exact K32.all_mk KX G hmg QG xY QH JJ ZF YI zbm QI zhT xZ x6 ye yy ZG YJ yX YK x8 YL QJ yY zbn ZH jY x9 zbo yZ JK ZI JL JM YM JN xg ZJ xh xj Ja YN zhU zhV zef zeg QK JO zhW Jb zhX zeh zhY zhZ zbp zh0 QL zh1 zh2 zh3 xo yC yD