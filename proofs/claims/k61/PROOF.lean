import PyProof.Rows.All
import Wide.All
import OpenK.AllK
import Wide.FinOn
import Lean
import PyProof.EqAt
import PyProof.EqKinds
import PyProof.TupleCall
import PySem.Challenge.RW_stonelay_k61_boards_of_fields
set_option Elab.async false
set_option linter.all false
set_option maxRecDepth 100000
namespace L2
open PySem PySem.Spec PyProof.Rows
noncomputable abbrev Key:=Sum Int Str
noncomputable def keyIs:Key->Value->Bool
 | .inl k,v=>Value.isInt k v
 | .inr x,v=>Value.isStrOf x v
noncomputable def keyH (w:World):Key->Int
 | .inl k=>hashInt k
 | .inr x=>hashStr w x
theorem keyIs_shape:∀ {k:Key} {v:Value},keyIs k v=true->(∃ i t,k=Sum.inl i/\v=Value.int i t)\/(∃ x t,k=Sum.inr x/\v=Value.str x t)
 | .inl i,v,h=>by
  obtain ⟨t,e⟩:=Value.isInt_shape (k:=i) (v:=v) h
  exact .inl ⟨i,t,rfl,e⟩
 | .inr x,v,h=>by
  obtain ⟨t,e⟩:=Value.isStrOf_shape (x:=x) (v:=v) h
  exact .inr ⟨x,t,rfl,e⟩
theorem keyIs_int (i:Int)(t:Tok):keyIs (.inl i) (.int i t)=true:=by simp [keyIs,Value.isInt]
theorem keyIs_str (x:Str)(t:Tok):keyIs (.inr x) (.str x t)=true:=by simp [keyIs,Value.isStrOf]
theorem key_ll (a b:Int):decide ((Sum.inl a:Key)=Sum.inl b)=(a == b):=by
 by_cases e:a=b
 ·subst e; simp
 ·have h:¬ (Sum.inl a:Key)=Sum.inl b:=fun q=>e (Sum.inl.inj q)
  rw [decide_eq_false h]
  exact (beq_eq_false_iff_ne.mpr e).symm
theorem key_rr (a b:Str):decide ((Sum.inr a:Key)=Sum.inr b)=decide (a=b):=by
 by_cases e:a=b
 ·subst e; simp
 ·have h:¬ (Sum.inr a:Key)=Sum.inr b:=fun q=>e (Sum.inr.inj q)
  rw [decide_eq_false h,decide_eq_false e]
theorem key_lr (a:Int)(b:Str):decide ((Sum.inl a:Key)=Sum.inr b)=false:=decide_eq_false (fun q=>nomatch q)
theorem key_rl (a:Str)(b:Int):decide ((Sum.inr a:Key)=Sum.inl b)=false:=decide_eq_false (fun q=>nomatch q)
noncomputable def mixKind (prog:Program)(w:World):PySem.KeyKind prog w Key where
 is:=keyIs
 hash:=keyH w
 inj:=fun v a b ha hb=>by
  rcases keyIs_shape ha with ⟨i,t,rfl,rfl⟩ | ⟨x,t,rfl,rfl⟩
  ·rcases keyIs_shape hb with ⟨j,u,rfl,e⟩ | ⟨y,u,rfl,e⟩
   ·injection e with e1 _; rw [e1]
   ·exact nomatch e
  ·rcases keyIs_shape hb with ⟨j,u,rfl,e⟩ | ⟨y,u,rfl,e⟩
   ·exact nomatch e
   ·injection e with e1 _; rw [e1]
 byValue:=fun k v h=>by
  rcases keyIs_shape h with ⟨i,t,rfl,rfl⟩ | ⟨x,t,rfl,rfl⟩ <;> rfl
 pyHash:=fun hv h=>by
  rcases keyIs_shape hv with ⟨i,t,rfl,rfl⟩ | ⟨x,t,rfl,rfl⟩
  ·exact wpAny_pyHash_int h
  ·exact wpAny_pyHash_str h
 eqBool:=fun hu hv h=>by
  rcases keyIs_shape hu with ⟨i,t,rfl,rfl⟩ | ⟨x,t,rfl,rfl⟩
  ·rcases keyIs_shape hv with ⟨j,u,rfl,rfl⟩ | ⟨y,u,rfl,rfl⟩
   ·rw [key_ll] at h; exact wpAny_eqBool_int h
   ·rw [key_lr] at h; exact SeqAt.EqAt.int_str i t y u _ _ _ _ h
  ·rcases keyIs_shape hv with ⟨j,u,rfl,rfl⟩ | ⟨y,u,rfl,rfl⟩
   ·rw [key_rl] at h; exact SeqAt.EqAt.str_int x t j u _ _ _ _ h
   ·rw [key_rr] at h; exact wpAny_eqBool_str h
 «strs»:=fun k x t v h=>by
  rcases keyIs_shape h with ⟨i,u,rfl,e⟩ | ⟨y,u,rfl,e⟩
  ·exact nomatch e
  ·injection e with e1 _
   subst e1
   cases v <;> rfl
theorem mixKind_int (prog:Program)(w:World)(i:Int)(t:Tok):(mixKind prog w).is (.inl i) (.int i t)=true:=keyIs_int i t
theorem mixKind_str (prog:Program)(w:World)(x:Str)(t:Tok):(mixKind prog w).is (.inr x) (.str x t)=true:=keyIs_str x t
end L2
namespace L2
open PySem PySem.Spec PyProof.Rows
inductive V where
 | non | bl (b:Bool) | int (i:Int) | str (x:Str) | byt (b:Array UInt8) | flt (b:UInt64) | ref (a:Addr) | ty (n:String)
 deriving DecidableEq
noncomputable def RelV:V->Value->Prop
 | .non,u=>u=Value.none
 | .bl b,u=>u=Value.bool b
 | .int i,u=>∃ t,u=Value.int i t
 | .str x,u=>∃ t,u=Value.str x t
 | .byt b,u=>∃ t,u=Value.bytes b t
 | .flt b,u=>∃ t,u=Value.float b t
 | .ref a,u=>u=Value.ref a
 | .ty n,u=>u=Value.type n
noncomputable abbrev Vals:List V->List Value->Prop:=Paired RelV
theorem Vals.length {xs:List V}{us:List Value}(r:Vals xs us):xs.length=us.length:=Paired.length r
theorem Vals.get:∀ {xs:List V} {us:List Value} {i:Nat} {x:V},Vals xs us->xs[i]?=some x->∃ u,us[i]?=some u/\RelV x u
 | _,_,_,_,.nil,e=>by simp at e
 | _,_,0,_,.cons r _,e=>by simp at e; subst e; exact ⟨_,rfl,r⟩
 | _,_,i + 1,x,.cons _ t,e=>by
  obtain ⟨u,h1,h2⟩:=Vals.get (i:=i) (x:=x) t (by simpa using e)
  exact ⟨u,by simpa using h1,h2⟩
theorem Vals.append:∀ {xs ys:List V} {us ws:List Value},Vals xs us->Vals ys ws->Vals (xs++ys) (us++ws)
 | _,_,_,_,.nil,s=>s
 | _,_,_,_,.cons r t,s=>.cons r (Vals.append t s)
noncomputable def RelO:Option V->Option Value->Prop
 | some v,some u=>RelV v u
 | none,none=>True
 | _,_=>False
noncomputable def KV {κ:Type}:List (κ × V)->List (κ × Value)->Prop:=Paired fun (p:κ × V) (q:κ × Value)=>p.1=q.1/\RelV p.2 q.2
noncomputable def kV:Key->V
 | .inl i=>.int i
 | .inr x=>.str x
inductive HO where
  | lst (xs:List V)
  | tup (xs:List V)
  | dK (kvs:List (Key × V)) | dT (kvs:List (List Key × V))
  | set (S:Int->Bool) (n:Nat)
  | ins (C dx:Addr) (fs:List (Str × V))
  | own (x:Addr)
  | xd (fs:List (Str × V))
  | met (f x:Addr)
  | rng (lo hi:Int)
  | frz (o:Obj) (u:HO)
  | tbl (ps:Array Value)
  | ext (φ:Heap->Prop)
noncomputable abbrev Hp:=Addr->Option HO
noncomputable def upd (H:Hp)(a:Addr)(o:HO):Hp:=fun b=>if b=a then some o else H b
theorem upd_same {H:Hp}{a:Addr}{o:HO}:upd H a o a=some o:=by unfold upd; rw [if_pos rfl]
theorem upd_ne {H:Hp}{a b:Addr}{o:HO}(h:b ≠ a):upd H a o b=H b:=by unfold upd; rw [if_neg h]
theorem ne_of {H:Hp}{a b:Addr}{o u:HO}(h:H a=some o)(h':H b=some u)(d:o ≠ u):a ≠ b:=by
 intro e; subst e; rw [h] at h'; exact d (Option.some.inj h')
theorem ne_of_none {H:Hp}{a b:Addr}{o:HO}(h:H a=some o)(h':H b=none):a ≠ b:=by
 intro e; subst e; rw [h] at h'; cases h'
section
variable (P:Program)(w:World)
noncomputable def ObjOk (H:Hp)(h:Heap)(a:Addr):HO->Prop
 | .lst xs=>xs.length<=sizeLine/\∃ (its:List Value) (n:Nat),Vals xs its/\h.get? a=some { cls:=.type "list",data:=.seq its.toArray n }
 | .tup xs=>xs.length<=sizeLine/\∃ its:List Value,Vals xs its/\IsTup h a its.toArray
 | .dK kvs=>kvs.length<=sizeLine/\(a == sysModules)=false/\∃ vs,KV kvs vs/\h.DictOf (mixKind P w) a vs
 | .dT kvs=>kvs.length<=sizeLine/\(a == sysModules)=false/\∃ xs:List (List Key × Addr × Value),
   Paired (fun (p:List Key × V) (q:List Key × Addr × Value)=>p.1=q.1/\H q.2.1=some (.tup (p.1.map kV))/\RelV p.2 q.2.2) kvs xs /\
   ∃ o es ep,h.get? a=some o/\o.ExactDict/\o.data=.dict es ep/\es.toList=xs.map (entryOfKey (tupleKind (mixKind P w)))/\(xs.map (·.1)).Nodup
 | .set S n=>h.SetOf (intKind P w) a S n
 | .ins C dx fs=>H dx=some (.own a)/\fs.length<=1000/\dx ≠ a/\h.get? a=some (PySem.W.instObj C dx) /\
   ∃ mA,h.Ns1 dx mA/\(∀ f,RelO (fs.lookup f) (mA f))/\PySem.Within mA (fs.map (·.1))
 | .own _=>∃ o,h.get? a=some o
 | .xd fs=>∃ mA,h.Ns1 a mA/\∀ f,RelO (fs.lookup f) (mA f)
 | .rng lo hi=>∃ t u v,h.get? a=some { cls:=.type "range",data:=.fields #[.int lo t,.int hi u,.int 1 v] }
 | .frz o u=>h.get? a=some o/\ObjOk H h a u
 | .tbl ps=>h.get? a=some { cls:=.none,data:=.fields ps }
 | .met f x=>h.get? a=some (PySem.W.methodObj (.ref f) (.ref x))
 | .ext φ=>φ h/\(∃ o,h.get? a=some o)/\∀ h1 h2:Heap,φ h1->(∀ o,h1.get? a=some o->h2.get? a=some o)->φ h2
noncomputable def HOk (H:Hp)(h:Heap):Prop:=∀ a o,H a=some o->ObjOk P w H h a o
end
section
variable {P:Program}{w:World}{H H':Hp}{h h':Heap}{a:Addr}{o:HO}
theorem ObjOk.lt (x:ObjOk P w H h a o):a < h.objs.size:=by
 cases o with
 | lst xs=>obtain ⟨_,_,_,_,e⟩:=x; exact Heap.lt_size e
 | tup xs=>obtain ⟨_,_,_,p⟩:=x; exact p.lt
 | dK kvs=>obtain ⟨_,_,_,_,o,_,_,e,_⟩:=x; exact Heap.lt_size e
 | dT kvs=>obtain ⟨_,_,_,_,o,_,_,e,_⟩:=x; exact Heap.lt_size e
 | set S n=>obtain ⟨o,_,_,_,e,_⟩:=x; exact Heap.lt_size e
 | ins C dx fs=>obtain ⟨_,_,_,e,_⟩:=x; exact Heap.lt_size e
 | own y=>obtain ⟨_,e⟩:=x; exact Heap.lt_size e
 | xd fs=>obtain ⟨_,⟨_,_,_,e,_⟩,_⟩:=x; exact Heap.lt_size e
 | rng lo hi=>obtain ⟨_,_,_,e⟩:=x; exact Heap.lt_size e
 | frz ob u=>obtain ⟨e,_⟩:=x; exact Heap.lt_size e
 | tbl ps=>exact Heap.lt_size (show h.get? a=some _ from x)
 | met f y=>exact Heap.lt_size (show h.get? a=some _ from x)
 | ext φ=>obtain ⟨_,⟨_,e⟩,_⟩:=x; exact Heap.lt_size e
theorem Paired.mapP {α β:Type}{F G:α->β->Prop}:∀ {l₁:List α} {l₂:List β},Paired F l₁ l₂->(∀ a b,F a b->G a b)->Paired G l₁ l₂
 | _,_,.nil,_=>.nil
 | _,_,.cons r t,f=>.cons (f _ _ r) (Paired.mapP t f)
theorem ObjOk.stay (x:ObjOk P w H h a o)(k:∀ b u,(b=a\/H b=some (.own a))->h.get? b=some u->h'.get? b=some u)
  (ho:∀ b,H b=some (.own a)->H' b=some (.own a)) (ht:∀ b xs,H b=some (.tup xs)->H' b=some (.tup xs)):ObjOk P w H' h' a o:=by
 induction o with
 | lst xs=>obtain ⟨z,its,n,r,e⟩:=x; exact ⟨z,its,n,r,k _ _ (.inl rfl) e⟩
 | tup xs=>obtain ⟨z,its,r,ob,e,c⟩:=x; exact ⟨z,its,r,ob,k _ _ (.inl rfl) e,c⟩
 | dK kvs=>obtain ⟨z,y,vs,r,ob,es,ep,e,c⟩:=x; exact ⟨z,y,vs,r,ob,es,ep,k _ _ (.inl rfl) e,c⟩
 | dT kvs =>
  obtain ⟨z,y,xs,r,ob,es,ep,e,c⟩:=x
  exact ⟨z,y,xs,Paired.mapP r fun p q z=>⟨z.1,ht _ _ z.2.1,z.2.2⟩,ob,es,ep,k _ _ (.inl rfl) e,c⟩
 | set S n=>obtain ⟨ob,es,ep,t,e,c⟩:=x; exact ⟨ob,es,ep,t,k _ _ (.inl rfl) e,c⟩
 | ins C dx fs =>
  obtain ⟨d,z,ne,e,mA,⟨od,es,ep,e2,c⟩,r⟩:=x
  exact ⟨ho _ d,z,ne,k _ _ (.inl rfl) e,mA,⟨od,es,ep,k _ _ (.inr d) e2,c⟩,r⟩
 | own y=>obtain ⟨ob,e⟩:=x; exact ⟨ob,k _ _ (.inl rfl) e⟩
 | xd fs=>obtain ⟨mA,⟨od,es,ep,e,c⟩,r⟩:=x; exact ⟨mA,⟨od,es,ep,k _ _ (.inl rfl) e,c⟩,r⟩
 | rng lo hi=>obtain ⟨t,u,v,e⟩:=x; exact ⟨t,u,v,k _ _ (.inl rfl) e⟩
 | frz ob u ih=>obtain ⟨e,q⟩:=x; exact ⟨k _ _ (.inl rfl) e,ih q⟩
 | tbl ps =>
  have e:h.get? a=some { cls:=.none,data:=.fields ps }:=x
  show h'.get? a=some { cls:=.none,data:=.fields ps }
  exact k a _ (.inl rfl) e
 | met f y =>
  have e:h.get? a=some (PySem.W.methodObj (.ref f) (.ref y)):=x
  show h'.get? a=some (PySem.W.methodObj (.ref f) (.ref y))
  exact k a _ (.inl rfl) e
 | ext φ=>obtain ⟨p,⟨o,e⟩,st⟩:=x; exact ⟨st _ _ p fun o q=>k _ _ (.inl rfl) q,⟨o,k _ _ (.inl rfl) e⟩,st⟩
theorem HOk.lt (x:HOk P w H h)(e:H a=some o):a < h.objs.size:=(x a o e).lt
theorem HOk.fresh (x:HOk P w H h)(e:h.objs.size<=a):H a=none:=by
 cases q:H a with
 | none=>rfl
 | some u=>exact absurd (Nat.lt_of_lt_of_le (x.lt q) e) (Nat.lt_irrefl _)
theorem HOk.kept (x:HOk P w H h)(k:∀ b u,h.get? b=some u->h'.get? b=some u):HOk P w H h':=fun a o e =>
 (x a o e).stay (fun b u _ q=>k b u q) (fun _ q=>q) fun _ _ q=>q
theorem HOk.laid (x:HOk P w H h)(k:∀ b u,h.get? b=some u->h'.get? b=some u)(hp:h.objs.size<=a)(new:ObjOk P w (upd H a o) h' a o):HOk P w (upd H a o) h':=fun b u e=>by
 have hn:=x.fresh hp
 by_cases hb:b=a
 ·subst hb; rw [upd_same] at e; cases e; exact new
 ·rw [upd_ne hb] at e
  exact (x b u e).stay (fun c v _ q=>k c v q) (fun c q=>by rw [upd_ne (ne_of_none q hn)]; exact q) fun c xs q=>by rw [upd_ne (ne_of_none q hn)]; exact q
end
noncomputable def Rd (H:Hp)(a:Addr)(u:HO):Prop:=H a=some u\/∃ o,H a=some (.frz o u)
theorem Rd.ok {P:Program}{w:World}{H:Hp}{h:Heap}{a:Addr}{u:HO}(r:Rd H a u)(x:HOk P w H h):ObjOk P w H h a u:=by
 rcases r with r | ⟨o,r⟩
 ·exact x a u r
 ·obtain ⟨_,q⟩:=x a _ r
  exact q
noncomputable def Mut:Option HO->Prop
 | some (.lst _)=>True
 | some (.dK _)=>True
 | some (.dT _)=>True
 | some (.set _ _)=>True
 | some (.ins _ _ _)=>True
 | some (.ext _)=>True
 | _=>False
section
variable {P:Program}{w:World}{H:Hp}{h h':Heap}{x e:Addr}{o':HO}
theorem HOk.write (ok:HOk P w H h)(mu:Mut (H x))(he:e=x\/H e=some (.own x))(k:∀ b u,b ≠ e->h.get? b=some u->h'.get? b=some u)(heo:∃ u,h'.get? e=some u)
  (new:ObjOk P w (upd H x o') h' x o'):HOk P w (upd H x o') h':=fun b u q=>by
 have nown:∀ c y,H c=some (.own y)->c ≠ x:=fun c y r z=>by subst z; rw [r] at mu; exact mu
 have ntup:∀ c xs,H c=some (.tup xs)->c ≠ x:=fun c xs r z=>by subst z; rw [r] at mu; exact mu
 by_cases hb:b=x
 ·subst hb; rw [upd_same] at q; cases q; exact new
 ·rw [upd_ne hb] at q
  by_cases hbe:b=e
  ·have q':H b=some (.own x):=by
    rcases he with z | z
    ·exact absurd (hbe.trans z) hb
    ·rw [hbe]; exact z
   rw [q] at q'; cases q'
   obtain ⟨v,hv⟩:=heo
   exact ⟨v,by rw [hbe]; exact hv⟩
  ·refine (ok b u q).stay (fun c v hc r=>k c v ?_ r) (fun c r=>by rw [upd_ne (nown c b r)]; exact r) fun c xs r=>by rw [upd_ne (ntup c xs r)]; exact r
   rcases hc with rfl | hc
   ·exact hbe
   ·rintro rfl
    rcases he with z | z
    ·exact nown c b hc z
    ·rw [hc] at z; cases z; exact hb rfl
end
structure Un (fs ex:List Addr)(H H':Hp)(h h':Heap):Prop where
 keep:∀ b o,h.get? b=some o->H b=none->b ∉ fs->b ∉ ex->h'.get? b=some o
 slot:∀ b o,h.get? b=some o->H b=none->b ∈ fs->b ∉ ex->∃ sl,h'.get? b=some { o with slots:=sl }
 free:∀ b o,h.get? b=some o->H b=none->b ∉ ex->H' b=none
 there:∀ b o,h.get? b=some o->b ∉ ex->∃ o',h'.get? b=some o'
 tups:∀ b xs,H b=some (.tup xs)->H' b=some (.tup xs)
 frzs:∀ b o u,H b=some (.frz o u)->H' b=some (.frz o u)
 tbls:∀ b ps,H b=some (.tbl ps)->∃ more,H' b=some (.tbl (ps++more))
section
variable {fs fs' ex ex':List Addr}{H H1 H2:Hp}{h h1 h2 h':Heap}{a x e:Addr}{o:HO}
theorem Un.any (u:Un fs ex H H1 h h1){b:Addr}{ob:Obj}(q:h.get? b=some ob)(n:H b=none)(hx:b ∉ ex):∃ sl,h1.get? b=some { ob with slots:=sl }:=by
 by_cases hb:b ∈ fs
 ·exact u.slot b ob q n hb hx
 ·exact ⟨ob.slots,u.keep b ob q n hb hx⟩
theorem Un.kept (k:∀ b u,h.get? b=some u->h'.get? b=some u):Un fs ex H H h h' :=
 ⟨fun b ob q _ _ _=>k b ob q,fun b ob q _ _ _=>⟨ob.slots,k b ob q⟩,fun _ _ _ n _=>n,fun b ob q _=>⟨ob,k b ob q⟩,fun _ _ q=>q,fun _ _ _ q=>q,fun _ ps q=>⟨#[],by rw [q]; simp⟩⟩
theorem Un.refl:Un fs ex H H h h:=Un.kept fun _ _ q=>q
theorem Un.laid (k:∀ b u,h.get? b=some u->h'.get? b=some u)(hp:h.objs.size<=a)(hn:H a=none):Un fs ex H (upd H a o) h h' where
 keep:=fun b u q _ _ _=>k b u q
 slot:=fun b u q _ _ _=>⟨u.slots,k b u q⟩
 free:=fun b u q n _=>by rw [upd_ne (Nat.ne_of_lt (Nat.lt_of_lt_of_le (Heap.lt_size q) hp))]; exact n
 there:=fun b u q _=>⟨u,k b u q⟩
 tups:=fun b xs q=>by rw [upd_ne (ne_of_none q hn)]; exact q
 frzs:=fun b u xs q=>by rw [upd_ne (ne_of_none q hn)]; exact q
 tbls:=fun b ps q=>⟨#[],by rw [upd_ne (ne_of_none q hn),q]; simp⟩
theorem Un.write (mu:Mut (H x))(he:e=x\/H e=some (.own x))(k:∀ b u,b ≠ e->h.get? b=some u->h'.get? b=some u)(heo:∃ u,h'.get? e=some u):Un fs ex H (upd H x o) h h':=by
 have hx:∀ b,H b=none->b ≠ x:=fun b n z=>by subst z; rw [n] at mu; exact mu
 have hb:∀ b,H b=none->b ≠ e:=fun b n z=>by
  subst z
  rcases he with r | r
  ·exact hx b n r
  ·rw [n] at r; cases r
 have hm:∀ b u,H b=some u->¬ Mut (some u)->b ≠ x:=fun b u q nm z=>by subst z; rw [q] at mu; exact nm mu
 refine ⟨fun b u q n _ _=>k b u (hb b n) q,fun b u q n _ _=>⟨u.slots,k b u (hb b n) q⟩,fun b u q n _=>by rw [upd_ne (hx b n)]; exact n,fun b u q _=>?_,
  fun b xs q=>by rw [upd_ne (hm b _ q fun z=>z)]; exact q,fun b u xs q=>by rw [upd_ne (hm b _ q fun z=>z)]; exact q,fun b ps q=>⟨#[],by rw [upd_ne (hm b _ q fun z=>z),q]; simp⟩⟩
 by_cases hbe:b=e
 ·subst hbe; exact heo
 ·exact ⟨u,k b u hbe q⟩
end
noncomputable def trk (h:Heap)(H:Hp):List Addr:=(List.range h.objs.size).filter fun a=>(H a).isSome
noncomputable def hidT (h:Heap)(H:Hp):Heap:=PySem.W.hideAll h (trk h H)
theorem hidT_size (h:Heap)(H:Hp):(hidT h H).objs.size=h.objs.size:=PySem.W.hideAll_size _ _
theorem hidT_get {h:Heap}{H:Hp}{b:Addr}{o:Obj}(e:h.get? b=some o)(n:H b=none):(hidT h H).get? b=some o :=
 PySem.W.hideAll_get _ e fun hm=>by
  have q:(H b).isSome=true:=(List.mem_filter.mp hm).2
  rw [n] at q; simp at q
theorem of_hidT {h:Heap}{H:Hp}{b:Addr}{o:Obj}(e:(hidT h H).get? b=some o):h.get? b=some o/\H b=none:=by
 have e':h.get? b=some o:=PySem.W.of_hideAll (trk h H) e
 refine ⟨e',?_⟩
 cases q:H b with
 | none=>rfl
 | some x =>
  have hm:b ∈ trk h H:=List.mem_filter.mpr ⟨List.mem_range.mpr (Heap.lt_size e'),by simp [q]⟩
  have z:(hidT h H).get? b=none:=PySem.W.hideAll_none (trk h H) hm
  rw [z] at e; cases e
end L2
namespace L2
open PySem PySem.Spec PyProof.Rows
structure Mod (K:PySem.W.Frag)(mg:Str->Option Value)(base:Heap):Prop where
 kin:K.In base
 glob:base.Ns mainGlobals mg
 blt:∃ mb,base.Ns builtinsNs mb/\∀ x:Str,x ≠ "__name__"->mb x=bootBuiltins x
 nolimit:base.NoLimit
structure Cx where
 prog:Program
 w:World
 K:PySem.W.Frag
 mg:Str->Option Value
 base:Heap
 A:Around
 N:List Str
 s₀:Shared
 H₀:Hp
 env:Env
 outer:List Env
 stack:List Env
 ex:List Addr
 fn:Str->Bool
 calm:Bool
 pn:List (Addr × Obj)
 xe:Value->Shared->Prop
noncomputable def frs (l:List Env):List Addr:=l.filterMap (·.frame)
noncomputable abbrev Cx.fs (X:Cx):List Addr:=frs X.outer
noncomputable def Vis (sc:Scope)(x:Str):Prop:=sc.names.lookup x=some .local\/sc.names.lookup x=some .cell\/sc.names.lookup x=some .free
noncomputable def Loc (sc:Scope)(x:Str):Prop:=sc.names.lookup x=some .local\/sc.names.lookup x=some .cell
noncomputable def Look (env:Env)(h:Heap)(m:Str->Option Value)(x:Str)(u:Value):Prop :=
 (env.kindOf x=some .local/\m x=some u)\/((env.kindOf x=some .cell\/env.kindOf x=some .free)/\∃ c,env.cells.lookup x=some c/\h.IsCell c (some u))
structure Cx.Ok (X:Cx):Prop where
 mod:Mod X.K X.mg X.base
 kind:X.env.scope.kind=.function
 glob:X.env.globals=mainGlobals
 blt:X.env.builtins=builtinsNs
 above:X.s₀.heap.objs.size<=X.env.locals
 inj:∀ x y c,X.env.cells.lookup x=some c->X.env.cells.lookup y=some c->x=y
 has:∀ x,(X.env.kindOf x=some .cell\/X.env.kindOf x=some .free)->∃ c,X.env.cells.lookup x=some c
 cab:∀ x c,X.fn x=true->X.env.cells.lookup x=some c->X.s₀.heap.objs.size<=c
 hd:X.calm=true->X.A.handled=none
 frames:X.A.frames=some X.stack
 stk:X.stack=X.outer\/(X.stack=X.env :: X.outer/\X.env.frame=some X.env.locals)
 exf:∀ b ∈ X.ex,b ≠ X.env.locals/\∀ x c,X.env.cells.lookup x=some c->c ≠ b
 bs:∀ b o,X.base.get? b=some o->X.s₀.heap.get? b=some o/\X.H₀ b=none
 bsz:X.base.objs.size<=X.s₀.heap.objs.size
 noex:∀ b o,X.base.get? b=some o->b ∉ X.ex
 exfs:∀ b ∈ X.ex,b ∉ X.fs
 funs:X.s₀.heap.FunFrames X.base X.outer
 frf:∀ b ∈ X.fs,X.H₀ b=none
structure Inv (X:Cx)(pins:List (Addr × Obj))(σ:List (Option V))(H:Hp)(s:Shared):Prop where
 ok:X.Ok
 os:s.os=X.s₀.os
 bare:AllBare s.gens
 base:Un X.fs X.ex X.H₀ H X.s₀.heap s.heap
 loc:∃ m,s.heap.Ns X.env.locals m/\∀ (i:Nat) (x:Str) (v:V),X.N[i]?=some x->σ[i]?=some (some v)->Vis X.env.scope x->∃ u,RelV v u/\Look X.env s.heap m x u
 cell:∀ x c,X.env.cells.lookup x=some c->∃ v,s.heap.IsCell c v
 free:H X.env.locals=none
 freeC:∀ x c,X.env.cells.lookup x=some c->H c=none
 pin:∀ p ∈ X.pn++pins,s.heap.get? p.1=some p.2/\H p.1=none/\p.1 ≠ X.env.locals/\p.1 ∉ X.fs/\∀ v,p.2.data ≠ .cell v
 hok:HOk X.prog X.w H s.heap
 len:σ.length=X.N.length
section
variable {X:Cx}{pins:List (Addr × Obj)}{σ:List (Option V)}{H H':Hp}{s:Shared}{h':Heap}
theorem Cx.Ok.nofr (ok:X.Ok){b:Addr}{o:Obj}(e:X.base.get? b=some o):b ∉ X.fs:=fun hb=>by
 have:=(ok.funs.mem hb).1
 rw [e] at this; cases this
theorem Inv.bs (I:Inv X pins σ H s):∀ b o,X.base.get? b=some o->s.heap.get? b=some o/\H b=none:=fun b o e =>
 ⟨I.base.keep b o (I.ok.bs b o e).1 (I.ok.bs b o e).2 (I.ok.nofr e) (I.ok.noex b o e),I.base.free b o (I.ok.bs b o e).1 (I.ok.bs b o e).2 (I.ok.noex b o e)⟩
theorem Inv.bk (I:Inv X pins σ H s):∀ b o,X.base.get? b=some o->s.heap.get? b=some o:=fun b o e=>(I.bs b o e).1
theorem Inv.mod (I:Inv X pins σ H s):Mod X.K X.mg X.base:=I.ok.mod
theorem Inv.kIn (I:Inv X pins σ H s):X.K.In s.heap:=I.ok.mod.kin.keeps I.bk
theorem Inv.lt (I:Inv X pins σ H s):X.env.locals < s.heap.objs.size:=let ⟨_,hn,_⟩:=I.loc; hn.lt
theorem Inv.sz (I:Inv X pins σ H s):X.s₀.heap.objs.size<=s.heap.objs.size:=Nat.le_trans I.ok.above (Nat.le_of_lt I.lt)
theorem Inv.nofs (I:Inv X pins σ H s){a:Addr}(h:s.heap.objs.size<=a):a ∉ X.fs:=fun hb=>by
 obtain ⟨_,o,ho,_⟩:=I.ok.funs.mem hb
 exact absurd (Nat.lt_of_lt_of_le (Heap.lt_size ho) (Nat.le_trans I.sz h)) (Nat.lt_irrefl _)
theorem Inv.cne (I:Inv X pins σ H s):∀ x c,X.env.cells.lookup x=some c->c ≠ X.env.locals:=fun x c e z=>by
 obtain ⟨v,o,ho,hd⟩:=I.cell x c e
 obtain ⟨m,⟨o',es,ep,ho',hd',_⟩,_⟩:=I.loc
 rw [z,ho'] at ho; cases ho; rw [hd'] at hd; cases hd
theorem Inv.funs (I:Inv X pins σ H s):s.heap.FunFrames X.base X.outer:=by
 have all:∀ (l:List Env),(∀ b ∈ frs l,b ∈ X.fs)->X.s₀.heap.FunFrames X.base l->s.heap.FunFrames X.base l:=by
  intro l
  induction l with
  | nil=>intro _ _; trivial
  | cons env r ih =>
   intro hs hl
   obtain ⟨hk,⟨L,o,hf,hn,ho,hd⟩,hr⟩:=hl
   have hL:L ∈ X.fs:=hs L (by unfold frs; rw [List.filterMap_cons,hf]; exact List.mem_cons_self)
   obtain ⟨sl,e⟩:=I.base.slot L o ho (I.ok.frf L hL) hL fun z=>I.ok.exfs L z hL
   exact ⟨hk,⟨L,_,hf,hn,e,hd⟩,ih (fun b hb=>hs b (by unfold frs; rw [List.filterMap_cons,hf]; exact List.mem_cons_of_mem _ hb)) hr⟩
 exact all X.outer (fun _ hb=>hb) I.ok.funs
theorem Inv.stack (I:Inv X pins σ H s):s.heap.FunFrames X.base X.stack:=by
 rcases I.ok.stk with e | ⟨e,hf⟩
 ·rw [e]; exact I.funs
 ·rw [e]
  obtain ⟨m,hn,_⟩:=I.loc
  refine .cons (by rw [I.ok.kind]; decide) hf hn ?_ I.funs
  exact Heap.get?_none_of_le (Nat.le_trans I.ok.bsz I.ok.above)
theorem Inv.stkSub (I:Inv X pins σ H s):∀ b ∈ frs X.stack,b ∈ X.env.locals :: X.fs:=fun b hb=>by
 rcases I.ok.stk with e | ⟨e,hf⟩
 ·rw [e] at hb; exact List.mem_cons_of_mem _ hb
 ·rw [e] at hb
  unfold frs at hb
  rw [List.filterMap_cons,hf] at hb
  exact hb
theorem Inv.stkFree (I:Inv X pins σ H s):∀ b ∈ frs X.stack,H b=none:=fun b hb=>by
 rcases List.mem_cons.mp (I.stkSub b hb) with e | hb
 ·rw [e]; exact I.free
 ·obtain ⟨_,o,ho,_⟩:=I.ok.funs.mem hb
  exact I.base.free b o ho (I.ok.frf b hb) fun z=>I.ok.exfs b z hb
theorem Inv.step {g':Array GenState}{t':Nat}{d':Drawn}{ch:List Addr}(I:Inv X pins σ H s)
  (hch:∀ b ∈ ch,(b ∈ X.ex\/X.s₀.heap.objs.size<=b)/\b ≠ X.env.locals/\(∀ x c,X.env.cells.lookup x=some c->c ≠ b)/\∀ p ∈ X.pn++pins,p.1 ≠ b)
  (keep:∀ b o,b ≠ X.env.locals->b ∉ X.fs->b ∉ ch->s.heap.get? b=some o->H b=none->h'.get? b=some o)
  (slot:∀ b o,b ≠ X.env.locals->b ∈ X.fs->b ∉ ch->s.heap.get? b=some o->H b=none->∃ sl,h'.get? b=some { o with slots:=sl }) (free:∀ b o,b ∉ ch->s.heap.get? b=some o->H b=none->H' b=none)
  (there:∀ b o,b ∉ ch->s.heap.get? b=some o->∃ o',h'.get? b=some o')
  (tups:∀ b xs,H b=some (.tup xs)->H' b=some (.tup xs)) (frzs:∀ b o u,H b=some (.frz o u)->H' b=some (.frz o u)) (tbls:∀ b ps,H b=some (.tbl ps)->∃ more,H' b=some (.tbl (ps++more)))
  (ns:∀ m,s.heap.Ns X.env.locals m->h'.Ns X.env.locals m) (hok:HOk X.prog X.w H' h') (hg:AllBare g') :
  Inv X pins σ H' { s with heap:=h',gens:=g',drawn:=d',toks:=t' }:=by
 have neL:∀ b o,X.s₀.heap.get? b=some o->b ≠ X.env.locals:=fun b o e=>Nat.ne_of_lt (Nat.lt_of_lt_of_le (Heap.lt_size e) I.ok.above)
 have neC:∀ b o,X.s₀.heap.get? b=some o->b ∉ X.ex->b ∉ ch:=fun b o e hx hb=>by
  rcases (hch b hb).1 with z | z
  ·exact hx z
  ·exact absurd (Nat.lt_of_lt_of_le (Heap.lt_size e) z) (Nat.lt_irrefl _)
 have cellK:∀ x c,X.env.cells.lookup x=some c->∀ v,s.heap.IsCell c v->h'.IsCell c v:=fun x c e v ⟨o,ho,hd⟩=>by
  have nch:c ∉ ch:=fun z=>(hch c z).2.2.1 x c e rfl
  by_cases hc:c ∈ X.fs
  ·obtain ⟨sl,q⟩:=slot c o (I.cne x c e) hc nch ho (I.freeC x c e)
   exact ⟨_,q,hd⟩
  ·exact ⟨o,keep c o (I.cne x c e) hc nch ho (I.freeC x c e),hd⟩
 refine ⟨I.ok,I.os,hg,⟨fun b o e n hb hx=>?_,fun b o e n hb hx=>?_,fun b o e n hx=>?_,fun b o e hx=>?_,fun b xs e=>tups b xs (I.base.tups b xs e),fun b o xs e=>frzs b o xs (I.base.frzs b o xs e),fun b ps e=>?_⟩,?_,fun x c e=>?_,?_,fun x c e=>?_,fun p hp=>?_,hok,I.len⟩
 ·exact keep b o (neL b o e) hb (neC b o e hx) (I.base.keep b o e n hb hx) (I.base.free b o e n hx)
 ·obtain ⟨sl,e1⟩:=I.base.slot b o e n hb hx
  obtain ⟨sl',e2⟩:=slot b _ (neL b o e) hb (neC b o e hx) e1 (I.base.free b o e n hx)
  exact ⟨sl',e2⟩
 ·obtain ⟨o',e1⟩:=I.base.there b o e hx
  exact free b o' (neC b o e hx) e1 (I.base.free b o e n hx)
 ·obtain ⟨o',e1⟩:=I.base.there b o e hx
  exact there b o' (neC b o e hx) e1
 ·obtain ⟨m1,e1⟩:=I.base.tbls b ps e
  obtain ⟨m2,e2⟩:=tbls b _ e1
  exact ⟨m1++m2,by rw [e2,Array.append_assoc]⟩
 ·obtain ⟨m,hn,hl⟩:=I.loc
  refine ⟨m,ns m hn,fun i x v e1 e2 e3=>?_⟩
  obtain ⟨u,r,l⟩:=hl i x v e1 e2 e3
  refine ⟨u,r,?_⟩
  rcases l with l | ⟨k,c,e,z⟩
  ·exact .inl l
  ·exact .inr ⟨k,c,e,cellK x c e _ z⟩
 ·obtain ⟨v,z⟩:=I.cell x c e
  exact ⟨v,cellK x c e v z⟩
 ·obtain ⟨m,⟨o,_,_,ho,_⟩,_⟩:=I.loc
  exact free _ o (fun z=>(hch _ z).2.1 rfl) ho I.free
 ·obtain ⟨v,o,ho,hd⟩:=I.cell x c e
  exact free c o (fun z=>(hch c z).2.2.1 x c e rfl) ho (I.freeC x c e)
 ·obtain ⟨e,n,ne,nf,d⟩:=I.pin p hp
  have nch:p.1 ∉ ch:=fun z=>(hch p.1 z).2.2.2 p hp rfl
  exact ⟨keep p.1 p.2 ne nf nch e n,free p.1 p.2 nch e n,ne,nf,d⟩
theorem Inv.un {t':Nat}(I:Inv X pins σ H s)(u:Un X.fs [] H H' s.heap h')(hok:HOk X.prog X.w H' h'):Inv X pins σ H' { s with heap:=h',toks:=t' }:=by
 obtain ⟨m,⟨o,es,ep,ho,r⟩,_⟩:=id I.loc
 obtain ⟨sl,hL⟩:=u.any ho I.free (by simp)
 exact I.step (g':=s.gens) (d':=s.drawn) (ch:=[]) (fun _ z=>nomatch z) (fun b o _ hb _ e n=>u.keep b o e n hb (by simp)) (fun b o _ hb _ e n=>u.slot b o e n hb (by simp)) (fun b o _ e n=>u.free b o e n (by simp)) (fun b o _ e=>u.there b o e (by simp)) u.tups u.frzs u.tbls (fun m' hm=>by
  obtain ⟨o',es',ep',ho',r'⟩:=hm
  rw [ho] at ho'; cases ho'
  exact ⟨_,es',ep',hL,r'⟩) hok I.bare
theorem Inv.call {g':Array GenState}{t':Nat}{d':Drawn}{ch:List Addr}(I:Inv X pins σ H s)(u:Un (frs X.stack) ch H H' s.heap h')(hok:HOk X.prog X.w H' h')(hg:AllBare g')
  (hch:∀ b ∈ ch,(b ∈ X.ex\/X.s₀.heap.objs.size<=b)/\b ≠ X.env.locals/\(∀ x c,X.env.cells.lookup x=some c->c ≠ b)/\∀ p ∈ X.pn++pins,p.1 ≠ b) :
  Inv X pins σ H' { s with heap:=h',gens:=g',drawn:=d',toks:=t' }:=by
 obtain ⟨m,⟨o,es,ep,ho,r⟩,_⟩:=id I.loc
 obtain ⟨sl,hL⟩:=u.any ho I.free fun z=>(hch _ z).2.1 rfl
 exact I.step (ch:=ch) hch (fun b o hL hb hc e n=>u.keep b o e n (fun z=>(List.mem_cons.mp (I.stkSub b z)).elim hL hb) hc) (fun b o _ _ hc e n=>u.any e n hc) (fun b o hc e n=>u.free b o e n hc) (fun b o hc e=>u.there b o e hc) u.tups u.frzs u.tbls (fun m' hm=>by
  obtain ⟨o',es',ep',ho',r'⟩:=hm
  rw [ho] at ho'; cases ho'
  exact ⟨_,es',ep',hL,r'⟩) hok hg
theorem Inv.turned {t':Nat}{it:Addr}(I:Inv X pins σ H s)(k:∀ b o,b ≠ it->s.heap.get? b=some o->h'.get? b=some o)(hn:H it=none)(hL:it ≠ X.env.locals)
  (h1:it ∈ X.ex\/X.s₀.heap.objs.size<=it) (h2:∀ x c,X.env.cells.lookup x=some c->c ≠ it) (h3:∀ p ∈ X.pn++pins,p.1 ≠ it):Inv X pins σ H { s with heap:=h',toks:=t' }:=by
 have nit:∀ b u,H b=some u->b ≠ it:=fun b u e z=>by rw [z,hn] at e; cases e
 refine I.step (g':=s.gens) (d':=s.drawn) (ch:=[it]) (fun b hb=>?_) (fun b o _ _ hc e _=>k b o (fun z=>hc (by simp [z])) e) (fun b o _ _ hc e _=>⟨o.slots,k b o (fun z=>hc (by simp [z])) e⟩) (fun _ _ _ _ n=>n)
  (fun b o hc e=>⟨o,k b o (fun z=>hc (by simp [z])) e⟩) (fun _ _ e=>e) (fun _ _ _ e=>e) (fun b ps e=>⟨#[],by rw [e]; simp⟩) (fun m hm=>?_) (fun b u e=>?_) I.bare
 ·have e:b=it:=by simpa using hb
  subst e
  exact ⟨h1,hL,h2,h3⟩
 ·obtain ⟨o,es,ep,ho,r⟩:=hm
  exact ⟨o,es,ep,k _ o (Ne.symm hL) ho,r⟩
 ·refine (I.hok b u e).stay (fun c v hc q=>k c v ?_ q) (fun _ q=>q) fun _ _ q=>q
  rcases hc with z | z
  ·rw [z]; exact nit b u e
  ·exact nit c _ z
theorem Inv.tok (I:Inv X pins σ H s)(t:Nat):Inv X pins σ H { s with toks:=t }:=I.un (h':=s.heap) (t':=t) Un.refl I.hok
theorem Inv.kept {t':Nat}(I:Inv X pins σ H s)(k:∀ b u,s.heap.get? b=some u->h'.get? b=some u):Inv X pins σ H { s with heap:=h',toks:=t' }:=I.un (Un.kept k) (I.hok.kept k)
theorem Inv.laid {a:Addr}{o:HO}{t':Nat}(I:Inv X pins σ H s)(k:∀ b u,s.heap.get? b=some u->h'.get? b=some u)(hp:s.heap.objs.size<=a)(new:ObjOk X.prog X.w (upd H a o) h' a o) :
  Inv X pins σ (upd H a o) { s with heap:=h',toks:=t' }:=I.un (Un.laid k hp (I.hok.fresh hp)) (I.hok.laid k hp new)
theorem Inv.write {x e:Addr}{o:HO}{t':Nat}(I:Inv X pins σ H s)(mu:Mut (H x))(he:e=x\/H e=some (.own x))(k:∀ b u,b ≠ e->s.heap.get? b=some u->h'.get? b=some u)(heo:∃ u,h'.get? e=some u)
  (new:ObjOk X.prog X.w (upd H x o) h' x o):Inv X pins σ (upd H x o) { s with heap:=h',toks:=t' }:=I.un (Un.write mu he k heo) (I.hok.write mu he k heo new)
theorem Inv.pins_of {pins':List (Addr × Obj)}(I:Inv X pins σ H s)(h:∀ p ∈ pins',s.heap.get? p.1=some p.2/\H p.1=none/\p.1 ≠ X.env.locals/\p.1 ∉ X.fs/\∀ v,p.2.data ≠ .cell v):Inv X pins' σ H s :=
 ⟨I.ok,I.os,I.bare,I.base,I.loc,I.cell,I.free,I.freeC,fun p hp=>(List.mem_append.mp hp).elim (fun z=>I.pin p (List.mem_append_left _ z)) (h p),I.hok,I.len⟩
theorem nodup_ix {N:List Str}(hN:N.Nodup){i j:Nat}{x:Str}(a:N[i]?=some x)(b:N[j]?=some x):i=j:=by
 obtain ⟨h1,e1⟩:=List.getElem?_eq_some_iff.mp a
 obtain ⟨h2,e2⟩:=List.getElem?_eq_some_iff.mp b
 exact (List.getElem_inj hN).mp (e1.trans e2.symm)
theorem store_ok2 {M:Model}{A:Around}{E:Value->Shared->Prop}{i:Nat}{x:Str}{v:V}{u:Value}{Q:Unit->Shared->Prop}(I:Inv X pins σ H s)(hN:X.N.Nodup)(hi:X.N[i]?=some x)(hx:Loc X.env.scope x)(r:RelV v u)
  (h:∀ s',Inv X pins (σ.set i (some v)) H s'->(∃ a,Heap.SameBut a s.heap s'.heap/\(a=X.env.locals\/X.env.cells.lookup x=some a))->Q () s') (hf:X.fn x=true\/X.env.scope.names.lookup x=some .local:=by first | exact .inl rfl | exact .inr rfl | assumption):wpAny M A (storeName X.env x u) Q E s:=by
 obtain ⟨m,hn,hl⟩:=id I.loc
 have hcls:(X.env.scope.kind == .class || (X.env.scope.kind == .module && X.env.locals != X.env.globals))=false:=by rw [I.ok.kind]; rfl
 have hiσ:i < σ.length:=by rw [I.len]; exact (List.getElem?_eq_some_iff.mp hi).1
 have cne:=I.cne
 have tracked:∀ {a:Addr} {h':Heap},(∃ o,s.heap.get? a=some o/\H a=none)->Heap.SameBut a s.heap h'->HOk X.prog X.w H h':=fun {a h'} ha hs b ob e=>by
  obtain ⟨_,_,hfree⟩:=ha
  refine (I.hok b ob e).stay (fun c w' hc q=>(hs.2 c ?_).trans q) (fun _ q=>q) fun _ _ q=>q
  rintro rfl
  rcases hc with rfl | hc
  ·rw [hfree] at e; cases e
  ·rw [hfree] at hc; cases hc
 rcases hx with hk | hk
 ·refine wpAny_storeName_local hk hn (fun h' hn' hs=>?_) hcls
  obtain ⟨oL,_,_,hoL,_⟩:=id hn
  refine h _ ⟨I.ok,I.os,I.bare,⟨fun b o e n hb hx=>?_,fun b o e n hb hx=>?_,I.base.free,fun b o e hx=>?_,I.base.tups,I.base.frzs,I.base.tbls⟩,⟨_,hn',fun j y v' e1 e2 e3=>?_⟩,fun y c e=>?_,I.free,I.freeC,fun p hp=>?_,tracked ⟨oL,hoL,I.free⟩ hs,by simpa using I.len⟩ ⟨_,hs,.inl rfl⟩
  ·exact (hs.2 b (Nat.ne_of_lt (Nat.lt_of_lt_of_le (Heap.lt_size e) I.ok.above))).trans (I.base.keep b o e n hb hx)
  ·obtain ⟨sl,e1⟩:=I.base.slot b o e n hb hx
   exact ⟨sl,(hs.2 b (Nat.ne_of_lt (Nat.lt_of_lt_of_le (Heap.lt_size e) I.ok.above))).trans e1⟩
  ·obtain ⟨o',e1⟩:=I.base.there b o e hx
   exact ⟨o',(hs.2 b (Nat.ne_of_lt (Nat.lt_of_lt_of_le (Heap.lt_size e) I.ok.above))).trans e1⟩
  ·by_cases hj:j=i
   ·subst hj
    rw [hi] at e1; cases e1
    rw [List.getElem?_set_self hiσ] at e2
    cases e2
    exact ⟨u,r,.inl ⟨hk,by simp⟩⟩
   ·rw [List.getElem?_set_ne (Ne.symm hj)] at e2
    obtain ⟨u',r',q⟩:=hl j y v' e1 e2 e3
    refine ⟨u',r',?_⟩
    rcases q with ⟨k,e⟩ | ⟨k,c,e,z⟩
    ·refine .inl ⟨k,?_⟩
     have:y ≠ x:=fun e=>hj (nodup_ix hN e1 (e ▸ hi))
     simp [this,e]
    ·exact .inr ⟨k,c,e,z.sameBut hs (cne y c e)⟩
  ·obtain ⟨w',z⟩:=I.cell y c e
   exact ⟨w',z.sameBut hs (cne y c e)⟩
  ·obtain ⟨e,n,ne,nf,d⟩:=I.pin p hp
   exact ⟨(hs.2 p.1 ne).trans e,n,ne,nf,d⟩
 ·have hfn:X.fn x=true:=by
   rcases hf with z | z
   ·exact z
   ·rw [z] at hk; cases hk
  obtain ⟨c,hc⟩:=I.ok.has x (.inl hk)
  obtain ⟨w',z⟩:=I.cell x c hc
  refine wpAny_storeName_cell I.ok.kind hk hc z (fun h' hc' hs=>?_)
  obtain ⟨oc,hoc,hocd⟩:=id z
  refine h { s with heap:=h' } ⟨I.ok,I.os,I.bare,⟨fun b o e n hb hx=>?_,fun b o e n hb hx=>?_,I.base.free,fun b o e hx=>?_,I.base.tups,I.base.frzs,I.base.tbls⟩,⟨m,hn.sameBut hs (Ne.symm (cne x c hc)),fun j y v' e1 e2 e3=>?_⟩,fun y c' e=>?_,I.free,I.freeC,fun p hp=>?_,tracked ⟨oc,hoc,I.freeC x c hc⟩ hs,by simpa using I.len⟩ ⟨c,hs,.inr hc⟩
  ·exact (hs.2 b (Nat.ne_of_lt (Nat.lt_of_lt_of_le (Heap.lt_size e) (I.ok.cab x c hfn hc)))).trans (I.base.keep b o e n hb hx)
  ·obtain ⟨sl,e1⟩:=I.base.slot b o e n hb hx
   exact ⟨sl,(hs.2 b (Nat.ne_of_lt (Nat.lt_of_lt_of_le (Heap.lt_size e) (I.ok.cab x c hfn hc)))).trans e1⟩
  ·obtain ⟨o',e1⟩:=I.base.there b o e hx
   exact ⟨o',(hs.2 b (Nat.ne_of_lt (Nat.lt_of_lt_of_le (Heap.lt_size e) (I.ok.cab x c hfn hc)))).trans e1⟩
  ·by_cases hj:j=i
   ·subst hj
    rw [hi] at e1; cases e1
    rw [List.getElem?_set_self hiσ] at e2
    cases e2
    exact ⟨u,r,.inr ⟨.inl hk,c,hc,hc'⟩⟩
   ·rw [List.getElem?_set_ne (Ne.symm hj)] at e2
    obtain ⟨u',r',q⟩:=hl j y v' e1 e2 e3
    refine ⟨u',r',?_⟩
    rcases q with q | ⟨k,c',e,z'⟩
    ·exact .inl q
    ·refine .inr ⟨k,c',e,z'.sameBut hs ?_⟩
     rintro rfl
     exact hj (nodup_ix hN e1 (I.ok.inj _ _ _ e hc ▸ hi))
  ·by_cases hcc:c'=c
   ·subst hcc; exact ⟨_,hc'⟩
   ·obtain ⟨w2,z2⟩:=I.cell y c' e
    exact ⟨w2,z2.sameBut hs hcc⟩
  ·obtain ⟨e,n,ne,nf,d⟩:=I.pin p hp
   refine ⟨(hs.2 p.1 ?_).trans e,n,ne,nf,d⟩
   intro q
   rw [q,hoc] at e
   have q':oc=p.2:=Option.some.inj e
   exact d w' (by rw [<- q']; exact hocd)
theorem store_ok {M:Model}{A:Around}{E:Value->Shared->Prop}{i:Nat}{x:Str}{v:V}{u:Value}{Q:Unit->Shared->Prop}(I:Inv X pins σ H s)(hN:X.N.Nodup)(hi:X.N[i]?=some x)(hx:Loc X.env.scope x)(r:RelV v u)
  (h:∀ s',Inv X pins (σ.set i (some v)) H s'->Q () s') (hf:X.fn x=true\/X.env.scope.names.lookup x=some .local:=by first | exact .inl rfl | exact .inr rfl | assumption):wpAny M A (storeName X.env x u) Q E s :=
 store_ok2 I hN hi hx r (fun s' I' _=>h s' I') hf
theorem Inv.call' {s':Shared}{ch:List Addr}(I:Inv X pins σ H s)(ho:s'.os=s.os)(u:Un (frs X.stack) ch H H' s.heap s'.heap)(hok:HOk X.prog X.w H' s'.heap)(hg:AllBare s'.gens)
  (hch:∀ b ∈ ch,(b ∈ X.ex\/X.s₀.heap.objs.size<=b)/\b ≠ X.env.locals/\(∀ x c,X.env.cells.lookup x=some c->c ≠ b)/\∀ p ∈ X.pn++pins,p.1 ≠ b):Inv X pins σ H' s':=by
 obtain ⟨h',g',d',t',o'⟩:=s'
 have e:o'=s.os:=ho
 subst e
 exact I.call (g':=g') (t':=t') (d':=d') u hok hg hch
end
noncomputable abbrev XK:=Value->Option Addr->Hp->Prop
noncomputable abbrev St:=List (Option V)
noncomputable abbrev VK:=V->Hp->Prop
noncomputable abbrev TE:=St->Hp->VK->Prop
noncomputable abbrev TT:=St->Hp->(Bool->Hp->Prop)->Prop
noncomputable abbrev TA:=St->Hp->(List V->Hp->Prop)->Prop
structure Ends where
 nx:St->Hp->Prop
 rt:VK
 bk:St->Hp->Prop:=fun _ _=>False
 ct:St->Hp->Prop:=fun _ _=>False
noncomputable abbrev TS:=Ends->St->Hp->Prop
noncomputable def EP (X:Cx)(pins:List (Addr × Obj))(σ:St)(Q:VK)(u:Value)(s':Shared):Prop:=∃ v H',Inv X pins σ H' s'/\RelV v u/\Q v H'
noncomputable def TP (X:Cx)(pins:List (Addr × Obj))(σ:St)(Q:Bool->Hp->Prop)(b:Bool)(s':Shared):Prop:=∃ H',Inv X pins σ H' s'/\Q b H'
noncomputable def AP (X:Cx)(pins:List (Addr × Obj))(σ:St)(Q:List V->Hp->Prop)(us:List Value)(s':Shared):Prop:=∃ vs H',Inv X pins σ H' s'/\Vals vs us/\Q vs H'
noncomputable def SP (X:Cx)(pins:List (Addr × Obj))(D:Ends)(f:Flow)(s':Shared):Prop :=
 match f with
 | .next=>∃ σ' H',Inv X pins σ' H' s'/\D.nx σ' H'
 | .brk=>∃ σ' H',Inv X pins σ' H' s'/\D.bk σ' H'
 | .cont=>∃ σ' H',Inv X pins σ' H' s'/\D.ct σ' H'
 | .ret u=>∃ v σ' H',Inv X pins σ' H' s'/\RelV v u/\D.rt v H'
noncomputable def PE (X:Cx)(e:Expr)(t:TE):Prop :=
 ∀ (pins:List (Addr × Obj)) (s:Shared) (σ:St) (H:Hp) (Q:VK),Inv X pins σ H s->t σ H Q->wpAny (model X.prog X.w) X.A (eval e X.env) (EP X pins σ Q) X.xe s
noncomputable def PT (X:Cx)(e:Expr)(t:TT):Prop :=
 ∀ (pins:List (Addr × Obj)) (s:Shared) (σ:St) (H:Hp) (Q:Bool->Hp->Prop),Inv X pins σ H s->t σ H Q->wpAny (model X.prog X.w) X.A (isTrue e X.env (eval e X.env)) (TP X pins σ Q) X.xe s
noncomputable def PW (X:Cx)(e:Expr)(t:TT):Prop :=
 ∀ (whole:Sem Value) (pins:List (Addr × Obj)) (s:Shared) (σ:St) (H:Hp) (Q:Bool->Hp->Prop),Inv X pins σ H s->t σ H Q->wpAny (model X.prog X.w) X.A (isTrue e X.env whole) (TP X pins σ Q) X.xe s
theorem PW.pt {X:Cx}{e:Expr}{t:TT}(h:PW X e t):PT X e t:=h _
noncomputable def PA (X:Cx)(es:List Expr)(t:TA):Prop :=
 ∀ (pos:Pos) (pins:List (Addr × Obj)) (s:Shared) (σ:St) (H:Hp) (Q:List V->Hp->Prop),Inv X pins σ H s->t σ H Q->wpAny (model X.prog X.w) X.A (spliced (backTo pos (starEach es X.env))) (AP X pins σ Q) X.xe s
noncomputable def PS (X:Cx)(st:Stmt)(t:TS):Prop :=
 ∀ (pins:List (Addr × Obj)) (s:Shared) (σ:St) (H:Hp) (D:Ends),Inv X pins σ H s->t D σ H->wpAny (model X.prog X.w) X.A (exec st X.env) (SP X pins D) X.xe s
noncomputable def PSs (X:Cx)(st:List Stmt)(t:TS):Prop :=
 ∀ (pins:List (Addr × Obj)) (s:Shared) (σ:St) (H:Hp) (D:Ends),Inv X pins σ H s->t D σ H->wpAny (model X.prog X.w) X.A (execs st X.env) (SP X pins D) X.xe s
theorem thn {α:Type}{t:Sem α}{Q Q':α->Shared->Prop}{M:Model}{A:Around}{E:Value->Shared->Prop}{s:Shared}(h:wpAny M A t Q E s)(hQ:∀ a s,Q a s->Q' a s):wpAny M A t Q' E s:=wpAny_mono h hQ fun _ _ x=>x
end L2
namespace L2
open PySem PySem.Spec PyProof.Rows
section
variable {X:Cx}
noncomputable def tVar (i:Nat):TE:=fun σ H Q=>∃ v,σ[i]?=some (some v)/\Q v H
noncomputable def tC (v:V):TE:=fun _ H Q=>Q v H
theorem pe_var {i:Nat}{x:Str}{pos:Pos}(hN:X.N[i]?=some x)(hv:Vis X.env.scope x)(hd:(x == ("__debug__":Str))=false:=by decide)(hcd:(x == ("__classdict__":Str))=false:=by decide):PE X (.Name x pos) (tVar i):=by
 intro pins s σ H Q I h
 obtain ⟨v,e,h⟩:=h
 obtain ⟨m,hn,hl⟩:=I.loc
 obtain ⟨u,r,l⟩:=hl i x v hN e hv
 have fin:EP X pins σ Q u s:=⟨v,H,I,r,h⟩
 rcases l with ⟨hk,hm⟩ | ⟨hk,c,hc,hcell⟩
 ·exact wpAny_Name (wpAny_loadName_local I.ok.kind hk hn hm fin) hd
 ·rcases hk with hk | hk
  ·exact wpAny_Name (wpAny_loadName_cell I.ok.kind hk hc hcell fin) hd
  ·exact wpAny_Name (wpAny_loadName_free I.ok.kind hk hc hcell fin hcd) hd
theorem pe_int {i j pos}:PE X (.Constant (.int i) j pos) (tC (.int i)):=fun _ _ _ H _ I h=>wpAny_Constant_int ⟨.int i,H,I.tok _,⟨_,rfl⟩,h⟩
theorem pe_bl {b j pos}:PE X (.Constant (.bool b) j pos) (tC (.bl b)):=fun _ _ _ H _ I h=>Constant_bool ⟨.bl b,H,I,rfl,h⟩
theorem pe_str {x j pos}:PE X (.Constant (.str x) j pos) (tC (.str x)):=fun _ _ _ H _ I h=>Calls.Constant_str ⟨.str x,H,I.tok _,⟨_,rfl⟩,h⟩
noncomputable def Gl (X:Cx)(x:Str):Prop:=X.env.kindOf x=some .globalImplicit
theorem ld_glob {E:Value->Shared->Prop}{pins:List (Addr × Obj)}{s:Shared}{σ:St}{H:Hp}{x:Str}{u:Value}{pos:Pos}{Q:Value->Shared->Prop}(I:Inv X pins σ H s)(hg:Gl X x)(hm:X.mg x=some u)(h:Q u s)
  (hd:(x == ("__debug__":Str))=false:=by decide):wpAny (model X.prog X.w) X.A (eval (.Name x pos) X.env) Q E s :=
 Calls.Name_function_global I.ok.kind hg (Calls.loadGlobal_global (by rw [I.ok.glob]; exact I.mod.glob.keeps I.bk) hm h) hd
theorem ld_blt {E:Value->Shared->Prop}{pins:List (Addr × Obj)}{s:Shared}{σ:St}{H:Hp}{x:Str}{u:Value}{pos:Pos}{Q:Value->Shared->Prop}(I:Inv X pins σ H s)(hg:Gl X x)(hm:X.mg x=none)(hv:bootBuiltins x=some u)(h:Q u s)
  (hn:x ≠ "__name__":=by decide) (hd:(x == ("__debug__":Str))=false:=by decide):wpAny (model X.prog X.w) X.A (eval (.Name x pos) X.env) Q E s:=by
 obtain ⟨mb,h1,h2⟩:=I.mod.blt
 exact Calls.Name_function_global I.ok.kind hg (Calls.loadGlobal_builtin (by rw [I.ok.glob]; exact I.mod.glob.keeps I.bk) hm (by rw [I.ok.blt]; exact h1.keeps I.bk) ((h2 x hn).trans hv) h) hd
theorem pe_glob {x:Str}{v:V}{u:Value}{pos:Pos}(hg:Gl X x)(hm:X.mg x=some u)(r:RelV v u)(hd:(x == ("__debug__":Str))=false:=by decide):PE X (.Name x pos) (tC v) :=
 fun _ _ _ H _ I h=>ld_glob I hg hm ⟨v,H,I,r,h⟩ hd
theorem pe_bltn {x:Str}{v:V}{u:Value}{pos:Pos}(hg:Gl X x)(hm:X.mg x=none)(hv:bootBuiltins x=some u)(r:RelV v u)(hn:x ≠ "__name__":=by decide)(hd:(x == ("__debug__":Str))=false:=by decide):PE X (.Name x pos) (tC v) :=
 fun _ _ _ H _ I h=>ld_blt I hg hm hv ⟨v,H,I,r,h⟩ hn hd
variable {a b:Expr}{ta tb:TE}{pos:Pos}
variable {tA tB':TT}{rest:List Expr}
noncomputable def tAnd (t u:TT):TT:=fun σ H Q=>t σ H fun c H1=>if c=true then u σ H1 Q else Q false H1
noncomputable def tOr (t u:TT):TT:=fun σ H Q=>t σ H fun c H1=>if c=true then Q true H1 else u σ H1 Q
noncomputable def tNot (t:TT):TT:=fun σ H Q=>t σ H fun c H1=>Q (!c) H1
theorem pw_and1 (ha:PT X a tA):PW X (.BoolOp .And [a] pos) tA:=by
 intro wh pins s σ H Q I h
 refine isTrue_and (thn (ha pins s σ H Q I h) fun c s1 e=>?_)
 cases c with
 | true=>exact isTrue_and_nil e
 | false=>exact e
theorem pw_or1 (ha:PT X a tA):PW X (.BoolOp .Or [a] pos) tA:=by
 intro wh pins s σ H Q I h
 refine isTrue_or (thn (ha pins s σ H Q I h) fun c s1 e=>?_)
 cases c with
 | false=>exact isTrue_or_nil e
 | true=>exact e
theorem pw_and (ha:PT X a tA)(hb:PW X (.BoolOp .And (b :: rest) pos) tB'):PW X (.BoolOp .And (a :: b :: rest) pos) (tAnd tA tB'):=by
 intro wh pins s σ H Q I h
 refine isTrue_and (thn (ha pins s σ H _ I h) fun c s1 ⟨H1,I1,q1⟩=>?_)
 cases c with
 | true=>exact hb wh pins s1 σ H1 Q I1 q1
 | false=>exact ⟨H1,I1,q1⟩
theorem pw_or (ha:PT X a tA)(hb:PW X (.BoolOp .Or (b :: rest) pos) tB'):PW X (.BoolOp .Or (a :: b :: rest) pos) (tOr tA tB'):=by
 intro wh pins s σ H Q I h
 refine isTrue_or (thn (ha pins s σ H _ I h) fun c s1 ⟨H1,I1,q1⟩=>?_)
 cases c with
 | true=>exact ⟨H1,I1,q1⟩
 | false=>exact hb wh pins s1 σ H1 Q I1 q1
theorem pt_not (ha:PT X a tA):PT X (.UnaryOp .Not a pos) (tNot tA):=by
 intro pins s σ H Q I h
 exact isTrue_not (ha pins s σ H (fun c H1=>Q (!c) H1) I h)
noncomputable def tAndV (ta tb:TE):TE:=fun σ H Q=>ta σ H fun x H1=>∃ c,x=.bl c/\if c=true then tb σ H1 Q else Q (.bl false) H1
theorem pe_one {op}{t:TE}(h:PE X a t):PE X (.BoolOp op [a] pos) t:=fun pins s σ H Q I hw=>BoolOp_one (h pins s σ H Q I hw)
theorem pe_and (ha:PE X a ta)(hb:PE X (.BoolOp .And (b :: rest) pos) tb):PE X (.BoolOp .And (a :: b :: rest) pos) (tAndV ta tb):=by
 intro pins s σ H Q I h
 refine BoolOp_and (thn (ha pins s σ H _ I h) fun v s1 ⟨x,H1,I1,r1,q1⟩=>?_)
 obtain ⟨c,rfl,q1⟩:=q1
 cases r1
 refine wpAny_truthy_bool ?_
 cases c with
 | true=>exact hb pins s1 σ H1 Q I1 q1
 | false=>exact ⟨.bl false,H1,I1,rfl,q1⟩
end
end L2
namespace L2
open PySem PySem.Spec PyProof.Rows
noncomputable def SqL (K:PySem.W.Frag)(H:Hp)(a:Addr)(xs:List V):Prop :=
 Rd H a (.lst xs) \/
  ∃ (o:Obj) (its:Array Value) (n:Nat),K.lookup a=some o/\o.cls=.type "list"/\o.dict=none/\o.data=.seq its n/\its.size<=sizeLine/\Vals xs its.toList
noncomputable def SqT (K:PySem.W.Frag)(H:Hp)(a:Addr)(xs:List V):Prop :=
 Rd H a (.tup xs) \/
  ∃ (o:Obj) (its:Array Value) (n:Nat),K.lookup a=some o/\o.cls=.type "tuple"/\o.data=.seq its n/\its.size<=sizeLine/\Vals xs its.toList
noncomputable def absV:Value->Option V
 | .none=>some .non
 | .bool b=>some (.bl b)
 | .int i _=>some (.int i)
 | .str x _=>some (.str x)
 | .bytes b _=>some (.byt b)
 | .float b _=>some (.flt b)
 | .ref a=>some (.ref a)
 | .type n=>some (.ty n)
 | _=>none
theorem RelV.abs {x:V}{u:Value}(r:RelV x u):absV u=some x:=by
 cases x with
 | non=>cases r; rfl
 | bl _=>cases r; rfl
 | int _=>obtain ⟨t,rfl⟩:=r; rfl
 | str _=>obtain ⟨t,rfl⟩:=r; rfl
 | byt _=>obtain ⟨t,rfl⟩:=r; rfl
 | flt _=>obtain ⟨t,rfl⟩:=r; rfl
 | ref _=>cases r; rfl
 | ty _=>cases r; rfl
theorem RelV.inj {x y:V}{u:Value}(r:RelV x u)(q:RelV y u):x=y:=Option.some.inj (r.abs.symm.trans q.abs)
theorem Vals.inj:∀ {xs ys:List V} {us:List Value},Vals xs us->Vals ys us->xs=ys
 | _,_,_,.nil,.nil=>rfl
 | _,_,_,.cons r t,.cons r' t'=>by rw [r.inj r',Vals.inj t t']
section
variable {X:Cx}{pins:List (Addr × Obj)}{σ:St}{H:Hp}{s:Shared}{a:Addr}{xs ys:List V}
theorem SqL.of {K:PySem.W.Frag}(h:H a=some (.lst xs)):SqL K H a xs:=.inl (.inl h)
theorem SqT.of {K:PySem.W.Frag}(h:H a=some (.tup xs)):SqT K H a xs:=.inl (.inl h)
theorem Inv.list (I:Inv X pins σ H s)(h:SqL X.K H a xs):∃ its:List Value,Vals xs its/\PlainL s.heap a its.toArray/\xs.length<=sizeLine:=by
 rcases h with h | ⟨o,its,n,hk,hc,hd,hs,hz,r⟩
 ·obtain ⟨z,its,n,r,e⟩:=h.ok I.hok
  exact ⟨its,r,⟨_,n,e,rfl,rfl,rfl⟩,z⟩
 ·refine ⟨its.toList,r,⟨o,n,I.kIn a o hk,hc,hd,by simpa using hs⟩,?_⟩
  have e:=r.length
  simp only [Array.length_toList] at e
  omega
theorem Inv.tuple (I:Inv X pins σ H s)(h:SqT X.K H a xs):∃ its:List Value,Vals xs its/\IsTup s.heap a its.toArray/\xs.length<=sizeLine:=by
 rcases h with h | ⟨o,its,n,hk,hc,hs,hz,r⟩
 ·obtain ⟨z,its,r,p⟩:=h.ok I.hok
  exact ⟨its,r,p,z⟩
 ·refine ⟨its.toList,r,⟨o,I.kIn a o hk,hc,n,by simpa using hs⟩,?_⟩
  have e:=r.length
  simp only [Array.length_toList] at e
  omega
theorem Inv.list_inj (I:Inv X pins σ H s)(h:SqL X.K H a xs)(h':SqL X.K H a ys):xs=ys:=by
 obtain ⟨its,r,⟨o,n,e,_,_,d⟩,_⟩:=I.list h
 obtain ⟨its',r',⟨o',n',e',_,_,d'⟩,_⟩:=I.list h'
 rw [e] at e'; cases e'
 rw [d] at d'
 injection d' with d1 _
 have:its=its':=by simpa using congrArg Array.toList d1
 subst this
 exact r.inj r'
end
noncomputable abbrev Cx.wish (X:Cx)(E:Value->Shared->Prop):Cx:={ X with xe:=E }
noncomputable abbrev Cx.nox (X:Cx):Cx:=X.wish fun _ _=>False
theorem Cx.Ok.wish {X:Cx}(ok:X.Ok)(E:Value->Shared->Prop):(X.wish E).Ok :=
 ⟨ok.mod,ok.kind,ok.glob,ok.blt,ok.above,ok.inj,ok.has,ok.cab,ok.hd,ok.frames,ok.stk,ok.exf,ok.bs,ok.bsz,ok.noex,ok.exfs,ok.funs,ok.frf⟩
theorem Cx.Ok.unwish {X:Cx}{E:Value->Shared->Prop}(ok:(X.wish E).Ok):X.Ok :=
 ⟨ok.mod,ok.kind,ok.glob,ok.blt,ok.above,ok.inj,ok.has,ok.cab,ok.hd,ok.frames,ok.stk,ok.exf,ok.bs,ok.bsz,ok.noex,ok.exfs,ok.funs,ok.frf⟩
section
variable {X:Cx}{pins:List (Addr × Obj)}{σ:St}{H:Hp}{s:Shared}{E:Value->Shared->Prop}
theorem Inv.wish (I:Inv X pins σ H s)(E:Value->Shared->Prop):Inv (X.wish E) pins σ H s:=⟨I.ok.wish E,I.os,I.bare,I.base,I.loc,I.cell,I.free,I.freeC,I.pin,I.hok,I.len⟩
theorem Inv.unwish (I:Inv (X.wish E) pins σ H s):Inv X pins σ H s:=⟨I.ok.unwish,I.os,I.bare,I.base,I.loc,I.cell,I.free,I.freeC,I.pin,I.hok,I.len⟩
theorem SP.unwish {D:Ends}{f:Flow}{s':Shared}(h:SP (X.wish E) pins D f s'):SP X pins D f s':=by
 cases f with
 | next=>obtain ⟨σ',H',I,q⟩:=h; exact ⟨σ',H',I.unwish,q⟩
 | brk=>obtain ⟨σ',H',I,q⟩:=h; exact ⟨σ',H',I.unwish,q⟩
 | cont=>obtain ⟨σ',H',I,q⟩:=h; exact ⟨σ',H',I.unwish,q⟩
 | ret u=>obtain ⟨v,σ',H',I,r,q⟩:=h; exact ⟨v,σ',H',I.unwish,r,q⟩
theorem PSs.nox {st:List Stmt}{t:TS}(h:PSs X.nox st t):PSs X st t:=fun pins s σ H D I hw =>
 wpAny_mono (h pins s σ H D (I.wish _) hw) (fun _ _ q=>q.unwish) fun _ _ z=>False.elim z
end
section
variable {X:Cx}{st:Stmt}{rest:List Stmt}{t u:TS}{e:Expr}{te:TE}{pos:Pos}
noncomputable def tNext:TS:=fun D σ H=>D.nx σ H
noncomputable def tSeq (t u:TS):TS:=fun D σ H=>t { D with nx:=u D } σ H
theorem pss_nil:PSs X [] tNext:=fun _ _ σ H _ I h=>wpAny_execs_nil ⟨σ,H,I,h⟩
theorem pss_cons (h1:PS X st t)(h2:PSs X rest u):PSs X (st :: rest) (tSeq t u):=by
 intro pins s σ H D I h
 refine wpAny_execs_cons (thn (h1 pins s σ H { D with nx:=u D } I h) fun f s1 q=>?_)
 cases f with
 | next =>
  obtain ⟨σ',H',I',q⟩:=q
  exact h2 pins s1 σ' H' D I' q
 | ret v=>exact q
 | brk=>exact q
 | cont=>exact q
theorem pss_one (h1:PS X st t):PSs X [st] t:=by
 intro pins s σ H D I h
 refine wpAny_execs_cons (thn (h1 pins s σ H D I h) fun f s1 q=>?_)
 cases f with
 | next=>exact wpAny_execs_nil q
 | ret v=>exact q
 | brk=>exact q
 | cont=>exact q
theorem Inv.quiet {pins:List (Addr × Obj)}{σ:St}{H:Hp}{s:Shared}(I:Inv X pins σ H s):interactive X.env=false:=by simp [interactive,I.ok.kind]
noncomputable def tDrop (te:TE):TS:=fun D σ H=>te σ H fun _ H1=>D.nx σ H1
theorem ps_expr (he:PE X e te)(hs:swapsWith e none pos.line X.env=pure false:=by rfl):PS X (.Expr e pos) (tDrop te):=by
 intro pins s σ H D I h
 exact wpAny_Expr_any (thn (he pins s σ H _ I h) fun v s1 ⟨x,H1,I1,r1,q1⟩=>⟨σ,H1,I1,q1⟩) I.quiet hs
noncomputable def tRet (te:TE):TS:=fun D σ H=>te σ H D.rt
theorem ps_ret (he:PE X e te):PS X (.Return (some e) pos) (tRet te):=by
 intro pins s σ H D I h
 exact wpAny_Return_some (thn (he pins s σ H _ I h) fun v s1 ⟨x,H1,I1,r1,q1⟩=>⟨x,σ,H1,I1,r1,q1⟩)
noncomputable def tIfS (c:TT)(t u:TS):TS:=fun D σ H=>c σ H fun b H1=>if b=true then t D σ H1 else u D σ H1
theorem ps_if {c:Expr}{a b:List Stmt}{tc:TT}(hc:PT X c tc)(ha:PSs X a t)(hb:PSs X b u):PS X (.If c a b pos) (tIfS tc t u):=by
 intro pins s σ H D I h
 refine wpAny_If (thn (hc pins s σ H _ I h) fun d s1 ⟨H1,I1,q1⟩=>?_)
 cases d with
 | true=>exact ha pins s1 σ H1 D I1 q1
 | false=>exact hb pins s1 σ H1 D I1 q1
noncomputable def tNever:TS:=fun _ _ _=>False
theorem ps_never:PS X st tNever:=fun _ _ _ _ _ _ h=>h.elim
end
noncomputable abbrev TG:=V->St->Hp->(St->Hp->Prop)->Prop
noncomputable abbrev TGs:=List V->St->Hp->(St->Hp->Prop)->Prop
noncomputable def PG (X:Cx)(target:Expr)(t:TG):Prop :=
 ∀ (pins:List (Addr × Obj)) (s:Shared) (σ:St) (H:Hp) (v:V) (u:Value) (Q:St->Hp->Prop),Inv X pins σ H s->RelV v u->t v σ H Q ->
  wpAny (model X.prog X.w) X.A (assign target X.env u) (fun _ s'=>∃ σ' H',Inv X pins σ' H' s'/\Q σ' H') X.xe s
noncomputable def PGs (X:Cx)(ts:List Expr)(t:TGs):Prop :=
 ∀ (pins:List (Addr × Obj)) (s:Shared) (σ:St) (H:Hp) (vs:List V) (us:List Value) (Q:St->Hp->Prop),Inv X pins σ H s->Vals vs us->t vs σ H Q ->
  wpAny (model X.prog X.w) X.A (assignInOrder ((assignEach ts X.env).map (·.2)) us) (fun _ s'=>∃ σ' H',Inv X pins σ' H' s'/\Q σ' H') X.xe s
section
variable {X:Cx}{pos:Pos}
noncomputable def gName (i:Nat):TG:=fun v σ H Q=>Q (σ.set i (some v)) H
theorem pg_name {i:Nat}{x:Str}(hN:X.N.Nodup)(hi:X.N[i]?=some x)(hx:Loc X.env.scope x)(hf:X.fn x=true\/X.env.scope.names.lookup x=some .local:=by first | exact .inl rfl | exact .inr rfl | assumption):PG X (.Name x pos) (gName i):=by
 intro pins s σ H v u Q I r h
 exact wpAny_assign_Name (store_ok I hN hi hx r (fun s' I'=>⟨_,H,I',h⟩) hf)
noncomputable def gNil:TGs:=fun vs σ H Q=>vs=[]/\Q σ H
noncomputable def gCons (t:TG)(u:TGs):TGs:=fun vs σ H Q=>∃ v r,vs=v :: r/\t v σ H fun σ' H'=>u r σ' H' Q
theorem pgs_nil:PGs X [] gNil:=by
 intro pins s σ H vs us Q I r h
 obtain ⟨e,h⟩:=h
 subst e
 cases r
 exact assignInOrder_nil ⟨σ,H,I,h⟩
theorem pgs_cons {e:Expr}{es:List Expr}{t:TG}{u:TGs}(h1:PG X e t)(h2:PGs X es u)
  (hs:(assignEach (e :: es) X.env).map (·.2)=assign e X.env :: (assignEach es X.env).map (·.2):=by rfl):PGs X (e :: es) (gCons t u):=by
 intro pins s σ H vs us Q I r h
 obtain ⟨v,vr,e1,h⟩:=h
 subst e1
 cases r with
 | cons r rr =>
  rw [hs]
  refine assignInOrder_cons (thn (h1 pins s σ H _ _ _ I r h) fun _ s1 ⟨σ1,H1,I1,q1⟩=>?_)
  exact h2 pins s1 σ1 H1 _ _ Q I1 rr q1
noncomputable def gTup (K:PySem.W.Frag)(n:Nat)(t:TGs):TG:=fun v σ H Q=>∃ a xs,v=.ref a/\SqT K H a xs/\xs.length=n/\t xs σ H Q
theorem pg_tup {es:List Expr}{k:Nat}{t:TGs}{n:Nat}(hc:X.calm=true)(h:PGs X es t)
  (hn:(assignEach es X.env).length=n:=by rfl) (hst:(assignEach es X.env).findIdx? (·.1)=none:=by rfl):PG X (.Tuple es k pos) (gTup X.K n t):=by
 intro pins s σ H v u Q I r hw
 obtain ⟨a,xs,e1,hq,hl,hw⟩:=hw
 subst e1
 cases r
 obtain ⟨its,rv,ht,hz⟩:=I.tuple hq
 refine assign_Tuple_tuple (I.ok.hd hc) ht (by simp [hn,<- hl,rv.length]) hst fun h' hx=>?_
 have I1:Inv X pins σ H { s with heap:=h' }:=I.kept (t':=s.toks) fun b o e=>hx b o (Nat.ne_of_lt (Heap.lt_size e)) e
 exact h pins _ σ H xs _ Q I1 (by simpa using rv) hw
noncomputable def tAsg (te:TE)(g:TG):TS:=fun D σ H=>te σ H fun x H1=>g x σ H1 D.nx
theorem ps_set {i:Nat}{x:Str}{e:Expr}{te:TE}{pos':Pos}(hN:X.N.Nodup)(hi:X.N[i]?=some x)(hx:Loc X.env.scope x)(he:PE X e te)(hs:swapsWith e (some (.Name x pos')) pos.line X.env=pure false:=by rfl)(hf:X.fn x=true\/X.env.scope.names.lookup x=some .local:=by first | exact .inl rfl | exact .inr rfl | assumption) :
  PS X (.Assign [.Name x pos'] e pos) (tAsg te (gName i)):=by
 intro pins s σ H D I h
 refine wpAny_Assign_Name (thn (he pins s σ H _ I h) fun v s1 ⟨y,H1,I1,r1,q1⟩=>?_) hs
 exact store_ok I1 hN hi hx r1 (fun s2 I2=>⟨_,H1,I2,q1⟩) hf
end
section
variable {X:Cx}{pos:Pos}
end
structure It where
 go:Nat->Hp->Prop
 yld:Nat->Hp->V->Hp->Prop
 stop:Nat->Hp->Prop
noncomputable def FpOk (X:Cx)(pins:List (Addr × Obj))(H:Hp)(b:Addr):Prop :=
 H b=none/\b ≠ X.env.locals/\b ∉ X.fs/\(b ∈ X.ex\/X.s₀.heap.objs.size<=b)/\(∀ x c,X.env.cells.lookup x=some c->c ≠ b)/\∀ p ∈ X.pn++pins,p.1 ≠ b
theorem Inv.fpOk {X:Cx}{pins:List (Addr × Obj)}{σ:St}{H H':Hp}{s:Shared}{b:Addr}(I:Inv X pins σ H s)(hb:s.heap.objs.size<=b)(hn:H' b=none):FpOk X pins H' b:=by
 refine ⟨hn,Nat.ne_of_gt (Nat.lt_of_lt_of_le I.lt hb),I.nofs hb,.inr (Nat.le_trans I.sz hb),fun x c e z=>?_,fun p hp z=>?_⟩
 ·obtain ⟨v,q⟩:=I.cell x c e
  exact absurd (Nat.lt_of_lt_of_le q.lt (by rw [z]; exact hb)) (Nat.lt_irrefl _)
 ·exact absurd (Nat.lt_of_lt_of_le (Heap.lt_size (I.pin p hp).1) (by rw [z]; exact hb)) (Nat.lt_irrefl _)
structure Turn (P:Program)(w:World)(K:PySem.W.Frag)(tg:Expr)(J:It)(fp:List Addr)(it:Addr)(tn:Nat->Heap->Prop):Prop where
 mem:it ∈ fp
 obj:∀ i h,tn i h->∀ b ∈ fp,∃ o,h.get? b=some o/\∀ v,o.data ≠ .cell v
 keep:∀ i h h',tn i h->(∀ b ∈ fp,∀ o,h.get? b=some o->h'.get? b=some o)->tn i h'
 item:∀ (X:Cx),X.prog=P->X.w=w->X.K=K->X.calm=true->∀ (i:Nat) (pins:List (Addr × Obj)) (s:Shared) (σ:St) (H:Hp) (E:Value->Shared->Prop),Inv X pins σ H s->(∀ b ∈ fp,FpOk X pins H b)->tn i s.heap->J.go i H ->
  wpAny (model P w) X.A (pyNext (.ref it)) (fun r s1=>∃ u,r=some u /\
   wpAny (model P w) X.A (letOwnedTupleGo tg (.ref it) u) (fun _ s2=>∃ x H',Inv X pins σ H' s2/\RelV x u/\J.yld i H x H'/\tn (i + 1) s2.heap/\∀ b ∈ fp,H' b=none) E s1) E s
 done:∀ (X:Cx),X.prog=P->X.w=w->X.K=K->X.calm=true->∀ (i:Nat) (pins:List (Addr × Obj)) (s:Shared) (σ:St) (H:Hp) (E:Value->Shared->Prop),Inv X pins σ H s->(∀ b ∈ fp,FpOk X pins H b)->tn i s.heap->J.stop i H ->
  wpAny (model P w) X.A (pyNext (.ref it)) (fun r s1=>r=none/\Inv X pins σ H s1) E s
 self:∀ (A:Around) (i:Nat) (s:Shared) (Q:Value->Shared->Prop) (E:Value->Shared->Prop),tn i s.heap->Q (.ref it) s->wpAny (model P w) A (pyIter (.ref it)) Q E s
noncomputable abbrev TI:=St->Hp->(It->Hp->Prop)->Prop
noncomputable def PIE (X:Cx)(pins:List (Addr × Obj))(σ:St)(tg:Expr)(R:It->Hp->Prop)(itv:Value)(s2:Shared):Prop :=
 ∃ (it:Addr) (fp:List Addr) (tn:Nat->Heap->Prop) (J:It) (H':Hp),itv=.ref it/\Inv X pins σ H' s2/\Turn X.prog X.w X.K tg J fp it tn/\tn 0 s2.heap/\(∀ b ∈ fp,FpOk X pins H' b)/\R J H'
noncomputable def PI (X:Cx)(tg iter:Expr)(wi:TI):Prop :=
 ∀ (pins:List (Addr × Obj)) (s:Shared) (σ:St) (H:Hp) (R:It->Hp->Prop),Inv X pins σ H s->wi σ H R ->
  wpAny (model X.prog X.w) X.A (eval iter X.env) (fun v s1=>wpAny (model X.prog X.w) X.A (pyIter v) (PIE X pins σ tg R) X.xe s1) X.xe s
theorem go_of {M:Model}{A:Around}{E:Value->Shared->Prop}{s:Shared}{tg:Expr}{it:Addr}{u:Value}{o:Obj}{n:String}{vs:Array Value}{Q:Unit->Shared->Prop}(ho:s.heap.get? it=some o)(hc:o.cls=.type n)(hd:o.data=.fields vs)
    (hn:["enumerate","zip","dict_itemiterator","dict_reverseitemiterator","odict_iterator","itertools.zip_longest","itertools.pairwise"].contains n=false) (hQ:Q () s):wpAny M A (letOwnedTupleGo tg (.ref it) u) Q E s:=by
  unfold letOwnedTupleGo
  cases tg <;> first
    | exact wpAny_pure hQ
    | (cases u <;> first
        | exact wpAny_pure hQ
        | (refine wpAny_bind (wpAny_load ho ?_)
           rw [hc,hd]
           show wpAny M A (if (["enumerate","zip","dict_itemiterator","dict_reverseitemiterator","odict_iterator","itertools.zip_longest","itertools.pairwise"].contains n && vs[0]? == some (rawInt _))=true then _ else _) Q E s
           rw [if_neg (by intro h; rw [hn,Bool.false_and] at h; cases h)]
           exact wpAny_pure hQ))
noncomputable def Itl (K:PySem.W.Frag)(a:Addr):It :=
 ⟨fun i H=>∃ xs x,SqL K H a xs/\xs[i]?=some x,fun i H x H'=>H'=H/\∀ xs,SqL K H a xs->xs[i]?=some x,fun i H=>∃ xs,SqL K H a xs/\xs.length<=i⟩
noncomputable def Itr (lo:Int)(n:Nat):It:=⟨fun i _=>i < n,fun i H x H'=>H'=H/\x=.int (lo + i),fun i _=>n<=i⟩
theorem turn_list {P:Program}{w:World}{K:PySem.W.Frag}{tg:Expr}(a it:Addr):Turn P w K tg (Itl K a) [it] it (fun i h=>h.IsListIter it a i) where
 mem:=by simp
 obj:=fun i h st b hb=>by
  have e:b=it:=by simpa using hb
  subst e
  obtain ⟨o,e,c,d⟩:=st
  exact ⟨o,e,fun v z=>by rw [d] at z; cases z⟩
 keep:=fun i h h' st k=>st.at fun o e=>k it (by simp) o e
 item:=by
  intro X hP hw hK hc i pins s σ H E I hf st hg
  subst hP hw hK
  obtain ⟨xs,x,hq,hx⟩:=hg
  obtain ⟨its,rv,p,hz⟩:=I.list hq
  obtain ⟨u,hu,ru⟩:=rv.get hx
  obtain ⟨f0,f1,f2,f3,f4,f5⟩:=hf it (by simp)
  refine wpAny_pyNext_list_item st p.isList (x:=u) (by simpa using hu) fun h' st' sb=>?_
  have I1:Inv X pins σ H { s with heap:=h' }:=I.turned (t':=s.toks) (fun b o hb e=>(sb.2 b hb).trans e) f0 f1 f3 f4 f5
  obtain ⟨o,e,c,d⟩:=id st'
  exact ⟨u,rfl,go_of (s:={ s with heap:=h' }) e c d (by decide) ⟨x,H,I1,ru,⟨rfl,fun ys hy=>by rw [I.list_inj hy hq]; exact hx⟩,st',fun b hb=>(hf b hb).1⟩⟩
 done:=by
  intro X hP hw hK hc i pins s σ H E I hf st hg
  subst hP hw hK
  obtain ⟨xs,hq,hx⟩:=hg
  obtain ⟨its,rv,p,hz⟩:=I.list hq
  obtain ⟨f0,f1,f2,f3,f4,f5⟩:=hf it (by simp)
  have hl:=rv.length
  exact wpAny_pyNext_list_end (I.ok.hd hc) st p.isList (by simp; omega) fun h' eb=>⟨rfl,I.turned (t':=s.toks) (fun b o hb e=>eb b o hb e) f0 f1 f3 f4 f5⟩
 self:=fun _ _ _ _ _ st h=>wpAny_pyIter_listiter st h
theorem turn_range {P:Program}{w:World}{K:PySem.W.Frag}{tg:Expr}(it:Addr)(lo:Int)(n:Nat):Turn P w K tg (Itr lo n) [it] it (fun i h=>IsRangeIter h it (lo + (i:Nat) * 1) ((n:Int) - (i:Nat)) 1) where
 mem:=by simp
 obj:=fun i h st b hb=>by
  have e:b=it:=by simpa using hb
  subst e
  exact ⟨_,st,fun v z=>by
   have z':Data.fields _=Data.cell v:=z
   cases z'⟩
 keep:=fun i h h' st k=>k it (by simp) _ st
 item:=by
  intro X hP hw hK hc i pins s σ H E I hf st hg
  subst hP hw hK
  obtain ⟨f0,f1,f2,f3,f4,f5⟩:=hf it (by simp)
  have W:=Walks.range (prog:=X.prog) (w:=X.w) (I.ok.hd hc) it lo 1 n
  refine W.item i s _ _ hg st fun v h' tk hv st' kk=>?_
  obtain ⟨t,rfl⟩:=hv
  have I1:Inv X pins σ H { s with heap:=h',toks:=tk }:=I.turned (fun b o hb e=>kk b o (by simpa using hb) e) f0 f1 f3 f4 f5
  refine ⟨_,rfl,go_of (s:={ s with heap:=h',toks:=tk }) (n:="range_iterator") st' rfl rfl (by decide) ⟨.int (lo + i),H,I1,⟨t,?_⟩,⟨rfl,rfl⟩,st',fun b hb=>(hf b hb).1⟩⟩
  rw [Int.mul_one]
 done:=by
  intro X hP hw hK hc i pins s σ H E I hf st hg
  subst hP hw hK
  obtain ⟨f0,f1,f2,f3,f4,f5⟩:=hf it (by simp)
  exact wpAny_pyNext_range_end (I.ok.hd hc) st (by have:n<=i:=hg; omega) fun h' eb=>⟨rfl,I.turned (t':=s.toks) (fun b o hb e=>eb b o hb e) f0 f1 f3 f4 f5⟩
 self:=fun _ _ _ _ _ st h=>wpAny_pyIter_rangeiter st h
end L2
namespace L2
open PySem PySem.Spec PyProof.Rows
section
variable {X:Cx}{tg:Expr}
noncomputable def iList (K:PySem.W.Frag)(tl:TE):TI:=fun σ H R=>tl σ H fun x H1=>∃ a,x=.ref a/\(∃ xs,SqL K H1 a xs)/\R (Itl K a) H1
theorem pi_list {l:Expr}{tl:TE}(hl:PE X l tl):PI X tg l (iList X.K tl):=by
 intro pins s σ H R I h
 refine thn (hl pins s σ H _ I h) fun v s1 ⟨x,H1,I1,r1,q1⟩=>?_
 obtain ⟨a,e,⟨xs,hq⟩,q⟩:=q1
 subst e
 cases r1
 obtain ⟨its,rv,p,hz⟩:=I1.list hq
 refine wpAny_pyIter_list p.isList ?_
 refine ⟨s1.heap.objs.size,[s1.heap.objs.size],_,_,H1,rfl,I1.kept (t':=s1.toks) fun b o e=>Heap.get?_push_of_some _ e,turn_list a _,⟨_,Heap.get?_push_size _ rfl,rfl,rfl⟩,fun b hb=>?_,q⟩
 have e:b=s1.heap.objs.size:=by simpa using hb
 subst e
 exact I1.fpOk (Nat.le_refl _) (I1.hok.fresh (Nat.le_refl _))
theorem range_it {pins:List (Addr × Obj)}{σ:St}{H:Hp}{s:Shared}{R:It->Hp->Prop}{E:Value->Shared->Prop}{lo hi:Int}{t u v:Tok}{tk:Nat}(I:Inv X pins σ H s)(h1:-(2 ^ 62)<=lo)(h2:lo < 2 ^ 62)(h3:-(2 ^ 62)<=hi)(h4:hi < 2 ^ 62)
  (q:R (Itr lo (hi - lo).toNat) H):wpAny (model X.prog X.w) X.A (pyIter (.ref s.heap.objs.size)) (PIE X pins σ tg R) E { s with heap:=s.heap.push { cls:=.type "range",data:=.fields #[.int lo t,.int hi u,.int 1 v] },toks:=tk }:=by
 refine wpAny_pyIter_range (IsRange.new ..) (small_one h1 h2 h3 h4) ?_
 have I1:Inv X pins σ H { s with heap:=s.heap.push { cls:=.type "range",data:=.fields #[.int lo t,.int hi u,.int 1 v] },toks:=tk }:=I.kept fun b o e=>Heap.get?_push_of_some _ e
 refine ⟨(s.heap.push { cls:=.type "range",data:=.fields #[.int lo t,.int hi u,.int 1 v] }).objs.size,[(s.heap.push { cls:=.type "range",data:=.fields #[.int lo t,.int hi u,.int 1 v] }).objs.size],_,_,H,rfl,
  I1.kept (t':=tk) fun b o e=>Heap.get?_push_of_some _ e,turn_range _ lo (hi - lo).toNat,?_,fun b hb=>?_,q⟩
 ·have e1:lo + ((0:Nat):Int) * 1=lo:=by simp
  have e2:(((hi - lo).toNat:Nat):Int) - ((0:Nat):Int)=Builtin.Range.rangeSize lo hi 1:=by rw [rangeSize_one]; split <;> omega
  show IsRangeIter _ _ (lo + ((0:Nat):Int) * 1) ((((hi - lo).toNat:Nat):Int) - ((0:Nat):Int)) 1
  rw [e1,e2]
  exact Heap.get?_push_size _ rfl
 ·have e:b=(s.heap.push { cls:=.type "range",data:=.fields #[.int lo t,.int hi u,.int 1 v] }).objs.size:=by simpa using hb
  subst e
  exact I1.fpOk (Nat.le_refl _) (I1.hok.fresh (Nat.le_refl _))
noncomputable def iRng1 (ta:TA):TI:=fun σ H R=>ta σ H fun vs H1=>∃ j:Int,vs=[.int j]/\-(2 ^ 62)<=j/\j < 2 ^ 62/\R (Itr 0 j.toNat) H1
noncomputable def iRng2 (ta:TA):TI:=fun σ H R=>ta σ H fun vs H1=>∃ i j:Int,vs=[.int i,.int j]/\(-(2 ^ 62)<=i/\i < 2 ^ 62/\-(2 ^ 62)<=j/\j < 2 ^ 62)/\R (Itr i (j - i).toNat) H1
theorem pi_range1 {a:Expr}{ta:TA}{p pos:Pos}(hg:Gl X "range")(hm:X.mg "range"=none)(ha:PA X [a] ta)(hs:starEach [a] X.env=[(false,eval a X.env)]:=by rfl):PI X tg (.Call (.Name "range" p) [a] [] pos) (iRng1 ta):=by
 intro pins s σ H R I h
 refine Call_ (ld_blt I hg hm boot_range (PyProof.Rows.callWith_type1 (thn (ha pos pins s σ H _ I h) fun us s1 ⟨vs,H1,I1,r1,q1⟩=>?_) hs rfl))
 obtain ⟨j,e,q1,q2,q⟩:=q1
 subst e
 cases r1 with
 | cons r rr =>
  cases rr
  obtain ⟨t,rfl⟩:=r
  exact call_range_1 (range_it I1 (by omega) (by omega) q1 q2 (by simpa using q))
theorem pi_range2 {a b:Expr}{ta:TA}{p pos:Pos}(hg:Gl X "range")(hm:X.mg "range"=none)(ha:PA X [a,b] ta)(hs:starEach [a,b] X.env=[(false,eval a X.env),(false,eval b X.env)]:=by rfl)(hs2:starEach [b] X.env=[(false,eval b X.env)]:=by rfl) :
  PI X tg (.Call (.Name "range" p) [a,b] [] pos) (iRng2 ta):=by
 intro pins s σ H R I h
 refine Call_ (ld_blt I hg hm boot_range (PyProof.Rows.callWith_type1 (thn (ha pos pins s σ H _ I h) fun us s1 ⟨vs,H1,I1,r1,q1⟩=>?_) (by rw [hs,hs2]) (by rw [hs2]; rfl)))
 obtain ⟨i,j,e,⟨q1,q2,q3,q4⟩,q⟩:=q1
 subst e
 cases r1 with
 | cons r rr =>
  cases rr with
  | cons r' rr =>
   cases rr
   obtain ⟨t,rfl⟩:=r
   obtain ⟨t',rfl⟩:=r'
   exact call_range_2 (range_it I1 q1 q2 q3 q4 q)
noncomputable def tFor (wi:TI)(g:TG)(tb:TS):TS:=fun D σ H=>wi σ H fun J H1=>∃ W:Nat->Nat->St->Hp->Prop,(∃ m,W 0 m σ H1)/\∀ i m σ H,W i m σ H ->
 (J.stop i H/\D.nx σ H)\/(J.go i H/\∃ N:St->Hp->Prop,(∀ σ' H',N σ' H'->∃ m',m' < m/\W (i + 1) m' σ' H')/\∀ x H',J.yld i H x H'->g x σ H' fun σ2 H2=>tb { D with nx:=N,ct:=N,bk:=D.nx } σ2 H2)
noncomputable def pinsAt (fp:List Addr)(h:Heap):List (Addr × Obj):=fp.filterMap fun b=>(h.get? b).map fun o=>(b,o)
theorem mem_pinsAt {fp:List Addr}{h:Heap}{b:Addr}{o:Obj}(hb:b ∈ fp)(e:h.get? b=some o):(b,o) ∈ pinsAt fp h:=List.mem_filterMap.mpr ⟨b,hb,by rw [e]; rfl⟩
theorem of_pinsAt {fp:List Addr}{h:Heap}{p:Addr × Obj}(hp:p ∈ pinsAt fp h):p.1 ∈ fp/\h.get? p.1=some p.2:=by
 obtain ⟨b,hb,e⟩:=List.mem_filterMap.mp hp
 cases q:h.get? b with
 | none=>rw [q] at e; cases e
 | some o =>
  rw [q] at e
  have e':(b,o)=p:=Option.some.inj e
  subst e'
  exact ⟨hb,q⟩
theorem Inv.pinned {pins:List (Addr × Obj)}{σ:St}{H:Hp}{s:Shared}{fp:List Addr}(I:Inv X pins σ H s)(hf:∀ b ∈ fp,FpOk X pins H b)(ho:∀ b ∈ fp,∃ o,s.heap.get? b=some o/\∀ v,o.data ≠ .cell v):Inv X (pins++pinsAt fp s.heap) σ H s :=
 I.pins_of fun p hp=>(List.mem_append.mp hp).elim (fun z=>I.pin p (List.mem_append_right _ z)) fun z=>by
  obtain ⟨hb,e⟩:=of_pinsAt z
  obtain ⟨f0,f1,f2,_⟩:=hf p.1 hb
  obtain ⟨o,e',d⟩:=ho p.1 hb
  rw [e] at e'; cases e'
  exact ⟨e,f0,f1,f2,d⟩
theorem Inv.unpinned {pins pl:List (Addr × Obj)}{σ:St}{H:Hp}{s:Shared}(I:Inv X (pins++pl) σ H s):Inv X pins σ H s:=I.pins_of fun p hp=>I.pin p (List.mem_append_right _ (List.mem_append_left _ hp))
theorem ps_for {iter:Expr}{body:List Stmt}{wi:TI}{g:TG}{tb:TS}{pos:Pos}(hp:PassesOwn (model X.prog X.w) X.A X.env X.xe)(hc:X.calm=true)(hi:PI X tg iter wi)(hg:PG X tg g)(hb:PSs X body tb)
  (hs:∀ x,foldedSetIterable iter X.env x=pure x:=by intro _; rfl):PS X (.For tg iter body [] pos) (tFor wi g tb):=by
 intro pins s σ H D I h
 refine wpAny_For (thn (hi pins s σ H _ I h) fun v s1 h1=>thn h1 fun itv s2 h2=>?_) hs
 obtain ⟨it,fp,tn,J,H2,e,I2,T,st2,f2,W,⟨m0,w0⟩,turn⟩:=h2
 subst e
 have stat:∀ {H':Hp},(∀ b ∈ fp,H' b=none)->∀ b ∈ fp,FpOk X pins H' b:=fun hn b hb=>⟨hn b hb,(f2 b hb).2⟩
 refine codeAny_forLoop_any (fun n s'=>∃ i σ' H',Inv X pins σ' H' s'/\tn i s'.heap/\(∀ b ∈ fp,H' b=none)/\W i n σ' H') ?_ m0 ⟨0,σ,H2,I2,st2,fun b hb=>(f2 b hb).1,w0⟩
 rintro n s3 ⟨i,σ3,H3,I3,st3,fr3,w3⟩
 rcases turn i n σ3 H3 w3 with ⟨stop,qn⟩ | ⟨go,N,hN,step⟩
 ·refine wpAny_passesOwn hp (thn (T.done X rfl rfl rfl hc i pins s3 σ3 H3 X.xe I3 (stat fr3) st3 stop) fun r s4 ⟨hr,I4⟩=>?_)
  subst hr
  exact wpAny_execs_nil ⟨σ3,H3,I4,qn⟩
 ·refine wpAny_passesOwn hp (thn (T.item X rfl rfl rfl hc i pins s3 σ3 H3 X.xe I3 (stat fr3) st3 go) fun r s4 ⟨u,hr,h4⟩=>?_)
  subst hr
  refine wpAny_passesOwn hp (thn h4 fun _ s5 ⟨x,H5,I5,r5,y5,st5,fr5⟩=>?_)
  have I5':=I5.pinned (stat fr5) (T.obj _ _ st5)
  refine wpAny_passesOwn hp (thn (hg _ s5 σ3 H5 x u _ I5' r5 (step x H5 y5)) fun _ s6 ⟨σ6,H6,I6,q6⟩=>?_)
  refine wpAny_passesOwn hp (thn (hb _ s6 σ6 H6 _ I6 q6) fun f s7 q7=>?_)
  have again:∀ {σ7:St} {H7:Hp},Inv X (pins++pinsAt fp s5.heap) σ7 H7 s7->N σ7 H7->∃ m,m < n/\∃ i σ' H',Inv X pins σ' H' s7/\tn i s7.heap/\(∀ b ∈ fp,H' b=none)/\W i m σ' H':=fun {σ7 H7} I7 n7=>by
   obtain ⟨m',hm,w7⟩:=hN σ7 H7 n7
   refine ⟨m',hm,i + 1,σ7,H7,I7.unpinned,T.keep _ _ _ st5 fun b hb o e=>(I7.pin (b,o) (List.mem_append_right _ (List.mem_append_right _ (mem_pinsAt hb e)))).1,fun b hb=>?_,w7⟩
   obtain ⟨o,e,d⟩:=T.obj _ _ st5 b hb
   exact (I7.pin (b,o) (List.mem_append_right _ (List.mem_append_right _ (mem_pinsAt hb e)))).2.1
  cases f with
  | next=>obtain ⟨σ7,H7,I7,n7⟩:=q7; exact again I7 n7
  | cont=>obtain ⟨σ7,H7,I7,n7⟩:=q7; exact again I7 n7
  | brk=>obtain ⟨σ7,H7,I7,q7⟩:=q7; exact ⟨σ7,H7,I7.unpinned,q7⟩
  | ret v=>obtain ⟨x7,σ7,H7,I7,r7,q7⟩:=q7; exact ⟨x7,σ7,H7,I7.unpinned,r7,q7⟩
end
theorem for_list {K:PySem.W.Frag}{a:Addr}{xs:List V}{g:TG}{tb:TS}{D:Ends}{σ:St}{H:Hp}(Pv:Nat->St->Hp->Prop)(h0:Pv 0 σ H)(hl:∀ i σ H,i<=xs.length->Pv i σ H->SqL K H a xs)
  (hs:∀ i x σ H,xs[i]?=some x->Pv i σ H->g x σ H fun σ2 H2=>tb { D with nx:=Pv (i + 1),ct:=Pv (i + 1),bk:=D.nx } σ2 H2) (hd:∀ σ H,Pv xs.length σ H->D.nx σ H) :
  ∃ W:Nat->Nat->St->Hp->Prop,(∃ m,W 0 m σ H)/\∀ i m σ H,W i m σ H ->
   ((Itl K a).stop i H/\D.nx σ H)\/((Itl K a).go i H/\∃ N:St->Hp->Prop,(∀ σ' H',N σ' H'->∃ m',m' < m/\W (i + 1) m' σ' H')/\∀ x H',(Itl K a).yld i H x H'->g x σ H' fun σ2 H2=>tb { D with nx:=N,ct:=N,bk:=D.nx } σ2 H2):=by
 refine ⟨fun i m σ H=>m=xs.length - i/\i<=xs.length/\Pv i σ H,⟨xs.length,by simp,Nat.zero_le _,h0⟩,?_⟩
 rintro i m σ H ⟨rfl,hi,p⟩
 have q:=hl i σ H hi p
 by_cases hlt:i < xs.length
 ·refine .inr ⟨⟨xs,xs[i],q,by simp [hlt]⟩,Pv (i + 1),fun σ' H' p'=>⟨xs.length - (i + 1),by omega,rfl,hlt,p'⟩,fun x H' y=>?_⟩
  obtain ⟨e,y⟩:=y
  subst e
  exact hs i x σ _ (y xs q) p
 ·have e:i=xs.length:=by omega
  subst e
  exact .inl ⟨⟨xs,q,Nat.le_refl _⟩,hd σ H p⟩
theorem for_range {lo:Int}{n:Nat}{g:TG}{tb:TS}{D:Ends}{σ:St}{H:Hp}(Pv:Nat->St->Hp->Prop)(h0:Pv 0 σ H)
  (hs:∀ i σ H,i < n->Pv i σ H->g (.int (lo + i)) σ H fun σ2 H2=>tb { D with nx:=Pv (i + 1),ct:=Pv (i + 1),bk:=D.nx } σ2 H2) (hd:∀ σ H,Pv n σ H->D.nx σ H) :
  ∃ W:Nat->Nat->St->Hp->Prop,(∃ m,W 0 m σ H)/\∀ i m σ H,W i m σ H ->
   ((Itr lo n).stop i H/\D.nx σ H)\/((Itr lo n).go i H/\∃ N:St->Hp->Prop,(∀ σ' H',N σ' H'->∃ m',m' < m/\W (i + 1) m' σ' H')/\∀ x H',(Itr lo n).yld i H x H'->g x σ H' fun σ2 H2=>tb { D with nx:=N,ct:=N,bk:=D.nx } σ2 H2):=by
 refine ⟨fun i m σ H=>m=n - i/\i<=n/\Pv i σ H,⟨n,by simp,Nat.zero_le _,h0⟩,?_⟩
 rintro i m σ H ⟨rfl,hi,p⟩
 by_cases hlt:i < n
 ·refine .inr ⟨hlt,Pv (i + 1),fun σ' H' p'=>⟨n - (i + 1),by omega,rfl,hlt,p'⟩,fun x H' y=>?_⟩
  obtain ⟨e,y⟩:=y
  subst e y
  exact hs i σ _ hlt p
 ·have e:i=n:=by omega
  subst e
  exact .inl ⟨Nat.le_refl _,hd σ H p⟩
end L2
namespace L2
open PySem PySem.Spec PyProof.Rows
noncomputable abbrev R2:=V->V->Hp->VK->Prop
noncomputable def OpR (X:Cx)(f:Value->Value->Sem Value)(r:R2):Prop :=
 ∀ (pins:List (Addr × Obj)) (s:Shared) (σ:St) (H:Hp) (x y:V) (v u:Value) (Q:VK),Inv X pins σ H s->RelV x v->RelV y u->r x y H Q ->
  wpAny (model X.prog X.w) X.A (f v u) (EP X pins σ Q) X.xe s
noncomputable def CallR (X:Cx)(f:Value)(r:List V->Hp->VK->Prop):Prop :=
 ∀ (pins:List (Addr × Obj)) (s:Shared) (σ:St) (H:Hp) (xs:List V) (us:List Value) (Q:VK),Inv X pins σ H s->Vals xs us->r xs H Q ->
  wpAny (model X.prog X.w) X.A (call f us) (EP X pins σ Q) X.xe s
noncomputable def TruR (X:Cx)(r:V->Hp->(Bool->Hp->Prop)->Prop):Prop :=
 ∀ (pins:List (Addr × Obj)) (s:Shared) (σ:St) (H:Hp) (x:V) (v:Value) (Q:Bool->Hp->Prop),Inv X pins σ H s->RelV x v->r x H Q ->
  wpAny (model X.prog X.w) X.A (truthy v) (TP X pins σ Q) X.xe s
noncomputable def tOp (r:R2)(ta tb:TE):TE:=fun σ H Q=>ta σ H fun x H1=>tb σ H1 fun y H2=>r x y H2 Q
noncomputable def rI (C:Int->Int->Prop)(g:Int->Int->V):R2:=fun x y H Q=>∃ i j,x=.int i/\y=.int j/\C i j/\Q (g i j) H
noncomputable def rI0 (g:Int->Int->V):R2:=fun x y H Q=>∃ i j,x=.int i/\y=.int j/\Q (g i j) H
section
variable {X:Cx}{a b c:Expr}{ta tb tc:TE}{pos:Pos}
theorem binT (ha:PE X a ta)(hb:PE X b tb){pins:List (Addr × Obj)}{s:Shared}{σ:St}{H:Hp}{R:V->V->Hp->Prop}(I:Inv X pins σ H s)
  (h:ta σ H fun x H1=>tb σ H1 fun y H2=>R x y H2) {Q:Value->Shared->Prop} {f:Value->Value->Sem Value}
  (hf:∀ v u s2 x y H2,Inv X pins σ H2 s2->RelV x v->RelV y u->R x y H2->wpAny (model X.prog X.w) X.A (f v u) Q X.xe s2) :
  wpAny (model X.prog X.w) X.A (eval a X.env) (fun v s₁=>wpAny (model X.prog X.w) X.A (eval b X.env) (fun u s₂=>wpAny (model X.prog X.w) X.A (f v u) Q X.xe s₂) X.xe s₁) X.xe s:=by
 refine thn (ha pins s σ H _ I h) fun v s1 ⟨x,H1,I1,r1,q1⟩=>?_
 refine thn (hb pins s1 σ H1 _ I1 q1) fun u s2 ⟨y,H2,I2,r2,q2⟩=>?_
 exact hf v u s2 x y H2 I2 r1 r2 q2
theorem pe_op {op:Operator}{r:R2}(ho:OpR X (binaryOp op) r)(ha:PE X a ta)(hb:PE X b tb):PE X (.BinOp a op b pos) (tOp r ta tb):=by
 intro pins s σ H Q I h
 exact wpAny_BinOp (binT ha hb I h fun v u s2 x y H2 I2 rx ry q=>ho pins s2 σ H2 x y v u Q I2 rx ry q)
theorem opI {f:Value->Value->Sem Value}{C:Int->Int->Prop}{g:Int->Int->Int}
  (rule:∀ (i j:Int) (t u:Tok) (s:Shared) (Q:Value->Shared->Prop) (E:Value->Shared->Prop),C i j->Q (.int (g i j) s.toks) { s with toks:=s.toks + 1 }->wpAny (model X.prog X.w) X.A (f (.int i t) (.int j u)) Q E s) :
  OpR X f (rI C fun i j=>.int (g i j)):=by
 intro pins s σ H x y v u Q I rx ry h
 obtain ⟨i,j,rfl,rfl,hc,q⟩:=h
 obtain ⟨t,rfl⟩:=rx
 obtain ⟨t',rfl⟩:=ry
 exact rule i j t t' s _ _ hc ⟨.int (g i j),H,I.tok _,⟨_,rfl⟩,q⟩
theorem opI0 {f:Value->Value->Sem Value}{g:Int->Int->Int}
  (rule:∀ (i j:Int) (t u:Tok) (s:Shared) (Q:Value->Shared->Prop) (E:Value->Shared->Prop),Q (.int (g i j) s.toks) { s with toks:=s.toks + 1 }->wpAny (model X.prog X.w) X.A (f (.int i t) (.int j u)) Q E s) :
  OpR X f (rI0 fun i j=>.int (g i j)):=by
 intro pins s σ H x y v u Q I rx ry h
 obtain ⟨i,j,rfl,rfl,q⟩:=h
 obtain ⟨t,rfl⟩:=rx
 obtain ⟨t',rfl⟩:=ry
 exact rule i j t t' s _ _ ⟨.int (g i j),H,I.tok _,⟨_,rfl⟩,q⟩
theorem opB0 {f:Value->Value->Sem Value}{g:Int->Int->Bool}
  (rule:∀ (i j:Int) (t u:Tok) (s:Shared) (Q:Value->Shared->Prop) (E:Value->Shared->Prop),Q (.bool (g i j)) s->wpAny (model X.prog X.w) X.A (f (.int i t) (.int j u)) Q E s) :
  OpR X f (rI0 fun i j=>.bl (g i j)):=by
 intro pins s σ H x y v u Q I rx ry h
 obtain ⟨i,j,rfl,rfl,q⟩:=h
 obtain ⟨t,rfl⟩:=rx
 obtain ⟨t',rfl⟩:=ry
 exact rule i j t t' s _ _ ⟨.bl (g i j),H,I,rfl,q⟩
theorem op_add:OpR X (binaryOp .Add) (rI0 fun i j=>.int (i + j)):=opI0 fun _ _ _ _ _ _ _ q=>add_int q
theorem op_sub:OpR X (binaryOp .Sub) (rI0 fun i j=>.int (i - j)):=opI0 fun _ _ _ _ _ _ _ q=>sub_int q
theorem op_mod:OpR X (binaryOp .Mod) (rI (fun _ j=>0 < j) fun i j=>.int (i % j)):=opI fun i j _ _ _ _ _ hc q=>by
 have h1:(0:Int) < j:=hc
 exact mod_int' (by omega) (by rw [Int.fmod_eq_emod_of_nonneg i (by omega)]; exact q)
end
noncomputable def scal:V->V->Bool
 | .non,.non=>true | .non,.int _=>true | .int _,.non=>true | .non,.bl _=>true | .bl _,.non=>true | .non,.str _=>true | .str _,.non=>true
 | .int _,.int _=>true | .bl _,.bl _=>true | .str _,.str _=>true | .byt _,.byt _=>true
 | .int _,.str _=>true | .str _,.int _=>true | .bl _,.str _=>true | .str _,.bl _=>true
 | _,_=>false
noncomputable def rEq:R2:=fun x y H Q=>scal x y=true/\Q (.bl (decide (x=y))) H
noncomputable def rNe:R2:=fun x y H Q=>scal x y=true/\Q (.bl (!decide (x=y))) H
theorem dec_int {i j:Int}:decide (V.int i=V.int j)=(i == j):=by
 rw [Bool.eq_iff_iff]
 simp
theorem dec_bl {i j:Bool}:decide (V.bl i=V.bl j)=(i == j):=by
 rw [Bool.eq_iff_iff]
 simp
theorem dec_str {i j:Str}:decide (V.str i=V.str j)=(i == j):=by
 rw [Bool.eq_iff_iff]
 simp
theorem dec_byt {i j:Array UInt8}:decide (V.byt i=V.byt j)=(i.toList == j.toList):=by
 rw [Bool.eq_iff_iff]
 cases i
 cases j
 simp
section
variable {X:Cx}{a b c:Expr}{ta tb tc:TE}{pos:Pos}
theorem fin_bl {pins:List (Addr × Obj)}{σ:St}{H:Hp}{s:Shared}{Q:VK}{k k':Bool}(I:Inv X pins σ H s)(q:Q (.bl k) H)(e:k=k'):EP X pins σ Q (.bool k') s:=by
 subst e
 exact ⟨.bl k,H,I,rfl,q⟩
theorem op_eq:OpR X (compareOp .Eq) rEq:=by
 intro pins s σ H x y v u Q I rx ry h
 obtain ⟨hs,q⟩:=h
 cases x with
 | non =>
  cases rx
  cases y with
  | non=>cases ry; exact PySem.EqNone.eq_none_none (fin_bl I q (by simp))
  | bl j=>cases ry; exact PySem.EqNone.eq_none_bool (fin_bl I q (by simp))
  | int j=>obtain ⟨t',rfl⟩:=ry; exact PySem.EqNone.eq_none_int (fin_bl I q (by simp))
  | str j=>obtain ⟨t',rfl⟩:=ry; exact PySem.EqNone.eq_none_str (fin_bl I q (by simp))
  | _=>exact absurd (show false=true from hs) Bool.false_ne_true
 | bl i =>
  cases rx
  cases y with
  | non=>cases ry; exact PySem.EqNone.eq_bool_none (fin_bl I q (by simp))
  | bl j=>cases ry; exact eq_bool (fin_bl I q dec_bl)
  | str j=>obtain ⟨t',rfl⟩:=ry; exact PySem.EqMixed.eq_bool_str (fin_bl I q (by simp))
  | _=>exact absurd (show false=true from hs) Bool.false_ne_true
 | int i =>
  obtain ⟨t,rfl⟩:=rx
  cases y with
  | non=>cases ry; exact PySem.EqNone.eq_int_none (fin_bl I q (by simp))
  | int j=>obtain ⟨t',rfl⟩:=ry; exact eq_int (fin_bl I q dec_int)
  | str j=>obtain ⟨t',rfl⟩:=ry; exact PySem.EqMixed.eq_int_str (fin_bl I q (by simp))
  | _=>exact absurd (show false=true from hs) Bool.false_ne_true
 | str i =>
  obtain ⟨t,rfl⟩:=rx
  cases y with
  | non=>cases ry; exact PySem.EqNone.eq_str_none (fin_bl I q (by simp))
  | bl j=>cases ry; exact PySem.EqMixed.eq_str_bool (fin_bl I q (by simp))
  | int j=>obtain ⟨t',rfl⟩:=ry; exact PySem.EqMixed.eq_str_int (fin_bl I q (by simp))
  | str j=>obtain ⟨t',rfl⟩:=ry; exact eq_str (fin_bl I q dec_str)
  | _=>exact absurd (show false=true from hs) Bool.false_ne_true
 | byt i =>
  obtain ⟨t,rfl⟩:=rx
  cases y with
  | byt j=>obtain ⟨t',rfl⟩:=ry; exact PySem.W.eq_bytes (fin_bl I q dec_byt)
  | _=>exact absurd (show false=true from hs) Bool.false_ne_true
 | _=>cases y <;> exact absurd (show false=true from hs) Bool.false_ne_true
theorem op_ne:OpR X (compareOp .NotEq) rNe:=by
 intro pins s σ H x y v u Q I rx ry h
 obtain ⟨hs,q⟩:=h
 cases x with
 | non =>
  cases rx
  cases y with
  | non=>cases ry; exact PySem.EqNone.ne_none_none (fin_bl I q (by simp))
  | bl j=>cases ry; exact PySem.EqNone.ne_none_bool (fin_bl I q (by simp))
  | int j=>obtain ⟨t',rfl⟩:=ry; exact PySem.EqNone.ne_none_int (fin_bl I q (by simp))
  | str j=>obtain ⟨t',rfl⟩:=ry; exact PySem.EqNone.ne_none_str (fin_bl I q (by simp))
  | _=>exact absurd (show false=true from hs) Bool.false_ne_true
 | bl i =>
  cases rx
  cases y with
  | non=>cases ry; exact PySem.EqNone.ne_bool_none (fin_bl I q (by simp))
  | bl j=>cases ry; exact ne_bool (fin_bl I q (congrArg not dec_bl))
  | str j=>obtain ⟨t',rfl⟩:=ry; exact PySem.EqMixed.ne_bool_str (fin_bl I q (by simp))
  | _=>exact absurd (show false=true from hs) Bool.false_ne_true
 | int i =>
  obtain ⟨t,rfl⟩:=rx
  cases y with
  | non=>cases ry; exact PySem.EqNone.ne_int_none (fin_bl I q (by simp))
  | int j=>obtain ⟨t',rfl⟩:=ry; exact ne_int (fin_bl I q (congrArg not dec_int))
  | str j=>obtain ⟨t',rfl⟩:=ry; exact PySem.EqMixed.ne_int_str (fin_bl I q (by simp))
  | _=>exact absurd (show false=true from hs) Bool.false_ne_true
 | str i =>
  obtain ⟨t,rfl⟩:=rx
  cases y with
  | non=>cases ry; exact PySem.EqNone.ne_str_none (fin_bl I q (by simp))
  | bl j=>cases ry; exact PySem.EqMixed.ne_str_bool (fin_bl I q (by simp))
  | int j=>obtain ⟨t',rfl⟩:=ry; exact PySem.EqMixed.ne_str_int (fin_bl I q (by simp))
  | str j=>obtain ⟨t',rfl⟩:=ry; exact ne_str (fin_bl I q (congrArg not dec_str))
  | _=>exact absurd (show false=true from hs) Bool.false_ne_true
 | byt i =>
  obtain ⟨t,rfl⟩:=rx
  cases y with
  | byt j=>obtain ⟨t',rfl⟩:=ry; exact PySem.W.ne_bytes (fin_bl I q (congrArg not dec_byt))
  | _=>exact absurd (show false=true from hs) Bool.false_ne_true
 | _=>cases y <;> exact absurd (show false=true from hs) Bool.false_ne_true
theorem op_lt:OpR X (compareOp .Lt) (rI0 fun i j=>.bl (decide (i < j))):=opB0 fun _ _ _ _ _ _ _ q=>lt_int q
theorem op_le:OpR X (compareOp .LtE) (rI0 fun i j=>.bl (decide (i<=j))):=opB0 fun _ _ _ _ _ _ _ q=>le_int q
theorem op_gt:OpR X (compareOp .Gt) (rI0 fun i j=>.bl (decide (j < i))):=opB0 fun _ _ _ _ _ _ _ q=>gt_int q
theorem op_in_str:OpR X (compareOp .In) (fun x y H Q=>∃ i j,x=.str i/\y=.str j/\Q (.bl (!(Builtin.Str.occurrences j i 0 j.length 1).isEmpty)) H):=by
 intro pins s σ H x y v u Q I rx ry h
 obtain ⟨i,j,rfl,rfl,q⟩:=h
 obtain ⟨t,rfl⟩:=rx
 obtain ⟨t',rfl⟩:=ry
 exact in_str (fin_bl I q rfl)
theorem nomark (b:Expr){op:CmpOp}(h:op ≠ .In:=by decide)(h2:op ≠ .NotIn:=by decide):behindInMarks op b=false:=by
 have e1:(op == CmpOp.In)=false:=by cases op <;> first | rfl | exact absurd rfl h
 have e2:(op == CmpOp.NotIn)=false:=by cases op <;> first | rfl | exact absurd rfl h2
 cases b <;> simp [behindInMarks,e1,e2]
theorem pe_cmpR {op:CmpOp}{r:R2}(ho:OpR X (compareOp op) r)(ha:PE X a ta)(hb:PE X b tb)(hm:behindInMarks op b=false):PE X (.Compare a [op] [b] pos) (tOp r ta tb):=by
 intro pins s σ H Q I h
 exact wpAny_Compare1 (binT ha hb I h fun v u s2 x y H2 I2 rx ry q=>ho pins s2 σ H2 x y v u Q I2 rx ry q) hm
noncomputable def tTest (t:TE):TT:=fun σ H Q=>t σ H fun x H'=>∃ k,x=.bl k/\Q k H'
theorem pt_cmpR {op:CmpOp}{r:R2}(ho:OpR X (compareOp op) r)(ha:PE X a ta)(hb:PE X b tb)(hm:behindInMarks op b=false):PT X (.Compare a [op] [b] pos) (tTest (tOp r ta tb)):=by
 intro pins s σ H Q I h
 refine wpAny_isTrue_Compare1 (thn (ha pins s σ H _ I h) fun v s1 ⟨x,H1,I1,r1,q1⟩=>thn (hb pins s1 σ H1 _ I1 q1) fun u s2 ⟨y,H2,I2,r2,q2⟩ =>
  thn (ho pins s2 σ H2 x y v u _ I2 r1 r2 q2) fun c s3 ⟨z,H3,I3,r3,k,e,q3⟩=>?_) hm
 subst e
 cases r3
 exact wpAny_truthy_bool ⟨H3,I3,q3⟩
noncomputable def tChain (r r':R2)(ta tb tc:TE):TE:=fun σ H Q=>ta σ H fun x H1=>tb σ H1 fun y H2=>r x y H2 fun z H3=>∃ k,z=.bl k /\
 (if k=true then tc σ H3 fun w' H4=>r' y w' H4 Q else Q (.bl false) H3)
theorem pt_chain {op op':CmpOp}{r r':R2}(ho:OpR X (compareOp op) r)(ho':OpR X (compareOp op') r')(ha:PE X a ta)(hb:PE X b tb)(hc:PE X c tc)
  (hm:lastMarks [op,op'] [b,c]=false:=by with_unfolding_all rfl):PT X (.Compare a [op,op'] [b,c] pos) (tTest (tChain r r' ta tb tc)):=by
 intro pins s σ H Q I h
 refine isTrue_chain (thn (ha pins s σ H _ I h) fun v s1 ⟨x,H1,I1,r1,q1⟩=>test_link (thn (hb pins s1 σ H1 _ I1 q1) fun u s2 ⟨y,H2,I2,r2,q2⟩ =>
  thn (ho pins s2 σ H2 x y v u _ I2 r1 r2 q2) fun d s3 ⟨z,H3,I3,r3,k,e,q3⟩=>?_)) hm
 subst e
 cases r3
 refine wpAny_truthy_bool ?_
 cases k with
 | false =>
  obtain ⟨k',e',q'⟩:=q3
  cases e'
  exact ite_ff ⟨H3,I3,q'⟩
 | true =>
  refine ite_tt (test_last (thn (hc pins s3 σ H3 _ I3 q3) fun w' s4 ⟨z',H4,I4,r4,q4⟩=>thn (ho' pins s4 σ H4 y z' u w' _ I4 r2 r4 q4) fun d' s5 ⟨z2,H5,I5,r5,k2,e2,q5⟩=>?_))
  subst e2
  cases r5
  exact wpAny_truthy_bool ⟨H5,I5,q5⟩
noncomputable def TruV (K:PySem.W.Frag)(x:V)(H:Hp)(k:Bool):Prop :=
 match x with
 | .non=>k=false
 | .bl b=>k=b
 | .int i=>k=(i != 0)
 | .str y=>y.length<=sizeLine/\k=((y.length:Int) != 0)
 | .byt y=>y.size<=sizeLine/\k=((y.size:Int) != 0)
 | .ref p=>(∃ xs,SqL K H p xs/\k=!xs.isEmpty)\/(∃ xs,SqT K H p xs/\k=!xs.isEmpty)\/∃ kvs,H p=some (.dK kvs)/\k=!kvs.isEmpty
 | _=>False
theorem isEmpty_kv {κ:Type}{kvs:List (κ × V)}{vs:List (κ × Value)}(r:KV kvs vs):(!vs.isEmpty)=!kvs.isEmpty:=by
 cases r <;> rfl
theorem isEmpty_of {xs:List V}{its:List Value}(r:Vals xs its):(!its.toArray.isEmpty)=!xs.isEmpty:=by
 cases r <;> simp
theorem line63:(sizeLine:Nat) < 2 ^ 63:=by rw [sizeLine_eq]; decide
theorem tru_ok:TruR X (fun x H Q=>∃ k,TruV X.K x H k/\Q k H):=by
 intro pins s σ H x v Q I rx h
 obtain ⟨k,e,q⟩:=h
 have hl:=line63
 have hs:sizeLine=16777216:=sizeLine_eq
 cases x with
 | non =>
  cases rx
  have e':k=false:=e
  subst e'
  exact truthy_none ⟨H,I,q⟩
 | bl b =>
  cases rx
  have e':k=b:=e
  subst e'
  exact wpAny_truthy_bool ⟨H,I,q⟩
 | int i =>
  obtain ⟨t,rfl⟩:=rx
  have e':k=(i != 0):=e
  subst e'
  exact PySem.P.truthy_int ⟨H,I,q⟩
 | str y =>
  obtain ⟨t,rfl⟩:=rx
  obtain ⟨hy,e'⟩:y.length<=sizeLine/\k=((y.length:Int) != 0):=e
  subst e'
  exact PySem.P.truthy_str (by omega) ⟨H,I.tok _,q⟩
 | byt y =>
  obtain ⟨t,rfl⟩:=rx
  obtain ⟨hy,e'⟩:y.size<=sizeLine/\k=((y.size:Int) != 0):=e
  subst e'
  exact PySem.W.truthy_bytes (by omega) ⟨H,I.tok _,q⟩
 | ref p =>
  cases rx
  have e':(∃ xs,SqL X.K H p xs/\k=!xs.isEmpty)\/(∃ xs,SqT X.K H p xs/\k=!xs.isEmpty)\/∃ kvs,H p=some (.dK kvs)/\k=!kvs.isEmpty:=e
  rcases e' with ⟨xs,hx,e'⟩ | ⟨xs,hx,e'⟩ | ⟨kvs,hx,e'⟩
  ·subst e'
   obtain ⟨its,r,pl,hz⟩:=I.list hx
   have hlen:=r.length
   exact wpAny_truthy_list pl.isList (by simp only [List.size_toArray]; omega) ⟨H,I.tok _,by rw [isEmpty_of r]; exact q⟩
  ·subst e'
   obtain ⟨its,r,pl,hz⟩:=I.tuple hx
   have hlen:=r.length
   exact truthy_tuple pl (by simp only [List.size_toArray]; omega) ⟨H,I.tok _,by rw [isEmpty_of r]; exact q⟩
  ·subst e'
   obtain ⟨hz,hS,vs,r,m⟩:kvs.length<=sizeLine/\(p == sysModules)=false/\∃ vs,KV kvs vs/\s.heap.DictOf (mixKind X.prog X.w) p vs:=I.hok p _ hx
   have hlen:kvs.length=vs.length:=Paired.length r
   exact wpAny_truthy_dict hS m (by omega) ⟨H,I.tok _,by rw [isEmpty_kv r]; exact q⟩
 | _=>exact (show False from e).elim
theorem pt_truth (ha:PE X a ta)(he:∀ whole,isTrue a X.env whole=(do let v <- whole; standAt a.pos; holding [v] (truthy v))) :
  PT X a (fun σ H Q=>ta σ H fun x H'=>∃ k,TruV X.K x H' k/\Q k H'):=by
 intro pins s σ H Q I h
 exact isTrue_plain (thn (ha pins s σ H _ I h) fun v s1 ⟨x,H1,I1,r1,q1⟩=>tru_ok pins s1 σ H1 x v Q I1 r1 q1) (he _)
theorem op_add_str:OpR X (binaryOp .Add) (fun x y H Q=>∃ i j,x=.str i/\y=.str j/\i.length + j.length<=sizeLine/\Q (.str (i++j)) H):=by
 intro pins s σ H x y v u Q I rx ry h
 obtain ⟨i,j,rfl,rfl,hz,q⟩:=h
 obtain ⟨t,rfl⟩:=rx
 obtain ⟨t',rfl⟩:=ry
 exact add_str (fun t' tk=>⟨.str (i++j),H,I.tok _,⟨_,rfl⟩,q⟩) hz
theorem vals1 {x:V}{us:List Value}(r:Vals [x] us):∃ u,us=[u]/\RelV x u:=by
 cases r with
 | cons r1 r2=>cases r2; exact ⟨_,rfl,r1⟩
theorem vals2 {x y:V}{us:List Value}(r:Vals [x,y] us):∃ u w',us=[u,w']/\RelV x u/\RelV y w':=by
 cases r with
 | cons r1 r2 =>
  cases r2 with
  | cons r3 r4=>cases r4; exact ⟨_,_,rfl,r1,r3⟩
theorem call_abs:CallR X (.builtin "abs") (fun xs H Q=>∃ i,xs=[.int i]/\Q (.int (if i < 0 then -i else i)) H):=by
 intro pins s σ H xs us Q I r h
 obtain ⟨i,rfl,q⟩:=h
 obtain ⟨u,rfl,t,rfl⟩:=vals1 r
 exact call_abs_int fun u tk=>⟨.int (if i < 0 then -i else i),H,I.tok _,⟨_,rfl⟩,q⟩
theorem call_max2 (hc:X.calm=true):CallR X (.builtin "max") (fun xs H Q=>∃ i j,xs=[.int i,.int j]/\Q (.int (if j > i then j else i)) H):=by
 intro pins s σ H xs us Q I r h
 obtain ⟨i,j,rfl,q⟩:=h
 obtain ⟨u,w',rfl,⟨t,rfl⟩,⟨t',rfl⟩⟩:=vals2 r
 refine max_two_ints (I.ok.hd hc) fun h' tk k=>⟨_,H,I.kept k,?_,q⟩
 by_cases hj:j > i
 ·rw [if_pos hj,if_pos hj]; exact ⟨_,rfl⟩
 ·rw [if_neg hj,if_neg hj]; exact ⟨_,rfl⟩
theorem call_min2 (hc:X.calm=true):CallR X (.builtin "min") (fun xs H Q=>∃ i j,xs=[.int i,.int j]/\Q (.int (if j < i then j else i)) H):=by
 intro pins s σ H xs us Q I r h
 obtain ⟨i,j,rfl,q⟩:=h
 obtain ⟨u,w',rfl,⟨t,rfl⟩,⟨t',rfl⟩⟩:=vals2 r
 refine min_two_ints (I.ok.hd hc) fun h' tk k=>⟨_,H,I.kept k,?_,q⟩
 by_cases hj:j < i
 ·rw [if_pos hj,if_pos hj]; exact ⟨_,rfl⟩
 ·rw [if_neg hj,if_neg hj]; exact ⟨_,rfl⟩
theorem call_str_int:CallR X (.type "str") (fun xs H Q=>∃ i,xs=[.int i]/\i.natAbs.log2 < 1920/\Q (.str (toString i)) H):=by
 intro pins s σ H xs us Q I r h
 obtain ⟨i,rfl,hz,q⟩:=h
 obtain ⟨u,rfl,t,rfl⟩:=vals1 r
 exact PySem.P.str_of_int hz ⟨.str _,H,I.tok _,⟨_,rfl⟩,q⟩
end
end L2
namespace L2
open PySem PySem.Spec PyProof.Rows
structure ObjM (h:Heap)(x dx C:Addr)(mA:Str->Option Value):Prop where
 obj:h.get? x=some (PySem.W.instObj C dx)
 ns:h.Ns1 dx mA
 ne:dx ≠ x
theorem lookIn_ns {h:Heap}{dx:Addr}{mA:Str->Option Value}(n:h.Ns1 dx mA):∃ od,h.get? dx=some od/\∀ name,PySem.W.lookIn name od=some (mA name):=by
 obtain ⟨o,es,ep,ho,hd,hk,_,hm⟩:=n
 refine ⟨o,ho,fun name=>?_⟩
 have e:=hm name
 unfold nsFind findBy at e
 rw [<- Array.find?_toList] at e
 unfold PySem.W.lookIn
 rw [hd]
 dsimp only
 split
 ·rename_i y q
  rw [q] at e
  exact congrArg some e
 ·rename_i q
  rw [q] at e
  have a:es.toList.any (·.refKey)=false:=by
   rw [List.any_eq_false]
   intro y hy
   obtain ⟨z,t,hkey⟩:=hk y (Array.mem_toList_iff.mp hy)
   simp [DictEntry.refKey,hkey]
  have a':¬ es.toList.any (·.refKey)=true:=by rw [a]; exact Bool.false_ne_true
  rw [if_neg a']
  exact congrArg some e
theorem ObjM.look {h:Heap}{x dx C:Addr}{mA:Str->Option Value}(I:ObjM h x dx C mA):∃ od,PySem.W.InstAt h x (PySem.W.instObj C dx) C (some od)/\∀ name,PySem.W.lookIn name od=some (mA name) :=
 let ⟨od,ho,hl⟩:=lookIn_ns I.ns
 ⟨od,⟨I.obj,rfl,rfl,ho⟩,hl⟩
section
variable {prog:Program}{w:World}{A:Around}{E:Value->Shared->Prop}{s:Shared}{K:PySem.W.Frag}{x dx C f:Addr}{mA:Str->Option Value}{name:Str}{v:Value}
end
section
variable {P:Program}{w:World}{H H':Hp}{h h':Heap}{a C dx:Addr}{fs fs':List (Str × V)}
theorem ins_get (hok:HOk P w H h)(e:H a=some (.ins C dx fs)):∃ mA,ObjM h a dx C mA/\(∀ f,RelO (fs.lookup f) (mA f))/\PySem.Within mA (fs.map (·.1))/\fs.length<=1000/\H dx=some (.own a):=by
 obtain ⟨d,z,ne,ob,mA,n,r,q⟩:=(show ObjOk P w H h a (.ins C dx fs) from hok a _ e)
 exact ⟨mA,⟨ob,n,ne⟩,r,q,z,d⟩
end
structure Cls (K:PySem.W.Frag)(C:Addr):Prop where
 pg:PySem.W.plainGet K C Str.empty=true
 hd:PySem.W.hasDictIn K C=true
 po:PySem.W.plainOver K C=true
 sa:PySem.W.findIn K (.ref C) "__setattr__"=some (some (.builtin "object.__setattr__"))
theorem Cls.get {K:PySem.W.Frag}{C:Addr}(c:Cls K C)(f:Str):PySem.W.plainGet K C f=true:=c.pg
section
variable {X:Cx}{pins:List (Addr × Obj)}{σ:St}{H:Hp}{s:Shared}{a C dx:Addr}{fs:List (Str × V)}{f:Str}{v:V}{A:Around}{E:Value->Shared->Prop}
end
section
variable {X:Cx}{o e value:Expr}{f:Str}{pos pos' tpos:Pos}{ta tv:TE}
end
section
variable {X:Cx}{pins:List (Addr × Obj)}{σ:St}{H:Hp}{s:Shared}{A:Around}{E:Value->Shared->Prop}{Q:Value->Shared->Prop}{c:Value}{b:Bool}
inductive TyOf (K:PySem.W.Frag)(H:Hp):V->Value->Prop where
 | non:TyOf K H .non (.type "NoneType")
 | bl (x:Bool):TyOf K H (.bl x) (.type "bool")
 | int (i:Int):TyOf K H (.int i) (.type "int")
 | str (x:Str):TyOf K H (.str x) (.type "str")
 | flt (x:UInt64):TyOf K H (.flt x) (.type "float")
 | lst {a:Addr} {xs:List V} (e:H a=some (.lst xs)):TyOf K H (.ref a) (.type "list")
 | frz {a:Addr} {o:Obj} {xs:List V} (e:H a=some (.frz o (.lst xs))):TyOf K H (.ref a) (.type "list")
 | tup {a:Addr} {xs:List V} (e:H a=some (.tup xs)):TyOf K H (.ref a) (.type "tuple")
 | dK {a:Addr} {kvs:List (Key × V)} (e:H a=some (.dK kvs)):TyOf K H (.ref a) (.type "dict")
 | dT {a:Addr} {kvs:List (List Key × V)} (e:H a=some (.dT kvs)):TyOf K H (.ref a) (.type "dict")
 | ins {a C dx:Addr} {fs:List (Str × V)} (e:H a=some (.ins C dx fs)) (cl:Cls K C) (ha:PySem.W.findIn K (.ref C) "__class__"=some (some (.builtin "object.__class__")))
   (hn:PySem.W.specialIn K (.builtin "object.__class__") "__get__"=some (some (.builtin "getset_descriptor.__get__"))) (htk:PySem.W.takesIn K (.builtin "object.__class__")=some true)
   (hm:PySem.W.mroIn K C (.type "object")=some true):TyOf K H (.ref a) (.ref C)
theorem isinst_ok {x:V}{u t:Value}(I:Inv X pins σ H s)(rx:RelV x u)(ty:TyOf X.K H x t)(e:PySem.W.kitOne X.K t c=some b)(h:∀ tk,Q (.bool b) { s with toks:=tk }) :
  wpAny (model X.prog X.w) A (call (.builtin "isinstance") [u,c]) Q E s:=by
 cases ty with
 | non=>cases (show u=Value.none from rx); exact PySem.W.kia_one PySem.W.kitx_none I.kIn True.intro e (fun z=>nomatch z) h
 | bl y=>cases (show u=Value.bool y from rx); exact PySem.W.kia_one PySem.W.kitx_bool I.kIn True.intro e (fun z=>nomatch z) h
 | int i=>obtain ⟨t,q⟩:=(show ∃ t,u=Value.int i t from rx); cases q; exact PySem.W.kia_one PySem.W.kitx_int I.kIn True.intro e (fun z=>nomatch z) h
 | str y=>obtain ⟨t,q⟩:=(show ∃ t,u=Value.str y t from rx); cases q; exact PySem.W.kia_one PySem.W.kitx_str I.kIn True.intro e (fun z=>nomatch z) h
 | flt y=>obtain ⟨t,q⟩:=(show ∃ t,u=Value.float y t from rx); cases q; exact PySem.W.kia_one PySem.W.kitx_float I.kIn True.intro e (fun z=>nomatch z) h
 | @lst a xs ea =>
  cases (show u=Value.ref a from rx)
  obtain ⟨_,_,n,_,h1⟩:=(show ObjOk X.prog X.w H s.heap a (.lst xs) from I.hok a _ ea)
  exact PySem.W.kia_one PySem.W.kitx_list I.kIn ⟨_,h1,rfl⟩ e (fun z=>nomatch z) h
 | @frz a ob xs ea =>
  cases (show u=Value.ref a from rx)
  obtain ⟨_,_,_,n,_,h1⟩:=(show ObjOk X.prog X.w H s.heap a (.frz ob (.lst xs)) from I.hok a _ ea)
  exact PySem.W.kia_one PySem.W.kitx_list I.kIn ⟨_,h1,rfl⟩ e (fun z=>nomatch z) h
 | @tup a xs ea =>
  cases (show u=Value.ref a from rx)
  obtain ⟨_,_,_,p⟩:=(show ObjOk X.prog X.w H s.heap a (.tup xs) from I.hok a _ ea)
  obtain ⟨o,h1,h2,_⟩:=p
  exact PySem.W.kia_one PySem.W.kitx_tuple I.kIn ⟨o,h1,h2⟩ e (fun z=>nomatch z) h
 | @dK a kvs ea =>
  cases (show u=Value.ref a from rx)
  obtain ⟨_,_,vs,_,p⟩:=(show ObjOk X.prog X.w H s.heap a (.dK kvs) from I.hok a _ ea)
  obtain ⟨o,es,ep,h1,h2,_⟩:=p
  exact PySem.W.kia_one PySem.W.kitx_dict I.kIn ⟨o,h1,h2.1⟩ e (fun z=>nomatch z) h
 | @dT a kvs ea =>
  cases (show u=Value.ref a from rx)
  obtain ⟨_,_,xs,_,o,es,ep,h1,h2,_⟩:=(show ObjOk X.prog X.w H s.heap a (.dT kvs) from I.hok a _ ea)
  exact PySem.W.kia_one PySem.W.kitx_dict I.kIn ⟨o,h1,h2.1⟩ e (fun z=>nomatch z) h
 | @ins a C dx fs ea cl ha hn htk hm =>
  cases (show u=Value.ref a from rx)
  obtain ⟨mA,O,_⟩:=ins_get I.hok ea
  obtain ⟨od,J,_⟩:=O.look
  exact PySem.W.kia_one (PySem.W.kitx_own (cl.get _) cl.hd ha hn htk hm) I.kIn J e (fun z=>nomatch z) h
end
end L2
namespace L2
open PySem PySem.Spec PyProof.Rows
structure Room (k:Nat)(A:Around):Prop where
 hd:A.handled=none
 dp:A.depth + 3 * k + 5 < recursionLimit
 un:A.units + 16 * k + 200 < cLine
theorem Room.mono {j k:Nat}{A:Around}(r:Room k A)(h:j<=k):Room j A:=⟨r.hd,by have:=r.dp; omega,by have:=r.un; omega⟩
theorem Room.deeper {k:Nat}{A:Around}(r:Room (k + 1) A)(env:Env):Room k (A.deeper env) :=
 ⟨r.hd,by have:=r.dp; show A.depth + 1 + 3 * k + 5 < _; omega,by have:=r.un; show A.units + 3 + 16 * k + 200 < _; omega⟩
theorem Room.depth {k:Nat}{A:Around}(r:Room k A):A.depth < recursionLimit:=by have:=r.dp; omega
theorem Room.units {k:Nat}{A:Around}(r:Room k A):A.units + 64 < cLine:=by have:=r.un; omega
noncomputable def tNil:TA:=fun _ H Q=>Q [] H
noncomputable def tCons (ta:TE)(tr:TA):TA:=fun σ H Q=>ta σ H fun x H1=>tr σ H1 fun xs H2=>Q (x :: xs) H2
section
variable {X:Cx}{e:Expr}{es:List Expr}{te:TE}{t:TA}{pos:Pos}
theorem pa_nil:PA X [] tNil:=fun _ _ _ _ H Q I h=>Calls.spliced_nil ⟨[],H,I,.nil,h⟩
theorem pa_cons (ha:PE X e te)(hr:PA X es t)(hs:starEach (e :: es) X.env=(false,eval e X.env) :: starEach es X.env:=by rfl):PA X (e :: es) (tCons te t):=by
 intro pos pins s σ H Q I h
 rw [hs]
 show wpAny _ _ (spliced ((false,eval e X.env) :: backTo pos (starEach es X.env))) _ _ s
 refine Calls.spliced_cons (thn (ha pins s σ H _ I h) fun u s1 ⟨x,H1,I1,r1,q1⟩=>?_)
 exact thn (hr pos pins s1 σ H1 _ I1 q1) fun us s2 ⟨xs,H2,I2,r2,q2⟩=>⟨x :: xs,H2,I2,.cons r1 r2,q2⟩
noncomputable def tTup (t:TA):TE:=fun σ H Q=>t σ H fun xs H1=>xs.length<=sizeLine/\∀ p,H1 p=none->Q (.ref p) (upd H1 p (.tup xs))
noncomputable def tLst (t:TA):TE:=fun σ H Q=>t σ H fun xs H1=>xs.length<=sizeLine/\∀ p,H1 p=none->Q (.ref p) (upd H1 p (.lst xs))
theorem pe_tup {x1}(h:PA X es t):PE X (.Tuple es x1 pos) (tTup t):=by
 intro pins s σ H Q I hq
 refine wpAny_Tuple_spliced (thn (h pos pins s σ H _ I hq) fun us s1 ⟨xs,H1,I1,r,z,q⟩=>⟨by rw [<- r.length]; exact z,?_⟩)
 have hf:H1 s1.heap.objs.size=none:=I1.hok.fresh (Nat.le_refl _)
 refine ⟨.ref s1.heap.objs.size,upd H1 s1.heap.objs.size (.tup xs),I1.laid (t':=s1.toks) (fun b u e=>Heap.get?_push_of_some _ e) (Nat.le_refl _) ?_,rfl,q _ hf⟩
 exact ⟨z,us,r,⟨_,Heap.get?_push_size _ rfl,rfl,_,rfl⟩⟩
theorem pe_lst (h:PA X es t):PE X (.List es pos) (tLst t):=by
 intro pins s σ H Q I hq
 refine wpAny_List_spliced (thn (h pos pins s σ H _ I hq) fun us s1 ⟨xs,H1,I1,r,z,q⟩=>⟨by rw [<- r.length]; exact z,?_⟩)
 have hf:H1 s1.heap.objs.size=none:=I1.hok.fresh (Nat.le_refl _)
 refine ⟨.ref s1.heap.objs.size,upd H1 s1.heap.objs.size (.lst xs),I1.laid (t':=s1.toks) (fun b u e=>Heap.get?_push_of_some _ e) (Nat.le_refl _) ?_,rfl,q _ hf⟩
 exact ⟨z,us,0,r,Heap.get?_push_size _ rfl⟩
end
noncomputable abbrev Sp:=List V->Hp->VK->XK->Prop
noncomputable abbrev CXT:=List Env->Hp->Shared->XK->Value->Shared->Prop
structure Env0 (P:Program)(w:World)(K:PySem.W.Frag)(mg:Str->Option Value)(base:Heap)(A:Around)(outer:List Env)(s:Shared)(H:Hp):Prop where
 frames:A.frames=some outer
 mod:Mod K mg base
 bs:∀ b o,base.get? b=some o->s.heap.get? b=some o/\H b=none
 bsz:base.objs.size<=s.heap.objs.size
 funs:s.heap.FunFrames base outer
 frf:∀ b ∈ frs outer,H b=none
 hok:HOk P w H s.heap
 bare:AllBare s.gens
noncomputable def CE (outer:List Env)(P:Program)(w:World)(H:Hp)(s:Shared)(Q:VK)(u:Value)(s':Shared):Prop :=
 ∃ v H',s'.os=s.os/\AllBare s'.gens/\Un (frs outer) [] H H' s.heap s'.heap/\HOk P w H' s'.heap/\RelV v u/\Q v H'
noncomputable def CR (CX:CXT)(outer:List Env)(P:Program)(w:World)(H:Hp)(s:Shared)(Q:VK)(E:XK)(r:Result)(s':Shared):Prop :=
 match r with
 | .ok (.ret u)=>CE outer P w H s Q u s'
 | .ok _=>False
 | .error e=>CX outer H s E e s'
structure FnOk (P:Program)(w:World)(K:PySem.W.Frag)(mg:Str->Option Value)(base:Heap)(CX:CXT)(k:Nat)(f:Addr)(fd:FuncData)(ps:List Str)(sp:Sp):Prop where
 len:∀ vs H Q E,sp vs H Q E->vs.length=ps.length
 run:∀ (A:Around) (outer:List Env) (s:Shared) (H:Hp) (args:Args) (us:List Value) (vs:List V) (Q:VK) (E:XK),Room k A->Env0 P w K mg base A outer s H->BindsTo s fd args (ps.zip us)->Vals vs us->sp vs H Q E ->
  codeAny (model P w) A (.call (.ref f) args) (CR CX outer P w H s Q E) s
section
variable {X:Cx}{pins:List (Addr × Obj)}{σ:St}{H:Hp}{s s':Shared}
theorem Inv.env0 (I:Inv X pins σ H s):Env0 X.prog X.w X.K X.mg X.base X.A X.stack s H :=
 ⟨I.ok.frames,I.ok.mod,I.bs,Nat.le_trans I.ok.bsz I.sz,I.stack,I.stkFree,I.hok,I.bare⟩
theorem Inv.after {Q:VK}{u:Value}(I:Inv X pins σ H s)(h:CE X.stack X.prog X.w H s Q u s'):EP X pins σ Q u s':=by
 obtain ⟨v,H',os,bare,un,hok,r,q⟩:=h
 obtain ⟨hh,g,d,t,os'⟩:=s'
 obtain rfl:os'=s.os:=os
 exact ⟨v,H',I.call (h':=hh) (g':=g) (d':=d) (t':=t) (ch:=[]) un hok bare (fun b z=>absurd z (by simp)),r,q⟩
end
noncomputable def tCall (sp:Sp)(dvs:List V)(E:XK)(t:TA):TE:=fun σ H Q=>t σ H fun vs H1=>sp (vs++dvs) H1 Q E
noncomputable def Binds (K:PySem.W.Frag)(fd:FuncData)(ps:List Str)(ds:List Value):Prop :=
 ∀ (s:Shared) (us:List Value),K.In s.heap->(us++ds).length=ps.length->BindsTo s fd ⟨us,[]⟩ (ps.zip (us++ds))
theorem Binds.all {K:PySem.W.Frag}{fd:FuncData}{ps:List Str}(h:∀ us:List Value,us.length=ps.length->bindArgs fd ⟨us,[]⟩=pure (ps.zip us)):Binds K fd ps []:=fun s us _ hl=>by
 rw [List.append_nil] at hl ⊢
 exact .of_eq (h us hl)
noncomputable def Passes (CX:CXT)(X:Cx)(E:XK):Prop:=∀ (pins:List (Addr × Obj)) (σ:St) (H:Hp) (s:Shared) (e:Value) (s':Shared),Inv X pins σ H s->CX X.stack H s E e s'->X.xe e s'
section
variable {X:Cx}{CX:CXT}{k:Nat}{f C:Addr}{fd:FuncData}{ps:List Str}{sp:Sp}{dvs:List V}{ds:List Value}{E:XK}{x m:Str}{p pos apos:Pos}{e o:Expr}{es:List Expr}{ta:TE}{t:TA}
theorem run_fn {pins:List (Addr × Obj)}{σ:St}{H:Hp}{s:Shared}{Q:VK}{us:List Value}{vs:List V}(F:FnOk X.prog X.w X.K X.mg X.base CX k f fd ps sp)(hr:Room k X.A)(hb:Binds X.K fd ps ds)(hd:Vals dvs ds)(hx:Passes CX X E)
  (I:Inv X pins σ H s) (r:Vals vs us) (h:sp (vs++dvs) H Q E):wpAny (model X.prog X.w) X.A (call (.ref f) us) (EP X pins σ Q) X.xe s:=by
 have r2:Vals (vs++dvs) (us++ds):=r.append hd
 have hl:(us++ds).length=ps.length:=by rw [<- r2.length]; exact F.len _ _ _ _ h
 refine wpAny_call (codeAny_mono (F.run X.A X.stack s H ⟨us,[]⟩ (us++ds) (vs++dvs) Q E hr I.env0 (hb s us I.kIn hl) r2 h) fun r s' hq=>?_)
 cases r with
 | error e=>exact hx pins σ H s e s' I hq
 | ok fl =>
  cases fl with
  | ret u=>exact I.after hq
  | next=>exact False.elim hq
  | brk=>exact False.elim hq
  | cont=>exact False.elim hq
theorem pe_call (F:FnOk X.prog X.w X.K X.mg X.base CX k f fd ps sp)(hr:Room k X.A)(hg:Gl X x)(hm:X.mg x=some (.ref f))(hk:PySem.W.keepIn X.K (.ref f)=true)(hb:Binds X.K fd ps ds)(hd:Vals dvs ds)(hx:Passes CX X E)
  (ha:PA X (e :: es) t) (hdb:(x == ("__debug__":Str))=false:=by decide) (he:starEach (e :: es) X.env=(false,eval e X.env) :: starEach es X.env:=by rfl) (hpl:(backTo pos (starEach es X.env)).any (·.1)=false:=by rfl) :
  PE X (.Call (.Name x p) (e :: es) [] pos) (tCall sp dvs E t):=by
 intro pins s σ H Q I h
 refine wpAny_Call_Name_kw (ld_glob I hg hm ?_ hdb)
 refine PySem.W.callWith_K (h₀:=X.base) I.ok.mod.kin hk (thn (ha pos pins s σ H _ I h) fun us s1 ⟨vs,H1,I1,r,q⟩=>⟨I1.kIn,?_⟩) he hpl
 exact run_fn F hr hb hd hx I1 r q
end
section
variable {X:Cx}{CX:CXT}{k:Nat}{f C:Addr}{fd:FuncData}{ps ks:List Str}{sp:Sp}{E:XK}{x m:Str}{p pos apos kpos:Pos}{e o:Expr}{es:List Expr}{kws:List Keyword}{te ta:TE}{t tk:TA}{nm:Option Str}
variable {g:List Value->List Value->List Value}{gV:List V->List V->List V}
end
structure FnScope (N P:List Str)(sc:Scope):Prop where
 kind:sc.kind=.function
 co:sc.isCoroutine=false
 gen:sc.isGenerator=false
 nd:N.Nodup
 pre:N.take P.length=P
 par:∀ x ∈ P,sc.names.lookup x=some .local\/sc.names.lookup x=some .cell
 nofree:∀ y ∈ sc.names,y.2 ≠ .free
theorem bindL_out {kindOf:Str->Option NameKind}{x:Str}:∀ {binds:List (Str × Value)} {m:Str->Option Value},(∀ v,(x,v) ∉ binds)->bindL kindOf binds m x=m x
 | [],_,_=>rfl
 | (n,v) :: r,m,h=>by
  unfold bindL
  rw [bindL_out fun w hw=>h w (List.mem_cons_of_mem _ hw)]
  split
  ·have:x ≠ n:=by rintro rfl; exact h v List.mem_cons_self
   simp [this]
  ·rfl
theorem bindC_out {kindOf:Str->Option NameKind}{x:Str}:∀ {binds:List (Str × Value)} {m:Str->Option Value},(∀ v,(x,v) ∉ binds)->bindC kindOf binds m x=m x
 | [],_,_=>rfl
 | (n,v) :: r,m,h=>by
  unfold bindC
  rw [bindC_out fun w hw=>h w (List.mem_cons_of_mem _ hw)]
  split
  ·rfl
  ·have:x ≠ n:=by rintro rfl; exact h v List.mem_cons_self
   simp [this]
theorem bindL_get {kindOf:Str->Option NameKind}{x:Str}{v:Value}:∀ {P:List Str} {vs:List Value} {i:Nat} {m:Str->Option Value},P.Nodup->P[i]?=some x->vs[i]?=some v->kindOf x=some .local ->
  bindL kindOf (P.zip vs) m x=some v
 | [],_,_,_,_,h,_,_=>by simp at h
 | _ :: _,[],_,_,_,_,h,_=>by simp at h
 | p :: P,w :: vs,0,m,nd,h1,h2,hk=>by
  simp at h1 h2; subst h1; subst h2
  show bindL kindOf ((p,w) :: P.zip vs) m p=_
  unfold bindL
  rw [bindL_out fun v hv=>(List.nodup_cons.mp nd).1 (List.of_mem_zip hv).1,if_pos hk]
  simp
 | p :: P,w :: vs,i + 1,m,nd,h1,h2,hk=>by
  show bindL kindOf ((p,w) :: P.zip vs) m x=_
  unfold bindL
  exact bindL_get (i:=i) (List.nodup_cons.mp nd).2 (by simpa using h1) (by simpa using h2) hk
theorem bindC_get {kindOf:Str->Option NameKind}{x:Str}{v:Value}:∀ {P:List Str} {vs:List Value} {i:Nat} {m:Str->Option Value},P.Nodup->P[i]?=some x->vs[i]?=some v->kindOf x ≠ some .local ->
  bindC kindOf (P.zip vs) m x=some v
 | [],_,_,_,_,h,_,_=>by simp at h
 | _ :: _,[],_,_,_,_,h,_=>by simp at h
 | p :: P,w :: vs,0,m,nd,h1,h2,hk=>by
  simp at h1 h2; subst h1; subst h2
  show bindC kindOf ((p,w) :: P.zip vs) m p=_
  unfold bindC
  rw [bindC_out fun v hv=>(List.nodup_cons.mp nd).1 (List.of_mem_zip hv).1,if_neg hk]
  simp
 | p :: P,w :: vs,i + 1,m,nd,h1,h2,hk=>by
  show bindC kindOf ((p,w) :: P.zip vs) m x=_
  unfold bindC
  exact bindC_get (i:=i) (List.nodup_cons.mp nd).2 (by simpa using h1) (by simpa using h2) hk
noncomputable def start (N:List Str)(vs:List V):St:=vs.map some++List.replicate (N.length - vs.length) none
noncomputable def cxOf (CX:CXT)(P:Program)(w:World)(K:PySem.W.Frag)(mg:Str->Option Value)(base:Heap)(N:List Str)(qual:Str)(scope:Scope)(f:Addr)(cd:Value)(A:Around)(outer:List Env)(s:Shared)(H:Hp)(E:XK):Cx where
 prog:=P
 w:=w
 K:=K
 mg:=mg
 base:=base
 A:=A.deeper (envOfC qual scope s.heap.objs.size f cd)
 N:=N
 s₀:=s
 H₀:=H
 env:=envOfC qual scope s.heap.objs.size f cd
 outer:=outer
 stack:=envOfC qual scope s.heap.objs.size f cd :: outer
 ex:=[]
 calm:=true
 fn:=fun _=>true
 pn:=[]
 xe:=fun e s'=>wpAny (model P w) (A.deeper (envOfC qual scope s.heap.objs.size f cd)) (leaving (envOfC qual scope s.heap.objs.size f cd) e) (fun _ s''=>CX outer H s E e s'') (fun e' s''=>CX outer H s E e' s'') s'
theorem cell_has {sc:Scope}{n:Nat}{x:Str}(h:sc.names.lookup x=some .cell):∃ c,(cellsFrom n sc.names []).lookup x=some c:=by
 have q:=PySem.W.cellsFrom_some sc.names n [] (.inl h)
 exact Option.isSome_iff_exists.mp q
theorem inv_start {CX:CXT}{P:Program}{w:World}{K:PySem.W.Frag}{mg:Str->Option Value}{base:Heap}{N ps:List Str}{qual:Str}{scope:Scope}{f:Addr}{cd:Value}{A:Around}{outer:List Env}{s s1:Shared}{H:Hp}{E:XK}{us:List Value}{vs:List V}
  (S:FnScope N ps scope) (hd:A.handled=none) (e0:Env0 P w K mg base A outer s H) (hl:vs.length=ps.length) (r:Vals vs us)
  (x:InCallC s s.heap.objs.size (bindL (envOfC qual scope s.heap.objs.size f cd).kindOf (ps.zip us) fun _=>none) (cellsFrom (s.heap.objs.size + 1) scope.names []) (bindC (envOfC qual scope s.heap.objs.size f cd).kindOf (ps.zip us) fun _=>none) s1) :
  Inv (cxOf CX P w K mg base N qual scope f cd A outer s H E) [] (start N vs) H s1:=by
 have hpl:ps.length<=N.length:=by have:=congrArg List.length S.pre; rw [List.length_take] at this; omega
 obtain ⟨h1,tk,rfl,hk⟩:=x.done
 have noA:∀ b:Addr,b ∉ (cxOf CX P w K mg base N qual scope f cd A outer s H E).ex:=fun b z=>absurd (show b ∈ ([]:List Addr) from z) (by simp)
 refine ⟨⟨e0.mod,S.kind,rfl,rfl,Nat.le_refl _,fun y z c h1 h2=>?_,fun y hy=>?_,fun y c _ h=>?_,fun _=>hd,Around.frames_deeper e0.frames,.inr ⟨rfl,rfl⟩,fun b z=>absurd z (noA b),e0.bs,e0.bsz,fun b _ _=>noA b,fun b z=>absurd z (noA b),e0.funs,e0.frf⟩,
  rfl,e0.bare,Un.kept hk,⟨_,x.toInCall.ns,fun i y v h1 h2 h3=>?_⟩,fun y c h=>⟨_,x.cell y c h⟩,e0.hok.fresh (Nat.le_refl _),fun y c h=>?_,fun p hp=>absurd (show p ∈ ([]:List (Addr × Obj)) from hp) (by simp),e0.hok.kept hk,?_⟩
 ·exact name_of_addr x.apart (PySem.mem_of_lookup h1) (PySem.mem_of_lookup h2)
 ·have hy:scope.names.lookup y=some .cell\/scope.names.lookup y=some .free:=hy
  rcases hy with hy | hy
  ·exact cell_has hy
  ·exact absurd rfl (S.nofree _ (PySem.mem_of_lookup hy))
 ·exact Nat.le_of_lt (x.above y c (PySem.mem_of_lookup h))
 ·have hi:i < vs.length:=by
   unfold start at h2
   by_cases hi:i < vs.length
   ·exact hi
   ·rw [List.getElem?_append_right (by simpa using hi)] at h2
    rw [List.getElem?_replicate] at h2
    split at h2 <;> cases h2
  have ha:vs[i]?=some v:=by
   unfold start at h2
   rw [List.getElem?_append_left (by simpa using hi),List.getElem?_map] at h2
   cases e:vs[i]? with
   | none=>rw [e] at h2; cases h2
   | some a=>rw [e] at h2; cases h2; rfl
  obtain ⟨u,hu,rv⟩:=r.get ha
  have hp:ps[i]?=some y:=by
   rw [<- S.pre,List.getElem?_take_of_lt (by omega)]; exact h1
  have ndP:ps.Nodup:=by rw [<- S.pre]; exact S.nd.sublist (List.take_sublist _ _)
  refine ⟨u,rv,?_⟩
  rcases S.par y (List.mem_of_getElem? hp) with k | k
  ·exact .inl ⟨k,bindL_get ndP hp hu k⟩
  ·obtain ⟨c,e⟩:=cell_has (n:=s.heap.objs.size + 1) k
   refine .inr ⟨.inl k,c,e,?_⟩
   have q:=x.cell y c e
   rw [bindC_get ndP hp hu (by show scope.names.lookup y ≠ _; rw [k]; decide)] at q
   exact q
 ·exact e0.hok.fresh (Nat.le_of_lt (x.above y c (PySem.mem_of_lookup h)))
 ·unfold start
  show _=N.length
  rw [List.length_append,List.length_map,List.length_replicate]
  omega
theorem fn_of {CX:CXT}{P:Program}{w:World}{K:PySem.W.Frag}{mg:Str->Option Value}{base:Heap}{k:Nat}{f:Addr}{name qual:Str}{params:Arguments}{body:List Stmt}{scope:Scope}{dV kV doc pm cdv ct oc:Value}{an od:Option Addr}
  {osl:Array (Option Value)} {N ps:List Str} {sp:Sp} (lk:K.lookup f=some ⟨oc,od,.func (PySem.W.fnOf name qual params body scope dV kV doc pm an cdv ct),osl⟩) (hcd:PySem.W.codeIn K cdv qual=true) (S:FnScope N ps scope)
  (len:∀ vs H Q E,sp vs H Q E->vs.length=ps.length)
  (hbody:∀ (A:Around) (outer:List Env) (s:Shared) (H:Hp) (vs:List V) (Q:VK) (E:XK),Room k (A.deeper (envOfC qual scope s.heap.objs.size f cdv))->sp vs H Q E ->
   ∃ t,PSs (cxOf CX P w K mg base N qual scope f cdv A outer s H E) body t/\t { nx:=fun _ H'=>Q .non H',rt:=Q } (start N vs) H) :
  FnOk P w K mg base CX (k + 1) f (PySem.W.fnOf name qual params body scope dV kV doc pm an cdv ct) ps sp:=by
 refine ⟨len,fun A outer s H args us vs Q E hr e0 hb r hsp=>?_⟩
 have hl:=len _ _ _ _ hsp
 have KX:K.In s.heap:=e0.mod.kin.keeps fun b o e=>(e0.bs b o e).1
 have lim:s.heap.NoLimit:=e0.mod.nolimit.keeps fun b o e=>(e0.bs b o e).1
 have hkind:∀ y ∈ ps.zip us,scope.names.lookup y.1=some .local\/(scope.names.lookup y.1=some .cell/\((cellsFrom (s.heap.objs.size + 1) scope.names []).lookup y.1).isSome=true):=fun ⟨n,v⟩ hy=>by
  rcases S.par n (List.of_mem_zip hy).1 with q | q
  ·exact .inl q
  ·exact .inr ⟨q,PySem.W.cellsFrom_some _ _ _ (.inl q)⟩
 refine codeAny_call_function hr.depth (KX _ _ lk) rfl S.co S.gen rfl (PySem.W.codeRec_of KX hcd) (hb _ _ _ _ ?_)
 refine wpAny_newFunctionEnv_cells S.kind hkind fun env he s1 x=>?_
 subst he
 refine ⟨lim.keeps x.toInCall.keep,codeAny_func ?_⟩
 obtain ⟨t,ht,hq⟩:=hbody A outer s H vs Q E (hr.deeper _) hsp
 have I:Inv (cxOf CX P w K mg base N qual scope f cdv A outer s H E) [] (start N vs) H s1:=inv_start S hr.hd e0 hl r x
 refine wpAny_mono (ht [] s1 (start N vs) H _ I hq) (fun fl s' hs=>?_) fun e s' hs=>hs
 have fin:∀ {σ':St} {H':Hp} {v:V} {u:Value},Inv (cxOf CX P w K mg base N qual scope f cdv A outer s H E) [] σ' H' s'->RelV v u->Q v H'->CE outer P w H s Q u s' :=
  fun {σ' H' v u} J rv q=>⟨v,H',J.os,J.bare,J.base,J.hok,rv,q⟩
 cases fl with
 | ret u =>
  obtain ⟨v,σ',H',J,rv,q⟩:=hs
  exact fin J rv q
 | next =>
  obtain ⟨σ',H',J,q⟩:=hs
  exact fin (v:=V.non) (u:=Value.none) J rfl q
 | brk =>
  obtain ⟨_,_,_,q⟩:=hs
  exact False.elim q
 | cont =>
  obtain ⟨_,_,_,q⟩:=hs
  exact False.elim q
end L2
namespace L2
open PySem PySem.Spec PyProof.Rows
section
variable {X:Cx}{x:Str}{p pos:Pos}{e:Expr}{es:List Expr}{t:TA}{id T:String}{r:List V->Hp->VK->Prop}
noncomputable def tCB (r:List V->Hp->VK->Prop)(t:TA):TE:=fun σ H Q=>t σ H fun vs H1=>r vs H1 Q
theorem pe_callB (hc:CallR X (.builtin id) r)(hg:Gl X x)(hm:X.mg x=none)(hv:bootBuiltins x=some (.builtin id))(ha:PA X (e :: es) t)(hn:x ≠ "__name__":=by decide)(hdb:(x == ("__debug__":Str))=false:=by decide)
  (he:starEach (e :: es) X.env=(false,eval e X.env) :: starEach es X.env:=by rfl) (hpl:(backTo pos (starEach es X.env)).any (·.1)=false:=by rfl):PE X (.Call (.Name x p) (e :: es) [] pos) (tCB r t):=by
 intro pins s σ H Q I h
 refine wpAny_Call_Name_kw (ld_blt I hg hm hv ?_ hn hdb)
 exact PyProof.Rows.callWith_builtin1 (thn (ha pos pins s σ H _ I h) fun us s1 ⟨vs,H1,I1,r1,q1⟩=>hc pins s1 σ H1 vs us Q I1 r1 q1) he hpl
theorem pe_callTy (hc:CallR X (.type T) r)(hg:Gl X x)(hm:X.mg x=none)(hv:bootBuiltins x=some (.type T))(ha:PA X (e :: es) t)(hn:x ≠ "__name__":=by decide)(hdb:(x == ("__debug__":Str))=false:=by decide)
  (he:starEach (e :: es) X.env=(false,eval e X.env) :: starEach es X.env:=by rfl) (hpl:(backTo pos (starEach es X.env)).any (·.1)=false:=by rfl):PE X (.Call (.Name x p) (e :: es) [] pos) (tCB r t):=by
 intro pins s σ H Q I h
 refine wpAny_Call_Name_kw (ld_blt I hg hm hv ?_ hn hdb)
 exact PyProof.Rows.callWith_type1 (thn (ha pos pins s σ H _ I h) fun us s1 ⟨vs,H1,I1,r1,q1⟩=>hc pins s1 σ H1 vs us Q I1 r1 q1) he hpl
end
end L2
namespace HT
open PySem PyProof.Rows
section
open PySem.SeqAt
open PySem.AutoSeq1 (wpAny_loadPart')
open PySem.MeetsSeq PySem.MeetsSeq2 PySem.MeetsSeq3
end
section
variable {prog:Program}{w:World}{A:Around}{E:Value->Shared->Prop}{s:Shared}
end
end HT
namespace L2
open PySem PySem.Spec PyProof.Rows
section
variable {X:Cx}{e:Expr}{te:TE}{lo hi:Option Expr}{tl th:TO}{pos p2:Pos}
end
end L2
namespace L2
open PySem PySem.Spec PyProof.Rows
noncomputable def ixN (n:Nat)(i:Int):Option Nat:=if 0<=i then (if i < n then some i.toNat else none) else if -(n:Int)<=i then some (i + n).toNat else none
noncomputable def atI {α:Type}(xs:List α)(i:Int):Option α:=(ixN xs.length i).bind fun j=>xs[j]?
theorem ixN_seq {n:Nat}{i:Int}{j:Nat}(h:ixN n i=some j):seqIndex? i n=some j/\j < n/\-(n:Int)<=i/\i < n:=by
 unfold ixN at h
 by_cases h0:0<=i
 ·rw [if_pos h0] at h
  by_cases h1:i < n
  ·rw [if_pos h1] at h
   have e:i.toNat=j:=Option.some.inj h
   exact ⟨by rw [seqIndex_of h0 h1,e],by omega,by omega,h1⟩
  ·rw [if_neg h1] at h; cases h
 ·rw [if_neg h0] at h
  by_cases h1:-(n:Int)<=i
  ·rw [if_pos h1] at h
   have e:(i + n).toNat=j:=Option.some.inj h
   exact ⟨by rw [seqIndex_neg (by omega) h1,e],by omega,h1,by omega⟩
  ·rw [if_neg h1] at h; cases h
theorem atI_get {α:Type}{xs:List α}{i:Int}{v:α}(h:atI xs i=some v):∃ j,seqIndex? i xs.length=some j/\xs[j]?=some v/\j < xs.length/\-(xs.length:Int)<=i/\i < xs.length:=by
 unfold atI at h
 cases e:ixN xs.length i with
 | none=>rw [e] at h; cases h
 | some j =>
  rw [e] at h
  obtain ⟨h1,h2,h3,h4⟩:=ixN_seq e
  exact ⟨j,h1,h,h2,h3,h4⟩
theorem atI_nat {α:Type}{xs:List α}{j:Nat}{v:α}(h:xs[j]?=some v):atI xs (j:Int)=some v:=by
 have hj:j < xs.length:=(List.getElem?_eq_some_iff.mp h).1
 have e:ixN xs.length (j:Int)=some j:=by
  unfold ixN
  rw [if_pos (by omega),if_pos (by omega)]; simp
 unfold atI; rw [e]; exact h
noncomputable def PlainIx (b:Expr):Prop:=∀ o i,subscripted b false o i=operate [o,i] (getItem o i)
noncomputable def IxR (X:Cx)(r:R2):Prop :=
 ∀ (value slice:Expr) (pins:List (Addr × Obj)) (s:Shared) (σ:St) (H:Hp) (x y:V) (v u:Value) (Q:VK),Inv X pins σ H s->RelV x v->RelV y u->r x y H Q ->
  subscripted slice false v u=operate [v,u] (getItem v u)->wpAny (model X.prog X.w) X.A (subscriptTail value slice v u) (EP X pins σ Q) X.xe s
noncomputable def MtR (X:Cx)(id:String)(r:V->List V->Hp->VK->Prop):Prop :=
 ∀ (pins:List (Addr × Obj)) (s:Shared) (σ:St) (H:Hp) (x:V) (xs:List V) (v:Value) (us:List Value) (Q:VK),Inv X pins σ H s->RelV x v->Vals xs us->r x xs H Q ->
  wpAny (model X.prog X.w) X.A (call (.builtin id) (v :: us)) (EP X pins σ Q) X.xe s
section
variable {X:Cx}{a b:Expr}{ta tb:TE}{pos:Pos}
theorem pe_ix {r:R2}(hr:IxR X r)(ha:PE X a ta)(hb:PE X b tb)(hs:PlainIx b):PE X (.Subscript a b pos) (tOp r ta tb):=by
 intro pins s σ H Q I h
 exact Subscript_ (binT ha hb I h fun v u s2 x y H2 I2 rx ry q=>hr a b pins s2 σ H2 x y v u Q I2 rx ry q (hs _ _))
noncomputable def rIxL (K:PySem.W.Frag):R2:=fun x y H Q=>∃ p xs i v,x=.ref p/\y=.int i/\SqL K H p xs/\atI xs i=some v/\Q v H
noncomputable def rIxT (K:PySem.W.Frag):R2:=fun x y H Q=>∃ p xs i v,x=.ref p/\y=.int i/\SqT K H p xs/\atI xs i=some v/\Q v H
noncomputable def rIxS:R2:=fun x y H Q=>∃ z i c,x=.str z/\y=.int i/\z.length<=sizeLine/\atI z.cps.toList i=some c/\Q (.str ⟨#[c]⟩) H
theorem ix_list:IxR X (rIxL X.K):=by
 intro value slice pins s σ H x y v u Q I rx ry h hs
 obtain ⟨p,xs,i,z,rfl,rfl,hq,he,q⟩:=h
 cases rx
 obtain ⟨t,rfl⟩:=ry
 obtain ⟨its,r,pl,hz⟩:=I.list hq
 obtain ⟨j,h1,h2,h3,h4,h5⟩:=atI_get he
 obtain ⟨w,ew,rw'⟩:=r.get h2
 have hl:=r.length
 have hn:=line63
 have fin:EP X pins σ Q w s:=⟨z,H,I,rw',q⟩
 by_cases h0:0<=i
 ·have hj:i.toNat=j:=by
   rw [seqIndex_of h0 h5] at h1
   exact Option.some.inj h1
  exact item_listR pl.isList h0 (by omega) (by rw [hj]; simpa using ew) fin hs
 ·have hj:(i + (its.toArray.size:Int)).toNat=j:=by
   rw [seqIndex_neg (by omega) h4] at h1
   rw [List.size_toArray,<- hl]
   exact Option.some.inj h1
  exact subscriptTail_builtinR (x:=w) pl.isList.typeIs slot_list_getitem.lookup
   (wpAny_getItem_list_neg (Q:=fun r s'=>r=w/\EP X pins σ Q r s') pl.isList (by omega) (by rw [List.size_toArray] <;> omega) (by omega) (by rw [hj]; simpa using ew) ⟨rfl,fin⟩) hs
theorem ix_tup:IxR X (rIxT X.K):=by
 intro value slice pins s σ H x y v u Q I rx ry h hs
 obtain ⟨p,xs,i,z,rfl,rfl,hq,he,q⟩:=h
 cases rx
 obtain ⟨t,rfl⟩:=ry
 obtain ⟨its,r,pl,hz⟩:=I.tuple hq
 obtain ⟨j,h1,h2,h3,h4,h5⟩:=atI_get he
 obtain ⟨w,ew,rw'⟩:=r.get h2
 have hl:=r.length
 have hn:=line63
 have fin:EP X pins σ Q w s:=⟨z,H,I,rw',q⟩
 exact subscriptTail_builtinR (x:=w) pl.typeIs slot_tuple_getitem.lookup
  (getItem_tuple (j:=j) (Q:=fun r s'=>r=w/\EP X pins σ Q r s') pl (by omega) (by omega) (by rw [List.size_toArray,<- hl]; exact h1) (by simpa using ew) ⟨rfl,fin⟩) hs
theorem ix_str:IxR X rIxS:=by
 intro value slice pins s σ H x y v u Q I rx ry h hs
 obtain ⟨z,i,c,rfl,rfl,hz,he,q⟩:=h
 obtain ⟨t,rfl⟩:=rx
 obtain ⟨t',rfl⟩:=ry
 obtain ⟨j,h1,h2,h3,h4,h5⟩:=atI_get he
 have hl:z.cps.toList.length=z.length:=by simp [Str.length]
 rw [hl] at h1 h4 h5
 have hn:=line63
 exact tail_any (typeIs_str s z t) slot_str_getitem.lookup (getItem_str (c:=c) (by
  have e1:decide (i < -(2 ^ 63:Int))=false:=decide_eq_false (by omega)
  have e2:decide (i >= 2 ^ 63)=false:=decide_eq_false (by omega)
  rw [e1,e2,Bool.or_false]) (by rw [h1]; simpa using h2) ⟨.str ⟨#[c]⟩,H,I.tok _,⟨_,rfl⟩,q⟩) hs
theorem op_notIn_str:OpR X (compareOp .NotIn) (fun x y H Q=>∃ i j,x=.str i/\y=.str j/\Q (.bl (!(!(Builtin.Str.occurrences j i 0 j.length 1).isEmpty))) H):=by
 intro pins s σ H x y v u Q I rx ry h
 obtain ⟨i,j,rfl,rfl,q⟩:=h
 obtain ⟨t,rfl⟩:=rx
 obtain ⟨t',rfl⟩:=ry
 exact notIn_str ⟨.bl _,H,I,rfl,q⟩
theorem call_len_seq:CallR X (.builtin "len") (fun xs H Q=>∃ p ys,xs=[.ref p]/\(SqL X.K H p ys\/SqT X.K H p ys)/\Q (.int ys.length) H):=by
 intro pins s σ H xs us Q I r h
 obtain ⟨p,ys,rfl,hq,q⟩:=h
 obtain ⟨u,rfl,rx⟩:=vals1 r
 cases rx
 have hn:=line63
 rcases hq with hq | hq
 ·obtain ⟨its,r',pl,hz⟩:=I.list hq
  have hlen:=r'.length
  exact Calls.call_len_list pl.isList (by simp only [List.size_toArray] <;> omega) ⟨.int ys.length,H,I.tok _,⟨s.toks + 1,by rw [List.size_toArray,hlen]⟩,q⟩
 ·obtain ⟨its,r',pl,hz⟩:=I.tuple hq
  have hlen:=r'.length
  exact len_tuple pl (by simp only [List.size_toArray] <;> omega) ⟨.int ys.length,H,I.tok _,⟨s.toks + 1,by rw [List.size_toArray,hlen]⟩,q⟩
theorem call_len_str:CallR X (.builtin "len") (fun xs H Q=>∃ z,xs=[.str z]/\z.length<=sizeLine/\Q (.int z.length) H):=by
 intro pins s σ H xs us Q I r h
 obtain ⟨z,rfl,hz,q⟩:=h
 obtain ⟨u,rfl,t,rfl⟩:=vals1 r
 have hn:=line63
 exact len_str (by omega) ⟨.int z.length,H,I.tok _,⟨_,rfl⟩,q⟩
theorem call_list_of:CallR X (.type "list") (fun xs H Q=>∃ p ys,xs=[.ref p]/\(SqL X.K H p ys\/SqT X.K H p ys)/\∀ l,H l=none->Q (.ref l) (upd H l (.lst ys))):=by
 intro pins s σ H xs us Q I r h
 obtain ⟨p,ys,rfl,hq,q⟩:=h
 obtain ⟨u,rfl,rx⟩:=vals1 r
 cases rx
 have fin:∀ (its:List Value),Vals ys its->ys.length<=sizeLine->∀ (h':Heap) (c':Nat),(∀ b o',s.heap.get? b=some o'->h'.get? b=some o') ->
   h'.get? s.heap.objs.size=some { cls:=.type "list",dict:=none,data:=.seq its.toArray c',slots:=#[] }->EP X pins σ Q (.ref s.heap.objs.size) { s with heap:=h' }:=fun its r' hz h' c' kp e =>
  ⟨.ref s.heap.objs.size,_,I.laid (t':=s.toks) kp (Nat.le_refl _) (show ObjOk X.prog X.w _ h' _ (.lst ys) from ⟨hz,its,c',r',e⟩),rfl,q _ (I.hok.fresh (Nat.le_refl _))⟩
 rcases hq with hq | hq
 ·obtain ⟨its,r',pl,hz⟩:=I.list hq
  have hlen:=r'.length
  obtain ⟨o,ho,hc,n,hd⟩:=pl.isList
  exact call_list_seq p (.inl rfl) ho hc hd (fun h' c' kp e=>fin its r' hz h' c' kp e) (by simp only [List.size_toArray] <;> omega)
 ·obtain ⟨its,r',pl,hz⟩:=I.tuple hq
  have hlen:=r'.length
  obtain ⟨o,ho,hc,n,hd⟩:=pl
  exact call_list_seq p (.inr rfl) ho hc hd (fun h' c' kp e=>fin its r' hz h' c' kp e) (by simp only [List.size_toArray] <;> omega)
noncomputable def tyV (K:PySem.W.Frag)(T:String)(x:V)(H:Hp):Prop:=match x with
 | .str _=>T="str"
 | .int _=>T="int"
 | .ref p=>(T="list"/\∃ xs,SqL K H p xs)\/(T="tuple"/\∃ o,K.lookup p=some o/\o.cls=.type "tuple"/\o.dict=none) \/
   (T="dict"/\((∃ kvs,H p=some (.dK kvs))\/∃ kvs,H p=some (.dT kvs)))\/(T="set"/\∃ S n,H p=some (.set S n))
 | _=>False
theorem tyV_is {pins:List (Addr × Obj)}{σ:St}{H:Hp}{s:Shared}{T:String}{x:V}{v:Value}(I:Inv X pins σ H s)(r:RelV x v)(ty:tyV X.K T x H) :
  s.TypeIs v T/\∀ a,v=.ref a->∃ ob,s.heap.get? a=some ob/\ob.dict=none:=by
 cases x with
 | str z =>
  obtain ⟨t,rfl⟩:=r
  cases (show T="str" from ty)
  exact ⟨typeIs_str s z t,fun _ e=>nomatch e⟩
 | int i =>
  obtain ⟨t,rfl⟩:=r
  cases (show T="int" from ty)
  exact ⟨typeIs_int s i t,fun _ e=>nomatch e⟩
 | ref p =>
  cases r
  rcases ty with ⟨rfl,xs,hq⟩ | ⟨rfl,o,hk,hc,hd⟩ | ⟨rfl,hk⟩ | ⟨rfl,S,n,hk⟩
  ·obtain ⟨its,_,pl,_⟩:=I.list hq
   refine ⟨pl.isList.typeIs,fun a e=>?_⟩
   cases e
   obtain ⟨o,n,e,c,hd,_⟩:=pl
   exact ⟨o,e,hd⟩
  ·refine ⟨⟨o,I.kIn p o hk,hc⟩,fun a e=>?_⟩
   cases e
   exact ⟨o,I.kIn _ o hk,hd⟩
  ·have z:∃ o,s.heap.get? p=some o/\o.ExactDict:=by
    rcases hk with ⟨kvs,hk⟩ | ⟨kvs,hk⟩
    ·obtain ⟨_,_,_,_,o,_,_,e,ex,_⟩:=I.hok p _ hk
     exact ⟨o,e,ex⟩
    ·obtain ⟨_,_,_,_,o,_,_,e,ex,_⟩:=I.hok p _ hk
     exact ⟨o,e,ex⟩
   obtain ⟨o,e,ex⟩:=z
   refine ⟨⟨o,e,ex.1⟩,fun a e2=>?_⟩
   cases e2
   exact ⟨o,e,ex.2.1⟩
  ·obtain ⟨o,_,_,_,e,ex,_⟩:=I.hok p _ hk
   refine ⟨⟨o,e,ex.1⟩,fun a e2=>?_⟩
   cases e2
   exact ⟨o,e,ex.2.1⟩
 | _=>exact False.elim ty
noncomputable def tBM0 (K:PySem.W.Frag)(T:String)(r:V->List V->Hp->VK->Prop)(to:TE):TE:=fun σ H Q=>to σ H fun x H1=>tyV K T x H1/\r x [] H1 Q
noncomputable def tBM (K:PySem.W.Frag)(T:String)(r:V->List V->Hp->VK->Prop)(to:TE)(t:TA):TE:=fun σ H Q=>to σ H fun x H1=>tyV K T x H1/\t σ H1 fun xs H2=>r x xs H2 Q
variable {o e:Expr}{es:List Expr}{to:TE}{t:TA}{name:Str}{apos cpos:Pos}{T id:String}{r:V->List V->Hp->VK->Prop}
theorem pe_bm0 (pa:PlainAttrs T)(slot:Slot T name id)(hty:typeOf (.builtin id)=pure (.type "method_descriptor"))(hm:MtR X id r)(ho:PE X o to)
  (hbase:attributeBase o name X.env (eval o X.env)=eval o X.env:=by rfl) (hline:(apos.endLine == cpos.line)=true:=by rfl):PE X (.Call (.Attribute o name apos) [] [] cpos) (tBM0 X.K T r to):=by
 intro pins s σ H Q I h
 refine wpAny_Call_method0_late hbase hline (thn (ho pins s σ H _ I h) fun v s1 ⟨x,H1,I1,r1,ty,q1⟩=>?_)
 obtain ⟨h1,h2⟩:=tyV_is I1 r1 ty
 exact ⟨T,id,pa,slot,hty,h1,h2,Calls.callWith_builtin rfl (PySem.evalArgs_none (hm pins s1 σ H1 x [] v [] Q I1 r1 .nil q1))⟩
theorem pe_bm (pa:PlainAttrs T)(slot:Slot T name id)(hty:typeOf (.builtin id)=pure (.type "method_descriptor"))(hm:MtR X id r)(ho:PE X o to)(ha:PA X (e :: es) t)
  (hbase:attributeBase o name X.env (eval o X.env)=eval o X.env:=by rfl)
  (hfew:((backTo cpos (starEach (e :: es) X.env)).all (fun x=>!x.1) && (backToKw cpos (keywordEach [] X.env)).all (fun x=>x.1.isSome)
   && decide ((e :: es).length + ([]:List Keyword).length + (if ([]:List Keyword).isEmpty then 0 else 1) < 30))=true:=by rfl)
  (hline:(apos.endLine == cpos.line)=true:=by rfl) (hs:starEach (e :: es) X.env=(false,eval e X.env) :: starEach es X.env:=by rfl) (hplain:(backTo cpos (starEach es X.env)).any (·.1)=false:=by rfl) :
  PE X (.Call (.Attribute o name apos) (e :: es) [] cpos) (tBM X.K T r to t):=by
 intro pins s σ H Q I h
 refine wpAny_Call_method_late hbase hfew hline rfl (thn (ho pins s σ H _ I h) fun v s1 ⟨x,H1,I1,r1,ty,q1⟩=>?_)
 obtain ⟨h1,h2⟩:=tyV_is I1 r1 ty
 refine ⟨T,id,pa,slot,hty,h1,h2,?_⟩
 have hA:=ha cpos pins s1 σ H1 _ I1 q1
 rw [hs] at hA ⊢
 refine Calls.callWith_builtin (by show (false || (backTo cpos (starEach es X.env)).any (·.1))=false; rw [hplain] <;> rfl) (Calls.evalArgs_plain ?_)
 exact thn hA fun us s2 ⟨vs,H2,I2,r2,q2⟩=>hm pins s2 σ H2 x vs v us Q I2 r1 r2 q2
/- xs.append(e),list.index on a module's tuple .. are MtR facts of 06m -/
end
end L2
namespace L2
open PySem PySem.Spec PyProof.Rows
noncomputable def MtM (X:Cx)(id:String)(r:V->List V->Hp->VK->Prop):Prop :=
 ∀ (pins:List (Addr × Obj)) (s:Shared) (σ:St) (H:Hp) (x:V) (xs:List V) (v:Value) (us:List Value) (Q:VK),Inv X pins σ H s->RelV x v->Vals xs us->r x xs H Q ->
  wpAny (model X.prog X.w) X.A (call (.builtin id) (v :: us)) (EP X pins σ Q) X.xe s
theorem Vals.one:∀ {x:V} {us:List Value},Vals [x] us->∃ u,us=[u]/\RelV x u
 | _,_,.cons r .nil=>⟨_,rfl,r⟩
theorem Vals.zero:∀ {us:List Value},Vals [] us->us=[]
 | _,.nil=>rfl
theorem Vals.reverse {xs:List V}{us:List Value}(h:Vals xs us):Vals xs.reverse us.reverse:=by
 induction h with
 | nil=>exact .nil
 | cons r t ih=>rw [List.reverse_cons,List.reverse_cons]; exact Vals.append ih (.cons r .nil)
section
variable {X:Cx}{pins:List (Addr × Obj)}{σ:St}{H:Hp}{s:Shared}{l b:Addr}{xs ys zs:List V}
theorem Inv.lset {its its':List Value}{n:Nat}{f:Array Value->Array Value}{t':Nat}(I:Inv X pins σ H s)(hH:H l=some (.lst xs))
  (e:s.heap.get? l=some { cls:=.type "list",data:=.seq its.toArray n }) (hf:f its.toArray=its'.toArray) (hv:Vals ys its') (hz:ys.length<=sizeLine) :
  Inv X pins σ (upd H l (.lst ys)) { s with heap:=s.heap.update l (Obj.mapSeq f),toks:=t' }:=by
 have q:=PySem.IsL.update e f
 rw [hf] at q
 refine I.write (x:=l) (e:=l) (by rw [hH]; exact trivial) (.inl rfl) (fun b' u hb hu=>(Heap.get?_update_other s.heap (Obj.mapSeq f) (Ne.symm hb)).trans hu) ⟨_,q⟩ ?_
 exact ⟨hz,its',_,hv,q⟩
theorem Inv.lstM (I:Inv X pins σ H s)(hH:H l=some (.lst xs)):xs.length<=sizeLine/\∃ (its:List Value) (n:Nat),Vals xs its/\xs.length=its.length/\s.heap.get? l=some { cls:=.type "list",data:=.seq its.toArray n }:=by
 obtain ⟨z,its,n,r,e⟩:=I.hok l _ hH
 exact ⟨z,its,n,r,r.length,e⟩
theorem notLongL {n:Nat}(h:n<=sizeLine):Builtin.List.listTooLong n=false:=by
 unfold Builtin.List.listTooLong
 exact decide_eq_false (by omega)
end
section
variable {X:Cx}
noncomputable def rAppend:V->List V->Hp->VK->Prop:=fun x vs H Q=>∃ l xs y,x=.ref l/\vs=[y]/\H l=some (.lst xs)/\xs.length < sizeLine/\Q .non (upd H l (.lst (xs++[y])))
theorem mt_append:MtM X "list.append" rAppend:=by
 intro pins s σ H x vs v us Q I rx rv h
 obtain ⟨l,xs,y,rfl,rfl,hH,hz,q⟩:=h
 cases rx
 obtain ⟨u,rfl,ru⟩:=rv.one
 obtain ⟨z,its,n,r,hl,e⟩:=I.lstM hH
 refine call_meets F.slot_list_append ⟨_,e,rfl⟩ F.entry_list_append (F.args_list_append_2 _ _) (PySem.list_append l its.toArray n u (by rw [List.size_toArray]; omega)) ⟨e,?_⟩
 refine ⟨.non,_,I.lset (its':=its++[u]) hH e (by simp) (r.append (.cons ru .nil)) ?_,rfl,q⟩
 rw [List.length_append,List.length_singleton]
 omega
noncomputable def rExtend:V->List V->Hp->VK->Prop:=fun x vs H Q=>∃ l b xs zs,x=.ref l/\vs=[.ref b]/\H l=some (.lst xs)/\H b=some (.lst zs)/\xs.length + zs.length<=sizeLine/\Q .non (upd H l (.lst (xs++zs)))
theorem mt_extend:MtM X "list.extend" rExtend:=by
 intro pins s σ H x vs v us Q I rx rv h
 obtain ⟨l,b,xs,zs,rfl,rfl,hH,hB,hz,q⟩:=h
 cases rx
 obtain ⟨u,rfl,ru⟩:=rv.one
 cases ru
 obtain ⟨z,its,n,r,hl,e⟩:=I.lstM hH
 obtain ⟨z2,its2,n2,r2,hl2,e2⟩:=I.lstM hB
 have hsz:its.toArray.size + its2.toArray.size<=sizeLine:=by rw [List.size_toArray,List.size_toArray]; omega
 have hlong:¬ (!its.toArray.isEmpty && Builtin.List.listTooLong (its.toArray.size + its2.toArray.size))=true:=by
  rw [notLongL hsz,Bool.and_false]
  exact Bool.false_ne_true
 refine call_meets F.slot_list_extend ⟨_,e,rfl⟩ F.entry_list_extend (F.args_list_extend_2 _ _)
  (AutoSeq1.list_extend_list_list_0 l its.toArray n b its2.toArray n2 hlong (by rw [List.size_toArray]; omega) (by omega)) ⟨e,e2,?_⟩
 refine ⟨.non,_,I.lset (its':=its++its2) hH e (by simp) (r.append r2) ?_,rfl,q⟩
 rw [List.length_append]
 omega
noncomputable def rReverse:V->List V->Hp->VK->Prop:=fun x vs H Q=>∃ l xs,x=.ref l/\vs=[]/\H l=some (.lst xs)/\Q .non (upd H l (.lst xs.reverse))
theorem mt_reverse:MtM X "list.reverse" rReverse:=by
 intro pins s σ H x vs v us Q I rx rv h
 obtain ⟨l,xs,rfl,rfl,hH,q⟩:=h
 cases rx
 have hus:=rv.zero
 subst hus
 obtain ⟨z,its,n,r,hl,e⟩:=I.lstM hH
 refine call_meets F.slot_list_reverse ⟨_,e,rfl⟩ F.entry_list_reverse (F.args_list_reverse_1 _) (AutoSeq1.list_reverse_list_0 l its.toArray n (by rw [List.size_toArray]; omega)) ⟨e,?_⟩
 refine ⟨.non,_,I.lset (its':=its.reverse) hH e (by simp) r.reverse ?_,rfl,q⟩
 rw [List.length_reverse]
 omega
noncomputable def rClear:V->List V->Hp->VK->Prop:=fun x vs H Q=>∃ l xs,x=.ref l/\vs=[]/\H l=some (.lst xs)/\Q .non (upd H l (.lst []))
theorem mt_clear:MtM X "list.clear" rClear:=by
 intro pins s σ H x vs v us Q I rx rv h
 obtain ⟨l,xs,rfl,rfl,hH,q⟩:=h
 cases rx
 have hus:=rv.zero
 subst hus
 obtain ⟨z,its,n,r,hl,e⟩:=I.lstM hH
 refine call_meets F.slot_list_clear ⟨_,e,rfl⟩ F.entry_list_clear (F.args_list_clear_1 _) (AutoSeq1.list_clear_list_0 l its.toArray n (by rw [List.size_toArray]; omega)) ⟨e,?_⟩
 exact ⟨.non,_,I.lset (its':=[]) (ys:=[]) hH e rfl .nil (Nat.zero_le _),rfl,q⟩
theorem len_rep {α:Type}(xs:List α)(k:Nat):(List.replicate k xs).flatten.length=k * xs.length:=by
 induction k with
 | zero=>simp
 | succ k ih=>rw [List.replicate_succ,List.flatten_cons,List.length_append,ih,Nat.succ_mul,Nat.add_comm]
end
section
variable {prog:Program}{w:World}{A:Around}{E:Value->Shared->Prop}{s:Shared}
end
section
variable {X:Cx}
end
end L2
namespace Att
open PySem PySem.W PySem.Calls PyProof.Rows
theorem ints_of_wellAll {P:Params}{h:Heap}:∀ (ns:List Int) (vs:List Value),WellAll P h vs (ns.map WData.int)->IntsAre vs ns:=by
 intro ns
 induction ns with
 | nil =>
  intro vs w
  rw [List.map_nil] at w
  cases w
  exact .nil
 | cons n ns ih =>
  intro vs w
  rw [List.map_cons] at w
  cases w with
  | cons a b =>
   cases a
   exact .cons _ _ (ih _ b)
theorem script_of {l:OpenLaw}{n:Nat}(hn:l.most=some n){P:Params}{h:Heap}{args:List WData}{vals:List Value}
  (hpre:l.row.toRowW.claim.pre args=true) (hwl:WellAll P h vals args) :
  ∃ a vs ns,vals=[Value.ref a]/\args=[WData.list (ns.map WData.int)]/\h.get? a=some { cls:=.type "list",data:=.seq vs.toArray }/\IntsAre vs ns/\ns.length<=n:=by
 have hsh:WShape.hasAll [] args [.list .int]=true:=(pre_splitW hpre).1
 have hc:l.pre.holds [] { args:=args }=true:=(pre_splitW hpre).2
 obtain ⟨d,r,rfl,h1,h2⟩:=hasAllW_cons hsh
 obtain rfl:=hasAllW_nil h2
 obtain ⟨xs,rfl,h3⟩:=hasW_list h1
 obtain ⟨ns,rfl⟩:=items_int h3
 have hlen:ns.length<=n:=by
  unfold OpenLaw.pre at hc
  have h4:(WTm.not (.lt (.lit (.int (n:Int))) (.len (.arg 0)))).holds [] { args:=[.list (ns.map .int)] }=true:=by
   have h4:=(holds_andW hc).1
   rw [hn] at h4
   exact h4
  have h5:=condW_of h4 (w_not (w_lt w_lit (w_len_list (w_arg rfl))))
  rw [List.length_map] at h5
  refine Nat.le_of_not_lt fun q=>?_
  have q':(n:Int) < ((ns.length:Nat):Int):=by omega
  first
   | (rw [decide_eq_true q'] at h5; exact absurd h5 (by decide))
   | (simp at h5; omega)
 cases hwl with
 | cons w1 w2 =>
  cases w2
  cases w1 with
  | list ho hall=>exact ⟨_,_,ns,rfl,rfl,ho,ints_of_wellAll ns _ hall,hlen⟩
theorem post_true (l:OpenLaw)(args:List WData):l.row.toRowW.claim.post args (.bool true) args=true :=
 postW_of (r:=l.row.toRowW) (X:=(true == true))
  (show WShape.has [] (.bool true) .bool=true by first | rfl | decide | simp [WShape.has,WShape.arms,WShape.armsAll])
  (show (WTm.eq .res (.lit (.bool true))).value [] { args:=args,res:=some (.bool true),after:=args }=some (.bool (true == true)) from w_eq_bool (w_res rfl) w_lit) rfl
section
variable {prog:Program}{w:World}{A:Around}{E:Value->Shared->Prop}{s:Shared}{K:Frag}
end
end Att
namespace L2
open PySem PySem.Spec PyProof.Rows
theorem vals_ints:∀ {vs:List Value} {ns:List Int},IntsAre vs ns->Vals (ns.map V.int) vs
 | _,_,.nil=>.nil
 | _,_,.cons n t h=>.cons ⟨t,rfl⟩ (vals_ints h)
noncomputable def Only (H:Hp):Prop:=∀ b,H b=none\/∃ o xs,H b=some (.frz o (.lst xs))
end L2
namespace L2
open PySem PySem.Spec PyProof.Rows
end L2
/- THE LAST THEOREM (shape; LID,My.* are yours):
   My.Adr: a structure of the addresses that your layer names (classes,functions); My.Txt K t: a structure (Prop) of the equations over K;
   My.txt_mk:{K} {implicit addresses ..} (e1:nsIn K mainGlobals "law"=some (some (.ref f))) (e2:K.lookup f=some ⟨oc,od,.func (fnOf "law" "law" params body scope dV kV doc pm an cdv ct),sl⟩) (e3:codeIn K cdv "law"=true) ..:∃ t,My.Txt K t
set_option maxRecDepth 100000 in
set_option maxHeartbeats 0 in
theorem PySem.Challenge.cw_LID_holds : PySem.Challenge.rw_LID.Holds := by
 w_on; o_law; k_head; (case hw=>w_witness2)
 k_fill
 refine L2.walk_of (l:=PySem.Challenge.rw_LID) (n:=63) (k:=40) (x:="script") (CX:=fun w=>..) (sp:=fun _=>My.sp_law) rfl (by decide) rfl ⟨rfl,by decide,by decide⟩ (fun w h Y=>PySem.W.kIn_of Y) ?F ?S ?C
 case F =>
  intro w mg fa h KX G hmg
  have T:∃ t,My.Txt (L2.KOf KX) t:=by
   dsimp only [L2.KOf]                          -- K must stand as «<heap const> w.params» for k_is
   refine' My.txt_mk ?e1 ?e2 ?e3 ..
   (case e1=>PySem.W.k_is)                    -- in the order: a name->its address->its object->its parts
   (case e2=>PySem.W.k_is)
   ..
  obtain ⟨t,T⟩:=T
  have e0:=hmg.symm.trans (PySem.W.mg_of KX G T.law)
  cases e0                                       -- fa is the law's own address
  exact ⟨_,fun s u=>.of_eq rfl,fun base kb nb=>My.law_fn T kb nb⟩     -- if «.of_eq rfl» comes too early: refine' ⟨_,?b,fun base kb nb=>My.law_fn T kb nb⟩; exact fun s u=>.of_eq rfl
 case S=>exact fun w H a ns hl hO hS=>..
 case C=>exact ..
(the tactic k_is has no namespace: write k_is) -/
namespace L2
open PySem PySem.Spec PyProof.Rows
noncomputable def defArgs (s:Stmt):Arguments:=match s with
 | .FunctionDef _ a _ _ _ _ _ _ _ _=>a
 | _=>{ posonlyargs:=[],args:=[],vararg:=none,kwonlyargs:=[],kw_defaults:=[],kwarg:=none,defaults:=[] }
noncomputable def defBody (s:Stmt):List Stmt:=match s with
 | .FunctionDef _ _ b _ _ _ _ _ _ _=>b
 | _=>[]
noncomputable def defScope (s:Stmt):Scope:=match s with
 | .FunctionDef _ _ _ _ _ _ sc _ _ _=>sc
 | _=>{ kind:=.function,names:=[],isGenerator:=false,isCoroutine:=false }
noncomputable abbrev CX0:CXT:=fun _ _ _ _ _ _=>False
noncomputable abbrev E0:XK:=fun _ _ _=>False
theorem pass0 {X:Cx}:Passes CX0 X E0:=fun _ _ _ _ _ _ _ h=>h.elim
structure Fun (K:PySem.W.Frag)(x qual:Str)(st:Stmt)(f:Addr)(fd:FuncData):Prop where
 ex:∃ (oc:Value) (od:Option Addr) (kV doc pm:Value) (an:Option Addr) (cdv ct:Value) (osl:Array (Option Value)),
  fd=PySem.W.fnOf x qual (defArgs st) (defBody st) (defScope st) .none kV doc pm an cdv ct/\K.lookup f=some ⟨oc,od,.func fd,osl⟩/\PySem.W.codeIn K cdv qual=true
 kp:PySem.W.keepIn K (.ref f)=true
section
variable {P:Program}{w:World}{K:PySem.W.Frag}{mg:Str->Option Value}{base:Heap}
theorem Fun.ok {x qual:Str}{st:Stmt}{f:Addr}{fd:FuncData}{N ps:List Str}{k:Nat}{sp:Sp}(F:Fun K x qual st f fd)(S:FnScope N ps (defScope st))(len:∀ vs H Q E,sp vs H Q E->vs.length=ps.length)
  (hbody:∀ (cdv:Value) (A:Around) (outer:List Env) (s:Shared) (H:Hp) (vs:List V) (Q:VK) (E:XK),Room k (A.deeper (envOfC qual (defScope st) s.heap.objs.size f cdv))->sp vs H Q E ->
   ∃ t,PSs (cxOf CX0 P w K mg base N qual (defScope st) f cdv A outer s H E).nox (defBody st) t/\t { nx:=fun _ H'=>Q .non H',rt:=Q } (start N vs) H):FnOk P w K mg base CX0 (k + 1) f fd ps sp:=by
 obtain ⟨oc,od,kV,doc,pm,an,cdv,ct,osl,rfl,lk,hcd⟩:=F.ex
 refine fn_of lk hcd S len fun A outer s H vs Q E hr hsp=>?_
 obtain ⟨t,h,q⟩:=hbody cdv A outer s H vs Q E hr hsp
 exact ⟨t,h.nox,q⟩
theorem Fun.binds {x qual:Str}{st:Stmt}{f:Addr}{fd:FuncData}{ps:List Str}(F:Fun K x qual st f fd)
  (h:∀ (kV doc pm:Value) (an:Option Addr) (cdv ct:Value) (us:List Value),us.length=ps.length->bindArgs (PySem.W.fnOf x qual (defArgs st) (defBody st) (defScope st) .none kV doc pm an cdv ct) ⟨us,[]⟩=pure (ps.zip us)):Binds K fd ps []:=by
 obtain ⟨oc,od,kV,doc,pm,an,cdv,ct,osl,rfl,lk,hcd⟩:=F.ex
 exact .all (h kV doc pm an cdv ct)
theorem fun_mk {x qual:Str}{st:Stmt}{f:Addr}{oc:Value}{od an:Option Addr}{osl:Array (Option Value)}{kV doc pm cdv ct:Value}(l:K.lookup f=some ⟨oc,od,.func (PySem.W.fnOf x qual (defArgs st) (defBody st) (defScope st) .none kV doc pm an cdv ct),osl⟩)
  (c:PySem.W.codeIn K cdv qual=true) (k:PySem.W.keepIn K (.ref f)=true):Fun K x qual st f (PySem.W.fnOf x qual (defArgs st) (defBody st) (defScope st) .none kV doc pm an cdv ct):=⟨⟨oc,od,kV,doc,pm,an,cdv,ct,osl,rfl,l,c⟩,k⟩
end
section
variable {X:Cx}
theorem pv (i:Nat){x:Str}{pos:Pos}(hN:X.N[i]?=some x:=by rfl)(hv:Vis X.env.scope x:=by first | exact Or.inl rfl | exact Or.inr (Or.inl rfl) | exact Or.inr (Or.inr rfl))(hd:(x == ("__debug__":Str))=false:=by decide)
  (hcd:(x == ("__classdict__":Str))=false:=by decide):PE X (.Name x pos) (tVar i):=pe_var hN hv hd hcd
end
theorem iteF {A B:Prop}(h:B):if false=true then A else B:=by
 rw [if_neg Bool.false_ne_true]
 exact h
theorem iteT {A B:Prop}(h:A):if true=true then A else B:=by
 rw [if_pos rfl]
 exact h
theorem ite2 {c A B:Prop} [Decidable c](h1:c->A)(h2:¬ c->B):if c then A else B:=by
 by_cases h:c
 ·rw [if_pos h]
  exact h1 h
 ·rw [if_neg h]
  exact h2 h
theorem iteNS {c A B:Prop} [Decidable c](hc:c)(h:B):if (!decide c)=true then A else B:=by
 rw [decide_eq_true hc]
 exact iteF h
noncomputable def Same (H H':Hp):Prop:=∀ b o,H b=some o->H' b=some o
theorem Same.refl (H:Hp):Same H H:=fun _ _ h=>h
theorem Same.trans {H H1 H2:Hp}(a:Same H H1)(b:Same H1 H2):Same H H2:=fun c o h=>b c o (a c o h)
theorem Same.free {H H':Hp}(e:Same H H'){l:Addr}(h:H' l=Option.none):H l=Option.none:=by
 cases q:H l with
 | none=>rfl
 | some o =>
  rw [e l o q] at h
  cases h
theorem Same.seq {K:PySem.W.Frag}{H H':Hp}{a:Addr}{xs:List V}(e:Same H H')(h:SqL K H a xs):SqL K H' a xs:=by
 rcases h with (h | ⟨o,h⟩) | h
 ·exact .inl (.inl (e _ _ h))
 ·exact .inl (.inr ⟨o,e _ _ h⟩)
 ·exact .inr h
end L2
set_option maxHeartbeats 4000000
namespace L2
open PySem PySem.Spec PyProof.Rows
section
variable {X:Cx}
theorem op_mulG:OpR X (binaryOp .Mult) (rI IntMulOk fun i j=>.int (i * j)):=opI fun _ _ _ _ _ _ _ hc q=>mul_int q hc
noncomputable def CDivG (_ j:Int):Prop:=0 < j/\j.natAbs.log2 < 9000
theorem op_fdivG:OpR X (binaryOp .FloorDiv) (rI CDivG fun i j=>.int (i / j)):=opI fun i j _ _ _ _ _ hc q=>by
 have h1:(0:Int) < j:=hc.1
 exact floordiv_int (by omega) (by rw [Int.fdiv_eq_ediv_of_nonneg i (by omega)]; exact q) (.inl (PyProof.noPylong_of_log2 hc.2))
theorem CDivG.small {i j:Int}(h:0 < j)(h':j < 1073741824):CDivG i j:=by
 refine ⟨h,?_⟩
 have h0:j.natAbs ≠ 0:=by omega
 have:j.natAbs.log2 < 30:=(Nat.log2_lt h0).mpr (by omega)
 omega
theorem mulS {i j:Int}(h1:-(2 ^ 64) < j)(h2:j < 2 ^ 64):IntMulOk i j:=IntMulOk.of_right (intBits_le_64 h1 h2)
theorem mulL {i j:Int}(h1:-(2 ^ 64) < i)(h2:i < 2 ^ 64):IntMulOk i j:=IntMulOk.of_left (intBits_le_64 h1 h2)
noncomputable def kitB (T U:String):Option Bool:=if (Value.type T == Value.type U)=true then some true else if PySem.W.kitMeta U=true then (fastBuiltinMro T).map (·.contains (.type U)) else none
theorem kit_of (K:PySem.W.Frag){T U:String}{b:Bool}(e:kitB T U=some b):PySem.W.kitOne K (.type T) (.type U)=some b:=e
theorem call_isinst:CallR X (.builtin "isinstance") (fun xs H Q=>∃ x T U b,xs=[x,.ty U]/\TyOf X.K H x (.type T)/\kitB T U=some b/\Q (.bl b) H):=by
 intro pins s σ H xs us Q I r h
 obtain ⟨x,T,U,b,rfl,ty,e,q⟩:=h
 obtain ⟨u,w',rfl,rx,ru⟩:=vals2 r
 cases ru
 exact isinst_ok I rx ty (kit_of X.K e) fun tk=>⟨.bl b,H,I.tok tk,rfl,q⟩
end
theorem iteP {b:Bool}{A B:Prop}(e:b=true)(h:A):if b=true then A else B:=by
 rw [if_pos e]
 exact h
theorem iteN {b:Bool}{A B:Prop}(e:b=false)(h:B):if b=true then A else B:=by
 subst e
 exact iteF h
structure DefAt (K:PySem.W.Frag)(mg:Str->Option Value)(x:Str)(st:Stmt)(ps:List Str)(f:Addr)(fd:FuncData):Prop where
 F:Fun K x x st f fd
 g:mg x=some (.ref f)
 b:Binds K fd ps []
theorem atI_lt {α:Type}{xs:List α}{i:Int}{v:α}(h:0<=i)(e:xs[i.toNat]?=some v):atI xs i=some v:=by
 have:=atI_nat e
 rwa [Int.toNat_of_nonneg h] at this
noncomputable def tMid (t u:TS):TS:=fun D σ H=>∃ M:St->Hp->Prop,t { D with nx:=M } σ H/\∀ σ' H',M σ' H'->u D σ' H'
theorem pss_mid {X:Cx}{st:Stmt}{rest:List Stmt}{t u:TS}(h1:PS X st t)(h2:PSs X rest u):PSs X (st :: rest) (tMid t u):=by
 intro pins s σ H D I h
 obtain ⟨M,h3,h4⟩:=h
 refine wpAny_execs_cons (thn (h1 pins s σ H _ I h3) fun f s1 q=>?_)
 cases f with
 | next =>
  obtain ⟨σ1,H1,I1,q1⟩:=q
  exact h2 pins s1 σ1 H1 D I1 (h4 σ1 H1 q1)
 | brk=>exact q
 | cont=>exact q
 | ret v=>exact q
theorem same_new {H:Hp}{l:Addr}{o:HO}(h:H l=none):Same H (upd H l o):=fun b u e=>by rw [upd_ne (ne_of_none e h)]; exact e
end L2
namespace L2
open PySem PySem.Spec PyProof.Rows
noncomputable def Its (x:Str):It:=⟨fun i _=>i < x.cps.size,fun i H v H'=>H'=H/\∃ c,x.cps[i]?=some c/\v=.str ⟨#[c]⟩,fun i _=>i=x.cps.size⟩
theorem turn_str {P:Program}{w:World}{K:PySem.W.Frag}{tg:Expr}(it:Addr)(x:Str)(t:Tok)(n:String)
  (hn:["enumerate","zip","dict_itemiterator","dict_reverseitemiterator","odict_iterator","itertools.zip_longest","itertools.pairwise"].contains n=false)
  (W:∀ A':Around,A'.handled=none->Walks P w A' it [it] [it] x.cps.size (SignAt x) (fun i h=>h.IsStrIter it n x t i))
  (S:∀ (A:Around) (i:Nat) (s:Shared) (Q:Value->Shared->Prop) (E:Value->Shared->Prop),s.heap.IsStrIter it n x t i->Q (.ref it) s->wpAny (model P w) A (pyIter (.ref it)) Q E s) :
  Turn P w K tg (Its x) [it] it (fun i h=>h.IsStrIter it n x t i) where
 mem:=by simp
 obj:=fun i h st b hb=>by
  have e:b=it:=by simpa using hb
  subst e
  obtain ⟨o,e,c,d⟩:=st
  exact ⟨o,e,fun v z=>by rw [d] at z; cases z⟩
 keep:=fun i h h' st k=>by
  obtain ⟨o,e,r⟩:=st
  exact ⟨o,k it (by simp) o e,r⟩
 item:=by
  intro X hP hw hK hc i pins s σ H E I hf st hg
  subst hP hw hK
  obtain ⟨f0,f1,f2,f3,f4,f5⟩:=hf it (by simp)
  refine (W X.A (I.ok.hd hc)).item i s _ _ hg st fun v h' tk hv st' kk=>?_
  obtain ⟨c,u,hx,rfl⟩:=hv
  have I1:Inv X pins σ H { s with heap:=h',toks:=tk }:=I.turned (fun b o hb e=>kk b o (by simpa using hb) e) f0 f1 f3 f4 f5
  obtain ⟨o,e,c1,d1⟩:=id st'
  exact ⟨_,rfl,go_of (s:={ s with heap:=h',toks:=tk }) e c1 d1 hn ⟨.str ⟨#[c]⟩,H,I1,⟨u,rfl⟩,⟨rfl,c,hx,rfl⟩,st',fun b hb=>(hf b hb).1⟩⟩
 done:=by
  intro X hP hw hK hc i pins s σ H E I hf st hg
  subst hP hw hK
  obtain ⟨f0,f1,f2,f3,f4,f5⟩:=hf it (by simp)
  have e:i=x.cps.size:=hg
  subst e
  exact (W X.A (I.ok.hd hc)).done s _ E st fun h' tk kk=>⟨rfl,I.turned (fun b o hb e=>kk b o (by simpa using hb) e) f0 f1 f3 f4 f5⟩
 self:=fun A i s Q E st h=>S A i s Q E st h
section
variable {X:Cx}{tg:Expr}
noncomputable def iStr (tl:TE):TI:=fun σ H R=>tl σ H fun x H1=>∃ z,x=.str z/\R (Its z) H1
theorem pi_str {l:Expr}{tl:TE}(hl:PE X l tl):PI X tg l (iStr tl):=by
 intro pins s σ H R I h
 refine thn (hl pins s σ H _ I h) fun v s1 ⟨x,H1,I1,r1,q1⟩=>?_
 obtain ⟨z,rfl,q⟩:=q1
 obtain ⟨t,rfl⟩:=r1
 have fp:∀ b ∈ [s1.heap.objs.size],FpOk X pins H1 b:=fun b hb=>by
  have e:b=s1.heap.objs.size:=by simpa using hb
  subst e
  exact I1.fpOk (Nat.le_refl _) (I1.hok.fresh (Nat.le_refl _))
 cases ha:z.cps.all (· < 128)
 ·refine wpAny_pyIter_wide ha ?_
  exact ⟨s1.heap.objs.size,[s1.heap.objs.size],_,_,H1,rfl,I1.kept (t':=s1.toks) fun b o e=>Heap.get?_push_of_some _ e,turn_str _ z t "str_iterator" (by decide) (fun A' hA=>Walks.strWide hA _ z t) (fun _ _ _ _ _ st h=>wpAny_pyIter_striter_wide st h),⟨_,Heap.get?_push_size _ rfl,rfl,rfl⟩,fp,q⟩
 ·refine wpAny_pyIter_ascii ha ?_
  exact ⟨s1.heap.objs.size,[s1.heap.objs.size],_,_,H1,rfl,I1.kept (t':=s1.toks) fun b o e=>Heap.get?_push_of_some _ e,turn_str _ z t "str_ascii_iterator" (by decide) (fun A' hA=>Walks.strAscii hA _ z t) (fun _ _ _ _ _ st h=>wpAny_pyIter_striter_ascii st h),⟨_,Heap.get?_push_size _ rfl,rfl,rfl⟩,fp,q⟩
end
theorem for_str {x:Str}{g:TG}{tb:TS}{D:Ends}{σ:St}{H:Hp}(Pv:Nat->St->Hp->Prop)(h0:Pv 0 σ H)
  (hs:∀ i c σ H,x.cps[i]?=some c->Pv i σ H->g (.str ⟨#[c]⟩) σ H fun σ2 H2=>tb { D with nx:=Pv (i + 1),ct:=Pv (i + 1),bk:=D.nx } σ2 H2) (hd:∀ σ H,Pv x.cps.size σ H->D.nx σ H) :
  ∃ W:Nat->Nat->St->Hp->Prop,(∃ m,W 0 m σ H)/\∀ i m σ H,W i m σ H ->
   ((Its x).stop i H/\D.nx σ H)\/((Its x).go i H/\∃ N:St->Hp->Prop,(∀ σ' H',N σ' H'->∃ m',m' < m/\W (i + 1) m' σ' H')/\∀ v H',(Its x).yld i H v H'->g v σ H' fun σ2 H2=>tb { D with nx:=N,ct:=N,bk:=D.nx } σ2 H2):=by
 refine ⟨fun i m σ H=>m=x.cps.size - i/\i<=x.cps.size/\Pv i σ H,⟨x.cps.size,by simp,Nat.zero_le _,h0⟩,?_⟩
 rintro i m σ H ⟨rfl,hi,p⟩
 by_cases hlt:i < x.cps.size
 ·refine .inr ⟨hlt,Pv (i + 1),fun σ' H' p'=>⟨x.cps.size - (i + 1),by omega,rfl,hlt,p'⟩,fun v H' y=>?_⟩
  obtain ⟨e,c,hc,rfl⟩:=y
  subst e
  exact hs i c σ _ hc p
 ·have e:i=x.cps.size:=by omega
  subst e
  exact .inl ⟨rfl,hd σ H p⟩
mutual
inductive Rdv (K:PySem.W.Frag)(H:Hp):V->PyData->Prop
 | non:Rdv K H .non .none
 | bl (b:Bool):Rdv K H (.bl b) (.bool b)
 | int (i:Int):Rdv K H (.int i) (.int i)
 | str (x:Str):Rdv K H (.str x) (.str x)
 | lst {a:Addr} {xs:List V} {ds:List PyData}:SqL K H a xs->RdvAll K H xs ds->Rdv K H (.ref a) (.list ds)
 | tup {a:Addr} {xs:List V} {ds:List PyData}:SqT K H a xs->RdvAll K H xs ds->Rdv K H (.ref a) (.tuple ds)
inductive RdvAll (K:PySem.W.Frag)(H:Hp):List V->List PyData->Prop
 | nil:RdvAll K H [] []
 | cons {x:V} {d:PyData} {xs:List V} {ds:List PyData}:Rdv K H x d->RdvAll K H xs ds->RdvAll K H (x :: xs) (d :: ds)
end
section
variable {X:Cx}{pins:List (Addr × Obj)}{σ:St}{H:Hp}{s:Shared}
theorem reads_lst {a:Addr}{xs:List V}{ds:List PyData}(I:Inv X pins σ H s)(hq:SqL X.K H a xs)(h:∀ us,Vals xs us->∃ as,ReadsAll s.heap us ds as):∀ u,RelV (.ref a) u->∃ as,Reads s.heap u (.list ds) as:=by
 intro u r
 cases r
 obtain ⟨its,rv,p,hz⟩:=I.list hq
 obtain ⟨as,ra⟩:=h _ rv
 obtain ⟨o,ho,hc,n,hd⟩:=p.isList
 exact ⟨_,.list ho hc hd (by simpa using ra)⟩
theorem reads_tup {a:Addr}{xs:List V}{ds:List PyData}(I:Inv X pins σ H s)(hq:SqT X.K H a xs)(h:∀ us,Vals xs us->∃ as,ReadsAll s.heap us ds as):∀ u,RelV (.ref a) u->∃ as,Reads s.heap u (.tuple ds) as:=by
 intro u r
 cases r
 obtain ⟨its,rv,p,hz⟩:=I.tuple hq
 obtain ⟨as,ra⟩:=h _ rv
 obtain ⟨o,ho,hc,n,hd⟩:=p
 exact ⟨_,.tuple ho hc hd (by simpa using ra)⟩
theorem reads_cons {v:V}{vs:List V}{d:PyData}{ds:List PyData}(h:∀ u,RelV v u->∃ as,Reads s.heap u d as)(t:∀ us,Vals vs us->∃ as,ReadsAll s.heap us ds as):∀ us,Vals (v :: vs) us->∃ as,ReadsAll s.heap us (d :: ds) as:=by
 intro us r
 cases r with
 | cons r1 r2 =>
  obtain ⟨as,ra⟩:=h _ r1
  obtain ⟨bs,rb⟩:=t _ r2
  exact ⟨_,.cons ra rb⟩
theorem Rdv.reads (I:Inv X pins σ H s){v:V}{d:PyData}{u:Value}(h:Rdv X.K H v d):RelV v u->∃ as,Reads s.heap u d as :=
 Rdv.rec (motive_1:=fun v d _=>∀ u,RelV v u->∃ as,Reads s.heap u d as) (motive_2:=fun vs ds _=>∀ us,Vals vs us->∃ as,ReadsAll s.heap us ds as)
  (fun u r=>by cases r; exact ⟨_,.none⟩) (fun b u r=>by cases r; exact ⟨_,.bool b⟩) (fun i u r=>by obtain ⟨t,rfl⟩:=r; exact ⟨_,.int i t⟩) (fun x u r=>by obtain ⟨t,rfl⟩:=r; exact ⟨_,.str x t⟩)
  (fun hq _ h=>reads_lst I hq h) (fun hq _ h=>reads_tup I hq h) (fun us r=>by cases r; exact ⟨_,.nil⟩) (fun _ _ h t=>reads_cons h t) h u
structure CmpD (x y:PyData):Prop where
 l1:x.canLay0=true
 l2:y.canLay0=true
 dp:x.depth<=64
noncomputable def rEqD (K:PySem.W.Frag)(neg:Bool):R2:=fun x y H Q=>∃ dx dy,Rdv K H x dx/\Rdv K H y dy/\CmpD dx dy/\Q (.bl (if neg then !PyData.eqv dx dy else PyData.eqv dx dy)) H
theorem op_eq_deep (hu:X.A.units + 64 < cLine):OpR X (compareOp .Eq) (rEqD X.K false):=by
 intro pins s σ H x y v u Q I rx ry h
 obtain ⟨dx,dy,hx,hy,c,q⟩:=h
 obtain ⟨as,ra⟩:=hx.reads I rx
 obtain ⟨bs,rb⟩:=hy.reads I ry
 have:=c.dp
 exact SeqAt.compareEq_reads ra rb c.l1 c.l2 (by omega) ⟨.bl _,H,I,rfl,q⟩
theorem op_ne_deep (hu:X.A.units + 64 < cLine):OpR X (compareOp .NotEq) (rEqD X.K true):=by
 intro pins s σ H x y v u Q I rx ry h
 obtain ⟨dx,dy,hx,hy,c,q⟩:=h
 obtain ⟨as,ra⟩:=hx.reads I rx
 obtain ⟨bs,rb⟩:=hy.reads I ry
 have:=c.dp
 exact SeqAt.compareNe_reads ra rb c.l1 c.l2 (by omega) ⟨.bl _,H,I,rfl,q⟩
noncomputable def rInD (K:PySem.W.Frag)(neg:Bool):R2:=fun x y H Q=>∃ d ds,Rdv K H x d/\Rdv K H y (.list ds)/\d.canLay0=true/\PyData.canLayAll0 ds=true/\d.depth<=60/\Q (.bl (if neg then !ds.any (fun z=>PyData.eqv z d) else ds.any fun z=>PyData.eqv z d)) H
theorem op_in_deep (hu:X.A.units + 64 < cLine):OpR X (compareOp .In) (rInD X.K false):=by
 intro pins s σ H x y v u Q I rx ry h
 obtain ⟨d,ds,hx,hy,c1,c2,c3,q⟩:=h
 obtain ⟨as,ra⟩:=hx.reads I rx
 obtain ⟨bs,rb⟩:=hy.reads I ry
 exact SeqAt.in_list_reads rb ra c2 c1 (by omega) ⟨.bl _,H,I,rfl,q⟩
theorem op_notIn_deep (hu:X.A.units + 64 < cLine):OpR X (compareOp .NotIn) (rInD X.K true):=by
 intro pins s σ H x y v u Q I rx ry h
 obtain ⟨d,ds,hx,hy,c1,c2,c3,q⟩:=h
 obtain ⟨as,ra⟩:=hx.reads I rx
 obtain ⟨bs,rb⟩:=hy.reads I ry
 exact SeqAt.notIn_list_reads rb ra c2 c1 (by omega) ⟨.bl _,H,I,rfl,q⟩
end
end L2
namespace L2
open PySem PySem.Spec PyProof.Rows
noncomputable def compCx (X:Cx)(N:List Str)(scope:Scope)(cl:List (Str × Addr))(C:Addr)(fp:List Addr)(pins:List (Addr × Obj))(s:Shared)(H:Hp):Cx where
 prog:=X.prog
 w:=X.w
 K:=X.K
 mg:=X.mg
 base:=X.base
 A:=X.A
 N:=N
 s₀:=s
 H₀:=H
 env:=compEnvC scope cl C X.env
 outer:=X.stack
 stack:=X.stack
 ex:=fp
 fn:=fun _=>false
 calm:=X.calm
 pn:=X.pn++pins
 xe:=fun _ _=>False
noncomputable def pull (src:List (Option Nat))(σ:St):St:=src.map fun o=>match o with
 | some j=>(σ[j]?).getD none
 | none=>none
structure CompOk (X:Cx)(N:List Str)(src:List (Option Nat))(scope:Scope)(cl:List (Str × Addr)):Prop where
 kind:scope.kind=.function
 nocell:∀ y ∈ scope.names,y.2 ≠ .cell
 names:∀ y ∈ scope.names,y.2=.local->scope.names.lookup y.1=some .local
 clos:closureFor scope X.env=pure cl
 sub:∀ x c,cl.lookup x=some c->X.env.cells.lookup x=some c
 has:∀ x,((relabel scope X.env).names.lookup x=some .cell\/(relabel scope X.env).names.lookup x=some .free)->∃ c,cl.lookup x=some c
 len:src.length=N.length
 pulls:∀ (i j:Nat) (x:Str),N[i]?=some x->src[i]?=some (some j)->X.N[j]?=some x/\(X.env.kindOf x=some .cell\/X.env.kindOf x=some .free)/\((relabel scope X.env).names.lookup x=some .cell\/(relabel scope X.env).names.lookup x=some .free)
theorem relabel_plain {scope:Scope}{env:Env}(nf:∀ y ∈ scope.names,y.2 ≠ .free):(relabel scope env).names=scope.names:=by
 show scope.names.map _=scope.names
 refine map_eq_self fun x hx=>?_
 obtain ⟨n,k⟩:=x
 have:(k == NameKind.free)=false:=by simpa using nf _ hx
 simp [this]
theorem CompOk.plain {X:Cx}{N:List Str}{src:List (Option Nat)}{scope:Scope}(kind:scope.kind=.function)(nocell:∀ y ∈ scope.names,y.2 ≠ .cell)(nofree:∀ y ∈ scope.names,y.2 ≠ .free)
  (names:∀ y ∈ scope.names,y.2=.local->scope.names.lookup y.1=some .local) (len:src.length=N.length) (none:∀ o ∈ src,o=none):CompOk X N src scope [] where
 kind:=kind
 nocell:=nocell
 names:=names
 clos:=closureFor_none nofree
 sub:=fun x c h=>nomatch h
 has:=fun x h=>by
  rw [relabel_plain nofree] at h
  rcases h with h | h
  ·exact absurd rfl (nocell _ (PySem.mem_of_lookup h))
  ·exact absurd rfl (nofree _ (PySem.mem_of_lookup h))
 len:=len
 pulls:=fun i j x _ h=>by
  have:=none _ (List.mem_of_getElem? h)
  cases this
noncomputable def PIfs (X:Cx)(ifs:List Expr)(t:TT):Prop :=
 ∀ (pins:List (Addr × Obj)) (s:Shared) (σ:St) (H:Hp) (Q:Bool->Hp->Prop),Inv X pins σ H s->t σ H Q ->
  wpAny (model X.prog X.w) X.A (forIn ifs true fun c r=>if r=true then do let ok <- isTrue c X.env (eval c X.env); pure (ForInStep.yield ok) else pure (ForInStep.yield r)) (TP X pins σ Q) X.xe s
noncomputable def tYes:TT:=fun _ H Q=>Q true H
theorem pifs_nil {X:Cx}:PIfs X [] tYes:=fun _ _ _ H _ I h=>wpAny_tests_nil ⟨H,I,h⟩
theorem pifs_one {X:Cx}{c:Expr}{t:TT}(h:PT X c t):PIfs X [c] t:=fun pins s σ H Q I hq=>wpAny_tests_one (h pins s σ H Q I hq)
noncomputable def CompGoes (J:It)(g:TG)(tc:TT)(te:TE)(Q:VK)(D:Addr)(σ0:St)(H0:Hp):Prop :=
 ∃ W:Nat->Nat->St->Hp->Prop,(∃ m,W 0 m σ0 H0)/\∀ i m σ' H',W i m σ' H' ->
  (J.stop i H'/\Q (.ref D) H')\/(J.go i H'/\∃ N:St->Hp->Prop,(∀ σ'' H'',N σ'' H''->∃ m',m' < m/\W (i + 1) m' σ'' H'') /\
   ∀ x H2,J.yld i H' x H2->g x σ' H2 fun σ2 H3=>tc σ2 H3 fun b H4=>if b=true then te σ2 H4 fun y H5=>∃ ys,H5 D=some (.lst ys)/\ys.length < sizeLine/\N σ2 (upd H5 D (.lst (ys++[y]))) else N σ2 H4)
noncomputable def tComp (wi:TI)(src:List (Option Nat))(g:TG)(tc:TT)(te:TE):TE:=fun σ H Q=>wi σ H fun J H1=>∀ D,H1 D=none->CompGoes J g tc te Q D (pull src σ) (upd H1 D (.lst []))
theorem Un.but {fs ex:List Addr}{H H1:Hp}{h h1 h2:Heap}{C:Addr}(u:Un fs ex H H1 h h1)(hC:h.objs.size<=C)(sb:Heap.SameBut C h1 h2):Un fs ex H H1 h h2:=by
 have ne:∀ b o,h.get? b=some o->b ≠ C:=fun b o e=>Nat.ne_of_lt (Nat.lt_of_lt_of_le (Heap.lt_size e) hC)
 refine ⟨fun b o e n hb hx=>(sb.2 b (ne b o e)).trans (u.keep b o e n hb hx),fun b o e n hb hx=>?_,u.free,fun b o e hx=>?_,u.tups,u.frzs,u.tbls⟩
 ·obtain ⟨sl,q⟩:=u.slot b o e n hb hx
  exact ⟨sl,(sb.2 b (ne b o e)).trans q⟩
 ·obtain ⟨o',q⟩:=u.there b o e hx
  exact ⟨o',(sb.2 b (ne b o e)).trans q⟩
theorem HOk.but {P:Program}{w:World}{H:Hp}{h h':Heap}{C:Addr}(ok:HOk P w H h)(hn:H C=none)(sb:Heap.SameBut C h h'):HOk P w H h':=fun b ob e=>by
 refine (ok b ob e).stay (fun c w' hc q=>(sb.2 c ?_).trans q) (fun _ q=>q) fun _ _ q=>q
 rintro rfl
 rcases hc with rfl | hc
 ·rw [hn] at e; cases e
 ·rw [hn] at hc; cases hc
section
variable {X:Cx}{tg iter elt:Expr}{ifs:List Expr}{scope:Scope}{pos:Pos}{N:List Str}{src:List (Option Nat)}{cl:List (Str × Addr)}{wi:TI}{g:TG}{tc:TT}{te:TE}
theorem comp_start {pins:List (Addr × Obj)}{σ:St}{H:Hp}{s:Shared}{fp:List Addr}{h1:Heap}{C:Addr}{tk:Nat}(ok:CompOk X N src scope cl)(I:Inv X pins σ H s)(hf:∀ b ∈ fp,FpOk X pins H b)(ho:∀ b ∈ fp,∃ o,s.heap.get? b=some o)
  (hC:C=s.heap.objs.size + 1) (k:∀ b u,s.heap.get? b=some u->h1.get? b=some u) (hD:h1.get? s.heap.objs.size=some { cls:=.type "list",data:=.seq #[] }) {m:Str->Option Value} (hn:h1.Ns C m) :
  Inv (compCx X N scope cl C fp pins s H) [] (pull src σ) (upd H s.heap.objs.size (.lst [])) { s with heap:=h1,toks:=tk }:=by
 have lt:∀ b o,s.heap.get? b=some o->b < s.heap.objs.size:=fun b o e=>Heap.lt_size e
 have nC:∀ b o,s.heap.get? b=some o->b ≠ C:=fun b o e=>by rw [hC]; exact Nat.ne_of_lt (Nat.lt_succ_of_lt (lt b o e))
 have nD:∀ b o,s.heap.get? b=some o->b ≠ s.heap.objs.size:=fun b o e=>Nat.ne_of_lt (lt b o e)
 have fr:∀ b,s.heap.objs.size<=b->H b=none:=fun b hb=>I.hok.fresh hb
 have nst:∀ b,b ≠ X.env.locals->b ∉ X.fs->b ∉ frs X.stack:=fun b h1 h2 z=>(List.mem_cons.mp (I.stkSub b z)).elim h1 h2
 have sub:=ok.sub
 refine ⟨⟨I.ok.mod,ok.kind,I.ok.glob,I.ok.blt,by rw [show (compCx X N scope cl C fp pins s H).env.locals=C from rfl,hC]; exact Nat.le_succ _,fun x y c e1 e2=>I.ok.inj x y c (sub x c e1) (sub y c e2),ok.has,(fun x c z _=>nomatch z),I.ok.hd,I.ok.frames,.inl rfl,fun b hb=>?_,I.bs,Nat.le_trans I.ok.bsz I.sz,fun b o e hb=>?_,fun b hb hz=>?_,I.stack,I.stkFree⟩,
  rfl,I.bare,Un.laid k (Nat.le_refl _) (fr _ (Nat.le_refl _)),⟨m,hn,fun i x v e1 e2 e3=>?_⟩,fun x c e=>?_,?_,fun x c e=>?_,fun p hp=>?_,I.hok.laid k (Nat.le_refl _) ⟨Nat.zero_le _,[],0,.nil,hD⟩,?_⟩
 ·obtain ⟨o,e⟩:=ho b hb
  exact ⟨nC b o e,fun x c z=>(hf b hb).2.2.2.2.1 x c (sub x c z)⟩
 ·rcases (hf b hb).2.2.2.1 with z | z
  ·exact I.ok.noex b o e z
  ·exact absurd (Nat.lt_of_lt_of_le (Heap.lt_size (I.ok.bs b o e).1) z) (Nat.lt_irrefl _)
 ·exact nst b (hf b hb).2.1 (hf b hb).2.2.1 hz
 ·have hi:i < src.length:=by
   have:=(List.getElem?_eq_some_iff.mp e2).1
   unfold pull at this
   rw [List.length_map] at this
   exact this
  unfold pull at e2
  rw [List.getElem?_map,List.getElem?_eq_getElem hi] at e2
  cases q:src[i] with
  | none=>rw [q] at e2; cases e2
  | some j =>
   rw [q] at e2
   have e2':(σ[j]?).getD none=some v:=Option.some.inj e2
   have e4:σ[j]?=some (some v):=by
    cases z:σ[j]? with
    | none=>rw [z] at e2'; cases e2'
    | some o=>rw [z] at e2'; exact congrArg some e2'
   obtain ⟨p1,p2,p3⟩:=ok.pulls i j x e1 (by rw [List.getElem?_eq_getElem hi,q])
   obtain ⟨m',hn',hl⟩:=I.loc
   obtain ⟨u,r,l⟩:=hl j x v p1 e4 (by
    rcases p2 with z | z
    ·exact .inr (.inl z)
    ·exact .inr (.inr z))
   refine ⟨u,r,.inr ⟨p3,?_⟩⟩
   obtain ⟨c,hc⟩:=ok.has x p3
   refine ⟨c,hc,?_⟩
   rcases l with ⟨z,_⟩ | ⟨_,c',hc',o,ho',hd'⟩
   ·rcases p2 with y | y <;> rw [z] at y <;> cases y
   ·rw [sub x c hc] at hc'
    cases hc'
    exact ⟨o,k _ o ho',hd'⟩
 ·obtain ⟨v,o,e1,e2⟩:=I.cell x c (sub x c e)
  exact ⟨v,o,k c o e1,e2⟩
 ·show upd H s.heap.objs.size (.lst []) C=none
  rw [hC,upd_ne (Nat.succ_ne_self _)]
  exact fr _ (Nat.le_succ _)
 ·show upd H s.heap.objs.size (.lst []) c=none
  obtain ⟨v,o,e1,e2⟩:=I.cell x c (sub x c e)
  rw [upd_ne (nD c o e1)]
  exact I.freeC x c (sub x c e)
 ·have hp':p ∈ X.pn++pins:=by
   have:p ∈ (X.pn++pins)++[]:=hp
   simpa using this
  obtain ⟨e1,e2,e3,e4,e5⟩:=I.pin p hp'
  refine ⟨k _ _ e1,?_,nC _ _ e1,nst _ e3 e4,e5⟩
  show upd H s.heap.objs.size (.lst []) p.1=none
  rw [upd_ne (nD _ _ e1)]
  exact e2
 ·unfold pull
  rw [List.length_map]
  exact ok.len
theorem pe_comp (ok:CompOk X N src scope cl)(hcalm:X.calm=true)(hi:PI X tg iter wi)
  (hg:∀ C fp pins s H,PG (compCx X N scope cl C fp pins s H) tg g) (hc:∀ C fp pins s H,PIfs (compCx X N scope cl C fp pins s H) ifs tc) (he:∀ C fp pins s H,PE (compCx X N scope cl C fp pins s H) elt te)
  (hs:∀ x,foldedSetIterable iter X.env x=pure x:=by intro _; rfl):PE X (.ListComp elt [⟨tg,iter,ifs,0⟩] scope pos) (tComp wi src g tc te):=by
 intro pins s σ H Q I h
 rw [eval_ListComp]
 refine wpAny_comprehension_free (use:=none) rfl hs ok.clos ok.kind ok.names (thn (hi pins s σ H _ I h) fun xv s1 h1=>thn h1 fun itv s2 h2=>?_)
 obtain ⟨it,fp,tn,J,H2,e,I2,T,st2,f2,q2⟩:=h2
 subst e
 refine wpAny_newObj_type (wpAny_newFunctionEnv ok.nocell (by intro y hy; simp at hy) (fun h₁ hns₁ hsb₁=>?_) ok.kind)
 dsimp only at hns₁ hsb₁ ⊢
 generalize hP:s2.heap.push { cls:=.type "list",dict:=none,data:=.seq ([]:List Value).toArray }=P2 at hns₁ hsb₁ ⊢
 have hC:P2.objs.size=s2.heap.objs.size + 1:=by rw [<- hP,Heap.size_push]
 have k:∀ b u,s2.heap.get? b=some u->h₁.get? b=some u:=fun b u e=>by
  have lt:=Heap.lt_size e
  exact (hsb₁.2 b (by rw [hC]; exact Nat.ne_of_lt (Nat.lt_succ_of_lt lt))).trans (Heap.get?_push_of_some _ (hP ▸ Heap.get?_push_of_some _ e))
 have hD:h₁.get? s2.heap.objs.size=some { cls:=.type "list",data:=.seq #[] }:=(hsb₁.2 _ (by rw [hC]; exact (Nat.succ_ne_self _).symm)).trans (Heap.get?_push_of_some _ (hP ▸ Heap.get?_push_size _ rfl))
 have ho:∀ b ∈ fp,∃ o,s2.heap.get? b=some o:=fun b hb=>let ⟨o,e,_⟩:=T.obj 0 _ st2 b hb; ⟨o,e⟩
 obtain ⟨W,⟨m0,w0⟩,turn⟩:=q2 s2.heap.objs.size (I2.hok.fresh (Nat.le_refl _))
 have I0:=comp_start (tk:=s2.toks + ([]:List (Str × Value)).length) ok I2 f2 ho hC k hD hns₁
 have st0:tn 0 h₁:=T.keep 0 _ _ st2 fun b _ o e=>k b o e
 have fr0:∀ b ∈ fp,upd H2 s2.heap.objs.size (.lst []) b=none:=fun b hb=>by
  obtain ⟨o,e⟩:=ho b hb
  rw [upd_ne (Nat.ne_of_lt (Heap.lt_size e))]
  exact (f2 b hb).1
 have stat:∀ {H':Hp},(∀ b ∈ fp,H' b=none)->∀ b ∈ fp,FpOk (compCx X N scope cl P2.objs.size fp pins s2 H2) [] H' b:=fun {H'} hn b hb=>by
  obtain ⟨o,e⟩:=ho b hb
  have lt:=Heap.lt_size e
  refine ⟨hn b hb,?_,fun z=>(List.mem_cons.mp (I2.stkSub b z)).elim (f2 b hb).2.1 (f2 b hb).2.2.1,.inl hb,fun x c z=>(f2 b hb).2.2.2.2.1 x c (ok.sub x c z),fun p hp=>?_⟩
  ·show b ≠ P2.objs.size
   rw [hC]
   exact Nat.ne_of_lt (Nat.lt_succ_of_lt lt)
  ·have hp':p ∈ X.pn++pins:=by
    have:p ∈ (X.pn++pins)++[]:=hp
    simpa using this
   exact (f2 b hb).2.2.2.2.2 p hp'
 have loop:∀ s₃:Shared,s₃={ s2 with heap:=h₁,toks:=s2.toks + ([]:List (Str × Value)).length } ->
   codeAny (model X.prog X.w) X.A (.compLoop (.ListComp elt [⟨tg,iter,ifs,0⟩] scope pos) 0 (.ref it) (.ref s2.heap.objs.size) (compEnvC scope cl P2.objs.size X.env))
    (compPost (model X.prog X.w) X.A X.xe none (EP X pins σ Q) (.ref s2.heap.objs.size) P2.objs.size) s₃:=by
  rintro s₃ rfl
  refine codeAny_loop rfl (fun n s'=>∃ i σ' H',Inv (compCx X N scope cl P2.objs.size fp pins s2 H2) [] σ' H' s'/\tn i s'.heap/\(∀ b ∈ fp,H' b=none)/\W i n σ' H') ?_ m0 ⟨0,_,_,I0,st0,fr0,w0⟩
  rintro n s3 ⟨i,σ3,H3,I3,st3,fr3,w3⟩
  show wpAny _ X.A ((compTurn (.ListComp elt [⟨tg,iter,ifs,0⟩] scope pos) 0 (.ref it) (.ref s2.heap.objs.size) (compEnvC scope cl P2.objs.size X.env)).onRaise (fun x=>do noteFrame x (compEnvC scope cl P2.objs.size X.env); theTreesLotGoes x)) _ _ s3
  refine wpAny_noted ?_
  rw [compTurn_list]
  rcases turn i n σ3 H3 w3 with ⟨stop,qn⟩ | ⟨go,N',hN,step⟩
  ·refine wpAny_bind (wpAny_standAt (wpAny_bind (thn (T.done (compCx X N scope cl P2.objs.size fp pins s2 H2) rfl rfl rfl hcalm i [] s3 σ3 H3 _ I3 (stat fr3) st3 stop) fun r s4 ⟨hr,I4⟩=>?_)))
   subst hr
   refine wpAny_pure ?_
   obtain ⟨m,hm,_⟩:=I4.loc
   refine ⟨m,hm,fun h' sb=>⟨.ref s2.heap.objs.size,H3,?_,rfl,qn⟩⟩
   have un:Un (frs X.stack) fp H2 H3 s2.heap h':=Un.but I4.base (by show s2.heap.objs.size<=P2.objs.size; rw [hC]; exact Nat.le_succ _) sb
   have hok:HOk X.prog X.w H3 h':=HOk.but I4.hok I4.free sb
   exact I2.call' (s':={ s4 with heap:=h' }) (ch:=fp) I4.os un hok I4.bare fun b hb=>⟨(f2 b hb).2.2.2.1,(f2 b hb).2.1,(f2 b hb).2.2.2.2.1,(f2 b hb).2.2.2.2.2⟩
  ·refine wpAny_bind (wpAny_standAt (wpAny_bind (thn (T.item (compCx X N scope cl P2.objs.size fp pins s2 H2) rfl rfl rfl hcalm i [] s3 σ3 H3 _ I3 (stat fr3) st3 go) fun r s4 ⟨u,hr,h4⟩=>?_)))
   subst hr
   dsimp only
   refine wpAny_bind (thn h4 fun _ s5 ⟨x,H5,I5,r5,y5,st5,fr5⟩=>?_)
   have I5':=I5.pinned (stat fr5) (T.obj _ _ st5)
   refine wpAny_bind (wpAny_mono (hg P2.objs.size fp pins s2 H2 _ s5 σ3 H5 x u _ I5' r5 (step x H5 y5)) (fun _ s6 ⟨σ6,H6,I6,q6⟩=>?_) fun _ _ z=>False.elim z)
   have again:∀ {s7:Shared} {σ7:St} {H7:Hp},Inv (compCx X N scope cl P2.objs.size fp pins s2 H2) ([]++pinsAt fp s5.heap) σ7 H7 s7->N' σ7 H7->∃ m,m < n/\∃ i σ' H',Inv (compCx X N scope cl P2.objs.size fp pins s2 H2) [] σ' H' s7/\tn i s7.heap/\(∀ b ∈ fp,H' b=none)/\W i m σ' H':=fun {s7 σ7 H7} I7 n7=>by
    obtain ⟨m',hm,w7⟩:=hN σ7 H7 n7
    refine ⟨m',hm,i + 1,σ7,H7,I7.unpinned,T.keep _ _ _ st5 fun b hb o e=>(I7.pin (b,o) (List.mem_append_right _ (List.mem_append_right _ (mem_pinsAt hb e)))).1,fun b hb=>?_,w7⟩
    obtain ⟨o,e,d⟩:=T.obj _ _ st5 b hb
    exact (I7.pin (b,o) (List.mem_append_right _ (List.mem_append_right _ (mem_pinsAt hb e)))).2.1
   refine wpAny_bind (wpAny_mono (hc P2.objs.size fp pins s2 H2 _ s6 σ6 H6 _ I6 q6) (fun b s7 ⟨H7,I7,q7⟩=>?_) fun _ _ z=>False.elim z)
   cases b with
   | false =>
    rw [if_neg Bool.false_ne_true] at q7
    exact wpAny_pure ⟨rfl,again I7 q7⟩
   | true =>
    rw [if_pos rfl] at q7
    refine wpAny_bind (wpAny_bind (wpAny_mono (he P2.objs.size fp pins s2 H2 _ s7 σ6 H7 _ I7 q7) (fun y s8 ⟨v8,H8,I8,r8,ys,hys,hlen,q8⟩=>?_) fun _ _ z=>False.elim z))
    refine wpAny_bind (wpAny_mono (mt_append (X:=compCx X N scope cl P2.objs.size fp pins s2 H2) _ s8 σ6 H8 (.ref s2.heap.objs.size) [v8] (.ref s2.heap.objs.size) [y] (fun _ H9=>N' σ6 H9) I8 rfl (.cons r8 .nil) ⟨_,ys,v8,rfl,rfl,hys,hlen,q8⟩) (fun _ s9 ⟨v9,H9,I9,_,q9⟩=>?_) fun _ _ z=>False.elim z)
    exact wpAny_pure (wpAny_pure ⟨rfl,again I9 q9⟩)
 exact codeAny_compStart_list (loop _ rfl) (T.self _ 0 _ _ _ st0 (loop _ rfl))
end
end L2
namespace L2
open PySem PySem.Spec PyProof.Rows
section
variable {K:PySem.W.Frag}{src:List (Option Nat)}{g:TG}{tc:TT}{te:TE}{Q:VK}{σ:St}{H:Hp}{D:Addr}
theorem comp_list {a:Addr}{xs:List V}(Pv:Nat->St->Hp->Prop)(h0:Pv 0 σ H)(hl:∀ i σ H,i<=xs.length->Pv i σ H->SqL K H a xs)
  (hs:∀ i x σ H,xs[i]?=some x->Pv i σ H->g x σ H fun σ2 H3=>tc σ2 H3 fun b H4=>if b=true then te σ2 H4 fun y H5=>∃ ys,H5 D=some (.lst ys)/\ys.length < sizeLine/\Pv (i + 1) σ2 (upd H5 D (.lst (ys++[y]))) else Pv (i + 1) σ2 H4)
  (hd:∀ σ H,Pv xs.length σ H->Q (.ref D) H):CompGoes (Itl K a) g tc te Q D σ H:=by
 refine ⟨fun i m σ H=>m=xs.length - i/\i<=xs.length/\Pv i σ H,⟨xs.length,by simp,Nat.zero_le _,h0⟩,?_⟩
 rintro i m σ H ⟨rfl,hi,p⟩
 have q:=hl i σ H hi p
 by_cases hlt:i < xs.length
 ·refine .inr ⟨⟨xs,xs[i],q,by simp [hlt]⟩,Pv (i + 1),fun σ' H' p'=>⟨xs.length - (i + 1),by omega,rfl,hlt,p'⟩,fun x H' y=>?_⟩
  obtain ⟨e,y⟩:=y
  subst e
  exact hs i x σ _ (y xs q) p
 ·have e:i=xs.length:=by omega
  subst e
  exact .inl ⟨⟨xs,q,Nat.le_refl _⟩,hd σ H p⟩
end
theorem rdv_strs {K:PySem.W.Frag}{H:Hp}:∀ rs:List Str,RdvAll K H (rs.map V.str) (rs.map PyData.str)
 | []=>.nil
 | t :: r=>.cons (.str t) (rdv_strs r)
end L2
namespace L2
open PySem PySem.Spec PyProof.Rows
section
variable {X:Cx}{K:PySem.W.Frag}
theorem pt_truthK {a:Expr}{ta:TE}(hK:X.K=K)(ha:PE X a ta)(he:∀ whole,isTrue a X.env whole=(do let v <- whole; standAt a.pos; holding [v] (truthy v))) :
  PT X a (fun σ H Q=>ta σ H fun x H'=>∃ k,TruV K x H' k/\Q k H'):=by
 subst hK
 exact pt_truth ha he
theorem op_in_deepK (hK:X.K=K)(hu:X.A.units + 64 < cLine):OpR X (compareOp .In) (rInD K false):=by
 subst hK
 exact op_in_deep hu
theorem op_notIn_deepK (hK:X.K=K)(hu:X.A.units + 64 < cLine):OpR X (compareOp .NotIn) (rInD K true):=by
 subst hK
 exact op_notIn_deep hu
theorem pg_tupK {es:List Expr}{k:Nat}{t:TGs}{n:Nat}{pos:Pos}(hK:X.K=K)(hc:X.calm=true)(h:PGs X es t)
  (hn:(assignEach es X.env).length=n:=by rfl) (hst:(assignEach es X.env).findIdx? (·.1)=none:=by rfl):PG X (.Tuple es k pos) (gTup K n t):=by
 subst hK
 exact pg_tup hc h hn hst
end
end L2
namespace L2
open PySem PySem.Spec PyProof.Rows
section
variable {fs ch:List Addr}{H:Hp}{h h':Heap}{a:Addr}{o:HO}
theorem Un.laidX (k:∀ b u,b ∉ ch->h.get? b=some u->h'.get? b=some u)(hp:h.objs.size<=a)(hn:H a=none):Un fs ch H (upd H a o) h h' where
 keep:=fun b u q _ _ hx=>k b u hx q
 slot:=fun b u q _ _ hx=>⟨u.slots,k b u hx q⟩
 free:=fun b u q n _=>by rw [upd_ne (Nat.ne_of_lt (Nat.lt_of_lt_of_le (Heap.lt_size q) hp))]; exact n
 there:=fun b u q hx=>⟨u,k b u hx q⟩
 tups:=fun b xs q=>by rw [upd_ne (ne_of_none q hn)]; exact q
 frzs:=fun b u xs q=>by rw [upd_ne (ne_of_none q hn)]; exact q
 tbls:=fun b ps q=>⟨#[],by rw [upd_ne (ne_of_none q hn),q]; simp⟩
theorem Un.keptX (k:∀ b u,b ∉ ch->h.get? b=some u->h'.get? b=some u):Un fs ch H H h h' :=
 ⟨fun b ob q _ _ hx=>k b ob hx q,fun b ob q _ _ hx=>⟨ob.slots,k b ob hx q⟩,fun _ _ _ n _=>n,fun b ob q hx=>⟨ob,k b ob hx q⟩,fun _ _ q=>q,fun _ _ _ q=>q,fun _ ps q=>⟨#[],by rw [q]; simp⟩⟩
theorem HOk.keptX {P:Program}{w:World}(x:HOk P w H h)(k:∀ b u,b ∉ ch->h.get? b=some u->h'.get? b=some u)(hch:∀ b ∈ ch,H b=none):HOk P w H h':=fun b u e=>by
 refine (x b u e).stay (fun c v hc q=>k c v (fun z=>?_) q) (fun _ q=>q) fun _ _ q=>q
 have n:=hch c z
 rcases hc with rfl | hc
 ·rw [n] at e; cases e
 ·rw [n] at hc; cases hc
theorem HOk.laidX {P:Program}{w:World}(x:HOk P w H h)(k:∀ b u,b ∉ ch->h.get? b=some u->h'.get? b=some u)(hch:∀ b ∈ ch,H b=none)(hp:h.objs.size<=a)(new:ObjOk P w (upd H a o) h' a o):HOk P w (upd H a o) h':=fun b u e=>by
 have hn:=x.fresh hp
 by_cases hb:b=a
 ·subst hb; rw [upd_same] at e; cases e; exact new
 ·rw [upd_ne hb] at e
  refine (x b u e).stay (fun c v hc q=>k c v (fun z=>?_) q) (fun c q=>by rw [upd_ne (ne_of_none q hn)]; exact q) fun c xs q=>by rw [upd_ne (ne_of_none q hn)]; exact q
  have n:=hch c z
  rcases hc with rfl | hc
  ·rw [n] at e; cases e
  ·rw [n] at hc; cases hc
end
section
variable {X:Cx}{pins:List (Addr × Obj)}{s:Shared}{σ:St}{H:Hp}{E:Value->Shared->Prop}{fp wr FP:List Addr}{elts:List Expr}{k:Nat}{pos:Pos}{e:Addr}{n i:Nat}{Pt:Nat->Array Value->Prop}{Sn:Nat->Heap->Prop}{Mid:Nat->Addr->Heap->Prop}{J:It}{tn:Nat->Heap->Prop}
theorem item_T (I:Inv X pins σ H s)(hf:∀ b ∈ fp,FpOk X pins H b)(ho:∀ b ∈ fp,∃ o,s.heap.get? b=some o)(hwr:∀ b ∈ wr,b ∈ fp)(W:WalksT X.prog X.w X.A e FP wr n Pt Sn Mid)(hi:i < n)(st:Sn i s.heap)
  (y:∀ T vals,H T=none->Pt i vals->∃ vs,Vals vs vals.toList/\vs.length<=sizeLine/\J.yld i H (.ref T) (upd H T (.tup vs))) (nx:∀ h'',Sn (i + 1) h''->tn (i + 1) h'') :
  wpAny (model X.prog X.w) X.A (pyNext (.ref e)) (fun r s1=>∃ u,r=some u /\
   wpAny (model X.prog X.w) X.A (letOwnedTupleGo (.Tuple elts k pos) (.ref e) u) (fun _ s2=>∃ x H',Inv X pins σ H' s2/\RelV x u/\J.yld i H x H'/\tn (i + 1) s2.heap/\∀ b ∈ fp,H' b=none) E s1) E s:=by
 refine W.item i s _ E hi st fun T vals h' tk hP hT0 hT hm kk=>⟨.ref T,rfl,?_⟩
 have hn:H T=none:=I.hok.fresh hT0
 obtain ⟨vs,hv,hl,hy⟩:=y T vals hn hP
 refine W.go elts k pos i T { s with heap:=h',toks:=tk } _ E hm fun h'' st'' kk2=>?_
 have k2:∀ b o,b ∉ wr->s.heap.get? b=some o->h''.get? b=some o:=fun b o hb e=>kk2 b o hb (kk b o hb e)
 have hTup:IsTup h'' T vals:=by
  obtain ⟨o,e1,c,m,d⟩:=hT
  exact ⟨o,kk2 T o (W.apart i T _ hm) e1,c,m,d⟩
 have hch:∀ b ∈ wr,H b=none:=fun b hb=>(hf b (hwr b hb)).1
 refine ⟨.ref T,upd H T (.tup vs),?_,rfl,hy,nx _ st'',fun b hb=>?_⟩
 ·exact I.call' (s':={ s with heap:=h'',toks:=tk }) (ch:=wr) rfl (Un.laidX k2 hT0 hn) (HOk.laidX I.hok k2 hch hT0 ⟨hl,vals.toList,hv,by simpa using hTup⟩) I.bare fun b hb=>let f:=hf b (hwr b hb); ⟨f.2.2.2.1,f.2.1,f.2.2.2.2.1,f.2.2.2.2.2⟩
 ·obtain ⟨o,e1⟩:=ho b hb
  rw [upd_ne (Nat.ne_of_lt (Nat.lt_of_lt_of_le (Heap.lt_size e1) hT0))]
  exact (hf b hb).1
theorem done_T (I:Inv X pins σ H s)(hf:∀ b ∈ fp,FpOk X pins H b)(hwr:∀ b ∈ wr,b ∈ fp)(W:WalksT X.prog X.w X.A e FP wr n Pt Sn Mid)(st:Sn n s.heap) :
  wpAny (model X.prog X.w) X.A (pyNext (.ref e)) (fun r s1=>r=none/\Inv X pins σ H s1) E s :=
 W.done s _ E st fun h' tk kk=>⟨rfl,I.call' (s':={ s with heap:=h',toks:=tk }) (ch:=wr) rfl (Un.keptX kk) (HOk.keptX I.hok kk fun b hb=>(hf b (hwr b hb)).1) I.bare fun b hb=>let f:=hf b (hwr b hb); ⟨f.2.2.2.1,f.2.1,f.2.2.2.2.1,f.2.2.2.2.2⟩⟩
end
theorem not_cell {h:Heap}{b:Addr}{o:Obj}{vs:Array Value}(e:h.get? b=some o)(d:o.data=.fields vs):∃ o,h.get? b=some o/\∀ v,o.data ≠ .cell v:=⟨o,e,fun v z=>by rw [d] at z; cases z⟩
noncomputable def Ite (K:PySem.W.Frag)(l:Addr):It:=⟨fun i H=>∃ xs,SqL K H l xs/\i < xs.length,fun i H x H'=>∃ T,x=.ref T/\H T=none/\∀ xs,SqL K H l xs->∃ v,xs[i]?=some v/\H'=upd H T (.tup [.int i,v]),fun i H=>∃ xs,SqL K H l xs/\i=xs.length⟩
theorem turn_enum {P:Program}{w:World}{K:PySem.W.Frag}{elts:List Expr}{k:Nat}{pos:Pos}(e it l:Addr)(hei:e ≠ it)(hle:l ≠ e)(hli:l ≠ it) :
  Turn P w K (.Tuple elts k pos) (Ite K l) [e,it] e (fun i h=>(∃ old,IsEnum h e it i old)/\h.IsListIter it l i) where
 mem:=by simp
 obj:=fun i h st b hb=>by
  obtain ⟨⟨old,he⟩,o,e2,c,d⟩:=st
  rcases List.mem_cons.mp hb with rfl | hb
  ·exact not_cell he rfl
  ·have z:b=it:=by simpa using hb
   subst z
   exact not_cell e2 d
 keep:=fun i h h' st kk=>by
  obtain ⟨⟨old,he⟩,o,e2,r⟩:=st
  exact ⟨⟨old,kk e (by simp) _ he⟩,o,kk it (by simp) o e2,r⟩
 item:=by
  intro X hP hw hK hc i pins s σ H E I hf st hg
  subst hP hw hK
  obtain ⟨xs,hq,hlt⟩:=hg
  obtain ⟨its,rv,p,hz⟩:=I.list hq
  have hl:=rv.length
  obtain ⟨⟨old,he⟩,o2,e2,c2,d2⟩:=id st
  refine item_T (wr:=[e,it]) (J:=Ite X.K l) (tn:=fun i h=>(∃ old,IsEnum h e it i old)/\h.IsListIter it l i) I hf (fun b hb=>?_) (fun b hb=>hb) (WalksT.enumerate (I.ok.hd hc) e it l hei hle hli its.toArray) (by simp; omega) ⟨st.1,st.2,p.isList⟩ (fun T vals hn hp=>?_) fun h'' q=>⟨q.1,q.2.1⟩
  ·rcases List.mem_cons.mp hb with rfl | hb
   ·exact ⟨_,he⟩
   ·have z:b=it:=by simpa using hb
    subst z
    exact ⟨_,e2⟩
  ·obtain ⟨t,x,hx,rfl⟩:=hp
   have hx':its[i]?=some x:=by simpa using hx
   obtain ⟨u,hu,ru⟩:=rv.get (i:=i) (x:=xs[i]) (by rw [List.getElem?_eq_getElem hlt])
   rw [hu] at hx'
   cases hx'
   exact ⟨[.int i,xs[i]],.cons ⟨t,rfl⟩ (.cons ru .nil),(by show 2<=sizeLine; decide),T,rfl,hn,fun ys hy=>⟨xs[i],by rw [I.list_inj hy hq,List.getElem?_eq_getElem hlt],rfl⟩⟩
 done:=by
  intro X hP hw hK hc i pins s σ H E I hf st hg
  subst hP hw hK
  obtain ⟨xs,hq,rfl⟩:=hg
  obtain ⟨its,rv,p,hz⟩:=I.list hq
  have hl:its.toArray.size=xs.length:=by simp [rv.length]
  refine done_T (fp:=[e,it]) (wr:=[e,it]) I hf (fun b hb=>hb) (WalksT.enumerate (I.ok.hd hc) e it l hei hle hli its.toArray) ?_
  rw [hl]
  exact ⟨st.1,st.2,p.isList⟩
 self:=fun A i s Q E st h=>by
  obtain ⟨⟨old,he⟩,_⟩:=st
  exact wpAny_pyIter_enum he h
noncomputable def Ites (x:Str):It:=⟨fun i _=>i < x.cps.size,fun i H v H'=>∃ T c,v=.ref T/\H T=none/\x.cps[i]?=some c/\H'=upd H T (.tup [.int i,.str ⟨#[c]⟩]),fun i _=>i=x.cps.size⟩
theorem turn_enumS {P:Program}{w:World}{K:PySem.W.Frag}{elts:List Expr}{k:Nat}{pos:Pos}(e it:Addr)(x:Str)(t:Tok)(n:String)(hei:e ≠ it)
  (D:∀ A:Around,A.handled=none->Draws P w A it [it] x.cps.size (fun i v=>∃ c u,x.cps[i]?=some c/\v=.str ⟨#[c]⟩ u) (fun i h=>h.IsStrIter it n x t i)) :
  Turn P w K (.Tuple elts k pos) (Ites x) [e,it] e (fun i h=>(∃ old,IsEnum h e it i old)/\h.IsStrIter it n x t i) where
 mem:=by simp
 obj:=fun i h st b hb=>by
  obtain ⟨⟨old,he⟩,o,e2,c,d⟩:=st
  rcases List.mem_cons.mp hb with rfl | hb
  ·exact not_cell he rfl
  ·have z:b=it:=by simpa using hb
   subst z
   exact not_cell e2 d
 keep:=fun i h h' st kk=>by
  obtain ⟨⟨old,he⟩,o,e2,r⟩:=st
  exact ⟨⟨old,kk e (by simp) _ he⟩,o,kk it (by simp) o e2,r⟩
 item:=by
  intro X hP hw hK hc i pins s σ H E I hf st hg
  subst hP hw hK
  obtain ⟨⟨old,he⟩,o2,e2,c2,d2⟩:=id st
  refine item_T (wr:=[e,it]) (J:=Ites x) (tn:=fun i h=>(∃ old,IsEnum h e it i old)/\h.IsStrIter it n x t i) I hf (fun b hb=>?_) (fun b hb=>hb) (WalksT.enumerateD (D X.A.in1 (I.ok.hd hc)) e hei (by simpa using hei) (by simp)) hg st (fun T vals hn hp=>?_) fun h'' q=>q
  ·rcases List.mem_cons.mp hb with rfl | hb
   ·exact ⟨_,he⟩
   ·have z:b=it:=by simpa using hb
    subst z
    exact ⟨_,e2⟩
  ·obtain ⟨t',v,⟨c,u,hx,rfl⟩,rfl⟩:=hp
   exact ⟨[.int i,.str ⟨#[c]⟩],.cons ⟨t',rfl⟩ (.cons ⟨u,rfl⟩ .nil),(by show 2<=sizeLine; decide),T,c,rfl,hn,hx,rfl⟩
 done:=by
  intro X hP hw hK hc i pins s σ H E I hf st hg
  subst hP hw hK
  have z:i=x.cps.size:=hg
  subst z
  exact done_T (fp:=[e,it]) (wr:=[e,it]) I hf (fun b hb=>hb) (WalksT.enumerateD (D X.A.in1 (I.ok.hd hc)) e hei (by simpa using hei) (by simp)) st
 self:=fun A i s Q E st h=>by
  obtain ⟨⟨old,he⟩,_⟩:=st
  exact wpAny_pyIter_enum he h
section
variable {X:Cx}{elts:List Expr}{k:Nat}{tpos:Pos}
noncomputable def iEnumL (K:PySem.W.Frag)(ta:TA):TI:=fun σ H R=>ta σ H fun vs H1=>∃ l,vs=[.ref l]/\(∃ xs,SqL K H1 l xs)/\R (Ite K l) H1
theorem pi_enumL {a:Expr}{ta:TA}{p pos:Pos}(hg:Gl X "enumerate")(hm:X.mg "enumerate"=none)(ha:PA X [a] ta)(hs:starEach [a] X.env=[(false,eval a X.env)]:=by rfl):PI X (.Tuple elts k tpos) (.Call (.Name "enumerate" p) [a] [] pos) (iEnumL X.K ta):=by
 intro pins s σ H R I h
 refine Call_ (ld_blt I hg hm boot_enumerate (PyProof.Rows.callWith_type1 (thn (ha pos pins s σ H _ I h) fun us s1 ⟨vs,H1,I1,r1,q1⟩=>?_) hs rfl))
 obtain ⟨l,rfl,⟨xs,hq⟩,q⟩:=q1
 obtain ⟨u,rfl,ru⟩:=vals1 r1
 cases ru
 obtain ⟨its,rv,pl,hz⟩:=I1.list hq
 obtain ⟨ol,hol,_⟩:=pl.isList
 have hlt:=Heap.lt_size hol
 refine call_enumerate_list pl.isList fun h' he hit hsz kk=>?_
 have I2:Inv X pins σ H1 { s1 with heap:=h' }:=I1.kept (t':=s1.toks) kk
 refine wpAny_pyIter_enum he ?_
 refine ⟨s1.heap.objs.size + 1,[s1.heap.objs.size + 1,s1.heap.objs.size],_,_,H1,rfl,I2,turn_enum (s1.heap.objs.size + 1) s1.heap.objs.size l (Nat.succ_ne_self _) (Nat.ne_of_lt (Nat.lt_succ_of_lt hlt)) (Nat.ne_of_lt hlt),⟨⟨_,he⟩,hit⟩,fun b hb=>?_,q⟩
 have hb':s1.heap.objs.size<=b:=by
  rcases List.mem_cons.mp hb with e | hb
  ·rw [e]; exact Nat.le_succ _
  ·have e:b=s1.heap.objs.size:=by simpa using hb
   rw [e]; exact Nat.le_refl _
 exact I1.fpOk hb' (I1.hok.fresh hb')
noncomputable def iEnumS (ta:TA):TI:=fun σ H R=>ta σ H fun vs H1=>∃ z,vs=[.str z]/\R (Ites z) H1
theorem pi_enumS {a:Expr}{ta:TA}{p pos:Pos}(hg:Gl X "enumerate")(hm:X.mg "enumerate"=none)(ha:PA X [a] ta)(hs:starEach [a] X.env=[(false,eval a X.env)]:=by rfl):PI X (.Tuple elts k tpos) (.Call (.Name "enumerate" p) [a] [] pos) (iEnumS ta):=by
 intro pins s σ H R I h
 refine Call_ (ld_blt I hg hm boot_enumerate (PyProof.Rows.callWith_type1 (thn (ha pos pins s σ H _ I h) fun us s1 ⟨vs,H1,I1,r1,q1⟩=>?_) hs rfl))
 obtain ⟨z,rfl,q⟩:=q1
 obtain ⟨u,rfl,t,rfl⟩:=vals1 r1
 refine call_enumerate_str fun h' he hit hsz kk=>?_
 have I2:Inv X pins σ H1 { s1 with heap:=h' }:=I1.kept (t':=s1.toks) kk
 refine wpAny_pyIter_enum he ?_
 have fpk:∀ b ∈ [s1.heap.objs.size + 1,s1.heap.objs.size],FpOk X pins H1 b:=fun b hb=>by
  have hb':s1.heap.objs.size<=b:=by
   rcases List.mem_cons.mp hb with e | hb
   ·rw [e]; exact Nat.le_succ _
   ·have e:b=s1.heap.objs.size:=by simpa using hb
    rw [e]; exact Nat.le_refl _
  exact I1.fpOk hb' (I1.hok.fresh hb')
 unfold strIterType at hit
 by_cases ha:z.cps.all (· < 128)=true
 ·rw [if_pos ha] at hit
  exact ⟨s1.heap.objs.size + 1,[s1.heap.objs.size + 1,s1.heap.objs.size],_,_,H1,rfl,I2,turn_enumS (s1.heap.objs.size + 1) s1.heap.objs.size z t "str_ascii_iterator" (Nat.succ_ne_self _) (fun A hA=>Draws.strAscii hA _ z t),⟨⟨_,he⟩,hit⟩,fpk,q⟩
 ·rw [if_neg ha] at hit
  exact ⟨s1.heap.objs.size + 1,[s1.heap.objs.size + 1,s1.heap.objs.size],_,_,H1,rfl,I2,turn_enumS (s1.heap.objs.size + 1) s1.heap.objs.size z t "str_iterator" (Nat.succ_ne_self _) (fun A hA=>Draws.strWide hA _ z t),⟨⟨_,he⟩,hit⟩,fpk,q⟩
theorem call_int_str:CallR X (.type "int") (fun xs H Q=>∃ x n,xs=[.str x]/\PySem.intText? x=some n/\x.length<=640/\Q (.int n) H):=by
 intro pins s σ H xs us Q I r h
 obtain ⟨x,n,rfl,hn,hl,q⟩:=h
 obtain ⟨u,rfl,t,rfl⟩:=vals1 r
 exact PySem.W.KIN.call_text hn hl ⟨.int n,H,I.tok _,⟨_,rfl⟩,q⟩
theorem call_str_str:CallR X (.type "str") (fun xs H Q=>∃ x,xs=[.str x]/\Q (.str x) H):=by
 intro pins s σ H xs us Q I r h
 obtain ⟨x,rfl,q⟩:=h
 obtain ⟨u,rfl,t,rfl⟩:=vals1 r
 exact PySem.P.str_of_str ⟨.str x,H,I,⟨_,rfl⟩,q⟩
end
theorem for_enumL {K:PySem.W.Frag}{l:Addr}{xs:List V}{g:TG}{tb:TS}{D:Ends}{σ:St}{H:Hp}(Pv:Nat->St->Hp->Prop)(h0:Pv 0 σ H)(hl:∀ i σ H,i<=xs.length->Pv i σ H->SqL K H l xs)
  (hs:∀ i x T σ H,xs[i]?=some x->H T=none->Pv i σ H->g (.ref T) σ (upd H T (.tup [.int i,x])) fun σ2 H2=>tb { D with nx:=Pv (i + 1),ct:=Pv (i + 1),bk:=D.nx } σ2 H2) (hd:∀ σ H,Pv xs.length σ H->D.nx σ H) :
  ∃ W:Nat->Nat->St->Hp->Prop,(∃ m,W 0 m σ H)/\∀ i m σ H,W i m σ H ->
   ((Ite K l).stop i H/\D.nx σ H)\/((Ite K l).go i H/\∃ N:St->Hp->Prop,(∀ σ' H',N σ' H'->∃ m',m' < m/\W (i + 1) m' σ' H')/\∀ x H',(Ite K l).yld i H x H'->g x σ H' fun σ2 H2=>tb { D with nx:=N,ct:=N,bk:=D.nx } σ2 H2):=by
 refine ⟨fun i m σ H=>m=xs.length - i/\i<=xs.length/\Pv i σ H,⟨xs.length,by simp,Nat.zero_le _,h0⟩,?_⟩
 rintro i m σ H ⟨rfl,hi,p⟩
 have q:=hl i σ H hi p
 by_cases hlt:i < xs.length
 ·refine .inr ⟨⟨xs,q,hlt⟩,Pv (i + 1),fun σ' H' p'=>⟨xs.length - (i + 1),by omega,rfl,hlt,p'⟩,fun x H' y=>?_⟩
  obtain ⟨T,rfl,hT,y⟩:=y
  obtain ⟨v,hv,rfl⟩:=y xs q
  exact hs i v T σ H hv hT p
 ·have e:i=xs.length:=by omega
  subst e
  exact .inl ⟨⟨xs,q,rfl⟩,hd σ H p⟩
theorem comp_enumS {g:TG}{tc:TT}{te:TE}{Q:VK}{σ:St}{H:Hp}{D:Addr}{x:Str}(Pv:Nat->St->Hp->Prop)(h0:Pv 0 σ H)
  (hs:∀ i c T σ H,x.cps[i]?=some c->H T=none->Pv i σ H->g (.ref T) σ (upd H T (.tup [.int i,.str ⟨#[c]⟩])) fun σ2 H3=>tc σ2 H3 fun b H4=>if b=true then te σ2 H4 fun y H5=>∃ ys,H5 D=some (.lst ys)/\ys.length < sizeLine/\Pv (i + 1) σ2 (upd H5 D (.lst (ys++[y]))) else Pv (i + 1) σ2 H4)
  (hd:∀ σ H,Pv x.cps.size σ H->Q (.ref D) H):CompGoes (Ites x) g tc te Q D σ H:=by
 refine ⟨fun i m σ H=>m=x.cps.size - i/\i<=x.cps.size/\Pv i σ H,⟨x.cps.size,by simp,Nat.zero_le _,h0⟩,?_⟩
 rintro i m σ H ⟨rfl,hi,p⟩
 by_cases hlt:i < x.cps.size
 ·refine .inr ⟨hlt,Pv (i + 1),fun σ' H' p'=>⟨x.cps.size - (i + 1),by omega,rfl,hlt,p'⟩,fun v H' y=>?_⟩
  obtain ⟨T,c,rfl,hT,hc,rfl⟩:=y
  exact hs i c T σ H hc hT p
 ·have e:i=x.cps.size:=by omega
  subst e
  exact .inl ⟨rfl,hd σ H p⟩
end L2
namespace L2
open PySem PySem.Spec PyProof.Rows
noncomputable def clOf (look:Str->Option Addr):List (Str × NameKind)->List (Str × Addr)->List (Str × Addr)
 | [],acc=>acc
 | (n,k) :: r,acc=>if k == .free then (match look n with
  | some c=>clOf look r ((n,c) :: acc)
  | none=>clOf look r acc) else clOf look r acc
theorem clOf_mem {look:Str->Option Addr}:∀ (names:List (Str × NameKind)) (acc:List (Str × Addr)) (p:Str × Addr),p ∈ clOf look names acc->p ∈ acc\/look p.1=some p.2
 | [],acc,p,h=>.inl h
 | (n,k) :: r,acc,p,h=>by
  unfold clOf at h
  split at h
  ·cases e:look n with
   | none =>
    rw [e] at h
    exact clOf_mem r acc p h
   | some c =>
    rw [e] at h
    rcases clOf_mem r _ p h with h | h
    ·rcases List.mem_cons.mp h with h | h
     ·subst h
      exact .inr e
     ·exact .inl h
    ·exact .inr h
  ·exact clOf_mem r acc p h
theorem lookup_cons_some {x n:Str}{c:Addr}{acc:List (Str × Addr)}(h:(acc.lookup x).isSome=true\/x=n):(List.lookup x ((n,c) :: acc)).isSome=true:=by
 rw [List.lookup_cons]
 cases e:x == n with
 | true=>rfl
 | false =>
  rcases h with h | h
  ·exact h
  ·subst h
   simp at e
theorem clOf_has {look:Str->Option Addr}{x:Str}(names:List (Str × NameKind))(acc:List (Str × Addr))(h:(acc.lookup x).isSome=true\/((x,NameKind.free) ∈ names/\(look x).isSome=true)):((clOf look names acc).lookup x).isSome=true:=by
 induction names generalizing acc with
 | nil =>
  rcases h with h | h
  ·exact h
  ·cases h.1
 | cons y r ih =>
  obtain ⟨n,k⟩:=y
  unfold clOf
  split
  ·rename_i hk
   cases e:look n with
   | none =>
    refine ih acc ?_
    rcases h with h | ⟨h,h2⟩
    ·exact .inl h
    ·rcases List.mem_cons.mp h with h | h
     ·cases h
      rw [e] at h2
      cases h2
     ·exact .inr ⟨h,h2⟩
   | some c =>
    refine ih _ ?_
    rcases h with h | ⟨h,h2⟩
    ·exact .inl (lookup_cons_some (.inl h))
    ·rcases List.mem_cons.mp h with h | h
     ·cases h
      exact .inl (lookup_cons_some (.inr rfl))
     ·exact .inr ⟨h,h2⟩
  ·rename_i hk
   refine ih acc ?_
   rcases h with h | ⟨h,h2⟩
   ·exact .inl h
   ·rcases List.mem_cons.mp h with h | h
    ·cases h
     exact absurd rfl hk
    ·exact .inr ⟨h,h2⟩
theorem closureFor_free {scope:Scope}{env:Env}(h:∀ y ∈ scope.names,y.2=.free->(env.cells.lookup y.1).isSome=true):closureFor scope env=pure (clOf (fun x=>env.cells.lookup x) scope.names []):=by
 have go:∀ (names:List (Str × NameKind)) (acc:List (Str × Addr)),(∀ y ∈ names,y.2=.free->(env.cells.lookup y.1).isSome=true) ->
   (forIn names acc fun x cs=>(match x with
    | (name,kind)=>if (kind == .free)=true then do let a <- cellOf env name; pure (ForInStep.yield ((name,a) :: cs)) else pure (ForInStep.yield cs):Sem (ForInStep (List (Str × Addr)))))=(pure (clOf (fun x=>env.cells.lookup x) names acc):Sem _):=by
  intro names
  induction names with
  | nil=>intro acc _; rfl
  | cons y r ih =>
   intro acc hy
   obtain ⟨n,k⟩:=y
   have hr:∀ y ∈ r,y.2=.free->(env.cells.lookup y.1).isSome=true:=fun y hm=>hy y (List.mem_cons_of_mem _ hm)
   rw [List.forIn_cons]
   unfold clOf
   by_cases hk:(k == NameKind.free)=true
   ·have hk':k=.free:=by simpa using hk
    have hs:=hy (n,k) List.mem_cons_self hk'
    obtain ⟨c,hc⟩:=Option.isSome_iff_exists.mp hs
    have hc':List.lookup n env.cells=some c:=hc
    have e1:cellOf env n=pure c:=by
     unfold cellOf
     rw [hc']
    simp only [hk,if_true,e1,hc',pure_bind]
    exact ih _ hr
   ·simp only [hk,Bool.false_eq_true,if_false,pure_bind]
    exact ih _ hr
 simp only [closureFor]
 exact Eq.trans (congrArg (fun m:Sem (List (Str × Addr))=>m >>= fun cs=>pure cs) (go scope.names [] h)) rfl
theorem relabel_mem {scope:Scope}{env:Env}{x:Str}{k:NameKind}(h:(x,k) ∈ (relabel scope env).names)(hk:k=.cell\/k=.free):(x,NameKind.cell) ∈ scope.names\/(x,NameKind.free) ∈ scope.names:=by
 obtain ⟨y,hy,e⟩:=List.mem_map.mp h
 obtain ⟨n,k0⟩:=y
 by_cases c:(k0 == NameKind.free && env.scope.kind == .function && env.kindOf n == some .cell)=true
 ·have e':(if (k0 == NameKind.free && env.scope.kind == .function && env.kindOf n == some .cell)=true then (n,NameKind.cell) else (n,k0))=(x,k):=e
  rw [if_pos c] at e'
  cases e'
  have c1:k0=.free:=by
   have:=(Bool.and_eq_true_iff.mp (Bool.and_eq_true_iff.mp c).1).1
   simpa using this
  subst c1
  exact .inr hy
 ·have e':(if (k0 == NameKind.free && env.scope.kind == .function && env.kindOf n == some .cell)=true then (n,NameKind.cell) else (n,k0))=(x,k):=e
  rw [if_neg c] at e'
  cases e'
  rcases hk with rfl | rfl
  ·exact .inl hy
  ·exact .inr hy
theorem relabel_free {scope:Scope}{env:Env}{x:Str}(hk:env.scope.kind=.function)(ho:env.kindOf x=some .cell)(h:scope.names.lookup x=some .free):(relabel scope env).names.lookup x=some .cell:=by
 have go:∀ names:List (Str × NameKind),names.lookup x=some .free->(names.map fun (n,k)=>if (k == NameKind.free && env.scope.kind == .function && env.kindOf n == some .cell)=true then (n,NameKind.cell) else (n,k)).lookup x=some .cell:=by
  intro names
  induction names with
  | nil=>intro h; cases h
  | cons y r ih =>
   obtain ⟨n,k⟩:=y
   intro h
   show List.lookup x ((if (k == NameKind.free && env.scope.kind == .function && env.kindOf n == some .cell)=true then (n,NameKind.cell) else (n,k)) :: _)=_
   rw [List.lookup_cons] at h
   cases e:x == n with
   | true =>
    rw [e] at h
    have hk':k=.free:=Option.some.inj h
    have hn:x=n:=by simpa using e
    subst hk' hn
    rw [if_pos (by rw [hk,ho]; rfl),List.lookup_cons,beq_self_eq_true]
   | false =>
    rw [e] at h
    by_cases c:(k == NameKind.free && env.scope.kind == .function && env.kindOf n == some .cell)=true
    ·rw [if_pos c,List.lookup_cons,e]
     exact ih h
    ·rw [if_neg c,List.lookup_cons,e]
     exact ih h
 exact go scope.names h
theorem CompOk.free {X:Cx}{N:List Str}{src:List (Option Nat)}{scope:Scope}{O:List (Str × NameKind)}{XN:List Str}(hO:X.env.scope.names=O)(hK:X.env.scope.kind=.function)(hC:∃ n,X.env.cells=cellsFrom n O [])(hX:X.N=XN)
  (kind:scope.kind=.function) (nocell:∀ y ∈ scope.names,y.2 ≠ .cell) (names:∀ y ∈ scope.names,y.2=.local->scope.names.lookup y.1=some .local) (fr:∀ y ∈ scope.names,y.2=.free->O.lookup y.1=some .cell) (len:src.length=N.length)
  (pc:∀ q ∈ N.zip src,q.2=none\/(∃ j ∈ List.range XN.length,q.2=some j/\XN[j]?=some q.1/\O.lookup q.1=some .cell/\scope.names.lookup q.1=some .free)):CompOk X N src scope (clOf (fun x=>X.env.cells.lookup x) scope.names []):=by
 have hs:∀ y ∈ scope.names,y.2=.free->(X.env.cells.lookup y.1).isSome=true:=fun y hy e=>by
  obtain ⟨n,hn⟩:=hC
  rw [hn]
  exact PySem.W.cellsFrom_some O n [] (.inl (fr y hy e))
 refine ⟨kind,nocell,names,closureFor_free hs,fun x c h=>?_,fun x h=>?_,len,fun i j x h1 h2=>?_⟩
 ·rcases clOf_mem _ _ _ (PySem.mem_of_lookup h) with z | z
  ·cases z
  ·exact z
 ·refine Option.isSome_iff_exists.mp (clOf_has _ _ (.inr ?_))
  have hm:(x,NameKind.cell) ∈ scope.names\/(x,NameKind.free) ∈ scope.names:=by
   rcases h with h | h
   ·exact relabel_mem (PySem.mem_of_lookup h) (.inl rfl)
   ·exact relabel_mem (PySem.mem_of_lookup h) (.inr rfl)
  rcases hm with hm | hm
  ·exact absurd rfl (nocell _ hm)
  ·exact ⟨hm,hs _ hm rfl⟩
 ·have hm:(x,some j) ∈ N.zip src:=by
   refine List.mem_of_getElem? (i:=i) ?_
   rw [List.getElem?_zip_eq_some]
   exact ⟨h1,h2⟩
  rcases pc _ hm with z | ⟨j',_,e,e1,e2,e3⟩
  ·cases z
  ·cases e
   have ko:X.env.kindOf x=some .cell:=by
    show X.env.scope.names.lookup x=some .cell
    rw [hO]
    exact e2
   exact ⟨by rw [hX]; exact e1,.inl ko,.inl (relabel_free hK ko e3)⟩
end L2
namespace L2
open PySem PySem.Spec PyProof.Rows PySem.W
section
variable {α β:Type}{R:α->β->Prop}{us us':List α}{cs cs':List β}{i:Nat}{v:α}{c:β}
theorem pr_app (h:Paired R us cs)(k:Paired R us' cs'):Paired R (us++us') (cs++cs'):=by
 induction h with
 | nil=>exact k
 | cons q _ ih=>exact .cons q ih
end
noncomputable def Tup2 (H:Hp):List V->List (Int × Int)->Prop:=Paired fun v p=>∃ a,v=V.ref a/\H a=some (.tup [.int p.1,.int p.2])
noncomputable def lt2 (p q:Int × Int):Bool:=if p.1=q.1 then decide (p.2 < q.2) else decide (p.1 < q.1)
structure IntPair (h:Heap)(v:Value)(p:Int × Int):Prop where
 ex:∃ a o n t u,v=.ref a/\h.get? a=some o/\o.cls=.type "tuple"/\o.data=.seq #[.int p.1 t,.int p.2 u] n
section
variable {X:Cx}{pins:List (Addr × Obj)}{σ:St}{H:Hp}{s:Shared}
theorem Tup2.pairs (I:Inv X pins σ H s){us:List V}{ps:List (Int × Int)}{its:List Value}(hp:Tup2 H us ps)(r:Vals us its):Paired (IntPair s.heap) its ps:=by
 induction hp generalizing its with
 | nil =>
  cases r
  exact .nil
 | cons q _ ih =>
  obtain ⟨a,e,h⟩:=q
  subst e
  cases r with
  | cons r1 r2 =>
   cases r1
   refine .cons ?_ (ih r2)
   obtain ⟨items,rv,tp,_⟩:=I.tuple (SqT.of h)
   obtain ⟨u1,u2,rfl,⟨t1,rfl⟩,⟨t2,rfl⟩⟩:=vals2 rv
   obtain ⟨ob,e1,c1,n,d1⟩:=tp
   exact ⟨a,ob,n,t1,t2,rfl,e1,c1,d1⟩
end
theorem pairs_firsts {h:Heap}:∀ {its:List Value} {ps:List (Int × Int)},Paired (IntPair h) its ps->∃ fs:List Value,KatTups h its fs/\fs.length=its.length/\∀ v ∈ fs,∃ x t,v=Value.int x t
 | _,_,.nil=>⟨[],.nil,rfl,fun _ z=>nomatch z⟩
 | _,_,.cons ⟨a,o,n,t,u,e,e1,c,d⟩ tl=>by
  obtain ⟨fs,k,l,q⟩:=pairs_firsts tl
  subst e
  refine ⟨.int _ t :: fs,KatTups.cons e1 c d rfl k,by simp [l],fun v hv=>?_⟩
  rcases List.mem_cons.mp hv with rfl | hv
  ·exact ⟨_,t,rfl⟩
  ·exact q v hv
section
variable {prog:Program}{w:World}{A:Around}{E:Value->Shared->Prop}{s:Shared}
theorem pair_lt {v v':Value}{p q:Int × Int}{C:Bool->Shared->Prop}(hv:IntPair s.heap v p)(hv':IntPair s.heap v' q)(h:C (lt2 p q) s):wpAny (model prog w) A (keyLt' (tuples' true) v v') C E s:=by
 obtain ⟨a,o,n,t,u,rfl,e1,c1,d1⟩:=hv
 obtain ⟨a',o',n',t',u',rfl,e1',c1',d1'⟩:=hv'
 refine kat_lt e1 d1 e1' d1' ?_
 show KatLex prog w A true _ C [(Value.int p.1 t,Value.int q.1 t'),(Value.int p.2 u,Value.int q.2 u')] 0 s
 unfold lt2 at h
 refine kat_cons (SeqAt.EqAt.int_int _ _ _ _ prog w _ _ (kat_go (fun ee=>kat_yes ?_) fun ee=>kat_no ?_))
 ·have e:p.1=q.1:=by simpa using ee
  rw [if_pos e] at h
  refine kat_cons (SeqAt.EqAt.int_int _ _ _ _ prog w _ _ (kat_go (fun e2=>kat_yes (kat_nil ?_)) fun e2=>kat_no ?_))
  ·have e3:p.2=q.2:=by simpa using e2
   have e4:decide (p.2 < q.2)=false:=decide_eq_false (by omega)
   rw [e4] at h
   exact h
  ·exact kat_one _ _ (lt_int h)
 ·have e:¬ p.1=q.1:=by simpa using ee
  rw [if_neg e] at h
  exact oneLt_int h
end
section
variable {X:Cx}
end
end L2
namespace L2
open PySem PySem.Spec PyProof.Rows
mutual
inductive Rdn (N:Addr->Prop)(H:Hp):V->PyData->Prop
 | non:Rdn N H .non .none
 | bl (b:Bool):Rdn N H (.bl b) (.bool b)
 | int (i:Int):Rdn N H (.int i) (.int i)
 | str (x:Str):Rdn N H (.str x) (.str x)
 | lst {a:Addr} {xs:List V} {ds:List PyData}:N a->H a=some (.lst xs)->RdnAll N H xs ds->Rdn N H (.ref a) (.list ds)
 | tup {a:Addr} {xs:List V} {ds:List PyData}:H a=some (.tup xs)->RdnAll N H xs ds->Rdn N H (.ref a) (.tuple ds)
inductive RdnAll (N:Addr->Prop)(H:Hp):List V->List PyData->Prop
 | nil:RdnAll N H [] []
 | cons {x:V} {d:PyData} {xs:List V} {ds:List PyData}:Rdn N H x d->RdnAll N H xs ds->RdnAll N H (x :: xs) (d :: ds)
end
section
variable {K:PySem.W.Frag}{N N':Addr->Prop}{H H':Hp}
theorem RdnAll.mono (s:Same H H')(i:∀ a,N a->N' a){vs:List V}{ds:List PyData}(h:RdnAll N H vs ds):RdnAll N' H' vs ds :=
 RdnAll.rec (motive_1:=fun v d _=>Rdn N' H' v d) (motive_2:=fun vs ds _=>RdnAll N' H' vs ds) .non .bl .int .str (fun n h _ t=>.lst (i _ n) (s _ _ h) t) (fun h _ t=>.tup (s _ _ h) t) .nil (fun _ _ a t=>.cons a t) h
theorem RdnAll.into {D:Addr}{o:HO}{old:List V}(hD:H D=some (.lst old))(i:∀ a,N a->a ≠ D){vs:List V}{ds:List PyData}(h:RdnAll N H vs ds):RdnAll N (upd H D o) vs ds :=
 RdnAll.rec (motive_1:=fun v d _=>Rdn N (upd H D o) v d) (motive_2:=fun vs ds _=>RdnAll N (upd H D o) vs ds) .non .bl .int .str (fun n h _ t=>.lst n (by rw [upd_ne (i _ n)]; exact h) t) (fun h _ t=>.tup (by rw [upd_ne (ne_of h hD (by intro z; cases z))]; exact h) t) .nil (fun _ _ a t=>.cons a t) h
theorem RdnAll.keep (s:Same H H'){vs:List V}{ds:List PyData}(h:RdnAll N H vs ds):RdnAll N H' vs ds:=h.mono s fun _ n=>n
theorem RdnAll.append {vs ws:List V}{ds es:List PyData}(h:RdnAll N H vs ds)(k:RdnAll N H ws es):RdnAll N H (vs++ws) (ds++es) :=
 RdnAll.rec (motive_1:=fun _ _ _=>True) (motive_2:=fun vs ds _=>RdnAll N H (vs++ws) (ds++es))
  trivial (fun _=>trivial) (fun _=>trivial) (fun _=>trivial) (fun _ _ _ _=>trivial) (fun _ _ _=>trivial) k (fun a _ _ t=>.cons a t) h
theorem RdnAll.snoc {vs:List V}{ds:List PyData}{v:V}{d:PyData}(h:RdnAll N H vs ds)(k:Rdn N H v d):RdnAll N H (vs++[v]) (ds++[d]):=h.append (.cons k .nil)
end
section
variable {K:PySem.W.Frag}{g:TG}{tc:TT}{te:TE}{Q:VK}{σ0:St}{H1:Hp}{D:Addr}
noncomputable def TurnYes (N:Addr->Prop)(inv:St->Prop)(H:Hp)(o:Option PyData)(Y:St->V->Hp->Prop):Prop:=∀ d y σ2 H5,o=some d->inv σ2->Same H H5->Rdn N H5 y d->Y σ2 y H5
noncomputable def TurnNo (inv:St->Prop)(H:Hp)(o:Option PyData)(Z:St->Hp->Prop):Prop:=∀ σ2 H4,o=none->inv σ2->Same H H4->Z σ2 H4
theorem comp_data {a:Addr}{xs:List V}(N:Addr->Prop)(outs:List (Option PyData))(inv:St->Prop)(hD:H1 D=none)(hN:∀ a,N a->a ≠ D)(h0:inv σ0)(hlen:outs.length=xs.length)(hz:xs.length<=100000)
  (hl:SqL K H1 a xs)
  (hs:∀ (i:Nat) (x:V) (o:Option PyData) (σ:St) (H:Hp),xs[i]?=some x->outs[i]?=some o->Same H1 H->H D ≠ none->inv σ->∀ Y Z,TurnYes N inv H o Y->TurnNo inv H o Z ->
   g x σ H fun σ2 H3=>tc σ2 H3 fun b H4=>if b=true then te σ2 H4 fun y H5=>Y σ2 y H5 else Z σ2 H4)
  (hd:∀ ys H',Same H1 H'->H' D=some (.lst ys)->RdnAll N H' ys (outs.filterMap id)->Q (.ref D) H'):CompGoes (Itl K a) g tc te Q D σ0 (upd H1 D (.lst [])):=by
 refine comp_list (K:=K) (a:=a) (xs:=xs) (fun i σ H'=>inv σ/\Same H1 H'/\∃ ys,H' D=some (.lst ys)/\ys.length<=i/\RdnAll N H' ys ((outs.take i).filterMap id)) ⟨h0,same_new hD,[],upd_same,Nat.le_refl _,.nil⟩ (fun i σ H' _ ⟨_,s,_⟩=>s.seq hl) ?_ ?_
 ·rintro i x σ H hx ⟨hi,s,ys,hy,yl,hr⟩
  have hil:i < xs.length:=(List.getElem?_eq_some_iff.mp hx).1
  obtain ⟨o,ho⟩:∃ o,outs[i]?=some o:=⟨outs[i]'(by omega),List.getElem?_eq_getElem (by omega)⟩
  have step:(outs.take (i + 1)).filterMap id=(outs.take i).filterMap id++o.toList:=by
   rw [List.take_add_one,ho,List.filterMap_append]
   cases o <;> rfl
  refine hs i x o σ H hx ho s (by rw [hy]; exact fun z=>nomatch z) hi _ _ (fun d y σ2 H5 e hi2 s5 hr5=>?_) (fun σ2 H4 e hi2 s4=>?_)
  ·subst e
   refine ⟨ys,s5 _ _ hy,Nat.lt_of_le_of_lt yl (Nat.lt_of_lt_of_le hil (Nat.le_trans hz (by decide))),hi2,fun b ob e=>?_,ys++[y],upd_same,?_,?_⟩
   ·rw [upd_ne (ne_of_none e hD)]
    exact s5 _ _ (s _ _ e)
   ·rw [List.length_append]
    exact Nat.add_le_add_right yl 1
   ·rw [step]
    exact RdnAll.into (s5 _ _ hy) hN (RdnAll.snoc (hr.keep s5) hr5)
  ·subst e
   refine ⟨hi2,s.trans s4,ys,s4 _ _ hy,Nat.le_succ_of_le yl,?_⟩
   rw [step]
   simpa using hr.keep s4
 ·rintro σ H ⟨_,s,ys,hy,_,hr⟩
  rw [<- hlen,List.take_length] at hr
  exact hd ys H s hy hr
theorem tYes_it {i:Nat}{v:V}{σ:St}{H:Hp}{A B:St->Hp->Prop}(h:A (σ.set i (some v)) H):gName i v σ H fun σ2 H3=>tYes σ2 H3 fun b H4=>if b=true then A σ2 H4 else B σ2 H4:=by
 show if true=true then A (σ.set i (some v)) H else B (σ.set i (some v)) H
 exact iteT h
end
end L2
namespace L2
open PySem PySem.Spec PyProof.Rows
theorem fold_rep {α:Type}(a:Array α):∀ (n:Nat) (acc:Array α),(List.replicate n a).foldl (·++·) acc=acc++((List.replicate n a.toList).flatten).toArray
 | 0,acc=>by simp
 | n + 1,acc=>by
  rw [List.replicate_succ,List.foldl_cons,fold_rep a n,List.replicate_succ,List.flatten_cons,Array.append_assoc]
  congr 1
  simp
noncomputable def rRepS:R2:=fun x y H Q=>∃ z k,x=.str z/\y=.int k/\1<=k/\k<=1000/\z.length<=1000/\∀ z':Str,z'.length=z.length * k.toNat->(∀ c ∈ z'.cps.toList,c ∈ z.cps.toList)->Q (.str z') H
section
variable {X:Cx}
theorem op_rep_str:OpR X (binaryOp .Mult) rRepS:=by
 intro pins s σ H x y v u Q I rx ry h
 obtain ⟨z,k,rfl,rfl,k1,k2,hz,q⟩:=h
 obtain ⟨t,rfl⟩:=rx
 obtain ⟨t',rfl⟩:=ry
 have hprod:z.length * k.toNat<=1000000:=by
  have:=Nat.mul_le_mul hz (show k.toNat<=1000 by omega)
  omega
 refine PySem.P.mul_str ?_ (fun _ _=>?_) (fun _ _=>?_) ?_
 ·rw [decide_eq_false (show ¬ k < -(2 ^ 63:Int) by omega),decide_eq_false (show ¬ k >= 2 ^ 63 by omega)]
  rfl
 ·have hp:(z.length:Int) * k<=1000000:=by
   have e:((z.length * k.toNat:Nat):Int)=(z.length:Int) * k:=by
    rw [Int.natCast_mul,Int.toNat_of_nonneg (by omega)]
   omega
  have:=Int.le_ediv_of_mul_le (a:=(z.length:Int)) (b:=2 ^ 63 - 1) (c:=k) (by omega) (by omega)
  omega
 ·exact decide_eq_false (Nat.not_lt.mpr (Nat.le_trans hprod (by decide)))
 ·rw [if_neg (show ¬ k < 1 by omega)]
  by_cases c:(k == 1 || z.length == 0)=true
  ·rw [if_pos c]
   refine ⟨.str z,H,I,⟨_,rfl⟩,q z ?_ fun _ h=>h⟩
   rw [Bool.or_eq_true,beq_iff_eq,beq_iff_eq] at c
   rcases c with c | c
   ·rw [c]
    simp
   ·rw [c]
    simp
  ·rw [if_neg c]
   have e:(⟨(List.replicate k.toNat z.cps).foldl (·++·) #[]⟩:Str)=⟨((List.replicate k.toNat z.cps.toList).flatten).toArray⟩:=by
    rw [fold_rep]
    simp
   have hl:(⟨((List.replicate k.toNat z.cps.toList).flatten).toArray⟩:Str).length=z.length * k.toNat:=by
    show ((List.replicate k.toNat z.cps.toList).flatten).toArray.size=_
    rw [List.size_toArray,len_rep,Array.length_toList,Nat.mul_comm]
    rfl
   rw [e]
   refine ⟨by rw [hl]; exact Nat.le_trans hprod (by decide),⟨.str _,H,I.tok _,⟨_,rfl⟩,q _ hl fun d hd=>?_⟩⟩
   have hd':d ∈ (List.replicate k.toNat z.cps.toList).flatten:=by simpa using hd
   obtain ⟨l,hl1,hl2⟩:=List.mem_flatten.mp hd'
   rw [List.eq_of_mem_replicate hl1] at hl2
   exact hl2
end
end L2
namespace L2
open PySem PySem.Spec PyProof.Rows
section
variable {X:Cx}{tg iter elt:Expr}{ifs:List Expr}{scope:Scope}{pos:Pos}{N:List Str}{src:List (Option Nat)}{cl:List (Str × Addr)}{wi:TI}{g:TG}{tc:TT}{te:TE}
theorem ps_setC {i:Nat}{x:Str}{xpos spos:Pos}(hN:X.N.Nodup)(hix:X.N[i]?=some x)(hlx:X.env.scope.names.lookup x=some .local)(ok:CompOk X N src scope cl)(hcalm:X.calm=true)(hi:PI X tg iter wi)
  (hg:∀ C fp pins s H,PG (compCx X N scope cl C fp pins s H) tg g) (hc:∀ C fp pins s H,PIfs (compCx X N scope cl C fp pins s H) ifs tc) (he:∀ C fp pins s H,PE (compCx X N scope cl C fp pins s H) elt te)
  (hs:∀ x,foldedSetIterable iter X.env x=pure x:=by intro _; rfl) (hsw:swapsWith (.ListComp elt [⟨tg,iter,ifs,0⟩] scope pos) (some (.Name x xpos)) spos.line X.env=pure true:=by rfl) :
  PS X (.Assign [.Name x xpos] (.ListComp elt [⟨tg,iter,ifs,0⟩] scope pos) spos) (tAsg (tComp wi src g tc te) (gName i)):=by
 intro pins s σ H D I h
 rw [exec_Assign_Name_used _ _ _ _ hsw]
 refine wpAny_bind (wpAny_standAt (wpAny_bind ?_))
 unfold evalThenUse
 refine wpAny_bind (wpAny_mono (Q:=fun _ s''=>∃ σ' H',Inv X pins σ' H' s''/\D.nx σ' H') ?_ (fun _ s'' ⟨σ',H',I',q'⟩=>wpAny_pure (wpAny_pure ⟨σ',H',I',q'⟩)) fun _ _ z=>z)
 refine wpAny_comprehension_free (use:=some (assign (.Name x xpos) X.env)) rfl hs ok.clos ok.kind ok.names (thn (hi pins s σ H _ I h) fun xv s1 h1=>thn h1 fun itv s2 h2=>?_)
 obtain ⟨it,fp,tn,J,H2,e,I2,T,st2,f2,q2⟩:=h2
 subst e
 refine wpAny_newObj_type (wpAny_newFunctionEnv ok.nocell (by intro y hy; simp at hy) (fun h₁ hns₁ hsb₁=>?_) ok.kind)
 dsimp only at hns₁ hsb₁ ⊢
 generalize hP:s2.heap.push { cls:=.type "list",dict:=none,data:=.seq ([]:List Value).toArray }=P2 at hns₁ hsb₁ ⊢
 have hC:P2.objs.size=s2.heap.objs.size + 1:=by rw [<- hP,Heap.size_push]
 have k:∀ b u,s2.heap.get? b=some u->h₁.get? b=some u:=fun b u e=>by
  have lt:=Heap.lt_size e
  exact (hsb₁.2 b (by rw [hC]; exact Nat.ne_of_lt (Nat.lt_succ_of_lt lt))).trans (Heap.get?_push_of_some _ (hP ▸ Heap.get?_push_of_some _ e))
 have hD:h₁.get? s2.heap.objs.size=some { cls:=.type "list",data:=.seq #[] }:=(hsb₁.2 _ (by rw [hC]; exact (Nat.succ_ne_self _).symm)).trans (Heap.get?_push_of_some _ (hP ▸ Heap.get?_push_size _ rfl))
 have ho:∀ b ∈ fp,∃ o,s2.heap.get? b=some o:=fun b hb=>let ⟨o,e,_⟩:=T.obj 0 _ st2 b hb; ⟨o,e⟩
 obtain ⟨W,⟨m0,w0⟩,turn⟩:=q2 s2.heap.objs.size (I2.hok.fresh (Nat.le_refl _))
 have I0:=comp_start (tk:=s2.toks + ([]:List (Str × Value)).length) ok I2 f2 ho hC k hD hns₁
 have st0:tn 0 h₁:=T.keep 0 _ _ st2 fun b _ o e=>k b o e
 have fr0:∀ b ∈ fp,upd H2 s2.heap.objs.size (.lst []) b=none:=fun b hb=>by
  obtain ⟨o,e⟩:=ho b hb
  rw [upd_ne (Nat.ne_of_lt (Heap.lt_size e))]
  exact (f2 b hb).1
 have stat:∀ {H':Hp},(∀ b ∈ fp,H' b=none)->∀ b ∈ fp,FpOk (compCx X N scope cl P2.objs.size fp pins s2 H2) [] H' b:=fun {H'} hn b hb=>by
  obtain ⟨o,e⟩:=ho b hb
  have lt:=Heap.lt_size e
  refine ⟨hn b hb,?_,fun z=>(List.mem_cons.mp (I2.stkSub b z)).elim (f2 b hb).2.1 (f2 b hb).2.2.1,.inl hb,fun x c z=>(f2 b hb).2.2.2.2.1 x c (ok.sub x c z),fun p hp=>?_⟩
  ·show b ≠ P2.objs.size
   rw [hC]
   exact Nat.ne_of_lt (Nat.lt_succ_of_lt lt)
  ·have hp':p ∈ X.pn++pins:=by
    have:p ∈ (X.pn++pins)++[]:=hp
    simpa using this
   exact (f2 b hb).2.2.2.2.2 p hp'
 have loop:∀ s₃:Shared,s₃={ s2 with heap:=h₁,toks:=s2.toks + ([]:List (Str × Value)).length } ->
   codeAny (model X.prog X.w) X.A (.compLoop (.ListComp elt [⟨tg,iter,ifs,0⟩] scope pos) 0 (.ref it) (.ref s2.heap.objs.size) (compEnvC scope cl P2.objs.size X.env))
    (compPost (model X.prog X.w) X.A X.xe (some (assign (.Name x xpos) X.env)) (fun _ s''=>∃ σ' H',Inv X pins σ' H' s''/\D.nx σ' H') (.ref s2.heap.objs.size) P2.objs.size) s₃:=by
  rintro s₃ rfl
  refine codeAny_loop rfl (fun n s'=>∃ i σ' H',Inv (compCx X N scope cl P2.objs.size fp pins s2 H2) [] σ' H' s'/\tn i s'.heap/\(∀ b ∈ fp,H' b=none)/\W i n σ' H') ?_ m0 ⟨0,_,_,I0,st0,fr0,w0⟩
  rintro n s3 ⟨i,σ3,H3,I3,st3,fr3,w3⟩
  show wpAny _ X.A ((compTurn (.ListComp elt [⟨tg,iter,ifs,0⟩] scope pos) 0 (.ref it) (.ref s2.heap.objs.size) (compEnvC scope cl P2.objs.size X.env)).onRaise (fun x=>do noteFrame x (compEnvC scope cl P2.objs.size X.env); theTreesLotGoes x)) _ _ s3
  refine wpAny_noted ?_
  rw [compTurn_list]
  rcases turn i n σ3 H3 w3 with ⟨stop,qn⟩ | ⟨go,N',hN,step⟩
  ·refine wpAny_bind (wpAny_standAt (wpAny_bind (thn (T.done (compCx X N scope cl P2.objs.size fp pins s2 H2) rfl rfl rfl hcalm i [] s3 σ3 H3 _ I3 (stat fr3) st3 stop) fun r s4 ⟨hr,I4⟩=>?_)))
   subst hr
   refine wpAny_pure ?_
   obtain ⟨m,hm,_⟩:=I4.loc
   have leC:s2.heap.objs.size<=P2.objs.size:=by rw [hC]; exact Nat.le_succ _
   have IX:Inv X pins σ H3 s4:=I2.call' (s':=s4) (ch:=fp) I4.os I4.base I4.hok I4.bare fun b hb=>⟨(f2 b hb).2.2.2.1,(f2 b hb).2.1,(f2 b hb).2.2.2.2.1,(f2 b hb).2.2.2.2.2⟩
   have cellLt:∀ y c,X.env.cells.lookup y=some c->c ≠ P2.objs.size:=fun y c e z=>by
    obtain ⟨_,o,e1,_⟩:=I2.cell y c e
    have:=Heap.lt_size e1
    rw [z] at this
    exact Nat.lt_irrefl _ (Nat.lt_of_lt_of_le this leC)
   have locNe:X.env.locals ≠ P2.objs.size:=fun z=>by
    have:=I2.lt
    rw [z] at this
    exact Nat.lt_irrefl _ (Nat.lt_of_lt_of_le this leC)
   refine wpAny_assign_Name (store_ok2 IX hN hix (.inl hlx) (v:=.ref s2.heap.objs.size) rfl (fun s5 I5 ⟨a5,sb5,ha5⟩=>?_) (.inr hlx))
   have na:a5 ≠ P2.objs.size:=by
    rcases ha5 with z | z
    ·rw [z]
     exact locNe
    ·exact cellLt _ _ z
   refine ⟨m,hm.sameBut sb5 (Ne.symm na),fun h' sb=>⟨_,H3,?_,qn⟩⟩
   exact I5.turned (t':=s5.toks) (it:=P2.objs.size) (fun b o hb e=>(sb.2 b hb).trans e) I4.free (Ne.symm locNe) (.inr (Nat.le_trans I2.sz leC)) cellLt fun p hp z=>by
    obtain ⟨e1,_⟩:=I2.pin p hp
    have:=Heap.lt_size e1
    rw [z] at this
    exact Nat.lt_irrefl _ (Nat.lt_of_lt_of_le this leC)
  ·refine wpAny_bind (wpAny_standAt (wpAny_bind (thn (T.item (compCx X N scope cl P2.objs.size fp pins s2 H2) rfl rfl rfl hcalm i [] s3 σ3 H3 _ I3 (stat fr3) st3 go) fun r s4 ⟨u,hr,h4⟩=>?_)))
   subst hr
   dsimp only
   refine wpAny_bind (thn h4 fun _ s5 ⟨x,H5,I5,r5,y5,st5,fr5⟩=>?_)
   have I5':=I5.pinned (stat fr5) (T.obj _ _ st5)
   refine wpAny_bind (wpAny_mono (hg P2.objs.size fp pins s2 H2 _ s5 σ3 H5 x u _ I5' r5 (step x H5 y5)) (fun _ s6 ⟨σ6,H6,I6,q6⟩=>?_) fun _ _ z=>False.elim z)
   have again:∀ {s7:Shared} {σ7:St} {H7:Hp},Inv (compCx X N scope cl P2.objs.size fp pins s2 H2) ([]++pinsAt fp s5.heap) σ7 H7 s7->N' σ7 H7->∃ m,m < n/\∃ i σ' H',Inv (compCx X N scope cl P2.objs.size fp pins s2 H2) [] σ' H' s7/\tn i s7.heap/\(∀ b ∈ fp,H' b=none)/\W i m σ' H':=fun {s7 σ7 H7} I7 n7=>by
    obtain ⟨m',hm,w7⟩:=hN σ7 H7 n7
    refine ⟨m',hm,i + 1,σ7,H7,I7.unpinned,T.keep _ _ _ st5 fun b hb o e=>(I7.pin (b,o) (List.mem_append_right _ (List.mem_append_right _ (mem_pinsAt hb e)))).1,fun b hb=>?_,w7⟩
    obtain ⟨o,e,d⟩:=T.obj _ _ st5 b hb
    exact (I7.pin (b,o) (List.mem_append_right _ (List.mem_append_right _ (mem_pinsAt hb e)))).2.1
   refine wpAny_bind (wpAny_mono (hc P2.objs.size fp pins s2 H2 _ s6 σ6 H6 _ I6 q6) (fun b s7 ⟨H7,I7,q7⟩=>?_) fun _ _ z=>False.elim z)
   cases b with
   | false =>
    rw [if_neg Bool.false_ne_true] at q7
    exact wpAny_pure ⟨rfl,again I7 q7⟩
   | true =>
    rw [if_pos rfl] at q7
    refine wpAny_bind (wpAny_bind (wpAny_mono (he P2.objs.size fp pins s2 H2 _ s7 σ6 H7 _ I7 q7) (fun y s8 ⟨v8,H8,I8,r8,ys,hys,hlen,q8⟩=>?_) fun _ _ z=>False.elim z))
    refine wpAny_bind (wpAny_mono (mt_append (X:=compCx X N scope cl P2.objs.size fp pins s2 H2) _ s8 σ6 H8 (.ref s2.heap.objs.size) [v8] (.ref s2.heap.objs.size) [y] (fun _ H9=>N' σ6 H9) I8 rfl (.cons r8 .nil) ⟨_,ys,v8,rfl,rfl,hys,hlen,q8⟩) (fun _ s9 ⟨v9,H9,I9,_,q9⟩=>?_) fun _ _ z=>False.elim z)
    exact wpAny_pure (wpAny_pure ⟨rfl,again I9 q9⟩)
 exact codeAny_compStart_list (loop _ rfl) (T.self _ 0 _ _ _ st0 (loop _ rfl))
end
end L2
namespace L2
open PySem PySem.Spec PyProof.Rows
theorem strs_vals:∀ {ts:List Str} {its:List Value},Vals (ts.map V.str) its->StrsAre its ts
 | [],_,.nil=>.nil
 | t :: _,_,.cons ⟨k,e⟩ h=>by
  subst e
  exact .cons t k (strs_vals h)
section
variable {X:Cx}
noncomputable def rJoin (K:PySem.W.Frag):V->List V->Hp->VK->Prop:=fun x xs H Q=>∃ (z:Str) (l:Addr) (ts:List Str),x=.str z/\xs=[.ref l]/\SqL K H l (ts.map V.str)/\(ts.map (·.length)).sum + ts.length * z.length<=16777216/\Q (.str (Str.join z ts)) H
theorem mt_join:MtR X "str.join" (rJoin X.K):=by
 intro pins s σ H x xs v us Q I rx rv h
 obtain ⟨z,l,ts,rfl,rfl,hl,hsz,q⟩:=h
 obtain ⟨tk,rfl⟩:=rx
 obtain ⟨u,rfl,r⟩:=rv.one
 cases r
 obtain ⟨its,rv2,p,hz⟩:=I.list hl
 refine join_list (ys:=ts) p.isList (by simpa using strs_vals rv2) hsz fun t' k=>⟨.str (Str.join z ts),H,I.tok k,⟨t',?_⟩,q⟩
 rw [show Txt.join z ts=Str.join z ts from StrLaws.glued_eq_join z ts]
end
end L2
namespace L2
open PySem PySem.Spec PyProof.Rows PySem.W
theorem lt2_irr (p:Int × Int):lt2 p p=false:=by
 unfold lt2
 rw [if_pos rfl,decide_eq_false (by omega)]
theorem lt2_tot {p q:Int × Int}(h:p ≠ q):lt2 q p=!lt2 p q:=by
 unfold lt2
 obtain ⟨a,b⟩:=p
 obtain ⟨c,d⟩:=q
 simp only
 by_cases e:a=c
 ·subst e
  rw [if_pos rfl,if_pos rfl]
  have hb:b ≠ d:=fun z=>h (by rw [z])
  by_cases l:b < d
  ·rw [decide_eq_true l,decide_eq_false (by omega)]
   rfl
  ·rw [decide_eq_false l,decide_eq_true (by omega)]
   rfl
 ·rw [if_neg e,if_neg (fun z=>e z.symm)]
  by_cases l:a < c
  ·rw [decide_eq_true l,decide_eq_false (by omega)]
   rfl
  ·rw [decide_eq_false l,decide_eq_true (by omega)]
   rfl
theorem lt2_tr {p q r:Int × Int}(h1:lt2 p q=true)(h2:lt2 q r=true):lt2 p r=true:=by
 unfold lt2 at *
 obtain ⟨a,b⟩:=p
 obtain ⟨c,d⟩:=q
 obtain ⟨e,f⟩:=r
 simp only at *
 by_cases e1:a=c
 ·subst e1
  rw [if_pos rfl,decide_eq_true_eq] at h1
  by_cases e2:a=e
  ·subst e2
   rw [if_pos rfl,decide_eq_true_eq] at h2 ⊢
   omega
  ·rw [if_neg e2] at h2 ⊢
   exact h2
 ·rw [if_neg e1,decide_eq_true_eq] at h1
  by_cases e2:c=e
  ·subst e2
   rw [if_neg e1,decide_eq_true_eq]
   exact h1
  ·rw [if_neg e2,decide_eq_true_eq] at h2
   rw [if_neg (by omega),decide_eq_true_eq]
   omega
section
variable {X:Cx}
end
end L2
namespace L2
open PySem PySem.Spec PyProof.Rows
section
variable {κ:Type} [DecidableEq κ]
noncomputable def valV (kvs:List (κ × V))(k:κ):Option V:=(kvs.find? fun kv=>decide (kv.1=k)).map (·.2)
noncomputable def putK (kvs:List (κ × V))(k:κ)(v:V):List (κ × V) :=
 if (kvs.any fun kv=>decide (kv.1=k))=true then kvs.map (fun kv=>if kv.1=k then (kv.1,v) else kv) else kvs++[(k,v)]
theorem valV_pos {p:κ × V}{r:List (κ × V)}{k:κ}(e:p.1=k):valV (p :: r) k=some p.2:=by simp [valV,List.find?_cons,e]
theorem valV_neg {p:κ × V}{r:List (κ × V)}{k:κ}(e:¬ p.1=k):valV (p :: r) k=valV r k:=by simp [valV,List.find?_cons,e]
theorem valV_any (k:κ):∀ kvs:List (κ × V),(kvs.any fun kv=>decide (kv.1=k))=(valV kvs k).isSome
 | []=>rfl
 | p :: r=>by
  rw [List.any_cons]
  by_cases e:p.1=k
  ·simp only [valV_pos e,decide_eq_true e,Bool.true_or,Option.isSome_some]
  ·rw [valV_neg e,decide_eq_false e,Bool.false_or]; exact valV_any k r
theorem valV_map (k j:κ)(y:V):∀ kvs:List (κ × V),valV (kvs.map fun kv=>if kv.1=k then (kv.1,y) else kv) j=(valV kvs j).map fun x=>if j=k then y else x
 | []=>rfl
 | p :: r=>by
  have ih:=valV_map k j y r
  rw [List.map_cons]
  by_cases h:p.1=k
  ·rw [if_pos h]
   by_cases e:p.1=j
   ·rw [valV_pos (p:=(p.1,y)) e,valV_pos e,Option.map_some,if_pos (e.symm.trans h)]
   ·rw [valV_neg (p:=(p.1,y)) e,valV_neg e,ih]
  ·rw [if_neg h]
   by_cases e:p.1=j
   ·rw [valV_pos (p:=p) e,valV_pos e,Option.map_some,if_neg (fun z=>h (e.trans z))]
   ·rw [valV_neg (p:=p) e,valV_neg e,ih]
theorem valV_snoc (k j:κ)(y:V):∀ kvs:List (κ × V),valV kvs k=none->valV (kvs++[(k,y)]) j=if j=k then some y else valV kvs j
 | [],_=>by
  by_cases e:k=j
  ·rw [if_pos e.symm]; exact valV_pos (p:=(k,y)) e
  ·rw [if_neg (fun z=>e z.symm)]; exact valV_neg (p:=(k,y)) e
 | p :: r,hn=>by
  rw [List.cons_append]
  have hk:¬ p.1=k:=fun z=>by rw [valV_pos z] at hn; cases hn
  rw [valV_neg hk] at hn
  have ih:=valV_snoc k j y r hn
  by_cases e:p.1=j
  ·rw [valV_pos e,valV_pos e,if_neg (fun z=>hk (e.trans z))]
  ·rw [valV_neg e,valV_neg e,ih]
theorem valV_put (kvs:List (κ × V))(k j:κ)(y:V):valV (putK kvs k y) j=if j=k then some y else valV kvs j:=by
 unfold putK
 by_cases a:(kvs.any fun kv=>decide (kv.1=k))=true
 ·rw [if_pos a,valV_map]
  rw [valV_any] at a
  by_cases e:j=k
  ·obtain ⟨x,hx⟩:=Option.isSome_iff_exists.mp a
   rw [if_pos e,e,hx,Option.map_some,if_pos rfl]
  ·rw [if_neg e]
   cases valV kvs j with
   | none=>rfl
   | some x=>rw [Option.map_some,if_neg e]
 ·rw [if_neg a]
  refine valV_snoc k j y kvs ?_
  rw [valV_any] at a
  cases q:valV kvs k with
  | none=>rfl
  | some x=>rw [q] at a; exact (a rfl).elim
theorem length_putK (kvs:List (κ × V))(k:κ)(v:V):(putK kvs k v).length<=kvs.length + 1:=by
 unfold putK
 split
 ·rw [List.length_map]; omega
 ·rw [List.length_append,List.length_cons,List.length_nil]; omega
theorem RelO.isSome_eq {o:Option V}{u:Option Value}(r:RelO o u):o.isSome=u.isSome:=by
 cases o with
 | none=>cases u with
  | none=>rfl
  | some _=>exact (show False from r).elim
 | some _=>cases u with
  | none=>exact (show False from r).elim
  | some _=>rfl
theorem RelO.getD {o:Option V}{u:Option Value}{d:V}{d':Value}(r:RelO o u)(rd:RelV d d'):RelV (o.getD d) (u.getD d'):=by
 cases o with
 | none=>cases u with
  | none=>exact rd
  | some _=>exact (show False from r).elim
 | some _=>cases u with
  | none=>exact (show False from r).elim
  | some _=>exact r
theorem KV.val {kvs:List (κ × V)}{vs:List (κ × Value)}(r:KV kvs vs)(k:κ):RelO (valV kvs k) (valueAt vs k):=by
 unfold KV at r
 induction r with
 | nil=>exact True.intro
 | @cons p q ps qs h t ih =>
  obtain ⟨h1,h2⟩:=h
  by_cases e:p.1=k
  ·have e':q.1=k:=h1.symm.trans e
   have b:valueAt (q :: qs) k=some q.2:=by simp [valueAt,List.find?_cons,e']
   rw [valV_pos e,b]; exact h2
  ·have e':¬ q.1=k:=fun z=>e (h1.trans z)
   have b:valueAt (q :: qs) k=valueAt qs k:=by simp [valueAt,List.find?_cons,e']
   rw [valV_neg e,b]; exact ih
theorem KV.any {kvs:List (κ × V)}{vs:List (κ × Value)}(r:KV kvs vs)(k:κ):(kvs.any fun kv=>decide (kv.1=k))=vs.any fun kv=>decide (kv.1=k):=by
 unfold KV at r
 induction r with
 | nil=>rfl
 | cons h t ih=>rw [List.any_cons,List.any_cons,ih,h.1]
theorem KV.repl {kvs:List (κ × V)}{vs:List (κ × Value)}(r:KV kvs vs)(k:κ){y:V}{u:Value}(ry:RelV y u) :
  KV (kvs.map fun kv=>if kv.1=k then (kv.1,y) else kv) (vs.map fun kv=>if kv.1=k then (kv.1,u) else kv):=by
 unfold KV at r ⊢
 induction r with
 | nil=>exact .nil
 | @cons p q ps qs h t ih =>
  rw [List.map_cons,List.map_cons]
  refine .cons ?_ ih
  obtain ⟨h1,h2⟩:=h
  by_cases e:p.1=k
  ·rw [if_pos e,if_pos (h1.symm.trans e)]; exact ⟨h1,ry⟩
  ·rw [if_neg e,if_neg (fun z=>e (h1.trans z))]; exact ⟨h1,h2⟩
theorem KV.put {kvs:List (κ × V)}{vs:List (κ × Value)}(r:KV kvs vs)(k:κ){y:V}{u:Value}(ry:RelV y u):KV (putK kvs k y) (stored vs k u):=by
 unfold putK stored
 rw [r.any k]
 by_cases e:(vs.any fun kv=>decide (kv.1=k))=true
 ·rw [if_pos e,if_pos e]; exact r.repl k ry
 ·rw [if_neg e,if_neg e]; exact Paired.snoc r ⟨rfl,ry⟩
theorem KV.length {kvs:List (κ × V)}{vs:List (κ × Value)}(r:KV kvs vs):kvs.length=vs.length:=Paired.length r
end
theorem kV_is {P:Program}{w:World}{k:Key}{u:Value}(r:RelV (kV k) u):(mixKind P w).is k u=true:=by
 cases k with
 | inl i=>obtain ⟨t,e⟩:=(show ∃ t,u=Value.int i t from r); subst e; exact mixKind_int P w i t
 | inr x=>obtain ⟨t,e⟩:=(show ∃ t,u=Value.str x t from r); subst e; exact mixKind_str P w x t
theorem items_are {P:Program}{w:World}:∀ {ks:List Key} {us:List Value},Vals (ks.map kV) us->ItemsAre (mixKind P w) ks us
 | [],_,r=>by rw [List.map_nil] at r; cases r; exact .nil
 | k :: ks,_,r=>by
  rw [List.map_cons] at r
  cases r with
  | cons h t=>exact .cons (kV_is h) (items_are t)
noncomputable abbrev KT (H:Hp):List (List Key × V)->List (List Key × Addr × Value)->Prop:=Paired fun p q=>p.1=q.1/\H q.2.1=some (.tup (p.1.map kV))/\RelV p.2 q.2.2
theorem KT.val {H:Hp}{kvs:List (List Key × V)}{xs:List (List Key × Addr × Value)}(r:KT H kvs xs)(k:List Key):RelO (valV kvs k) ((atKey xs k).map (·.2)):=by
 induction r with
 | nil=>exact True.intro
 | @cons p q ps qs h t ih =>
  obtain ⟨h1,_,h2⟩:=h
  by_cases e:p.1=k
  ·have e':q.1=k:=h1.symm.trans e
   have b:atKey (q :: qs) k=some q.2:=by simp [atKey,List.find?_cons,e']
   rw [valV_pos e,b]; exact h2
  ·have e':¬ q.1=k:=fun z=>e (h1.trans z)
   have b:atKey (q :: qs) k=atKey qs k:=by simp [atKey,List.find?_cons,e']
   rw [valV_neg e,b]; exact ih
theorem KT.repl {H:Hp}{kvs:List (List Key × V)}{xs:List (List Key × Addr × Value)}(r:KT H kvs xs)(k:List Key){y:V}{u:Value}(ry:RelV y u) :
  KT H (kvs.map fun kv=>if kv.1=k then (kv.1,y) else kv) (xs.map (putAt k u)):=by
 induction r with
 | nil=>exact .nil
 | @cons p q ps qs h t ih =>
  rw [List.map_cons,List.map_cons]
  refine .cons ?_ ih
  obtain ⟨h1,h2,h3⟩:=h
  unfold putAt
  by_cases e:p.1=k
  ·rw [if_pos e,if_pos (h1.symm.trans e)]; exact ⟨h1,h2,ry⟩
  ·rw [if_neg e,if_neg (fun z=>e (h1.trans z))]; exact ⟨h1,h2,h3⟩
theorem KT.put {H:Hp}{kvs:List (List Key × V)}{xs:List (List Key × Addr × Value)}(r:KT H kvs xs)(k:List Key){b:Addr}{y:V}{u:Value}(hb:H b=some (.tup (k.map kV)))(ry:RelV y u) :
  KT H (putK kvs k y) (storedH xs k b u):=by
 have e:(kvs.any fun kv=>decide (kv.1=k))=(atKey xs k).isSome:=by
  rw [valV_any,(r.val k).isSome_eq,Option.isSome_map]
 unfold putK storedH
 rw [e]
 by_cases q:(atKey xs k).isSome=true
 ·rw [if_pos q,if_pos q]; exact r.repl k ry
 ·rw [if_neg q,if_neg q]; exact Paired.snoc r ⟨rfl,hb,ry⟩
theorem KT.keeps {H H':Hp}{kvs:List (List Key × V)}{xs:List (List Key × Addr × Value)}(r:KT H kvs xs)(ht:∀ b ys,H b=some (.tup ys)->H' b=some (.tup ys)):KT H' kvs xs :=
 Paired.mapP r fun _ _ z=>⟨z.1,ht _ _ z.2.1,z.2.2⟩
section
variable {P:Program}{w:World}{H:Hp}{h:Heap}{a:Addr}
theorem rd_of {u:HO}(ok:HOk P w H h)(e:Rd H a u):ObjOk P w H h a u:=e.ok ok
theorem dk_rd {kvs:List (Key × V)}(ok:HOk P w H h)(e:Rd H a (.dK kvs)):kvs.length<=sizeLine/\(a == sysModules)=false/\∃ vs,KV kvs vs/\h.DictOf (mixKind P w) a vs :=
 show ObjOk P w H h a (.dK kvs) from rd_of ok e
theorem dk_of {kvs:List (Key × V)}(ok:HOk P w H h)(e:H a=some (.dK kvs)):kvs.length<=sizeLine/\(a == sysModules)=false/\∃ vs,KV kvs vs/\h.DictOf (mixKind P w) a vs:=dk_rd ok (.inl e)
theorem key_of {ks:List Key}(ok:HOk P w H h)(e:H a=some (.tup (ks.map kV))):(tupleKind (mixKind P w)).is h ks a:=by
 obtain ⟨_,its,r,o,h1,h2,n,h3⟩:=(show ObjOk P w H h a (.tup (ks.map kV)) from ok a _ e)
 exact ⟨o,its.toArray,n,h1,h2,h3,by simpa using items_are r⟩
theorem dt_rd {kvs:List (List Key × V)}(ok:HOk P w H h)(e:Rd H a (.dT kvs)):kvs.length<=sizeLine/\(a == sysModules)=false /\
  ∃ xs,KT H kvs xs/\h.DictOfH (tupleKind (mixKind P w)) a xs:=by
 obtain ⟨z,y,xs,r,o,es,ep,h1,h2,h3,h4,h5⟩:=(show ObjOk P w H h a (.dT kvs) from rd_of ok e)
 refine ⟨z,y,xs,r,o,es,ep,h1,h2,h3,h4,fun x hx=>?_,h5⟩
 have all:∀ {l:List (List Key × V)} {m:List (List Key × Addr × Value)},KT H l m->∀ x ∈ m,(tupleKind (mixKind P w)).is h x.1 x.2.1:=by
  intro l m q
  induction q with
  | nil=>intro x hx; exact nomatch hx
  | @cons p q ps qs hq t ih =>
   intro x hx
   rcases List.mem_cons.mp hx with e | hx
   ·subst e
    exact key_of ok (by rw [<- hq.1]; exact hq.2.1)
   ·exact ih x hx
 exact all r x hx
theorem dt_of {kvs:List (List Key × V)}(ok:HOk P w H h)(e:H a=some (.dT kvs)):kvs.length<=sizeLine/\(a == sysModules)=false /\
  ∃ xs,KT H kvs xs/\h.DictOfH (tupleKind (mixKind P w)) a xs:=dt_rd ok (.inl e)
end
noncomputable def DGet (H:Hp)(a:Addr)(y:V)(r:Option V):Prop :=
 (∃ kvs k,Rd H a (.dK kvs)/\y=kV k/\r=valV kvs k)\/∃ kvs k b,Rd H a (.dT kvs)/\y=.ref b/\H b=some (.tup (k.map kV))/\r=valV kvs k
noncomputable def DPut (H:Hp)(a:Addr)(y v:V)(H':Hp):Prop :=
 (∃ kvs k,H a=some (.dK kvs)/\y=kV k/\kvs.length < sizeLine/\H'=upd H a (.dK (putK kvs k v))) \/
 ∃ kvs k b,H a=some (.dT kvs)/\y=.ref b/\H b=some (.tup (k.map kV))/\kvs.length < sizeLine/\H'=upd H a (.dT (putK kvs k v))
theorem DGet.t {H:Hp}{a b:Addr}{kvs:List (List Key × V)}{k:List Key}(e:H a=some (.dT kvs))(eb:H b=some (.tup (k.map kV))):DGet H a (.ref b) (valV kvs k):=.inr ⟨kvs,k,b,.inl e,rfl,eb,rfl⟩
theorem DPut.t {H:Hp}{a b:Addr}{kvs:List (List Key × V)}{k:List Key}{v:V}(e:H a=some (.dT kvs))(eb:H b=some (.tup (k.map kV)))(hl:kvs.length < sizeLine) :
  DPut H a (.ref b) v (upd H a (.dT (putK kvs k v))):=.inr ⟨kvs,k,b,e,rfl,eb,hl,rfl⟩
section
variable {X:Cx}{pins:List (Addr × Obj)}{σ:St}{H:Hp}{s:Shared}{a:Addr}{y v:V}{u r:Value}{o:Option V}{A:Around}{E:Value->Shared->Prop}
theorem Inv.big (I:Inv X pins σ H s):sysModules < s.heap.objs.size:=by
 have h:mainGlobals < s.heap.objs.size:=(I.mod.glob.keeps I.bk).lt
 exact Nat.lt_trans (by decide) h
theorem d_write {h':Heap}{t':Nat}{ob:HO}(I:Inv X pins σ H s)(mu:Mut (H a))(hs:Heap.SameBut a s.heap h')(he:∃ q,h'.get? a=some q)(new:ObjOk X.prog X.w (upd H a ob) h' a ob) :
  Inv X pins σ (upd H a ob) { s with heap:=h',toks:=t' } :=
 I.write (x:=a) (e:=a) mu (.inl rfl) (fun b q hb z=>(hs.2 b hb).trans z) he new
theorem dk_new {P:Program}{w:World}{H':Hp}{h':Heap}{kvs:List (Key × V)}{vs:List (Key × Value)}(z:kvs.length<=sizeLine)(hd:(a == sysModules)=false)(rel:KV kvs vs)(dd:h'.DictOf (mixKind P w) a vs) :
  ObjOk P w H' h' a (.dK kvs):=⟨z,hd,vs,rel,dd⟩
theorem d_setItem {H':Hp}{Q:Unit->Shared->Prop}(hu:A.units + 1 < cLine)(I:Inv X pins σ H s)(g:DPut H a y v H')(ry:RelV y u)(rv:RelV v r)(h:∀ s',Inv X pins σ H' s'->Q () s') :
  wpAny (model X.prog X.w) A (setItem (.ref a) u r) Q E s:=by
 rcases g with ⟨kvs,k,e,ey,l,eH⟩ | ⟨kvs,k,b,e,ey,eb,l,eH⟩
 ·subst ey eH
  obtain ⟨z,hd,vs,rel,dd⟩:=dk_of I.hok e
  have hz:vs.length<=sizeLine:=by rw [<- rel.length]; exact z
  have hl:(putK kvs k v).length<=sizeLine:=by have:=length_putK kvs k v; omega
  refine wpAny_setItem_pairs (hsz:=hz) (kV_is ry) dd fun h' dd' hs=>h _ ?_
  have he:∃ q,h'.get? a=some q:=let ⟨q,_,_,hq,_⟩:=dd'; ⟨q,hq⟩
  exact d_write I (by rw [e]; exact True.intro) hs he (dk_new hl hd (rel.put k rv) dd')
 ·subst ey eH
  cases (show u=Value.ref b from ry)
  obtain ⟨z,hd,xs,rel,dd⟩:=dt_of I.hok e
  have hz:xs.length<=sizeLine:=by rw [<- Paired.length rel]; exact z
  have hl:(putK kvs k v).length<=sizeLine:=by have:=length_putK kvs k v; omega
  refine wpAny_setItem_heap (hsz:=hz) (tupleKind_room_in1 hu) (key_of I.hok eb) dd fun h' dd' hs=>h _ ?_
  obtain ⟨q,es,ep,hq,h2,h3,h4,_,h5⟩:=dd'
  refine d_write I (by rw [e]; exact True.intro) hs ⟨q,hq⟩ ⟨hl,hd,_,(rel.put k eb rv).keeps fun c ys ec=>?_,q,es,ep,hq,h2,h3,h4,h5⟩
  rw [upd_ne (ne_of ec e (fun z=>nomatch z))]
  exact ec
end
section
variable {X:Cx}{pins:List (Addr × Obj)}{σ:St}{H:Hp}{s:Shared}{a:Addr}{kvs:List (Key × V)}{k:Key}{u:Value}{A:Around}{E:Value->Shared->Prop}
end
noncomputable def sDPut (td ty tv:TE):TS:=fun D σ H=>tv σ H fun v H1=>td σ H1 fun x H2=>ty σ H2 fun y H3=>∃ a H4,x=.ref a/\DPut H3 a y v H4/\D.nx σ H4
section
variable {X:Cx}{o i e value:Expr}{pos pos' tpos:Pos}{td ty tv:TE}
theorem ps_dput (hu:X.A.units + 1 < cLine)(ho:PE X o td)(hi:PE X i ty)(hv:PE X value tv)(hs:swapsWith value (some (.Subscript o i pos')) pos.line X.env=pure false) :
  PS X (.Assign [.Subscript o i pos'] value pos) (sDPut td ty tv):=by
 intro pins s σ H D I h
 refine wpAny_Assign_Subscript (thn (hv pins s σ H _ I h) fun r s1 ⟨v,H1,I1,rv,q1⟩=>thn (ho pins s1 σ H1 _ I1 q1) fun u s2 ⟨x,H2,I2,rx,q2⟩=>thn (hi pins s2 σ H2 _ I2 q2) fun iv s3 ⟨y,H3,I3,ry,a,H4,ex,g,q3⟩=>?_) hs
 subst ex
 obtain rfl:u=Value.ref a:=rx
 exact d_setItem hu I3 g ry rv fun s4 I4=>⟨σ,H4,I4,q3⟩
end
theorem dt_empty {P:Program}{w:World}{H:Hp}(h:Heap)(hb:sysModules < h.objs.size):ObjOk P w H (h.push { cls:=.type "dict",data:=.dict #[] }) h.objs.size (.dT []) :=
 ⟨Nat.zero_le _,beq_eq_false_iff_ne.mpr (Ne.symm (Nat.ne_of_lt hb)),[],.nil,_,#[],0,Heap.get?_push_size _ rfl,⟨rfl,rfl,rfl⟩,rfl,rfl,List.nodup_nil⟩
noncomputable def tDNewT:TE:=fun _ H Q=>∀ p,H p=none->Q (.ref p) (upd H p (.dT []))
section
variable {X:Cx}{pos:Pos}
theorem pe_dnewT:PE X (.Dict [] [] pos) tDNewT:=fun pins s σ H Q I h =>
 wpAny_Dict_empty ⟨.ref s.heap.objs.size,_,I.laid (a:=s.heap.objs.size) (o:=.dT []) (t':=s.toks) (fun _ _ q=>Heap.get?_push_of_some _ q) (Nat.le_refl _) (dt_empty s.heap I.big),rfl,h _ (I.hok.fresh (Nat.le_refl _))⟩
end
structure M2 (X:Cx)(o:Expr)(m:Str)(apos:Pos)(e f:Expr)(cpos:Pos):Prop where
 base:attributeBase o m X.env (eval o X.env)=eval o X.env
 few:((backTo cpos (starEach [e,f] X.env)).all (fun x=>!x.1) && (backToKw cpos (keywordEach [] X.env)).all (fun x=>x.1.isSome)
  && decide (([e,f]:List Expr).length + ([]:List Keyword).length + (if ([]:List Keyword).isEmpty then 0 else 1) < 30))=true
 line:(apos.endLine == cpos.line)=true
 trees:backTo cpos (starEach [e,f] X.env)=[(false,eval e X.env),(false,eval f X.env)]
noncomputable def IsD (H:Hp)(a:Addr):Prop:=(∃ kvs,Rd H a (.dK kvs))\/∃ kvs,Rd H a (.dT kvs)
theorem isD_at {X:Cx}{pins:List (Addr × Obj)}{σ:St}{H:Hp}{s:Shared}{a:Addr}(I:Inv X pins σ H s)(d:IsD H a) :
  s.TypeIs (.ref a) "dict"/\(∀ b,Value.ref a=.ref b->∃ ob,s.heap.get? b=some ob/\ob.dict=none)/\(a == sysModules)=false:=by
 rcases d with ⟨kvs,e⟩ | ⟨kvs,e⟩
 ·obtain ⟨_,hd,vs,_,dd⟩:=dk_rd I.hok e
  refine ⟨dd.typeIs,fun b q=>?_,hd⟩
  cases q
  obtain ⟨ob,_,_,h1,h2,_⟩:=dd
  exact ⟨ob,h1,h2.2.1⟩
 ·obtain ⟨_,hd,xs,_,dd⟩:=dt_rd I.hok e
  refine ⟨dd.typeIs,fun b q=>?_,hd⟩
  cases q
  obtain ⟨ob,_,_,h1,h2,_⟩:=dd
  exact ⟨ob,h1,h2.2.1⟩
section
variable {X:Cx}{pins:List (Addr × Obj)}{σ:St}{H:Hp}{s:Shared}{a:Addr}{y d:V}{u r:Value}{o:Option V}{A:Around}{E:Value->Shared->Prop}
theorem d_get2 {Q:Value->Shared->Prop}(hu:A.units + 1 < cLine)(I:Inv X pins σ H s)(g:DGet H a y o)(ry:RelV y u)(rd:RelV d r)(h:∀ w' s',Inv X pins σ H s'->RelV (o.getD d) w'->Q w' s') :
  wpAny (model X.prog X.w) A (call (.builtin "dict.get") [.ref a,u,r]) Q E s:=by
 rcases g with ⟨kvs,k,e,ey,l⟩ | ⟨kvs,k,b,e,ey,eb,l⟩
 ·subst ey
  obtain ⟨z,hd,vs,rel,dd⟩:=dk_rd I.hok e
  refine call_meetsIn PySem.F.slot_dict_get dd.typeIs PySem.F.entry_dict_get (PySem.F.args_dict_get_3 _ _ _) (meets_dict_get_default (mixKind X.prog X.w) a (kV_is ry) hd r) ⟨_,dd.mapOf,h _ _ (I.tok _) ?_⟩
  rw [l]
  exact (rel.val k).getD rd
 ·subst ey
  cases (show u=Value.ref b from ry)
  obtain ⟨z,hd,xs,rel,dd⟩:=dt_rd I.hok e
  refine call_meetsIn PySem.F.slot_dict_get dd.typeIs PySem.F.entry_dict_get (PySem.F.args_dict_get_3 _ _ _) (meetsH_dict_get_default (tupleKind (mixKind X.prog X.w)) a b hd r) ⟨tupleKind_room_in1 hu,k,xs,key_of I.hok eb,dd,h _ _ (I.tok _) ?_⟩
  rw [l]
  exact (rel.val k).getD rd
end
noncomputable def tDGet2 (td ty tx:TE):TE:=fun σ H Q=>td σ H fun x H1=>∃ a,x=.ref a/\IsD H1 a/\ty σ H1 fun y H2=>tx σ H2 fun z H3=>∃ o,DGet H3 a y o/\Q (o.getD z) H3
section
variable {X:Cx}{o e f:Expr}{apos cpos:Pos}{td ty tx:TE}
theorem pe_dget2 (hu:X.A.units + 1 < cLine)(ho:PE X o td)(he:PE X e ty)(hf:PE X f tx)(m:M2 X o "get" apos e f cpos):PE X (.Call (.Attribute o "get" apos) [e,f] [] cpos) (tDGet2 td ty tx):=by
 intro pins s σ H Q I h
 refine wpAny_Call_method m.base m.few m.line PySem.F.plainAttrs_dict PySem.F.slot_dict_get PySem.F.type_dict_get (thn (ho pins s σ H _ I h) fun u s1 ⟨x,H1,I1,rx,a,ex,d,q1⟩=>?_)
 subst ex
 obtain rfl:u=Value.ref a:=rx
 obtain ⟨t1,t2,_⟩:=isD_at I1 d
 refine ⟨t1,t2,?_⟩
 rw [m.trees]
 refine Calls.callWith_builtin rfl (Calls.evalArgs_plain (Calls.spliced_cons (thn (he pins s1 σ H1 _ I1 q1) fun iv s2 ⟨y,H2,I2,ry,q2⟩ =>
  Calls.spliced_cons (thn (hf pins s2 σ H2 _ I2 q2) fun fv s3 ⟨z,H3,I3,rz,ov,g,q3⟩=>Calls.spliced_nil ?_))))
 exact d_get2 hu I3 g ry rz fun w' s4 I4 rw'=>⟨_,H3,I4,rw',q3⟩
end
section
variable {X:Cx}{pins:List (Addr × Obj)}{σ:St}{H:Hp}{s:Shared}{a:Addr}{kvs:List (Key × V)}{A:Around}{E:Value->Shared->Prop}
end
section
variable {X:Cx}{pins:List (Addr × Obj)}{σ:St}{H:Hp}{s:Shared}{a:Addr}{y:V}{u:Value}{A:Around}{E:Value->Shared->Prop}
end
end L2
namespace L2
open PySem PySem.Spec PyProof.Rows
section
variable {prog:Program}{w:World}{A:Around}{E:Value->Shared->Prop}{h:Heap}{g:Array GenState}{d:Drawn}{t:Nat}{os:OsState}{a:Addr}{its:Array Value}{n:Nat}
end
section
variable {prog:Program}{w:World}{A:Around}{R:Result->Shared->Prop}{I:Addr}{fp wr:List Addr}{G:Array GenState->Array GenState->Prop}{n:Nat}{P:Nat->Value->Prop}{St:Nat->Shared->Prop}
end
end L2
namespace L2
open PySem PySem.Spec PyProof.Rows
section
variable {prog:Program}{w:World}{A:Around}{R:Result->Shared->Prop}{I:Addr}{fp wr:List Addr}{G:Array GenState->Array GenState->Prop}{n:Nat}{P:Nat->Value->Prop}{St:Nat->Shared->Prop}
end
end L2
namespace L2
open PySem PySem.Spec PyProof.Rows
section
variable {X:Cx}
end
end L2
namespace L2
theorem u1 {A:PySem.Around}(h:A.units + 64 < PySem.cLine):A.units + 1 < PySem.cLine:=by omega
end L2
namespace L2
open PySem PySem.Spec PyProof.Rows
section
variable {X:Cx}
theorem call_str_is:CallR X (.type "str") (fun xs H Q=>∃ v z,xs=[v]/\(v=V.str z\/∃ i:Int,v=V.int i/\i.natAbs.log2 < 1920/\z=toString i)/\Q (.str z) H):=by
 intro pins s σ H xs us Q I r h
 obtain ⟨v,z,rfl,h,q⟩:=h
 rcases h with rfl | ⟨i,rfl,hz,rfl⟩
 ·exact call_str_str pins s σ H _ us Q I r ⟨z,rfl,q⟩
 ·exact call_str_int pins s σ H _ us Q I r ⟨i,rfl,hz,q⟩
end
end L2
namespace L2
open PySem PySem.Spec PyProof.Rows PySem.W
namespace ST
theorem perm_map {α β:Type}(f:α->β){l l':List β}(h:l.Perm l'):∀ ks:List α,l'=ks.map f->∃ js:List α,js.Perm ks/\l=js.map f:=by
 induction h with
 | nil=>exact fun ks e=>⟨ks,List.Perm.refl _,e⟩
 | cons x h ih =>
  intro ks e
  cases ks with
  | nil=>simp at e
  | cons k ks =>
   rw [List.map_cons] at e
   injection e with e1 e2
   obtain ⟨js,h1,h2⟩:=ih ks e2
   exact ⟨k :: js,h1.cons k,by rw [List.map_cons,e1,h2]⟩
 | swap x y l =>
  intro ks e
  match ks,e with
  | [],e=>simp at e
  | [k],e=>simp at e
  | k1 :: k2 :: ks,e =>
   rw [List.map_cons,List.map_cons] at e
   injection e with e1 e2
   injection e2 with e2 e3
   exact ⟨k2 :: k1 :: ks,List.Perm.swap k1 k2 ks,by rw [List.map_cons,List.map_cons,e1,e2,e3]⟩
 | trans h1 h2 ih1 ih2 =>
  intro ks e
  obtain ⟨js,a,b⟩:=ih2 ks e
  obtain ⟨is,c,d⟩:=ih1 js b
  exact ⟨is,c.trans a,d⟩
section
variable {X:Cx}
end
end ST
end L2
namespace L2
open PySem PySem.Spec PyProof.Rows PySem.W
namespace GS
section
variable {prog:Program}{w:World}{A:Around}{E:Value->Shared->Prop}{s:Shared}{rk:Keyed->Int}{κ:SortKind}{a0:Array Keyed}
noncomputable def Rk (rk:Keyed->Int)(xs:Array Keyed)(i:Nat):Int:=match xs[i]? with
 | some p=>rk p
 | none=>0
theorem Rk_congr {xs ys:Array Keyed}{i j:Nat}(h:xs[i]?=ys[j]?):Rk rk xs i=Rk rk ys j:=by
 unfold Rk
 rw [h]
noncomputable def Up (rk:Keyed->Int)(xs:Array Keyed)(lo hi:Nat):Prop:=∀ i j,lo<=i->i<=j->j < hi->Rk rk xs i<=Rk rk xs j
noncomputable def Tells (prog:Program)(w:World)(A:Around)(s:Shared)(κ:SortKind)(rk:Keyed->Int)(a0:Array Keyed):Prop :=
 ∀ x ∈ a0.toList,∀ y ∈ a0.toList,∀ C:Bool->Shared->Prop,C (decide (rk x < rk y)) s->wpAny (model prog w) A (keyLt' κ x.1 y.1) C (fun _ _=>False) s
structure Ok (κ:SortKind)(a0:Array Keyed)(st:SortSt):Prop where
 perm:(arrOf st).Perm a0
 kind:kindOf st=κ
 good:failedOf st=none
theorem Ok.size {st:SortSt}(h:Ok κ a0 st):(arrOf st).size=a0.size:=h.perm.size_eq
theorem Ok.at {st:SortSt}(h:Ok κ a0 st){i:Nat}(hi:i < a0.size):∃ x,(arrOf st)[i]?=some x/\x ∈ a0.toList/\Rk rk (arrOf st) i=rk x:=by
 have hi':i < (arrOf st).size:=by rw [h.size]; exact hi
 have e:(arrOf st)[i]?=some (arrOf st)[i]:=getElem?_pos _ i hi'
 refine ⟨(arrOf st)[i],e,(Array.perm_iff_toList_perm.mp h.perm).mem_iff.mp (by simp),?_⟩
 unfold Rk
 rw [e]
theorem s_lt {st:SortSt}{x y:Keyed}{Q:Option Bool->SortSt->Prop}(T:Tells prog w A s κ rk a0)(hk:kindOf st=κ)(hx:x ∈ a0.toList)(hy:y ∈ a0.toList)(h:Q (some (decide (rk x < rk y))) st):wpS (model prog w) A E s (lt' x y) Q st:=by
 rw [lt'_eq]
 refine wpS_bind (wpS_get ?_)
 rw [hk]
 refine wpS_bind (wpS_lift (wpAny_attempt (wpAny_mono (T x hx y hy (fun b s'=>s'=s/\b=decide (rk x < rk y)) ⟨rfl,rfl⟩) (fun b s' hb=>⟨hb.1,?_⟩) fun _ _ hF=>hF.elim)))
 rw [hb.2]
 exact wpS_pure h
theorem s_elem {st:SortSt}{xs:Array Keyed}{i:Nat}{x:Keyed}{Q:Keyed->SortSt->Prop}(e:xs[i]?=some x)(h:Q x st):wpS (model prog w) A E s (elem' xs i) Q st:=by
 rw [elem'_eq,e]
 exact wpS_pure h
theorem s_ltAt {st:SortSt}{i j:Nat}{Q:Option Bool->SortSt->Prop}(T:Tells prog w A s κ rk a0)(O:Ok κ a0 st)(hi:i < a0.size)(hj:j < a0.size)(h:Q (some (decide (Rk rk (arrOf st) i < Rk rk (arrOf st) j))) st):wpS (model prog w) A E s (ltAt' i j) Q st:=by
 obtain ⟨x,e1,m1,r1⟩:=O.at (rk:=rk) hi
 obtain ⟨y,e2,m2,r2⟩:=O.at (rk:=rk) hj
 rw [r1,r2] at h
 rw [ltAt'_eq]
 refine wpS_bind (wpS_get ?_)
 exact wpS_bind (s_elem e1 (wpS_bind (s_elem e2 (s_lt T O.kind m1 m2 h))))
structure Step (κ:SortKind)(a0:Array Keyed)(lo:Nat)(st st':SortSt):Prop where
 ok:Ok κ a0 st'
 pend:pendingOf st'=pendingOf st
 low:∀ i:Nat,i < lo->(arrOf st')[i]?=(arrOf st)[i]?
theorem Step.refl {lo:Nat}{st:SortSt}(O:Ok κ a0 st):Step κ a0 lo st st:=⟨O,rfl,fun _ _=>rfl⟩
theorem Rk_mirror {xs:Array Keyed}{i j:Nat}(hj:j<=xs.size)(k:Nat):Rk rk (mirror xs i j ((j - i) / 2)) k=if i<=k/\k < j then Rk rk xs (i + j - 1 - k) else Rk rk xs k:=by
 have e:=getElem?_mirror_all (i:=i) hj k
 by_cases h1:i<=k/\k < j
 ·rw [if_pos h1] at e ⊢
  exact Rk_congr e
 ·rw [if_neg h1] at e ⊢
  exact Rk_congr e
theorem Rk_mirror_same {xs:Array Keyed}{i j:Nat}(hj:j<=xs.size)(heq:∀ k,i<=k->k < j->Rk rk xs k=Rk rk xs (j - 1))(k:Nat):Rk rk (mirror xs i j ((j - i) / 2)) k=Rk rk xs k:=by
 rw [Rk_mirror hj]
 split
 ·rw [heq _ (by omega) (by omega),heq k (by omega) (by omega)]
 ·rfl
theorem Step.mirror {lo i j:Nat}{st st':SortSt}(x:Step κ a0 lo st st')(hi:lo<=i)(hj:j<=a0.size):Step κ a0 lo st (setArr st' (mirror (arrOf st') i j ((j - i) / 2))):=by
 refine ⟨⟨(mirror_perm _ _ _ _).trans x.ok.perm,x.ok.kind,x.ok.good⟩,x.pend,fun k hk=>?_⟩
 show (PyProof.Rows.mirror (arrOf st') i j ((j - i) / 2))[k]?=_
 rw [getElem?_mirror_all (by rw [x.ok.size]; exact hj),if_neg (by omega)]
 exact x.low k hk
theorem s_rev {st:SortSt}{i j:Nat}{Q:Unit->SortSt->Prop}(h:Q () (setArr st (mirror (arrOf st) i j ((j - i) / 2)))):wpS (model prog w) A E s (reverseSlice' i j) Q st:=by
 rw [reverseSlice'_eq]
 exact wpS_modify h
noncomputable def up1 (lo a nrem:Nat):StateT SortSt Sem AscSt :=
 forIn [a:nrem] ((none,a):AscSt) fun _ c=>do
  let x <- ltAt' (lo + c.snd) (lo + c.snd - 1)
  match x with
  | some b=>if b=true then pure (ForInStep.done (none,c.snd)) else pure (ForInStep.yield (none,c.snd + 1))
  | _=>pure (ForInStep.done (some none,c.snd))
noncomputable def end3 (lo n nrem:Nat):StateT SortSt Sem (Option Nat):=do
 reverseSlice' lo (lo + n)
 let c <- up1 lo n nrem
 match c.fst with
 | some r=>pure r
 | none=>pure (some c.snd)
noncomputable def down1 (lo n nrem:Nat):StateT SortSt Sem DescSt :=
 forIn [n:nrem] ((none,n,0):DescSt) fun _ c=>do
  let x <- ltAt' (lo + c.snd.fst) (lo + c.snd.fst - 1)
  match x with
  | some b =>
   if b=true then
    if c.snd.snd > 0 then do
     reverseSlice' (lo + c.snd.fst - (c.snd.snd + 1)) (lo + c.snd.fst)
     pure (ForInStep.yield (none,c.snd.fst + 1,0))
    else pure (ForInStep.yield (none,c.snd.fst + 1,0))
   else do
    let x <- ltAt' (lo + c.snd.fst - 1) (lo + c.snd.fst)
    match x with
    | some b =>
     if b=true then pure (ForInStep.done (none,c.snd.fst,c.snd.snd))
     else pure (ForInStep.yield (none,c.snd.fst + 1,c.snd.snd + 1))
    | _=>pure (ForInStep.done (some none,c.snd.fst,c.snd.snd))
  | _=>pure (ForInStep.done (some none,c.snd.fst,c.snd.snd))
noncomputable def part2 (lo n nrem:Nat):StateT SortSt Sem (Option Nat):=do
 liftM (rule "list.sort.descending-run")
 let c <- down1 lo (n + 1) nrem
 match c.fst with
 | some r=>pure r
 | none =>
  if c.snd.snd > 0 then do
   reverseSlice' (lo + c.snd.fst - (c.snd.snd + 1)) (lo + c.snd.fst)
   end3 lo c.snd.fst nrem
  else end3 lo c.snd.fst nrem
theorem run_eq (lo nrem:Nat):countRun' lo nrem=(do
  let c <- up1 lo 1 nrem
  match c.fst with
  | some r=>pure r
  | none =>
   if (c.snd == nrem)=true then pure (some c.snd)
   else if c.snd > 1 then do
    let x <- ltAt' lo (lo + c.snd - 1)
    match x with
    | some b=>if b=true then pure (some c.snd) else do
      reverseSlice' lo (lo + c.snd)
      part2 lo c.snd nrem
    | _=>pure none
   else part2 lo c.snd nrem):=by
 rw [countRun'_eq]
 unfold part2 end3 down1 up1
 refine bind_congr fun c=>?_
 obtain ⟨r,n⟩:=c
 cases r with
 | some r=>rfl
 | none =>
  dsimp only
  split
  ·rfl
  ·split
   ·refine bind_congr fun x=>?_
    cases x with
    | none=>rfl
    | some b =>
     dsimp only
     split
     ·rfl
     ·refine bind_congr fun _=>bind_congr fun _=>bind_congr fun c2=>?_
      obtain ⟨r2,n2,q2⟩:=c2
      cases r2 with
      | some r2=>rfl
      | none =>
       dsimp only
       split
       ·refine bind_congr fun _=>bind_congr fun _=>bind_congr fun c3=>?_
        obtain ⟨r3,n3⟩:=c3
        cases r3 <;> rfl
       ·refine bind_congr fun _=>bind_congr fun c3=>?_
        obtain ⟨r3,n3⟩:=c3
        cases r3 <;> rfl
   ·refine bind_congr fun _=>bind_congr fun c2=>?_
    obtain ⟨r2,n2,q2⟩:=c2
    cases r2 with
    | some r2=>rfl
    | none =>
     dsimp only
     split
     ·refine bind_congr fun _=>bind_congr fun _=>bind_congr fun c3=>?_
      obtain ⟨r3,n3⟩:=c3
      cases r3 <;> rfl
     ·refine bind_congr fun _=>bind_congr fun c3=>?_
      obtain ⟨r3,n3⟩:=c3
      cases r3 <;> rfl
end
end GS
end L2
namespace L2
open PySem PySem.Spec PyProof.Rows PySem.W
namespace GS
section
variable {prog:Program}{w:World}{A:Around}{E:Value->Shared->Prop}{s:Shared}{rk:Keyed->Int}{κ:SortKind}{a0:Array Keyed}
noncomputable def Down (rk:Keyed->Int)(xs:Array Keyed)(lo n:Nat):Prop:=∀ i j,i<=j->j < n->Rk rk xs (lo + j)<=Rk rk xs (lo + i)
theorem s_up1 {st:SortSt}{lo a nrem:Nat}{Q:AscSt->SortSt->Prop}(T:Tells prog w A s κ rk a0)(O:Ok κ a0 st)(hn:lo + nrem<=a0.size)(ha:1<=a)(han:a<=nrem)(hs:Up rk (arrOf st) lo (lo + a))
  (h:∀ n,a<=n->n<=nrem->Up rk (arrOf st) lo (lo + n)->(n=nrem\/Rk rk (arrOf st) (lo + n) < Rk rk (arrOf st) (lo + n - 1))->Q (none,n) st):wpS (model prog w) A E s (up1 lo a nrem) Q st:=by
 unfold up1
 refine wpS_forRange (I:=fun x c st'=>st'=st/\c=(none,x)/\Up rk (arrOf st) lo (lo + x)) ?step ?fin ⟨rfl,rfl,hs⟩
 case fin =>
  rintro c st' ⟨rfl,rfl,hs'⟩
  rw [show max a nrem=nrem by omega] at hs' ⊢
  exact h nrem han (Nat.le_refl _) hs' (.inl rfl)
 case step =>
  rintro x c st' hax hxn ⟨rfl,rfl,hs'⟩
  dsimp only
  refine wpS_bind (s_ltAt T O (by omega) (by omega) ?_)
  by_cases hless:Rk rk (arrOf st') (lo + x) < Rk rk (arrOf st') (lo + x - 1)
  ·simp only [hless,decide_true,if_true]
   exact wpS_pure (h x hax (by omega) hs' (.inr hless))
  ·simp only [hless,decide_false,Bool.false_eq_true,if_false]
   refine wpS_pure ⟨rfl,rfl,fun i j hi hij hj=>?_⟩
   by_cases hjx:j < lo + x
   ·exact hs' i j hi hij hjx
   ·obtain rfl:j=lo + x:=by omega
    by_cases hi':i=lo + x
    ·subst hi'
     exact Int.le_refl _
    ·exact Int.le_trans (hs' i (lo + x - 1) hi (by omega) (by omega)) (Int.not_lt.mp hless)
theorem s_end3 {st0 st:SortSt}{lo n nrem:Nat}{Q:Option Nat->SortSt->Prop}(T:Tells prog w A s κ rk a0)(S:Step κ a0 lo st0 st)(hn:lo + nrem<=a0.size)(h1:1<=n)(hnn:n<=nrem)(hs:Down rk (arrOf st) lo n)
  (h:∀ m st',Step κ a0 lo st0 st'->1<=m->m<=nrem->Up rk (arrOf st') lo (lo + m)->Q (some m) st'):wpS (model prog w) A E s (end3 lo n nrem) Q st:=by
 unfold end3
 refine wpS_bind (s_rev ?_)
 have S':=S.mirror (i:=lo) (j:=lo + n) (Nat.le_refl _) (by omega)
 refine wpS_bind (s_up1 T S'.ok hn h1 hnn ?_ fun m hm1 hm2 hsm _=>wpS_pure (h m _ S' (by omega) hm2 hsm))
 intro i j hi hij hj
 have hsz:lo + n<=(arrOf st).size:=by
  rw [S.ok.size]
  omega
 show Rk rk (mirror (arrOf st) lo (lo + n) ((lo + n - lo) / 2)) i<=Rk rk (mirror (arrOf st) lo (lo + n) ((lo + n - lo) / 2)) j
 rw [Rk_mirror hsz,Rk_mirror hsz,if_pos (by omega),if_pos (by omega)]
 have:=hs (lo + n - 1 - j) (lo + n - 1 - i) (by omega) (by omega)
 rw [show lo + (lo + n - 1 - j)=lo + (lo + n) - 1 - j by omega,show lo + (lo + n - 1 - i)=lo + (lo + n) - 1 - i by omega] at this
 exact this
theorem s_down1 {st0 st:SortSt}{lo n nrem:Nat}{Q:DescSt->SortSt->Prop}(T:Tells prog w A s κ rk a0)(S:Step κ a0 lo st0 st)(hn:lo + nrem<=a0.size)(h1:1<=n)(hnn:n<=nrem)(hs:Down rk (arrOf st) lo n)
  (h:∀ m q st',Step κ a0 lo st0 st'->n<=m->m<=nrem->Down rk (arrOf st') lo m->q + 1<=m->(∀ i,m - (q + 1)<=i->i < m->Rk rk (arrOf st') (lo + i)=Rk rk (arrOf st') (lo + (m - 1)))->Q (none,m,q) st'):wpS (model prog w) A E s (down1 lo n nrem) Q st:=by
 unfold down1
 refine wpS_forRange (I:=fun x c st'=>∃ q,c=(none,x,q)/\Step κ a0 lo st0 st'/\Down rk (arrOf st') lo x/\q + 1<=x /\
   (∀ i,x - (q + 1)<=i->i < x->Rk rk (arrOf st') (lo + i)=Rk rk (arrOf st') (lo + (x - 1)))) ?step ?fin ⟨0,rfl,S,hs,by omega,fun i h1 h2=>by congr 1; omega⟩
 case fin =>
  rintro c st' ⟨q,rfl,S',hs',hq,he⟩
  rw [show max n nrem=nrem by omega] at hs' hq he ⊢
  exact h nrem q st' S' hnn (Nat.le_refl _) hs' hq he
 case step =>
  rintro x c st' hax hxn ⟨q,rfl,S',hs',hq,he⟩
  dsimp only
  have hsz:lo + x<=(arrOf st').size:=by
   rw [S'.ok.size]
   omega
  refine wpS_bind (s_ltAt T S'.ok (by omega) (by omega) ?_)
  by_cases hless:Rk rk (arrOf st') (lo + x) < Rk rk (arrOf st') (lo + x - 1)
  ·simp only [hless,decide_true,if_true]
   have step1:∀ xs:Array Keyed,(∀ k,Rk rk xs k=Rk rk (arrOf st') k)->Down rk xs lo (x + 1):=by
    intro xs hk i j hij hj
    rw [hk,hk]
    by_cases hjx:j < x
    ·exact hs' i j hij hjx
    ·obtain rfl:j=x:=by omega
     by_cases hi':i=j
     ·subst hi'
      exact Int.le_refl _
     ·have a1:=hs' i (j - 1) (by omega) (by omega)
      rw [show lo + (j - 1)=lo + j - 1 by omega] at a1
      exact Int.le_trans (Int.le_of_lt hless) a1
   by_cases hq0:q > 0
   ·rw [if_pos hq0]
    refine wpS_bind (s_rev (wpS_pure ⟨0,rfl,S'.mirror (by omega) (by omega),step1 _ (Rk_mirror_same hsz fun k k1 k2=>?_),by omega,fun i h1 h2=>by congr 1; omega⟩))
    have a1:=he (k - lo) (by omega) (by omega)
    rw [show lo + (k - lo)=k by omega,show lo + (x - 1)=lo + x - 1 by omega] at a1
    exact a1
   ·rw [if_neg hq0]
    exact wpS_pure ⟨0,rfl,S',step1 _ (fun _=>rfl),by omega,fun i h1 h2=>by congr 1; omega⟩
  ·simp only [hless,decide_false,Bool.false_eq_true,if_false]
   refine wpS_bind (s_ltAt T S'.ok (by omega) (by omega) ?_)
   by_cases hmore:Rk rk (arrOf st') (lo + x - 1) < Rk rk (arrOf st') (lo + x)
   ·simp only [hmore,decide_true,if_true]
    exact wpS_pure (h x q st' S' hax (by omega) hs' hq he)
   ·simp only [hmore,decide_false,Bool.false_eq_true,if_false]
    have heqx:Rk rk (arrOf st') (lo + x)=Rk rk (arrOf st') (lo + (x - 1)):=by
     rw [show lo + (x - 1)=lo + x - 1 by omega]
     omega
    refine wpS_pure ⟨q + 1,rfl,S',fun i j hij hj=>?_,by omega,fun i h1 h2=>?_⟩
    ·by_cases hjx:j < x
     ·exact hs' i j hij hjx
     ·obtain rfl:j=x:=by omega
      by_cases hi':i=j
      ·subst hi'
       exact Int.le_refl _
      ·rw [heqx]
       exact hs' i (j - 1) (by omega) (by omega)
    ·rw [show x + 1 - 1=x by omega]
     by_cases hix:i=x
     ·subst hix
      rfl
     ·rw [heqx]
      exact he i (by omega) (by omega)
theorem s_part2 {st0 st:SortSt}{lo n nrem:Nat}{Q:Option Nat->SortSt->Prop}(T:Tells prog w A s κ rk a0)(S:Step κ a0 lo st0 st)(hn:lo + nrem<=a0.size)(hnn:n + 1<=nrem)(hs:Down rk (arrOf st) lo (n + 1))
  (h:∀ m st',Step κ a0 lo st0 st'->1<=m->m<=nrem->Up rk (arrOf st') lo (lo + m)->Q (some m) st'):wpS (model prog w) A E s (part2 lo n nrem) Q st:=by
 unfold part2
 refine wpS_bind (wpS_lift (wpAny_rule ⟨rfl,?_⟩))
 refine wpS_bind (s_down1 T S hn (by omega) hnn hs fun m q st' S' hm1 hm2 hs' hq he=>?_)
 dsimp only
 have hsz:lo + m<=(arrOf st').size:=by
  rw [S'.ok.size]
  omega
 by_cases hq0:q > 0
 ·rw [if_pos hq0]
  refine wpS_bind (s_rev (s_end3 T (S'.mirror (by omega) (by omega)) hn (by omega) hm2 ?_ h))
  intro i j hij hj
  show Rk rk (mirror (arrOf st') _ _ _) (lo + j)<=Rk rk (mirror (arrOf st') _ _ _) (lo + i)
  have same:∀ k,lo + m - (q + 1)<=k->k < lo + m->Rk rk (arrOf st') k=Rk rk (arrOf st') (lo + m - 1):=fun k k1 k2=>by
   have a1:=he (k - lo) (by omega) (by omega)
   rw [show lo + (k - lo)=k by omega,show lo + (m - 1)=lo + m - 1 by omega] at a1
   exact a1
  rw [Rk_mirror_same hsz same,Rk_mirror_same hsz same]
  exact hs' i j hij hj
 ·rw [if_neg hq0]
  exact s_end3 T S' hn (by omega) hm2 hs' h
theorem s_run {st:SortSt}{lo nrem:Nat}{Q:Option Nat->SortSt->Prop}(T:Tells prog w A s κ rk a0)(O:Ok κ a0 st)(hn:lo + nrem<=a0.size)(h1:1<=nrem)
  (h:∀ m st',Step κ a0 lo st st'->1<=m->m<=nrem->Up rk (arrOf st') lo (lo + m)->Q (some m) st'):wpS (model prog w) A E s (countRun' lo nrem) Q st:=by
 have S:=Step.refl (lo:=lo) O
 rw [run_eq]
 refine wpS_bind (s_up1 T O hn (Nat.le_refl 1) h1 (fun i j hi hij hj=>by
  obtain rfl:i=j:=by omega
  exact Int.le_refl _) fun n hn1 hn2 hsn hor=>?_)
 dsimp only
 by_cases hnn:n=nrem
 ·rw [if_pos (by simpa using hnn)]
  exact wpS_pure (h n st S hn1 hn2 hsn)
 ·rw [if_neg (by simpa using hnn)]
  have hlt:Rk rk (arrOf st) (lo + n) < Rk rk (arrOf st) (lo + n - 1):=hor.resolve_left hnn
  have hsz:lo + n<=(arrOf st).size:=by
   rw [O.size]
   omega
  by_cases hgt:n > 1
  ·rw [if_pos hgt]
   refine wpS_bind (s_ltAt T O (by omega) (by omega) ?_)
   by_cases hrose:Rk rk (arrOf st) lo < Rk rk (arrOf st) (lo + n - 1)
   ·simp only [hrose,decide_true,if_true]
    exact wpS_pure (h n st S hn1 hn2 hsn)
   ·simp only [hrose,decide_false,Bool.false_eq_true,if_false]
    have hall:∀ k,lo<=k->k < lo + n->Rk rk (arrOf st) k=Rk rk (arrOf st) (lo + n - 1):=by
     intro k k1 k2
     have a1:=hsn lo k (Nat.le_refl _) k1 k2
     have a2:=hsn k (lo + n - 1) k1 (by omega) (by omega)
     omega
    refine wpS_bind (s_rev (s_part2 T (S.mirror (Nat.le_refl _) (by omega)) hn (by omega) ?_ h))
    intro i j hij hj
    show Rk rk (mirror (arrOf st) _ _ _) (lo + j)<=Rk rk (mirror (arrOf st) _ _ _) (lo + i)
    rw [Rk_mirror_same hsz hall,Rk_mirror_same hsz hall]
    by_cases hjn:j < n
    ·rw [hall (lo + i) (by omega) (by omega),hall (lo + j) (by omega) (by omega)]
     exact Int.le_refl _
    ·obtain rfl:j=n:=by omega
     by_cases hi':i=j
     ·subst hi'
      exact Int.le_refl _
     ·rw [hall (lo + i) (by omega) (by omega)]
      exact Int.le_of_lt hlt
  ·rw [if_neg hgt]
   obtain rfl:n=1:=by omega
   refine s_part2 T S hn (by omega) ?_ h
   intro i j hij hj
   by_cases hi':i=j
   ·subst hi'
    exact Int.le_refl _
   ·obtain rfl:i=0:=by omega
    obtain rfl:j=1:=by omega
    rw [Nat.add_sub_cancel] at hlt
    exact Int.le_of_lt hlt
theorem Rk_bubble {xs:Array Keyed}{src d:Nat}(hs:src < xs.size)(hd:d<=src)(k:Nat):Rk rk (bubble xs src d) k=if k=src - d then Rk rk xs src else if src - d < k/\k<=src then Rk rk xs (k - 1) else Rk rk xs k:=by
 have e:=getElem?_bubble hs d hd k
 by_cases h1:k=src - d
 ·rw [if_pos h1] at e ⊢
  exact Rk_congr e
 ·rw [if_neg h1] at e ⊢
  by_cases h2:src - d < k/\k<=src
  ·rw [if_pos h2] at e ⊢
   exact Rk_congr e
  ·rw [if_neg h2] at e ⊢
   exact Rk_congr e
theorem s_bin {st:SortSt}{lo n ok:Nat}{Q:Bool->SortSt->Prop}(T:Tells prog w A s κ rk a0)(O:Ok κ a0 st)(hn:lo + n<=a0.size)(hok:ok<=n)(hs:Up rk (arrOf st) lo (lo + ok))
  (h:∀ st',Step κ a0 lo st st'->Up rk (arrOf st') lo (lo + n)->Q true st'):wpS (model prog w) A E s (binarySort' lo n ok) Q st:=by
 rw [binarySort'_eq]
 refine wpS_bind (wpS_mono (wpS_forRange (I:=fun k c st'=>c=(none,())/\Step κ a0 lo st st'/\Up rk (arrOf st') lo (lo + min k n))
  (Q:=fun c st'=>c=(none,())/\Step κ a0 lo st st'/\Up rk (arrOf st') lo (lo + n)) ?step ?fin ?init) ?post)
 case post =>
  rintro c st' ⟨rfl,S',hs'⟩
  exact wpS_pure (h st' S' hs')
 case init =>
  refine ⟨rfl,Step.refl O,fun i j hi hij hj=>?_⟩
  by_cases h1:ok=0
  ·obtain rfl:i=j:=by omega
   exact Int.le_refl _
  ·exact hs i j hi hij (by omega)
 case fin =>
  rintro c st' ⟨hc,S',hs'⟩
  refine ⟨hc,S',?_⟩
  rwa [show min (max (max ok 1) n) n=n by omega] at hs'
 case step =>
  rintro k c st' hak hkn ⟨rfl,S',hs'⟩
  rw [show min k n=k by omega] at hs'
  have O':=S'.ok
  have hk:lo + k < a0.size:=by omega
  refine wpS_bind (wpS_mono (wpS_forRange (I:=fun x c st''=>st''=st'/\∃ l r,c=(none,l,r)/\l<=r/\r<=k/\r - l<=k - x /\
    (∀ i,i < l->Rk rk (arrOf st') (lo + i)<=Rk rk (arrOf st') (lo + k))/\(∀ i,r<=i->i < k->Rk rk (arrOf st') (lo + k) < Rk rk (arrOf st') (lo + i)))
   (Q:=fun c st''=>st''=st'/\∃ l r,c=(none,l,r)/\l<=k /\
    (∀ i,i < l->Rk rk (arrOf st') (lo + i)<=Rk rk (arrOf st') (lo + k))/\(∀ i,l<=i->i < k->Rk rk (arrOf st') (lo + k) < Rk rk (arrOf st') (lo + i))) ?istep ?ifin ?iinit) ?ipost)
  case iinit=>exact ⟨rfl,0,k,rfl,by omega,by omega,by omega,fun i hi=>by omega,fun i h1 h2=>by omega⟩
  case ifin =>
   rintro c st'' ⟨rfl,l,r,rfl,hlr,hrk,hm,hlo,hhi⟩
   obtain rfl:l=r:=by omega
   exact ⟨rfl,l,l,rfl,hrk,hlo,hhi⟩
  case istep =>
   rintro x c st'' _ hxk ⟨rfl,l,r,rfl,hlr,hrk,hm,hlo,hhi⟩
   dsimp only
   by_cases hge:l >= r
   ·rw [if_pos hge]
    obtain rfl:l=r:=by omega
    exact wpS_pure ⟨rfl,l,l,rfl,hrk,hlo,hhi⟩
   ·rw [if_neg hge]
    refine wpS_bind (s_ltAt T O' hk (by omega) ?_)
    by_cases hless:Rk rk (arrOf st'') (lo + k) < Rk rk (arrOf st'') (lo + (l + r) / 2)
    ·simp only [hless,decide_true,if_true]
     refine wpS_pure ⟨rfl,l,(l + r) / 2,rfl,by omega,by omega,by omega,hlo,fun i h1 h2=>?_⟩
     exact Int.lt_of_lt_of_le hless (hs' _ _ (by omega) (by omega) (by omega))
    ·simp only [hless,decide_false,Bool.false_eq_true,if_false]
     refine wpS_pure ⟨rfl,(l + r) / 2 + 1,r,rfl,by omega,by omega,by omega,fun i h1=>?_,hhi⟩
     exact Int.le_trans (hs' (lo + i) (lo + (l + r) / 2) (by omega) (by omega) (by omega)) (Int.not_lt.mp hless)
  case ipost =>
   rintro c st'' ⟨rfl,l,r,rfl,hlk,hlo,hhi⟩
   show wpS _ _ _ _ (do moveDown' (lo + k) (lo + l); pure (ForInStep.yield (none,()))) _ _
   rw [moveDown'_eq]
   have hks:lo + k < (arrOf st'').size:=by
    rw [O'.size]
    exact hk
   refine wpS_bind (wpS_modify (wpS_pure ⟨rfl,⟨⟨(bubble_perm _ _ _).trans O'.perm,O'.kind,O'.good⟩,S'.pend,fun i hi=>?_⟩,?_⟩))
   ·show (bubble (arrOf st'') (lo + k) (lo + k - (lo + l)))[i]?=_
    rw [getElem?_bubble hks _ (by omega),if_neg (by omega),if_neg (by omega)]
    exact S'.low i hi
   ·rw [show min (k + 1) n=k + 1 by omega]
    intro i j hi hij hj
    show Rk rk (bubble (arrOf st'') (lo + k) (lo + k - (lo + l))) i<=Rk rk (bubble (arrOf st'') (lo + k) (lo + k - (lo + l))) j
    rw [Rk_bubble hks (by omega),Rk_bubble hks (by omega),show lo + k - (lo + k - (lo + l))=lo + l by omega]
    have up:∀ a b,lo<=a->a<=b->b < lo + k->Rk rk (arrOf st'') a<=Rk rk (arrOf st'') b:=hs'
    have low:∀ a,lo<=a->a < lo + l->Rk rk (arrOf st'') a<=Rk rk (arrOf st'') (lo + k):=fun a a1 a2=>by
     have:=hlo (a - lo) (by omega)
     rwa [show lo + (a - lo)=a by omega] at this
    have high:∀ a,lo + l<=a->a < lo + k->Rk rk (arrOf st'') (lo + k) < Rk rk (arrOf st'') a:=fun a a1 a2=>by
     have:=hhi (a - lo) (by omega) (by omega)
     rwa [show lo + (a - lo)=a by omega] at this
    repeat' split
    all_goals first
     | (exfalso; omega)
     | exact Int.le_refl _
     | exact low _ (by omega) (by omega)
     | exact Int.le_of_lt (high _ (by omega) (by omega))
     | exact up _ _ (by omega) (by omega) (by omega)
end
end GS
end L2
namespace L2
open PySem PySem.Spec PyProof.Rows PySem.W
namespace GS
noncomputable def gallop':Bool->Keyed->Array Keyed->Nat->Nat->Nat->StateT SortSt Sem (Option Nat):=sortPriv% PySem.Builtin.gallop
noncomputable def mergeLo':Array Keyed->Array Keyed->StateT SortSt Sem (Array Keyed):=sortPriv% PySem.Builtin.mergeLo
noncomputable def mergeHi':Array Keyed->Array Keyed->StateT SortSt Sem (Array Keyed):=sortPriv% PySem.Builtin.mergeHi
section
variable {prog:Program}{w:World}{A:Around}{E:Value->Shared->Prop}{s:Shared}{rk:Keyed->Int}{κ:SortKind}{a0:Array Keyed}
noncomputable def bey (rk:Keyed->Int)(left:Bool)(key x:Keyed):Bool:=if left then decide (rk x < rk key) else !decide (rk key < rk x)
theorem s_gallop {st:SortSt}{left:Bool}{key:Keyed}{arr:Array Keyed}{base n hint:Nat}{Q:Option Nat->SortSt->Prop}(T:Tells prog w A s κ rk a0)(hk:kindOf st=κ)(hkey:key ∈ a0.toList)(b:Nat->Bool)
  (he:∀ i,i < n->∃ x,arr[base + i]?=some x/\x ∈ a0.toList/\b i=bey rk left key x) (mono:∀ i j,i<=j->j < n->b j=true->b i=true) (hh:hint < n)
  (h:∀ k,k<=n->(∀ i,i < k->b i=true)->(∀ i,k<=i->i < n->b i=false)->Q (some k) st):wpS (model prog w) A E s (gallop' left key arr base n hint) Q st:=by
 have one:∀ {i:Nat} {Q':Option Bool->SortSt->Prop},i < n->Q' (some (b i)) st->wpS (model prog w) A E s (do
   let x <- elem' arr (base + i)
   if left=true then lt' x key
    else do
     let r <- lt' key x
     pure (Option.map (fun x=>!x) r)) Q' st:=by
  intro i Q' hi hq
  obtain ⟨x,e1,e2,e3⟩:=he i hi
  refine wpS_bind (s_elem e1 ?_)
  unfold bey at e3
  cases left with
  | true =>
   rw [if_pos rfl] at e3 ⊢
   rw [e3] at hq
   exact s_lt T hk e2 hkey hq
  | false =>
   rw [if_neg Bool.false_ne_true] at e3 ⊢
   rw [e3] at hq
   exact wpS_bind (s_lt T hk hkey e2 (wpS_pure hq))
 have last:∀ {f:Nat->Option (Option Nat) × Nat × Nat->StateT SortSt Sem (ForInStep (Option (Option Nat) × Nat × Nat))} {g:Option (Option Nat) × Nat × Nat->StateT SortSt Sem (Option Nat)},
   (∀ x l r (R:ForInStep (Option (Option Nat) × Nat × Nat)->SortSt->Prop),l >= r->R (.done (none,l,r)) st->wpS (model prog w) A E s (f x (none,l,r)) R st) ->
   (∀ x l r (R:ForInStep (Option (Option Nat) × Nat × Nat)->SortSt->Prop),l < r->r<=n->R (.yield (if b (l + (r - l) / 2)=true then (none,l + (r - l) / 2 + 1,r) else (none,l,l + (r - l) / 2))) st->wpS (model prog w) A E s (f x (none,l,r)) R st) ->
   (∀ l r,Q (some r) st->wpS (model prog w) A E s (g (none,l,r)) Q st) ->
   ∀ (lo hi:Nat),lo<=hi->hi<=n->(∀ i,i < lo->b i=true)->(∀ i,hi<=i->i < n->b i=false)->wpS (model prog w) A E s (forIn [:n] ((none,lo,hi):Option (Option Nat) × Nat × Nat) f >>= g) Q st:=by
  intro f g f1 f2 g1 lo hi h1 h2 h3 h4
  refine wpS_bind (wpS_mono (wpS_forRange (I:=fun x c st'=>st'=st/\∃ l r,c=(none,l,r)/\l<=r/\r<=n/\r - l<=n - x/\(∀ i,i < l->b i=true)/\(∀ i,r<=i->i < n->b i=false))
   (Q:=fun c st'=>st'=st/\∃ l,c=(none,l,l)/\l<=n/\(∀ i,i < l->b i=true)/\(∀ i,l<=i->i < n->b i=false)) ?step ?fin ⟨rfl,lo,hi,rfl,h1,h2,by omega,h3,h4⟩) ?post)
  case fin =>
   rintro c st' ⟨rfl,l,r,rfl,a1,a2,a3,a4,a5⟩
   obtain rfl:l=r:=by omega
   exact ⟨rfl,l,rfl,a2,a4,a5⟩
  case post =>
   rintro c st' ⟨rfl,l,rfl,a2,a4,a5⟩
   exact g1 l l (h l a2 a4 a5)
  case step =>
   rintro x c st' _ hx ⟨rfl,l,r,rfl,a1,a2,a3,a4,a5⟩
   by_cases hge:l >= r
   ·obtain rfl:l=r:=by omega
    exact f1 x l l _ hge ⟨rfl,l,rfl,a2,a4,a5⟩
   ·refine f2 x l r _ (by omega) a2 ?_
    cases hb:b (l + (r - l) / 2) with
    | true =>
     rw [if_pos rfl]
     exact ⟨rfl,l + (r - l) / 2 + 1,r,rfl,by omega,a2,by omega,fun i hi=>mono i _ (by omega) (by omega) hb,a5⟩
    | false =>
     rw [if_neg Bool.false_ne_true]
     refine ⟨rfl,l,l + (r - l) / 2,rfl,by omega,by omega,by omega,a4,fun i i1 i2=>?_⟩
     cases hbi:b i with
     | false=>rfl
     | true =>
      have:=mono _ i i1 i2 hbi
      rw [hb] at this
      cases this
 refine wpS_bind (one hh ?_)
 dsimp only
 cases hb:b hint with
 | true =>
  rw [if_pos rfl]
  refine wpS_bind (wpS_mono (wpS_forRange (I:=fun x c st'=>st'=st/\∃ l o,c=(none,l,o)/\l < o/\hint + l < n/\b (hint + l)=true/\x + 1<=o)
   (Q:=fun c st'=>st'=st/\∃ l o,c=(none,l,o)/\l < o/\hint + l < n/\b (hint + l)=true/\(o >= n - hint\/(hint + o < n/\b (hint + o)=false))) ?step ?fin ⟨rfl,0,1,rfl,by omega,hh,hb,by omega⟩) ?post)
  case fin =>
   rintro c st' ⟨rfl,l,o,rfl,a1,a2,a3,a4⟩
   exact ⟨rfl,l,o,rfl,a1,a2,a3,.inl (by omega)⟩
  case step =>
   rintro x c st' _ hx ⟨rfl,l,o,rfl,a1,a2,a3,a4⟩
   dsimp only
   by_cases hge:o >= n - hint
   ·rw [if_pos hge]
    exact wpS_pure ⟨rfl,l,o,rfl,a1,a2,a3,.inl hge⟩
   ·rw [if_neg hge]
    refine wpS_bind (one (by omega) ?_)
    dsimp only
    cases hbo:b (hint + o) with
    | false =>
     rw [if_pos (by decide)]
     exact wpS_pure ⟨rfl,l,o,rfl,a1,a2,a3,.inr ⟨by omega,hbo⟩⟩
    | true =>
     rw [if_neg (by decide)]
     exact wpS_pure ⟨rfl,o,2 * o + 1,rfl,by omega,by omega,hbo,by omega⟩
  case post =>
   rintro c st' ⟨rfl,l,o,rfl,a1,a2,a3,a4⟩
   refine last (fun x l r R hge hR=>?_) (fun x l r R hlt hr hR=>?_) (fun l r hq=>wpS_pure hq) (hint + l + 1) (hint + min o (n - hint)) (by omega) (by omega) (fun i hi=>mono i (hint + l) (by omega) a2 a3) fun i i1 i2=>?_
   ·dsimp only
    rw [if_pos hge]
    exact wpS_pure hR
   ·dsimp only
    rw [if_neg (by omega)]
    refine wpS_bind (one (by omega) ?_)
    dsimp only
    cases hbm:b (l + (r - l) / 2) with
    | true =>
     rw [hbm,if_pos rfl] at hR
     rw [if_pos rfl]
     exact wpS_pure hR
    | false =>
     rw [hbm,if_neg Bool.false_ne_true] at hR
     rw [if_neg Bool.false_ne_true]
     exact wpS_pure hR
   ·rcases a4 with a4 | ⟨a4,a5⟩
    ·omega
    ·cases hbi:b i with
     | false=>rfl
     | true =>
      have:=mono _ i (show hint + o<=i by omega) i2 hbi
      rw [a5] at this
      cases this
 | false =>
  rw [if_neg Bool.false_ne_true]
  refine wpS_bind (wpS_mono (wpS_forRange (I:=fun x c st'=>st'=st/\∃ l o,c=(none,l,o)/\l < o/\l<=hint/\b (hint - l)=false/\x + 1<=o)
   (Q:=fun c st'=>st'=st/\∃ l o,c=(none,l,o)/\l < o/\l<=hint/\b (hint - l)=false/\(o >= hint + 1\/(o<=hint/\b (hint - o)=true))) ?step ?fin ⟨rfl,0,1,rfl,by omega,by omega,hb,by omega⟩) ?post)
  case fin =>
   rintro c st' ⟨rfl,l,o,rfl,a1,a2,a3,a4⟩
   exact ⟨rfl,l,o,rfl,a1,a2,a3,.inl (by omega)⟩
  case step =>
   rintro x c st' _ hx ⟨rfl,l,o,rfl,a1,a2,a3,a4⟩
   dsimp only
   by_cases hge:o >= hint + 1
   ·rw [if_pos hge]
    exact wpS_pure ⟨rfl,l,o,rfl,a1,a2,a3,.inl hge⟩
   ·rw [if_neg hge]
    refine wpS_bind (one (by omega) ?_)
    dsimp only
    cases hbo:b (hint - o) with
    | true =>
     rw [if_pos rfl]
     exact wpS_pure ⟨rfl,l,o,rfl,a1,a2,a3,.inr ⟨by omega,hbo⟩⟩
    | false =>
     rw [if_neg (by decide)]
     exact wpS_pure ⟨rfl,o,2 * o + 1,rfl,by omega,by omega,hbo,by omega⟩
  case post =>
   rintro c st' ⟨rfl,l,o,rfl,a1,a2,a3,a4⟩
   refine last (fun x l r R hge hR=>?_) (fun x l r R hlt hr hR=>?_) (fun l r hq=>wpS_pure hq) (hint + 1 - min o (hint + 1)) (hint - l) (by omega) (by omega) (fun i hi=>?_) fun i i1 i2=>?_
   ·dsimp only
    rw [if_pos hge]
    exact wpS_pure hR
   ·dsimp only
    rw [if_neg (by omega)]
    refine wpS_bind (one (by omega) ?_)
    dsimp only
    cases hbm:b (l + (r - l) / 2) with
    | true =>
     rw [hbm,if_pos rfl] at hR
     rw [if_pos rfl]
     exact wpS_pure hR
    | false =>
     rw [hbm,if_neg Bool.false_ne_true] at hR
     rw [if_neg Bool.false_ne_true]
     exact wpS_pure hR
   ·rcases a4 with a4 | ⟨a4,a5⟩
    ·omega
    ·exact mono i (hint - o) (by omega) (by omega) a5
   ·cases hbi:b i with
    | false=>rfl
    | true =>
     have:=mono _ i i1 i2 hbi
     rw [a3] at this
     cases this
end
end GS
end L2
namespace L2
open PySem PySem.Spec PyProof.Rows PySem.W
namespace GS
structure MI (rk:Keyed->Int)(aL bL:List Keyed)(ia ib:Nat)(oL:List Keyed):Prop where
 perm:oL.Perm (aL.take ia++bL.take ib)
 srt:oL.Pairwise fun x y=>rk x<=rk y
 la:∀ x ∈ oL,∀ y ∈ aL.drop ia,rk x<=rk y
 lb:∀ x ∈ oL,∀ y ∈ bL.drop ib,rk x<=rk y
section
variable {rk:Keyed->Int}{aL bL oL:List Keyed}{ia ib:Nat}
theorem MI.swap (M:MI rk aL bL ia ib oL):MI rk bL aL ib ia oL:=⟨M.perm.trans List.perm_append_comm,M.srt,M.lb,M.la⟩
theorem take_more (l:List Keyed)(i k:Nat):l.take (i + k)=l.take i++(l.drop i).take k:=by
 rw [List.take_add]
theorem MI.takeA (M:MI rk aL bL ia ib oL)(sa:aL.Pairwise fun x y=>rk x<=rk y)(k:Nat)(h:∀ x ∈ (aL.drop ia).take k,∀ y ∈ bL.drop ib,rk x<=rk y):MI rk aL bL (ia + k) ib (oL++(aL.drop ia).take k):=by
 have sd:(aL.drop ia).Pairwise fun x y=>rk x<=rk y:=sa.sublist (List.drop_sublist _ _)
 have e2:(aL.drop ia).drop k=aL.drop (ia + k):=List.drop_drop
 refine ⟨?_,?_,fun x hx y hy=>?_,fun x hx y hy=>?_⟩
 ·rw [take_more,List.append_assoc]
  refine (M.perm.append_right _).trans ?_
  rw [List.append_assoc]
  exact List.Perm.append_left _ List.perm_append_comm
 ·rw [List.pairwise_append]
  exact ⟨M.srt,sd.sublist (List.take_sublist _ _),fun x hx y hy=>M.la x hx y (List.mem_of_mem_take hy)⟩
 ·rw [<- e2] at hy
  rcases List.mem_append.mp hx with hx | hx
  ·exact M.la x hx y (List.mem_of_mem_drop hy)
  ·have:=sd
   rw [<- List.take_append_drop k (aL.drop ia),List.pairwise_append] at this
   exact this.2.2 x hx y hy
 ·rcases List.mem_append.mp hx with hx | hx
  ·exact M.lb x hx y hy
  ·exact h x hx y hy
theorem MI.takeB (M:MI rk aL bL ia ib oL)(sb:bL.Pairwise fun x y=>rk x<=rk y)(k:Nat)(h:∀ x ∈ (bL.drop ib).take k,∀ y ∈ aL.drop ia,rk x<=rk y):MI rk aL bL ia (ib + k) (oL++(bL.drop ib).take k):=(M.swap.takeA sb k h).swap
noncomputable def Mg (rk:Keyed->Int)(aL bL oL:List Keyed):Prop:=oL.Perm (aL++bL)/\oL.Pairwise fun x y=>rk x<=rk y
theorem MI.all (M:MI rk aL bL ia ib oL)(ha:aL.length<=ia)(hb:bL.length<=ib):Mg rk aL bL oL:=by
 have:=M.perm
 rw [List.take_of_length_le ha,List.take_of_length_le hb] at this
 exact ⟨this,M.srt⟩
theorem MI.doneB (M:MI rk aL bL ia ib oL)(sa:aL.Pairwise fun x y=>rk x<=rk y)(hb:bL.length<=ib):Mg rk aL bL (oL++aL.drop ia):=by
 have:=M.takeA sa (aL.drop ia).length (fun x _ y hy=>by
  rw [List.drop_eq_nil_of_le hb] at hy
  cases hy)
 rw [List.take_length] at this
 exact this.all (by rw [List.length_drop]; omega) hb
theorem MI.lastA (M:MI rk aL bL ia ib oL)(sa:aL.Pairwise fun x y=>rk x<=rk y)(sb:bL.Pairwise fun x y=>rk x<=rk y)(h:∀ x ∈ bL,∀ y ∈ aL.drop ia,rk x<=rk y):Mg rk aL bL (oL++bL.drop ib++aL.drop ia):=by
 have M2:=M.takeB sb (bL.drop ib).length (fun x hx y hy=>h x (List.mem_of_mem_drop (List.mem_of_mem_take hx)) y hy)
 rw [List.take_length] at M2
 exact M2.doneB sa (by rw [List.length_drop]; omega)
theorem ext_toList (a:Array Keyed)(i j:Nat)(hj:i<=j):(a.extract i j).toList=(a.toList.drop i).take (j - i):=by
 rw [Array.toList_extract,List.extract_eq_take_drop]
theorem ext_end (a:Array Keyed)(i:Nat):(a.extract i a.size).toList=a.toList.drop i:=by
 rw [Array.toList_extract,List.extract_eq_take_drop,List.take_of_length_le]
 rw [List.length_drop,Array.length_toList]
 exact Nat.le_refl _
theorem one_at {a:Array Keyed}{i:Nat}{x:Keyed}(h:a[i]?=some x):(a.toList.drop i).take 1=[x]:=by
 have hi:i < a.toList.length:=by
  rw [Array.length_toList]
  exact (Array.getElem?_eq_some_iff.mp h).1
 rw [List.drop_eq_getElem_cons hi,List.take_succ_cons,List.take_zero]
 have:a.toList[i]?=some x:=by rw [Array.getElem?_toList]; exact h
 rw [List.getElem?_eq_getElem hi] at this
 rw [Option.some.inj this]
end
section
variable {prog:Program}{w:World}{A:Around}{E:Value->Shared->Prop}{s:Shared}{rk:Keyed->Int}{κ:SortKind}{a0:Array Keyed}
structure Kept (st st':SortSt):Prop where
 arr:arrOf st'=arrOf st
 kind:kindOf st'=kindOf st
 pend:pendingOf st'=pendingOf st
 bad:failedOf st'=failedOf st
noncomputable def setG':Nat->StateT SortSt Sem Unit:=sortPriv% PySem.Builtin.setMinGallop
theorem Kept.refl (st:SortSt):Kept st st:=⟨rfl,rfl,rfl,rfl⟩
theorem s_setG {st0 st:SortSt}{g:Nat}{Q:Unit->SortSt->Prop}(k:Kept st0 st)(h:∀ st',Kept st0 st'->Q () st'):wpS (model prog w) A E s (setG' g) Q st:=by
 have e:setG' g=modify fun c=>SortSt.mk' (kindOf c) (arrOf c) (pendingOf c) g (failedOf c):=rfl
 rw [e]
 exact wpS_modify (h _ ⟨k.arr,k.kind,k.pend,k.bad⟩)
theorem s_ite {α:Type}{c:Prop} [Decidable c]{x y:StateT SortSt Sem α}{Q:α->SortSt->Prop}{st:SortSt}(h1:c->wpS (model prog w) A E s x Q st)(h2:¬ c->wpS (model prog w) A E s y Q st):wpS (model prog w) A E s (if c then x else y) Q st:=by
 by_cases hc:c
 ·rw [if_pos hc]
  exact h1 hc
 ·rw [if_neg hc]
  exact h2 hc
theorem get_at {a:Array Keyed}{i:Nat}(h:i < a.size):∃ x,a[i]?=some x/\x ∈ a.toList:=⟨a[i],getElem?_pos a i h,by simp⟩
theorem head_le {a:Array Keyed}(sa:a.toList.Pairwise fun x y=>rk x<=rk y){i:Nat}{x:Keyed}(e:a[i]?=some x):∀ y ∈ a.toList.drop i,rk x<=rk y:=by
 have hi:i < a.toList.length:=by
  rw [Array.length_toList]
  exact (Array.getElem?_eq_some_iff.mp e).1
 have e':a.toList[i]?=some x:=by rw [Array.getElem?_toList]; exact e
 rw [List.getElem?_eq_getElem hi] at e'
 have ex:=Option.some.inj e'
 have sd:=sa.sublist (List.drop_sublist i a.toList)
 rw [List.drop_eq_getElem_cons hi,ex,List.pairwise_cons] at sd
 rw [List.drop_eq_getElem_cons hi,ex]
 intro y hy
 rcases List.mem_cons.mp hy with rfl | hy
 ·exact Int.le_refl _
 ·exact sd.1 y hy
theorem done_arr {a b out:Array Keyed}{ia ib:Nat}(M:MI rk a.toList b.toList ia ib out.toList)(sa:a.toList.Pairwise fun x y=>rk x<=rk y)(hb:b.size<=ib):Mg rk a.toList b.toList (out++a.extract ia a.size++b.extract ib b.size).toList:=by
 rw [Array.toList_append,Array.toList_append,ext_end,ext_end,List.drop_eq_nil_of_le (as:=b.toList) (by rw [Array.length_toList]; exact hb),List.append_nil]
 exact M.doneB sa (by rw [Array.length_toList]; exact hb)
theorem last_arr {a b out:Array Keyed}{ia ib:Nat}(M:MI rk a.toList b.toList ia ib out.toList)(sa:a.toList.Pairwise fun x y=>rk x<=rk y)(sb:b.toList.Pairwise fun x y=>rk x<=rk y)(hl:∀ x ∈ b.toList,∀ y,a[a.size - 1]?=some y->rk x<=rk y)(ha:ia + 1=a.size):Mg rk a.toList b.toList (out++b.extract ib b.size++a.extract ia a.size).toList:=by
 rw [Array.toList_append,Array.toList_append,ext_end,ext_end]
 refine M.lastA sa sb fun x hx y hy=>?_
 have hi:ia < a.toList.length:=by rw [Array.length_toList]; omega
 rw [List.drop_eq_getElem_cons hi,List.drop_eq_nil_of_le (by rw [Array.length_toList]; omega)] at hy
 have ey:y=a.toList[ia]:=by simpa using hy
 refine hl x hx y ?_
 rw [show a.size - 1=ia by omega,<- Array.getElem?_toList,List.getElem?_eq_getElem hi,ey]
theorem push_list (out:Array Keyed)(x:Keyed):(out.push x).toList=out.toList++[x]:=Array.toList_push ..
theorem MI.oneB {a b out:Array Keyed}{ia ib:Nat}{x:Keyed}(M:MI rk a.toList b.toList ia ib out.toList)(sb:b.toList.Pairwise fun x y=>rk x<=rk y)(e:b[ib]?=some x)(h:∀ y ∈ a.toList.drop ia,rk x<=rk y):MI rk a.toList b.toList ia (ib + 1) (out.push x).toList:=by
 rw [push_list,<- one_at e]
 refine M.takeB sb 1 fun z hz y hy=>?_
 rw [one_at e] at hz
 have ez:z=x:=by simpa using hz
 rw [ez]
 exact h y hy
theorem MI.oneA {a b out:Array Keyed}{ia ib:Nat}{x:Keyed}(M:MI rk a.toList b.toList ia ib out.toList)(sa:a.toList.Pairwise fun x y=>rk x<=rk y)(e:a[ia]?=some x)(h:∀ y ∈ b.toList.drop ib,rk x<=rk y):MI rk a.toList b.toList (ia + 1) ib (out.push x).toList:=(MI.oneB M.swap sa e h).swap
theorem MI.someA {a b out:Array Keyed}{ia ib k:Nat}{y:Keyed}(M:MI rk a.toList b.toList ia ib out.toList)(sa:a.toList.Pairwise fun x y=>rk x<=rk y)(sb:b.toList.Pairwise fun x y=>rk x<=rk y)(e:b[ib]?=some y)(h:∀ i x,i < k->a[ia + i]?=some x->rk x<=rk y):MI rk a.toList b.toList (ia + k) ib (out++a.extract ia (ia + k)).toList:=by
 rw [Array.toList_append,ext_toList _ _ _ (Nat.le_add_right _ _),Nat.add_sub_cancel_left]
 refine M.takeA sa k fun x hx z hz=>Int.le_trans ?_ (head_le sb e z hz)
 obtain ⟨i,hi,ex⟩:=List.getElem_of_mem hx
 have hik:i < k:=by
  rw [List.length_take] at hi
  omega
 refine h i x hik ?_
 have:((a.toList.drop ia).take k)[i]?=some x:=by rw [List.getElem?_eq_getElem hi,ex]
 rw [List.getElem?_take,if_pos hik,List.getElem?_drop,Array.getElem?_toList] at this
 exact this
theorem MI.someB {a b out:Array Keyed}{ia ib k:Nat}{y:Keyed}(M:MI rk a.toList b.toList ia ib out.toList)(sa:a.toList.Pairwise fun x y=>rk x<=rk y)(sb:b.toList.Pairwise fun x y=>rk x<=rk y)(e:a[ia]?=some y)(h:∀ i x,i < k->b[ib + i]?=some x->rk x<=rk y):MI rk a.toList b.toList ia (ib + k) (out++b.extract ib (ib + k)).toList:=(MI.someA M.swap sb sa e h).swap
end
end GS
end L2
namespace L2
open PySem PySem.Spec PyProof.Rows PySem.W
namespace GS
section
variable {prog:Program}{w:World}{A:Around}{E:Value->Shared->Prop}{s:Shared}{rk:Keyed->Int}{κ:SortKind}{a0:Array Keyed}
theorem s_gallopR {st:SortSt}{key:Keyed}{a:Array Keyed}{base n hint:Nat}{Q:Option Nat->SortSt->Prop}(T:Tells prog w A s κ rk a0)(hk:kindOf st=κ)(hkey:key ∈ a0.toList)(ma:∀ x ∈ a.toList,x ∈ a0.toList)(up:∀ i j x y,base<=i->i<=j->j < base + n->a[i]?=some x->a[j]?=some y->rk x<=rk y)(hn:base + n<=a.size)(hh:hint < n)
  (h:∀ k,k<=n->(∀ i x,i < k->a[base + i]?=some x->rk x<=rk key)->(∀ i x,k<=i->i < n->a[base + i]?=some x->rk key < rk x)->Q (some k) st):wpS (model prog w) A E s (gallop' false key a base n hint) Q st:=by
 have he:∀ i,i < n->∃ x,a[base + i]?=some x/\x ∈ a.toList:=fun i hi=>get_at (by omega)
 refine s_gallop T hk hkey (fun i=>match a[base + i]? with | some x=>bey rk false key x | none=>false) (fun i hi=>?_) (fun i j hij hj hb=>?_) hh fun k hk1 h1 h2=>h k hk1 (fun i x hi e=>?_) fun i x hi1 hi2 e=>?_
 ·obtain ⟨x,e,m⟩:=he i hi
  refine ⟨x,e,ma x m,?_⟩
  try dsimp only
  rw [e]
 ·obtain ⟨x,ex,_⟩:=he i (by omega)
  obtain ⟨y,ey,_⟩:=he j hj
  try dsimp only at hb ⊢
  rw [ey] at hb
  rw [ex]
  have:=up (base + i) (base + j) x y (by omega) (by omega) (by omega) ex ey
  unfold bey at hb ⊢
  simp only [Bool.false_eq_true,if_false,Bool.not_eq_true',decide_eq_false_iff_not] at hb ⊢
  omega
 ·have:=h1 i hi
  try dsimp only at this
  rw [e] at this
  unfold bey at this
  simp only [Bool.false_eq_true,if_false,Bool.not_eq_true',decide_eq_false_iff_not] at this
  omega
 ·have:=h2 i hi1 hi2
  try dsimp only at this
  rw [e] at this
  unfold bey at this
  simp only [Bool.false_eq_true,if_false,Bool.not_eq_false',decide_eq_true_eq] at this
  exact this
theorem s_gallopL {st:SortSt}{key:Keyed}{a:Array Keyed}{base n hint:Nat}{Q:Option Nat->SortSt->Prop}(T:Tells prog w A s κ rk a0)(hk:kindOf st=κ)(hkey:key ∈ a0.toList)(ma:∀ x ∈ a.toList,x ∈ a0.toList)(up:∀ i j x y,base<=i->i<=j->j < base + n->a[i]?=some x->a[j]?=some y->rk x<=rk y)(hn:base + n<=a.size)(hh:hint < n)
  (h:∀ k,k<=n->(∀ i x,i < k->a[base + i]?=some x->rk x < rk key)->(∀ i x,k<=i->i < n->a[base + i]?=some x->rk key<=rk x)->Q (some k) st):wpS (model prog w) A E s (gallop' true key a base n hint) Q st:=by
 have he:∀ i,i < n->∃ x,a[base + i]?=some x/\x ∈ a.toList:=fun i hi=>get_at (by omega)
 refine s_gallop T hk hkey (fun i=>match a[base + i]? with | some x=>bey rk true key x | none=>false) (fun i hi=>?_) (fun i j hij hj hb=>?_) hh fun k hk1 h1 h2=>h k hk1 (fun i x hi e=>?_) fun i x hi1 hi2 e=>?_
 ·obtain ⟨x,e,m⟩:=he i hi
  refine ⟨x,e,ma x m,?_⟩
  try dsimp only
  rw [e]
 ·obtain ⟨x,ex,_⟩:=he i (by omega)
  obtain ⟨y,ey,_⟩:=he j hj
  try dsimp only at hb ⊢
  rw [ey] at hb
  rw [ex]
  have:=up (base + i) (base + j) x y (by omega) (by omega) (by omega) ex ey
  unfold bey at hb ⊢
  simp only [if_true,decide_eq_true_eq] at hb ⊢
  omega
 ·have:=h1 i hi
  try dsimp only at this
  rw [e] at this
  unfold bey at this
  simp only [if_true,decide_eq_true_eq] at this
  exact this
 ·have:=h2 i hi1 hi2
  try dsimp only at this
  rw [e] at this
  unfold bey at this
  simp only [if_true,decide_eq_false_iff_not] at this
  omega
theorem up_at {a:Array Keyed}(sa:a.toList.Pairwise fun x y=>rk x<=rk y){i j:Nat}{x y:Keyed}(hij:i<=j)(ex:a[i]?=some x)(ey:a[j]?=some y):rk x<=rk y:=by
 refine head_le sa ex y ?_
 have hj:j < a.toList.length:=by
  rw [Array.length_toList]
  exact (Array.getElem?_eq_some_iff.mp ey).1
 refine List.mem_of_getElem? (i:=j - i) ?_
 rw [List.getElem?_drop,Array.getElem?_toList,show i + (j - i)=j by omega]
 exact ey
set_option maxHeartbeats 8000000 in
theorem via {P:Prop}(h:∀ G:Prop,(P->G)->G):P:=h P id
structure Key (P:Prop):Prop where
 get:P
theorem cut {P R:Prop}(k:P)(h:Key P->R):R:=h ⟨k⟩
theorem s_mergeLo {st0:SortSt}{a b:Array Keyed}{Q:Array Keyed->SortSt->Prop}(T:Tells prog w A s κ rk a0)(hk:kindOf st0=κ)(ma:∀ x ∈ a.toList,x ∈ a0.toList)(mb:∀ x ∈ b.toList,x ∈ a0.toList)(sa:a.toList.Pairwise fun x y=>rk x<=rk y)(sb:b.toList.Pairwise fun x y=>rk x<=rk y)
  (ha:0 < a.size) (hb:0 < b.size) (h0:∀ x y,b[0]?=some x->y ∈ a.toList->rk x<=rk y) (hl':∀ x ∈ b.toList,∀ y,a[a.size - 1]?=some y->rk x < rk y)
  (h:∀ out st',Kept st0 st'->Mg rk a.toList b.toList out.toList->Q out st'):wpS (model prog w) A E s (mergeLo' a b) Q st0:=by
 have hl:∀ x ∈ b.toList,∀ y,a[a.size - 1]?=some y->rk x<=rk y:=fun x hx y hy=>Int.le_of_lt (hl' x hx y hy)
 refine wpS_bind (wpS_lift (wpAny_rule ⟨rfl,?_⟩))
 obtain ⟨b0,eb0,_⟩:=get_at hb
 refine wpS_bind (s_elem eb0 ?_)
 have M0:MI rk a.toList b.toList 0 0 (#[]:Array Keyed).toList:=⟨by simp,List.Pairwise.nil,(fun x hx=>nomatch hx),(fun x hx=>nomatch hx)⟩
 have M1:MI rk a.toList b.toList 0 1 (#[b0]:Array Keyed).toList:=MI.oneB M0 sb eb0 fun y hy=>h0 b0 y eb0 (by simpa using hy)
 dsimp -zeta only
 refine s_ite (fun hc=>wpS_pure (h _ _ (Kept.refl _) (done_arr M1 sa (by rw [show 1=b.size by simpa using hc]; exact Nat.le_refl _)))) fun hc=>?_
 refine s_ite (fun hc2=>wpS_pure (h _ _ (Kept.refl _) (last_arr M1 sa sb hl (by simpa using hc2)))) fun hc2=>?_
 have hb2:1 < b.size:=by
  have:¬ 1=b.size:=by simpa using hc
  omega
 have ha2:0 + 1 < a.size:=by
  have:¬ 0 + 1=a.size:=by simpa using hc2
  omega
 refine wpS_bind (wpS_get ?_)
 refine wpS_bind (wpS_mono (wpS_forRange (I:=fun x c st'=>∃ out ia ib mg,c=(none,out,ia,ib,mg)/\MI rk a.toList b.toList ia ib out.toList/\ia + 1 < a.size/\ib < b.size/\x + 1<=ia + ib/\Kept st0 st')
  (Q:=fun c st'=>∃ res,c.1=some res/\Mg rk a.toList b.toList res.toList/\Kept st0 st') ?step ?fin ⟨_,0,1,_,rfl,M1,ha2,hb2,by omega,Kept.refl _⟩) ?post)
 case fin =>
  rintro c st' ⟨out,ia,ib,mg,rfl,M,h1,h2,h3,k⟩
  omega
 case post =>
  rintro ⟨c1,c2⟩ st' ⟨res,e,hM,k⟩
  dsimp only at e ⊢
  subst e
  exact wpS_pure (h _ _ k hM)
 case step =>
  intro x0 c st1 _ hx0 hI
  refine via fun G hG=>?_
  obtain ⟨out,ia,ib,mg,rfl,M,h1,h2,h3,k1⟩:=hI
  refine hG ?_
  clear hG
  have hk1:kindOf st1=κ:=k1.kind.trans hk
  dsimp -zeta only
  refine wpS_bind (wpS_mono (wpS_forRange (I:=fun x c st'=>st'=st1/\∃ out ia ib ac bc,c=(none,out,ia,ib,ac,bc)/\MI rk a.toList b.toList ia ib out.toList/\ia + 1 < a.size/\ib < b.size/\x0 + 1 + x<=ia + ib)
   (Q:=fun c st'=>st'=st1/\((∃ res,c.1=some res/\Mg rk a.toList b.toList res.toList)\/∃ out ia ib ac bc,c=(none,out,ia,ib,ac,bc)/\MI rk a.toList b.toList ia ib out.toList/\ia + 1 < a.size/\ib < b.size/\x0 + 2<=ia + ib)) ?step1 ?fin1 ⟨rfl,_,_,_,_,_,rfl,M,h1,h2,by omega⟩) ?post1)
  case fin1 =>
   rintro c st' ⟨rfl,out,ia,ib,ac,bc,rfl,M,h1,h2,h3⟩
   exact ⟨rfl,.inr ⟨out,ia,ib,ac,bc,rfl,M,h1,h2,by omega⟩⟩
  case step1 =>
   intro x c st' _ hx hI
   refine via fun G hG=>?_
   obtain ⟨rfl,out,ia,ib,ac,bc,rfl,M,h1,h2,h3⟩:=hI
   obtain ⟨y,ey,my⟩:=get_at h2
   obtain ⟨z,ez,mz⟩:=get_at (a:=a) (i:=ia) (by omega)
   refine hG ?_
   clear hG
   dsimp -zeta only
   refine wpS_bind (s_elem ey (wpS_bind (s_elem ez (wpS_bind (s_lt T hk1 (mb y my) (ma z mz) ?_)))))
   dsimp -zeta only
   refine s_ite (fun hlt=>?_) fun hlt=>?_
   ·have hlt':rk y < rk z:=of_decide_eq_true hlt
    have M2:=MI.oneB M sb ey fun v hv=>Int.le_trans (Int.le_of_lt hlt') (head_le sa ez v hv)
    refine wpS_bind (s_elem ey ?_)
    refine s_ite (fun he=>wpS_pure ⟨rfl,.inl ⟨_,rfl,done_arr M2 sa (by rw [show ib + 1=b.size by simpa using he]; exact Nat.le_refl _)⟩⟩) fun he=>?_
    have hb3:ib + 1 < b.size:=by
     have:¬ ib + 1=b.size:=by simpa using he
     omega
    exact s_ite (fun _=>wpS_pure ⟨rfl,.inr ⟨_,_,_,_,_,rfl,M2,h1,hb3,by omega⟩⟩) fun _=>wpS_pure ⟨rfl,_,_,_,_,_,rfl,M2,h1,hb3,by omega⟩
   ·have hlt':¬ rk y < rk z:=fun q=>hlt (decide_eq_true q)
    have M2:=MI.oneA M sa ez fun v hv=>Int.le_trans (Int.not_lt.mp hlt') (head_le sb ey v hv)
    refine wpS_bind (s_elem ez ?_)
    refine s_ite (fun he=>wpS_pure ⟨rfl,.inl ⟨_,rfl,last_arr M2 sa sb hl (by simpa using he)⟩⟩) fun he=>?_
    have ha3:ia + 1 + 1 < a.size:=by
     have:¬ ia + 1 + 1=a.size:=by simpa using he
     omega
    exact s_ite (fun _=>wpS_pure ⟨rfl,.inr ⟨_,_,_,_,_,rfl,M2,ha3,h2,by omega⟩⟩) fun _=>wpS_pure ⟨rfl,_,_,_,_,_,rfl,M2,ha3,h2,by omega⟩
  case post1 =>
   intro c st' hI
   refine via fun G hG=>?_
   rcases hI with ⟨rfl,hc1 | ⟨out,ia,ib,ac,bc,rfl,M,h1,h2,h3⟩⟩
   all_goals (refine hG ?_; clear hG)
   ·obtain ⟨res,e,hM⟩:=hc1
    obtain ⟨c1,c2⟩:=c
    dsimp only at e ⊢
    subst e
    exact wpS_pure ⟨res,rfl,hM,k1⟩
   dsimp -zeta only
   refine wpS_bind (wpS_lift (wpAny_rule ⟨rfl,?_⟩))
   refine wpS_bind (wpS_mono (wpS_forRange (I:=fun x c st2=>∃ out ia ib mg ac bc,c=(none,out,ia,ib,mg,ac,bc)/\MI rk a.toList b.toList ia ib out.toList/\ia + 1 < a.size/\ib < b.size/\x0 + 2<=ia + ib/\Kept st0 st2)
    (Q:=fun c st2=>(∃ res,c.1=some res/\Mg rk a.toList b.toList res.toList/\Kept st0 st2)\/∃ out ia ib mg ac bc,c=(none,out,ia,ib,mg,ac,bc)/\MI rk a.toList b.toList ia ib out.toList/\ia + 1 < a.size/\ib < b.size/\x0 + 2<=ia + ib/\Kept st0 st2) ?step2 ?fin2 ⟨_,_,_,_,_,_,rfl,M,h1,h2,h3,k1⟩) ?post2)
   case fin2 =>
    rintro c st2 hc
    exact .inr hc
   case post2 =>
    rintro c st2 (⟨res,e,hM,k2⟩ | ⟨out,ia,ib,mg,ac,bc,rfl,M,h1,h2,h3,k2⟩)
    ·obtain ⟨c1,c2⟩:=c
     dsimp only at e ⊢
     subst e
     exact wpS_pure ⟨res,rfl,hM,k2⟩
    ·dsimp -zeta only
     exact wpS_bind (s_setG k2 fun st3 k3=>wpS_pure ⟨_,_,_,_,rfl,M,h1,h2,by omega,k3⟩)
   case step2 =>
    intro x c st2 _ hx hI
    refine via fun G hG=>?_
    obtain ⟨out,ia,ib,mg,ac,bc,rfl,M,h1,h2,h3,k2⟩:=hI
    obtain ⟨y,ey,my⟩:=get_at h2
    refine hG ?_
    clear hG
    dsimp -zeta only
    refine' cut ?key1 fun key=>s_ite (fun hmg=>?a1) fun hmg=>?b1
    case a1 =>
     generalize mg - 1=mg1
     revert mg1
     exact key.get
    case b1=>exact key.get mg
    intro mg1
    dsimp -zeta only
    refine wpS_bind (s_setG k2 fun st3 k3=>?_)
    have hk3:kindOf st3=κ:=k3.kind.trans hk
    refine wpS_bind (s_elem ey (wpS_bind (s_gallopR T hk3 (mb y my) ma (fun i j u v _ hij _ eu ev=>up_at sa hij eu ev) (by omega) (by omega) fun k hk4 g1 g2=>?_)))
    dsimp -zeta only
    refine' cut ?key2 fun key=>s_ite (fun hk0=>?a2) fun hk0=>?b2
    case a2 =>
     have M2:=MI.someA M sa sb ey g1
     refine s_ite (fun he=>wpS_pure (.inl ⟨_,rfl,last_arr M2 sa sb hl (by simpa using he),k3⟩)) fun he=>?_
     have ne1:¬ ia + k + 1=a.size:=by simpa using he
     have kl:ia + k < a.size:=by
      refine Nat.lt_of_not_le fun hge=>?_
      obtain ⟨v,ev,mv⟩:=get_at (a:=a) (i:=a.size - 1) (by omega)
      have q1:=g1 (a.size - 1 - ia) v (by omega) (by rw [show ia + (a.size - 1 - ia)=a.size - 1 by omega]; exact ev)
      have q2:=hl' y my v ev
      omega
     refine s_ite (fun he2=>absurd (show ia + k=a.size by simpa using he2) (by omega)) fun he2=>?_
     have h1':ia + k + 1 < a.size:=by omega
     have h3':x0 + 2<=ia + k + ib:=by omega
     have g2':∀ z,a[ia + k]?=some z->rk y<=rk z:=fun z ez=>Int.le_of_lt (g2 k z (Nat.le_refl _) (by omega) ez)
     generalize out++a.extract ia (ia + k)=out1 at M2 ⊢
     generalize ia + k=ia1 at M2 h1' h3' g2' ⊢
     revert g2'; revert h3'; revert h1'; revert M2; revert ia1; revert out1
     exact key.get
    case b2=>exact key.get out ia M h1 h3 fun z ez=>Int.le_of_lt (g2 0 z (by omega) (by omega) (by simpa using ez))
    intro out1 ia1 M2 h1' h3' g2'
    refine via fun G hG=>?_
    obtain ⟨z,ez,mz⟩:=get_at (a:=a) (i:=ia1) (by omega)
    refine hG ?_
    clear hG
    have M3:=MI.oneB M2 sb ey fun v hv=>Int.le_trans (g2' z ez) (head_le sa ez v hv)
    refine wpS_bind (s_elem ey ?_)
    refine s_ite (fun he=>wpS_pure (.inl ⟨_,rfl,done_arr M3 sa (by rw [show ib + 1=b.size by simpa using he]; exact Nat.le_refl _),k3⟩)) fun he=>?_
    have hb3:ib + 1 < b.size:=by
     have:¬ ib + 1=b.size:=by simpa using he
     omega
    refine wpS_bind (s_elem ez (wpS_bind (s_gallopL T hk3 (ma z mz) mb (fun i j u v _ hij _ eu ev=>up_at sb hij eu ev) (by omega) (by omega) fun k' hk5 g3 g4=>?_)))
    dsimp -zeta only
    refine' cut ?key3 fun key=>s_ite (fun hk0'=>?a3) fun hk0'=>?b3
    case a3 =>
     have M4:=MI.someB M3 sa sb ez fun i u hi eu=>Int.le_of_lt (g3 i u hi eu)
     refine s_ite (fun he=>wpS_pure (.inl ⟨_,rfl,done_arr M4 sa (by rw [show ib + 1 + k'=b.size by simpa using he]; exact Nat.le_refl _),k3⟩)) fun he=>?_
     have hb4:ib + 1 + k' < b.size:=by
      have:¬ ib + 1 + k'=b.size:=by simpa using he
      omega
     have g4':∀ v,b[ib + 1 + k']?=some v->rk z<=rk v:=fun v ev=>g4 k' v (Nat.le_refl _) (by omega) ev
     have h3'':x0 + 2<=ia1 + (ib + 1 + k'):=by omega
     generalize out1.push y++b.extract (ib + 1) (ib + 1 + k')=out2 at M4 ⊢
     generalize ib + 1 + k'=ib1 at M4 hb4 g4' h3'' ⊢
     revert h3''; revert g4'; revert hb4; revert M4; revert ib1; revert out2
     exact key.get
    case b3=>exact key.get (out1.push y) (ib + 1) M3 hb3 (fun v ev=>g4 0 v (by omega) (by omega) (by simpa using ev)) (by omega)
    intro out2 ib1 M4 hb4 g4' h3''
    refine via fun G hG=>?_
    obtain ⟨v,ev,mv⟩:=get_at (a:=b) (i:=ib1) hb4
    refine hG ?_
    clear hG
    have M5:=MI.oneA M4 sa ez fun u hu=>Int.le_trans (g4' v ev) (head_le sb ev u hu)
    refine wpS_bind (s_elem ez ?_)
    refine s_ite (fun he=>wpS_pure (.inl ⟨_,rfl,last_arr M5 sa sb hl (by simpa using he),k3⟩)) fun he=>?_
    have ha3:ia1 + 1 + 1 < a.size:=by
     have:¬ ia1 + 1 + 1=a.size:=by simpa using he
     omega
    exact s_ite (fun _=>wpS_pure (.inr ⟨_,_,_,_,_,_,rfl,M5,ha3,hb4,by omega,k3⟩)) fun _=>wpS_pure ⟨_,_,_,_,_,_,rfl,M5,ha3,hb4,by omega,k3⟩
end
end GS
end L2
namespace L2
open PySem PySem.Spec PyProof.Rows PySem.W
namespace GS
noncomputable def neg (rk:Keyed->Int):Keyed->Int:=fun x=>- rk x
theorem rev_get {a:Array Keyed}{j:Nat}(h:j < a.size):a.reverse[j]?=a[a.size - 1 - j]?:=by
 rw [Array.getElem?_reverse h]
noncomputable def Hi (rk:Keyed->Int)(a b:Array Keyed)(na nb:Nat)(out:Array Keyed):Prop:=MI (neg rk) a.reverse.toList b.reverse.toList (a.size - na) (b.size - nb) out.toList
section
variable {rk:Keyed->Int}{a b out:Array Keyed}{na nb:Nat}
theorem neg_up (sa:a.toList.Pairwise fun x y=>rk x<=rk y):a.reverse.toList.Pairwise fun x y=>neg rk x<=neg rk y:=by
 rw [Array.toList_reverse,List.pairwise_reverse]
 exact sa.imp fun h=>Int.neg_le_neg h
theorem at_rev {i:Nat}{x:Keyed}(h1:1<=i)(h2:i<=a.size)(e:a[i - 1]?=some x):a.reverse[a.size - i]?=some x:=by
 rw [rev_get (by omega),show a.size - 1 - (a.size - i)=i - 1 by omega]
 exact e
theorem Hi.oneA {x y:Keyed}(M:Hi rk a b na nb out)(sa:a.toList.Pairwise fun x y=>rk x<=rk y)(sb:b.toList.Pairwise fun x y=>rk x<=rk y)(h1:1<=na)(h2:na<=a.size)(h3:1<=nb)(h4:nb<=b.size)(ex:a[na - 1]?=some x)(ey:b[nb - 1]?=some y)(h:rk y<=rk x):Hi rk a b (na - 1) nb (out.push x):=by
 have:=MI.oneA (rk:=neg rk) M (neg_up sa) (at_rev h1 h2 ex) fun v hv=>Int.le_trans (Int.neg_le_neg h) (head_le (neg_up sb) (at_rev h3 h4 ey) v hv)
 unfold Hi
 rw [show a.size - (na - 1)=a.size - na + 1 by omega]
 exact this
theorem Hi.oneB {x y:Keyed}(M:Hi rk a b na nb out)(sa:a.toList.Pairwise fun x y=>rk x<=rk y)(sb:b.toList.Pairwise fun x y=>rk x<=rk y)(h1:1<=na)(h2:na<=a.size)(h3:1<=nb)(h4:nb<=b.size)(ex:a[na - 1]?=some x)(ey:b[nb - 1]?=some y)(h:rk x<=rk y):Hi rk a b na (nb - 1) (out.push y):=by
 have:=MI.oneB (rk:=neg rk) M (neg_up sb) (at_rev h3 h4 ey) fun v hv=>Int.le_trans (Int.neg_le_neg h) (head_le (neg_up sa) (at_rev h1 h2 ex) v hv)
 unfold Hi
 rw [show b.size - (nb - 1)=b.size - nb + 1 by omega]
 exact this
theorem ext_rev {i j:Nat}(h1:i<=j)(h2:j<=a.size):(a.extract i j).reverse=a.reverse.extract (a.size - j) (a.size - j + (j - i)):=by
 apply Array.ext_getElem?
 intro k
 by_cases hk:k < j - i
 ·rw [Array.getElem?_reverse (by rw [Array.size_extract]; omega),Array.getElem?_extract,Array.getElem?_extract,Array.size_extract]
  rw [if_pos (by omega),if_pos (by rw [Array.size_reverse]; omega),rev_get (by omega)]
  congr 1
  omega
 ·rw [Array.getElem?_eq_none (by rw [Array.size_reverse,Array.size_extract]; omega),Array.getElem?_eq_none (by rw [Array.size_extract,Array.size_reverse]; omega)]
theorem Hi.someA {i:Nat}{y:Keyed}(M:Hi rk a b na nb out)(sa:a.toList.Pairwise fun x y=>rk x<=rk y)(sb:b.toList.Pairwise fun x y=>rk x<=rk y)(h1:i<=na)(h2:na<=a.size)(h3:1<=nb)(h4:nb<=b.size)(ey:b[nb - 1]?=some y)(h:∀ j x,i<=j->j < na->a[j]?=some x->rk y<=rk x):Hi rk a b i nb (out++(a.extract i na).reverse):=by
 have:=MI.someA (rk:=neg rk) (k:=na - i) M (neg_up sa) (neg_up sb) (at_rev h3 h4 ey) fun j x hj ex=>Int.neg_le_neg (h (na - 1 - j) x (by omega) (by omega) (by
  rw [rev_get (by omega)] at ex
  rw [<- ex]
  congr 1
  omega))
 unfold Hi
 rw [ext_rev h1 h2,show a.size - i=a.size - na + (na - i) by omega]
 exact this
theorem Hi.someB {i:Nat}{y:Keyed}(M:Hi rk a b na nb out)(sa:a.toList.Pairwise fun x y=>rk x<=rk y)(sb:b.toList.Pairwise fun x y=>rk x<=rk y)(h1:i<=nb)(h2:nb<=b.size)(h3:1<=na)(h4:na<=a.size)(ey:a[na - 1]?=some y)(h:∀ j x,i<=j->j < nb->b[j]?=some x->rk y<=rk x):Hi rk a b na i (out++(b.extract i nb).reverse):=(Hi.someA (a:=b) (b:=a) M.swap sb sa h1 h2 h3 h4 ey h).swap
theorem mg_rev {oL:List Keyed}(h:Mg (neg rk) b.reverse.toList a.reverse.toList oL):Mg rk a.toList b.toList oL.reverse:=by
 obtain ⟨p,q⟩:=h
 rw [Array.toList_reverse,Array.toList_reverse] at p
 refine ⟨?_,?_⟩
 ·refine (List.reverse_perm _).trans (p.trans (List.perm_append_comm.trans ?_))
  exact List.Perm.append (List.reverse_perm _) (List.reverse_perm _)
 ·rw [List.pairwise_reverse]
  refine q.imp fun {x y} h=>?_
  have h':- rk x<=- rk y:=h
  omega
theorem rev_end {i:Nat}(h:i<=a.size):(a.reverse.extract (a.size - i) a.reverse.size).toList.reverse=(a.extract 0 i).toList:=by
 rw [ext_end,Array.toList_reverse,ext_toList _ _ _ (Nat.zero_le _),List.drop_zero,Nat.sub_zero]
 have:=List.reverse_take (l:=a.toList) (i:=i)
 rw [Array.length_toList] at this
 rw [<- this,List.reverse_reverse]
theorem Hi.done (M:Hi rk a b 0 nb out)(sb:b.toList.Pairwise fun x y=>rk x<=rk y)(h:nb<=b.size):Mg rk a.toList b.toList (a.extract 0 0++b.extract 0 nb++out.reverse).toList:=by
 have h1:=done_arr (rk:=neg rk) (a:=b.reverse) (b:=a.reverse) M.swap (neg_up sb) (by rw [Array.size_reverse]; omega)
 have h2:=mg_rev h1
 rw [Array.toList_append,Array.toList_append,List.reverse_append,List.reverse_append,rev_end h] at h2
 have e0:=rev_end (a:=a) (i:=0) (Nat.zero_le _)
 rw [e0] at h2
 rw [Array.toList_append,Array.toList_append,Array.toList_reverse,List.append_assoc]
 exact h2
theorem Hi.first (M:Hi rk a b na 1 out)(sa:a.toList.Pairwise fun x y=>rk x<=rk y)(sb:b.toList.Pairwise fun x y=>rk x<=rk y)(hb:0 < b.size)(h:na<=a.size)(h0:∀ x y,b[0]?=some x->y ∈ a.toList->rk x < rk y):Mg rk a.toList b.toList (b.extract 0 1++a.extract 0 na++out.reverse).toList:=by
 have h1:=last_arr (rk:=neg rk) (a:=b.reverse) (b:=a.reverse) M.swap (neg_up sb) (neg_up sa) (fun x hx y ey=>by
  rw [Array.size_reverse,rev_get (by omega),show b.size - 1 - (b.size - 1)=0 by omega] at ey
  have hx':x ∈ a.toList:=by simpa using hx
  exact Int.neg_le_neg (Int.le_of_lt (h0 y x ey hx'))) (by rw [Array.size_reverse]; omega)
 have h2:=mg_rev h1
 rw [Array.toList_append,Array.toList_append,List.reverse_append,List.reverse_append,rev_end h,rev_end (by omega)] at h2
 rw [Array.toList_append,Array.toList_append,Array.toList_reverse,List.append_assoc]
 exact h2
end
section
variable {prog:Program}{w:World}{A:Around}{E:Value->Shared->Prop}{s:Shared}{rk:Keyed->Int}{κ:SortKind}{a0:Array Keyed}
set_option maxHeartbeats 8000000 in
theorem s_mergeHi {st0:SortSt}{a b:Array Keyed}{Q:Array Keyed->SortSt->Prop}(T:Tells prog w A s κ rk a0)(hk:kindOf st0=κ)(ma:∀ x ∈ a.toList,x ∈ a0.toList)(mb:∀ x ∈ b.toList,x ∈ a0.toList)(sa:a.toList.Pairwise fun x y=>rk x<=rk y)(sb:b.toList.Pairwise fun x y=>rk x<=rk y)
  (ha:0 < a.size) (hb:0 < b.size) (h0:∀ x y,b[0]?=some x->y ∈ a.toList->rk x < rk y) (hl:∀ x ∈ b.toList,∀ y,a[a.size - 1]?=some y->rk x < rk y)
  (h:∀ out st',Kept st0 st'->Mg rk a.toList b.toList out.toList->Q out st'):wpS (model prog w) A E s (mergeHi' a b) Q st0:=by
 refine wpS_bind (wpS_lift (wpAny_rule ⟨rfl,?_⟩))
 obtain ⟨z0,ez0,_⟩:=get_at (a:=a) (i:=a.size - 1) (by omega)
 obtain ⟨y0,ey0,my0⟩:=get_at (a:=b) (i:=b.size - 1) (by omega)
 refine wpS_bind (s_elem ez0 ?_)
 have M0:Hi rk a b a.size b.size #[]:=by
  unfold Hi
  rw [Nat.sub_self,Nat.sub_self]
  exact ⟨by simp,List.Pairwise.nil,(fun x hx=>nomatch hx),(fun x hx=>nomatch hx)⟩
 have M1:Hi rk a b (a.size - 1) b.size #[z0]:=M0.oneA sa sb (by omega) (Nat.le_refl _) (by omega) (Nat.le_refl _) ez0 ey0 (Int.le_of_lt (hl y0 my0 z0 ez0))
 dsimp -zeta only
 refine s_ite (fun hc=>wpS_pure (h _ _ (Kept.refl _) ?_)) fun hc=>?_
 ·have e:a.size - 1=0:=by simpa using hc
  rw [e] at M1 ⊢
  exact M1.done sb (Nat.le_refl _)
 refine s_ite (fun hc2=>wpS_pure (h _ _ (Kept.refl _) ?_)) fun hc2=>?_
 ·have e:b.size=1:=by simpa using hc2
  rw [e] at M1 ⊢
  exact M1.first sa sb hb (by omega) h0
 have ha2:1<=a.size - 1:=by
  have:¬ a.size - 1=0:=by simpa using hc
  omega
 have hb2:1 < b.size:=by
  have:¬ b.size=1:=by simpa using hc2
  omega
 refine wpS_bind (wpS_get ?_)
 refine wpS_bind (wpS_mono (wpS_forRange (I:=fun x c st'=>∃ na nb out mg,c=(none,na,nb,out,mg)/\Hi rk a b na nb out/\1<=na/\na < a.size/\1 < nb/\nb<=b.size/\na + nb + x + 1<=a.size + b.size/\Kept st0 st')
  (Q:=fun c st'=>∃ res,c.1=some res/\Mg rk a.toList b.toList res.toList/\Kept st0 st') ?step ?fin ⟨_,_,_,_,rfl,M1,ha2,by omega,hb2,Nat.le_refl _,by omega,Kept.refl _⟩) ?post)
 case fin =>
  rintro c st' ⟨na,nb,out,mg,rfl,M,h1,h2,h3,h4,h5,k⟩
  omega
 case post =>
  rintro ⟨c1,c2⟩ st' ⟨res,e,hM,k⟩
  dsimp only at e ⊢
  subst e
  exact wpS_pure (h _ _ k hM)
 case step =>
  intro x0 c st1 _ hx0 hI
  refine via fun G hG=>?_
  obtain ⟨na,nb,out,mg,rfl,M,h1,h2,h3,h4,h5,k1⟩:=hI
  refine hG ?_
  clear hG
  have hk1:kindOf st1=κ:=k1.kind.trans hk
  dsimp -zeta only
  refine wpS_bind (wpS_mono (wpS_forRange (I:=fun x c st'=>st'=st1/\∃ na nb out ac bc,c=(none,na,nb,out,ac,bc)/\Hi rk a b na nb out/\1<=na/\na < a.size/\1 < nb/\nb<=b.size/\na + nb + x0 + 1 + x<=a.size + b.size)
   (Q:=fun c st'=>st'=st1/\((∃ res,c.1=some res/\Mg rk a.toList b.toList res.toList)\/∃ na nb out ac bc,c=(none,na,nb,out,ac,bc)/\Hi rk a b na nb out/\1<=na/\na < a.size/\1 < nb/\nb<=b.size/\na + nb + x0 + 2<=a.size + b.size)) ?step1 ?fin1 ⟨rfl,_,_,_,_,_,rfl,M,h1,h2,h3,h4,by omega⟩) ?post1)
  case fin1 =>
   rintro c st' ⟨rfl,na,nb,out,ac,bc,rfl,M,h1,h2,h3,h4,h5⟩
   exact ⟨rfl,.inr ⟨na,nb,out,ac,bc,rfl,M,h1,h2,h3,h4,by omega⟩⟩
  case step1 =>
   intro x c st' _ hx hI
   refine via fun G hG=>?_
   obtain ⟨rfl,na,nb,out,ac,bc,rfl,M,h1,h2,h3,h4,h5⟩:=hI
   obtain ⟨y,ey,my⟩:=get_at (a:=b) (i:=nb - 1) (by omega)
   obtain ⟨z,ez,mz⟩:=get_at (a:=a) (i:=na - 1) (by omega)
   refine hG ?_
   clear hG
   dsimp -zeta only
   refine wpS_bind (s_elem ey (wpS_bind (s_elem ez (wpS_bind (s_lt T hk1 (mb y my) (ma z mz) ?_)))))
   dsimp -zeta only
   refine s_ite (fun hlt=>?_) fun hlt=>?_
   ·have hlt':rk y < rk z:=of_decide_eq_true hlt
    have M2:=M.oneA sa sb h1 (by omega) (by omega) h4 ez ey (Int.le_of_lt hlt')
    refine wpS_bind (s_elem ez ?_)
    refine s_ite (fun he=>wpS_pure ⟨rfl,.inl ⟨_,rfl,?_⟩⟩) fun he=>?_
    ·have e:na - 1=0:=by simpa using he
     rw [e] at M2 ⊢
     exact M2.done sb h4
    have hn:1<=na - 1:=by
     have:¬ na - 1=0:=by simpa using he
     omega
    exact s_ite (fun _=>wpS_pure ⟨rfl,.inr ⟨_,_,_,_,_,rfl,M2,hn,by omega,h3,h4,by omega⟩⟩) fun _=>wpS_pure ⟨rfl,_,_,_,_,_,rfl,M2,hn,by omega,h3,h4,by omega⟩
   ·have hlt':¬ rk y < rk z:=fun q=>hlt (decide_eq_true q)
    have M2:=M.oneB sa sb h1 (by omega) (by omega) h4 ez ey (Int.not_lt.mp hlt')
    refine wpS_bind (s_elem ey ?_)
    refine s_ite (fun he=>wpS_pure ⟨rfl,.inl ⟨_,rfl,?_⟩⟩) fun he=>?_
    ·have e:nb - 1=1:=by simpa using he
     rw [e] at M2 ⊢
     exact M2.first sa sb hb (by omega) h0
    have hn:1 < nb - 1:=by
     have:¬ nb - 1=1:=by simpa using he
     omega
    exact s_ite (fun _=>wpS_pure ⟨rfl,.inr ⟨_,_,_,_,_,rfl,M2,h1,h2,hn,by omega,by omega⟩⟩) fun _=>wpS_pure ⟨rfl,_,_,_,_,_,rfl,M2,h1,h2,hn,by omega,by omega⟩
  case post1 =>
   intro c st' hI
   refine via fun G hG=>?_
   rcases hI with ⟨rfl,hc1 | ⟨na,nb,out,ac,bc,rfl,M,h1,h2,h3,h4,h5⟩⟩
   all_goals (refine hG ?_; clear hG)
   ·obtain ⟨res,e,hM⟩:=hc1
    obtain ⟨c1,c2⟩:=c
    dsimp only at e ⊢
    subst e
    exact wpS_pure ⟨res,rfl,hM,k1⟩
   dsimp -zeta only
   refine wpS_bind (wpS_lift (wpAny_rule ⟨rfl,?_⟩))
   refine wpS_bind (wpS_mono (wpS_forRange (I:=fun x c st2=>∃ na nb out mg ac bc,c=(none,na,nb,out,mg,ac,bc)/\Hi rk a b na nb out/\1<=na/\na < a.size/\1 < nb/\nb<=b.size/\na + nb + x0 + 2<=a.size + b.size/\Kept st0 st2)
    (Q:=fun c st2=>(∃ res,c.1=some res/\Mg rk a.toList b.toList res.toList/\Kept st0 st2)\/∃ na nb out mg ac bc,c=(none,na,nb,out,mg,ac,bc)/\Hi rk a b na nb out/\1<=na/\na < a.size/\1 < nb/\nb<=b.size/\na + nb + x0 + 2<=a.size + b.size/\Kept st0 st2) ?step2 ?fin2 ⟨_,_,_,_,_,_,rfl,M,h1,h2,h3,h4,h5,k1⟩) ?post2)
   case fin2 =>
    rintro c st2 hc
    exact .inr hc
   case post2 =>
    rintro c st2 (⟨res,e,hM,k2⟩ | ⟨na,nb,out,mg,ac,bc,rfl,M,h1,h2,h3,h4,h5,k2⟩)
    ·obtain ⟨c1,c2⟩:=c
     dsimp only at e ⊢
     subst e
     exact wpS_pure ⟨res,rfl,hM,k2⟩
    ·dsimp -zeta only
     exact wpS_bind (s_setG k2 fun st3 k3=>wpS_pure ⟨_,_,_,_,rfl,M,h1,h2,h3,h4,by omega,k3⟩)
   case step2 =>
    intro x c st2 _ hx hI
    refine via fun G hG=>?_
    obtain ⟨na,nb,out,mg,ac,bc,rfl,M,h1,h2,h3,h4,h5,k2⟩:=hI
    obtain ⟨y,ey,my⟩:=get_at (a:=b) (i:=nb - 1) (by omega)
    refine hG ?_
    clear hG
    dsimp -zeta only
    refine' cut ?key1 fun key=>s_ite (fun hmg=>?a1) fun hmg=>?b1
    case a1 =>
     generalize mg - 1=mg1
     revert mg1
     exact key.get
    case b1=>exact key.get mg
    intro mg1
    dsimp -zeta only
    refine wpS_bind (s_setG k2 fun st3 k3=>?_)
    have hk3:kindOf st3=κ:=k3.kind.trans hk
    refine wpS_bind (s_elem ey (wpS_bind (s_gallopR T hk3 (mb y my) ma (fun i j u v _ hij _ eu ev=>up_at sa hij eu ev) (by omega) (by omega) fun k hk4 g1 g2=>?_)))
    dsimp -zeta only
    refine' cut ?key2 fun key=>s_ite (fun hk0=>?a2) fun hk0=>?b2
    case a2 =>
     have M2:=M.someA sa sb (i:=k) (by omega) (by omega) (by omega) h4 ey fun j u hj1 hj2 eu=>Int.le_of_lt (g2 j u hj1 hj2 (by simpa using eu))
     refine s_ite (fun he=>wpS_pure (.inl ⟨_,rfl,(by
      have e:k=0:=by simpa using he
      rw [e] at M2 ⊢
      exact M2.done sb h4),k3⟩)) fun he=>?_
     have h1':1<=k:=by
      have:¬ k=0:=by simpa using he
      omega
     have h2':k < a.size:=by omega
     have h5':k + nb + x0 + 2<=a.size + b.size:=by omega
     have g1':∀ z,a[k - 1]?=some z->rk z<=rk y:=fun z ez=>g1 (k - 1) z (by omega) (by simpa using ez)
     generalize out++(a.extract k na).reverse=out1 at M2 ⊢
     generalize na - k=kk
     generalize k=na1 at M2 h1' h2' h5' g1' ⊢
     revert g1'; revert h5'; revert h2'; revert h1'; revert M2; revert na1; revert kk; revert out1
     exact key.get
    case b2=>exact key.get out (na - k) na M h1 h2 h5 fun z ez=>g1 (na - 1) z (by omega) (by simpa using ez)
    intro out1 kk na1 M2 h1' h2' h5' g1'
    refine via fun G hG=>?_
    obtain ⟨z,ez,mz⟩:=get_at (a:=a) (i:=na1 - 1) (by omega)
    refine hG ?_
    clear hG
    have M3:=M2.oneB sa sb h1' (by omega) (by omega) h4 ez ey (g1' z ez)
    refine wpS_bind (s_elem ey ?_)
    refine s_ite (fun he=>wpS_pure (.inl ⟨_,rfl,(by
     have e:nb - 1=1:=by simpa using he
     rw [e] at M3 ⊢
     exact M3.first sa sb hb (by omega) h0),k3⟩)) fun he=>?_
    have hn:1 < nb - 1:=by
     have:¬ nb - 1=1:=by simpa using he
     omega
    refine wpS_bind (s_elem ez (wpS_bind (s_gallopL T hk3 (ma z mz) mb (fun i j u v _ hij _ eu ev=>up_at sb hij eu ev) (by omega) (by omega) fun k' hk5 g3 g4=>?_)))
    dsimp -zeta only
    refine' cut ?key3 fun key=>s_ite (fun hk0'=>?a3) fun hk0'=>?b3
    case a3 =>
     have M4:=M3.someB sa sb (i:=k') (by omega) (by omega) h1' (by omega) ez fun j u hj1 hj2 eu=>g4 j u hj1 hj2 (by simpa using eu)
     refine s_ite (fun he=>wpS_pure (.inl ⟨_,rfl,(by
      have e:k'=1:=by simpa using he
      rw [e] at M4 ⊢
      exact M4.first sa sb hb (by omega) h0),k3⟩)) fun he=>?_
     have k1':1<=k':=by
      refine Nat.one_le_iff_ne_zero.mpr fun hz=>?_
      obtain ⟨v,ev,mv⟩:=get_at (a:=b) (i:=0) hb
      have q1:=g4 0 v (by omega) (by omega) (by simpa using ev)
      have q2:=h0 v z ev mz
      omega
     refine s_ite (fun he2=>absurd (show k'=0 by simpa using he2) (by omega)) fun he2=>?_
     have hn':1 < k':=by
      have:¬ k'=1:=by simpa using he
      omega
     have hb':k'<=b.size:=by omega
     have h5'':na1 + k' + x0 + 2<=a.size + b.size:=by omega
     have g3':∀ v,b[k' - 1]?=some v->rk v<=rk z:=fun v ev=>Int.le_of_lt (g3 (k' - 1) v (by omega) (by simpa using ev))
     generalize out1.push y++(b.extract k' (nb - 1)).reverse=out2 at M4 ⊢
     generalize nb - 1 - k'=kk'
     generalize k'=nb1 at M4 hn' hb' h5'' g3' ⊢
     revert g3'; revert h5''; revert hb'; revert hn'; revert M4; revert nb1; revert kk'; revert out2
     exact key.get
    case b3=>exact key.get (out1.push y) (nb - 1 - k') (nb - 1) M3 hn (by omega) (by omega) fun v ev=>Int.le_of_lt (g3 (nb - 1 - 1) v (by omega) (by simpa using ev))
    intro out2 kk' nb1 M4 hn' hb' h5'' g3'
    obtain ⟨v,ev,mv⟩:=get_at (a:=b) (i:=nb1 - 1) (by omega)
    have M5:=M4.oneA sa sb h1' (by omega) (by omega) hb' ez ev (g3' v ev)
    refine wpS_bind (s_elem ez ?_)
    refine s_ite (fun he=>wpS_pure (.inl ⟨_,rfl,(by
     have e:na1 - 1=0:=by simpa using he
     rw [e] at M5 ⊢
     exact M5.done sb hb'),k3⟩)) fun he=>?_
    have hn2:1<=na1 - 1:=by
     have:¬ na1 - 1=0:=by simpa using he
     omega
    exact s_ite (fun _=>wpS_pure (.inr ⟨_,_,_,_,_,_,rfl,M5,hn2,by omega,hn',hb',by omega,k3⟩)) fun _=>wpS_pure ⟨_,_,_,_,_,_,rfl,M5,hn2,by omega,hn',hb',by omega,k3⟩
end
end GS
end L2
namespace L2
open PySem PySem.Spec PyProof.Rows PySem.W
namespace GS
theorem puts_size (sa:Nat):∀ (l:List Keyed) (j:Nat) (arr:Array Keyed),((l.zipIdx j).foldl (fun a (p:Keyed × Nat)=>a.setIfInBounds (sa + p.2) p.1) arr).size=arr.size
 | [],_,_=>rfl
 | x :: l,j,arr=>by
  rw [List.zipIdx_cons,List.foldl_cons,puts_size sa l (j + 1)]
  exact Array.size_setIfInBounds
theorem puts_at (sa:Nat):∀ (l:List Keyed) (j:Nat) (arr:Array Keyed) (i:Nat),sa + j + l.length<=arr.size->((l.zipIdx j).foldl (fun a (p:Keyed × Nat)=>a.setIfInBounds (sa + p.2) p.1) arr)[i]?=if sa + j<=i/\i < sa + j + l.length then l[i - (sa + j)]? else arr[i]?:=by
 intro l
 induction l with
 | nil =>
  intro j arr i h
  rw [if_neg (by simp only [List.length_nil]; omega)]
  rfl
 | cons x l ih =>
  intro j arr i h
  rw [List.length_cons] at h
  rw [List.zipIdx_cons,List.foldl_cons,ih (j + 1) _ i (by rw [Array.size_setIfInBounds]; omega),List.length_cons]
  by_cases h1:sa + (j + 1)<=i/\i < sa + (j + 1) + l.length
  ·rw [if_pos h1,if_pos (by omega),show i - (sa + j)=(i - (sa + (j + 1))) + 1 by omega,List.getElem?_cons_succ]
  ·rw [if_neg h1]
   by_cases h2:i=sa + j
   ·subst h2
    rw [if_pos (by omega),Nat.sub_self,List.getElem?_cons_zero]
    show (arr.setIfInBounds (sa + j) x)[sa + j]?=some x
    rw [Array.getElem?_setIfInBounds,if_pos rfl,if_pos (by omega)]
   ·rw [if_neg (by omega)]
    show (arr.setIfInBounds (sa + j) x)[i]?=arr[i]?
    rw [Array.getElem?_setIfInBounds,if_neg (fun e=>h2 e.symm)]
section
variable {prog:Program}{w:World}{A:Around}{E:Value->Shared->Prop}{s:Shared}{rk:Keyed->Int}{κ:SortKind}{a0:Array Keyed}
theorem up_get {xs:Array Keyed}{lo hi:Nat}(u:Up rk xs lo hi){i j:Nat}{x y:Keyed}(h1:lo<=i)(h2:i<=j)(h3:j < hi)(ex:xs[i]?=some x)(ey:xs[j]?=some y):rk x<=rk y:=by
 have:=u i j h1 h2 h3
 unfold Rk at this
 rw [ex,ey] at this
 exact this
theorem up_of {xs:Array Keyed}{lo hi:Nat}(hz:hi<=xs.size)(h:∀ i j x y,lo<=i->i<=j->j < hi->xs[i]?=some x->xs[j]?=some y->rk x<=rk y):Up rk xs lo hi:=fun i j h1 h2 h3=>by
 obtain ⟨x,ex,_⟩:=get_at (a:=xs) (i:=i) (by omega)
 obtain ⟨y,ey,_⟩:=get_at (a:=xs) (i:=j) (by omega)
 unfold Rk
 rw [ex,ey]
 exact h i j x y h1 h2 h3 ex ey
theorem mem_arr {xs:Array Keyed}{i:Nat}{x:Keyed}(e:xs[i]?=some x):x ∈ xs.toList:=List.mem_of_getElem? (by rw [Array.getElem?_toList]; exact e)
theorem ext_get {xs:Array Keyed}{i j k:Nat}(h1:i<=j)(h2:j<=xs.size)(hk:k < j - i):(xs.extract i j)[k]?=xs[i + k]?:=by
 rw [Array.getElem?_extract,if_pos (by omega)]
theorem ext_size {xs:Array Keyed}{i j:Nat}(h2:j<=xs.size):(xs.extract i j).size=j - i:=by
 rw [Array.size_extract]
 omega
theorem ext_up {xs:Array Keyed}{lo hi i j:Nat}(u:Up rk xs lo hi)(h1:lo<=i)(h2:j<=hi)(h3:j<=xs.size):(xs.extract i j).toList.Pairwise fun x y=>rk x<=rk y:=by
 rw [List.pairwise_iff_getElem]
 intro m n hm hn hmn
 rw [Array.length_toList,ext_size h3] at hm hn
 have em:=ext_get (xs:=xs) (i:=i) (j:=j) (k:=m) (by omega) h3 hm
 have en:=ext_get (xs:=xs) (i:=i) (j:=j) (k:=n) (by omega) h3 hn
 refine up_get u (i:=i + m) (j:=i + n) (by omega) (by omega) (by omega) ?_ ?_
 ·rw [<- em,Array.getElem_toList]
  exact getElem?_pos _ _ _
 ·rw [<- en,Array.getElem_toList]
  exact getElem?_pos _ _ _
theorem ext_mem {xs:Array Keyed}{i j:Nat}{x:Keyed}(h3:j<=xs.size)(h:x ∈ (xs.extract i j).toList):∃ k,i<=k/\k < j/\xs[k]?=some x:=by
 obtain ⟨k,hk,e⟩:=List.getElem_of_mem h
 rw [Array.length_toList,ext_size h3] at hk
 refine ⟨i + k,by omega,by omega,?_⟩
 rw [<- ext_get (xs:=xs) (i:=i) (j:=j) (by omega) h3 hk,<- e,Array.getElem_toList]
 exact getElem?_pos _ _ _
theorem s_set {st st1:SortSt}{Q:PUnit->SortSt->Prop}(h:∀ st2,st2=st1->Q ⟨⟩ st2):wpS (model prog w) A E s (set st1:StateT SortSt Sem PUnit) Q st:=by
 unfold wpS
 rw [StateT.run_set]
 exact wpAny_pure ⟨rfl,h _ rfl⟩
set_option maxHeartbeats 8000000 in
theorem s_mergeAt {st:SortSt}{i sa na p1 nb p2:Nat}{Q:Bool->SortSt->Prop}(T:Tells prog w A s κ rk a0)(O:Ok κ a0 st)(e1:(pendingOf st)[i]?=some (sa,na,p1))(e2:(pendingOf st)[i + 1]?=some (sa + na,nb,p2))(hna:1<=na)(hnb:1<=nb)(hz:sa + na + nb<=a0.size)(u1:Up rk (arrOf st) sa (sa + na))(u2:Up rk (arrOf st) (sa + na) (sa + na + nb))
  (h:∀ st',Ok κ a0 st'->pendingOf st'=((pendingOf st).setIfInBounds i (sa,na + nb,p1)).eraseIdxIfInBounds (i + 1)->Up rk (arrOf st') sa (sa + na + nb)->(∀ j:Nat,(j < sa\/sa + na + nb<=j)->(arrOf st')[j]?=(arrOf st)[j]?)->Q true st'):wpS (model prog w) A E s (mergeAt' i) Q st:=by
 have hsz:=O.size
 have mX:∀ x ∈ (arrOf st).toList,x ∈ a0.toList:=fun x hx=>(Array.perm_iff_toList_perm.mp O.perm).mem_iff.mp hx
 obtain ⟨b0,eb0,mb0⟩:=get_at (a:=arrOf st) (i:=sa + na) (by omega)
 refine wpS_bind (wpS_get ?_)
 rw [e1,e2]
 dsimp only
 refine wpS_bind (s_set fun st1 hst=>?_)
 have k1:kindOf st1=κ:=by rw [hst]; exact O.kind
 have ea:arrOf st1=arrOf st:=by rw [hst]
 have ep:pendingOf st1=((pendingOf st).setIfInBounds i (sa,na + nb,p1)).eraseIdxIfInBounds (i + 1):=by rw [hst]
 have ef:failedOf st1=none:=by rw [hst]; exact O.good
 have O1:Ok κ a0 st1:=⟨by rw [ea]; exact O.perm,k1,ef⟩
 refine wpS_bind (s_elem eb0 (wpS_bind (s_gallopR T k1 (mX b0 mb0) mX (fun p q u v h1 h2 h3 eu ev=>up_get u1 h1 h2 h3 eu ev) (by show sa + na<=(arrOf st).size; omega) (by omega) fun k hk g1 g2=>?_)))
 dsimp only
 refine s_ite (fun hc=>wpS_pure (h st1 O1 ep (up_of (by rw [ea]; omega) fun p q u v h1 h2 h3 eu ev=>?_) fun j _=>by rw [ea])) fun hc=>?_
 ·have ek:k=na:=by
   have:na - k=0:=by simpa using hc
   omega
  rw [ea] at eu ev
  by_cases c1:q < sa + na
  ·exact up_get u1 h1 h2 c1 eu ev
  ·by_cases c2:p < sa + na
   ·have q1:=g1 (p - sa) u (by omega) (by rw [show sa + (p - sa)=p by omega]; exact eu)
    have q2:=up_get u2 (Nat.le_refl _) (by omega) h3 eb0 ev
    omega
   ·exact up_get u2 (by omega) h2 h3 eu ev
 have hkn:k < na:=by
  have:¬ na - k=0:=by simpa using hc
  omega
 obtain ⟨al,eal,mal⟩:=get_at (a:=arrOf st) (i:=sa + k + (na - k) - 1) (by omega)
 have eal':(arrOf st)[sa + na - 1]?=some al:=by
  rw [<- eal]
  congr 1
  omega
 refine wpS_bind (s_elem eal (wpS_bind (s_gallopL T k1 (mX al mal) mX (fun p q u v h1 h2 h3 eu ev=>up_get u2 h1 h2 h3 eu ev) (by show sa + na + nb<=(arrOf st).size; omega) (by omega) fun k' hk' g3 g4=>?_)))
 dsimp only
 have b0a:rk b0 < rk al:=g2 (na - 1) al (by omega) (by omega) (by rw [show sa + (na - 1)=sa + na - 1 by omega]; exact eal')
 have k'1:1<=k':=by
  refine Nat.one_le_iff_ne_zero.mpr fun hz0=>?_
  have:=g4 0 b0 (by omega) (by omega) (by simpa using eb0)
  omega
 refine s_ite (fun hc=>absurd (show k'=0 by simpa using hc) (by omega)) fun _=>?_
 have X3:sa + na<=(arrOf st).size:=by omega
 have Y3:sa + na + k'<=(arrOf st).size:=by omega
 have xs:=ext_up (i:=sa + k) (j:=sa + na) u1 (by omega) (Nat.le_refl _) X3
 have ys:=ext_up (i:=sa + na) (j:=sa + na + k') u2 (Nat.le_refl _) (by omega) Y3
 have xm:∀ x ∈ ((arrOf st).extract (sa + k) (sa + na)).toList,x ∈ a0.toList:=fun x hx=>by
  obtain ⟨j,_,_,ej⟩:=ext_mem X3 hx
  exact mX x (mem_arr ej)
 have ym:∀ x ∈ ((arrOf st).extract (sa + na) (sa + na + k')).toList,x ∈ a0.toList:=fun x hx=>by
  obtain ⟨j,_,_,ej⟩:=ext_mem Y3 hx
  exact mX x (mem_arr ej)
 have xz:((arrOf st).extract (sa + k) (sa + na)).size=na - k:=by
  rw [ext_size X3]
  omega
 have yz:((arrOf st).extract (sa + na) (sa + na + k')).size=k':=by
  rw [ext_size Y3]
  omega
 have first:∀ x y,((arrOf st).extract (sa + na) (sa + na + k'))[0]?=some x->y ∈ ((arrOf st).extract (sa + k) (sa + na)).toList->rk x < rk y:=fun x y ex my=>by
  rw [ext_get (by omega) Y3 (by omega),Nat.add_zero,eb0] at ex
  cases ex
  obtain ⟨j,j1,j2,ej⟩:=ext_mem X3 my
  exact g2 (j - sa) y (by omega) (by omega) (by rw [show sa + (j - sa)=j by omega]; exact ej)
 have last:∀ x ∈ ((arrOf st).extract (sa + na) (sa + na + k')).toList,∀ y,((arrOf st).extract (sa + k) (sa + na))[((arrOf st).extract (sa + k) (sa + na)).size - 1]?=some y->rk x < rk y:=fun x mx y ey=>by
  rw [xz,ext_get (by omega) X3 (by omega),show sa + k + (na - k - 1)=sa + na - 1 by omega,eal'] at ey
  cases ey
  obtain ⟨j,j1,j2,ej⟩:=ext_mem Y3 mx
  exact g3 (j - (sa + na)) x (by omega) (by rw [show sa + na + (j - (sa + na))=j by omega]; exact ej)
 have tail:∀ (merged:Array Keyed) (st2:SortSt),Kept st1 st2->Mg rk ((arrOf st).extract (sa + k) (sa + na)).toList ((arrOf st).extract (sa + na) (sa + na + k')).toList merged.toList ->
   Q true (setArr st2 (merged.toList.zipIdx.foldl (fun a (p:Keyed × Nat)=>a.setIfInBounds (sa + k + p.2) p.1) (arrOf st2))):=fun merged st2 K2 hM=>by
  have ea2:arrOf st2=arrOf st:=K2.arr.trans ea
  have ml:merged.toList.length=na - k + k':=by
   rw [hM.1.length_eq,List.length_append,Array.length_toList,Array.length_toList,xz,yz]
  have at_:∀ j:Nat,(merged.toList.zipIdx.foldl (fun a (p:Keyed × Nat)=>a.setIfInBounds (sa + k + p.2) p.1) (arrOf st2))[j]?=if sa + k<=j/\j < sa + na + k' then merged.toList[j - (sa + k)]? else (arrOf st)[j]?:=fun j=>by
   have:=puts_at (sa + k) merged.toList 0 (arrOf st2) j (by rw [ea2,ml]; omega)
   rw [this,ea2,Nat.add_zero,ml]
   by_cases c:sa + k<=j/\j < sa + na + k'
   ·rw [if_pos c,if_pos (by omega)]
   ·rw [if_neg c,if_neg (by omega)]
  have zA:=puts_size (sa + k) merged.toList 0 (arrOf st2)
  generalize hN:merged.toList.zipIdx.foldl (fun a (p:Keyed × Nat)=>a.setIfInBounds (sa + k + p.2) p.1) (arrOf st2)=N at at_ zA ⊢
  have zN:N.size=a0.size:=by
   rw [zA,ea2,hsz]
  have nl:N.toList=(arrOf st).toList.take (sa + k)++merged.toList++(arrOf st).toList.drop (sa + na + k'):=by
   refine List.ext_getElem? fun j=>?_
   rw [Array.getElem?_toList,at_ j]
   by_cases c1:j < sa + k
   ·rw [if_neg (by omega),List.append_assoc,List.getElem?_append_left (by rw [List.length_take,Array.length_toList]; omega),List.getElem?_take,if_pos c1,Array.getElem?_toList]
   ·rw [List.append_assoc,List.getElem?_append_right (by rw [List.length_take,Array.length_toList]; omega),List.length_take,Array.length_toList,show min (sa + k) (arrOf st).size=sa + k by omega]
    by_cases c2:j < sa + na + k'
    ·rw [if_pos ⟨by omega,c2⟩,List.getElem?_append_left (by rw [ml]; omega)]
    ·rw [if_neg (by omega),List.getElem?_append_right (by rw [ml]; omega),List.getElem?_drop,Array.getElem?_toList,ml]
     congr 1
     omega
  have ol:(arrOf st).toList=(arrOf st).toList.take (sa + k)++(((arrOf st).extract (sa + k) (sa + na)).toList++((arrOf st).extract (sa + na) (sa + na + k')).toList)++(arrOf st).toList.drop (sa + na + k'):=by
   rw [ext_toList _ _ _ (by omega),ext_toList _ _ _ (by omega)]
   have d1:(arrOf st).toList.drop (sa + na)=((arrOf st).toList.drop (sa + k)).drop (na - k):=by
    rw [List.drop_drop]
    congr 1
    omega
   have d2:(arrOf st).toList.drop (sa + na + k')=((arrOf st).toList.drop (sa + na)).drop k':=by
    rw [List.drop_drop]
   rw [d2,show sa + na + k' - (sa + na)=k' by omega,List.append_assoc,List.append_assoc,List.take_append_drop,d1,show sa + na - (sa + k)=na - k by omega,List.take_append_drop,List.take_append_drop]
  refine h _ ⟨?_,K2.kind.trans k1,K2.bad.trans ef⟩ (K2.pend.trans ep) (up_of (by show _<=N.size; omega) fun p q u v h1 h2 h3 eu ev=>?_) fun j hj=>?_
  ·refine Array.Perm.trans ?_ O.perm
   rw [Array.perm_iff_toList_perm]
   show N.toList.Perm _
   have pm:=List.Perm.append_right ((arrOf st).toList.drop (sa + na + k')) (List.Perm.append_left ((arrOf st).toList.take (sa + k)) hM.1)
   rw [<- ol,<- nl] at pm
   exact pm
  ·have eu':N[p]?=some u:=eu
   have ev':N[q]?=some v:=ev
   rw [at_] at eu' ev'
   have mid:∀ {j:Nat} {x:Keyed},sa + k<=j->j < sa + na + k'->merged.toList[j - (sa + k)]?=some x->(∃ m,sa + k<=m/\m < sa + na/\(arrOf st)[m]?=some x)\/∃ m,sa + na<=m/\m < sa + na + k'/\(arrOf st)[m]?=some x:=fun _ _ e=>by
    rcases List.mem_append.mp (hM.1.mem_iff.mp (List.mem_of_getElem? e)) with z | z
    ·exact .inl (ext_mem X3 z)
    ·exact .inr (ext_mem Y3 z)
   by_cases c1:p < sa + k
   ·rw [if_neg (by omega)] at eu'
    by_cases c2:q < sa + k
    ·rw [if_neg (by omega)] at ev'
     exact up_get u1 h1 h2 (by omega) eu' ev'
    ·have low:∀ {m:Nat} {x:Keyed},sa + na<=m->m < sa + na + nb->(arrOf st)[m]?=some x->rk u<=rk x:=fun m1 m2 em=>by
      have q1:=g1 (p - sa) u (by omega) (by rw [show sa + (p - sa)=p by omega]; exact eu')
      exact Int.le_trans q1 (up_get u2 (Nat.le_refl _) m1 m2 eb0 em)
     by_cases c3:q < sa + na + k'
     ·rw [if_pos ⟨by omega,c3⟩] at ev'
      rcases mid (by omega) c3 ev' with ⟨m,m1,m2,em⟩ | ⟨m,m1,m2,em⟩
      ·exact up_get u1 h1 (by omega) m2 eu' em
      ·exact low m1 (by omega) em
     ·rw [if_neg (by omega)] at ev'
      exact low (by omega) h3 ev'
   ·by_cases c4:p < sa + na + k'
    ·rw [if_pos ⟨by omega,c4⟩] at eu'
     by_cases c3:q < sa + na + k'
     ·rw [if_pos ⟨by omega,c3⟩] at ev'
      by_cases epq:p=q
      ·subst epq
       rw [eu'] at ev'
       cases ev'
       exact Int.le_refl _
      ·have sp:=hM.2
       rw [List.pairwise_iff_getElem] at sp
       obtain ⟨a1,a2⟩:=List.getElem?_eq_some_iff.mp eu'
       obtain ⟨b1,b2⟩:=List.getElem?_eq_some_iff.mp ev'
       have:=sp _ _ a1 b1 (by omega)
       rw [a2,b2] at this
       exact this
     ·rw [if_neg (by omega)] at ev'
      have q4:=g4 (q - (sa + na)) v (by omega) (by omega) (by rw [show sa + na + (q - (sa + na))=q by omega]; exact ev')
      rcases mid (by omega) c4 eu' with ⟨m,m1,m2,em⟩ | ⟨m,m1,m2,em⟩
      ·exact Int.le_trans (up_get u1 (by omega) (by omega) (by omega) em eal') q4
      ·exact up_get u2 m1 (by omega) h3 em ev'
    ·rw [if_neg (by omega)] at eu' ev'
     exact up_get u2 (by omega) h2 h3 eu' ev'
  ·show N[j]?=_
   rw [at_,if_neg (by omega)]
 refine s_ite (fun _=>?_) fun _=>?_
 ·refine wpS_bind (s_mergeLo T k1 xm ym xs ys (Nat.lt_of_lt_of_eq (show 0 < na - k by omega) xz.symm) (Nat.lt_of_lt_of_eq (show 0 < k' by omega) yz.symm) (fun x y ex my=>Int.le_of_lt (first x y ex my)) last fun out st2 K2 hM=>?_)
  refine wpS_bind (wpS_modify (wpS_bind (wpS_get ?_)))
  rw [show (failedOf st2).isNone=true by rw [K2.bad,ef]; rfl]
  exact wpS_pure (tail out st2 K2 hM)
 ·refine wpS_bind (s_mergeHi T k1 xm ym xs ys (Nat.lt_of_lt_of_eq (show 0 < na - k by omega) xz.symm) (Nat.lt_of_lt_of_eq (show 0 < k' by omega) yz.symm) first last fun out st2 K2 hM=>?_)
  refine wpS_bind (wpS_modify (wpS_bind (wpS_get ?_)))
  rw [show (failedOf st2).isNone=true by rw [K2.bad,ef]; rfl]
  exact wpS_pure (tail out st2 K2 hM)
end
end GS
end L2
namespace L2
open PySem PySem.Spec PyProof.Rows PySem.W
namespace GS
noncomputable def Tiles:List (Nat × Nat × Nat)->Nat->Nat->Prop
 | [],s,e=>s=e
 | r :: l,s,e=>r.1=s/\1<=r.2.1/\Tiles l (s + r.2.1) e
theorem tiles_append:∀ {l1 l2:List (Nat × Nat × Nat)} {s e:Nat},Tiles (l1++l2) s e ↔ ∃ m,Tiles l1 s m/\Tiles l2 m e
 | [],l2,s,e=>⟨fun h=>⟨s,rfl,h⟩,fun ⟨m,h1,h2⟩=>by
  have e:s=m:=h1
  subst e
  exact h2⟩
 | r :: l1,l2,s,e=>by
  constructor
  ·rintro ⟨h1,h2,h3⟩
   obtain ⟨m,h4,h5⟩:=tiles_append.mp h3
   exact ⟨m,⟨h1,h2,h4⟩,h5⟩
  ·rintro ⟨m,⟨h1,h2,h3⟩,h4⟩
   exact ⟨h1,h2,tiles_append.mpr ⟨m,h3,h4⟩⟩
theorem tiles_le:∀ {l:List (Nat × Nat × Nat)} {s e:Nat},Tiles l s e->s<=e/\l.length + s<=e/\∀ r ∈ l,s<=r.1/\r.1 + r.2.1<=e
 | [],s,e,h=>by
  have e':s=e:=h
  subst e'
  exact ⟨Nat.le_refl _,by simp,fun r hr=>nomatch hr⟩
 | r :: l,s,e,⟨h1,h2,h3⟩=>by
  obtain ⟨a1,a2,a3⟩:=tiles_le h3
  refine ⟨by omega,by rw [List.length_cons]; omega,fun q hq=>?_⟩
  rcases List.mem_cons.mp hq with rfl | hq
  ·omega
  ·have:=a3 q hq
   omega
section
variable {prog:Program}{w:World}{A:Around}{E:Value->Shared->Prop}{s:Shared}{rk:Keyed->Int}{κ:SortKind}{a0:Array Keyed}
structure PI (rk:Keyed->Int)(κ:SortKind)(a0:Array Keyed)(lo:Nat)(st:SortSt):Prop where
 ok:Ok κ a0 st
 til:Tiles (pendingOf st).toList 0 lo
 up:∀ r ∈ (pendingOf st).toList,Up rk (arrOf st) r.1 (r.1 + r.2.1)
theorem up_same {xs ys:Array Keyed}{lo hi:Nat}(u:Up rk xs lo hi)(h:∀ j:Nat,lo<=j->j < hi->ys[j]?=xs[j]?):Up rk ys lo hi:=fun i j h1 h2 h3=>by
 rw [Rk_congr (h i h1 (by omega)),Rk_congr (h j (by omega) h3)]
 exact u i j h1 h2 h3
theorem two_at {p:List (Nat × Nat × Nat)}{i:Nat}(h:i + 1 < p.length):∃ l1 r1 r2 l2,p=l1++r1 :: r2 :: l2/\l1.length=i/\p[i]?=some r1/\p[i + 1]?=some r2:=by
 refine ⟨p.take i,p[i],p[i + 1],p.drop (i + 2),?_,by rw [List.length_take]; omega,List.getElem?_eq_getElem (by omega),List.getElem?_eq_getElem h⟩
 rw [<- List.drop_eq_getElem_cons h,<- List.drop_eq_getElem_cons (by omega),List.take_append_drop]
theorem s_mergeP {st:SortSt}{lo i:Nat}{Q:Bool->SortSt->Prop}(T:Tells prog w A s κ rk a0)(P:PI rk κ a0 lo st)(hi:i + 1 < (pendingOf st).size)(hlo:lo<=a0.size)
  (h:∀ st',PI rk κ a0 lo st'->(pendingOf st').size + 1=(pendingOf st).size->(∀ j:Nat,lo<=j->(arrOf st')[j]?=(arrOf st)[j]?)->Q true st'):wpS (model prog w) A E s (mergeAt' i) Q st:=by
 obtain ⟨l1,⟨sa,na,p1⟩,⟨sb,nb,p2⟩,l2,ep,el,e1,e2⟩:=two_at (p:=(pendingOf st).toList) (i:=i) (by rw [Array.length_toList]; exact hi)
 have til:=P.til
 rw [ep] at til
 obtain ⟨m,t1,⟨a1,a2,a3,a4,a5⟩⟩:=tiles_append.mp til
 dsimp only at a1 a2 a3 a4 a5
 subst a1
 subst a3
 rw [Array.getElem?_toList] at e1 e2
 have u1:=P.up (sa,na,p1) (by rw [ep]; simp)
 have u2:=P.up (sa + na,nb,p2) (by rw [ep]; simp)
 dsimp only at u1 u2
 obtain ⟨b1,b2,b3⟩:=tiles_le a5
 obtain ⟨c1,c2,c3⟩:=tiles_le t1
 refine s_mergeAt T P.ok e1 e2 a2 a4 (by omega) u1 u2 fun st' O' ep' up' out'=>?_
 have el':(pendingOf st').toList=l1++(sa,na + nb,p1) :: l2:=by
  rw [ep',Array.toList_eraseIdxIfInBounds,Array.toList_setIfInBounds,ep,<- el]
  rw [List.set_append_right _ _ (Nat.le_refl _),Nat.sub_self,List.set_cons_zero,List.eraseIdx_append_of_length_le (by omega),show l1.length + 1 - l1.length=1 by omega]
  rfl
 refine h st' ⟨O',?_,fun r hr=>?_⟩ ?_ fun j hj=>out' j (by omega)
 ·rw [el']
  exact tiles_append.mpr ⟨sa,t1,rfl,by show 1<=na + nb; omega,by rw [show sa + (na + nb)=sa + na + nb by omega]; exact a5⟩
 ·rw [el'] at hr
  rcases List.mem_append.mp hr with hr | hr
  ·have:=c3 r hr
   exact up_same (P.up r (by rw [ep]; exact List.mem_append_left _ hr)) fun j h1 h2=>out' j (by omega)
  ·rcases List.mem_cons.mp hr with rfl | hr
   ·show Up rk (arrOf st') sa (sa + (na + nb))
    rw [show sa + (na + nb)=sa + na + nb by omega]
    exact up'
   ·have:=b3 r hr
    exact up_same (P.up r (by rw [ep]; simp [hr])) fun j h1 h2=>out' j (by omega)
 ·rw [<- Array.length_toList,el',<- Array.length_toList,ep]
  simp only [List.length_append,List.length_cons]
  omega
theorem PI.step {lo lo':Nat}{st st':SortSt}(P:PI rk κ a0 lo st)(S:Step κ a0 lo' st st')(h:lo<=lo'):PI rk κ a0 lo st':=by
 refine ⟨S.ok,by rw [S.pend]; exact P.til,fun r hr=>?_⟩
 rw [S.pend] at hr
 have:=(tiles_le P.til).2.2 r hr
 exact up_same (P.up r hr) fun j h1 h2=>S.low j (by omega)
theorem tiles_power (pw:Nat):∀ {l:List (Nat × Nat × Nat)} {k s e:Nat},Tiles l s e->Tiles (l.modify k fun r=>(r.1,r.2.1,pw)) s e
 | [],k,s,e,h=>by
  cases k <;> exact h
 | r :: l,0,s,e,⟨h1,h2,h3⟩=>⟨h1,h2,h3⟩
 | r :: l,k + 1,s,e,⟨h1,h2,h3⟩=>⟨h1,h2,tiles_power pw h3⟩
theorem mem_power {pw:Nat}:∀ {l:List (Nat × Nat × Nat)} {k:Nat} {r:Nat × Nat × Nat},r ∈ l.modify k (fun r=>(r.1,r.2.1,pw))->∃ q ∈ l,q.1=r.1/\q.2.1=r.2.1
 | [],k,r,h=>by
  cases k <;> cases h
 | q :: l,0,r,h=>by
  rcases List.mem_cons.mp h with rfl | h
  ·exact ⟨q,List.mem_cons_self,rfl,rfl⟩
  ·exact ⟨r,List.mem_cons_of_mem _ h,rfl,rfl⟩
 | q :: l,k + 1,r,h=>by
  rcases List.mem_cons.mp h with rfl | h
  ·exact ⟨r,List.mem_cons_self,rfl,rfl⟩
  ·obtain ⟨q',h1,h2⟩:=mem_power h
   exact ⟨q',List.mem_cons_of_mem _ h1,h2⟩
theorem ite_le (c:Prop) [Decidable c](n:Nat):(if c then n - 1 else n)<=n:=by
 split <;> omega
theorem s_sort {st:SortSt}{Q:Unit->SortSt->Prop}(T:Tells prog w A s κ rk a0)(O:Ok κ a0 st)(hp:pendingOf st=#[])(h:∀ st',Ok κ a0 st'->Up rk (arrOf st') 0 a0.size->Q () st'):wpS (model prog w) A E s sortRuns' Q st:=by
 rw [sortRuns'_eq]
 refine wpS_bind (wpS_get ?_)
 dsimp only
 rw [O.size]
 generalize minRun' a0.size a0.size 0=mr
 refine wpS_bind (wpS_mono (wpS_forRange (I:=fun x c st'=>∃ lo,c=(none,lo)/\PI rk κ a0 lo st'/\lo<=a0.size/\x<=lo)
  (Q:=fun c st'=>c=(none,a0.size)/\PI rk κ a0 a0.size st') ?step ?fin ⟨0,rfl,⟨O,by rw [hp]; rfl,fun r hr=>by rw [hp] at hr; cases hr⟩,Nat.zero_le _,Nat.le_refl _⟩) ?post)
 case fin =>
  rintro c st' ⟨lo,rfl,P,h1,h2⟩
  obtain rfl:lo=a0.size:=by omega
  exact ⟨rfl,P⟩
 case step =>
  rintro x c st1 _ hx ⟨lo,rfl,P,h1,h2⟩
  dsimp only
  refine s_ite (fun hge=>?_) fun hge=>?_
  ·obtain rfl:lo=a0.size:=by omega
   exact wpS_pure ⟨rfl,P⟩
  refine wpS_bind (s_run T P.ok (by omega) (by omega) fun m st2 S m1 m2 hu=>?_)
  dsimp only
  have P2:=P.step S (Nat.le_refl _)
  refine s_ite (fun hmr=>?_) fun hmr=>?_
  refine wpS_bind (wpS_lift (wpAny_rule ⟨rfl,?_⟩))
  refine wpS_bind (s_bin T S.ok (by omega) (by omega) hu fun st3 S3 hu3=>?_)
  rw [if_neg (by decide)]
  have P3:=P2.step S3 (Nat.le_refl _)
  have n1:1<=min (a0.size - lo) mr:=by omega
  have n2:lo + min (a0.size - lo) mr<=a0.size:=by omega
  clear P2 S3
  generalize min (a0.size - lo) mr=n at hu3 n1 n2 ⊢
  rotate_left
  have P3:=P2
  have hu3:=hu
  have n1:=m1
  have n2:lo + m<=a0.size:=by omega
  clear P2
  generalize m=n at hu3 n1 n2 ⊢
  generalize st2=st3 at P3 hu3 ⊢
  rotate_left
  all_goals
   refine wpS_bind (wpS_get ?_)
   have fin:∀ st4,PI rk κ a0 lo st4->Up rk (arrOf st4) lo (lo + n)->PI rk κ a0 (lo + n) (setPending st4 ((pendingOf st4).push (lo,n,0))):=fun st4 P4 u4=>by
    refine ⟨⟨P4.ok.perm,P4.ok.kind,P4.ok.good⟩,?_,fun r hr=>?_⟩
    ·show Tiles ((pendingOf st4).push (lo,n,0)).toList 0 (lo + n)
     rw [Array.toList_push]
     exact tiles_append.mpr ⟨lo,P4.til,rfl,n1,rfl⟩
    ·have hr':r ∈ ((pendingOf st4).push (lo,n,0)).toList:=hr
     rw [Array.toList_push] at hr'
     rcases List.mem_append.mp hr' with hr' | hr'
     ·exact P4.up r hr'
     ·have er:r=(lo,n,0):=by simpa using hr'
      subst er
      exact u4
   cases hbk:(pendingOf st3).back? with
   | none =>
    dsimp only
    exact wpS_bind (wpS_modify (wpS_pure ⟨lo + n,rfl,fin st3 P3 hu3,n2,by omega⟩))
   | some r =>
    obtain ⟨s1,k1,q1⟩:=r
    dsimp only
    generalize power' a0.size (2 * s1 + k1) (2 * s1 + k1 + k1 + n) a0.size=pw
    refine wpS_bind (wpS_mono (wpS_forRange (I:=fun _ c st4=>c=(none,())/\PI rk κ a0 lo st4/\Up rk (arrOf st4) lo (lo + n)) (Q:=fun c st4=>c=(none,())/\PI rk κ a0 lo st4/\Up rk (arrOf st4) lo (lo + n)) ?_ (fun _ _ hh=>hh) ⟨rfl,P3,hu3⟩) ?_)
    ·rintro y c st4 _ _ ⟨rfl,P4,u4⟩
     refine wpS_bind (wpS_get ?_)
     by_cases hz:(pendingOf st4).size > 1
     ·rw [if_pos hz,getElem?_pos (pendingOf st4) ((pendingOf st4).size - 2) (by omega)]
      generalize (pendingOf st4)[(pendingOf st4).size - 2]'(by omega)=r2
      obtain ⟨r2a,r2b,r2c⟩:=r2
      dsimp only
      refine s_ite (fun _=>wpS_pure ⟨rfl,P4,u4⟩) fun _=>?_
      refine wpS_bind (s_mergeP T P4 (by omega) h1 fun st5 P5 _ out5=>?_)
      rw [if_neg (by decide)]
      exact wpS_pure ⟨rfl,P5,up_same u4 fun j j1 _=>out5 j j1⟩
     ·rw [if_neg hz]
      exact wpS_pure ⟨rfl,P4,u4⟩
    ·rintro c st4 ⟨rfl,P4,u4⟩
     dsimp only
     refine wpS_bind (wpS_modify (wpS_bind (wpS_modify (wpS_pure ⟨lo + n,rfl,fin _ ⟨⟨P4.ok.perm,P4.ok.kind,P4.ok.good⟩,?_,fun r hr=>?_⟩ u4,n2,by omega⟩))))
     ·show Tiles ((pendingOf st4).modify ((pendingOf st4).size - 1) fun r=>(r.1,r.2.1,pw)).toList 0 lo
      rw [Array.toList_modify]
      exact tiles_power pw P4.til
     ·have hr':r ∈ ((pendingOf st4).modify ((pendingOf st4).size - 1) fun r=>(r.1,r.2.1,pw)).toList:=hr
      rw [Array.toList_modify] at hr'
      obtain ⟨q,hq,e1,e2⟩:=mem_power hr'
      have:=P4.up q hq
      rw [e1,e2] at this
      exact this
 case post =>
  rintro c st1 ⟨rfl,P⟩
  dsimp only
  have len0:=(tiles_le P.til).2.1
  rw [Array.length_toList] at len0
  refine wpS_bind (wpS_mono (wpS_forRange (I:=fun x c st2=>c=(none,())/\PI rk κ a0 a0.size st2/\((pendingOf st2).size + x<=a0.size\/(pendingOf st2).size<=1)) (Q:=fun c st2=>c=(none,())/\PI rk κ a0 a0.size st2/\(pendingOf st2).size<=1) ?step2 ?fin2 ⟨rfl,P,.inl (by omega)⟩) ?post2)
  case fin2 =>
   rintro c st2 ⟨rfl,P2,hz⟩
   exact ⟨rfl,P2,by omega⟩
  case step2 =>
   rintro x c st2 _ hx ⟨rfl,P2,hz⟩
   refine wpS_bind (wpS_get ?_)
   refine s_ite (fun h1=>wpS_pure ⟨rfl,P2,h1⟩) fun h1=>?_
   refine wpS_bind (s_mergeP T P2 ?_ (Nat.le_refl _) fun st3 P3 z3 _=>?_)
   ·exact Nat.lt_of_le_of_lt (Nat.add_le_add_right (ite_le _ _) 1) (show (pendingOf st2).size - 2 + 1 < (pendingOf st2).size by omega)
   ·rw [if_neg (by decide)]
    exact wpS_pure ⟨rfl,P3,by omega⟩
  case post2 =>
   rintro c st2 ⟨rfl,P2,hz⟩
   dsimp only
   refine wpS_pure (h st2 P2.ok ?_)
   have til:=P2.til
   have up:=P2.up
   have zl:(pendingOf st2).toList.length<=1:=by rw [Array.length_toList]; exact hz
   cases hl:(pendingOf st2).toList with
   | nil =>
    rw [hl] at til
    have e:0=a0.size:=til
    exact fun i j _ _ h3=>absurd h3 (by omega)
   | cons r l =>
    rw [hl] at til zl up
    obtain rfl:l=[]:=List.length_eq_zero_iff.mp (by rw [List.length_cons] at zl; omega)
    obtain ⟨t1,t2,t3⟩:=til
    have t3':0 + r.2.1=a0.size:=t3
    have u:=up r List.mem_cons_self
    rw [t1,t3'] at u
    exact u
end
end GS
end L2
namespace L2
open PySem PySem.Spec PyProof.Rows PySem.W
namespace GS
structure Wk {K:Type}(lt:K->K->Bool):Prop where
 tot:∀ x y,lt x y=true->lt y x=false
 tr:∀ x y z,lt y x=false->lt z y=false->lt z x=false
noncomputable def rkK {K:Type}(lt:K->K->Bool)(ks:List K)(k:K):Int:=((ks.countP fun q=>lt q k:Nat):Int)
theorem count_le {K:Type}{p q:K->Bool}:∀ {ks:List K},(∀ x ∈ ks,p x=true->q x=true)->ks.countP p<=ks.countP q
 | [],_=>Nat.le_refl _
 | x :: ks,h=>by
  have ih:=count_le (ks:=ks) fun y hy=>h y (List.mem_cons_of_mem _ hy)
  rw [List.countP_cons,List.countP_cons]
  have hx:=h x List.mem_cons_self
  by_cases c:p x=true
  ·rw [if_pos c,if_pos (hx c)]
   omega
  ·rw [if_neg c]
   omega
theorem count_lt {K:Type}{p q:K->Bool}{ks:List K}(h:∀ x ∈ ks,p x=true->q x=true)(hq:∃ x ∈ ks,p x=false/\q x=true):ks.countP p < ks.countP q:=by
 obtain ⟨y,hy,h1,h2⟩:=hq
 induction ks with
 | nil=>cases hy
 | cons x ks ih =>
  rw [List.countP_cons,List.countP_cons]
  have hx:=h x List.mem_cons_self
  rcases List.mem_cons.mp hy with rfl | hy
  ·have ih:=count_le (ks:=ks) fun y hy=>h y (List.mem_cons_of_mem _ hy)
   rw [h1,h2,if_neg Bool.false_ne_true,if_pos rfl]
   omega
  ·have ih:=ih (fun y hy=>h y (List.mem_cons_of_mem _ hy)) hy
   by_cases c:p x=true
   ·rw [if_pos c,if_pos (hx c)]
    omega
   ·rw [if_neg c]
    omega
theorem Wk.rank {K:Type}{lt:K->K->Bool}(W:Wk lt){ks:List K}{x y:K}(hx:x ∈ ks):lt x y=decide (rkK lt ks x < rkK lt ks y):=by
 unfold rkK
 cases h:lt x y with
 | true =>
  refine (decide_eq_true ?_).symm
  have:=count_lt (ks:=ks) (p:=fun q=>lt q x) (q:=fun q=>lt q y) (fun q _ hq=>?_) ⟨x,hx,?_,h⟩
  ·omega
  ·cases hc:lt q y with
   | true=>rfl
   | false =>
    have:=W.tr x y q (W.tot x y h) hc
    have hq':lt q x=true:=hq
    rw [this] at hq'
    cases hq'
  ·cases hc:lt x x with
   | false=>rfl
   | true=>exact hc.symm.trans (W.tot x x hc)
 | false =>
  refine (decide_eq_false ?_).symm
  have:=count_le (ks:=ks) (p:=fun q=>lt q y) (q:=fun q=>lt q x) fun q _ hq=>by
   cases hc:lt q x with
   | true=>rfl
   | false =>
    have:=W.tr y x q h hc
    have hq':lt q y=true:=hq
    rw [this] at hq'
    cases hq'
  omega
section
variable {prog:Program}{w:World}{A:Around}{E:Value->Shared->Prop}{s:Shared}
theorem srtG_list {a:Addr}{vs:List Value}{n:Nat}{P:PySem.Fin->Shared->Prop}(ho:s.heap.get? a=some (seqObj "list" vs.toArray n))(hz:vs.length<=sizeLine)(r:Value->Int)
  (hk:2<=vs.length->∀ s':Shared,(∀ b o,b ≠ a->s.heap.get? b=some o->s'.heap.get? b=some o)->wpAny (model prog w) A (keyKind' vs.toArray) (fun κ s2=>s2=s'/\Tells prog w A s' κ (fun p=>r p.1) (pairsOf vs)) (fun _ _=>False) s')
  (h:∀ (ws:List Value) (h':Heap) (c:Nat),ws.Perm vs->ws.Pairwise (fun x y=>r x<=r y)->(∀ b o,b ≠ a->s.heap.get? b=some o->h'.get? b=some o)->h'.get? a=some (seqObj "list" ws.toArray c)->P (.done (.ret .none)) { s with heap:=h' }) :
  wpAny (model prog w) A (Builtin.«list.sort» ⟨[.ref a],[]⟩) P E s:=by
 have lta:a < s.heap.objs.size:=Heap.lt_size ho
 have hu1:=get?_update_seq ho fun _=>(#[]:Array Value)
 generalize hX:s.heap.update a (Obj.mapSeq fun _=>(#[]:Array Value))=X1 at hu1
 have zX:X1.objs.size=s.heap.objs.size:=by rw [<- hX,Heap.size_update]
 have kX:∀ b o,b ≠ a->s.heap.get? b=some o->X1.get? b=some o:=fun b o hb e=>by
  rw [<- hX,Heap.get?_update_ne _ _ _ _ hb]
  exact e
 obtain ⟨e1,hu⟩:∃ e1,X1.get? a=some (seqObj "list" #[] e1):=⟨_,hu1⟩
 generalize hY:(X1.push (seqObj "tuple" vs.toArray 0)).push (seqObj "list" #[] 0)=Y
 have hYa:Y.get? a=some (seqObj "list" #[] e1):=by
  rw [<- hY]
  exact Heap.get?_push_of_some _ (Heap.get?_push_of_some _ hu)
 have kY:∀ b o,b ≠ a->s.heap.get? b=some o->Y.get? b=some o:=fun b o hb e=>by
  rw [<- hY]
  exact Heap.get?_push_of_some _ (Heap.get?_push_of_some _ (kX b o hb e))
 have last:∀ (st:SortSt),(((arrOf st).map (·.2)).toList.Perm vs)->(((arrOf st).map (·.2)).toList.Pairwise fun x y=>r x<=r y)->failedOf st=none ->
   wpAny (model prog w) A (do
    let touched:=(<- seqEpoch a) != e1
    Builtin.List.listUpdate (.ref a) fun _=>(arrOf st).map (·.2)
    if let some e:=failedOf st then rule "list.sort.comparison-raised"; throw e
    if touched then rule "list.sort.modified"; raiseError "ValueError" "list modified during sort"
    ret .none) P E { s with heap:=Y }:=by
  intro st hp hs hf
  generalize ew:(arrOf st).map (·.2)=wsA at hp hs
  rw [hf]
  have hlen:wsA.size=vs.length:=by rw [<- Array.length_toList,hp.length_eq]
  have hu2:=get?_update_seq hYa fun _=>wsA
  refine wpAny_bind (seqEpoch_at hYa rfl (wpAny_bind (listUpdate_at hYa rfl ?_ (Nat.zero_le _) (by rw [hlen]; omega))))
  simp only [bne_self_eq_false,Bool.false_eq_true,if_false]
  refine wpAny_pure (h wsA.toList _ _ hp hs (fun b o hb e=>?_) hu2)
  rw [Heap.get?_update_ne _ _ _ _ hb]
  exact kY b o hb e
 rw [list_sort_plain]
 refine wpAny_bind (listItems_at ho rfl (wpAny_bind (listUpdate_at ho rfl ?_ (by rw [List.size_toArray]; exact hz) (Nat.zero_le _))))
 rw [hX]
 refine wpAny_bind (seqEpoch_at hu rfl (wpAny_bind (wpAny_newTuple (wpAny_bind (wpAny_newList ?_ (Nat.zero_le _))) hz)))
 show wpAny (model prog w) A _ P E { s with heap:=(X1.push (seqObj "tuple" vs.toArray 0)).push (seqObj "list" #[] 0) }
 rw [hY]
 refine wpAny_holding ?_
 dsimp only
 have e2:((pairsOf vs).map (·.2)).toList=vs:=by
  rw [Array.toList_map,pairsOf_toList]
  exact List.map_snd_zip (Nat.le_refl _)
 by_cases c2:vs.toArray.size < 2
 ·have c2':vs.length < 2:=by rw [List.size_toArray] at c2; exact c2
  rw [if_pos c2,if_pos c2]
  refine wpAny_bind (wpAny_pure ?_)
  rw [StateT.run_pure]
  refine wpAny_bind (wpAny_pure ?_)
  refine last (SortSt.mk' general' (pairsOf vs) #[] 7 none) (by show ((pairsOf vs).map (·.2)).toList.Perm vs; rw [e2]) (by
   show ((pairsOf vs).map (·.2)).toList.Pairwise _
   rw [e2,List.pairwise_iff_getElem]
   intro i j hi hj hij
   omega) rfl
 ·have c2':2<=vs.length:=by rw [List.size_toArray] at c2; omega
  rw [if_neg c2,if_neg c2]
  refine wpAny_bind (wpAny_mono (hk c2' { s with heap:=Y } kY) (fun κ s2 ⟨e3,T⟩=>?_) fun _ _ x=>x.elim)
  subst e3
  have run:=s_sort (E:=E) (st:=SortSt.mk' κ (pairsOf vs) #[] 7 none) (Q:=fun _ st'=>(((arrOf st').map (·.2)).toList.Perm vs)/\(((arrOf st').map (·.2)).toList.Pairwise fun x y=>r x<=r y)/\failedOf st'=none) T ⟨Array.Perm.refl _,rfl,rfl⟩ rfl fun st' O hu=>?_
  ·unfold wpS at run
   refine wpAny_bind (wpAny_mono run ?_ fun _ _ z=>z)
   rintro ⟨⟨⟩,st'⟩ s' ⟨rfl,hp,hs,hf⟩
   exact last st' hp hs hf
  ·have pm:=Array.perm_iff_toList_perm.mp O.perm
   have same:∀ p ∈ (arrOf st').toList,p.1=p.2:=fun p hp=>by
    have:=pm.mem_iff.mp hp
    rw [pairsOf_toList] at this
    exact (mem_zip_self this).1
   refine ⟨?_,?_,O.good⟩
   ·have:=pm.map (·.2)
    rw [Array.toList_map]
    rw [pairsOf_toList,List.map_snd_zip (Nat.le_refl _)] at this
    exact this
   ·rw [Array.toList_map,List.pairwise_map,List.pairwise_iff_getElem]
    intro i j hi hj hij
    have zs:=O.size
    rw [Array.length_toList] at hi hj
    have u:=up_get hu (i:=i) (j:=j) (Nat.zero_le _) (by omega) (by omega) (getElem?_pos _ i hi) (getElem?_pos _ j hj)
    have s1:=same (arrOf st')[i] (by simp)
    have s2:=same (arrOf st')[j] (by simp)
    rw [Array.getElem_toList,Array.getElem_toList,<- s1,<- s2]
    exact u
theorem srtG_call {l:Addr}{vs:List Value}{Q:Value->Shared->Prop}(hl:s.heap.IsList l vs.toArray)(hz:vs.length<=sizeLine)(r:Value->Int)
  (hk:2<=vs.length->∀ s':Shared,(∀ b o,s.heap.get? b=some o->s'.heap.get? b=some o)->wpAny (model prog w) A.in1.in1 (keyKind' vs.toArray) (fun κ s2=>s2=s'/\Tells prog w A.in1.in1 s' κ (fun p=>r p.1) (pairsOf vs)) (fun _ _=>False) s')
  (h:∀ (ws:List Value) (h':Heap) (c:Nat),ws.Perm vs->ws.Pairwise (fun x y=>r x<=r y)->(∀ b o,s.heap.get? b=some o->h'.get? b=some o)->h'.get? (s.heap.objs.size + 1)=some (seqObj "list" ws.toArray c)->Q (.ref (s.heap.objs.size + 1)) { s with heap:=h' }) :
  wpAny (model prog w) A (call (.builtin "sorted") [.ref l]) Q E s:=by
 generalize hX:(s.heap.push (seqObj "list" #[] 0)).update s.heap.objs.size (Obj.mapSeq (·++vs.toArray))=X1
 have zX:X1.objs.size=s.heap.objs.size + 1:=by rw [<- hX,Heap.size_update,Heap.size_push]
 have kX:∀ b o,s.heap.get? b=some o->X1.get? b=some o:=fun b o e=>by
  have lt:=Heap.lt_size e
  rw [<- hX,Heap.get?_update_ne _ _ _ _ (Nat.ne_of_lt lt)]
  exact Heap.get?_push_of_some _ e
 apply Calls.call_function_entry kind_sorted plain_sorted entry_sorted (args_sorted1 _)
 unfold Builtin.«sorted»
 refine wpAny_bind (m:=checkCount "sorted" 1 1 _) (wpAny_pure (wpAny_bind (collect_list hl ?_ hz)))
 rw [hX]
 refine wpAny_bind (wpAny_newList ?_ hz)
 show wpAny _ _ _ _ _ { s with heap:=X1.push (seqObj "list" vs.toArray 0) }
 have hoL:(X1.push (seqObj "list" vs.toArray 0)).get? (s.heap.objs.size + 1)=some (seqObj "list" vs.toArray 0):=by
  rw [<- zX]
  exact Heap.get?_push_size _ rfl
 have kL:∀ b o,s.heap.get? b=some o->(X1.push (seqObj "list" vs.toArray 0)).get? b=some o:=fun b o e=>Heap.get?_push_of_some _ (kX b o e)
 have ne:∀ b o,s.heap.get? b=some o->b ≠ s.heap.objs.size + 1:=fun b o e=>Nat.ne_of_lt (Nat.lt_succ_of_lt (Heap.lt_size e))
 rw [zX]
 refine wpAny_bind (wpAny_holding (wpAny_call_entry slot_list_sort ⟨_,hoL,rfl⟩ entry_list_sort (srtG_list (s:={ s with heap:=X1.push (seqObj "list" vs.toArray 0) }) hoL hz r (fun c s' k=>hk c s' fun b o e=>k b o (ne b o e) (kL b o e)) ?_) (args_list_sort _)))
 intro ws h' c hp hs kk ha
 exact ⟨_,rfl,wpAny_pure ⟨_,rfl,h ws h' c hp hs (fun b o e=>kk b o (ne b o e) (kL b o e)) ha⟩⟩
end
theorem paired_zip {α β:Type}{R:α->β->Prop}{xs:List α}{ys:List β}(hp:Paired R xs ys):(∀ p ∈ xs.zip ys,R p.1 p.2)/\(xs.zip ys).map (·.1)=xs/\(xs.zip ys).map (·.2)=ys:=by
 induction hp with
 | nil=>exact ⟨(fun p h=>nomatch h),rfl,rfl⟩
 | cons h _ ih =>
  obtain ⟨a,b,c⟩:=ih
  refine ⟨fun p hp=>?_,by rw [List.zip_cons_cons,List.map_cons,b],by rw [List.zip_cons_cons,List.map_cons,c]⟩
  rcases List.mem_cons.mp hp with rfl | hp
  ·exact h
  ·exact a p hp
theorem paired_of {α β:Type}{R:α->β->Prop}:∀ {zs:List (α × β)},(∀ p ∈ zs,R p.1 p.2)->Paired R (zs.map (·.1)) (zs.map (·.2))
 | [],_=>.nil
 | p :: zs,h=>.cons (h p List.mem_cons_self) (paired_of fun q hq=>h q (List.mem_cons_of_mem _ hq))
end GS
end L2
namespace L2
open PySem PySem.Spec PyProof.Rows PySem.W
namespace GS
theorem paired_mem {α β:Type}{R:α->β->Prop}:∀ {xs:List α} {ys:List β},Paired R xs ys->∀ x ∈ xs,∃ y ∈ ys,R x y
 | _,_,.nil,x,h=>nomatch h
 | _,_,.cons h t,x,hx=>by
  rcases List.mem_cons.mp hx with rfl | hx
  ·exact ⟨_,List.mem_cons_self,h⟩
  ·obtain ⟨y,h1,h2⟩:=paired_mem t x hx
   exact ⟨y,List.mem_cons_of_mem _ h1,h2⟩
noncomputable def Tri {K:Type}(RV:V->K->Prop)(RH:Value->K->Prop)(t:V × Value × K):Prop:=RelV t.1 t.2.1/\RV t.1 t.2.2/\RH t.2.1 t.2.2
theorem tri_of {K:Type}{RV:V->K->Prop}{RH:Value->K->Prop}{us:List V}{its:List Value}{ks:List K}(h1:Vals us its):Paired RV us ks->Paired RH its ks->∃ T:List (V × Value × K),(∀ t ∈ T,Tri RV RH t)/\T.map (·.1)=us/\T.map (·.2.1)=its/\T.map (·.2.2)=ks:=by
 induction h1 generalizing ks with
 | nil =>
  intro h2 h3
  cases h2
  exact ⟨[],(fun t h=>nomatch h),rfl,rfl,rfl⟩
 | @cons u i us its r1 t1 ih =>
  intro h2 h3
  cases h2 with
  | @cons _ k _ ks r2 t2 =>
   cases h3 with
   | cons r3 t3 =>
    obtain ⟨T,h1,h2,h3,h4⟩:=ih t2 t3
    refine ⟨(u,i,k) :: T,fun t ht=>?_,by rw [List.map_cons,h2],by rw [List.map_cons,h3],by rw [List.map_cons,h4]⟩
    rcases List.mem_cons.mp ht with rfl | ht
    ·exact ⟨r1,r2,r3⟩
    ·exact h1 t ht
theorem tri_vals {K:Type}{RV:V->K->Prop}{RH:Value->K->Prop}:∀ {T:List (V × Value × K)},(∀ t ∈ T,Tri RV RH t)->Vals (T.map (·.1)) (T.map (·.2.1))/\Paired RV (T.map (·.1)) (T.map (·.2.2))
 | [],_=>⟨.nil,.nil⟩
 | t :: T,h=>by
  obtain ⟨h1,h2⟩:=tri_vals fun x hx=>h x (List.mem_cons_of_mem _ hx)
  obtain ⟨a,b,c⟩:=h t List.mem_cons_self
  exact ⟨.cons a h1,.cons b h2⟩
section
variable {X:Cx}{pins:List (Addr × Obj)}{σ:St}{H:Hp}{s:Shared}{K:Type}
theorem sort_keys {lt:K->K->Bool}(W:Wk lt){RV:V->K->Prop}{RH:Heap->Value->K->Prop}(fn:∀ h v k k',RH h v k->RH h v k'->k=k')(kp:∀ h h' v k,(∀ b o,h.get? b=some o->h'.get? b=some o)->RH h v k->RH h' v k)
  {l:Addr} {us:List V} {its:List Value} {ks:List K} {Q:VK} (I:Inv X pins σ H s) (hl:s.heap.IsList l its.toArray) (hz:us.length<=1000000) (rv:Vals us its) (hv:Paired RV us ks) (hp:Paired (RH s.heap) its ks)
  (kind:∀ s':Shared,Paired (RH s'.heap) its ks->2<=its.length->wpAny (model X.prog X.w) X.A.in1.in1 (keyKind' its.toArray) (fun κ s2=>s2=s'/\∀ v v' k k',RH s'.heap v k->RH s'.heap v' k'->∀ C:Bool->Shared->Prop,C (lt k k') s'->wpAny (model X.prog X.w) X.A.in1.in1 (keyLt' κ v v') C (fun _ _=>False) s') (fun _ _=>False) s')
  (q:∀ d us' ks',H d=none->Paired RV us' ks'->ks'.Perm ks->ks'.Pairwise (fun x y=>lt y x=false)->(us'.Perm us)->Q (.ref d) (upd H d (.lst us'))) :
  wpAny (model X.prog X.w) X.A (call (.builtin "sorted") [.ref l]) (EP X pins σ Q) X.xe s:=by
 classical
 have hil:=rv.length
 obtain ⟨T,hT,e1,e2,e3⟩:=tri_of rv hv hp
 let r:Value->Int:=fun v=>if h:∃ k,RH s.heap v k then rkK lt ks h.choose else 0
 have rk_:∀ {v:Value} {k:K},RH s.heap v k->r v=rkK lt ks k:=fun {v k} h=>by
  have hx:∃ k,RH s.heap v k:=⟨k,h⟩
  show (if h:∃ k,RH s.heap v k then rkK lt ks h.choose else 0)=_
  rw [dif_pos hx,fn _ _ _ _ hx.choose_spec h]
 have z1:its.length<=sizeLine:=by
  rw [<- hil,sizeLine_eq]
  omega
 refine srtG_call (vs:=its) hl z1 r (fun h2 s' kk=>?_) fun ws h' c hpm hs kk ha=>?_
 ·have hp':Paired (RH s'.heap) its ks:=by
   obtain ⟨a,b,c⟩:=paired_zip hp
   have:=paired_of (R:=RH s'.heap) (zs:=its.zip ks) fun p hp=>kp _ _ _ _ kk (a p hp)
   rw [b,c] at this
   exact this
  refine wpAny_mono (kind s' hp' h2) (fun κ s2 ⟨e,hc⟩=>⟨e,fun x hx y hy C hC=>?_⟩) fun _ _ z=>z
  have mx:x.1 ∈ its:=by
   rw [pairsOf_toList] at hx
   exact (mem_zip_self hx).2
  have my:y.1 ∈ its:=by
   rw [pairsOf_toList] at hy
   exact (mem_zip_self hy).2
  obtain ⟨k,k1,k2⟩:=paired_mem hp x.1 mx
  obtain ⟨k',k1',k2'⟩:=paired_mem hp y.1 my
  refine hc x.1 y.1 k k' (kp _ _ _ _ kk k2) (kp _ _ _ _ kk k2') C ?_
  have hC':C (decide (r x.1 < r y.1)) s':=hC
  rw [rk_ k2,rk_ k2',<- W.rank k1] at hC'
  exact hC'
 ·obtain ⟨T',hT',eT⟩:=ST.perm_map (fun t:V × Value × K=>t.2.1) hpm T e2.symm
  have hTr:∀ t ∈ T',Tri RV (RH s.heap) t:=fun t ht=>hT t (hT'.mem_iff.mp ht)
  obtain ⟨rv',hv'⟩:=tri_vals hTr
  rw [<- eT] at rv'
  have hD:H (s.heap.objs.size + 1)=none:=I.hok.fresh (Nat.le_succ _)
  refine ⟨.ref (s.heap.objs.size + 1),upd H (s.heap.objs.size + 1) (.lst (T'.map (·.1))),I.laid (t':=s.toks) kk (Nat.le_succ _) ⟨?_,ws,c,rv',ha⟩,rfl,q _ _ _ hD hv' (by rw [<- e3]; exact hT'.map _) ?_ (by rw [<- e1]; exact hT'.map _)⟩
  ·rw [rv'.length,hpm.length_eq]
   exact z1
  ·rw [eT,List.pairwise_map] at hs
   rw [List.pairwise_map]
   refine hs.imp_of_mem fun {x y} hx hy h=>?_
   obtain ⟨_,_,h1⟩:=hTr x hx
   obtain ⟨_,_,h2⟩:=hTr y hy
   rw [rk_ h1,rk_ h2] at h
   have my:y.2.2 ∈ ks:=by
    rw [<- e3]
    exact List.mem_map.mpr ⟨y,hT'.mem_iff.mp hy,rfl⟩
   rw [W.rank my]
   exact decide_eq_false (by omega)
end
theorem wk_lt2:Wk lt2:=by
 refine ⟨fun x y h=>?_,fun x y z h1 h2=>?_⟩
 ·cases e:lt2 y x with
  | false=>rfl
  | true =>
   have:=lt2_tr h e
   rw [lt2_irr] at this
   cases this
 ·cases e:lt2 z x with
  | false=>rfl
  | true =>
   by_cases exy:x=y
   ·subst exy
    rw [e] at h2
    exact h2
   ·have h3:lt2 x y=true:=by
     have:=lt2_tot (p:=x) (q:=y) exy
     rw [h1] at this
     cases hh:lt2 x y with
     | true=>rfl
     | false =>
      rw [hh] at this
      cases this
    have:=lt2_tr e h3
    rw [this] at h2
    exact h2
theorem pair_fn {h:Heap}{v:Value}{p q:Int × Int}(h1:IntPair h v p)(h2:IntPair h v q):p=q:=by
 obtain ⟨a,o,n,t,u,e,e1,c1,d1⟩:=h1
 obtain ⟨a',o',n',t',u',e',e1',c1',d1'⟩:=h2
 subst e
 cases e'
 rw [e1] at e1'
 cases e1'
 rw [d1] at d1'
 obtain ⟨p1,p2⟩:=p
 obtain ⟨q1,q2⟩:=q
 injection d1' with d1' _
 have e2:[Value.int p1 t,Value.int p2 u]=[Value.int q1 t',Value.int q2 u']:=congrArg Array.toList d1'
 injection e2 with e3 e4
 injection e4 with e4 _
 injection e3 with e3 _
 injection e4 with e4 _
 rw [e3,e4]
section
variable {X:Cx}
theorem call_sortedG2:CallR X (.builtin "sorted") (fun xs H Q=>∃ l us ps,xs=[.ref l]/\SqL X.K H l us/\Tup2 H us ps/\us.length<=1000000 /\
  ∀ d us' ps',H d=none->Tup2 H us' ps'->ps'.Perm ps->ps'.Pairwise (fun p q=>lt2 q p=false)->Q (.ref d) (upd H d (.lst us'))):=by
 intro pins s σ H xs us' Q I r h
 obtain ⟨l,us,ps,rfl,hq,ht,hz,q⟩:=h
 obtain ⟨u,rfl,ru⟩:=vals1 r
 cases ru
 obtain ⟨its,rv,pl,_⟩:=I.list hq
 have hp:=Tup2.pairs I ht rv
 refine sort_keys wk_lt2 (RH:=IntPair) (fun h v k k'=>pair_fn) (fun h h' v k kk ⟨a,o,n,t,u,e,e1,r⟩=>⟨a,o,n,t,u,e,kk _ _ e1,r⟩) I pl.isList hz rv ht hp (fun s' hp' h2=>?_) fun d us' ks' hd h1 h2 h3 _=>q d us' ks' hd h1 h2 h3
 obtain ⟨fs,hk,hfl,hint⟩:=pairs_firsts hp'
 refine kat_kind (T:=.type "int") hk (by omega) (fun v hv=>?_) (by decide) ⟨rfl,fun v v' k k' h1 h2 C hC=>?_⟩
 ·obtain ⟨x,t,rfl⟩:=hint v hv
  exact Looks.of_pure rfl
 ·exact pair_lt h1 h2 hC
end
end GS
end L2
namespace PySem.SeqAt
open L2 AutoSeq1 MeetsSeq MeetsSeq2 MeetsSeq3
end PySem.SeqAt
namespace L2
open PySem PySem.Spec PyProof.Rows PySem.W PySem.SeqAt
section
variable {X:Cx}
end
end L2
namespace L2
open PySem PySem.Spec PyProof.Rows
section
variable {X:Cx}{K:PySem.W.Frag}
end
noncomputable def HasDef (K:PySem.W.Frag)(x:Str)(st:Stmt):Prop:=∃ (f:Addr) (oc:Value) (od an:Option Addr) (sl:Array (Option Value)) (kV dc pm cd ct:Value),PySem.W.nsIn K mainGlobals x=some (some (.ref f))/\K.lookup f=some ⟨oc,od,.func (PySem.W.fnOf x x (defArgs st) (defBody st) (defScope st) .none kV dc pm an cd ct),sl⟩/\PySem.W.codeIn K cd x=true/\PySem.W.keepIn K (.ref f)=true
theorem HasDef.at {K:PySem.W.Frag}{h:Heap}{mg:Str->Option Value}{x:Str}{st:Stmt}{ps:List Str}(H:HasDef K x st)(X:K.In h)(G:h.Ns mainGlobals mg)
  (hb:∀ (kV doc pm:Value) (an:Option Addr) (cdv ct:Value) (us:List Value),us.length=ps.length->bindArgs (PySem.W.fnOf x x (defArgs st) (defBody st) (defScope st) .none kV doc pm an cdv ct) ⟨us,[]⟩=pure (ps.zip us)):∃ f fd,DefAt K mg x st ps f fd:=by
 obtain ⟨f,oc,od,an,sl,kV,dc,pm,cd,ct,a,l,c,k⟩:=H
 have F:=fun_mk (st:=st) l c k
 exact ⟨f,_,F,PySem.W.mg_of X G a,F.binds hb⟩
end L2
namespace L2
open PySem PySem.W
noncomputable def sel:List Nat->Nat->List Stmt->List Stmt
 | _,_,[]=>[]
 | ns,i,x :: xs=>match ns.contains i with
  | true=>sel ns (i + 1) xs
  | false=>x :: sel ns (i + 1) xs
theorem us0 {P:List Value->Prop}(h:P []):∀ us:List Value,us.length=0->P us:=by
 intro us e
 cases us with
 | nil=>exact h
 | cons a t=>cases e
theorem usS {n:Nat}{P:List Value->Prop}(h:∀ a t,t.length=n->P (a :: t)):∀ us:List Value,us.length=n + 1->P us:=by
 intro us e
 cases us with
 | nil=>cases e
 | cons a t=>exact h a t (Nat.succ.inj e)
theorem us1 {P:List Value->Prop}(h:∀ a,P [a]):∀ us:List Value,us.length=1->P us:=usS fun a=>us0 (h a)
theorem us2 {P:List Value->Prop}(h:∀ a b,P [a,b]):∀ us:List Value,us.length=2->P us:=usS fun a=>us1 (h a)
theorem us3 {P:List Value->Prop}(h:∀ a b c,P [a,b,c]):∀ us:List Value,us.length=3->P us:=usS fun a=>us2 (h a)
end L2
namespace L2
open PySem PySem.Spec PyProof.Rows
section
variable {X:Cx}{k k0:Nat}{f:Addr}{fd:FuncData}{ps:List Str}{sp:Sp}{x:Str}{st:Stmt}{p pos:Pos}{e:Expr}{es:List Expr}{t:TA}
theorem pc0 (F:FnOk X.prog X.w X.K X.mg X.base CX0 k f fd ps sp)(hr:Room k0 X.A)(D:DefAt X.K X.mg x st ps f fd)(ha:PA X (e :: es) t)(hk:k<=k0:=by decide)(hg:Gl X x:=by rfl)
  (hdb:(x == ("__debug__":Str))=false:=by decide) (he:starEach (e :: es) X.env=(false,eval e X.env) :: starEach es X.env:=by rfl) (hpl:(backTo pos (starEach es X.env)).any (·.1)=false:=by rfl) :
  PE X (.Call (.Name x p) (e :: es) [] pos) (tCall sp [] E0 t):=pe_call F (hr.mono hk) hg D.g D.F.kp D.b .nil pass0 ha hdb he hpl
end
theorem sz_0:0<=sizeLine:=by decide
theorem sz_2:2<=sizeLine:=by decide
end L2
namespace L2
open PySem PySem.Spec PyProof.Rows
theorem runs_toks {M:Model}{Γ:PySem.Ctx}{p:Pos}{t:Sem Fin}{fs:List Frame}{s s':Shared}{e:End}(h:Runs M Γ p t fs s e s'):s.toks<=s'.toks:=by
 induction h
 all_goals first | exact Nat.le_refl _ | assumption | (rename_i ih; exact Nat.le_trans (Nat.le_succ _) ih) | (rename_i ih1 ih2; exact Nat.le_trans ih1 ih2)
theorem wakes_toks {M:Model}{Γ:PySem.Ctx}{p:Pos}{g:Nat}{r:Resume}{s s':Shared}{res:GenResult}(h:Wakes M Γ p g r s res s'):s.toks<=s'.toks:=by
 unfold Wakes at h
 split at h
 ·exact h.elim
 ·split at h
  ·obtain ⟨_,_,h,_,_,rfl⟩:=h
   have:=runs_toks h
   exact this
  ·obtain ⟨_,rfl⟩:=h
   exact Nat.le_refl _
  ·obtain ⟨_,rfl⟩:=h
   exact Nat.le_refl _
 ·obtain ⟨_,_,h,_,_,rfl⟩:=h
  have:=runs_toks h
  exact this
 ·obtain ⟨_,rfl⟩:=h
  exact Nat.le_refl _
 ·obtain ⟨_,rfl⟩:=h
  exact Nat.le_refl _
theorem wp_toks {α:Type}{M:Model}{Γ:PySem.Ctx}(t:Sem α){Q:α->Pos->Shared->Prop}{E:Value->Pos->Shared->Prop}{p:Pos}{s:Shared}(n:Nat)(hn:n<=s.toks)(h:Sem.wp M Γ t Q E p s):Sem.wp M Γ t (fun a p' s'=>Q a p' s'/\n<=s'.toks) (fun e p' s'=>E e p' s'/\n<=s'.toks) p s:=by
 induction t generalizing p s
 all_goals rw [Sem.wp] at h ⊢
 all_goals first | exact ⟨h,hn⟩ | exact h.elim | (rename_i ih; exact ih _ hn h) | (rename_i ih; exact ih _ (Nat.le_succ_of_le hn) h) | (rename_i ih; exact ⟨h.1,ih _ hn h.2⟩) | (rename_i ih; obtain ⟨x,h1,h2⟩:=h; exact ⟨x,h1,ih _ hn h2⟩) | (rename_i ih; obtain ⟨r,s',h1,h2⟩:=h; exact ⟨r,s',h1,ih _ (Nat.le_trans hn (runs_toks h1)) h2⟩) | (rename_i ih; obtain ⟨r,s',h1,h2⟩:=h; exact ⟨r,s',h1,ih _ (Nat.le_trans hn (wakes_toks h1)) h2⟩)
theorem up {α:Type}{M:Model}{A:Around}{t:Sem α}{Q:α->Shared->Prop}{E:Value->Shared->Prop}{s:Shared}{n:Nat}(hn:n<=s.toks)(h:wpAny M A t (fun a s'=>n<=s'.toks->Q a s') E s):wpAny M A t Q E s:=by
 have h2:wpAny M A t (fun a s'=>(n<=s'.toks->Q a s')/\n<=s'.toks) (fun e s'=>E e s'/\n<=s'.toks) s:=fun Γ p hΓ=>wp_toks t n hn (h Γ p hΓ)
 exact wpAny_mono h2 (fun _ _ z=>z.1 z.2) fun _ _ z=>z.1
theorem thnT {α:Type}{t:Sem α}{Q Q':α->Shared->Prop}{M:Model}{A:Around}{E:Value->Shared->Prop}{s:Shared}{n:Nat}(hn:n<=s.toks)(h:wpAny M A t Q E s)(hQ:∀ a s,Q a s->n<=s.toks->Q' a s):wpAny M A t Q' E s:=up hn (thn h hQ)
noncomputable def PEt (n:Nat)(X:Cx)(e:Expr)(t:TE):Prop :=
 ∀ (pins:List (Addr × Obj)) (s:Shared) (σ:St) (H:Hp) (Q:VK),Inv X pins σ H s->n<=s.toks->t σ H Q->wpAny (model X.prog X.w) X.A (eval e X.env) (EP X pins σ Q) X.xe s
noncomputable def PAt (n:Nat)(X:Cx)(es:List Expr)(t:TA):Prop :=
 ∀ (pos:Pos) (pins:List (Addr × Obj)) (s:Shared) (σ:St) (H:Hp) (Q:List V->Hp->Prop),Inv X pins σ H s->n<=s.toks->t σ H Q->wpAny (model X.prog X.w) X.A (spliced (backTo pos (starEach es X.env))) (AP X pins σ Q) X.xe s
noncomputable def PSt (n:Nat)(X:Cx)(st:Stmt)(t:TS):Prop :=
 ∀ (pins:List (Addr × Obj)) (s:Shared) (σ:St) (H:Hp) (D:Ends),Inv X pins σ H s->n<=s.toks->t D σ H->wpAny (model X.prog X.w) X.A (exec st X.env) (SP X pins D) X.xe s
noncomputable def PSst (n:Nat)(X:Cx)(st:List Stmt)(t:TS):Prop :=
 ∀ (pins:List (Addr × Obj)) (s:Shared) (σ:St) (H:Hp) (D:Ends),Inv X pins σ H s->n<=s.toks->t D σ H->wpAny (model X.prog X.w) X.A (execs st X.env) (SP X pins D) X.xe s
section
variable {X:Cx}{n:Nat}{e:Expr}{te:TE}{st:Stmt}{rest:List Stmt}{t u:TS}{pos:Pos}
theorem PE.at_ (h:PE X e te):PEt n X e te:=fun pins s σ H Q I _ hq=>h pins s σ H Q I hq
theorem PA.at_ {es:List Expr}{ta:TA}(h:PA X es ta):PAt n X es ta:=fun pos pins s σ H Q I _ hq=>h pos pins s σ H Q I hq
theorem PS.at_ (h:PS X st t):PSt n X st t:=fun pins s σ H D I _ hq=>h pins s σ H D I hq
theorem PSs.at_ (h:PSs X rest t):PSst n X rest t:=fun pins s σ H D I _ hq=>h pins s σ H D I hq
theorem PSst.nox (h:PSst n X.nox rest t):PSst n X rest t:=fun pins s σ H D I hn hw =>
 wpAny_mono (h pins s σ H D (I.wish _) hn hw) (fun _ _ q=>q.unwish) fun _ _ z=>False.elim z
theorem psst_cons (h1:PSt n X st t)(h2:PSst n X rest u):PSst n X (st :: rest) (tSeq t u):=by
 intro pins s σ H D I hn h
 refine wpAny_execs_cons (thnT hn (h1 pins s σ H { D with nx:=u D } I hn h) fun f s1 q z=>?_)
 cases f with
 | next =>
  obtain ⟨σ',H',I',q⟩:=q
  exact h2 pins s1 σ' H' D I' z q
 | ret v=>exact q
 | brk=>exact q
 | cont=>exact q
theorem psst_one (h1:PSt n X st t):PSst n X [st] t:=by
 intro pins s σ H D I hn h
 refine wpAny_execs_cons (thn (h1 pins s σ H D I hn h) fun f s1 q=>?_)
 cases f with
 | next=>exact wpAny_execs_nil q
 | ret v=>exact q
 | brk=>exact q
 | cont=>exact q
theorem pst_ret (he:PEt n X e te):PSt n X (.Return (some e) pos) (tRet te):=by
 intro pins s σ H D I hn h
 exact wpAny_Return_some (thn (he pins s σ H _ I hn h) fun v s1 ⟨x,H1,I1,r1,q1⟩=>⟨x,σ,H1,I1,r1,q1⟩)
theorem pst_set {i:Nat}{x:Str}{pos':Pos}(hN:X.N.Nodup)(hi:X.N[i]?=some x)(hx:Loc X.env.scope x)(he:PEt n X e te)(hs:swapsWith e (some (.Name x pos')) pos.line X.env=pure false:=by rfl)(hf:X.fn x=true\/X.env.scope.names.lookup x=some .local:=by first | exact .inl rfl | exact .inr rfl | assumption) :
  PSt n X (.Assign [.Name x pos'] e pos) (tAsg te (gName i)):=by
 intro pins s σ H D I hn h
 refine wpAny_Assign_Name (thn (he pins s σ H _ I hn h) fun v s1 ⟨y,H1,I1,r1,q1⟩=>?_) hs
 exact store_ok I1 hN hi hx r1 (fun s2 I2=>⟨_,H1,I2,q1⟩) hf
theorem pat_cons {es:List Expr}{ta:TA}(ha:PEt n X e te)(hr:PAt n X es ta)(hs:starEach (e :: es) X.env=(false,eval e X.env) :: starEach es X.env:=by rfl):PAt n X (e :: es) (tCons te ta):=by
 intro pos pins s σ H Q I hn h
 rw [hs]
 show wpAny _ _ (spliced ((false,eval e X.env) :: backTo pos (starEach es X.env))) _ _ s
 refine Calls.spliced_cons (thnT hn (ha pins s σ H _ I hn h) fun u s1 ⟨x,H1,I1,r1,q1⟩ z=>?_)
 exact thn (hr pos pins s1 σ H1 _ I1 z q1) fun us s2 ⟨xs,H2,I2,r2,q2⟩=>⟨x :: xs,H2,I2,.cons r1 r2,q2⟩
theorem pet_one {op}{a:Expr}(h:PEt n X a te):PEt n X (.BoolOp op [a] pos) te:=fun pins s σ H Q I hn hw=>BoolOp_one (h pins s σ H Q I hn hw)
theorem pet_and {a b:Expr}{ta tb:TE}{es:List Expr}(ha:PEt n X a ta)(hb:PEt n X (.BoolOp .And (b :: es) pos) tb):PEt n X (.BoolOp .And (a :: b :: es) pos) (tAndV ta tb):=by
 intro pins s σ H Q I hn h
 refine BoolOp_and (thnT hn (ha pins s σ H _ I hn h) fun v s1 ⟨x,H1,I1,r1,q1⟩ z=>?_)
 obtain ⟨c,rfl,q1⟩:=q1
 cases r1
 refine wpAny_truthy_bool ?_
 cases c with
 | true=>exact hb pins s1 σ H1 Q I1 z q1
 | false=>exact ⟨.bl false,H1,I1,rfl,q1⟩
theorem pet_cmpR {op:CmpOp}{r:R2}{a b:Expr}{ta tb:TE}(ho:OpR X (compareOp op) r)(ha:PEt n X a ta)(hb:PE X b tb)(hm:behindInMarks op b=false):PEt n X (.Compare a [op] [b] pos) (tOp r ta tb):=by
 intro pins s σ H Q I hn h
 exact wpAny_Compare1 (thn (ha pins s σ H _ I hn h) fun v s1 ⟨x,H1,I1,r1,q1⟩=>thn (hb pins s1 σ H1 _ I1 q1) fun u s2 ⟨y,H2,I2,r2,q2⟩=>ho pins s2 σ H2 x y v u Q I2 r1 r2 q2) hm
end
structure FnOkT (n:Nat)(P:Program)(w:World)(K:PySem.W.Frag)(mg:Str->Option Value)(base:Heap)(CX:CXT)(k:Nat)(f:Addr)(fd:FuncData)(ps:List Str)(sp:Sp):Prop where
 len:∀ vs H Q E,sp vs H Q E->vs.length=ps.length
 run:∀ (A:Around) (outer:List Env) (s:Shared) (H:Hp) (args:Args) (us:List Value) (vs:List V) (Q:VK) (E:XK),n<=s.toks->Room k A->Env0 P w K mg base A outer s H->BindsTo s fd args (ps.zip us)->Vals vs us->sp vs H Q E ->
  codeAny (model P w) A (.call (.ref f) args) (CR CX outer P w H s Q E) s
section
variable {X:Cx}{n k k0:Nat}{f:Addr}{fd:FuncData}{ps:List Str}{sp:Sp}{x:Str}{st:Stmt}{p pos:Pos}{e:Expr}{es:List Expr}{t:TA}
theorem pct (F:FnOkT n X.prog X.w X.K X.mg X.base CX0 k f fd ps sp)(hr:Room k0 X.A)(D:DefAt X.K X.mg x st ps f fd)(ha:PAt n X (e :: es) t)(hk:k<=k0:=by decide)(hg:Gl X x:=by rfl)
  (hdb:(x == ("__debug__":Str))=false:=by decide) (he:starEach (e :: es) X.env=(false,eval e X.env) :: starEach es X.env:=by rfl) (hpl:(backTo pos (starEach es X.env)).any (·.1)=false:=by rfl) :
  PEt n X (.Call (.Name x p) (e :: es) [] pos) (tCall sp [] E0 t):=by
 intro pins s σ H Q I hn h
 refine wpAny_Call_Name_kw (ld_glob I hg D.g ?_ hdb)
 refine PySem.W.callWith_K (h₀:=X.base) I.ok.mod.kin D.F.kp (thnT hn (ha pos pins s σ H _ I hn h) fun us s1 ⟨vs,H1,I1,r,q⟩ z=>⟨I1.kIn,?_⟩) he hpl
 have q':sp vs H1 Q E0:=by
  have q2:sp (vs++[]) H1 Q E0:=q
  rw [List.append_nil] at q2
  exact q2
 have hlen:us.length=ps.length:=by rw [<- r.length]; exact F.len _ _ _ _ q'
 have bt:=D.b s1 us I1.kIn (by rw [List.append_nil]; exact hlen)
 rw [List.append_nil] at bt
 refine wpAny_call (codeAny_mono (F.run X.A X.stack s1 H1 ⟨us,[]⟩ us vs _ _ z (hr.mono hk) I1.env0 bt r q') fun res s' hq=>?_)
 cases res with
 | error y=>exact False.elim hq
 | ok fl =>
  cases fl with
  | ret u=>exact I1.after hq
  | next=>exact False.elim hq
  | brk=>exact False.elim hq
  | cont=>exact False.elim hq
theorem pcta (F:FnOk X.prog X.w X.K X.mg X.base CX0 k f fd ps sp)(hr:Room k0 X.A)(D:DefAt X.K X.mg x st ps f fd)(ha:PAt n X (e :: es) t)(hk:k<=k0:=by decide)(hg:Gl X x:=by rfl)
  (hdb:(x == ("__debug__":Str))=false:=by decide) (he:starEach (e :: es) X.env=(false,eval e X.env) :: starEach es X.env:=by rfl) (hpl:(backTo pos (starEach es X.env)).any (·.1)=false:=by rfl) :
  PEt n X (.Call (.Name x p) (e :: es) [] pos) (tCall sp [] E0 t):=by
 intro pins s σ H Q I hn h
 refine wpAny_Call_Name_kw (ld_glob I hg D.g ?_ hdb)
 refine PySem.W.callWith_K (h₀:=X.base) I.ok.mod.kin D.F.kp (thn (ha pos pins s σ H _ I hn h) fun us s1 ⟨vs,H1,I1,r,q⟩=>⟨I1.kIn,?_⟩) he hpl
 exact run_fn F (hr.mono hk) D.b .nil pass0 I1 r q
end
end L2
namespace L2
open PySem PySem.Spec PyProof.Rows
section
variable {X:Cx}{tg iter elt:Expr}{ifs:List Expr}{scope:Scope}{pos:Pos}{N:List Str}{src:List (Option Nat)}{cl:List (Str × Addr)}{wi:TI}{g:TG}{tc:TT}{te:TE}
theorem pet_comp {n0:Nat}(ok:CompOk X N src scope cl)(hcalm:X.calm=true)(hi:PI X tg iter wi)
  (hg:∀ C fp pins s H,PG (compCx X N scope cl C fp pins s H) tg g) (hc:∀ C fp pins s H,PIfs (compCx X N scope cl C fp pins s H) ifs tc) (he:∀ C fp pins s H,PEt n0 (compCx X N scope cl C fp pins s H) elt te)
  (hs:∀ x,foldedSetIterable iter X.env x=pure x:=by intro _; rfl):PEt n0 X (.ListComp elt [⟨tg,iter,ifs,0⟩] scope pos) (tComp wi src g tc te):=by
 intro pins s σ H Q I z0 h
 rw [eval_ListComp]
 refine wpAny_comprehension_free (use:=none) rfl hs ok.clos ok.kind ok.names (thnT z0 (hi pins s σ H _ I h) fun xv s1 h1 z1=>thnT z1 h1 fun itv s2 h2 z2=>?_)
 obtain ⟨it,fp,tn,J,H2,e,I2,T,st2,f2,q2⟩:=h2
 subst e
 refine wpAny_newObj_type (wpAny_newFunctionEnv ok.nocell (by intro y hy; simp at hy) (fun h₁ hns₁ hsb₁=>?_) ok.kind)
 dsimp only at hns₁ hsb₁ ⊢
 generalize hP:s2.heap.push { cls:=.type "list",dict:=none,data:=.seq ([]:List Value).toArray }=P2 at hns₁ hsb₁ ⊢
 have hC:P2.objs.size=s2.heap.objs.size + 1:=by rw [<- hP,Heap.size_push]
 have k:∀ b u,s2.heap.get? b=some u->h₁.get? b=some u:=fun b u e=>by
  have lt:=Heap.lt_size e
  exact (hsb₁.2 b (by rw [hC]; exact Nat.ne_of_lt (Nat.lt_succ_of_lt lt))).trans (Heap.get?_push_of_some _ (hP ▸ Heap.get?_push_of_some _ e))
 have hD:h₁.get? s2.heap.objs.size=some { cls:=.type "list",data:=.seq #[] }:=(hsb₁.2 _ (by rw [hC]; exact (Nat.succ_ne_self _).symm)).trans (Heap.get?_push_of_some _ (hP ▸ Heap.get?_push_size _ rfl))
 have ho:∀ b ∈ fp,∃ o,s2.heap.get? b=some o:=fun b hb=>let ⟨o,e,_⟩:=T.obj 0 _ st2 b hb; ⟨o,e⟩
 obtain ⟨W,⟨m0,w0⟩,turn⟩:=q2 s2.heap.objs.size (I2.hok.fresh (Nat.le_refl _))
 have I0:=comp_start (tk:=s2.toks + ([]:List (Str × Value)).length) ok I2 f2 ho hC k hD hns₁
 have st0:tn 0 h₁:=T.keep 0 _ _ st2 fun b _ o e=>k b o e
 have fr0:∀ b ∈ fp,upd H2 s2.heap.objs.size (.lst []) b=none:=fun b hb=>by
  obtain ⟨o,e⟩:=ho b hb
  rw [upd_ne (Nat.ne_of_lt (Heap.lt_size e))]
  exact (f2 b hb).1
 have stat:∀ {H':Hp},(∀ b ∈ fp,H' b=none)->∀ b ∈ fp,FpOk (compCx X N scope cl P2.objs.size fp pins s2 H2) [] H' b:=fun {H'} hn b hb=>by
  obtain ⟨o,e⟩:=ho b hb
  have lt:=Heap.lt_size e
  refine ⟨hn b hb,?_,fun z=>(List.mem_cons.mp (I2.stkSub b z)).elim (f2 b hb).2.1 (f2 b hb).2.2.1,.inl hb,fun x c z=>(f2 b hb).2.2.2.2.1 x c (ok.sub x c z),fun p hp=>?_⟩
  ·show b ≠ P2.objs.size
   rw [hC]
   exact Nat.ne_of_lt (Nat.lt_succ_of_lt lt)
  ·have hp':p ∈ X.pn++pins:=by
    have:p ∈ (X.pn++pins)++[]:=hp
    simpa using this
   exact (f2 b hb).2.2.2.2.2 p hp'
 have loop:∀ s₃:Shared,s₃={ s2 with heap:=h₁,toks:=s2.toks + ([]:List (Str × Value)).length } ->
   codeAny (model X.prog X.w) X.A (.compLoop (.ListComp elt [⟨tg,iter,ifs,0⟩] scope pos) 0 (.ref it) (.ref s2.heap.objs.size) (compEnvC scope cl P2.objs.size X.env))
    (compPost (model X.prog X.w) X.A X.xe none (EP X pins σ Q) (.ref s2.heap.objs.size) P2.objs.size) s₃:=by
  rintro s₃ rfl
  refine codeAny_loop rfl (fun n s'=>∃ i σ' H',Inv (compCx X N scope cl P2.objs.size fp pins s2 H2) [] σ' H' s'/\tn i s'.heap/\(∀ b ∈ fp,H' b=none)/\W i n σ' H'/\n0<=s'.toks) ?_ m0 ⟨0,_,_,I0,st0,fr0,w0,Nat.le_trans z2 (Nat.le_add_right _ _)⟩
  rintro n s3 ⟨i,σ3,H3,I3,st3,fr3,w3,z3⟩
  show wpAny _ X.A ((compTurn (.ListComp elt [⟨tg,iter,ifs,0⟩] scope pos) 0 (.ref it) (.ref s2.heap.objs.size) (compEnvC scope cl P2.objs.size X.env)).onRaise (fun x=>do noteFrame x (compEnvC scope cl P2.objs.size X.env); theTreesLotGoes x)) _ _ s3
  refine wpAny_noted ?_
  rw [compTurn_list]
  rcases turn i n σ3 H3 w3 with ⟨stop,qn⟩ | ⟨go,N',hN,step⟩
  ·refine wpAny_bind (wpAny_standAt (wpAny_bind (thn (T.done (compCx X N scope cl P2.objs.size fp pins s2 H2) rfl rfl rfl hcalm i [] s3 σ3 H3 _ I3 (stat fr3) st3 stop) fun r s4 ⟨hr,I4⟩=>?_)))
   subst hr
   refine wpAny_pure ?_
   obtain ⟨m,hm,_⟩:=I4.loc
   refine ⟨m,hm,fun h' sb=>⟨.ref s2.heap.objs.size,H3,?_,rfl,qn⟩⟩
   have un:Un (frs X.stack) fp H2 H3 s2.heap h':=Un.but I4.base (by show s2.heap.objs.size<=P2.objs.size; rw [hC]; exact Nat.le_succ _) sb
   have hok:HOk X.prog X.w H3 h':=HOk.but I4.hok I4.free sb
   exact I2.call' (s':={ s4 with heap:=h' }) (ch:=fp) I4.os un hok I4.bare fun b hb=>⟨(f2 b hb).2.2.2.1,(f2 b hb).2.1,(f2 b hb).2.2.2.2.1,(f2 b hb).2.2.2.2.2⟩
  ·refine wpAny_bind (wpAny_standAt (wpAny_bind (thnT z3 (T.item (compCx X N scope cl P2.objs.size fp pins s2 H2) rfl rfl rfl hcalm i [] s3 σ3 H3 _ I3 (stat fr3) st3 go) fun r s4 ⟨u,hr,h4⟩ z4=>?_)))
   subst hr
   dsimp only
   refine wpAny_bind (thnT z4 h4 fun _ s5 ⟨x,H5,I5,r5,y5,st5,fr5⟩ z5=>?_)
   have I5':=I5.pinned (stat fr5) (T.obj _ _ st5)
   refine wpAny_bind (up z5 (wpAny_mono (hg P2.objs.size fp pins s2 H2 _ s5 σ3 H5 x u _ I5' r5 (step x H5 y5)) (fun _ s6 ⟨σ6,H6,I6,q6⟩ z6=>?_) fun _ _ z=>False.elim z))
   have again:∀ {s7:Shared} {σ7:St} {H7:Hp},Inv (compCx X N scope cl P2.objs.size fp pins s2 H2) ([]++pinsAt fp s5.heap) σ7 H7 s7->N' σ7 H7->n0<=s7.toks->∃ m,m < n/\∃ i σ' H',Inv (compCx X N scope cl P2.objs.size fp pins s2 H2) [] σ' H' s7/\tn i s7.heap/\(∀ b ∈ fp,H' b=none)/\W i m σ' H'/\n0<=s7.toks:=fun {s7 σ7 H7} I7 n7 z7=>by
    obtain ⟨m',hm,w7⟩:=hN σ7 H7 n7
    refine ⟨m',hm,i + 1,σ7,H7,I7.unpinned,T.keep _ _ _ st5 fun b hb o e=>(I7.pin (b,o) (List.mem_append_right _ (List.mem_append_right _ (mem_pinsAt hb e)))).1,fun b hb=>?_,w7,z7⟩
    obtain ⟨o,e,d⟩:=T.obj _ _ st5 b hb
    exact (I7.pin (b,o) (List.mem_append_right _ (List.mem_append_right _ (mem_pinsAt hb e)))).2.1
   refine wpAny_bind (up z6 (wpAny_mono (hc P2.objs.size fp pins s2 H2 _ s6 σ6 H6 _ I6 q6) (fun b s7 ⟨H7,I7,q7⟩ z7=>?_) fun _ _ z=>False.elim z))
   cases b with
   | false =>
    rw [if_neg Bool.false_ne_true] at q7
    exact wpAny_pure ⟨rfl,again I7 q7 z7⟩
   | true =>
    rw [if_pos rfl] at q7
    refine wpAny_bind (wpAny_bind (up z7 (wpAny_mono (he P2.objs.size fp pins s2 H2 _ s7 σ6 H7 _ I7 z7 q7) (fun y s8 ⟨v8,H8,I8,r8,ys,hys,hlen,q8⟩ z8=>?_) fun _ _ z=>False.elim z)))
    refine wpAny_bind (up z8 (wpAny_mono (mt_append (X:=compCx X N scope cl P2.objs.size fp pins s2 H2) _ s8 σ6 H8 (.ref s2.heap.objs.size) [v8] (.ref s2.heap.objs.size) [y] (fun _ H9=>N' σ6 H9) I8 rfl (.cons r8 .nil) ⟨_,ys,v8,rfl,rfl,hys,hlen,q8⟩) (fun _ s9 ⟨v9,H9,I9,_,q9⟩ z9=>?_) fun _ _ z=>False.elim z))
    exact wpAny_pure (wpAny_pure ⟨rfl,again I9 q9 z9⟩)
 exact codeAny_compStart_list (loop _ rfl) (T.self _ 0 _ _ _ st0 (loop _ rfl))
end
noncomputable def tRepG (to:TE)(y z:Str):TE:=fun σ H Q=>to σ H fun x H1=>∃ t:Str,x=.str t/\t.length<=1000000/\Q (.str (PySem.Txt.replace t y z)) H1
theorem pet_rep {X:Cx}{n0:Nat}{o:Expr}{to:TE}{g y z:Str}{gp apos cpos p2:Pos}{j2:Nat}{tu:Tok}(hm:X.mg g=some (.str y tu))(h1:tu ≠ 0)(h2:tu < n0)(ho:PEt n0 X o to)(hyz:(y == z)=false:=by decide +kernel)(hz:z.length<=14:=by decide +kernel)(hg:Gl X g:=by rfl)(hdb:(g == ("__debug__":Str))=false:=by decide)
  (hbase:attributeBase o "replace" X.env (eval o X.env)=eval o X.env:=by rfl)
  (hfew:((backTo cpos (starEach [.Name g gp,.Constant (.str z) j2 p2] X.env)).all (fun x=>!x.1) && (backToKw cpos (keywordEach [] X.env)).all (fun x=>x.1.isSome)
   && decide (([.Name g gp,.Constant (.str z) j2 p2]:List Expr).length + ([]:List Keyword).length + (if ([]:List Keyword).isEmpty then 0 else 1) < 30))=true:=by rfl)
  (hline:(apos.endLine == cpos.line)=true:=by rfl) :
  PEt n0 X (.Call (.Attribute o "replace" apos) [.Name g gp,.Constant (.str z) j2 p2] [] cpos) (tRepG to y z):=by
 intro pins s σ H Q I hn h
 refine wpAny_Call_method_late hbase hfew hline rfl (thnT hn (ho pins s σ H _ I hn h) fun u s1 ⟨x,H1,I1,r1,q1⟩ z1=>?_)
 obtain ⟨t,rfl,ht,q⟩:=q1
 obtain ⟨tk,rfl⟩:=r1
 refine ⟨"str","str.replace",F.plainAttrs_str,F.slot_str_replace,F.type_str_replace,typeIs_str _ _ _,(fun a e=>by cases e),?_⟩
 have hs:starEach [.Name g gp,.Constant (.str z) j2 p2] X.env=[(false,eval (.Name g gp) X.env),(false,eval (.Constant (.str z) j2 p2) X.env)]:=rfl
 rw [hs]
 refine Calls.callWith_builtin rfl (Calls.evalArgs_plain ?_)
 show wpAny _ _ (spliced ((false,eval (.Name g gp) X.env) :: backTo cpos [(false,eval (.Constant (.str z) j2 p2) X.env)])) _ _ s1
 refine Calls.spliced_cons (ld_glob I1 hg hm ?_ hdb)
 show wpAny _ _ (spliced ((false,eval (.Constant (.str z) j2 p2) X.env) :: backTo cpos [])) _ _ _
 refine Calls.spliced_cons (Calls.Constant_str ?_)
 refine Calls.spliced_nil ?_
 have e1:s1.toks ≠ 0:=fun e=>by rw [e] at z1; exact Nat.not_lt_zero _ (Nat.lt_of_lt_of_le h2 z1)
 have e2:tu ≠ s1.toks:=fun e=>by rw [<- e] at z1; exact Nat.lt_irrefl _ (Nat.lt_of_lt_of_le h2 z1)
 exact PySem.SC.replaceW h1 e1 e2 hyz (by omega) hz fun t' k=>⟨.str _,H1,I1.tok k,⟨_,rfl⟩,q⟩
end L2
namespace L2
open PySem PySem.Spec PyProof.Rows
theorem fnT_of {n0:Nat}{CX:CXT}{P:Program}{w:World}{K:PySem.W.Frag}{mg:Str->Option Value}{base:Heap}{k:Nat}{f:Addr}{name qual:Str}{params:Arguments}{body:List Stmt}{scope:Scope}{dV kV doc pm cdv ct oc:Value}{an od:Option Addr}
  {osl:Array (Option Value)} {N ps:List Str} {sp:Sp} (lk:K.lookup f=some ⟨oc,od,.func (PySem.W.fnOf name qual params body scope dV kV doc pm an cdv ct),osl⟩) (hcd:PySem.W.codeIn K cdv qual=true) (S:FnScope N ps scope)
  (len:∀ vs H Q E,sp vs H Q E->vs.length=ps.length)
  (hbody:∀ (A:Around) (outer:List Env) (s:Shared) (H:Hp) (vs:List V) (Q:VK) (E:XK),Room k (A.deeper (envOfC qual scope s.heap.objs.size f cdv))->sp vs H Q E ->
   ∃ t,PSst n0 (cxOf CX P w K mg base N qual scope f cdv A outer s H E) body t/\t { nx:=fun _ H'=>Q .non H',rt:=Q } (start N vs) H) :
  FnOkT n0 P w K mg base CX (k + 1) f (PySem.W.fnOf name qual params body scope dV kV doc pm an cdv ct) ps sp:=by
 refine ⟨len,fun A outer s H args us vs Q E z0 hr e0 hb r hsp=>?_⟩
 have hl:=len _ _ _ _ hsp
 have KX:K.In s.heap:=e0.mod.kin.keeps fun b o e=>(e0.bs b o e).1
 have lim:s.heap.NoLimit:=e0.mod.nolimit.keeps fun b o e=>(e0.bs b o e).1
 have hkind:∀ y ∈ ps.zip us,scope.names.lookup y.1=some .local\/(scope.names.lookup y.1=some .cell/\((cellsFrom (s.heap.objs.size + 1) scope.names []).lookup y.1).isSome=true):=fun ⟨n,v⟩ hy=>by
  rcases S.par n (List.of_mem_zip hy).1 with q | q
  ·exact .inl q
  ·exact .inr ⟨q,PySem.W.cellsFrom_some _ _ _ (.inl q)⟩
 refine codeAny_call_function hr.depth (KX _ _ lk) rfl S.co S.gen rfl (PySem.W.codeRec_of KX hcd) (hb _ _ _ _ ?_)
 refine up z0 (wpAny_newFunctionEnv_cells S.kind hkind fun env he s1 x z1=>?_)
 subst he
 refine ⟨lim.keeps x.toInCall.keep,codeAny_func ?_⟩
 obtain ⟨t,ht,hq⟩:=hbody A outer s H vs Q E (hr.deeper _) hsp
 have I:Inv (cxOf CX P w K mg base N qual scope f cdv A outer s H E) [] (start N vs) H s1:=inv_start S hr.hd e0 hl r x
 refine wpAny_mono (ht [] s1 (start N vs) H _ I z1 hq) (fun fl s' hs=>?_) fun e s' hs=>hs
 have fin:∀ {σ':St} {H':Hp} {v:V} {u:Value},Inv (cxOf CX P w K mg base N qual scope f cdv A outer s H E) [] σ' H' s'->RelV v u->Q v H'->CE outer P w H s Q u s' :=
  fun {σ' H' v u} J rv q=>⟨v,H',J.os,J.bare,J.base,J.hok,rv,q⟩
 cases fl with
 | ret u =>
  obtain ⟨v,σ',H',J,rv,q⟩:=hs
  exact fin J rv q
 | next =>
  obtain ⟨σ',H',J,q⟩:=hs
  exact fin (v:=V.non) (u:=Value.none) J rfl q
 | brk =>
  obtain ⟨_,_,_,q⟩:=hs
  exact False.elim q
 | cont =>
  obtain ⟨_,_,_,q⟩:=hs
  exact False.elim q
theorem law_callT {n0:Nat}{P:Program}{w:World}{K:PySem.W.Frag}{mg mb:Str->Option Value}{CX:CXT}{k:Nat}{fa a:Addr}{fd:FuncData}{x:Str}{sp:Sp}{s₁:Shared}{vs:List Value}{ns:List Int}
  (z0:n0<=s₁.toks) (KX:K.In s₁.heap) (hns:s₁.heap.Ns mainGlobals mg) (hb:s₁.heap.Ns builtinsNs mb) (hbb:∀ x:Str,x ≠ "__name__"->mb x=bootBuiltins x) (hlim:s₁.heap.NoLimit) (hg:s₁.gens=#[])
  (ha:s₁.heap.get? a=some { cls:=.type "list",data:=.seq vs.toArray }) (hi:IntsAre vs ns) (hl:ns.length<=sizeLine) (hr:Room k callerA)
  (F:∀ base:Heap,K.In base->base.Ns mainGlobals mg->FnOkT n0 P w K mg base CX k fa fd [x] sp) (hbind:∀ (s:Shared) (u:Value),BindsTo s fd ⟨[u],[]⟩ [(x,u)])
  (hsp:∀ H:Hp,Only H->SqL K H a (ns.map V.int)->sp [.ref a] H (fun v _=>v=.bl true) fun _ _ _=>False)
  (hCX:∀ H e s',CX [] H s₁ (fun _ _ _=>False) e s'->False) :
  codeAny (model P w) callerA (.call (.ref fa) ⟨[.ref a],[]⟩) (fun r s'=>r=.ok (.ret (.bool true))/\OldK s₁.heap s'.heap/\s'.os=s₁.os/\AllBare s'.gens) s₁:=by
 have rv:=vals_ints hi
 have lenV:=hi.length
 have core:∀ H:Hp,Only H->SqL K H a (ns.map V.int)->HOk P w H s₁.heap->(∀ b,H b ≠ none->b=a)->(H a ≠ none->K.lookup a=none) ->
   codeAny (model P w) callerA (.call (.ref fa) ⟨[.ref a],[]⟩) (fun r s'=>r=.ok (.ret (.bool true))/\OldK s₁.heap s'.heap/\s'.os=s₁.os/\AllBare s'.gens) s₁:=by
  intro H hO hS hok hA hK
  have base_of:∀ {b:Addr} {o:Obj},s₁.heap.get? b=some o->H b=none->(hidT s₁.heap H).get? b=some o:=fun e n=>hidT_get e n
  have noA:∀ {b:Addr} {o:Obj} {es:Array DictEntry} {ep:Nat},s₁.heap.get? b=some o->o.data=.dict es ep->H b=none:=fun {b o es ep} e d=>by
   cases q:H b with
   | none=>rfl
   | some u =>
    have e':b=a:=hA b (by rw [q]; simp)
    subst e'
    rw [ha] at e; cases e
    have d':Data.seq vs.toArray _=Data.dict es ep:=d
    cases d'
  have nsK:∀ {b:Addr} {m:Str->Option Value},s₁.heap.Ns b m->(hidT s₁.heap H).Ns b m:=fun {b m} ⟨o,es,ep,e,d,r⟩=>⟨o,es,ep,base_of e (noA e d),d,r⟩
  have hKb:K.In (hidT s₁.heap H):=fun b o e=>base_of (KX b o e) (by
   cases q:H b with
   | none=>rfl
   | some u =>
    have e':b=a:=hA b (by rw [q]; simp)
    subst e'
    rw [hK (by rw [q]; simp)] at e; cases e)
  have hM:Mod K mg (hidT s₁.heap H):=⟨hKb,nsK hns,⟨mb,nsK hb,hbb⟩,let ⟨mc,h1,h2⟩:=hlim; ⟨mc,nsK h1,h2⟩⟩
  have e0:Env0 P w K mg (hidT s₁.heap H) callerA [] s₁ H:=⟨rfl,hM,fun b o e=>of_hidT e,Nat.le_of_eq (hidT_size _ _),trivial,fun b hb=>absurd (show b ∈ ([]:List Addr) from hb) (by simp),hok,.of_eq hg⟩
  refine codeAny_mono ((F _ hKb (nsK hns)).run callerA [] s₁ H ⟨[.ref a],[]⟩ [.ref a] [.ref a] _ _ z0 hr e0 (hbind s₁ (.ref a)) (.cons rfl .nil) (hsp H hO hS)) fun r s' h=>?_
  cases r with
  | error e=>exact (hCX H e s' h).elim
  | ok fl =>
   cases fl with
   | next=>exact False.elim h
   | brk=>exact False.elim h
   | cont=>exact False.elim h
   | ret u =>
    obtain ⟨v,H',os,bare,un,hok',r',q⟩:=h
    have q':v=.bl true:=q
    subst q'
    obtain rfl:u=Value.bool true:=r'
    refine ⟨rfl,OldK.of_keep fun b o e=>?_,os,bare⟩
    cases q:H b with
    | none=>exact un.keep b o e q (by intro z; exact absurd (show b ∈ ([]:List Addr) from z) (by simp)) (by simp)
    | some u =>
     rcases hO b with z | ⟨ob,xs,z⟩
     ·rw [q] at z; cases z
     ·have z2:=un.frzs b ob _ z
      obtain ⟨e1,_⟩:=hok b _ z
      obtain ⟨e2,_⟩:=hok' b _ z2
      rw [e] at e1; cases e1
      exact e2
 cases hk:K.lookup a with
 | some o =>
  have e:=KX a o hk
  rw [ha] at e
  cases e
  refine core (fun _=>none) (fun _=>.inl rfl) (.inr ⟨_,vs.toArray,_,hk,rfl,rfl,rfl,by rw [List.size_toArray,lenV]; exact hl,by simpa using rv⟩) (fun b u z=>by have z':(none:Option HO)=some u:=z; cases z') (fun b z=>absurd rfl z) fun z=>absurd rfl z
 | none =>
  refine core (fun b=>if b=a then some (.frz { cls:=.type "list",data:=.seq vs.toArray } (.lst (ns.map V.int))) else none) (fun b=>?_) (.inl (.inr ⟨{ cls:=.type "list",data:=.seq vs.toArray },if_pos rfl⟩)) (fun b u z=>?_) (fun b z=>?_) fun _=>hk
  ·by_cases hb:b=a
   ·exact .inr ⟨_,_,if_pos hb⟩
   ·exact .inl (if_neg hb)
  ·by_cases hb:b=a
   ·have z':=(if_pos hb).symm.trans z
    cases z'
    subst hb
    exact ⟨ha,by rw [List.length_map]; exact hl,vs,_,rv,ha⟩
   ·have z':=(if_neg hb).symm.trans z
    cases z'
  ·by_cases hb:b=a
   ·exact hb
   ·exact absurd (if_neg hb) z
end L2
namespace L2
open PySem PySem.W PySem.Calls Att PyProof.Rows
noncomputable abbrev WalkT (n0:Nat)(q:Program)(loose:List Str)(XP:(Str->Option Value)->Heap->Prop)(YP:World->Heap->Prop)(r:RowW)(d:DefRec)(kwd:List (Str × Expr))(run:Value->List Value->Sem Value):Prop :=
 ∀ (w:World) (s₀ s₁:Shared) (mg mb:Str->Option Value),Ground q loose r.records XP w s₀ mg mb s₁.heap->YP w s₁.heap->n0<=s₁.toks->∀ (a:Addr) (o:Obj) (pm cd doc dV kV:Value),s₁.heap.get? a=some o ->
  o.data=.func { docDef d.name d.params d.body d.scope pm cd doc with defaults:=dV,kwdefaults:=kV }->s₁.heap.CodeRec cd d.name->Dflts mg s₁.heap d.params kwd dV kV->mg d.name=some (.ref a)->s₁.gens=#[] ->
  ∀ (args:List WData) (vals:List Value) (as:List Addr),r.claim.pre args=true->WData.layableAll args=true->ReadsAllW r.records (classAt s₀.heap) s₁.heap vals args as->WellAll w.params s₁.heap vals args->(∀ a ∈ as,(a == sysModules)=false) ->
   wpAny (model r.prog w) callerA (run (.ref a) vals) (fun v s'=>GoodWG r.claim (classAt s₀.heap) (ExcName.means s₀.heap) args s₁ (.ok (.ret v)) s')
    (fun e s'=>GoodWG r.claim (classAt s₀.heap) (ExcName.means s₀.heap) args s₁ (.error e) s') s₁
theorem open_anyT {n0:Nat}{r:RowW}{run:Value->List Value->Sem Value}{tree:List Value->Sem Fin}{q:Program}{loose defs kps:List Str}{writes:Bool}{Xt:Shared->Bool}{XP:(Str->Option Value)->Heap->Prop}{α:Type}{Yf:Shared->α}{Ya:World->α}{YP:World->Heap->Prop}{N:Nat}
  (left:LeftO r.prog q loose Xt (fun s=>(Yf s,decide (n0<=s.toks))) (fun w=>(Ya w,true)) N) (hY:∀ w s,Yf s=Ya w->YP w s.heap) (hYk:∀ w h h',YP w h->(∀ b o,h.get? b=some o->h'.get? b=some o)->YP w h') (hX:∀ s,Xt s=true->XP (s.heap.nsMap mainGlobals) s.heap) (hXk:∀ mg h h',XP mg h->(∀ b o,h.get? b=some o->h'.get? b=some o)->XP mg h')
  (hRf:∀ s,Xt s=true->RecFacts r.records s.heap) (hwr:(!writes || r.records.isEmpty)=true) (ok:(chainsOk q && opensWell r.prog && (frees r && r.within.isEmpty))=true) (hb:r.prog.bare) (hw:r.promised)
  (ht:∀ vs (w:World) (s:Shared) mg f (Q:Fin->Shared->Prop) (E:Value->Shared->Prop),s.heap.Ns mainGlobals mg->mg r.name=some f->wpAny (model r.prog w) callerA (run f vs) (fun v s'=>Q (.done (.ret v)) s') E s->wpAny (model r.prog w) callerA (tree vs) Q E s)
  (pin:∀ w s,s.heap.isNs mainGlobals=true->Ground q loose [] XP w s (s.heap.nsMap mainGlobals) (s.heap.nsMap builtinsNs) s.heap->∀ n ∈ defs,isTheDefsW r.prog s.heap n)
  (call:∀ (w:World) (s₀ s₁:Shared) (mg mb:Str->Option Value),Ground q loose r.records XP w s₀ mg mb s₁.heap->YP w s₁.heap->n0<=s₁.toks->∀ (args:List WData) (vs:List Value) (as:List Addr),
   r.claim.pre args=true->WData.layableAll args=true->Laid r.records w s₀ s₁ args vs as->sysModules < s₀.heap.objs.size->∃ f,mg r.name=some f /\
    wpAny (model r.prog w) callerA (run f vs) (fun v s'=>GoodWG r.claim (classAt s₀.heap) (ExcName.means s₀.heap) args s₁ (.ok (.ret v)) s')
     (fun e s'=>GoodWG r.claim (classAt s₀.heap) (ExcName.means s₀.heap) args s₁ (.error e) s') s₁):r.claim.HoldsOpenBy (fun vs=>⟨tree vs,.builtin "claim.caller" {},default,[]⟩) defs kps writes:=by
 obtain ⟨ok,k5⟩:=Bool.and_eq_true_iff.mp ok
 obtain ⟨hch,o1⟩:=Bool.and_eq_true_iff.mp ok
 obtain ⟨k5,k6⟩:=Bool.and_eq_true_iff.mp k5
 obtain ⟨hsame,hu,ha,hap,hm⟩:=frees_parts k5
 refine ⟨⟨hb,o1,by show r.makers.map _=[]; rw [hm]; rfl⟩,hw.witness,fun w=>⟨(left.behind hX hch w).1,fun s' hs'=>?_⟩⟩
 obtain ⟨s₀,hf,hg0,s,hT,hz,hgens,hg,G00,y⟩:=(left.behind (XP:=fun mg h=>XP mg h/\RecFacts r.records h) (fun s hs=>⟨hX s hs,hRf s hs⟩) hch w).2 s' hs'
 have G0:Ground q loose [] XP w s (s.heap.nsMap mainGlobals) (s.heap.nsMap builtinsNs) s.heap:=⟨G00.T,G00.B,G00.D,G00.TE,G00.TD,G00.W,G00.X.1,G00.cls,G00.has,G00.apart,G00.once,G00.K⟩
 have RF:=G00.X.2
 have hT':=hT
 refine ⟨s₀,hf,hg0,s,hT,pin w s hg G0,RF.1,RF.2.1,?_⟩
 have hgens:s.gens=#[]:=Array.eq_empty_of_size_eq_zero (beq_iff_eq.mp hgens)
 have G:Ground q loose r.records XP w s _ _ s.heap:=RF.ground G0
 refine ClaimW.callFrom_of_specG (c:=r.claim) hz hgens fun args hpre hlay ord hord=>?_
 obtain ⟨⟨vs,s₁⟩,hlaid⟩:=Option.isSome_iff_exists.mp (layAllW_isSome (P:=w.params) (ord:=ord) G.has args r.args s (pre_splitW hpre).1)
 have keeps:=layAllW_keeps _ _ _ hlaid
 have hal:=layAllW_rest _ _ _ hlaid
 obtain ⟨as,hrd,hin,hold⟩:=reads_layAllW hord _ _ _ hlaid hlay s₁.heap (fun _ _ e=>e)
 have L:Laid r.records w s s₁ args vs as:=⟨⟨ord,hord,hlaid⟩,hrd,hin,hold,keeps,hal.1.trans hgens,hal.2.2.1⟩
 have G₁:=G.keeps hXk keeps
 obtain ⟨f,hf,h⟩:=call w s s₁ _ _ G₁ (hYk _ _ _ (hY w s (congrArg Prod.fst y)) keeps) (Nat.le_trans (of_decide_eq_true (congrArg Prod.snd y)) (layAllW_grows _ _ _ hlaid).toks) args vs as hpre hlay L G.low
 have hi:=ident_freeW hu ha hap
 have hwi:r.claim.within=[]:=List.isEmpty_iff.mp k6
 exact ⟨vs,s₁,hlaid,ht vs w s₁ _ f _ _ G₁.T.g hf (wpAny_mono h (fun v s' g=>⟨_,rfl,have z:=g.laid (c:=r.claim) hsame hwi hi L; ⟨z.1,z.2.1,z.2.2,fun q=>⟨namesKept_of hT' hg kps keeps g.2.1.old,noTable hwr q⟩⟩⟩) fun e s' g=>have z:=g.laid (c:=r.claim) hsame hwi hi L; ⟨z.1,z.2.1,z.2.2,fun q=>⟨namesKept_of hT' hg kps keeps g.2.1.old,noTable hwr q⟩⟩)⟩
theorem holds_openT {n0:Nat}{r:OpenRow}{q:Program}{loose:List Str}{Xt:Shared->Bool}{XP:(Str->Option Value)->Heap->Prop}{α:Type}{Yf:Shared->α}{Ya:World->α}{YP:World->Heap->Prop}{d:DefRec}{kwd:List (Str × Expr)}{N:Nat}
  (left:LeftO r.prog q loose Xt (fun s=>(Yf s,decide (n0<=s.toks))) (fun w=>(Ya w,true)) N) (hY:∀ w s,Yf s=Ya w->YP w s.heap) (hYk:∀ w h h',YP w h->(∀ b o,h.get? b=some o->h'.get? b=some o)->YP w h')
  (hX:∀ s,Xt s=true->XP (s.heap.nsMap mainGlobals) s.heap) (hXk:∀ mg h h',XP mg h->(∀ b o,h.get? b=some o->h'.get? b=some o)->XP mg h')
  (hdef:defOf q r.name=some (d,kwd)) (hp:r.prog.theDef r.name=some (d.params,d.body,d.scope)) (hk:kwWritten? d.params.kwonlyargs d.params.kw_defaults=some kwd) (hRf:∀ s,Xt s=true->RecFacts r.records s.heap) (hwr:(!r.writes || r.records.isEmpty)=true)
  (k1:r.wellSaid=true) (ok:(chainsOk q && opensWell r.prog && (frees r.toRowW && r.within.isEmpty))=true) (hb:r.prog.bare) (hw:r.toRowW.promised)
  (call:WalkT n0 q loose XP YP r.toRowW d kwd fun f vs=>PySem.call f vs):r.Holds:=by
 refine ⟨k1,hw,open_anyT (r:=r.toRowW) (run:=fun f vs=>PySem.call f vs) (tree:=fun vs=>do match <- nsGet mainNs r.name with
   | some f=>do ret (<- PySem.call f vs)
   | none=>unsupported "claim.caller:no-such-global") left hY hYk hX hXk hRf hwr ok hb hw
  (fun vs w s mg f Q E hg hf h=>wpAny_bind (wpAny_nsGet hg (by rw [hf]; exact wpAny_bind (wpAny_mono h (fun _ _ x=>wpAny_pure x) fun _ _ x=>x))))
  (fun w s hg G n hn=>?_) fun w s₀ s₁ mg mb G Y z args vs as hpre hlay L low=>?_⟩
 ·obtain rfl:n=r.name:=by split at hn <;> simp_all
  exact pinned_of_view hg G hdef hp hk
 ·obtain ⟨a,o,pm,cd,doc,dV,kV,h1,h2,h3,h4,h5⟩:=G.fn hdef
  exact ⟨.ref a,h1,call w s₀ s₁ mg mb G Y z a o pm cd doc dV kV h2 h3 h4 h5 (defOf_name hdef ▸ h1) L.gens args vs as hpre hlay L.reads L.well (L.low low)⟩
theorem attach_callT {n0:Nat}{l:OpenLaw}{n:Nat}{q:Program}{loose:List Str}{XP:(Str->Option Value)->Heap->Prop}{YP:World->Heap->Prop}{d:DefRec}
  (hn:l.most=some n) (hdf:d.params.defaults=[])
  (call:∀ (w:World) (s₀ s₁:Shared) (mg mb:Str->Option Value) (fa:Addr) (o:Obj) (pm cd doc:Value) (a:Addr) (vs:List Value) (ns:List Int),
   Ground q loose [] XP w s₀ mg mb s₁.heap->YP w s₁.heap->n0<=s₁.toks ->
   s₁.heap.get? fa=some o->o.data=.func (docDef d.name d.params d.body d.scope pm cd doc)->s₁.heap.CodeRec cd d.name->mg d.name=some (.ref fa) ->
   s₁.heap.get? a=some { cls:=.type "list",data:=.seq vs.toArray }->IntsAre vs ns->ns.length<=n->s₁.gens=#[] ->
   codeAny (model l.prog w) callerA (.call (.ref fa) ⟨[.ref a],[]⟩) (fun r s'=>r=.ok (.ret (.bool true))/\OldK s₁.heap s'.heap/\s'.os=s₁.os/\AllBare s'.gens) s₁) :
  WalkT n0 q loose XP YP l.row.toRowW d [] (fun f vs=>PySem.call f vs):=by
 intro w s₀ s₁ mg mb G Y z fa o pm cd doc dV kV ho hd hcd hD hmg hg args vals as hpre hlay hrd hwl hlo
 obtain rfl:dV=.none:=Dflts.none hD hdf
 obtain rfl:kV=.none:=Dflts.noKw hD
 obtain ⟨a,vs,ns,rfl,rfl,hobj,hints,hlen⟩:=script_of hn hpre hwl
 refine enter_call (codeAny_mono (call w s₀ s₁ mg mb fa o pm cd doc a vs ns G Y z ho (fd_plain hd) hcd hmg hobj hints hlen hg) fun r s' hq=>?_)
 obtain ⟨rfl,h2,h3,h4⟩:=hq
 exact ⟨.inl ⟨.bool true,.bool true,[],rfl,fun _=>rfl,.bool true,post_true l _,fun _=>⟨List.Pairwise.nil,fun _ hm=>(nomatch hm)⟩⟩,h2,h3,h4⟩
end L2
namespace L2
open PySem PySem.Spec PyProof.Rows
theorem walk_ofT {n0:Nat}{l:PySem.W.OpenLaw}{n k:Nat}{q:Program}{loose:List Str}{XP:(Str->Option Value)->Heap->Prop}{YP:World->Heap->Prop}{d:DefRec}{K:Params->PySem.W.Frag}{CX:World->CXT}{sp:World->Sp}{x:Str}
  (hn:l.most=some n) (hn2:n<=sizeLine) (hdf:d.params.defaults=[]) (hr:Room k callerA)
  (hY:∀ (w:World) (h:Heap),YP w h->(K w.params).In h)
  (F:∀ (w:World) (mg:Str->Option Value) (fa:Addr) (h:Heap),(K w.params).In h->h.Ns mainGlobals mg->mg d.name=some (.ref fa) ->
   ∃ fd:FuncData,(∀ (s:Shared) (u:Value),BindsTo s fd ⟨[u],[]⟩ [(x,u)]) /\
    ∀ base:Heap,(K w.params).In base->base.Ns mainGlobals mg->FnOkT n0 l.prog w (K w.params) mg base (CX w) k fa fd [x] (sp w))
  (hsp:∀ (w:World) (H:Hp) (a:Addr) (ns:List Int),ns.length<=n->Only H->SqL (K w.params) H a (ns.map V.int)->sp w [.ref a] H (fun v _=>v=.bl true) fun _ _ _=>False)
  (hCX:∀ (w:World) (H:Hp) (s:Shared) (e:Value) (s':Shared),CX w [] H s (fun _ _ _=>False) e s'->False) :
  WalkT n0 q loose XP YP l.row.toRowW d [] (fun f vs=>PySem.call f vs):=by
 refine attach_callT hn hdf fun w s₀ s₁ mg mb fa o pm cd doc a vs ns G Y z ho hd hcd hmg hobj hints hlen hg=>?_
 have KX:=hY w _ Y
 obtain ⟨fd,hb,hF⟩:=F w mg fa _ KX G.T.g hmg
 exact law_callT z KX G.T.g G.T.b G.T.builtins G.T.nolimit hg hobj hints (Nat.le_trans hlen hn2) hr hF hb (fun H hO hS=>hsp w H a ns hlen hO hS) fun H e s'=>hCX w H s₁ e s'
end L2
namespace L2
open PySem PySem.W
theorem head_onceT {n0:Nat}{r:OpenRow}{q:Program}{H:Hook}{d:DefRec}{kwd:List (PySem.Str × Expr)}{N:Nat}(left:LeftO r.prog q [] (fun s=>xlAt q [] s && recOk (RowW.records r.toRowW) s) (fun s=>(Hook.obs H s,decide (n0<=s.toks))) (fun w=>(Hook.val H w,true)) N)
  (hdef:defOf q r.name=some (d,kwd)) (hp:r.prog.theDef r.name=some (d.params,d.body,d.scope)) (hk:kwWritten? d.params.kwonlyargs d.params.kw_defaults=some kwd) (hwr:(!r.writes || r.records.isEmpty)=true)
  (k1:r.wellSaid=true) (ok:(chainsOk q && opensWell r.prog && (frees r.toRowW && r.within.isEmpty))=true) (hb:r.prog.bare) (hw:r.toRowW.promised)
  (call:WalkT n0 q [] (XL q []) (Hook.says H) r.toRowW d kwd fun f vs=>PySem.call f vs):r.Holds :=
 holds_openT (q:=q) (loose:=[]) (Xt:=fun s=>xlAt q [] s && recOk (RowW.records r.toRowW) s) (XP:=XL q []) (Yf:=Hook.obs H) (Ya:=Hook.val H) (YP:=Hook.says H) (N:=N) left (Hook.of H) (Hook.keeps H) (fun s e=>xl_of s (Bool.and_eq_true_iff.mp e).1) XL.keeps hdef hp hk
  (fun s e=>recFacts_of (Bool.and_eq_true_iff.mp e).2) hwr k1 ok hb hw call
end L2
namespace L2
open PySem PySem.Spec PyProof.Rows
theorem psst_mid {X:Cx}{n:Nat}{st:Stmt}{rest:List Stmt}{t u:TS}(h1:PSt n X st t)(h2:PSst n X rest u):PSst n X (st :: rest) (tMid t u):=by
 intro pins s σ H D I hn ⟨M,h,hm⟩
 refine wpAny_execs_cons (thnT hn (h1 pins s σ H { D with nx:=M } I hn h) fun f s1 q z=>?_)
 cases f with
 | next =>
  obtain ⟨σ',H',I',q⟩:=q
  exact h2 pins s1 σ' H' D I' z (hm _ _ q)
 | ret v=>exact q
 | brk=>exact q
 | cont=>exact q
theorem Fun.okT {n0:Nat}{P:Program}{w:World}{K:PySem.W.Frag}{mg:Str->Option Value}{base:Heap}{x qual:Str}{st:Stmt}{f:Addr}{fd:FuncData}{N ps:List Str}{k:Nat}{sp:Sp}(F:Fun K x qual st f fd)(S:FnScope N ps (defScope st))(len:∀ vs H Q E,sp vs H Q E->vs.length=ps.length)
  (hbody:∀ (cdv:Value) (A:Around) (outer:List Env) (s:Shared) (H:Hp) (vs:List V) (Q:VK) (E:XK),Room k (A.deeper (envOfC qual (defScope st) s.heap.objs.size f cdv))->sp vs H Q E ->
   ∃ t,PSst n0 (cxOf CX0 P w K mg base N qual (defScope st) f cdv A outer s H E).nox (defBody st) t/\t { nx:=fun _ H'=>Q .non H',rt:=Q } (start N vs) H):FnOkT n0 P w K mg base CX0 (k + 1) f fd ps sp:=by
 obtain ⟨oc,od,kV,doc,pm,an,cdv,ct,osl,rfl,lk,hcd⟩:=F.ex
 refine fnT_of lk hcd S len fun A outer s H vs Q E hr hsp=>?_
 obtain ⟨t,h,q⟩:=hbody cdv A outer s H vs Q E hr hsp
 exact ⟨t,h.nox,q⟩
end L2
namespace Cells
noncomputable def rowCs (p:Nat->Bool)(i:Nat):Nat->List Nat->List (Nat × Nat)
 | _,[]=>[]
 | j,c :: r=>(if p c=true then [(i,j)] else [])++rowCs p i (j + 1) r
noncomputable def allCs (p:Nat->Bool):Nat->List (List Nat)->List (Nat × Nat)
 | _,[]=>[]
 | i,t :: r=>rowCs p i 0 t++allCs p (i + 1) r
theorem rowCs_append (p:Nat->Bool)(i:Nat):∀ (j:Nat) (a b:List Nat),rowCs p i j (a++b)=rowCs p i j a++rowCs p i (j + a.length) b
 | j,[],b=>by simp [rowCs]
 | j,c :: a,b=>by
  simp only [List.cons_append,rowCs,rowCs_append p i (j + 1) a b,List.length_cons,List.append_assoc]
  rw [show j + 1 + a.length=j + (a.length + 1) by omega]
theorem allCs_append (p:Nat->Bool):∀ (i:Nat) (a b:List (List Nat)),allCs p i (a++b)=allCs p i a++allCs p (i + a.length) b
 | i,[],b=>by simp [allCs]
 | i,t :: a,b=>by
  simp only [List.cons_append,allCs,allCs_append p (i + 1) a b,List.length_cons,List.append_assoc]
  rw [show i + 1 + a.length=i + (a.length + 1) by omega]
theorem rowCs_step {p:Nat->Bool}{i j c:Nat}{t:List Nat}(h:t[j]?=some c):rowCs p i 0 (t.take (j + 1))=rowCs p i 0 (t.take j)++(if p c=true then [(i,j)] else []):=by
 rw [List.take_add_one,h,rowCs_append]
 have hl:(t.take j).length=j:=by
  have:=(List.getElem?_eq_some_iff.mp h).1
  rw [List.length_take]; omega
 simp [rowCs,hl]
theorem allCs_step {p:Nat->Bool}{i:Nat}{t:List Nat}{rs:List (List Nat)}(h:rs[i]?=some t):allCs p 0 (rs.take (i + 1))=allCs p 0 (rs.take i)++rowCs p i 0 t:=by
 rw [List.take_add_one,h,allCs_append]
 have hl:(rs.take i).length=i:=by
  have:=(List.getElem?_eq_some_iff.mp h).1
  rw [List.length_take]; omega
 simp [allCs,hl]
theorem rowCs_length (p:Nat->Bool)(i:Nat):∀ (j:Nat) (t:List Nat),(rowCs p i j t).length<=t.length
 | j,[]=>by simp [rowCs]
 | j,c :: r=>by
  have:=rowCs_length p i (j + 1) r
  simp only [rowCs,List.length_append,List.length_cons]
  split <;> simp <;> omega
theorem allCs_length (p:Nat->Bool):∀ (i:Nat) (rs:List (List Nat)),(∀ t ∈ rs,t.length<=8)->(allCs p i rs).length<=8 * rs.length
 | i,[],_=>by simp [allCs]
 | i,t :: r,h=>by
  have h1:=rowCs_length p i 0 t
  have h2:=allCs_length p (i + 1) r fun u hu=>h u (List.mem_cons_of_mem _ hu)
  have h3:=h t List.mem_cons_self
  simp only [allCs,List.length_append,List.length_cons]
  omega
theorem mem_rowCs {p:Nat->Bool}{i:Nat}:∀ {j:Nat} {t:List Nat} {x:Nat × Nat},x ∈ rowCs p i j t->∃ m c,x=(i,j + m)/\t[m]?=some c/\p c=true
 | j,[],x,h=>by simp [rowCs] at h
 | j,c :: r,x,h=>by
  simp only [rowCs,List.mem_append] at h
  rcases h with h | h
  ·split at h
   ·rename_i hp
    have:x=(i,j):=by simpa using h
    exact ⟨0,c,this,rfl,hp⟩
   ·cases h
  ·obtain ⟨m,c',e,h1,h2⟩:=mem_rowCs h
   exact ⟨m + 1,c',by rw [e,show j + 1 + m=j + (m + 1) by omega],by simpa using h1,h2⟩
theorem mem_allCs {p:Nat->Bool}{i:Nat}{rs:List (List Nat)}{x:Nat × Nat}(h:x ∈ allCs p i rs):∃ k j t c,x=(i + k,j)/\rs[k]?=some t/\t[j]?=some c/\p c=true:=by
 induction rs generalizing i with
 | nil=>simp [allCs] at h
 | cons t r ih =>
  simp only [allCs,List.mem_append] at h
  rcases h with h | h
  ·obtain ⟨m,c,e,h1,h2⟩:=mem_rowCs h
   exact ⟨0,m,t,c,by simpa using e,rfl,h1,h2⟩
  ·obtain ⟨k,j,u,c,e,h1,h2,h3⟩:=ih h
   exact ⟨k + 1,j,u,c,by rw [e,show i + 1 + k=i + (k + 1) by omega],by simpa using h1,h2,h3⟩
noncomputable def sgn (rs:List (List Nat))(x:Nat × Nat):Nat:=(rs.getD x.1 []).getD x.2 0
theorem rowCs_filter {p q:Nat->Bool}{i:Nat}(f:Nat × Nat->Bool):∀ (j:Nat) (t:List Nat),(∀ m c,t[m]?=some c->f (i,j + m)=q c)->(rowCs p i j t).filter f=rowCs (fun c=>p c && q c) i j t
 | j,[],_=>by simp [rowCs]
 | j,c :: r,h=>by
  have ih:=rowCs_filter (p:=p) (q:=q) (i:=i) f (j + 1) r fun m c' hm=>by
   have:=h (m + 1) c' (by simpa using hm)
   rw [show j + 1 + m=j + (m + 1) by omega]; exact this
  have h0:=h 0 c rfl
  simp only [rowCs,List.filter_append,ih]
  congr 1
  simp only [Nat.add_zero] at h0
  by_cases hp:p c=true
  ·by_cases hq:q c=true
   ·simp [hp,hq,h0]
   ·simp [hp,hq,h0]
  ·simp [hp]
theorem allCs_filter {p q:Nat->Bool}(f:Nat × Nat->Bool):∀ (i:Nat) (rs:List (List Nat)),(∀ k t m c,rs[k]?=some t->t[m]?=some c->f (i + k,m)=q c)->(allCs p i rs).filter f=allCs (fun c=>p c && q c) i rs
 | i,[],_=>by simp [allCs]
 | i,t :: r,h=>by
  have ih:=allCs_filter (p:=p) (q:=q) f (i + 1) r fun k u m c hk hm=>by
   have:=h (k + 1) u m c (by simpa using hk) hm
   rw [show i + 1 + k=i + (k + 1) by omega]; exact this
  simp only [allCs,List.filter_append,ih]
  rw [rowCs_filter (p:=p) (q:=q) f 0 t fun m c hm=>by simpa using h 0 t m c rfl hm]
theorem sgn_at {rs:List (List Nat)}{i j:Nat}{t:List Nat}{c:Nat}(h:rs[i]?=some t)(h2:t[j]?=some c):sgn rs (i,j)=c:=by
 unfold sgn
 simp [List.getD,h,h2]
theorem all_filter {p q:Nat->Bool}(rs:List (List Nat)):(allCs p 0 rs).filter (fun x=>q (sgn rs x))=allCs (fun c=>p c && q c) 0 rs :=
 allCs_filter _ 0 rs fun k t m c hk hm=>by rw [show 0 + k=k by omega,sgn_at hk hm]
theorem allCs_congr {p q:Nat->Bool}(h:∀ c,p c=q c)(i:Nat)(rs:List (List Nat)):allCs p i rs=allCs q i rs:=by
 rw [show p=q from funext h]
end Cells
namespace Cells
noncomputable def near (x y:Nat × Nat):Bool:=decide ((if (x.1:Int) - (y.1:Int) < 0 then -((x.1:Int) - (y.1:Int)) else (x.1:Int) - (y.1:Int)) < 2) && (decide ((if (x.2:Int) - (y.2:Int) < 0 then -((x.2:Int) - (y.2:Int)) else (x.2:Int) - (y.2:Int)) < 2) && !decide (x=y))
theorem near_iff (x y:Nat × Nat):near x y=true ↔ (x.1<=y.1 + 1/\y.1<=x.1 + 1)/\(x.2<=y.2 + 1/\y.2<=x.2 + 1)/\¬ x=y:=by
 unfold near
 rw [Bool.and_eq_true,Bool.and_eq_true,decide_eq_true_iff,decide_eq_true_iff,Bool.not_eq_true',decide_eq_false_iff_not]
 constructor
 ·rintro ⟨h1,h2,h3⟩
  refine ⟨?_,?_,h3⟩
  ·split at h1 <;> omega
  ·split at h2 <;> omega
 ·rintro ⟨h1,h2,h3⟩
  refine ⟨?_,?_,h3⟩
  ·split <;> omega
  ·split <;> omega
noncomputable def lex (a b:Nat × Nat):Prop:=a.1 < b.1\/(a.1=b.1/\a.2 < b.2)
theorem rowCs_lex (p:Nat->Bool)(i:Nat):∀ (j:Nat) (t:List Nat),(rowCs p i j t).Pairwise lex
 | j,[]=>by simp [rowCs]
 | j,c :: r=>by
  simp only [rowCs]
  rw [List.pairwise_append]
  refine ⟨?_,rowCs_lex p i (j + 1) r,fun a ha b hb=>?_⟩
  ·split <;> simp
  ·split at ha
   ·have e:a=(i,j):=by simpa using ha
    obtain ⟨m,c',e',_,_⟩:=mem_rowCs hb
    subst e e'
    exact .inr ⟨rfl,by show j < j + 1 + m; omega⟩
   ·cases ha
theorem allCs_lex (p:Nat->Bool):∀ (i:Nat) (rs:List (List Nat)),(allCs p i rs).Pairwise lex
 | i,[]=>by simp [allCs]
 | i,t :: r=>by
  simp only [allCs]
  rw [List.pairwise_append]
  refine ⟨rowCs_lex p i 0 t,allCs_lex p (i + 1) r,fun a ha b hb=>?_⟩
  obtain ⟨m,c,e,_,_⟩:=mem_rowCs ha
  obtain ⟨k,j,u,c',e',_,_,_⟩:=mem_allCs hb
  subst e e'
  exact .inl (by show i < i + 1 + k; omega)
theorem rows_low {p:Nat->Bool}{f:Nat × Nat->Bool}{n:Nat}{rs:List (List Nat)}(h:∀ r c,r < n->f (r,c)=false):(allCs p 0 (rs.take n)).filter f=[]:=by
 rw [List.filter_eq_nil_iff]
 intro x hx
 obtain ⟨k,j,t,c,e,hk,_,_⟩:=mem_allCs hx
 have hkl:k < n:=by
  have:=(List.getElem?_eq_some_iff.mp hk).1
  rw [List.length_take] at this
  omega
 subst e
 rw [h _ _ (by omega)]
 exact Bool.false_ne_true
theorem rows_high {p:Nat->Bool}{f:Nat × Nat->Bool}{n:Nat}{rs:List (List Nat)}(h:∀ r c,n<=r->f (r,c)=false):(allCs p 0 (rs.take n)).filter f=(allCs p 0 rs).filter f:=by
 by_cases hn:n<=rs.length
 ·have e:=List.take_append_drop n rs
  have e2:allCs p 0 rs=allCs p 0 (rs.take n)++allCs p (0 + (rs.take n).length) (rs.drop n):=by rw [<- allCs_append,e]
  rw [e2,List.filter_append]
  have z:(allCs p (0 + (rs.take n).length) (rs.drop n)).filter f=[]:=by
   rw [List.filter_eq_nil_iff]
   intro x hx
   obtain ⟨k,j,t,c,e,hk,_,_⟩:=mem_allCs hx
   subst e
   rw [List.length_take,h _ _ (by omega)]
   exact Bool.false_ne_true
  rw [z,List.append_nil]
 ·rw [List.take_of_length_le (by omega)]
theorem cols_low {p:Nat->Bool}{f:Nat × Nat->Bool}{i n:Nat}{t:List Nat}(h:∀ c,c < n->f (i,c)=false):(rowCs p i 0 (t.take n)).filter f=[]:=by
 rw [List.filter_eq_nil_iff]
 intro x hx
 obtain ⟨m,c,e,hm,_⟩:=mem_rowCs hx
 have hml:m < n:=by
  have:=(List.getElem?_eq_some_iff.mp hm).1
  rw [List.length_take] at this
  omega
 subst e
 rw [h _ (by omega)]
 exact Bool.false_ne_true
theorem cols_high {p:Nat->Bool}{f:Nat × Nat->Bool}{i n:Nat}{t:List Nat}(h:∀ c,n<=c->f (i,c)=false):(rowCs p i 0 (t.take n)).filter f=(rowCs p i 0 t).filter f:=by
 by_cases hn:n<=t.length
 ·have e:=List.take_append_drop n t
  have e2:rowCs p i 0 t=rowCs p i 0 (t.take n)++rowCs p i (0 + (t.take n).length) (t.drop n):=by rw [<- rowCs_append,e]
  rw [e2,List.filter_append]
  have z:(rowCs p i (0 + (t.take n).length) (t.drop n)).filter f=[]:=by
   rw [List.filter_eq_nil_iff]
   intro x hx
   obtain ⟨m,c,e,hm,_⟩:=mem_rowCs hx
   subst e
   rw [List.length_take,h _ (by omega)]
   exact Bool.false_ne_true
  rw [z,List.append_nil]
 ·rw [List.take_of_length_le (by omega)]
end Cells
namespace K61
open PySem L2
variable {P:Program}{w:World}{K:PySem.W.Frag}{mg:Str->Option Value}{base:Heap}{f:Addr}{fd:FuncData}
noncomputable def top (i:Nat):Stmt:=PySem.Challenge.pw_stonelay_k61_boards_of_fields.main.body.getD i (.Pass ⟨0,0,0,0⟩)
noncomputable abbrev s_board_of:Stmt:=top 10
noncomputable abbrev s_checked_rows:Stmt:=top 11
noncomputable abbrev s_check_row:Stmt:=top 12
noncomputable abbrev s_closed:Stmt:=top 13
noncomputable abbrev s_open_cells:Stmt:=top 14
noncomputable abbrev s_around:Stmt:=top 15
noncomputable abbrev s_number_at:Stmt:=top 16
noncomputable abbrev s_opened:Stmt:=top 17
noncomputable abbrev s_cells_of:Stmt:=top 18
noncomputable abbrev s_sign_at:Stmt:=top 19
noncomputable abbrev s_field_of:Stmt:=top 24
noncomputable abbrev s_stones_of:Stmt:=top 25
noncomputable abbrev s_cells_with:Stmt:=top 26
noncomputable abbrev s_board_at:Stmt:=top 27
noncomputable abbrev s_law_cell_at:Stmt:=top 29
noncomputable abbrev s_law_mixed:Stmt:=top 30
noncomputable abbrev s_law_field:Stmt:=top 31
noncomputable abbrev s_law_cells:Stmt:=top 32
noncomputable abbrev s_law_near:Stmt:=top 33
noncomputable abbrev s_law_due:Stmt:=top 34
noncomputable abbrev s_law:Stmt:=top 35
structure Txt (mg:Str->Option Value):Prop where
 b_abs:mg "abs"=none
 b_bool:mg "bool"=none
 b_enumerate:mg "enumerate"=none
 b_int:mg "int"=none
 b_isinstance:mg "isinstance"=none
 b_len:mg "len"=none
 b_list:mg "list"=none
 b_max:mg "max"=none
 b_min:mg "min"=none
 b_range:mg "range"=none
 b_sorted:mg "sorted"=none
 b_str:mg "str"=none
 b_tuple:mg "tuple"=none
 v_BOARD_SIGNS:∃ t,mg "BOARD_SIGNS"=some (.str "?012345678#" t)
 v_CLEAR_SIGN:∃ t,mg "CLEAR_SIGN"=some (.str "." t)/\t ≠ 0/\t < 336
 v_CLOSED_SIGN:∃ t,mg "CLOSED_SIGN"=some (.str "?" t)
 v_FIELD_SIGNS:∃ t,mg "FIELD_SIGNS"=some (.str ".o#" t)
 v_LONGEST_SIDE:∃ t,mg "LONGEST_SIDE"=some (.int 8 t)
 v_MOST_STONES:∃ t,mg "MOST_STONES"=some (.int 64 t)
 v_NO_CELL_SIGN:∃ t,mg "NO_CELL_SIGN"=some (.str "#" t)
 v_STONE_SIGN:∃ t,mg "STONE_SIGN"=some (.str "o" t)/\t ≠ 0/\t < 336
structure Prog (K:PySem.W.Frag)(mg:Str->Option Value):Prop where
 board_of:∃ (f:Addr) (fd:FuncData),DefAt K mg "board_of" s_board_of ["rows","stones"] f fd
 checked_rows:∃ (f:Addr) (fd:FuncData),DefAt K mg "checked_rows" s_checked_rows ["rows","signs"] f fd
 check_row:∃ (f:Addr) (fd:FuncData),DefAt K mg "check_row" s_check_row ["row","length","signs"] f fd
 closed:∃ (f:Addr) (fd:FuncData),DefAt K mg "closed" s_closed ["board"] f fd
 open_cells:∃ (f:Addr) (fd:FuncData),DefAt K mg "open_cells" s_open_cells ["board"] f fd
 around:∃ (f:Addr) (fd:FuncData),DefAt K mg "around" s_around ["board","cell"] f fd
 number_at:∃ (f:Addr) (fd:FuncData),DefAt K mg "number_at" s_number_at ["board","cell"] f fd
 opened:∃ (f:Addr) (fd:FuncData),DefAt K mg "opened" s_opened ["board","numbers"] f fd
 cells_of:∃ (f:Addr) (fd:FuncData),DefAt K mg "cells_of" s_cells_of ["board"] f fd
 sign_at:∃ (f:Addr) (fd:FuncData),DefAt K mg "sign_at" s_sign_at ["board","cell"] f fd
 field_of:∃ (f:Addr) (fd:FuncData),DefAt K mg "field_of" s_field_of ["rows"] f fd
 stones_of:∃ (f:Addr) (fd:FuncData),DefAt K mg "stones_of" s_stones_of ["field"] f fd
 cells_with:∃ (f:Addr) (fd:FuncData),DefAt K mg "cells_with" s_cells_with ["field","sign"] f fd
 board_at:∃ (f:Addr) (fd:FuncData),DefAt K mg "board_at" s_board_at ["field","cells"] f fd
 law_cell_at:∃ (f:Addr) (fd:FuncData),DefAt K mg "_law_cell_at" s_law_cell_at ["_law_script","_law_k"] f fd
 law_mixed:∃ (f:Addr) (fd:FuncData),DefAt K mg "_law_mixed" s_law_mixed ["_law_cell","_law_k"] f fd
 law_field:∃ (f:Addr) (fd:FuncData),DefAt K mg "_law_field" s_law_field ["_law_script","_law_most"] f fd
 law_cells:∃ (f:Addr) (fd:FuncData),DefAt K mg "_law_cells" s_law_cells ["_law_rows","_law_signs"] f fd
 law_near:∃ (f:Addr) (fd:FuncData),DefAt K mg "_law_near" s_law_near ["_law_one","_law_other"] f fd
 law_due:∃ (f:Addr) (fd:FuncData),DefAt K mg "_law_due" s_law_due ["_law_rows","_law_cells_here"] f fd
noncomputable def spCell (K:PySem.W.Frag):Sp:=fun vs H Q _=>∃ (a:Addr) (ns:List Int) (k:Int),vs=[.ref a,.int k]/\SqL K H a (ns.map V.int)/\0<=k/\∀ z:Int,Q (.int z) H
noncomputable def spMixed:Sp:=fun vs H Q _=>∃ (c k:Int),vs=[.int c,.int k]/\0<=k/\k<=1000000/\∀ z:Int,Q (.int z) H
structure Row (signs:List Nat)(n:Nat)(t:Str):Prop where
 len:t.cps.size=n
 mem:∀ c ∈ t.cps.toList,c ∈ signs
structure Rows (signs:List Nat)(rs:List Str):Prop where
 lo:1<=rs.length
 hi:rs.length<=8
 ex:∃ n,1<=n/\n<=8/\∀ t ∈ rs,Row signs n t
theorem Row.more {signs:List Nat}{n:Nat}{t:Str}{c:Nat}(r:Row signs n t)(h:c ∈ signs):Row signs (n + 1) (t++⟨#[c]⟩):=by
 have e:(t++(⟨#[c]⟩:Str)).cps=t.cps++#[c]:=rfl
 refine ⟨?_,fun d hd=>?_⟩
 ·rw [e,Array.size_append,r.len]
  rfl
 ·rw [e,Array.toList_append] at hd
  rcases List.mem_append.mp hd with hd | hd
  ·exact r.mem d hd
  ·have z:d=c:=by simpa using hd
   rw [z]
   exact h
theorem sc_law_cell_at:FnScope ["_law_script","_law_k"] ["_law_script","_law_k"] (defScope s_law_cell_at):=⟨rfl,rfl,rfl,by decide +kernel,rfl,by decide +kernel,by decide +kernel⟩
theorem ok_law_cell_at (T:Txt mg)(D:DefAt K mg "_law_cell_at" s_law_cell_at ["_law_script","_law_k"] f fd):FnOk P w K mg base CX0 1 f fd ["_law_script","_law_k"] (spCell K):=by
 refine D.F.ok sc_law_cell_at (fun vs H Q E h=>?_) (fun cdv A outer s H vs Q E hr h=>?_)
 ·obtain ⟨a,ns,i,rfl,_⟩:=h
  rfl
 ·obtain ⟨a,ns,i,rfl,hS,hi,k⟩:=h
  refine ⟨_,(pss_cons (ps_if (pt_cmpR op_lt (pv 1) (pe_callB call_len_seq (by rfl) T.b_len PySem.boot_len (pa_cons (pv 0) pa_nil)) (nomark _)) (pss_one (ps_ret (pe_ix ix_list (pv 0) (pv 1) (fun _ _=>rfl)))) pss_nil)
   (pss_one (ps_ret pe_int))),?_⟩
  refine ⟨_,rfl,_,rfl,a,_,rfl,.inl hS,_,_,rfl,rfl,_,rfl,?_⟩
  refine ite2 (fun c=>?_) (fun c=>?_)
  ·have c':i < ((ns.map V.int).length:Nat):=of_decide_eq_true c
   rw [List.length_map] at c'
   have hl:i.toNat < ns.length:=by omega
   refine ⟨_,rfl,_,rfl,a,_,i,.int ns[i.toNat],rfl,rfl,hS,atI_lt hi (by rw [List.getElem?_map,List.getElem?_eq_getElem hl]; rfl),?_⟩
   exact k _
  ·exact k 0
theorem sc_law_mixed:FnScope ["_law_cell","_law_k","_law_drawn"] ["_law_cell","_law_k"] (defScope s_law_mixed):=⟨rfl,rfl,rfl,by decide +kernel,rfl,by decide +kernel,by decide +kernel⟩
theorem ok_law_mixed (D:DefAt K mg "_law_mixed" s_law_mixed ["_law_cell","_law_k"] f fd):FnOk P w K mg base CX0 1 f fd ["_law_cell","_law_k"] spMixed:=by
 refine D.F.ok sc_law_mixed (fun vs H Q E h=>?_) (fun cdv A outer s H vs Q E hr h=>?_)
 ·obtain ⟨c,i,rfl,_⟩:=h
  rfl
 ·obtain ⟨c,i,rfl,h0,h1,k⟩:=h
  refine ⟨_,(pss_cons (ps_set (i:=2) sc_law_mixed.nd rfl (Or.inl rfl) (pe_op op_mod (pe_op op_add (pe_op op_add (pe_op op_mod (pv 0) pe_int) (pe_op op_mulG pe_int (pv 1))) pe_int) pe_int))
   (pss_cons (ps_set (i:=2) sc_law_mixed.nd rfl (Or.inl rfl) (pe_op op_mod (pe_op op_mulG (pe_op op_mod (pe_op op_mulG (pv 2) (pv 2)) pe_int) pe_int) pe_int))
   (pss_one (ps_ret (pe_op op_fdivG (pe_op op_mod (pe_op op_mulG (pv 2) (pe_op op_add (pv 2) pe_int)) pe_int) pe_int))))),?_⟩
  refine ⟨_,rfl,_,_,rfl,rfl,(by show (0:Int) < 2147483629; decide),_,rfl,_,_,rfl,rfl,mulL (by decide) (by decide),_,_,rfl,rfl,_,_,rfl,rfl,_,_,rfl,rfl,(by show (0:Int) < 2147483647; decide),?_⟩
  have a0:=Int.emod_nonneg (c % 2147483629 + 7919 * i + 11) (show (2147483647:Int) ≠ 0 by decide)
  have a1:=Int.emod_lt_of_pos (c % 2147483629 + 7919 * i + 11) (show (0:Int) < 2147483647 by decide)
  generalize (c % 2147483629 + 7919 * i + 11) % 2147483647=d at *
  refine ⟨_,rfl,_,rfl,_,_,rfl,rfl,mulL (by omega) (by omega),_,_,rfl,rfl,(by show (0:Int) < 2147483647; decide),_,_,rfl,rfl,mulS (by decide) (by decide),_,_,rfl,rfl,(by show (0:Int) < 2147483587; decide),?_⟩
  have b0:=Int.emod_nonneg (d * d % 2147483647 * 48271) (show (2147483587:Int) ≠ 0 by decide)
  have b1:=Int.emod_lt_of_pos (d * d % 2147483647 * 48271) (show (0:Int) < 2147483587 by decide)
  generalize d * d % 2147483647 * 48271 % 2147483587=e at *
  exact ⟨_,rfl,_,rfl,_,_,rfl,rfl,_,_,rfl,rfl,mulL (by omega) (by omega),_,_,rfl,rfl,(by show (0:Int) < 2147483563; decide),_,_,rfl,rfl,CDivG.small (by decide) (by decide),k _⟩
noncomputable def bs:Str:="?012345678#"
noncomputable def bd:Str:="?012345678#.o"
noncomputable def Sg (z:Str):Prop:=∀ c ∈ z.cps.toList,(!(!(Builtin.Str.occurrences z ⟨#[c]⟩ 0 z.length 1).isEmpty))=false
theorem sg_bs:Sg bs:=by
 unfold Sg
 decide +kernel
noncomputable def spCheckRow:Sp:=fun vs H Q _=>∃ (t:Str) (n:Nat) (z:Str),vs=[.str t,.int n,.str z]/\Sg z/\1<=n/\n<=8/\Row z.cps.toList n t/\Q .non H
noncomputable def spChecked:Sp:=fun vs H Q _=>∃ (a:Addr) (rs:List Str) (z:Str),vs=[.ref a,.str z]/\Sg z/\H a=some (.lst (rs.map V.str))/\Rows z.cps.toList rs/\∀ l,H l=none->Q (.ref l) (upd H l (.lst (rs.map V.str)))
noncomputable def spBoard:Sp:=fun vs H Q _=>∃ (a:Addr) (rs:List Str) (n:Int),vs=[.ref a,.int n]/\H a=some (.lst (rs.map V.str))/\Rows bs.cps.toList rs/\0<=n/\n<=64 /\
 ∀ l p,H l=none->H p=none->p ≠ l->Q (.ref p) (upd (upd H l (.lst (rs.map V.str))) p (.tup [.ref l,.int n]))
theorem sc_check_row:FnScope ["row","length","signs","sign"] ["row","length","signs"] (defScope s_check_row):=⟨rfl,rfl,rfl,by decide +kernel,rfl,by decide +kernel,by decide +kernel⟩
theorem ok_check_row (T:Txt mg)(D:DefAt K mg "check_row" s_check_row ["row","length","signs"] f fd):FnOk P w K mg base CX0 1 f fd ["row","length","signs"] spCheckRow:=by
 refine D.F.ok sc_check_row (fun vs H Q E h=>?_) (fun cdv A outer s H vs Q E hr h=>?_)
 ·obtain ⟨t,n,z,rfl,_⟩:=h
  rfl
 ·obtain ⟨t,n,z,rfl,sg,n1,n8,hrow,k⟩:=h
  refine ⟨_,(pss_cons (ps_if (pt_not (pt_chain op_le op_le pe_int (pe_callB call_len_str (by rfl) T.b_len PySem.boot_len (pa_cons (pv 0) pa_nil)) (pe_glob (v:=.int 8) (by rfl) T.v_LONGEST_SIDE.choose_spec (by exact ⟨_,rfl⟩)))) (pss_one ps_never) pss_nil)
   (pss_cons (ps_if (pt_cmpR op_ne (pe_callB call_len_str (by rfl) T.b_len PySem.boot_len (pa_cons (pv 0) pa_nil)) (pv 1) (nomark _)) (pss_one ps_never) pss_nil)
   (pss_one (ps_for PassesOwn.never rfl (pi_str (pv 0)) (pg_name (i:=3) sc_check_row.nd rfl (Or.inl rfl)) (pss_one (ps_if (pt_cmpR op_notIn_str (pv 3) (pv 2) (by rfl)) (pss_one ps_never) pss_nil)))))),?_⟩
  have hsz:t.length<=sizeLine:=by
   have e:t.length=n:=hrow.len
   rw [e]
   exact Nat.le_trans n8 (by decide)
  refine ⟨_,rfl,t,rfl,hsz,_,_,rfl,rfl,_,rfl,?_⟩
  have e:t.length=n:=hrow.len
  refine ite2 (fun c=>?_) (fun c=>absurd (decide_eq_true (show (1:Int)<=(t.length:Nat) by omega)) c)
  refine ⟨_,_,rfl,rfl,_,rfl,?_⟩
  have c8:decide (((t.length:Nat):Int)<=8)=true:=decide_eq_true (by omega)
  rw [c8]
  refine iteF ?_
  refine ⟨_,rfl,t,rfl,hsz,_,rfl,rfl,_,rfl,iteNS (by rw [e]) ?_⟩
  refine ⟨_,rfl,t,rfl,?_⟩
  refine for_str (x:=t) (fun _ σ H'=>∃ v,σ=[some (.str t),some (.int n),some (.str z),v]/\H'=H) ⟨_,rfl,rfl⟩ ?_ ?_
  ·rintro i c σ H' hc ⟨v,rfl,rfl⟩
   refine ⟨_,rfl,_,rfl,_,_,rfl,rfl,_,rfl,?_⟩
   rw [sg c (hrow.mem c (List.mem_of_getElem? (by rw [Array.getElem?_toList]; exact hc)))]
   exact iteF ⟨_,rfl,rfl⟩
  ·rintro σ H' ⟨v,rfl,rfl⟩
   exact k
theorem sc_checked_rows:FnScope ["rows","signs","row"] ["rows","signs"] (defScope s_checked_rows):=⟨rfl,rfl,rfl,by decide +kernel,rfl,by decide +kernel,by decide +kernel⟩
theorem ok_checked_rows (T:Txt mg)(Z:Prog K mg)(D:DefAt K mg "checked_rows" s_checked_rows ["rows","signs"] f fd):FnOk P w K mg base CX0 2 f fd ["rows","signs"] spChecked:=by
 obtain ⟨f_check_row,fd_check_row,D_check_row⟩:=Z.check_row
 refine D.F.ok sc_checked_rows (fun vs H Q E h=>?_) (fun cdv A outer s H vs Q E hr h=>?_)
 ·obtain ⟨a,rs,z,rfl,_⟩:=h
  rfl
 ·obtain ⟨a,rs,z,rfl,sg,ha,R,k⟩:=h
  refine ⟨_,(pss_cons (ps_if (pt_not (pt_chain op_le op_le pe_int (pe_callB call_len_seq (by rfl) T.b_len PySem.boot_len (pa_cons (pv 0) pa_nil)) (pe_glob (v:=.int 8) (by rfl) T.v_LONGEST_SIDE.choose_spec (by exact ⟨_,rfl⟩)))) (pss_one ps_never) pss_nil)
   (pss_cons (ps_for PassesOwn.never rfl (pi_list (pv 0)) (pg_name (i:=2) sc_checked_rows.nd rfl (Or.inl rfl)) (pss_one (ps_expr (pc0 (ok_check_row T D_check_row) hr D_check_row (pa_cons (pv 2) (pa_cons (pe_callB call_len_str (by rfl) T.b_len PySem.boot_len (pa_cons (pe_ix ix_list (pv 0) pe_int (fun _ _=>rfl)) pa_nil)) (pa_cons (pv 1) pa_nil)))))))
   (pss_one (ps_ret (pe_callTy call_list_of (by rfl) T.b_list PyProof.Rows.boot_list (pa_cons (pv 0) pa_nil)))))),?_⟩
  obtain ⟨r1,r8,n,n1,n8,hrow⟩:=R
  refine ⟨_,rfl,a,_,rfl,.inl (SqL.of ha),_,_,rfl,rfl,_,rfl,?_⟩
  rw [List.length_map]
  refine ite2 (fun c=>?_) (fun c=>absurd (decide_eq_true (show (1:Int)<=(rs.length:Nat) by omega)) c)
  refine ⟨_,_,rfl,rfl,_,rfl,?_⟩
  have c8:decide (((rs.length:Nat):Int)<=8)=true:=decide_eq_true (by omega)
  rw [c8]
  refine iteF ?_
  refine ⟨_,rfl,a,rfl,⟨_,SqL.of ha⟩,?_⟩
  refine for_list (K:=K) (a:=a) (xs:=rs.map V.str) (fun _ σ H'=>∃ v,σ=[some (.ref a),some (.str z),v]/\H'=H) ⟨_,rfl,rfl⟩ (fun i σ H' _ ⟨_,_,e⟩=>by rw [e]; exact SqL.of ha) ?_ ?_
  ·rintro i x σ H' hx ⟨v,rfl,rfl⟩
   rw [List.getElem?_map] at hx
   cases e:rs[i]? with
   | none =>
    rw [e] at hx
    cases hx
   | some t =>
    rw [e] at hx
    cases hx
    obtain ⟨t0,rest,rfl⟩:∃ t0 rest,rs=t0 :: rest:=by
     cases rs with
     | nil=>exact absurd r1 (by decide)
     | cons t0 rest=>exact ⟨t0,rest,rfl⟩
    have h0:t0.length=n:=(hrow t0 List.mem_cons_self).len
    refine ⟨_,rfl,_,rfl,a,_,0,_,rfl,rfl,SqL.of ha,atI_lt (by decide) rfl,t0,rfl,?_,_,rfl,t,n,z,?_,sg,n1,n8,hrow t (List.mem_of_getElem? e),?_⟩
    ·rw [h0]
     exact Nat.le_trans n8 (by decide)
    ·rw [h0]
     rfl
    ·exact ⟨_,rfl,rfl⟩
  ·rintro σ H' ⟨v,rfl,rfl⟩
   exact ⟨_,rfl,a,_,rfl,.inl (SqL.of ha),k⟩
theorem sc_board_of:FnScope ["rows","stones","own_rows"] ["rows","stones"] (defScope s_board_of):=⟨rfl,rfl,rfl,by decide +kernel,rfl,by decide +kernel,by decide +kernel⟩
theorem ok_board_of (T:Txt mg)(Z:Prog K mg)(D:DefAt K mg "board_of" s_board_of ["rows","stones"] f fd):FnOk P w K mg base CX0 3 f fd ["rows","stones"] spBoard:=by
 obtain ⟨f_checked_rows,fd_checked_rows,D_checked_rows⟩:=Z.checked_rows
 refine D.F.ok sc_board_of (fun vs H Q E h=>?_) (fun cdv A outer s H vs Q E hr h=>?_)
 ·obtain ⟨a,rs,n,rfl,_⟩:=h
  rfl
 ·obtain ⟨a,rs,n,rfl,ha,R,n0,n1,k⟩:=h
  refine ⟨_,(pss_cons (ps_set (i:=2) sc_board_of.nd rfl (Or.inl rfl) (pc0 (ok_checked_rows T Z D_checked_rows) hr D_checked_rows (pa_cons (pv 0) (pa_cons (pe_glob (v:=.str "?012345678#") (by rfl) T.v_BOARD_SIGNS.choose_spec (by exact ⟨_,rfl⟩)) pa_nil))))
   (pss_cons (ps_if (pt_not (pt_chain op_le op_le pe_int (pv 1) (pe_glob (v:=.int 64) (by rfl) T.v_MOST_STONES.choose_spec (by exact ⟨_,rfl⟩)))) (pss_one ps_never) pss_nil)
   (pss_one (ps_ret (pe_tup (pa_cons (pv 2) (pa_cons (pv 1) pa_nil))))))),?_⟩
  refine ⟨_,rfl,a,rs,bs,rfl,sg_bs,ha,R,fun l hl=>?_⟩
  refine ⟨_,rfl,_,_,rfl,rfl,_,rfl,?_⟩
  refine ite2 (fun c=>?_) (fun c=>absurd (decide_eq_true n0) c)
  refine ⟨_,_,rfl,rfl,_,rfl,?_⟩
  rw [decide_eq_true n1]
  refine iteF ?_
  refine ⟨_,rfl,_,rfl,sz_2,fun p hp=>?_⟩
  have hpl:p ≠ l:=fun z=>by rw [z,upd_same] at hp; cases hp
  rw [upd_ne hpl] at hp
  exact k l p hl hp hpl
structure BoardAt (H:Hp)(p l:Addr)(rs:List Str)(n:Int):Prop where
 tp:H p=some (.tup [.ref l,.int n])
 rw:H l=some (.lst (rs.map V.str))
theorem bd_small:∀ c ∈ bd.cps.toList,c < 1114112:=by decide +kernel
theorem lay_str {n:Nat}{t:Str}(r:Row bd.cps.toList n t):PyData.canLay0 (.str t)=true:=by
 show t.cps.all (· < 0x110000)=true
 rw [Array.all_eq_true']
 intro c hc
 exact decide_eq_true (bd_small c (r.mem c (Array.mem_toList_iff.mpr hc)))
theorem lay_strs {rs:List Str}{n:Nat}(h:∀ t ∈ rs,Row bd.cps.toList n t):PyData.canLayAll0 (rs.map PyData.str)=true:=by
 induction rs with
 | nil=>rfl
 | cons t r ih =>
  show (PyData.canLay0 (.str t) && PyData.canLayAll0 (r.map PyData.str))=true
  rw [lay_str (h t List.mem_cons_self),ih fun u hu=>h u (List.mem_cons_of_mem _ hu)]
  rfl
theorem depth_strs (rs:List Str):PyData.depthAll (rs.map PyData.str)=0:=by
 induction rs with
 | nil=>rfl
 | cons t r ih =>
  show max (PyData.depth (.str t)) (PyData.depthAll (r.map PyData.str))=0
  rw [ih]
  rfl
theorem Rows.cmp {rs:List Str}(R:Rows bd.cps.toList rs):CmpD (.list (rs.map PyData.str)) (.list (rs.map PyData.str)):=by
 obtain ⟨n,_,_,h⟩:=R.ex
 refine ⟨lay_strs h,lay_strs h,?_⟩
 show PyData.depthAll (rs.map PyData.str) + 1<=64
 rw [depth_strs]
 decide
noncomputable def bData (rs:List Str)(n:Int):PyData:=.tuple [.list (rs.map PyData.str),.int n]
theorem Rows.cmpB {rs:List Str}(R:Rows bd.cps.toList rs)(n:Int):CmpD (bData rs n) (bData rs n):=by
 have c:=R.cmp
 have h1:PyData.canLay0 (bData rs n)=true:=by
  show (PyData.canLay0 (.list (rs.map PyData.str)) && (PyData.canLay0 (.int n) && true))=true
  rw [c.l1]
  rfl
 refine ⟨h1,h1,?_⟩
 show max (PyData.depthAll (rs.map PyData.str) + 1) (max 0 0) + 1<=64
 rw [depth_strs]
 decide
theorem BoardAt.rdv {K:PySem.W.Frag}{H:Hp}{p l:Addr}{rs:List Str}{n:Int}(b:BoardAt H p l rs n):Rdv K H (.ref p) (bData rs n):=.tup (SqT.of b.tp) (.cons (.lst (SqL.of b.rw) (rdv_strs rs)) (.cons (.int n) .nil))
theorem Rows.mono {s s':List Nat}{rs:List Str}(R:Rows s rs)(h:∀ c ∈ s,c ∈ s'):Rows s' rs :=
 ⟨R.lo,R.hi,let ⟨n,a,b,q⟩:=R.ex; ⟨n,a,b,fun t ht=>⟨(q t ht).len,fun c hc=>h c ((q t ht).mem c hc)⟩⟩⟩
theorem BoardAt.mono {H H':Hp}{p l:Addr}{rs:List Str}{n:Int}(b:BoardAt H p l rs n)(s:Same H H'):BoardAt H' p l rs n:=⟨s _ _ b.tp,s _ _ b.rw⟩
noncomputable def codes (rs:List Str):List (List Nat):=rs.map fun t=>t.cps.toList
theorem codes_get {rs:List Str}{i:Nat}{t:Str}(h:rs[i]?=some t):(codes rs)[i]?=some t.cps.toList:=by
 unfold codes
 rw [List.getElem?_map,h]
 rfl
theorem codes_inv {rs:List Str}{i:Nat}{u:List Nat}(h:(codes rs)[i]?=some u):∃ t,rs[i]?=some t/\u=t.cps.toList:=by
 unfold codes at h
 rw [List.getElem?_map] at h
 cases e:rs[i]? with
 | none =>
  rw [e] at h
  cases h
 | some t =>
  rw [e] at h
  cases h
  exact ⟨t,rfl,rfl⟩
theorem codes_len (rs:List Str):(codes rs).length=rs.length:=by
 unfold codes
 rw [List.length_map]
theorem Rows.short {s:List Nat}{rs:List Str}(R:Rows s rs):∀ u ∈ codes rs,u.length<=8:=fun u hu=>by
 obtain ⟨t,ht,rfl⟩:=List.mem_map.mp hu
 obtain ⟨n,_,h8,q⟩:=R.ex
 have:=(q t ht).len
 rw [Array.length_toList]
 omega
theorem Rows.tlen {s:List Nat}{rs:List Str}{i:Nat}{t:Str}(R:Rows s rs)(h:rs[i]?=some t):t.length<=sizeLine:=by
 obtain ⟨n,_,h8,q⟩:=R.ex
 have e:t.length=n:=(q t (List.mem_of_getElem? h)).len
 rw [e]
 exact Nat.le_trans h8 (by decide)
noncomputable def CelR (H:Hp)(v:V)(c:Nat × Nat):Prop:=∃ a,v=V.ref a/\H a=some (.tup [.int (c.1:Nat),.int (c.2:Nat)])
noncomputable def Cel (H:Hp):List V->List (Nat × Nat)->Prop:=Paired (CelR H)
theorem Cel.mono {H H':Hp}(s:Same H H'){vs:List V}{cs:List (Nat × Nat)}(hp:Cel H vs cs):Cel H' vs cs:=by
 induction hp with
 | nil=>exact .nil
 | cons q _ ih =>
  obtain ⟨a,e,h⟩:=q
  exact .cons ⟨a,e,s _ _ h⟩ ih
theorem Cel.snoc {H:Hp}{vs:List V}{cs:List (Nat × Nat)}{v:V}{c:Nat × Nat}(h:Cel H vs cs)(x:CelR H v c):Cel H (vs++[v]) (cs++[c]):=Paired.snoc h x
theorem Cel.append {H:Hp}{vs ws:List V}{cs ds:List (Nat × Nat)}(h:Cel H vs cs)(k:Cel H ws ds):Cel H (vs++ws) (cs++ds):=pr_app h k
theorem Cel.into {H:Hp}(z:Addr)(o:HO){old:List V}(hz:H z=some (.lst old)){vs:List V}{cs:List (Nat × Nat)}(hp:Cel H vs cs):Cel (upd H z o) vs cs:=by
 induction hp with
 | nil=>exact .nil
 | cons q _ ih =>
  obtain ⟨a,e,h⟩:=q
  exact .cons ⟨a,e,by rw [upd_ne (ne_of h hz (by intro y; cases y))]; exact h⟩ ih
theorem Cel.length {H:Hp}{vs:List V}{cs:List (Nat × Nat)}(h:Cel H vs cs):vs.length=cs.length:=Paired.length h
theorem Cel.get {H:Hp}:∀ {vs:List V} {cs:List (Nat × Nat)} {i:Nat} {v:V},Cel H vs cs->vs[i]?=some v->∃ c,cs[i]?=some c/\CelR H v c
 | _,_,_,_,.nil,e=>by simp at e
 | _,_,0,_,.cons r _,e=>by
  simp at e
  subst e
  exact ⟨_,rfl,r⟩
 | _,_,i + 1,v,.cons _ t,e=>by
  obtain ⟨c,h1,h2⟩:=Cel.get (i:=i) (v:=v) t (by simpa using e)
  exact ⟨c,by simpa using h1,h2⟩
noncomputable def cData (c:Nat × Nat):PyData:=.tuple [.int (c.1:Nat),.int (c.2:Nat)]
theorem CelR.rdv {K:PySem.W.Frag}{H:Hp}{v:V}{c:Nat × Nat}(h:CelR H v c):Rdv K H v (cData c):=by
 obtain ⟨a,rfl,h⟩:=h
 exact .tup (SqT.of h) (.cons (.int _) (.cons (.int _) .nil))
theorem cData_cmp (c d:Nat × Nat):CmpD (cData c) (cData d):=⟨rfl,rfl,by show max 0 (max 0 0) + 1<=64; decide⟩
theorem cData_eqv (c d:Nat × Nat):PyData.eqv (cData c) (cData d)=decide (c=d):=by
 obtain ⟨a,b⟩:=c
 obtain ⟨x,y⟩:=d
 show ((((a:Nat):Int) == ((x:Nat):Int)) && ((((b:Nat):Int) == ((y:Nat):Int)) && true))=decide ((a,b)=(x,y))
 by_cases h1:a=x
 ·by_cases h2:b=y
  ·subst h1 h2
   simp
  ·have:¬ ((b:Int)=(y:Int)):=by omega
   simp [h2,this]
 ·have:¬ ((a:Int)=(x:Int)):=by omega
  simp [h1,this]
theorem one_eq (c k:Nat):(V.str ⟨#[c]⟩=V.str ⟨#[k]⟩)=(c=k):=by
 apply propext
 constructor
 ·intro h
  have h2:(⟨#[c]⟩:Str)=⟨#[k]⟩:=V.str.inj h
  have h3:(#[c]:Array Nat)=#[k]:=congrArg Str.cps h2
  simpa using h3
 ·rintro rfl
  rfl
theorem hash_is:("#":Str)=⟨#[35]⟩:=by decide +kernel
theorem ask_is:("?":Str)=⟨#[63]⟩:=by decide +kernel
noncomputable def pCell (c:Nat):Bool:=!decide (c=35)
noncomputable def pShut (c:Nat):Bool:=decide (c=63)
noncomputable def pOpen (c:Nat):Bool:=pCell c && !decide (c=63)
noncomputable def spSign:Sp:=fun vs H Q _=>∃ (p l c:Addr) (rs:List Str) (n:Int) (i j:Nat) (t:Str) (k:Nat),vs=[.ref p,.ref c]/\BoardAt H p l rs n/\H c=some (.tup [.int (i:Nat),.int (j:Nat)])/\rs[i]?=some t/\t.cps.toList[j]?=some k/\t.length<=sizeLine/\Q (.str ⟨#[k]⟩) H
noncomputable def spList (p:Nat->Bool):Sp:=fun vs H Q _=>∃ (a l:Addr) (rs:List Str) (n:Int),vs=[.ref a]/\BoardAt H a l rs n/\Rows bd.cps.toList rs /\
 ∀ (d:Addr) (ws:List V) (H':Hp),H d=none->H' d=some (.lst ws)->Cel H' ws (Cells.allCs p 0 (codes rs))->Same H H'->Q (.ref d) H'
noncomputable def spNumber:Sp:=fun vs H Q _=>∃ (p l c:Addr) (rs:List Str) (n:Int) (i j:Nat) (t:Str) (k:Nat),vs=[.ref p,.ref c]/\BoardAt H p l rs n/\H c=some (.tup [.int (i:Nat),.int (j:Nat)])/\rs[i]?=some t/\t.cps.toList[j]?=some k/\t.length<=sizeLine/\48<=k/\k<=56/\Q (.int ((k:Int) - 48)) H
theorem int_sign {k:Nat}(h1:48<=k)(h2:k<=56):PySem.intText? ⟨#[k]⟩=some ((k:Int) - 48):=by
 have:∀ k ∈ List.range 57,48<=k->PySem.intText? ⟨#[k]⟩=some ((k:Int) - 48):=by decide +kernel
 exact this k (List.mem_range.mpr (by omega)) h1
theorem sc_sign_at:FnScope ["board","cell"] ["board","cell"] (defScope s_sign_at):=⟨rfl,rfl,rfl,by decide +kernel,rfl,by decide +kernel,by decide +kernel⟩
theorem ok_sign_at (D:DefAt K mg "sign_at" s_sign_at ["board","cell"] f fd):FnOk P w K mg base CX0 1 f fd ["board","cell"] spSign:=by
 refine D.F.ok sc_sign_at (fun vs H Q E h=>?_) (fun cdv A outer s H vs Q E hr h=>?_)
 ·obtain ⟨p,l,c,rs,n,i,j,t,k,rfl,_⟩:=h
  rfl
 ·obtain ⟨p,l,c,rs,n,i,j,t,k,rfl,b,hc,hi,hj,hl,q⟩:=h
  refine ⟨_,(pss_one (ps_ret (pe_ix ix_str (pe_ix ix_list (pe_ix ix_tup (pv 0) pe_int (fun _ _=>rfl)) (pe_ix ix_tup (pv 1) pe_int (fun _ _=>rfl)) (fun _ _=>rfl)) (pe_ix ix_tup (pv 1) pe_int (fun _ _=>rfl)) (fun _ _=>rfl)))),?_⟩
  exact ⟨_,rfl,p,_,0,_,rfl,rfl,SqT.of b.tp,rfl,_,rfl,c,_,0,_,rfl,rfl,SqT.of hc,rfl,l,_,_,_,rfl,rfl,SqL.of b.rw,atI_nat (v:=V.str t) (by rw [List.getElem?_map,hi]; rfl),_,rfl,c,_,1,_,rfl,rfl,SqT.of hc,rfl,t,_,k,rfl,rfl,hl,atI_nat hj,q⟩
theorem sc_cells_of:FnScope ["board","found","row","text"] ["board"] (defScope s_cells_of):=⟨rfl,rfl,rfl,by decide +kernel,rfl,by decide +kernel,by decide +kernel⟩
theorem ok_cells_of (T:Txt mg)(D:DefAt K mg "cells_of" s_cells_of ["board"] f fd):FnOk P w K mg base CX0 1 f fd ["board"] (spList pCell):=by
 refine D.F.ok sc_cells_of (fun vs H Q E h=>?_) (fun cdv A outer s H vs Q E hr h=>?_)
 ·obtain ⟨a,l,rs,n,rfl,_⟩:=h
  rfl
 ·obtain ⟨a,l,rs,n,rfl,b,R,q⟩:=h
  refine ⟨_,(pss_cons (ps_set (i:=1) sc_cells_of.nd rfl (Or.inl rfl) (pe_lst pa_nil))
   (pss_cons (ps_for PassesOwn.never rfl (pi_enumL (by rfl) T.b_enumerate (pa_cons (pe_ix ix_tup (pv 0) pe_int (fun _ _=>rfl)) pa_nil)) (pg_tup rfl (pgs_cons (pg_name (i:=2) sc_cells_of.nd rfl (Or.inr rfl)) (pgs_cons (pg_name (i:=3) sc_cells_of.nd rfl (Or.inl rfl)) pgs_nil))) (pss_one (ps_expr (pe_bm PySem.F.plainAttrs_list PySem.F.slot_list_extend PySem.F.type_list_extend mt_extend (pv 1) (pa_cons (pe_comp (N:=["column","sign","row"]) (src:=[none,none,some 2]) (CompOk.free (O:=(defScope s_cells_of).names) (XN:=["board","found","row","text"]) rfl rfl ⟨_,rfl⟩ rfl rfl (by decide +kernel) (by decide +kernel) (by decide +kernel) rfl (by decide +kernel)) rfl (pi_enumS (by rfl) T.b_enumerate (pa_cons (pv 3) pa_nil)) (fun _ _ _ _ _=>(pg_tupK (n:=2) (K:=K) (by rfl) rfl (pgs_cons (pg_name (i:=0) (by show List.Nodup (["column","sign","row"]:List Str); decide +kernel) rfl (Or.inl rfl)) (pgs_cons (pg_name (i:=1) (by show List.Nodup (["column","sign","row"]:List Str); decide +kernel) rfl (Or.inl rfl)) pgs_nil)))) (fun _ _ _ _ _=>(pifs_one (pt_cmpR op_ne (pv 1) (pe_glob (v:=.str "#") (by rfl) T.v_NO_CELL_SIGN.choose_spec (by exact ⟨_,rfl⟩)) (nomark _)))) (fun _ _ _ _ _=>(pe_tup (pa_cons (pv 2) (pa_cons (pv 0) pa_nil))))) pa_nil)))))
   (pss_one (ps_ret (pv 1))))),?_⟩
  refine ⟨sz_0,fun d hd=>?_⟩
  have s0:Same H (upd H d (.lst [])):=same_new hd
  refine ⟨_,rfl,a,_,0,_,rfl,rfl,SqT.of (b.mono s0).tp,rfl,l,rfl,⟨_,SqL.of (b.mono s0).rw⟩,?_⟩
  refine for_enumL (K:=K) (l:=l) (xs:=rs.map V.str) (fun i σ H'=>∃ (v2 v3:Option V) (ws:List V),σ=[some (.ref a),some (.ref d),v2,v3]/\Same H H'/\H' d=some (.lst ws)/\Cel H' ws (Cells.allCs pCell 0 ((codes rs).take i)))
   ⟨_,_,[],rfl,s0,upd_same,.nil⟩ (fun i σ H' _ ⟨_,_,_,_,s1,_⟩=>SqL.of (b.mono s1).rw) ?_ ?_
  ·rintro i x tt σ H1 hx htt ⟨v2,v3,ws,rfl,s1,hd1,hc1⟩
   rw [List.getElem?_map] at hx
   cases e:rs[i]? with
   | none =>
    rw [e] at hx
    cases hx
   | some t =>
    rw [e] at hx
    cases hx
    have hil:i < rs.length:=(List.getElem?_eq_some_iff.mp e).1
    have st:Same H1 (upd H1 tt (.tup [.int (i:Nat),.str t])):=same_new htt
    refine ⟨tt,_,rfl,SqT.of upd_same,rfl,_,_,rfl,_,_,rfl,rfl,?_⟩
    have hd2:upd H1 tt (.tup [.int (i:Nat),.str t]) d=some (.lst ws):=st _ _ hd1
    refine ⟨_,rfl,.inl ⟨rfl,_,SqL.of hd2⟩,_,rfl,t,rfl,fun z hz=>?_⟩
    refine comp_enumS (x:=t) (fun j σ H'=>∃ (u0 u1:Option V) (ys:List V),σ=[u0,u1,some (.int (i:Nat))]/\Same (upd H1 tt (.tup [.int (i:Nat),.str t])) H'/\H' z=some (.lst ys)/\Cel H' ys (Cells.rowCs pCell i 0 (t.cps.toList.take j)))
     ⟨_,_,[],rfl,same_new hz,upd_same,.nil⟩ ?_ ?_
    ·rintro j c t2 σ H2 hc ht2 ⟨u0,u1,ys,rfl,s2,hz2,hc2⟩
     refine ⟨t2,_,rfl,SqT.of upd_same,rfl,_,_,rfl,_,_,rfl,rfl,?_⟩
     refine ⟨_,rfl,rfl,_,rfl,?_⟩
     have hc':t.cps.toList[j]?=some c:=by rw [Array.getElem?_toList]; exact hc
     have s3:Same H2 (upd H2 t2 (.tup [.int (j:Nat),.str ⟨#[c]⟩])):=same_new ht2
     have step:=Cells.rowCs_step (p:=pCell) (i:=i) hc'
     have ed:(!decide (V.str ⟨#[c]⟩=V.str "#"))=pCell c:=by
      rw [hash_is]
      simp only [one_eq]
      rfl
     rw [ed]
     by_cases hp:pCell c=true
     ·rw [hp] at step
      refine iteP hp ?_
      refine ⟨_,rfl,_,rfl,sz_2,fun t3 ht3=>?_⟩
      have nz3:z ≠ t3:=ne_of_none (s3 _ _ hz2) ht3
      have s4:Same (upd H2 t2 (.tup [.int (j:Nat),.str ⟨#[c]⟩])) (upd (upd H2 t2 (.tup [.int (j:Nat),.str ⟨#[c]⟩])) t3 (.tup [.int (i:Nat),.int (j:Nat)])):=same_new ht3
      have hlen:ys.length<=8:=by
       rw [hc2.length]
       refine Nat.le_trans (Cells.rowCs_length _ _ _ _) ?_
       have:=R.short _ (List.mem_of_getElem? (codes_get e))
       rw [List.length_take]
       omega
      refine ⟨ys,s4 _ _ (s3 _ _ hz2),Nat.lt_of_le_of_lt hlen (by decide),some (.int (j:Nat)),some (.str ⟨#[c]⟩),ys++[.ref t3],rfl,fun b' o e'=>?_,upd_same,?_⟩
      ·have hb:b' ≠ z:=fun y=>by
        subst y
        rw [hz] at e'
        cases e'
       rw [upd_ne hb]
       exact s4 _ _ (s3 _ _ (s2 _ _ e'))
      ·rw [step]
       have keep:∀ x o,x ≠ z->upd (upd H2 t2 (.tup [.int (j:Nat),.str ⟨#[c]⟩])) t3 (.tup [.int (i:Nat),.int (j:Nat)]) x=some o->upd (upd (upd H2 t2 (.tup [.int (j:Nat),.str ⟨#[c]⟩])) t3 (.tup [.int (i:Nat),.int (j:Nat)])) z (.lst (ys++[.ref t3])) x=some o:=fun x o hx e'=>by
        rw [upd_ne hx]
        exact e'
       refine Cel.snoc ?_ ⟨t3,rfl,keep _ _ nz3.symm upd_same⟩
       exact Cel.into z (.lst (ys++[.ref t3])) (s4 _ _ (s3 _ _ hz2)) (Cel.mono s4 (Cel.mono s3 hc2))
     ·have hp':pCell c=false:=by simpa using hp
      rw [hp'] at step
      refine iteN hp' ?_
      refine ⟨some (.int (j:Nat)),some (.str ⟨#[c]⟩),ys,rfl,s2.trans s3,s3 _ _ hz2,?_⟩
      rw [step]
      simpa using Cel.mono s3 hc2
    ·rintro σ H2 ⟨u0,u1,ys,rfl,s2,hz2,hc2⟩
     have hne:d ≠ z:=ne_of_none hd2 hz
     have hd3:H2 d=some (.lst ws):=s2 _ _ hd2
     have full:t.cps.toList.take t.cps.size=t.cps.toList:=by
      rw [<- Array.length_toList,List.take_length]
     rw [full] at hc2
     have step:=Cells.allCs_step (p:=pCell) (codes_get e)
     have l1:ws.length<=64:=by
      rw [hc1.length]
      refine Nat.le_trans (Cells.allCs_length _ _ _ fun u hu=>R.short u (List.mem_of_mem_take hu)) ?_
      have:=R.hi
      rw [List.length_take,codes_len]
      omega
     have l2:ys.length<=8:=by
      rw [hc2.length]
      exact Nat.le_trans (Cells.rowCs_length _ _ _ _) (R.short _ (List.mem_of_getElem? (codes_get e)))
     refine ⟨d,z,ws,ys,rfl,rfl,hd3,hz2,Nat.le_trans (Nat.add_le_add l1 l2) (by decide),?_⟩
     refine ⟨_,_,ws++ys,rfl,fun b' o e'=>?_,upd_same,?_⟩
     ·have hb:b' ≠ d:=fun y=>by
       subst y
       rw [hd] at e'
       cases e'
      rw [upd_ne hb]
      exact s2 _ _ (st _ _ (s1 _ _ e'))
     ·rw [step]
      exact Cel.into d _ hd3 (Cel.append (Cel.mono s2 (Cel.mono st hc1)) hc2)
  ·rintro σ H1 ⟨v2,v3,ws,rfl,s1,hd1,hc1⟩
   rw [List.length_map,<- codes_len,List.take_length] at hc1
   exact ⟨_,rfl,q d ws H1 hd hd1 hc1 s1⟩
noncomputable def spWith:Sp:=fun vs H Q _=>∃ (l:Addr) (rs:List Str) (k:Nat),vs=[.ref l,.str ⟨#[k]⟩]/\H l=some (.lst (rs.map V.str))/\Rows bd.cps.toList rs /\
 ∀ (d:Addr) (ws:List V) (H':Hp),H d=none->H' d=some (.lst ws)->Cel H' ws (Cells.allCs (fun c=>pCell c && decide (c=k)) 0 (codes rs))->Same H H'->Q (.ref d) H'
noncomputable def spStones:Sp:=fun vs H Q _=>∃ (l:Addr) (rs:List Str),vs=[.ref l]/\H l=some (.lst (rs.map V.str))/\Rows bd.cps.toList rs /\
 ∀ (d:Addr) (ws:List V) (H':Hp),H d=none->H' d=some (.lst ws)->Cel H' ws (Cells.allCs (fun c=>pCell c && decide (c=111)) 0 (codes rs))->Same H H'->Q (.ref d) H'
theorem stone_is:("o":Str)=⟨#[111]⟩:=by decide +kernel
theorem sc_cells_with:FnScope ["field","sign","seen"] ["field","sign"] (defScope s_cells_with):=⟨rfl,rfl,rfl,by decide +kernel,rfl,by decide +kernel,by decide +kernel⟩
theorem ok_cells_with {f1 f2:Addr}{fd1 fd2:FuncData}(T:Txt mg)(D:DefAt K mg "cells_with" s_cells_with ["field","sign"] f fd)(D_cells_of:DefAt K mg "cells_of" s_cells_of ["board"] f1 fd1)(D_sign_at:DefAt K mg "sign_at" s_sign_at ["board","cell"] f2 fd2) :
  FnOk P w K mg base CX0 2 f fd ["field","sign"] spWith:=by
 refine D.F.ok sc_cells_with (fun vs H Q E h=>?_) (fun cdv A outer s H vs Q E hr h=>?_)
 ·obtain ⟨l,rs,k,rfl,_⟩:=h
  rfl
 ·obtain ⟨l,rs,kk,rfl,hl,R,q⟩:=h
  refine ⟨_,(pss_cons (ps_set (i:=2) sc_cells_with.nd rfl (Or.inr rfl) (pe_tup (pa_cons (pv 0) (pa_cons pe_int pa_nil))))
   (pss_one (ps_ret (pe_comp (N:=["cell","sign","seen"]) (src:=[none,some 1,some 2]) (CompOk.free (O:=(defScope s_cells_with).names) (XN:=["field","sign","seen"]) rfl rfl ⟨_,rfl⟩ rfl rfl (by decide +kernel) (by decide +kernel) (by decide +kernel) rfl (by decide +kernel)) rfl (pi_list (pc0 (ok_cells_of T D_cells_of) hr D_cells_of (pa_cons (pv 2) pa_nil))) (fun _ _ _ _ _=>(pg_name (i:=0) (by show List.Nodup (["cell","sign","seen"]:List Str); decide +kernel) rfl (Or.inl rfl))) (fun _ _ _ _ _=>(pifs_one (pt_cmpR op_eq (pc0 (ok_sign_at D_sign_at) hr D_sign_at (pa_cons (pv 2) (pa_cons (pv 0) pa_nil))) (pv 1) (nomark _)))) (fun _ _ _ _ _=>(pv 0)))))),?_⟩
  refine ⟨_,rfl,sz_2,fun a ha=>?_⟩
  have s00:Same H (upd H a (.tup [.ref l,.int 0])):=same_new ha
  have b:BoardAt (upd H a (.tup [.ref l,.int 0])) a l rs 0:=⟨upd_same,s00 _ _ hl⟩
  refine ⟨_,rfl,a,l,rs,0,rfl,b,R,fun d ws H1 hd hd1 hc1 s1=>⟨d,rfl,⟨_,SqL.of hd1⟩,fun z hz=>?_⟩⟩
  have nz:d ≠ z:=ne_of_none hd1 hz
  refine comp_list (K:=K) (a:=d) (xs:=ws) (fun i σ H'=>∃ (u0:Option V) (ys:List V),σ=[u0,some (.str ⟨#[kk]⟩),some (.ref a)]/\Same H1 H'/\H' z=some (.lst ys)/\Cel H' ys (((Cells.allCs pCell 0 (codes rs)).take i).filter fun x=>decide (Cells.sgn (codes rs) x=kk)))
   ⟨_,[],rfl,same_new hz,upd_same,.nil⟩ (fun i σ H' _ ⟨_,_,_,s2,_⟩=>SqL.of (s2 _ _ hd1)) ?_ ?_
  ·rintro i x σ H2 hx ⟨u0,ys,rfl,s2,hz2,hc2⟩
   obtain ⟨c,hci,ca,rfl,hca⟩:=Cel.get (Cel.mono s2 hc1) hx
   obtain ⟨k0,j,u,k,ec,hk0,hj,hpc⟩:=Cells.mem_allCs (List.mem_of_getElem? hci)
   obtain ⟨t,ht,rfl⟩:=codes_inv hk0
   rw [Nat.zero_add] at ec
   subst ec
   refine ⟨_,rfl,_,rfl,a,l,ca,rs,0,k0,j,t,k,rfl,(b.mono s1).mono s2,hca,ht,hj,R.tlen ht,_,rfl,rfl,_,rfl,?_⟩
   have es:Cells.sgn (codes rs) (k0,j)=k:=Cells.sgn_at hk0 hj
   have step:((Cells.allCs pCell 0 (codes rs)).take (i + 1)).filter (fun x=>decide (Cells.sgn (codes rs) x=kk))=((Cells.allCs pCell 0 (codes rs)).take i).filter (fun x=>decide (Cells.sgn (codes rs) x=kk))++(if decide (k=kk)=true then [(k0,j)] else []):=by
    rw [List.take_add_one,hci,List.filter_append]
    congr 1
    show List.filter _ [(k0,j)]=_
    rw [List.filter_cons]
    try dsimp only
    rw [es]
    split <;> rfl
   have ed:decide (V.str ⟨#[k]⟩=V.str ⟨#[kk]⟩)=decide (k=kk):=by
    simp only [one_eq]
   rw [ed]
   by_cases hp:decide (k=kk)=true
   ·rw [if_pos hp] at step
    refine iteP hp ?_
    have hlen:ys.length<=64:=by
     rw [hc2.length]
     refine Nat.le_trans (List.length_filter_le _ _) ?_
     rw [List.length_take]
     have h1:=Cells.allCs_length pCell 0 (codes rs) R.short
     have h2:=R.hi
     rw [codes_len] at h1
     omega
    refine ⟨_,rfl,ys,hz2,Nat.lt_of_le_of_lt hlen (by decide),_,ys++[.ref ca],rfl,fun b' o e'=>?_,upd_same,?_⟩
    ·have hb:b' ≠ z:=fun y=>by
      subst y
      rw [hz] at e'
      cases e'
     rw [upd_ne hb]
     exact s2 _ _ e'
    ·rw [step]
     exact Cel.into z _ hz2 (Cel.snoc hc2 ⟨ca,rfl,hca⟩)
   ·rw [if_neg hp] at step
    refine iteN (by simpa using hp) ?_
    refine ⟨_,ys,rfl,s2,hz2,?_⟩
    rw [step]
    simpa using hc2
  ·rintro σ H2 ⟨u0,ys,rfl,s2,hz2,hc2⟩
   rw [hc1.length,List.take_length,Cells.all_filter (p:=pCell) (q:=fun k=>decide (k=kk)) (codes rs)] at hc2
   exact q z ys H2 ((s00.trans s1).free hz) hz2 hc2 ((s00.trans s1).trans s2)
theorem sc_stones_of:FnScope ["field"] ["field"] (defScope s_stones_of):=⟨rfl,rfl,rfl,by decide +kernel,rfl,by decide +kernel,by decide +kernel⟩
theorem ok_stones_of {f1 f2 f3:Addr}{fd1 fd2 fd3:FuncData}(T:Txt mg)(D:DefAt K mg "stones_of" s_stones_of ["field"] f fd)(D_cells_with:DefAt K mg "cells_with" s_cells_with ["field","sign"] f1 fd1)(D_cells_of:DefAt K mg "cells_of" s_cells_of ["board"] f2 fd2)(D_sign_at:DefAt K mg "sign_at" s_sign_at ["board","cell"] f3 fd3) :
  FnOk P w K mg base CX0 3 f fd ["field"] spStones:=by
 refine D.F.ok sc_stones_of (fun vs H Q E h=>?_) (fun cdv A outer s H vs Q E hr h=>?_)
 ·obtain ⟨l,rs,rfl,_⟩:=h
  rfl
 ·obtain ⟨l,rs,rfl,hl,R,q⟩:=h
  refine ⟨_,(pss_one (ps_ret (pc0 (ok_cells_with T D_cells_with D_cells_of D_sign_at) hr D_cells_with (pa_cons (pv 0) (pa_cons (pe_glob (v:=.str "o") (by rfl) T.v_STONE_SIGN.choose_spec.1 (by exact ⟨_,rfl⟩)) pa_nil))))),?_⟩
  exact ⟨_,rfl,l,rs,111,by rw [stone_is]; rfl,hl,R,q⟩
noncomputable def fdS:Str:=".o#"
noncomputable def mw (most h0:Int):Int:=if most / (1 + h0 % 8) < 8 then most / (1 + h0 % 8) else 8
theorem mw_ok {most h0:Int}(h8:8<=most):1<=mw most h0/\mw most h0<=8/\(1 + h0 % 8) * mw most h0<=most:=by
 have e1:=Int.emod_nonneg h0 (show (8:Int) ≠ 0 by decide)
 have e2:=Int.emod_lt_of_pos h0 (show (0:Int) < 8 by decide)
 have kp:0 < 1 + h0 % 8:=by omega
 have k8:1 + h0 % 8<=8:=by omega
 unfold mw
 generalize 1 + h0 % 8=k at *
 by_cases c:most / k < 8
 ·rw [if_pos c]
  refine ⟨(Int.le_ediv_iff_mul_le kp).mpr (by omega),by omega,Int.mul_ediv_self_le (by omega)⟩
 ·rw [if_neg c]
  have:=(Int.le_ediv_iff_mul_le kp).mp (show 8<=most / k by omega)
  exact ⟨by decide,by decide,by omega⟩
noncomputable def fz (dots:Str):Str:=(("o":Str)++dots)++("#":Str)
theorem fz_size (dots:Str):(fz dots).cps.size=dots.length + 2:=by
 have e:(fz dots).cps=(("o":Str).cps++dots.cps)++("#":Str).cps:=rfl
 rw [e,Array.size_append,Array.size_append]
 show 1 + dots.cps.size + 1=dots.cps.size + 2
 omega
theorem fz_mem {dots:Str}(dm:∀ c ∈ dots.cps.toList,c ∈ ((".":Str)).cps.toList):∀ c ∈ (fz dots).cps.toList,c ∈ fdS.cps.toList:=by
 intro c hc
 have e:(fz dots).cps.toList=(("o":Str).cps.toList++dots.cps.toList)++("#":Str).cps.toList:=by
  have e:(fz dots).cps=(("o":Str).cps++dots.cps)++("#":Str).cps:=rfl
  rw [e,Array.toList_append,Array.toList_append]
 rw [e] at hc
 have a1:∀ c ∈ ("o":Str).cps.toList,c ∈ fdS.cps.toList:=by decide +kernel
 have a2:∀ c ∈ (".":Str).cps.toList,c ∈ fdS.cps.toList:=by decide +kernel
 have a3:∀ c ∈ ("#":Str).cps.toList,c ∈ fdS.cps.toList:=by decide +kernel
 rcases List.mem_append.mp hc with hc | hc
 ·rcases List.mem_append.mp hc with hc | hc
  ·exact a1 c hc
  ·exact a2 c (dm c hc)
 ·exact a3 c hc
noncomputable def spField (K:PySem.W.Frag):Sp:=fun vs H Q _=>∃ (a:Addr) (ns:List Int) (most:Int),vs=[.ref a,.int most]/\SqL K H a (ns.map V.int)/\8<=most/\most<=64 /\
 ∀ (l:Addr) (rs:List Str) (H':Hp),H l=none->H' l=some (.lst (rs.map V.str))->Same H H'->Rows fdS.cps.toList rs->(∀ t ∈ rs,((rs.length * t.cps.size:Nat):Int)<=most)->Q (.ref l) H'
theorem sc_law_field:FnScope ["_law_script","_law_most","_law_high","_law_wide","_law_signs","_law_rows","_law_row","_law_own","_law_text","_law_column","_law_place","_law_drawn"] ["_law_script","_law_most"] (defScope s_law_field):=⟨rfl,rfl,rfl,by decide +kernel,rfl,by decide +kernel,by decide +kernel⟩
theorem ok_law_field {f1 f2:Addr}{fd1 fd2:FuncData}(T:Txt mg)(D:DefAt K mg "_law_field" s_law_field ["_law_script","_law_most"] f fd)(D_law_cell_at:DefAt K mg "_law_cell_at" s_law_cell_at ["_law_script","_law_k"] f1 fd1)(D_law_mixed:DefAt K mg "_law_mixed" s_law_mixed ["_law_cell","_law_k"] f2 fd2) :
  FnOk P w K mg base CX0 2 f fd ["_law_script","_law_most"] (spField K):=by
 have G_law_cell_at:FnOk P w K mg base CX0 1 f1 fd1 ["_law_script","_law_k"] (spCell K):=ok_law_cell_at T D_law_cell_at
 refine D.F.ok sc_law_field (fun vs H Q E h=>?_) (fun cdv A outer s H vs Q E hr h=>?_)
 ·obtain ⟨a,ns,z,rfl,_⟩:=h
  rfl
 ·obtain ⟨a,ns,most,rfl,hS,m8,m64,k⟩:=h
  refine ⟨_,(pss_cons (ps_set (i:=2) sc_law_field.nd rfl (Or.inl rfl) (pe_op op_add pe_int (pe_op op_mod (pc0 G_law_cell_at hr D_law_cell_at (pa_cons (pv 0) (pa_cons pe_int pa_nil))) pe_int)))
   (pss_cons (ps_set (i:=3) sc_law_field.nd rfl (Or.inl rfl) (pe_op op_add pe_int (pe_op op_mod (pc0 G_law_cell_at hr D_law_cell_at (pa_cons (pv 0) (pa_cons pe_int pa_nil))) (pe_callB (call_min2 rfl) (by rfl) T.b_min PyProof.Rows.boot_min (pa_cons pe_int (pa_cons (pe_op op_fdivG (pv 1) (pv 2)) pa_nil))))))
   (pss_cons (ps_set (i:=4) sc_law_field.nd rfl (Or.inl rfl) (pe_op op_add_str (pe_op op_add_str pe_str (pe_op op_rep_str pe_str (pe_op op_add pe_int (pe_op op_mod (pe_op op_fdivG (pc0 G_law_cell_at hr D_law_cell_at (pa_cons (pv 0) (pa_cons pe_int pa_nil))) pe_int) pe_int)))) pe_str))
   (pss_cons (ps_set (i:=5) sc_law_field.nd rfl (Or.inl rfl) (pe_lst pa_nil))
   (pss_cons (ps_for PassesOwn.never rfl (pi_range1 (by rfl) T.b_range (pa_cons (pv 2) pa_nil)) (pg_name (i:=6) sc_law_field.nd rfl (Or.inl rfl)) (pss_cons (ps_set (i:=7) sc_law_field.nd rfl (Or.inl rfl) (pc0 G_law_cell_at hr D_law_cell_at (pa_cons (pv 0) (pa_cons (pe_op op_add pe_int (pv 6)) pa_nil))))
   (pss_cons (ps_set (i:=8) sc_law_field.nd rfl (Or.inl rfl) pe_str)
   (pss_cons (ps_for PassesOwn.never rfl (pi_range1 (by rfl) T.b_range (pa_cons (pv 3) pa_nil)) (pg_name (i:=9) sc_law_field.nd rfl (Or.inl rfl)) (pss_cons (ps_set (i:=10) sc_law_field.nd rfl (Or.inl rfl) (pe_op op_add (pe_op op_mulG pe_int (pv 6)) (pv 9)))
   (pss_cons (ps_set (i:=11) sc_law_field.nd rfl (Or.inl rfl) (pc0 (ok_law_mixed D_law_mixed) hr D_law_mixed (pa_cons (pc0 G_law_cell_at hr D_law_cell_at (pa_cons (pv 0) (pa_cons (pe_op op_add pe_int (pe_op op_mod (pv 10) pe_int)) pa_nil))) (pa_cons (pv 10) pa_nil))))
   (pss_mid (ps_if (pt_cmpR op_eq (pe_op op_mod (pe_op op_fdivG (pc0 G_law_cell_at hr D_law_cell_at (pa_cons (pv 0) (pa_cons pe_int pa_nil))) pe_int) pe_int) pe_int (nomark _)) (pss_cons (ps_set (i:=11) sc_law_field.nd rfl (Or.inl rfl) (pv 7))
   (pss_one (ps_set (i:=7) sc_law_field.nd rfl (Or.inl rfl) (pe_op op_fdivG (pv 7) (pe_callB call_len_str (by rfl) T.b_len PySem.boot_len (pa_cons (pv 4) pa_nil)))))) (pss_one (ps_if (pt_cmpR op_gt (pe_op op_mod (pe_op op_fdivG (pv 11) pe_int) pe_int) pe_int (nomark _)) (pss_one (ps_set (i:=11) sc_law_field.nd rfl (Or.inl rfl) (pe_op op_mod (pv 11) (pe_op op_sub (pe_callB call_len_str (by rfl) T.b_len PySem.boot_len (pa_cons (pv 4) pa_nil)) pe_int)))) pss_nil)))
   (pss_one (ps_set (i:=8) sc_law_field.nd rfl (Or.inl rfl) (pe_op op_add_str (pv 8) (pe_ix ix_str (pv 4) (pe_op op_mod (pv 11) (pe_callB call_len_str (by rfl) T.b_len PySem.boot_len (pa_cons (pv 4) pa_nil))) (fun _ _=>rfl)))))))))
   (pss_one (ps_expr (pe_bm PySem.F.plainAttrs_list PySem.F.slot_list_append PySem.F.type_list_append mt_append (pv 5) (pa_cons (pv 8) pa_nil))))))))
   (pss_one (ps_ret (pv 5)))))))),?_⟩
  refine ⟨_,rfl,a,ns,_,rfl,hS,by decide,fun h0=>⟨_,_,rfl,rfl,(by show (0:Int) < 8; decide),_,_,rfl,rfl,?_⟩⟩
  have e1:=Int.emod_nonneg h0 (show (8:Int) ≠ 0 by decide)
  have e2:=Int.emod_lt_of_pos h0 (show (0:Int) < 8 by decide)
  obtain ⟨w1,w2,w3⟩:=mw_ok (h0:=h0) m8
  refine ⟨_,rfl,a,ns,_,rfl,hS,by decide,fun w0=>⟨_,rfl,_,rfl,_,_,rfl,rfl,CDivG.small (by show (0:Int) < 1 + h0 % 8; omega) (by show 1 + h0 % 8 < (1073741824:Int); omega),_,_,rfl,_,_,rfl,rfl,(by show (0:Int) < mw most h0; omega),_,_,rfl,rfl,?_⟩⟩
  have e3:=Int.emod_nonneg w0 (show mw most h0 ≠ 0 by omega)
  have e4:=Int.emod_lt_of_pos w0 (show (0:Int) < mw most h0 by omega)
  refine ⟨_,rfl,a,ns,_,rfl,hS,by decide,fun g0=>?_⟩
  have e5:=Int.emod_nonneg (g0 / 16) (show (5:Int) ≠ 0 by decide)
  have e6:=Int.emod_lt_of_pos (g0 / 16) (show (0:Int) < 5 by decide)
  refine ⟨_,_,rfl,rfl,CDivG.small (by decide) (by decide),_,_,rfl,rfl,(by show (0:Int) < 5; decide),_,_,rfl,rfl,".",_,rfl,rfl,(by show (1:Int)<=1 + g0 / 16 % 5; omega),(by show 1 + g0 / 16 % 5<=(1000:Int); omega),by decide,fun dots dl dm=>?_⟩
  have dl':dots.length=(1 + g0 / 16 % 5).toNat:=by
   rw [dl]
   show 1 * (1 + g0 / 16 % 5).toNat=_
   omega
  have zs:=fz_size dots
  have zm:=fz_mem dm
  have z1:3<=(fz dots).cps.size:=by omega
  have z2:(fz dots).cps.size<=7:=by omega
  refine ⟨_,_,rfl,rfl,?_,_,_,rfl,rfl,?_,?_⟩
  ·exact Nat.le_trans (show ("o":Str).length + dots.length<=100 by show 1 + dots.length<=100; omega) (by decide)
  ·refine Nat.le_trans (show (("o":Str)++dots).length + ("#":Str).length<=100 from ?_) (by decide)
   have:(("o":Str)++dots).length=1 + dots.length:=by
    show (("o":Str).cps++dots.cps).size=_
    rw [Array.size_append]
    rfl
   rw [this]
   show 1 + dots.length + 1<=100
   omega
  refine ⟨sz_0,fun l hl=>?_⟩
  have s0:Same H (upd H l (.lst [])):=same_new hl
  refine ⟨_,rfl,1 + h0 % 8,rfl,by omega,by omega,?_⟩
  refine for_range (lo:=0) (n:=(1 + h0 % 8).toNat) (fun i σ H'=>∃ (v6 v7 v8 v9 v10 v11:Option V) (rs:List Str),σ=[some (.ref a),some (.int most),some (.int (1 + h0 % 8)),some (.int (1 + w0 % mw most h0)),some (.str (fz dots)),some (.ref l),v6,v7,v8,v9,v10,v11]/\Same H H'/\H' l=some (.lst (rs.map V.str))/\rs.length=i/\∀ t ∈ rs,Row (fz dots).cps.toList (1 + w0 % mw most h0).toNat t)
   ⟨_,_,_,_,_,_,[],rfl,s0,upd_same,rfl,fun _ h=>nomatch h⟩ ?_ ?_
  ·rintro i σ H1 hi ⟨v6,v7,v8,v9,v10,v11,rs,rfl,s1,hl1,hlen,hrow⟩
   refine ⟨_,rfl,_,rfl,_,_,rfl,rfl,a,ns,_,rfl,s1.seq hS,by omega,fun own=>?_⟩
   refine ⟨_,rfl,1 + w0 % mw most h0,rfl,by omega,by omega,?_⟩
   refine for_range (lo:=0) (n:=(1 + w0 % mw most h0).toNat) (fun j σ H'=>∃ (v9 v10 v11:Option V) (o:Int) (t:Str),σ=[some (.ref a),some (.int most),some (.int (1 + h0 % 8)),some (.int (1 + w0 % mw most h0)),some (.str (fz dots)),some (.ref l),some (.int (0 + i)),some (.int o),some (.str t),v9,v10,v11]/\H'=H1/\Row (fz dots).cps.toList j t)
    ⟨_,_,_,own,_,rfl,rfl,⟨rfl,fun _ h=>nomatch h⟩⟩ ?_ ?_
   ·rintro j σ H2 hj ⟨v9,v10,v11,o,t,rfl,rfl,hr1⟩
    refine ⟨_,rfl,_,_,rfl,rfl,mulL (by decide) (by decide),_,rfl,_,_,rfl,rfl,?_⟩
    have hp0:(0:Int)<=8 * (0 + i) + (0 + j):=by omega
    have hp1:8 * (0 + (i:Int)) + (0 + j)<=1000:=by omega
    have q0:=Int.emod_nonneg (8 * (0 + (i:Int)) + (0 + j)) (show (59:Int) ≠ 0 by decide)
    refine ⟨_,rfl,_,rfl,_,_,rfl,rfl,(by show (0:Int) < 59; decide),_,_,rfl,rfl,a,ns,_,rfl,s1.seq hS,by omega,fun c=>⟨_,rfl,_,_,rfl,hp0,by omega,fun d=>?_⟩⟩
    refine ⟨fun σ' H'=>∃ (o d:Int),σ'=[some (.ref a),some (.int most),some (.int (1 + h0 % 8)),some (.int (1 + w0 % mw most h0)),some (.str (fz dots)),some (.ref l),some (.int (0 + i)),some (.int o),some (.str t),some (.int (0 + j)),some (.int (8 * (0 + i) + (0 + j))),some (.int d)]/\H'=H2,?_,?_⟩
    ·refine ⟨_,rfl,a,ns,_,rfl,s1.seq hS,by decide,fun c0=>⟨_,_,rfl,rfl,CDivG.small (by decide) (by decide),_,_,rfl,rfl,(by show (0:Int) < 2; decide),rfl,_,rfl,ite2 (fun _=>?_) (fun _=>?_)⟩⟩
     ·refine ⟨_,rfl,_,rfl,_,rfl,fz dots,rfl,?_,_,_,rfl,rfl,?_,?_⟩
      ·exact Nat.le_trans z2 (by decide)
      ·exact CDivG.small (by show (0:Int) < ((fz dots).cps.size:Nat); omega) (by show (((fz dots).cps.size:Nat):Int) < 1073741824; omega)
      ·exact ⟨_,_,rfl,rfl⟩
     ·refine ⟨_,rfl,_,_,rfl,rfl,CDivG.small (by decide) (by decide),_,_,rfl,rfl,(by show (0:Int) < 3; decide),_,_,rfl,rfl,_,rfl,ite2 (fun _=>?_) (fun _=>?_)⟩
      ·refine ⟨_,rfl,_,rfl,fz dots,rfl,Nat.le_trans z2 (by decide),_,_,rfl,rfl,_,_,rfl,rfl,(by show (0:Int) < ((fz dots).cps.size:Nat) - 1; omega),?_⟩
       exact ⟨_,_,rfl,rfl⟩
      ·exact ⟨_,_,rfl,rfl⟩
    rintro σ' H3 ⟨o',d',rfl,rfl⟩
    have m0:=Int.emod_nonneg d' (show (((fz dots).cps.size:Nat):Int) ≠ 0 by omega)
    have m1:=Int.emod_lt_of_pos d' (show (0:Int) < (((fz dots).cps.size:Nat):Int) by omega)
    have hlt:(d' % (((fz dots).cps.size:Nat):Int)).toNat < (fz dots).cps.toList.length:=by
     rw [Array.length_toList]
     omega
    refine ⟨_,rfl,_,rfl,_,rfl,_,rfl,fz dots,rfl,Nat.le_trans z2 (by decide),_,_,rfl,rfl,(by show (0:Int) < ((fz dots).cps.size:Nat); omega),fz dots,_,(fz dots).cps.toList[(d' % (((fz dots).cps.size:Nat):Int)).toNat],rfl,rfl,Nat.le_trans z2 (by decide),atI_lt m0 (List.getElem?_eq_getElem hlt),t,_,rfl,rfl,?_,?_⟩
    ·have e5:t.length=j:=hr1.len
     rw [e5]
     show j + 1<=sizeLine
     exact Nat.le_trans (show j + 1<=80 by omega) (by decide)
    ·exact ⟨_,_,_,o',_,rfl,rfl,hr1.more (List.getElem_mem hlt)⟩
   ·rintro σ H2 ⟨v9,v10,v11,o,t,rfl,rfl,hr1⟩
    refine ⟨_,rfl,.inl ⟨rfl,_,SqL.of hl1⟩,_,rfl,l,_,_,rfl,rfl,hl1,?_,?_⟩
    ·rw [List.length_map,hlen]
     exact Nat.lt_of_lt_of_le (show i < 9 by omega) (by decide)
    ·refine ⟨_,_,_,_,_,_,rs++[t],rfl,fun b o e=>?_,?_,?_,?_⟩
     ·rw [upd_ne (ne_of_none e hl)]
      exact s1 b o e
     ·rw [upd_same,List.map_append]
      rfl
     ·rw [List.length_append,hlen]
      rfl
     ·intro u hu
      rcases List.mem_append.mp hu with hu | hu
      ·exact hrow u hu
      ·have e6:u=t:=by simpa using hu
       rw [e6]
       exact hr1
  ·rintro σ H1 ⟨v6,v7,v8,v9,v10,v11,rs,rfl,s1,hl1,hlen,hrow⟩
   refine ⟨_,rfl,k l rs H1 hl hl1 s1 ⟨by omega,by omega,(1 + w0 % mw most h0).toNat,by omega,by omega,fun t ht=>⟨(hrow t ht).len,fun c hc=>zm c ((hrow t ht).mem c hc)⟩⟩ fun t ht=>?_⟩
   rw [(hrow t ht).len,hlen]
   have a1:(((1 + h0 % 8).toNat * (1 + w0 % mw most h0).toNat:Nat):Int)=(1 + h0 % 8) * (1 + w0 % mw most h0):=by
    rw [Int.natCast_mul,Int.toNat_of_nonneg (by omega),Int.toNat_of_nonneg (by omega)]
   rw [a1]
   exact Int.le_trans (Int.mul_le_mul_of_nonneg_left (show 1 + w0 % mw most h0<=mw most h0 by omega) (by omega)) w3
noncomputable def pIn (z:Str)(k:Nat):Bool:=!(Builtin.Str.occurrences z ⟨#[k]⟩ 0 z.length 1).isEmpty
noncomputable def spFCells:Sp:=fun vs H Q _=>∃ (l:Addr) (rs:List Str) (z:Str) (sg:List Nat),vs=[.ref l,.str z]/\H l=some (.lst (rs.map V.str))/\Rows sg rs /\
 ∀ (d:Addr) (ws:List V) (H':Hp),H d=none->H' d=some (.lst ws)->Cel H' ws (Cells.allCs (pIn z) 0 (codes rs))->Same H H'->Q (.ref d) H'
theorem atI_z {α:Type}{xs:List α}{j:Nat}{v:α}(h:xs[j]?=some v):atI xs (0 + (j:Int))=some v:=by
 rw [Int.zero_add]
 exact atI_nat h
theorem sc_law_cells:FnScope ["_law_rows","_law_signs","_law_found","_law_row","_law_column"] ["_law_rows","_law_signs"] (defScope s_law_cells):=⟨rfl,rfl,rfl,by decide +kernel,rfl,by decide +kernel,by decide +kernel⟩
theorem ok_law_cells (T:Txt mg)(D:DefAt K mg "_law_cells" s_law_cells ["_law_rows","_law_signs"] f fd):FnOk P w K mg base CX0 1 f fd ["_law_rows","_law_signs"] spFCells:=by
 refine D.F.ok sc_law_cells (fun vs H Q E h=>?_) (fun cdv A outer s H vs Q E hr h=>?_)
 ·obtain ⟨l,rs,z,sg,rfl,_⟩:=h
  rfl
 ·obtain ⟨l,rs,z,sg,rfl,hl,R,q⟩:=h
  refine ⟨_,(pss_cons (ps_set (i:=2) sc_law_cells.nd rfl (Or.inl rfl) (pe_lst pa_nil))
   (pss_cons (ps_for PassesOwn.never rfl (pi_range1 (by rfl) T.b_range (pa_cons (pe_callB call_len_seq (by rfl) T.b_len PySem.boot_len (pa_cons (pv 0) pa_nil)) pa_nil)) (pg_name (i:=3) sc_law_cells.nd rfl (Or.inl rfl)) (pss_one (ps_for PassesOwn.never rfl (pi_range1 (by rfl) T.b_range (pa_cons (pe_callB call_len_str (by rfl) T.b_len PySem.boot_len (pa_cons (pe_ix ix_list (pv 0) pe_int (fun _ _=>rfl)) pa_nil)) pa_nil)) (pg_name (i:=4) sc_law_cells.nd rfl (Or.inl rfl)) (pss_one (ps_if (pt_cmpR op_in_str (pe_ix ix_str (pe_ix ix_list (pv 0) (pv 3) (fun _ _=>rfl)) (pv 4) (fun _ _=>rfl)) (pv 1) (by rfl)) (pss_one (ps_expr (pe_bm PySem.F.plainAttrs_list PySem.F.slot_list_append PySem.F.type_list_append mt_append (pv 2) (pa_cons (pe_tup (pa_cons (pv 3) (pa_cons (pv 4) pa_nil))) pa_nil)))) pss_nil)))))
   (pss_one (ps_ret (pv 2))))),?_⟩
  refine ⟨sz_0,fun d hd=>?_⟩
  have s0:Same H (upd H d (.lst [])):=same_new hd
  obtain ⟨wd,w1,w8,hrow⟩:=R.ex
  have rlo:=R.lo
  have rhi:=R.hi
  refine ⟨_,rfl,l,_,rfl,.inl (SqL.of (s0 _ _ hl)),_,rfl,by omega,?_,?_⟩
  ·rw [List.length_map]
   omega
  refine for_range (lo:=0) (n:=(((rs.map V.str).length:Nat):Int).toNat) (fun i σ H'=>∃ (v3 v4:Option V) (ws:List V),σ=[some (.ref l),some (.str z),some (.ref d),v3,v4]/\Same H H'/\H' d=some (.lst ws)/\Cel H' ws (Cells.allCs (pIn z) 0 ((codes rs).take i)))
   ⟨_,_,[],rfl,s0,upd_same,.nil⟩ ?_ ?_
  ·rintro i σ H1 hi ⟨v3,v4,ws,rfl,s1,hd1,hc1⟩
   have hil:i < rs.length:=by
    rw [List.length_map] at hi
    omega
   obtain ⟨t,ht⟩:∃ t,rs[i]?=some t:=⟨_,List.getElem?_eq_getElem hil⟩
   obtain ⟨t0,ht0⟩:∃ t,rs[0]?=some t:=⟨_,List.getElem?_eq_getElem (by omega)⟩
   have tl:t.length=wd:=(hrow t (List.mem_of_getElem? ht)).len
   have tl0:t0.length=wd:=(hrow t0 (List.mem_of_getElem? ht0)).len
   refine ⟨_,rfl,l,_,0,V.str t0,rfl,rfl,SqL.of (s1 _ _ hl),atI_lt (by decide) (by rw [List.getElem?_map]; exact congrArg _ ht0),t0,rfl,R.tlen ht0,_,rfl,by omega,?_,?_⟩
   ·rw [tl0]
    omega
   rw [tl0]
   refine for_range (lo:=0) (n:=((wd:Nat):Int).toNat) (fun j σ H'=>∃ (v4:Option V) (ws:List V),σ=[some (.ref l),some (.str z),some (.ref d),some (.int (0 + i)),v4]/\Same H H'/\H' d=some (.lst ws)/\Cel H' ws (Cells.allCs (pIn z) 0 ((codes rs).take i)++Cells.rowCs (pIn z) i 0 (t.cps.toList.take j)))
    ⟨_,ws,rfl,s1,hd1,by simpa [Cells.rowCs] using hc1⟩ ?_ ?_
   ·rintro j σ H2 hj ⟨v4,ws,rfl,s2,hd2,hc2⟩
    have hjl:j < t.cps.toList.length:=by
     have:t.cps.size=wd:=tl
     rw [Array.length_toList]
     omega
    obtain ⟨c,hc⟩:∃ c,t.cps.toList[j]?=some c:=⟨_,List.getElem?_eq_getElem hjl⟩
    have hrt:atI (rs.map V.str) (0 + (i:Int))=some (V.str t):=atI_z (by rw [List.getElem?_map,ht]; rfl)
    have st:=Cells.rowCs_step (p:=pIn z) (i:=i) hc
    have len:ws.length<=64:=by
     rw [hc2.length,List.length_append]
     have h1:=Cells.allCs_length (pIn z) 0 ((codes rs).take i) fun u hu=>R.short u (List.mem_of_mem_take hu)
     have h2:=Cells.rowCs_length (pIn z) i 0 (t.cps.toList.take j)
     rw [List.length_take,codes_len] at h1
     rw [List.length_take] at h2
     omega
    refine ⟨_,rfl,_,rfl,l,_,_,_,rfl,rfl,SqL.of (s2 _ _ hl),hrt,_,rfl,t,_,c,rfl,rfl,R.tlen ht,atI_z hc,_,rfl,_,_,rfl,rfl,_,rfl,?_⟩
    refine ite2 (fun kd=>?_) (fun kd=>?_)
    ·rw [if_pos (show pIn z c=true from kd)] at st
     refine ⟨_,rfl,.inl ⟨rfl,_,SqL.of hd2⟩,_,rfl,_,rfl,sz_2,fun tp htp=>?_⟩
     have s3:Same H2 (upd H2 tp (.tup [.int (0 + i),.int (0 + j)])):=same_new htp
     refine ⟨d,_,_,rfl,rfl,s3 _ _ hd2,Nat.lt_of_le_of_lt len (by decide),?_⟩
     refine ⟨_,ws++[.ref tp],rfl,fun b' o e'=>?_,upd_same,?_⟩
     ·rw [upd_ne (ne_of_none e' hd)]
      exact s3 _ _ (s2 _ _ e')
     ·rw [st,<- List.append_assoc]
      refine Cel.into d _ (s3 _ _ hd2) (Cel.snoc (Cel.mono s3 hc2) ⟨tp,rfl,?_⟩)
      rw [upd_same,Int.zero_add,Int.zero_add]
    ·rw [if_neg (show ¬ pIn z c=true from kd),List.append_nil] at st
     refine ⟨_,ws,rfl,s2,hd2,?_⟩
     rw [st]
     exact hc2
   ·rintro σ H2 ⟨v4,ws,rfl,s2,hd2,hc2⟩
    have full:t.cps.toList.take ((wd:Nat):Int).toNat=t.cps.toList:=by
     have:t.cps.size=wd:=tl
     rw [show (((wd:Nat):Int)).toNat=t.cps.toList.length by rw [Array.length_toList]; omega,List.take_length]
    rw [full] at hc2
    exact ⟨_,_,ws,rfl,s2,hd2,by rw [Cells.allCs_step (codes_get ht)]; exact hc2⟩
  ·rintro σ H1 ⟨v3,v4,ws,rfl,s1,hd1,hc1⟩
   have full:(codes rs).take (((rs.map V.str).length:Nat):Int).toNat=codes rs:=by
    rw [show ((((rs.map V.str).length:Nat):Int)).toNat=(codes rs).length by rw [List.length_map,codes_len]; omega,List.take_length]
   rw [full] at hc1
   exact ⟨_,rfl,q d ws H1 hd hd1 hc1 s1⟩
theorem gRdv {K:PySem.W.Frag}{H:Hp}{vs:List V}{cs:List (Nat × Nat)}(hp:Cel H vs cs):RdvAll K H vs (cs.map cData):=by
 induction hp with
 | nil=>exact .nil
 | cons h _ ih =>
  exact .cons (CelR.rdv h) ih
theorem g_lays (cs:List (Nat × Nat)):PyData.canLayAll0 (cs.map cData)=true:=by
 induction cs with
 | nil=>rfl
 | cons c r ih =>
  show (PyData.canLay0 (cData c) && PyData.canLayAll0 (r.map cData))=true
  rw [ih]
  rfl
theorem g_depths (cs:List (Nat × Nat)):PyData.depthAll (cs.map cData)<=1:=by
 induction cs with
 | nil=>exact Nat.zero_le _
 | cons c r ih =>
  show max (PyData.depth (cData c)) (PyData.depthAll (r.map cData))<=1
  have:PyData.depth (cData c)=1:=rfl
  omega
theorem g_cmp2 (cs ds:List (Nat × Nat)):CmpD (.list (cs.map cData)) (.list (ds.map cData)):=⟨g_lays cs,g_lays ds,by
 show PyData.depthAll (cs.map cData) + 1<=64
 have:=g_depths cs
 omega⟩
theorem g_same (cs:List (Nat × Nat)):PyData.eqv (.list (cs.map cData)) (.list (cs.map cData))=true:=SeqAt.eqv_refl _ (g_lays cs)
theorem shut_is (c:Nat):(pCell c && decide (c=63))=pShut c:=by
 unfold pCell pShut
 by_cases h:c=63
 ·subst h
  rfl
 ·simp [h]
theorem sc_closed:FnScope ["board"] ["board"] (defScope s_closed):=⟨rfl,rfl,rfl,by decide +kernel,rfl,by decide +kernel,by decide +kernel⟩
theorem ok_closed {f1 f2:Addr}{fd1 fd2:FuncData}(T:Txt mg)(D:DefAt K mg "closed" s_closed ["board"] f fd)(D_cells_of:DefAt K mg "cells_of" s_cells_of ["board"] f1 fd1)(D_sign_at:DefAt K mg "sign_at" s_sign_at ["board","cell"] f2 fd2) :
  FnOk P w K mg base CX0 2 f fd ["board"] (spList pShut):=by
 refine D.F.ok sc_closed (fun vs H Q E h=>?_) (fun cdv A outer s H vs Q E hr h=>?_)
 ·obtain ⟨a,l,rs,n,rfl,_⟩:=h
  rfl
 ·obtain ⟨a,l,rs,n,rfl,b,R,q⟩:=h
  refine ⟨_,(pss_one (ps_ret (pe_comp (N:=["cell","board"]) (src:=[none,some 0]) (CompOk.free (O:=(defScope s_closed).names) (XN:=["board"]) rfl rfl ⟨_,rfl⟩ rfl rfl (by decide +kernel) (by decide +kernel) (by decide +kernel) rfl (by decide +kernel)) rfl (pi_list (pc0 (ok_cells_of T D_cells_of) hr D_cells_of (pa_cons (pv 0) pa_nil))) (fun _ _ _ _ _=>(pg_name (i:=0) (by show List.Nodup (["cell","board"]:List Str); decide +kernel) rfl (Or.inl rfl))) (fun _ _ _ _ _=>(pifs_one (pt_cmpR op_eq (pc0 (ok_sign_at D_sign_at) hr D_sign_at (pa_cons (pv 1) (pa_cons (pv 0) pa_nil))) (pe_glob (v:=.str "?") (by rfl) T.v_CLOSED_SIGN.choose_spec (by exact ⟨_,rfl⟩)) (nomark _)))) (fun _ _ _ _ _=>(pv 0))))),?_⟩
  refine ⟨_,rfl,a,l,rs,n,rfl,b,R,fun d ws H1 hd hd1 hc1 s1=>⟨d,rfl,⟨_,SqL.of hd1⟩,fun z hz=>?_⟩⟩
  have nz:d ≠ z:=ne_of_none hd1 hz
  refine comp_list (K:=K) (a:=d) (xs:=ws) (fun i σ H'=>∃ (u0:Option V) (ys:List V),σ=[u0,some (.ref a)]/\Same H1 H'/\H' z=some (.lst ys)/\Cel H' ys (((Cells.allCs pCell 0 (codes rs)).take i).filter fun x=>decide (Cells.sgn (codes rs) x=63)))
   ⟨_,[],rfl,same_new hz,upd_same,.nil⟩ (fun i σ H' _ ⟨_,_,_,s2,_⟩=>SqL.of (s2 _ _ hd1)) ?_ ?_
  ·rintro i x σ H2 hx ⟨u0,ys,rfl,s2,hz2,hc2⟩
   obtain ⟨c,hci,ca,rfl,hca⟩:=Cel.get (Cel.mono s2 hc1) hx
   obtain ⟨k0,j,u,k,ec,hk0,hj,hpc⟩:=Cells.mem_allCs (List.mem_of_getElem? hci)
   obtain ⟨t,ht,rfl⟩:=codes_inv hk0
   rw [Nat.zero_add] at ec
   subst ec
   refine ⟨_,rfl,_,rfl,a,l,ca,rs,n,k0,j,t,k,rfl,(b.mono s1).mono s2,hca,ht,hj,R.tlen ht,rfl,_,rfl,?_⟩
   have es:Cells.sgn (codes rs) (k0,j)=k:=Cells.sgn_at hk0 hj
   have step:((Cells.allCs pCell 0 (codes rs)).take (i + 1)).filter (fun x=>decide (Cells.sgn (codes rs) x=63))=((Cells.allCs pCell 0 (codes rs)).take i).filter (fun x=>decide (Cells.sgn (codes rs) x=63))++(if decide (k=63)=true then [(k0,j)] else []):=by
    rw [List.take_add_one,hci,List.filter_append]
    congr 1
    show List.filter _ [(k0,j)]=_
    rw [List.filter_cons]
    try dsimp only
    rw [es]
    split <;> rfl
   have ed:decide (V.str ⟨#[k]⟩=V.str "?")=decide (k=63):=by
    rw [ask_is]
    simp only [one_eq]
   rw [ed]
   by_cases hp:decide (k=63)=true
   ·rw [if_pos hp] at step
    refine iteP hp ?_
    have hlen:ys.length<=64:=by
     rw [hc2.length]
     refine Nat.le_trans (List.length_filter_le _ _) ?_
     rw [List.length_take]
     have h1:=Cells.allCs_length pCell 0 (codes rs) R.short
     have h2:=R.hi
     rw [codes_len] at h1
     omega
    refine ⟨_,rfl,ys,hz2,Nat.lt_of_le_of_lt hlen (by decide),_,ys++[.ref ca],rfl,fun b' o e'=>?_,upd_same,?_⟩
    ·have hb:b' ≠ z:=fun y=>by
      subst y
      rw [hz] at e'
      cases e'
     rw [upd_ne hb]
     exact s2 _ _ e'
    ·rw [step]
     exact Cel.into z _ hz2 (Cel.snoc hc2 ⟨ca,rfl,hca⟩)
   ·rw [if_neg hp] at step
    refine iteN (by simpa using hp) ?_
    refine ⟨_,ys,rfl,s2,hz2,?_⟩
    rw [step]
    simpa using hc2
  ·rintro σ H2 ⟨u0,ys,rfl,s2,hz2,hc2⟩
   rw [hc1.length,List.take_length,Cells.all_filter (p:=pCell) (q:=fun k=>decide (k=63)) (codes rs)] at hc2
   have hz0:H z=none:=s1.free hz
   exact q z ys H2 hz0 hz2 (by rw [Cells.allCs_congr (q:=pShut) shut_is] at hc2; exact hc2) (s1.trans s2)
theorem sc_open_cells:FnScope ["board"] ["board"] (defScope s_open_cells):=⟨rfl,rfl,rfl,by decide +kernel,rfl,by decide +kernel,by decide +kernel⟩
theorem ok_open_cells {f1 f2:Addr}{fd1 fd2:FuncData}(T:Txt mg)(D:DefAt K mg "open_cells" s_open_cells ["board"] f fd)(D_cells_of:DefAt K mg "cells_of" s_cells_of ["board"] f1 fd1)(D_sign_at:DefAt K mg "sign_at" s_sign_at ["board","cell"] f2 fd2) :
  FnOk P w K mg base CX0 2 f fd ["board"] (spList pOpen):=by
 refine D.F.ok sc_open_cells (fun vs H Q E h=>?_) (fun cdv A outer s H vs Q E hr h=>?_)
 ·obtain ⟨a,l,rs,n,rfl,_⟩:=h
  rfl
 ·obtain ⟨a,l,rs,n,rfl,b,R,q⟩:=h
  refine ⟨_,(pss_one (ps_ret (pe_comp (N:=["cell","board"]) (src:=[none,some 0]) (CompOk.free (O:=(defScope s_open_cells).names) (XN:=["board"]) rfl rfl ⟨_,rfl⟩ rfl rfl (by decide +kernel) (by decide +kernel) (by decide +kernel) rfl (by decide +kernel)) rfl (pi_list (pc0 (ok_cells_of T D_cells_of) hr D_cells_of (pa_cons (pv 0) pa_nil))) (fun _ _ _ _ _=>(pg_name (i:=0) (by show List.Nodup (["cell","board"]:List Str); decide +kernel) rfl (Or.inl rfl))) (fun _ _ _ _ _=>(pifs_one (pt_cmpR op_ne (pc0 (ok_sign_at D_sign_at) hr D_sign_at (pa_cons (pv 1) (pa_cons (pv 0) pa_nil))) (pe_glob (v:=.str "?") (by rfl) T.v_CLOSED_SIGN.choose_spec (by exact ⟨_,rfl⟩)) (nomark _)))) (fun _ _ _ _ _=>(pv 0))))),?_⟩
  refine ⟨_,rfl,a,l,rs,n,rfl,b,R,fun d ws H1 hd hd1 hc1 s1=>⟨d,rfl,⟨_,SqL.of hd1⟩,fun z hz=>?_⟩⟩
  have nz:d ≠ z:=ne_of_none hd1 hz
  refine comp_list (K:=K) (a:=d) (xs:=ws) (fun i σ H'=>∃ (u0:Option V) (ys:List V),σ=[u0,some (.ref a)]/\Same H1 H'/\H' z=some (.lst ys)/\Cel H' ys (((Cells.allCs pCell 0 (codes rs)).take i).filter fun x=>!decide (Cells.sgn (codes rs) x=63)))
   ⟨_,[],rfl,same_new hz,upd_same,.nil⟩ (fun i σ H' _ ⟨_,_,_,s2,_⟩=>SqL.of (s2 _ _ hd1)) ?_ ?_
  ·rintro i x σ H2 hx ⟨u0,ys,rfl,s2,hz2,hc2⟩
   obtain ⟨c,hci,ca,rfl,hca⟩:=Cel.get (Cel.mono s2 hc1) hx
   obtain ⟨k0,j,u,k,ec,hk0,hj,hpc⟩:=Cells.mem_allCs (List.mem_of_getElem? hci)
   obtain ⟨t,ht,rfl⟩:=codes_inv hk0
   rw [Nat.zero_add] at ec
   subst ec
   refine ⟨_,rfl,_,rfl,a,l,ca,rs,n,k0,j,t,k,rfl,(b.mono s1).mono s2,hca,ht,hj,R.tlen ht,rfl,_,rfl,?_⟩
   have es:Cells.sgn (codes rs) (k0,j)=k:=Cells.sgn_at hk0 hj
   have step:((Cells.allCs pCell 0 (codes rs)).take (i + 1)).filter (fun x=>!decide (Cells.sgn (codes rs) x=63))=((Cells.allCs pCell 0 (codes rs)).take i).filter (fun x=>!decide (Cells.sgn (codes rs) x=63))++(if (!decide (k=63))=true then [(k0,j)] else []):=by
    rw [List.take_add_one,hci,List.filter_append]
    congr 1
    show List.filter _ [(k0,j)]=_
    rw [List.filter_cons]
    try dsimp only
    rw [es]
    split <;> rfl
   have ed:(!decide (V.str ⟨#[k]⟩=V.str "?"))=(!decide (k=63)):=by
    rw [ask_is]
    simp only [one_eq]
   rw [ed]
   by_cases hp:(!decide (k=63))=true
   ·rw [if_pos hp] at step
    refine iteP hp ?_
    have hlen:ys.length<=64:=by
     rw [hc2.length]
     refine Nat.le_trans (List.length_filter_le _ _) ?_
     rw [List.length_take]
     have h1:=Cells.allCs_length pCell 0 (codes rs) R.short
     have h2:=R.hi
     rw [codes_len] at h1
     omega
    refine ⟨_,rfl,ys,hz2,Nat.lt_of_le_of_lt hlen (by decide),_,ys++[.ref ca],rfl,fun b' o e'=>?_,upd_same,?_⟩
    ·have hb:b' ≠ z:=fun y=>by
      subst y
      rw [hz] at e'
      cases e'
     rw [upd_ne hb]
     exact s2 _ _ e'
    ·rw [step]
     exact Cel.into z _ hz2 (Cel.snoc hc2 ⟨ca,rfl,hca⟩)
   ·rw [if_neg hp] at step
    refine iteN (by simpa using hp) ?_
    refine ⟨_,ys,rfl,s2,hz2,?_⟩
    rw [step]
    simpa using hc2
  ·rintro σ H2 ⟨u0,ys,rfl,s2,hz2,hc2⟩
   rw [hc1.length,List.take_length,Cells.all_filter (p:=pCell) (q:=fun k=>(!decide (k=63))) (codes rs)] at hc2
   have hz0:H z=none:=s1.free hz
   exact q z ys H2 hz0 hz2 hc2 (s1.trans s2)
theorem sc_number_at:FnScope ["board","cell"] ["board","cell"] (defScope s_number_at):=⟨rfl,rfl,rfl,by decide +kernel,rfl,by decide +kernel,by decide +kernel⟩
theorem ok_number_at {f1:Addr}{fd1:FuncData}(T:Txt mg)(D:DefAt K mg "number_at" s_number_at ["board","cell"] f fd)(D_sign_at:DefAt K mg "sign_at" s_sign_at ["board","cell"] f1 fd1):FnOk P w K mg base CX0 2 f fd ["board","cell"] spNumber:=by
 refine D.F.ok sc_number_at (fun vs H Q E h=>?_) (fun cdv A outer s H vs Q E hr h=>?_)
 ·obtain ⟨p,l,c,rs,n,i,j,t,k,rfl,_⟩:=h
  rfl
 ·obtain ⟨p,l,c,rs,n,i,j,t,k,rfl,b,hc,hi,hj,hl,k1,k2,q⟩:=h
  refine ⟨_,(pss_one (ps_ret (pe_callTy call_int_str (by rfl) T.b_int PyProof.Rows.boot_int (pa_cons (pc0 (ok_sign_at D_sign_at) hr D_sign_at (pa_cons (pv 0) (pa_cons (pv 1) pa_nil))) pa_nil)))),?_⟩
  exact ⟨_,rfl,_,rfl,p,l,c,rs,n,i,j,t,k,rfl,b,hc,hi,hj,hl,⟨#[k]⟩,_,rfl,int_sign k1 k2,(by show 1<=640; decide),q⟩
noncomputable def aroundC (rs:List Str)(y:Nat × Nat):List (Nat × Nat):=(Cells.allCs pCell 0 (codes rs)).filter fun x=>Cells.near x y
noncomputable def spAround:Sp:=fun vs H Q _=>∃ (p l ca:Addr) (rs:List Str) (n:Int) (i j:Nat),vs=[.ref p,.ref ca]/\BoardAt H p l rs n/\Rows bd.cps.toList rs/\H ca=some (.tup [.int (i:Nat),.int (j:Nat)])/\i < 64/\j < 64 /\
 ∀ (d:Addr) (ws:List V) (H':Hp),H d=none->H' d=some (.lst ws)->Cel H' ws (aroundC rs (i,j))->Same H H'->Q (.ref d) H'
theorem cast_max (i:Nat):(if (0:Int) > (i:Int) - 1 then (0:Int) else (i:Int) - 1)=((i - 1:Nat):Int):=by
 split <;> omega
theorem cast_min (i m:Nat):(if ((m:Nat):Int) < (i:Int) + 2 then ((m:Nat):Int) else (i:Int) + 2)=((min (i + 2) m:Nat):Int):=by
 split <;> omega
theorem filter_snoc {f:Nat × Nat->Bool}{l:List (Nat × Nat)}{x:Nat × Nat}(a:Bool):(l++(if a=true then [x] else [])).filter f=l.filter f++(if (a && f x)=true then [x] else []):=by
 rw [List.filter_append]
 congr 1
 by_cases h:a=true
 ·by_cases h2:f x=true
  ·simp [h,h2]
  ·simp [h,h2]
 ·simp [h]
theorem sc_around:FnScope ["board","cell","rows","found","row","column"] ["board","cell"] (defScope s_around):=⟨rfl,rfl,rfl,by decide +kernel,rfl,by decide +kernel,by decide +kernel⟩
theorem ok_around (T:Txt mg)(D:DefAt K mg "around" s_around ["board","cell"] f fd):FnOk P w K mg base CX0 1 f fd ["board","cell"] spAround:=by
 refine D.F.ok sc_around (fun vs H Q E h=>?_) (fun cdv A outer s H vs Q E hr h=>?_)
 ·obtain ⟨p,l,ca,rs,n,i,j,rfl,_⟩:=h
  rfl
 ·obtain ⟨p,l,ca,rs,n,i,j,rfl,b,R,hca,hi64,hj64,q⟩:=h
  refine ⟨_,(pss_cons (ps_set (i:=2) sc_around.nd rfl (Or.inl rfl) (pe_ix ix_tup (pv 0) pe_int (fun _ _=>rfl)))
   (pss_cons (ps_set (i:=3) sc_around.nd rfl (Or.inl rfl) (pe_lst pa_nil))
   (pss_cons (ps_for PassesOwn.never rfl (pi_range2 (by rfl) T.b_range (pa_cons (pe_callB (call_max2 rfl) (by rfl) T.b_max PyProof.Rows.boot_max (pa_cons (pe_op op_sub (pe_ix ix_tup (pv 1) pe_int (fun _ _=>rfl)) pe_int) (pa_cons pe_int pa_nil))) (pa_cons (pe_callB (call_min2 rfl) (by rfl) T.b_min PyProof.Rows.boot_min (pa_cons (pe_op op_add (pe_ix ix_tup (pv 1) pe_int (fun _ _=>rfl)) pe_int) (pa_cons (pe_callB call_len_seq (by rfl) T.b_len PySem.boot_len (pa_cons (pv 2) pa_nil)) pa_nil))) pa_nil))) (pg_name (i:=4) sc_around.nd rfl (Or.inl rfl)) (pss_one (ps_for PassesOwn.never rfl (pi_range2 (by rfl) T.b_range (pa_cons (pe_callB (call_max2 rfl) (by rfl) T.b_max PyProof.Rows.boot_max (pa_cons (pe_op op_sub (pe_ix ix_tup (pv 1) pe_int (fun _ _=>rfl)) pe_int) (pa_cons pe_int pa_nil))) (pa_cons (pe_callB (call_min2 rfl) (by rfl) T.b_min PyProof.Rows.boot_min (pa_cons (pe_op op_add (pe_ix ix_tup (pv 1) pe_int (fun _ _=>rfl)) pe_int) (pa_cons (pe_callB call_len_str (by rfl) T.b_len PySem.boot_len (pa_cons (pe_ix ix_list (pv 2) (pv 4) (fun _ _=>rfl)) pa_nil)) pa_nil))) pa_nil))) (pg_name (i:=5) sc_around.nd rfl (Or.inl rfl)) (pss_one (ps_if (PW.pt (pw_and (pt_cmpR op_ne (pe_ix ix_str (pe_ix ix_list (pv 2) (pv 4) (fun _ _=>rfl)) (pv 5) (fun _ _=>rfl)) (pe_glob (v:=.str "#") (by rfl) T.v_NO_CELL_SIGN.choose_spec (by exact ⟨_,rfl⟩)) (nomark _)) (pw_and1 (pt_cmpR (op_ne_deep hr.units) (pe_tup (pa_cons (pv 4) (pa_cons (pv 5) pa_nil))) (pv 1) (nomark _))))) (pss_one (ps_expr (pe_bm PySem.F.plainAttrs_list PySem.F.slot_list_append PySem.F.type_list_append mt_append (pv 3) (pa_cons (pe_tup (pa_cons (pv 4) (pa_cons (pv 5) pa_nil))) pa_nil)))) pss_nil)))))
   (pss_one (ps_ret (pv 3)))))),?_⟩
  refine ⟨_,rfl,p,_,0,_,rfl,rfl,SqT.of b.tp,rfl,?_⟩
  refine ⟨sz_0,fun d hd=>?_⟩
  have s0:Same H (upd H d (.lst [])):=same_new hd
  have r8:=R.hi
  refine ⟨_,rfl,ca,_,0,_,rfl,rfl,SqT.of (s0 _ _ hca),rfl,_,_,rfl,rfl,_,_,rfl,_,rfl,ca,_,0,_,rfl,rfl,SqT.of (s0 _ _ hca),rfl,_,_,rfl,rfl,_,rfl,l,_,rfl,.inl (SqL.of (b.mono s0).rw),_,_,rfl,((i - 1:Nat):Int),((min (i + 2) rs.length:Nat):Int),?_,⟨by omega,by omega,by omega,by omega⟩,?_⟩
  ·show [V.int (if (0:Int) > (i:Int) - 1 then (0:Int) else (i:Int) - 1),V.int (if (((rs.map V.str).length:Nat):Int) < (i:Int) + 2 then (((rs.map V.str).length:Nat):Int) else (i:Int) + 2)]=_
   rw [List.length_map,cast_max,cast_min]
  refine for_range (lo:=((i - 1:Nat):Int)) (fun k σ H'=>∃ (v4 v5:Option V) (ws:List V),σ=[some (.ref p),some (.ref ca),some (.ref l),some (.ref d),v4,v5]/\Same H H'/\H' d=some (.lst ws)/\Cel H' ws ((Cells.allCs pCell 0 ((codes rs).take (i - 1 + k))).filter fun x=>Cells.near x (i,j)))
   ⟨_,_,[],rfl,s0,upd_same,?_⟩ ?_ ?_
  ·rw [Cells.rows_low]
   ·exact .nil
   ·intro r c hr'
    rw [Bool.eq_false_iff,ne_eq,Cells.near_iff]
    rintro ⟨⟨_,h2⟩,_⟩
    dsimp only at h2
    omega
  ·rintro k σ H1 hk ⟨v4,v5,ws,rfl,s1,hd1,hc1⟩
   have hrl:i - 1 + k < rs.length:=by omega
   have ecast:((i - 1:Nat):Int) + (k:Nat)=((i - 1 + k:Nat):Int):=by omega
   rw [ecast]
   generalize hr0:i - 1 + k=r at *
   obtain ⟨t,ht⟩:∃ t,rs[r]?=some t:=⟨_,List.getElem?_eq_getElem hrl⟩
   have htl:t.length<=sizeLine:=R.tlen ht
   have ht8:t.cps.toList.length<=8:=R.short _ (List.mem_of_getElem? (codes_get ht))
   have hat:atI (rs.map V.str) ((r:Nat):Int)=some (V.str t):=atI_nat (by rw [List.getElem?_map,ht]; rfl)
   refine ⟨_,rfl,ca,_,1,_,rfl,rfl,SqT.of (s1 _ _ hca),rfl,_,_,rfl,rfl,_,_,rfl,_,rfl,ca,_,1,_,rfl,rfl,SqT.of (s1 _ _ hca),rfl,_,_,rfl,rfl,_,rfl,_,rfl,l,_,_,_,rfl,rfl,SqL.of (b.mono s1).rw,hat,t,rfl,htl,_,_,rfl,((j - 1:Nat):Int),((min (j + 2) t.cps.size:Nat):Int),?_,⟨by omega,by omega,by omega,?_⟩,?_⟩
   ·show [V.int (if (0:Int) > (j:Int) - 1 then (0:Int) else (j:Int) - 1),V.int (if ((t.cps.size:Nat):Int) < (j:Int) + 2 then ((t.cps.size:Nat):Int) else (j:Int) + 2)]=_
    rw [cast_max,cast_min]
   ·omega
   have hsz:t.cps.toList.length=t.cps.size:=Array.length_toList
   refine for_range (lo:=((j - 1:Nat):Int)) (fun m σ H'=>∃ (v5:Option V) (ws:List V),σ=[some (.ref p),some (.ref ca),some (.ref l),some (.ref d),some (.int (r:Nat)),v5]/\Same H H'/\H' d=some (.lst ws)/\Cel H' ws ((Cells.allCs pCell 0 ((codes rs).take r)).filter (fun x=>Cells.near x (i,j))++(Cells.rowCs pCell r 0 (t.cps.toList.take (j - 1 + m))).filter fun x=>Cells.near x (i,j)))
    ⟨_,ws,rfl,s1,hd1,?_⟩ ?_ ?_
   ·rw [Cells.cols_low (t:=t.cps.toList),List.append_nil]
    ·exact hc1
    ·intro c hc'
     rw [Bool.eq_false_iff,ne_eq,Cells.near_iff]
     rintro ⟨_,⟨_,h2⟩,_⟩
     dsimp only at h2
     omega
   ·rintro m σ H2 hm ⟨v5,ws2,rfl,s2,hd2,hc2⟩
    have hcl:j - 1 + m < t.cps.size:=by omega
    have ecast2:((j - 1:Nat):Int) + (m:Nat)=((j - 1 + m:Nat):Int):=by omega
    rw [ecast2]
    generalize hc0:j - 1 + m=c at *
    have hc0':j - 1 + (m + 1)=c + 1:=by omega
    obtain ⟨k0,hk0⟩:∃ k0,t.cps.toList[c]?=some k0:=⟨_,List.getElem?_eq_getElem (by omega)⟩
    have step:=Cells.rowCs_step (p:=pCell) (i:=r) hk0
    have step2:(Cells.rowCs pCell r 0 (t.cps.toList.take (c + 1))).filter (fun x=>Cells.near x (i,j))=(Cells.rowCs pCell r 0 (t.cps.toList.take c)).filter (fun x=>Cells.near x (i,j))++(if (pCell k0 && Cells.near (r,c) (i,j))=true then [(r,c)] else []):=by
     rw [step,filter_snoc]
    have nr:Cells.near (r,c) (i,j)=!decide ((r,c)=(i,j)):=by
     rw [Bool.eq_iff_iff,Cells.near_iff]
     simp only [Bool.not_eq_true',decide_eq_false_iff_not]
     constructor
     ·exact fun h=>h.2.2
     ·intro h
      refine ⟨⟨?_,?_⟩,⟨?_,?_⟩,h⟩ <;> (try dsimp only) <;> omega
    refine ⟨_,rfl,_,rfl,l,_,_,_,rfl,rfl,SqL.of (b.mono s2).rw,hat,_,rfl,t,_,k0,rfl,rfl,htl,atI_nat hk0,rfl,_,rfl,?_⟩
    have ed:(!decide (V.str ⟨#[k0]⟩=V.str "#"))=pCell k0:=by
     rw [hash_is]
     simp only [one_eq]
     rfl
    rw [ed]
    by_cases hp:pCell k0=true
    ·refine iteP hp ?_
     refine ⟨_,rfl,_,rfl,sz_2,fun tp htp=>?_⟩
     have s3:Same H2 (upd H2 tp (.tup [.int (r:Nat),.int (c:Nat)])):=same_new htp
     have hca3:=s3 _ _ (s2 _ _ hca)
     refine ⟨_,rfl,_,_,CelR.rdv (c:=(r,c)) ⟨tp,rfl,upd_same⟩,CelR.rdv (c:=(i,j)) ⟨ca,rfl,hca3⟩,cData_cmp _ _,_,rfl,?_⟩
     have ee:(if true=true then !PyData.eqv (cData (r,c)) (cData (i,j)) else PyData.eqv (cData (r,c)) (cData (i,j)))=Cells.near (r,c) (i,j):=by
      rw [cData_eqv,nr]
      rfl
     rw [ee]
     rw [hp,Bool.true_and] at step2
     by_cases hn:Cells.near (r,c) (i,j)=true
     ·refine iteP hn ?_
      rw [if_pos hn] at step2
      have hd3:=s3 _ _ hd2
      refine ⟨_,rfl,.inl ⟨rfl,_,SqL.of hd3⟩,_,rfl,_,rfl,sz_2,fun tq htq=>?_⟩
      have s4:Same (upd H2 tp (.tup [.int (r:Nat),.int (c:Nat)])) (upd (upd H2 tp (.tup [.int (r:Nat),.int (c:Nat)])) tq (.tup [.int (r:Nat),.int (c:Nat)])):=same_new htq
      have hlen:ws2.length<=128:=by
       rw [hc2.length,List.length_append]
       have h1:=List.length_filter_le (fun x=>Cells.near x (i,j)) (Cells.allCs pCell 0 ((codes rs).take r))
       have h2:=List.length_filter_le (fun x=>Cells.near x (i,j)) (Cells.rowCs pCell r 0 (t.cps.toList.take c))
       have h3:=Cells.allCs_length pCell 0 ((codes rs).take r) fun u hu=>R.short u (List.mem_of_mem_take hu)
       have h4:=Cells.rowCs_length pCell r 0 (t.cps.toList.take c)
       rw [List.length_take,codes_len] at h3
       rw [List.length_take] at h4
       omega
      refine ⟨d,_,_,rfl,rfl,s4 _ _ hd3,Nat.lt_of_le_of_lt hlen (by decide),?_⟩
      refine ⟨_,ws2++[.ref tq],rfl,fun b' o e'=>?_,upd_same,?_⟩
      ·rw [upd_ne (ne_of_none e' hd)]
       exact s4 _ _ (s3 _ _ (s2 _ _ e'))
      ·rw [hc0',step2,<- List.append_assoc]
       exact Cel.into d _ (s4 _ _ hd3) (Cel.snoc (Cel.mono s4 (Cel.mono s3 hc2)) ⟨tq,rfl,upd_same⟩)
     ·have hn':Cells.near (r,c) (i,j)=false:=by simpa using hn
      refine iteN hn' ?_
      rw [if_neg hn,List.append_nil] at step2
      refine ⟨_,ws2,rfl,s2.trans s3,s3 _ _ hd2,?_⟩
      rw [hc0',step2]
      exact Cel.mono s3 hc2
    ·have hp':pCell k0=false:=by simpa using hp
     refine iteN hp' ?_
     refine iteF ?_
     rw [hp',Bool.false_and,if_neg Bool.false_ne_true,List.append_nil] at step2
     refine ⟨_,ws2,rfl,s2,hd2,?_⟩
     rw [hc0',step2]
     exact hc2
   ·rintro σ H2 ⟨v5,ws2,rfl,s2,hd2,hc2⟩
    refine ⟨_,_,ws2,rfl,s2,hd2,?_⟩
    have full:(Cells.rowCs pCell r 0 (t.cps.toList.take (j - 1 + (((min (j + 2) t.cps.size:Nat):Int) - ((j - 1:Nat):Int)).toNat))).filter (fun x=>Cells.near x (i,j))=(Cells.rowCs pCell r 0 t.cps.toList).filter fun x=>Cells.near x (i,j):=by
     by_cases hbig:t.cps.size<=j - 1 + (((min (j + 2) t.cps.size:Nat):Int) - ((j - 1:Nat):Int)).toNat
     ·rw [List.take_of_length_le (by omega)]
     ·refine Cells.cols_high fun c hc'=>?_
      rw [Bool.eq_false_iff,ne_eq,Cells.near_iff]
      rintro ⟨_,⟨h2,_⟩,_⟩
      dsimp only at h2
      omega
    rw [full] at hc2
    have e1:i - 1 + (k + 1)=r + 1:=by omega
    rw [e1,Cells.allCs_step (codes_get ht),List.filter_append]
    exact hc2
  ·rintro σ H1 ⟨v4,v5,ws,rfl,s1,hd1,hc1⟩
   have full:(Cells.allCs pCell 0 ((codes rs).take (i - 1 + (((min (i + 2) rs.length:Nat):Int) - ((i - 1:Nat):Int)).toNat))).filter (fun x=>Cells.near x (i,j))=aroundC rs (i,j):=by
    by_cases hbig:rs.length<=i - 1 + (((min (i + 2) rs.length:Nat):Int) - ((i - 1:Nat):Int)).toNat
    ·rw [List.take_of_length_le (by rw [codes_len]; omega)]
     rfl
    ·refine Cells.rows_high fun r c hr'=>?_
     rw [Bool.eq_false_iff,ne_eq,Cells.near_iff]
     rintro ⟨⟨h2,_⟩,_⟩
     dsimp only at h2
     omega
   rw [full] at hc1
   exact ⟨_,rfl,q d ws H1 hd hd1 hc1 s1⟩
noncomputable abbrev KV1:=List (List Key × V)
noncomputable def keyC (c:Nat × Nat):List Key:=[.inl ((c.1:Nat):Int),.inl ((c.2:Nat):Int)]
theorem keyC_inj {c d:Nat × Nat}(h:keyC c=keyC d):c=d:=by
 unfold keyC at h
 obtain ⟨a,b⟩:=c
 obtain ⟨x,y⟩:=d
 simp only [List.cons.injEq,Sum.inl.injEq,and_true] at h
 obtain ⟨h1,h2⟩:=h
 have e1:a=x:=by omega
 have e2:b=y:=by omega
 rw [e1,e2]
noncomputable def dig (kvs:KV1)(c:Nat × Nat)(k:Nat):Nat:=match valV kvs (keyC c) with
 | some (.int v)=>48 + v.toNat
 | _=>k
structure Nums (cs:List (Nat × Nat))(N:Nat)(kvs:KV1):Prop where
 vals:∀ kv ∈ kvs,∃ c ∈ cs,∃ v:Nat,v<=8/\kv.1=keyC c/\kv.2=V.int (v:Nat)
 nd:(kvs.map (·.1)).Nodup
 len:kvs.length<=N
theorem valV_mem {kvs:KV1}{k:List Key}{v:V}(h:valV kvs k=some v):(k,v) ∈ kvs:=by
 unfold valV at h
 cases e:kvs.find? (fun kv=>decide (kv.1=k)) with
 | none =>
  rw [e] at h
  cases h
 | some kv =>
  rw [e] at h
  have h1:kv.2=v:=by simpa using h
  have h2:kv.1=k:=of_decide_eq_true (show decide (kv.1=k)=true from List.find?_some (p:=fun (kv:List Key × V)=>decide (kv.1=k)) e)
  have h3:=List.mem_of_find?_eq_some e
  rw [<- h1,<- h2]
  exact h3
theorem Nums.at {cs:List (Nat × Nat)}{N:Nat}{kvs:KV1}(h:Nums cs N kvs)(c:Nat × Nat):valV kvs (keyC c)=none\/∃ v:Nat,v<=8/\c ∈ cs/\valV kvs (keyC c)=some (V.int (v:Nat)):=by
 cases e:valV kvs (keyC c) with
 | none=>exact .inl rfl
 | some v =>
  obtain ⟨c',hc,n,hn,e1,e2⟩:=h.vals _ (valV_mem e)
  have ec:=keyC_inj e1
  subst ec
  have e2':v=V.int (n:Nat):=e2
  subst e2'
  exact .inr ⟨n,hn,hc,rfl⟩
theorem Nums.nil (cs:List (Nat × Nat))(N:Nat):Nums cs N []:=⟨(fun _ h=>nomatch h),List.nodup_nil,Nat.zero_le _⟩
theorem put_keys (kvs:KV1)(k:List Key)(v:V):(k ∈ kvs.map (·.1)/\(putK kvs k v).map (·.1)=kvs.map (·.1))\/(¬ k ∈ kvs.map (·.1)/\(putK kvs k v).map (·.1)=kvs.map (·.1)++[k]):=by
 unfold putK
 by_cases h:(kvs.any fun kv=>decide (kv.1=k))=true
 ·refine .inl ⟨?_,?_⟩
  ·obtain ⟨kv,h1,h2⟩:=List.any_eq_true.mp h
   exact List.mem_map.mpr ⟨kv,h1,of_decide_eq_true h2⟩
  ·rw [if_pos h,List.map_map]
   refine List.map_congr_left fun kv _=>?_
   show (if kv.1=k then (kv.1,v) else kv).1=kv.1
   split <;> rfl
 ·refine .inr ⟨fun hm=>?_,?_⟩
  ·obtain ⟨kv,h1,h2⟩:=List.mem_map.mp hm
   exact h (List.any_eq_true.mpr ⟨kv,h1,decide_eq_true h2⟩)
  ·rw [if_neg h,List.map_append]
   rfl
theorem put_mem {kvs:KV1}{k:List Key}{v:V}{kv:List Key × V}(h:kv ∈ putK kvs k v):kv ∈ kvs\/kv=(k,v):=by
 unfold putK at h
 split at h
 ·obtain ⟨x,hx,e⟩:=List.mem_map.mp h
  by_cases hk:x.1=k
  ·rw [if_pos hk] at e
   exact .inr (by rw [<- e,hk])
  ·rw [if_neg hk] at e
   exact .inl (by rw [<- e]; exact hx)
 ·rcases List.mem_append.mp h with h | h
  ·exact .inl h
  ·exact .inr (by simpa using h)
theorem Nums.put {cs:List (Nat × Nat)}{N:Nat}{kvs:KV1}(h:Nums cs N kvs){k:List Key}{w:V}(hk:∃ c ∈ cs,∃ v:Nat,v<=8/\k=keyC c/\w=V.int (v:Nat)):Nums cs (N + 1) (putK kvs k w):=by
 refine ⟨fun kv hkv=>?_,?_,?_⟩
 ·rcases put_mem hkv with h1 | h1
  ·exact h.vals kv h1
  ·subst h1
   exact hk
 ·rcases put_keys kvs k w with ⟨_,e⟩ | ⟨hn,e⟩
  ·rw [e]
   exact h.nd
  ·rw [e,List.nodup_append]
   refine ⟨h.nd,by simp,fun a ha b hb e=>hn ?_⟩
   have eb:b=k:=by simpa using hb
   rw [<- eb,<- e]
   exact ha
 ·have:=length_putK kvs k w
  have:=h.len
  omega
noncomputable def putRow (kvs:KV1)(i:Nat)(t:List Nat):List Nat:=t.mapIdx fun j c=>dig kvs (i,j) c
noncomputable def putT (kvs:KV1)(i:Nat)(t:Str):Str:=⟨(putRow kvs i t.cps.toList).toArray⟩
noncomputable def putRs (kvs:KV1)(rs:List Str):List Str:=rs.mapIdx fun i t=>putT kvs i t
theorem putT_list (kvs:KV1)(i:Nat)(t:Str):(putT kvs i t).cps.toList=putRow kvs i t.cps.toList:=by
 show (putRow kvs i t.cps.toList).toArray.toList=_
 rw [List.toList_toArray]
theorem str_ext {a b:Str}(h:a.cps.toList=b.cps.toList):a=b:=by
 obtain ⟨⟨x⟩⟩:=a
 obtain ⟨⟨y⟩⟩:=b
 have:x=y:=h
 rw [this]
theorem putRs_at {kvs:KV1}{rs:List Str}{i:Nat}{t:Str}(h:rs[i]?=some t):(putRs kvs rs)[i]?=some (putT kvs i t):=by
 unfold putRs
 rw [List.getElem?_mapIdx,h]
 rfl
theorem putRs_len (kvs:KV1)(rs:List Str):(putRs kvs rs).length=rs.length:=by
 unfold putRs
 rw [List.length_mapIdx]
theorem putRow_at {kvs:KV1}{i j c:Nat}{t:List Nat}(h:t[j]?=some c):(putRow kvs i t)[j]?=some (dig kvs (i,j) c):=by
 unfold putRow
 rw [List.getElem?_mapIdx,h]
 rfl
theorem dig_in:∀ v:Nat,v<=8->48 + v ∈ bd.cps.toList:=by decide +kernel
theorem Rows.put {cs:List (Nat × Nat)}{N:Nat}{kvs:KV1}(h:Nums cs N kvs){rs:List Str}(R:Rows bd.cps.toList rs):Rows bd.cps.toList (putRs kvs rs):=by
 obtain ⟨n,n1,n8,hr⟩:=R.ex
 refine ⟨by rw [putRs_len]; exact R.lo,by rw [putRs_len]; exact R.hi,n,n1,n8,fun t ht=>?_⟩
 obtain ⟨i,hi⟩:=List.getElem?_of_mem ht
 cases e:rs[i]? with
 | none =>
  have h0:=List.getElem?_eq_none_iff.mp e
  rw [List.getElem?_eq_none_iff.mpr (by rw [putRs_len]; exact h0)] at hi
  cases hi
 | some u =>
  rw [putRs_at e] at hi
  have eu:=Option.some.inj hi
  subst eu
  have ru:=hr u (List.mem_of_getElem? e)
  refine ⟨?_,fun c hc=>?_⟩
  ·rw [<- Array.length_toList,putT_list]
   unfold putRow
   rw [List.length_mapIdx,Array.length_toList]
   exact ru.len
  ·rw [putT_list] at hc
   obtain ⟨j,hj⟩:=List.getElem?_of_mem hc
   cases e2:u.cps.toList[j]? with
   | none =>
    have h0:=List.getElem?_eq_none_iff.mp e2
    rw [List.getElem?_eq_none_iff.mpr (by unfold putRow; rw [List.length_mapIdx]; exact h0)] at hj
    cases hj
   | some k =>
    rw [putRow_at e2] at hj
    have ec:=Option.some.inj hj
    subst ec
    unfold dig
    rcases h.at (i,j) with e3 | ⟨v,hv,_,e3⟩
    ·rw [e3]
     exact ru.mem k (List.mem_of_getElem? e2)
    ·rw [e3]
     exact dig_in v hv
noncomputable def spOpened:Sp:=fun vs H Q _=>∃ (p l d:Addr) (rs:List Str) (n:Int) (cs:List (Nat × Nat)) (N:Nat) (kvs:KV1),vs=[.ref p,.ref d]/\BoardAt H p l rs n/\Rows bd.cps.toList rs/\H d=some (.dT kvs)/\Nums cs N kvs /\
 ∀ (q l2:Addr) (H':Hp),H q=none->H l2=none->BoardAt H' q l2 (putRs kvs rs) n->Same H H'->Q (.ref q) H'
theorem join_ones:∀ cs:List Nat,(Str.join "" (cs.map fun c=>(⟨#[c]⟩:Str))).cps.toList=cs
 | []=>rfl
 | [c]=>rfl
 | c :: e :: r=>by
  have h:(Str.join "" ((c :: e :: r).map fun c=>(⟨#[c]⟩:Str))).cps=#[c]++("":Str).cps++(Str.join "" ((e :: r).map fun c=>(⟨#[c]⟩:Str))).cps:=rfl
  rw [h,Array.toList_append,Array.toList_append,join_ones (e :: r)]
  rfl
theorem putT_join (kvs:KV1)(i:Nat)(t:Str):Str.join "" ((putRow kvs i t.cps.toList).map fun c=>(⟨#[c]⟩:Str))=putT kvs i t:=str_ext (by rw [join_ones,putT_list])
theorem digit6:∀ d:Nat,d<=8->((toString (d:Int):String):Str)=⟨#[48 + d]⟩:=by decide +kernel
theorem sum_ones:∀ cs:List Nat,((cs.map fun c=>(⟨#[c]⟩:Str)).map (·.length)).sum=cs.length
 | []=>rfl
 | c :: r=>by
  rw [List.map_cons,List.map_cons,List.sum_cons,sum_ones r,List.length_cons]
  show 1 + r.length=_
  omega
theorem take_snoc {α:Type}{xs:List α}{i:Nat}{x:α}(h:xs[i]?=some x):xs.take (i + 1)=xs.take i++[x]:=by
 rw [List.take_add_one,h]
 rfl
theorem sc_opened:FnScope ["board","numbers","rows","row","text","signs"] ["board","numbers"] (defScope s_opened):=⟨rfl,rfl,rfl,by decide +kernel,rfl,by decide +kernel,by decide +kernel⟩
theorem ok_opened (T:Txt mg)(D:DefAt K mg "opened" s_opened ["board","numbers"] f fd):FnOk P w K mg base CX0 1 f fd ["board","numbers"] spOpened:=by
 refine D.F.ok sc_opened (fun vs H Q E h=>?_) (fun cdv A outer s H vs Q E hr h=>?_)
 ·obtain ⟨p,l,d,rs,n,cs,N,kvs,rfl,_⟩:=h
  rfl
 ·obtain ⟨p,l,d,rs,n,cs,N,kvs,rfl,b,R,hd,hN,q⟩:=h
  refine ⟨_,(pss_cons (ps_set (i:=2) sc_opened.nd rfl (Or.inl rfl) (pe_lst pa_nil))
   (pss_cons (ps_for PassesOwn.never rfl (pi_enumL (by rfl) T.b_enumerate (pa_cons (pe_ix ix_tup (pv 0) pe_int (fun _ _=>rfl)) pa_nil)) (pg_tup rfl (pgs_cons (pg_name (i:=3) sc_opened.nd rfl (Or.inr rfl)) (pgs_cons (pg_name (i:=4) sc_opened.nd rfl (Or.inl rfl)) pgs_nil))) (pss_cons (ps_setC (i:=5) sc_opened.nd rfl rfl (N:=["column","sign","numbers","row"]) (src:=[none,none,some 1,some 3]) (CompOk.free (O:=(defScope s_opened).names) (XN:=["board","numbers","rows","row","text","signs"]) rfl rfl ⟨_,rfl⟩ rfl rfl (by decide +kernel) (by decide +kernel) (by decide +kernel) rfl (by decide +kernel)) rfl (pi_enumS (by rfl) T.b_enumerate (pa_cons (pv 4) pa_nil)) (fun _ _ _ _ _=>(pg_tupK (n:=2) (K:=K) (by rfl) rfl (pgs_cons (pg_name (i:=0) (by show List.Nodup (["column","sign","numbers","row"]:List Str); decide +kernel) rfl (Or.inl rfl)) (pgs_cons (pg_name (i:=1) (by show List.Nodup (["column","sign","numbers","row"]:List Str); decide +kernel) rfl (Or.inl rfl)) pgs_nil)))) (fun _ _ _ _ _=>pifs_nil) (fun _ _ _ _ _=>(pe_callTy call_str_is (by rfl) T.b_str PyProof.Rows.boot_str (pa_cons (pe_dget2 (u1 hr.units) (pv 2) (pe_tup (pa_cons (pv 3) (pa_cons (pv 0) pa_nil))) (pv 1) ⟨rfl,rfl,rfl,rfl⟩) pa_nil))))
   (pss_one (ps_expr (pe_bm PySem.F.plainAttrs_list PySem.F.slot_list_append PySem.F.type_list_append mt_append (pv 2) (pa_cons (pe_bm PySem.F.plainAttrs_str PySem.F.slot_str_join PySem.F.type_str_join mt_join pe_str (pa_cons (pv 5) pa_nil)) pa_nil))))))
   (pss_one (ps_ret (pe_tup (pa_cons (pv 2) (pa_cons (pe_ix ix_tup (pv 0) pe_int (fun _ _=>rfl)) pa_nil))))))),?_⟩
  refine ⟨sz_0,fun d0 hd0=>?_⟩
  have s0:Same H (upd H d0 (.lst [])):=same_new hd0
  have rhi:=R.hi
  refine ⟨_,rfl,p,_,0,_,rfl,rfl,SqT.of (b.mono s0).tp,rfl,l,rfl,⟨_,SqL.of (b.mono s0).rw⟩,?_⟩
  refine for_enumL (K:=K) (l:=l) (xs:=rs.map V.str) (fun i σ H'=>∃ (v3 v4 v5:Option V),σ=[some (.ref p),some (.ref d),some (.ref d0),v3,v4,v5]/\Same H H'/\H' d0=some (.lst (((putRs kvs rs).take i).map V.str)))
   ⟨_,_,_,rfl,s0,upd_same⟩ (fun i σ H' _ ⟨_,_,_,_,s1,_⟩=>SqL.of (b.mono s1).rw) ?_ ?_
  ·rintro i x tt σ H1 hx htt ⟨v3,v4,v5,rfl,s1,hd1⟩
   rw [List.getElem?_map] at hx
   cases e:rs[i]? with
   | none =>
    rw [e] at hx
    cases hx
   | some t =>
    rw [e] at hx
    cases hx
    have tl8:t.cps.toList.length<=8:=R.short _ (List.mem_of_getElem? (codes_get e))
    have hil:i < rs.length:=(List.getElem?_eq_some_iff.mp e).1
    have st:Same H1 (upd H1 tt (.tup [.int (i:Nat),.str t])):=same_new htt
    refine ⟨tt,_,rfl,SqT.of upd_same,rfl,_,_,rfl,_,_,rfl,rfl,?_⟩
    have s2:=s1.trans st
    have hd2:=st _ _ hd1
    generalize upd H1 tt (.tup [.int (i:Nat),.str t])=H2 at *
    refine ⟨_,rfl,t,rfl,fun z hz=>?_⟩
    refine comp_enumS (x:=t) (fun j σ H'=>∃ (u0 u1:Option V),σ=[u0,u1,some (.ref d),some (.int (i:Nat))]/\Same H2 H'/\H' z=some (.lst (((putRow kvs i t.cps.toList).take j).map fun c=>V.str ⟨#[c]⟩))) ⟨_,_,rfl,same_new hz,upd_same⟩ ?_ ?_
    ·rintro j c t2 σ H3 hc ht2 ⟨u0,u1,rfl,s3,hz3⟩
     have hc':t.cps.toList[j]?=some c:=by rw [Array.getElem?_toList]; exact hc
     refine ⟨t2,_,rfl,SqT.of upd_same,rfl,_,_,rfl,_,_,rfl,rfl,?_⟩
     have s4:Same H3 (upd H3 t2 (.tup [.int (j:Nat),.str ⟨#[c]⟩])):=same_new ht2
     have hd4:=s4 _ _ (s3 _ _ (s2 _ _ hd))
     have hz4:=s4 _ _ hz3
     have s34:=s3.trans s4
     generalize upd H3 t2 (.tup [.int (j:Nat),.str ⟨#[c]⟩])=H4 at *
     unfold tYes
     refine iteT ⟨_,rfl,d,rfl,.inr ⟨kvs,.inl hd4⟩,_,rfl,_,rfl,sz_2,fun tp htp=>⟨_,rfl,valV kvs (keyC (i,j)),?_,?_⟩⟩
     ·exact DGet.t (k:=keyC (i,j)) (same_new htp _ _ hd4) upd_same
     have s5:=same_new (o:=.tup [.int (i:Nat),.int (j:Nat)]) htp
     have fin:∀ k:Nat,k=dig kvs (i,j) c->∃ ys,upd H4 tp (.tup [.int (i:Nat),.int (j:Nat)]) z=some (.lst ys)/\ys.length < sizeLine/\∃ (u0 u1:Option V),[some (V.int (j:Nat)),some (V.str ⟨#[c]⟩),some (.ref d),some (.int (i:Nat))]=[u0,u1,some (.ref d),some (.int (i:Nat))]/\Same H2 (upd (upd H4 tp (.tup [.int (i:Nat),.int (j:Nat)])) z (.lst (ys++[V.str ⟨#[k]⟩])))/\upd (upd H4 tp (.tup [.int (i:Nat),.int (j:Nat)])) z (.lst (ys++[V.str ⟨#[k]⟩])) z=some (.lst (((putRow kvs i t.cps.toList).take (j + 1)).map fun c=>V.str ⟨#[c]⟩)):=fun k hk=>by
      refine ⟨_,s5 _ _ hz4,?_,_,_,rfl,fun b' o e'=>?_,?_⟩
      ·rw [List.length_map,List.length_take]
       unfold putRow
       rw [List.length_mapIdx]
       exact Nat.lt_of_le_of_lt (show _<=8 by omega) (by decide)
      ·rw [upd_ne (ne_of_none e' hz)]
       exact s5 _ _ (s34 _ _ e')
      ·rw [upd_same,take_snoc (putRow_at hc'),List.map_append,hk]
       rfl
     rcases hN.at (i,j) with e3 | ⟨v,hv,_,e3⟩
     ·rw [e3]
      exact ⟨_,_,rfl,.inl rfl,fin c (by unfold dig; rw [e3])⟩
     ·rw [e3]
      refine ⟨_,⟨#[48 + v]⟩,rfl,.inr ⟨(v:Nat),rfl,?_,(digit6 v hv).symm⟩,fin (48 + v) (by unfold dig; rw [e3]; rfl)⟩
      have:∀ v:Nat,v<=8->((v:Nat):Int).natAbs.log2 < 1920:=by decide +kernel
      exact this v hv
    ·rintro σ H3 ⟨u0,u1,rfl,s3,hz3⟩
     have ez:(putRow kvs i t.cps.toList).take t.cps.size=putRow kvs i t.cps.toList:=List.take_of_length_le (by unfold putRow; rw [List.length_mapIdx,Array.length_toList]; exact Nat.le_refl _)
     rw [ez] at hz3
     have hz3':H3 z=some (.lst (((putRow kvs i t.cps.toList).map fun c=>(⟨#[c]⟩:Str)).map V.str)):=by
      rw [hz3,List.map_map]
      rfl
     have pl:(putRow kvs i t.cps.toList).length<=8:=by
      unfold putRow
      rw [List.length_mapIdx]
      exact tl8
     refine ⟨_,rfl,.inl ⟨rfl,_,SqL.of (s3 _ _ hd2)⟩,rfl,_,rfl,"",z,_,rfl,rfl,SqL.of hz3',?_,d0,_,_,rfl,rfl,s3 _ _ hd2,?_,?_⟩
     ·rw [sum_ones,List.length_map]
      have:("":Str).length=0:=rfl
      rw [this]
      omega
     ·rw [List.length_map,List.length_take,putRs_len]
      exact Nat.lt_of_le_of_lt (show _<=8 by omega) (by decide)
     ·rw [putT_join]
      refine ⟨_,_,_,rfl,fun b' o e'=>?_,?_⟩
      ·rw [upd_ne (ne_of_none e' hd0)]
       exact s3 _ _ (s2 _ _ e')
      ·rw [upd_same,take_snoc (putRs_at e),List.map_append]
       rfl
  ·rintro σ H1 ⟨v3,v4,v5,rfl,s1,hd1⟩
   rw [List.length_map,<- putRs_len kvs rs,List.take_length] at hd1
   refine ⟨_,rfl,_,rfl,p,_,1,_,rfl,rfl,SqT.of (b.mono s1).tp,rfl,sz_2,fun q2 hq2=>?_⟩
   have s2:=same_new (o:=.tup [.ref d0,.int n]) hq2
   exact q q2 d0 _ (s1.free hq2) hd0 ⟨upd_same,s2 _ _ hd1⟩ (s1.trans s2)
theorem CelR.rdn {N:Addr->Prop}{H:Hp}{v:V}{c:Nat × Nat}(h:CelR H v c):Rdn N H v (cData c):=by
 obtain ⟨a,rfl,h⟩:=h
 exact .tup h (.cons (.int _) (.cons (.int _) .nil))
theorem Rdn.celR {N:Addr->Prop}{H:Hp}{v:V}{c:Nat × Nat}(h:Rdn N H v (cData c)):CelR H v c:=by
 cases h with
 | tup h t =>
  cases t with
  | cons a t =>
   cases a
   cases t with
   | cons b t =>
    cases b
    cases t
    exact ⟨_,rfl,h⟩
theorem RdnAll.cel {N:Addr->Prop}{H:Hp}:∀ {cs:List (Nat × Nat)} {vs:List V},RdnAll N H vs (cs.map cData)->Cel H vs cs
 | [],_,h=>by cases h; exact .nil
 | c :: r,_,h=>by
  cases h with
  | cons a t=>exact .cons (Rdn.celR a) (RdnAll.cel t)
theorem outs_filter {α:Type}(p:α->Bool)(g:α->PyData):∀ cs:List α,(cs.map fun x=>if p x=true then some (g x) else none).filterMap id=(cs.filter p).map g
 | []=>rfl
 | c :: r=>by
  rw [List.map_cons,List.filterMap_cons,List.filter_cons]
  by_cases h:p c=true
  ·rw [if_pos h,if_pos h]
   show g c :: _=g c :: _
   rw [outs_filter p g r]
  ·rw [if_neg h,if_neg h]
   exact outs_filter p g r
theorem map_at {α β:Type}{g:α->β}{cs:List α}{i:Nat}{c:α}{o:β}(h:cs[i]?=some c)(ho:(cs.map g)[i]?=some o):o=g c:=by
 rw [List.getElem?_map,h] at ho
 exact (Option.some.inj ho).symm
theorem all_short {p:Nat->Bool}{rs:List Str}(R:Rows bd.cps.toList rs):(Cells.allCs p 0 (codes rs)).length<=64:=by
 have h1:=Cells.allCs_length p 0 (codes rs) R.short
 have h2:=R.hi
 rw [codes_len] at h1
 omega
theorem aroundC_short {rs:List Str}(R:Rows bd.cps.toList rs)(c:Nat × Nat):(aroundC rs c).length<=64:=Nat.le_trans (List.length_filter_le _ _) (all_short R)
theorem cell_at_board {p:Nat->Bool}{rs:List Str}{c:Nat × Nat}(h:c ∈ Cells.allCs p 0 (codes rs)):∃ t k,rs[c.1]?=some t/\t.cps.toList[c.2]?=some k/\p k=true/\Cells.sgn (codes rs) c=k:=by
 obtain ⟨k0,j,u,k,ec,hk0,hj,hpc⟩:=Cells.mem_allCs h
 obtain ⟨t,ht,rfl⟩:=codes_inv hk0
 rw [Nat.zero_add] at ec
 subst ec
 exact ⟨t,k,ht,hj,hpc,Cells.sgn_at hk0 hj⟩
theorem in_cells (cs:List (Nat × Nat))(c:Nat × Nat):(cs.map cData).any (fun z=>PyData.eqv z (cData c))=cs.any fun z=>decide (z=c):=by
 rw [List.any_map]
 congr 1
 funext z
 exact cData_eqv z c
noncomputable def spNearB:Sp:=fun vs H Q _=>∃ (a b:Addr) (c d:Nat × Nat),vs=[.ref a,.ref b]/\H a=some (.tup [.int (c.1:Nat),.int (c.2:Nat)])/\H b=some (.tup [.int (d.1:Nat),.int (d.2:Nat)])/\Q (.bl (Cells.near c d)) H
theorem abs2 (i j:Nat):decide ((if ((i:Nat):Int) - ((j:Nat):Int) < 0 then -(((i:Nat):Int) - ((j:Nat):Int)) else ((i:Nat):Int) - ((j:Nat):Int)) < 2)=decide (i<=j + 1/\j<=i + 1):=by
 rw [decide_eq_decide]
 split <;> omega
theorem sc_law_near:FnScope ["_law_one","_law_other"] ["_law_one","_law_other"] (defScope s_law_near):=⟨rfl,rfl,rfl,by decide +kernel,rfl,by decide +kernel,by decide +kernel⟩
theorem ok_law_near (T:Txt mg)(D:DefAt K mg "_law_near" s_law_near ["_law_one","_law_other"] f fd):FnOk P w K mg base CX0 1 f fd ["_law_one","_law_other"] spNearB:=by
 refine D.F.ok sc_law_near (fun vs H Q E h=>?_) (fun cdv A outer s H vs Q E hr h=>?_)
 ·obtain ⟨a,b,c,d,rfl,_⟩:=h
  rfl
 ·obtain ⟨a,b,c,d,rfl,ha,hb,q⟩:=h
  refine ⟨_,(pss_one (ps_ret (pe_and (pe_cmpR (op_ne_deep hr.units) (pv 0) (pv 1) (nomark _)) (pe_and (pe_cmpR op_lt (pe_callB call_abs (by rfl) T.b_abs PyProof.Rows.boot_abs (pa_cons (pe_op op_sub (pe_ix ix_tup (pv 0) pe_int (fun _ _=>rfl)) (pe_ix ix_tup (pv 1) pe_int (fun _ _=>rfl))) pa_nil)) pe_int (nomark _)) (pe_one (pe_cmpR op_lt (pe_callB call_abs (by rfl) T.b_abs PyProof.Rows.boot_abs (pa_cons (pe_op op_sub (pe_ix ix_tup (pv 0) pe_int (fun _ _=>rfl)) (pe_ix ix_tup (pv 1) pe_int (fun _ _=>rfl))) pa_nil)) pe_int (nomark _))))))),?_⟩
  have nf:∀ x:Bool,(x=true ↔ Cells.near c d=true)->Cells.near c d=x:=fun x h=>Bool.eq_iff_iff.mpr h.symm
  have ni:=Cells.near_iff (x:=c) (y:=d)
  refine ⟨_,rfl,_,rfl,cData c,cData d,CelR.rdv ⟨a,rfl,ha⟩,CelR.rdv ⟨b,rfl,hb⟩,cData_cmp c d,?_⟩
  have e1:(if true=true then !PyData.eqv (cData c) (cData d) else PyData.eqv (cData c) (cData d))=!decide (c=d):=by
   show (!PyData.eqv _ _)=_
   rw [cData_eqv]
  rw [e1]
  refine ⟨_,rfl,?_⟩
  by_cases hcd:c=d
  ·rw [decide_eq_true hcd]
   refine iteF ?_
   have:Cells.near c d=false:=by
    rw [Bool.eq_false_iff,ne_eq,ni]
    exact fun h=>h.2.2 hcd
   rw [this] at q
   exact q
  ·rw [decide_eq_false hcd]
   refine iteT ?_
   refine ⟨_,rfl,a,_,0,_,rfl,rfl,SqT.of ha,rfl,_,rfl,b,_,0,_,rfl,rfl,SqT.of hb,rfl,_,_,rfl,rfl,_,rfl,_,_,rfl,rfl,?_⟩
   refine ⟨decide (c.1<=d.1 + 1/\d.1<=c.1 + 1),congrArg V.bl (abs2 c.1 d.1),?_⟩
   by_cases h1:c.1<=d.1 + 1/\d.1<=c.1 + 1
   ·rw [decide_eq_true h1]
    refine iteT ⟨_,rfl,a,_,1,_,rfl,rfl,SqT.of ha,rfl,_,rfl,b,_,1,_,rfl,rfl,SqT.of hb,rfl,_,_,rfl,rfl,_,rfl,_,_,rfl,rfl,?_⟩
    have:Cells.near c d=decide (c.2<=d.2 + 1/\d.2<=c.2 + 1):=by
     rw [Bool.eq_iff_iff,ni,decide_eq_true_eq]
     exact ⟨fun h=>h.2.1,fun h=>⟨h1,h,hcd⟩⟩
    show Q (V.bl (decide ((if ((c.2:Nat):Int) - ((d.2:Nat):Int) < 0 then -(((c.2:Nat):Int) - ((d.2:Nat):Int)) else ((c.2:Nat):Int) - ((d.2:Nat):Int)) < 2))) H
    rw [abs2,<- this]
    exact q
   ·rw [decide_eq_false h1]
    refine iteF ?_
    have:Cells.near c d=false:=by
     rw [Bool.eq_false_iff,ne_eq,ni]
     exact fun h=>h1 h.1
    rw [this] at q
    exact q
noncomputable def swC (c d k:Nat):Nat:=if k=c then d else k
theorem sw_free {c d:Nat}{l:List Nat}(h:c ∉ l):l.map (swC c d)=l:=by
 induction l with
 | nil=>rfl
 | cons a r ih =>
  rw [List.map_cons,ih fun z=>h (List.mem_cons_of_mem _ z)]
  unfold swC
  rw [if_neg fun z:a=c=>h (z ▸ List.mem_cons_self)]
theorem sw_join (c d:Nat)(ps:List Str)(h:∀ p ∈ ps,c ∉ p.cps.toList):(Str.join ⟨#[c]⟩ ps).cps.toList.map (swC c d)=(Str.join ⟨#[d]⟩ ps).cps.toList:=by
 induction ps with
 | nil=>rfl
 | cons p r ih =>
  cases r with
  | nil=>exact sw_free (h p List.mem_cons_self)
  | cons q r =>
   have ih:=ih fun a ha=>h a (List.mem_cons_of_mem _ ha)
   have e:∀ z:Str,(Str.join z (p :: q :: r)).cps.toList=p.cps.toList++z.cps.toList++(Str.join z (q :: r)).cps.toList:=fun z=>by
    have e:(Str.join z (p :: q :: r)).cps=p.cps++z.cps++(Str.join z (q :: r)).cps:=rfl
    rw [e,Array.toList_append,Array.toList_append]
   rw [e,e,List.map_append,List.map_append,ih,sw_free (h p List.mem_cons_self)]
   have e2:(⟨#[c]⟩:Str).cps.toList.map (swC c d)=(⟨#[d]⟩:Str).cps.toList:=by
    show [swC c d c]=[d]
    unfold swC
    rw [if_pos rfl]
   rw [e2]
theorem replace_map (x:Str)(c d:Nat):(PySem.Txt.replace x ⟨#[c]⟩ ⟨#[d]⟩).cps.toList=x.cps.toList.map (swC c d):=by
 rw [StrLaws.replace_one,<- sw_join c d _ (StrLaws.split_free x c),StrLaws.join_split]
noncomputable def hidC (k:Nat):Nat:=if k=35 then 35 else 63
noncomputable def hidT (t:Str):Str:=⟨(t.cps.toList.map hidC).toArray⟩
noncomputable def hidR (rs:List Str):List Str:=rs.map hidT
theorem dot_is:(".":Str)=⟨#[46]⟩:=by decide +kernel
theorem hid_codes:∀ k ∈ fdS.cps.toList,swC 111 63 (swC 46 63 k)=hidC k/\hidC k ∈ bs.cps.toList:=by decide +kernel
theorem hid_list (t:Str):(hidT t).cps.toList=t.cps.toList.map hidC:=rfl
theorem hid_is {n:Nat}{t:Str}(r:Row fdS.cps.toList n t):PySem.Txt.replace (PySem.Txt.replace t "." "?") "o" "?"=hidT t:=by
 apply str_ext
 rw [dot_is,stone_is,ask_is,replace_map,replace_map,hid_list,List.map_map]
 exact List.map_congr_left fun k hk=>(hid_codes k (r.mem k hk)).1
theorem hid_row {n:Nat}{t:Str}(r:Row fdS.cps.toList n t):Row bs.cps.toList n (hidT t):=by
 refine ⟨?_,fun c hc=>?_⟩
 ·show (t.cps.toList.map hidC).toArray.size=n
  rw [List.size_toArray,List.length_map,Array.length_toList]
  exact r.len
 ·rw [hid_list] at hc
  obtain ⟨k,hk,rfl⟩:=List.mem_map.mp hc
  exact (hid_codes k (r.mem k hk)).2
theorem hid_rows {rs:List Str}(R:Rows fdS.cps.toList rs):Rows bs.cps.toList (hidR rs):=by
 obtain ⟨r1,r8,n,n1,n8,h⟩:=R
 refine ⟨?_,?_,n,n1,n8,fun t ht=>?_⟩
 ·unfold hidR
  rw [List.length_map]
  exact r1
 ·unfold hidR
  rw [List.length_map]
  exact r8
 ·obtain ⟨u,hu,rfl⟩:=List.mem_map.mp ht
  exact hid_row (h u hu)
theorem fd_bd:∀ c ∈ fdS.cps.toList,c ∈ bd.cps.toList:=by decide +kernel
theorem bs_bd:∀ c ∈ bs.cps.toList,c ∈ bd.cps.toList:=by decide +kernel
noncomputable def stC (rs:List Str):List (Nat × Nat):=Cells.allCs (fun c=>pCell c && decide (c=111)) 0 (codes rs)
noncomputable def cntS (rs:List Str)(c:Nat × Nat):Nat:=((stC rs).filter fun x=>Cells.near x c).length
theorem near_le8 {l:List (Nat × Nat)}(h:l.Nodup)(c:Nat × Nat):(l.filter fun x=>Cells.near x c).length<=8:=by
 obtain ⟨i,j⟩:=c
 refine ((h.sublist List.filter_sublist).length_le_of_subset (l₂:=[(i - 1,j - 1),(i - 1,j),(i - 1,j + 1),(i,j - 1),(i,j + 1),(i + 1,j - 1),(i + 1,j),(i + 1,j + 1)]) fun x hx=>?_)
 obtain ⟨a,b⟩:=x
 obtain ⟨⟨h1,h2⟩,⟨h3,h4⟩,h5⟩:=(Cells.near_iff _ _).mp (List.mem_filter.mp hx).2
 simp only [Prod.mk.injEq] at h1 h2 h3 h4 h5
 simp only [List.mem_cons,Prod.mk.injEq,List.not_mem_nil,or_false]
 omega
theorem all_nodup (p:Nat->Bool)(gs:List (List Nat)):(Cells.allCs p 0 gs).Nodup:=(Cells.allCs_lex p 0 gs).imp fun {a b} h e=>by
 subst e
 rcases h with h | h <;> omega
theorem cntS_8 (rs:List Str)(c:Nat × Nat):cntS rs c<=8:=near_le8 (all_nodup _ _) c
theorem row_hid (i:Nat):∀ (j:Nat) (t:List Nat),Cells.rowCs pCell i j (t.map hidC)=Cells.rowCs pCell i j t
 | _,[]=>rfl
 | j,k :: r=>by
  have e:pCell (hidC k)=pCell k:=by
   unfold pCell hidC
   by_cases h:k=35
   ·rw [if_pos h,h]
   ·rw [if_neg h,decide_eq_false h]
    rfl
  simp only [List.map_cons,Cells.rowCs,e,row_hid i (j + 1) r]
theorem all_hid:∀ (i:Nat) (rs:List Str),Cells.allCs pCell i (codes (hidR rs))=Cells.allCs pCell i (codes rs)
 | _,[]=>rfl
 | i,t :: r=>by
  have e:codes (hidR (t :: r))=t.cps.toList.map hidC :: codes (hidR r):=rfl
  have e2:codes (t :: r)=t.cps.toList :: codes r:=rfl
  rw [e,e2]
  simp only [Cells.allCs,row_hid,all_hid (i + 1) r]
theorem st_of_cells (rs:List Str):(Cells.allCs pCell 0 (codes rs)).filter (fun x=>decide (x ∈ stC rs))=stC rs:=by
 unfold stC
 rw [<- Cells.all_filter (p:=pCell) (q:=fun k=>decide (k=111)) (codes rs)]
 refine List.filter_congr fun x hx=>?_
 rw [Bool.eq_iff_iff,decide_eq_true_eq,List.mem_filter]
 exact ⟨fun h=>h.2,fun h=>⟨hx,h⟩⟩
theorem cnt_around (rs:List Str)(c:Nat × Nat):((aroundC (hidR rs) c).filter fun x=>decide (x ∈ stC rs)).length=cntS rs c:=by
 unfold aroundC cntS
 rw [all_hid,List.filter_filter]
 conv=>rhs; rw [<- st_of_cells rs,List.filter_filter]
 congr 1
 refine List.filter_congr fun x _=>?_
 exact Bool.and_comm _ _
noncomputable def numK (rs:List Str)(cs:List (Nat × Nat)):KV1:=cs.foldl (fun a c=>putK a (keyC c) (V.int (cntS rs c:Nat))) []
theorem numK_snoc (rs:List Str)(cs:List (Nat × Nat))(c:Nat × Nat):numK rs (cs++[c])=putK (numK rs cs) (keyC c) (V.int (cntS rs c:Nat)):=by
 unfold numK
 rw [List.foldl_append]
 rfl
theorem nums_fold {cs cs':List (Nat × Nat)}(rs:List Str){N:Nat}{acc:KV1}(ha:Nums cs N acc)(h:∀ c ∈ cs',c ∈ cs):Nums cs (N + cs'.length) (cs'.foldl (fun a c=>putK a (keyC c) (V.int (cntS rs c:Nat))) acc):=by
 induction cs' generalizing N acc with
 | nil=>exact ha
 | cons c r ih =>
  have:=ih (ha.put (w:=V.int (cntS rs c:Nat)) ⟨c,h c List.mem_cons_self,cntS rs c,cntS_8 rs c,rfl,rfl⟩) fun x hx=>h x (List.mem_cons_of_mem _ hx)
  rw [List.length_cons,Nat.add_comm r.length 1,<- Nat.add_assoc]
  exact this
theorem nums_K (rs:List Str)(cs:List (Nat × Nat)):Nums cs cs.length (numK rs cs):=by
 have:=nums_fold rs (Nums.nil cs 0) (cs':=cs) fun _ h=>h
 rw [Nat.zero_add] at this
 exact this
theorem numK_len (rs:List Str)(cs:List (Nat × Nat)):(numK rs cs).length<=cs.length:=(nums_K rs cs).len
noncomputable def brdA (rs:List Str)(cs:List (Nat × Nat)):List Str:=putRs (numK rs cs) (hidR rs)
noncomputable def spBoardAt:Sp:=fun vs H Q _=>∃ (l c:Addr) (rs:List Str) (ws:List V) (cs:List (Nat × Nat)),vs=[.ref l,.ref c]/\H l=some (.lst (rs.map V.str))/\Rows fdS.cps.toList rs/\H c=some (.lst ws)/\Cel H ws cs/\cs.length<=64/\(∀ x ∈ cs,x.1 < 8/\x.2 < 8) /\
 ∀ (p l2:Addr) (H':Hp),H p=none->H l2=none->BoardAt H' p l2 (brdA rs cs) ((stC rs).length:Nat)->Same H H'->Q (.ref p) H'
theorem sc_board_at:FnScope ["field","cells","stones","hidden","numbers","cell"] ["field","cells"] (defScope s_board_at):=⟨rfl,rfl,rfl,by decide +kernel,rfl,by decide +kernel,by decide +kernel⟩
theorem ok_board_at (T:Txt mg)(Z:Prog K mg)(D:DefAt K mg "board_at" s_board_at ["field","cells"] f fd):FnOkT 336 P w K mg base CX0 4 f fd ["field","cells"] spBoardAt:=by
 obtain ⟨f_stones_of,fd_stones_of,D_stones_of⟩:=Z.stones_of
 obtain ⟨f_cells_with,fd_cells_with,D_cells_with⟩:=Z.cells_with
 obtain ⟨f_cells_of,fd_cells_of,D_cells_of⟩:=Z.cells_of
 obtain ⟨f_sign_at,fd_sign_at,D_sign_at⟩:=Z.sign_at
 obtain ⟨f_board_of,fd_board_of,D_board_of⟩:=Z.board_of
 obtain ⟨f_around,fd_around,D_around⟩:=Z.around
 obtain ⟨f_opened,fd_opened,D_opened⟩:=Z.opened
 refine D.F.okT sc_board_at (fun vs H Q E h=>?_) (fun cdv A outer s H vs Q E hr h=>?_)
 ·obtain ⟨l,c,rs,ws,cs,rfl,_⟩:=h
  rfl
 ·obtain ⟨l,c,rs,ws,cs,rfl,hl,R,hc,hw,c64,cin,q⟩:=h
  refine ⟨_,(psst_cons (PS.at_ (ps_set (i:=2) sc_board_at.nd rfl (Or.inr rfl) (pc0 (ok_stones_of T D_stones_of D_cells_with D_cells_of D_sign_at) hr D_stones_of (pa_cons (pv 0) pa_nil))))
   (psst_cons (pst_set (i:=3) sc_board_at.nd rfl (Or.inl rfl) (pcta (ok_board_of T Z D_board_of) hr D_board_of (pat_cons (pet_comp (N:=["text"]) (src:=[none]) (CompOk.plain rfl (by decide +kernel) (by decide +kernel) (by decide +kernel) rfl (by decide)) rfl (pi_list (pv 0)) (fun _ _ _ _ _=>(pg_name (i:=0) (by show List.Nodup (["text"]:List Str); decide +kernel) rfl (Or.inl rfl))) (fun _ _ _ _ _=>pifs_nil) (fun _ _ _ _ _=>(pet_rep T.v_STONE_SIGN.choose_spec.1 T.v_STONE_SIGN.choose_spec.2.1 T.v_STONE_SIGN.choose_spec.2.2 (pet_rep T.v_CLEAR_SIGN.choose_spec.1 T.v_CLEAR_SIGN.choose_spec.2.1 T.v_CLEAR_SIGN.choose_spec.2.2 (PE.at_ (pv 0)))))) (pat_cons (PE.at_ (pe_callB call_len_seq (by rfl) T.b_len PySem.boot_len (pa_cons (pv 2) pa_nil))) (PA.at_ pa_nil)))))
   (PSs.at_ (pss_cons (ps_set (i:=4) sc_board_at.nd rfl (Or.inl rfl) pe_dnewT)
   (pss_cons (ps_for PassesOwn.never rfl (pi_list (pv 1)) (pg_name (i:=5) sc_board_at.nd rfl (Or.inl rfl)) (pss_one (ps_dput (u1 hr.units) (pv 4) (pv 5) (pe_callB call_len_seq (by rfl) T.b_len PySem.boot_len (pa_cons (pe_comp (N:=["place","stones"]) (src:=[none,some 2]) (CompOk.free (O:=(defScope s_board_at).names) (XN:=["field","cells","stones","hidden","numbers","cell"]) rfl rfl ⟨_,rfl⟩ rfl rfl (by decide +kernel) (by decide +kernel) (by decide +kernel) rfl (by decide +kernel)) rfl (pi_list (pc0 (ok_around T D_around) hr D_around (pa_cons (pv 3) (pa_cons (pv 5) pa_nil)))) (fun _ _ _ _ _=>(pg_name (i:=0) (by show List.Nodup (["place","stones"]:List Str); decide +kernel) rfl (Or.inl rfl))) (fun _ _ _ _ _=>(pifs_one (pt_cmpR (op_in_deepK (K:=K) (by rfl) hr.units) (pv 0) (pv 1) (by rfl)))) (fun _ _ _ _ _=>(pv 0))) pa_nil)) rfl)))
   (pss_one (ps_ret (pc0 (ok_opened T D_opened) hr D_opened (pa_cons (pv 3) (pa_cons (pv 4) pa_nil)))))))))),?_⟩
  have Rb:Rows bd.cps.toList rs:=R.mono fd_bd
  refine ⟨_,rfl,l,rs,rfl,hl,Rb,fun d ws1 H1 hd hd1 hc1 s1=>?_⟩
  have hc1:Cel H1 ws1 (stC rs):=hc1
  have hl1:=s1 _ _ hl
  have wl1:=hc1.length
  have st64:(stC rs).length<=64:=all_short Rb
  obtain ⟨n,n1,n8,hrow⟩:=R.ex
  refine ⟨_,rfl,l,rfl,⟨_,SqL.of hl1⟩,fun y hy=>?_⟩
  refine comp_list (K:=K) (a:=l) (xs:=rs.map V.str) (fun i σ H'=>(∃ u0,σ=[u0])/\Same H1 H'/\H' y=some (.lst (((rs.take i).map hidT).map V.str))) ⟨⟨_,rfl⟩,same_new hy,upd_same⟩ (fun i σ H' _ ⟨_,s6,_⟩=>SqL.of (s6 _ _ hl1)) ?_ ?_
  ·rintro i x σ H' hx ⟨⟨u0,rfl⟩,s6,hy6⟩
   rw [List.getElem?_map] at hx
   obtain ⟨t,ht,rfl⟩:=Option.map_eq_some_iff.mp hx
   have r:=hrow t (List.mem_of_getElem? ht)
   have i8:i < rs.length:=(List.getElem?_eq_some_iff.mp ht).1
   have tl:t.length=n:=r.len
   have tl2:(PySem.Txt.replace t "." "?").length=n:=by
    rw [<- tl]
    have e:(PySem.Txt.replace t "." "?").cps.toList.length=t.cps.toList.length:=by
     rw [dot_is,ask_is,replace_map,List.length_map]
    exact e
   refine tYes_it ⟨_,rfl,t,rfl,by omega,_,rfl,by omega,?_⟩
   rw [hid_is r]
   refine ⟨_,hy6,Nat.lt_of_le_of_lt (show _<=8 from ?_) (by decide),⟨_,rfl⟩,fun b o e=>?_,?_⟩
   ·rw [List.length_map,List.length_map,List.length_take]
    have:=R.hi
    omega
   ·rw [upd_ne (ne_of_none e hy)]
    exact s6 _ _ e
   ·rw [upd_same,List.take_add_one,ht,List.map_append,List.map_append]
    rfl
  ·rintro σ H6 ⟨_,s6,hy6⟩
   rw [List.length_map,List.take_length] at hy6
   refine ⟨_,rfl,d,_,rfl,.inl (SqL.of (s6 _ _ hd1)),y,hidR rs,_,rfl,hy6,hid_rows R,by omega,by omega,fun lb p hlb hp hpl=>?_⟩
   have z1:=same_new (o:=.lst ((hidR rs).map V.str)) hlb
   have hp':upd H6 lb (.lst ((hidR rs).map V.str)) p=none:=by
    rw [upd_ne hpl]
    exact hp
   have z2:=same_new (o:=.tup [.ref lb,.int (ws1.length:Nat)]) hp'
   have BH:BoardAt (upd (upd H6 lb (.lst ((hidR rs).map V.str))) p (.tup [.ref lb,.int (ws1.length:Nat)])) p lb (hidR rs) (ws1.length:Nat):=⟨upd_same,z2 _ _ upd_same⟩
   have s68:=z1.trans z2
   generalize upd (upd H6 lb (.lst ((hidR rs).map V.str))) p (.tup [.ref lb,.int (ws1.length:Nat)])=H8 at *
   have s18:=s6.trans s68
   have s08:=s1.trans s18
   intro dn hdn
   have z9:=same_new (o:=.dT []) hdn
   have Rh:Rows bd.cps.toList (hidR rs):=(hid_rows R).mono bs_bd
   refine ⟨_,rfl,c,rfl,⟨_,SqL.of (z9 _ _ (s08 _ _ hc))⟩,?_⟩
   refine for_list (K:=K) (a:=c) (xs:=ws) (fun i σ H'=>∃ v,σ=[some (.ref l),some (.ref c),some (.ref d),some (.ref p),some (.ref dn),v]/\Same H8 H'/\H' dn=some (.dT (numK rs (cs.take i)))) ⟨_,rfl,z9,upd_same⟩ (fun i σ H' _ ⟨_,_,s10,_⟩=>SqL.of (s10 _ _ (s08 _ _ hc))) ?_ ?_
   ·rintro i x σ H10 hx ⟨v,rfl,s10,hdn10⟩
    obtain ⟨k,hk,ca,rfl,hca⟩:=Cel.get (hw.mono (s08.trans s10)) hx
    obtain ⟨k1,k2⟩:=cin k (List.mem_of_getElem? hk)
    refine ⟨_,rfl,_,rfl,p,lb,ca,hidR rs,_,k.1,k.2,rfl,BH.mono s10,Rh,hca,by omega,by omega,fun da wa H11 hda hda11 hca11 s11=>⟨da,rfl,⟨_,SqL.of hda11⟩,fun z hz=>?_⟩⟩
    have wl:=hca11.length
    have a64:=aroundC_short Rh k
    have s111:=s18.trans (s10.trans s11)
    refine comp_data (K:=K) (a:=da) (xs:=wa) (fun a=>a ≠ z) ((aroundC (hidR rs) k).map fun x=>if decide (x ∈ stC rs)=true then some (cData x) else none) (fun σ=>∃ u0,σ=[u0,some (.ref d)]) hz (fun _ h=>h) ⟨_,rfl⟩ (by rw [List.length_map]; exact wl.symm) (by rw [wl]; exact Nat.le_trans a64 (by decide)) (SqL.of hda11) ?_ ?_
    ·rintro m x o σ H12 hx ho s12 _ ⟨u0,rfl⟩ Y Z yes no
     obtain ⟨y2,hy2,r2⟩:=Cel.get (hca11.mono s12) hx
     have eo:=map_at hy2 ho
     have hd12:=(s111.trans s12) _ _ hd1
     refine ⟨_,rfl,_,rfl,cData y2,(stC rs).map cData,CelR.rdv r2,.lst (SqL.of hd12) (gRdv (hc1.mono (s111.trans s12))),rfl,g_lays _,(by show 1<=60; decide),_,rfl,?_⟩
     have ei:(if false=true then !((stC rs).map cData).any (fun z=>PyData.eqv z (cData y2)) else ((stC rs).map cData).any fun z=>PyData.eqv z (cData y2))=decide (y2 ∈ stC rs):=by
      rw [if_neg Bool.false_ne_true,in_cells,Bool.eq_iff_iff,List.any_eq_true,decide_eq_true_eq]
      constructor
      ·rintro ⟨u,hu,e⟩
       rw [<- of_decide_eq_true e]
       exact hu
      ·exact fun h=>⟨y2,h,decide_eq_true rfl⟩
     by_cases hh:decide (y2 ∈ stC rs)=true
     ·rw [if_pos hh] at eo
      exact iteP (ei.trans hh) ⟨_,rfl,yes _ _ _ _ eo ⟨_,rfl⟩ (Same.refl _) (CelR.rdn r2)⟩
     ·rw [if_neg hh] at eo
      exact iteN (ei.trans (Bool.eq_false_iff.mpr hh)) (no _ _ eo ⟨_,rfl⟩ (Same.refl _))
    ·rintro ys H12 s12 hz12 hr12
     rw [outs_filter] at hr12
     have yl:=(RdnAll.cel hr12).length
     rw [cnt_around] at yl
     have s1012:=s11.trans s12
     have hk10:=numK_len rs (cs.take i)
     rw [List.length_take] at hk10
     refine ⟨z,_,rfl,.inl (SqL.of hz12),_,rfl,_,rfl,dn,_,rfl,DPut.t (k:=keyC k) (s1012 _ _ hdn10) (s1012 _ _ hca) (Nat.lt_of_le_of_lt (show _<=64 by omega) (by decide)),?_⟩
     refine ⟨_,rfl,fun b o e=>?_,?_⟩
     ·rw [upd_ne (ne_of_none e hdn)]
      exact s1012 _ _ (s10 _ _ e)
     ·rw [upd_same,List.take_add_one,hk,yl]
      exact congrArg (fun z=>some (HO.dT z)) (numK_snoc rs _ k).symm
   ·rintro σ H10 ⟨v,rfl,s10,hdn10⟩
    rw [hw.length,List.take_length] at hdn10
    refine ⟨_,rfl,_,rfl,p,lb,dn,hidR rs,_,cs,_,_,rfl,BH.mono s10,Rh,hdn10,nums_K rs cs,fun q2 l2 H11 hq2 hl2 B11 s11=>?_⟩
    rw [wl1] at B11
    have s010:=s08.trans s10
    exact q q2 l2 H11 (s010.free hq2) (s010.free hl2) B11 (s010.trans s11)
theorem pIn_stone:∀ k ∈ bd.cps.toList,pIn "o" k=(pCell k && decide (k=111)):=by decide +kernel
theorem pIn_dot:∀ k ∈ bd.cps.toList,pIn "." k=(pCell k && decide (k=46)):=by decide +kernel
theorem rowCs_on {p q:Nat->Bool}(i:Nat):∀ (j:Nat) (t:List Nat),(∀ k ∈ t,p k=q k)->Cells.rowCs p i j t=Cells.rowCs q i j t
 | _,[],_=>rfl
 | j,c :: r,h=>by
  simp only [Cells.rowCs,h c List.mem_cons_self,rowCs_on i (j + 1) r fun k hk=>h k (List.mem_cons_of_mem _ hk)]
theorem allCs_on {p q:Nat->Bool}:∀ (i:Nat) (gs:List (List Nat)),(∀ t ∈ gs,∀ k ∈ t,p k=q k)->Cells.allCs p i gs=Cells.allCs q i gs
 | _,[],_=>rfl
 | i,t :: r,h=>by
  simp only [Cells.allCs,rowCs_on i 0 t (h t List.mem_cons_self),allCs_on (i + 1) r fun u hu=>h u (List.mem_cons_of_mem _ hu)]
theorem codes_in {rs:List Str}{sg:List Nat}(R:Rows sg rs){t:List Nat}(ht:t ∈ codes rs){k:Nat}(hk:k ∈ t):k ∈ sg:=by
 obtain ⟨u,hu,rfl⟩:=List.mem_map.mp ht
 obtain ⟨n,_,_,h⟩:=R.ex
 exact (h u hu).mem k hk
theorem cells_stone {rs:List Str}(R:Rows bd.cps.toList rs):Cells.allCs (pIn "o") 0 (codes rs)=stC rs:=allCs_on 0 _ fun t ht k hk=>pIn_stone k (codes_in R ht hk)
noncomputable def dotC (rs:List Str):List (Nat × Nat):=Cells.allCs (fun c=>pCell c && decide (c=46)) 0 (codes rs)
theorem cells_dot {rs:List Str}(R:Rows bd.cps.toList rs):Cells.allCs (pIn ".") 0 (codes rs)=dotC rs:=allCs_on 0 _ fun t ht k hk=>pIn_dot k (codes_in R ht hk)
theorem val_fold (rs:List Str)(c:Nat × Nat)(cs:List (Nat × Nat))(acc:KV1):valV (cs.foldl (fun a c=>putK a (keyC c) (V.int (cntS rs c:Nat))) acc) (keyC c)=if c ∈ cs then some (V.int (cntS rs c:Nat)) else valV acc (keyC c):=by
 induction cs generalizing acc with
 | nil=>rw [if_neg (fun h=>nomatch h)]; rfl
 | cons d r ih =>
  rw [List.foldl_cons,ih]
  by_cases h:c ∈ r
  ·rw [if_pos h,if_pos (List.mem_cons_of_mem _ h)]
  ·rw [if_neg h,valV_put]
   by_cases e:c=d
   ·subst e
    rw [if_pos rfl,if_pos List.mem_cons_self]
   ·rw [if_neg fun z=>e (keyC_inj z),if_neg fun z=>(List.mem_cons.mp z).elim e h]
theorem val_K (rs:List Str)(cs:List (Nat × Nat))(c:Nat × Nat):valV (numK rs cs) (keyC c)=if c ∈ cs then some (V.int (cntS rs c:Nat)) else none:=val_fold rs c cs []
theorem dig_K (rs:List Str)(cs:List (Nat × Nat))(c:Nat × Nat)(k:Nat):dig (numK rs cs) c k=if c ∈ cs then 48 + cntS rs c else k:=by
 unfold dig
 rw [val_K]
 by_cases h:c ∈ cs
 ·rw [if_pos h,if_pos h]
  show 48 + ((cntS rs c:Nat):Int).toNat=_
  rw [Int.toNat_natCast]
 ·rw [if_neg h,if_neg h]
noncomputable def rowA (rs:List Str)(cs:List (Nat × Nat))(i:Nat)(t:Str):List Nat:=putRow (numK rs cs) i (t.cps.toList.map hidC)
theorem rowA_len (rs:List Str)(cs:List (Nat × Nat))(i:Nat)(t:Str):(rowA rs cs i t).length=t.cps.toList.length:=by
 unfold rowA putRow
 rw [List.length_mapIdx,List.length_map]
theorem rowA_at {rs:List Str}{cs:List (Nat × Nat)}{i j k:Nat}{t:Str}(h:t.cps.toList[j]?=some k):(rowA rs cs i t)[j]?=some (if (i,j) ∈ cs then 48 + cntS rs (i,j) else hidC k):=by
 rw [<- dig_K]
 exact putRow_at (by rw [List.getElem?_map,h]; rfl)
theorem brdA_len (rs:List Str)(cs:List (Nat × Nat)):(brdA rs cs).length=rs.length:=by
 unfold brdA hidR
 rw [putRs_len,List.length_map]
theorem brdA_at {rs:List Str}{cs:List (Nat × Nat)}{i:Nat}{t:Str}(h:rs[i]?=some t):(brdA rs cs)[i]?=some ⟨(rowA rs cs i t).toArray⟩:=by
 have h2:(hidR rs)[i]?=some (hidT t):=by
  unfold hidR
  rw [List.getElem?_map,h]
  rfl
 exact putRs_at h2
theorem in_cs (cs:List (Nat × Nat))(c:Nat × Nat):(cs.map cData).any (fun z=>PyData.eqv z (cData c))=decide (c ∈ cs):=by
 rw [in_cells,Bool.eq_iff_iff,List.any_eq_true,decide_eq_true_eq]
 constructor
 ·rintro ⟨u,hu,e⟩
  rw [<- of_decide_eq_true e]
  exact hu
 ·exact fun h=>⟨c,h,decide_eq_true rfl⟩
theorem in_csF (cs:List (Nat × Nat))(c:Nat × Nat):(if false=true then !(cs.map cData).any (fun z=>PyData.eqv z (cData c)) else (cs.map cData).any fun z=>PyData.eqv z (cData c))=decide (c ∈ cs):=in_cs cs c
theorem log8:∀ v:Nat,v<=8->((v:Nat):Int).natAbs.log2 < 1920:=by decide +kernel
theorem hash_eq (k:Nat):decide (V.str ⟨#[k]⟩=V.str "#")=decide (k=35):=by
 rw [hash_is]
 simp only [one_eq]
noncomputable def spDue:Sp:=fun vs H Q _=>∃ (l c:Addr) (rs:List Str) (ws:List V) (cs:List (Nat × Nat)),vs=[.ref l,.ref c]/\H l=some (.lst (rs.map V.str))/\Rows fdS.cps.toList rs/\H c=some (.lst ws)/\Cel H ws cs /\
 ∀ (p l2:Addr) (H':Hp),H p=none->H l2=none->BoardAt H' p l2 (brdA rs cs) ((stC rs).length:Nat)->Same H H'->Q (.ref p) H'
theorem sc_law_due:FnScope ["_law_rows","_law_cells_here","_law_stones","_law_found","_law_row","_law_text","_law_column","_law_sign"] ["_law_rows","_law_cells_here"] (defScope s_law_due):=⟨rfl,rfl,rfl,by decide +kernel,rfl,by decide +kernel,by decide +kernel⟩
theorem ok_law_due (T:Txt mg)(Z:Prog K mg)(D:DefAt K mg "_law_due" s_law_due ["_law_rows","_law_cells_here"] f fd):FnOk P w K mg base CX0 2 f fd ["_law_rows","_law_cells_here"] spDue:=by
 obtain ⟨f_law_cells,fd_law_cells,D_law_cells⟩:=Z.law_cells
 obtain ⟨f_law_near,fd_law_near,D_law_near⟩:=Z.law_near
 refine D.F.ok sc_law_due (fun vs H Q E h=>?_) (fun cdv A outer s H vs Q E hr h=>?_)
 ·obtain ⟨l,c,rs,ws,cs,rfl,_⟩:=h
  rfl
 ·obtain ⟨l,c,rs,ws,cs,rfl,hl,R,hc,hw,q⟩:=h
  have Rb:Rows bd.cps.toList rs:=R.mono fd_bd
  obtain ⟨n,n1,n8,hrow⟩:=R.ex
  have rlo:=R.lo
  have rhi:=R.hi
  obtain ⟨t0,ht0⟩:∃ t0,rs[0]?=some t0:=⟨_,List.getElem?_eq_getElem (by omega)⟩
  have e0:t0.length=n:=(hrow t0 (List.mem_of_getElem? ht0)).len
  have hat:∀ {i:Nat} {t:Str},rs[i]?=some t->(rs.map V.str)[i]?=some (V.str t):=fun h=>by rw [List.getElem?_map,h]; rfl
  have rl:(rs.map V.str).length=rs.length:=List.length_map _
  refine ⟨_,(pss_cons (ps_set (i:=2) sc_law_due.nd rfl (Or.inl rfl) (pc0 (ok_law_cells T D_law_cells) hr D_law_cells (pa_cons (pv 0) (pa_cons pe_str pa_nil))))
   (pss_cons (ps_set (i:=3) sc_law_due.nd rfl (Or.inl rfl) (pe_lst pa_nil))
   (pss_cons (ps_for PassesOwn.never rfl (pi_range1 (by rfl) T.b_range (pa_cons (pe_callB call_len_seq (by rfl) T.b_len PySem.boot_len (pa_cons (pv 0) pa_nil)) pa_nil)) (pg_name (i:=4) sc_law_due.nd rfl (Or.inr rfl)) (pss_cons (ps_set (i:=5) sc_law_due.nd rfl (Or.inl rfl) pe_str)
   (pss_cons (ps_for PassesOwn.never rfl (pi_range1 (by rfl) T.b_range (pa_cons (pe_callB call_len_str (by rfl) T.b_len PySem.boot_len (pa_cons (pe_ix ix_list (pv 0) pe_int (fun _ _=>rfl)) pa_nil)) pa_nil)) (pg_name (i:=6) sc_law_due.nd rfl (Or.inr rfl)) (pss_cons (ps_set (i:=7) sc_law_due.nd rfl (Or.inl rfl) pe_str)
   (pss_mid (ps_if (pt_cmpR op_eq (pe_ix ix_str (pe_ix ix_list (pv 0) (pv 4) (fun _ _=>rfl)) (pv 6) (fun _ _=>rfl)) pe_str (nomark _)) (pss_one (ps_set (i:=7) sc_law_due.nd rfl (Or.inl rfl) pe_str)) pss_nil)
   (pss_mid (ps_if (pt_cmpR (op_in_deep hr.units) (pe_tup (pa_cons (pv 4) (pa_cons (pv 6) pa_nil))) (pv 1) (by rfl)) (pss_one (ps_set (i:=7) sc_law_due.nd rfl (Or.inl rfl) (pe_callTy call_str_int (by rfl) T.b_str PyProof.Rows.boot_str (pa_cons (pe_callB call_len_seq (by rfl) T.b_len PySem.boot_len (pa_cons (pe_comp (N:=["_law_one","_law_row","_law_column"]) (src:=[none,some 4,some 6]) (CompOk.free (O:=(defScope s_law_due).names) (XN:=["_law_rows","_law_cells_here","_law_stones","_law_found","_law_row","_law_text","_law_column","_law_sign"]) rfl rfl ⟨_,rfl⟩ rfl rfl (by decide +kernel) (by decide +kernel) (by decide +kernel) rfl (by decide +kernel)) rfl (pi_list (pv 2)) (fun _ _ _ _ _=>(pg_name (i:=0) (by show List.Nodup (["_law_one","_law_row","_law_column"]:List Str); decide +kernel) rfl (Or.inl rfl))) (fun _ _ _ _ _=>(pifs_one (pt_truthK (K:=K) (by rfl) (pc0 (ok_law_near T D_law_near) hr D_law_near (pa_cons (pv 0) (pa_cons (pe_tup (pa_cons (pv 1) (pa_cons (pv 2) pa_nil))) pa_nil))) (fun _=>rfl)))) (fun _ _ _ _ _=>(pv 0))) pa_nil)) pa_nil)))) pss_nil)
   (pss_one (ps_set (i:=5) sc_law_due.nd rfl (Or.inl rfl) (pe_op op_add_str (pv 5) (pv 7))))))))
   (pss_one (ps_expr (pe_bm PySem.F.plainAttrs_list PySem.F.slot_list_append PySem.F.type_list_append mt_append (pv 3) (pa_cons (pv 5) pa_nil)))))))
   (pss_one (ps_ret (pe_tup (pa_cons (pv 3) (pa_cons (pe_callB call_len_seq (by rfl) T.b_len PySem.boot_len (pa_cons (pv 2) pa_nil)) pa_nil)))))))),?_⟩
  refine ⟨_,rfl,l,rs,_,_,rfl,hl,R,fun ds wd H0 hds hds0 hcd s00=>?_⟩
  rw [cells_stone Rb] at hcd
  have wdl:=hcd.length
  have st64:(stC rs).length<=64:=all_short Rb
  refine ⟨sz_0,fun d0 hd0=>?_⟩
  have z0:=same_new (o:=.lst []) hd0
  refine ⟨_,rfl,l,_,rfl,.inl (SqL.of (z0 _ _ (s00 _ _ hl))),_,rfl,by omega,by omega,?_⟩
  rw [Int.toNat_natCast,rl]
  refine for_range (lo:=0) (n:=rs.length) (fun i σ H'=>∃ (v3 v4 v5 v6:Option V),σ=[some (.ref l),some (.ref c),some (.ref ds),some (.ref d0),v3,v4,v5,v6]/\Same H0 H'/\H' d0=some (.lst (((brdA rs cs).take i).map V.str))) ⟨_,_,_,_,rfl,z0,upd_same⟩ ?_ ?_
  ·rintro i σ H1 hi ⟨v3,v4,v5,v6,rfl,s1,hd1⟩
   have s01:=s00.trans s1
   obtain ⟨t,ht⟩:∃ t,rs[i]?=some t:=⟨_,List.getElem?_eq_getElem hi⟩
   have tl:t.cps.toList.length=n:=by
    rw [Array.length_toList]
    exact (hrow t (List.mem_of_getElem? ht)).len
   have pl:(rowA rs cs i t).length=n:=(rowA_len rs cs i t).trans tl
   refine ⟨_,rfl,l,_,_,.str t0,rfl,rfl,SqL.of (s01 _ _ hl),atI_nat (hat ht0),t0,rfl,R.tlen ht0,_,rfl,?_,?_,?_⟩
   ·show -(2 ^ 62)<=((t0.length:Nat):Int)
    omega
   ·show ((t0.length:Nat):Int) < 2 ^ 62
    omega
   rw [Int.toNat_natCast,e0]
   refine for_range (lo:=0) (n:=n) (fun j σ H'=>∃ (v5 v6:Option V),σ=[some (.ref l),some (.ref c),some (.ref ds),some (.ref d0),some (.int (0 + (i:Int))),some (.str ⟨((rowA rs cs i t).take j).toArray⟩),v5,v6]/\Same H1 H') ⟨_,_,rfl,Same.refl _⟩ ?_ ?_
   ·rintro j σ H2 hj ⟨v5,v6,rfl,s2⟩
    obtain ⟨k,hk⟩:∃ k,t.cps.toList[j]?=some k:=⟨_,List.getElem?_eq_getElem (by omega)⟩
    have s02:=s01.trans s2
    refine ⟨fun σ' H'=>σ'=[some (.ref l),some (.ref c),some (.ref ds),some (.ref d0),some (.int (0 + (i:Int))),some (.str ⟨((rowA rs cs i t).take j).toArray⟩),some (.int (0 + (j:Int))),some (.str ⟨#[hidC k]⟩)]/\H'=H2,?_,?_⟩
    ·refine ⟨_,rfl,_,rfl,l,_,_,.str t,rfl,rfl,SqL.of (s02 _ _ hl),atI_lt (by omega) (by rw [show ((0:Int) + (i:Int)).toNat=i by omega]; exact hat ht),_,rfl,t,_,k,rfl,rfl,R.tlen ht,atI_lt (by omega) (by rw [show ((0:Int) + (j:Int)).toNat=j by omega]; exact hk),rfl,_,rfl,?_⟩
     unfold hidC
     by_cases h35:k=35
     ·rw [if_pos h35]
      refine iteP ((hash_eq k).trans (decide_eq_true h35)) ⟨?_,rfl⟩
      rw [<- hash_is]
      rfl
     ·rw [if_neg h35]
      refine iteN ((hash_eq k).trans (decide_eq_false h35)) ⟨?_,rfl⟩
      rw [<- ask_is]
      rfl
    rintro σ' H' ⟨rfl,rfl⟩
    refine ⟨fun σ' H3=>σ'=[some (.ref l),some (.ref c),some (.ref ds),some (.ref d0),some (.int (0 + (i:Int))),some (.str ⟨((rowA rs cs i t).take j).toArray⟩),some (.int (0 + (j:Int))),some (.str ⟨#[if (i,j) ∈ cs then 48 + cntS rs (i,j) else hidC k]⟩)]/\Same H' H3,?_,?_⟩
    ·refine ⟨_,rfl,_,rfl,sz_2,fun tp htp=>?_⟩
     have z3:=same_new (o:=.tup [.int (0 + (i:Int)),.int (0 + (j:Int))]) htp
     have ct:CelR (upd H' tp (.tup [.int (0 + (i:Int)),.int (0 + (j:Int))])) (.ref tp) (i,j):=⟨tp,rfl,by rw [upd_same,Int.zero_add,Int.zero_add]⟩
     have s03:=s02.trans z3
     generalize upd H' tp (.tup [.int (0 + (i:Int)),.int (0 + (j:Int))])=H3 at *
     refine ⟨_,rfl,cData (i,j),cs.map cData,CelR.rdv ct,.lst (SqL.of (s03 _ _ hc)) (gRdv (hw.mono s03)),rfl,g_lays _,(by show 1<=60; decide),_,rfl,?_⟩
     by_cases hin:(i,j) ∈ cs
     ·rw [if_pos hin]
      refine iteP ((in_csF cs (i,j)).trans (decide_eq_true hin)) ?_
      have s13:=(s1.trans s2).trans z3
      refine ⟨_,rfl,ds,rfl,⟨_,SqL.of (s13 _ _ hds0)⟩,fun z hz=>?_⟩
      refine comp_data (K:=K) (a:=ds) (xs:=wd) (fun a=>a ≠ z) ((stC rs).map fun x=>if Cells.near x (i,j)=true then some (cData x) else none) (fun σ=>∃ u0,σ=[u0,some (.int (0 + (i:Int))),some (.int (0 + (j:Int)))]) hz (fun _ h=>h) ⟨_,rfl⟩ (by rw [List.length_map]; exact wdl.symm) (by rw [wdl]; exact Nat.le_trans st64 (by decide)) (SqL.of (s13 _ _ hds0)) ?_ ?_
      ·rintro m x o σ H4 hx ho s4 _ ⟨u0,rfl⟩ Y Z' yes no
       obtain ⟨y,hy,ya,rfl,hya⟩:=Cel.get (hcd.mono (s13.trans s4)) hx
       have eo:=map_at hy ho
       refine ⟨_,rfl,_,rfl,_,rfl,sz_2,fun tq htq=>?_⟩
       have z5:=same_new (o:=.tup [.int (0 + (i:Int)),.int (0 + (j:Int))]) htq
       have ct2:upd H4 tq (.tup [.int (0 + (i:Int)),.int (0 + (j:Int))]) tq=some (.tup [.int ((i:Nat):Int),.int ((j:Nat):Int)]):=by rw [upd_same,Int.zero_add,Int.zero_add]
       refine ⟨ya,tq,y,(i,j),rfl,z5 _ _ hya,ct2,_,rfl,?_⟩
       by_cases hn:Cells.near y (i,j)=true
       ·rw [if_pos hn] at eo
        exact iteP hn ⟨_,rfl,yes _ _ _ _ eo ⟨_,rfl⟩ z5 (CelR.rdn ⟨ya,rfl,z5 _ _ hya⟩)⟩
       ·rw [if_neg hn] at eo
        exact iteN (Bool.eq_false_iff.mpr hn) (no _ _ eo ⟨_,rfl⟩ z5)
      ·rintro ys H4 s4 hz4 hr4
       rw [outs_filter] at hr4
       have yl:=(RdnAll.cel hr4).length
       have yl:ys.length=cntS rs (i,j):=yl
       refine ⟨z,_,rfl,.inl (SqL.of hz4),_,rfl,?_,?_⟩
       ·rw [yl]
        exact log8 _ (cntS_8 rs (i,j))
       ·rw [yl,digit6 _ (cntS_8 rs (i,j))]
        exact ⟨rfl,z3.trans s4⟩
     ·rw [if_neg hin]
      exact iteN ((in_csF cs (i,j)).trans (decide_eq_false hin)) ⟨rfl,z3⟩
    ·rintro σ' H3 ⟨rfl,s3⟩
     refine ⟨_,rfl,_,rfl,_,_,rfl,rfl,?_,?_⟩
     ·have h1:(⟨((rowA rs cs i t).take j).toArray⟩:Str).length<=8:=by
       show ((rowA rs cs i t).take j).toArray.size<=8
       rw [List.size_toArray,List.length_take]
       omega
      exact Nat.le_trans (show _ + 1<=9 by omega) (by decide)
     ·refine ⟨some (.int (0 + (j:Int))),some (.str ⟨#[if (i,j) ∈ cs then 48 + cntS rs (i,j) else hidC k]⟩),?_,s2.trans s3⟩
      have e4:(⟨((rowA rs cs i t).take j).toArray⟩:Str)++⟨#[if (i,j) ∈ cs then 48 + cntS rs (i,j) else hidC k]⟩=⟨((rowA rs cs i t).take (j + 1)).toArray⟩:=by
       refine str_ext ?_
       rw [show ((⟨((rowA rs cs i t).take j).toArray⟩:Str)++(⟨#[if (i,j) ∈ cs then 48 + cntS rs (i,j) else hidC k]⟩:Str)).cps=((rowA rs cs i t).take j).toArray++#[if (i,j) ∈ cs then 48 + cntS rs (i,j) else hidC k] from rfl,Array.toList_append,take_snoc (rowA_at hk)]
      show [_,_,_,_,_,some (V.str ((⟨((rowA rs cs i t).take j).toArray⟩:Str)++⟨#[if (i,j) ∈ cs then 48 + cntS rs (i,j) else hidC k]⟩)),_,_]=_
      rw [e4]
   ·rintro σ H2 ⟨v5,v6,rfl,s2⟩
    rw [List.take_of_length_le (Nat.le_of_eq pl)]
    refine ⟨_,rfl,.inl ⟨rfl,_,SqL.of (s2 _ _ hd1)⟩,_,rfl,d0,_,_,rfl,rfl,s2 _ _ hd1,?_,?_⟩
    ·rw [List.length_map,List.length_take,brdA_len]
     exact Nat.lt_of_le_of_lt (show _<=8 by omega) (by decide)
    ·refine ⟨_,_,_,_,rfl,fun b' o e'=>?_,?_⟩
     ·rw [upd_ne (ne_of_none e' hd0)]
      exact s2 _ _ (s1 _ _ e')
     ·rw [upd_same,take_snoc (brdA_at ht),List.map_append]
      rfl
  ·rintro σ H1 ⟨v3,v4,v5,v6,rfl,s1,hd1⟩
   rw [<- brdA_len rs cs,List.take_length] at hd1
   refine ⟨_,rfl,_,rfl,ds,_,rfl,.inl (SqL.of (s1 _ _ hds0)),sz_2,fun p hp=>?_⟩
   rw [wdl]
   have z2:=same_new (o:=.tup [.ref d0,.int ((stC rs).length:Nat)]) hp
   have s01:=s00.trans s1
   exact q p d0 _ (s01.free hp) (s00.free hd0) ⟨upd_same,z2 _ _ hd1⟩ (s01.trans z2)
noncomputable def toI (c:Nat × Nat):Int × Int:=(((c.1:Nat):Int),((c.2:Nat):Int))
noncomputable def ofI (p:Int × Int):Nat × Nat:=(p.1.toNat,p.2.toNat)
theorem of_to (c:Nat × Nat):ofI (toI c)=c:=rfl
theorem lt2_lex {c d:Nat × Nat}:lt2 (toI c) (toI d)=true ↔ Cells.lex c d:=by
 obtain ⟨a,b⟩:=c
 obtain ⟨x,y⟩:=d
 unfold lt2 Cells.lex
 show (if ((a:Nat):Int)=((x:Nat):Int) then decide (((b:Nat):Int) < ((y:Nat):Int)) else decide (((a:Nat):Int) < ((x:Nat):Int)))=true ↔ a < x\/(a=x/\b < y)
 by_cases e:a=x
 ·rw [if_pos (by omega),decide_eq_true_eq]
  omega
 ·rw [if_neg (by omega),decide_eq_true_eq]
  omega
theorem Cel.tup2 {H:Hp}{vs:List V}{cs:List (Nat × Nat)}(hp:Cel H vs cs):Tup2 H vs (cs.map toI):=by
 induction hp with
 | nil=>exact .nil
 | cons q _ ih =>
  obtain ⟨a,e,h⟩:=q
  exact .cons ⟨a,e,h⟩ ih
theorem cel_of_tup2 {H:Hp}:∀ {cs:List (Nat × Nat)} {vs:List V},Tup2 H vs (cs.map toI)->Cel H vs cs
 | [],_,.nil=>.nil
 | _ :: _,_,.cons ⟨a,e,h⟩ t=>.cons ⟨a,e,h⟩ (cel_of_tup2 t)
theorem perm_to {ps:List (Int × Int)}{cs:List (Nat × Nat)}(h:ps.Perm (cs.map toI)):∃ ds:List (Nat × Nat),ps=ds.map toI/\ds.Perm cs:=by
 refine ⟨ps.map ofI,?_,?_⟩
 ·rw [List.map_map]
  refine (List.map_id ps).symm.trans (List.map_congr_left fun p hp=>?_)
  obtain ⟨c,_,rfl⟩:=List.mem_map.mp (h.mem_iff.mp hp)
  rfl
 ·have:=h.map ofI
  rw [List.map_map] at this
  have e:cs.map (ofI ∘ toI)=cs:=(List.map_congr_left fun c _=>of_to c).trans (List.map_id cs)
  rwa [e] at this
theorem lex_nodup {cs:List (Nat × Nat)}(h:cs.Pairwise Cells.lex):cs.Nodup:=h.imp fun {a b} z e=>by
 subst e
 unfold Cells.lex at z
 omega
theorem mem_rowCs_of {p:Nat->Bool}{i:Nat}:∀ {j m:Nat} {t:List Nat} {c:Nat},t[m]?=some c->p c=true->(i,j + m) ∈ Cells.rowCs p i j t
 | j,m,[],c,h,_=>by simp at h
 | j,0,d :: r,c,h,hp=>by
  have e:d=c:=by simpa using h
  subst e
  rw [Cells.rowCs,if_pos hp]
  exact List.mem_append_left _ List.mem_cons_self
 | j,m + 1,d :: r,c,h,hp=>by
  rw [Cells.rowCs]
  refine List.mem_append_right _ ?_
  have:=mem_rowCs_of (i:=i) (j:=j + 1) (m:=m) (t:=r) (c:=c) (by simpa using h) hp
  rwa [show j + 1 + m=j + (m + 1) by omega] at this
theorem mem_allCs_of {p:Nat->Bool}:∀ {i m:Nat} {rs:List (List Nat)} {t:List Nat} {j c:Nat},rs[m]?=some t->t[j]?=some c->p c=true->(i + m,j) ∈ Cells.allCs p i rs
 | i,m,[],t,j,c,h,_,_=>by simp at h
 | i,0,d :: r,t,j,c,h,hj,hp=>by
  have e:d=t:=by simpa using h
  subst e
  rw [Cells.allCs]
  refine List.mem_append_left _ ?_
  have:=mem_rowCs_of (i:=i) (j:=0) hj hp
  rwa [show 0 + j=j by omega] at this
 | i,m + 1,d :: r,t,j,c,h,hj,hp=>by
  rw [Cells.allCs]
  refine List.mem_append_right _ ?_
  have:=mem_allCs_of (i:=i + 1) (m:=m) (rs:=r) (t:=t) (j:=j) (c:=c) (by simpa using h) hj hp
  rwa [show i + 1 + m=i + (m + 1) by omega] at this
theorem lex_ext {a b:List (Nat × Nat)}(ha:a.Pairwise Cells.lex)(hb:b.Pairwise Cells.lex)(h:∀ x,x ∈ a ↔ x ∈ b):a=b :=
 ((List.perm_ext_iff_of_nodup (lex_nodup ha) (lex_nodup hb)).mpr h).eq_of_pairwise (fun x y _ _ h1 h2=>by
  unfold Cells.lex at h1 h2
  omega) ha hb
theorem brd_mem {p:Nat->Bool}{rs:List Str}{cs:List (Nat × Nat)}{i j:Nat}:(i,j) ∈ Cells.allCs p 0 (codes (brdA rs cs)) ↔ ∃ t k,rs[i]?=some t/\t.cps.toList[j]?=some k/\p (if (i,j) ∈ cs then 48 + cntS rs (i,j) else hidC k)=true:=by
 constructor
 ·intro h
  obtain ⟨u,c,h1,h2,h3,_⟩:=cell_at_board h
  have hi:i < rs.length:=by
   rw [<- brdA_len rs cs]
   exact (List.getElem?_eq_some_iff.mp h1).1
  obtain ⟨t,ht⟩:∃ t,rs[i]?=some t:=⟨_,List.getElem?_eq_getElem hi⟩
  have h1:(brdA rs cs)[i]?=some u:=h1
  have h2:u.cps.toList[j]?=some c:=h2
  rw [brdA_at ht] at h1
  cases h1
  have h2:(rowA rs cs i t)[j]?=some c:=h2
  have hj:j < t.cps.toList.length:=by
   rw [<- rowA_len rs cs i t]
   exact (List.getElem?_eq_some_iff.mp h2).1
  obtain ⟨k,hk⟩:∃ k,t.cps.toList[j]?=some k:=⟨_,List.getElem?_eq_getElem hj⟩
  rw [rowA_at hk] at h2
  cases h2
  exact ⟨t,k,ht,hk,h3⟩
 ·rintro ⟨t,k,ht,hk,hp⟩
  have:=mem_allCs_of (i:=0) (codes_get (brdA_at (cs:=cs) ht)) (rowA_at (rs:=rs) (cs:=cs) (i:=i) hk) hp
  rwa [Nat.zero_add] at this
theorem rs_mem {p:Nat->Bool}{rs:List Str}{i j:Nat}:(i,j) ∈ Cells.allCs p 0 (codes rs) ↔ ∃ t k,rs[i]?=some t/\t.cps.toList[j]?=some k/\p k=true:=by
 constructor
 ·intro h
  obtain ⟨u,c,h1,h2,h3,_⟩:=cell_at_board h
  exact ⟨u,c,h1,h2,h3⟩
 ·rintro ⟨t,k,ht,hk,hp⟩
  have:=mem_allCs_of (i:=0) (codes_get ht) hk hp
  rwa [Nat.zero_add] at this
theorem open48:∀ v:Nat,v<=8->pOpen (48 + v)=true/\pCell (48 + v)=true:=by decide +kernel
theorem hid_open (k:Nat):pOpen (hidC k)=false:=by
 unfold hidC
 by_cases h:k=35
 ·rw [if_pos h]
  decide
 ·rw [if_neg h]
  decide
theorem hid_cell (k:Nat):pCell (hidC k)=pCell k:=by
 unfold pCell hidC
 by_cases h:k=35
 ·rw [if_pos h,h]
 ·rw [if_neg h,decide_eq_false h]
  rfl
section
variable {rs:List Str}{cs:List (Nat × Nat)}(hsub:∀ x ∈ cs,x ∈ dotC rs)
include hsub
theorem brd_open (x:Nat × Nat):x ∈ Cells.allCs pOpen 0 (codes (brdA rs cs)) ↔ x ∈ cs:=by
 obtain ⟨i,j⟩:=x
 rw [brd_mem]
 constructor
 ·rintro ⟨t,k,_,_,h⟩
  by_cases e:(i,j) ∈ cs
  ·exact e
  ·rw [if_neg e,hid_open] at h
   cases h
 ·intro h
  obtain ⟨t,k,h1,h2,_⟩:=rs_mem.mp (hsub _ h)
  exact ⟨t,k,h1,h2,by rw [if_pos h]; exact (open48 _ (cntS_8 rs (i,j))).1⟩
theorem brd_cells:Cells.allCs pCell 0 (codes (brdA rs cs))=Cells.allCs pCell 0 (codes rs):=by
 refine lex_ext (Cells.allCs_lex _ _ _) (Cells.allCs_lex _ _ _) fun x=>?_
 obtain ⟨i,j⟩:=x
 rw [brd_mem,rs_mem]
 constructor
 ·rintro ⟨t,k,h1,h2,h⟩
  by_cases e:(i,j) ∈ cs
  ·obtain ⟨t',k',g1,g2,g3⟩:=rs_mem.mp (hsub _ e)
   rw [h1] at g1
   cases g1
   rw [h2] at g2
   cases g2
   exact ⟨t,k,h1,h2,(Bool.and_eq_true_iff.mp g3).1⟩
  ·rw [if_neg e,hid_cell] at h
   exact ⟨t,k,h1,h2,h⟩
 ·rintro ⟨t,k,h1,h2,h⟩
  refine ⟨t,k,h1,h2,?_⟩
  by_cases e:(i,j) ∈ cs
  ·rw [if_pos e]
   exact (open48 _ (cntS_8 rs (i,j))).2
  ·rw [if_neg e,hid_cell]
   exact h
theorem brd_shut {x:Nat × Nat}(h:x ∈ stC rs):x ∈ Cells.allCs pShut 0 (codes (brdA rs cs)):=by
 obtain ⟨i,j⟩:=x
 obtain ⟨t,k,h1,h2,h3⟩:=rs_mem.mp h
 have e1:k=111:=of_decide_eq_true (Bool.and_eq_true_iff.mp h3).2
 refine brd_mem.mpr ⟨t,k,h1,h2,?_⟩
 have ne:¬ (i,j) ∈ cs:=fun e=>by
  obtain ⟨t',k',g1,g2,g3⟩:=rs_mem.mp (hsub _ e)
  rw [h1] at g1
  cases g1
  rw [h2] at g2
  cases g2
  have e2:k=46:=of_decide_eq_true (Bool.and_eq_true_iff.mp g3).2
  omega
 rw [if_neg ne,e1]
 decide
theorem brd_around (c:Nat × Nat):((aroundC (brdA rs cs) c).filter fun x=>decide (x ∈ stC rs)).length=cntS rs c:=by
 rw [<- cnt_around]
 unfold aroundC
 rw [brd_cells hsub,all_hid]
theorem brd_sign {c:Nat × Nat}(h:c ∈ cs):∃ t,(brdA rs cs)[c.1]?=some t/\t.cps.toList[c.2]?=some (48 + cntS rs c):=by
 obtain ⟨i,j⟩:=c
 obtain ⟨t,k,h1,h2,_⟩:=rs_mem.mp (hsub _ h)
 refine ⟨_,brdA_at h1,?_⟩
 have:=rowA_at (rs:=rs) (cs:=cs) (i:=i) h2
 rw [if_pos h] at this
 exact this
end
theorem brd_rows {rs:List Str}{cs:List (Nat × Nat)}(R:Rows fdS.cps.toList rs):Rows bd.cps.toList (brdA rs cs):=Rows.put (nums_K rs cs) ((hid_rows R).mono bs_bd)
theorem sorted_is {ps:List (Int × Int)}{cs ds:List (Nat × Nat)}(hp:ps.Perm (cs.map toI))(hu:ps.Pairwise fun p q=>lt2 q p=false)(hd:ds.Pairwise Cells.lex)(hm:∀ x,x ∈ ds ↔ x ∈ cs)(nd:cs.Nodup):ps=ds.map toI:=by
 obtain ⟨es,rfl,he⟩:=perm_to hp
 have ne:es.Nodup:=he.nodup_iff.mpr nd
 have ue:es.Pairwise Cells.lex:=by
  rw [List.pairwise_map] at hu
  refine (hu.and ne).imp fun {a b} ⟨h1,h2⟩=>?_
  have h3:¬ Cells.lex b a:=fun z=>by rw [lt2_lex.mpr z] at h1; cases h1
  obtain ⟨a1,a2⟩:=a
  obtain ⟨b1,b2⟩:=b
  unfold Cells.lex at h3 ⊢
  simp only [ne_eq,Prod.mk.injEq] at h2
  omega
 rw [lex_ext ue hd fun x=>by rw [he.mem_iff,hm]]
theorem sg_fd:Sg fdS:=by
 unfold Sg
 decide +kernel
noncomputable def spFieldOf:Sp:=fun vs H Q _=>∃ (a:Addr) (rs:List Str),vs=[.ref a]/\H a=some (.lst (rs.map V.str))/\Rows fdS.cps.toList rs/\∀ l,H l=none->Q (.ref l) (upd H l (.lst (rs.map V.str)))
noncomputable def spLaw (K:PySem.W.Frag):Sp:=fun vs H Q _=>∃ (a:Addr) (ns:List Int),vs=[.ref a]/\SqL K H a (ns.map V.int)/\ns.length<=63/\∀ H',Q (.bl true) H'
structure Drw (rs:List Str)(cs:List (Nat × Nat)):Prop where
 sub:∀ x ∈ cs,x ∈ dotC rs
 nd:cs.Nodup
theorem Cel.rev {H:Hp}{vs:List V}{cs:List (Nat × Nat)}(h:Cel H vs cs):Cel H vs.reverse cs.reverse:=by
 induction h with
 | nil=>exact .nil
 | cons q _ ih =>
  rw [List.reverse_cons,List.reverse_cons]
  exact Cel.append ih (.cons q .nil)
theorem nil_cmp:CmpD (.list []) (.list []):=⟨rfl,rfl,by decide⟩
theorem dot_small {rs:List Str}(R:Rows bd.cps.toList rs){x:Nat × Nat}(h:x ∈ dotC rs):x.1 < 8/\x.2 < 8:=by
 obtain ⟨t,k,h1,h2,_⟩:=cell_at_board h
 have a:=(List.getElem?_eq_some_iff.mp h1).1
 have b:=(List.getElem?_eq_some_iff.mp h2).1
 have e:=R.hi
 have f:=R.short _ (List.mem_of_getElem? (codes_get h1))
 omega
theorem sc_field_of:FnScope ["rows"] ["rows"] (defScope s_field_of):=⟨rfl,rfl,rfl,by decide +kernel,rfl,by decide +kernel,by decide +kernel⟩
theorem ok_field_of (T:Txt mg)(Z:Prog K mg)(D:DefAt K mg "field_of" s_field_of ["rows"] f fd):FnOk P w K mg base CX0 3 f fd ["rows"] spFieldOf:=by
 obtain ⟨f_checked_rows,fd_checked_rows,D_checked_rows⟩:=Z.checked_rows
 refine D.F.ok sc_field_of (fun vs H Q E h=>?_) (fun cdv A outer s H vs Q E hr h=>?_)
 ·obtain ⟨a,rs,rfl,_⟩:=h
  rfl
 ·obtain ⟨a,rs,rfl,ha,R,k⟩:=h
  refine ⟨_,(pss_one (ps_ret (pc0 (ok_checked_rows T Z D_checked_rows) hr D_checked_rows (pa_cons (pv 0) (pa_cons (pe_glob (v:=.str ".o#") (by rfl) T.v_FIELD_SIGNS.choose_spec (by exact ⟨_,rfl⟩)) pa_nil))))),?_⟩
  exact ⟨_,rfl,a,rs,fdS,rfl,sg_fd,ha,R,k⟩
theorem sc_law:FnScope ["_law_script","_law_rows","_law_field_here","_law_cells_here","_law_own","_law_cell","_law_handed","_law_board","_law_stones"] ["_law_script"] (defScope s_law):=⟨rfl,rfl,rfl,by decide +kernel,rfl,by decide +kernel,by decide +kernel⟩
theorem ok_law (T:Txt mg)(Z:Prog K mg)(D:DefAt K mg "law" s_law ["_law_script"] f fd):FnOkT 336 P w K mg base CX0 6 f fd ["_law_script"] (spLaw K):=by
 obtain ⟨f_law_cell_at,fd_law_cell_at,D_law_cell_at⟩:=Z.law_cell_at
 obtain ⟨f_law_mixed,fd_law_mixed,D_law_mixed⟩:=Z.law_mixed
 obtain ⟨f_law_field,fd_law_field,D_law_field⟩:=Z.law_field
 obtain ⟨f_field_of,fd_field_of,D_field_of⟩:=Z.field_of
 obtain ⟨f_law_cells,fd_law_cells,D_law_cells⟩:=Z.law_cells
 obtain ⟨f_board_at,fd_board_at,D_board_at⟩:=Z.board_at
 obtain ⟨f_law_due,fd_law_due,D_law_due⟩:=Z.law_due
 obtain ⟨f_open_cells,fd_open_cells,D_open_cells⟩:=Z.open_cells
 obtain ⟨f_closed,fd_closed,D_closed⟩:=Z.closed
 obtain ⟨f_cells_of,fd_cells_of,D_cells_of⟩:=Z.cells_of
 obtain ⟨f_sign_at,fd_sign_at,D_sign_at⟩:=Z.sign_at
 obtain ⟨f_stones_of,fd_stones_of,D_stones_of⟩:=Z.stones_of
 obtain ⟨f_cells_with,fd_cells_with,D_cells_with⟩:=Z.cells_with
 obtain ⟨f_number_at,fd_number_at,D_number_at⟩:=Z.number_at
 obtain ⟨f_around,fd_around,D_around⟩:=Z.around
 have G_board_at:FnOkT 336 P w K mg base CX0 4 f_board_at fd_board_at ["field","cells"] spBoardAt:=ok_board_at T Z D_board_at
 have G_law_due:FnOk P w K mg base CX0 2 f_law_due fd_law_due ["_law_rows","_law_cells_here"] spDue:=ok_law_due T Z D_law_due
 refine D.F.okT sc_law (fun vs H Q E h=>?_) (fun cdv A outer s H vs Q E hr h=>?_)
 ·obtain ⟨a,ns,rfl,_⟩:=h
  rfl
 ·obtain ⟨a,ns,rfl,hS,hlen,k⟩:=h
  refine ⟨_,(psst_cons (PS.at_ (ps_set (i:=1) sc_law.nd rfl (Or.inl rfl) (pc0 (ok_law_field T D_law_field D_law_cell_at D_law_mixed) hr D_law_field (pa_cons (pv 0) (pa_cons pe_int pa_nil)))))
   (psst_cons (PS.at_ (ps_set (i:=2) sc_law.nd rfl (Or.inl rfl) (pc0 (ok_field_of T Z D_field_of) hr D_field_of (pa_cons (pe_callTy call_list_of (by rfl) T.b_list PyProof.Rows.boot_list (pa_cons (pv 1) pa_nil)) pa_nil))))
   (psst_cons (PS.at_ (ps_set (i:=3) sc_law.nd rfl (Or.inl rfl) (pe_lst pa_nil)))
   (psst_cons (PS.at_ (ps_set (i:=4) sc_law.nd rfl (Or.inl rfl) (pc0 (ok_law_cell_at T D_law_cell_at) hr D_law_cell_at (pa_cons (pv 0) (pa_cons pe_int pa_nil)))))
   (psst_cons (PS.at_ (ps_for PassesOwn.never rfl (pi_list (pc0 (ok_law_cells T D_law_cells) hr D_law_cells (pa_cons (pv 1) (pa_cons pe_str pa_nil)))) (pg_name (i:=5) sc_law.nd rfl (Or.inl rfl)) (pss_mid (ps_if (pt_cmpR op_eq (pe_op op_mod (pv 4) pe_int) pe_int (nomark _)) (pss_one (ps_expr (pe_bm PySem.F.plainAttrs_list PySem.F.slot_list_append PySem.F.type_list_append mt_append (pv 3) (pa_cons (pv 5) pa_nil)))) pss_nil)
   (pss_one (ps_set (i:=4) sc_law.nd rfl (Or.inl rfl) (pe_op op_fdivG (pv 4) pe_int))))))
   (psst_mid (PS.at_ (ps_if (pt_cmpR op_eq (pe_op op_mod (pc0 (ok_law_cell_at T D_law_cell_at) hr D_law_cell_at (pa_cons (pv 0) (pa_cons pe_int pa_nil))) pe_int) pe_int (nomark _)) (pss_one (ps_expr (pe_bm0 PySem.F.plainAttrs_list PySem.F.slot_list_reverse PySem.F.type_list_reverse mt_reverse (pv 3)))) pss_nil))
   (psst_cons (PS.at_ (ps_set (i:=6) sc_law.nd rfl (Or.inl rfl) (pe_callTy call_list_of (by rfl) T.b_list PyProof.Rows.boot_list (pa_cons (pv 3) pa_nil))))
   (psst_cons (pst_set (i:=7) sc_law.nd rfl (Or.inr rfl) (pct G_board_at hr D_board_at (PA.at_ (pa_cons (pv 2) (pa_cons (pv 6) pa_nil)))))
   (psst_cons (PS.at_ (ps_if (PW.pt (pw_or (pt_not (pt_truth (pe_callB call_isinst (by rfl) T.b_isinstance PyProof.Rows.boot_isinstance (pa_cons (pv 7) (pa_cons (pe_bltn (v:=.ty "tuple") (by rfl) T.b_tuple PyProof.Rows.boot_tuple (by rfl)) pa_nil))) (fun _=>rfl))) (pw_or (pt_not (pt_truth (pe_callB call_isinst (by rfl) T.b_isinstance PyProof.Rows.boot_isinstance (pa_cons (pe_ix ix_tup (pv 7) pe_int (fun _ _=>rfl)) (pa_cons (pe_bltn (v:=.ty "list") (by rfl) T.b_list PyProof.Rows.boot_list (by rfl)) pa_nil))) (fun _=>rfl))) (pw_or1 (pt_cmpR (op_ne_deep hr.units) (pv 7) (pc0 G_law_due hr D_law_due (pa_cons (pv 1) (pa_cons (pv 3) pa_nil))) (nomark _)))))) (pss_one (ps_ret pe_bl)) pss_nil))
   (psst_cons (PS.at_ (ps_if (PW.pt (pw_or (pt_truth (pe_callB call_isinst (by rfl) T.b_isinstance PyProof.Rows.boot_isinstance (pa_cons (pe_ix ix_tup (pv 7) pe_int (fun _ _=>rfl)) (pa_cons (pe_bltn (v:=.ty "bool") (by rfl) T.b_bool PyProof.Rows.boot_bool (by rfl)) pa_nil))) (fun _=>rfl)) (pw_or (pt_cmpR (op_ne_deep hr.units) (pv 6) (pv 3) (nomark _)) (pw_or (pt_cmpR (op_ne_deep hr.units) (pv 2) (pv 1) (nomark _)) (pw_or1 (pt_cmpR (op_ne_deep hr.units) (pe_callB GS.call_sortedG2 (by rfl) T.b_sorted PyProof.Rows.boot_sorted (pa_cons (pv 3) pa_nil)) (pc0 (ok_open_cells T D_open_cells D_cells_of D_sign_at) hr D_open_cells (pa_cons (pv 7) pa_nil)) (nomark _))))))) (pss_one (ps_ret pe_bl)) pss_nil))
   (psst_cons (PS.at_ (ps_set (i:=8) sc_law.nd rfl (Or.inr rfl) (pc0 (ok_stones_of T D_stones_of D_cells_with D_cells_of D_sign_at) hr D_stones_of (pa_cons (pv 2) pa_nil))))
   (psst_cons (PS.at_ (ps_if (pt_cmpR (op_ne_deep hr.units) (pe_comp (N:=["_law_one","_law_board"]) (src:=[none,some 7]) (CompOk.free (O:=(defScope s_law).names) (XN:=["_law_script","_law_rows","_law_field_here","_law_cells_here","_law_own","_law_cell","_law_handed","_law_board","_law_stones"]) rfl rfl ⟨_,rfl⟩ rfl rfl (by decide +kernel) (by decide +kernel) (by decide +kernel) rfl (by decide +kernel)) rfl (pi_list (pv 8)) (fun _ _ _ _ _=>(pg_name (i:=0) (by show List.Nodup (["_law_one","_law_board"]:List Str); decide +kernel) rfl (Or.inl rfl))) (fun _ _ _ _ _=>(pifs_one (pt_cmpR (op_notIn_deepK (K:=K) (by rfl) hr.units) (pv 0) (pc0 (ok_closed T D_closed D_cells_of D_sign_at) hr D_closed (pa_cons (pv 1) pa_nil)) (by rfl)))) (fun _ _ _ _ _=>(pv 0))) (pe_lst pa_nil) (nomark _)) (pss_one (ps_ret pe_bl)) pss_nil))
   (psst_cons (PS.at_ (ps_for PassesOwn.never rfl (pi_list (pv 3)) (pg_name (i:=5) sc_law.nd rfl (Or.inl rfl)) (pss_one (ps_if (pt_cmpR op_ne (pc0 (ok_number_at T D_number_at D_sign_at) hr D_number_at (pa_cons (pv 7) (pa_cons (pv 5) pa_nil))) (pe_callB call_len_seq (by rfl) T.b_len PySem.boot_len (pa_cons (pe_comp (N:=["_law_one","_law_stones"]) (src:=[none,some 8]) (CompOk.free (O:=(defScope s_law).names) (XN:=["_law_script","_law_rows","_law_field_here","_law_cells_here","_law_own","_law_cell","_law_handed","_law_board","_law_stones"]) rfl rfl ⟨_,rfl⟩ rfl rfl (by decide +kernel) (by decide +kernel) (by decide +kernel) rfl (by decide +kernel)) rfl (pi_list (pc0 (ok_around T D_around) hr D_around (pa_cons (pv 7) (pa_cons (pv 5) pa_nil)))) (fun _ _ _ _ _=>(pg_name (i:=0) (by show List.Nodup (["_law_one","_law_stones"]:List Str); decide +kernel) rfl (Or.inl rfl))) (fun _ _ _ _ _=>(pifs_one (pt_cmpR (op_in_deepK (K:=K) (by rfl) hr.units) (pv 0) (pv 1) (by rfl)))) (fun _ _ _ _ _=>(pv 0))) pa_nil)) (nomark _)) (pss_one (ps_ret pe_bl)) pss_nil))))
   (psst_cons (PS.at_ (ps_expr (pe_bm0 PySem.F.plainAttrs_list PySem.F.slot_list_clear PySem.F.type_list_clear mt_clear (pe_ix ix_tup (pv 7) pe_int (fun _ _=>rfl)))))
   (psst_one (pst_ret (pet_and (pet_cmpR (op_eq_deep hr.units) (pct G_board_at hr D_board_at (PA.at_ (pa_cons (pv 2) (pa_cons (pe_lst pa_nil) pa_nil)))) (pc0 G_law_due hr D_law_due (pa_cons (pv 1) (pa_cons (pe_lst pa_nil) pa_nil))) (nomark _)) (pet_one (pet_cmpR (op_eq_deep hr.units) (pct G_board_at hr D_board_at (PA.at_ (pa_cons (pv 2) (pa_cons (pv 6) pa_nil)))) (pc0 G_law_due hr D_law_due (pa_cons (pv 1) (pa_cons (pv 3) pa_nil))) (nomark _)))))))))))))))))))),?_⟩
  refine ⟨_,rfl,a,ns,64,rfl,hS,by decide,by decide,fun fl rs H1 _ hfl s1 R _=>?_⟩
  have Rb:Rows bd.cps.toList rs:=R.mono fd_bd
  refine ⟨_,rfl,fl,_,rfl,.inl (SqL.of hfl),fun h0 hh0=>⟨h0,rs,rfl,upd_same,R,fun fo hfo=>?_⟩⟩
  have z1:=same_new (o:=.lst (rs.map V.str)) hh0
  have z2:=same_new (o:=.lst (rs.map V.str)) hfo
  have hfo2:upd (upd H1 h0 (.lst (rs.map V.str))) fo (.lst (rs.map V.str)) fo=some (.lst (rs.map V.str)):=upd_same
  have s2:=s1.trans (z1.trans z2)
  have hfl2:=(z1.trans z2) _ _ hfl
  generalize upd (upd H1 h0 (.lst (rs.map V.str))) fo (.lst (rs.map V.str))=H2 at *
  refine ⟨sz_0,fun ce hce=>?_⟩
  have z3:=same_new (o:=.lst []) hce
  refine ⟨_,rfl,a,ns,_,rfl,(s2.trans z3).seq hS,by decide,fun own=>?_⟩
  refine ⟨_,rfl,fl,rs,".",_,rfl,z3 _ _ hfl2,R,fun dc wc H4 hdc hdc4 hcc s4=>⟨dc,rfl,⟨_,SqL.of hdc4⟩,?_⟩⟩
  rw [cells_dot Rb] at hcc
  have hce4:=s4 _ _ (show upd H2 ce (.lst []) ce=some (.lst []) from upd_same)
  have s24:Same H2 H4:=z3.trans s4
  have dce:dc ≠ ce:=fun e=>by
   rw [e,upd_same] at hdc
   cases hdc
  have d64:(dotC rs).length<=64:=all_short Rb
  refine for_list (K:=K) (a:=dc) (xs:=wc) (fun i σ H'=>∃ (o:Int) (v:Option V) (ws:List V) (cs:List (Nat × Nat)),σ=[some (.ref a),some (.ref fl),some (.ref fo),some (.ref ce),some (.int o),v,none,none,none]/\Same H2 H'/\(∀ b o,b ≠ ce->H4 b=some o->H' b=some o)/\H' ce=some (.lst ws)/\Cel H' ws cs/\cs.Sublist ((dotC rs).take i)) ⟨own,none,[],[],rfl,s24,fun _ _ _ e=>e,hce4,.nil,List.Sublist.refl _⟩ (fun i σ H' _ ⟨_,_,_,_,_,_,s5,_⟩=>SqL.of (s5 _ _ dce hdc4)) ?_ ?_
  ·rintro i x σ H5 hx ⟨o,v,ws,cs,rfl,s25,s5,hce5,hws,hsub⟩
   have hi:=(List.getElem?_eq_some_iff.mp hx).1
   obtain ⟨c,hc,ca,rfl,hca4⟩:=Cel.get hcc hx
   have hca:H5 ca=some (.tup [.int (c.1:Nat),.int (c.2:Nat)]):=s5 _ _ (ne_of hca4 hce4 (by intro z; cases z)) hca4
   have hlen5:ws.length<=64:=by
    rw [hws.length]
    refine Nat.le_trans hsub.length_le ?_
    rw [List.length_take]
    omega
   refine ⟨fun σ' H'=>∃ (ws:List V) (cs:List (Nat × Nat)),σ'=[some (.ref a),some (.ref fl),some (.ref fo),some (.ref ce),some (.int o),some (.ref ca),none,none,none]/\Same H2 H'/\(∀ b o,b ≠ ce->H4 b=some o->H' b=some o)/\H' ce=some (.lst ws)/\Cel H' ws cs/\cs.Sublist ((dotC rs).take (i + 1)),?_,?_⟩
   ·refine ⟨_,rfl,_,_,rfl,rfl,(by show (0:Int) < 2; decide),rfl,_,rfl,?_⟩
    have et:(dotC rs).take (i + 1)=(dotC rs).take i++[c]:=by
     rw [List.take_add_one,hc]
     rfl
    rw [et]
    refine ite2 (fun _=>?_) (fun _=>?_)
    ·refine ⟨_,rfl,.inl ⟨rfl,_,SqL.of hce5⟩,_,rfl,ce,ws,_,rfl,rfl,hce5,Nat.lt_of_le_of_lt hlen5 (by decide),_,cs++[c],rfl,fun b o e=>?_,fun b o nb e=>?_,upd_same,?_,hsub.append (List.Sublist.refl _)⟩
     ·rw [upd_ne (ne_of_none e hce)]
      exact s25 _ _ e
     ·rw [upd_ne nb]
      exact s5 _ _ nb e
     ·exact Cel.into ce _ hce5 (hws.snoc ⟨ca,rfl,hca⟩)
    ·exact ⟨ws,cs,rfl,s25,s5,hce5,hws,hsub.trans (List.sublist_append_left _ _)⟩
   ·rintro σ' H6 ⟨ws,cs,rfl,s26,s6,hce6,hws6,hsub6⟩
    exact ⟨_,rfl,_,_,rfl,rfl,CDivG.small (by decide) (by decide),_,_,ws,cs,rfl,s26,s6,hce6,hws6,hsub6⟩
  ·rintro σ H5 ⟨o,v,ws,cs,rfl,s25,s5,hce5,hws,hsub⟩
   rw [hcc.length,List.take_length] at hsub
   have dw:Drw rs cs:=⟨fun x hx=>hsub.subset hx,(all_nodup _ _).sublist hsub⟩
   have c64:cs.length<=64:=Nat.le_trans hsub.length_le d64
   clear hsub hce4 hcc hdc4 s5 s24 s4
   refine ⟨fun σ' H'=>∃ (ws:List V) (cs:List (Nat × Nat)),σ'=[some (.ref a),some (.ref fl),some (.ref fo),some (.ref ce),some (.int o),v,none,none,none]/\Same H2 H'/\H' ce=some (.lst ws)/\Cel H' ws cs/\Drw rs cs/\cs.length<=64,?_,?_⟩
   ·refine ⟨_,rfl,a,ns,_,rfl,(s2.trans s25).seq hS,by decide,fun g=>⟨_,_,rfl,rfl,(by show (0:Int) < 2; decide),rfl,_,rfl,ite2 (fun _=>?_) (fun _=>⟨ws,cs,rfl,s25,hce5,hws,dw,c64⟩)⟩⟩
    refine ⟨_,rfl,.inl ⟨rfl,_,SqL.of hce5⟩,ce,ws,rfl,rfl,hce5,_,cs.reverse,rfl,fun b o e=>?_,upd_same,?_,⟨fun x hx=>dw.sub x (List.mem_reverse.mp hx),(List.reverse_perm cs).nodup_iff.mpr dw.nd⟩,by rw [List.length_reverse]; exact c64⟩
    ·rw [upd_ne (ne_of_none e hce)]
     exact s25 _ _ e
    ·exact Cel.into ce _ hce5 hws.rev
   clear hce5 hws dw c64 s25
   rintro σ' H6 ⟨ws,cs,rfl,s26,hce6,hws,dw,c64⟩
   refine ⟨_,rfl,ce,_,rfl,.inl (SqL.of hce6),fun hn hhn=>?_⟩
   have z7:=same_new (o:=.lst ws) hhn
   have hn7:upd H6 hn (.lst ws) hn=some (.lst ws):=upd_same
   have s27:=s26.trans z7
   generalize upd H6 hn (.lst ws)=H7 at *
   have hce7:=z7 _ _ hce6
   have hws7:=hws.mono z7
   have hfo7:=s27 _ _ hfo2
   have hfl7:=s27 _ _ hfl2
   refine ⟨_,rfl,_,rfl,fo,hn,rs,ws,cs,rfl,hfo7,R,hn7,hws7,c64,fun x hx=>dot_small Rb (dw.sub x hx),fun p lb H8 hp hlb B8 s8=>?_⟩
   have RB:Rows bd.cps.toList (brdA rs cs):=brd_rows R
   have eb:∀ rs' n,Rows bd.cps.toList rs'->(if true=true then !PyData.eqv (bData rs' n) (bData rs' n) else PyData.eqv (bData rs' n) (bData rs' n))=false:=fun rs' n h=>by
    rw [if_pos rfl,SeqAt.eqv_refl _ (h.cmpB n).l1]
    rfl
   refine ⟨_,rfl,_,"tuple","tuple",true,rfl,.tup B8.tp,(by decide +kernel),true,rfl,iteF ?_⟩
   refine ⟨_,rfl,p,_,0,_,rfl,rfl,SqT.of B8.tp,rfl,_,"list","list",true,rfl,.lst B8.rw,(by decide +kernel),true,rfl,iteF ?_⟩
   refine ⟨_,rfl,_,rfl,_,rfl,fl,ce,rs,ws,cs,rfl,s8 _ _ hfl7,R,s8 _ _ hce7,hws7.mono s8,fun pd ld H9 hpd hld B9 s9=>⟨_,_,BoardAt.rdv (B8.mono s9),BoardAt.rdv B9,RB.cmpB _,_,rfl,iteN (eb _ _ RB) ?_⟩⟩
   have s79:=s8.trans s9
   have B89:=B8.mono s9
   have hn9:=s79 _ _ hn7
   have hce9:=s79 _ _ hce7
   have hws9:=hws7.mono s79
   refine ⟨_,rfl,p,_,1,_,rfl,rfl,SqT.of B89.tp,rfl,_,"int","bool",false,rfl,.int _,(by decide +kernel),false,rfl,iteF ?_⟩
   have ec:(if true=true then !PyData.eqv (.list (cs.map cData)) (.list (cs.map cData)) else PyData.eqv (.list (cs.map cData)) (.list (cs.map cData)))=false:=by
    rw [if_pos rfl,g_same]
    rfl
   refine ⟨_,rfl,_,rfl,.list (cs.map cData),.list (cs.map cData),.lst (SqL.of hn9) (gRdv hws9),.lst (SqL.of hce9) (gRdv hws9),g_cmp2 _ _,_,rfl,iteN ec ?_⟩
   have ef:(if true=true then !PyData.eqv (.list (rs.map PyData.str)) (.list (rs.map PyData.str)) else PyData.eqv (.list (rs.map PyData.str)) (.list (rs.map PyData.str)))=false:=by
    rw [if_pos rfl,SeqAt.eqv_refl _ Rb.cmp.l1]
    rfl
   refine ⟨_,rfl,_,rfl,.list (rs.map PyData.str),.list (rs.map PyData.str),.lst (SqL.of (s79 _ _ hfo7)) (rdv_strs rs),.lst (SqL.of (s79 _ _ hfl7)) (rdv_strs rs),Rb.cmp,_,rfl,iteN ef ?_⟩
   have opL:=Cells.allCs_lex pOpen 0 (codes (brdA rs cs))
   have opM:=brd_open dw.sub
   refine ⟨_,rfl,ce,ws,_,rfl,SqL.of hce9,hws9.tup2,Nat.le_trans (show ws.length<=64 by rw [hws.length]; exact c64) (by decide),fun ds us' ps' hds t' pm up=>?_⟩
   rw [sorted_is pm up opL opM dw.nd] at t'
   have k10:=cel_of_tup2 t'
   have z10:=same_new (o:=.lst us') hds
   have hds10:upd H9 ds (.lst us') ds=some (.lst us'):=upd_same
   have s710:=s79.trans z10
   have B10:=B89.mono z10
   have k10:=k10.mono z10
   have hce10:=z10 _ _ hce9
   have hws10:=hws9.mono z10
   generalize upd H9 ds (.lst us')=H10 at *
   have eo:(if true=true then !PyData.eqv (.list ((Cells.allCs pOpen 0 (codes (brdA rs cs))).map cData)) (.list ((Cells.allCs pOpen 0 (codes (brdA rs cs))).map cData)) else PyData.eqv (.list ((Cells.allCs pOpen 0 (codes (brdA rs cs))).map cData)) (.list ((Cells.allCs pOpen 0 (codes (brdA rs cs))).map cData)))=false:=by
    rw [if_pos rfl,g_same]
    rfl
   refine ⟨_,rfl,p,lb,_,_,rfl,B10,RB,fun d2 w2 H11 hd2 hd211 k11 s11=>⟨_,_,.lst (SqL.of (s11 _ _ hds10)) (gRdv (k10.mono s11)),.lst (SqL.of hd211) (gRdv k11),g_cmp2 _ _,_,rfl,iteN eo ?_⟩⟩
   have s711:=s710.trans s11
   refine ⟨_,rfl,fo,rs,rfl,s711 _ _ hfo7,Rb,fun sa wa H12 hsa hsa12 ka s12=>?_⟩
   have ka:Cel H12 wa (stC rs):=ka
   have s712:=s711.trans s12
   have B12:=B10.mono (s11.trans s12)
   refine ⟨_,rfl,sa,rfl,⟨_,SqL.of hsa12⟩,fun z hz=>?_⟩
   refine comp_list (K:=K) (a:=sa) (xs:=wa) (fun i σ' H'=>∃ u0,σ'=[u0,some (.ref p)]/\Same H12 H'/\H' z=some (.lst [])) ⟨_,rfl,same_new hz,upd_same⟩ (fun i σ' H' _ ⟨_,_,s8,_⟩=>SqL.of (s8 _ _ hsa12)) ?_ ?_
   ·rintro j v2 σ' H13 hv ⟨u0,rfl,s13,hz13⟩
    obtain ⟨y,hy,ry⟩:=Cel.get (ka.mono s13) hv
    refine ⟨_,rfl,_,rfl,p,lb,_,_,rfl,B12.mono s13,RB,fun d3 w3 H14 hd3 hd314 k14 s14=>?_⟩
    have hin:=brd_shut dw.sub (List.mem_of_getElem? hy)
    have ei:(if true=true then !((Cells.allCs pShut 0 (codes (brdA rs cs))).map cData).any (fun z=>PyData.eqv z (cData y)) else ((Cells.allCs pShut 0 (codes (brdA rs cs))).map cData).any fun z=>PyData.eqv z (cData y))=false:=by
     rw [if_pos rfl,in_cs,decide_eq_true hin]
     rfl
    have ry14:CelR H14 v2 y:=let ⟨ya,e,h⟩:=ry; ⟨ya,e,s14 _ _ h⟩
    exact ⟨cData y,_,CelR.rdv ry14,.lst (SqL.of hd314) (gRdv k14),rfl,g_lays _,(by show 1<=60; decide),_,rfl,iteN ei ⟨_,rfl,s13.trans s14,s14 _ _ hz13⟩⟩
   rintro σ' H13 ⟨u0,rfl,s13,hz13⟩
   refine ⟨sz_0,fun y0 hy0=>?_⟩
   have z14:=same_new (o:=.lst []) hy0
   refine ⟨.list [],.list [],.lst (SqL.of (z14 _ _ hz13)) .nil,.lst (SqL.of upd_same) .nil,nil_cmp,_,rfl,iteF ?_⟩
   have s14:=s712.trans (s13.trans z14)
   have B14:=B12.mono (s13.trans z14)
   have hsa14:=(s13.trans z14) _ _ hsa12
   have ka14:=ka.mono (s13.trans z14)
   have wal:=ka.length
   generalize upd H13 y0 (.lst [])=H14 at *
   have hce14:=s14 _ _ hce7
   have hws14:=hws7.mono s14
   refine ⟨_,rfl,ce,rfl,⟨_,SqL.of hce14⟩,?_⟩
   refine for_list (K:=K) (a:=ce) (xs:=ws) (fun i σ H'=>∃ v,σ=[some (.ref a),some (.ref fl),some (.ref fo),some (.ref ce),some (.int o),v,some (.ref hn),some (.ref p),some (.ref sa)]/\Same H14 H') ⟨_,rfl,Same.refl _⟩ (fun i σ H' _ ⟨_,_,s15⟩=>SqL.of (s15 _ _ hce14)) ?_ ?_
   ·rintro i x σ H15 hx ⟨v2,rfl,s15⟩
    obtain ⟨c,hc,ca,rfl,hca⟩:=Cel.get (hws14.mono s15) hx
    have hcm:=List.mem_of_getElem? hc
    obtain ⟨t,ht,hk⟩:=brd_sign dw.sub hcm
    have c8:=cntS_8 rs c
    obtain ⟨q1,q2⟩:=dot_small Rb (dw.sub c hcm)
    refine ⟨_,rfl,_,rfl,p,lb,ca,_,_,c.1,c.2,t,_,rfl,B14.mono s15,hca,ht,hk,RB.tlen ht,by omega,by omega,?_⟩
    refine ⟨_,rfl,_,rfl,p,lb,ca,_,_,c.1,c.2,rfl,B14.mono s15,RB,hca,by omega,by omega,fun da wd H16 hda hda16 kd s16=>⟨da,rfl,⟨_,SqL.of hda16⟩,fun z2 hz2=>?_⟩⟩
    have wl:=kd.length
    have a64:=aroundC_short RB c
    have s146:=s15.trans s16
    refine comp_data (K:=K) (a:=da) (xs:=wd) (fun a=>a ≠ z2) ((aroundC (brdA rs cs) c).map fun x=>if decide (x ∈ stC rs)=true then some (cData x) else none) (fun σ=>∃ u0,σ=[u0,some (.ref sa)]) hz2 (fun _ h=>h) ⟨_,rfl⟩ (by rw [List.length_map]; exact wl.symm) (by rw [wl]; exact Nat.le_trans a64 (by decide)) (SqL.of hda16) ?_ ?_
    ·rintro m x o2 σ H17 hx ho s17 _ ⟨u0,rfl⟩ Y Z' yes no
     obtain ⟨y2,hy2,r2⟩:=Cel.get (kd.mono s17) hx
     have eo:=map_at hy2 ho
     refine ⟨_,rfl,_,rfl,cData y2,(stC rs).map cData,CelR.rdv r2,.lst (SqL.of ((s146.trans s17) _ _ hsa14)) (gRdv (ka14.mono (s146.trans s17))),rfl,g_lays _,(by show 1<=60; decide),_,rfl,?_⟩
     by_cases hh:decide (y2 ∈ stC rs)=true
     ·rw [if_pos hh] at eo
      exact iteP ((in_csF _ y2).trans hh) ⟨_,rfl,yes _ _ _ _ eo ⟨_,rfl⟩ (Same.refl _) (CelR.rdn r2)⟩
     ·rw [if_neg hh] at eo
      exact iteN ((in_csF _ y2).trans (Bool.eq_false_iff.mpr hh)) (no _ _ eo ⟨_,rfl⟩ (Same.refl _))
    ·rintro ys H17 s17 hz17 hr17
     rw [outs_filter] at hr17
     have yl:=(RdnAll.cel hr17).length
     rw [brd_around dw.sub] at yl
     refine ⟨z2,_,rfl,.inl (SqL.of hz17),rfl,_,rfl,iteNS ?_ ⟨_,rfl,s146.trans s17⟩⟩
     rw [yl]
     exact congrArg V.int (by omega)
   ·rintro σ H15 ⟨v2,rfl,s15⟩
    have B15:=B14.mono s15
    refine ⟨_,rfl,p,_,0,_,rfl,rfl,SqT.of B15.tp,rfl,.inl ⟨rfl,_,SqL.of B15.rw⟩,lb,_,rfl,rfl,B15.rw,?_⟩
    have s715:=s14.trans s15
    have s16:Same H7 (upd H15 lb (.lst [])):=fun b o e=>by
     rw [upd_ne (ne_of_none e hlb)]
     exact s715 _ _ e
    generalize upd H15 lb (.lst [])=H16 at *
    have ebT:∀ rs' n,Rows bd.cps.toList rs'->(if false=true then !PyData.eqv (bData rs' n) (bData rs' n) else PyData.eqv (bData rs' n) (bData rs' n))=true:=fun rs' n h=>SeqAt.eqv_refl _ (h.cmpB n).l1
    have RN:Rows bd.cps.toList (brdA rs []):=brd_rows R
    refine ⟨_,rfl,sz_0,fun e0 he0=>?_⟩
    have z17:=same_new (o:=.lst []) he0
    have s17:=s16.trans z17
    refine ⟨fo,e0,rs,[],[],rfl,s17 _ _ hfo7,R,upd_same,.nil,by decide,(fun _ h=>nomatch h),fun p1 l1 H18 _ _ B18 s18=>?_⟩
    have s718:=s17.trans s18
    refine ⟨_,rfl,sz_0,fun e1 he1=>?_⟩
    have z19:=same_new (o:=.lst []) he1
    refine ⟨fl,e1,rs,[],[],rfl,(s718.trans z19) _ _ hfl7,R,upd_same,.nil,fun p2 l2 H20 _ _ B20 s20=>?_⟩
    have s720:=(s718.trans z19).trans s20
    refine ⟨_,_,BoardAt.rdv (B18.mono (z19.trans s20)),BoardAt.rdv B20,RN.cmpB _,_,rfl,iteP (ebT _ _ RN) ?_⟩
    refine ⟨_,rfl,_,rfl,fo,hn,rs,ws,cs,rfl,s720 _ _ hfo7,R,s720 _ _ hn7,hws7.mono s720,c64,fun x hx=>dot_small Rb (dw.sub x hx),fun p3 l3 H21 _ _ B21 s21=>?_⟩
    have s721:=s720.trans s21
    refine ⟨_,rfl,_,rfl,fl,ce,rs,ws,cs,rfl,s721 _ _ hfl7,R,s721 _ _ hce7,hws7.mono s721,fun p4 l4 H22 _ _ B22 s22=>?_⟩
    refine ⟨_,_,BoardAt.rdv (B21.mono s22),BoardAt.rdv B22,RB.cmpB _,?_⟩
    rw [ebT _ _ RB]
    exact k _
theorem all_mk {l:PySem.W.OpenLaw}{w:World}{K:PySem.W.Frag}{h:Heap}{mg:Str->Option Value}{fa:Addr}{t_BOARD_SIGNS:Tok}{t_CLEAR_SIGN:Tok}{t_CLOSED_SIGN:Tok}{t_FIELD_SIGNS:Tok}{t_LONGEST_SIDE:Tok}{t_MOST_STONES:Tok}{t_NO_CELL_SIGN:Tok}{t_STONE_SIGN:Tok}(X:K.In h)(G:h.Ns mainGlobals mg)(hfa:mg "law"=some (.ref fa))
  (h_board_of:HasDef K "board_of" s_board_of)
  (h_checked_rows:HasDef K "checked_rows" s_checked_rows)
  (h_check_row:HasDef K "check_row" s_check_row)
  (h_closed:HasDef K "closed" s_closed)
  (h_open_cells:HasDef K "open_cells" s_open_cells)
  (h_around:HasDef K "around" s_around)
  (h_number_at:HasDef K "number_at" s_number_at)
  (h_opened:HasDef K "opened" s_opened)
  (h_cells_of:HasDef K "cells_of" s_cells_of)
  (h_sign_at:HasDef K "sign_at" s_sign_at)
  (h_field_of:HasDef K "field_of" s_field_of)
  (h_stones_of:HasDef K "stones_of" s_stones_of)
  (h_cells_with:HasDef K "cells_with" s_cells_with)
  (h_board_at:HasDef K "board_at" s_board_at)
  (h_law_cell_at:HasDef K "_law_cell_at" s_law_cell_at)
  (h_law_mixed:HasDef K "_law_mixed" s_law_mixed)
  (h_law_field:HasDef K "_law_field" s_law_field)
  (h_law_cells:HasDef K "_law_cells" s_law_cells)
  (h_law_near:HasDef K "_law_near" s_law_near)
  (h_law_due:HasDef K "_law_due" s_law_due)
  (h_law:HasDef K "law" s_law)
  (z_abs:PySem.W.nsIn K mainGlobals "abs"=some none)
  (z_bool:PySem.W.nsIn K mainGlobals "bool"=some none)
  (z_enumerate:PySem.W.nsIn K mainGlobals "enumerate"=some none)
  (z_int:PySem.W.nsIn K mainGlobals "int"=some none)
  (z_isinstance:PySem.W.nsIn K mainGlobals "isinstance"=some none)
  (z_len:PySem.W.nsIn K mainGlobals "len"=some none)
  (z_list:PySem.W.nsIn K mainGlobals "list"=some none)
  (z_max:PySem.W.nsIn K mainGlobals "max"=some none)
  (z_min:PySem.W.nsIn K mainGlobals "min"=some none)
  (z_range:PySem.W.nsIn K mainGlobals "range"=some none)
  (z_sorted:PySem.W.nsIn K mainGlobals "sorted"=some none)
  (z_str:PySem.W.nsIn K mainGlobals "str"=some none)
  (z_tuple:PySem.W.nsIn K mainGlobals "tuple"=some none)
  (g_BOARD_SIGNS:PySem.W.nsIn K mainGlobals "BOARD_SIGNS"=some (some (.str "?012345678#" t_BOARD_SIGNS)))
  (g_CLEAR_SIGN:PySem.W.nsIn K mainGlobals "CLEAR_SIGN"=some (some (.str "." t_CLEAR_SIGN)))
  (tz_CLEAR_SIGN:t_CLEAR_SIGN ≠ 0) (tl_CLEAR_SIGN:t_CLEAR_SIGN < 336)
  (g_CLOSED_SIGN:PySem.W.nsIn K mainGlobals "CLOSED_SIGN"=some (some (.str "?" t_CLOSED_SIGN)))
  (g_FIELD_SIGNS:PySem.W.nsIn K mainGlobals "FIELD_SIGNS"=some (some (.str ".o#" t_FIELD_SIGNS)))
  (g_LONGEST_SIDE:PySem.W.nsIn K mainGlobals "LONGEST_SIDE"=some (some (.int 8 t_LONGEST_SIDE)))
  (g_MOST_STONES:PySem.W.nsIn K mainGlobals "MOST_STONES"=some (some (.int 64 t_MOST_STONES)))
  (g_NO_CELL_SIGN:PySem.W.nsIn K mainGlobals "NO_CELL_SIGN"=some (some (.str "#" t_NO_CELL_SIGN)))
  (g_STONE_SIGN:PySem.W.nsIn K mainGlobals "STONE_SIGN"=some (some (.str "o" t_STONE_SIGN)))
  (tz_STONE_SIGN:t_STONE_SIGN ≠ 0) (tl_STONE_SIGN:t_STONE_SIGN < 336) :
  ∃ fd:FuncData,(∀ (s:Shared) (v:Value),BindsTo s fd ⟨[v],[]⟩ [("_law_script",v)])/\∀ base:Heap,K.In base->base.Ns mainGlobals mg->FnOkT 336 l.prog w K mg base CX0 6 fa fd ["_law_script"] (spLaw K):=by
 obtain ⟨f,oc,od,an,sl,kV,dc,pm,cd,ct,a,l0,c,k⟩:=h_law
 have e:=hfa.symm.trans (PySem.W.mg_of X G a)
 cases e
 have T:Txt mg:=⟨PySem.W.mg_none_of X G z_abs,PySem.W.mg_none_of X G z_bool,PySem.W.mg_none_of X G z_enumerate,PySem.W.mg_none_of X G z_int,PySem.W.mg_none_of X G z_isinstance,PySem.W.mg_none_of X G z_len,PySem.W.mg_none_of X G z_list,PySem.W.mg_none_of X G z_max,PySem.W.mg_none_of X G z_min,PySem.W.mg_none_of X G z_range,PySem.W.mg_none_of X G z_sorted,PySem.W.mg_none_of X G z_str,PySem.W.mg_none_of X G z_tuple,⟨_,PySem.W.mg_of X G g_BOARD_SIGNS⟩,⟨_,PySem.W.mg_of X G g_CLEAR_SIGN,tz_CLEAR_SIGN,tl_CLEAR_SIGN⟩,⟨_,PySem.W.mg_of X G g_CLOSED_SIGN⟩,⟨_,PySem.W.mg_of X G g_FIELD_SIGNS⟩,⟨_,PySem.W.mg_of X G g_LONGEST_SIDE⟩,⟨_,PySem.W.mg_of X G g_MOST_STONES⟩,⟨_,PySem.W.mg_of X G g_NO_CELL_SIGN⟩,⟨_,PySem.W.mg_of X G g_STONE_SIGN,tz_STONE_SIGN,tl_STONE_SIGN⟩⟩
 have Z:Prog K mg:=⟨h_board_of.at X G (fun _ _ _ _ _ _=>us2 fun _ _=>rfl),h_checked_rows.at X G (fun _ _ _ _ _ _=>us2 fun _ _=>rfl),h_check_row.at X G (fun _ _ _ _ _ _=>us3 fun _ _ _=>rfl),h_closed.at X G (fun _ _ _ _ _ _=>us1 fun _=>rfl),h_open_cells.at X G (fun _ _ _ _ _ _=>us1 fun _=>rfl),h_around.at X G (fun _ _ _ _ _ _=>us2 fun _ _=>rfl),h_number_at.at X G (fun _ _ _ _ _ _=>us2 fun _ _=>rfl),h_opened.at X G (fun _ _ _ _ _ _=>us2 fun _ _=>rfl),h_cells_of.at X G (fun _ _ _ _ _ _=>us1 fun _=>rfl),h_sign_at.at X G (fun _ _ _ _ _ _=>us2 fun _ _=>rfl),h_field_of.at X G (fun _ _ _ _ _ _=>us1 fun _=>rfl),h_stones_of.at X G (fun _ _ _ _ _ _=>us1 fun _=>rfl),h_cells_with.at X G (fun _ _ _ _ _ _=>us2 fun _ _=>rfl),h_board_at.at X G (fun _ _ _ _ _ _=>us2 fun _ _=>rfl),h_law_cell_at.at X G (fun _ _ _ _ _ _=>us2 fun _ _=>rfl),h_law_mixed.at X G (fun _ _ _ _ _ _=>us2 fun _ _=>rfl),h_law_field.at X G (fun _ _ _ _ _ _=>us2 fun _ _=>rfl),h_law_cells.at X G (fun _ _ _ _ _ _=>us2 fun _ _=>rfl),h_law_near.at X G (fun _ _ _ _ _ _=>us2 fun _ _=>rfl),h_law_due.at X G (fun _ _ _ _ _ _=>us2 fun _ _=>rfl)⟩
 have F:=fun_mk (st:=s_law) l0 c k
 have D:DefAt K mg "law" s_law ["_law_script"] _ _:=⟨F,PySem.W.mg_of X G a,F.binds (ps:=["_law_script"]) (fun _ _ _ _ _ _=>us1 fun _=>rfl)⟩
 exact ⟨_,fun s v=>.of_eq rfl,fun base _ _=>ok_law T Z D⟩
theorem walk {l:PySem.W.OpenLaw}{q:Program}{loose:List Str}{XP:(Str->Option Value)->Heap->Prop}{YP:World->Heap->Prop}{d:DefRec}{K:Params->PySem.W.Frag}(hn:l.most=some 63)(hdf:d.params.defaults=[])
  (hY:∀ (w:World) (h:Heap),YP w h->(K w.params).In h)
  (F:∀ (w:World) (mg:Str->Option Value) (fa:Addr) (h:Heap),(K w.params).In h->h.Ns mainGlobals mg->mg d.name=some (.ref fa) ->
   ∃ fd:FuncData,(∀ (s:Shared) (u:Value),BindsTo s fd ⟨[u],[]⟩ [("_law_script",u)])/\∀ base:Heap,(K w.params).In base->base.Ns mainGlobals mg->FnOkT 336 l.prog w (K w.params) mg base CX0 6 fa fd ["_law_script"] (spLaw (K w.params))) :
  WalkT 336 q loose XP YP l.row.toRowW d [] (fun f vs=>PySem.call f vs) :=
 L2.walk_ofT (n:=63) (k:=6) (x:="_law_script") (CX:=fun _=>CX0) (sp:=fun w=>spLaw (K w.params)) hn (by decide) hdf ⟨rfl,by decide,by decide⟩ hY F (fun _ _ a ns hl _ hS=>⟨a,ns,rfl,hS,hl,fun _=>rfl⟩) fun _ _ _ _ _ z=>z
end K61
noncomputable def K61.view:PySem.Program:={ PySem.Challenge.rw_stonelay_k61_boards_of_fields.prog with main:={ PySem.Challenge.rw_stonelay_k61_boards_of_fields.prog.main with body:=L2.sel [0,4,20,28] 0 PySem.Challenge.rw_stonelay_k61_boards_of_fields.prog.main.body } }
local macro_rules | `(tactic| o_head $H)=>`(tactic| (refine' L2.head_onceT (n0:=336) (q:=K61.view) (H:=$H) (N:=2802) (fun _=>by kernel_rfl) (by rfl) (by rfl) (by rfl) (by rfl) (by first | assumption | decide +kernel) (by decide +kernel) ⟨rfl,rfl,rfl,rfl,rfl,by decide +kernel⟩ ?_ ?_))
open PySem PySem.W PyProof.Rows
set_option maxRecDepth 100000 in
set_option maxHeartbeats 0 in
theorem PySem.Challenge.cw_stonelay_k61_boards_of_fields_holds : PySem.Challenge.rw_stonelay_k61_boards_of_fields.Holds := by
 w_on; refine holds_law (by kernel_rfl) fun said=>?_
 k_head; w_witness2
 k_fill
 refine K61.walk (l:=PySem.Challenge.rw_stonelay_k61_boards_of_fields) rfl rfl (fun w h Y=>PySem.W.kIn_of Y) ?F
 case F =>
  intro w mg fa h KX G hmg
  refine' K61.all_mk KX G hmg ?_ ?_ ?_ ?_ ?_ ?_ ?_ ?_ ?_ ?_ ?_ ?_ ?_ ?_ ?_ ?_ ?_ ?_ ?_ ?_ ?_ ?_ ?_ ?_ ?_ ?_ ?_ ?_ ?_ ?_ ?_ ?_ ?_ ?_ ?_ ?_ ?_ ?_ ?_ ?_ ?_ ?_ ?_ ?_ ?_ ?_
  all_goals first | k_is | exact ⟨_,_,_,_,_,_,_,_,_,_,by k_is,by k_is,by k_is,by k_is⟩ | decide | skip