import PyProof.Rows.All
import Wide.All
import OpenK.AllK
import Wide.FinOn
import Lean
import PyProof.EqAt
import PyProof.EqKinds
import PyProof.TupleCall
import PySem.Challenge.RW_duehall_k26_whole_who_holds
set_option Elab.async false
set_option linter.all false
set_option maxRecDepth 100000
namespace L2
open PySem PySem.Spec PyProof.Rows
noncomputable abbrev Key:=Sum Int Str
noncomputable def keyIs:Key->Value->Bool
 | .inl k,v=>Value.isInt k v
 | .inr x,v=>Value.isStrOf x v
noncomputable def keyH (w:World):Key->Int
 | .inl k=>hashInt k
 | .inr x=>hashStr w x
theorem keyIs_shape:∀ {k:Key} {v:Value},keyIs k v=true->(∃ i t,k=Sum.inl i/\v=Value.int i t)\/(∃ x t,k=Sum.inr x/\v=Value.str x t)
 | .inl i,v,h=>by
  obtain ⟨t,e⟩:=Value.isInt_shape (k:=i) (v:=v) h
  exact .inl ⟨i,t,rfl,e⟩
 | .inr x,v,h=>by
  obtain ⟨t,e⟩:=Value.isStrOf_shape (x:=x) (v:=v) h
  exact .inr ⟨x,t,rfl,e⟩
theorem keyIs_int (i:Int) (t:Tok):keyIs (.inl i) (.int i t)=true:=by simp [keyIs,Value.isInt]
theorem keyIs_str (x:Str) (t:Tok):keyIs (.inr x) (.str x t)=true:=by simp [keyIs,Value.isStrOf]
theorem key_ll (a b:Int):decide ((Sum.inl a:Key)=Sum.inl b)=(a == b):=by
 by_cases e:a=b
 ·subst e; simp
 ·have h:¬ (Sum.inl a:Key)=Sum.inl b:=fun q=>e (Sum.inl.inj q)
  rw [decide_eq_false h]
  exact (beq_eq_false_iff_ne.mpr e).symm
theorem key_rr (a b:Str):decide ((Sum.inr a:Key)=Sum.inr b)=decide (a=b):=by
 by_cases e:a=b
 ·subst e; simp
 ·have h:¬ (Sum.inr a:Key)=Sum.inr b:=fun q=>e (Sum.inr.inj q)
  rw [decide_eq_false h,decide_eq_false e]
theorem key_lr (a:Int) (b:Str):decide ((Sum.inl a:Key)=Sum.inr b)=false:=decide_eq_false (fun q=>nomatch q)
theorem key_rl (a:Str) (b:Int):decide ((Sum.inr a:Key)=Sum.inl b)=false:=decide_eq_false (fun q=>nomatch q)
noncomputable def mixKind (prog:Program) (w:World):PySem.KeyKind prog w Key where
 is:=keyIs
 hash:=keyH w
 inj:=fun v a b ha hb=>by
  rcases keyIs_shape ha with ⟨i,t,rfl,rfl⟩ | ⟨x,t,rfl,rfl⟩
  ·rcases keyIs_shape hb with ⟨j,u,rfl,e⟩ | ⟨y,u,rfl,e⟩
   ·injection e with e1 _; rw [e1]
   ·exact nomatch e
  ·rcases keyIs_shape hb with ⟨j,u,rfl,e⟩ | ⟨y,u,rfl,e⟩
   ·exact nomatch e
   ·injection e with e1 _; rw [e1]
 byValue:=fun k v h=>by
  rcases keyIs_shape h with ⟨i,t,rfl,rfl⟩ | ⟨x,t,rfl,rfl⟩ <;> rfl
 pyHash:=fun hv h=>by
  rcases keyIs_shape hv with ⟨i,t,rfl,rfl⟩ | ⟨x,t,rfl,rfl⟩
  ·exact wpAny_pyHash_int h
  ·exact wpAny_pyHash_str h
 eqBool:=fun hu hv h=>by
  rcases keyIs_shape hu with ⟨i,t,rfl,rfl⟩ | ⟨x,t,rfl,rfl⟩
  ·rcases keyIs_shape hv with ⟨j,u,rfl,rfl⟩ | ⟨y,u,rfl,rfl⟩
   ·rw [key_ll] at h; exact wpAny_eqBool_int h
   ·rw [key_lr] at h; exact SeqAt.EqAt.int_str i t y u _ _ _ _ h
  ·rcases keyIs_shape hv with ⟨j,u,rfl,rfl⟩ | ⟨y,u,rfl,rfl⟩
   ·rw [key_rl] at h; exact SeqAt.EqAt.str_int x t j u _ _ _ _ h
   ·rw [key_rr] at h; exact wpAny_eqBool_str h
 «strs»:=fun k x t v h=>by
  rcases keyIs_shape h with ⟨i,u,rfl,e⟩ | ⟨y,u,rfl,e⟩
  ·exact nomatch e
  ·injection e with e1 _
   subst e1
   cases v <;> rfl
theorem mixKind_int (prog:Program) (w:World) (i:Int) (t:Tok):(mixKind prog w).is (.inl i) (.int i t)=true:=keyIs_int i t
theorem mixKind_str (prog:Program) (w:World) (x:Str) (t:Tok):(mixKind prog w).is (.inr x) (.str x t)=true:=keyIs_str x t
end L2
namespace L2
open PySem PySem.Spec PyProof.Rows
inductive V where
 | non | bl (b:Bool) | int (i:Int) | str (x:Str) | byt (b:Array UInt8) | flt (b:UInt64) | ref (a:Addr) | ty (n:String)
 deriving DecidableEq
noncomputable def RelV:V->Value->Prop
 | .non,u=>u=Value.none
 | .bl b,u=>u=Value.bool b
 | .int i,u=>∃ t,u=Value.int i t
 | .str x,u=>∃ t,u=Value.str x t
 | .byt b,u=>∃ t,u=Value.bytes b t
 | .flt b,u=>∃ t,u=Value.float b t
 | .ref a,u=>u=Value.ref a
 | .ty n,u=>u=Value.type n
noncomputable abbrev Vals:List V->List Value->Prop:=Paired RelV
theorem Vals.length {xs:List V} {us:List Value} (r:Vals xs us):xs.length=us.length:=Paired.length r
theorem Vals.get:∀ {xs:List V} {us:List Value} {i:Nat} {x:V},Vals xs us->xs[i]? = some x->∃ u,us[i]? = some u/\RelV x u
 | _,_,_,_,.nil,e=>by simp at e
 | _,_,0,_,.cons r _,e=>by simp at e; subst e; exact ⟨_,rfl,r⟩
 | _,_,i + 1,x,.cons _ t,e=>by
  obtain ⟨u,h1,h2⟩:=Vals.get (i:=i) (x:=x) t (by simpa using e)
  exact ⟨u,by simpa using h1,h2⟩
theorem Vals.set {x:V} {u:Value} (r:RelV x u):∀ {xs:List V} {us:List Value} (i:Nat),Vals xs us->Vals (xs.set i x) (us.set i u)
 | _,_,_,.nil=>.nil
 | _,_,0,.cons _ t=>.cons r t
 | _,_,i + 1,.cons q t=>.cons q (Vals.set r i t)
theorem Vals.append:∀ {xs ys:List V} {us ws:List Value},Vals xs us->Vals ys ws->Vals (xs ++ ys) (us ++ ws)
 | _,_,_,_,.nil,s=>s
 | _,_,_,_,.cons r t,s=>.cons r (Vals.append t s)
noncomputable def RelO:Option V->Option Value->Prop
 | some v,some u=>RelV v u
 | none,none=>True
 | _,_=>False
noncomputable def KV {κ:Type}:List (κ × V)->List (κ × Value)->Prop:=Paired fun (p:κ × V) (q:κ × Value)=>p.1=q.1/\RelV p.2 q.2
noncomputable def kV:Key->V
 | .inl i=>.int i
 | .inr x=>.str x
inductive HO where
 | lst (xs:List V)
 | tup (xs:List V)
 | dK (kvs:List (Key × V)) | dT (kvs:List (List Key × V))
 | set (S:Int->Bool) (n:Nat)
 | ins (C dx:Addr) (fs:List (Str × V))
 | own (x:Addr)
 | xd (fs:List (Str × V))
 | met (f x:Addr)
 | rng (lo hi:Int)
 | frz (o:Obj) (u:HO)
 | tbl (ps:Array Value)
 | ext (φ:Heap->Prop)
noncomputable abbrev Hp:=Addr->Option HO
noncomputable def upd (H:Hp) (a:Addr) (o:HO):Hp:=fun b=>if b=a then some o else H b
theorem upd_same {H:Hp} {a:Addr} {o:HO}:upd H a o a=some o:=by unfold upd; rw [if_pos rfl]
theorem upd_ne {H:Hp} {a b:Addr} {o:HO} (h:b ≠ a):upd H a o b=H b:=by unfold upd; rw [if_neg h]
theorem ne_of {H:Hp} {a b:Addr} {o u:HO} (h:H a=some o) (h':H b=some u) (d:o ≠ u):a ≠ b:=by
 intro e; subst e; rw [h] at h'; exact d (Option.some.inj h')
theorem ne_of_none {H:Hp} {a b:Addr} {o:HO} (h:H a=some o) (h':H b=none):a ≠ b:=by
 intro e; subst e; rw [h] at h'; cases h'
section
variable (P:Program) (w:World)
noncomputable def ObjOk (H:Hp) (h:Heap) (a:Addr):HO->Prop
 | .lst xs=>xs.length<=sizeLine/\∃ (its:List Value) (n:Nat),Vals xs its/\h.get? a=some { cls:=.type "list",data:=.seq its.toArray n }
 | .tup xs=>xs.length<=sizeLine/\∃ its:List Value,Vals xs its/\IsTup h a its.toArray
 | .dK kvs=>kvs.length<=sizeLine/\(a == sysModules)=false/\∃ vs,KV kvs vs/\h.DictOf (mixKind P w) a vs
 | .dT kvs=>kvs.length<=sizeLine/\(a == sysModules)=false/\∃ xs:List (List Key × Addr × Value),
   Paired (fun (p:List Key × V) (q:List Key × Addr × Value)=>p.1=q.1/\H q.2.1=some (.tup (p.1.map kV))/\RelV p.2 q.2.2) kvs xs/\
   ∃ o es ep,h.get? a=some o/\o.ExactDict/\o.data=.dict es ep/\es.toList=xs.map (entryOfKey (tupleKind (mixKind P w)))/\(xs.map (·.1)).Nodup
 | .set S n=>h.SetOf (intKind P w) a S n
 | .ins C dx fs=>H dx=some (.own a)/\fs.length<=1000/\dx ≠ a/\h.get? a=some (PySem.W.instObj C dx)/\
   ∃ mA,h.Ns1 dx mA/\(∀ f,RelO (fs.lookup f) (mA f))/\PySem.Within mA (fs.map (·.1))
 | .own _=>∃ o,h.get? a=some o
 | .xd fs=>∃ mA,h.Ns1 a mA/\∀ f,RelO (fs.lookup f) (mA f)
 | .rng lo hi=>∃ t u v,h.get? a=some { cls:=.type "range",data:=.fields #[.int lo t,.int hi u,.int 1 v] }
 | .frz o u=>h.get? a=some o/\ObjOk H h a u
 | .tbl ps=>h.get? a=some { cls:=.none,data:=.fields ps }
 | .met f x=>h.get? a=some (PySem.W.methodObj (.ref f) (.ref x))
 | .ext φ=>φ h/\(∃ o,h.get? a=some o)/\∀ h1 h2:Heap,φ h1->(∀ o,h1.get? a=some o->h2.get? a=some o)->φ h2
noncomputable def HOk (H:Hp) (h:Heap):Prop:=∀ a o,H a=some o->ObjOk P w H h a o
end
section
variable {P:Program} {w:World} {H H':Hp} {h h':Heap} {a:Addr} {o:HO}
theorem ObjOk.lt (x:ObjOk P w H h a o):a < h.objs.size:=by
 cases o with
 | lst xs=>obtain ⟨_,_,_,_,e⟩:=x; exact Heap.lt_size e
 | tup xs=>obtain ⟨_,_,_,p⟩:=x; exact p.lt
 | dK kvs=>obtain ⟨_,_,_,_,o,_,_,e,_⟩:=x; exact Heap.lt_size e
 | dT kvs=>obtain ⟨_,_,_,_,o,_,_,e,_⟩:=x; exact Heap.lt_size e
 | set S n=>obtain ⟨o,_,_,_,e,_⟩:=x; exact Heap.lt_size e
 | ins C dx fs=>obtain ⟨_,_,_,e,_⟩:=x; exact Heap.lt_size e
 | own y=>obtain ⟨_,e⟩:=x; exact Heap.lt_size e
 | xd fs=>obtain ⟨_,⟨_,_,_,e,_⟩,_⟩:=x; exact Heap.lt_size e
 | rng lo hi=>obtain ⟨_,_,_,e⟩:=x; exact Heap.lt_size e
 | frz ob u=>obtain ⟨e,_⟩:=x; exact Heap.lt_size e
 | tbl ps=>exact Heap.lt_size (show h.get? a=some _ from x)
 | met f y=>exact Heap.lt_size (show h.get? a=some _ from x)
 | ext φ=>obtain ⟨_,⟨_,e⟩,_⟩:=x; exact Heap.lt_size e
theorem Paired.mapP {α β:Type} {F G:α->β->Prop}:∀ {l₁:List α} {l₂:List β},Paired F l₁ l₂->(∀ a b,F a b->G a b)->Paired G l₁ l₂
 | _,_,.nil,_=>.nil
 | _,_,.cons r t,f=>.cons (f _ _ r) (Paired.mapP t f)
theorem ObjOk.stay (x:ObjOk P w H h a o) (k:∀ b u,(b=a\/H b=some (.own a))->h.get? b=some u->h'.get? b=some u)
  (ho:∀ b,H b=some (.own a)->H' b=some (.own a)) (ht:∀ b xs,H b=some (.tup xs)->H' b=some (.tup xs)):ObjOk P w H' h' a o:=by
 induction o with
 | lst xs=>obtain ⟨z,its,n,r,e⟩:=x; exact ⟨z,its,n,r,k _ _ (.inl rfl) e⟩
 | tup xs=>obtain ⟨z,its,r,ob,e,c⟩:=x; exact ⟨z,its,r,ob,k _ _ (.inl rfl) e,c⟩
 | dK kvs=>obtain ⟨z,y,vs,r,ob,es,ep,e,c⟩:=x; exact ⟨z,y,vs,r,ob,es,ep,k _ _ (.inl rfl) e,c⟩
 | dT kvs=>
  obtain ⟨z,y,xs,r,ob,es,ep,e,c⟩:=x
  exact ⟨z,y,xs,Paired.mapP r fun p q z=>⟨z.1,ht _ _ z.2.1,z.2.2⟩,ob,es,ep,k _ _ (.inl rfl) e,c⟩
 | set S n=>obtain ⟨ob,es,ep,t,e,c⟩:=x; exact ⟨ob,es,ep,t,k _ _ (.inl rfl) e,c⟩
 | ins C dx fs=>
  obtain ⟨d,z,ne,e,mA,⟨od,es,ep,e2,c⟩,r⟩:=x
  exact ⟨ho _ d,z,ne,k _ _ (.inl rfl) e,mA,⟨od,es,ep,k _ _ (.inr d) e2,c⟩,r⟩
 | own y=>obtain ⟨ob,e⟩:=x; exact ⟨ob,k _ _ (.inl rfl) e⟩
 | xd fs=>obtain ⟨mA,⟨od,es,ep,e,c⟩,r⟩:=x; exact ⟨mA,⟨od,es,ep,k _ _ (.inl rfl) e,c⟩,r⟩
 | rng lo hi=>obtain ⟨t,u,v,e⟩:=x; exact ⟨t,u,v,k _ _ (.inl rfl) e⟩
 | frz ob u ih=>obtain ⟨e,q⟩:=x; exact ⟨k _ _ (.inl rfl) e,ih q⟩
 | tbl ps=>
  have e:h.get? a=some { cls:=.none,data:=.fields ps }:=x
  show h'.get? a=some { cls:=.none,data:=.fields ps }
  exact k a _ (.inl rfl) e
 | met f y=>
  have e:h.get? a=some (PySem.W.methodObj (.ref f) (.ref y)):=x
  show h'.get? a=some (PySem.W.methodObj (.ref f) (.ref y))
  exact k a _ (.inl rfl) e
 | ext φ=>obtain ⟨p,⟨o,e⟩,st⟩:=x; exact ⟨st _ _ p fun o q=>k _ _ (.inl rfl) q,⟨o,k _ _ (.inl rfl) e⟩,st⟩
theorem HOk.lt (x:HOk P w H h) (e:H a=some o):a < h.objs.size:=(x a o e).lt
theorem HOk.fresh (x:HOk P w H h) (e:h.objs.size<=a):H a=none:=by
 cases q:H a with
 | none=>rfl
 | some u=>exact absurd (Nat.lt_of_lt_of_le (x.lt q) e) (Nat.lt_irrefl _)
theorem HOk.kept (x:HOk P w H h) (k:∀ b u,h.get? b=some u->h'.get? b=some u):HOk P w H h':=fun a o e=>
 (x a o e).stay (fun b u _ q=>k b u q) (fun _ q=>q) fun _ _ q=>q
theorem HOk.laid (x:HOk P w H h) (k:∀ b u,h.get? b=some u->h'.get? b=some u) (hp:h.objs.size<=a) (new:ObjOk P w (upd H a o) h' a o):HOk P w (upd H a o) h':=fun b u e=>by
 have hn:=x.fresh hp
 by_cases hb:b=a
 ·subst hb; rw [upd_same] at e; cases e; exact new
 ·rw [upd_ne hb] at e
  exact (x b u e).stay (fun c v _ q=>k c v q) (fun c q=>by rw [upd_ne (ne_of_none q hn)]; exact q) fun c xs q=>by rw [upd_ne (ne_of_none q hn)]; exact q
end
noncomputable def Rd (H:Hp) (a:Addr) (u:HO):Prop:=H a=some u\/∃ o,H a=some (.frz o u)
theorem Rd.of {H:Hp} {a:Addr} {u:HO} (h:H a=some u):Rd H a u:=.inl h
theorem Rd.ok {P:Program} {w:World} {H:Hp} {h:Heap} {a:Addr} {u:HO} (r:Rd H a u) (x:HOk P w H h):ObjOk P w H h a u:=by
 rcases r with r | ⟨o,r⟩
 ·exact x a u r
 ·obtain ⟨_,q⟩:=x a _ r
  exact q
noncomputable def Mut:Option HO->Prop
 | some (.lst _)=>True
 | some (.dK _)=>True
 | some (.dT _)=>True
 | some (.set _ _)=>True
 | some (.ins _ _ _)=>True
 | some (.ext _)=>True
 | _=>False
section
variable {P:Program} {w:World} {H:Hp} {h h':Heap} {x e:Addr} {o':HO}
theorem HOk.write (ok:HOk P w H h) (mu:Mut (H x)) (he:e=x\/H e=some (.own x)) (k:∀ b u,b ≠ e->h.get? b=some u->h'.get? b=some u) (heo:∃ u,h'.get? e=some u)
  (new:ObjOk P w (upd H x o') h' x o'):HOk P w (upd H x o') h':=fun b u q=>by
 have nown:∀ c y,H c=some (.own y)->c ≠ x:=fun c y r z=>by subst z; rw [r] at mu; exact mu
 have ntup:∀ c xs,H c=some (.tup xs)->c ≠ x:=fun c xs r z=>by subst z; rw [r] at mu; exact mu
 by_cases hb:b=x
 ·subst hb; rw [upd_same] at q; cases q; exact new
 ·rw [upd_ne hb] at q
  by_cases hbe:b=e
  ·have q':H b=some (.own x):=by
    rcases he with z | z
    ·exact absurd (hbe.trans z) hb
    ·rw [hbe]; exact z
   rw [q] at q'; cases q'
   obtain ⟨v,hv⟩:=heo
   exact ⟨v,by rw [hbe]; exact hv⟩
  ·refine (ok b u q).stay (fun c v hc r=>k c v ?_ r) (fun c r=>by rw [upd_ne (nown c b r)]; exact r) fun c xs r=>by rw [upd_ne (ntup c xs r)]; exact r
   rcases hc with rfl | hc
   ·exact hbe
   ·rintro rfl
    rcases he with z | z
    ·exact nown c b hc z
    ·rw [hc] at z; cases z; exact hb rfl
end
structure Un (fs ex:List Addr) (H H':Hp) (h h':Heap):Prop where
 keep:∀ b o,h.get? b=some o->H b=none->b ∉ fs->b ∉ ex->h'.get? b=some o
 slot:∀ b o,h.get? b=some o->H b=none->b ∈ fs->b ∉ ex->∃ sl,h'.get? b=some { o with slots:=sl }
 free:∀ b o,h.get? b=some o->H b=none->b ∉ ex->H' b=none
 there:∀ b o,h.get? b=some o->b ∉ ex->∃ o',h'.get? b=some o'
 tups:∀ b xs,H b=some (.tup xs)->H' b=some (.tup xs)
 frzs:∀ b o u,H b=some (.frz o u)->H' b=some (.frz o u)
 tbls:∀ b ps,H b=some (.tbl ps)->∃ more,H' b=some (.tbl (ps ++ more))
section
variable {fs fs' ex ex':List Addr} {H H1 H2:Hp} {h h1 h2 h':Heap} {a x e:Addr} {o:HO}
theorem Un.any (u:Un fs ex H H1 h h1) {b:Addr} {ob:Obj} (q:h.get? b=some ob) (n:H b=none) (hx:b ∉ ex):∃ sl,h1.get? b=some { ob with slots:=sl }:=by
 by_cases hb:b ∈ fs
 ·exact u.slot b ob q n hb hx
 ·exact ⟨ob.slots,u.keep b ob q n hb hx⟩
theorem Un.kept (k:∀ b u,h.get? b=some u->h'.get? b=some u):Un fs ex H H h h':=
 ⟨fun b ob q _ _ _=>k b ob q,fun b ob q _ _ _=>⟨ob.slots,k b ob q⟩,fun _ _ _ n _=>n,fun b ob q _=>⟨ob,k b ob q⟩,fun _ _ q=>q,fun _ _ _ q=>q,fun _ ps q=>⟨#[],by rw [q]; simp⟩⟩
theorem Un.refl:Un fs ex H H h h:=Un.kept fun _ _ q=>q
theorem Un.laid (k:∀ b u,h.get? b=some u->h'.get? b=some u) (hp:h.objs.size<=a) (hn:H a=none):Un fs ex H (upd H a o) h h' where
 keep:=fun b u q _ _ _=>k b u q
 slot:=fun b u q _ _ _=>⟨u.slots,k b u q⟩
 free:=fun b u q n _=>by rw [upd_ne (Nat.ne_of_lt (Nat.lt_of_lt_of_le (Heap.lt_size q) hp))]; exact n
 there:=fun b u q _=>⟨u,k b u q⟩
 tups:=fun b xs q=>by rw [upd_ne (ne_of_none q hn)]; exact q
 frzs:=fun b u xs q=>by rw [upd_ne (ne_of_none q hn)]; exact q
 tbls:=fun b ps q=>⟨#[],by rw [upd_ne (ne_of_none q hn),q]; simp⟩
theorem Un.write (mu:Mut (H x)) (he:e=x\/H e=some (.own x)) (k:∀ b u,b ≠ e->h.get? b=some u->h'.get? b=some u) (heo:∃ u,h'.get? e=some u):Un fs ex H (upd H x o) h h':=by
 have hx:∀ b,H b=none->b ≠ x:=fun b n z=>by subst z; rw [n] at mu; exact mu
 have hb:∀ b,H b=none->b ≠ e:=fun b n z=>by
  subst z
  rcases he with r | r
  ·exact hx b n r
  ·rw [n] at r; cases r
 have hm:∀ b u,H b=some u->¬ Mut (some u)->b ≠ x:=fun b u q nm z=>by subst z; rw [q] at mu; exact nm mu
 refine ⟨fun b u q n _ _=>k b u (hb b n) q,fun b u q n _ _=>⟨u.slots,k b u (hb b n) q⟩,fun b u q n _=>by rw [upd_ne (hx b n)]; exact n,fun b u q _=>?_,
  fun b xs q=>by rw [upd_ne (hm b _ q fun z=>z)]; exact q,fun b u xs q=>by rw [upd_ne (hm b _ q fun z=>z)]; exact q,fun b ps q=>⟨#[],by rw [upd_ne (hm b _ q fun z=>z),q]; simp⟩⟩
 by_cases hbe:b=e
 ·subst hbe; exact heo
 ·exact ⟨u,k b u hbe q⟩
end
noncomputable def trk (h:Heap) (H:Hp):List Addr:=(List.range h.objs.size).filter fun a=>(H a).isSome
noncomputable def hidT (h:Heap) (H:Hp):Heap:=PySem.W.hideAll h (trk h H)
theorem hidT_size (h:Heap) (H:Hp):(hidT h H).objs.size=h.objs.size:=PySem.W.hideAll_size _ _
theorem hidT_get {h:Heap} {H:Hp} {b:Addr} {o:Obj} (e:h.get? b=some o) (n:H b=none):(hidT h H).get? b=some o:=
 PySem.W.hideAll_get _ e fun hm=>by
  have q:(H b).isSome=true:=(List.mem_filter.mp hm).2
  rw [n] at q; simp at q
theorem of_hidT {h:Heap} {H:Hp} {b:Addr} {o:Obj} (e:(hidT h H).get? b=some o):h.get? b=some o/\H b=none:=by
 have e':h.get? b=some o:=PySem.W.of_hideAll (trk h H) e
 refine ⟨e',?_⟩
 cases q:H b with
 | none=>rfl
 | some x=>
  have hm:b ∈ trk h H:=List.mem_filter.mpr ⟨List.mem_range.mpr (Heap.lt_size e'),by simp [q]⟩
  have z:(hidT h H).get? b=none:=PySem.W.hideAll_none (trk h H) hm
  rw [z] at e; cases e
end L2
namespace L2
open PySem PySem.Spec PyProof.Rows
structure Mod (K:PySem.W.Frag) (mg:Str->Option Value) (base:Heap):Prop where
 kin:K.In base
 glob:base.Ns mainGlobals mg
 blt:∃ mb,base.Ns builtinsNs mb/\∀ x:Str,x ≠ "__name__"->mb x=bootBuiltins x
 nolimit:base.NoLimit
structure Cx where
 prog:Program
 w:World
 K:PySem.W.Frag
 mg:Str->Option Value
 base:Heap
 A:Around
 N:List Str
 s₀:Shared
 H₀:Hp
 env:Env
 outer:List Env
 stack:List Env
 ex:List Addr
 fn:Str->Bool
 calm:Bool
 pn:List (Addr × Obj)
 xe:Value->Shared->Prop
noncomputable def frs (l:List Env):List Addr:=l.filterMap (·.frame)
noncomputable abbrev Cx.fs (X:Cx):List Addr:=frs X.outer
noncomputable def Vis (sc:Scope) (x:Str):Prop:=sc.names.lookup x=some .local\/sc.names.lookup x=some .cell\/sc.names.lookup x=some .free
noncomputable def Loc (sc:Scope) (x:Str):Prop:=sc.names.lookup x=some .local\/sc.names.lookup x=some .cell
noncomputable def Look (env:Env) (h:Heap) (m:Str->Option Value) (x:Str) (u:Value):Prop:=
 (env.kindOf x=some .local/\m x=some u)\/((env.kindOf x=some .cell\/env.kindOf x=some .free)/\∃ c,env.cells.lookup x=some c/\h.IsCell c (some u))
structure Cx.Ok (X:Cx):Prop where
 mod:Mod X.K X.mg X.base
 kind:X.env.scope.kind=.function
 glob:X.env.globals=mainGlobals
 blt:X.env.builtins=builtinsNs
 above:X.s₀.heap.objs.size<=X.env.locals
 inj:∀ x y c,X.env.cells.lookup x=some c->X.env.cells.lookup y=some c->x=y
 has:∀ x,(X.env.kindOf x=some .cell\/X.env.kindOf x=some .free)->∃ c,X.env.cells.lookup x=some c
 cab:∀ x c,X.fn x=true->X.env.cells.lookup x=some c->X.s₀.heap.objs.size<=c
 hd:X.calm=true->X.A.handled=none
 frames:X.A.frames=some X.stack
 stk:X.stack=X.outer\/(X.stack=X.env :: X.outer/\X.env.frame=some X.env.locals)
 exf:∀ b ∈ X.ex,b ≠ X.env.locals/\∀ x c,X.env.cells.lookup x=some c->c ≠ b
 bs:∀ b o,X.base.get? b=some o->X.s₀.heap.get? b=some o/\X.H₀ b=none
 bsz:X.base.objs.size<=X.s₀.heap.objs.size
 noex:∀ b o,X.base.get? b=some o->b ∉ X.ex
 exfs:∀ b ∈ X.ex,b ∉ X.fs
 funs:X.s₀.heap.FunFrames X.base X.outer
 frf:∀ b ∈ X.fs,X.H₀ b=none
structure Inv (X:Cx) (pins:List (Addr × Obj)) (σ:List (Option V)) (H:Hp) (s:Shared):Prop where
 ok:X.Ok
 os:s.os=X.s₀.os
 bare:AllBare s.gens
 base:Un X.fs X.ex X.H₀ H X.s₀.heap s.heap
 loc:∃ m,s.heap.Ns X.env.locals m/\∀ (i:Nat) (x:Str) (v:V),X.N[i]? = some x->σ[i]? = some (some v)->Vis X.env.scope x->∃ u,RelV v u/\Look X.env s.heap m x u
 cell:∀ x c,X.env.cells.lookup x=some c->∃ v,s.heap.IsCell c v
 free:H X.env.locals=none
 freeC:∀ x c,X.env.cells.lookup x=some c->H c=none
 pin:∀ p ∈ X.pn ++ pins,s.heap.get? p.1=some p.2/\H p.1=none/\p.1 ≠ X.env.locals/\p.1 ∉ X.fs/\∀ v,p.2.data ≠ .cell v
 hok:HOk X.prog X.w H s.heap
 len:σ.length=X.N.length
section
variable {X:Cx} {pins:List (Addr × Obj)} {σ:List (Option V)} {H H':Hp} {s:Shared} {h':Heap}
theorem Cx.Ok.nofr (ok:X.Ok) {b:Addr} {o:Obj} (e:X.base.get? b=some o):b ∉ X.fs:=fun hb=>by
 have:=(ok.funs.mem hb).1
 rw [e] at this; cases this
theorem Inv.bs (I:Inv X pins σ H s):∀ b o,X.base.get? b=some o->s.heap.get? b=some o/\H b=none:=fun b o e=>
 ⟨I.base.keep b o (I.ok.bs b o e).1 (I.ok.bs b o e).2 (I.ok.nofr e) (I.ok.noex b o e),I.base.free b o (I.ok.bs b o e).1 (I.ok.bs b o e).2 (I.ok.noex b o e)⟩
theorem Inv.bk (I:Inv X pins σ H s):∀ b o,X.base.get? b=some o->s.heap.get? b=some o:=fun b o e=>(I.bs b o e).1
theorem Inv.mod (I:Inv X pins σ H s):Mod X.K X.mg X.base:=I.ok.mod
theorem Inv.kIn (I:Inv X pins σ H s):X.K.In s.heap:=I.ok.mod.kin.keeps I.bk
theorem Inv.lt (I:Inv X pins σ H s):X.env.locals < s.heap.objs.size:=let ⟨_,hn,_⟩:=I.loc; hn.lt
theorem Inv.sz (I:Inv X pins σ H s):X.s₀.heap.objs.size<=s.heap.objs.size:=Nat.le_trans I.ok.above (Nat.le_of_lt I.lt)
theorem Inv.nofs (I:Inv X pins σ H s) {a:Addr} (h:s.heap.objs.size<=a):a ∉ X.fs:=fun hb=>by
 obtain ⟨_,o,ho,_⟩:=I.ok.funs.mem hb
 exact absurd (Nat.lt_of_lt_of_le (Heap.lt_size ho) (Nat.le_trans I.sz h)) (Nat.lt_irrefl _)
theorem Inv.cne (I:Inv X pins σ H s):∀ x c,X.env.cells.lookup x=some c->c ≠ X.env.locals:=fun x c e z=>by
 obtain ⟨v,o,ho,hd⟩:=I.cell x c e
 obtain ⟨m,⟨o',es,ep,ho',hd',_⟩,_⟩:=I.loc
 rw [z,ho'] at ho; cases ho; rw [hd'] at hd; cases hd
theorem Inv.funs (I:Inv X pins σ H s):s.heap.FunFrames X.base X.outer:=by
 have all:∀ (l:List Env),(∀ b ∈ frs l,b ∈ X.fs)->X.s₀.heap.FunFrames X.base l->s.heap.FunFrames X.base l:=by
  intro l
  induction l with
  | nil=>intro _ _; trivial
  | cons env r ih=>
   intro hs hl
   obtain ⟨hk,⟨L,o,hf,hn,ho,hd⟩,hr⟩:=hl
   have hL:L ∈ X.fs:=hs L (by unfold frs; rw [List.filterMap_cons,hf]; exact List.mem_cons_self)
   obtain ⟨sl,e⟩:=I.base.slot L o ho (I.ok.frf L hL) hL fun z=>I.ok.exfs L z hL
   exact ⟨hk,⟨L,_,hf,hn,e,hd⟩,ih (fun b hb=>hs b (by unfold frs; rw [List.filterMap_cons,hf]; exact List.mem_cons_of_mem _ hb)) hr⟩
 exact all X.outer (fun _ hb=>hb) I.ok.funs
theorem Inv.stack (I:Inv X pins σ H s):s.heap.FunFrames X.base X.stack:=by
 rcases I.ok.stk with e | ⟨e,hf⟩
 ·rw [e]; exact I.funs
 ·rw [e]
  obtain ⟨m,hn,_⟩:=I.loc
  refine .cons (by rw [I.ok.kind]; decide) hf hn ?_ I.funs
  exact Heap.get?_none_of_le (Nat.le_trans I.ok.bsz I.ok.above)
theorem Inv.stkSub (I:Inv X pins σ H s):∀ b ∈ frs X.stack,b ∈ X.env.locals :: X.fs:=fun b hb=>by
 rcases I.ok.stk with e | ⟨e,hf⟩
 ·rw [e] at hb; exact List.mem_cons_of_mem _ hb
 ·rw [e] at hb
  unfold frs at hb
  rw [List.filterMap_cons,hf] at hb
  exact hb
theorem Inv.stkFree (I:Inv X pins σ H s):∀ b ∈ frs X.stack,H b=none:=fun b hb=>by
 rcases List.mem_cons.mp (I.stkSub b hb) with e | hb
 ·rw [e]; exact I.free
 ·obtain ⟨_,o,ho,_⟩:=I.ok.funs.mem hb
  exact I.base.free b o ho (I.ok.frf b hb) fun z=>I.ok.exfs b z hb
theorem Inv.step {g':Array GenState} {t':Nat} {d':Drawn} {ch:List Addr} (I:Inv X pins σ H s)
  (hch:∀ b ∈ ch,(b ∈ X.ex\/X.s₀.heap.objs.size<=b)/\b ≠ X.env.locals/\(∀ x c,X.env.cells.lookup x=some c->c ≠ b)/\∀ p ∈ X.pn ++ pins,p.1 ≠ b)
  (keep:∀ b o,b ≠ X.env.locals->b ∉ X.fs->b ∉ ch->s.heap.get? b=some o->H b=none->h'.get? b=some o)
  (slot:∀ b o,b ≠ X.env.locals->b ∈ X.fs->b ∉ ch->s.heap.get? b=some o->H b=none->∃ sl,h'.get? b=some { o with slots:=sl }) (free:∀ b o,b ∉ ch->s.heap.get? b=some o->H b=none->H' b=none)
  (there:∀ b o,b ∉ ch->s.heap.get? b=some o->∃ o',h'.get? b=some o')
  (tups:∀ b xs,H b=some (.tup xs)->H' b=some (.tup xs)) (frzs:∀ b o u,H b=some (.frz o u)->H' b=some (.frz o u)) (tbls:∀ b ps,H b=some (.tbl ps)->∃ more,H' b=some (.tbl (ps ++ more)))
  (ns:∀ m,s.heap.Ns X.env.locals m->h'.Ns X.env.locals m) (hok:HOk X.prog X.w H' h') (hg:AllBare g') :
  Inv X pins σ H' { s with heap:=h',gens:=g',drawn:=d',toks:=t' }:=by
 have neL:∀ b o,X.s₀.heap.get? b=some o->b ≠ X.env.locals:=fun b o e=>Nat.ne_of_lt (Nat.lt_of_lt_of_le (Heap.lt_size e) I.ok.above)
 have neC:∀ b o,X.s₀.heap.get? b=some o->b ∉ X.ex->b ∉ ch:=fun b o e hx hb=>by
  rcases (hch b hb).1 with z | z
  ·exact hx z
  ·exact absurd (Nat.lt_of_lt_of_le (Heap.lt_size e) z) (Nat.lt_irrefl _)
 have cellK:∀ x c,X.env.cells.lookup x=some c->∀ v,s.heap.IsCell c v->h'.IsCell c v:=fun x c e v ⟨o,ho,hd⟩=>by
  have nch:c ∉ ch:=fun z=>(hch c z).2.2.1 x c e rfl
  by_cases hc:c ∈ X.fs
  ·obtain ⟨sl,q⟩:=slot c o (I.cne x c e) hc nch ho (I.freeC x c e)
   exact ⟨_,q,hd⟩
  ·exact ⟨o,keep c o (I.cne x c e) hc nch ho (I.freeC x c e),hd⟩
 refine ⟨I.ok,I.os,hg,⟨fun b o e n hb hx=>?_,fun b o e n hb hx=>?_,fun b o e n hx=>?_,fun b o e hx=>?_,fun b xs e=>tups b xs (I.base.tups b xs e),fun b o xs e=>frzs b o xs (I.base.frzs b o xs e),fun b ps e=>?_⟩,?_,fun x c e=>?_,?_,fun x c e=>?_,fun p hp=>?_,hok,I.len⟩
 ·exact keep b o (neL b o e) hb (neC b o e hx) (I.base.keep b o e n hb hx) (I.base.free b o e n hx)
 ·obtain ⟨sl,e1⟩:=I.base.slot b o e n hb hx
  obtain ⟨sl',e2⟩:=slot b _ (neL b o e) hb (neC b o e hx) e1 (I.base.free b o e n hx)
  exact ⟨sl',e2⟩
 ·obtain ⟨o',e1⟩:=I.base.there b o e hx
  exact free b o' (neC b o e hx) e1 (I.base.free b o e n hx)
 ·obtain ⟨o',e1⟩:=I.base.there b o e hx
  exact there b o' (neC b o e hx) e1
 ·obtain ⟨m1,e1⟩:=I.base.tbls b ps e
  obtain ⟨m2,e2⟩:=tbls b _ e1
  exact ⟨m1 ++ m2,by rw [e2,Array.append_assoc]⟩
 ·obtain ⟨m,hn,hl⟩:=I.loc
  refine ⟨m,ns m hn,fun i x v e1 e2 e3=>?_⟩
  obtain ⟨u,r,l⟩:=hl i x v e1 e2 e3
  refine ⟨u,r,?_⟩
  rcases l with l | ⟨k,c,e,z⟩
  ·exact .inl l
  ·exact .inr ⟨k,c,e,cellK x c e _ z⟩
 ·obtain ⟨v,z⟩:=I.cell x c e
  exact ⟨v,cellK x c e v z⟩
 ·obtain ⟨m,⟨o,_,_,ho,_⟩,_⟩:=I.loc
  exact free _ o (fun z=>(hch _ z).2.1 rfl) ho I.free
 ·obtain ⟨v,o,ho,hd⟩:=I.cell x c e
  exact free c o (fun z=>(hch c z).2.2.1 x c e rfl) ho (I.freeC x c e)
 ·obtain ⟨e,n,ne,nf,d⟩:=I.pin p hp
  have nch:p.1 ∉ ch:=fun z=>(hch p.1 z).2.2.2 p hp rfl
  exact ⟨keep p.1 p.2 ne nf nch e n,free p.1 p.2 nch e n,ne,nf,d⟩
theorem Inv.un {t':Nat} (I:Inv X pins σ H s) (u:Un X.fs [] H H' s.heap h') (hok:HOk X.prog X.w H' h'):Inv X pins σ H' { s with heap:=h',toks:=t' }:=by
 obtain ⟨m,⟨o,es,ep,ho,r⟩,_⟩:=id I.loc
 obtain ⟨sl,hL⟩:=u.any ho I.free (by simp)
 exact I.step (g':=s.gens) (d':=s.drawn) (ch:=[]) (fun _ z=>nomatch z) (fun b o _ hb _ e n=>u.keep b o e n hb (by simp)) (fun b o _ hb _ e n=>u.slot b o e n hb (by simp)) (fun b o _ e n=>u.free b o e n (by simp)) (fun b o _ e=>u.there b o e (by simp)) u.tups u.frzs u.tbls (fun m' hm=>by
  obtain ⟨o',es',ep',ho',r'⟩:=hm
  rw [ho] at ho'; cases ho'
  exact ⟨_,es',ep',hL,r'⟩) hok I.bare
theorem Inv.call {g':Array GenState} {t':Nat} {d':Drawn} {ch:List Addr} (I:Inv X pins σ H s) (u:Un (frs X.stack) ch H H' s.heap h') (hok:HOk X.prog X.w H' h') (hg:AllBare g')
  (hch:∀ b ∈ ch,(b ∈ X.ex\/X.s₀.heap.objs.size<=b)/\b ≠ X.env.locals/\(∀ x c,X.env.cells.lookup x=some c->c ≠ b)/\∀ p ∈ X.pn ++ pins,p.1 ≠ b) :
  Inv X pins σ H' { s with heap:=h',gens:=g',drawn:=d',toks:=t' }:=by
 obtain ⟨m,⟨o,es,ep,ho,r⟩,_⟩:=id I.loc
 obtain ⟨sl,hL⟩:=u.any ho I.free fun z=>(hch _ z).2.1 rfl
 exact I.step (ch:=ch) hch (fun b o hL hb hc e n=>u.keep b o e n (fun z=>(List.mem_cons.mp (I.stkSub b z)).elim hL hb) hc) (fun b o _ _ hc e n=>u.any e n hc) (fun b o hc e n=>u.free b o e n hc) (fun b o hc e=>u.there b o e hc) u.tups u.frzs u.tbls (fun m' hm=>by
  obtain ⟨o',es',ep',ho',r'⟩:=hm
  rw [ho] at ho'; cases ho'
  exact ⟨_,es',ep',hL,r'⟩) hok hg
theorem Inv.turned {t':Nat} {it:Addr} (I:Inv X pins σ H s) (k:∀ b o,b ≠ it->s.heap.get? b=some o->h'.get? b=some o) (hn:H it=none) (hL:it ≠ X.env.locals)
  (h1:it ∈ X.ex\/X.s₀.heap.objs.size<=it) (h2:∀ x c,X.env.cells.lookup x=some c->c ≠ it) (h3:∀ p ∈ X.pn ++ pins,p.1 ≠ it):Inv X pins σ H { s with heap:=h',toks:=t' }:=by
 have nit:∀ b u,H b=some u->b ≠ it:=fun b u e z=>by rw [z,hn] at e; cases e
 refine I.step (g':=s.gens) (d':=s.drawn) (ch:=[it]) (fun b hb=>?_) (fun b o _ _ hc e _=>k b o (fun z=>hc (by simp [z])) e) (fun b o _ _ hc e _=>⟨o.slots,k b o (fun z=>hc (by simp [z])) e⟩) (fun _ _ _ _ n=>n)
  (fun b o hc e=>⟨o,k b o (fun z=>hc (by simp [z])) e⟩) (fun _ _ e=>e) (fun _ _ _ e=>e) (fun b ps e=>⟨#[],by rw [e]; simp⟩) (fun m hm=>?_) (fun b u e=>?_) I.bare
 ·have e:b=it:=by simpa using hb
  subst e
  exact ⟨h1,hL,h2,h3⟩
 ·obtain ⟨o,es,ep,ho,r⟩:=hm
  exact ⟨o,es,ep,k _ o (Ne.symm hL) ho,r⟩
 ·refine (I.hok b u e).stay (fun c v hc q=>k c v ?_ q) (fun _ q=>q) fun _ _ q=>q
  rcases hc with z | z
  ·rw [z]; exact nit b u e
  ·exact nit c _ z
theorem Inv.tok (I:Inv X pins σ H s) (t:Nat):Inv X pins σ H { s with toks:=t }:=I.un (h':=s.heap) (t':=t) Un.refl I.hok
theorem Inv.kept {t':Nat} (I:Inv X pins σ H s) (k:∀ b u,s.heap.get? b=some u->h'.get? b=some u):Inv X pins σ H { s with heap:=h',toks:=t' }:=I.un (Un.kept k) (I.hok.kept k)
theorem Inv.laid {a:Addr} {o:HO} {t':Nat} (I:Inv X pins σ H s) (k:∀ b u,s.heap.get? b=some u->h'.get? b=some u) (hp:s.heap.objs.size<=a) (new:ObjOk X.prog X.w (upd H a o) h' a o) :
  Inv X pins σ (upd H a o) { s with heap:=h',toks:=t' }:=I.un (Un.laid k hp (I.hok.fresh hp)) (I.hok.laid k hp new)
theorem Inv.write {x e:Addr} {o:HO} {t':Nat} (I:Inv X pins σ H s) (mu:Mut (H x)) (he:e=x\/H e=some (.own x)) (k:∀ b u,b ≠ e->s.heap.get? b=some u->h'.get? b=some u) (heo:∃ u,h'.get? e=some u)
  (new:ObjOk X.prog X.w (upd H x o) h' x o):Inv X pins σ (upd H x o) { s with heap:=h',toks:=t' }:=I.un (Un.write mu he k heo) (I.hok.write mu he k heo new)
theorem Inv.pins_of {pins':List (Addr × Obj)} (I:Inv X pins σ H s) (h:∀ p ∈ pins',s.heap.get? p.1=some p.2/\H p.1=none/\p.1 ≠ X.env.locals/\p.1 ∉ X.fs/\∀ v,p.2.data ≠ .cell v):Inv X pins' σ H s:=
 ⟨I.ok,I.os,I.bare,I.base,I.loc,I.cell,I.free,I.freeC,fun p hp=>(List.mem_append.mp hp).elim (fun z=>I.pin p (List.mem_append_left _ z)) (h p),I.hok,I.len⟩
theorem nodup_ix {N:List Str} (hN:N.Nodup) {i j:Nat} {x:Str} (a:N[i]? = some x) (b:N[j]? = some x):i=j:=by
 obtain ⟨h1,e1⟩:=List.getElem?_eq_some_iff.mp a
 obtain ⟨h2,e2⟩:=List.getElem?_eq_some_iff.mp b
 exact (List.getElem_inj hN).mp (e1.trans e2.symm)
theorem store_ok2 {M:Model} {A:Around} {E:Value->Shared->Prop} {i:Nat} {x:Str} {v:V} {u:Value} {Q:Unit->Shared->Prop} (I:Inv X pins σ H s) (hN:X.N.Nodup) (hi:X.N[i]? = some x) (hx:Loc X.env.scope x) (r:RelV v u)
  (h:∀ s',Inv X pins (σ.set i (some v)) H s'->(∃ a,Heap.SameBut a s.heap s'.heap/\(a=X.env.locals\/X.env.cells.lookup x=some a))->Q () s') (hf:X.fn x=true\/X.env.scope.names.lookup x=some .local:=by first | exact .inl rfl | exact .inr rfl | assumption):wpAny M A (storeName X.env x u) Q E s:=by
 obtain ⟨m,hn,hl⟩:=id I.loc
 have hcls:(X.env.scope.kind == .class || (X.env.scope.kind == .module && X.env.locals != X.env.globals))=false:=by rw [I.ok.kind]; rfl
 have hiσ:i < σ.length:=by rw [I.len]; exact (List.getElem?_eq_some_iff.mp hi).1
 have cne:=I.cne
 have tracked:∀ {a:Addr} {h':Heap},(∃ o,s.heap.get? a=some o/\H a=none)->Heap.SameBut a s.heap h'->HOk X.prog X.w H h':=fun {a h'} ha hs b ob e=>by
  obtain ⟨_,_,hfree⟩:=ha
  refine (I.hok b ob e).stay (fun c w' hc q=>(hs.2 c ?_).trans q) (fun _ q=>q) fun _ _ q=>q
  rintro rfl
  rcases hc with rfl | hc
  ·rw [hfree] at e; cases e
  ·rw [hfree] at hc; cases hc
 rcases hx with hk | hk
 ·refine wpAny_storeName_local hk hn (fun h' hn' hs=>?_) hcls
  obtain ⟨oL,_,_,hoL,_⟩:=id hn
  refine h _ ⟨I.ok,I.os,I.bare,⟨fun b o e n hb hx=>?_,fun b o e n hb hx=>?_,I.base.free,fun b o e hx=>?_,I.base.tups,I.base.frzs,I.base.tbls⟩,⟨_,hn',fun j y v' e1 e2 e3=>?_⟩,fun y c e=>?_,I.free,I.freeC,fun p hp=>?_,tracked ⟨oL,hoL,I.free⟩ hs,by simpa using I.len⟩ ⟨_,hs,.inl rfl⟩
  ·exact (hs.2 b (Nat.ne_of_lt (Nat.lt_of_lt_of_le (Heap.lt_size e) I.ok.above))).trans (I.base.keep b o e n hb hx)
  ·obtain ⟨sl,e1⟩:=I.base.slot b o e n hb hx
   exact ⟨sl,(hs.2 b (Nat.ne_of_lt (Nat.lt_of_lt_of_le (Heap.lt_size e) I.ok.above))).trans e1⟩
  ·obtain ⟨o',e1⟩:=I.base.there b o e hx
   exact ⟨o',(hs.2 b (Nat.ne_of_lt (Nat.lt_of_lt_of_le (Heap.lt_size e) I.ok.above))).trans e1⟩
  ·by_cases hj:j=i
   ·subst hj
    rw [hi] at e1; cases e1
    rw [List.getElem?_set_self hiσ] at e2
    cases e2
    exact ⟨u,r,.inl ⟨hk,by simp⟩⟩
   ·rw [List.getElem?_set_ne (Ne.symm hj)] at e2
    obtain ⟨u',r',q⟩:=hl j y v' e1 e2 e3
    refine ⟨u',r',?_⟩
    rcases q with ⟨k,e⟩ | ⟨k,c,e,z⟩
    ·refine .inl ⟨k,?_⟩
     have:y ≠ x:=fun e=>hj (nodup_ix hN e1 (e ▸ hi))
     simp [this,e]
    ·exact .inr ⟨k,c,e,z.sameBut hs (cne y c e)⟩
  ·obtain ⟨w',z⟩:=I.cell y c e
   exact ⟨w',z.sameBut hs (cne y c e)⟩
  ·obtain ⟨e,n,ne,nf,d⟩:=I.pin p hp
   exact ⟨(hs.2 p.1 ne).trans e,n,ne,nf,d⟩
 ·have hfn:X.fn x=true:=by
   rcases hf with z | z
   ·exact z
   ·rw [z] at hk; cases hk
  obtain ⟨c,hc⟩:=I.ok.has x (.inl hk)
  obtain ⟨w',z⟩:=I.cell x c hc
  refine wpAny_storeName_cell I.ok.kind hk hc z (fun h' hc' hs=>?_)
  obtain ⟨oc,hoc,hocd⟩:=id z
  refine h { s with heap:=h' } ⟨I.ok,I.os,I.bare,⟨fun b o e n hb hx=>?_,fun b o e n hb hx=>?_,I.base.free,fun b o e hx=>?_,I.base.tups,I.base.frzs,I.base.tbls⟩,⟨m,hn.sameBut hs (Ne.symm (cne x c hc)),fun j y v' e1 e2 e3=>?_⟩,fun y c' e=>?_,I.free,I.freeC,fun p hp=>?_,tracked ⟨oc,hoc,I.freeC x c hc⟩ hs,by simpa using I.len⟩ ⟨c,hs,.inr hc⟩
  ·exact (hs.2 b (Nat.ne_of_lt (Nat.lt_of_lt_of_le (Heap.lt_size e) (I.ok.cab x c hfn hc)))).trans (I.base.keep b o e n hb hx)
  ·obtain ⟨sl,e1⟩:=I.base.slot b o e n hb hx
   exact ⟨sl,(hs.2 b (Nat.ne_of_lt (Nat.lt_of_lt_of_le (Heap.lt_size e) (I.ok.cab x c hfn hc)))).trans e1⟩
  ·obtain ⟨o',e1⟩:=I.base.there b o e hx
   exact ⟨o',(hs.2 b (Nat.ne_of_lt (Nat.lt_of_lt_of_le (Heap.lt_size e) (I.ok.cab x c hfn hc)))).trans e1⟩
  ·by_cases hj:j=i
   ·subst hj
    rw [hi] at e1; cases e1
    rw [List.getElem?_set_self hiσ] at e2
    cases e2
    exact ⟨u,r,.inr ⟨.inl hk,c,hc,hc'⟩⟩
   ·rw [List.getElem?_set_ne (Ne.symm hj)] at e2
    obtain ⟨u',r',q⟩:=hl j y v' e1 e2 e3
    refine ⟨u',r',?_⟩
    rcases q with q | ⟨k,c',e,z'⟩
    ·exact .inl q
    ·refine .inr ⟨k,c',e,z'.sameBut hs ?_⟩
     rintro rfl
     exact hj (nodup_ix hN e1 (I.ok.inj _ _ _ e hc ▸ hi))
  ·by_cases hcc:c' = c
   ·subst hcc; exact ⟨_,hc'⟩
   ·obtain ⟨w2,z2⟩:=I.cell y c' e
    exact ⟨w2,z2.sameBut hs hcc⟩
  ·obtain ⟨e,n,ne,nf,d⟩:=I.pin p hp
   refine ⟨(hs.2 p.1 ?_).trans e,n,ne,nf,d⟩
   intro q
   rw [q,hoc] at e
   have q':oc=p.2:=Option.some.inj e
   exact d w' (by rw [<-q']; exact hocd)
theorem store_ok {M:Model} {A:Around} {E:Value->Shared->Prop} {i:Nat} {x:Str} {v:V} {u:Value} {Q:Unit->Shared->Prop} (I:Inv X pins σ H s) (hN:X.N.Nodup) (hi:X.N[i]? = some x) (hx:Loc X.env.scope x) (r:RelV v u)
  (h:∀ s',Inv X pins (σ.set i (some v)) H s'->Q () s') (hf:X.fn x=true\/X.env.scope.names.lookup x=some .local:=by first | exact .inl rfl | exact .inr rfl | assumption):wpAny M A (storeName X.env x u) Q E s:=
 store_ok2 I hN hi hx r (fun s' I' _=>h s' I') hf
theorem Inv.call' {s':Shared} {ch:List Addr} (I:Inv X pins σ H s) (ho:s'.os=s.os) (u:Un (frs X.stack) ch H H' s.heap s'.heap) (hok:HOk X.prog X.w H' s'.heap) (hg:AllBare s'.gens)
  (hch:∀ b ∈ ch,(b ∈ X.ex\/X.s₀.heap.objs.size<=b)/\b ≠ X.env.locals/\(∀ x c,X.env.cells.lookup x=some c->c ≠ b)/\∀ p ∈ X.pn ++ pins,p.1 ≠ b):Inv X pins σ H' s':=by
 obtain ⟨h',g',d',t',o'⟩:=s'
 have e:o' = s.os:=ho
 subst e
 exact I.call (g':=g') (t':=t') (d':=d') u hok hg hch
end
noncomputable abbrev XK:=Value->Option Addr->Hp->Prop
noncomputable abbrev St:=List (Option V)
noncomputable abbrev VK:=V->Hp->Prop
noncomputable abbrev TE:=St->Hp->VK->Prop
noncomputable abbrev TT:=St->Hp->(Bool->Hp->Prop)->Prop
noncomputable abbrev TA:=St->Hp->(List V->Hp->Prop)->Prop
structure Ends where
 nx:St->Hp->Prop
 rt:VK
 bk:St->Hp->Prop:=fun _ _=>False
 ct:St->Hp->Prop:=fun _ _=>False
noncomputable abbrev TS:=Ends->St->Hp->Prop
noncomputable def EP (X:Cx) (pins:List (Addr × Obj)) (σ:St) (Q:VK) (u:Value) (s':Shared):Prop:=∃ v H',Inv X pins σ H' s'/\RelV v u/\Q v H'
noncomputable def TP (X:Cx) (pins:List (Addr × Obj)) (σ:St) (Q:Bool->Hp->Prop) (b:Bool) (s':Shared):Prop:=∃ H',Inv X pins σ H' s'/\Q b H'
noncomputable def AP (X:Cx) (pins:List (Addr × Obj)) (σ:St) (Q:List V->Hp->Prop) (us:List Value) (s':Shared):Prop:=∃ vs H',Inv X pins σ H' s'/\Vals vs us/\Q vs H'
noncomputable def SP (X:Cx) (pins:List (Addr × Obj)) (D:Ends) (f:Flow) (s':Shared):Prop:=
 match f with
 | .next=>∃ σ' H',Inv X pins σ' H' s'/\D.nx σ' H'
 | .brk=>∃ σ' H',Inv X pins σ' H' s'/\D.bk σ' H'
 | .cont=>∃ σ' H',Inv X pins σ' H' s'/\D.ct σ' H'
 | .ret u=>∃ v σ' H',Inv X pins σ' H' s'/\RelV v u/\D.rt v H'
noncomputable def PE (X:Cx) (e:Expr) (t:TE):Prop:=
 ∀ (pins:List (Addr × Obj)) (s:Shared) (σ:St) (H:Hp) (Q:VK),Inv X pins σ H s->t σ H Q->wpAny (model X.prog X.w) X.A (eval e X.env) (EP X pins σ Q) X.xe s
noncomputable def PT (X:Cx) (e:Expr) (t:TT):Prop:=
 ∀ (pins:List (Addr × Obj)) (s:Shared) (σ:St) (H:Hp) (Q:Bool->Hp->Prop),Inv X pins σ H s->t σ H Q->wpAny (model X.prog X.w) X.A (isTrue e X.env (eval e X.env)) (TP X pins σ Q) X.xe s
noncomputable def PW (X:Cx) (e:Expr) (t:TT):Prop:=
 ∀ (whole:Sem Value) (pins:List (Addr × Obj)) (s:Shared) (σ:St) (H:Hp) (Q:Bool->Hp->Prop),Inv X pins σ H s->t σ H Q->wpAny (model X.prog X.w) X.A (isTrue e X.env whole) (TP X pins σ Q) X.xe s
theorem PW.pt {X:Cx} {e:Expr} {t:TT} (h:PW X e t):PT X e t:=h _
noncomputable def PA (X:Cx) (es:List Expr) (t:TA):Prop:=
 ∀ (pos:Pos) (pins:List (Addr × Obj)) (s:Shared) (σ:St) (H:Hp) (Q:List V->Hp->Prop),Inv X pins σ H s->t σ H Q->wpAny (model X.prog X.w) X.A (spliced (backTo pos (starEach es X.env))) (AP X pins σ Q) X.xe s
noncomputable def PS (X:Cx) (st:Stmt) (t:TS):Prop:=
 ∀ (pins:List (Addr × Obj)) (s:Shared) (σ:St) (H:Hp) (D:Ends),Inv X pins σ H s->t D σ H->wpAny (model X.prog X.w) X.A (exec st X.env) (SP X pins D) X.xe s
noncomputable def PSs (X:Cx) (st:List Stmt) (t:TS):Prop:=
 ∀ (pins:List (Addr × Obj)) (s:Shared) (σ:St) (H:Hp) (D:Ends),Inv X pins σ H s->t D σ H->wpAny (model X.prog X.w) X.A (execs st X.env) (SP X pins D) X.xe s
theorem thn {α:Type} {t:Sem α} {Q Q':α->Shared->Prop} {M:Model} {A:Around} {E:Value->Shared->Prop} {s:Shared} (h:wpAny M A t Q E s) (hQ:∀ a s,Q a s->Q' a s):wpAny M A t Q' E s:=wpAny_mono h hQ fun _ _ x=>x
end L2
namespace L2
open PySem PySem.Spec PyProof.Rows
section
variable {X:Cx}
noncomputable def tVar (i:Nat):TE:=fun σ H Q=>∃ v,σ[i]? = some (some v)/\Q v H
noncomputable def tC (v:V):TE:=fun _ H Q=>Q v H
theorem pe_var {i:Nat} {x:Str} {pos:Pos} (hN:X.N[i]? = some x) (hv:Vis X.env.scope x) (hd:(x == ("__debug__":Str))=false:=by decide) (hcd:(x == ("__classdict__":Str))=false:=by decide):PE X (.Name x pos) (tVar i):=by
 intro pins s σ H Q I h
 obtain ⟨v,e,h⟩:=h
 obtain ⟨m,hn,hl⟩:=I.loc
 obtain ⟨u,r,l⟩:=hl i x v hN e hv
 have fin:EP X pins σ Q u s:=⟨v,H,I,r,h⟩
 rcases l with ⟨hk,hm⟩ | ⟨hk,c,hc,hcell⟩
 ·exact wpAny_Name (wpAny_loadName_local I.ok.kind hk hn hm fin) hd
 ·rcases hk with hk | hk
  ·exact wpAny_Name (wpAny_loadName_cell I.ok.kind hk hc hcell fin) hd
  ·exact wpAny_Name (wpAny_loadName_free I.ok.kind hk hc hcell fin hcd) hd
theorem pe_int {i j pos}:PE X (.Constant (.int i) j pos) (tC (.int i)):=fun _ _ _ H _ I h=>wpAny_Constant_int ⟨.int i,H,I.tok _,⟨_,rfl⟩,h⟩
theorem pe_bl {b j pos}:PE X (.Constant (.bool b) j pos) (tC (.bl b)):=fun _ _ _ H _ I h=>Constant_bool ⟨.bl b,H,I,rfl,h⟩
theorem pe_non {j pos}:PE X (.Constant .none j pos) (tC .non):=fun _ _ _ H _ I h=>Constant_none ⟨.non,H,I,rfl,h⟩
theorem pe_str {x j pos}:PE X (.Constant (.str x) j pos) (tC (.str x)):=fun _ _ _ H _ I h=>Calls.Constant_str ⟨.str x,H,I.tok _,⟨_,rfl⟩,h⟩
noncomputable def Gl (X:Cx) (x:Str):Prop:=X.env.kindOf x=some .globalImplicit
theorem ld_glob {E:Value->Shared->Prop} {pins:List (Addr × Obj)} {s:Shared} {σ:St} {H:Hp} {x:Str} {u:Value} {pos:Pos} {Q:Value->Shared->Prop} (I:Inv X pins σ H s) (hg:Gl X x) (hm:X.mg x=some u) (h:Q u s)
  (hd:(x == ("__debug__":Str))=false:=by decide):wpAny (model X.prog X.w) X.A (eval (.Name x pos) X.env) Q E s:=
 Calls.Name_function_global I.ok.kind hg (Calls.loadGlobal_global (by rw [I.ok.glob]; exact I.mod.glob.keeps I.bk) hm h) hd
theorem ld_blt {E:Value->Shared->Prop} {pins:List (Addr × Obj)} {s:Shared} {σ:St} {H:Hp} {x:Str} {u:Value} {pos:Pos} {Q:Value->Shared->Prop} (I:Inv X pins σ H s) (hg:Gl X x) (hm:X.mg x=none) (hv:bootBuiltins x=some u) (h:Q u s)
  (hn:x ≠ "__name__":=by decide) (hd:(x == ("__debug__":Str))=false:=by decide):wpAny (model X.prog X.w) X.A (eval (.Name x pos) X.env) Q E s:=by
 obtain ⟨mb,h1,h2⟩:=I.mod.blt
 exact Calls.Name_function_global I.ok.kind hg (Calls.loadGlobal_builtin (by rw [I.ok.glob]; exact I.mod.glob.keeps I.bk) hm (by rw [I.ok.blt]; exact h1.keeps I.bk) ((h2 x hn).trans hv) h) hd
theorem pe_glob {x:Str} {v:V} {u:Value} {pos:Pos} (hg:Gl X x) (hm:X.mg x=some u) (r:RelV v u) (hd:(x == ("__debug__":Str))=false:=by decide):PE X (.Name x pos) (tC v):=
 fun _ _ _ H _ I h=>ld_glob I hg hm ⟨v,H,I,r,h⟩ hd
theorem pe_bltn {x:Str} {v:V} {u:Value} {pos:Pos} (hg:Gl X x) (hm:X.mg x=none) (hv:bootBuiltins x=some u) (r:RelV v u) (hn:x ≠ "__name__":=by decide) (hd:(x == ("__debug__":Str))=false:=by decide):PE X (.Name x pos) (tC v):=
 fun _ _ _ H _ I h=>ld_blt I hg hm hv ⟨v,H,I,r,h⟩ hn hd
variable {a b:Expr} {ta tb:TE} {pos:Pos}
noncomputable def tB (t:TE):TT:=fun σ H Q=>t σ H fun x H1=>∃ c,x=.bl c/\Q c H1
theorem pt_val {e:Expr} {t:TE} (h:PE X e t) (he:∀ whole,isTrue e X.env whole=(do let v <-whole; standAt e.pos; holding [v] (truthy v)):=by intro _; rfl):PT X e (tB t):=by
 intro pins s σ H Q I hw
 refine isTrue_plain (thn (h pins s σ H _ I hw) fun v s1 ⟨x,H1,I1,r1,q1⟩=>?_) (he _)
 obtain ⟨d,rfl,q⟩:=q1
 cases r1
 exact wpAny_truthy_bool ⟨H1,I1,q⟩
variable {tA tB':TT} {rest:List Expr}
noncomputable def tAnd (t u:TT):TT:=fun σ H Q=>t σ H fun c H1=>if c=true then u σ H1 Q else Q false H1
noncomputable def tOr (t u:TT):TT:=fun σ H Q=>t σ H fun c H1=>if c=true then Q true H1 else u σ H1 Q
noncomputable def tNot (t:TT):TT:=fun σ H Q=>t σ H fun c H1=>Q (!c) H1
theorem pw_and1 (ha:PT X a tA):PW X (.BoolOp .And [a] pos) tA:=by
 intro wh pins s σ H Q I h
 refine isTrue_and (thn (ha pins s σ H Q I h) fun c s1 e=>?_)
 cases c with
 | true=>exact isTrue_and_nil e
 | false=>exact e
theorem pw_or1 (ha:PT X a tA):PW X (.BoolOp .Or [a] pos) tA:=by
 intro wh pins s σ H Q I h
 refine isTrue_or (thn (ha pins s σ H Q I h) fun c s1 e=>?_)
 cases c with
 | false=>exact isTrue_or_nil e
 | true=>exact e
theorem pw_and (ha:PT X a tA) (hb:PW X (.BoolOp .And (b :: rest) pos) tB'):PW X (.BoolOp .And (a :: b :: rest) pos) (tAnd tA tB'):=by
 intro wh pins s σ H Q I h
 refine isTrue_and (thn (ha pins s σ H _ I h) fun c s1 ⟨H1,I1,q1⟩=>?_)
 cases c with
 | true=>exact hb wh pins s1 σ H1 Q I1 q1
 | false=>exact ⟨H1,I1,q1⟩
theorem pw_or (ha:PT X a tA) (hb:PW X (.BoolOp .Or (b :: rest) pos) tB'):PW X (.BoolOp .Or (a :: b :: rest) pos) (tOr tA tB'):=by
 intro wh pins s σ H Q I h
 refine isTrue_or (thn (ha pins s σ H _ I h) fun c s1 ⟨H1,I1,q1⟩=>?_)
 cases c with
 | true=>exact ⟨H1,I1,q1⟩
 | false=>exact hb wh pins s1 σ H1 Q I1 q1
theorem pt_not (ha:PT X a tA):PT X (.UnaryOp .Not a pos) (tNot tA):=by
 intro pins s σ H Q I h
 exact isTrue_not (ha pins s σ H (fun c H1=>Q (!c) H1) I h)
noncomputable def tAndV (ta tb:TE):TE:=fun σ H Q=>ta σ H fun x H1=>∃ c,x=.bl c/\if c=true then tb σ H1 Q else Q (.bl false) H1
noncomputable def tNotV (ta:TE):TE:=fun σ H Q=>ta σ H fun x H1=>∃ c,x=.bl c/\Q (.bl (!c)) H1
theorem pe_one {op} {t:TE} (h:PE X a t):PE X (.BoolOp op [a] pos) t:=fun pins s σ H Q I hw=>BoolOp_one (h pins s σ H Q I hw)
theorem pe_and (ha:PE X a ta) (hb:PE X (.BoolOp .And (b :: rest) pos) tb):PE X (.BoolOp .And (a :: b :: rest) pos) (tAndV ta tb):=by
 intro pins s σ H Q I h
 refine BoolOp_and (thn (ha pins s σ H _ I h) fun v s1 ⟨x,H1,I1,r1,q1⟩=>?_)
 obtain ⟨c,rfl,q1⟩:=q1
 cases r1
 refine wpAny_truthy_bool ?_
 cases c with
 | true=>exact hb pins s1 σ H1 Q I1 q1
 | false=>exact ⟨.bl false,H1,I1,rfl,q1⟩
theorem pe_not (ha:PE X a ta):PE X (.UnaryOp .Not a pos) (tNotV ta):=by
 intro pins s σ H Q I h
 refine UnaryOp_ (thn (ha pins s σ H _ I h) fun v s1 ⟨x,H1,I1,r1,q1⟩=>?_)
 obtain ⟨c,rfl,q1⟩:=q1
 cases r1
 exact not_of (wpAny_truthy_bool ⟨.bl (!c),H1,I1,rfl,q1⟩)
end
end L2
namespace L2
open PySem PySem.Spec PyProof.Rows
noncomputable def SqL (K:PySem.W.Frag) (H:Hp) (a:Addr) (xs:List V):Prop:=
 Rd H a (.lst xs)\/
  ∃ (o:Obj) (its:Array Value) (n:Nat),K.lookup a=some o/\o.cls=.type "list"/\o.dict=none/\o.data=.seq its n/\its.size<=sizeLine/\Vals xs its.toList
noncomputable def SqT (K:PySem.W.Frag) (H:Hp) (a:Addr) (xs:List V):Prop:=
 Rd H a (.tup xs)\/
  ∃ (o:Obj) (its:Array Value) (n:Nat),K.lookup a=some o/\o.cls=.type "tuple"/\o.data=.seq its n/\its.size<=sizeLine/\Vals xs its.toList
noncomputable def absV:Value->Option V
 | .none=>some .non
 | .bool b=>some (.bl b)
 | .int i _=>some (.int i)
 | .str x _=>some (.str x)
 | .bytes b _=>some (.byt b)
 | .float b _=>some (.flt b)
 | .ref a=>some (.ref a)
 | .type n=>some (.ty n)
 | _=>none
theorem RelV.abs {x:V} {u:Value} (r:RelV x u):absV u=some x:=by
 cases x with
 | non=>cases r; rfl
 | bl _=>cases r; rfl
 | int _=>obtain ⟨t,rfl⟩:=r; rfl
 | str _=>obtain ⟨t,rfl⟩:=r; rfl
 | byt _=>obtain ⟨t,rfl⟩:=r; rfl
 | flt _=>obtain ⟨t,rfl⟩:=r; rfl
 | ref _=>cases r; rfl
 | ty _=>cases r; rfl
theorem RelV.inj {x y:V} {u:Value} (r:RelV x u) (q:RelV y u):x=y:=Option.some.inj (r.abs.symm.trans q.abs)
theorem Vals.inj:∀ {xs ys:List V} {us:List Value},Vals xs us->Vals ys us->xs=ys
 | _,_,_,.nil,.nil=>rfl
 | _,_,_,.cons r t,.cons r' t'=>by rw [r.inj r',Vals.inj t t']
section
variable {X:Cx} {pins:List (Addr × Obj)} {σ:St} {H:Hp} {s:Shared} {a:Addr} {xs ys:List V}
theorem SqL.of {K:PySem.W.Frag} (h:H a=some (.lst xs)):SqL K H a xs:=.inl (.inl h)
theorem Inv.list (I:Inv X pins σ H s) (h:SqL X.K H a xs):∃ its:List Value,Vals xs its/\PlainL s.heap a its.toArray/\xs.length<=sizeLine:=by
 rcases h with h | ⟨o,its,n,hk,hc,hd,hs,hz,r⟩
 ·obtain ⟨z,its,n,r,e⟩:=h.ok I.hok
  exact ⟨its,r,⟨_,n,e,rfl,rfl,rfl⟩,z⟩
 ·refine ⟨its.toList,r,⟨o,n,I.kIn a o hk,hc,hd,by simpa using hs⟩,?_⟩
  have e:=r.length
  simp only [Array.length_toList] at e
  omega
theorem Inv.tuple (I:Inv X pins σ H s) (h:SqT X.K H a xs):∃ its:List Value,Vals xs its/\IsTup s.heap a its.toArray/\xs.length<=sizeLine:=by
 rcases h with h | ⟨o,its,n,hk,hc,hs,hz,r⟩
 ·obtain ⟨z,its,r,p⟩:=h.ok I.hok
  exact ⟨its,r,p,z⟩
 ·refine ⟨its.toList,r,⟨o,I.kIn a o hk,hc,n,by simpa using hs⟩,?_⟩
  have e:=r.length
  simp only [Array.length_toList] at e
  omega
theorem Inv.list_inj (I:Inv X pins σ H s) (h:SqL X.K H a xs) (h':SqL X.K H a ys):xs=ys:=by
 obtain ⟨its,r,⟨o,n,e,_,_,d⟩,_⟩:=I.list h
 obtain ⟨its',r',⟨o',n',e',_,_,d'⟩,_⟩:=I.list h'
 rw [e] at e'; cases e'
 rw [d] at d'
 injection d' with d1 _
 have:its=its':=by simpa using congrArg Array.toList d1
 subst this
 exact r.inj r'
theorem Inv.tuple_inj (I:Inv X pins σ H s) (h:SqT X.K H a xs) (h':SqT X.K H a ys):xs=ys:=by
 obtain ⟨its,r,⟨o,e,_,n,d⟩,_⟩:=I.tuple h
 obtain ⟨its',r',⟨o',e',_,n',d'⟩,_⟩:=I.tuple h'
 rw [e] at e'; cases e'
 rw [d] at d'
 injection d' with d1 _
 have:its=its':=by simpa using congrArg Array.toList d1
 subst this
 exact r.inj r'
end
section
variable {X:Cx} {st:Stmt} {rest:List Stmt} {t u:TS} {e:Expr} {te:TE} {pos:Pos}
noncomputable def tNext:TS:=fun D σ H=>D.nx σ H
noncomputable def tSeq (t u:TS):TS:=fun D σ H=>t { D with nx:=u D } σ H
theorem pss_nil:PSs X [] tNext:=fun _ _ σ H _ I h=>wpAny_execs_nil ⟨σ,H,I,h⟩
theorem pss_cons (h1:PS X st t) (h2:PSs X rest u):PSs X (st :: rest) (tSeq t u):=by
 intro pins s σ H D I h
 refine wpAny_execs_cons (thn (h1 pins s σ H { D with nx:=u D } I h) fun f s1 q=>?_)
 cases f with
 | next=>
  obtain ⟨σ',H',I',q⟩:=q
  exact h2 pins s1 σ' H' D I' q
 | ret v=>exact q
 | brk=>exact q
 | cont=>exact q
theorem pss_one (h1:PS X st t):PSs X [st] t:=by
 intro pins s σ H D I h
 refine wpAny_execs_cons (thn (h1 pins s σ H D I h) fun f s1 q=>?_)
 cases f with
 | next=>exact wpAny_execs_nil q
 | ret v=>exact q
 | brk=>exact q
 | cont=>exact q
theorem Inv.quiet {pins:List (Addr × Obj)} {σ:St} {H:Hp} {s:Shared} (I:Inv X pins σ H s):interactive X.env=false:=by simp [interactive,I.ok.kind]
noncomputable def tDrop (te:TE):TS:=fun D σ H=>te σ H fun _ H1=>D.nx σ H1
theorem ps_expr (he:PE X e te) (hs:swapsWith e none pos.line X.env=pure false:=by rfl):PS X (.Expr e pos) (tDrop te):=by
 intro pins s σ H D I h
 exact wpAny_Expr_any (thn (he pins s σ H _ I h) fun v s1 ⟨x,H1,I1,r1,q1⟩=>⟨σ,H1,I1,q1⟩) I.quiet hs
noncomputable def tRet (te:TE):TS:=fun D σ H=>te σ H D.rt
theorem ps_ret (he:PE X e te):PS X (.Return (some e) pos) (tRet te):=by
 intro pins s σ H D I h
 exact wpAny_Return_some (thn (he pins s σ H _ I h) fun v s1 ⟨x,H1,I1,r1,q1⟩=>⟨x,σ,H1,I1,r1,q1⟩)
noncomputable def tIfS (c:TT) (t u:TS):TS:=fun D σ H=>c σ H fun b H1=>if b=true then t D σ H1 else u D σ H1
theorem ps_if {c:Expr} {a b:List Stmt} {tc:TT} (hc:PT X c tc) (ha:PSs X a t) (hb:PSs X b u):PS X (.If c a b pos) (tIfS tc t u):=by
 intro pins s σ H D I h
 refine wpAny_If (thn (hc pins s σ H _ I h) fun d s1 ⟨H1,I1,q1⟩=>?_)
 cases d with
 | true=>exact ha pins s1 σ H1 D I1 q1
 | false=>exact hb pins s1 σ H1 D I1 q1
end
noncomputable abbrev TG:=V->St->Hp->(St->Hp->Prop)->Prop
noncomputable abbrev TGs:=List V->St->Hp->(St->Hp->Prop)->Prop
noncomputable def PG (X:Cx) (target:Expr) (t:TG):Prop:=
 ∀ (pins:List (Addr × Obj)) (s:Shared) (σ:St) (H:Hp) (v:V) (u:Value) (Q:St->Hp->Prop),Inv X pins σ H s->RelV v u->t v σ H Q->
  wpAny (model X.prog X.w) X.A (assign target X.env u) (fun _ s'=>∃ σ' H',Inv X pins σ' H' s'/\Q σ' H') X.xe s
noncomputable def PGs (X:Cx) (ts:List Expr) (t:TGs):Prop:=
 ∀ (pins:List (Addr × Obj)) (s:Shared) (σ:St) (H:Hp) (vs:List V) (us:List Value) (Q:St->Hp->Prop),Inv X pins σ H s->Vals vs us->t vs σ H Q->
  wpAny (model X.prog X.w) X.A (assignInOrder ((assignEach ts X.env).map (·.2)) us) (fun _ s'=>∃ σ' H',Inv X pins σ' H' s'/\Q σ' H') X.xe s
noncomputable abbrev TSet:=V->V->V->Hp->(Hp->Prop)->Prop
noncomputable def PSet (X:Cx) (t:TSet):Prop:=
 ∀ (pins:List (Addr × Obj)) (s:Shared) (σ:St) (H:Hp) (o i v:V) (ov iv u:Value) (Q:Hp->Prop),Inv X pins σ H s->RelV o ov->RelV i iv->RelV v u->t o i v H Q->
  wpAny (model X.prog X.w) X.A (setItem ov iv u) (fun _ s'=>∃ H',Inv X pins σ H' s'/\Q H') X.xe s
section
variable {X:Cx} {pos:Pos}
noncomputable def gName (i:Nat):TG:=fun v σ H Q=>Q (σ.set i (some v)) H
theorem pg_name {i:Nat} {x:Str} (hN:X.N.Nodup) (hi:X.N[i]? = some x) (hx:Loc X.env.scope x) (hf:X.fn x=true\/X.env.scope.names.lookup x=some .local:=by first | exact .inl rfl | exact .inr rfl | assumption):PG X (.Name x pos) (gName i):=by
 intro pins s σ H v u Q I r h
 exact wpAny_assign_Name (store_ok I hN hi hx r (fun s' I'=>⟨_,H,I',h⟩) hf)
noncomputable def gNil:TGs:=fun vs σ H Q=>vs=[]/\Q σ H
noncomputable def gCons (t:TG) (u:TGs):TGs:=fun vs σ H Q=>∃ v r,vs=v :: r/\t v σ H fun σ' H'=>u r σ' H' Q
theorem pgs_nil:PGs X [] gNil:=by
 intro pins s σ H vs us Q I r h
 obtain ⟨e,h⟩:=h
 subst e
 cases r
 exact assignInOrder_nil ⟨σ,H,I,h⟩
theorem pgs_cons {e:Expr} {es:List Expr} {t:TG} {u:TGs} (h1:PG X e t) (h2:PGs X es u)
  (hs:(assignEach (e :: es) X.env).map (·.2)=assign e X.env :: (assignEach es X.env).map (·.2):=by rfl):PGs X (e :: es) (gCons t u):=by
 intro pins s σ H vs us Q I r h
 obtain ⟨v,vr,e1,h⟩:=h
 subst e1
 cases r with
 | cons r rr=>
  rw [hs]
  refine assignInOrder_cons (thn (h1 pins s σ H _ _ _ I r h) fun _ s1 ⟨σ1,H1,I1,q1⟩=>?_)
  exact h2 pins s1 σ1 H1 _ _ Q I1 rr q1
noncomputable def gTup (K:PySem.W.Frag) (n:Nat) (t:TGs):TG:=fun v σ H Q=>∃ a xs,v=.ref a/\SqT K H a xs/\xs.length=n/\t xs σ H Q
theorem pg_tup {es:List Expr} {k:Nat} {t:TGs} {n:Nat} (hc:X.calm=true) (h:PGs X es t)
  (hn:(assignEach es X.env).length=n:=by rfl) (hst:(assignEach es X.env).findIdx? (·.1)=none:=by rfl):PG X (.Tuple es k pos) (gTup X.K n t):=by
 intro pins s σ H v u Q I r hw
 obtain ⟨a,xs,e1,hq,hl,hw⟩:=hw
 subst e1
 cases r
 obtain ⟨its,rv,ht,hz⟩:=I.tuple hq
 refine assign_Tuple_tuple (I.ok.hd hc) ht (by simp [hn,<-hl,rv.length]) hst fun h' hx=>?_
 have I1:Inv X pins σ H { s with heap:=h' }:=I.kept (t':=s.toks) fun b o e=>hx b o (Nat.ne_of_lt (Heap.lt_size e)) e
 exact h pins _ σ H xs _ Q I1 (by simpa using rv) hw
noncomputable def gSub (to ti:TE) (t:TSet):TG:=fun v σ H Q=>to σ H fun o H1=>ti σ H1 fun i H2=>t o i v H2 fun H3=>Q σ H3
theorem pg_sub {o i:Expr} {to ti:TE} {t:TSet} (ho:PE X o to) (hi:PE X i ti) (hs:PSet X t)
  (ha:∀ v,assign (.Subscript o i pos) X.env v=(do
   let ov <-holding [v] (eval o X.env)
   let iv <-holding [v,ov] (eval i X.env)
   standAt pos
   holding [v,ov,iv] (setItem ov iv v)
   release [v,ov,iv] []):=by intro _; rfl):PG X (.Subscript o i pos) (gSub to ti t):=by
 intro pins s σ H v u Q I r h
 rw [ha]
 refine wpAny_bind (wpAny_holding (thn (ho pins s σ H _ I h) fun ov s1 ⟨x,H1,I1,r1,q1⟩=>?_))
 refine wpAny_bind (wpAny_holding (thn (hi pins s1 σ H1 _ I1 q1) fun iv s2 ⟨y,H2,I2,r2,q2⟩=>?_))
 refine wpAny_bind (wpAny_standAt (wpAny_bind (wpAny_holding (thn (hs pins s2 σ H2 x y v ov iv u _ I2 r1 r2 r q2) fun _ s3 ⟨H3,I3,q3⟩=>?_))))
 exact wpAny_release ⟨σ,H3,I3,q3⟩
noncomputable def tAsg (te:TE) (g:TG):TS:=fun D σ H=>te σ H fun x H1=>g x σ H1 D.nx
theorem ps_asg {tg e:Expr} {te:TE} {g:TG} (he:PE X e te) (hg:PG X tg g) (hs:swapsWithSole [tg] e pos.line X.env=pure false:=by rfl) (hw:swappedStores [tg] e X.env=pure none:=by rfl)
  (h1:(assignEach [tg] X.env).map (·.2)=[assign tg X.env]:=by rfl):PS X (.Assign [tg] e pos) (tAsg te g):=by
 intro pins s σ H D I h
 refine wpAny_Assign_stores (thn (he pins s σ H _ I h) fun v s1 ⟨x,H1,I1,r1,q1⟩=>?_) hs hw
 rw [h1]
 exact thn (hg pins s1 σ H1 x v _ I1 r1 q1) fun _ s2 q=>q
theorem ps_set {i:Nat} {x:Str} {e:Expr} {te:TE} {pos':Pos} (hN:X.N.Nodup) (hi:X.N[i]? = some x) (hx:Loc X.env.scope x) (he:PE X e te) (hs:swapsWith e (some (.Name x pos')) pos.line X.env=pure false:=by rfl) (hf:X.fn x=true\/X.env.scope.names.lookup x=some .local:=by first | exact .inl rfl | exact .inr rfl | assumption) :
  PS X (.Assign [.Name x pos'] e pos) (tAsg te (gName i)):=by
 intro pins s σ H D I h
 refine wpAny_Assign_Name (thn (he pins s σ H _ I h) fun v s1 ⟨y,H1,I1,r1,q1⟩=>?_) hs
 exact store_ok I1 hN hi hx r1 (fun s2 I2=>⟨_,H1,I2,q1⟩) hf
noncomputable def tPar (i j:Nat) (ta:TA):TS:=fun D σ H=>ta σ H fun vs H1=>∃ v w,vs=[v,w]/\D.nx ((σ.set i (some v)).set j (some w)) H1
theorem ps_par {i j:Nat} {x y:Str} {a b:Expr} {ta:TA} {px py pt:Pos} {kt k2 pt2} (hc:X.calm=true) (hN:X.N.Nodup) (hi:X.N[i]? = some x) (hj:X.N[j]? = some y) (hij:i ≠ j)
  (hx:X.env.scope.names.lookup x=some .local) (hy:X.env.scope.names.lookup y=some .local) (ha:PA X [a,b] ta)
  (hw:swappedStores [.Tuple [.Name x px,.Name y py] kt pt] (.Tuple [a,b] k2 pt2) X.env=pure (some [x,y]))
  (hs:swapsWithSole [.Tuple [.Name x px,.Name y py] kt pt] (.Tuple [a,b] k2 pt2) pos.line X.env=pure false:=by rfl) :
  PS X (.Assign [.Tuple [.Name x px,.Name y py] kt pt] (.Tuple [a,b] k2 pt2) pos) (tPar i j ta):=by
 intro pins s σ H D I h
 rw [exec_Assign_arm]
 refine wpAny_bind (wpAny_standAt ?_)
 rw [hs]
 refine wpAny_bind (wpAny_pure ?_)
 rw [if_neg (by decide)]
 refine wpAny_bind (Tuple_ (thn (ha _ pins s σ H _ I h) fun us s1 ⟨vs,H1,I1,r1,q1⟩=>?_))
 obtain ⟨v,w,e1,q1⟩:=q1
 subst e1
 obtain ⟨u1,u2,rfl,rv,rw'⟩:∃ u1 u2,us=[u1,u2]/\RelV v u1/\RelV w u2:=by
  cases r1 with
  | cons p q=>
   cases q with
   | cons p' q'=>
    cases q'
    exact ⟨_,_,rfl,p,p'⟩
 refine wpAny_newObj_type ?_ (by show 2<=sizeLine; decide)
 have I2:Inv X pins σ H1 { s1 with heap:=s1.heap.push { cls:=.type "tuple",data:=.seq [u1,u2].toArray } }:=I1.kept (t':=s1.toks) fun b o e=>Heap.get?_push_of_some _ e
 rw [hw]
 refine wpAny_bind (wpAny_pure ?_)
 show wpAny (model X.prog X.w) X.A (do rule "assign.swapped-stores"; let items <-unpackItems (.ref s1.heap.objs.size) 2 none; assignInOrder [fun v=>bindName X.env y v,fun v=>bindName X.env x v] items.reverse; pure Flow.next) _ _ _
 refine wpAny_bind (wpAny_rule (wpAny_bind (unpackItems_tuple (items:=#[u1,u2]) (I.ok.hd hc) (IsTup.new s1.heap _) fun h' hx'=>?_)))
 have I3:=I2.kept (h':=h') (t':=s1.toks) fun b o e=>hx' b o (Nat.ne_of_lt (Heap.lt_size e)) e
 show wpAny _ _ (assignInOrder [fun v=>bindName X.env y v,fun v=>bindName X.env x v] [u2,u1] >>= fun _=>pure Flow.next) _ _ _
 refine wpAny_bind (assignInOrder_cons (wpAny_bindName (store_ok I3 hN hj (.inl hy) rw' (fun s2 I4=>?_) (.inr hy))))
 refine assignInOrder_cons (wpAny_bindName (store_ok I4 hN hi (.inl hx) rv (fun s3 I5=>assignInOrder_nil (wpAny_pure ?_)) (.inr hx)))
 rw [List.set_comm _ _ (Ne.symm hij)] at I5
 exact ⟨_,H1,I5,q1⟩
end
structure It where
 go:Nat->Hp->Prop
 yld:Nat->Hp->V->Hp->Prop
 stop:Nat->Hp->Prop
noncomputable def FpOk (X:Cx) (pins:List (Addr × Obj)) (H:Hp) (b:Addr):Prop:=
 H b=none/\b ≠ X.env.locals/\b ∉ X.fs/\(b ∈ X.ex\/X.s₀.heap.objs.size<=b)/\(∀ x c,X.env.cells.lookup x=some c->c ≠ b)/\∀ p ∈ X.pn ++ pins,p.1 ≠ b
theorem Inv.fpOk {X:Cx} {pins:List (Addr × Obj)} {σ:St} {H H':Hp} {s:Shared} {b:Addr} (I:Inv X pins σ H s) (hb:s.heap.objs.size<=b) (hn:H' b=none):FpOk X pins H' b:=by
 refine ⟨hn,Nat.ne_of_gt (Nat.lt_of_lt_of_le I.lt hb),I.nofs hb,.inr (Nat.le_trans I.sz hb),fun x c e z=>?_,fun p hp z=>?_⟩
 ·obtain ⟨v,q⟩:=I.cell x c e
  exact absurd (Nat.lt_of_lt_of_le q.lt (by rw [z]; exact hb)) (Nat.lt_irrefl _)
 ·exact absurd (Nat.lt_of_lt_of_le (Heap.lt_size (I.pin p hp).1) (by rw [z]; exact hb)) (Nat.lt_irrefl _)
structure Turn (P:Program) (w:World) (K:PySem.W.Frag) (tg:Expr) (J:It) (fp:List Addr) (it:Addr) (tn:Nat->Heap->Prop):Prop where
 mem:it ∈ fp
 obj:∀ i h,tn i h->∀ b ∈ fp,∃ o,h.get? b=some o/\∀ v,o.data ≠ .cell v
 keep:∀ i h h',tn i h->(∀ b ∈ fp,∀ o,h.get? b=some o->h'.get? b=some o)->tn i h'
 item:∀ (X:Cx),X.prog=P->X.w=w->X.K=K->X.calm=true->∀ (i:Nat) (pins:List (Addr × Obj)) (s:Shared) (σ:St) (H:Hp) (E:Value->Shared->Prop),Inv X pins σ H s->(∀ b ∈ fp,FpOk X pins H b)->tn i s.heap->J.go i H->
  wpAny (model P w) X.A (pyNext (.ref it)) (fun r s1=>∃ u,r=some u/\
   wpAny (model P w) X.A (letOwnedTupleGo tg (.ref it) u) (fun _ s2=>∃ x H',Inv X pins σ H' s2/\RelV x u/\J.yld i H x H'/\tn (i + 1) s2.heap/\∀ b ∈ fp,H' b=none) E s1) E s
 done:∀ (X:Cx),X.prog=P->X.w=w->X.K=K->X.calm=true->∀ (i:Nat) (pins:List (Addr × Obj)) (s:Shared) (σ:St) (H:Hp) (E:Value->Shared->Prop),Inv X pins σ H s->(∀ b ∈ fp,FpOk X pins H b)->tn i s.heap->J.stop i H->
  wpAny (model P w) X.A (pyNext (.ref it)) (fun r s1=>r=none/\Inv X pins σ H s1) E s
 self:∀ (A:Around) (i:Nat) (s:Shared) (Q:Value->Shared->Prop) (E:Value->Shared->Prop),tn i s.heap->Q (.ref it) s->wpAny (model P w) A (pyIter (.ref it)) Q E s
noncomputable abbrev TI:=St->Hp->(It->Hp->Prop)->Prop
noncomputable def PIE (X:Cx) (pins:List (Addr × Obj)) (σ:St) (tg:Expr) (R:It->Hp->Prop) (itv:Value) (s2:Shared):Prop:=
 ∃ (it:Addr) (fp:List Addr) (tn:Nat->Heap->Prop) (J:It) (H':Hp),itv=.ref it/\Inv X pins σ H' s2/\Turn X.prog X.w X.K tg J fp it tn/\tn 0 s2.heap/\(∀ b ∈ fp,FpOk X pins H' b)/\R J H'
noncomputable def PI (X:Cx) (tg iter:Expr) (wi:TI):Prop:=
 ∀ (pins:List (Addr × Obj)) (s:Shared) (σ:St) (H:Hp) (R:It->Hp->Prop),Inv X pins σ H s->wi σ H R->
  wpAny (model X.prog X.w) X.A (eval iter X.env) (fun v s1=>wpAny (model X.prog X.w) X.A (pyIter v) (PIE X pins σ tg R) X.xe s1) X.xe s
theorem go_of {M:Model} {A:Around} {E:Value->Shared->Prop} {s:Shared} {tg:Expr} {it:Addr} {u:Value} {o:Obj} {n:String} {vs:Array Value} {Q:Unit->Shared->Prop} (ho:s.heap.get? it=some o) (hc:o.cls=.type n) (hd:o.data=.fields vs)
    (hn:["enumerate","zip","dict_itemiterator","dict_reverseitemiterator","odict_iterator","itertools.zip_longest","itertools.pairwise"].contains n=false) (hQ:Q () s):wpAny M A (letOwnedTupleGo tg (.ref it) u) Q E s:=by
  unfold letOwnedTupleGo
  cases tg <;> first
    | exact wpAny_pure hQ
    | (cases u <;> first
        | exact wpAny_pure hQ
        | (refine wpAny_bind (wpAny_load ho ?_)
           rw [hc,hd]
           show wpAny M A (if (["enumerate","zip","dict_itemiterator","dict_reverseitemiterator","odict_iterator","itertools.zip_longest","itertools.pairwise"].contains n && vs[0]? == some (rawInt _))=true then _ else _) Q E s
           rw [if_neg (by intro h; rw [hn,Bool.false_and] at h; cases h)]
           exact wpAny_pure hQ))
noncomputable def Itl (K:PySem.W.Frag) (a:Addr):It:=
 ⟨fun i H=>∃ xs x,SqL K H a xs/\xs[i]? = some x,fun i H x H'=>H' = H/\∀ xs,SqL K H a xs->xs[i]? = some x,fun i H=>∃ xs,SqL K H a xs/\xs.length<=i⟩
noncomputable def Itt (K:PySem.W.Frag) (a:Addr):It:=
 ⟨fun i H=>∃ xs x,SqT K H a xs/\xs[i]? = some x,fun i H x H'=>H' = H/\∀ xs,SqT K H a xs->xs[i]? = some x,fun i H=>∃ xs,SqT K H a xs/\xs.length<=i⟩
noncomputable def Itr (lo:Int) (n:Nat):It:=⟨fun i _=>i < n,fun i H x H'=>H' = H/\x=.int (lo + i),fun i _=>n<=i⟩
theorem turn_list {P:Program} {w:World} {K:PySem.W.Frag} {tg:Expr} (a it:Addr):Turn P w K tg (Itl K a) [it] it (fun i h=>h.IsListIter it a i) where
 mem:=by simp
 obj:=fun i h st b hb=>by
  have e:b=it:=by simpa using hb
  subst e
  obtain ⟨o,e,c,d⟩:=st
  exact ⟨o,e,fun v z=>by rw [d] at z; cases z⟩
 keep:=fun i h h' st k=>st.at fun o e=>k it (by simp) o e
 item:=by
  intro X hP hw hK hc i pins s σ H E I hf st hg
  subst hP hw hK
  obtain ⟨xs,x,hq,hx⟩:=hg
  obtain ⟨its,rv,p,hz⟩:=I.list hq
  obtain ⟨u,hu,ru⟩:=rv.get hx
  obtain ⟨f0,f1,f2,f3,f4,f5⟩:=hf it (by simp)
  refine wpAny_pyNext_list_item st p.isList (x:=u) (by simpa using hu) fun h' st' sb=>?_
  have I1:Inv X pins σ H { s with heap:=h' }:=I.turned (t':=s.toks) (fun b o hb e=>(sb.2 b hb).trans e) f0 f1 f3 f4 f5
  obtain ⟨o,e,c,d⟩:=id st'
  exact ⟨u,rfl,go_of (s:={ s with heap:=h' }) e c d (by decide) ⟨x,H,I1,ru,⟨rfl,fun ys hy=>by rw [I.list_inj hy hq]; exact hx⟩,st',fun b hb=>(hf b hb).1⟩⟩
 done:=by
  intro X hP hw hK hc i pins s σ H E I hf st hg
  subst hP hw hK
  obtain ⟨xs,hq,hx⟩:=hg
  obtain ⟨its,rv,p,hz⟩:=I.list hq
  obtain ⟨f0,f1,f2,f3,f4,f5⟩:=hf it (by simp)
  have hl:=rv.length
  exact wpAny_pyNext_list_end (I.ok.hd hc) st p.isList (by simp; omega) fun h' eb=>⟨rfl,I.turned (t':=s.toks) (fun b o hb e=>eb b o hb e) f0 f1 f3 f4 f5⟩
 self:=fun _ _ _ _ _ st h=>wpAny_pyIter_listiter st h
theorem turn_tuple {P:Program} {w:World} {K:PySem.W.Frag} {tg:Expr} (a it:Addr):Turn P w K tg (Itt K a) [it] it (fun i h=>h.IsTupleIter it a i) where
 mem:=by simp
 obj:=fun i h st b hb=>by
  have e:b=it:=by simpa using hb
  subst e
  obtain ⟨o,e,c,d⟩:=st
  exact ⟨o,e,fun v z=>by rw [d] at z; cases z⟩
 keep:=fun i h h' st k=>st.at fun o e=>k it (by simp) o e
 item:=by
  intro X hP hw hK hc i pins s σ H E I hf st hg
  subst hP hw hK
  obtain ⟨xs,x,hq,hx⟩:=hg
  obtain ⟨its,rv,p,hz⟩:=I.tuple hq
  obtain ⟨u,hu,ru⟩:=rv.get hx
  obtain ⟨f0,f1,f2,f3,f4,f5⟩:=hf it (by simp)
  refine wpAny_pyNext_tuple_item st (show s.heap.IsTuple a its.toArray from p) (x:=u) (by simpa using hu) fun h' st' sb=>?_
  have I1:Inv X pins σ H { s with heap:=h' }:=I.turned (t':=s.toks) (fun b o hb e=>(sb.2 b hb).trans e) f0 f1 f3 f4 f5
  obtain ⟨o,e,c,d⟩:=id st'
  exact ⟨u,rfl,go_of (s:={ s with heap:=h' }) e c d (by decide) ⟨x,H,I1,ru,⟨rfl,fun ys hy=>by rw [I.tuple_inj hy hq]; exact hx⟩,st',fun b hb=>(hf b hb).1⟩⟩
 done:=by
  intro X hP hw hK hc i pins s σ H E I hf st hg
  subst hP hw hK
  obtain ⟨xs,hq,hx⟩:=hg
  obtain ⟨its,rv,p,hz⟩:=I.tuple hq
  obtain ⟨f0,f1,f2,f3,f4,f5⟩:=hf it (by simp)
  have hl:=rv.length
  exact wpAny_pyNext_tuple_end (I.ok.hd hc) st (show s.heap.IsTuple a its.toArray from p) (by simp; omega) fun h' eb=>⟨rfl,I.turned (t':=s.toks) (fun b o hb e=>eb b o hb e) f0 f1 f3 f4 f5⟩
 self:=fun _ _ _ _ _ st h=>wpAny_pyIter_tupleiter st h
theorem turn_range {P:Program} {w:World} {K:PySem.W.Frag} {tg:Expr} (it:Addr) (lo:Int) (n:Nat):Turn P w K tg (Itr lo n) [it] it (fun i h=>IsRangeIter h it (lo + (i:Nat) * 1) ((n:Int) - (i:Nat)) 1) where
 mem:=by simp
 obj:=fun i h st b hb=>by
  have e:b=it:=by simpa using hb
  subst e
  exact ⟨_,st,fun v z=>by
   have z':Data.fields _=Data.cell v:=z
   cases z'⟩
 keep:=fun i h h' st k=>k it (by simp) _ st
 item:=by
  intro X hP hw hK hc i pins s σ H E I hf st hg
  subst hP hw hK
  obtain ⟨f0,f1,f2,f3,f4,f5⟩:=hf it (by simp)
  have W:=Walks.range (prog:=X.prog) (w:=X.w) (I.ok.hd hc) it lo 1 n
  refine W.item i s _ _ hg st fun v h' tk hv st' kk=>?_
  obtain ⟨t,rfl⟩:=hv
  have I1:Inv X pins σ H { s with heap:=h',toks:=tk }:=I.turned (fun b o hb e=>kk b o (by simpa using hb) e) f0 f1 f3 f4 f5
  refine ⟨_,rfl,go_of (s:={ s with heap:=h',toks:=tk }) (n:="range_iterator") st' rfl rfl (by decide) ⟨.int (lo + i),H,I1,⟨t,?_⟩,⟨rfl,rfl⟩,st',fun b hb=>(hf b hb).1⟩⟩
  rw [Int.mul_one]
 done:=by
  intro X hP hw hK hc i pins s σ H E I hf st hg
  subst hP hw hK
  obtain ⟨f0,f1,f2,f3,f4,f5⟩:=hf it (by simp)
  exact wpAny_pyNext_range_end (I.ok.hd hc) st (by have:n<=i:=hg; omega) fun h' eb=>⟨rfl,I.turned (t':=s.toks) (fun b o hb e=>eb b o hb e) f0 f1 f3 f4 f5⟩
 self:=fun _ _ _ _ _ st h=>wpAny_pyIter_rangeiter st h
end L2
namespace L2
open PySem PySem.Spec PyProof.Rows
section
variable {X:Cx} {tg:Expr}
noncomputable def iList (K:PySem.W.Frag) (tl:TE):TI:=fun σ H R=>tl σ H fun x H1=>∃ a,x=.ref a/\(∃ xs,SqL K H1 a xs)/\R (Itl K a) H1
noncomputable def iTup (K:PySem.W.Frag) (tl:TE):TI:=fun σ H R=>tl σ H fun x H1=>∃ a,x=.ref a/\(∃ xs,SqT K H1 a xs)/\R (Itt K a) H1
theorem pi_list {l:Expr} {tl:TE} (hl:PE X l tl):PI X tg l (iList X.K tl):=by
 intro pins s σ H R I h
 refine thn (hl pins s σ H _ I h) fun v s1 ⟨x,H1,I1,r1,q1⟩=>?_
 obtain ⟨a,e,⟨xs,hq⟩,q⟩:=q1
 subst e
 cases r1
 obtain ⟨its,rv,p,hz⟩:=I1.list hq
 refine wpAny_pyIter_list p.isList ?_
 refine ⟨s1.heap.objs.size,[s1.heap.objs.size],_,_,H1,rfl,I1.kept (t':=s1.toks) fun b o e=>Heap.get?_push_of_some _ e,turn_list a _,⟨_,Heap.get?_push_size _ rfl,rfl,rfl⟩,fun b hb=>?_,q⟩
 have e:b=s1.heap.objs.size:=by simpa using hb
 subst e
 exact I1.fpOk (Nat.le_refl _) (I1.hok.fresh (Nat.le_refl _))
theorem pi_tup {l:Expr} {tl:TE} (hl:PE X l tl):PI X tg l (iTup X.K tl):=by
 intro pins s σ H R I h
 refine thn (hl pins s σ H _ I h) fun v s1 ⟨x,H1,I1,r1,q1⟩=>?_
 obtain ⟨a,e,⟨xs,hq⟩,q⟩:=q1
 subst e
 cases r1
 obtain ⟨its,rv,p,hz⟩:=I1.tuple hq
 refine wpAny_pyIter_tuple (show s1.heap.IsTuple a its.toArray from p) ?_
 refine ⟨s1.heap.objs.size,[s1.heap.objs.size],_,_,H1,rfl,I1.kept (t':=s1.toks) fun b o e=>Heap.get?_push_of_some _ e,turn_tuple a _,⟨_,Heap.get?_push_size _ rfl,rfl,rfl⟩,fun b hb=>?_,q⟩
 have e:b=s1.heap.objs.size:=by simpa using hb
 subst e
 exact I1.fpOk (Nat.le_refl _) (I1.hok.fresh (Nat.le_refl _))
theorem range_it {pins:List (Addr × Obj)} {σ:St} {H:Hp} {s:Shared} {R:It->Hp->Prop} {E:Value->Shared->Prop} {lo hi:Int} {t u v:Tok} {tk:Nat} (I:Inv X pins σ H s) (h1:-(2 ^ 62)<=lo) (h2:lo < 2 ^ 62) (h3:-(2 ^ 62)<=hi) (h4:hi < 2 ^ 62)
  (q:R (Itr lo (hi - lo).toNat) H):wpAny (model X.prog X.w) X.A (pyIter (.ref s.heap.objs.size)) (PIE X pins σ tg R) E { s with heap:=s.heap.push { cls:=.type "range",data:=.fields #[.int lo t,.int hi u,.int 1 v] },toks:=tk }:=by
 refine wpAny_pyIter_range (IsRange.new ..) (small_one h1 h2 h3 h4) ?_
 have I1:Inv X pins σ H { s with heap:=s.heap.push { cls:=.type "range",data:=.fields #[.int lo t,.int hi u,.int 1 v] },toks:=tk }:=I.kept fun b o e=>Heap.get?_push_of_some _ e
 refine ⟨(s.heap.push { cls:=.type "range",data:=.fields #[.int lo t,.int hi u,.int 1 v] }).objs.size,[(s.heap.push { cls:=.type "range",data:=.fields #[.int lo t,.int hi u,.int 1 v] }).objs.size],_,_,H,rfl,
  I1.kept (t':=tk) fun b o e=>Heap.get?_push_of_some _ e,turn_range _ lo (hi - lo).toNat,?_,fun b hb=>?_,q⟩
 ·have e1:lo + ((0:Nat):Int) * 1=lo:=by simp
  have e2:(((hi - lo).toNat:Nat):Int) - ((0:Nat):Int)=Builtin.Range.rangeSize lo hi 1:=by rw [rangeSize_one]; split <;> omega
  show IsRangeIter _ _ (lo + ((0:Nat):Int) * 1) ((((hi - lo).toNat:Nat):Int) - ((0:Nat):Int)) 1
  rw [e1,e2]
  exact Heap.get?_push_size _ rfl
 ·have e:b=(s.heap.push { cls:=.type "range",data:=.fields #[.int lo t,.int hi u,.int 1 v] }).objs.size:=by simpa using hb
  subst e
  exact I1.fpOk (Nat.le_refl _) (I1.hok.fresh (Nat.le_refl _))
noncomputable def iRng1 (ta:TA):TI:=fun σ H R=>ta σ H fun vs H1=>∃ j:Int,vs=[.int j]/\-(2 ^ 62)<=j/\j < 2 ^ 62/\R (Itr 0 j.toNat) H1
theorem pi_range1 {a:Expr} {ta:TA} {p pos:Pos} (hg:Gl X "range") (hm:X.mg "range" = none) (ha:PA X [a] ta) (hs:starEach [a] X.env=[(false,eval a X.env)]:=by rfl):PI X tg (.Call (.Name "range" p) [a] [] pos) (iRng1 ta):=by
 intro pins s σ H R I h
 refine Call_ (ld_blt I hg hm boot_range (PyProof.Rows.callWith_type1 (thn (ha pos pins s σ H _ I h) fun us s1 ⟨vs,H1,I1,r1,q1⟩=>?_) hs rfl))
 obtain ⟨j,e,q1,q2,q⟩:=q1
 subst e
 cases r1 with
 | cons r rr=>
  cases rr
  obtain ⟨t,rfl⟩:=r
  exact call_range_1 (range_it I1 (by omega) (by omega) q1 q2 (by simpa using q))
noncomputable def tFor (wi:TI) (g:TG) (tb:TS):TS:=fun D σ H=>wi σ H fun J H1=>∃ W:Nat->Nat->St->Hp->Prop,(∃ m,W 0 m σ H1)/\∀ i m σ H,W i m σ H->
 (J.stop i H/\D.nx σ H)\/(J.go i H/\∃ N:St->Hp->Prop,(∀ σ' H',N σ' H'->∃ m',m' < m/\W (i + 1) m' σ' H')/\∀ x H',J.yld i H x H'->g x σ H' fun σ2 H2=>tb { D with nx:=N,ct:=N,bk:=D.nx } σ2 H2)
noncomputable def pinsAt (fp:List Addr) (h:Heap):List (Addr × Obj):=fp.filterMap fun b=>(h.get? b).map fun o=>(b,o)
theorem mem_pinsAt {fp:List Addr} {h:Heap} {b:Addr} {o:Obj} (hb:b ∈ fp) (e:h.get? b=some o):(b,o) ∈ pinsAt fp h:=List.mem_filterMap.mpr ⟨b,hb,by rw [e]; rfl⟩
theorem of_pinsAt {fp:List Addr} {h:Heap} {p:Addr × Obj} (hp:p ∈ pinsAt fp h):p.1 ∈ fp/\h.get? p.1=some p.2:=by
 obtain ⟨b,hb,e⟩:=List.mem_filterMap.mp hp
 cases q:h.get? b with
 | none=>rw [q] at e; cases e
 | some o=>
  rw [q] at e
  have e':(b,o)=p:=Option.some.inj e
  subst e'
  exact ⟨hb,q⟩
theorem Inv.pinned {pins:List (Addr × Obj)} {σ:St} {H:Hp} {s:Shared} {fp:List Addr} (I:Inv X pins σ H s) (hf:∀ b ∈ fp,FpOk X pins H b) (ho:∀ b ∈ fp,∃ o,s.heap.get? b=some o/\∀ v,o.data ≠ .cell v):Inv X (pins ++ pinsAt fp s.heap) σ H s:=
 I.pins_of fun p hp=>(List.mem_append.mp hp).elim (fun z=>I.pin p (List.mem_append_right _ z)) fun z=>by
  obtain ⟨hb,e⟩:=of_pinsAt z
  obtain ⟨f0,f1,f2,_⟩:=hf p.1 hb
  obtain ⟨o,e',d⟩:=ho p.1 hb
  rw [e] at e'; cases e'
  exact ⟨e,f0,f1,f2,d⟩
theorem Inv.unpinned {pins pl:List (Addr × Obj)} {σ:St} {H:Hp} {s:Shared} (I:Inv X (pins ++ pl) σ H s):Inv X pins σ H s:=I.pins_of fun p hp=>I.pin p (List.mem_append_right _ (List.mem_append_left _ hp))
theorem ps_for {iter:Expr} {body:List Stmt} {wi:TI} {g:TG} {tb:TS} {pos:Pos} (hp:PassesOwn (model X.prog X.w) X.A X.env X.xe) (hc:X.calm=true) (hi:PI X tg iter wi) (hg:PG X tg g) (hb:PSs X body tb)
  (hs:∀ x,foldedSetIterable iter X.env x=pure x:=by intro _; rfl):PS X (.For tg iter body [] pos) (tFor wi g tb):=by
 intro pins s σ H D I h
 refine wpAny_For (thn (hi pins s σ H _ I h) fun v s1 h1=>thn h1 fun itv s2 h2=>?_) hs
 obtain ⟨it,fp,tn,J,H2,e,I2,T,st2,f2,W,⟨m0,w0⟩,turn⟩:=h2
 subst e
 have stat:∀ {H':Hp},(∀ b ∈ fp,H' b=none)->∀ b ∈ fp,FpOk X pins H' b:=fun hn b hb=>⟨hn b hb,(f2 b hb).2⟩
 refine codeAny_forLoop_any (fun n s'=>∃ i σ' H',Inv X pins σ' H' s'/\tn i s'.heap/\(∀ b ∈ fp,H' b=none)/\W i n σ' H') ?_ m0 ⟨0,σ,H2,I2,st2,fun b hb=>(f2 b hb).1,w0⟩
 rintro n s3 ⟨i,σ3,H3,I3,st3,fr3,w3⟩
 rcases turn i n σ3 H3 w3 with ⟨stop,qn⟩ | ⟨go,N,hN,step⟩
 ·refine wpAny_passesOwn hp (thn (T.done X rfl rfl rfl hc i pins s3 σ3 H3 X.xe I3 (stat fr3) st3 stop) fun r s4 ⟨hr,I4⟩=>?_)
  subst hr
  exact wpAny_execs_nil ⟨σ3,H3,I4,qn⟩
 ·refine wpAny_passesOwn hp (thn (T.item X rfl rfl rfl hc i pins s3 σ3 H3 X.xe I3 (stat fr3) st3 go) fun r s4 ⟨u,hr,h4⟩=>?_)
  subst hr
  refine wpAny_passesOwn hp (thn h4 fun _ s5 ⟨x,H5,I5,r5,y5,st5,fr5⟩=>?_)
  have I5':=I5.pinned (stat fr5) (T.obj _ _ st5)
  refine wpAny_passesOwn hp (thn (hg _ s5 σ3 H5 x u _ I5' r5 (step x H5 y5)) fun _ s6 ⟨σ6,H6,I6,q6⟩=>?_)
  refine wpAny_passesOwn hp (thn (hb _ s6 σ6 H6 _ I6 q6) fun f s7 q7=>?_)
  have again:∀ {σ7:St} {H7:Hp},Inv X (pins ++ pinsAt fp s5.heap) σ7 H7 s7->N σ7 H7->∃ m,m < n/\∃ i σ' H',Inv X pins σ' H' s7/\tn i s7.heap/\(∀ b ∈ fp,H' b=none)/\W i m σ' H':=fun {σ7 H7} I7 n7=>by
   obtain ⟨m',hm,w7⟩:=hN σ7 H7 n7
   refine ⟨m',hm,i + 1,σ7,H7,I7.unpinned,T.keep _ _ _ st5 fun b hb o e=>(I7.pin (b,o) (List.mem_append_right _ (List.mem_append_right _ (mem_pinsAt hb e)))).1,fun b hb=>?_,w7⟩
   obtain ⟨o,e,d⟩:=T.obj _ _ st5 b hb
   exact (I7.pin (b,o) (List.mem_append_right _ (List.mem_append_right _ (mem_pinsAt hb e)))).2.1
  cases f with
  | next=>obtain ⟨σ7,H7,I7,n7⟩:=q7; exact again I7 n7
  | cont=>obtain ⟨σ7,H7,I7,n7⟩:=q7; exact again I7 n7
  | brk=>obtain ⟨σ7,H7,I7,q7⟩:=q7; exact ⟨σ7,H7,I7.unpinned,q7⟩
  | ret v=>obtain ⟨x7,σ7,H7,I7,r7,q7⟩:=q7; exact ⟨x7,σ7,H7,I7.unpinned,r7,q7⟩
end
end L2
namespace L2
open PySem PySem.Spec PyProof.Rows
noncomputable abbrev R2:=V->V->Hp->VK->Prop
noncomputable def OpR (X:Cx) (f:Value->Value->Sem Value) (r:R2):Prop:=
 ∀ (pins:List (Addr × Obj)) (s:Shared) (σ:St) (H:Hp) (x y:V) (v u:Value) (Q:VK),Inv X pins σ H s->RelV x v->RelV y u->r x y H Q->
  wpAny (model X.prog X.w) X.A (f v u) (EP X pins σ Q) X.xe s
noncomputable def UnR (X:Cx) (f:Value->Sem Value) (r:V->Hp->VK->Prop):Prop:=
 ∀ (pins:List (Addr × Obj)) (s:Shared) (σ:St) (H:Hp) (x:V) (v:Value) (Q:VK),Inv X pins σ H s->RelV x v->r x H Q->
  wpAny (model X.prog X.w) X.A (f v) (EP X pins σ Q) X.xe s
noncomputable def CallR (X:Cx) (f:Value) (r:List V->Hp->VK->Prop):Prop:=
 ∀ (pins:List (Addr × Obj)) (s:Shared) (σ:St) (H:Hp) (xs:List V) (us:List Value) (Q:VK),Inv X pins σ H s->Vals xs us->r xs H Q->
  wpAny (model X.prog X.w) X.A (call f us) (EP X pins σ Q) X.xe s
noncomputable def tOp (r:R2) (ta tb:TE):TE:=fun σ H Q=>ta σ H fun x H1=>tb σ H1 fun y H2=>r x y H2 Q
noncomputable def tUn (r:V->Hp->VK->Prop) (ta:TE):TE:=fun σ H Q=>ta σ H fun x H1=>r x H1 Q
noncomputable def rI (C:Int->Int->Prop) (g:Int->Int->V):R2:=fun x y H Q=>∃ i j,x=.int i/\y=.int j/\C i j/\Q (g i j) H
noncomputable def rI0 (g:Int->Int->V):R2:=fun x y H Q=>∃ i j,x=.int i/\y=.int j/\Q (g i j) H
noncomputable def rU (g:Int->V):V->Hp->VK->Prop:=fun x H Q=>∃ i,x=.int i/\Q (g i) H
section
variable {X:Cx} {a b c:Expr} {ta tb tc:TE} {pos:Pos}
theorem binT (ha:PE X a ta) (hb:PE X b tb) {pins:List (Addr × Obj)} {s:Shared} {σ:St} {H:Hp} {R:V->V->Hp->Prop} (I:Inv X pins σ H s)
  (h:ta σ H fun x H1=>tb σ H1 fun y H2=>R x y H2) {Q:Value->Shared->Prop} {f:Value->Value->Sem Value}
  (hf:∀ v u s2 x y H2,Inv X pins σ H2 s2->RelV x v->RelV y u->R x y H2->wpAny (model X.prog X.w) X.A (f v u) Q X.xe s2) :
  wpAny (model X.prog X.w) X.A (eval a X.env) (fun v s₁=>wpAny (model X.prog X.w) X.A (eval b X.env) (fun u s₂=>wpAny (model X.prog X.w) X.A (f v u) Q X.xe s₂) X.xe s₁) X.xe s:=by
 refine thn (ha pins s σ H _ I h) fun v s1 ⟨x,H1,I1,r1,q1⟩=>?_
 refine thn (hb pins s1 σ H1 _ I1 q1) fun u s2 ⟨y,H2,I2,r2,q2⟩=>?_
 exact hf v u s2 x y H2 I2 r1 r2 q2
theorem pe_op {op:Operator} {r:R2} (ho:OpR X (binaryOp op) r) (ha:PE X a ta) (hb:PE X b tb):PE X (.BinOp a op b pos) (tOp r ta tb):=by
 intro pins s σ H Q I h
 exact wpAny_BinOp (binT ha hb I h fun v u s2 x y H2 I2 rx ry q=>ho pins s2 σ H2 x y v u Q I2 rx ry q)
theorem pe_un {op:UnaryOp} {r:V->Hp->VK->Prop} (ho:UnR X (unaryOp op) r) (ha:PE X a ta):PE X (.UnaryOp op a pos) (tUn r ta):=by
 intro pins s σ H Q I h
 exact UnaryOp_ (thn (ha pins s σ H _ I h) fun v s1 ⟨x,H1,I1,r1,q1⟩=>ho pins s1 σ H1 x v Q I1 r1 q1)
theorem opI {f:Value->Value->Sem Value} {C:Int->Int->Prop} {g:Int->Int->Int}
  (rule:∀ (i j:Int) (t u:Tok) (s:Shared) (Q:Value->Shared->Prop) (E:Value->Shared->Prop),C i j->Q (.int (g i j) s.toks) { s with toks:=s.toks + 1 }->wpAny (model X.prog X.w) X.A (f (.int i t) (.int j u)) Q E s) :
  OpR X f (rI C fun i j=>.int (g i j)):=by
 intro pins s σ H x y v u Q I rx ry h
 obtain ⟨i,j,rfl,rfl,hc,q⟩:=h
 obtain ⟨t,rfl⟩:=rx
 obtain ⟨t',rfl⟩:=ry
 exact rule i j t t' s _ _ hc ⟨.int (g i j),H,I.tok _,⟨_,rfl⟩,q⟩
theorem opI0 {f:Value->Value->Sem Value} {g:Int->Int->Int}
  (rule:∀ (i j:Int) (t u:Tok) (s:Shared) (Q:Value->Shared->Prop) (E:Value->Shared->Prop),Q (.int (g i j) s.toks) { s with toks:=s.toks + 1 }->wpAny (model X.prog X.w) X.A (f (.int i t) (.int j u)) Q E s) :
  OpR X f (rI0 fun i j=>.int (g i j)):=by
 intro pins s σ H x y v u Q I rx ry h
 obtain ⟨i,j,rfl,rfl,q⟩:=h
 obtain ⟨t,rfl⟩:=rx
 obtain ⟨t',rfl⟩:=ry
 exact rule i j t t' s _ _ ⟨.int (g i j),H,I.tok _,⟨_,rfl⟩,q⟩
theorem opB0 {f:Value->Value->Sem Value} {g:Int->Int->Bool}
  (rule:∀ (i j:Int) (t u:Tok) (s:Shared) (Q:Value->Shared->Prop) (E:Value->Shared->Prop),Q (.bool (g i j)) s->wpAny (model X.prog X.w) X.A (f (.int i t) (.int j u)) Q E s) :
  OpR X f (rI0 fun i j=>.bl (g i j)):=by
 intro pins s σ H x y v u Q I rx ry h
 obtain ⟨i,j,rfl,rfl,q⟩:=h
 obtain ⟨t,rfl⟩:=rx
 obtain ⟨t',rfl⟩:=ry
 exact rule i j t t' s _ _ ⟨.bl (g i j),H,I,rfl,q⟩
noncomputable def CPow (i j:Int):Prop:=0<=j/\j<=1000000/\i.natAbs < 2 ^ 64
noncomputable def CMul (i j:Int):Prop:=(-(2 ^ 64) < i/\i < 2 ^ 64)\/(-(2 ^ 64) < j/\j < 2 ^ 64)
theorem CMul.ok {i j:Int} (h:CMul i j):IntMulOk i j:=by
 rcases h with ⟨h1,h2⟩ | ⟨h1,h2⟩
 ·exact .of_left (intBits_le_64 h1 h2)
 ·exact .of_right (intBits_le_64 h1 h2)
theorem op_add:OpR X (binaryOp .Add) (rI0 fun i j=>.int (i + j)):=opI0 fun _ _ _ _ _ _ _ q=>add_int q
theorem op_sub:OpR X (binaryOp .Sub) (rI0 fun i j=>.int (i - j)):=opI0 fun _ _ _ _ _ _ _ q=>sub_int q
theorem op_mul:OpR X (binaryOp .Mult) (rI CMul fun i j=>.int (i * j)):=opI fun _ _ _ _ _ _ _ hc q=>mul_int q hc.ok
theorem op_mod:OpR X (binaryOp .Mod) (rI (fun _ j=>0 < j) fun i j=>.int (i % j)):=opI fun i j _ _ _ _ _ hc q=>by
 have h1:(0:Int) < j:=hc
 exact mod_int' (by omega) (by rw [Int.fmod_eq_emod_of_nonneg i (by omega)]; exact q)
theorem op_pow:OpR X (binaryOp .Pow) (rI CPow fun i j=>.int (i ^ j.toNat)):=opI fun _ _ _ _ _ _ _ hc q=>pow_int_small hc.1 hc.2.1 hc.2.2 q
theorem unI {f:Value->Sem Value} {g:Int->Int}
  (rule:∀ (i:Int) (t:Tok) (s:Shared) (Q:Value->Shared->Prop) (E:Value->Shared->Prop),Q (.int (g i) s.toks) { s with toks:=s.toks + 1 }->wpAny (model X.prog X.w) X.A (f (.int i t)) Q E s) :
  UnR X f (rU fun i=>.int (g i)):=by
 intro pins s σ H x v Q I rx h
 obtain ⟨i,rfl,q⟩:=h
 obtain ⟨t,rfl⟩:=rx
 exact rule i t s _ _ ⟨.int (g i),H,I.tok _,⟨_,rfl⟩,q⟩
theorem un_neg:UnR X (unaryOp .USub) (rU fun i=>.int (-i)):=unI fun _ _ _ _ _ q=>neg_int q
end
section
variable {X:Cx} {a b c:Expr} {ta tb tc:TE} {pos:Pos}
theorem fin_bl {pins:List (Addr × Obj)} {σ:St} {H:Hp} {s:Shared} {Q:VK} {k k':Bool} (I:Inv X pins σ H s) (q:Q (.bl k) H) (e:k=k'):EP X pins σ Q (.bool k') s:=by
 subst e
 exact ⟨.bl k,H,I,rfl,q⟩
theorem op_lt:OpR X (compareOp .Lt) (rI0 fun i j=>.bl (decide (i < j))):=opB0 fun _ _ _ _ _ _ _ q=>lt_int q
theorem op_le:OpR X (compareOp .LtE) (rI0 fun i j=>.bl (decide (i<=j))):=opB0 fun _ _ _ _ _ _ _ q=>le_int q
theorem op_gt:OpR X (compareOp .Gt) (rI0 fun i j=>.bl (decide (j < i))):=opB0 fun _ _ _ _ _ _ _ q=>gt_int q
theorem op_isN:OpR X (compareOp .Is) (fun x y H Q=>y=.non/\Q (.bl (decide (x=.non))) H):=by
 intro pins s σ H x y v u Q I rx ry h
 obtain ⟨rfl,q⟩:=h
 cases ry
 refine is_none_gen (fin_bl I q ?_)
 cases x <;> first
  | (cases rx; rfl)
  | (obtain ⟨t,rfl⟩:=rx; rfl)
theorem op_notN:OpR X (compareOp .IsNot) (fun x y H Q=>y=.non/\Q (.bl (!decide (x=.non))) H):=by
 intro pins s σ H x y v u Q I rx ry h
 obtain ⟨rfl,q⟩:=h
 cases ry
 refine isnot_none_gen (fin_bl I q ?_)
 cases x <;> first
  | (cases rx; rfl)
  | (obtain ⟨t,rfl⟩:=rx; rfl)
theorem nomark (b:Expr) {op:CmpOp} (h:op ≠ .In:=by decide) (h2:op ≠ .NotIn:=by decide):behindInMarks op b=false:=by
 have e1:(op == CmpOp.In)=false:=by cases op <;> first | rfl | exact absurd rfl h
 have e2:(op == CmpOp.NotIn)=false:=by cases op <;> first | rfl | exact absurd rfl h2
 cases b <;> simp [behindInMarks,e1,e2]
theorem pe_cmpR {op:CmpOp} {r:R2} (ho:OpR X (compareOp op) r) (ha:PE X a ta) (hb:PE X b tb) (hm:behindInMarks op b=false):PE X (.Compare a [op] [b] pos) (tOp r ta tb):=by
 intro pins s σ H Q I h
 exact wpAny_Compare1 (binT ha hb I h fun v u s2 x y H2 I2 rx ry q=>ho pins s2 σ H2 x y v u Q I2 rx ry q) hm
noncomputable def tTest (t:TE):TT:=fun σ H Q=>t σ H fun x H'=>∃ k,x=.bl k/\Q k H'
theorem pt_cmpR {op:CmpOp} {r:R2} (ho:OpR X (compareOp op) r) (ha:PE X a ta) (hb:PE X b tb) (hm:behindInMarks op b=false):PT X (.Compare a [op] [b] pos) (tTest (tOp r ta tb)):=by
 intro pins s σ H Q I h
 refine wpAny_isTrue_Compare1 (thn (ha pins s σ H _ I h) fun v s1 ⟨x,H1,I1,r1,q1⟩=>thn (hb pins s1 σ H1 _ I1 q1) fun u s2 ⟨y,H2,I2,r2,q2⟩=>
  thn (ho pins s2 σ H2 x y v u _ I2 r1 r2 q2) fun c s3 ⟨z,H3,I3,r3,k,e,q3⟩=>?_) hm
 subst e
 cases r3
 exact wpAny_truthy_bool ⟨H3,I3,q3⟩
noncomputable def tChain (r r':R2) (ta tb tc:TE):TE:=fun σ H Q=>ta σ H fun x H1=>tb σ H1 fun y H2=>r x y H2 fun z H3=>∃ k,z=.bl k/\
 (if k=true then tc σ H3 fun w' H4=>r' y w' H4 Q else Q (.bl false) H3)
theorem pe_chain {op op':CmpOp} {r r':R2} (ho:OpR X (compareOp op) r) (ho':OpR X (compareOp op') r') (ha:PE X a ta) (hb:PE X b tb) (hc:PE X c tc)
  (hm:lastMarks [op,op'] [b,c]=false:=by with_unfolding_all rfl):PE X (.Compare a [op,op'] [b,c] pos) (tChain r r' ta tb tc):=by
 intro pins s σ H Q I h
 refine Compare_chain (thn (ha pins s σ H _ I h) fun v s1 ⟨x,H1,I1,r1,q1⟩=>chain_link (thn (hb pins s1 σ H1 _ I1 q1) fun u s2 ⟨y,H2,I2,r2,q2⟩=>
  thn (ho pins s2 σ H2 x y v u _ I2 r1 r2 q2) fun d s3 ⟨z,H3,I3,r3,k,e,q3⟩=>?_)) hm
 subst e
 cases r3
 refine wpAny_truthy_bool ?_
 cases k with
 | false=>exact ite_ff ⟨.bl false,H3,I3,rfl,q3⟩
 | true=>exact ite_tt (chain_last (thn (hc pins s3 σ H3 _ I3 q3) fun w' s4 ⟨z',H4,I4,r4,q4⟩=>ho' pins s4 σ H4 y z' u w' Q I4 r2 r4 q4))
theorem pt_chain {op op':CmpOp} {r r':R2} (ho:OpR X (compareOp op) r) (ho':OpR X (compareOp op') r') (ha:PE X a ta) (hb:PE X b tb) (hc:PE X c tc)
  (hm:lastMarks [op,op'] [b,c]=false:=by with_unfolding_all rfl):PT X (.Compare a [op,op'] [b,c] pos) (tTest (tChain r r' ta tb tc)):=by
 intro pins s σ H Q I h
 refine isTrue_chain (thn (ha pins s σ H _ I h) fun v s1 ⟨x,H1,I1,r1,q1⟩=>test_link (thn (hb pins s1 σ H1 _ I1 q1) fun u s2 ⟨y,H2,I2,r2,q2⟩=>
  thn (ho pins s2 σ H2 x y v u _ I2 r1 r2 q2) fun d s3 ⟨z,H3,I3,r3,k,e,q3⟩=>?_)) hm
 subst e
 cases r3
 refine wpAny_truthy_bool ?_
 cases k with
 | false=>
  obtain ⟨k',e',q'⟩:=q3
  cases e'
  exact ite_ff ⟨H3,I3,q'⟩
 | true=>
  refine ite_tt (test_last (thn (hc pins s3 σ H3 _ I3 q3) fun w' s4 ⟨z',H4,I4,r4,q4⟩=>thn (ho' pins s4 σ H4 y z' u w' _ I4 r2 r4 q4) fun d' s5 ⟨z2,H5,I5,r5,k2,e2,q5⟩=>?_))
  subst e2
  cases r5
  exact wpAny_truthy_bool ⟨H5,I5,q5⟩
theorem line63:(sizeLine:Nat) < 2 ^ 63:=by rw [sizeLine_eq]; decide
theorem vals1 {x:V} {us:List Value} (r:Vals [x] us):∃ u,us=[u]/\RelV x u:=by
 cases r with
 | cons r1 r2=>cases r2; exact ⟨_,rfl,r1⟩
theorem vals2 {x y:V} {us:List Value} (r:Vals [x,y] us):∃ u w',us=[u,w']/\RelV x u/\RelV y w':=by
 cases r with
 | cons r1 r2=>
  cases r2 with
  | cons r3 r4=>cases r4; exact ⟨_,_,rfl,r1,r3⟩
theorem call_min2 (hc:X.calm=true):CallR X (.builtin "min") (fun xs H Q=>∃ i j,xs=[.int i,.int j]/\Q (.int (if j < i then j else i)) H):=by
 intro pins s σ H xs us Q I r h
 obtain ⟨i,j,rfl,q⟩:=h
 obtain ⟨u,w',rfl,⟨t,rfl⟩,⟨t',rfl⟩⟩:=vals2 r
 refine min_two_ints (I.ok.hd hc) fun h' tk k=>⟨_,H,I.kept k,?_,q⟩
 by_cases hj:j < i
 ·rw [if_pos hj,if_pos hj]; exact ⟨_,rfl⟩
 ·rw [if_neg hj,if_neg hj]; exact ⟨_,rfl⟩
end
end L2
namespace L2
open PySem PySem.Spec PyProof.Rows
structure ObjM (h:Heap) (x dx C:Addr) (mA:Str->Option Value):Prop where
 obj:h.get? x=some (PySem.W.instObj C dx)
 ns:h.Ns1 dx mA
 ne:dx ≠ x
theorem lookIn_ns {h:Heap} {dx:Addr} {mA:Str->Option Value} (n:h.Ns1 dx mA):∃ od,h.get? dx=some od/\∀ name,PySem.W.lookIn name od=some (mA name):=by
 obtain ⟨o,es,ep,ho,hd,hk,_,hm⟩:=n
 refine ⟨o,ho,fun name=>?_⟩
 have e:=hm name
 unfold nsFind findBy at e
 rw [<-Array.find?_toList] at e
 unfold PySem.W.lookIn
 rw [hd]
 dsimp only
 split
 ·rename_i y q
  rw [q] at e
  exact congrArg some e
 ·rename_i q
  rw [q] at e
  have a:es.toList.any (·.refKey)=false:=by
   rw [List.any_eq_false]
   intro y hy
   obtain ⟨z,t,hkey⟩:=hk y (Array.mem_toList_iff.mp hy)
   simp [DictEntry.refKey,hkey]
  have a':¬ es.toList.any (·.refKey)=true:=by rw [a]; exact Bool.false_ne_true
  rw [if_neg a']
  exact congrArg some e
theorem ObjM.look {h:Heap} {x dx C:Addr} {mA:Str->Option Value} (I:ObjM h x dx C mA):∃ od,PySem.W.InstAt h x (PySem.W.instObj C dx) C (some od)/\∀ name,PySem.W.lookIn name od=some (mA name):=
 let ⟨od,ho,hl⟩:=lookIn_ns I.ns
 ⟨od,⟨I.obj,rfl,rfl,ho⟩,hl⟩
section
variable {prog:Program} {w:World} {A:Around} {E:Value->Shared->Prop} {s:Shared} {K:PySem.W.Frag} {x dx C f:Addr} {mA:Str->Option Value} {name:Str} {v:Value}
theorem get_map {expr:Bool} {Q:Value->Shared->Prop} (X:K.In s.heap) (I:ObjM s.heap x dx C mA) (hg:PySem.W.plainGet K C name=true) (hh:PySem.W.hasDictIn K C=true)
  (ha:PySem.W.findIn K (.ref C) name=some none) (hv:mA name=some v) (hv':PySem.W.handedIn v=true) (h:Q v { s with toks:=s.toks + 1 }) :
  wpAny (model prog w) A (getAttr (.ref x) name expr) Q E s:=by
 obtain ⟨od,J,hl⟩:=I.look
 exact PySem.W.get_value X J (PySem.W.plainGet_of hg).1 (PySem.W.findObj_own hh ha rfl (by rw [hl,hv])) hv' h
theorem get_meth {pl:Sem Bool} {Q:Value × List Value->Shared->Prop} (X:K.In s.heap) (I:ObjM s.heap x dx C mA) (hg:PySem.W.plainGet K C name=true)
  (hf:PySem.W.findIn K (.ref C) name=some (some (.ref f))) (ht:PySem.W.isFn K (.ref f)=true) (hv:mA name=none) (h:Q (.ref f,[.ref x]) s) :
  wpAny (model prog w) A (getMethod (.ref x) name pl) Q E s:=by
 obtain ⟨od,J,hl⟩:=I.look
 exact PySem.W.method_fn X J (PySem.W.plainGet_of hg).1 (PySem.W.plainGet_of hg).2 hf (beq_iff_eq.mp ht) (by show (PySem.W.lookIn name od).map (·.isSome)=some false; rw [hl,hv]; rfl) h
theorem set_map {ns:List Str} {Q:Unit->Shared->Prop} (X:K.In s.heap) (I:ObjM s.heap x dx C mA)
  (hs:PySem.W.findIn K (.ref C) "__setattr__" = some (some (.builtin "object.__setattr__"))) (hp:PySem.W.plainOver K C=true) (ht:PySem.W.takerIn K C name=some none) (hh:PySem.W.hasDictIn K C=true)
  (hw:PySem.Within mA ns) (hsz:ns.length<=sizeLine)
  (h:∀ h',ObjM h' x dx C (fun y=>if y=name then some v else mA y)->Heap.SameBut dx s.heap h'->Q () { s with heap:=h',toks:=s.toks + 2 }) :
  wpAny (model prog w) A (setAttr (.ref x) name v) Q E s:=by
 obtain ⟨od,J,hl⟩:=I.look
 refine PySem.W.set_plain X J hs (PySem.W.osa_open (s:={ s with toks:=s.toks + 1 }) (r:=none) X J hp ht fun b=>?_)
 obtain ⟨cd,hc,hd'⟩:=PySem.W.any_some hh
 have hx:s.heap.get? x=some ⟨.ref C,some dx,.plain,#[]⟩:=I.obj
 refine wpAny_bind (wpAny_pure (wpAny_bind (wpAny_bind (wpAny_loadPart hx (wpAny_bind (PySem.W.Looks.here (s:={ s with toks:=s.toks + 1 }) (PySem.W.looks_clsIn X hc) ?_))))))
 rw [hd']
 refine wpAny_pure (a:=some dx) (wpAny_bind (wpAny_pure (wpAny_bind ?_)))
 refine wpAny_nsSet1 (s:={ s with toks:=s.toks + 1 }) I.ns fun h' hn2 hs2=>?_
 obtain ⟨oD,esD,epD,hoD,hdD,hcD⟩:=hn2.count (PySem.Within.cons name v hw)
 refine wpAny_bind (wpAny_lookBehind hoD (by rw [hdD]; exact pastItsLine_dict (Nat.le_trans hcD (by rw [List.length_cons]; omega))) ?_)
 exact wpAny_pure (h _ ⟨(hs2.2 _ (Ne.symm I.ne)).trans I.obj,hn2,I.ne⟩ hs2)
theorem make_map {R:Result->Shared->Prop} {vs:List Value} {kw:List (Str × Value)} (X:K.In s.heap) (hm:PySem.W.makesIn K C=true)
  (hi:PySem.W.findIn K (.ref C) "__init__" = some (some (.ref f))) (hf:PySem.W.typeIn K (.ref f)=some (.type "function"))
  (h:codeAny (model prog w) (A.under (.builtin "type.__call__" ⟨.ref C :: vs,kw⟩)) (.call (.ref f) ⟨.ref (s.heap.objs.size + 1) :: vs,kw⟩) (PySem.W.InitBack (s.heap.objs.size + 1) R)
   { s with heap:=(s.heap.push PySem.W.emptyDict).push (PySem.W.instObj C s.heap.objs.size) }) :
  codeAny (model prog w) A (.call (.ref C) ⟨vs,kw⟩) R s:=by
 obtain ⟨hh,g,d,t,os⟩:=s
 exact PySem.W.make_core (PySem.W.makes_of X hm) (PySem.W.looks_findIn X hi) (fun self=>PySem.W.bind_fn X self hf) (.inl rfl) h
end
noncomputable def putF (f:Str) (v:V):List (Str × V)->List (Str × V)
 | []=>[(f,v)]
 | (g,x) :: r=>if g=f then (g,v) :: r else (g,x) :: putF f v r
theorem lookup_putF (f g:Str) (v:V):∀ fs:List (Str × V),(putF f v fs).lookup g=if g=f then some v else fs.lookup g
 | []=>by
  show List.lookup g [(f,v)]=_
  by_cases h:g=f
  ·have hb:(g == f)=true:=beq_iff_eq.mpr h
   simp only [List.lookup,hb,if_pos h]
  ·have hb:(g == f)=false:=beq_eq_false_iff_ne.mpr h
   simp only [List.lookup,hb,if_neg h]
 | (k,x) :: r=>by
  have ih:=lookup_putF f g v r
  rw [show putF f v ((k,x) :: r)=(if k=f then (k,v) :: r else (k,x) :: putF f v r) from rfl]
  by_cases hk:k=f
  ·rw [if_pos hk]
   by_cases h:g=k
   ·have hb:(g == k)=true:=beq_iff_eq.mpr h
    simp only [List.lookup,hb,if_pos (h.trans hk)]
   ·have hb:(g == k)=false:=beq_eq_false_iff_ne.mpr h
    simp only [List.lookup,hb,if_neg (fun e:g=f=>h (e.trans hk.symm))]
  ·rw [if_neg hk]
   by_cases h:g=k
   ·have hb:(g == k)=true:=beq_iff_eq.mpr h
    simp only [List.lookup,hb,if_neg (fun e:g=f=>hk (h.symm.trans e))]
   ·have hb:(g == k)=false:=beq_eq_false_iff_ne.mpr h
    simp only [List.lookup,hb]
    exact ih
theorem keys_putF (f:Str) (v:V):∀ fs:List (Str × V),f ∈ (putF f v fs).map (·.1)/\∀ g,g ∈ fs.map (·.1)->g ∈ (putF f v fs).map (·.1)
 | []=>⟨by simp [putF],fun g h=>by simp at h⟩
 | (k,x) :: r=>by
  obtain ⟨i1,i2⟩:=keys_putF f v r
  rw [show putF f v ((k,x) :: r)=(if k=f then (k,v) :: r else (k,x) :: putF f v r) from rfl]
  by_cases hk:k=f
  ·rw [if_pos hk]
   subst hk
   exact ⟨by simp,fun g h=>by simpa using h⟩
  ·rw [if_neg hk]
   refine ⟨?_,fun g h=>?_⟩
   ·rw [List.map_cons]
    exact List.mem_cons_of_mem _ i1
   ·rw [List.map_cons] at h ⊢
    rcases List.mem_cons.mp h with e | e
    ·exact List.mem_cons.mpr (.inl e)
    ·exact List.mem_cons_of_mem _ (i2 g e)
theorem length_putF (f:Str) (v:V):∀ fs:List (Str × V),(putF f v fs).length<=fs.length + 1
 | []=>by simp [putF]
 | (k,x) :: r=>by
  have ih:=length_putF f v r
  rw [show putF f v ((k,x) :: r)=(if k=f then (k,v) :: r else (k,x) :: putF f v r) from rfl]
  by_cases hk:k=f
  ·rw [if_pos hk,List.length_cons,List.length_cons]; omega
  ·rw [if_neg hk,List.length_cons,List.length_cons]; omega
theorem RelO.some_of {v:V} {o:Option Value} (r:RelO (some v) o):∃ u,o=some u/\RelV v u:=by
 cases o with
 | none=>exact (show False from r).elim
 | some u=>exact ⟨u,rfl,r⟩
theorem RelO.none_of {o:Option Value} (r:RelO none o):o=none:=by
 cases o with
 | none=>rfl
 | some u=>exact (show False from r).elim
theorem handed_of {v:V} {u:Value} (r:RelV v u):PySem.W.handedIn u=true:=by
 cases v with
 | non=>cases (show u=Value.none from r); rfl
 | bl b=>cases (show u=Value.bool b from r); rfl
 | int i=>obtain ⟨t,e⟩:=(show ∃ t,u=Value.int i t from r); cases e; rfl
 | str x=>obtain ⟨t,e⟩:=(show ∃ t,u=Value.str x t from r); cases e; rfl
 | byt b=>obtain ⟨t,e⟩:=(show ∃ t,u=Value.bytes b t from r); cases e; rfl
 | flt b=>obtain ⟨t,e⟩:=(show ∃ t,u=Value.float b t from r); cases e; rfl
 | ref a=>cases (show u=Value.ref a from r); rfl
 | ty n=>cases (show u=Value.type n from r); rfl
section
variable {P:Program} {w:World} {H H':Hp} {h h':Heap} {a C dx:Addr} {fs fs':List (Str × V)}
theorem ins_get (hok:HOk P w H h) (e:H a=some (.ins C dx fs)):∃ mA,ObjM h a dx C mA/\(∀ f,RelO (fs.lookup f) (mA f))/\PySem.Within mA (fs.map (·.1))/\fs.length<=1000/\H dx=some (.own a):=by
 obtain ⟨d,z,ne,ob,mA,n,r,q⟩:=(show ObjOk P w H h a (.ins C dx fs) from hok a _ e)
 exact ⟨mA,⟨ob,n,ne⟩,r,q,z,d⟩
end
structure Cls (K:PySem.W.Frag) (C:Addr):Prop where
 pg:PySem.W.plainGet K C Str.empty=true
 hd:PySem.W.hasDictIn K C=true
 po:PySem.W.plainOver K C=true
 sa:PySem.W.findIn K (.ref C) "__setattr__" = some (some (.builtin "object.__setattr__"))
theorem Cls.get {K:PySem.W.Frag} {C:Addr} (c:Cls K C) (f:Str):PySem.W.plainGet K C f=true:=c.pg
noncomputable def NoAttr (K:PySem.W.Frag) (C:Addr) (f:Str):Prop:=PySem.W.findIn K (.ref C) f=some none
theorem NoAttr.taker {K:PySem.W.Frag} {C:Addr} {f:Str} (n:NoAttr K C f):PySem.W.takerIn K C f=some none:=by
 unfold PySem.W.takerIn
 rw [show PySem.W.findIn K (.ref C) f=some none from n]
 rfl
structure Meth (K:PySem.W.Frag) (C:Addr) (m:Str) (f:Addr):Prop where
 at_:PySem.W.findIn K (.ref C) m=some (some (.ref f))
 fn:PySem.W.isFn K (.ref f)=true
 kp:PySem.W.keepIn K (.ref f)=true
section
variable {X:Cx} {pins:List (Addr × Obj)} {σ:St} {H:Hp} {s:Shared} {a C dx:Addr} {fs:List (Str × V)} {f:Str} {v:V} {A:Around} {E:Value->Shared->Prop}
theorem getattr_ok {b:Bool} {Q:Value->Shared->Prop} (I:Inv X pins σ H s) (e:H a=some (.ins C dx fs)) (c:Cls X.K C) (n:NoAttr X.K C f) (l:fs.lookup f=some v)
  (h:∀ u s',Inv X pins σ H s'->RelV v u->Q u s'):wpAny (model X.prog X.w) A (getAttr (.ref a) f b) Q E s:=by
 obtain ⟨mA,O,r,_,_,_⟩:=ins_get I.hok e
 obtain ⟨u,hu,ru⟩:=RelO.some_of (v:=v) (o:=mA f) (by rw [<-l]; exact r f)
 exact get_map I.kIn O (c.get f) c.hd n hu (handed_of ru) (h u _ (I.tok _) ru)
theorem getmeth_ok {m:Str} {g:Addr} {pl:Sem Bool} {Q:Value × List Value->Shared->Prop} (I:Inv X pins σ H s) (e:H a=some (.ins C dx fs)) (c:Cls X.K C) (k:Meth X.K C m g) (l:fs.lookup m=none)
  (h:Q (.ref g,[.ref a]) s):wpAny (model X.prog X.w) A (getMethod (.ref a) m pl) Q E s:=by
 obtain ⟨mA,O,r,_,_,_⟩:=ins_get I.hok e
 have hn:mA m=none:=RelO.none_of (by rw [<-l]; exact r m)
 exact get_meth I.kIn O (c.get m) k.at_ k.fn hn h
theorem setattr_ok {y:V} {u:Value} {Q:Unit->Shared->Prop} (I:Inv X pins σ H s) (e:H a=some (.ins C dx fs)) (c:Cls X.K C) (n:NoAttr X.K C f) (hl:fs.length < 1000) (ry:RelV y u)
  (h:∀ s',Inv X pins σ (upd H a (.ins C dx (putF f y fs))) s'->Q () s'):wpAny (model X.prog X.w) A (setAttr (.ref a) f u) Q E s:=by
 obtain ⟨mA,O,r,wi,_,ho⟩:=ins_get I.hok e
 have hz:(fs.map (·.1)).length<=sizeLine:=by rw [List.length_map,sizeLine_eq]; omega
 refine set_map I.kIn O c.sa c.po n.taker c.hd wi hz fun h' O' sb=>h _ ?_
 have hd:∃ o,h'.get? dx=some o:=let ⟨o,_,_,e',_⟩:=O'.ns; ⟨o,e'⟩
 refine I.write (x:=a) (e:=dx) (by rw [e]; exact True.intro) (.inr ho) (fun b q hb z=>(sb.2 b hb).trans z) hd ?_
 refine ⟨by rw [upd_ne O.ne]; exact ho,?_,O.ne,O'.obj,_,O'.ns,fun g=>?_,fun g hg=>?_⟩
 ·have:=length_putF f y fs; omega
 ·show RelO ((putF f y fs).lookup g) (if g=f then some u else mA g)
  rw [lookup_putF]
  by_cases q:g=f
  ·rw [if_pos q,if_pos q]; exact ry
  ·rw [if_neg q,if_neg q]; exact r g
 ·by_cases q:g=f
  ·rw [q]; exact (keys_putF f y fs).1
  ·refine (keys_putF f y fs).2 g (wi g fun z=>hg ?_)
   show (if g=f then some u else mA g)=none
   rw [if_neg q]; exact z
theorem Inv.made (I:Inv X pins σ H s):Inv X pins σ (upd (upd H s.heap.objs.size (.own (s.heap.objs.size + 1))) (s.heap.objs.size + 1) (.ins C s.heap.objs.size []))
  { s with heap:=(s.heap.push PySem.W.emptyDict).push (PySem.W.instObj C s.heap.objs.size) }:=by
 have e1:(s.heap.push PySem.W.emptyDict).get? s.heap.objs.size=some PySem.W.emptyDict:=Heap.get?_push_size s.heap rfl
 have e2:((s.heap.push PySem.W.emptyDict).push (PySem.W.instObj C s.heap.objs.size)).get? (s.heap.objs.size + 1)=some (PySem.W.instObj C s.heap.objs.size):=by
  have:=Heap.get?_push_size (s.heap.push PySem.W.emptyDict) (o:=PySem.W.instObj C s.heap.objs.size) rfl
  rwa [Heap.size_push] at this
 have e3:(s.heap.push PySem.W.emptyDict).Ns s.heap.objs.size (fun _=>none):=⟨PySem.W.emptyDict,#[],_,e1,rfl,(fun e he=>absurd he (by simp)),fun _=>rfl⟩
 have I1:=I.laid (a:=s.heap.objs.size) (o:=.own (s.heap.objs.size + 1)) (h':=s.heap.push PySem.W.emptyDict) (t':=s.toks) (fun b u q=>Heap.get?_push_of_some _ q) (Nat.le_refl _) ⟨_,e1⟩
 refine I1.laid (a:=s.heap.objs.size + 1) (o:=.ins C s.heap.objs.size []) (t':=s.toks) (fun b u q=>Heap.get?_push_of_some _ q) (Nat.le_of_eq (Heap.size_push _ _)) ?_
 have ne:s.heap.objs.size ≠ s.heap.objs.size + 1:=Nat.ne_of_lt (Nat.lt_succ_self _)
 refine ⟨by rw [upd_ne ne,upd_same],Nat.zero_le _,ne,e2,fun _=>none,(Heap.Ns1.of_empty e3).at fun o q=>Heap.get?_push_of_some _ q,fun _=>True.intro,fun y hy=>absurd rfl hy⟩
theorem attr_of {prog:Program} {w:World} {env:Env} {e:Expr} {f:Str} {pos:Pos} {s:Shared} {Q:Value->Shared->Prop} (hb:attributeBase e f env (eval e env)=eval e env)
  (h:wpAny (model prog w) A (eval e env) (fun o s₁=>wpAny (model prog w) A (getAttr o f true) Q E s₁) E s):wpAny (model prog w) A (eval (.Attribute e f pos) env) Q E s:=
 Attribute_any_ h (by rw [arm_eval_Attribute,hb])
end
noncomputable def tFld (K:PySem.W.Frag) (ta:TE) (f:Str):TE:=fun σ H Q=>ta σ H fun x H1=>∃ a C dx fs v,x=.ref a/\H1 a=some (.ins C dx fs)/\Cls K C/\NoAttr K C f/\fs.lookup f=some v/\Q v H1
noncomputable def sFld (K:PySem.W.Frag) (ta tv:TE) (f:Str):TS:=fun D σ H=>tv σ H fun y H1=>ta σ H1 fun x H2=>∃ a C dx fs,x=.ref a/\H2 a=some (.ins C dx fs)/\Cls K C/\NoAttr K C f/\fs.length < 1000/\
 D.nx σ (upd H2 a (.ins C dx (putF f y fs)))
noncomputable def InOp (X:Cx) (op:Operator) (rd:V->V->Hp->VK->Prop):Prop:=
 ∀ (pins:List (Addr × Obj)) (s:Shared) (σ:St) (H:Hp) (x y:V) (u v:Value) (Q:VK),Inv X pins σ H s->RelV x u->RelV y v->rd x y H Q->wpAny (model X.prog X.w) X.A (inplaceOp op u v) (EP X pins σ Q) X.xe s
noncomputable def sFldAug (K:PySem.W.Frag) (ta tv:TE) (rd:V->V->Hp->VK->Prop) (f:Str):TS:=fun D σ H=>ta σ H fun x H1=>∃ a C dx fs v,x=.ref a/\H1 a=some (.ins C dx fs)/\Cls K C/\NoAttr K C f/\fs.lookup f=some v/\
 tv σ H1 fun y H2=>rd v y H2 fun z H3=>∃ dx' fs',H3 a=some (.ins C dx' fs')/\fs'.length < 1000/\D.nx σ (upd H3 a (.ins C dx' (putF f z fs')))
section
variable {X:Cx} {o e value:Expr} {f:Str} {pos pos' tpos:Pos} {ta tv:TE}
theorem pe_fld (he:PE X e ta) (hb:attributeBase e f X.env (eval e X.env)=eval e X.env):PE X (.Attribute e f pos) (tFld X.K ta f):=by
 intro pins s σ H Q I h
 refine attr_of hb (thn (he pins s σ H _ I h) fun u s1 ⟨x,H1,I1,rx,a,C,dx,fs,v,ex,ea,c,n,l,q⟩=>?_)
 subst ex
 obtain rfl:u=Value.ref a:=rx
 exact getattr_ok I1 ea c n l fun u' s2 I2 ru=>⟨v,H1,I2,ru,q⟩
theorem ps_fld (ha:PE X o ta) (hv:PE X value tv) (hs:swapsWith value (some (.Attribute o f pos')) pos.line X.env=pure false):PS X (.Assign [.Attribute o f pos'] value pos) (sFld X.K ta tv f):=by
 intro pins s σ H D I h
 refine plainObj_wpAny_Assign_Attribute (thn (hv pins s σ H _ I h) fun u s1 ⟨y,H1,I1,ry,q⟩=>thn (ha pins s1 σ H1 _ I1 q) fun ov s2 ⟨x,H2,I2,rx,a,C,dx,fs,ex,ea,c,n,l,q2⟩=>?_) hs
 subst ex
 obtain rfl:ov=Value.ref a:=rx
 exact setattr_ok I2 ea c n l ry fun s3 I3=>⟨σ,_,I3,q2⟩
theorem ps_fldaug {op:Operator} {rd:V->V->Hp->VK->Prop} (ha:PE X o ta) (hv:PE X value tv) (hop:InOp X op rd):PS X (.AugAssign (.Attribute o f tpos) op value pos) (sFldAug X.K ta tv rd f):=by
 intro pins s σ H D I h
 refine wpAny_AugAssign_AttributeAny (thn (ha pins s σ H _ I h) fun ov s1 ⟨x,H1,I1,rx,a,C,dx,fs,v,ex,ea,c,n,l,q⟩=>?_)
 subst ex
 obtain rfl:ov=Value.ref a:=rx
 refine getattr_ok I1 ea c n l fun u s2 I2 ru=>thn (hv pins s2 σ H1 _ I2 q) fun w3 s3 ⟨y,H2,I3,ry,q3⟩=>thn (hop pins s3 σ H2 v y u w3 _ I3 ru ry q3) fun w4 s4 ⟨z,H3,I4,rz,dx',fs',ea',l',q4⟩=>?_
 exact setattr_ok I4 ea' c n l' rz fun s5 I5=>⟨σ,_,I5,q4⟩
noncomputable def rAdd:V->V->Hp->VK->Prop:=fun x y H Q=>∃ i j,x=.int i/\y=.int j/\Q (.int (i + j)) H
theorem in_add:InOp X .Add rAdd:=by
 rintro pins s σ H x y u v Q I rx ry ⟨i,j,rfl,rfl,q⟩
 obtain ⟨t,rfl⟩:=(show ∃ t,u=Value.int i t from rx)
 obtain ⟨t',rfl⟩:=(show ∃ t',v=Value.int j t' from ry)
 exact PyProof.Rows.iadd_int ⟨.int (i + j),H,I.tok _,⟨_,rfl⟩,q⟩
end
section
variable {X:Cx} {pins:List (Addr × Obj)} {σ:St} {H:Hp} {s:Shared} {A:Around} {E:Value->Shared->Prop} {Q:Value->Shared->Prop} {c:Value} {b:Bool}
inductive TyOf (K:PySem.W.Frag) (H:Hp):V->Value->Prop where
 | non:TyOf K H .non (.type "NoneType")
 | bl (x:Bool):TyOf K H (.bl x) (.type "bool")
 | int (i:Int):TyOf K H (.int i) (.type "int")
 | str (x:Str):TyOf K H (.str x) (.type "str")
 | flt (x:UInt64):TyOf K H (.flt x) (.type "float")
 | lst {a:Addr} {xs:List V} (e:H a=some (.lst xs)):TyOf K H (.ref a) (.type "list")
 | frz {a:Addr} {o:Obj} {xs:List V} (e:H a=some (.frz o (.lst xs))):TyOf K H (.ref a) (.type "list")
 | tup {a:Addr} {xs:List V} (e:H a=some (.tup xs)):TyOf K H (.ref a) (.type "tuple")
 | dK {a:Addr} {kvs:List (Key × V)} (e:H a=some (.dK kvs)):TyOf K H (.ref a) (.type "dict")
 | dT {a:Addr} {kvs:List (List Key × V)} (e:H a=some (.dT kvs)):TyOf K H (.ref a) (.type "dict")
 | ins {a C dx:Addr} {fs:List (Str × V)} (e:H a=some (.ins C dx fs)) (cl:Cls K C) (ha:PySem.W.findIn K (.ref C) "__class__" = some (some (.builtin "object.__class__")))
   (hn:PySem.W.specialIn K (.builtin "object.__class__") "__get__" = some (some (.builtin "getset_descriptor.__get__"))) (htk:PySem.W.takesIn K (.builtin "object.__class__")=some true)
   (hm:PySem.W.mroIn K C (.type "object")=some true):TyOf K H (.ref a) (.ref C)
theorem isinst_ok {x:V} {u t:Value} (I:Inv X pins σ H s) (rx:RelV x u) (ty:TyOf X.K H x t) (e:PySem.W.kitOne X.K t c=some b) (h:∀ tk,Q (.bool b) { s with toks:=tk }) :
  wpAny (model X.prog X.w) A (call (.builtin "isinstance") [u,c]) Q E s:=by
 cases ty with
 | non=>cases (show u=Value.none from rx); exact PySem.W.kia_one PySem.W.kitx_none I.kIn True.intro e (fun z=>nomatch z) h
 | bl y=>cases (show u=Value.bool y from rx); exact PySem.W.kia_one PySem.W.kitx_bool I.kIn True.intro e (fun z=>nomatch z) h
 | int i=>obtain ⟨t,q⟩:=(show ∃ t,u=Value.int i t from rx); cases q; exact PySem.W.kia_one PySem.W.kitx_int I.kIn True.intro e (fun z=>nomatch z) h
 | str y=>obtain ⟨t,q⟩:=(show ∃ t,u=Value.str y t from rx); cases q; exact PySem.W.kia_one PySem.W.kitx_str I.kIn True.intro e (fun z=>nomatch z) h
 | flt y=>obtain ⟨t,q⟩:=(show ∃ t,u=Value.float y t from rx); cases q; exact PySem.W.kia_one PySem.W.kitx_float I.kIn True.intro e (fun z=>nomatch z) h
 | @lst a xs ea=>
  cases (show u=Value.ref a from rx)
  obtain ⟨_,_,n,_,h1⟩:=(show ObjOk X.prog X.w H s.heap a (.lst xs) from I.hok a _ ea)
  exact PySem.W.kia_one PySem.W.kitx_list I.kIn ⟨_,h1,rfl⟩ e (fun z=>nomatch z) h
 | @frz a ob xs ea=>
  cases (show u=Value.ref a from rx)
  obtain ⟨_,_,_,n,_,h1⟩:=(show ObjOk X.prog X.w H s.heap a (.frz ob (.lst xs)) from I.hok a _ ea)
  exact PySem.W.kia_one PySem.W.kitx_list I.kIn ⟨_,h1,rfl⟩ e (fun z=>nomatch z) h
 | @tup a xs ea=>
  cases (show u=Value.ref a from rx)
  obtain ⟨_,_,_,p⟩:=(show ObjOk X.prog X.w H s.heap a (.tup xs) from I.hok a _ ea)
  obtain ⟨o,h1,h2,_⟩:=p
  exact PySem.W.kia_one PySem.W.kitx_tuple I.kIn ⟨o,h1,h2⟩ e (fun z=>nomatch z) h
 | @dK a kvs ea=>
  cases (show u=Value.ref a from rx)
  obtain ⟨_,_,vs,_,p⟩:=(show ObjOk X.prog X.w H s.heap a (.dK kvs) from I.hok a _ ea)
  obtain ⟨o,es,ep,h1,h2,_⟩:=p
  exact PySem.W.kia_one PySem.W.kitx_dict I.kIn ⟨o,h1,h2.1⟩ e (fun z=>nomatch z) h
 | @dT a kvs ea=>
  cases (show u=Value.ref a from rx)
  obtain ⟨_,_,xs,_,o,es,ep,h1,h2,_⟩:=(show ObjOk X.prog X.w H s.heap a (.dT kvs) from I.hok a _ ea)
  exact PySem.W.kia_one PySem.W.kitx_dict I.kIn ⟨o,h1,h2.1⟩ e (fun z=>nomatch z) h
 | @ins a C dx fs ea cl ha hn htk hm=>
  cases (show u=Value.ref a from rx)
  obtain ⟨mA,O,_⟩:=ins_get I.hok ea
  obtain ⟨od,J,_⟩:=O.look
  exact PySem.W.kia_one (PySem.W.kitx_own (cl.get _) cl.hd ha hn htk hm) I.kIn J e (fun z=>nomatch z) h
end
end L2
namespace L2
open PySem PySem.Spec PyProof.Rows
structure Room (k:Nat) (A:Around):Prop where
 hd:A.handled=none
 dp:A.depth + 3 * k + 5 < recursionLimit
 un:A.units + 16 * k + 200 < cLine
theorem Room.mono {j k:Nat} {A:Around} (r:Room k A) (h:j<=k):Room j A:=⟨r.hd,by have:=r.dp; omega,by have:=r.un; omega⟩
theorem Room.deeper {k:Nat} {A:Around} (r:Room (k + 1) A) (env:Env):Room k (A.deeper env):=
 ⟨r.hd,by have:=r.dp; show A.depth + 1 + 3 * k + 5 < _; omega,by have:=r.un; show A.units + 3 + 16 * k + 200 < _; omega⟩
theorem make_depth {A:Around} {C:Addr} {us:List Value} {kw:List (Str × Value)}:(A.under (.builtin "type.__call__" ⟨.ref C :: us,kw⟩)).depth=A.depth + 1:=by
 first | rfl | simp [Around.under,Code.weight,Code.isCreation,Code.isGuard,Code.isCaller,Code.frames,Code.isFrame,guardIds]
theorem make_units {A:Around} {C:Addr} {us:List Value} {kw:List (Str × Value)}:(A.under (.builtin "type.__call__" ⟨.ref C :: us,kw⟩)).units=A.units + 1:=by
 first | rfl | simp [Around.under,Code.cUnits,Code.frames,Code.isFrame]
theorem Room.make {k:Nat} {A:Around} (r:Room (k + 1) A) (C:Addr) (us:List Value) (kw:List (Str × Value)):Room k (A.under (.builtin "type.__call__" ⟨.ref C :: us,kw⟩)):=
 ⟨r.hd,by have:=r.dp; rw [make_depth]; omega,by have:=r.un; rw [make_units]; omega⟩
theorem Room.depth {k:Nat} {A:Around} (r:Room k A):A.depth < recursionLimit:=by have:=r.dp; omega
theorem Room.units {k:Nat} {A:Around} (r:Room k A):A.units + 64 < cLine:=by have:=r.un; omega
noncomputable def tNil:TA:=fun _ H Q=>Q [] H
noncomputable def tCons (ta:TE) (tr:TA):TA:=fun σ H Q=>ta σ H fun x H1=>tr σ H1 fun xs H2=>Q (x :: xs) H2
section
variable {X:Cx} {e:Expr} {es:List Expr} {te:TE} {t:TA} {pos:Pos}
theorem pa_nil:PA X [] tNil:=fun _ _ _ _ H Q I h=>Calls.spliced_nil ⟨[],H,I,.nil,h⟩
theorem pa_cons (ha:PE X e te) (hr:PA X es t) (hs:starEach (e :: es) X.env=(false,eval e X.env) :: starEach es X.env:=by rfl):PA X (e :: es) (tCons te t):=by
 intro pos pins s σ H Q I h
 rw [hs]
 show wpAny _ _ (spliced ((false,eval e X.env) :: backTo pos (starEach es X.env))) _ _ s
 refine Calls.spliced_cons (thn (ha pins s σ H _ I h) fun u s1 ⟨x,H1,I1,r1,q1⟩=>?_)
 exact thn (hr pos pins s1 σ H1 _ I1 q1) fun us s2 ⟨xs,H2,I2,r2,q2⟩=>⟨x :: xs,H2,I2,.cons r1 r2,q2⟩
noncomputable def tTup (t:TA):TE:=fun σ H Q=>t σ H fun xs H1=>xs.length<=sizeLine/\∀ p,H1 p=none->Q (.ref p) (upd H1 p (.tup xs))
noncomputable def tLst (t:TA):TE:=fun σ H Q=>t σ H fun xs H1=>xs.length<=sizeLine/\∀ p,H1 p=none->Q (.ref p) (upd H1 p (.lst xs))
theorem pe_tup {x1} (h:PA X es t):PE X (.Tuple es x1 pos) (tTup t):=by
 intro pins s σ H Q I hq
 refine wpAny_Tuple_spliced (thn (h pos pins s σ H _ I hq) fun us s1 ⟨xs,H1,I1,r,z,q⟩=>⟨by rw [<-r.length]; exact z,?_⟩)
 have hf:H1 s1.heap.objs.size=none:=I1.hok.fresh (Nat.le_refl _)
 refine ⟨.ref s1.heap.objs.size,upd H1 s1.heap.objs.size (.tup xs),I1.laid (t':=s1.toks) (fun b u e=>Heap.get?_push_of_some _ e) (Nat.le_refl _) ?_,rfl,q _ hf⟩
 exact ⟨z,us,r,⟨_,Heap.get?_push_size _ rfl,rfl,_,rfl⟩⟩
theorem pe_lst (h:PA X es t):PE X (.List es pos) (tLst t):=by
 intro pins s σ H Q I hq
 refine wpAny_List_spliced (thn (h pos pins s σ H _ I hq) fun us s1 ⟨xs,H1,I1,r,z,q⟩=>⟨by rw [<-r.length]; exact z,?_⟩)
 have hf:H1 s1.heap.objs.size=none:=I1.hok.fresh (Nat.le_refl _)
 refine ⟨.ref s1.heap.objs.size,upd H1 s1.heap.objs.size (.lst xs),I1.laid (t':=s1.toks) (fun b u e=>Heap.get?_push_of_some _ e) (Nat.le_refl _) ?_,rfl,q _ hf⟩
 exact ⟨z,us,0,r,Heap.get?_push_size _ rfl⟩
end
noncomputable abbrev Sp:=List V->Hp->VK->XK->Prop
noncomputable abbrev CXT:=List Env->Hp->Shared->XK->Value->Shared->Prop
structure Env0 (P:Program) (w:World) (K:PySem.W.Frag) (mg:Str->Option Value) (base:Heap) (A:Around) (outer:List Env) (s:Shared) (H:Hp):Prop where
 frames:A.frames=some outer
 mod:Mod K mg base
 bs:∀ b o,base.get? b=some o->s.heap.get? b=some o/\H b=none
 bsz:base.objs.size<=s.heap.objs.size
 funs:s.heap.FunFrames base outer
 frf:∀ b ∈ frs outer,H b=none
 hok:HOk P w H s.heap
 bare:AllBare s.gens
noncomputable def CE (outer:List Env) (P:Program) (w:World) (H:Hp) (s:Shared) (Q:VK) (u:Value) (s':Shared):Prop:=
 ∃ v H',s'.os=s.os/\AllBare s'.gens/\Un (frs outer) [] H H' s.heap s'.heap/\HOk P w H' s'.heap/\RelV v u/\Q v H'
noncomputable def CR (CX:CXT) (outer:List Env) (P:Program) (w:World) (H:Hp) (s:Shared) (Q:VK) (E:XK) (r:Result) (s':Shared):Prop:=
 match r with
 | .ok (.ret u)=>CE outer P w H s Q u s'
 | .ok _=>False
 | .error e=>CX outer H s E e s'
structure FnOk (P:Program) (w:World) (K:PySem.W.Frag) (mg:Str->Option Value) (base:Heap) (CX:CXT) (k:Nat) (f:Addr) (fd:FuncData) (ps:List Str) (sp:Sp):Prop where
 len:∀ vs H Q E,sp vs H Q E->vs.length=ps.length
 run:∀ (A:Around) (outer:List Env) (s:Shared) (H:Hp) (args:Args) (us:List Value) (vs:List V) (Q:VK) (E:XK),Room k A->Env0 P w K mg base A outer s H->BindsTo s fd args (ps.zip us)->Vals vs us->sp vs H Q E->
  codeAny (model P w) A (.call (.ref f) args) (CR CX outer P w H s Q E) s
theorem FnOk.imp {P:Program} {w:World} {K:PySem.W.Frag} {mg:Str->Option Value} {base:Heap} {CX:CXT} {k:Nat} {f:Addr} {fd:FuncData} {ps:List Str} {sp sp':Sp} (F:FnOk P w K mg base CX k f fd ps sp)
  (h:∀ vs H Q E,sp' vs H Q E->sp vs H Q E):FnOk P w K mg base CX k f fd ps sp':=
 ⟨fun vs H Q E q=>F.len vs H Q E (h _ _ _ _ q),fun A outer s H args us vs Q E hr he hb hv hs=>F.run A outer s H args us vs Q E hr he hb hv (h _ _ _ _ hs)⟩
theorem Env0.make {P:Program} {w:World} {K:PySem.W.Frag} {mg:Str->Option Value} {base:Heap} {A:Around} {outer:List Env} {s:Shared} {H:Hp} (e:Env0 P w K mg base A outer s H) (C:Addr) (us:List Value) (kw:List (Str × Value)) :
  Env0 P w K mg base (A.under (.builtin "type.__call__" ⟨.ref C :: us,kw⟩)) outer s H:=⟨by first | exact e.frames | (simpa [Around.under,Code.envs,Code.isFrame,pushEnvs] using e.frames),e.mod,e.bs,e.bsz,e.funs,e.frf,e.hok,e.bare⟩
section
variable {X:Cx} {pins:List (Addr × Obj)} {σ:St} {H:Hp} {s s':Shared}
theorem Inv.env0 (I:Inv X pins σ H s):Env0 X.prog X.w X.K X.mg X.base X.A X.stack s H:=
 ⟨I.ok.frames,I.ok.mod,I.bs,Nat.le_trans I.ok.bsz I.sz,I.stack,I.stkFree,I.hok,I.bare⟩
theorem Inv.after {Q:VK} {u:Value} (I:Inv X pins σ H s) (h:CE X.stack X.prog X.w H s Q u s'):EP X pins σ Q u s':=by
 obtain ⟨v,H',os,bare,un,hok,r,q⟩:=h
 obtain ⟨hh,g,d,t,os'⟩:=s'
 obtain rfl:os' = s.os:=os
 exact ⟨v,H',I.call (h':=hh) (g':=g) (d':=d) (t':=t) (ch:=[]) un hok bare (fun b z=>absurd z (by simp)),r,q⟩
end
noncomputable def Binds (K:PySem.W.Frag) (fd:FuncData) (ps:List Str) (ds:List Value):Prop:=
 ∀ (s:Shared) (us:List Value),K.In s.heap->(us ++ ds).length=ps.length->BindsTo s fd ⟨us,[]⟩ (ps.zip (us ++ ds))
theorem Binds.all {K:PySem.W.Frag} {fd:FuncData} {ps:List Str} (h:∀ us:List Value,us.length=ps.length->bindArgs fd ⟨us,[]⟩=pure (ps.zip us)):Binds K fd ps []:=fun s us _ hl=>by
 rw [List.append_nil] at hl ⊢
 exact .of_eq (h us hl)
section
variable {X:Cx} {CX:CXT} {k:Nat} {f C:Addr} {fd:FuncData} {ps:List Str} {sp:Sp} {dvs:List V} {ds:List Value} {E:XK} {x m:Str} {p pos apos:Pos} {e o:Expr} {es:List Expr} {ta:TE} {t:TA}
structure Mk (K:PySem.W.Frag) (C f:Addr):Prop where
 makes:PySem.W.makesIn K C=true
 init:PySem.W.findIn K (.ref C) "__init__" = some (some (.ref f))
 fn:PySem.W.isFn K (.ref f)=true
 kp:PySem.W.keepIn K (.ref C)=true
end
structure FnScope (N P:List Str) (sc:Scope):Prop where
 kind:sc.kind=.function
 co:sc.isCoroutine=false
 gen:sc.isGenerator=false
 nd:N.Nodup
 pre:N.take P.length=P
 par:∀ x ∈ P,sc.names.lookup x=some .local\/sc.names.lookup x=some .cell
 nofree:∀ y ∈ sc.names,y.2 ≠ .free
theorem bindL_out {kindOf:Str->Option NameKind} {x:Str}:∀ {binds:List (Str × Value)} {m:Str->Option Value},(∀ v,(x,v) ∉ binds)->bindL kindOf binds m x=m x
 | [],_,_=>rfl
 | (n,v) :: r,m,h=>by
  unfold bindL
  rw [bindL_out fun w hw=>h w (List.mem_cons_of_mem _ hw)]
  split
  ·have:x ≠ n:=by rintro rfl; exact h v List.mem_cons_self
   simp [this]
  ·rfl
theorem bindC_out {kindOf:Str->Option NameKind} {x:Str}:∀ {binds:List (Str × Value)} {m:Str->Option Value},(∀ v,(x,v) ∉ binds)->bindC kindOf binds m x=m x
 | [],_,_=>rfl
 | (n,v) :: r,m,h=>by
  unfold bindC
  rw [bindC_out fun w hw=>h w (List.mem_cons_of_mem _ hw)]
  split
  ·rfl
  ·have:x ≠ n:=by rintro rfl; exact h v List.mem_cons_self
   simp [this]
theorem bindL_get {kindOf:Str->Option NameKind} {x:Str} {v:Value}:∀ {P:List Str} {vs:List Value} {i:Nat} {m:Str->Option Value},P.Nodup->P[i]? = some x->vs[i]? = some v->kindOf x=some .local->
  bindL kindOf (P.zip vs) m x=some v
 | [],_,_,_,_,h,_,_=>by simp at h
 | _ :: _,[],_,_,_,_,h,_=>by simp at h
 | p :: P,w :: vs,0,m,nd,h1,h2,hk=>by
  simp at h1 h2; subst h1; subst h2
  show bindL kindOf ((p,w) :: P.zip vs) m p=_
  unfold bindL
  rw [bindL_out fun v hv=>(List.nodup_cons.mp nd).1 (List.of_mem_zip hv).1,if_pos hk]
  simp
 | p :: P,w :: vs,i + 1,m,nd,h1,h2,hk=>by
  show bindL kindOf ((p,w) :: P.zip vs) m x=_
  unfold bindL
  exact bindL_get (i:=i) (List.nodup_cons.mp nd).2 (by simpa using h1) (by simpa using h2) hk
theorem bindC_get {kindOf:Str->Option NameKind} {x:Str} {v:Value}:∀ {P:List Str} {vs:List Value} {i:Nat} {m:Str->Option Value},P.Nodup->P[i]? = some x->vs[i]? = some v->kindOf x ≠ some .local->
  bindC kindOf (P.zip vs) m x=some v
 | [],_,_,_,_,h,_,_=>by simp at h
 | _ :: _,[],_,_,_,_,h,_=>by simp at h
 | p :: P,w :: vs,0,m,nd,h1,h2,hk=>by
  simp at h1 h2; subst h1; subst h2
  show bindC kindOf ((p,w) :: P.zip vs) m p=_
  unfold bindC
  rw [bindC_out fun v hv=>(List.nodup_cons.mp nd).1 (List.of_mem_zip hv).1,if_neg hk]
  simp
 | p :: P,w :: vs,i + 1,m,nd,h1,h2,hk=>by
  show bindC kindOf ((p,w) :: P.zip vs) m x=_
  unfold bindC
  exact bindC_get (i:=i) (List.nodup_cons.mp nd).2 (by simpa using h1) (by simpa using h2) hk
noncomputable def start (N:List Str) (vs:List V):St:=vs.map some ++ List.replicate (N.length - vs.length) none
noncomputable def cxOf (CX:CXT) (P:Program) (w:World) (K:PySem.W.Frag) (mg:Str->Option Value) (base:Heap) (N:List Str) (qual:Str) (scope:Scope) (f:Addr) (cd:Value) (A:Around) (outer:List Env) (s:Shared) (H:Hp) (E:XK):Cx where
 prog:=P
 w:=w
 K:=K
 mg:=mg
 base:=base
 A:=A.deeper (envOfC qual scope s.heap.objs.size f cd)
 N:=N
 s₀:=s
 H₀:=H
 env:=envOfC qual scope s.heap.objs.size f cd
 outer:=outer
 stack:=envOfC qual scope s.heap.objs.size f cd :: outer
 ex:=[]
 calm:=true
 fn:=fun _=>true
 pn:=[]
 xe:=fun e s'=>wpAny (model P w) (A.deeper (envOfC qual scope s.heap.objs.size f cd)) (leaving (envOfC qual scope s.heap.objs.size f cd) e) (fun _ s''=>CX outer H s E e s'') (fun e' s''=>CX outer H s E e' s'') s'
theorem cell_has {sc:Scope} {n:Nat} {x:Str} (h:sc.names.lookup x=some .cell):∃ c,(cellsFrom n sc.names []).lookup x=some c:=by
 have q:=PySem.W.cellsFrom_some sc.names n [] (.inl h)
 exact Option.isSome_iff_exists.mp q
theorem inv_start {CX:CXT} {P:Program} {w:World} {K:PySem.W.Frag} {mg:Str->Option Value} {base:Heap} {N ps:List Str} {qual:Str} {scope:Scope} {f:Addr} {cd:Value} {A:Around} {outer:List Env} {s s1:Shared} {H:Hp} {E:XK} {us:List Value} {vs:List V}
  (S:FnScope N ps scope) (hd:A.handled=none) (e0:Env0 P w K mg base A outer s H) (hl:vs.length=ps.length) (r:Vals vs us)
  (x:InCallC s s.heap.objs.size (bindL (envOfC qual scope s.heap.objs.size f cd).kindOf (ps.zip us) fun _=>none) (cellsFrom (s.heap.objs.size + 1) scope.names []) (bindC (envOfC qual scope s.heap.objs.size f cd).kindOf (ps.zip us) fun _=>none) s1) :
  Inv (cxOf CX P w K mg base N qual scope f cd A outer s H E) [] (start N vs) H s1:=by
 have hpl:ps.length<=N.length:=by have:=congrArg List.length S.pre; rw [List.length_take] at this; omega
 obtain ⟨h1,tk,rfl,hk⟩:=x.done
 have noA:∀ b:Addr,b ∉ (cxOf CX P w K mg base N qual scope f cd A outer s H E).ex:=fun b z=>absurd (show b ∈ ([]:List Addr) from z) (by simp)
 refine ⟨⟨e0.mod,S.kind,rfl,rfl,Nat.le_refl _,fun y z c h1 h2=>?_,fun y hy=>?_,fun y c _ h=>?_,fun _=>hd,Around.frames_deeper e0.frames,.inr ⟨rfl,rfl⟩,fun b z=>absurd z (noA b),e0.bs,e0.bsz,fun b _ _=>noA b,fun b z=>absurd z (noA b),e0.funs,e0.frf⟩,
  rfl,e0.bare,Un.kept hk,⟨_,x.toInCall.ns,fun i y v h1 h2 h3=>?_⟩,fun y c h=>⟨_,x.cell y c h⟩,e0.hok.fresh (Nat.le_refl _),fun y c h=>?_,fun p hp=>absurd (show p ∈ ([]:List (Addr × Obj)) from hp) (by simp),e0.hok.kept hk,?_⟩
 ·exact name_of_addr x.apart (PySem.mem_of_lookup h1) (PySem.mem_of_lookup h2)
 ·have hy:scope.names.lookup y=some .cell\/scope.names.lookup y=some .free:=hy
  rcases hy with hy | hy
  ·exact cell_has hy
  ·exact absurd rfl (S.nofree _ (PySem.mem_of_lookup hy))
 ·exact Nat.le_of_lt (x.above y c (PySem.mem_of_lookup h))
 ·have hi:i < vs.length:=by
   unfold start at h2
   by_cases hi:i < vs.length
   ·exact hi
   ·rw [List.getElem?_append_right (by simpa using hi)] at h2
    rw [List.getElem?_replicate] at h2
    split at h2 <;> cases h2
  have ha:vs[i]? = some v:=by
   unfold start at h2
   rw [List.getElem?_append_left (by simpa using hi),List.getElem?_map] at h2
   cases e:vs[i]? with
   | none=>rw [e] at h2; cases h2
   | some a=>rw [e] at h2; cases h2; rfl
  obtain ⟨u,hu,rv⟩:=r.get ha
  have hp:ps[i]? = some y:=by
   rw [<-S.pre,List.getElem?_take_of_lt (by omega)]; exact h1
  have ndP:ps.Nodup:=by rw [<-S.pre]; exact S.nd.sublist (List.take_sublist _ _)
  refine ⟨u,rv,?_⟩
  rcases S.par y (List.mem_of_getElem? hp) with k | k
  ·exact .inl ⟨k,bindL_get ndP hp hu k⟩
  ·obtain ⟨c,e⟩:=cell_has (n:=s.heap.objs.size + 1) k
   refine .inr ⟨.inl k,c,e,?_⟩
   have q:=x.cell y c e
   rw [bindC_get ndP hp hu (by show scope.names.lookup y ≠ _; rw [k]; decide)] at q
   exact q
 ·exact e0.hok.fresh (Nat.le_of_lt (x.above y c (PySem.mem_of_lookup h)))
 ·unfold start
  show _=N.length
  rw [List.length_append,List.length_map,List.length_replicate]
  omega
theorem fn_of {CX:CXT} {P:Program} {w:World} {K:PySem.W.Frag} {mg:Str->Option Value} {base:Heap} {k:Nat} {f:Addr} {name qual:Str} {params:Arguments} {body:List Stmt} {scope:Scope} {dV kV doc pm cdv ct oc:Value} {an od:Option Addr}
  {osl:Array (Option Value)} {N ps:List Str} {sp:Sp} (lk:K.lookup f=some ⟨oc,od,.func (PySem.W.fnOf name qual params body scope dV kV doc pm an cdv ct),osl⟩) (hcd:PySem.W.codeIn K cdv qual=true) (S:FnScope N ps scope)
  (len:∀ vs H Q E,sp vs H Q E->vs.length=ps.length)
  (hbody:∀ (A:Around) (outer:List Env) (s:Shared) (H:Hp) (vs:List V) (Q:VK) (E:XK),Room k (A.deeper (envOfC qual scope s.heap.objs.size f cdv))->sp vs H Q E->
   ∃ t,PSs (cxOf CX P w K mg base N qual scope f cdv A outer s H E) body t/\t { nx:=fun _ H'=>Q .non H',rt:=Q } (start N vs) H) :
  FnOk P w K mg base CX (k + 1) f (PySem.W.fnOf name qual params body scope dV kV doc pm an cdv ct) ps sp:=by
 refine ⟨len,fun A outer s H args us vs Q E hr e0 hb r hsp=>?_⟩
 have hl:=len _ _ _ _ hsp
 have KX:K.In s.heap:=e0.mod.kin.keeps fun b o e=>(e0.bs b o e).1
 have lim:s.heap.NoLimit:=e0.mod.nolimit.keeps fun b o e=>(e0.bs b o e).1
 have hkind:∀ y ∈ ps.zip us,scope.names.lookup y.1=some .local\/(scope.names.lookup y.1=some .cell/\((cellsFrom (s.heap.objs.size + 1) scope.names []).lookup y.1).isSome=true):=fun ⟨n,v⟩ hy=>by
  rcases S.par n (List.of_mem_zip hy).1 with q | q
  ·exact .inl q
  ·exact .inr ⟨q,PySem.W.cellsFrom_some _ _ _ (.inl q)⟩
 refine codeAny_call_function hr.depth (KX _ _ lk) rfl S.co S.gen rfl (PySem.W.codeRec_of KX hcd) (hb _ _ _ _ ?_)
 refine wpAny_newFunctionEnv_cells S.kind hkind fun env he s1 x=>?_
 subst he
 refine ⟨lim.keeps x.toInCall.keep,codeAny_func ?_⟩
 obtain ⟨t,ht,hq⟩:=hbody A outer s H vs Q E (hr.deeper _) hsp
 have I:Inv (cxOf CX P w K mg base N qual scope f cdv A outer s H E) [] (start N vs) H s1:=inv_start S hr.hd e0 hl r x
 refine wpAny_mono (ht [] s1 (start N vs) H _ I hq) (fun fl s' hs=>?_) fun e s' hs=>hs
 have fin:∀ {σ':St} {H':Hp} {v:V} {u:Value},Inv (cxOf CX P w K mg base N qual scope f cdv A outer s H E) [] σ' H' s'->RelV v u->Q v H'->CE outer P w H s Q u s':=
  fun {σ' H' v u} J rv q=>⟨v,H',J.os,J.bare,J.base,J.hok,rv,q⟩
 cases fl with
 | ret u=>
  obtain ⟨v,σ',H',J,rv,q⟩:=hs
  exact fin J rv q
 | next=>
  obtain ⟨σ',H',J,q⟩:=hs
  exact fin (v:=V.non) (u:=Value.none) J rfl q
 | brk=>
  obtain ⟨_,_,_,q⟩:=hs
  exact False.elim q
 | cont=>
  obtain ⟨_,_,_,q⟩:=hs
  exact False.elim q
end L2
namespace L2
open PySem PySem.Spec PyProof.Rows
section
variable {X:Cx} {x:Str} {p pos:Pos} {e:Expr} {es:List Expr} {t:TA} {id T:String} {r:List V->Hp->VK->Prop}
noncomputable def tCB (r:List V->Hp->VK->Prop) (t:TA):TE:=fun σ H Q=>t σ H fun vs H1=>r vs H1 Q
theorem pe_callB (hc:CallR X (.builtin id) r) (hg:Gl X x) (hm:X.mg x=none) (hv:bootBuiltins x=some (.builtin id)) (ha:PA X (e :: es) t) (hn:x ≠ "__name__":=by decide) (hdb:(x == ("__debug__":Str))=false:=by decide)
  (he:starEach (e :: es) X.env=(false,eval e X.env) :: starEach es X.env:=by rfl) (hpl:(backTo pos (starEach es X.env)).any (·.1)=false:=by rfl):PE X (.Call (.Name x p) (e :: es) [] pos) (tCB r t):=by
 intro pins s σ H Q I h
 refine wpAny_Call_Name_kw (ld_blt I hg hm hv ?_ hn hdb)
 exact PyProof.Rows.callWith_builtin1 (thn (ha pos pins s σ H _ I h) fun us s1 ⟨vs,H1,I1,r1,q1⟩=>hc pins s1 σ H1 vs us Q I1 r1 q1) he hpl
theorem pe_callTy (hc:CallR X (.type T) r) (hg:Gl X x) (hm:X.mg x=none) (hv:bootBuiltins x=some (.type T)) (ha:PA X (e :: es) t) (hn:x ≠ "__name__":=by decide) (hdb:(x == ("__debug__":Str))=false:=by decide)
  (he:starEach (e :: es) X.env=(false,eval e X.env) :: starEach es X.env:=by rfl) (hpl:(backTo pos (starEach es X.env)).any (·.1)=false:=by rfl):PE X (.Call (.Name x p) (e :: es) [] pos) (tCB r t):=by
 intro pins s σ H Q I h
 refine wpAny_Call_Name_kw (ld_blt I hg hm hv ?_ hn hdb)
 exact PyProof.Rows.callWith_type1 (thn (ha pos pins s σ H _ I h) fun us s1 ⟨vs,H1,I1,r1,q1⟩=>hc pins s1 σ H1 vs us Q I1 r1 q1) he hpl
end
end L2
namespace HT
open PySem PyProof.Rows
noncomputable def lexLt:List Int->List Int->Bool
 | [],[]=>false
 | [],_ :: _=>true
 | _ :: _,[]=>false
 | x :: xs,y :: ys=>if x=y then lexLt xs ys else decide (x < y)
theorem lexLt_cons (x y:Int) (xs ys:List Int):lexLt (x :: xs) (y :: ys)=if x=y then lexLt xs ys else decide (x < y):=rfl
end HT
namespace L2
open PySem PySem.Spec PyProof.Rows
end L2
namespace L2
open PySem PySem.Spec PyProof.Rows
noncomputable def ixN (n:Nat) (i:Int):Option Nat:=if 0<=i then (if i < n then some i.toNat else none) else if -(n:Int)<=i then some (i + n).toNat else none
noncomputable def atI {α:Type} (xs:List α) (i:Int):Option α:=(ixN xs.length i).bind fun j=>xs[j]?
theorem ixN_seq {n:Nat} {i:Int} {j:Nat} (h:ixN n i=some j):seqIndex? i n=some j/\j < n/\-(n:Int)<=i/\i < n:=by
 unfold ixN at h
 by_cases h0:0<=i
 ·rw [if_pos h0] at h
  by_cases h1:i < n
  ·rw [if_pos h1] at h
   have e:i.toNat=j:=Option.some.inj h
   exact ⟨by rw [seqIndex_of h0 h1,e],by omega,by omega,h1⟩
  ·rw [if_neg h1] at h; cases h
 ·rw [if_neg h0] at h
  by_cases h1:-(n:Int)<=i
  ·rw [if_pos h1] at h
   have e:(i + n).toNat=j:=Option.some.inj h
   exact ⟨by rw [seqIndex_neg (by omega) h1,e],by omega,h1,by omega⟩
  ·rw [if_neg h1] at h; cases h
theorem atI_get {α:Type} {xs:List α} {i:Int} {v:α} (h:atI xs i=some v):∃ j,seqIndex? i xs.length=some j/\xs[j]? = some v/\j < xs.length/\-(xs.length:Int)<=i/\i < xs.length:=by
 unfold atI at h
 cases e:ixN xs.length i with
 | none=>rw [e] at h; cases h
 | some j=>
  rw [e] at h
  obtain ⟨h1,h2,h3,h4⟩:=ixN_seq e
  exact ⟨j,h1,h,h2,h3,h4⟩
noncomputable def PlainIx (b:Expr):Prop:=∀ o i,subscripted b false o i=operate [o,i] (getItem o i)
noncomputable def IxR (X:Cx) (r:R2):Prop:=
 ∀ (value slice:Expr) (pins:List (Addr × Obj)) (s:Shared) (σ:St) (H:Hp) (x y:V) (v u:Value) (Q:VK),Inv X pins σ H s->RelV x v->RelV y u->r x y H Q->
  subscripted slice false v u=operate [v,u] (getItem v u)->wpAny (model X.prog X.w) X.A (subscriptTail value slice v u) (EP X pins σ Q) X.xe s
noncomputable def MtR (X:Cx) (id:String) (r:V->List V->Hp->VK->Prop):Prop:=
 ∀ (pins:List (Addr × Obj)) (s:Shared) (σ:St) (H:Hp) (x:V) (xs:List V) (v:Value) (us:List Value) (Q:VK),Inv X pins σ H s->RelV x v->Vals xs us->r x xs H Q->
  wpAny (model X.prog X.w) X.A (call (.builtin id) (v :: us)) (EP X pins σ Q) X.xe s
section
variable {X:Cx} {a b:Expr} {ta tb:TE} {pos:Pos}
theorem IxR.or {r r':R2} (h:IxR X r) (h':IxR X r'):IxR X (fun x y H Q=>r x y H Q\/r' x y H Q):=by
 intro value slice pins s σ H x y v u Q I rx ry q hs
 rcases q with q | q
 ·exact h value slice pins s σ H x y v u Q I rx ry q hs
 ·exact h' value slice pins s σ H x y v u Q I rx ry q hs
theorem pe_ix {r:R2} (hr:IxR X r) (ha:PE X a ta) (hb:PE X b tb) (hs:PlainIx b):PE X (.Subscript a b pos) (tOp r ta tb):=by
 intro pins s σ H Q I h
 exact Subscript_ (binT ha hb I h fun v u s2 x y H2 I2 rx ry q=>hr a b pins s2 σ H2 x y v u Q I2 rx ry q (hs _ _))
noncomputable def rIxL (K:PySem.W.Frag):R2:=fun x y H Q=>∃ p xs i v,x=.ref p/\y=.int i/\SqL K H p xs/\atI xs i=some v/\Q v H
noncomputable def rIxT (K:PySem.W.Frag):R2:=fun x y H Q=>∃ p xs i v,x=.ref p/\y=.int i/\SqT K H p xs/\atI xs i=some v/\Q v H
theorem ix_list:IxR X (rIxL X.K):=by
 intro value slice pins s σ H x y v u Q I rx ry h hs
 obtain ⟨p,xs,i,z,rfl,rfl,hq,he,q⟩:=h
 cases rx
 obtain ⟨t,rfl⟩:=ry
 obtain ⟨its,r,pl,hz⟩:=I.list hq
 obtain ⟨j,h1,h2,h3,h4,h5⟩:=atI_get he
 obtain ⟨w,ew,rw'⟩:=r.get h2
 have hl:=r.length
 have hn:=line63
 have fin:EP X pins σ Q w s:=⟨z,H,I,rw',q⟩
 by_cases h0:0<=i
 ·have hj:i.toNat=j:=by
   rw [seqIndex_of h0 h5] at h1
   exact Option.some.inj h1
  exact item_listR pl.isList h0 (by omega) (by rw [hj]; simpa using ew) fin hs
 ·have hj:(i + (its.toArray.size:Int)).toNat=j:=by
   rw [seqIndex_neg (by omega) h4] at h1
   rw [List.size_toArray,<-hl]
   exact Option.some.inj h1
  exact subscriptTail_builtinR (x:=w) pl.isList.typeIs slot_list_getitem.lookup
   (wpAny_getItem_list_neg (Q:=fun r s'=>r=w/\EP X pins σ Q r s') pl.isList (by omega) (by rw [List.size_toArray] <;> omega) (by omega) (by rw [hj]; simpa using ew) ⟨rfl,fin⟩) hs
theorem ix_tup:IxR X (rIxT X.K):=by
 intro value slice pins s σ H x y v u Q I rx ry h hs
 obtain ⟨p,xs,i,z,rfl,rfl,hq,he,q⟩:=h
 cases rx
 obtain ⟨t,rfl⟩:=ry
 obtain ⟨its,r,pl,hz⟩:=I.tuple hq
 obtain ⟨j,h1,h2,h3,h4,h5⟩:=atI_get he
 obtain ⟨w,ew,rw'⟩:=r.get h2
 have hl:=r.length
 have hn:=line63
 have fin:EP X pins σ Q w s:=⟨z,H,I,rw',q⟩
 exact subscriptTail_builtinR (x:=w) pl.typeIs slot_tuple_getitem.lookup
  (getItem_tuple (j:=j) (Q:=fun r s'=>r=w/\EP X pins σ Q r s') pl (by omega) (by omega) (by rw [List.size_toArray,<-hl]; exact h1) (by simpa using ew) ⟨rfl,fin⟩) hs
theorem mapSeq_set (its:List Value) (n j:Nat) (u:Value):Obj.mapSeq (·.setIfInBounds j u) { cls:=.type "list",data:=.seq its.toArray n } = { cls:=.type "list",data:=.seq (its.set j u).toArray n }:=by
 simp [Obj.mapSeq]
theorem Inv.lst {pins:List (Addr × Obj)} {σ:St} {H:Hp} {s:Shared} {p:Addr} {xs:List V} (I:Inv X pins σ H s) (h:H p=some (.lst xs)) :
  ∃ (its:List Value) (n:Nat),Vals xs its/\s.heap.get? p=some { cls:=.type "list",data:=.seq its.toArray n }/\xs.length<=sizeLine:=by
 obtain ⟨z,its,n,r,e⟩:=I.hok p _ h
 exact ⟨its,n,r,e,z⟩
theorem Inv.lstUpd {pins:List (Addr × Obj)} {σ:St} {H:Hp} {s:Shared} {p:Addr} {xs ys:List V} {its its':List Value} {n n':Nat} {f:Obj->Obj} (I:Inv X pins σ H s) (h:H p=some (.lst xs))
  (ho:s.heap.get? p=some { cls:=.type "list",data:=.seq its.toArray n }) (hf:f { cls:=.type "list",data:=.seq its.toArray n } = { cls:=.type "list",data:=.seq its'.toArray n' }) (r:Vals ys its') (hz:ys.length<=sizeLine) (t:Nat) :
  Inv X pins σ (upd H p (.lst ys)) { s with heap:=s.heap.update p f,toks:=t }:=by
 have e:(s.heap.update p f).get? p=some { cls:=.type "list",data:=.seq its'.toArray n' }:=by
  rw [Heap.get?_update_self f ho (by rw [hf] <;> rfl),hf]
 refine I.write (x:=p) (e:=p) (by rw [h]; trivial) (.inl rfl) (fun b u hb q=>(Heap.get?_update_other _ _ (Ne.symm hb)).trans q) ⟨_,e⟩ ?_
 exact ⟨hz,its',n',r,e⟩
noncomputable def rSetL:V->V->V->Hp->(Hp->Prop)->Prop:=fun o i v H Q=>∃ p xs k j,o=.ref p/\i=.int k/\H p=some (.lst xs)/\ixN xs.length k=some j/\Q (upd H p (.lst (xs.set j v)))
theorem set_list:PSet X rSetL:=by
 intro pins s σ H o i v ov iv u Q I ro ri rv h
 obtain ⟨p,xs,k,j,rfl,rfl,hp,hj,q⟩:=h
 cases ro
 obtain ⟨t,rfl⟩:=ri
 obtain ⟨its,n,r,ho,hz⟩:=I.lst hp
 obtain ⟨h1,h2,h3,h4⟩:=ixN_seq hj
 have hl:=r.length
 have hn:=line63
 have I':Inv X pins σ (upd H p (.lst (xs.set j v))) { s with heap:=s.heap.update p (Obj.mapSeq (·.setIfInBounds j u)) }:=
  I.lstUpd hp ho (mapSeq_set its n j u) (r.set rv j) (by rw [List.length_set]; exact hz) s.toks
 by_cases h0:0<=k
 ·have hk:k.toNat=j:=by
   rw [seqIndex_of h0 h4] at h1
   exact Option.some.inj h1
  exact PySem.W.ki_setAt ho h0 (by omega) (by rw [List.size_toArray,<-hl]; exact h4) (by rw [hk]; exact ⟨_,I',q⟩)
 ·have hk:(k + (its.toArray.size:Int)).toNat=j:=by
   rw [seqIndex_neg (by omega) h3] at h1
   rw [List.size_toArray,<-hl]
   exact Option.some.inj h1
  exact PySem.W.ki_setBack ho (by omega) (by rw [List.size_toArray,<-hl]; exact h3) (by omega) (by rw [hk]; exact ⟨_,I',q⟩)
theorem call_len_seq:CallR X (.builtin "len") (fun xs H Q=>∃ p ys,xs=[.ref p]/\(SqL X.K H p ys\/SqT X.K H p ys)/\Q (.int ys.length) H):=by
 intro pins s σ H xs us Q I r h
 obtain ⟨p,ys,rfl,hq,q⟩:=h
 obtain ⟨u,rfl,rx⟩:=vals1 r
 cases rx
 have hn:=line63
 rcases hq with hq | hq
 ·obtain ⟨its,r',pl,hz⟩:=I.list hq
  have hlen:=r'.length
  exact Calls.call_len_list pl.isList (by simp only [List.size_toArray] <;> omega) ⟨.int ys.length,H,I.tok _,⟨s.toks + 1,by rw [List.size_toArray,hlen]⟩,q⟩
 ·obtain ⟨its,r',pl,hz⟩:=I.tuple hq
  have hlen:=r'.length
  exact len_tuple pl (by simp only [List.size_toArray] <;> omega) ⟨.int ys.length,H,I.tok _,⟨s.toks + 1,by rw [List.size_toArray,hlen]⟩,q⟩
theorem call_tuple_of:CallR X (.type "tuple") (fun xs H Q=>∃ p ys,xs=[.ref p]/\((SqL X.K H p ys/\∀ l,H l=none->Q (.ref l) (upd H l (.tup ys)))\/(SqT X.K H p ys/\Q (.ref p) H))):=by
 intro pins s σ H xs us Q I r h
 obtain ⟨p,ys,rfl,h⟩:=h
 obtain ⟨u,rfl,rx⟩:=vals1 r
 cases rx
 rcases h with ⟨hq,q⟩ | ⟨hq,q⟩
 ·obtain ⟨its,r',pl,hz⟩:=I.list hq
  have hlen:=r'.length
  refine call_tuple_list pl.isList (fun h' kp=>?_) (by simp only [List.size_toArray] <;> omega)
  have I1:Inv X pins σ H { s with heap:=h' }:=I.kept (t':=s.toks) kp
  have I2:Inv X pins σ (upd H h'.objs.size (.tup ys)) { s with heap:=h'.push { cls:=.type "tuple",data:=.seq its.toArray } }:=
   I1.laid (t':=s.toks) (fun b o e=>Heap.get?_push_of_some _ e) (Nat.le_refl _) (show ObjOk X.prog X.w _ _ _ (.tup ys) from ⟨hz,its,r',IsTup.new _ _⟩)
  exact ⟨.ref h'.objs.size,_,I2,rfl,q _ (I1.hok.fresh (Nat.le_refl _))⟩
 ·obtain ⟨its,r',pl,hz⟩:=I.tuple hq
  exact call_tuple_same pl ⟨.ref p,H,I,rfl,q⟩
noncomputable def tyV (K:PySem.W.Frag) (T:String) (x:V) (H:Hp):Prop:=match x with
 | .str _=>T = "str"
 | .int _=>T = "int"
 | .ref p=>(T = "list"/\∃ xs,SqL K H p xs)\/(T = "tuple"/\∃ o,K.lookup p=some o/\o.cls=.type "tuple"/\o.dict=none)\/
   (T = "dict"/\((∃ kvs,H p=some (.dK kvs))\/∃ kvs,H p=some (.dT kvs)))\/(T = "set"/\∃ S n,H p=some (.set S n))
 | _=>False
theorem tyV_is {pins:List (Addr × Obj)} {σ:St} {H:Hp} {s:Shared} {T:String} {x:V} {v:Value} (I:Inv X pins σ H s) (r:RelV x v) (ty:tyV X.K T x H) :
  s.TypeIs v T/\∀ a,v=.ref a->∃ ob,s.heap.get? a=some ob/\ob.dict=none:=by
 cases x with
 | str z=>
  obtain ⟨t,rfl⟩:=r
  cases (show T = "str" from ty)
  exact ⟨typeIs_str s z t,fun _ e=>nomatch e⟩
 | int i=>
  obtain ⟨t,rfl⟩:=r
  cases (show T = "int" from ty)
  exact ⟨typeIs_int s i t,fun _ e=>nomatch e⟩
 | ref p=>
  cases r
  rcases ty with ⟨rfl,xs,hq⟩ | ⟨rfl,o,hk,hc,hd⟩ | ⟨rfl,hk⟩ | ⟨rfl,S,n,hk⟩
  ·obtain ⟨its,_,pl,_⟩:=I.list hq
   refine ⟨pl.isList.typeIs,fun a e=>?_⟩
   cases e
   obtain ⟨o,n,e,c,hd,_⟩:=pl
   exact ⟨o,e,hd⟩
  ·refine ⟨⟨o,I.kIn p o hk,hc⟩,fun a e=>?_⟩
   cases e
   exact ⟨o,I.kIn _ o hk,hd⟩
  ·have z:∃ o,s.heap.get? p=some o/\o.ExactDict:=by
    rcases hk with ⟨kvs,hk⟩ | ⟨kvs,hk⟩
    ·obtain ⟨_,_,_,_,o,_,_,e,ex,_⟩:=I.hok p _ hk
     exact ⟨o,e,ex⟩
    ·obtain ⟨_,_,_,_,o,_,_,e,ex,_⟩:=I.hok p _ hk
     exact ⟨o,e,ex⟩
   obtain ⟨o,e,ex⟩:=z
   refine ⟨⟨o,e,ex.1⟩,fun a e2=>?_⟩
   cases e2
   exact ⟨o,e,ex.2.1⟩
  ·obtain ⟨o,_,_,_,e,ex,_⟩:=I.hok p _ hk
   refine ⟨⟨o,e,ex.1⟩,fun a e2=>?_⟩
   cases e2
   exact ⟨o,e,ex.2.1⟩
 | _=>exact False.elim ty
noncomputable def tBM (K:PySem.W.Frag) (T:String) (r:V->List V->Hp->VK->Prop) (to:TE) (t:TA):TE:=fun σ H Q=>to σ H fun x H1=>tyV K T x H1/\t σ H1 fun xs H2=>r x xs H2 Q
variable {o e:Expr} {es:List Expr} {to:TE} {t:TA} {name:Str} {apos cpos:Pos} {T id:String} {r:V->List V->Hp->VK->Prop}
theorem pe_bm (pa:PlainAttrs T) (slot:Slot T name id) (hty:typeOf (.builtin id)=pure (.type "method_descriptor")) (hm:MtR X id r) (ho:PE X o to) (ha:PA X (e :: es) t)
  (hbase:attributeBase o name X.env (eval o X.env)=eval o X.env:=by rfl)
  (hfew:((backTo cpos (starEach (e :: es) X.env)).all (fun x=>!x.1) && (backToKw cpos (keywordEach [] X.env)).all (fun x=>x.1.isSome)
   && decide ((e :: es).length + ([]:List Keyword).length + (if ([]:List Keyword).isEmpty then 0 else 1) < 30))=true:=by rfl)
  (hline:(apos.endLine == cpos.line)=true:=by rfl) (hs:starEach (e :: es) X.env=(false,eval e X.env) :: starEach es X.env:=by rfl) (hplain:(backTo cpos (starEach es X.env)).any (·.1)=false:=by rfl) :
  PE X (.Call (.Attribute o name apos) (e :: es) [] cpos) (tBM X.K T r to t):=by
 intro pins s σ H Q I h
 refine wpAny_Call_method_late hbase hfew hline rfl (thn (ho pins s σ H _ I h) fun v s1 ⟨x,H1,I1,r1,ty,q1⟩=>?_)
 obtain ⟨h1,h2⟩:=tyV_is I1 r1 ty
 refine ⟨T,id,pa,slot,hty,h1,h2,?_⟩
 have hA:=ha cpos pins s1 σ H1 _ I1 q1
 rw [hs] at hA ⊢
 refine Calls.callWith_builtin (by show (false || (backTo cpos (starEach es X.env)).any (·.1))=false; rw [hplain] <;> rfl) (Calls.evalArgs_plain ?_)
 exact thn hA fun us s2 ⟨vs,H2,I2,r2,q2⟩=>hm pins s2 σ H2 x vs v us Q I2 r1 r2 q2
end
end L2
namespace L2
open PySem PySem.Spec PyProof.Rows
noncomputable def MtM (X:Cx) (id:String) (r:V->List V->Hp->VK->Prop):Prop:=
 ∀ (pins:List (Addr × Obj)) (s:Shared) (σ:St) (H:Hp) (x:V) (xs:List V) (v:Value) (us:List Value) (Q:VK),Inv X pins σ H s->RelV x v->Vals xs us->r x xs H Q->
  wpAny (model X.prog X.w) X.A (call (.builtin id) (v :: us)) (EP X pins σ Q) X.xe s
theorem Vals.one:∀ {x:V} {us:List Value},Vals [x] us->∃ u,us=[u]/\RelV x u
 | _,_,.cons r .nil=>⟨_,rfl,r⟩
section
variable {X:Cx} {pins:List (Addr × Obj)} {σ:St} {H:Hp} {s:Shared} {l b:Addr} {xs ys zs:List V}
theorem Inv.lset {its its':List Value} {n:Nat} {f:Array Value->Array Value} {t':Nat} (I:Inv X pins σ H s) (hH:H l=some (.lst xs))
  (e:s.heap.get? l=some { cls:=.type "list",data:=.seq its.toArray n }) (hf:f its.toArray=its'.toArray) (hv:Vals ys its') (hz:ys.length<=sizeLine) :
  Inv X pins σ (upd H l (.lst ys)) { s with heap:=s.heap.update l (Obj.mapSeq f),toks:=t' }:=by
 have q:=PySem.IsL.update e f
 rw [hf] at q
 refine I.write (x:=l) (e:=l) (by rw [hH]; exact trivial) (.inl rfl) (fun b' u hb hu=>(Heap.get?_update_other s.heap (Obj.mapSeq f) (Ne.symm hb)).trans hu) ⟨_,q⟩ ?_
 exact ⟨hz,its',_,hv,q⟩
theorem Inv.lnew {its:List Value} {t':Nat} (I:Inv X pins σ H s) (hv:Vals ys its) (hz:ys.length<=sizeLine) :
  Inv X pins σ (upd H s.heap.objs.size (.lst ys)) { s with heap:=s.heap.push { cls:=.type "list",data:=.seq its.toArray },toks:=t' }:=
 I.laid (fun _ _ q=>Heap.get?_push_of_some _ q) (Nat.le_refl _) ⟨hz,its,0,hv,Heap.get?_push_size _ rfl⟩
theorem Inv.fresh (I:Inv X pins σ H s):H s.heap.objs.size=none:=I.hok.fresh (Nat.le_refl _)
theorem Inv.lstM (I:Inv X pins σ H s) (hH:H l=some (.lst xs)):xs.length<=sizeLine/\∃ (its:List Value) (n:Nat),Vals xs its/\xs.length=its.length/\s.heap.get? l=some { cls:=.type "list",data:=.seq its.toArray n }:=by
 obtain ⟨z,its,n,r,e⟩:=I.hok l _ hH
 exact ⟨z,its,n,r,r.length,e⟩
end
section
variable {X:Cx}
noncomputable def rAppend:V->List V->Hp->VK->Prop:=fun x vs H Q=>∃ l xs y,x=.ref l/\vs=[y]/\H l=some (.lst xs)/\xs.length < sizeLine/\Q .non (upd H l (.lst (xs ++ [y])))
theorem mt_append:MtM X "list.append" rAppend:=by
 intro pins s σ H x vs v us Q I rx rv h
 obtain ⟨l,xs,y,rfl,rfl,hH,hz,q⟩:=h
 cases rx
 obtain ⟨u,rfl,ru⟩:=rv.one
 obtain ⟨z,its,n,r,hl,e⟩:=I.lstM hH
 refine call_meets F.slot_list_append ⟨_,e,rfl⟩ F.entry_list_append (F.args_list_append_2 _ _) (PySem.list_append l its.toArray n u (by rw [List.size_toArray]; omega)) ⟨e,?_⟩
 refine ⟨.non,_,I.lset (its':=its ++ [u]) hH e (by simp) (r.append (.cons ru .nil)) ?_,rfl,q⟩
 rw [List.length_append,List.length_singleton]
 omega
noncomputable def rCat:R2:=fun x y H Q=>∃ l b xs zs,x=.ref l/\y=.ref b/\H l=some (.lst xs)/\H b=some (.lst zs)/\xs.length + zs.length<=sizeLine/\∀ p,H p=none->Q (.ref p) (upd H p (.lst (xs ++ zs)))
theorem op_cat:OpR X (binaryOp .Add) rCat:=by
 intro pins s σ H x y v u Q I rx ry h
 obtain ⟨l,b,xs,zs,rfl,rfl,hH,hB,hz,q⟩:=h
 cases rx
 cases ry
 obtain ⟨z,its,n,r,hl,e⟩:=I.lstM hH
 obtain ⟨z2,its2,n2,r2,hl2,e2⟩:=I.lstM hB
 refine PySem.P.add_list e e2 ?_ (by rw [List.size_toArray,List.size_toArray]; omega)
 have ea:its.toArray ++ its2.toArray=(its ++ its2).toArray:=by simp
 rw [ea]
 exact ⟨.ref _,_,I.lnew (t':=s.toks) (r.append r2) (by rw [List.length_append]; omega),rfl,q _ I.fresh⟩
end
end L2
namespace Att
open PySem PySem.W PySem.Calls PyProof.Rows
theorem ints_of_wellAll {P:Params} {h:Heap}:∀ (ns:List Int) (vs:List Value),WellAll P h vs (ns.map WData.int)->IntsAre vs ns:=by
 intro ns
 induction ns with
 | nil=>
  intro vs w
  rw [List.map_nil] at w
  cases w
  exact .nil
 | cons n ns ih=>
  intro vs w
  rw [List.map_cons] at w
  cases w with
  | cons a b=>
   cases a
   exact .cons _ _ (ih _ b)
theorem script_of {l:OpenLaw} {n:Nat} (hn:l.most=some n) {P:Params} {h:Heap} {args:List WData} {vals:List Value}
  (hpre:l.row.toRowW.claim.pre args=true) (hwl:WellAll P h vals args) :
  ∃ a vs ns,vals=[Value.ref a]/\args=[WData.list (ns.map WData.int)]/\h.get? a=some { cls:=.type "list",data:=.seq vs.toArray }/\IntsAre vs ns/\ns.length<=n:=by
 have hsh:WShape.hasAll [] args [.list .int]=true:=(pre_splitW hpre).1
 have hc:l.pre.holds [] { args:=args } = true:=(pre_splitW hpre).2
 obtain ⟨d,r,rfl,h1,h2⟩:=hasAllW_cons hsh
 obtain rfl:=hasAllW_nil h2
 obtain ⟨xs,rfl,h3⟩:=hasW_list h1
 obtain ⟨ns,rfl⟩:=items_int h3
 have hlen:ns.length<=n:=by
  unfold OpenLaw.pre at hc
  have h4:(WTm.not (.lt (.lit (.int (n:Int))) (.len (.arg 0)))).holds [] { args:=[.list (ns.map .int)] } = true:=by
   have h4:=(holds_andW hc).1
   rw [hn] at h4
   exact h4
  have h5:=condW_of h4 (w_not (w_lt w_lit (w_len_list (w_arg rfl))))
  rw [List.length_map] at h5
  refine Nat.le_of_not_lt fun q=>?_
  have q':(n:Int) < ((ns.length:Nat):Int):=by omega
  first
   | (rw [decide_eq_true q'] at h5; exact absurd h5 (by decide))
   | (simp at h5; omega)
 cases hwl with
 | cons w1 w2=>
  cases w2
  cases w1 with
  | list ho hall=>exact ⟨_,_,ns,rfl,rfl,ho,ints_of_wellAll ns _ hall,hlen⟩
theorem post_true (l:OpenLaw) (args:List WData):l.row.toRowW.claim.post args (.bool true) args=true:=
 postW_of (r:=l.row.toRowW) (X:=(true == true))
  (show WShape.has [] (.bool true) .bool=true by first | rfl | decide | simp [WShape.has,WShape.arms,WShape.armsAll])
  (show (WTm.eq .res (.lit (.bool true))).value [] { args:=args,res:=some (.bool true),after:=args } = some (.bool (true == true)) from w_eq_bool (w_res rfl) w_lit) rfl
theorem attach_call {l:OpenLaw} {n:Nat} {q:Program} {loose:List Str} {XP:(Str->Option Value)->Heap->Prop} {YP:World->Heap->Prop} {d:DefRec}
  (hn:l.most=some n) (hdf:d.params.defaults=[])
  (call:∀ (w:World) (s₀ s₁:Shared) (mg mb:Str->Option Value) (fa:Addr) (o:Obj) (pm cd doc:Value) (a:Addr) (vs:List Value) (ns:List Int),
   Ground q loose [] XP w s₀ mg mb s₁.heap->YP w s₁.heap->
   s₁.heap.get? fa=some o->o.data=.func (docDef d.name d.params d.body d.scope pm cd doc)->s₁.heap.CodeRec cd d.name->mg d.name=some (.ref fa)->
   s₁.heap.get? a=some { cls:=.type "list",data:=.seq vs.toArray }->IntsAre vs ns->ns.length<=n->s₁.gens = #[]->
   codeAny (model l.prog w) callerA (.call (.ref fa) ⟨[.ref a],[]⟩) (fun r s'=>r=.ok (.ret (.bool true))/\OldK s₁.heap s'.heap/\s'.os=s₁.os/\AllBare s'.gens) s₁) :
  WalkO q loose XP YP l.row.toRowW d [] (fun f vs=>PySem.call f vs):=by
 intro w s₀ s₁ mg mb G Y fa o pm cd doc dV kV ho hd hcd hD hmg hg args vals as hpre hlay hrd hwl hlo
 obtain rfl:dV=.none:=Dflts.none hD hdf
 obtain rfl:kV=.none:=Dflts.noKw hD
 obtain ⟨a,vs,ns,rfl,rfl,hobj,hints,hlen⟩:=script_of hn hpre hwl
 refine enter_call (codeAny_mono (call w s₀ s₁ mg mb fa o pm cd doc a vs ns G Y ho (fd_plain hd) hcd hmg hobj hints hlen hg) fun r s' hq=>?_)
 obtain ⟨rfl,h2,h3,h4⟩:=hq
 exact ⟨.inl ⟨.bool true,.bool true,[],rfl,fun _=>rfl,.bool true,post_true l _,fun _=>⟨List.Pairwise.nil,fun _ hm=>(nomatch hm)⟩⟩,h2,h3,h4⟩
end Att
namespace L2
open PySem PySem.Spec PyProof.Rows
theorem vals_ints:∀ {vs:List Value} {ns:List Int},IntsAre vs ns->Vals (ns.map V.int) vs
 | _,_,.nil=>.nil
 | _,_,.cons n t h=>.cons ⟨t,rfl⟩ (vals_ints h)
end L2
namespace L2
open PySem PySem.Spec PyProof.Rows
end L2
namespace L2
open PySem PySem.Spec PyProof.Rows
noncomputable def inClass (s:Stmt) (j:Nat):Stmt:=match s with
 | .ClassDef _ _ _ body _ _ _ _ _ _ _=>body.getD j (.Pass ⟨0,0,0,0⟩)
 | _=>.Pass ⟨0,0,0,0⟩
noncomputable def defArgs (s:Stmt):Arguments:=match s with
 | .FunctionDef _ a _ _ _ _ _ _ _ _=>a
 | _=>{ posonlyargs:=[],args:=[],vararg:=none,kwonlyargs:=[],kw_defaults:=[],kwarg:=none,defaults:=[] }
noncomputable def defBody (s:Stmt):List Stmt:=match s with
 | .FunctionDef _ _ b _ _ _ _ _ _ _=>b
 | _=>[]
noncomputable def defScope (s:Stmt):Scope:=match s with
 | .FunctionDef _ _ _ _ _ _ sc _ _ _=>sc
 | _=>{ kind:=.function,names:=[],isGenerator:=false,isCoroutine:=false }
structure Fun (K:PySem.W.Frag) (x qual:Str) (st:Stmt) (f:Addr) (fd:FuncData):Prop where
 ex:∃ (oc:Value) (od:Option Addr) (kV doc pm:Value) (an:Option Addr) (cdv ct:Value) (osl:Array (Option Value)),
  fd=PySem.W.fnOf x qual (defArgs st) (defBody st) (defScope st) .none kV doc pm an cdv ct/\K.lookup f=some ⟨oc,od,.func fd,osl⟩/\PySem.W.codeIn K cdv qual=true
 kp:PySem.W.keepIn K (.ref f)=true
section
variable {P:Program} {w:World} {K:PySem.W.Frag} {mg:Str->Option Value} {base:Heap}
theorem Fun.binds {x qual:Str} {st:Stmt} {f:Addr} {fd:FuncData} {ps:List Str} (F:Fun K x qual st f fd)
  (h:∀ (kV doc pm:Value) (an:Option Addr) (cdv ct:Value) (us:List Value),us.length=ps.length->bindArgs (PySem.W.fnOf x qual (defArgs st) (defBody st) (defScope st) .none kV doc pm an cdv ct) ⟨us,[]⟩=pure (ps.zip us)):Binds K fd ps []:=by
 obtain ⟨oc,od,kV,doc,pm,an,cdv,ct,osl,rfl,lk,hcd⟩:=F.ex
 exact .all (h kV doc pm an cdv ct)
theorem fun_mk {x qual:Str} {st:Stmt} {f:Addr} {oc:Value} {od an:Option Addr} {osl:Array (Option Value)} {kV doc pm cdv ct:Value} (l:K.lookup f=some ⟨oc,od,.func (PySem.W.fnOf x qual (defArgs st) (defBody st) (defScope st) .none kV doc pm an cdv ct),osl⟩)
  (c:PySem.W.codeIn K cdv qual=true) (k:PySem.W.keepIn K (.ref f)=true):Fun K x qual st f (PySem.W.fnOf x qual (defArgs st) (defBody st) (defScope st) .none kV doc pm an cdv ct):=⟨⟨oc,od,kV,doc,pm,an,cdv,ct,osl,rfl,l,c⟩,k⟩
end
theorem hu_of {A:Around} {k:Nat} (hr:Room k A):A.units + 1 < cLine:=Nat.lt_of_le_of_lt (Nat.add_le_add_left (by decide:1<=64) _) hr.units
section
variable {X:Cx}
theorem pv (i:Nat) {x:Str} {pos:Pos} (hN:X.N[i]? = some x:=by rfl) (hv:Vis X.env.scope x:=by first | exact Or.inl rfl | exact Or.inr (Or.inl rfl) | exact Or.inr (Or.inr rfl)) (hd:(x == ("__debug__":Str))=false:=by decide)
  (hcd:(x == ("__classdict__":Str))=false:=by decide):PE X (.Name x pos) (tVar i):=pe_var hN hv hd hcd
end
theorem iteF {A B:Prop} (h:B):if false=true then A else B:=by
 rw [if_neg Bool.false_ne_true]
 exact h
theorem iteT {A B:Prop} (h:A):if true=true then A else B:=by
 rw [if_pos rfl]
 exact h
noncomputable def Same (H H':Hp):Prop:=∀ b o,H b=some o->H' b=some o
theorem Same.seq {K:PySem.W.Frag} {H H':Hp} {a:Addr} {xs:List V} (e:Same H H') (h:SqL K H a xs):SqL K H' a xs:=by
 rcases h with (h | ⟨o,h⟩) | h
 ·exact .inl (.inl (e _ _ h))
 ·exact .inl (.inr ⟨o,e _ _ h⟩)
 ·exact .inr h
end L2
set_option maxHeartbeats 4000000
namespace L2
open PySem PySem.Spec PyProof.Rows
section
variable {κ:Type} [DecidableEq κ]
noncomputable def valV (kvs:List (κ × V)) (k:κ):Option V:=(kvs.find? fun kv=>decide (kv.1=k)).map (·.2)
noncomputable def putK (kvs:List (κ × V)) (k:κ) (v:V):List (κ × V):=
 if (kvs.any fun kv=>decide (kv.1=k))=true then kvs.map (fun kv=>if kv.1=k then (kv.1,v) else kv) else kvs ++ [(k,v)]
theorem valV_pos {p:κ × V} {r:List (κ × V)} {k:κ} (e:p.1=k):valV (p :: r) k=some p.2:=by simp [valV,List.find?_cons,e]
theorem valV_neg {p:κ × V} {r:List (κ × V)} {k:κ} (e:¬ p.1=k):valV (p :: r) k=valV r k:=by simp [valV,List.find?_cons,e]
theorem valV_any (k:κ):∀ kvs:List (κ × V),(kvs.any fun kv=>decide (kv.1=k))=(valV kvs k).isSome
 | []=>rfl
 | p :: r=>by
  rw [List.any_cons]
  by_cases e:p.1=k
  ·simp only [valV_pos e,decide_eq_true e,Bool.true_or,Option.isSome_some]
  ·rw [valV_neg e,decide_eq_false e,Bool.false_or]; exact valV_any k r
theorem length_putK (kvs:List (κ × V)) (k:κ) (v:V):(putK kvs k v).length<=kvs.length + 1:=by
 unfold putK
 split
 ·rw [List.length_map]; omega
 ·rw [List.length_append,List.length_cons,List.length_nil]; omega
theorem putK_new {kvs:List (κ × V)} {k:κ} (v:V) (h:valV kvs k=none):putK kvs k v=kvs ++ [(k,v)]:=by
 unfold putK
 rw [valV_any,h]
 exact if_neg (by decide)
theorem RelO.isSome_eq {o:Option V} {u:Option Value} (r:RelO o u):o.isSome=u.isSome:=by
 cases o with
 | none=>cases u with
  | none=>rfl
  | some _=>exact (show False from r).elim
 | some _=>cases u with
  | none=>exact (show False from r).elim
  | some _=>rfl
theorem RelO.getD {o:Option V} {u:Option Value} {d:V} {d':Value} (r:RelO o u) (rd:RelV d d'):RelV (o.getD d) (u.getD d'):=by
 cases o with
 | none=>cases u with
  | none=>exact rd
  | some _=>exact (show False from r).elim
 | some _=>cases u with
  | none=>exact (show False from r).elim
  | some _=>exact r
theorem KV.val {kvs:List (κ × V)} {vs:List (κ × Value)} (r:KV kvs vs) (k:κ):RelO (valV kvs k) (valueAt vs k):=by
 unfold KV at r
 induction r with
 | nil=>exact True.intro
 | @cons p q ps qs h t ih=>
  obtain ⟨h1,h2⟩:=h
  by_cases e:p.1=k
  ·have e':q.1=k:=h1.symm.trans e
   have b:valueAt (q :: qs) k=some q.2:=by simp [valueAt,List.find?_cons,e']
   rw [valV_pos e,b]; exact h2
  ·have e':¬ q.1=k:=fun z=>e (h1.trans z)
   have b:valueAt (q :: qs) k=valueAt qs k:=by simp [valueAt,List.find?_cons,e']
   rw [valV_neg e,b]; exact ih
theorem KV.any {kvs:List (κ × V)} {vs:List (κ × Value)} (r:KV kvs vs) (k:κ):(kvs.any fun kv=>decide (kv.1=k))=vs.any fun kv=>decide (kv.1=k):=by
 unfold KV at r
 induction r with
 | nil=>rfl
 | cons h t ih=>rw [List.any_cons,List.any_cons,ih,h.1]
theorem KV.repl {kvs:List (κ × V)} {vs:List (κ × Value)} (r:KV kvs vs) (k:κ) {y:V} {u:Value} (ry:RelV y u) :
  KV (kvs.map fun kv=>if kv.1=k then (kv.1,y) else kv) (vs.map fun kv=>if kv.1=k then (kv.1,u) else kv):=by
 unfold KV at r ⊢
 induction r with
 | nil=>exact .nil
 | @cons p q ps qs h t ih=>
  rw [List.map_cons,List.map_cons]
  refine .cons ?_ ih
  obtain ⟨h1,h2⟩:=h
  by_cases e:p.1=k
  ·rw [if_pos e,if_pos (h1.symm.trans e)]; exact ⟨h1,ry⟩
  ·rw [if_neg e,if_neg (fun z=>e (h1.trans z))]; exact ⟨h1,h2⟩
theorem KV.put {kvs:List (κ × V)} {vs:List (κ × Value)} (r:KV kvs vs) (k:κ) {y:V} {u:Value} (ry:RelV y u):KV (putK kvs k y) (stored vs k u):=by
 unfold putK stored
 rw [r.any k]
 by_cases e:(vs.any fun kv=>decide (kv.1=k))=true
 ·rw [if_pos e,if_pos e]; exact r.repl k ry
 ·rw [if_neg e,if_neg e]; exact Paired.snoc r ⟨rfl,ry⟩
theorem KV.length {kvs:List (κ × V)} {vs:List (κ × Value)} (r:KV kvs vs):kvs.length=vs.length:=Paired.length r
end
theorem kV_is {P:Program} {w:World} {k:Key} {u:Value} (r:RelV (kV k) u):(mixKind P w).is k u=true:=by
 cases k with
 | inl i=>obtain ⟨t,e⟩:=(show ∃ t,u=Value.int i t from r); subst e; exact mixKind_int P w i t
 | inr x=>obtain ⟨t,e⟩:=(show ∃ t,u=Value.str x t from r); subst e; exact mixKind_str P w x t
theorem items_are {P:Program} {w:World}:∀ {ks:List Key} {us:List Value},Vals (ks.map kV) us->ItemsAre (mixKind P w) ks us
 | [],_,r=>by rw [List.map_nil] at r; cases r; exact .nil
 | k :: ks,_,r=>by
  rw [List.map_cons] at r
  cases r with
  | cons h t=>exact .cons (kV_is h) (items_are t)
noncomputable abbrev KT (H:Hp):List (List Key × V)->List (List Key × Addr × Value)->Prop:=Paired fun p q=>p.1=q.1/\H q.2.1=some (.tup (p.1.map kV))/\RelV p.2 q.2.2
theorem KT.val {H:Hp} {kvs:List (List Key × V)} {xs:List (List Key × Addr × Value)} (r:KT H kvs xs) (k:List Key):RelO (valV kvs k) ((atKey xs k).map (·.2)):=by
 induction r with
 | nil=>exact True.intro
 | @cons p q ps qs h t ih=>
  obtain ⟨h1,_,h2⟩:=h
  by_cases e:p.1=k
  ·have e':q.1=k:=h1.symm.trans e
   have b:atKey (q :: qs) k=some q.2:=by simp [atKey,List.find?_cons,e']
   rw [valV_pos e,b]; exact h2
  ·have e':¬ q.1=k:=fun z=>e (h1.trans z)
   have b:atKey (q :: qs) k=atKey qs k:=by simp [atKey,List.find?_cons,e']
   rw [valV_neg e,b]; exact ih
theorem KT.repl {H:Hp} {kvs:List (List Key × V)} {xs:List (List Key × Addr × Value)} (r:KT H kvs xs) (k:List Key) {y:V} {u:Value} (ry:RelV y u) :
  KT H (kvs.map fun kv=>if kv.1=k then (kv.1,y) else kv) (xs.map (putAt k u)):=by
 induction r with
 | nil=>exact .nil
 | @cons p q ps qs h t ih=>
  rw [List.map_cons,List.map_cons]
  refine .cons ?_ ih
  obtain ⟨h1,h2,h3⟩:=h
  unfold putAt
  by_cases e:p.1=k
  ·rw [if_pos e,if_pos (h1.symm.trans e)]; exact ⟨h1,h2,ry⟩
  ·rw [if_neg e,if_neg (fun z=>e (h1.trans z))]; exact ⟨h1,h2,h3⟩
theorem KT.put {H:Hp} {kvs:List (List Key × V)} {xs:List (List Key × Addr × Value)} (r:KT H kvs xs) (k:List Key) {b:Addr} {y:V} {u:Value} (hb:H b=some (.tup (k.map kV))) (ry:RelV y u) :
  KT H (putK kvs k y) (storedH xs k b u):=by
 have e:(kvs.any fun kv=>decide (kv.1=k))=(atKey xs k).isSome:=by
  rw [valV_any,(r.val k).isSome_eq,Option.isSome_map]
 unfold putK storedH
 rw [e]
 by_cases q:(atKey xs k).isSome=true
 ·rw [if_pos q,if_pos q]; exact r.repl k ry
 ·rw [if_neg q,if_neg q]; exact Paired.snoc r ⟨rfl,hb,ry⟩
theorem KT.keeps {H H':Hp} {kvs:List (List Key × V)} {xs:List (List Key × Addr × Value)} (r:KT H kvs xs) (ht:∀ b ys,H b=some (.tup ys)->H' b=some (.tup ys)):KT H' kvs xs:=
 Paired.mapP r fun _ _ z=>⟨z.1,ht _ _ z.2.1,z.2.2⟩
section
variable {P:Program} {w:World} {H:Hp} {h:Heap} {a:Addr}
theorem rd_of {u:HO} (ok:HOk P w H h) (e:Rd H a u):ObjOk P w H h a u:=e.ok ok
theorem dk_rd {kvs:List (Key × V)} (ok:HOk P w H h) (e:Rd H a (.dK kvs)):kvs.length<=sizeLine/\(a == sysModules)=false/\∃ vs,KV kvs vs/\h.DictOf (mixKind P w) a vs:=
 show ObjOk P w H h a (.dK kvs) from rd_of ok e
theorem dk_of {kvs:List (Key × V)} (ok:HOk P w H h) (e:H a=some (.dK kvs)):kvs.length<=sizeLine/\(a == sysModules)=false/\∃ vs,KV kvs vs/\h.DictOf (mixKind P w) a vs:=dk_rd ok (.inl e)
theorem key_of {ks:List Key} (ok:HOk P w H h) (e:H a=some (.tup (ks.map kV))):(tupleKind (mixKind P w)).is h ks a:=by
 obtain ⟨_,its,r,o,h1,h2,n,h3⟩:=(show ObjOk P w H h a (.tup (ks.map kV)) from ok a _ e)
 exact ⟨o,its.toArray,n,h1,h2,h3,by simpa using items_are r⟩
theorem dt_rd {kvs:List (List Key × V)} (ok:HOk P w H h) (e:Rd H a (.dT kvs)):kvs.length<=sizeLine/\(a == sysModules)=false/\
  ∃ xs,KT H kvs xs/\h.DictOfH (tupleKind (mixKind P w)) a xs:=by
 obtain ⟨z,y,xs,r,o,es,ep,h1,h2,h3,h4,h5⟩:=(show ObjOk P w H h a (.dT kvs) from rd_of ok e)
 refine ⟨z,y,xs,r,o,es,ep,h1,h2,h3,h4,fun x hx=>?_,h5⟩
 have all:∀ {l:List (List Key × V)} {m:List (List Key × Addr × Value)},KT H l m->∀ x ∈ m,(tupleKind (mixKind P w)).is h x.1 x.2.1:=by
  intro l m q
  induction q with
  | nil=>intro x hx; exact nomatch hx
  | @cons p q ps qs hq t ih=>
   intro x hx
   rcases List.mem_cons.mp hx with e | hx
   ·subst e
    exact key_of ok (by rw [<-hq.1]; exact hq.2.1)
   ·exact ih x hx
 exact all r x hx
theorem dt_of {kvs:List (List Key × V)} (ok:HOk P w H h) (e:H a=some (.dT kvs)):kvs.length<=sizeLine/\(a == sysModules)=false/\
  ∃ xs,KT H kvs xs/\h.DictOfH (tupleKind (mixKind P w)) a xs:=dt_rd ok (.inl e)
end
noncomputable def DGet (H:Hp) (a:Addr) (y:V) (r:Option V):Prop:=
 (∃ kvs k,Rd H a (.dK kvs)/\y=kV k/\r=valV kvs k)\/∃ kvs k b,Rd H a (.dT kvs)/\y=.ref b/\H b=some (.tup (k.map kV))/\r=valV kvs k
noncomputable def DPut (H:Hp) (a:Addr) (y v:V) (H':Hp):Prop:=
 (∃ kvs k,H a=some (.dK kvs)/\y=kV k/\kvs.length < sizeLine/\H' = upd H a (.dK (putK kvs k v)))\/
 ∃ kvs k b,H a=some (.dT kvs)/\y=.ref b/\H b=some (.tup (k.map kV))/\kvs.length < sizeLine/\H' = upd H a (.dT (putK kvs k v))
theorem DGet.k {H:Hp} {a:Addr} {kvs:List (Key × V)} {k:Key} (e:H a=some (.dK kvs)):DGet H a (kV k) (valV kvs k):=.inl ⟨kvs,k,.inl e,rfl,rfl⟩
theorem DGet.t {H:Hp} {a b:Addr} {kvs:List (List Key × V)} {k:List Key} (e:H a=some (.dT kvs)) (eb:H b=some (.tup (k.map kV))):DGet H a (.ref b) (valV kvs k):=.inr ⟨kvs,k,b,.inl e,rfl,eb,rfl⟩
theorem DPut.k {H:Hp} {a:Addr} {kvs:List (Key × V)} {k:Key} {v:V} (e:H a=some (.dK kvs)) (hl:kvs.length < sizeLine):DPut H a (kV k) v (upd H a (.dK (putK kvs k v))):=.inl ⟨kvs,k,e,rfl,hl,rfl⟩
theorem DPut.t {H:Hp} {a b:Addr} {kvs:List (List Key × V)} {k:List Key} {v:V} (e:H a=some (.dT kvs)) (eb:H b=some (.tup (k.map kV))) (hl:kvs.length < sizeLine) :
  DPut H a (.ref b) v (upd H a (.dT (putK kvs k v))):=.inr ⟨kvs,k,b,e,rfl,eb,hl,rfl⟩
section
variable {X:Cx} {pins:List (Addr × Obj)} {σ:St} {H:Hp} {s:Shared} {a:Addr} {y v:V} {u r:Value} {o:Option V} {A:Around} {E:Value->Shared->Prop}
theorem Inv.big (I:Inv X pins σ H s):sysModules < s.heap.objs.size:=by
 have h:mainGlobals < s.heap.objs.size:=(I.mod.glob.keeps I.bk).lt
 exact Nat.lt_trans (by decide) h
theorem d_write {h':Heap} {t':Nat} {ob:HO} (I:Inv X pins σ H s) (mu:Mut (H a)) (hs:Heap.SameBut a s.heap h') (he:∃ q,h'.get? a=some q) (new:ObjOk X.prog X.w (upd H a ob) h' a ob) :
  Inv X pins σ (upd H a ob) { s with heap:=h',toks:=t' }:=
 I.write (x:=a) (e:=a) mu (.inl rfl) (fun b q hb z=>(hs.2 b hb).trans z) he new
theorem dk_new {P:Program} {w:World} {H':Hp} {h':Heap} {kvs:List (Key × V)} {vs:List (Key × Value)} (z:kvs.length<=sizeLine) (hd:(a == sysModules)=false) (rel:KV kvs vs) (dd:h'.DictOf (mixKind P w) a vs) :
  ObjOk P w H' h' a (.dK kvs):=⟨z,hd,vs,rel,dd⟩
theorem d_setItem {H':Hp} {Q:Unit->Shared->Prop} (hu:A.units + 1 < cLine) (I:Inv X pins σ H s) (g:DPut H a y v H') (ry:RelV y u) (rv:RelV v r) (h:∀ s',Inv X pins σ H' s'->Q () s') :
  wpAny (model X.prog X.w) A (setItem (.ref a) u r) Q E s:=by
 rcases g with ⟨kvs,k,e,ey,l,eH⟩ | ⟨kvs,k,b,e,ey,eb,l,eH⟩
 ·subst ey eH
  obtain ⟨z,hd,vs,rel,dd⟩:=dk_of I.hok e
  have hz:vs.length<=sizeLine:=by rw [<-rel.length]; exact z
  have hl:(putK kvs k v).length<=sizeLine:=by have:=length_putK kvs k v; omega
  refine wpAny_setItem_pairs (hsz:=hz) (kV_is ry) dd fun h' dd' hs=>h _ ?_
  have he:∃ q,h'.get? a=some q:=let ⟨q,_,_,hq,_⟩:=dd'; ⟨q,hq⟩
  exact d_write I (by rw [e]; exact True.intro) hs he (dk_new hl hd (rel.put k rv) dd')
 ·subst ey eH
  cases (show u=Value.ref b from ry)
  obtain ⟨z,hd,xs,rel,dd⟩:=dt_of I.hok e
  have hz:xs.length<=sizeLine:=by rw [<-Paired.length rel]; exact z
  have hl:(putK kvs k v).length<=sizeLine:=by have:=length_putK kvs k v; omega
  refine wpAny_setItem_heap (hsz:=hz) (tupleKind_room_in1 hu) (key_of I.hok eb) dd fun h' dd' hs=>h _ ?_
  obtain ⟨q,es,ep,hq,h2,h3,h4,_,h5⟩:=dd'
  refine d_write I (by rw [e]; exact True.intro) hs ⟨q,hq⟩ ⟨hl,hd,_,(rel.put k eb rv).keeps fun c ys ec=>?_,q,es,ep,hq,h2,h3,h4,h5⟩
  rw [upd_ne (ne_of ec e (fun z=>nomatch z))]
  exact ec
end
noncomputable def NoSl (i:Expr):Prop:=∀ ov iv,subscripted i false ov iv=operate [ov,iv] (getItem ov iv)
theorem subD_of {prog:Program} {w:World} {A:Around} {E:Value->Shared->Prop} {s:Shared} {env:Env} {value slice:Expr} {pos:Pos} {T id:String} {Q:Value->Shared->Prop}
  (hl:typeLookup (.type T) "__getitem__" = pure (some (.builtin id))) (hs:NoSl slice)
  (h:wpAny (model prog w) A (eval value env) (fun o s₁=>wpAny (model prog w) A (eval slice env) (fun i s₂=>s₂.TypeIs o T/\wpAny (model prog w) A (getItem o i) Q E s₂) E s₁) E s) :
  wpAny (model prog w) A (eval (.Subscript value slice pos) env) Q E s:=by
 refine Subscript_ (wpAny_mono h (fun o s₁ h₁=>wpAny_mono h₁ (fun i s₂ h₂=>?_) fun _ _ x=>x) fun _ _ x=>x)
 obtain ⟨hT,h₂⟩:=h₂
 unfold subscriptTail
 refine wpAny_bind ?_
 rw [getitemInPython_of_ne hT.not_modules]
 refine wpAny_bind (wpAny_specialOf hT hl ?_)
 have fin:wpAny (model prog w) A (subscripted slice false o i) (fun r s₃=>wpAny (model prog w) A (letTemporaryGo value o r >>= fun _=>pure r) Q E s₃) E s₂:=by
  rw [hs o i]
  exact wpAny_operating (wpAny_mono h₂ (fun r s₃ h₃=>wpAny_bind (wpAny_letTemporaryGo (wpAny_pure h₃))) fun _ _ x=>x)
 first
  | exact wpAny_pure (wpAny_bind fin)
  | exact wpAny_bind (wpAny_pure (wpAny_bind fin))
  | exact wpAny_bind fin
noncomputable def sDPut (td ty tv:TE):TS:=fun D σ H=>tv σ H fun v H1=>td σ H1 fun x H2=>ty σ H2 fun y H3=>∃ a H4,x=.ref a/\DPut H3 a y v H4/\D.nx σ H4
section
variable {X:Cx} {o i e value:Expr} {pos pos' tpos:Pos} {td ty tv:TE}
theorem ps_dput (hu:X.A.units + 1 < cLine) (ho:PE X o td) (hi:PE X i ty) (hv:PE X value tv) (hs:swapsWith value (some (.Subscript o i pos')) pos.line X.env=pure false) :
  PS X (.Assign [.Subscript o i pos'] value pos) (sDPut td ty tv):=by
 intro pins s σ H D I h
 refine wpAny_Assign_Subscript (thn (hv pins s σ H _ I h) fun r s1 ⟨v,H1,I1,rv,q1⟩=>thn (ho pins s1 σ H1 _ I1 q1) fun u s2 ⟨x,H2,I2,rx,q2⟩=>thn (hi pins s2 σ H2 _ I2 q2) fun iv s3 ⟨y,H3,I3,ry,a,H4,ex,g,q3⟩=>?_) hs
 subst ex
 obtain rfl:u=Value.ref a:=rx
 exact d_setItem hu I3 g ry rv fun s4 I4=>⟨σ,H4,I4,q3⟩
end
theorem dk_empty {P:Program} {w:World} {H:Hp} (h:Heap) (hb:sysModules < h.objs.size):ObjOk P w H (h.push { cls:=.type "dict",data:=.dict #[] }) h.objs.size (.dK []):=
 ⟨Nat.zero_le _,beq_eq_false_iff_ne.mpr (Ne.symm (Nat.ne_of_lt hb)),[],.nil,Heap.DictOf.new h⟩
theorem dt_empty {P:Program} {w:World} {H:Hp} (h:Heap) (hb:sysModules < h.objs.size):ObjOk P w H (h.push { cls:=.type "dict",data:=.dict #[] }) h.objs.size (.dT []):=
 ⟨Nat.zero_le _,beq_eq_false_iff_ne.mpr (Ne.symm (Nat.ne_of_lt hb)),[],.nil,_,#[],0,Heap.get?_push_size _ rfl,⟨rfl,rfl,rfl⟩,rfl,rfl,List.nodup_nil⟩
noncomputable def tDNewK:TE:=fun _ H Q=>∀ p,H p=none->Q (.ref p) (upd H p (.dK []))
noncomputable def tDNewT:TE:=fun _ H Q=>∀ p,H p=none->Q (.ref p) (upd H p (.dT []))
section
variable {X:Cx} {pos:Pos}
theorem pe_dnewK:PE X (.Dict [] [] pos) tDNewK:=fun pins s σ H Q I h=>
 wpAny_Dict_empty ⟨.ref s.heap.objs.size,_,I.laid (a:=s.heap.objs.size) (o:=.dK []) (t':=s.toks) (fun _ _ q=>Heap.get?_push_of_some _ q) (Nat.le_refl _) (dk_empty s.heap I.big),rfl,h _ (I.hok.fresh (Nat.le_refl _))⟩
theorem pe_dnewT:PE X (.Dict [] [] pos) tDNewT:=fun pins s σ H Q I h=>
 wpAny_Dict_empty ⟨.ref s.heap.objs.size,_,I.laid (a:=s.heap.objs.size) (o:=.dT []) (t':=s.toks) (fun _ _ q=>Heap.get?_push_of_some _ q) (Nat.le_refl _) (dt_empty s.heap I.big),rfl,h _ (I.hok.fresh (Nat.le_refl _))⟩
end
structure M2 (X:Cx) (o:Expr) (m:Str) (apos:Pos) (e f:Expr) (cpos:Pos):Prop where
 base:attributeBase o m X.env (eval o X.env)=eval o X.env
 few:((backTo cpos (starEach [e,f] X.env)).all (fun x=>!x.1) && (backToKw cpos (keywordEach [] X.env)).all (fun x=>x.1.isSome)
  && decide (([e,f]:List Expr).length + ([]:List Keyword).length + (if ([]:List Keyword).isEmpty then 0 else 1) < 30))=true
 line:(apos.endLine == cpos.line)=true
 trees:backTo cpos (starEach [e,f] X.env)=[(false,eval e X.env),(false,eval f X.env)]
noncomputable def IsD (H:Hp) (a:Addr):Prop:=(∃ kvs,Rd H a (.dK kvs))\/∃ kvs,Rd H a (.dT kvs)
theorem isD_at {X:Cx} {pins:List (Addr × Obj)} {σ:St} {H:Hp} {s:Shared} {a:Addr} (I:Inv X pins σ H s) (d:IsD H a) :
  s.TypeIs (.ref a) "dict"/\(∀ b,Value.ref a=.ref b->∃ ob,s.heap.get? b=some ob/\ob.dict=none)/\(a == sysModules)=false:=by
 rcases d with ⟨kvs,e⟩ | ⟨kvs,e⟩
 ·obtain ⟨_,hd,vs,_,dd⟩:=dk_rd I.hok e
  refine ⟨dd.typeIs,fun b q=>?_,hd⟩
  cases q
  obtain ⟨ob,_,_,h1,h2,_⟩:=dd
  exact ⟨ob,h1,h2.2.1⟩
 ·obtain ⟨_,hd,xs,_,dd⟩:=dt_rd I.hok e
  refine ⟨dd.typeIs,fun b q=>?_,hd⟩
  cases q
  obtain ⟨ob,_,_,h1,h2,_⟩:=dd
  exact ⟨ob,h1,h2.2.1⟩
section
variable {X:Cx} {pins:List (Addr × Obj)} {σ:St} {H:Hp} {s:Shared} {a:Addr} {y d:V} {u r:Value} {o:Option V} {A:Around} {E:Value->Shared->Prop}
theorem d_get2 {Q:Value->Shared->Prop} (hu:A.units + 1 < cLine) (I:Inv X pins σ H s) (g:DGet H a y o) (ry:RelV y u) (rd:RelV d r) (h:∀ w' s',Inv X pins σ H s'->RelV (o.getD d) w'->Q w' s') :
  wpAny (model X.prog X.w) A (call (.builtin "dict.get") [.ref a,u,r]) Q E s:=by
 rcases g with ⟨kvs,k,e,ey,l⟩ | ⟨kvs,k,b,e,ey,eb,l⟩
 ·subst ey
  obtain ⟨z,hd,vs,rel,dd⟩:=dk_rd I.hok e
  refine call_meetsIn PySem.F.slot_dict_get dd.typeIs PySem.F.entry_dict_get (PySem.F.args_dict_get_3 _ _ _) (meets_dict_get_default (mixKind X.prog X.w) a (kV_is ry) hd r) ⟨_,dd.mapOf,h _ _ (I.tok _) ?_⟩
  rw [l]
  exact (rel.val k).getD rd
 ·subst ey
  cases (show u=Value.ref b from ry)
  obtain ⟨z,hd,xs,rel,dd⟩:=dt_rd I.hok e
  refine call_meetsIn PySem.F.slot_dict_get dd.typeIs PySem.F.entry_dict_get (PySem.F.args_dict_get_3 _ _ _) (meetsH_dict_get_default (tupleKind (mixKind X.prog X.w)) a b hd r) ⟨tupleKind_room_in1 hu,k,xs,key_of I.hok eb,dd,h _ _ (I.tok _) ?_⟩
  rw [l]
  exact (rel.val k).getD rd
end
noncomputable def tDGet2 (td ty tx:TE):TE:=fun σ H Q=>td σ H fun x H1=>∃ a,x=.ref a/\IsD H1 a/\ty σ H1 fun y H2=>tx σ H2 fun z H3=>∃ o,DGet H3 a y o/\Q (o.getD z) H3
section
variable {X:Cx} {o e f:Expr} {apos cpos:Pos} {td ty tx:TE}
theorem pe_dget2 (hu:X.A.units + 1 < cLine) (ho:PE X o td) (he:PE X e ty) (hf:PE X f tx) (m:M2 X o "get" apos e f cpos):PE X (.Call (.Attribute o "get" apos) [e,f] [] cpos) (tDGet2 td ty tx):=by
 intro pins s σ H Q I h
 refine wpAny_Call_method m.base m.few m.line PySem.F.plainAttrs_dict PySem.F.slot_dict_get PySem.F.type_dict_get (thn (ho pins s σ H _ I h) fun u s1 ⟨x,H1,I1,rx,a,ex,d,q1⟩=>?_)
 subst ex
 obtain rfl:u=Value.ref a:=rx
 obtain ⟨t1,t2,_⟩:=isD_at I1 d
 refine ⟨t1,t2,?_⟩
 rw [m.trees]
 refine Calls.callWith_builtin rfl (Calls.evalArgs_plain (Calls.spliced_cons (thn (he pins s1 σ H1 _ I1 q1) fun iv s2 ⟨y,H2,I2,ry,q2⟩=>
  Calls.spliced_cons (thn (hf pins s2 σ H2 _ I2 q2) fun fv s3 ⟨z,H3,I3,rz,ov,g,q3⟩=>Calls.spliced_nil ?_))))
 exact d_get2 hu I3 g ry rz fun w' s4 I4 rw'=>⟨_,H3,I4,rw',q3⟩
end
end L2
namespace L2
open PySem PySem.Spec PyProof.Rows
end L2
namespace L2
open PySem PySem.Spec PyProof.Rows
noncomputable def closL (env:Env):List (Str × NameKind)->List (Str × Addr)->List (Str × Addr)
 | [],acc=>acc
 | (n,k) :: r,acc=>if k == .free then closL env r ((n,(env.cells.lookup n).getD 0) :: acc) else closL env r acc
theorem closure_loop (env:Env):∀ (names:List (Str × NameKind)) (acc:List (Str × Addr)),(∀ y ∈ names,y.2=.free->(env.cells.lookup y.1).isSome=true)->
  (forIn names acc fun (x:Str × NameKind) (cs:List (Str × Addr))=>if (x.2 == NameKind.free)=true then (do let c <-cellOf env x.1; pure (ForInStep.yield ((x.1,c) :: cs))) else (pure (ForInStep.yield cs):Sem (ForInStep (List (Str × Addr)))))=pure (closL env names acc)
 | [],acc,_=>rfl
 | (n,k) :: r,acc,h=>by
  have ih:=fun a=>closure_loop env r a fun y hy=>h y (List.mem_cons_of_mem _ hy)
  rw [List.forIn_cons]
  unfold closL
  by_cases hk:(k == NameKind.free)=true
  ·obtain ⟨c,hc⟩:=Option.isSome_iff_exists.mp (h (n,k) List.mem_cons_self (by simpa using hk))
   simp only [hk,if_true]
   have:cellOf env n=pure c:=by unfold cellOf; rw [hc]
   rw [this,hc]
   exact ih _
  ·simp only [hk]
   exact ih _
theorem closureFor_cells {scope:Scope} {env:Env} (h:∀ y ∈ scope.names,y.2=.free->(env.cells.lookup y.1).isSome=true):closureFor scope env=pure (closL env scope.names []):=by
 have e:=closure_loop env scope.names [] h
 unfold closureFor
 exact congrArg (fun m=>m >>= pure) e
theorem closL_keep {env:Env} {x:Str}:∀ {names:List (Str × NameKind)} {acc:List (Str × Addr)} {c:Addr},(∀ y ∈ names,y.2=.free->(env.cells.lookup y.1).isSome=true)->
  (∀ c,acc.lookup x=some c->env.cells.lookup x=some c)->(closL env names acc).lookup x=some c->env.cells.lookup x=some c
 | [],_,_,_,ha,h=>ha _ h
 | (n,k) :: r,acc,c,hn,ha,h=>by
  unfold closL at h
  by_cases hk:(k == NameKind.free)=true
  ·rw [if_pos hk] at h
   refine closL_keep (fun y hy=>hn y (List.mem_cons_of_mem _ hy)) (fun c' e=>?_) h
   rw [List.lookup_cons] at e
   cases hx:x == n with
   | true=>
    rw [hx] at e
    have:x=n:=by simpa using hx
    subst this
    obtain ⟨d,hd⟩:=Option.isSome_iff_exists.mp (hn (x,k) List.mem_cons_self (by simpa using hk))
    rw [hd] at e ⊢
    exact e
   | false=>
    rw [hx] at e
    exact ha _ e
  ·rw [if_neg hk] at h
   exact closL_keep (fun y hy=>hn y (List.mem_cons_of_mem _ hy)) ha h
theorem closL_has {env:Env} {x:Str}:∀ {names:List (Str × NameKind)} {acc:List (Str × Addr)},((x,NameKind.free) ∈ names\/(acc.lookup x).isSome=true)->((closL env names acc).lookup x).isSome=true
 | [],_,h=>by rcases h with h | h; cases h; exact h
 | (n,k) :: r,acc,h=>by
  unfold closL
  by_cases hk:(k == NameKind.free)=true
  ·rw [if_pos hk]
   refine closL_has ?_
   rw [List.lookup_cons]
   cases hx:x == n with
   | true=>exact .inr rfl
   | false=>
    rcases h with h | h
    ·rcases List.mem_cons.mp h with e | h
     ·cases e; simp at hx
     ·exact .inl h
    ·exact .inr h
  ·rw [if_neg hk]
   refine closL_has ?_
   rcases h with h | h
   ·rcases List.mem_cons.mp h with e | h
    ·cases e; simp at hk
    ·exact .inl h
   ·exact .inr h
noncomputable abbrev rlab (env:Env):Str × NameKind->Str × NameKind:=fun (n,k)=>if (k == NameKind.free && env.scope.kind == .function && env.kindOf n == some .cell) then (n,NameKind.cell) else (n,k)
theorem relabel_of {env:Env}:∀ {names:List (Str × NameKind)} {x:Str} {k:NameKind},names.lookup x=some k->
  (names.map (rlab env)).lookup x=some k\/(k=.free/\(names.map (rlab env)).lookup x=some .cell)
 | [],_,_,h=>by simp at h
 | (n,k) :: r,x,k',h=>by
  have ih:=@relabel_of env r x k'
  rw [List.map_cons]
  have e:rlab env (n,k)=(n,k)\/(k=.free/\rlab env (n,k)=(n,.cell)):=by
   by_cases hc:(k == NameKind.free && env.scope.kind == .function && env.kindOf n == some .cell)=true
   ·refine .inr ⟨?_,if_pos hc⟩
    cases k <;> first | rfl | (simp at hc)
   ·exact .inl (if_neg hc)
  cases hx:x == n with
  | true=>
   simp only [List.lookup_cons,hx] at h
   cases h
   rcases e with e | ⟨e1,e⟩
   ·rw [e]; exact .inl (by simp only [List.lookup_cons,hx])
   ·rw [e]; exact .inr ⟨e1,by simp only [List.lookup_cons,hx]⟩
  | false=>
   simp only [List.lookup_cons,hx] at h
   rcases e with e | ⟨e1,e⟩ <;> (rw [e]; simp only [List.lookup_cons,hx]; exact ih h)
theorem relabel_none {env:Env}:∀ {names:List (Str × NameKind)} {x:Str},names.lookup x=none->(names.map (rlab env)).lookup x=none
 | [],_,_=>rfl
 | (n,k) :: r,x,h=>by
  have ih:=@relabel_none env r x
  rw [List.map_cons]
  have e:rlab env (n,k)=(n,k)\/rlab env (n,k)=(n,.cell):=by
   by_cases hc:(k == NameKind.free && env.scope.kind == .function && env.kindOf n == some .cell)=true
   ·exact .inr (if_pos hc)
   ·exact .inl (if_neg hc)
  cases hx:x == n with
  | true=>simp only [List.lookup_cons,hx] at h; cases h
  | false=>
   simp only [List.lookup_cons,hx] at h
   rcases e with e | e <;> (rw [e]; simp only [List.lookup_cons,hx]; exact ih h)
section
variable {prog:Program} {w:World} {A:Around} {E:Value->Shared->Prop} {R:Result->Shared->Prop} {s:Shared}
theorem compLoop_any {elt target iter:Expr} {ifs:List Expr} {scope:Scope} {pos:Pos} {it acc:Value} {env:Env} (I:Nat->Shared->Prop)
  (turn:∀ n s,I n s->wpAny (model prog w) A (pyNext it) (fun r s₁=>match r with
   | none=>R (.ok .next) s₁
   | some v=>wpAny (model prog w) A (letOwnedTupleGo target it v) (fun _ s₁'=>wpAny (model prog w) A (assign target env v) (fun _ s₂=>
     wpAny (model prog w) A (forIn ifs true fun c r=>if r=true then do let ok <-isTrue c env (eval c env); pure (ForInStep.yield ok) else pure (ForInStep.yield r)) (fun ok s₃=>
      if ok=true then wpAny (model prog w) A (eval elt env) (fun x s₄=>
       wpAny (model prog w) A (call (.builtin "list.append") [acc,x]) (fun _ s₅=>∃ m,m < n/\I m s₅) (fun _ _=>False) s₄) (fun _ _=>False) s₃
      else ∃ m,m < n/\I m s₃) (fun _ _=>False) s₂) (fun _ _=>False) s₁') (fun _ _=>False) s₁) (fun _ _=>False) s)
  (n:Nat) (h:I n s) :
  codeAny (model prog w) A (.compLoop (.ListComp elt [⟨target,iter,ifs,0⟩] scope pos) 0 it acc env) R s:=by
 refine codeAny_loop rfl I (fun n s hI=>?_) n h
 show wpAny _ A ((compTurn (.ListComp elt [⟨target,iter,ifs,0⟩] scope pos) 0 it acc env).onRaise (fun x=>do noteFrame x env; theTreesLotGoes x)) _ _ s
 refine wpAny_noted (wpAny_noRaise ?_)
 rw [compTurn_list]
 refine wpAny_bind (wpAny_standAt (wpAny_bind (wpAny_mono (turn n s hI) (fun r s₁ h₁=>?_) fun _ _ h'=>h')))
 cases r with
 | none=>exact wpAny_pure h₁
 | some v=>
  refine wpAny_bind (wpAny_mono h₁ (fun _ s₁' h₁'=>?_) fun _ _ h'=>h')
  refine wpAny_bind (wpAny_mono h₁' (fun _ s₂ h₂=>wpAny_bind (wpAny_mono h₂ (fun ok s₃ h₃=>?_) fun _ _ h'=>h')) fun _ _ h'=>h')
  cases ok with
  | false=>exact wpAny_pure ⟨rfl,h₃⟩
  | true=>
   exact wpAny_bind (wpAny_bind (wpAny_mono h₃ (fun x s₄ h₄=>wpAny_bind (wpAny_mono h₄ (fun _ s₅ h₅=>wpAny_pure (wpAny_pure ⟨rfl,h₅⟩)) fun _ _ h'=>h')) fun _ _ h'=>h'))
end
noncomputable abbrev compCx (X:Cx) (scope:Scope) (N':List Str) (C:Addr) (fp:List Addr) (s₂:Shared) (H₂:Hp) (pl:List (Addr × Obj)):Cx where
 prog:=X.prog
 w:=X.w
 K:=X.K
 mg:=X.mg
 base:=X.base
 A:=X.A
 N:=N'
 s₀:=s₂
 H₀:=H₂
 env:=compEnvC scope (closL X.env scope.names []) C X.env
 outer:=X.stack
 stack:=X.stack
 ex:=fp
 fn:=fun _=>false
 calm:=X.calm
 pn:=X.pn ++ pl
 xe:=fun _ _=>False
structure CompScope (X:Cx) (scope:Scope) (own capN:List Str) (caps:List Nat):Prop where
 kind:scope.kind=.function
 nocell:∀ y ∈ scope.names,y.2 ≠ .cell
 free:∀ y ∈ scope.names,y.2=.free->X.env.kindOf y.1=some .cell\/X.env.kindOf y.1=some .free
 loc:∀ y ∈ scope.names,y.2=.local->scope.names.lookup y.1=some .local
 caps:caps.map (fun j=>X.N[j]?)=capN.map some
 capf:∀ x ∈ capN,scope.names.lookup x=some .free
noncomputable def liftC (own:List Str) (caps:List Nat) (σ:St):St:=own.map (fun _=>none) ++ caps.map (fun j=>(σ[j]?).getD none)
section
variable {X:Cx} {scope:Scope} {own capN:List Str} {caps:List Nat}
theorem CompScope.cells (S:CompScope X scope own capN caps) (ok:X.Ok):∀ y ∈ scope.names,y.2=.free->(X.env.cells.lookup y.1).isSome=true:=fun y hy hf=>by
 obtain ⟨c,hc⟩:=ok.has y.1 (S.free y hy hf)
 rw [hc]; rfl
theorem CompScope.cl (S:CompScope X scope own capN caps) (ok:X.Ok) {x:Str} {c:Addr} (h:(closL X.env scope.names []).lookup x=some c):X.env.cells.lookup x=some c:=
 closL_keep (S.cells ok) (fun _ e=>by simp at e) h
theorem inv_comp {pins:List (Addr × Obj)} {σ:St} {H₂:Hp} {s₂:Shared} {h₁:Heap} {C:Addr} {fp:List Addr} {tk:Nat} {m:Str->Option Value} (S:CompScope X scope own capN caps) (I:Inv X pins σ H₂ s₂)
  (hf:∀ b ∈ fp,FpOk X pins H₂ b) (hfo:∀ b ∈ fp,b < s₂.heap.objs.size) (hC:s₂.heap.objs.size<=C) (hk:∀ b o,s₂.heap.get? b=some o->h₁.get? b=some o) (hn:h₁.Ns C m) :
  Inv (compCx X scope (own ++ capN) C fp s₂ H₂ pins) [] (liftC own caps σ) H₂ { s₂ with heap:=h₁,toks:=tk }:=by
 have cl:=fun {x:Str} {c:Addr}=>S.cl (x:=x) (c:=c) I.ok
 have kindRel:∀ x,((relabel scope X.env).names.lookup x=some .cell\/(relabel scope X.env).names.lookup x=some .free)->scope.names.lookup x=some .free:=fun x hx=>by
  cases e:scope.names.lookup x with
  | none=>
   have z:(relabel scope X.env).names.lookup x=none:=relabel_none (env:=X.env) e
   rw [z] at hx
   rcases hx with q | q <;> cases q
  | some k=>
   rcases relabel_of (env:=X.env) e with z | ⟨z,_⟩
   ·have z':(relabel scope X.env).names.lookup x=some k:=z
    rw [z'] at hx
    rcases hx with q | q
    ·cases q; exact absurd rfl (S.nocell _ (PySem.mem_of_lookup e))
    ·cases q; rfl
   ·rw [z]
 have stk:∀ b,b ≠ X.env.locals->b ∉ X.fs->b ∉ frs X.stack:=fun b h1 h2 z=>(List.mem_cons.mp (I.stkSub b z)).elim h1 h2
 refine ⟨⟨I.ok.mod,S.kind,I.ok.glob,I.ok.blt,hC,fun x y c h1 h2=>I.ok.inj x y c (cl h1) (cl h2),fun x hx=>?_,fun x c h _=>(by cases h),I.ok.hd,I.ok.frames,.inl rfl,fun b hb=>⟨?_,fun x c h=>(hf b hb).2.2.2.2.1 x c (cl h)⟩,
   I.bs,Nat.le_trans I.ok.bsz I.sz,fun b o e hb=>?_,fun b hb=>stk b (hf b hb).2.1 (hf b hb).2.2.1,I.stack,I.stkFree⟩,
  rfl,I.bare,Un.kept hk,⟨m,hn,fun i x v h1 h2 h3=>?_⟩,fun x c h=>?_,I.hok.fresh hC,fun x c h=>I.freeC x c (cl h),fun p hp=>?_,I.hok.kept hk,?_⟩
 ·have q:=kindRel x hx
  exact Option.isSome_iff_exists.mp (closL_has (env:=X.env) (.inl (PySem.mem_of_lookup q)))
 ·exact Nat.ne_of_lt (Nat.lt_of_lt_of_le (hfo b hb) hC)
 ·rcases (hf b hb).2.2.2.1 with z | z
  ·exact I.ok.noex b o e z
  ·exact absurd (Nat.lt_of_lt_of_le (Heap.lt_size (I.ok.bs b o e).1) z) (Nat.lt_irrefl _)
 ·
  have hi:own.length<=i:=by
   refine Nat.le_of_not_lt fun hlt=>?_
   unfold liftC at h2
   rw [List.getElem?_append_left (by simpa using hlt),List.getElem?_map] at h2
   cases q:own[i]? with
   | none=>rw [q] at h2; cases h2
   | some y=>rw [q] at h2; cases h2
  have h1':capN[i - own.length]? = some x:=by
   have:(own ++ capN)[i]? = some x:=h1
   rwa [List.getElem?_append_right hi] at this
  have h2':(caps.map (fun j=>(σ[j]?).getD none))[i - own.length]? = some (some v):=by
   unfold liftC at h2
   rwa [List.getElem?_append_right (by simpa using hi),List.length_map] at h2
  rw [List.getElem?_map] at h2'
  obtain ⟨j,hj,hj2⟩:=Option.map_eq_some_iff.mp h2'
  have hX:X.N[j]? = some x:=by
   have q:=congrArg (fun l=>l[i - own.length]?) S.caps
   simp only [List.getElem?_map,hj,h1',Option.map_some] at q
   exact Option.some.inj q
  have hσ:σ[j]? = some (some v):=by
   cases q:σ[j]? with
   | none=>rw [q] at hj2; cases hj2
   | some z=>rw [q] at hj2; simp at hj2; rw [hj2]
  have hfr:=S.capf x (List.mem_of_getElem? h1')
  have hmem:(x,NameKind.free) ∈ scope.names:=PySem.mem_of_lookup hfr
  have hkX:=S.free _ hmem rfl
  obtain ⟨m',hm',hl⟩:=I.loc
  obtain ⟨u,ru,l⟩:=hl j x v hX hσ (hkX.elim (fun q=>.inr (.inl q)) fun q=>.inr (.inr q))
  refine ⟨u,ru,.inr ⟨?_,?_⟩⟩
  ·rcases relabel_of (env:=X.env) hfr with z | ⟨_,z⟩
   ·exact .inr z
   ·exact .inl z
  ·rcases l with ⟨l,_⟩ | ⟨_,c,hc,hcell⟩
   ·have l':X.env.kindOf x=some .local:=l
    rcases hkX with q | q <;> (rw [l'] at q; cases q)
   ·obtain ⟨c',hc'⟩:=Option.isSome_iff_exists.mp (closL_has (env:=X.env) (acc:=[]) (.inl hmem))
    have:=cl hc'
    rw [hc] at this
    cases this
    obtain ⟨o,ho,hd⟩:=hcell
    exact ⟨c,hc',o,hk c o ho,hd⟩
 ·obtain ⟨v,o,ho,hd⟩:=I.cell x c (cl h)
  exact ⟨v,o,hk c o ho,hd⟩
 ·have hp':p ∈ X.pn ++ pins:=by simpa using hp
  obtain ⟨e,n,ne,nf,d⟩:=I.pin p hp'
  exact ⟨hk _ _ e,n,Nat.ne_of_lt (Nat.lt_of_lt_of_le (Heap.lt_size e) hC),stk p.1 ne nf,d⟩
 ·unfold liftC
  have hl:=congrArg List.length S.caps
  simp only [List.length_map] at hl
  show (own.map (fun _=>(none:Option V)) ++ caps.map (fun j=>(σ[j]?).getD none)).length=(own ++ capN).length
  rw [List.length_append,List.length_append,List.length_map,List.length_map,hl]
end
noncomputable def PTs (X:Cx) (ifs:List Expr) (t:TT):Prop:=
 ∀ (pins:List (Addr × Obj)) (s:Shared) (σ:St) (H:Hp) (Q:Bool->Hp->Prop),Inv X pins σ H s->t σ H Q->
  wpAny (model X.prog X.w) X.A (forIn ifs true fun c r=>if r=true then do let ok <-isTrue c X.env (eval c X.env); pure (ForInStep.yield ok) else pure (ForInStep.yield r)) (TP X pins σ Q) X.xe s
noncomputable def tYes:TT:=fun _ H Q=>Q true H
theorem pts_nil {X:Cx}:PTs X [] tYes:=fun _ _ _ H _ I h=>wpAny_tests_nil ⟨H,I,h⟩
theorem pts_one {X:Cx} {c:Expr} {t:TT} (h:PT X c t):PTs X [c] t:=fun pins s σ H Q I q=>wpAny_tests_one (h pins s σ H Q I q)
noncomputable def tComp (own:List Str) (caps:List Nat) (wi:TI) (g:TG) (tc:TT) (te:TE):TE:=fun σ H Q=>wi σ H fun J H1=>∃ W:Nat->Nat->List V->St->Hp->Prop,(∃ m,W 0 m [] (liftC own caps σ) H1)/\∀ i m ys σ' H,W i m ys σ' H->
 (J.stop i H/\ys.length<=sizeLine/\∀ p,H p=none->Q (.ref p) (upd H p (.lst ys)))\/
 (J.go i H/\∀ x H',J.yld i H x H'->g x σ' H' fun σ2 H2=>tc σ2 H2 fun b H3=>if b=true then te σ2 H3 fun y H4=>ys.length < sizeLine/\∃ m',m' < m/\W (i + 1) m' (ys ++ [y]) σ2 H4 else ∃ m',m' < m/\W (i + 1) m' ys σ2 H3)
section
variable {X:Cx} {scope:Scope} {own capN:List Str} {caps:List Nat} {tg iter elt:Expr} {ifs:List Expr} {wi:TI} {g:TG} {tc:TT} {te:TE} {pos:Pos}
theorem comp_core {pins:List (Addr × Obj)} {σ:St} {H:Hp} {s:Shared} {Q:VK} {RR:Value->Addr->Result->Shared->Prop} (S:CompScope X scope own capN caps) (hc:X.calm=true) (hi:PI X tg iter wi)
  (hin:∀ C fp s₂ H₂ pl,PG (compCx X scope (own ++ capN) C fp s₂ H₂ pl) tg g/\PTs (compCx X scope (own ++ capN) C fp s₂ H₂ pl) ifs tc/\PE (compCx X scope (own ++ capN) C fp s₂ H₂ pl) elt te)
  (I:Inv X pins σ H s) (h:tComp own caps wi g tc te σ H Q)
  (hRR:∀ (D C:Addr) (s':Shared) (H':Hp) (m:Str->Option Value),Inv X pins σ H' s'->FpOk X pins H' C->s'.heap.Ns C m->Q (.ref D) H'->RR (.ref D) C (.ok .next) s') :
  wpAny (model X.prog X.w) X.A (eval iter X.env) (fun x s₁=>wpAny (model X.prog X.w) X.A (pyIter x) (fun it s₂=>wpAny (model X.prog X.w) X.A (newList []) (fun acc s₃=>
   wpAny (model X.prog X.w) X.A (newFunctionEnv scope X.env.globals (closL X.env scope.names []) [] X.env.qual none .none (some X.env)) (fun cenv s₄=>
    codeAny (model X.prog X.w) X.A (.compStart (.ListComp elt [⟨tg,iter,ifs,0⟩] scope pos) 0 it acc { cenv with scope:=relabel scope X.env }) (RR acc cenv.locals) s₄) X.xe s₃) X.xe s₂) X.xe s₁) X.xe s:=by
 refine thn (hi pins s σ H _ I h) fun v s1 h1=>thn h1 fun itv s2 h2=>?_
 obtain ⟨it,fp,tn,J,H2,e,I2,T,st2,f2,W,⟨m0,w0⟩,turn⟩:=h2
 subst e
 have hfo:∀ b ∈ fp,b < s2.heap.objs.size:=fun b hb=>by obtain ⟨o,e,_⟩:=T.obj _ _ st2 b hb; exact Heap.lt_size e
 refine wpAny_newObj_type (wpAny_newFunctionEnv S.nocell (by intro y hy; simp at hy) (fun h₁ hns₁ hsb₁=>?_) S.kind)
 dsimp only at hns₁ hsb₁ ⊢
 generalize hH2:s2.heap.push { cls:=.type "list",dict:=none,data:=.seq ([]:List Value).toArray } = HH at hns₁ hsb₁ ⊢
 have hC:HH.objs.size=s2.heap.objs.size + 1:=by rw [<-hH2,Heap.size_push]
 have hCle:s2.heap.objs.size<=HH.objs.size:=by rw [hC]; exact Nat.le_succ _
 have hDC:s2.heap.objs.size ≠ HH.objs.size:=by rw [hC]; exact Nat.ne_of_lt (Nat.lt_succ_self _)
 have below:∀ b,b < s2.heap.objs.size->b ≠ HH.objs.size:=fun b hb=>by rw [hC]; exact Nat.ne_of_lt (Nat.lt_succ_of_lt hb)
 have old:∀ b o,s2.heap.get? b=some o->h₁.get? b=some o:=fun b o e=>hsb₁.extBut b o (below b (Heap.lt_size e)) (Heap.get?_push_of_some _ (hH2 ▸ Heap.get?_push_of_some _ e))
 have hacc:h₁.get? s2.heap.objs.size=some { cls:=.type "list",dict:=none,data:=.seq ([]:List Value).toArray }:=hsb₁.extBut _ _ hDC (Heap.get?_push_of_some _ (hH2 ▸ Heap.get?_push_size _ rfl))
 generalize hCe:HH.objs.size=C at hns₁ hDC hCle below ⊢
 generalize hDe:s2.heap.objs.size=D at hacc hDC ⊢
 clear hsb₁ hH2 hC hCe HH
 obtain ⟨hg,ht,he⟩:=hin C fp s2 H2 pins
 have Ic:Inv (compCx X scope (own ++ capN) C fp s2 H2 pins) [] (liftC own caps σ) H2 { s2 with heap:=h₁,toks:=s2.toks + ([]:List (Str × Value)).length }:=inv_comp S I2 f2 hfo (by rw [hDe]; rw [hDe] at hCle; exact hCle) old hns₁
 have cellsD:∀ x c,(closL X.env scope.names []).lookup x=some c->c ≠ D:=fun x c e z=>by
  obtain ⟨v,q⟩:=I2.cell x c (S.cl I2.ok e)
  exact absurd q.lt (by rw [z,hDe]; exact Nat.lt_irrefl _)
 have DnotFs:D ∉ frs X.stack:=fun z=>by
  rcases List.mem_cons.mp (I2.stkSub D z) with q | q
  ·exact absurd I2.lt (by rw [<-q,hDe]; exact Nat.lt_irrefl _)
  ·exact I2.nofs (by rw [hDe]; exact Nat.le_refl _) q
 have DnotPin:∀ p ∈ X.pn ++ pins,p.1 ≠ D:=fun p hp z=>absurd (Heap.lt_size (I2.pin p hp).1) (by rw [z,hDe]; exact Nat.lt_irrefl _)
 have pinD:∀ {σ':St} {H':Hp} {s':Shared} {us:List Value} {k:Nat},Inv (compCx X scope (own ++ capN) C fp s2 H2 pins) [] σ' H' s'->s'.heap.get? D=some { cls:=.type "list",data:=.seq us.toArray k }->H' D=none->
   Inv (compCx X scope (own ++ capN) C fp s2 H2 pins) [(D,{ cls:=.type "list",data:=.seq us.toArray k })] σ' H' s':=fun J e n=>J.pins_of fun p hp=>by
  obtain rfl:=List.mem_singleton.mp hp
  exact ⟨e,n,hDC,DnotFs,fun v z=>by cases z⟩
 have fpc:∀ {H':Hp} {o:Obj},(∀ b ∈ fp,H' b=none)->∀ b ∈ fp,FpOk (compCx X scope (own ++ capN) C fp s2 H2 pins) [(D,o)] H' b:=fun hn b hb=>by
  obtain ⟨f0,f1,f2',f3,f4,f5⟩:=f2 b hb
  refine ⟨hn b hb,Nat.ne_of_lt (Nat.lt_of_lt_of_le (hfo b hb) (by rw [hDe]; rw [hDe] at hCle; exact hCle)),fun z=>(List.mem_cons.mp (I2.stkSub b z)).elim f1 f2',.inl hb,fun x c e=>f4 x c (S.cl I2.ok e),fun p hp=>?_⟩
  rcases List.mem_append.mp hp with hp | hp
  ·exact f5 p hp
  ·obtain rfl:=List.mem_singleton.mp hp
   intro z
   have z':D=b:=z
   exact absurd (hfo b hb) (by rw [<-z',hDe]; exact Nat.lt_irrefl _)
 have loop:codeAny (model X.prog X.w) X.A (.compLoop (.ListComp elt [⟨tg,iter,ifs,0⟩] scope pos) 0 (.ref it) (.ref D) (compEnvC scope (closL X.env scope.names []) C X.env)) (RR (.ref D) C) { s2 with heap:=h₁,toks:=s2.toks + ([]:List (Str × Value)).length }:=by
  refine compLoop_any (fun n s'=>∃ i ys us k σ' H',Inv (compCx X scope (own ++ capN) C fp s2 H2 pins) [(D,{ cls:=.type "list",data:=.seq us.toArray k })] σ' H' s'/\tn i s'.heap/\(∀ b ∈ fp,H' b=none)/\Vals ys us/\W i n ys σ' H') ?_ m0
   ⟨0,[],[],0,_,H2,pinD Ic hacc (I2.hok.fresh (by rw [hDe]; exact Nat.le_refl _)),T.keep _ _ _ st2 fun b _ o e=>old b o e,fun b hb=>(f2 b hb).1,.nil,w0⟩
  rintro n s3 ⟨i,ys,us,k,σ3,H3,I3,st3,fr3,r3,w3⟩
  rcases turn i n ys σ3 H3 w3 with ⟨stop,hz,qn⟩ | ⟨go,step⟩
  ·refine thn (T.done (compCx X scope (own ++ capN) C fp s2 H2 pins) rfl rfl rfl hc i _ s3 σ3 H3 _ I3 (fpc fr3) st3 stop) fun r s4 ⟨hr,I4⟩=>?_
   subst hr
   obtain ⟨eD,nD,_⟩:=I4.pin (D,_) (List.mem_append_right _ (List.mem_singleton.mpr rfl))
   have nD':H3 D=none:=nD
   have I5:Inv X pins σ (upd H3 D (.lst ys)) s4:=by
    refine I2.call' (ch:=fp) I4.os ⟨I4.base.keep,I4.base.slot,fun b o e n hx=>?_,I4.base.there,fun b xs e=>?_,fun b o u e=>?_,fun b ps e=>?_⟩ (fun b u e=>?_) I4.bare fun b hb=>⟨(f2 b hb).2.2.2.1,(f2 b hb).2.1,(f2 b hb).2.2.2.2.1,(f2 b hb).2.2.2.2.2⟩
    ·rw [upd_ne (by intro z; exact absurd (Heap.lt_size e) (by rw [z,hDe]; exact Nat.lt_irrefl _))]
     exact I4.base.free b o e n hx
    ·have q:=I4.base.tups b xs e
     rw [upd_ne (ne_of_none q nD')]; exact q
    ·have q:=I4.base.frzs b o u e
     rw [upd_ne (ne_of_none q nD')]; exact q
    ·obtain ⟨more,q⟩:=I4.base.tbls b ps e
     exact ⟨more,by rw [upd_ne (ne_of_none q nD')]; exact q⟩
    ·by_cases hb:b=D
     ·subst hb
      rw [upd_same] at e; cases e
      exact ⟨hz,us,k,r3,eD⟩
     ·rw [upd_ne hb] at e
      exact (I4.hok b u e).stay (fun _ _ _ q=>q) (fun c q=>by rw [upd_ne (ne_of_none q nD')]; exact q) fun c xs q=>by rw [upd_ne (ne_of_none q nD')]; exact q
   obtain ⟨m,hm,_⟩:=I4.loc
   exact hRR D C s4 _ m I5 (I2.fpOk (by rw [hDe]; rw [hDe] at hCle; exact hCle) (by rw [upd_ne (Ne.symm hDC)]; exact I4.free)) hm (qn D nD')
  ·refine thn (T.item (compCx X scope (own ++ capN) C fp s2 H2 pins) rfl rfl rfl hc i _ s3 σ3 H3 _ I3 (fpc fr3) st3 go) fun r s4 ⟨u,hr,h4⟩=>?_
   subst hr
   refine thn h4 fun _ s5 ⟨x,H5,I5,r5,y5,st5,fr5⟩=>?_
   have I5':=I5.pinned (fpc fr5) (T.obj _ _ st5)
   refine thn (hg _ s5 σ3 H5 x u _ I5' r5 (step x H5 y5)) fun _ s6 ⟨σ6,H6,I6,q6⟩=>?_
   refine thn (ht _ s6 σ6 H6 _ I6 q6) fun ok s7 ⟨H7,I7,q7⟩=>?_
   have back:∀ {σ8:St} {H8:Hp} {s8:Shared},Inv (compCx X scope (own ++ capN) C fp s2 H2 pins) ([(D,{ cls:=.type "list",data:=.seq us.toArray k })] ++ pinsAt fp s5.heap) σ8 H8 s8->tn (i + 1) s8.heap/\(∀ b ∈ fp,H8 b=none):=fun {σ8 H8 s8} I8=>by
    refine ⟨T.keep _ _ _ st5 fun b hb o e=>(I8.pin (b,o) (List.mem_append_right _ (List.mem_append_right _ (mem_pinsAt hb e)))).1,fun b hb=>?_⟩
    obtain ⟨o,e,d⟩:=T.obj _ _ st5 b hb
    exact (I8.pin (b,o) (List.mem_append_right _ (List.mem_append_right _ (mem_pinsAt hb e)))).2.1
   cases ok with
   | false=>
    obtain ⟨m',hm,w7⟩:=q7
    obtain ⟨t7,n7⟩:=back I7
    exact ⟨m',hm,i + 1,ys,us,k,σ6,H7,I7.unpinned,t7,n7,r3,w7⟩
   | true=>
    refine thn (he _ s7 σ6 H7 _ I7 q7) fun u8 s8 ⟨y,H8,I8,r8,hz,m',hm,w8⟩=>?_
    obtain ⟨t8,n8⟩:=back I8
    have I9:=I8.unpinned
    obtain ⟨eD,nD,neD,nfD,_⟩:=I9.pin (D,_) (List.mem_append_right _ (List.mem_singleton.mpr rfl))
    have hl:=r3.length
    refine call_meets F.slot_list_append ⟨_,eD,rfl⟩ F.entry_list_append (F.args_list_append_2 _ _) (PySem.list_append D us.toArray k u8 (by rw [List.size_toArray]; omega)) ⟨eD,?_⟩
    have q:=PySem.IsL.update eD (fun a=>a.push u8)
    have e2:us.toArray.push u8=(us ++ [u8]).toArray:=by simp
    rw [e2] at q
    have keep:∀ b o,b ≠ D->s8.heap.get? b=some o->(s8.heap.update D (Obj.mapSeq fun a=>a.push u8)).get? b=some o:=fun b o hb e=>(Heap.get?_update_other s8.heap _ (Ne.symm hb)).trans e
    have I10:Inv (compCx X scope (own ++ capN) C fp s2 H2 pins) [] σ6 H8 { s8 with heap:=s8.heap.update D (Obj.mapSeq fun a=>a.push u8) }:=by
     refine (I9.pins_of (pins':=[]) fun p hp=>absurd hp (by simp)).turned (t':=s8.toks) (it:=D) keep nD neD (.inr (by rw [hDe]; exact Nat.le_refl _)) cellsD fun p hp=>?_
     exact DnotPin p (by simpa using hp)
    exact ⟨m',hm,i + 1,ys ++ [y],us ++ [u8],_,σ6,H8,pinD I10 q nD,T.keep _ _ _ t8 fun b hb o e=>keep b o (by intro z; exact absurd (hfo b hb) (by rw [z,hDe]; exact Nat.lt_irrefl _)) e,n8,r3.append (.cons r8 .nil),w8⟩
 exact codeAny_compStart_list loop (wpAny_noRaise (T.self _ 0 _ _ _ (T.keep _ _ _ st2 fun b _ o e=>old b o e) loop))
theorem pe_comp (S:CompScope X scope own capN caps) (hc:X.calm=true) (hi:PI X tg iter wi)
  (hin:∀ C fp s₂ H₂ pl,PG (compCx X scope (own ++ capN) C fp s₂ H₂ pl) tg g/\PTs (compCx X scope (own ++ capN) C fp s₂ H₂ pl) ifs tc/\PE (compCx X scope (own ++ capN) C fp s₂ H₂ pl) elt te)
  (hs:∀ x,foldedSetIterable iter X.env x=pure x:=by intro _; rfl):PE X (.ListComp elt [⟨tg,iter,ifs,0⟩] scope pos) (tComp own caps wi g tc te):=by
 intro pins s σ H Q I h
 rw [eval_ListComp]
 refine wpAny_comprehension_free (use:=none) rfl hs (closureFor_cells (S.cells I.ok)) S.kind S.loc ?_
 refine comp_core S hc hi hin I h fun D C s' H' m I' f hm q=>⟨m,hm,fun h' hs'=>?_⟩
 exact ⟨.ref D,H',I'.turned (t':=s'.toks) (it:=C) (fun b o hb e=>(hs'.2 b hb).trans e) f.1 f.2.1 f.2.2.2.1 f.2.2.2.2.1 f.2.2.2.2.2,rfl,q⟩
theorem ps_setComp {i:Nat} {y:Str} {py spos:Pos} (hN:X.N.Nodup) (hi':X.N[i]? = some y) (hx:Loc X.env.scope y) (S:CompScope X scope own capN caps) (hc:X.calm=true) (hi:PI X tg iter wi)
  (hin:∀ C fp s₂ H₂ pl,PG (compCx X scope (own ++ capN) C fp s₂ H₂ pl) tg g/\PTs (compCx X scope (own ++ capN) C fp s₂ H₂ pl) ifs tc/\PE (compCx X scope (own ++ capN) C fp s₂ H₂ pl) elt te)
  (hsw:swapsWith (.ListComp elt [⟨tg,iter,ifs,0⟩] scope pos) (some (.Name y py)) spos.line X.env=pure true:=by rfl)
  (hs:∀ x,foldedSetIterable iter X.env x=pure x:=by intro _; rfl) (hf:X.fn y=true\/X.env.scope.names.lookup y=some .local:=by first | exact .inl rfl | exact .inr rfl | assumption) :
  PS X (.Assign [.Name y py] (.ListComp elt [⟨tg,iter,ifs,0⟩] scope pos) spos) (tAsg (tComp own caps wi g tc te) (gName i)):=by
 intro pins s σ H D I h
 rw [exec_Assign_Name_used _ _ _ _ hsw]
 refine wpAny_bind (wpAny_standAt (wpAny_bind ?_))
 show wpAny _ X.A (do let _ <-comprehension (.ListComp elt [⟨tg,iter,ifs,0⟩] scope pos) scope X.env _ (newList []) false (eval iter X.env) (some (assign (.Name y py) X.env))) _ _ s
 refine wpAny_bind (wpAny_mono (wpAny_comprehension_free (use:=some (assign (.Name y py) X.env)) (Q:=fun _ s'=>SP X pins D .next s') rfl hs (closureFor_cells (S.cells I.ok)) S.kind S.loc ?_) (fun _ s' hq=>wpAny_pure (wpAny_pure hq)) fun _ _ e=>e)
 refine comp_core S hc hi hin I h fun Da C s' H' m I' f hm q=>?_
 show wpAny _ X.A (assign (.Name y py) X.env (.ref Da)) _ _ _
 refine wpAny_assign_Name (store_ok2 I' hN hi' hx (v:=.ref Da) rfl (fun s2 I2 ⟨a,sb,ha⟩=>⟨m,?_,fun h' hs'=>?_⟩) hf)
 ·refine hm.sameBut sb ?_
  rcases ha with z | z
  ·rw [z]; exact f.2.1
  ·exact Ne.symm (f.2.2.2.2.1 y a z)
 ·exact ⟨_,H',I2.turned (t':=s2.toks) (it:=C) (fun b o hb e=>(hs'.2 b hb).trans e) f.1 f.2.1 f.2.2.2.1 f.2.2.2.2.1 f.2.2.2.2.2,q⟩
end
end L2
namespace L2
open PySem
namespace F3
end F3
end L2
namespace L2
open PySem PySem.Spec PyProof.Rows
noncomputable def keyless:List PyData->Bool
 | []=>true
 | .tuple _ :: _=>true
 | _ :: ds=>!ds.isEmpty && keyless ds
noncomputable def RdT (H:Hp) (a:Addr) (xs:List V) (ds:List PyData):Prop:=H a=some (.tup xs)\/(∃ o,H a=some (.frz o (.tup xs)))/\keyless ds=true
theorem RdT.mono {H H':Hp} {a:Addr} {xs:List V} {ds:List PyData} (s:Same H H') (h:RdT H a xs ds):RdT H' a xs ds:=h.imp (fun e=>s _ _ e) fun ⟨⟨o,e⟩,k⟩=>⟨⟨o,s _ _ e⟩,k⟩
theorem RdT.rd {H:Hp} {a:Addr} {xs:List V} {ds:List PyData} (h:RdT H a xs ds):Rd H a (.tup xs):=h.imp id fun z=>z.1
mutual
inductive DV (H:Hp):V->PyData->Prop where
 | non:DV H .non .none
 | bl (b:Bool):DV H (.bl b) (.bool b)
 | int (i:Int):DV H (.int i) (.int i)
 | str (x:Str):DV H (.str x) (.str x)
 | lst {a:Addr} {xs:List V} {ds:List PyData}:H a=some (.lst xs)->DVs H xs ds->DV H (.ref a) (.list ds)
 | tup {a:Addr} {xs:List V} {ds:List PyData}:RdT H a xs ds->DVs H xs ds->DV H (.ref a) (.tuple ds)
inductive DVs (H:Hp):List V->List PyData->Prop where
 | nil:DVs H [] []
 | cons {x:V} {xs:List V} {d:PyData} {ds:List PyData}:DV H x d->DVs H xs ds->DVs H (x :: xs) (d :: ds)
end
section
variable {H H':Hp}
mutual
theorem DV.mono (s:Same H H'):∀ {v:V} {d:PyData},DV H v d->DV H' v d
 | _,_,.non=>.non
 | _,_,.bl b=>.bl b
 | _,_,.int i=>.int i
 | _,_,.str x=>.str x
 | _,_,.lst h r=>.lst (s _ _ h) (DVs.mono s r)
 | _,_,.tup h r=>.tup (h.mono s) (DVs.mono s r)
theorem DVs.mono (s:Same H H'):∀ {vs:List V} {ds:List PyData},DVs H vs ds->DVs H' vs ds
 | _,_,.nil=>.nil
 | _,_,.cons h r=>.cons (DV.mono s h) (DVs.mono s r)
end
theorem DVs.length:∀ {vs:List V} {ds:List PyData},DVs H vs ds->vs.length=ds.length
 | _,_,.nil=>rfl
 | _,_,.cons _ r=>congrArg (· + 1) r.length
theorem DVs.append:∀ {vs ws:List V} {ds es:List PyData},DVs H vs ds->DVs H ws es->DVs H (vs ++ ws) (ds ++ es)
 | _,_,_,_,.nil,s=>s
 | _,_,_,_,.cons h r,s=>.cons h (r.append s)
theorem DVs.get:∀ {vs:List V} {ds:List PyData} {i:Nat} {d:PyData},DVs H vs ds->ds[i]? = some d->∃ v,vs[i]? = some v/\DV H v d
 | _,_,_,_,.nil,e=>by simp at e
 | _,_,0,_,.cons h _,e=>by simp at e; subst e; exact ⟨_,rfl,h⟩
 | _,_,i + 1,d,.cons _ r,e=>by
  obtain ⟨v,h1,h2⟩:=r.get (i:=i) (d:=d) (by simpa using e)
  exact ⟨v,by simpa using h1,h2⟩
theorem same_upd {a:Addr} {o:HO} (h:H a=none):Same H (upd H a o):=fun b u e=>by rw [upd_ne (ne_of_none e h)]; exact e
theorem DV.tup_inv {v:V} {ds:List PyData} (h:DV H v (.tuple ds)):∃ a xs,v=.ref a/\Rd H a (.tup xs)/\DVs H xs ds:=by
 cases h with | tup h r=>exact ⟨_,_,rfl,h.rd,r⟩
theorem DV.tup_invK {v:V} {ds:List PyData} (h:DV H v (.tuple ds)) (hk:keyless ds=false):∃ a xs,v=.ref a/\H a=some (.tup xs)/\DVs H xs ds:=by
 cases h with | tup h r=>exact ⟨_,_,rfl,h.elim id (fun z=>by rw [hk] at z; cases z.2),r⟩
theorem DV.lst_inv {v:V} {ds:List PyData} (h:DV H v (.list ds)):∃ a xs,v=.ref a/\H a=some (.lst xs)/\DVs H xs ds:=by
 cases h with | lst h r=>exact ⟨_,_,rfl,h,r⟩
theorem DV.int_inv {v:V} {i:Int} (h:DV H v (.int i)):v=.int i:=by cases h; rfl
theorem DV.str_inv {v:V} {x:Str} (h:DV H v (.str x)):v=.str x:=by cases h; rfl
theorem DV.bl_inv {v:V} {b:Bool} (h:DV H v (.bool b)):v=.bl b:=by cases h; rfl
theorem DV.non_inv {v:V} (h:DV H v .none):v=.non:=by cases h; rfl
end
section
variable {X:Cx} {pins:List (Addr × Obj)} {σ:St} {H:Hp} {s:Shared}
mutual
theorem Inv.reads (I:Inv X pins σ H s):∀ {v:V} {d:PyData} {u:Value},DV H v d->RelV v u->∃ as,Reads s.heap u d as
 | _,_,_,.non,r=>by cases r; exact ⟨_,.none⟩
 | _,_,_,.bl b,r=>by cases r; exact ⟨_,.bool b⟩
 | _,_,_,.int i,r=>by obtain ⟨t,rfl⟩:=r; exact ⟨_,.int i t⟩
 | _,_,_,.str x,r=>by obtain ⟨t,rfl⟩:=r; exact ⟨_,.str x t⟩
 | _,_,_,.lst h q,r=>by
  cases r
  obtain ⟨_,its,n,rv,e⟩:=I.hok _ _ h
  obtain ⟨as,z⟩:=I.readsAll q rv
  exact ⟨_,reads_list_at e rfl rfl (by simpa using z)⟩
 | _,_,_,.tup h q,r=>by
  cases r
  obtain ⟨_,its,rv,o,e,c,n,d⟩:=h.rd.ok I.hok
  obtain ⟨as,z⟩:=I.readsAll q rv
  exact ⟨_,reads_tuple_at e c d (by simpa using z)⟩
theorem Inv.readsAll (I:Inv X pins σ H s):∀ {vs:List V} {ds:List PyData} {us:List Value},DVs H vs ds->Vals vs us->∃ as,ReadsAll s.heap us ds as
 | _,_,_,.nil,.nil=>⟨_,.nil⟩
 | _,_,_,.cons h q,.cons r rr=>by
  obtain ⟨as,z⟩:=I.reads h r
  obtain ⟨bs,z'⟩:=I.readsAll q rr
  exact ⟨_,.cons z z'⟩
end
end
section
variable {X:Cx}
noncomputable def rEqD (neg:Bool):R2:=fun x y H Q=>∃ d e,DV H x d/\DV H y e/\SeqAt.shaped d=true/\SeqAt.shaped e=true/\Q (.bl (PyData.eqv d e != neg)) H
theorem op_eqD (hu:X.A.units + 64 < cLine):OpR X (compareOp .Eq) (rEqD false):=by
 intro pins s σ H x y v u Q I rx ry h
 obtain ⟨d,e,h1,h2,h3,h4,q⟩:=h
 obtain ⟨as,z1⟩:=I.reads h1 rx
 obtain ⟨bs,z2⟩:=I.reads h2 ry
 exact eq_dataH z1 z2 h3 h4 hu ⟨_,H,I,by show Value.bool (PyData.eqv d e)=Value.bool (PyData.eqv d e != false); rw [Bool.bne_false],q⟩
theorem op_neD (hu:X.A.units + 64 < cLine):OpR X (compareOp .NotEq) (rEqD true):=by
 intro pins s σ H x y v u Q I rx ry h
 obtain ⟨d,e,h1,h2,h3,h4,q⟩:=h
 obtain ⟨as,z1⟩:=I.reads h1 rx
 obtain ⟨bs,z2⟩:=I.reads h2 ry
 exact ne_dataH z1 z2 h3 h4 hu ⟨_,H,I,by show Value.bool (!PyData.eqv d e)=Value.bool (PyData.eqv d e != true); rw [Bool.bne_true],q⟩
@[simp] noncomputable def tyOfD:PyData->String
 | .none=>"NoneType"
 | .bool _=>"bool"
 | .int _=>"int"
 | .str _=>"str"
 | .list _=>"list"
 | .tuple _=>"tuple"
 | .dict _=>"dict"
noncomputable def rIsI:List V->Hp->VK->Prop:=fun xs H Q=>∃ x d n b,xs=[x,.ty n]/\DV H x d/\(∀ K:PySem.W.Frag,PySem.W.kitOne K (.type (tyOfD d)) (.type n)=some b)/\Q (.bl b) H
theorem call_isinst:CallR X (.builtin "isinstance") rIsI:=by
 intro pins s σ H xs us Q I r h
 obtain ⟨x,d,n,b,rfl,hd,e,q⟩:=h
 obtain ⟨u,w,rfl,r1,r2⟩:=vals2 r
 cases r2
 have fin:∀ tk,EP X pins σ Q (.bool b) { s with toks:=tk }:=fun tk=>⟨.bl b,H,I.tok tk,rfl,q⟩
 cases hd with
 | non=>exact isinst_ok I r1 .non (e _) fin
 | bl c=>exact isinst_ok I r1 (.bl c) (e _) fin
 | int i=>exact isinst_ok I r1 (.int i) (e _) fin
 | str z=>exact isinst_ok I r1 (.str z) (e _) fin
 | lst h r=>exact isinst_ok I r1 (.lst h) (e _) fin
 | @tup a xs ds h r=>
  cases (show u=Value.ref a from r1)
  obtain ⟨_,_,_,p⟩:=h.rd.ok I.hok
  obtain ⟨o,h1,h2,_⟩:=p
  exact PySem.W.kia_one PySem.W.kitx_tuple I.kIn ⟨o,h1,h2⟩ (e _) (fun z=>nomatch z) fin
end
end L2
namespace L2.L3
open PySem PySem.Spec PyProof.Rows
noncomputable def hide (O:List Addr) (H:Hp):Hp:=fun b=>if b ∈ O then none else H b
section
variable {O O':List Addr} {H H' H1 H2:Hp}
theorem hide_of {b:Addr} {o:HO} (h:H b=some o) (n:b ∉ O):hide O H b=some o:=by unfold hide; rw [if_neg n]; exact h
theorem of_hide {b:Addr} {o:HO} (h:hide O H b=some o):H b=some o/\b ∉ O:=by
 unfold hide at h
 by_cases e:b ∈ O
 ·rw [if_pos e] at h; cases h
 ·rw [if_neg e] at h; exact ⟨h,e⟩
theorem of_hideR {a:Addr} {u:HO} (h:Rd (hide O H) a u):Rd H a u/\a ∉ O:=by
 rcases h with h | ⟨o,h⟩
 ·obtain ⟨e,n⟩:=of_hide h; exact ⟨.inl e,n⟩
 ·obtain ⟨e,n⟩:=of_hide h; exact ⟨.inr ⟨o,e⟩,n⟩
theorem hide_le:Same (hide O H) H:=fun b o h=>(of_hide h).1
structure Stp (O:List Addr) (H:Hp) (O':List Addr) (H':Hp):Prop where
 keep:∀ b o,b ∉ O->H b=some o->H' b=some o
 new:∀ a ∈ O',a ∈ O\/H a=none
theorem Stp.refl:Stp O H O H:=⟨fun _ _ _ h=>h,fun _ h=>.inl h⟩
theorem Stp.trans {O1 O2 O3:List Addr} {H3:Hp} (a:Stp O1 H1 O2 H2) (b:Stp O2 H2 O3 H3):Stp O1 H1 O3 H3:=by
 have nw:∀ c o,c ∉ O1->H1 c=some o->c ∉ O2:=fun c o hc e z=>(a.new c z).elim hc fun n=>by rw [n] at e; cases e
 refine ⟨fun c o hc e=>b.keep c o (nw c o hc e) (a.keep c o hc e),fun c h=>?_⟩
 by_cases hc:c ∈ O1
 ·exact .inl hc
 ·refine .inr ?_
  cases e:H1 c with
  | none=>rfl
  | some o=>
   rcases b.new c h with z | z
   ·exact absurd z (nw c o hc e)
   ·rw [a.keep c o hc e] at z; cases z
theorem Stp.same (s:Same H H'):Stp O H O H':=⟨fun b o _ e=>s b o e,fun _ h=>.inl h⟩
theorem Stp.hid (s:Stp O H O' H'):Same (hide O H) (hide O' H'):=fun b o e=>by
 obtain ⟨e1,n⟩:=of_hide e
 refine hide_of (s.keep b o n e1) fun z=>?_
 rcases s.new b z with q | q
 ·exact n q
 ·rw [q] at e1; cases e1
theorem hide_same (s:Same H H'):Same (hide O H) (hide O H'):=(Stp.same s).hid
theorem hide_more (s:∀ a ∈ O',a ∈ O):Same (hide O H) (hide O' H):=fun b o e=>by
 obtain ⟨e1,n⟩:=of_hide e
 exact hide_of e1 fun z=>n (s b z)
end
inductive Fl where
 | d (x:PyData) | l (ds:List PyData) | m (tk:Bool) (kvs:List (PyData × PyData))
inductive Bx where
 | l (ds:List PyData) | m (tk:Bool) (kvs:List (PyData × PyData)) | o (C:Addr) (fs:List (Str × Fl)) | sd (fs:List (Str × Fl)) | ll (xs:List (List PyData))
inductive Cell where
 | dat (d:PyData)
 | own (io:Bool) (b:Bx)
 | scr (ns:List Int)
 | exc (c:Str)
 | vw (b:Bx)
noncomputable abbrev DEnv:=List (Option Cell)
structure Fx where
 H₀:Hp
 A₀:List Addr
 O₀:List Addr
 I₀:Nat->Addr
noncomputable def Scr (K:PySem.W.Frag) (H:Hp) (a:Addr) (ns:List Int):Prop:=ns.length<=63/\((∃ o,H a=some (.frz o (.lst (ns.map V.int))))\/
 ∃ (o:Obj) (its:Array Value) (n:Nat),K.lookup a=some o/\o.cls=.type "list"/\o.dict=none/\o.data=.seq its n/\its.size<=sizeLine/\Vals (ns.map V.int) its.toList)
theorem Scr.sq {K:PySem.W.Frag} {H:Hp} {a:Addr} {ns:List Int} (h:Scr K H a ns):SqL K H a (ns.map V.int):=h.2.elim (fun ⟨o,e⟩=>.inl (.inr ⟨o,e⟩)) .inr
theorem Scr.mono {K:PySem.W.Frag} {H H':Hp} {a:Addr} {ns:List Int} (h:Scr K H a ns) (k:∀ o u,H a=some (.frz o u)->H' a=some (.frz o u)):Scr K H' a ns:=⟨h.1,h.2.imp (fun ⟨o,e⟩=>⟨o,k _ _ e⟩) id⟩
noncomputable def ExcObj (K:PySem.W.Frag) (a:Addr) (c:Str) (h:Heap):Prop:=∃ C o,PySem.W.nsIn K mainGlobals c=some (some (.ref C))/\h.get? a=some o/\o.cls=.ref C
noncomputable def keyD:Key->PyData
 | .inl i=>.int i
 | .inr x=>.str x
noncomputable def tupD (ks:List Key):PyData:=.tuple (ks.map keyD)
noncomputable def DicAt (G H:Hp) (a:Addr):Bool->List (PyData × PyData)->Prop
 | false,kvs=>∃ ks:List (Key × V),H a=some (.dK ks)/\Paired (fun (p:Key × V) (q:PyData × PyData)=>keyD p.1=q.1/\DV G p.2 q.2) ks kvs
 | true,kvs=>∃ ks:List (List Key × V),H a=some (.dT ks)/\Paired (fun (p:List Key × V) (q:PyData × PyData)=>tupD p.1=q.1/\DV G p.2 q.2) ks kvs
noncomputable def FlAt (G H:Hp) (v:V):Fl->List Addr->Prop
 | .d x,fp=>fp=[]/\DV G v x
 | .l ds,fp=>∃ a xs,v=.ref a/\fp=[a]/\H a=some (.lst xs)/\DVs G xs ds
 | .m tk kvs,fp=>∃ a,v=.ref a/\fp=[a]/\DicAt G H a tk kvs
inductive FlsAt (G H:Hp):List (Str × V)->List (Str × Fl)->List (List Addr)->Prop where
 | nil:FlsAt G H [] [] []
 | cons {n:Str} {v:V} {f:Fl} {fp:List Addr} {gs:List (Str × V)} {fs:List (Str × Fl)} {fps:List (List Addr)}:FlAt G H v f fp->FlsAt G H gs fs fps->FlsAt G H ((n,v) :: gs) ((n,f) :: fs) (fp :: fps)
noncomputable def LlAt (G H:Hp) (b:Addr) (ds:List PyData):Prop:=∃ vs,H b=some (.lst vs)/\DVs G vs ds
noncomputable def BoxAt (G H:Hp) (a:Addr):Bx->List Addr->Prop
 | .l ds,fp=>fp=[a]/\∃ xs,H a=some (.lst xs)/\DVs G xs ds
 | .m tk kvs,fp=>fp=[a]/\DicAt G H a tk kvs
 | .o C fs,fp=>∃ dx gs fps,fp=a :: dx :: fps.flatten/\H a=some (.ins C dx gs)/\H dx=some (.own a)/\FlsAt G H gs fs fps
 | .sd fs,fp=>∃ gs fps,fp=a :: fps.flatten/\H a=some (.dK (gs.map fun p=>(Sum.inr p.1,p.2)))/\FlsAt G H gs fs fps
 | .ll xs,fp=>∃ bs:List Addr,fp=a :: bs/\H a=some (.lst (bs.map V.ref))/\Paired (LlAt G H) bs xs
noncomputable def Mv:HO->Prop
 | .lst _=>True
 | .dK _=>True
 | .dT _=>True
 | .ins _ _ _=>True
 | .own _=>True
 | _=>False
noncomputable def CellAt (K:PySem.W.Frag) (H:Hp) (O:List Addr) (v:V):Cell->List Addr->Prop
 | .dat d,_=>DV (hide O H) v d
 | .own _ b,fp=>∃ a,v=.ref a/\BoxAt (hide O H) H a b fp
 | .scr ns,_=>∃ a,v=.ref a/\Scr K H a ns
 | .exc c,_=>∃ a φ,v=.ref a/\hide O H a=some (.ext φ)/\∀ h,φ h->ExcObj K a c h
 | .vw b,_=>∃ a fp,v=.ref a/\BoxAt (hide O H) (hide O H) a b fp
section
variable {G G' H H':Hp} {a:Addr} {v:V} {fp:List Addr}
theorem DicAt.keep {tk:Bool} {kvs:List (PyData × PyData)} (h:DicAt G H a tk kvs) (k:H' a=H a) (g:Same G G'):DicAt G' H' a tk kvs:=by
 cases tk with
 | false=>obtain ⟨ks,e,p⟩:=h; exact ⟨ks,k.trans e,Paired.mapP p fun _ _ z=>⟨z.1,DV.mono g z.2⟩⟩
 | true=>obtain ⟨ks,e,p⟩:=h; exact ⟨ks,k.trans e,Paired.mapP p fun _ _ z=>⟨z.1,DV.mono g z.2⟩⟩
theorem DicAt.live {tk:Bool} {kvs:List (PyData × PyData)} (h:DicAt G H a tk kvs):∃ o,H a=some o/\Mv o:=by
 cases tk with
 | false=>obtain ⟨ks,e,p⟩:=h; exact ⟨_,e,trivial⟩
 | true=>obtain ⟨ks,e,p⟩:=h; exact ⟨_,e,trivial⟩
theorem FlAt.keep {f:Fl} (h:FlAt G H v f fp) (k:∀ c ∈ fp,H' c=H c) (g:Same G G'):FlAt G' H' v f fp:=by
 cases f with
 | d x=>exact ⟨h.1,DV.mono g h.2⟩
 | l ds=>obtain ⟨a,xs,e1,e2,e3,e4⟩:=h; exact ⟨a,xs,e1,e2,(k a (by simp [e2])).trans e3,DVs.mono g e4⟩
 | m tk kvs=>obtain ⟨a,e1,e2,e3⟩:=h; exact ⟨a,e1,e2,e3.keep (k a (by simp [e2])) g⟩
theorem FlAt.live {f:Fl} (h:FlAt G H v f fp):∀ c ∈ fp,∃ o,H c=some o/\Mv o:=by
 cases f with
 | d x=>obtain ⟨rfl,_⟩:=h; intro c hc; cases hc
 | l ds=>obtain ⟨a,xs,e1,rfl,e3,e4⟩:=h; intro c hc; obtain rfl:=List.mem_singleton.mp hc; exact ⟨_,e3,trivial⟩
 | m tk kvs=>obtain ⟨a,e1,rfl,e3⟩:=h; intro c hc; obtain rfl:=List.mem_singleton.mp hc; exact e3.live
theorem FlsAt.keep {gs:List (Str × V)} {fs:List (Str × Fl)} {fps:List (List Addr)} (h:FlsAt G H gs fs fps) (k:∀ c ∈ fps.flatten,H' c=H c) (g:Same G G'):FlsAt G' H' gs fs fps:=by
 induction h with
 | nil=>exact .nil
 | cons a b ih=>exact .cons (a.keep (fun c hc=>k c (by simp [hc])) g) (ih fun c hc=>k c (by rw [List.flatten_cons]; exact List.mem_append_right _ hc))
theorem FlsAt.live {gs:List (Str × V)} {fs:List (Str × Fl)} {fps:List (List Addr)} (h:FlsAt G H gs fs fps):∀ c ∈ fps.flatten,∃ o,H c=some o/\Mv o:=by
 induction h with
 | nil=>intro c hc; cases hc
 | cons a b ih=>
  intro c hc
  rw [List.flatten_cons] at hc
  rcases List.mem_append.mp hc with hc | hc
  ·exact a.live c hc
  ·exact ih c hc
theorem Lls.keep {bs:List Addr} {xs:List (List PyData)} (h:Paired (LlAt G H) bs xs) (k:∀ c ∈ bs,H' c=H c) (g:Same G G'):Paired (LlAt G' H') bs xs:=by
 induction h with
 | nil=>exact .nil
 | cons a b ih=>obtain ⟨vs,e,d⟩:=a; exact .cons ⟨vs,(k _ List.mem_cons_self).trans e,DVs.mono g d⟩ (ih fun c hc=>k c (List.mem_cons_of_mem _ hc))
theorem Lls.live {bs:List Addr} {xs:List (List PyData)} (h:Paired (LlAt G H) bs xs):∀ c ∈ bs,∃ o,H c=some o/\Mv o:=by
 induction h with
 | nil=>intro c hc; cases hc
 | cons a b ih=>
  intro c hc
  obtain ⟨vs,e,d⟩:=a
  rcases List.mem_cons.mp hc with rfl | hc
  ·exact ⟨_,e,trivial⟩
  ·exact ih c hc
theorem BoxAt.keep {b:Bx} (h:BoxAt G H a b fp) (k:∀ c ∈ fp,H' c=H c) (g:Same G G'):BoxAt G' H' a b fp:=by
 cases b with
 | l ds=>obtain ⟨rfl,xs,e,d⟩:=h; exact ⟨rfl,xs,(k a (by simp)).trans e,DVs.mono g d⟩
 | m tk kvs=>obtain ⟨rfl,d⟩:=h; exact ⟨rfl,d.keep (k a (by simp)) g⟩
 | o C fs=>obtain ⟨dx,gs,fps,rfl,e1,e2,f⟩:=h; exact ⟨dx,gs,fps,rfl,(k a (by simp)).trans e1,(k dx (by simp)).trans e2,f.keep (fun c hc=>k c (by simp [hc])) g⟩
 | sd fs=>obtain ⟨gs,fps,rfl,e1,f⟩:=h; exact ⟨gs,fps,rfl,(k a (by simp)).trans e1,f.keep (fun c hc=>k c (by simp [hc])) g⟩
 | ll xs=>obtain ⟨bs,rfl,e1,f⟩:=h; exact ⟨bs,rfl,(k a (by simp)).trans e1,Lls.keep f (fun c hc=>k c (by simp [hc])) g⟩
theorem BoxAt.live {b:Bx} (h:BoxAt G H a b fp):∀ c ∈ fp,∃ o,H c=some o/\Mv o:=by
 cases b with
 | l ds=>obtain ⟨rfl,xs,e,d⟩:=h; intro c hc; obtain rfl:=List.mem_singleton.mp hc; exact ⟨_,e,trivial⟩
 | m tk kvs=>obtain ⟨rfl,d⟩:=h; intro c hc; obtain rfl:=List.mem_singleton.mp hc; exact d.live
 | o C fs=>
  obtain ⟨dx,gs,fps,rfl,e1,e2,f⟩:=h
  intro c hc
  rcases List.mem_cons.mp hc with rfl | hc
  ·exact ⟨_,e1,trivial⟩
  ·rcases List.mem_cons.mp hc with rfl | hc
   ·exact ⟨_,e2,trivial⟩
   ·exact f.live c hc
 | sd fs=>
  obtain ⟨gs,fps,rfl,e1,f⟩:=h
  intro c hc
  rcases List.mem_cons.mp hc with rfl | hc
  ·exact ⟨_,e1,trivial⟩
  ·exact f.live c hc
 | ll xs=>
  obtain ⟨bs,rfl,e1,f⟩:=h
  intro c hc
  rcases List.mem_cons.mp hc with rfl | hc
  ·exact ⟨_,e1,trivial⟩
  ·exact Lls.live f c hc
end
theorem CellAt.keep {K:PySem.W.Frag} {H H':Hp} {O O':List Addr} {v:V} {c:Cell} {fp:List Addr} (h:CellAt K H O v c fp) (s:Stp O H O' H') (k:∀ b ∈ fp,H' b=H b) (z:∀ b o u,H b=some (.frz o u)->H' b=some (.frz o u)):CellAt K H' O' v c fp:=by
 cases c with
 | dat d=>exact DV.mono s.hid h
 | own io b=>obtain ⟨a,e,q⟩:=h; exact ⟨a,e,q.keep k s.hid⟩
 | scr ns=>obtain ⟨a,e1,q⟩:=h; exact ⟨a,e1,q.mono fun o u w=>z _ _ _ w⟩
 | exc c=>obtain ⟨a,φ,e1,e2,q⟩:=h; exact ⟨a,φ,e1,s.hid _ _ e2,q⟩
 | vw b=>obtain ⟨a,fp',e1,q⟩:=h; exact ⟨a,fp',e1,q.keep (fun c hc=>by obtain ⟨o,e2,_⟩:=q.live c hc; rw [e2]; exact s.hid _ _ e2) s.hid⟩
structure DStW (K:PySem.W.Frag) (F:Fx) (H:Hp) (σ:St) (ρ:DEnv) (W:List (List Addr)):Prop where
 at_:∀ (i:Nat) (c:Cell),ρ[i]? = some (some c)->∃ v fp,σ[i]? = some (some v)/\W[i]? = some fp/\CellAt K H (W.flatten ++ F.O₀) v c fp
 nd:(W.flatten ++ F.O₀).Nodup
 kept:∀ b o,b ∉ F.A₀->F.H₀ b=some o->H b=some o
 new:∀ a ∈ W.flatten,a ∈ F.A₀\/F.H₀ a=none
 live:∀ a ∈ W.flatten ++ F.O₀,∃ o,H a=some o/\Mv o
 len:ρ.length=σ.length
 lw:W.length=ρ.length
 io:∀ (i:Nat) (b:Bx),ρ[i]? = some (some (.own true b))->σ[i]? = some (some (.ref (F.I₀ i)))
noncomputable def DSt (K:PySem.W.Frag) (F:Fx) (H:Hp) (σ:St) (ρ:DEnv) (O:List Addr):Prop:=∃ W,DStW K F H σ ρ W/\O=W.flatten ++ F.O₀
theorem get_set {α:Type} {l:List α} {i j:Nat} {x y:α} (e:(l.set i x)[j]? = some y):(j=i/\y=x/\i < l.length)\/(j ≠ i/\l[j]? = some y):=by
 by_cases hj:j=i
 ·subst hj
  have hlt:j < l.length:=by
   have:=(List.getElem?_eq_some_iff.mp e).1
   rwa [List.length_set] at this
  rw [List.getElem?_set_self hlt] at e
  exact .inl ⟨rfl,(Option.some.inj e).symm,hlt⟩
 ·rw [List.getElem?_set_ne (Ne.symm hj)] at e
  exact .inr ⟨hj,e⟩
theorem mem_flat_set {α:Type} {W:List (List α)} {i:Nat} {fp:List α} {a:α} (h:a ∈ (W.set i fp).flatten):a ∈ fp\/∃ j l,j ≠ i/\W[j]? = some l/\a ∈ l:=by
 obtain ⟨l,hl,ha⟩:=List.mem_flatten.mp h
 obtain ⟨j,hj⟩:=List.getElem?_of_mem hl
 rcases get_set hj with ⟨_,rfl,_⟩ | ⟨hj',e⟩
 ·exact .inl ha
 ·exact .inr ⟨j,l,hj',e,ha⟩
theorem mem_flat_of {α:Type} {W:List (List α)} {j:Nat} {l:List α} {a:α} (h:W[j]? = some l) (ha:a ∈ l):a ∈ W.flatten:=List.mem_flatten.mpr ⟨l,List.mem_of_getElem? h,ha⟩
theorem flat_set_mem {α:Type} {W:List (List α)} {i j:Nat} {fp l:List α} {a:α} (hj:j ≠ i) (h:W[j]? = some l) (ha:a ∈ l):a ∈ (W.set i fp).flatten:=mem_flat_of (j:=j) (by rw [List.getElem?_set_ne (Ne.symm hj)]; exact h) ha
theorem flat_set_self {α:Type} {W:List (List α)} {i:Nat} {fp:List α} {a:α} (hi:i < W.length) (ha:a ∈ fp):a ∈ (W.set i fp).flatten:=mem_flat_of (j:=i) (List.getElem?_set_self hi) ha
theorem flat_disj {α:Type}:∀ {W:List (List α)} {i j:Nat} {l m:List α} {a:α},W.flatten.Nodup->W[i]? = some l->W[j]? = some m->i ≠ j->a ∈ l->a ∉ m
 | [],_,_,_,_,_,_,h,_,_,_=>by simp at h
 | w :: W,0,0,_,_,_,_,_,_,hn,_=>absurd rfl hn
 | w :: W,0,j + 1,l,m,a,nd,h1,h2,_,ha=>fun hm=>by
  have e:w=l:=by simpa using h1
  subst e
  rw [List.flatten_cons] at nd
  exact (List.nodup_append.mp nd).2.2 a ha a (mem_flat_of (j:=j) (by simpa using h2) hm) rfl
 | w :: W,i + 1,0,l,m,a,nd,h1,h2,_,ha=>fun hm=>by
  have e:w=m:=by simpa using h2
  subst e
  rw [List.flatten_cons] at nd
  exact (List.nodup_append.mp nd).2.2 a hm a (mem_flat_of (j:=i) (by simpa using h1) ha) rfl
 | w :: W,i + 1,j + 1,l,m,a,nd,h1,h2,hn,ha=>flat_disj (W:=W) (i:=i) (j:=j) (by rw [List.flatten_cons] at nd; exact (List.nodup_append.mp nd).2.1) (by simpa using h1) (by simpa using h2) (by omega) ha
theorem nodup_set {α:Type} [DecidableEq α]:∀ {W:List (List α)} {i:Nat} {fp O:List α},(W.flatten ++ O).Nodup->fp.Nodup->(∀ a ∈ fp,(∀ j l,j ≠ i->W[j]? = some l->a ∉ l)/\a ∉ O)->((W.set i fp).flatten ++ O).Nodup
 | [],i,fp,O,h,_,_=>by simpa using h
 | w :: W,0,fp,O,h,hf,hd=>by
  rw [List.set_cons_zero,List.flatten_cons,List.append_assoc]
  rw [List.flatten_cons,List.append_assoc] at h
  refine List.nodup_append.mpr ⟨hf,(List.nodup_append.mp h).2.1,fun a ha b hb e=>?_⟩
  subst e
  rcases List.mem_append.mp hb with hb | hb
  ·obtain ⟨l,hl,hal⟩:=List.mem_flatten.mp hb
   obtain ⟨j,hj⟩:=List.getElem?_of_mem hl
   exact (hd a ha).1 (j + 1) l (by omega) (by simpa using hj) hal
  ·exact (hd a ha).2 hb
 | w :: W,i + 1,fp,O,h,hf,hd=>by
  rw [List.set_cons_succ,List.flatten_cons,List.append_assoc]
  rw [List.flatten_cons,List.append_assoc] at h
  obtain ⟨h1,h2,h3⟩:=List.nodup_append.mp h
  have ih:=nodup_set (W:=W) (i:=i) (fp:=fp) (O:=O) h2 hf fun a ha=>⟨fun j l hj e=>(hd a ha).1 (j + 1) l (by omega) (by simpa using e),(hd a ha).2⟩
  refine List.nodup_append.mpr ⟨h1,ih,fun a ha b hb e=>?_⟩
  subst e
  rcases List.mem_append.mp hb with hb | hb
  ·rcases mem_flat_set hb with hb | ⟨j,l,hj,e,hl⟩
   ·exact (hd a hb).1 0 w (by omega) (by simp) ha
   ·exact h3 a ha a (List.mem_append_left _ (mem_flat_of e hl)) rfl
  ·exact h3 a ha a (List.mem_append_right _ hb) rfl
section
variable {K:PySem.W.Frag} {F:Fx} {H H':Hp} {σ:St} {ρ:DEnv} {O O':List Addr} {W:List (List Addr)}
theorem DStW.nofrz (st:DStW K F H σ ρ W) {b:Addr} (h:b ∈ W.flatten ++ F.O₀) {o:Obj} {u:HO}:H b ≠ some (.frz o u):=fun z=>by
 obtain ⟨o',e,m⟩:=st.live b h
 rw [z] at e; cases e; exact m
theorem DStW.put (st:DStW K F H σ ρ W) {i:Nat} {v:V} {c:Cell} {fp:List Addr} (hi:i < ρ.length)
  (keep:∀ j l b,j ≠ i->W[j]? = some l->b ∈ l->H' b=H b) (keepO:∀ b ∈ F.O₀,H' b=H b) (frz:∀ b o,b ∉ W.flatten ++ F.O₀->H b=some o->H' b=some o)
  (nd:fp.Nodup) (ap:∀ a ∈ fp,(∀ j l,j ≠ i->W[j]? = some l->a ∉ l)/\a ∉ F.O₀) (new:∀ a ∈ fp,a ∈ W.flatten\/H a=none) (liv:∀ a ∈ fp,∃ o,H' a=some o/\Mv o)
  (hc:Stp (W.flatten ++ F.O₀) H ((W.set i fp).flatten ++ F.O₀) H'->CellAt K H' ((W.set i fp).flatten ++ F.O₀) v c fp) (hio:∀ b,c=.own true b->v=.ref (F.I₀ i)) :
  DStW K F H' (σ.set i (some v)) (ρ.set i (some c)) (W.set i fp)/\Stp (W.flatten ++ F.O₀) H ((W.set i fp).flatten ++ F.O₀) H':=by
 have stp:Stp (W.flatten ++ F.O₀) H ((W.set i fp).flatten ++ F.O₀) H':=⟨frz,fun a h=>by
  rcases List.mem_append.mp h with h | h
  ·rcases mem_flat_set h with h | ⟨j,l,_,e,hl⟩
   ·exact (new a h).imp (List.mem_append_left _) id
   ·exact .inl (List.mem_append_left _ (mem_flat_of e hl))
  ·exact .inl (List.mem_append_right _ h)⟩
 have zf:∀ b o u,H b=some (.frz o u)->H' b=some (.frz o u):=fun b o u e=>frz b _ (fun z=>st.nofrz z e) e
 have hiW:i < W.length:=by rw [st.lw]; exact hi
 refine ⟨⟨fun j d e=>?_,nodup_set st.nd nd ap,fun b o hA e=>?_,fun a h=>?_,fun a h=>?_,by rw [List.length_set,List.length_set,st.len],by rw [List.length_set,List.length_set,st.lw],fun j b e=>?_⟩,stp⟩
 ·rcases get_set e with ⟨rfl,e1,_⟩ | ⟨hj,e1⟩
  ·cases e1
   exact ⟨v,fp,List.getElem?_set_self (by rw [<-st.len]; exact hi),List.getElem?_set_self hiW,hc stp⟩
  ·obtain ⟨w,l,h1,h2,h3⟩:=st.at_ j d e1
   exact ⟨w,l,by rw [List.getElem?_set_ne (Ne.symm hj)]; exact h1,by rw [List.getElem?_set_ne (Ne.symm hj)]; exact h2,h3.keep stp (fun b hb=>keep j l b hj h2 hb) zf⟩
 ·have e1:=st.kept b o hA e
  by_cases hO:b ∈ F.O₀
  ·rw [keepO b hO]; exact e1
  ·refine frz b o (fun z=>?_) e1
   rcases List.mem_append.mp z with z | z
   ·rcases st.new b z with q | q
    ·exact hA q
    ·rw [q] at e; cases e
   ·exact hO z
 ·rcases mem_flat_set h with h | ⟨j,l,_,e,hl⟩
  ·rcases new a h with q | q
   ·exact st.new a q
   ·by_cases hA:a ∈ F.A₀
    ·exact .inl hA
    ·refine .inr ?_
     cases e:F.H₀ a with
     | none=>rfl
     | some o=>rw [st.kept a o hA e] at q; cases q
  ·exact st.new a (mem_flat_of e hl)
 ·rcases List.mem_append.mp h with h | h
  ·rcases mem_flat_set h with h | ⟨j,l,hj,e,hl⟩
   ·exact liv a h
   ·obtain ⟨o,h1,h2⟩:=st.live a (List.mem_append_left _ (mem_flat_of e hl))
    exact ⟨o,by rw [keep j l a hj e hl]; exact h1,h2⟩
  ·obtain ⟨o,h1,h2⟩:=st.live a (List.mem_append_right _ h)
   exact ⟨o,by rw [keepO a h]; exact h1,h2⟩
 ·rcases get_set e with ⟨rfl,e1,_⟩ | ⟨hj,e1⟩
  ·rw [List.getElem?_set_self (by rw [<-st.len]; exact hi),hio b (Option.some.inj e1).symm]
  ·rw [List.getElem?_set_ne (Ne.symm hj)]; exact st.io j b e1
theorem DStW.grow (st:DStW K F H σ ρ W) (s:Same H H'):DStW K F H' σ ρ W where
 at_:=fun i c e=>let ⟨v,fp,h1,h2,h3⟩:=st.at_ i c e; ⟨v,fp,h1,h2,h3.keep (.same s) (fun b hb=>by
  obtain ⟨o,e1,_⟩:=st.live b (List.mem_append_left _ (mem_flat_of h2 hb))
  rw [e1]; exact s _ _ e1) fun b o u e=>s _ _ e⟩
 nd:=st.nd
 kept:=fun b o n e=>s b o (st.kept b o n e)
 new:=st.new
 live:=fun a h=>let ⟨o,e,m⟩:=st.live a h; ⟨o,s _ _ e,m⟩
 len:=st.len
 lw:=st.lw
 io:=st.io
theorem DSt.grow (st:DSt K F H σ ρ O) (s:Same H H'):DSt K F H' σ ρ O:=let ⟨W,h,e⟩:=st; ⟨W,h.grow s,e⟩
theorem DSt.nofree (st:DSt K F H σ ρ O):∀ p,H p=none->p ∉ O:=fun p hp z=>by
 obtain ⟨W,h,rfl⟩:=st
 obtain ⟨o,e,_⟩:=h.live p z
 rw [hp] at e; cases e
theorem DSt.dat (st:DSt K F H σ ρ O) {i:Nat} {d:PyData} (e:ρ[i]? = some (some (.dat d))):∃ v,σ[i]? = some (some v)/\DV (hide O H) v d:=by
 obtain ⟨W,h,rfl⟩:=st
 obtain ⟨v,fp,h1,h2,h3⟩:=h.at_ i _ e
 exact ⟨v,h1,h3⟩
theorem DSt.scr (st:DSt K F H σ ρ O) {i:Nat} {ns:List Int} (e:ρ[i]? = some (some (.scr ns))):∃ a,σ[i]? = some (some (.ref a))/\Scr K H a ns:=by
 obtain ⟨W,h,rfl⟩:=st
 obtain ⟨v,fp,h1,h2,a,rfl,h3⟩:=h.at_ i _ e
 exact ⟨a,h1,h3⟩
theorem DSt.set (st:DSt K F H σ ρ O) {i:Nat} {v:V} {d:PyData} (h:DV (hide O H) v d):DSt K F H (σ.set i (some v)) (ρ.set i (some (.dat d))) O:=by
 obtain ⟨W,st,rfl⟩:=st
 refine ⟨W,⟨fun j c e=>?_,st.nd,st.kept,st.new,st.live,by rw [List.length_set,List.length_set,st.len],by rw [List.length_set,st.lw],fun j b e=>?_⟩,rfl⟩
 rotate_left
 ·rcases get_set e with ⟨rfl,e1,_⟩ | ⟨hj,e1⟩
  ·cases e1
  ·rw [List.getElem?_set_ne (Ne.symm hj)]; exact st.io j b e1
 rcases get_set e with ⟨rfl,e1,hlt⟩ | ⟨hj,e1⟩
 ·cases e1
  obtain ⟨fp,hfp⟩:∃ fp,W[j]? = some fp:=⟨W[j]'(by rw [st.lw]; exact hlt),List.getElem?_eq_getElem _⟩
  exact ⟨v,fp,List.getElem?_set_self (by rw [<-st.len]; exact hlt),hfp,h⟩
 ·obtain ⟨w,l,h1,h2,h3⟩:=st.at_ j c e1
  exact ⟨w,l,by rw [List.getElem?_set_ne (Ne.symm hj)]; exact h1,h2,h3⟩
theorem DSt.setBox (st:DSt K F H σ ρ O) {i:Nat} {a:Addr} {b:Bx} {fp:List Addr} (hi:i < ρ.length) (keep:∀ c o,H c=some o->H' c=some o) (nd:fp.Nodup) (fr:∀ c ∈ fp,H c=none)
  (hb:∀ G,Same (hide O H) G->BoxAt G H' a b fp):∃ O',DSt K F H' (σ.set i (some (.ref a))) (ρ.set i (some (.own false b))) O'/\Stp O H O' H':=by
 obtain ⟨W,st,rfl⟩:=st
 have ap:∀ c ∈ fp,c ∉ W.flatten ++ F.O₀:=fun c hc z=>by
  obtain ⟨o,e,_⟩:=st.live c z
  rw [fr c hc] at e; cases e
 have kl:∀ c,c ∈ W.flatten ++ F.O₀->H' c=H c:=fun c hc=>by
  obtain ⟨o,e,_⟩:=st.live c hc
  rw [e]; exact keep _ _ e
 have hbx:=hb (hide (W.flatten ++ F.O₀) H) (fun _ _ e=>e)
 obtain ⟨s1,s2⟩:=st.put (H':=H') (i:=i) (v:=.ref a) (c:=.own false b) (fp:=fp) hi (fun j l c _ e hc=>kl c (List.mem_append_left _ (mem_flat_of e hc))) (fun c hc=>kl c (List.mem_append_right _ hc)) (fun c o _ e=>keep c o e) nd
  (fun c hc=>⟨fun j l _ e z=>ap c hc (List.mem_append_left _ (mem_flat_of e z)),fun z=>ap c hc (List.mem_append_right _ z)⟩) (fun c hc=>.inr (fr c hc)) (fun c hc=>hbx.live c hc) (fun s=>⟨a,rfl,hb _ s.hid⟩) (fun _ z=>by cases z)
 exact ⟨_,⟨_,s1,rfl⟩,s2⟩
theorem DSt.box (st:DSt K F H σ ρ O) {i:Nat} {io:Bool} {b:Bx} (e:ρ[i]? = some (some (.own io b))):∃ a fp,σ[i]? = some (some (.ref a))/\BoxAt (hide O H) H a b fp/\(∀ c ∈ fp,c ∈ O)/\
  ∀ (H':Hp) (b':Bx) (fp':List Addr),(∀ c o,c ∉ fp->H c=some o->H' c=some o)->fp'.Nodup->(∀ c ∈ fp',c ∈ fp\/H c=none)->(∀ G,(∀ O',Stp O H O' H'->G=hide O' H'->(∀ c ∈ fp',c ∈ O')->Same (hide O H) G/\BoxAt G H' a b' fp'))->
   ∃ O',DSt K F H' σ (ρ.set i (some (.own io b'))) O'/\Stp O H O' H'/\(∀ c ∈ O',c ∈ fp'\/c ∈ O):=by
 obtain ⟨W,st,rfl⟩:=st
 obtain ⟨v,fp,h1,h2,a,rfl,h3⟩:=st.at_ i _ e
 have hi:i < ρ.length:=(List.getElem?_eq_some_iff.mp e).1
 have hiW:i < W.length:=by rw [st.lw]; exact hi
 refine ⟨a,fp,h1,h3,fun c hc=>List.mem_append_left _ (mem_flat_of h2 hc),fun H' b' fp' keep nd fr hb=>?_⟩
 have ndW:W.flatten.Nodup:=(List.nodup_append.mp st.nd).1
 have nO:∀ c ∈ fp,c ∉ F.O₀:=fun c hc z=>(List.nodup_append.mp st.nd).2.2 c (mem_flat_of h2 hc) c z rfl
 have kj:∀ j l c,j ≠ i->W[j]? = some l->c ∈ l->H' c=H c:=fun j l c hj ej hc=>by
  obtain ⟨o,eo,_⟩:=st.live c (List.mem_append_left _ (mem_flat_of ej hc))
  rw [eo]
  exact keep c o (fun z=>flat_disj ndW ej h2 hj hc z) eo
 have kO:∀ c ∈ F.O₀,H' c=H c:=fun c hc=>by
  obtain ⟨o,eo,_⟩:=st.live c (List.mem_append_right _ hc)
  rw [eo]
  exact keep c o (fun z=>nO c z hc) eo
 have ap:∀ c ∈ fp',(∀ j l,j ≠ i->W[j]? = some l->c ∉ l)/\c ∉ F.O₀:=fun c hc=>by
  rcases fr c hc with q | q
  ·exact ⟨fun j l hj ej z=>flat_disj ndW h2 ej (Ne.symm hj) q z,nO c q⟩
  ·refine ⟨fun j l _ ej z=>?_,fun z=>?_⟩
   ·obtain ⟨o,eo,_⟩:=st.live c (List.mem_append_left _ (mem_flat_of ej z)); rw [q] at eo; cases eo
   ·obtain ⟨o,eo,_⟩:=st.live c (List.mem_append_right _ z); rw [q] at eo; cases eo
 have frz:∀ c o,c ∉ W.flatten ++ F.O₀->H c=some o->H' c=some o:=fun c o hc ec=>keep c o (fun z=>hc (List.mem_append_left _ (mem_flat_of h2 z))) ec
 have stp:Stp (W.flatten ++ F.O₀) H ((W.set i fp').flatten ++ F.O₀) H':=⟨frz,fun c h=>by
  rcases List.mem_append.mp h with h | h
  ·rcases mem_flat_set h with h | ⟨j,l,_,ej,hl⟩
   ·exact (fr c h).imp (fun z=>List.mem_append_left _ (mem_flat_of h2 z)) id
   ·exact .inl (List.mem_append_left _ (mem_flat_of ej hl))
  ·exact .inl (List.mem_append_right _ h)⟩
 have inO':∀ c ∈ fp',c ∈ (W.set i fp').flatten ++ F.O₀:=fun c hc=>List.mem_append_left _ (flat_set_self hiW hc)
 have hbx:=(hb _ _ stp rfl inO').2
 obtain ⟨s1,s2⟩:=st.put (H':=H') (i:=i) (v:=.ref a) (c:=.own io b') (fp:=fp') hi kj kO frz nd ap (fun c hc=>(fr c hc).imp (fun z=>mem_flat_of h2 z) id) (fun c hc=>hbx.live c hc) (fun _=>⟨a,rfl,hbx⟩) (fun b2 z=>by cases z; have:=st.io i b e; rw [h1] at this; exact (Option.some.inj (Option.some.inj this)))
 have eσ:σ.set i (some (.ref a))=σ:=by
  apply List.ext_getElem?
  intro j
  by_cases hj:j=i
  ·subst hj; rw [List.getElem?_set_self (List.getElem?_eq_some_iff.mp h1).1,h1]
  ·rw [List.getElem?_set_ne (Ne.symm hj)]
 rw [eσ] at s1
 refine ⟨_,⟨_,s1,rfl⟩,s2,fun c hc=>?_⟩
 rcases List.mem_append.mp hc with hc | hc
 ·rcases mem_flat_set hc with hc | ⟨j,l,_,ej,hl⟩
  ·exact .inl hc
  ·exact .inr (List.mem_append_left _ (mem_flat_of ej hl))
 ·exact .inr (List.mem_append_right _ hc)
theorem DSt.freeze (st:DSt K F H σ ρ O) {i:Nat} {ds:List PyData} (e:ρ[i]? = some (some (.own false (.l ds)))) :
  ∃ v O',σ[i]? = some (some v)/\DSt K F H σ (ρ.set i (some (.dat (.list ds)))) O'/\Stp O H O' H/\DV (hide O' H) v (.list ds):=by
 obtain ⟨W,st,rfl⟩:=st
 obtain ⟨v,fp,h1,h2,a,rfl,rfl,xs,h3,h4⟩:=st.at_ i _ e
 have hi:i < ρ.length:=(List.getElem?_eq_some_iff.mp e).1
 have ndW:W.flatten.Nodup:=(List.nodup_append.mp st.nd).1
 have nin:a ∉ (W.set i []).flatten ++ F.O₀:=fun z=>by
  rcases List.mem_append.mp z with z | z
  ·rcases mem_flat_set z with z | ⟨j,l,hj,ej,hl⟩
   ·cases z
   ·exact flat_disj ndW h2 ej (Ne.symm hj) List.mem_cons_self hl
  ·exact (List.nodup_append.mp st.nd).2.2 a (mem_flat_of h2 List.mem_cons_self) a z rfl
 have dv:Stp (W.flatten ++ F.O₀) H ((W.set i []).flatten ++ F.O₀) H->DV (hide ((W.set i []).flatten ++ F.O₀) H) (.ref a) (.list ds):=fun s=>.lst (hide_of h3 nin) (DVs.mono s.hid h4)
 obtain ⟨s1,s2⟩:=st.put (H':=H) (i:=i) (v:=.ref a) (c:=.dat (.list ds)) (fp:=[]) hi (fun _ _ _ _ _ _=>rfl) (fun _ _=>rfl) (fun _ _ _ e=>e) List.nodup_nil (fun a h=>by cases h) (fun a h=>by cases h) (fun a h=>by cases h) (fun s=>dv s) (fun _ z=>by cases z)
 have eσ:σ.set i (some (.ref a))=σ:=by
  apply List.ext_getElem?
  intro j
  by_cases hj:j=i
  ·subst hj; rw [List.getElem?_set_self (List.getElem?_eq_some_iff.mp h1).1,h1]
  ·rw [List.getElem?_set_ne (Ne.symm hj)]
 rw [eσ] at s1
 exact ⟨_,_,h1,⟨_,s1,rfl⟩,s2,dv s2⟩
end
end L2.L3
namespace L2.L3
open PySem PySem.Spec PyProof.Rows
noncomputable abbrev DT:=DEnv->(PyData->DEnv->Prop)->Prop
noncomputable def Mn (t:DT):Prop:=∀ ρ Q Q',(∀ d ρ',Q d ρ'->Q' d ρ')->t ρ Q->t ρ Q'
noncomputable def rdE (K:PySem.W.Frag) (F:Fx) (t:DT):TE:=fun σ H Q=>∃ ρ O,DSt K F H σ ρ O/\t ρ fun d ρ'=>∀ v H' O',DSt K F H' σ ρ' O'->Stp O H O' H'->DV (hide O' H') v d->Q v H'
structure DE (X:Cx) (F:Fx) (e:Expr) (t:DT):Prop where
 mn:Mn t
 pe:PE X e (rdE X.K F t)
theorem _root_.L2.PE.imp {X:Cx} {e:Expr} {t t':TE} (h:PE X e t) (k:∀ σ H Q,t' σ H Q->t σ H Q):PE X e t':=fun pins s σ H Q I q=>h pins s σ H Q I (k σ H Q q)
theorem _root_.L2.PT.imp {X:Cx} {e:Expr} {t t':TT} (h:PT X e t) (k:∀ σ H Q,t' σ H Q->t σ H Q):PT X e t':=fun pins s σ H Q I q=>h pins s σ H Q I (k σ H Q q)
theorem _root_.L2.PS.imp {X:Cx} {e:Stmt} {t t':TS} (h:PS X e t) (k:∀ D σ H,t' D σ H->t D σ H):PS X e t':=fun pins s σ H D I q=>h pins s σ H D I (k D σ H q)
theorem _root_.L2.PSs.imp {X:Cx} {e:List Stmt} {t t':TS} (h:PSs X e t) (k:∀ D σ H,t' D σ H->t D σ H):PSs X e t':=fun pins s σ H D I q=>h pins s σ H D I (k D σ H q)
section
variable {X:Cx} {F:Fx} {a b e:Expr} {ta tb:DT} {pos:Pos}
noncomputable def dC (d:PyData):DT:=fun ρ Q=>Q d ρ
noncomputable def dV (i:Nat):DT:=fun ρ Q=>(∃ d,ρ[i]? = some (some (.dat d))/\Q d ρ)\/∃ ds,ρ[i]? = some (some (.own false (.l ds)))/\Q (.list ds) (ρ.set i (some (.dat (.list ds))))
theorem mn_C {d:PyData}:Mn (dC d):=fun _ _ _ h q=>h _ _ q
theorem de_const {d:PyData} {v:V} (h:PE X e (tC v)) (hd:∀ H,DV H v d):DE X F e (dC d):=
 ⟨mn_C,h.imp fun σ H Q ⟨ρ,O,st,q⟩=>q v H O st .refl (hd _)⟩
theorem de_int {i j}:DE X F (.Constant (.int i) j pos) (dC (.int i)):=de_const pe_int fun _=>.int i
theorem de_bl {i j}:DE X F (.Constant (.bool i) j pos) (dC (.bool i)):=de_const pe_bl fun _=>.bl i
theorem de_non {j}:DE X F (.Constant .none j pos) (dC .none):=de_const pe_non fun _=>.non
theorem de_str {x j}:DE X F (.Constant (.str x) j pos) (dC (.str x)):=de_const pe_str fun _=>.str x
theorem de_var (i:Nat) {x:Str} (h:PE X (.Name x pos) (tVar i)):DE X F (.Name x pos) (dV i):=
 ⟨fun _ _ _ k q=>q.imp (fun ⟨d,e,q⟩=>⟨d,e,k _ _ q⟩) fun ⟨d,e,q⟩=>⟨d,e,k _ _ q⟩,h.imp fun σ H Q ⟨ρ,O,st,q⟩=>by
  rcases q with ⟨d,e,q⟩ | ⟨ds,e,q⟩
  ·obtain ⟨v,h1,h2⟩:=st.dat e
   exact ⟨v,h1,q v H O st .refl h2⟩
  ·obtain ⟨v,O',h1,h2,h3,h4⟩:=st.freeze e
   exact ⟨v,h1,q v H O' h2 h3 h4⟩⟩
noncomputable abbrev D2:=PyData->PyData->(PyData->Prop)->Prop
noncomputable def dOp (f:D2) (ta tb:DT):DT:=fun ρ Q=>ta ρ fun x ρ1=>tb ρ1 fun y ρ2=>f x y fun d=>Q d ρ2
structure Op2 (r:R2) (f:D2):Prop where
 mn:∀ x y Q Q',(∀ d,Q d->Q' d)->f x y Q->f x y Q'
 ok:∀ (O:List Addr) (H:Hp) (u v:V) (x y:PyData) (Q:VK),(∀ p,H p=none->p ∉ O)->DV (hide O H) u x->DV (hide O H) v y->f x y (fun d=>∀ w H',Same H H'->DV (hide O H') w d->Q w H')->r u v H Q
theorem rd2 {r:R2} {f:D2} {ta tb:DT} (o:Op2 r f) (ha:Mn ta) (hb:Mn tb) {K:PySem.W.Frag}:∀ σ H Q,rdE K F (dOp f ta tb) σ H Q->tOp r (rdE K F ta) (rdE K F tb) σ H Q:=fun σ H Q ⟨ρ,O,st,q⟩=>by
 refine ⟨ρ,O,st,ha _ _ _ (fun x ρ1 q1 v1 H1 O1 st1 s1 d1=>?_) q⟩
 refine ⟨ρ1,O1,st1,hb _ _ _ (fun y ρ2 q2 v2 H2 O2 st2 s2 d2=>?_) q1⟩
 refine o.ok O2 H2 v1 v2 x y Q st2.nofree (DV.mono s2.hid d1) d2 (o.mn _ _ _ _ (fun d q3 w H3 s3 d3=>?_) q2)
 exact q3 w H3 O2 (st2.grow s3) (s1.trans (s2.trans (.same s3))) d3
theorem mn2 {r:R2} {f:D2} (o:Op2 r f) (ha:Mn ta) (hb:Mn tb):Mn (dOp f ta tb):=fun _ _ _ k q=>ha _ _ _ (fun _ _ q1=>hb _ _ _ (fun _ _ q2=>o.mn _ _ _ _ (fun _ q3=>k _ _ q3) q2) q1) q
theorem de_op {op:Operator} {r:R2} {f:D2} (ho:OpR X (binaryOp op) r) (o:Op2 r f) (ha:DE X F a ta) (hb:DE X F b tb):DE X F (.BinOp a op b pos) (dOp f ta tb):=
 ⟨mn2 o ha.mn hb.mn,(pe_op ho ha.pe hb.pe).imp (rd2 o ha.mn hb.mn)⟩
theorem de_cmp {op:CmpOp} {r:R2} {f:D2} (ho:OpR X (compareOp op) r) (o:Op2 r f) (ha:DE X F a ta) (hb:DE X F b tb) (hm:behindInMarks op b=false):DE X F (.Compare a [op] [b] pos) (dOp f ta tb):=
 ⟨mn2 o ha.mn hb.mn,(pe_cmpR ho ha.pe hb.pe hm).imp (rd2 o ha.mn hb.mn)⟩
theorem de_ix {r:R2} {f:D2} (hr:IxR X r) (o:Op2 r f) (ha:DE X F a ta) (hb:DE X F b tb) (hs:PlainIx b):DE X F (.Subscript a b pos) (dOp f ta tb):=
 ⟨mn2 o ha.mn hb.mn,(pe_ix hr ha.pe hb.pe hs).imp (rd2 o ha.mn hb.mn)⟩
noncomputable def fI (C:Int->Int->Prop) (g:Int->Int->PyData):D2:=fun x y Q=>∃ i j,x=.int i/\y=.int j/\C i j/\Q (g i j)
theorem o_int {C:Int->Int->Prop} {g:Int->Int->V} {g':Int->Int->PyData} (hg:∀ i j H,DV H (g i j) (g' i j)):Op2 (rI C g) (fI C g') where
 mn:=fun _ _ _ _ k ⟨i,j,e1,e2,c,q⟩=>⟨i,j,e1,e2,c,k _ q⟩
 ok:=fun O H u v x y Q hO h1 h2 ⟨i,j,e1,e2,c,q⟩=>by
  subst e1 e2
  exact ⟨i,j,h1.int_inv,h2.int_inv,c,q _ H (fun _ _ h=>h) (hg i j _)⟩
theorem o_int0 {g:Int->Int->V} {g':Int->Int->PyData} (hg:∀ i j H,DV H (g i j) (g' i j)):Op2 (rI0 g) (fI (fun _ _=>True) g') where
 mn:=fun _ _ _ _ k ⟨i,j,e1,e2,c,q⟩=>⟨i,j,e1,e2,c,k _ q⟩
 ok:=fun O H u v x y Q hO h1 h2 ⟨i,j,e1,e2,_,q⟩=>by
  subst e1 e2
  exact ⟨i,j,h1.int_inv,h2.int_inv,q _ H (fun _ _ h=>h) (hg i j _)⟩
noncomputable def fEq (neg:Bool):D2:=fun x y Q=>SeqAt.shaped x=true/\SeqAt.shaped y=true/\Q (.bool (PyData.eqv x y != neg))
theorem o_eq {neg:Bool}:Op2 (rEqD neg) (fEq neg) where
 mn:=fun _ _ _ _ k ⟨e1,e2,q⟩=>⟨e1,e2,k _ q⟩
 ok:=fun O H u v x y Q hO h1 h2 ⟨e1,e2,q⟩=>⟨x,y,DV.mono hide_le h1,DV.mono hide_le h2,e1,e2,q _ H (fun _ _ h=>h) (.bl _)⟩
@[simp] noncomputable def isNone:PyData->Bool
 | .none=>true
 | _=>false
noncomputable def fIs:D2:=fun x y Q=>y=.none/\Q (.bool (isNone x))
noncomputable def fIsNot:D2:=fun x y Q=>y=.none/\Q (.bool (!isNone x))
theorem dv_non {H:Hp} {v:V} {d:PyData} (h:DV H v d):decide (v=.non)=isNone d:=by
 cases h <;> first | rfl | (exact decide_eq_false (fun z=>by cases z))
theorem o_is:Op2 (fun x y H Q=>y=.non/\Q (.bl (decide (x=.non))) H) fIs where
 mn:=fun _ _ _ _ k ⟨e,q⟩=>⟨e,k _ q⟩
 ok:=fun O H u v x y Q hO h1 h2 ⟨e,q⟩=>by
  subst e
  exact ⟨h2.non_inv,by rw [dv_non h1]; exact q _ H (fun _ _ h=>h) (.bl _)⟩
theorem o_isnot:Op2 (fun x y H Q=>y=.non/\Q (.bl (!decide (x=.non))) H) fIsNot where
 mn:=fun _ _ _ _ k ⟨e,q⟩=>⟨e,k _ q⟩
 ok:=fun O H u v x y Q hO h1 h2 ⟨e,q⟩=>by
  subst e
  exact ⟨h2.non_inv,by rw [dv_non h1]; exact q _ H (fun _ _ h=>h) (.bl _)⟩
noncomputable def fIxT:D2:=fun x y Q=>∃ ds i d,x=.tuple ds/\y=.int i/\atI ds i=some d/\Q d
noncomputable def fIxL:D2:=fun x y Q=>∃ ds i d,x=.list ds/\y=.int i/\atI ds i=some d/\Q d
theorem atI_dv {H:Hp} {vs:List V} {ds:List PyData} {i:Int} {d:PyData} (h:DVs H vs ds) (e:atI ds i=some d):∃ v,atI vs i=some v/\DV H v d:=by
 unfold atI at e ⊢
 rw [h.length]
 cases q:ixN ds.length i with
 | none=>rw [q] at e; cases e
 | some j=>
  rw [q] at e
  exact h.get e
theorem o_ixT {K:PySem.W.Frag}:Op2 (rIxT K) fIxT where
 mn:=fun _ _ _ _ k ⟨ds,i,d,e1,e2,e3,q⟩=>⟨ds,i,d,e1,e2,e3,k _ q⟩
 ok:=fun O H u v x y Q hO h1 h2 ⟨ds,i,d,e1,e2,e3,q⟩=>by
  subst e1 e2
  obtain ⟨a,xs,rfl,ha,hd⟩:=h1.tup_inv
  obtain ⟨w,ew,hw⟩:=atI_dv hd e3
  exact ⟨a,xs,i,w,rfl,h2.int_inv,.inl (of_hideR ha).1,ew,q w H (fun _ _ h=>h) hw⟩
theorem o_ixL {K:PySem.W.Frag}:Op2 (rIxL K) fIxL where
 mn:=fun _ _ _ _ k ⟨ds,i,d,e1,e2,e3,q⟩=>⟨ds,i,d,e1,e2,e3,k _ q⟩
 ok:=fun O H u v x y Q hO h1 h2 ⟨ds,i,d,e1,e2,e3,q⟩=>by
  subst e1 e2
  obtain ⟨a,xs,rfl,ha,hd⟩:=h1.lst_inv
  obtain ⟨w,ew,hw⟩:=atI_dv hd e3
  exact ⟨a,xs,i,w,rfl,h2.int_inv,.of (of_hide ha).1,ew,q w H (fun _ _ h=>h) hw⟩
theorem dv_new_lst {O:List Addr} {H:Hp} {p:Addr} {xs:List V} {ds:List PyData} (hp:H p=none) (hO:p ∉ O) (h:DVs (hide O H) xs ds):DV (hide O (upd H p (.lst xs))) (.ref p) (.list ds):=
 .lst (hide_of upd_same hO) (DVs.mono (hide_same (same_upd hp)) h)
theorem dv_new_tup {O:List Addr} {H:Hp} {p:Addr} {xs:List V} {ds:List PyData} (hp:H p=none) (hO:p ∉ O) (h:DVs (hide O H) xs ds):DV (hide O (upd H p (.tup xs))) (.ref p) (.tuple ds):=
 .tup (.inl (hide_of upd_same hO)) (DVs.mono (hide_same (same_upd hp)) h)
noncomputable def fCatL:D2:=fun x y Q=>∃ ds es,x=.list ds/\y=.list es/\ds.length + es.length<=sizeLine/\Q (.list (ds ++ es))
theorem o_catL:Op2 rCat fCatL where
 mn:=fun _ _ _ _ k ⟨ds,es,e1,e2,e3,q⟩=>⟨ds,es,e1,e2,e3,k _ q⟩
 ok:=fun O H u v x y Q hO h1 h2 ⟨ds,es,e1,e2,e3,q⟩=>by
  subst e1 e2
  obtain ⟨a,xs,rfl,ha,hd⟩:=h1.lst_inv
  obtain ⟨b,ys,rfl,hb,he⟩:=h2.lst_inv
  refine ⟨a,b,xs,ys,rfl,rfl,(of_hide ha).1,(of_hide hb).1,by rw [hd.length,he.length]; exact e3,fun p hp=>q _ _ (same_upd hp) (dv_new_lst hp (hO p hp) (hd.append he))⟩
end
theorem ofT {A B:Prop} (h:if true=true then A else B):A:=by rw [if_pos rfl] at h; exact h
theorem ofF {A B:Prop} (h:if false=true then A else B):B:=by rw [if_neg Bool.false_ne_true] at h; exact h
noncomputable abbrev DTA:=DEnv->(List PyData->DEnv->Prop)->Prop
noncomputable def MnA (t:DTA):Prop:=∀ ρ Q Q',(∀ d ρ',Q d ρ'->Q' d ρ')->t ρ Q->t ρ Q'
noncomputable def rdA (K:PySem.W.Frag) (F:Fx) (t:DTA):TA:=fun σ H Q=>∃ ρ O,DSt K F H σ ρ O/\t ρ fun ds ρ'=>∀ vs H' O',DSt K F H' σ ρ' O'->Stp O H O' H'->DVs (hide O' H') vs ds->Q vs H'
structure DA (X:Cx) (F:Fx) (es:List Expr) (t:DTA):Prop where
 mn:MnA t
 pa:PA X es (rdA X.K F t)
theorem _root_.L2.PA.imp {X:Cx} {e:List Expr} {t t':TA} (h:PA X e t) (k:∀ σ H Q,t' σ H Q->t σ H Q):PA X e t':=fun pos pins s σ H Q I q=>h pos pins s σ H Q I (k σ H Q q)
section
variable {X:Cx} {F:Fx} {a b e c:Expr} {es:List Expr} {ta tb tc:DT} {tA:DTA} {pos:Pos}
noncomputable def dNil:DTA:=fun ρ Q=>Q [] ρ
noncomputable def dCons (ta:DT) (tr:DTA):DTA:=fun ρ Q=>ta ρ fun d ρ1=>tr ρ1 fun ds ρ2=>Q (d :: ds) ρ2
theorem da_nil:DA X F [] dNil:=⟨fun _ _ _ k q=>k _ _ q,pa_nil.imp fun σ H Q ⟨ρ,O,st,q⟩=>q [] H O st .refl .nil⟩
theorem da_cons (ha:DE X F e ta) (hr:DA X F es tA) (hs:starEach (e :: es) X.env=(false,eval e X.env) :: starEach es X.env:=by rfl):DA X F (e :: es) (dCons ta tA):=
 ⟨fun _ _ _ k q=>ha.mn _ _ _ (fun _ _ q1=>hr.mn _ _ _ (fun _ _ q2=>k _ _ q2) q1) q,(pa_cons ha.pe hr.pa hs).imp fun σ H Q ⟨ρ,O,st,q⟩=>
  ⟨ρ,O,st,ha.mn _ _ _ (fun d ρ1 q1 v H1 O1 st1 s1 d1=>⟨ρ1,O1,st1,hr.mn _ _ _ (fun ds ρ2 q2 vs H2 O2 st2 s2 d2=>q2 (v :: vs) H2 O2 st2 (s1.trans s2) (.cons (DV.mono s2.hid d1) d2)) q1⟩) q⟩⟩
noncomputable def dTup (t:DTA):DT:=fun ρ Q=>t ρ fun ds ρ'=>ds.length<=sizeLine/\Q (.tuple ds) ρ'
noncomputable def dLst (t:DTA):DT:=fun ρ Q=>t ρ fun ds ρ'=>ds.length<=sizeLine/\Q (.list ds) ρ'
theorem de_tup {x1} (h:DA X F es tA):DE X F (.Tuple es x1 pos) (dTup tA):=
 ⟨fun _ _ _ k q=>h.mn _ _ _ (fun _ _ q1=>⟨q1.1,k _ _ q1.2⟩) q,(pe_tup h.pa).imp fun σ H Q ⟨ρ,O,st,q⟩=>
  ⟨ρ,O,st,h.mn _ _ _ (fun ds ρ1 q1 vs H1 O1 st1 s1 d1=>⟨by rw [d1.length]; exact q1.1,fun p hp=>q1.2 _ _ O1 (st1.grow (same_upd hp)) (s1.trans (.same (same_upd hp))) (dv_new_tup hp (st1.nofree p hp) d1)⟩) q⟩⟩
theorem de_lst (h:DA X F es tA):DE X F (.List es pos) (dLst tA):=
 ⟨fun _ _ _ k q=>h.mn _ _ _ (fun _ _ q1=>⟨q1.1,k _ _ q1.2⟩) q,(pe_lst h.pa).imp fun σ H Q ⟨ρ,O,st,q⟩=>
  ⟨ρ,O,st,h.mn _ _ _ (fun ds ρ1 q1 vs H1 O1 st1 s1 d1=>⟨by rw [d1.length]; exact q1.1,fun p hp=>q1.2 _ _ O1 (st1.grow (same_upd hp)) (s1.trans (.same (same_upd hp))) (dv_new_lst hp (st1.nofree p hp) d1)⟩) q⟩⟩
noncomputable def dNot (ta:DT):DT:=fun ρ Q=>ta ρ fun d ρ'=>∃ b,d=.bool b/\Q (.bool (!b)) ρ'
theorem de_not (ha:DE X F a ta):DE X F (.UnaryOp .Not a pos) (dNot ta):=
 ⟨fun _ _ _ k q=>ha.mn _ _ _ (fun _ _ ⟨i,e,q⟩=>⟨i,e,k _ _ q⟩) q,(pe_not ha.pe).imp fun σ H Q ⟨ρ,O,st,q⟩=>
  ⟨ρ,O,st,ha.mn _ _ _ (fun d ρ1 ⟨i,e,q1⟩ v H1 O1 st1 s1 d1=>by subst e; exact ⟨i,d1.bl_inv,q1 _ H1 O1 st1 s1 (.bl _)⟩) q⟩⟩
noncomputable def dAnd (ta tb:DT):DT:=fun ρ Q=>ta ρ fun d ρ1=>∃ b,d=.bool b/\if b=true then tb ρ1 Q else Q (.bool false) ρ1
theorem de_one {op} (h:DE X F a ta):DE X F (.BoolOp op [a] pos) ta:=⟨h.mn,pe_one h.pe⟩
theorem de_and {rest:List Expr} (ha:DE X F a ta) (hb:DE X F (.BoolOp .And (b :: rest) pos) tb):DE X F (.BoolOp .And (a :: b :: rest) pos) (dAnd ta tb):=
 ⟨fun _ _ _ k q=>ha.mn _ _ _ (fun _ _ ⟨i,e,q⟩=>⟨i,e,by cases i <;> first | exact k _ _ q | exact hb.mn _ _ _ k q⟩) q,(pe_and ha.pe hb.pe).imp fun σ H Q ⟨ρ,O,st,q⟩=>
  ⟨ρ,O,st,ha.mn _ _ _ (fun d ρ1 ⟨i,e,q1⟩ v H1 O1 st1 s1 d1=>by
   subst e
   refine ⟨i,d1.bl_inv,?_⟩
   cases i with
   | true=>exact iteT ⟨ρ1,O1,st1,hb.mn _ _ _ (fun d ρ2 q2 w H2 O2 st2 s2 d2=>q2 w H2 O2 st2 (s1.trans s2) d2) (ofT q1)⟩
   | false=>exact iteF (ofF q1 _ H1 O1 st1 s1 (.bl _))) q⟩⟩
noncomputable def dChain (p p':Int->Int->Bool) (ta tb tc:DT):DT:=fun ρ Q=>ta ρ fun x ρ1=>tb ρ1 fun y ρ2=>∃ i j,x=.int i/\y=.int j/\if p i j=true then tc ρ2 (fun z ρ3=>∃ k,z=.int k/\Q (.bool (p' j k)) ρ3) else Q (.bool false) ρ2
theorem de_chain {op op':CmpOp} {p p':Int->Int->Bool} (ho:OpR X (compareOp op) (rI0 fun i j=>.bl (p i j))) (ho':OpR X (compareOp op') (rI0 fun i j=>.bl (p' i j))) (ha:DE X F a ta) (hb:DE X F b tb) (hc:DE X F c tc)
  (hm:lastMarks [op,op'] [b,c]=false:=by with_unfolding_all rfl):DE X F (.Compare a [op,op'] [b,c] pos) (dChain p p' ta tb tc):=
 ⟨fun _ _ _ k q=>ha.mn _ _ _ (fun _ _ q1=>hb.mn _ _ _ (fun _ _ ⟨i,j,e1,e2,q2⟩=>⟨i,j,e1,e2,by
   by_cases h:p i j=true
   ·rw [if_pos h] at q2 ⊢; exact hc.mn _ _ _ (fun _ _ ⟨l,e,q3⟩=>⟨l,e,k _ _ q3⟩) q2
   ·rw [if_neg h] at q2 ⊢; exact k _ _ q2⟩) q1) q,
  (pe_chain ho ho' ha.pe hb.pe hc.pe hm).imp fun σ H Q ⟨ρ,O,st,q⟩=>
  ⟨ρ,O,st,ha.mn _ _ _ (fun x ρ1 q1 v H1 O1 st1 s1 d1=>⟨ρ1,O1,st1,hb.mn _ _ _ (fun y ρ2 ⟨i,j,e1,e2,q2⟩ w H2 O2 st2 s2 d2=>by
   subst e1 e2
   refine ⟨i,j,(DV.mono s2.hid d1).int_inv,d2.int_inv,p i j,rfl,?_⟩
   by_cases h:p i j=true
   ·rw [if_pos h] at q2 ⊢
    exact ⟨ρ2,O2,st2,hc.mn _ _ _ (fun z ρ3 ⟨l,e,q3⟩ u H3 O3 st3 s3 d3=>by subst e; exact ⟨j,l,(DV.mono s3.hid d2).int_inv,d3.int_inv,q3 _ H3 O3 st3 (s1.trans (s2.trans s3)) (.bl _)⟩) q2⟩
   ·rw [if_neg h] at q2 ⊢
    exact q2 _ H2 O2 st2 (s1.trans s2) (.bl _)) q1⟩) q⟩⟩
end
noncomputable abbrev DTT:=DEnv->(Bool->DEnv->Prop)->Prop
noncomputable def MnT (t:DTT):Prop:=∀ ρ Q Q',(∀ d ρ',Q d ρ'->Q' d ρ')->t ρ Q->t ρ Q'
noncomputable def rdT (K:PySem.W.Frag) (F:Fx) (t:DTT):TT:=fun σ H Q=>∃ ρ O,DSt K F H σ ρ O/\t ρ fun b ρ'=>∀ H' O',DSt K F H' σ ρ' O'->Stp O H O' H'->Q b H'
structure DB (X:Cx) (F:Fx) (e:Expr) (t:DTT):Prop where
 mn:MnT t
 pt:PT X e (rdT X.K F t)
section
variable {X:Cx} {F:Fx} {a b e c:Expr} {ta tb tc:DT} {tA tB:DTT} {pos:Pos}
noncomputable def dTst (ta:DT):DTT:=fun ρ Q=>ta ρ fun d ρ'=>∃ b,d=.bool b/\Q b ρ'
theorem mn_tst (h:Mn ta):MnT (dTst ta):=fun _ _ _ k q=>h _ _ _ (fun _ _ ⟨b,e,q1⟩=>⟨b,e,k _ _ q1⟩) q
theorem rd_tst {K:PySem.W.Frag} (h:Mn ta):∀ σ H Q,rdT K F (dTst ta) σ H Q->rdE K F ta σ H fun x H'=>∃ k,x=.bl k/\Q k H':=fun σ H Q ⟨ρ,O,st,q⟩=>
 ⟨ρ,O,st,h _ _ _ (fun d ρ1 ⟨b,e,q1⟩ v H1 O1 st1 s1 d1=>by subst e; exact ⟨b,d1.bl_inv,q1 H1 O1 st1 s1⟩) q⟩
theorem db_val (h:DE X F e ta) (he:∀ whole,isTrue e X.env whole=(do let v <-whole; standAt e.pos; holding [v] (truthy v)):=by intro _; rfl):DB X F e (dTst ta):=⟨mn_tst h.mn,(pt_val h.pe he).imp (rd_tst h.mn)⟩
theorem db_cmp {op:CmpOp} {r:R2} {f:D2} (ho:OpR X (compareOp op) r) (o:Op2 r f) (ha:DE X F a ta) (hb:DE X F b tb) (hm:behindInMarks op b=false):DB X F (.Compare a [op] [b] pos) (dTst (dOp f ta tb)):=
 ⟨mn_tst (mn2 o ha.mn hb.mn),(pt_cmpR ho ha.pe hb.pe hm).imp fun σ H Q q=>rd2 o ha.mn hb.mn σ H _ (rd_tst (mn2 o ha.mn hb.mn) σ H Q q)⟩
noncomputable def bNot (t:DTT):DTT:=fun ρ Q=>t ρ fun b ρ'=>Q (!b) ρ'
theorem db_not (h:DB X F a tA):DB X F (.UnaryOp .Not a pos) (bNot tA):=⟨fun _ _ _ k q=>h.mn _ _ _ (fun _ _ q=>k _ _ q) q,(pt_not h.pt).imp fun σ H Q ⟨ρ,O,st,q⟩=>⟨ρ,O,st,h.mn _ _ _ (fun b ρ1 q1 H1 O1 st1 s1=>q1 H1 O1 st1 s1) q⟩⟩
structure DW (X:Cx) (F:Fx) (e:Expr) (t:DTT):Prop where
 mn:MnT t
 pw:PW X e (rdT X.K F t)
theorem _root_.L2.PW.imp {X:Cx} {e:Expr} {t t':TT} (h:PW X e t) (k:∀ σ H Q,t' σ H Q->t σ H Q):PW X e t':=fun wh pins s σ H Q I q=>h wh pins s σ H Q I (k σ H Q q)
theorem DW.db {t:DTT} (h:DW X F e t):DB X F e t:=⟨h.mn,h.pw.pt⟩
noncomputable def bAnd (t u:DTT):DTT:=fun ρ Q=>t ρ fun b ρ1=>if b=true then u ρ1 Q else Q false ρ1
noncomputable def bOr (t u:DTT):DTT:=fun ρ Q=>t ρ fun b ρ1=>if b=true then Q true ρ1 else u ρ1 Q
theorem dw_and1 (h:DB X F a tA):DW X F (.BoolOp .And [a] pos) tA:=⟨h.mn,pw_and1 h.pt⟩
theorem dw_or1 (h:DB X F a tA):DW X F (.BoolOp .Or [a] pos) tA:=⟨h.mn,pw_or1 h.pt⟩
theorem dw_and {rest:List Expr} (ha:DB X F a tA) (hb:DW X F (.BoolOp .And (b :: rest) pos) tB):DW X F (.BoolOp .And (a :: b :: rest) pos) (bAnd tA tB):=
 ⟨fun _ _ _ k q=>ha.mn _ _ _ (fun b _ q=>by cases b <;> first | exact k _ _ q | exact hb.mn _ _ _ k q) q,(pw_and ha.pt hb.pw).imp fun σ H Q ⟨ρ,O,st,q⟩=>
  ⟨ρ,O,st,ha.mn _ _ _ (fun b ρ1 q1 H1 O1 st1 s1=>by
   cases b with
   | true=>exact iteT ⟨ρ1,O1,st1,hb.mn _ _ _ (fun b ρ2 q2 H2 O2 st2 s2=>q2 H2 O2 st2 (s1.trans s2)) (ofT q1)⟩
   | false=>exact iteF (ofF q1 H1 O1 st1 s1)) q⟩⟩
theorem dw_or {rest:List Expr} (ha:DB X F a tA) (hb:DW X F (.BoolOp .Or (b :: rest) pos) tB):DW X F (.BoolOp .Or (a :: b :: rest) pos) (bOr tA tB):=
 ⟨fun _ _ _ k q=>ha.mn _ _ _ (fun b _ q=>by cases b <;> first | exact k _ _ q | exact hb.mn _ _ _ k q) q,(pw_or ha.pt hb.pw).imp fun σ H Q ⟨ρ,O,st,q⟩=>
  ⟨ρ,O,st,ha.mn _ _ _ (fun b ρ1 q1 H1 O1 st1 s1=>by
   cases b with
   | false=>exact iteF ⟨ρ1,O1,st1,hb.mn _ _ _ (fun b ρ2 q2 H2 O2 st2 s2=>q2 H2 O2 st2 (s1.trans s2)) (ofF q1)⟩
   | true=>exact iteT (ofT q1 H1 O1 st1 s1)) q⟩⟩
end
noncomputable abbrev DN:=List PyData->(PyData->Prop)->Prop
structure OpN (r:List V->Hp->VK->Prop) (f:DN):Prop where
 mn:∀ xs Q Q',(∀ d,Q d->Q' d)->f xs Q->f xs Q'
 ok:∀ (O:List Addr) (H:Hp) (vs:List V) (xs:List PyData) (Q:VK),(∀ p,H p=none->p ∉ O)->DVs (hide O H) vs xs->f xs (fun d=>∀ w H',Same H H'->DV (hide O H') w d->Q w H')->r vs H Q
noncomputable def dCB (f:DN) (t:DTA):DT:=fun ρ Q=>t ρ fun ds ρ'=>f ds fun d=>Q d ρ'
section
variable {X:Cx} {F:Fx} {e:Expr} {es:List Expr} {tA:DTA} {pos p:Pos} {x:Str} {id T:String} {r:List V->Hp->VK->Prop} {f:DN}
theorem rdN {K:PySem.W.Frag} (o:OpN r f) (h:MnA tA):∀ σ H Q,rdE K F (dCB f tA) σ H Q->tCB r (rdA K F tA) σ H Q:=fun σ H Q ⟨ρ,O,st,q⟩=>
 ⟨ρ,O,st,h _ _ _ (fun ds ρ1 q1 vs H1 O1 st1 s1 d1=>o.ok O1 H1 vs ds Q st1.nofree d1 (o.mn _ _ _ (fun d q2 w H2 s2 d2=>q2 w H2 O1 (st1.grow s2) (s1.trans (.same s2)) d2) q1)) q⟩
theorem mnN (o:OpN r f) (h:MnA tA):Mn (dCB f tA):=fun _ _ _ k q=>h _ _ _ (fun _ _ q1=>o.mn _ _ _ (fun _ q2=>k _ _ q2) q1) q
theorem de_callB (hc:CallR X (.builtin id) r) (o:OpN r f) (hg:Gl X x) (hm:X.mg x=none) (hv:bootBuiltins x=some (.builtin id)) (ha:DA X F (e :: es) tA) (hn:x ≠ "__name__":=by decide) (hdb:(x == ("__debug__":Str))=false:=by decide)
  (he:starEach (e :: es) X.env=(false,eval e X.env) :: starEach es X.env:=by rfl) (hpl:(backTo pos (starEach es X.env)).any (·.1)=false:=by rfl):DE X F (.Call (.Name x p) (e :: es) [] pos) (dCB f tA):=
 ⟨mnN o ha.mn,(pe_callB hc hg hm hv ha.pa hn hdb he hpl).imp (rdN o ha.mn)⟩
theorem de_callTy (hc:CallR X (.type T) r) (o:OpN r f) (hg:Gl X x) (hm:X.mg x=none) (hv:bootBuiltins x=some (.type T)) (ha:DA X F (e :: es) tA) (hn:x ≠ "__name__":=by decide) (hdb:(x == ("__debug__":Str))=false:=by decide)
  (he:starEach (e :: es) X.env=(false,eval e X.env) :: starEach es X.env:=by rfl) (hpl:(backTo pos (starEach es X.env)).any (·.1)=false:=by rfl):DE X F (.Call (.Name x p) (e :: es) [] pos) (dCB f tA):=
 ⟨mnN o ha.mn,(pe_callTy hc hg hm hv ha.pa hn hdb he hpl).imp (rdN o ha.mn)⟩
end
noncomputable def dIsI (n:String) (ta:DT):DT:=fun ρ Q=>ta ρ fun d ρ'=>∃ b,(∀ K:PySem.W.Frag,PySem.W.kitOne K (.type (tyOfD d)) (.type n)=some b)/\Q (.bool b) ρ'
section
variable {X:Cx} {F:Fx} {e:Expr} {ta:DT} {pos p p2:Pos} {T:String} {x:Str}
theorem de_isinst (hg:Gl X "isinstance") (hm:X.mg "isinstance" = none) (h:DE X F e ta) (ht:PE X (.Name x p2) (tC (.ty T)))
  (he:starEach [e,.Name x p2] X.env=(false,eval e X.env) :: starEach [.Name x p2] X.env:=by rfl) (he2:starEach [.Name x p2] X.env=(false,eval (.Name x p2) X.env) :: starEach [] X.env:=by rfl) (hpl:(backTo pos (starEach [.Name x p2] X.env)).any (·.1)=false:=by rfl) :
  DE X F (.Call (.Name "isinstance" p) [e,.Name x p2] [] pos) (dIsI T ta):=
 ⟨fun _ _ _ k q=>h.mn _ _ _ (fun _ _ ⟨b,e,q⟩=>⟨b,e,k _ _ q⟩) q,
  (pe_callB call_isinst hg hm (show bootBuiltins "isinstance" = some (.builtin "isinstance") by decide +kernel) (pa_cons h.pe (pa_cons ht pa_nil he2) he) (by decide) (by decide) he hpl).imp fun σ H Q ⟨ρ,O,st,q⟩=>
  ⟨ρ,O,st,h.mn _ _ _ (fun d ρ1 ⟨b,e,q1⟩ v H1 O1 st1 s1 d1=>⟨v,d,T,b,rfl,DV.mono hide_le d1,e,q1 _ H1 O1 st1 s1 (.bl b)⟩) q⟩⟩
end
end L2.L3
namespace L2.L3
open PySem PySem.Spec PyProof.Rows
structure ExS (g:Heap) (H:Hp) (h:Heap) (a:Addr) (C:Value) (fl:Option Value):Prop where
 gh:∀ b o,g.get? b=some o->∃ o',h.get? b=some o'
 lo:g.get? a=none
 un:H a=none
 ob:∃ oe vs a0,h.get? a=some oe/\oe.cls=C/\oe.data=.fields vs/\vs[0]? = some a0/\
  ((fl=none/\vs[1]? = some .none)\/∃ T oT ts f,fl=some f/\vs[1]? = some (.ref T)/\g.get? T=none/\H T=none/\T ≠ a/\h.get? T=some oT/\oT.data=.fields ts/\ts[3]? = some f)
structure Ch (g:Heap) (H:Hp) (fs:List Addr) (h h':Heap):Prop where
 keep:∀ b o,h.get? b=some o->((∃ o',g.get? b=some o')\/H b ≠ none)->b ∉ fs->h'.get? b=some o
 slot:∀ b o,b ∈ fs->h.get? b=some o->∃ sl,h'.get? b=some { o with slots:=sl }
 there:∀ b o,h.get? b=some o->∃ o',h'.get? b=some o'
theorem Ch.refl {g:Heap} {H:Hp} {fs:List Addr} {h:Heap}:Ch g H fs h h:=⟨fun _ _ e _ _=>e,fun b o _ e=>⟨o.slots,e⟩,fun b o e=>⟨o,e⟩⟩
theorem Ch.trans {g:Heap} {H:Hp} {fs:List Addr} {h h1 h2:Heap} (x:Ch g H fs h h1) (y:Ch g H fs h1 h2):Ch g H fs h h2 where
 keep:=fun b o e q n=>y.keep b o (x.keep b o e q n) q n
 slot:=fun b o m e=>let ⟨_,e1⟩:=x.slot b o m e; let ⟨sl,e2⟩:=y.slot b _ m e1; ⟨sl,e2⟩
 there:=fun b o e=>let ⟨o1,e1⟩:=x.there b o e; y.there b o1 e1
theorem HOk.some_of {P:Program} {w:World} {H:Hp} {h:Heap} (k:HOk P w H h) {b:Addr} (e:h.get? b=none):H b=none:=by
 cases q:H b with
 | none=>rfl
 | some u=>
  exfalso
  have x:=k b u q
  have:∀ (u:HO),ObjOk P w H h b u->∃ o,h.get? b=some o:=by
   intro u
   induction u with
   | lst xs=>exact fun ⟨_,_,_,_,e⟩=>⟨_,e⟩
   | tup xs=>exact fun ⟨_,_,_,o,e,_⟩=>⟨_,e⟩
   | dK kvs=>exact fun ⟨_,_,_,_,o,_,_,e,_⟩=>⟨_,e⟩
   | dT kvs=>exact fun ⟨_,_,_,_,o,_,_,e,_⟩=>⟨_,e⟩
   | set S n=>exact fun ⟨o,_,_,_,e,_⟩=>⟨_,e⟩
   | ins C dx fs=>exact fun ⟨_,_,_,e,_⟩=>⟨_,e⟩
   | own y=>exact fun ⟨_,e⟩=>⟨_,e⟩
   | xd fs=>exact fun ⟨_,⟨_,_,_,e,_⟩,_⟩=>⟨_,e⟩
   | rng lo hi=>exact fun ⟨_,_,_,e⟩=>⟨_,e⟩
   | frz ob u _=>exact fun ⟨e,_⟩=>⟨_,e⟩
   | tbl ps=>exact fun e=>⟨_,e⟩
   | met f y=>exact fun e=>⟨_,e⟩
   | ext φ=>exact fun ⟨_,⟨_,e⟩,_⟩=>⟨_,e⟩
  obtain ⟨o,eo⟩:=this u x
  rw [e] at eo; cases eo
theorem frames_rebase {h base base':Heap}:∀ {l:List Env},(∀ b ∈ frs l,base'.get? b=none)->h.FunFrames base l->h.FunFrames base' l
 | [],_,_=>trivial
 | env :: r,hb,⟨hk,⟨L,o,hf,_,ho,hd⟩,hr⟩=>by
  have e:frs (env :: r)=L :: frs r:=by unfold frs; rw [List.filterMap_cons,hf]
  exact ⟨hk,⟨L,o,hf,hb L (by rw [e]; exact List.mem_cons_self),ho,hd⟩,frames_rebase (fun b h=>hb b (by rw [e]; exact List.mem_cons_of_mem _ h)) hr⟩
section
variable {P:Program} {w:World} {M:Model} {A:Around} {E:Value->Shared->Prop} {s:Shared} {g base:Heap} {H:Hp} {env:Env} {outer:List Env} {L a:Addr} {C fv:Value} {fl:Option Value}
theorem entry_any {oe:Obj} {vs:Array Value} {head a0:Value} {hadNext:Bool} {Q:Unit->Shared->Prop} (hfr:A.frames=some (env :: outer)) (hl:s.heap.FunFrames base (env :: outer)) (hf:env.frame=some L) (hk:∀ b,s.heap.get? b=none->H b=none)
  (gh:∀ b o,g.get? b=some o->∃ o',s.heap.get? b=some o') (lo:g.get? a=none) (un:H a=none) (he:s.heap.get? a=some oe) (hc:oe.cls=C) (hd:oe.data=.fields vs) (hsz:1 < vs.size) (h0:vs[0]? = some a0)
  (h:∀ h',Ch g H (frs (env :: outer)) s.heap h'->ExS g H h' a C (some (rawInt L))->Q () { s with heap:=h' }) :
  wpAny M A (do let x <-frameOf env; let pl <-entryPlaceOf L hadNext; let b <-EntryCells.newEntry head x .none (rawInt L) .none pl; setField (.ref a) 1 b) Q E s:=by
 refine wpAny_entryW (base:=PySem.W.hideAll s.heap (a :: frs (env :: outer))) hfr (frames_rebase (fun b hb=>PySem.W.hideAll_none _ (List.mem_cons_of_mem _ hb)) hl) hf he (fun b o e=>PySem.W.of_hideAll _ e) (PySem.W.hideAll_none _ List.mem_cons_self) hd hsz h0 fun h' ⟨k1,k2,k3,k4⟩=>?_
 obtain ⟨oe',vs',T,oT,ts,e1,⟨e2,e20⟩,e3,e4,e5,e6,e7,e8,e9⟩:=k3
 have sl:∀ b o,b ∈ frs (env :: outer)->s.heap.get? b=some o->∃ sl,h'.get? b=some { o with slots:=sl }:=fun b o hb e=>by
  obtain ⟨_,o',e',nf⟩:=hl.mem hb
  rw [e] at e'; cases e'
  exact k4 b o e nf
 have kp:∀ b o,s.heap.get? b=some o->b ≠ a->b ∉ frs (env :: outer)->h'.get? b=some o:=fun b o e n1 n2=>k1 b o (PySem.W.hideAll_get _ e fun z=>(List.mem_cons.mp z).elim n1 n2)
 have hT:g.get? T=none/\H T=none:=by
  cases q:s.heap.get? T with
  | some o=>
   exfalso
   by_cases hfT:T ∈ frs (env :: outer)
   ·obtain ⟨_,o',e',nf⟩:=hl.mem hfT
    rw [q] at e'; cases e'
    obtain ⟨sl',e''⟩:=sl T o hfT q
    rw [e7] at e''; cases e''
    exact nf ts e8
   ·rw [PySem.W.hideAll_get _ q (fun z=>(List.mem_cons.mp z).elim e6 hfT)] at e5; cases e5
  | none=>
   refine ⟨?_,hk T q⟩
   cases q2:g.get? T with
   | none=>rfl
   | some o=>obtain ⟨o',e'⟩:=gh T o q2; rw [q] at e'; cases e'
 have ch:Ch g H (frs (env :: outer)) s.heap h':=⟨fun b o e q n=>kp b o e (fun z=>?_) n,fun b o hb e=>sl b o hb e,fun b o e=>?_⟩
 ·refine h h' ch ⟨fun b o e=>?_,lo,un,oe',vs',a0,e1,e2.trans hc,e3,e20,.inr ⟨T,oT,ts,_,rfl,e4,hT.1,hT.2,e6,e7,e8,e9⟩⟩
  obtain ⟨o',e'⟩:=gh b o e
  exact ch.there b o' e'
 ·subst z
  rcases q with ⟨o',q⟩ | q
  ·rw [lo] at q; cases q
  ·exact q un
 ·by_cases n2:b ∈ frs (env :: outer)
  ·obtain ⟨sl',e'⟩:=sl b o n2 e; exact ⟨_,e'⟩
  ·by_cases n1:b=a
   ·subst n1; exact ⟨_,e1⟩
   ·exact ⟨o,kp b o e n1 n2⟩
theorem frames_update {h:Heap} {l:List Env} {T:Addr} {oT:Obj} {ts:Array Value} {f:Obj->Obj} (hl:h.FunFrames base l) (hT:h.get? T=some oT) (hd:oT.data=.fields ts):(h.update T f).FunFrames base l:=
 hl.of_keeps fun b o hb nf=>⟨o,by rw [Heap.get?_update_other _ _ (fun z=>nf ts (by subst z; rw [hT] at hb; cases hb; exact hd))]; exact hb,rfl⟩
theorem ch_update {h:Heap} {fs:List Addr} {T:Addr} {oT:Obj} {ts:Array Value} {f:Array Value->Array Value} (hT:h.get? T=some oT) (hd:oT.data=.fields ts) (hg:g.get? T=none) (hH:H T=none) (hfs:T ∉ fs):Ch g H fs h (h.update T (Obj.mapFields f)):=by
 have self:(h.update T (Obj.mapFields f)).get? T=some (oT.mapFields f):=Heap.get?_update_self _ hT (Obj.isFreed_of_fields (Obj.data_mapFields hd f))
 refine ⟨fun b o e q n=>?_,fun b o m e=>⟨o.slots,?_⟩,fun b o e=>?_⟩
 ·rw [Heap.get?_update_other _ _ (fun z=>?_)]
  ·exact e
  ·subst z
   rcases q with ⟨o',q⟩ | q
   ·rw [hg] at q; cases q
   ·exact q hH
 ·rw [Heap.get?_update_other _ _ (fun z=>hfs (by rw [z]; exact m))]; exact e
 ·by_cases z:b=T
  ·subst z; exact ⟨_,self⟩
  ·exact ⟨o,by rw [Heap.get?_update_other _ _ (Ne.symm z)]; exact e⟩
theorem note_any {Q:Unit->Shared->Prop} (hfr:A.frames=some (env :: outer)) (hl:s.heap.FunFrames base (env :: outer)) (hf:env.frame=some L) (hk:∀ b,s.heap.get? b=none->H b=none) (x:ExS g H s.heap a C fl)
  (h:∀ h',Ch g H (frs (env :: outer)) s.heap h'->ExS g H h' a C (some (rawInt L))->Q () { s with heap:=h' }):wpAny M A (noteFrame (.ref a) env) Q E s:=by
 obtain ⟨gh,lo,un,oe,vs,a0,he,hc,hd,h0,hx⟩:=x
 unfold noteFrame
 simp only [hf]
 rcases hx with ⟨_,h1⟩ | ⟨T,oT,ts,f,_,h1,hgT,hHT,hTa,hT,hdT,h3⟩
 ·refine wpAny_bind (wpAny_field he hd h1 ?_)
  rw [if_neg (by decide)]
  exact entry_any hfr hl hf hk gh lo un he hc hd (Array.getElem?_eq_some_iff.mp h1).1 h0 h
 ·refine wpAny_bind (wpAny_field he hd h1 ?_)
  rw [if_pos (show (Value.ref T != Value.none)=true from by simp)]
  refine wpAny_bind (wpAny_field hT hdT h3 ?_)
  by_cases hfl:(f == rawInt L)=true
  ·rw [if_pos hfl]
   have e:f=rawInt L:=by simpa using hfl
   subst e
   exact wpAny_pure (h s.heap .refl ⟨gh,lo,un,oe,vs,a0,he,hc,hd,h0,.inr ⟨T,oT,ts,_,rfl,h1,hgT,hHT,hTa,hT,hdT,h3⟩⟩)
  ·rw [if_neg hfl]
   refine wpAny_bind (wpAny_setField hT hdT (Array.getElem?_eq_some_iff.mp h3).1 ?_)
   have hTf:T ∉ frs (env :: outer):=fun z=>by
    obtain ⟨_,o',e',nf⟩:=hl.mem z
    rw [hT] at e'; cases e'; exact nf ts hdT
   have c1:=ch_update (g:=g) (H:=H) (f:=(·.setIfInBounds 3 Value.none)) hT hdT hgT hHT hTf
   refine entry_any (s:={ s with heap:=s.heap.update T (Obj.mapFields (·.setIfInBounds 3 Value.none)) }) hfr (frames_update hl hT hdT) hf (fun b e=>?_) (fun b o e=>?_) lo un ?_ hc hd (Array.getElem?_eq_some_iff.mp h1).1 h0 fun h' ch ex=>h h' (c1.trans ch) ex
   ·refine hk b ?_
    cases q:s.heap.get? b with
    | none=>rfl
    | some o=>obtain ⟨o',e'⟩:=c1.there b o q; rw [show ({ s with heap:=s.heap.update T (Obj.mapFields (·.setIfInBounds 3 Value.none)) }:Shared).heap=s.heap.update T (Obj.mapFields (·.setIfInBounds 3 Value.none)) from rfl] at e; rw [e] at e'; cases e'
   ·obtain ⟨o',e'⟩:=gh b o e
    exact c1.there b o' e'
   ·show (s.heap.update T _).get? a=some oe
    rw [Heap.get?_update_other _ _ hTa]; exact he
theorem flight_any {Q:Unit->Shared->Prop} {fs:List Addr} (fr:Option Addr) (hfs:∀ b ∈ fs,∃ o,s.heap.get? b=some o/\∀ vs,o.data ≠ .fields vs) (x:ExS g H s.heap a C (some fv))
  (h:∀ h',Ch g H fs s.heap h'->ExS g H h' a C (some (fr.elim Value.none fun f=>rawInt f))->Q () { s with heap:=h' }):wpAny M A (setFlight (.ref a) fr) Q E s:=by
 obtain ⟨gh,lo,un,oe,vs,a0,he,hc,hd,h0,hx⟩:=x
 rcases hx with ⟨z,_⟩ | ⟨T,oT,ts,f,_,h1,hgT,hHT,hTa,hT,hdT,h3⟩
 ·cases z
 ·unfold setFlight
  refine wpAny_bind (wpAny_field he hd h1 ?_)
  rw [if_pos (show (Value.ref T != Value.none)=true from by simp)]
  have hTf:T ∉ fs:=fun z=>by obtain ⟨o,e1,e2⟩:=hfs T z; rw [hT] at e1; cases e1; exact e2 ts hdT
  have hsz:=(Array.getElem?_eq_some_iff.mp h3).1
  have c1:=ch_update (g:=g) (H:=H) (f:=(·.setIfInBounds 3 (fr.elim Value.none fun f=>rawInt f))) hT hdT hgT hHT hTf
  refine wpAny_setField hT hdT hsz (h _ c1 ⟨fun b o e=>?_,lo,un,oe,vs,a0,?_,hc,hd,h0,.inr ⟨T,_,_,_,rfl,h1,hgT,hHT,hTa,Heap.get?_update_self _ hT (Obj.isFreed_of_fields (Obj.data_mapFields hdT _)),Obj.data_mapFields hdT _,?_⟩⟩)
  ·obtain ⟨o',e'⟩:=gh b o e
   exact c1.there b o' e'
  ·rw [Heap.get?_update_other _ _ hTa]; exact he
  ·simp [hsz]
theorem frames_some {h:Heap} {l:List Env} (hl:h.FunFrames base l):∀ b ∈ frs l,∃ o,h.get? b=some o/\∀ vs,o.data ≠ .fields vs:=fun b hb=>let ⟨_,o,e,n⟩:=hl.mem hb; ⟨o,e,n⟩
theorem Ch.frames {fs:List Addr} {h h':Heap} {l:List Env} (c:Ch g H fs h h') (hs:∀ b ∈ frs l,b ∈ fs) (hl:h.FunFrames base l):h'.FunFrames base l:=by
 induction l with
 | nil=>trivial
 | cons env r ih=>
  obtain ⟨hk,⟨L,o,hf,hn,ho,hd⟩,hr⟩:=hl
  have e:frs (env :: r)=L :: frs r:=by unfold frs; rw [List.filterMap_cons,hf]
  obtain ⟨sl,e'⟩:=c.slot L o (hs L (by rw [e]; exact List.mem_cons_self)) ho
  exact ⟨hk,⟨L,_,hf,hn,e',hd⟩,ih (fun b hb=>hs b (by rw [e]; exact List.mem_cons_of_mem _ hb)) hr⟩
theorem leave_any {Q:Unit->Shared->Prop} (hfr:A.frames=some (env :: outer)) (hl:s.heap.FunFrames base (env :: outer)) (hf:env.frame=some L) (hk:∀ b,s.heap.get? b=none->H b=none) (x:ExS g H s.heap a C fl)
  (h:∀ h',Ch g H (frs (env :: outer)) s.heap h'->ExS g H h' a C (some .none)->Q () { s with heap:=h' }):wpAny M A (leaving env (.ref a)) Q E s:=by
 unfold leaving
 refine wpAny_bind (note_any hfr hl hf hk x fun h1 c1 x1=>?_)
 refine flight_any (s:={ s with heap:=h1 }) (fs:=frs (env :: outer)) none (frames_some (c1.frames (fun _ h=>h) hl)) x1 fun h2 c2 x2=>h h2 (c1.trans c2) x2
end
end L2.L3
namespace L2.L3
open PySem PySem.Spec PyProof.Rows
structure Cov (X:Cx) (pins:List (Addr × Obj)) (g:Heap):Prop where
 s0:∀ b o,X.s₀.heap.get? b=some o->b ∉ X.ex->∃ o',g.get? b=some o'
 loc:∃ o,g.get? X.env.locals=some o
 cell:∀ x c,X.env.cells.lookup x=some c->∃ o,g.get? c=some o
 pin:∀ p ∈ X.pn ++ pins,∃ o,g.get? p.1=some o
section
variable {X:Cx} {pins:List (Addr × Obj)} {σ:St} {H:Hp} {s:Shared} {g h':Heap}
theorem _root_.L2.Inv.cov (I:Inv X pins σ H s):Cov X pins s.heap:=by
 refine ⟨fun b o e n=>I.base.there b o e n,?_,fun x c e=>?_,fun p hp=>⟨_,(I.pin p hp).1⟩⟩
 ·obtain ⟨m,⟨o,es,ep,ho,_⟩,_⟩:=I.loc; exact ⟨o,ho⟩
 ·obtain ⟨v,o,ho,_⟩:=I.cell x c e; exact ⟨o,ho⟩
theorem _root_.L2.Inv.stkIn (I:Inv X pins σ H s) {b:Addr} (h:b ∉ frs X.stack):b ∉ X.fs:=by
 rcases I.ok.stk with e | ⟨e,hf⟩
 ·rw [e] at h; exact h
 ·rw [e] at h; unfold frs at h; rw [List.filterMap_cons,hf] at h; exact fun z=>h (List.mem_cons_of_mem _ z)
theorem _root_.L2.Inv.stkOut (I:Inv X pins σ H s) {b:Addr} (h:b ∉ X.fs) (h2:b ≠ X.env.locals):b ∉ frs X.stack:=fun z=>(List.mem_cons.mp (I.stkSub b z)).elim h2 h
theorem ns_slots {h h':Heap} {a:Addr} {m:Str->Option Value} (k:∀ o,h.get? a=some o->∃ sl,h'.get? a=some { o with slots:=sl }) (hn:h.Ns a m):h'.Ns a m:=by
 obtain ⟨o,es,ep,ho,hd,r⟩:=hn
 obtain ⟨sl,hs⟩:=k o ho
 exact ⟨_,es,ep,hs,hd,r⟩
theorem _root_.L2.Inv.ch (I:Inv X pins σ H s) (cv:Cov X pins g) (c:Ch g H (frs X.stack) s.heap h'):Inv X pins σ H { s with heap:=h' }:=by
 have ht:∀ b o,s.heap.get? b=some o->H b ≠ none->h'.get? b=some o:=fun b o e n=>c.keep b o e (.inr n) fun z=>n (I.stkFree b z)
 have ck:∀ x cc,X.env.cells.lookup x=some cc->∀ o,s.heap.get? cc=some o->∃ o',h'.get? cc=some o'/\o'.data=o.data:=fun x cc e o ho=>by
  by_cases hs:cc ∈ frs X.stack
  ·obtain ⟨sl,e1⟩:=c.slot cc o hs ho; exact ⟨_,e1,rfl⟩
  ·exact ⟨o,c.keep cc o ho (.inl (cv.cell x cc e)) hs,rfl⟩
 refine ⟨I.ok,I.os,I.bare,⟨fun b o e n hf hx=>?_,fun b o e n hf hx=>?_,fun b o e n hx=>I.base.free b o e n hx,fun b o e hx=>?_,I.base.tups,I.base.frzs,I.base.tbls⟩,?_,fun x cc e=>?_,I.free,I.freeC,fun p hp=>?_,fun b u e=>?_,I.len⟩
 ·have e1:=I.base.keep b o e n hf hx
  refine c.keep b o e1 (.inl (cv.s0 b o e hx)) (I.stkOut hf fun z=>?_)
  have h1:=I.ok.above
  have h2:b < X.s₀.heap.objs.size:=Heap.lt_size e
  rw [z] at h2
  exact Nat.lt_irrefl _ (Nat.lt_of_lt_of_le h2 h1)
 ·obtain ⟨sl,e1⟩:=I.base.slot b o e n hf hx
  by_cases hs:b ∈ frs X.stack
  ·obtain ⟨sl',e2⟩:=c.slot b _ hs e1; exact ⟨sl',e2⟩
  ·exact absurd hf (I.stkIn hs)
 ·obtain ⟨o1,e1⟩:=I.base.there b o e hx
  exact c.there b o1 e1
 ·obtain ⟨m,hn,hl⟩:=I.loc
  refine ⟨m,ns_slots (fun o ho=>?_) hn,fun i x v h1 h2 h3=>?_⟩
  ·by_cases hs:X.env.locals ∈ frs X.stack
   ·exact c.slot _ o hs ho
   ·exact ⟨o.slots,c.keep _ o ho (.inl cv.loc) hs⟩
  ·obtain ⟨u,r,l⟩:=hl i x v h1 h2 h3
   refine ⟨u,r,?_⟩
   rcases l with l | ⟨k,cc,e,o,ho,hd⟩
   ·exact .inl l
   ·obtain ⟨o',h1,h2⟩:=ck x cc e o ho
    exact .inr ⟨k,cc,e,o',h1,h2.trans hd⟩
 ·obtain ⟨v,o,ho,hd⟩:=I.cell x cc e
  obtain ⟨o',h1,h2⟩:=ck x cc e o ho
  exact ⟨v,o',h1,h2.trans hd⟩
 ·obtain ⟨h1,h2,h3,h4,h5⟩:=I.pin p hp
  exact ⟨c.keep _ _ h1 (.inl (cv.pin p hp)) (I.stkOut h4 h3),h2,h3,h4,h5⟩
 ·refine (I.hok b u e).stay (fun d v hd q=>ht d v q ?_) (fun _ q=>q) fun _ _ q=>q
  rcases hd with rfl | hd
  ·rw [e]; exact fun z=>by cases z
  ·rw [hd]; exact fun z=>by cases z
noncomputable def CXM (P:Program) (w:World):CXT:=fun outer H s E e s'=>∃ a C H',e=.ref a/\s'.os=s.os/\AllBare s'.gens/\Un (frs outer) [] H H' s.heap s'.heap/\HOk P w H' s'.heap/\ExS s.heap H' s'.heap a C (some .none)/\E C none H'
structure Fly (X:Cx) (pins:List (Addr × Obj)) (σ:St) (H:Hp) (s:Shared) (e:Value) (c:Str):Prop where
 inv:Inv X pins σ H s
 ex:∃ a C g fl,e=.ref a/\Cov X pins g/\ExS g H s.heap a C fl/\X.mg c=some C
noncomputable def glob (x:Str):Option PyData:=if x = "ANY_ZONE" then some (.tuple [.int 0,.tuple []]) else if x = "NO_DEEDS" then some (.tuple []) else none
noncomputable def isT:HO->Bool
 | .tup _=>true
 | .frz _ (.tup _)=>true
 | _=>false
theorem isT_nm {u:HO} (h:isT u=true):¬ Mv u:=fun m=>by
 cases u with
 | tup _=>exact m
 | frz _ _=>exact m
 | _=>cases h
noncomputable def tupH (H:Hp):Hp:=fun b=>match H b with
 | some u=>if isT u=true then some u else none
 | none=>none
theorem tup_at {H:Hp} {b:Addr} {o:HO} (h:tupH H b=some o):isT o=true/\H b=some o:=by
 unfold tupH at h
 split at h
 ·rename_i u e
  split at h
  ·rename_i t; cases h; exact ⟨t,e⟩
  ·cases h
 ·cases h
theorem at_tup {H:Hp} {b:Addr} {u:HO} (t:isT u=true) (h:H b=some u):tupH H b=some u:=by unfold tupH; rw [h]; exact if_pos t
noncomputable def GH (mg:Str->Option Value) (H:Hp):Prop:=∀ x d u,glob x=some d->mg x=some u->∃ v,RelV v u/\DV (tupH H) v d
noncomputable def GF (mg:Str->Option Value) (F:Fx):Prop:=GH mg fun b=>if b ∈ F.A₀ then none else F.H₀ b
theorem GH.mono {mg:Str->Option Value} {H H':Hp} (g:GH mg H) (k:∀ b u,isT u=true->H b=some u->H' b=some u):GH mg H':=fun x d u h1 h2=>by
 obtain ⟨v,r,dv⟩:=g x d u h1 h2
 exact ⟨v,r,DV.mono (fun b o e=>by obtain ⟨t,e1⟩:=tup_at e; exact at_tup t (k b o t e1)) dv⟩
theorem GF.at {mg:Str->Option Value} {K:PySem.W.Frag} {F:Fx} {H:Hp} {σ:St} {ρ:DEnv} {O:List Addr} (g:GF mg F) (st:DSt K F H σ ρ O):GH mg H:=GH.mono g fun b xs t e=>by
 obtain ⟨W,st,rfl⟩:=st
 split at e
 ·cases e
 ·rename_i hn; exact st.kept b _ hn e
theorem GH.frame {mg:Str->Option Value} {H:Hp} {A O:List Addr} {io:Nat->Addr} (g:GH mg H) (h:∀ a ∈ A,∃ o,H a=some o/\Mv o):GF mg ⟨H,A,O,io⟩:=GH.mono g fun b xs t e=>by
 show (if b ∈ A then none else H b)=_
 rw [if_neg,e]
 intro z
 obtain ⟨o,e1,m⟩:=h b z
 rw [e] at e1
 cases e1
 exact isT_nm t m
theorem GF.into {mg:Str->Option Value} {K:PySem.W.Frag} {F:Fx} {H:Hp} {σ:St} {ρ:DEnv} {O O':List Addr} {io:Nat->Addr} (g:GF mg F) (st:DSt K F H σ ρ O):GF mg ⟨H,[],O',io⟩:=(g.at st).frame fun a h=>by cases h
noncomputable def XOk (X:Cx) (F:Fx) (E:Str->DEnv->Prop):Prop:=GF X.mg F/\∀ (pins:List (Addr × Obj)) (σ:St) (H:Hp) (s:Shared) (e:Value) (c:Str) (ρ:DEnv) (O:List Addr),Fly X pins σ H s e c->DSt X.K F H σ ρ O->E c ρ->X.xe e s
theorem ExS.weak {g g':Heap} {H:Hp} {h:Heap} {a:Addr} {C:Value} {fl:Option Value} (x:ExS g H h a C fl) (k:∀ b o,g'.get? b=some o->∃ o',g.get? b=some o'):ExS g' H h a C fl:=by
 have nn:∀ b,g.get? b=none->g'.get? b=none:=fun b e=>by
  cases q:g'.get? b with
  | none=>rfl
  | some o=>obtain ⟨o',e'⟩:=k b o q; rw [e] at e'; cases e'
 obtain ⟨gh,lo,un,oe,vs,a0,he,hc,hd,h0,hx⟩:=x
 refine ⟨fun b o e=>let ⟨o',e'⟩:=k b o e; gh b o' e',nn a lo,un,oe,vs,a0,he,hc,hd,h0,hx.imp id ?_⟩
 rintro ⟨T,oT,ts,f,h1,h2,h3,h4⟩
 exact ⟨T,oT,ts,f,h1,h2,nn T h3,h4⟩
theorem _root_.L2.Inv.flies {E:XK} {e:Value} {s':Shared} (I:Inv X pins σ H s) (h:CXM X.prog X.w X.stack H s E e s'):∃ a C H',e=.ref a/\Inv X pins σ H' s'/\Cov X pins s.heap/\ExS s.heap H' s'.heap a C (some .none)/\E C none H':=by
 obtain ⟨a,C,H',e1,os,bare,un,hok,ex,q⟩:=h
 obtain ⟨hh,g,d,t,os'⟩:=s'
 obtain rfl:os' = s.os:=os
 exact ⟨a,C,H',e1,I.call (h':=hh) (g':=g) (d':=d) (t':=t) (ch:=[]) un hok bare (fun b z=>absurd z (by simp)),I.cov,ex,q⟩
end
theorem xok_fn {P:Program} {w:World} {K:PySem.W.Frag} {mg:Str->Option Value} {base:Heap} {N:List Str} {qual:Str} {scope:Scope} {f:Addr} {cd:Value} {A:Around} {outer:List Env} {s:Shared} {H:Hp} {E:XK} {F:Fx} {E':Str->DEnv->Prop}
  (hG:GF mg F) (hE:∀ c C ρ' σ' H' O',mg c=some C->DSt K F H' σ' ρ' O'->E' c ρ'->E C none H'):XOk (cxOf (CXM P w) P w K mg base N qual scope f cd A outer s H E) F E':=by
 refine ⟨hG,?_⟩
 intro pins σ H1 s1 e c ρ O ⟨I,a,C,g,fl,e1,cv,ex,hm⟩ st q
 subst e1
 have fr:(A.deeper (envOfC qual scope s.heap.objs.size f cd)).frames=some (envOfC qual scope s.heap.objs.size f cd :: outer):=I.ok.frames
 have hb:∀ b,s1.heap.get? b=none->H1 b=none:=fun b z=>HOk.some_of I.hok z
 have stk:frs (envOfC qual scope s.heap.objs.size f cd :: outer)=s.heap.objs.size :: frs outer:=rfl
 refine leave_any (base:=base) fr I.stack rfl hb ex fun h' ch ex'=>?_
 have J:=I.ch cv ch
 refine ⟨a,C,H1,rfl,J.os,J.bare,J.base,J.hok,ex'.weak fun b o eb=>cv.s0 b o eb (by intro z; cases z),hE c C ρ σ H1 O hm st q⟩
end L2.L3
namespace L2.L3
open PySem PySem.Spec PyProof.Rows
noncomputable def Fx.plus (F:Fx) (fp:List Addr):Fx:={ F with O₀:=fp ++ F.O₀ }
theorem Fx.plus_plus {F:Fx} {l m:List Addr}:(F.plus l).plus m=F.plus (m ++ l):=by unfold Fx.plus; simp
section
variable {K:PySem.W.Frag} {F:Fx} {H H':Hp} {σ:St} {ρ:DEnv} {O O':List Addr} {W:List (List Addr)} {fp:List Addr} {v:V} {c:Cell}
structure Res (K:PySem.W.Frag) (F:Fx) (H:Hp) (σ:St) (ρ:DEnv) (O:List Addr) (v:V) (c:Cell) (fp:List Addr):Prop where
 st:DSt K (F.plus fp) H σ ρ O
 at_:CellAt K H O v c fp
 new:∀ a ∈ fp,a ∈ F.A₀\/F.H₀ a=none
theorem stp_less (h:∀ a ∈ O',a ∈ O):Stp O H O' H:=⟨fun _ _ _ e=>e,fun a z=>.inl (h a z)⟩
theorem DStW.less {F':Fx} (st:DStW K F H σ ρ W) (h1:F'.H₀=F.H₀) (h2:F'.A₀=F.A₀) (h4:F'.I₀=F.I₀) (h3:F'.O₀.Sublist F.O₀):DStW K F' H σ ρ W:=by
 have sub:(W.flatten ++ F'.O₀).Sublist (W.flatten ++ F.O₀):=List.Sublist.append (List.Sublist.refl _) h3
 have mem:∀ a ∈ W.flatten ++ F'.O₀,a ∈ W.flatten ++ F.O₀:=fun a h=>sub.subset h
 refine ⟨fun i c e=>?_,st.nd.sublist sub,by rw [h1,h2]; exact st.kept,by rw [h1,h2]; exact st.new,fun a h=>st.live a (mem a h),st.len,st.lw,by rw [h4]; exact st.io⟩
 obtain ⟨v,fp,e1,e2,e3⟩:=st.at_ i c e
 exact ⟨v,fp,e1,e2,e3.keep (stp_less mem) (fun _ _=>rfl) (fun _ _ _ e=>e)⟩
theorem DSt.unplus (st:DSt K (F.plus fp) H σ ρ O):∃ O',DSt K F H σ ρ O'/\Stp O H O' H/\(∀ a ∈ fp,a ∉ O'):=by
 obtain ⟨W,st,rfl⟩:=st
 have st':DStW K F H σ ρ W:=st.less rfl rfl rfl (List.sublist_append_right _ _)
 refine ⟨_,⟨W,st',rfl⟩,stp_less fun a h=>?_,fun a ha z=>?_⟩
 ·rcases List.mem_append.mp h with h | h
  ·exact List.mem_append_left _ h
  ·exact List.mem_append_right _ (List.mem_append_right _ h)
 ·have nd:(W.flatten ++ (fp ++ F.O₀)).Nodup:=st.nd
  obtain ⟨_,n2,n3⟩:=List.nodup_append.mp nd
  rcases List.mem_append.mp z with z | z
  ·exact n3 a z a (List.mem_append_left _ ha) rfl
  ·exact (List.nodup_append.mp n2).2.2 a ha a z rfl
theorem Res.drop (r:Res K F H σ ρ O v c fp):∃ O',DSt K F H σ ρ O'/\Stp O H O' H:=let ⟨O',h1,h2,_⟩:=r.st.unplus; ⟨O',h1,h2⟩
@[simp] noncomputable def frz:Cell->Option PyData
 | .dat d=>some d
 | .own _ (.l ds)=>some (.list ds)
 | _=>none
theorem Res.frz {d:PyData} (r:Res K F H σ ρ O v c fp) (e:frz c=some d):∃ O',DSt K F H σ ρ O'/\Stp O H O' H/\DV (hide O' H) v d:=by
 obtain ⟨O',h1,h2,h3⟩:=r.st.unplus
 refine ⟨O',h1,h2,?_⟩
 have ra:=r.at_
 cases c with
 | dat x=>cases e; exact DV.mono h2.hid ra
 | scr ns=>cases e
 | exc c=>cases e
 | vw c=>cases e
 | own io b=>
  cases b with
  | l ds=>
   cases e
   obtain ⟨a,rfl,rfl,xs,e1,e2⟩:=ra
   exact .lst (hide_of e1 (h3 a (by simp))) (DVs.mono h2.hid e2)
  | m _ _=>cases e
  | o _ _=>cases e
  | sd _=>cases e
  | ll _=>cases e
theorem res_dat (st:DSt K F H σ ρ O) {d:PyData} (h:DV (hide O H) v d):Res K F H σ ρ O v (.dat d) []:=⟨st,h,fun a h=>by cases h⟩
theorem DSt.put1 {io:Bool} (st:DSt K (F.plus fp) H σ ρ O) (hc:CellAt K H O v c fp) (new:∀ a ∈ fp,a ∈ F.A₀\/F.H₀ a=none) {i:Nat} (hi:i < ρ.length) (hio:∀ b,c=.own true b->v=.ref (F.I₀ i)) :
  ∃ O',DSt K F H (σ.set i (some v)) (ρ.set i (some c)) O'/\Stp O H O' H:=by
 obtain ⟨W,st,rfl⟩:=st
 have nd:(W.flatten ++ (fp ++ F.O₀)).Nodup:=st.nd
 obtain ⟨n1,n2,n3⟩:=List.nodup_append.mp nd
 obtain ⟨n4,n5,n6⟩:=List.nodup_append.mp n2
 have hiW:i < W.length:=by rw [st.lw]; exact hi
 have sub:∀ a ∈ (W.set i fp).flatten ++ F.O₀,a ∈ W.flatten ++ (fp ++ F.O₀):=fun a h=>by
  rcases List.mem_append.mp h with h | h
  ·rcases mem_flat_set h with h | ⟨j,l,_,e,hl⟩
   ·exact List.mem_append_right _ (List.mem_append_left _ h)
   ·exact List.mem_append_left _ (mem_flat_of e hl)
  ·exact List.mem_append_right _ (List.mem_append_right _ h)
 have stp:=stp_less (H:=H) sub
 refine ⟨_,⟨W.set i fp,⟨fun j d e=>?_,nodup_set (List.nodup_append.mpr ⟨n1,n5,fun a ha b hb=>n3 a ha b (List.mem_append_right _ hb)⟩) n4 fun a ha=>⟨fun j l _ e z=>n3 a (mem_flat_of e z) a (List.mem_append_left _ ha) rfl,fun z=>n6 a ha a z rfl⟩,st.kept,fun a h=>?_,fun a h=>st.live a (sub a h),by rw [List.length_set,List.length_set,st.len],by rw [List.length_set,List.length_set,st.lw],fun j b e=>?_⟩,rfl⟩,stp⟩
 ·rcases get_set e with ⟨rfl,e1,_⟩ | ⟨hj,e1⟩
  ·cases e1
   exact ⟨v,fp,List.getElem?_set_self (by rw [<-st.len]; exact hi),List.getElem?_set_self hiW,hc.keep stp (fun _ _=>rfl) (fun _ _ _ e=>e)⟩
  ·obtain ⟨w,l,h1,h2,h3⟩:=st.at_ j d e1
   exact ⟨w,l,by rw [List.getElem?_set_ne (Ne.symm hj)]; exact h1,by rw [List.getElem?_set_ne (Ne.symm hj)]; exact h2,h3.keep stp (fun _ _=>rfl) (fun _ _ _ e=>e)⟩
 ·rcases mem_flat_set h with h | ⟨j,l,_,e,hl⟩
  ·exact new a h
  ·exact st.new a (mem_flat_of e hl)
 ·rcases get_set e with ⟨rfl,e1,_⟩ | ⟨hj,e1⟩
  ·rw [List.getElem?_set_self (by rw [<-st.len]; exact hi),hio b (Option.some.inj e1).symm]
  ·rw [List.getElem?_set_ne (Ne.symm hj)]; exact st.io j b e1
theorem DSt.take (st:DSt K F H σ ρ O) {i:Nat} {io:Bool} {b:Bx} (e:ρ[i]? = some (some (.own io b))):∃ a fp O',σ[i]? = some (some (.ref a))/\DSt K (F.plus fp) H σ (ρ.set i none) O'/\BoxAt (hide O' H) H a b fp/\Stp O H O' H/\Stp O' H O H/\(∀ a ∈ fp,a ∈ F.A₀\/F.H₀ a=none)/\(io=true->a=F.I₀ i):=by
 obtain ⟨W,st,rfl⟩:=st
 obtain ⟨v,fp,h1,h2,a,rfl,h3⟩:=st.at_ i _ e
 have hi:i < ρ.length:=(List.getElem?_eq_some_iff.mp e).1
 have hiW:i < W.length:=by rw [st.lw]; exact hi
 obtain ⟨n1,n2,n3⟩:=List.nodup_append.mp st.nd
 have s1:∀ x ∈ (W.set i []).flatten ++ (fp ++ F.O₀),x ∈ W.flatten ++ F.O₀:=fun x h=>by
  rcases List.mem_append.mp h with h | h
  ·rcases mem_flat_set h with h | ⟨j,l,_,ej,hl⟩
   ·cases h
   ·exact List.mem_append_left _ (mem_flat_of ej hl)
  ·rcases List.mem_append.mp h with h | h
   ·exact List.mem_append_left _ (mem_flat_of h2 h)
   ·exact List.mem_append_right _ h
 have s2:∀ x ∈ W.flatten ++ F.O₀,x ∈ (W.set i []).flatten ++ (fp ++ F.O₀):=fun x h=>by
  rcases List.mem_append.mp h with h | h
  ·obtain ⟨l,hl,hx⟩:=List.mem_flatten.mp h
   obtain ⟨j,hj⟩:=List.getElem?_of_mem hl
   by_cases hji:j=i
   ·subst hji; rw [h2] at hj; cases hj; exact List.mem_append_right _ (List.mem_append_left _ hx)
   ·exact List.mem_append_left _ (flat_set_mem hji hj hx)
  ·exact List.mem_append_right _ (List.mem_append_right _ h)
 have nfp:fp.Nodup:=by
  have:∀ {W:List (List Addr)} {i:Nat} {l:List Addr},W.flatten.Nodup->W[i]? = some l->l.Nodup:=fun {W i l} nd hl=>nd.sublist (by
   have:=List.mem_of_getElem? hl
   exact List.sublist_flatten_of_mem this)
  exact this n1 h2
 have nd':((W.set i []).flatten ++ (fp ++ F.O₀)).Nodup:=by
  have q:((W.set i []).flatten ++ ([] ++ F.O₀)).Nodup:=nodup_set (fp:=[]) (O:=F.O₀) st.nd List.nodup_nil (fun a h=>by cases h)
  obtain ⟨q1,_,q3⟩:=List.nodup_append.mp q
  refine List.nodup_append.mpr ⟨q1,List.nodup_append.mpr ⟨nfp,n2,fun x hx y hy z=>n3 x (mem_flat_of h2 hx) y hy z⟩,fun x hx y hy z=>?_⟩
  subst z
  rcases List.mem_append.mp hy with hy | hy
  ·rcases mem_flat_set hx with hx | ⟨j,l,hj,ej,hl⟩
   ·cases hx
   ·exact flat_disj n1 h2 ej (Ne.symm hj) hy hl
  ·exact q3 x hx x hy rfl
 have stp:=stp_less (H:=H) s1
 have k:=stp_less (H:=H) s2
 refine ⟨a,fp,_,h1,⟨W.set i [],⟨fun j d ej=>?_,nd',st.kept,fun x h=>?_,fun x h=>st.live x (s1 x h),by rw [List.length_set,st.len],by rw [List.length_set,List.length_set,st.lw],fun j b' ej=>?_⟩,rfl⟩,h3.keep (fun _ _=>rfl) stp.hid,stp,k,fun x hx=>st.new x (mem_flat_of h2 hx),fun hio=>?_⟩
 ·rcases get_set ej with ⟨rfl,e1,_⟩ | ⟨hj,e1⟩
  ·cases e1
  ·obtain ⟨w,l,q1,q2,q3⟩:=st.at_ j d e1
   exact ⟨w,l,q1,by rw [List.getElem?_set_ne (Ne.symm hj)]; exact q2,q3.keep stp (fun _ _=>rfl) (fun _ _ _ e=>e)⟩
 ·rcases mem_flat_set h with h | ⟨j,l,_,ej,hl⟩
  ·cases h
  ·exact st.new x (mem_flat_of ej hl)
 ·rcases get_set ej with ⟨rfl,e1,_⟩ | ⟨hj,e1⟩
  ·cases e1
  ·exact st.io j b' e1
 ·subst hio
  have:=st.io i b e
  rw [h1] at this
  cases this; rfl
theorem DSt.swap {L L':List Addr} (st:DSt K (F.plus L) H σ ρ O) (keep:∀ b o,b ∉ L->H b=some o->H' b=some o) (nd:L'.Nodup) (new:∀ a ∈ L',a ∈ L\/H a=none) (hA:∀ a ∈ L,a ∈ F.A₀\/F.H₀ a=none) (liv:∀ a ∈ L',∃ o,H' a=some o/\Mv o) :
  ∃ O',DSt K (F.plus L') H' σ ρ O'/\Stp O H O' H'/\(∀ a ∈ L',a ∈ O')/\(∀ a ∈ O',a ∈ L'\/a ∈ O/\a ∉ L)/\∀ a ∈ O,a ∉ L->a ∈ O':=by
 obtain ⟨W,st,rfl⟩:=st
 have ndO:(W.flatten ++ (L ++ F.O₀)).Nodup:=st.nd
 obtain ⟨n1,n2,n3⟩:=List.nodup_append.mp ndO
 obtain ⟨n4,n5,n6⟩:=List.nodup_append.mp n2
 have wl:∀ a ∈ W.flatten,a ∉ L:=fun a h z=>n3 a h a (List.mem_append_left _ z) rfl
 have ol:∀ a ∈ F.O₀,a ∉ L:=fun a h z=>n6 a z a h rfl
 have lv:∀ a ∈ W.flatten ++ F.O₀,∃ o,H a=some o/\Mv o:=fun a h=>st.live a (by
  rcases List.mem_append.mp h with h | h
  ·exact List.mem_append_left _ h
  ·exact List.mem_append_right _ (List.mem_append_right _ h))
 have kp:∀ a ∈ W.flatten ++ F.O₀,H' a=H a:=fun a h=>by
  obtain ⟨o,e,_⟩:=lv a h
  rw [e]
  exact keep a o ((List.mem_append.mp h).elim (wl a) (ol a)) e
 have ap:∀ a ∈ L',a ∉ W.flatten ++ F.O₀:=fun a h z=>by
  rcases new a h with q | q
  ·rcases List.mem_append.mp z with z | z
   ·exact wl a z q
   ·exact ol a z q
  ·obtain ⟨o,e,_⟩:=lv a z; rw [q] at e; cases e
 have stp:Stp (W.flatten ++ (L ++ F.O₀)) H (W.flatten ++ (L' ++ F.O₀)) H':=⟨fun b o hb e=>keep b o (fun z=>hb (List.mem_append_right _ (List.mem_append_left _ z))) e,fun a h=>by
  rcases List.mem_append.mp h with h | h
  ·exact .inl (List.mem_append_left _ h)
  ·rcases List.mem_append.mp h with h | h
   ·exact (new a h).imp (fun z=>List.mem_append_right _ (List.mem_append_left _ z)) id
   ·exact .inl (List.mem_append_right _ (List.mem_append_right _ h))⟩
 have zf:∀ b o u,H b=some (.frz o u)->H' b=some (.frz o u):=fun b o u e=>keep b _ (fun z=>st.nofrz (List.mem_append_right _ (List.mem_append_left _ z)) e) e
 refine ⟨_,⟨W,⟨fun i c e=>?_,?_,fun b o hb e=>?_,st.new,fun a h=>?_,st.len,st.lw,st.io⟩,rfl⟩,stp,fun a h=>List.mem_append_right _ (List.mem_append_left _ h),fun a h=>?_,fun a h hn=>?_⟩
 ·obtain ⟨v,fp,h1,h2,h3⟩:=st.at_ i c e
  exact ⟨v,fp,h1,h2,h3.keep stp (fun b hb=>kp b (List.mem_append_left _ (mem_flat_of h2 hb))) zf⟩
 ·refine List.nodup_append.mpr ⟨n1,List.nodup_append.mpr ⟨nd,n5,fun a ha b hb z=>?_⟩,fun a ha b hb z=>?_⟩
  ·subst z; exact ap a ha (List.mem_append_right _ hb)
  ·subst z
   rcases List.mem_append.mp hb with hb | hb
   ·exact ap a hb (List.mem_append_left _ ha)
   ·exact n3 a ha a (List.mem_append_right _ hb) rfl
 ·have e1:=st.kept b o hb e
  by_cases hL:b ∈ L
  ·rcases hA b hL with q | q
   ·exact absurd q hb
   ·have e':F.H₀ b=some o:=e
    rw [q] at e'; cases e'
  ·exact keep b o hL e1
 ·rcases List.mem_append.mp h with h | h
  ·obtain ⟨o,e1,e2⟩:=lv a (List.mem_append_left _ h)
   exact ⟨o,by rw [kp a (List.mem_append_left _ h)]; exact e1,e2⟩
  ·rcases List.mem_append.mp h with h | h
   ·exact liv a h
   ·obtain ⟨o,e1,e2⟩:=lv a (List.mem_append_right _ h)
    exact ⟨o,by rw [kp a (List.mem_append_right _ h)]; exact e1,e2⟩
 ·rcases List.mem_append.mp h with h | h
  ·exact .inr ⟨List.mem_append_left _ h,wl a h⟩
  ·rcases List.mem_append.mp h with h | h
   ·exact .inl h
   ·exact .inr ⟨List.mem_append_right _ (List.mem_append_right _ h),ol a h⟩
 ·rcases List.mem_append.mp h with h | h
  ·exact List.mem_append_left _ h
  ·rcases List.mem_append.mp h with h | h
   ·exact absurd h hn
   ·exact List.mem_append_right _ (List.mem_append_right _ h)
end
noncomputable abbrev DTO:=DEnv->(Cell->DEnv->Prop)->Prop
noncomputable def MnO (t:DTO):Prop:=∀ ρ Q Q',(∀ c ρ',Q c ρ'->Q' c ρ')->t ρ Q->t ρ Q'
noncomputable def rdO (K:PySem.W.Frag) (F:Fx) (t:DTO):TE:=fun σ H Q=>∃ ρ O,DSt K F H σ ρ O/\t ρ fun c ρ'=>∀ v H' O' fp,Res K F H' σ ρ' O' v c fp->Stp O H O' H'->Q v H'
structure DO (X:Cx) (F:Fx) (e:Expr) (t:DTO):Prop where
 mn:MnO t
 pe:PE X e (rdO X.K F t)
section
variable {X:Cx} {F:Fx} {e:Expr} {te:DT} {to:DTO}
noncomputable def dFrz (t:DTO):DT:=fun ρ Q=>t ρ fun c ρ'=>∃ d,frz c=some d/\Q d ρ'
theorem DO.de (h:DO X F e to):DE X F e (dFrz to):=
 ⟨fun _ _ _ k q=>h.mn _ _ _ (fun _ _ ⟨d,e,q⟩=>⟨d,e,k _ _ q⟩) q,h.pe.imp fun σ H Q ⟨ρ,O,st,q⟩=>⟨ρ,O,st,h.mn _ _ _ (fun c ρ' ⟨d,e,q⟩ v H' O' fp r s=>by
  obtain ⟨O2,st2,s2,dv⟩:=r.frz e
  exact q v H' O2 st2 (s.trans s2) dv) q⟩⟩
end
end L2.L3
namespace L2.L3
open PySem PySem.Spec PyProof.Rows
noncomputable abbrev DTG:=PyData->DEnv->(DEnv->Prop)->Prop
noncomputable def rdG (K:PySem.W.Frag) (F:Fx) (t:DTG):TG:=fun v σ H Q=>∃ ρ O d,DSt K F H σ ρ O/\DV (hide O H) v d/\t d ρ fun ρ'=>∀ σ' H' O',DSt K F H' σ' ρ' O'->Stp O H O' H'->Q σ' H'
structure DG (X:Cx) (F:Fx) (tg:Expr) (t:DTG):Prop where
 mn:∀ d ρ Q Q',(∀ ρ',Q ρ'->Q' ρ')->t d ρ Q->t d ρ Q'
 pg:PG X tg (rdG X.K F t)
noncomputable abbrev DTGs:=List PyData->DEnv->(DEnv->Prop)->Prop
noncomputable def rdGs (K:PySem.W.Frag) (F:Fx) (t:DTGs):TGs:=fun vs σ H Q=>∃ ρ O ds,DSt K F H σ ρ O/\DVs (hide O H) vs ds/\t ds ρ fun ρ'=>∀ σ' H' O',DSt K F H' σ' ρ' O'->Stp O H O' H'->Q σ' H'
structure DGs (X:Cx) (F:Fx) (tg:List Expr) (t:DTGs):Prop where
 mn:∀ d ρ Q Q',(∀ ρ',Q ρ'->Q' ρ')->t d ρ Q->t d ρ Q'
 pg:PGs X tg (rdGs X.K F t)
theorem _root_.L2.PG.imp {X:Cx} {e:Expr} {t t':TG} (h:PG X e t) (k:∀ v σ H Q,t' v σ H Q->t v σ H Q):PG X e t':=fun pins s σ H v u Q I r q=>h pins s σ H v u Q I r (k v σ H Q q)
theorem _root_.L2.PGs.imp {X:Cx} {e:List Expr} {t t':TGs} (h:PGs X e t) (k:∀ v σ H Q,t' v σ H Q->t v σ H Q):PGs X e t':=fun pins s σ H v u Q I r q=>h pins s σ H v u Q I r (k v σ H Q q)
section
variable {X:Cx} {F:Fx} {e:Expr} {es:List Expr} {pos:Pos} {x:Str} {t:DTG} {ts:DTGs}
noncomputable def gN (i:Nat):DTG:=fun d ρ Q=>Q (ρ.set i (some (.dat d)))
theorem dg_name {i:Nat} (h:PG X (.Name x pos) (gName i)):DG X F (.Name x pos) (gN i):=⟨fun _ _ _ _ k q=>k _ q,h.imp fun v σ H Q ⟨ρ,O,d,st,hd,q⟩=>q _ H O (st.set hd) .refl⟩
noncomputable def gNl:DTGs:=fun ds ρ Q=>ds=[]/\Q ρ
noncomputable def gCs (t:DTG) (u:DTGs):DTGs:=fun ds ρ Q=>∃ d r,ds=d :: r/\t d ρ fun ρ'=>u r ρ' Q
theorem dgs_nil:DGs X F [] gNl:=⟨fun _ _ _ _ k q=>⟨q.1,k _ q.2⟩,pgs_nil.imp fun vs σ H Q ⟨ρ,O,ds,st,hd,e,q⟩=>by
 subst e
 cases hd
 exact ⟨rfl,q _ H O st .refl⟩⟩
theorem dgs_cons (h1:DG X F e t) (h2:DGs X F es ts) (hs:(assignEach (e :: es) X.env).map (·.2)=assign e X.env :: (assignEach es X.env).map (·.2):=by rfl):DGs X F (e :: es) (gCs t ts):=
 ⟨fun _ _ _ _ k ⟨d,r,e,q⟩=>⟨d,r,e,h1.mn _ _ _ _ (fun _ q1=>h2.mn _ _ _ _ k q1) q⟩,(pgs_cons h1.pg h2.pg hs).imp fun vs σ H Q ⟨ρ,O,ds,st,hd,d,r,e,q⟩=>by
  subst e
  cases hd with
  | cons hd hr=>
   exact ⟨_,_,rfl,ρ,O,d,st,hd,h1.mn _ _ _ _ (fun ρ1 q1 σ1 H1 O1 st1 s1=>⟨ρ1,O1,r,st1,DVs.mono s1.hid hr,h2.mn _ _ _ _ (fun ρ2 q2 σ2 H2 O2 st2 s2=>q2 σ2 H2 O2 st2 (s1.trans s2)) q1⟩) q⟩⟩
noncomputable def gTp (n:Nat) (t:DTGs):DTG:=fun d ρ Q=>∃ ds,d=.tuple ds/\ds.length=n/\t ds ρ Q
theorem dg_tup {k n:Nat} (hc:X.calm=true) (h:DGs X F es ts) (hn:(assignEach es X.env).length=n:=by rfl) (hst:(assignEach es X.env).findIdx? (·.1)=none:=by rfl):DG X F (.Tuple es k pos) (gTp n ts):=
 ⟨fun _ _ _ _ k ⟨ds,e,l,q⟩=>⟨ds,e,l,h.mn _ _ _ _ k q⟩,(pg_tup hc h.pg hn hst).imp fun v σ H Q ⟨ρ,O,d,st,hd,ds,e,l,q⟩=>by
  subst e
  obtain ⟨a,xs,rfl,ha,hx⟩:=hd.tup_inv
  exact ⟨a,xs,rfl,.inl (of_hideR ha).1,by rw [hx.length]; exact l,ρ,O,ds,st,hx,q⟩⟩
end
structure DEnds where
 nx:DEnv->Prop
 rt:Cell->DEnv->Prop
 bk:DEnv->Prop:=fun _=>False
 ct:DEnv->Prop:=fun _=>False
noncomputable abbrev DTS:=DEnds->DEnv->Prop
structure Fits (K:PySem.W.Frag) (F:Fx) (O:List Addr) (H:Hp) (D:Ends) (DD:DEnds):Prop where
 nx:∀ σ' H' ρ' O',DSt K F H' σ' ρ' O'->Stp O H O' H'->DD.nx ρ'->D.nx σ' H'
 rt:∀ v σ' H' c ρ' O' fp,Res K F H' σ' ρ' O' v c fp->Stp O H O' H'->DD.rt c ρ'->D.rt v H'
 bk:∀ σ' H' ρ' O',DSt K F H' σ' ρ' O'->Stp O H O' H'->DD.bk ρ'->D.bk σ' H'
 ct:∀ σ' H' ρ' O',DSt K F H' σ' ρ' O'->Stp O H O' H'->DD.ct ρ'->D.ct σ' H'
theorem Fits.later {K:PySem.W.Frag} {F:Fx} {O O':List Addr} {H H':Hp} {D:Ends} {DD:DEnds} (f:Fits K F O H D DD) (s:Stp O H O' H'):Fits K F O' H' D DD:=
 ⟨fun σ H ρ O st s' q=>f.nx σ H ρ O st (s.trans s') q,fun v σ H c ρ O fp r s' q=>f.rt v σ H c ρ O fp r (s.trans s') q,fun σ H ρ O st s' q=>f.bk σ H ρ O st (s.trans s') q,fun σ H ρ O st s' q=>f.ct σ H ρ O st (s.trans s') q⟩
noncomputable def rdS (K:PySem.W.Frag) (F:Fx) (t:DTS):TS:=fun D σ H=>∃ ρ O DD,DSt K F H σ ρ O/\t DD ρ/\Fits K F O H D DD
noncomputable def DS (X:Cx) (F:Fx) (s:Stmt) (t:DTS):Prop:=PS X s (rdS X.K F t)
noncomputable def DSs (X:Cx) (F:Fx) (s:List Stmt) (t:DTS):Prop:=PSs X s (rdS X.K F t)
section
variable {X:Cx} {F:Fx} {e:Expr} {es:List Expr} {st:Stmt} {rest:List Stmt} {t u:DTS} {te:DT} {to:DTO} {tA:DTA} {tc:DTT} {tg:DTG} {pos:Pos} {x:Str}
noncomputable def sNext:DTS:=fun D ρ=>D.nx ρ
noncomputable def sSeq (t u:DTS):DTS:=fun D ρ=>t { D with nx:=fun ρ'=>u D ρ' } ρ
theorem dss_nil:DSs X F [] sNext:=pss_nil.imp fun D σ H ⟨ρ,O,DD,st,q,f⟩=>f.nx σ H ρ O st .refl q
theorem dss_cons (h1:DS X F st t) (h2:DSs X F rest u):DSs X F (st :: rest) (sSeq t u):=
 (pss_cons h1 h2).imp fun D σ H ⟨ρ,O,DD,s,q,f⟩=>⟨ρ,O,_,s,q,⟨fun σ' H' ρ' O' st' s' q'=>⟨ρ',O',DD,st',q',f.later s'⟩,f.rt,f.bk,f.ct⟩⟩
theorem dss_one (h:DS X F st t):DSs X F [st] t:=pss_one h
noncomputable def sSet (te:DT) (tg:DTG):DTS:=fun D ρ=>te ρ fun d ρ'=>tg d ρ' D.nx
theorem ds_set {i:Nat} {pos':Pos} (hN:X.N.Nodup) (hi:X.N[i]? = some x) (hx:Loc X.env.scope x) (he:DE X F e te) (hs:swapsWith e (some (.Name x pos')) pos.line X.env=pure false:=by rfl)
  (hf:X.fn x=true\/X.env.scope.names.lookup x=some .local:=by first | exact .inl rfl | exact .inr rfl | assumption):DS X F (.Assign [.Name x pos'] e pos) (sSet te (gN i)):=
 (ps_set hN hi hx he.pe hs hf).imp fun D σ H ⟨ρ,O,DD,st,q,f⟩=>⟨ρ,O,st,he.mn _ _ _ (fun d ρ1 q1 v H1 O1 st1 s1 d1=>f.nx _ H1 _ O1 (st1.set d1) s1 q1) q⟩
noncomputable def sRet (te:DT):DTS:=fun D ρ=>te ρ fun d ρ'=>D.rt (.dat d) ρ'
theorem ds_ret (he:DE X F e te):DS X F (.Return (some e) pos) (sRet te):=
 (ps_ret he.pe).imp fun D σ H ⟨ρ,O,DD,st,q,f⟩=>⟨ρ,O,st,he.mn _ _ _ (fun d ρ1 q1 v H1 O1 st1 s1 d1=>f.rt v σ H1 (.dat d) ρ1 O1 [] (res_dat st1 d1) s1 q1) q⟩
noncomputable def sRetO (to:DTO):DTS:=fun D ρ=>to ρ fun c ρ'=>D.rt c ρ'
theorem ds_retO (he:DO X F e to):DS X F (.Return (some e) pos) (sRetO to):=
 (ps_ret he.pe).imp fun D σ H ⟨ρ,O,DD,st,q,f⟩=>⟨ρ,O,st,he.mn _ _ _ (fun c ρ1 q1 v H1 O1 fp r s1=>f.rt v σ H1 c ρ1 O1 fp r s1 q1) q⟩
noncomputable def sRetMv (i:Nat):DTS:=fun D ρ=>∃ b,ρ[i]? = some (some (.own false b))/\D.rt (.own false b) (ρ.set i none)
theorem ds_retMv {i:Nat} {p1:Pos} (hv:PE X (.Name x p1) (tVar i)):DS X F (.Return (some (.Name x p1)) pos) (sRetMv i):=
 (ps_ret hv).imp fun D σ H ⟨ρ,O,DD,st,⟨b,e,q⟩,f⟩=>by
  obtain ⟨a,fp,O',h1,h2,h3,h4,h5,h6,_⟩:=st.take e
  exact ⟨_,h1,f.rt _ σ H (.own false b) _ O' fp ⟨h2,⟨a,rfl,h3⟩,h6⟩ h4 q⟩
noncomputable def sSetO (i:Nat) (to:DTO):DTS:=fun D ρ=>to ρ fun c ρ'=>i < ρ'.length/\(∀ b,c ≠ .own true b)/\D.nx (ρ'.set i (some c))
theorem ds_setO {i:Nat} {pos':Pos} (hN:X.N.Nodup) (hi:X.N[i]? = some x) (hx:Loc X.env.scope x) (he:DO X F e to) (hs:swapsWith e (some (.Name x pos')) pos.line X.env=pure false:=by rfl)
  (hf:X.fn x=true\/X.env.scope.names.lookup x=some .local:=by first | exact .inl rfl | exact .inr rfl | assumption):DS X F (.Assign [.Name x pos'] e pos) (sSetO i to):=
 (ps_set hN hi hx he.pe hs hf).imp fun D σ H ⟨ρ,O,DD,st,q,f⟩=>⟨ρ,O,st,he.mn _ _ _ (fun c ρ1 ⟨hl,hn,q1⟩ v H1 O1 fp r s1=>by
  obtain ⟨O2,st2,s2⟩:=DSt.put1 (io:=true) r.st r.at_ r.new hl (fun b z=>absurd z (hn b))
  exact f.nx _ H1 _ O2 st2 (s1.trans s2) q1) q⟩
noncomputable def sDropO (to:DTO):DTS:=fun D ρ=>to ρ fun _ ρ'=>D.nx ρ'
theorem ds_exprO (he:DO X F e to) (hs:swapsWith e none pos.line X.env=pure false:=by rfl):DS X F (.Expr e pos) (sDropO to):=
 (ps_expr he.pe hs).imp fun D σ H ⟨ρ,O,DD,st,q,f⟩=>⟨ρ,O,st,he.mn _ _ _ (fun c ρ1 q1 v H1 O1 fp r s1=>by
  obtain ⟨O2,st2,s2⟩:=r.drop
  exact f.nx _ _ _ _ st2 (s1.trans s2) q1) q⟩
noncomputable def sIf (tc:DTT) (t u:DTS):DTS:=fun D ρ=>tc ρ fun b ρ'=>if b=true then t D ρ' else u D ρ'
theorem ds_if {c:Expr} {a b:List Stmt} (hc:DB X F c tc) (ha:DSs X F a t) (hb:DSs X F b u):DS X F (.If c a b pos) (sIf tc t u):=
 (ps_if hc.pt ha hb).imp fun D σ H ⟨ρ,O,DD,st,q,f⟩=>⟨ρ,O,st,hc.mn _ _ _ (fun b ρ1 q1 H1 O1 st1 s1=>by
  cases b with
  | true=>exact iteT ⟨ρ1,O1,DD,st1,ofT q1,f.later s1⟩
  | false=>exact iteF ⟨ρ1,O1,DD,st1,ofF q1,f.later s1⟩) q⟩
end
end L2.L3
namespace L2.L3
open PySem PySem.Spec PyProof.Rows
inductive OutF where
 | rt (c:Cell) (outs:List Bx) | ex (c:Str) (outs:List Bx) | bad
noncomputable abbrev FM:=List Cell->OutF
inductive ArgsAt (K:PySem.W.Frag) (H:Hp) (O:List Addr):List V->List Cell->List (List Addr)->Prop where
 | nil:ArgsAt K H O [] [] []
 | dat {v:V} {d:PyData} {vs:List V} {cs:List Cell} {fps:List (List Addr)}:DV (hide O H) v d->ArgsAt K H O vs cs fps->ArgsAt K H O (v :: vs) (.dat d :: cs) ([] :: fps)
 | oth {v:V} {c:Cell} {vs:List V} {cs:List Cell} {fps:List (List Addr)}:(∀ d,c ≠ .dat d)->(∀ io b,c ≠ .own io b)->CellAt K H O v c []->ArgsAt K H O vs cs fps->ArgsAt K H O (v :: vs) (c :: cs) ([] :: fps)
 | own {a:Addr} {b:Bx} {fp:List Addr} {vs:List V} {cs:List Cell} {fps:List (List Addr)}:BoxAt (hide O H) H a b fp->ArgsAt K H O vs cs fps->ArgsAt K H O (.ref a :: vs) (.own true b :: cs) (fp :: fps)
inductive OutsAt (H:Hp) (O:List Addr):List V->List Cell->List Bx->List (List Addr)->Prop where
 | nil:OutsAt H O [] [] [] []
 | skip {v:V} {c:Cell} {vs:List V} {cs:List Cell} {bs:List Bx} {fps:List (List Addr)}:(∀ io b,c ≠ .own io b)->OutsAt H O vs cs bs fps->OutsAt H O (v :: vs) (c :: cs) bs fps
 | own {a:Addr} {io:Bool} {b b':Bx} {fp:List Addr} {vs:List V} {cs:List Cell} {bs:List Bx} {fps:List (List Addr)}:BoxAt (hide O H) H a b' fp->OutsAt H O vs cs bs fps->OutsAt H O (.ref a :: vs) (.own io b :: cs) (b' :: bs) (fp :: fps)
structure Beh (H H':Hp) (L L' O₀:List Addr):Prop where
 nd:(L' ++ O₀).Nodup
 live:∀ a ∈ L',∃ o,H' a=some o/\Mv o
 keep:∀ b o,b ∉ L->H b=some o->H' b=some o
 new:∀ a ∈ L',a ∈ L\/H a=none
noncomputable def spF (K:PySem.W.Frag) (mg:Str->Option Value) (f:FM):Sp:=fun vs H Q E=>GH mg H/\∃ (cs:List Cell) (fps:List (List Addr)) (O₀:List Addr),ArgsAt K H (fps.flatten ++ O₀) vs cs fps/\(fps.flatten ++ O₀).Nodup/\(∀ a ∈ fps.flatten ++ O₀,∃ o,H a=some o/\Mv o)/\
 match f cs with
 | .rt c outs=>∀ v H' fp fps',CellAt K H' (fps'.flatten ++ fp ++ O₀) v c fp->OutsAt H' (fps'.flatten ++ fp ++ O₀) vs cs outs fps'->Beh H H' fps.flatten (fps'.flatten ++ fp) O₀->Q v H'
 | .ex c outs=>∀ C H' fps',mg c=some C->OutsAt H' (fps'.flatten ++ O₀) vs cs outs fps'->Beh H H' fps.flatten fps'.flatten O₀->E C none H'
 | .bad=>False
theorem ArgsAt.len {K:PySem.W.Frag} {H:Hp} {O:List Addr} {vs:List V} {cs:List Cell} {fps:List (List Addr)} (h:ArgsAt K H O vs cs fps):vs.length=cs.length/\fps.length=cs.length:=by
 induction h with
 | nil=>exact ⟨rfl,rfl⟩
 | dat _ _ ih=>exact ⟨congrArg Nat.succ ih.1,congrArg Nat.succ ih.2⟩
 | oth _ _ _ _ ih=>exact ⟨congrArg Nat.succ ih.1,congrArg Nat.succ ih.2⟩
 | own _ _ ih=>exact ⟨congrArg Nat.succ ih.1,congrArg Nat.succ ih.2⟩
theorem ArgsAt.get {K:PySem.W.Frag} {H:Hp} {O:List Addr} {vs:List V} {cs:List Cell} {fps:List (List Addr)} (h:ArgsAt K H O vs cs fps):∀ (i:Nat) (c:Cell),cs[i]? = some c->∃ v fp,vs[i]? = some v/\fps[i]? = some fp/\CellAt K H O v c fp:=by
 induction h with
 | nil=>intro i c e; simp at e
 | dat h _ ih=>
  intro i c e
  cases i with
  | zero=>simp at e; subst e; exact ⟨_,_,rfl,rfl,h⟩
  | succ i=>exact ih i c (by simpa using e)
 | oth _ _ h _ ih=>
  intro i c e
  cases i with
  | zero=>simp at e; subst e; exact ⟨_,_,rfl,rfl,h⟩
  | succ i=>exact ih i c (by simpa using e)
 | own h _ ih=>
  intro i c e
  cases i with
  | zero=>simp at e; subst e; exact ⟨_,_,rfl,rfl,⟨_,rfl,h⟩⟩
  | succ i=>exact ih i c (by simpa using e)
theorem ArgsAt.mono {K:PySem.W.Frag} {H:Hp} {O O':List Addr} {vs:List V} {cs:List Cell} {fps:List (List Addr)} (h:ArgsAt K H O vs cs fps) (s:Stp O H O' H):ArgsAt K H O' vs cs fps:=by
 induction h with
 | nil=>exact .nil
 | dat h _ ih=>exact .dat (DV.mono s.hid h) ih
 | oth h1 h2 h _ ih=>exact .oth h1 h2 (h.keep s (fun _ _=>rfl) (fun _ _ _ e=>e)) ih
 | own h _ ih=>exact .own (h.keep (fun _ _=>rfl) s.hid) ih
theorem OutsAt.mono {H:Hp} {O O':List Addr} {vs:List V} {cs:List Cell} {bs:List Bx} {fps:List (List Addr)} (h:OutsAt H O vs cs bs fps) (s:Stp O H O' H):OutsAt H O' vs cs bs fps:=by
 induction h with
 | nil=>exact .nil
 | skip h1 _ ih=>exact .skip h1 ih
 | own h _ ih=>exact .own (h.keep (fun _ _=>rfl) s.hid) ih
inductive OutS where
 | nx (ρ:DEnv) | rt (c:Cell) (ρ:DEnv) | bk (ρ:DEnv) | ct (ρ:DEnv) | ex (c:Str) (ρ:DEnv) | bad
noncomputable abbrev SM:=DEnv->OutS
noncomputable def wpS (E:Str->DEnv->Prop) (m:SM):DTS:=fun D ρ=>match m ρ with
 | .nx ρ'=>D.nx ρ'
 | .rt c ρ'=>D.rt c ρ'
 | .bk ρ'=>D.bk ρ'
 | .ct ρ'=>D.ct ρ'
 | .ex c ρ'=>E c ρ'
 | .bad=>False
@[simp] noncomputable def outsOf:List Cell->DEnv->Option (List Bx)
 | [],_=>some []
 | .own _ _ :: cs,some (.own true b) :: ρ=>(outsOf cs ρ).map (b :: ·)
 | .own _ _ :: _,_=>none
 | _ :: cs,_ :: ρ=>outsOf cs ρ
 | _ :: _,[]=>none
@[simp] noncomputable def fnM (n N:Nat) (m:SM):FM:=fun cs=>if cs.length=n then (match m (cs.map some ++ List.replicate (N - n) none) with
 | .nx ρ=>(match outsOf cs ρ with | some o=>.rt (.dat .none) o | none=>.bad)
 | .rt c ρ=>(match outsOf cs ρ with | some o=>.rt c o | none=>.bad)
 | .ex c ρ=>(match outsOf cs ρ with | some o=>.ex c o | none=>.bad)
 | _=>.bad) else .bad
section
variable {K:PySem.W.Frag} {F:Fx} {H:Hp} {σ:St} {ρ:DEnv} {W:List (List Addr)}
theorem drop_cons {α:Type} {l:List α} {k:Nat} {x:α} {r:List α} (h:l.drop k=x :: r):l[k]? = some x/\l.drop (k + 1)=r:=by
 constructor
 ·rw [<-List.head?_drop,h]; rfl
 ·rw [<-List.drop_drop,h]; rfl
theorem exit_go (st:DStW K F H σ ρ W):∀ (cs:List Cell) (vs:List V) (k:Nat) (outs:List Bx),vs.length=cs.length->(∀ (i:Nat) io b,cs[i]? = some (.own io b)->vs[i]? = some (.ref (F.I₀ (k + i))))->outsOf cs (ρ.drop k)=some outs->
  ∃ fps,OutsAt H (W.flatten ++ F.O₀) vs cs outs fps/\fps.flatten.Sublist (W.drop k).flatten
 | [],[],k,outs,_,_,e=>by cases e; exact ⟨[],.nil,by simp⟩
 | [],_ :: _,_,_,hl,_,_=>by cases hl
 | _ :: _,[],_,_,hl,_,_=>by cases hl
 | c :: cs,v :: vs,k,outs,hl,hI,e=>by
  have hl':vs.length=cs.length:=Nat.succ.inj hl
  have hI':∀ (i:Nat) io b,cs[i]? = some (.own io b)->vs[i]? = some (.ref (F.I₀ (k + 1 + i))):=fun i io b h=>by
   have:=hI (i + 1) io b (by simpa using h)
   rw [show k + 1 + i=k + (i + 1) by omega]
   simpa using this
  have sub1:(W.drop (k + 1)).flatten.Sublist (W.drop k).flatten:=by
   cases hw:W.drop k with
   | nil=>rw [show W.drop (k + 1)=[] from by rw [<-List.drop_drop,hw]; rfl]; exact List.Sublist.refl _
   | cons w r=>rw [(drop_cons hw).2,List.flatten_cons]; exact List.sublist_append_right _ _
  cases hd:ρ.drop k with
  | nil=>
   rw [hd] at e
   cases c with
   | own io b=>cases e
   | dat d=>cases e
   | scr n=>cases e
   | exc n=>cases e
   | vw n=>cases e
  | cons x r=>
   obtain ⟨h1,h2⟩:=drop_cons hd
   rw [hd] at e
   have nonown:(∀ io b,c ≠ .own io b)->outsOf cs r=some outs->∃ fps,OutsAt H (W.flatten ++ F.O₀) (v :: vs) (c :: cs) outs fps/\fps.flatten.Sublist (W.drop k).flatten:=fun hn he=>by
    obtain ⟨fps,o,s⟩:=exit_go st cs vs (k + 1) outs hl' hI' (by rw [h2]; exact he)
    exact ⟨fps,.skip hn o,s.trans sub1⟩
   cases c with
   | dat d=>exact nonown (fun _ _ z=>by cases z) e
   | scr n=>exact nonown (fun _ _ z=>by cases z) e
   | exc n=>exact nonown (fun _ _ z=>by cases z) e
   | vw n=>exact nonown (fun _ _ z=>by cases z) e
   | own io b=>
    cases x with
    | none=>cases e
    | some x=>
     cases x with
     | dat d=>cases e
     | scr n=>cases e
     | exc n=>cases e
     | vw n=>cases e
     | own io' b'=>
      cases io' with
      | false=>cases e
      | true=>
       cases q:outsOf cs r with
       | none=>simp [outsOf,q] at e
       | some o'=>
        simp [outsOf,q] at e
        subst e
        obtain ⟨fps,o,s⟩:=exit_go st cs vs (k + 1) o' hl' hI' (by rw [h2]; exact q)
        obtain ⟨u,fp,e1,e2,a,rfl,bx⟩:=st.at_ k _ h1
        have e3:=st.io k b' h1
        rw [e1] at e3
        have ea:a=F.I₀ k:=by cases e3; rfl
        have hv:=hI 0 io b rfl
        have hv':v=.ref a:=by rw [ea]; simpa using hv
        subst hv'
        refine ⟨fp :: fps,.own bx o,?_⟩
        cases hw:W.drop k with
        | nil=>rw [<-List.head?_drop,hw] at e2; cases e2
        | cons w wr=>
         obtain ⟨w1,w2⟩:=drop_cons hw
         rw [e2] at w1
         cases w1
         rw [List.flatten_cons,List.flatten_cons]
         rw [w2] at s
         exact List.Sublist.append (List.Sublist.refl _) s
end
theorem flat_rep {α:Type} (n:Nat):(List.replicate n ([]:List α)).flatten=[]:=by induction n with | zero=>rfl | succ n ih=>rw [List.replicate_succ,List.flatten_cons,ih]; rfl
noncomputable def startD (N n:Nat) (cs:List Cell):DEnv:=cs.map some ++ List.replicate (N - n) none
section
variable {P:Program} {w:World} {K:PySem.W.Frag} {mg:Str->Option Value} {base:Heap} {x qual:Str} {st:Stmt} {f:Addr} {fd:FuncData} {N ps:List Str} {k:Nat} {m:SM}
noncomputable def ioAt (vs:List V) (i:Nat):Addr:=match vs[i]? with
 | some (.ref a)=>a
 | _=>0
theorem dst_start {H:Hp} {vs:List V} {cs:List Cell} {fps:List (List Addr)} {O₀:List Addr} (ha:ArgsAt K H (fps.flatten ++ O₀) vs cs fps) (nd:(fps.flatten ++ O₀).Nodup) (live:∀ a ∈ fps.flatten ++ O₀,∃ o,H a=some o/\Mv o) (hl:cs.length<=N.length) :
  DStW K ⟨H,fps.flatten,O₀,ioAt vs⟩ H (start N vs) (startD N.length cs.length cs) (fps ++ List.replicate (N.length - cs.length) []):=by
 have fl:(fps ++ List.replicate (N.length - cs.length) ([]:List Addr)).flatten=fps.flatten:=by rw [List.flatten_append,flat_rep,List.append_nil]
 obtain ⟨l1,l2⟩:=ha.len
 have get:∀ (i:Nat) c,(startD N.length cs.length cs)[i]? = some (some c)->cs[i]? = some c:=fun i c e=>by
  unfold startD at e
  by_cases h:i < cs.length
  ·rw [List.getElem?_append_left (by simpa using h),List.getElem?_map] at e
   obtain ⟨d,h1,h2⟩:=Option.map_eq_some_iff.mp e
   cases h2
   exact h1
  ·rw [List.getElem?_append_right (by simpa using Nat.le_of_not_lt h),List.getElem?_replicate] at e
   split at e <;> cases e
 have put:∀ (i:Nat) v,vs[i]? = some v->(start N vs)[i]? = some (some v):=fun i v e=>by
  unfold start
  rw [List.getElem?_append_left (by simpa using (List.getElem?_eq_some_iff.mp e).1),List.getElem?_map,e]
  rfl
 refine ⟨fun i c e=>?_,by rw [fl]; exact nd,fun _ _ _ h=>h,fun a h=>.inl (by rw [fl] at h; exact h),by rw [fl]; exact live,?_,?_,fun i b e=>?_⟩
 ·obtain ⟨v,fp,h1,h2,h3⟩:=ha.get i c (get i c e)
  exact ⟨v,fp,put i v h1,by rw [List.getElem?_append_left (List.getElem?_eq_some_iff.mp h2).1]; exact h2,by rw [fl]; exact h3⟩
 ·unfold startD start
  rw [List.length_append,List.length_append,List.length_map,List.length_map,List.length_replicate,List.length_replicate,l1]
 ·unfold startD
  rw [List.length_append,List.length_append,List.length_map,List.length_replicate,List.length_replicate,l2]
 ·obtain ⟨v,fp,h1,h2,a,rfl,h3⟩:=ha.get i _ (get i _ e)
  rw [put i _ h1]
  show _=some (some (V.ref (ioAt vs i)))
  unfold ioAt
  rw [h1]
theorem ArgsAt.ios {H:Hp} {O:List Addr} {vs:List V} {cs:List Cell} {fps:List (List Addr)} (h:ArgsAt K H O vs cs fps):∀ (i:Nat) io b,cs[i]? = some (.own io b)->vs[i]? = some (.ref (ioAt vs (0 + i))):=fun i io b e=>by
 obtain ⟨v,fp,h1,_,a,rfl,_⟩:=h.get i _ e
 rw [Nat.zero_add]
 unfold ioAt
 rw [h1]
theorem fn_F (Fn:Fun K x qual st f fd) (S:FnScope N ps (defScope st)) (hN:ps.length<=N.length)
  (der:∀ (cdv:Value) (A:Around) (outer:List Env) (s:Shared) (H:Hp) (E:XK) (F:Fx) (E':Str->DEnv->Prop),Room k (A.deeper (envOfC qual (defScope st) s.heap.objs.size f cdv))->XOk (cxOf (CXM P w) P w K mg base N qual (defScope st) f cdv A outer s H E) F E'->
   DSs (cxOf (CXM P w) P w K mg base N qual (defScope st) f cdv A outer s H E) F (defBody st) (wpS E' m)):FnOk P w K mg base (CXM P w) (k + 1) f fd ps (spF K mg (fnM ps.length N.length m)):=by
 obtain ⟨oc,od,kV,doc,pm,an,cdv,ct,osl,rfl,lk,hcd⟩:=Fn.ex
 have hlen:∀ vs H Q E,spF K mg (fnM ps.length N.length m) vs H Q E->vs.length=ps.length:=fun vs H Q E ⟨_,cs,fps,O₀,ha,_,_,q⟩=>by
  rw [ha.len.1]
  unfold fnM at q
  by_cases h:cs.length=ps.length
  ·exact h
  ·rw [if_neg h] at q; exact q.elim
 refine fn_of lk hcd S hlen fun A outer s H vs Q E hr hsp=>?_
 have hlv:=hlen vs H Q E hsp
 obtain ⟨gh,cs,fps,O₀,ha,nd,live,q⟩:=hsp
 obtain ⟨l1,l2⟩:=ha.len
 have hlc:cs.length=ps.length:=by omega
 let F:Fx:=⟨H,fps.flatten,O₀,ioAt vs⟩
 have st0:=dst_start (N:=N) ha nd live (by omega)
 have fin:∀ {σ':St} {H':Hp} {ρ':DEnv} {O':List Addr} {fp:List Addr} {outs:List Bx},DSt K (F.plus fp) H' σ' ρ' O'->(∀ a ∈ fp,a ∈ F.A₀\/F.H₀ a=none)->outsOf cs ρ' = some outs->∃ fps',OutsAt H' (fps'.flatten ++ fp ++ O₀) vs cs outs fps'/\Beh H H' fps.flatten (fps'.flatten ++ fp) O₀/\Stp O' H' (fps'.flatten ++ fp ++ O₀) H':=by
  rintro σ' H' ρ' O' fp outs ⟨W,st',rfl⟩ hfp ho
  obtain ⟨fps',o,sb⟩:=exit_go st' cs vs 0 outs l1 (fun i io b e=>ha.ios i io b e) ho
  have sb':fps'.flatten.Sublist W.flatten:=sb
  have sub:(fps'.flatten ++ fp ++ O₀).Sublist (W.flatten ++ (fp ++ O₀)):=by rw [List.append_assoc]; exact List.Sublist.append sb' (List.Sublist.refl _)
  have stp:Stp (W.flatten ++ (fp ++ O₀)) H' (fps'.flatten ++ fp ++ O₀) H':=stp_less fun a h=>sub.subset h
  refine ⟨fps',o.mono stp,⟨st'.nd.sublist sub,fun a h=>st'.live a (sub.subset (List.mem_append_left _ h)),fun b o hb e=>st'.kept b o hb e,fun a h=>?_⟩,stp⟩
  rcases List.mem_append.mp h with h | h
  ·exact st'.new a (sb'.subset h)
  ·exact hfp a h
 have hfn:fnM ps.length N.length m cs=(match m (startD N.length ps.length cs) with
  | .nx ρ=>(match outsOf cs ρ with | some o=>.rt (.dat .none) o | none=>.bad)
  | .rt c ρ=>(match outsOf cs ρ with | some o=>.rt c o | none=>.bad)
  | .ex c ρ=>(match outsOf cs ρ with | some o=>.ex c o | none=>.bad)
  | _=>.bad):=by unfold fnM startD; rw [if_pos hlc]
 rw [hfn] at q
 rw [hlc] at st0
 let E':Str->DEnv->Prop:=fun c ρ'=>∃ outs,outsOf cs ρ' = some outs/\∀ C H' fps',mg c=some C->OutsAt H' (fps'.flatten ++ O₀) vs cs outs fps'->Beh H H' fps.flatten fps'.flatten O₀->E C none H'
 refine ⟨_,der cdv A outer s H E F E' hr (xok_fn (gh.frame fun a h=>live a (List.mem_append_left _ h)) fun c C ρ' σ' H' O' hm st' ⟨outs,ho,k⟩=>?_),?_⟩
 ·obtain ⟨fps',o,b,_⟩:=fin (fp:=[]) st' (fun a h=>by cases h) ho
  rw [List.append_nil] at o b
  exact k C H' fps' hm o b
 ·refine ⟨startD N.length ps.length cs,_,⟨fun ρ'=>∃ outs,outsOf cs ρ' = some outs/\∀ H' fps',OutsAt H' (fps'.flatten ++ [] ++ O₀) vs cs outs fps'->Beh H H' fps.flatten (fps'.flatten ++ []) O₀->Q .non H',fun c ρ'=>∃ outs,outsOf cs ρ' = some outs/\∀ v H' fp fps',CellAt K H' (fps'.flatten ++ fp ++ O₀) v c fp->OutsAt H' (fps'.flatten ++ fp ++ O₀) vs cs outs fps'->Beh H H' fps.flatten (fps'.flatten ++ fp) O₀->Q v H',fun _=>False,fun _=>False⟩,⟨_,st0,rfl⟩,?_,?_⟩
  ·unfold wpS
   cases hm:m (startD N.length ps.length cs) with
   | nx ρ'=>
    rw [hm] at q
    cases ho:outsOf cs ρ' with
    | none=>simp [ho] at q
    | some outs=>
     simp only [ho] at q
     exact ⟨outs,ho,fun H' fps' o b=>q .non H' [] fps' .non o b⟩
   | rt c ρ'=>
    rw [hm] at q
    cases ho:outsOf cs ρ' with
    | none=>simp [ho] at q
    | some outs=>
     simp only [ho] at q
     exact ⟨outs,ho,q⟩
   | ex c ρ'=>
    rw [hm] at q
    cases ho:outsOf cs ρ' with
    | none=>simp [ho] at q
    | some outs=>
     simp only [ho] at q
     exact ⟨outs,ho,q⟩
   | bk ρ'=>rw [hm] at q; exact q
   | ct ρ'=>rw [hm] at q; exact q
   | bad=>rw [hm] at q; exact q
  ·refine ⟨fun σ' H' ρ' O' st' s' ⟨outs,ho,k⟩=>?_,fun v σ' H' c ρ' O' fp r s' ⟨outs,ho,k⟩=>?_,fun _ _ _ _ _ _ z=>z.elim,fun _ _ _ _ _ _ z=>z.elim⟩
   ·obtain ⟨fps',o,b,_⟩:=fin (fp:=[]) st' (fun a h=>by cases h) ho
    exact k H' fps' o b
   ·obtain ⟨fps',o,b,stp⟩:=fin r.st r.new ho
    exact k v H' fp fps' (r.at_.keep stp (fun _ _=>rfl) (fun _ _ _ e=>e)) o b
end
end L2.L3
namespace L2.L3
open PySem PySem.Spec PyProof.Rows
inductive AX where
 | d (x:PyData) | s (j:Nat)
inductive AxAt (σ:St) (G:Hp):List V->List AX->Prop where
 | nil:AxAt σ G [] []
 | d {v:V} {x:PyData} {vs:List V} {as:List AX}:DV G v x->AxAt σ G vs as->AxAt σ G (v :: vs) (.d x :: as)
 | s {v:V} {j:Nat} {vs:List V} {as:List AX}:σ[j]? = some (some v)->AxAt σ G vs as->AxAt σ G (v :: vs) (.s j :: as)
noncomputable abbrev DTX:=DEnv->(List AX->DEnv->Prop)->Prop
noncomputable def MnX (t:DTX):Prop:=∀ ρ Q Q',(∀ d ρ',Q d ρ'->Q' d ρ')->t ρ Q->t ρ Q'
noncomputable def rdX (K:PySem.W.Frag) (F:Fx) (t:DTX):TA:=fun σ H Q=>∃ ρ O,DSt K F H σ ρ O/\t ρ fun as ρ'=>∀ vs H' O',DSt K F H' σ ρ' O'->Stp O H O' H'->AxAt σ (hide O' H') vs as->Q vs H'
structure DX (X:Cx) (F:Fx) (es:List Expr) (t:DTX):Prop where
 mn:MnX t
 pa:PA X es (rdX X.K F t)
section
variable {X:Cx} {F:Fx} {e:Expr} {es:List Expr} {te:DT} {tX:DTX} {x:Str} {p:Pos} {j:Nat}
noncomputable def xNil:DTX:=fun ρ Q=>Q [] ρ
noncomputable def xVal (te:DT) (t:DTX):DTX:=fun ρ Q=>te ρ fun d ρ1=>t ρ1 fun as ρ2=>Q (.d d :: as) ρ2
noncomputable def xSlot (j:Nat) (t:DTX):DTX:=fun ρ Q=>(∃ c,ρ[j]? = some (some c))/\t ρ fun as ρ2=>Q (.s j :: as) ρ2
theorem dx_nil:DX X F [] xNil:=⟨fun _ _ _ k q=>k _ _ q,pa_nil.imp fun σ H Q ⟨ρ,O,st,q⟩=>q [] H O st .refl .nil⟩
theorem dx_val (ha:DE X F e te) (hr:DX X F es tX) (hs:starEach (e :: es) X.env=(false,eval e X.env) :: starEach es X.env:=by rfl):DX X F (e :: es) (xVal te tX):=
 ⟨fun _ _ _ k q=>ha.mn _ _ _ (fun _ _ q1=>hr.mn _ _ _ (fun _ _ q2=>k _ _ q2) q1) q,(pa_cons ha.pe hr.pa hs).imp fun σ H Q ⟨ρ,O,st,q⟩=>
  ⟨ρ,O,st,ha.mn _ _ _ (fun d ρ1 q1 v H1 O1 st1 s1 d1=>⟨ρ1,O1,st1,hr.mn _ _ _ (fun as ρ2 q2 vs H2 O2 st2 s2 d2=>q2 (v :: vs) H2 O2 st2 (s1.trans s2) (.d (DV.mono s2.hid d1) d2)) q1⟩) q⟩⟩
theorem dx_slot (hv:PE X (.Name x p) (tVar j)) (hr:DX X F es tX) (hs:starEach (.Name x p :: es) X.env=(false,eval (.Name x p) X.env) :: starEach es X.env:=by rfl):DX X F (.Name x p :: es) (xSlot j tX):=
 ⟨fun _ _ _ k ⟨h,q⟩=>⟨h,hr.mn _ _ _ (fun _ _ q2=>k _ _ q2) q⟩,(pa_cons hv hr.pa hs).imp fun σ H Q ⟨ρ,O,st,⟨c,hc⟩,q⟩=>by
  obtain ⟨W,h,rfl⟩:=id st
  obtain ⟨v,fp,h1,h2,h3⟩:=h.at_ j c hc
  exact ⟨v,h1,ρ,_,st,hr.mn _ _ _ (fun as ρ2 q2 vs H2 O2 st2 s2 d2=>q2 (v :: vs) H2 O2 st2 s2 (.s h1 d2)) q⟩⟩
end
@[simp] noncomputable def argCells (ρ:DEnv):List AX->Option (List Cell × List (Nat × Bool))
 | []=>some ([],[])
 | .d x :: as=>(match argCells ρ as with | some (cs,js)=>some (.dat x :: cs,js) | none=>none)
 | .s j :: as=>(match argCells ρ as with
  | some (cs,js)=>(match ρ[j]? with
   | some (some (.own io b))=>if js.any (fun p=>p.1 == j) then none else some (.own true b :: cs,(j,io) :: js)
   | some (some c)=>some (c :: cs,js)
   | _=>none)
  | none=>none)
@[simp] noncomputable def clr:List (Nat × Bool)->DEnv->DEnv
 | [],ρ=>ρ
 | (j,_) :: r,ρ=>(clr r ρ).set j none
@[simp] noncomputable def back:List (Nat × Bool)->List Bx->DEnv->DEnv
 | (j,io) :: r,b :: bs,ρ=>back r bs (ρ.set j (some (.own io b)))
 | _,_,ρ=>ρ
theorem clr_len {js:List (Nat × Bool)} {ρ:DEnv}:(clr js ρ).length=ρ.length:=by
 induction js with
 | nil=>rfl
 | cons p r ih=>obtain ⟨j,io⟩:=p; rw [clr,List.length_set,ih]
theorem clr_get {js:List (Nat × Bool)} {ρ:DEnv} {i:Nat} (h:∀ p ∈ js,p.1 ≠ i):(clr js ρ)[i]? = ρ[i]?:=by
 induction js with
 | nil=>rfl
 | cons p r ih=>
  obtain ⟨j,io⟩:=p
  rw [clr,List.getElem?_set_ne (h (j,io) List.mem_cons_self),ih fun q hq=>h q (List.mem_cons_of_mem _ hq)]
inductive JsAt (σ:St) (F:Fx) (n:Nat):List V->List Cell->List (Nat × Bool)->Prop where
 | nil:JsAt σ F n [] [] []
 | skip {v:V} {c:Cell} {vs:List V} {cs:List Cell} {js:List (Nat × Bool)}:(∀ io b,c ≠ .own io b)->JsAt σ F n vs cs js->JsAt σ F n (v :: vs) (c :: cs) js
 | own {a:Addr} {io:Bool} {b:Bx} {j:Nat} {vs:List V} {cs:List Cell} {js:List (Nat × Bool)}:σ[j]? = some (some (.ref a))->(io=true->a=F.I₀ j)->j < n->JsAt σ F n vs cs js->JsAt σ F n (.ref a :: vs) (.own true b :: cs) ((j,io) :: js)
section
variable {K:PySem.W.Frag} {F:Fx} {H H':Hp} {σ:St} {ρ:DEnv} {O O':List Addr}
theorem take_all (st:DSt K F H σ ρ O):∀ (as:List AX) (vs:List V) (cs:List Cell) (js:List (Nat × Bool)),argCells ρ as=some (cs,js)->AxAt σ (hide O H) vs as->
  ∃ fps O',DSt K (F.plus fps.flatten) H σ (clr js ρ) O'/\ArgsAt K H O' vs cs fps/\Stp O H O' H/\Stp O' H O H/\(∀ a ∈ fps.flatten,a ∈ F.A₀\/F.H₀ a=none)/\JsAt σ F ρ.length vs cs js
 | [],vs,cs,js,e,h=>by
  cases e
  cases h
  refine ⟨[],O,st,.nil,.refl,.refl,?_,.nil⟩
  intro a h
  cases h
 | .d x :: as,vs,cs,js,e,h=>by
  cases h with
  | d hv hr=>
   unfold argCells at e
   cases q:argCells ρ as with
   | none=>rw [q] at e; cases e
   | some p=>
    obtain ⟨cs',js'⟩:=p
    rw [q] at e
    simp only [Option.some.injEq,Prod.mk.injEq] at e
    obtain ⟨e1,e2⟩:=e
    obtain ⟨fps,O',st',ar,s1,s2,nw,ja⟩:=take_all st as _ cs' js' q hr
    subst e1 e2
    exact ⟨[] :: fps,O',st',.dat (DV.mono s1.hid hv) ar,s1,s2,nw,.skip (fun _ _ z=>by cases z) ja⟩
 | .s j :: as,vs,cs,js,e,h=>by
  cases h with
  | @s v _ vs _ hv hr=>
   unfold argCells at e
   cases q:argCells ρ as with
   | none=>rw [q] at e; cases e
   | some p=>
    obtain ⟨cs',js'⟩:=p
    rw [q] at e
    obtain ⟨fps,O',st',ar,s1,s2,nw,ja⟩:=take_all st as _ cs' js' q hr
    cases hc:ρ[j]? with
    | none=>rw [hc] at e; cases e
    | some oc=>
     cases oc with
     | none=>rw [hc] at e; cases e
     | some c=>
      rw [hc] at e
      obtain ⟨W,stw,hOW⟩:=id st
      obtain ⟨v',fp',h1,h2,h3⟩:=stw.at_ j c hc
      rw [hv] at h1
      have ev:v' = v:=by cases h1; rfl
      subst ev
      rw [<-hOW] at h3
      have other:(∀ io b,c ≠ .own io b)->∃ fps O',DSt K (F.plus fps.flatten) H σ (clr js' ρ) O'/\ArgsAt K H O' (v' :: vs) (c :: cs') fps/\Stp O H O' H/\Stp O' H O H/\(∀ a ∈ fps.flatten,a ∈ F.A₀\/F.H₀ a=none)/\JsAt σ F ρ.length (v' :: vs) (c :: cs') js':=fun hn=>by
       refine ⟨[] :: fps,O',st',?_,s1,s2,nw,.skip hn ja⟩
       cases c with
       | dat d=>exact .dat (DV.mono s1.hid h3) ar
       | own io b=>exact absurd rfl (hn io b)
       | scr ns=>exact .oth (fun _ z=>by cases z) (fun _ _ z=>by cases z) (CellAt.keep (c:=.scr ns) (fp:=[]) h3 s1 (fun _ _=>rfl) (fun _ _ _ e=>e)) ar
       | exc n=>exact .oth (fun _ z=>by cases z) (fun _ _ z=>by cases z) (CellAt.keep (c:=.exc n) (fp:=[]) h3 s1 (fun _ _=>rfl) (fun _ _ _ e=>e)) ar
       | vw n=>exact .oth (fun _ z=>by cases z) (fun _ _ z=>by cases z) (CellAt.keep (c:=.vw n) (fp:=[]) h3 s1 (fun _ _=>rfl) (fun _ _ _ e=>e)) ar
      cases c with
      | dat d=>
       simp only [Option.some.injEq,Prod.mk.injEq] at e
       rw [<-e.1,<-e.2]; exact other (fun _ _ z=>by cases z)
      | scr ns=>
       simp only [Option.some.injEq,Prod.mk.injEq] at e
       rw [<-e.1,<-e.2]; exact other (fun _ _ z=>by cases z)
      | exc n=>
       simp only [Option.some.injEq,Prod.mk.injEq] at e
       rw [<-e.1,<-e.2]; exact other (fun _ _ z=>by cases z)
      | vw n=>
       simp only [Option.some.injEq,Prod.mk.injEq] at e
       rw [<-e.1,<-e.2]; exact other (fun _ _ z=>by cases z)
      | own io b=>
       by_cases hj:js'.any (fun p=>p.1 == j)=true
       ·simp only [if_pos hj] at e; cases e
       ·simp only [if_neg hj,Option.some.injEq,Prod.mk.injEq] at e
        rw [<-e.1,<-e.2]
        have hjs:∀ p ∈ js',p.1 ≠ j:=fun p hp z=>hj (List.any_eq_true.mpr ⟨p,hp,by simp [z]⟩)
        obtain ⟨a,fp,O2,t1,t2,t3,t4,t5,t6,t7⟩:=st'.take (i:=j) (io:=io) (b:=b) (by rw [clr_get hjs]; exact hc)
        rw [hv] at t1
        have ev:v' = .ref a:=by cases t1; rfl
        subst ev
        rw [Fx.plus_plus] at t2
        refine ⟨fp :: fps,O2,t2,.own t3 (ar.mono t4),s1.trans t4,t5.trans s2,fun x hx=>?_,.own hv t7 (List.getElem?_eq_some_iff.mp hc).1 ja⟩
        rcases List.mem_append.mp hx with hx | hx
        ·exact t6 x hx
        ·exact nw x hx
theorem give_all {fp:List Addr} {n:Nat} {vs:List V} {cs:List Cell} {js:List (Nat × Bool)} (ja:JsAt σ F n vs cs js):∀ {outs:List Bx} {fps:List (List Addr)} {ρ:DEnv} {O:List Addr},ρ.length=n->DSt K (F.plus (fps.flatten ++ fp)) H σ ρ O->OutsAt H O vs cs outs fps->(∀ a ∈ fps.flatten,a ∈ F.A₀\/F.H₀ a=none)->
  ∃ O',DSt K (F.plus fp) H σ (back js outs ρ) O'/\Stp O H O' H:=by
 induction ja with
 | nil=>
  intro outs fps ρ O hn st oa nw
  cases oa
  exact ⟨O,st,.refl⟩
 | skip hn' _ ih=>
  intro outs fps ρ O hn st oa nw
  cases oa with
  | skip _ oa=>exact ih hn st oa nw
  | own _ _=>exact absurd rfl (hn' _ _)
 | @own a io b j vs cs js h1 h2 h3 ja ih=>
  intro outs fps ρ O hn st oa nw
  cases oa with
  | skip hn' _=>exact absurd rfl (hn' _ _)
  | @own _ _ _ b' f1 _ _ bs fr hb oa=>
   have st':DSt K ((F.plus (fr.flatten ++ fp)).plus f1) H σ ρ O:=by rw [Fx.plus_plus,<-List.append_assoc]; exact st
   obtain ⟨O1,st1,s1⟩:=DSt.put1 (io:=true) (c:=.own io b') (v:=.ref a) (i:=j) st' ⟨a,rfl,hb⟩ (fun x hx=>nw x (by rw [List.flatten_cons]; exact List.mem_append_left _ hx)) (by rw [hn]; exact h3) (fun b z=>by cases z; rw [h2 rfl]; rfl)
   have eσ:σ.set j (some (.ref a))=σ:=by
    apply List.ext_getElem?
    intro i
    by_cases hj:i=j
    ·subst hj; rw [List.getElem?_set_self (List.getElem?_eq_some_iff.mp h1).1,h1]
    ·rw [List.getElem?_set_ne (Ne.symm hj)]
   rw [eσ] at st1
   obtain ⟨O2,st2,s2⟩:=ih (by rw [List.length_set]; exact hn) st1 (oa.mono s1) (fun x hx=>nw x (by rw [List.flatten_cons]; exact List.mem_append_right _ hx))
   exact ⟨O2,st2,s1.trans s2⟩
end
noncomputable def callOn (f:FM) (E:Str->DEnv->Prop) (Q:Cell->DEnv->Prop) (as:List AX) (ρ:DEnv):Prop:=match argCells ρ as with
 | some (cs,js)=>(match f cs with
  | .rt c outs=>Q c (back js outs (clr js ρ))
  | .ex c outs=>E c (back js outs (clr js ρ))
  | .bad=>False)
 | none=>False
noncomputable def dCall (f:FM) (E:Str->DEnv->Prop) (t:DTX):DTO:=fun ρ Q=>t ρ fun as ρ1=>callOn f E Q as ρ1
section
variable {X:Cx} {F:Fx} {e:Expr} {es:List Expr} {tX:DTX} {E:Str->DEnv->Prop} {pos p:Pos} {x:Str} {f:FM} {k:Nat} {g:Addr} {fd:FuncData} {ps:List Str}
theorem callOn_mn {Q Q':Cell->DEnv->Prop} {as:List AX} {ρ:DEnv} (h:∀ c ρ',Q c ρ'->Q' c ρ') (q:callOn f E Q as ρ):callOn f E Q' as ρ:=by
 unfold callOn at q ⊢
 split
 ·rename_i cs js e
  rw [e] at q
  simp only at q
  split
  ·rename_i e2; rw [e2] at q; exact h _ _ q
  ·rename_i e2; rw [e2] at q; exact q
  ·rename_i e2; rw [e2] at q; exact q
 ·rename_i e; rw [e] at q; exact q
theorem call_on {pins:List (Addr × Obj)} {σ:St} {H:Hp} {s:Shared} {Q:VK} {us:List Value} {vs:List V} {as:List AX} {ρ:DEnv} {O:List Addr} {QC:Cell->DEnv->Prop} (hx:XOk X F E) (G:FnOk X.prog X.w X.K X.mg X.base (CXM X.prog X.w) k g fd ps (spF X.K X.mg f)) (hr:Room k X.A) (hb:Binds X.K fd ps [])
  (I:Inv X pins σ H s) (r:Vals vs us) (st:DSt X.K F H σ ρ O) (ax:AxAt σ (hide O H) vs as) (q:callOn f E QC as ρ) (hQ:∀ c ρ',QC c ρ'->∀ v H' O' fp,Res X.K F H' σ ρ' O' v c fp->Stp O H O' H'->Q v H') :
  wpAny (model X.prog X.w) X.A (call (.ref g) us) (EP X pins σ Q) X.xe s:=by
 unfold callOn at q
 cases hc:argCells ρ as with
 | none=>rw [hc] at q; exact q.elim
 | some p=>
  obtain ⟨cs,js⟩:=p
  rw [hc] at q
  simp only at q
  obtain ⟨fps,O2,st2,ar,s1,s1',nw,ja⟩:=take_all st as vs cs js hc ax
  obtain ⟨W,stw,hO2⟩:=id st2
  have ndO:(W.flatten ++ (fps.flatten ++ F.O₀)).Nodup:=stw.nd
  have memO:∀ a,a ∈ O2 ↔ a ∈ fps.flatten ++ (W.flatten ++ F.O₀):=fun a=>by
   rw [hO2]
   show a ∈ W.flatten ++ (fps.flatten ++ F.O₀) ↔ _
   simp only [List.mem_append]
   constructor
   ·rintro (h | h | h) <;> simp [h]
   ·rintro (h | h | h) <;> simp [h]
  have perm:(fps.flatten ++ (W.flatten ++ F.O₀)).Perm (W.flatten ++ (fps.flatten ++ F.O₀)):=by
   rw [<-List.append_assoc,<-List.append_assoc]
   exact List.Perm.append_right _ List.perm_append_comm
  have nd1:(fps.flatten ++ (W.flatten ++ F.O₀)).Nodup:=perm.nodup_iff.mpr ndO
  have stE:Stp O2 H (fps.flatten ++ (W.flatten ++ F.O₀)) H:=stp_less fun a h=>(memO a).mpr h
  have back2:∀ (H':Hp) (L':List Addr) (a:Addr),(a ∈ L' ++ (W.flatten ++ F.O₀))->a ∈ L'\/(a ∈ O2/\a ∉ fps.flatten):=fun H' L' a h=>by
   rcases List.mem_append.mp h with h | h
   ·exact .inl h
   ·refine .inr ⟨(memO a).mpr (List.mem_append_right _ h),fun z=>?_⟩
    exact (List.nodup_append.mp nd1).2.2 a z a h rfl
  have swapped:∀ (H':Hp) (L':List Addr),Beh H H' fps.flatten L' (W.flatten ++ F.O₀)->∃ O3,DSt X.K (F.plus L') H' σ (clr js ρ) O3/\Stp O2 H O3 H'/\∀ a,a ∈ O3 ↔ a ∈ L' ++ (W.flatten ++ F.O₀):=fun H' L' bh=>by
   obtain ⟨O3,t1,t2,t3,t4,t5⟩:=st2.swap (H':=H') (L':=L') bh.keep (List.nodup_append.mp bh.nd).1 bh.new nw bh.live
   refine ⟨O3,t1,t2,fun a=>⟨fun h=>?_,fun h=>?_⟩⟩
   ·rcases t4 a h with z | ⟨z1,z2⟩
    ·exact List.mem_append_left _ z
    ·rcases List.mem_append.mp ((memO a).mp z1) with z | z
     ·exact absurd z z2
     ·exact List.mem_append_right _ z
   ·rcases back2 H' L' a h with z | ⟨z1,z2⟩
    ·exact t3 a z
    ·exact t5 a z1 z2
  have r2:Vals (vs ++ []) (us ++ []):=by rw [List.append_nil,List.append_nil]; exact r
  let EX:XK:=fun C _ H'=>∃ c ρ' O',X.mg c=some C/\DSt X.K F H' σ ρ' O'/\E c ρ'
  have sp:spF X.K X.mg f vs H Q EX:=by
   refine ⟨hx.1.at st,cs,fps,W.flatten ++ F.O₀,ar.mono stE,nd1,fun a h=>?_,?_⟩
   ·exact stw.live a (by have:=(memO a).mpr h; rw [hO2] at this; exact this)
   ·cases hf:f cs with
    | bad=>rw [hf] at q; exact q
    | rt c outs=>
     rw [hf] at q
     simp only at q ⊢
     intro v H' fp fps' hca hou bh
     obtain ⟨O3,t1,t2,t3⟩:=swapped H' (fps'.flatten ++ fp) bh
     have eq3:Stp (fps'.flatten ++ fp ++ (W.flatten ++ F.O₀)) H' O3 H':=stp_less fun a h=>(t3 a).mp h
     have nwo:∀ a ∈ fps'.flatten ++ fp,a ∈ F.A₀\/F.H₀ a=none:=fun a h=>by
      rcases bh.new a h with z | z
      ·exact nw a z
      ·by_cases hA:a ∈ F.A₀
       ·exact .inl hA
       ·refine .inr ?_
        cases e:F.H₀ a with
        | none=>rfl
        | some o=>have:=stw.kept a o hA e; rw [z] at this; cases this
     have lj:(clr js ρ).length=ρ.length:=clr_len
     obtain ⟨O4,u1,u2⟩:=give_all (fp:=fp) ja lj t1 (hou.mono eq3) fun a h=>nwo a (List.mem_append_left _ h)
     exact hQ c _ q v H' O4 fp ⟨u1,hca.keep (eq3.trans u2) (fun _ _=>rfl) (fun _ _ _ e=>e),fun a h=>nwo a (List.mem_append_right _ h)⟩ (s1.trans (t2.trans u2))
    | ex c outs=>
     rw [hf] at q
     simp only at q ⊢
     intro C H' fps' hm hou bh
     obtain ⟨O3,t1,t2,t3⟩:=swapped H' fps'.flatten bh
     have eq3:Stp (fps'.flatten ++ (W.flatten ++ F.O₀)) H' O3 H':=stp_less fun a h=>(t3 a).mp h
     have nwo:∀ a ∈ fps'.flatten,a ∈ F.A₀\/F.H₀ a=none:=fun a h=>by
      rcases bh.new a h with z | z
      ·exact nw a z
      ·by_cases hA:a ∈ F.A₀
       ·exact .inl hA
       ·refine .inr ?_
        cases e:F.H₀ a with
        | none=>rfl
        | some o=>have:=stw.kept a o hA e; rw [z] at this; cases this
     have lj:(clr js ρ).length=ρ.length:=clr_len
     obtain ⟨O4,u1,u2⟩:=give_all (fp:=[]) ja lj (by rw [List.append_nil]; exact t1) (hou.mono eq3) nwo
     exact ⟨c,_,O4,hm,u1,q⟩
  have hl:(us ++ []).length=ps.length:=by rw [List.append_nil,<-r.length]; exact G.len _ _ _ _ sp
  refine wpAny_call (codeAny_mono (G.run X.A X.stack s H ⟨us,[]⟩ us vs Q EX hr I.env0 (by have:=hb s us I.kIn hl; rw [List.append_nil] at this; exact this) r sp) fun r s' hq=>?_)
  cases r with
  | error e=>
   obtain ⟨a,C,H',e1,I',cv,ex,c,ρ',O',hm,st',hE⟩:=I.flies hq
   exact hx.2 pins σ H' s' e c ρ' O' ⟨I',a,C,s.heap,_,e1,cv,ex,hm⟩ st' hE
  | ok fl=>
   cases fl with
   | ret u=>exact I.after hq
   | next=>exact False.elim hq
   | brk=>exact False.elim hq
   | cont=>exact False.elim hq
theorem do_call (hx:XOk X F E) (G:FnOk X.prog X.w X.K X.mg X.base (CXM X.prog X.w) k g fd ps (spF X.K X.mg f)) (hr:Room k X.A) (hg:Gl X x) (hm:X.mg x=some (.ref g)) (hk:PySem.W.keepIn X.K (.ref g)=true) (hb:Binds X.K fd ps [])
  (ha:DX X F (e :: es) tX) (hdb:(x == ("__debug__":Str))=false:=by decide) (he:starEach (e :: es) X.env=(false,eval e X.env) :: starEach es X.env:=by rfl) (hpl:(backTo pos (starEach es X.env)).any (·.1)=false:=by rfl) :
  DO X F (.Call (.Name x p) (e :: es) [] pos) (dCall f E tX):=by
 refine ⟨fun ρ Q Q' k q=>ha.mn _ _ _ (fun as ρ1 q1=>callOn_mn k q1) q,fun pins s σ H Q I ⟨ρ,O,st,q⟩=>?_⟩
 refine wpAny_Call_Name_kw (ld_glob I hg hm ?_ hdb)
 refine PySem.W.callWith_K (h₀:=X.base) I.ok.mod.kin hk (thn (ha.pa pos pins s σ H (fun vs H1=>∃ as ρ1 O1,DSt X.K F H1 σ ρ1 O1/\Stp O H O1 H1/\AxAt σ (hide O1 H1) vs as/\callOn f E (fun c ρ'=>∀ v H' O' fp,Res X.K F H' σ ρ' O' v c fp->Stp O H O' H'->Q v H') as ρ1) I ⟨ρ,O,st,ha.mn _ _ _ (fun as ρ1 q1 vs H1 O1 st1 s1 ax=>⟨as,ρ1,O1,st1,s1,ax,q1⟩) q⟩) fun us s1 ⟨vs,H1,I1,r,as,ρ1,O1,st1,s01,ax,q1⟩=>⟨I1.kIn,?_⟩) he hpl
 exact call_on hx G hr hb I1 r st1 ax q1 fun c ρ' h v H' O' fp res s2=>h v H' O' fp res (s01.trans s2)
end
end L2.L3
namespace L2.L3
open PySem PySem.Spec PyProof.Rows
noncomputable def OOk (H:Hp) (O:List Addr):Prop:=∀ a ∈ O,∃ o,H a=some o/\Mv o
theorem DSt.live {K:PySem.W.Frag} {F:Fx} {H:Hp} {σ:St} {ρ:DEnv} {O:List Addr} (st:DSt K F H σ ρ O):OOk H O:=by
 obtain ⟨W,h,rfl⟩:=st
 exact h.live
noncomputable abbrev DTI:=DEnv->(List PyData->DEnv->Prop)->Prop
noncomputable def Wk (O:List Addr) (H:Hp) (J:It) (its:List PyData):Prop:=∀ O' H',Stp O H O' H'->OOk H' O'->
 (∀ i d,its[i]? = some d->J.go i H'/\∀ x H'',J.yld i H' x H''->Same H' H''/\DV (hide O' H'') x d)/\J.stop its.length H'
noncomputable def rdI (K:PySem.W.Frag) (F:Fx) (s:DTI):TI:=fun σ H R=>∃ ρ O,DSt K F H σ ρ O/\s ρ fun its ρ'=>∀ J H' O',DSt K F H' σ ρ' O'->Stp O H O' H'->Wk O' H' J its->R J H'
structure DI (X:Cx) (F:Fx) (tg iter:Expr) (s:DTI):Prop where
 mn:∀ ρ Q Q',(∀ d ρ',Q d ρ'->Q' d ρ')->s ρ Q->s ρ Q'
 pi:PI X tg iter (rdI X.K F s)
theorem _root_.L2.PI.imp {X:Cx} {tg e:Expr} {t t':TI} (h:PI X tg e t) (k:∀ σ H Q,t' σ H Q->t σ H Q):PI X tg e t':=fun pins s σ H Q I q=>h pins s σ H Q I (k σ H Q q)
section
variable {X:Cx} {F:Fx} {tg e a b:Expr} {te:DT} {tA:DTA} {pos p:Pos}
noncomputable def iL (te:DT):DTI:=fun ρ Q=>te ρ fun d ρ'=>∃ ds,d=.list ds/\Q ds ρ'
noncomputable def iT (te:DT):DTI:=fun ρ Q=>te ρ fun d ρ'=>∃ ds,d=.tuple ds/\Q ds ρ'
theorem wk_list {K:PySem.W.Frag} {O:List Addr} {H:Hp} {a:Addr} {xs:List V} {ds:List PyData} (ha:hide O H a=some (.lst xs)) (hd:DVs (hide O H) xs ds):Wk O H (Itl K a) ds:=fun O' H' s ok=>by
 obtain ⟨h1,n1⟩:=of_hide ha
 have h2:=s.keep a _ n1 h1
 have hd':=DVs.mono s.hid hd
 refine ⟨fun i d e=>?_,⟨xs,.of h2,by rw [hd.length]; exact Nat.le_refl _⟩⟩
 obtain ⟨v,hv,dv⟩:=hd'.get e
 refine ⟨⟨xs,v,.of h2,hv⟩,fun x H'' ⟨e1,e2⟩=>?_⟩
 subst e1
 have:=e2 xs (.of h2)
 rw [hv] at this
 cases this
 exact ⟨fun _ _ h=>h,dv⟩
theorem wk_tup {K:PySem.W.Frag} {O:List Addr} {H:Hp} {a:Addr} {xs:List V} {ds:List PyData} (ha:Rd (hide O H) a (.tup xs)) (hd:DVs (hide O H) xs ds):Wk O H (Itt K a) ds:=fun O' H' s ok=>by
 obtain ⟨h1,n1⟩:=of_hideR ha
 have h2:Rd H' a (.tup xs):=h1.imp (fun e=>s.keep a _ n1 e) fun ⟨o,e⟩=>⟨o,s.keep a _ n1 e⟩
 have hd':=DVs.mono s.hid hd
 refine ⟨fun i d e=>?_,⟨xs,.inl h2,by rw [hd.length]; exact Nat.le_refl _⟩⟩
 obtain ⟨v,hv,dv⟩:=hd'.get e
 refine ⟨⟨xs,v,.inl h2,hv⟩,fun x H'' ⟨e1,e2⟩=>?_⟩
 subst e1
 have:=e2 xs (.inl h2)
 rw [hv] at this
 cases this
 exact ⟨fun _ _ h=>h,dv⟩
theorem di_list (h:DE X F e te):DI X F tg e (iL te):=
 ⟨fun _ _ _ k q=>h.mn _ _ _ (fun _ _ ⟨ds,e,q⟩=>⟨ds,e,k _ _ q⟩) q,(pi_list h.pe).imp fun σ H R ⟨ρ,O,st,q⟩=>
  ⟨ρ,O,st,h.mn _ _ _ (fun d ρ1 ⟨ds,e,q1⟩ v H1 O1 st1 s1 d1=>by
   subst e
   obtain ⟨a,xs,rfl,ha,hd⟩:=d1.lst_inv
   exact ⟨a,rfl,⟨xs,.of (of_hide ha).1⟩,q1 _ H1 O1 st1 s1 (wk_list ha hd)⟩) q⟩⟩
theorem di_tup (h:DE X F e te):DI X F tg e (iT te):=
 ⟨fun _ _ _ k q=>h.mn _ _ _ (fun _ _ ⟨ds,e,q⟩=>⟨ds,e,k _ _ q⟩) q,(pi_tup h.pe).imp fun σ H R ⟨ρ,O,st,q⟩=>
  ⟨ρ,O,st,h.mn _ _ _ (fun d ρ1 ⟨ds,e,q1⟩ v H1 O1 st1 s1 d1=>by
   subst e
   obtain ⟨a,xs,rfl,ha,hd⟩:=d1.tup_inv
   exact ⟨a,rfl,⟨xs,.inl (of_hideR ha).1⟩,q1 _ H1 O1 st1 s1 (wk_tup ha hd)⟩) q⟩⟩
noncomputable def intsFrom (lo:Int) (n:Nat):List PyData:=(List.range n).map fun (i:Nat)=>PyData.int (lo + i)
theorem intsFrom_length (lo:Int) (n:Nat):(intsFrom lo n).length=n:=by unfold intsFrom; rw [List.length_map,List.length_range]
theorem wk_range {O:List Addr} {H:Hp} {lo:Int} {n:Nat}:Wk O H (Itr lo n) (intsFrom lo n):=fun O' H' s ok=>by
 refine ⟨fun i d e=>?_,by show n<=(intsFrom lo n).length; rw [intsFrom_length]; exact Nat.le_refl _⟩
 unfold intsFrom at e
 rw [List.getElem?_map] at e
 obtain ⟨j,e1,e2⟩:=Option.map_eq_some_iff.mp e
 obtain ⟨hlt,e3⟩:=List.getElem?_eq_some_iff.mp e1
 rw [List.length_range] at hlt
 rw [List.getElem_range] at e3
 subst e3 e2
 exact ⟨hlt,fun x H'' ⟨q1,q2⟩=>by subst q1 q2; exact ⟨fun _ _ h=>h,.int _⟩⟩
noncomputable def iR1 (t:DTA):DTI:=fun ρ Q=>t ρ fun ds ρ'=>∃ j:Int,ds=[.int j]/\-(2 ^ 62)<=j/\j < 2 ^ 62/\Q (intsFrom 0 j.toNat) ρ'
theorem di_range1 (hg:Gl X "range") (hm:X.mg "range" = none) (ha:DA X F [a] tA) (hs:starEach [a] X.env=[(false,eval a X.env)]:=by rfl):DI X F tg (.Call (.Name "range" p) [a] [] pos) (iR1 tA):=
 ⟨fun _ _ _ k q=>ha.mn _ _ _ (fun _ _ ⟨j,e,h1,h2,q⟩=>⟨j,e,h1,h2,k _ _ q⟩) q,(pi_range1 hg hm ha.pa hs).imp fun σ H R ⟨ρ,O,st,q⟩=>
  ⟨ρ,O,st,ha.mn _ _ _ (fun ds ρ1 ⟨j,e,h1,h2,q1⟩ vs H1 O1 st1 s1 d1=>by
   subst e
   cases d1 with
   | cons d r=>
    cases r
    obtain rfl:=d.int_inv
    exact ⟨j,rfl,h1,h2,q1 _ H1 O1 st1 s1 wk_range⟩) q⟩⟩
end
noncomputable def sFor (s:DTI) (g:DTG) (tb:DTS):DTS:=fun D ρ=>s ρ fun its ρ1=>∃ Iv:Nat->DEnv->Prop,Iv 0 ρ1/\(∀ i d ρ,its[i]? = some d->Iv i ρ->g d ρ fun ρ2=>tb { D with nx:=Iv (i + 1),ct:=Iv (i + 1),bk:=D.nx } ρ2)/\∀ ρ,Iv its.length ρ->D.nx ρ
section
variable {X:Cx} {F:Fx} {tg iter:Expr} {body:List Stmt} {s:DTI} {g:DTG} {tb:DTS} {pos:Pos}
theorem ds_for (hp:PassesOwn (model X.prog X.w) X.A X.env X.xe) (hc:X.calm=true) (hi:DI X F tg iter s) (hg:DG X F tg g) (hb:DSs X F body tb) (hs:∀ x,foldedSetIterable iter X.env x=pure x:=by intro _; rfl):DS X F (.For tg iter body [] pos) (sFor s g tb):=
 (ps_for hp hc hi.pi hg.pg hb hs).imp fun D σ H ⟨ρ,O,DD,st,q,f⟩=>by
  refine ⟨ρ,O,st,hi.mn _ _ _ (fun its ρ1 ⟨Iv,i0,step,fin⟩ J H1 O1 st1 s1 wk=>?_) q⟩
  refine ⟨fun i m σ' H'=>∃ ρ' O',DSt X.K F H' σ' ρ' O'/\Stp O1 H1 O' H'/\Iv i ρ'/\i<=its.length/\m=its.length - i,⟨its.length,ρ1,O1,st1,.refl,i0,Nat.zero_le _,rfl⟩,?_⟩
  rintro i m σ' H' ⟨ρ',O',st',s',iv,hi',rfl⟩
  obtain ⟨w1,w2⟩:=wk O' H' s' st'.live
  by_cases hlt:i < its.length
  ·obtain ⟨go,yld⟩:=w1 i its[i] (List.getElem?_eq_getElem hlt)
   refine .inr ⟨go,fun σ2 H2=>∃ ρ2 O2,DSt X.K F H2 σ2 ρ2 O2/\Stp O1 H1 O2 H2/\Iv (i + 1) ρ2,fun σ2 H2 ⟨ρ2,O2,st2,s2,iv2⟩=>⟨its.length - (i + 1),by omega,ρ2,O2,st2,s2,iv2,hlt,rfl⟩,fun x H2 hy=>?_⟩
   obtain ⟨sm,dv⟩:=yld x H2 hy
   refine ⟨ρ',O',its[i],st'.grow sm,dv,hg.mn _ _ _ _ (fun ρ2 q2 σ3 H3 O3 st3 s3=>?_) (step i its[i] ρ' (List.getElem?_eq_getElem hlt) iv)⟩
   have s13:Stp O1 H1 O3 H3:=s'.trans ((Stp.same sm).trans s3)
   have nxt:∀ σ4 H4 ρ4 O4,DSt X.K F H4 σ4 ρ4 O4->Stp O3 H3 O4 H4->Iv (i + 1) ρ4->∃ ρ2 O2,DSt X.K F H4 σ4 ρ2 O2/\Stp O1 H1 O2 H4/\Iv (i + 1) ρ2:=fun σ4 H4 ρ4 O4 st4 s4 q4=>⟨ρ4,O4,st4,s13.trans s4,q4⟩
   exact ⟨ρ2,O3,_,st3,q2,⟨nxt,fun v σ4 H4 d ρ4 O4 fp4 st4 s4 q4=>f.rt v σ4 H4 d ρ4 O4 fp4 st4 (s1.trans (s13.trans s4)) q4,fun σ4 H4 ρ4 O4 st4 s4 q4=>f.nx σ4 H4 ρ4 O4 st4 (s1.trans (s13.trans s4)) q4,nxt⟩⟩
  ·have e:i=its.length:=by omega
   subst e
   exact .inl ⟨w2,f.nx σ' H' ρ' O' st' (s1.trans s') (fin ρ' iv)⟩
end
end L2.L3
namespace L2.L3
open PySem PySem.Spec PyProof.Rows
@[simp] noncomputable def capC:Option (Option Cell)->Option Cell
 | some (some (.dat d))=>some (.dat d)
 | some (some (.scr ns))=>some (.scr ns)
 | some (some (.vw b))=>some (.vw b)
 | _=>none
noncomputable def liftD (own:List Str) (caps:List Nat) (ρ:DEnv):DEnv:=own.map (fun _=>none) ++ caps.map fun j=>capC ρ[j]?
noncomputable def dCmp (own:List Str) (caps:List Nat) (s:DTI) (g:DTG) (tc:DTT) (te:DT):DT:=fun ρ Q=>s ρ fun its ρ1=>∃ Iv:Nat->List PyData->DEnv->Prop,Iv 0 [] (liftD own caps ρ1)/\
 (∀ i d ys ρ',its[i]? = some d->Iv i ys ρ'->g d ρ' fun ρ2=>tc ρ2 fun b ρ3=>if b=true then te ρ3 fun y ρ4=>ys.length < sizeLine/\Iv (i + 1) (ys ++ [y]) ρ4 else Iv (i + 1) ys ρ3)/\
 ∀ ys ρ',Iv its.length ys ρ'->ys.length<=sizeLine/\Q (.list ys) ρ1
noncomputable def MnI (s:DTI):Prop:=∀ ρ Q Q',(∀ d ρ',Q d ρ'->Q' d ρ')->s ρ Q->s ρ Q'
section
variable {K:PySem.W.Frag} {F:Fx} {own:List Str} {caps:List Nat} {s:DTI} {g:DTG} {tc:DTT} {te:DT}
theorem mn_cmp (hs:MnI s):Mn (dCmp own caps s g tc te):=fun _ _ _ k q=>hs _ _ _ (fun _ _ ⟨Iv,h0,h1,h2⟩=>⟨Iv,h0,h1,fun ys ρ' h=>⟨(h2 ys ρ' h).1,k _ _ (h2 ys ρ' h).2⟩⟩) q
theorem rd_cmp {PF:Fx->Prop} (hP:∀ H1 σ ρ1 O1 O2,DSt K F H1 σ ρ1 O1->PF ⟨H1,[],O2,fun _=>0⟩) (hs:MnI s) (hg:∀ d ρ Q Q',(∀ ρ',Q ρ'->Q' ρ')->g d ρ Q->g d ρ Q') (ht:MnT tc) (he:Mn te):∀ σ H Q,rdE K F (dCmp own caps s g tc te) σ H Q->
  tComp own caps (rdI K F s) (fun v σ H Q=>∃ F',PF F'/\rdG K F' g v σ H Q) (fun σ H Q=>∃ F',PF F'/\rdT K F' tc σ H Q) (fun σ H Q=>∃ F',PF F'/\rdE K F' te σ H Q) σ H Q:=fun σ H Q ⟨ρ,O,st,q⟩=>by
 refine ⟨ρ,O,st,hs _ _ _ (fun its ρ1 ⟨Iv,i0,step,fin⟩ J H1 O1 st1 s1 wk=>?_) q⟩
 refine ⟨fun i m ys σ' H'=>∃ ρ' O' ds,DSt K ⟨H1,[],O1,fun _=>0⟩ H' σ' ρ' O'/\Iv i ds ρ'/\DVs (hide O' H') ys ds/\i<=its.length/\m=its.length - i,⟨its.length,liftD own caps ρ1,O1,[],?_,i0,.nil,Nat.zero_le _,rfl⟩,?_⟩
 ·have cell:∀ (i:Nat) (c:Cell),(liftD own caps ρ1)[i]? = some (some c)->(∀ io b,c ≠ .own io b)/\∃ v,(liftC own caps σ)[i]? = some (some v)/\CellAt K H1 O1 v c []:=fun i c e=>by
   unfold liftD at e
   unfold liftC
   by_cases hi:i < own.length
   ·rw [List.getElem?_append_left (by simpa using hi),List.getElem?_map] at e
    cases h:own[i]? with
    | none=>rw [h] at e; cases e
    | some y=>rw [h] at e; cases e
   ·rw [List.getElem?_append_right (by simpa using Nat.le_of_not_lt hi),List.length_map,List.getElem?_map] at e
    rw [List.getElem?_append_right (by simpa using Nat.le_of_not_lt hi),List.length_map,List.getElem?_map]
    obtain ⟨j,h1,h2⟩:=Option.map_eq_some_iff.mp e
    rw [h1]
    show _/\∃ v,some ((σ[j]?).getD none)=some (some v)/\_
    cases h3:ρ1[j]? with
    | none=>rw [h3] at h2; cases h2
    | some o=>
     cases o with
     | none=>rw [h3] at h2; cases h2
     | some c'=>
      rw [h3] at h2
      obtain ⟨W,stw,rfl⟩:=id st1
      obtain ⟨v,fp,e1,_,e2⟩:=stw.at_ j c' h3
      rw [e1]
      cases c' with
      | dat d=>cases h2; exact ⟨(fun _ _ z=>by cases z),v,rfl,e2⟩
      | scr ns=>cases h2; exact ⟨(fun _ _ z=>by cases z),v,rfl,e2⟩
      | own _ _=>cases h2
      | exc _=>cases h2
      | vw b=>cases h2; exact ⟨(fun _ _ z=>by cases z),v,rfl,e2⟩
  obtain ⟨W,stw,hO1⟩:=id st1
  have ln:(liftD own caps ρ1).length=(liftC own caps σ).length:=by unfold liftD liftC; simp
  have fl:(List.replicate (liftD own caps ρ1).length ([]:List Addr)).flatten ++ O1=O1:=by rw [flat_rep]; rfl
  refine ⟨List.replicate (liftD own caps ρ1).length [],⟨fun i c e=>?_,by show (_ ++ O1).Nodup; rw [fl,hO1]; exact stw.nd,fun _ _ _ h=>h,fun a h=>?_,by show OOk H1 (_ ++ O1); rw [fl]; exact st1.live,ln,by simp,fun i b e=>absurd rfl ((cell i _ e).1 true b)⟩,fl.symm⟩
  ·obtain ⟨_,v,e1,e2⟩:=cell i c e
   refine ⟨v,[],e1,?_,by show CellAt K H1 (_ ++ O1) v c []; rw [fl]; exact e2⟩
   rw [List.getElem?_replicate,if_pos (List.getElem?_eq_some_iff.mp e).1]
  ·rw [flat_rep] at h; cases h
 ·rintro i m ys σ' H' ⟨ρ',O',ds,st',iv,dv,hi,rfl⟩
  have sm:Same H1 H':=fun b o e=>by obtain ⟨W',h',_⟩:=id st'; exact h'.kept b o (by simp) e
  have stp:Stp O1 H1 O' H':=⟨fun b o _ e=>sm b o e,fun a h=>by
   obtain ⟨W',h',rfl⟩:=id st'
   rcases List.mem_append.mp h with h | h
   ·exact (h'.new a h).elim (fun z=>absurd z (by simp)) .inr
   ·exact .inl h⟩
  have sub1:∀ a ∈ O1,a ∈ O':=fun a h=>by obtain ⟨W',h',rfl⟩:=id st'; exact List.mem_append_right _ h
  obtain ⟨w1,w2⟩:=wk O' H' stp st'.live
  by_cases hlt:i < its.length
  ·obtain ⟨go,yld⟩:=w1 i its[i] (List.getElem?_eq_getElem hlt)
   refine .inr ⟨go,fun x H2 hy=>?_⟩
   obtain ⟨sm2,dx⟩:=yld x H2 hy
   refine ⟨⟨H1,[],O1,fun _=>0⟩,hP _ _ _ _ _ st1,ρ',O',its[i],st'.grow sm2,dx,hg _ _ _ _ (fun ρ2 q2 σ3 H3 O3 st3 s3=>?_) (step i its[i] ds ρ' (List.getElem?_eq_getElem hlt) iv)⟩
   refine ⟨⟨H1,[],O1,fun _=>0⟩,hP _ _ _ _ _ st1,ρ2,O3,st3,ht _ _ _ (fun b ρ3 q3 H4 O4 st4 s4=>?_) q2⟩
   have d4:DVs (hide O4 H4) ys ds:=DVs.mono s4.hid (DVs.mono s3.hid (DVs.mono (hide_same sm2) dv))
   cases b with
   | false=>exact iteF ⟨its.length - (i + 1),by omega,ρ3,O4,ds,st4,ofF q3,d4,hlt,rfl⟩
   | true=>
    refine iteT ⟨⟨H1,[],O1,fun _=>0⟩,hP _ _ _ _ _ st1,ρ3,O4,st4,he _ _ _ (fun y ρ4 q4 v H5 O5 st5 s5 dy=>?_) (ofT q3)⟩
    refine ⟨by rw [d4.length]; exact q4.1,its.length - (i + 1),by omega,ρ4,O5,ds ++ [y],st5,q4.2,(DVs.mono s5.hid d4).append (.cons dy .nil),hlt,rfl⟩
  ·have e:i=its.length:=by omega
   subst e
   obtain ⟨hz,q⟩:=fin ds ρ' iv
   refine .inl ⟨w2,by rw [dv.length]; exact hz,fun p hp=>?_⟩
   have pO':=st'.nofree p hp
   exact q _ _ O1 (st1.grow fun b o e=>same_upd hp _ _ (sm b o e)) (s1.trans (.same fun b o e=>same_upd hp _ _ (sm b o e))) (dv_new_lst hp (fun z=>pO' (sub1 p z)) (DVs.mono (hide_more sub1) dv))
end
noncomputable def DBs (X:Cx) (F:Fx) (ifs:List Expr) (t:DTT):Prop:=MnT t/\PTs X ifs (rdT X.K F t)
noncomputable def bYes:DTT:=fun ρ Q=>Q true ρ
theorem dbs_nil {X:Cx} {F:Fx}:DBs X F [] bYes:=⟨fun _ _ _ k q=>k _ _ q,fun pins s σ H Q I ⟨ρ,O,st,q⟩=>pts_nil pins s σ H Q I (q H O st .refl)⟩
theorem dbs_one {X:Cx} {F:Fx} {c:Expr} {t:DTT} (h:DB X F c t):DBs X F [c] t:=⟨h.mn,pts_one h.pt⟩
section
variable {X:Cx} {F:Fx} {scope:Scope} {own capN:List Str} {caps:List Nat} {tg iter elt:Expr} {ifs:List Expr} {s:DTI} {g:DTG} {tc:DTT} {te:DT} {pos:Pos}
theorem de_comp (hG:GF X.mg F) (S:CompScope X scope own capN caps) (hc:X.calm=true) (hi:DI X F tg iter s)
  (hin:∀ C fp s₂ H₂ pl F',GF X.mg F'->DG (compCx X scope (own ++ capN) C fp s₂ H₂ pl) F' tg g/\DBs (compCx X scope (own ++ capN) C fp s₂ H₂ pl) F' ifs tc/\DE (compCx X scope (own ++ capN) C fp s₂ H₂ pl) F' elt te)
  (hs:∀ x,foldedSetIterable iter X.env x=pure x:=by intro _; rfl):DE X F (.ListComp elt [⟨tg,iter,ifs,0⟩] scope pos) (dCmp own caps s g tc te):=by
 have F0:Fx:=F
 obtain ⟨hg,ht,he⟩:=hin 0 [] (PySem.start X.prog).1 (fun _=>none) [] F hG
 refine ⟨mn_cmp hi.mn,(pe_comp S hc hi.pi (fun C fp s₂ H₂ pl=>⟨fun pins s σ H v u Q I r ⟨F',g',q⟩=>(hin C fp s₂ H₂ pl F' g').1.pg pins s σ H v u Q I r q,fun pins s σ H Q I ⟨F',g',q⟩=>(hin C fp s₂ H₂ pl F' g').2.1.2 pins s σ H Q I q,fun pins s σ H Q I ⟨F',g',q⟩=>(hin C fp s₂ H₂ pl F' g').2.2.pe pins s σ H Q I q⟩) hs).imp (rd_cmp (fun _ _ _ _ _ st=>hG.into st) hi.mn hg.mn ht.1 he.mn)⟩
theorem ds_setComp {i:Nat} {y:Str} {py spos:Pos} (hN:X.N.Nodup) (hi':X.N[i]? = some y) (hx:Loc X.env.scope y) (hG:GF X.mg F) (S:CompScope X scope own capN caps) (hc:X.calm=true) (hi:DI X F tg iter s)
  (hin:∀ C fp s₂ H₂ pl F',GF X.mg F'->DG (compCx X scope (own ++ capN) C fp s₂ H₂ pl) F' tg g/\DBs (compCx X scope (own ++ capN) C fp s₂ H₂ pl) F' ifs tc/\DE (compCx X scope (own ++ capN) C fp s₂ H₂ pl) F' elt te)
  (hsw:swapsWith (.ListComp elt [⟨tg,iter,ifs,0⟩] scope pos) (some (.Name y py)) spos.line X.env=pure true:=by rfl)
  (hs:∀ x,foldedSetIterable iter X.env x=pure x:=by intro _; rfl) (hf:X.fn y=true\/X.env.scope.names.lookup y=some .local:=by first | exact .inl rfl | exact .inr rfl | assumption) :
  DS X F (.Assign [.Name y py] (.ListComp elt [⟨tg,iter,ifs,0⟩] scope pos) spos) (sSet (dCmp own caps s g tc te) (gN i)):=by
 obtain ⟨hg,ht,he⟩:=hin 0 [] (PySem.start X.prog).1 (fun _=>none) [] F hG
 refine (ps_setComp hN hi' hx S hc hi.pi (fun C fp s₂ H₂ pl=>⟨fun pins s σ H v u Q I r ⟨F',g',q⟩=>(hin C fp s₂ H₂ pl F' g').1.pg pins s σ H v u Q I r q,fun pins s σ H Q I ⟨F',g',q⟩=>(hin C fp s₂ H₂ pl F' g').2.1.2 pins s σ H Q I q,fun pins s σ H Q I ⟨F',g',q⟩=>(hin C fp s₂ H₂ pl F' g').2.2.pe pins s σ H Q I q⟩) hsw hs hf).imp
  fun D σ H ⟨ρ,O,DD,st,q,f⟩=>rd_cmp (fun _ _ _ _ _ st=>hG.into st) hi.mn hg.mn ht.1 he.mn σ H _ ⟨ρ,O,st,mn_cmp hi.mn _ _ _ (fun d ρ1 q1 v H1 O1 st1 s1 d1=>f.nx _ H1 _ O1 (st1.set d1) s1 q1) q⟩
end
end L2.L3
namespace L2
open PySem PySem.Spec PyProof.Rows
section
variable {X:Cx} {pins:List (Addr × Obj)} {σ:St} {H:Hp} {s:Shared}
theorem Inv.track {a:Addr} {o:HO} (I:Inv X pins σ H s) (f:FpOk X pins H a) (new:ObjOk X.prog X.w (upd H a o) s.heap a o):Inv X pins σ (upd H a o) s:=by
 have hn:=f.1
 refine I.step (h':=s.heap) (g':=s.gens) (d':=s.drawn) (t':=s.toks) (ch:=[a]) (fun b hb=>by obtain rfl:=List.mem_singleton.mp hb; exact ⟨f.2.2.2.1,f.2.1,f.2.2.2.2.1,f.2.2.2.2.2⟩) (fun b ob _ _ _ e _=>e) (fun b ob _ _ _ e _=>⟨ob.slots,e⟩)
  (fun b ob hc _ n=>by rw [upd_ne (fun z=>hc (by simp [z]))]; exact n) (fun b ob _ e=>⟨ob,e⟩) (fun b xs e=>same_upd hn b _ e) (fun b ob u e=>same_upd hn b _ e) (fun b ps e=>⟨#[],by rw [same_upd hn b _ e]; simp⟩) (fun m hm=>hm) (fun b u e=>?_) I.bare
 by_cases hb:b=a
 ·subst hb; rw [upd_same] at e; cases e; exact new
 ·rw [upd_ne hb] at e
  exact (I.hok b u e).stay (fun _ _ _ q=>q) (fun c q=>same_upd hn c _ q) fun c xs q=>same_upd hn c _ q
end
section
variable {X:Cx} {a b c:Expr} {t:TA} {pos p1 p2 pos2:Pos}
theorem call_allB (hc:X.calm=true):CallR X (.builtin "all") (fun xs H Q=>∃ (l:Addr) (bs:List Bool),xs=[.ref l]/\H l=some (.lst (bs.map V.bl))/\Q (.bl (bs.all id)) H):=by
 intro pins s σ H xs us Q I r h
 obtain ⟨l,bs,rfl,hl,q⟩:=h
 obtain ⟨u,rfl,ru⟩:=vals1 r
 cases ru
 obtain ⟨z,its,n,rv,e⟩:=I.hok _ _ hl
 have L:s.heap.IsList l its.toArray:=⟨_,e,rfl,_,rfl⟩
 have hlt:l < s.heap.objs.size:=Heap.lt_size e
 have len:=rv.length
 rw [List.length_map] at len
 refine call_all_walk (wpAny_pyIter_list L ?_)
 refine ⟨s.heap.objs.size,_,_,_,_,_,fun i=>bs.getD i true,rfl,Walks.list (A:=X.A.in1) (show X.A.in1.handled=none from I.ok.hd hc) s.heap.objs.size l (Nat.ne_of_lt hlt) its.toArray,⟨⟨_,Heap.get?_push_size _ rfl,rfl,rfl⟩,L.push _⟩,?_,fun h' tk hk=>?_⟩
 ·intro i v s' Q' E' hv hq
  have hi:its[i]? = some v:=by simpa using hv
  have hlt:i < bs.length:=by rw [len]; exact (List.getElem?_eq_some_iff.mp hi).1
  obtain ⟨w,hw,rw'⟩:=rv.get (i:=i) (x:=.bl bs[i]) (by rw [List.getElem?_map,List.getElem?_eq_getElem hlt]; rfl)
  rw [hi] at hw
  cases hw
  cases rw'
  refine wpAny_truthy_bool ?_
  have:bs.getD i true=bs[i]:=by simp [List.getD,hlt]
  have hq:Q' (bs.getD i true) s':=hq
  rw [this] at hq
  exact hq
 ·have e1:(List.range its.toArray.size).all (fun i=>bs.getD i true)=bs.all id:=by
   rw [List.size_toArray,<-len]
   rw [Bool.eq_iff_iff,List.all_eq_true,List.all_eq_true]
   constructor
   ·intro h b hb
    obtain ⟨i,hi,rfl⟩:=List.getElem_of_mem hb
    have:=h i (List.mem_range.mpr hi)
    simpa [List.getD,hi] using this
   ·intro h i hi
    have hi':=List.mem_range.mp hi
    have:=h bs[i] (List.getElem_mem hi')
    simpa [List.getD,hi'] using this
  rw [e1]
  exact ⟨.bl (bs.all id),H,I.kept fun b o eb=>hk b o (fun zz=>absurd (Heap.lt_size eb) (by rw [List.mem_singleton.mp zz]; exact Nat.lt_irrefl _)) (Heap.get?_push_of_some _ eb),rfl,q⟩
end
end L2
namespace L2.L3
open PySem PySem.Spec PyProof.Rows
noncomputable def fLen:DN:=fun xs Q=>∃ ds,(xs=[.list ds]\/xs=[.tuple ds])/\Q (.int ds.length)
theorem n_len {K:PySem.W.Frag}:OpN (fun xs H Q=>∃ p ys,xs=[.ref p]/\(SqL K H p ys\/SqT K H p ys)/\Q (.int ys.length) H) fLen where
 mn:=fun _ _ _ k ⟨ds,e,q⟩=>⟨ds,e,k _ q⟩
 ok:=fun O H vs xs Q hO hd ⟨ds,e,q⟩=>by
  rcases e with rfl | rfl
  ·cases hd with
   | cons d r=>
    cases r
    obtain ⟨a,ys,rfl,ha,hy⟩:=d.lst_inv
    exact ⟨a,ys,rfl,.inl (.of (of_hide ha).1),by rw [hy.length]; exact q _ H (fun _ _ h=>h) (.int _)⟩
  ·cases hd with
   | cons d r=>
    cases r
    obtain ⟨a,ys,rfl,ha,hy⟩:=d.tup_inv
    exact ⟨a,ys,rfl,.inr (.inl (of_hideR ha).1),by rw [hy.length]; exact q _ H (fun _ _ h=>h) (.int _)⟩
theorem dvs2 {H:Hp} {vs:List V} {a b:PyData} (h:DVs H vs [a,b]):∃ x y,vs=[x,y]/\DV H x a/\DV H y b:=by
 cases h with | cons d r=>cases r with | cons d' r=>cases r; exact ⟨_,_,rfl,d,d'⟩
theorem dvs1 {H:Hp} {vs:List V} {a:PyData} (h:DVs H vs [a]):∃ x,vs=[x]/\DV H x a:=by
 cases h with | cons d r=>cases r; exact ⟨_,rfl,d⟩
noncomputable def fTuple:DN:=fun xs Q=>(∃ ds,xs=[.list ds]/\Q (.tuple ds))\/∃ ds,xs=[.tuple ds]/\Q (.tuple ds)
theorem n_tuple {K:PySem.W.Frag}:OpN (fun xs H Q=>∃ p ys,xs=[.ref p]/\((SqL K H p ys/\∀ l,H l=none->Q (.ref l) (upd H l (.tup ys)))\/(SqT K H p ys/\Q (.ref p) H))) fTuple where
 mn:=fun _ _ _ k q=>q.imp (fun ⟨i,e,q⟩=>⟨i,e,k _ q⟩) fun ⟨i,e,q⟩=>⟨i,e,k _ q⟩
 ok:=fun O H vs xs Q hO hd q=>by
  rcases q with ⟨ds,e,q⟩ | ⟨ds,e,q⟩
  ·subst e
   obtain ⟨x,rfl,h1⟩:=dvs1 hd
   obtain ⟨a,ys,rfl,ha,hy⟩:=h1.lst_inv
   exact ⟨a,ys,rfl,.inl ⟨.of (of_hide ha).1,fun p hp=>q _ _ (same_upd hp) (dv_new_tup hp (hO p hp) hy)⟩⟩
  ·subst e
   obtain ⟨x,rfl,h1⟩:=dvs1 hd
   obtain ⟨a,ys,e,ha,hy⟩:=h1.tup_inv
   subst e
   exact ⟨a,ys,rfl,.inr ⟨.inl (of_hideR ha).1,q _ H (fun _ _ h=>h) h1⟩⟩
noncomputable def fAll:DN:=fun xs Q=>∃ bs:List Bool,xs=[.list (bs.map .bool)]/\Q (.bool (bs.all id))
theorem dvs_bools {H:Hp}:∀ {bs:List Bool} {vs:List V},DVs H vs (bs.map PyData.bool)->vs=bs.map V.bl
 | [],_,h=>by cases h; rfl
 | b :: r,_,h=>by
  cases h with
  | cons d q=>rw [d.bl_inv,dvs_bools q]; rfl
theorem n_all:OpN (fun xs H Q=>∃ (l:Addr) (bs:List Bool),xs=[.ref l]/\H l=some (.lst (bs.map V.bl))/\Q (.bl (bs.all id)) H) fAll where
 mn:=fun _ _ _ k ⟨bs,e,q⟩=>⟨bs,e,k _ q⟩
 ok:=fun O H vs xs Q hO hd ⟨bs,e,q⟩=>by
  subst e
  obtain ⟨x,rfl,h1⟩:=dvs1 hd
  obtain ⟨a,ys,rfl,ha,hy⟩:=h1.lst_inv
  exact ⟨a,bs,rfl,by rw [(of_hide ha).1,dvs_bools hy],q _ H (fun _ _ h=>h) (.bl _)⟩
section
variable {X:Cx} {F:Fx} {a b c e:Expr} {te:DT} {tA:DTA} {pos p p1 p2 pos2:Pos} {x:Str} {i:Nat}
noncomputable def dLenS (i:Nat):DT:=fun ρ Q=>∃ ns,ρ[i]? = some (some (.scr ns))/\(ns.length<=63->Q (.int ns.length) ρ)
theorem de_lenS (hg:Gl X "len") (hm:X.mg "len" = none) (h:PE X (.Name x p1) (tVar i)) (he:starEach [.Name x p1] X.env=(false,eval (.Name x p1) X.env) :: starEach [] X.env:=by rfl) (hpl:(backTo pos (starEach [] X.env)).any (·.1)=false:=by rfl) :
  DE X F (.Call (.Name "len" p) [.Name x p1] [] pos) (dLenS i):=
 ⟨fun _ _ _ k ⟨ns,e,q⟩=>⟨ns,e,fun h=>k _ _ (q h)⟩,(pe_callB call_len_seq hg hm PySem.boot_len (pa_cons h pa_nil he) (by decide) (by decide) he hpl).imp fun σ H Q ⟨ρ,O,st,ns,e,q⟩=>by
  obtain ⟨sa,hv,hs⟩:=st.scr e
  refine ⟨_,hv,sa,ns.map V.int,rfl,.inl hs.sq,?_⟩
  rw [List.length_map]
  exact q hs.1 _ H O st .refl (.int _)⟩
noncomputable def dIxS (i:Nat) (te:DT):DT:=fun ρ Q=>∃ ns,ρ[i]? = some (some (.scr ns))/\te ρ fun d ρ'=>∃ k n,d=.int k/\atI ns k=some n/\Q (.int n) ρ'
theorem atI_map {α β:Type} {g:α->β} {l:List α} {k:Int} {n:α} (h:atI l k=some n):atI (l.map g) k=some (g n):=by
 unfold atI at h ⊢
 rw [List.length_map]
 cases q:ixN l.length k with
 | none=>rw [q] at h; cases h
 | some j=>
  rw [q] at h
  show (l.map g)[j]? = some (g n)
  rw [List.getElem?_map]
  have h:l[j]? = some n:=h
  rw [h]
  rfl
theorem de_ixS (h:PE X (.Name x p1) (tVar i)) (he:DE X F e te) (hs:PlainIx e):DE X F (.Subscript (.Name x p1) e pos) (dIxS i te):=
 ⟨fun _ _ _ k ⟨ns,e,q⟩=>⟨ns,e,he.mn _ _ _ (fun _ _ ⟨k',n,e1,e2,q⟩=>⟨k',n,e1,e2,k _ _ q⟩) q⟩,(pe_ix ix_list h he.pe hs).imp fun σ H Q ⟨ρ,O,st,ns,e,q⟩=>by
  obtain ⟨sa,hv,hs⟩:=st.scr e
  refine ⟨_,hv,ρ,O,st,he.mn _ _ _ (fun d ρ1 ⟨k,n,e1,e2,q1⟩ w H1 O1 st1 s1 d1=>?_) q⟩
  subst e1
  have hs1:Scr X.K H1 sa ns:=hs.mono fun o u q=>s1.keep _ _ (fun z=>by obtain ⟨xs,e,m⟩:=st.live _ z; rw [q] at e; cases e; exact m) q
  exact ⟨sa,ns.map V.int,k,.int n,rfl,d1.int_inv,hs1.sq,atI_map e2,q1 _ H1 O1 st1 s1 (.int _)⟩⟩
noncomputable def rEqS (K:PySem.W.Frag):R2:=fun x y H Q=>∃ a b ns,x=.ref a/\y=.ref b/\SqL K H a (ns.map V.int)/\H b=some (.lst [])/\Q (.bl (decide (ns=[]))) H
theorem reads_ints {h:Heap}:∀ {ns:List Int} {us:List Value},Vals (ns.map V.int) us->∃ as,ReadsAll h us (ns.map PyData.int) as
 | [],_,r=>by cases r; exact ⟨_,.nil⟩
 | n :: ns,_,r=>by
  cases r with
  | cons r1 r=>
   obtain ⟨t,rfl⟩:=r1
   obtain ⟨as,q⟩:=reads_ints r
   exact ⟨_,.cons (.int n t) q⟩
theorem op_eqS (hu:X.A.units + 64 < cLine):OpR X (compareOp .Eq) (rEqS X.K):=by
 intro pins s σ H x y v u Q I rx ry h
 obtain ⟨a,b,ns,rfl,rfl,h1,h2,q⟩:=h
 cases rx; cases ry
 obtain ⟨its,rv,⟨o,n,e,c1,_,d1⟩,hz⟩:=I.list h1
 obtain ⟨_,its2,n2,rv2,e2⟩:=I.hok _ _ h2
 cases rv2
 obtain ⟨as,ra⟩:=reads_ints (h:=s.heap) rv
 have e3:PyData.eqv (.list (ns.map .int)) (.list [])=decide (ns=[]):=by cases ns <;> rfl
 refine eq_dataH (reads_list_at e c1 d1 (by simpa using ra)) (reads_list_at (xs:=[]) e2 rfl rfl .nil) ?_ (by decide) hu (by rw [e3]; exact ⟨.bl _,H,I,rfl,q⟩)
 unfold SeqAt.shaped
 have c0:PyData.canLay0 (.list (ns.map .int))=true:=by
  have:∀ ns:List Int,PyData.canLayAll0 (ns.map .int)=true:=fun ns=>by
   induction ns with
   | nil=>rfl
   | cons n r ih=>rw [List.map_cons]; simp only [PyData.canLayAll0,PyData.canLay0,ih,Bool.and_self]
  simp only [PyData.canLay0,this]
 have dp:PyData.depth (.list (ns.map .int))<=64:=by
  have:∀ ns:List Int,PyData.depthAll (ns.map .int)<=1:=fun ns=>by
   induction ns with
   | nil=>simp [PyData.depthAll]
   | cons n r ih=>rw [List.map_cons]; simp only [PyData.depthAll,PyData.depth]; omega
  have:=this ns
  simp only [PyData.depth]
  omega
 rw [c0,Bool.true_and]
 exact decide_eq_true dp
noncomputable def dEqS (i:Nat):DTT:=fun ρ Q=>∃ ns,ρ[i]? = some (some (.scr ns))/\Q (decide (ns=[])) ρ
theorem db_eqS {lp:Pos} (hu:X.A.units + 64 < cLine) (h:PE X (.Name x p1) (tVar i)):DB X F (.Compare (.Name x p1) [.Eq] [.List [] lp] pos) (dEqS i):=
 ⟨fun _ _ _ k ⟨ns,e,q⟩=>⟨ns,e,k _ _ q⟩,(pt_cmpR (op_eqS hu) h (pe_lst pa_nil) (nomark _)).imp fun σ H Q ⟨ρ,O,st,ns,e,q⟩=>by
  obtain ⟨sa,hv,hs⟩:=st.scr e
  refine ⟨_,hv,Nat.zero_le _,fun p hp=>⟨sa,p,ns,rfl,rfl,(same_upd hp).seq hs.sq,upd_same,_,rfl,q _ O (st.grow (same_upd hp)) (.same (same_upd hp))⟩⟩⟩
end
end L2.L3
namespace L2.L3
open PySem PySem.Spec PyProof.Rows
structure FD (K:PySem.W.Frag) (mg:Str->Option Value) (x:Str) (st:Stmt) (ps:List Str) (g:Addr) (fd:FuncData):Prop where
 fn:Fun K x x st g fd
 mgf:mg x=some (.ref g)
 b:Binds K fd ps []
section
variable {X:Cx} {scope:Scope} {own capN:List Str} {caps:List Nat}
theorem CompScope.of (h1:scope.kind=.function:=by rfl) (h2:(scope.names.all fun y=>y.2 != .cell)=true:=by rfl)
  (h3:(scope.names.all fun y=>y.2 != .free || (X.env.kindOf y.1 == some .cell || X.env.kindOf y.1 == some .free))=true:=by rfl)
  (h4:(scope.names.all fun y=>y.2 != .local || scope.names.lookup y.1 == some .local)=true:=by rfl) (h5:caps.map (fun j=>X.N[j]?)=capN.map some:=by rfl)
  (h6:(capN.all fun x=>scope.names.lookup x == some .free)=true:=by rfl):CompScope X scope own capN caps where
 kind:=h1
 nocell:=fun y hy e=>by
  have:=List.all_eq_true.mp h2 y hy
  rw [e] at this
  exact absurd this (by decide)
 free:=fun y hy e=>by
  have:=List.all_eq_true.mp h3 y hy
  rw [e] at this
  rw [Bool.or_eq_true] at this
  rcases this with z | z
  ·exact absurd z (by decide)
  ·rw [Bool.or_eq_true] at z
   exact z.imp (fun z=>eq_of_beq z) fun z=>eq_of_beq z
 loc:=fun y hy e=>by
  have:=List.all_eq_true.mp h4 y hy
  rw [e] at this
  rw [Bool.or_eq_true] at this
  rcases this with z | z
  ·exact absurd z (by decide)
  ·exact eq_of_beq z
 caps:=h5
 capf:=fun x hx=>eq_of_beq (List.all_eq_true.mp h6 x hx)
end
section
variable {X:Cx} {F:Fx} {a b c e:Expr} {ta tb tc:DT} {pos:Pos}
noncomputable abbrev qI (g:Int->Int->Int):D2:=fI (fun _ _=>True) fun i j=>.int (g i j)
noncomputable abbrev qB (g:Int->Int->Bool):D2:=fI (fun _ _=>True) fun i j=>.bool (g i j)
theorem de_add (ha:DE X F a ta) (hb:DE X F b tb):DE X F (.BinOp a .Add b pos) (dOp (qI fun i j=>i + j) ta tb):=de_op op_add (o_int0 fun _ _ _=>.int _) ha hb
theorem de_sub (ha:DE X F a ta) (hb:DE X F b tb):DE X F (.BinOp a .Sub b pos) (dOp (qI fun i j=>i - j) ta tb):=de_op op_sub (o_int0 fun _ _ _=>.int _) ha hb
theorem de_mul (ha:DE X F a ta) (hb:DE X F b tb):DE X F (.BinOp a .Mult b pos) (dOp (fI CMul fun i j=>.int (i * j)) ta tb):=de_op op_mul (o_int fun _ _ _=>.int _) ha hb
theorem de_mod (ha:DE X F a ta) (hb:DE X F b tb):DE X F (.BinOp a .Mod b pos) (dOp (fI (fun _ j=>0 < j) fun i j=>.int (i % j)) ta tb):=de_op op_mod (o_int fun _ _ _=>.int _) ha hb
theorem de_cat (ha:DE X F a ta) (hb:DE X F b tb):DE X F (.BinOp a .Add b pos) (dOp fCatL ta tb):=de_op op_cat o_catL ha hb
theorem de_lt (ha:DE X F a ta) (hb:DE X F b tb):DE X F (.Compare a [.Lt] [b] pos) (dOp (qB fun i j=>decide (i < j)) ta tb):=de_cmp op_lt (o_int0 fun _ _ _=>.bl _) ha hb (nomark _)
theorem db_lt (ha:DE X F a ta) (hb:DE X F b tb):DB X F (.Compare a [.Lt] [b] pos) (dTst (dOp (qB fun i j=>decide (i < j)) ta tb)):=db_cmp op_lt (o_int0 fun _ _ _=>.bl _) ha hb (nomark _)
theorem db_le (ha:DE X F a ta) (hb:DE X F b tb):DB X F (.Compare a [.LtE] [b] pos) (dTst (dOp (qB fun i j=>decide (i<=j)) ta tb)):=db_cmp op_le (o_int0 fun _ _ _=>.bl _) ha hb (nomark _)
theorem db_gt (ha:DE X F a ta) (hb:DE X F b tb):DB X F (.Compare a [.Gt] [b] pos) (dTst (dOp (qB fun i j=>decide (j < i)) ta tb)):=db_cmp op_gt (o_int0 fun _ _ _=>.bl _) ha hb (nomark _)
theorem de_eq (hu:X.A.units + 64 < cLine) (ha:DE X F a ta) (hb:DE X F b tb):DE X F (.Compare a [.Eq] [b] pos) (dOp (fEq false) ta tb):=de_cmp (op_eqD hu) o_eq ha hb (nomark _)
theorem db_eq (hu:X.A.units + 64 < cLine) (ha:DE X F a ta) (hb:DE X F b tb):DB X F (.Compare a [.Eq] [b] pos) (dTst (dOp (fEq false) ta tb)):=db_cmp (op_eqD hu) o_eq ha hb (nomark _)
theorem db_ne (hu:X.A.units + 64 < cLine) (ha:DE X F a ta) (hb:DE X F b tb):DB X F (.Compare a [.NotEq] [b] pos) (dTst (dOp (fEq true) ta tb)):=db_cmp (op_neD hu) o_eq ha hb (nomark _)
theorem db_isN (ha:DE X F a ta) (hb:DE X F b tb):DB X F (.Compare a [.Is] [b] pos) (dTst (dOp fIs ta tb)):=db_cmp op_isN o_is ha hb (nomark _)
theorem db_notN (ha:DE X F a ta) (hb:DE X F b tb):DB X F (.Compare a [.IsNot] [b] pos) (dTst (dOp fIsNot ta tb)):=db_cmp op_notN o_isnot ha hb (nomark _)
theorem de_lele (ha:DE X F a ta) (hb:DE X F b tb) (hc:DE X F c tc) (hm:lastMarks [.LtE,.LtE] [b,c]=false:=by with_unfolding_all rfl):DE X F (.Compare a [.LtE,.LtE] [b,c] pos) (dChain (fun i j=>decide (i<=j)) (fun i j=>decide (i<=j)) ta tb tc):=de_chain op_le op_le ha hb hc hm
theorem de_gint {x:Str} {i:Int} {t:Tok} (hg:Gl X x) (hm:X.mg x=some (.int i t)) (hd:(x == ("__debug__":Str))=false:=by decide):DE X F (.Name x pos) (dC (.int i)):=de_const (v:=.int i) (pe_glob hg hm ⟨t,rfl⟩ hd) fun _=>.int i
mutual
theorem eqv_refl:∀ (d:PyData),d.canLay0=true->PyData.eqv d d=true
 | .none,_=>rfl
 | .bool b,_=>by simp [PyData.eqv]
 | .int i,_=>by simp [PyData.eqv]
 | .str s,_=>by simp [PyData.eqv]
 | .list xs,h=>by rw [PyData.eqv]; exact eqvAll_refl xs (by simpa [PyData.canLay0] using h)
 | .tuple xs,h=>by rw [PyData.eqv]; exact eqvAll_refl xs (by simpa [PyData.canLay0] using h)
 | .dict kvs,h=>by simp [PyData.canLay0] at h
theorem eqvAll_refl:∀ (ds:List PyData),PyData.canLayAll0 ds=true->PyData.eqvAll ds ds=true
 | [],_=>rfl
 | x :: xs,h=>by
  simp only [PyData.canLayAll0,Bool.and_eq_true] at h
  rw [PyData.eqvAll,eqv_refl x h.1,eqvAll_refl xs h.2]
  rfl
end
theorem eqv_shaped {d:PyData} (h:SeqAt.shaped d=true):PyData.eqv d d=true:=eqv_refl d (SeqAt.canLay_of_shaped h)
end
end L2.L3
namespace L2.L3
open PySem PySem.Spec PyProof.Rows
end L2.L3
namespace L2
open PySem PySem.Spec PyProof.Rows
end L2
namespace L2.L3
open PySem PySem.Spec PyProof.Rows
end L2.L3
namespace L2
open PySem PySem.Spec PyProof.Rows
end L2
namespace L2.L3
open PySem PySem.Spec PyProof.Rows
section
variable {X:Cx} {F:Fx} {a b:Expr} {ta tb:DT} {pos:Pos} {q:PyData->Prop}
theorem de_pow (ha:DE X F a ta) (hb:DE X F b tb):DE X F (.BinOp a .Pow b pos) (dOp (fI CPow fun i j=>.int (i ^ j.toNat)) ta tb):=de_op op_pow (o_int fun _ _ _=>.int _) ha hb
end
end L2.L3
namespace L2
open PySem PySem.Spec PyProof.Rows
end L2
namespace L2.L3
open PySem PySem.Spec PyProof.Rows
end L2.L3
namespace L2.L3
open PySem PySem.Spec PyProof.Rows
end L2.L3
namespace L2
open PySem PySem.Spec PyProof.Rows
end L2
namespace L2.L3
open PySem PySem.Spec PyProof.Rows
end L2.L3
namespace L2.L3
open PySem PySem.Spec PyProof.Rows
section
variable {X:Cx} {F:Fx} {tA:DTA} {ρ:DEnv} {N B C:DEnv->Prop} {R:PyData->DEnv->Prop}
noncomputable def par2 (i j:Nat) (N:DEnv->Prop) (ds:List PyData) (ρ':DEnv):Prop:=∃ x y,ds=[x,y]/\N ((ρ'.set i (some (.dat x))).set j (some (.dat y)))
noncomputable def sPar (i j:Nat) (tA:DTA):DTS:=fun D ρ=>tA ρ fun ds ρ'=>par2 i j D.nx ds ρ'
theorem ds_par {i j:Nat} {x y:Str} {a b:Expr} {px py pt pos:Pos} {kt k2 pt2} (hc:X.calm=true) (hN:X.N.Nodup) (hi:X.N[i]? = some x) (hj:X.N[j]? = some y) (hij:i ≠ j)
  (hx:X.env.scope.names.lookup x=some .local) (hy:X.env.scope.names.lookup y=some .local) (ha:DA X F [a,b] tA)
  (hw:swappedStores [.Tuple [.Name x px,.Name y py] kt pt] (.Tuple [a,b] k2 pt2) X.env=pure (some [x,y]):=by rfl)
  (hs:swapsWithSole [.Tuple [.Name x px,.Name y py] kt pt] (.Tuple [a,b] k2 pt2) pos.line X.env=pure false:=by rfl) :
  DS X F (.Assign [.Tuple [.Name x px,.Name y py] kt pt] (.Tuple [a,b] k2 pt2) pos) (sPar i j tA):=
 (ps_par hc hN hi hj hij hx hy ha.pa hw hs).imp fun D σ H ⟨ρ,O,DD,st,q,f⟩=>⟨ρ,O,st,ha.mn _ _ _ (fun ds ρ1 ⟨d1,d2,e,q1⟩ vs H1 O1 st1 s1 dd=>by
  subst e
  obtain ⟨v,w,rfl,h1,h2⟩:=dvs2 dd
  exact ⟨v,w,rfl,f.nx _ H1 _ O1 ((st1.set h1).set h2) s1 q1⟩) q⟩
end
end L2.L3
namespace L2.L3
open PySem PySem.Spec PyProof.Rows
inductive Out (α:Type) where
 | ok (a:α) (ρ:DEnv) | ex (c:Str) (ρ:DEnv) | bad
@[simp] noncomputable def Out.bind {α β:Type} (o:Out α) (k:α->DEnv->Out β):Out β:=match o with
 | .ok a ρ=>k a ρ
 | .ex c ρ=>.ex c ρ
 | .bad=>.bad
@[simp] noncomputable def lift {α:Type} (o:Option α) (ρ:DEnv):Out α:=match o with
 | some a=>.ok a ρ
 | none=>.bad
noncomputable abbrev XM (α:Type):=DEnv->Out α
noncomputable def wp {α:Type} (E:Str->DEnv->Prop) (m:XM α):DEnv->(α->DEnv->Prop)->Prop:=fun ρ Q=>match m ρ with
 | .ok a ρ'=>Q a ρ'
 | .ex c ρ'=>E c ρ'
 | .bad=>False
section
variable {α β:Type} {E:Str->DEnv->Prop}
theorem mn_wp {m:XM α}:∀ ρ (Q Q':α->DEnv->Prop),(∀ d ρ',Q d ρ'->Q' d ρ')->wp E m ρ Q->wp E m ρ Q':=fun ρ Q Q' k q=>by
 unfold wp at q ⊢
 generalize m ρ=o at q ⊢
 cases o with
 | ok a ρ'=>exact k _ _ q
 | ex c ρ'=>exact q
 | bad=>exact q
theorem wp_bind {m:XM α} {k:α->XM β} {ρ:DEnv} {Q:β->DEnv->Prop} (h:wp E (fun ρ=>(m ρ).bind k) ρ Q):wp E m ρ fun a ρ'=>wp E (k a) ρ' Q:=by
 unfold wp at h ⊢
 unfold Out.bind at h
 simp only at h
 generalize m ρ=o at h ⊢
 cases o with
 | ok a ρ'=>exact h
 | ex c ρ'=>exact h
 | bad=>exact h
theorem wp_lift {o:Option α} {ρ:DEnv} {Q:α->DEnv->Prop} (h:wp E (lift o) ρ Q):∃ a,o=some a/\Q a ρ:=by
 unfold wp lift at h
 cases o with
 | some a=>exact ⟨a,rfl,h⟩
 | none=>exact h.elim
end
section
variable {X:Cx} {F:Fx} {E:Str->DEnv->Prop} {e a b c:Expr} {es:List Expr} {pos:Pos}
theorem DE.imp {t t':DT} (h:DE X F e t) (mn:Mn t') (k:∀ ρ Q,t' ρ Q->t ρ Q):DE X F e t':=⟨mn,h.pe.imp fun σ H Q ⟨ρ,O,st,q⟩=>⟨ρ,O,st,k ρ _ q⟩⟩
theorem DO.imp {t t':DTO} (h:DO X F e t) (mn:MnO t') (k:∀ ρ Q,t' ρ Q->t ρ Q):DO X F e t':=⟨mn,h.pe.imp fun σ H Q ⟨ρ,O,st,q⟩=>⟨ρ,O,st,k ρ _ q⟩⟩
theorem DA.imp {t t':DTA} (h:DA X F es t) (mn:MnA t') (k:∀ ρ Q,t' ρ Q->t ρ Q):DA X F es t':=⟨mn,h.pa.imp fun σ H Q ⟨ρ,O,st,q⟩=>⟨ρ,O,st,k ρ _ q⟩⟩
theorem DX.imp {t t':DTX} (h:DX X F es t) (mn:MnX t') (k:∀ ρ Q,t' ρ Q->t ρ Q):DX X F es t':=⟨mn,h.pa.imp fun σ H Q ⟨ρ,O,st,q⟩=>⟨ρ,O,st,k ρ _ q⟩⟩
theorem DB.imp {t t':DTT} (h:DB X F e t) (mn:MnT t') (k:∀ ρ Q,t' ρ Q->t ρ Q):DB X F e t':=⟨mn,h.pt.imp fun σ H Q ⟨ρ,O,st,q⟩=>⟨ρ,O,st,k ρ _ q⟩⟩
theorem DW.imp {t t':DTT} (h:DW X F e t) (mn:MnT t') (k:∀ ρ Q,t' ρ Q->t ρ Q):DW X F e t':=⟨mn,h.pw.imp fun σ H Q ⟨ρ,O,st,q⟩=>⟨ρ,O,st,k ρ _ q⟩⟩
theorem DSs.imp {sts:List Stmt} {t t':DTS} (h:DSs X F sts t) (k:∀ D ρ,t' D ρ->t D ρ):DSs X F sts t':=PSs.imp h fun D σ H ⟨ρ,O,DD,st,q,f⟩=>⟨ρ,O,DD,st,k DD ρ q,f⟩
theorem DS.imp {s:Stmt} {t t':DTS} (h:DS X F s t) (k:∀ D ρ,t' D ρ->t D ρ):DS X F s t':=PS.imp h fun D σ H ⟨ρ,O,DD,st,q,f⟩=>⟨ρ,O,DD,st,k DD ρ q,f⟩
noncomputable abbrev FE (X:Cx) (F:Fx) (E:Str->DEnv->Prop) (e:Expr) (m:XM PyData):Prop:=DE X F e (wp E m)
noncomputable abbrev FO (X:Cx) (F:Fx) (E:Str->DEnv->Prop) (e:Expr) (m:XM Cell):Prop:=DO X F e (wp E m)
noncomputable abbrev FB (X:Cx) (F:Fx) (E:Str->DEnv->Prop) (e:Expr) (m:XM Bool):Prop:=DB X F e (wp E m)
noncomputable abbrev FW (X:Cx) (F:Fx) (E:Str->DEnv->Prop) (e:Expr) (m:XM Bool):Prop:=DW X F e (wp E m)
noncomputable abbrev FA (X:Cx) (F:Fx) (E:Str->DEnv->Prop) (es:List Expr) (m:XM (List PyData)):Prop:=DA X F es (wp E m)
noncomputable abbrev FX (X:Cx) (F:Fx) (E:Str->DEnv->Prop) (es:List Expr) (m:XM (List AX)):Prop:=DX X F es (wp E m)
noncomputable abbrev FI (X:Cx) (F:Fx) (E:Str->DEnv->Prop) (tg iter:Expr) (m:XM (List PyData)):Prop:=DI X F tg iter (wp E m)
noncomputable abbrev GM:=PyData->DEnv->Option DEnv
noncomputable def wpG (g:GM):DTG:=fun d ρ Q=>match g d ρ with
 | some ρ'=>Q ρ'
 | none=>False
noncomputable abbrev FG (X:Cx) (F:Fx) (tg:Expr) (g:GM):Prop:=DG X F tg (wpG g)
noncomputable abbrev FS (X:Cx) (F:Fx) (E:Str->DEnv->Prop) (s:Stmt) (m:SM):Prop:=DS X F s (wpS E m)
noncomputable abbrev FSs (X:Cx) (F:Fx) (E:Str->DEnv->Prop) (s:List Stmt) (m:SM):Prop:=DSs X F s (wpS E m)
@[simp] noncomputable def xC (d:PyData):XM PyData:=fun ρ=>.ok d ρ
@[simp] noncomputable def xV (i:Nat):XM PyData:=fun ρ=>match ρ[i]? with
 | some (some (.dat d))=>.ok d ρ
 | some (some (.own false (.l ds)))=>.ok (.list ds) (ρ.set i (some (.dat (.list ds))))
 | _=>.bad
theorem fe_c {d:PyData} (h:DE X F e (dC d)):FE X F E e (xC d):=h.imp mn_wp fun _ _ q=>q
theorem fe_v {i:Nat} (h:DE X F e (dV i)):FE X F E e (xV i):=h.imp mn_wp fun ρ Q q=>by
 unfold wp xV at q
 unfold dV
 cases h:ρ[i]? with
 | none=>rw [h] at q; exact q.elim
 | some o=>
  rw [h] at q
  cases o with
  | none=>exact q.elim
  | some c=>
   cases c with
   | dat d=>exact .inl ⟨d,rfl,q⟩
   | scr n=>exact q.elim
   | exc n=>exact q.elim
   | vw n=>exact q.elim
   | own io bx=>
    cases io with
    | true=>exact q.elim
    | false=>
     cases bx with
     | l ds=>exact .inr ⟨ds,rfl,q⟩
     | m _ _=>exact q.elim
     | o _ _=>exact q.elim
     | sd _=>exact q.elim
     | ll _=>exact q.elim
@[simp] noncomputable def xOp (g:PyData->PyData->Option PyData) (a b:XM PyData):XM PyData:=fun ρ=>(a ρ).bind fun x ρ1=>(b ρ1).bind fun y=>lift (g x y)
noncomputable def F2 (f:D2) (g:PyData->PyData->Option PyData):Prop:=∀ x y d Q,g x y=some d->Q d->f x y Q
theorem fe_op {f:D2} {g:PyData->PyData->Option PyData} {ma mb:XM PyData} (hg:F2 f g) (h:DE X F e (dOp f (wp E ma) (wp E mb))):FE X F E e (xOp g ma mb):=h.imp mn_wp fun ρ Q q=>by
 refine mn_wp _ _ _ (fun x ρ1 q1=>?_) (wp_bind q)
 refine mn_wp _ _ _ (fun y ρ2 q2=>?_) (wp_bind q1)
 obtain ⟨d,e1,q3⟩:=wp_lift q2
 exact hg x y d _ e1 q3
@[simp] noncomputable def xTst (m:XM PyData):XM Bool:=fun ρ=>(m ρ).bind fun d=>lift (match d with | .bool b=>some b | _=>none)
theorem tst_of {ρ:DEnv} {Q:Bool->DEnv->Prop} {m:XM PyData} (q:wp E (xTst m) ρ Q):dTst (wp E m) ρ Q:=mn_wp _ _ _ (fun d ρ1 q1=>by
 obtain ⟨b,e1,q2⟩:=wp_lift q1
 cases d with
 | bool b'=>cases e1; exact ⟨_,rfl,q2⟩
 | _=>cases e1) (wp_bind q)
theorem fb_op {f:D2} {g:PyData->PyData->Option PyData} {ma mb:XM PyData} (hg:F2 f g) (h:DB X F e (dTst (dOp f (wp E ma) (wp E mb)))):FB X F E e (xTst (xOp g ma mb)):=h.imp mn_wp fun ρ Q q=>by
 have q':=tst_of q
 refine mn_wp _ _ _ (fun x ρ1 q1=>?_) (wp_bind q')
 refine mn_wp _ _ _ (fun y ρ2 q2=>?_) (wp_bind q1)
 obtain ⟨d,e1,q3⟩:=wp_lift q2
 exact hg x y d _ e1 q3
theorem fb_val {m:XM PyData} (h:DB X F e (dTst (wp E m))):FB X F E e (xTst m):=h.imp mn_wp fun ρ Q q=>tst_of q
@[simp] noncomputable def gI (g:Int->Int->PyData):PyData->PyData->Option PyData:=fun x y=>match x,y with
 | .int i,.int j=>some (g i j)
 | _,_=>none
@[simp] noncomputable def gIC (C:Int->Int->Bool) (g:Int->Int->PyData):PyData->PyData->Option PyData:=fun x y=>match x,y with
 | .int i,.int j=>if C i j=true then some (g i j) else none
 | _,_=>none
theorem f2_I {g:Int->Int->PyData}:F2 (fI (fun _ _=>True) g) (gI g):=fun x y d Q e q=>by
 unfold gI at e
 split at e
 ·cases e; exact ⟨_,_,rfl,rfl,trivial,q⟩
 ·cases e
theorem f2_IC {C:Int->Int->Bool} {P:Int->Int->Prop} {g:Int->Int->PyData} (h:∀ i j,C i j=true->P i j):F2 (fI P g) (gIC C g):=fun x y d Q e q=>by
 unfold gIC at e
 split at e
 ·split at e
  ·rename_i hc; cases e; exact ⟨_,_,rfl,rfl,h _ _ hc,q⟩
  ·cases e
 ·cases e
noncomputable def cMul (i j:Int):Bool:=(decide (-(2 ^ 64) < i) && decide (i < 2 ^ 64)) || (decide (-(2 ^ 64) < j) && decide (j < 2 ^ 64))
noncomputable def cMod (_ j:Int):Bool:=decide (0 < j)
noncomputable def cPow (i j:Int):Bool:=decide (0<=j) && decide (j<=1000000) && decide (i.natAbs < 2 ^ 64)
theorem cMul_ok (i j:Int) (h:cMul i j=true):CMul i j:=by
 unfold cMul at h
 simp only [Bool.or_eq_true,Bool.and_eq_true,decide_eq_true_eq] at h
 exact h
theorem cMod_ok (i j:Int) (h:cMod i j=true):0 < j:=by
 unfold cMod at h
 simpa using h
theorem cPow_ok (i j:Int) (h:cPow i j=true):CPow i j:=by
 unfold cPow at h
 simp only [Bool.and_eq_true,decide_eq_true_eq] at h
 exact ⟨h.1.1,h.1.2,h.2⟩
noncomputable def gEq (neg:Bool):PyData->PyData->Option PyData:=fun x y=>if (SeqAt.shaped x && SeqAt.shaped y)=true then some (.bool (PyData.eqv x y != neg)) else none
theorem f2_eq {neg:Bool}:F2 (fEq neg) (gEq neg):=fun x y d Q e q=>by
 unfold gEq at e
 split at e
 ·rename_i h
  cases e
  exact ⟨(Bool.and_eq_true_iff.mp h).1,(Bool.and_eq_true_iff.mp h).2,q⟩
 ·cases e
@[simp] noncomputable def gIs:PyData->PyData->Option PyData:=fun x y=>match y with | .none=>some (.bool (isNone x)) | _=>none
@[simp] noncomputable def gIsNot:PyData->PyData->Option PyData:=fun x y=>match y with | .none=>some (.bool (!isNone x)) | _=>none
theorem f2_is:F2 fIs gIs:=fun x y d Q e q=>by
 unfold gIs at e
 split at e
 ·cases e; exact ⟨rfl,q⟩
 ·cases e
theorem f2_isnot:F2 fIsNot gIsNot:=fun x y d Q e q=>by
 unfold gIsNot at e
 split at e
 ·cases e; exact ⟨rfl,q⟩
 ·cases e
@[simp] noncomputable def gCatL:PyData->PyData->Option PyData:=fun x y=>match x,y with
 | .list ds,.list es=>if ds.length + es.length<=sizeLine then some (.list (ds ++ es)) else none
 | _,_=>none
theorem f2_catL:F2 fCatL gCatL:=fun x y d Q e q=>by
 unfold gCatL at e
 split at e
 ·split at e
  ·rename_i h; cases e; exact ⟨_,_,rfl,rfl,h,q⟩
  ·cases e
 ·cases e
@[simp] noncomputable def xNot (a:XM PyData):XM PyData:=fun ρ=>(a ρ).bind fun d=>lift (match d with | .bool b=>some (.bool (!b)) | _=>none)
theorem fe_not {ma:XM PyData} (ha:FE X F E a ma):FE X F E (.UnaryOp .Not a pos) (xNot ma):=(de_not ha).imp mn_wp fun ρ Q q=>mn_wp _ _ _ (fun d ρ1 q1=>by
 obtain ⟨y,e1,q2⟩:=wp_lift q1
 cases d with
 | bool b=>cases e1; exact ⟨b,rfl,q2⟩
 | _=>cases e1) (wp_bind q)
@[simp] noncomputable def andK (b:XM PyData) (d:PyData):XM PyData:=fun ρ1=>match d with
 | .bool true=>b ρ1
 | .bool false=>.ok (.bool false) ρ1
 | _=>.bad
@[simp] noncomputable def xAnd (a b:XM PyData):XM PyData:=fun ρ=>(a ρ).bind (andK b)
theorem fe_and {rest:List Expr} {ma mb:XM PyData} (ha:FE X F E a ma) (hb:FE X F E (.BoolOp .And (b :: rest) pos) mb):FE X F E (.BoolOp .And (a :: b :: rest) pos) (xAnd ma mb):=(de_and ha hb).imp mn_wp fun ρ Q q=>mn_wp _ _ _ (fun d ρ1 q1=>by
 cases d with
 | bool b=>cases b with
  | true=>exact ⟨true,rfl,iteT q1⟩
  | false=>exact ⟨false,rfl,iteF q1⟩
 | _=>exact q1.elim) (wp_bind (k:=andK mb) q)
theorem fe_one {op} {ma:XM PyData} (h:FE X F E a ma):FE X F E (.BoolOp op [a] pos) ma:=de_one h
@[simp] noncomputable def xChain (p p':Int->Int->Bool) (a b c:XM PyData):XM PyData:=fun ρ=>(a ρ).bind fun x ρ1=>(b ρ1).bind fun y ρ2=>match x,y with
 | .int i,.int j=>if p i j=true then (c ρ2).bind (fun z=>lift (match z with | .int k=>some (.bool (p' j k)) | _=>none)) else .ok (.bool false) ρ2
 | _,_=>.bad
theorem fe_chain {p p':Int->Int->Bool} {ma mb mc:XM PyData} (h:DE X F e (dChain p p' (wp E ma) (wp E mb) (wp E mc))):FE X F E e (xChain p p' ma mb mc):=h.imp mn_wp fun ρ Q q=>by
 refine mn_wp _ _ _ (fun x ρ1 q1=>?_) (wp_bind q)
 refine mn_wp _ _ _ (fun y ρ2 q2=>?_) (wp_bind q1)
 unfold wp at q2
 cases x with
 | int i=>cases y with
  | int j=>
   refine ⟨i,j,rfl,rfl,?_⟩
   by_cases hp:p i j=true
   ·simp only [if_pos hp] at q2
    rw [if_pos hp]
    refine mn_wp _ _ _ (fun z ρ3 q3=>?_) (wp_bind (m:=mc) (k:=fun z=>lift (match z with | .int k=>some (PyData.bool (p' j k)) | _=>none)) q2)
    obtain ⟨d,e1,q4⟩:=wp_lift q3
    cases z with
    | int k=>cases e1; exact ⟨k,rfl,q4⟩
    | _=>cases e1
   ·simp only [if_neg hp] at q2
    rw [if_neg hp]
    exact q2
  | _=>exact q2.elim
 | _=>exact q2.elim
@[simp] noncomputable def bNotF (a:XM Bool):XM Bool:=fun ρ=>(a ρ).bind fun b ρ1=>.ok (!b) ρ1
theorem fb_not {ma:XM Bool} (h:FB X F E a ma):FB X F E (.UnaryOp .Not a pos) (bNotF ma):=(db_not h).imp mn_wp fun ρ Q q=>mn_wp _ _ _ (fun d ρ1 q1=>q1) (wp_bind (k:=fun b ρ1=>.ok (!b) ρ1) q)
@[simp] noncomputable def bAndF (a b:XM Bool):XM Bool:=fun ρ=>(a ρ).bind fun x ρ1=>if x=true then b ρ1 else .ok false ρ1
@[simp] noncomputable def bOrF (a b:XM Bool):XM Bool:=fun ρ=>(a ρ).bind fun x ρ1=>if x=true then .ok true ρ1 else b ρ1
theorem fw_and1 {ma:XM Bool} (h:FB X F E a ma):FW X F E (.BoolOp .And [a] pos) ma:=dw_and1 h
theorem fw_or1 {ma:XM Bool} (h:FB X F E a ma):FW X F E (.BoolOp .Or [a] pos) ma:=dw_or1 h
theorem fw_and {rest:List Expr} {ma mb:XM Bool} (ha:FB X F E a ma) (hb:FW X F E (.BoolOp .And (b :: rest) pos) mb):FW X F E (.BoolOp .And (a :: b :: rest) pos) (bAndF ma mb):=(dw_and ha hb).imp mn_wp fun ρ Q q=>mn_wp _ _ _ (fun d ρ1 q1=>by
 cases d with
 | true=>exact iteT q1
 | false=>exact iteF q1) (wp_bind (k:=fun x ρ1=>if x=true then mb ρ1 else .ok false ρ1) q)
theorem fw_or {rest:List Expr} {ma mb:XM Bool} (ha:FB X F E a ma) (hb:FW X F E (.BoolOp .Or (b :: rest) pos) mb):FW X F E (.BoolOp .Or (a :: b :: rest) pos) (bOrF ma mb):=(dw_or ha hb).imp mn_wp fun ρ Q q=>mn_wp _ _ _ (fun d ρ1 q1=>by
 cases d with
 | true=>exact iteT q1
 | false=>exact iteF q1) (wp_bind (k:=fun x ρ1=>if x=true then .ok true ρ1 else mb ρ1) q)
theorem fb_w {ma:XM Bool} (h:FW X F E e ma):FB X F E e ma:=h.db
@[simp] noncomputable def aNil:XM (List PyData):=fun ρ=>.ok [] ρ
@[simp] noncomputable def aCons (a:XM PyData) (r:XM (List PyData)):XM (List PyData):=fun ρ=>(a ρ).bind fun d ρ1=>(r ρ1).bind fun ds ρ2=>.ok (d :: ds) ρ2
theorem fa_nil:FA X F E [] aNil:=da_nil.imp mn_wp fun _ _ q=>q
theorem fa_cons {ma:XM PyData} {mr:XM (List PyData)} (ha:FE X F E e ma) (hr:FA X F E es mr) (hs:starEach (e :: es) X.env=(false,eval e X.env) :: starEach es X.env:=by rfl):FA X F E (e :: es) (aCons ma mr):=(da_cons ha hr hs).imp mn_wp fun ρ Q q=>
 mn_wp _ _ _ (fun d ρ1 q1=>mn_wp _ _ _ (fun ds ρ2 q2=>q2) (wp_bind (k:=fun ds ρ2=>.ok (d :: ds) ρ2) q1)) (wp_bind (k:=fun d ρ1=>(mr ρ1).bind fun ds ρ2=>.ok (d :: ds) ρ2) q)
@[simp] noncomputable def xTup (a:XM (List PyData)):XM PyData:=fun ρ=>(a ρ).bind fun ds=>lift (if ds.length<=sizeLine then some (.tuple ds) else none)
@[simp] noncomputable def xLst (a:XM (List PyData)):XM PyData:=fun ρ=>(a ρ).bind fun ds=>lift (if ds.length<=sizeLine then some (.list ds) else none)
theorem fe_tup {x1} {ma:XM (List PyData)} (h:FA X F E es ma):FE X F E (.Tuple es x1 pos) (xTup ma):=(de_tup h).imp mn_wp fun ρ Q q=>mn_wp _ _ _ (fun ds ρ1 q1=>by
 obtain ⟨d,e1,q2⟩:=wp_lift q1
 split at e1
 ·rename_i h; cases e1; exact ⟨h,q2⟩
 ·cases e1) (wp_bind q)
theorem fe_lst {ma:XM (List PyData)} (h:FA X F E es ma):FE X F E (.List es pos) (xLst ma):=(de_lst h).imp mn_wp fun ρ Q q=>mn_wp _ _ _ (fun ds ρ1 q1=>by
 obtain ⟨d,e1,q2⟩:=wp_lift q1
 split at e1
 ·rename_i h; cases e1; exact ⟨h,q2⟩
 ·cases e1) (wp_bind q)
@[simp] noncomputable def xCB (g:List PyData->Option PyData) (a:XM (List PyData)):XM PyData:=fun ρ=>(a ρ).bind fun ds=>lift (g ds)
noncomputable def FN (f:DN) (g:List PyData->Option PyData):Prop:=∀ ds d Q,g ds=some d->Q d->f ds Q
theorem fe_cb {f:DN} {g:List PyData->Option PyData} {ma:XM (List PyData)} (hg:FN f g) (h:DE X F e (dCB f (wp E ma))):FE X F E e (xCB g ma):=h.imp mn_wp fun ρ Q q=>mn_wp _ _ _ (fun ds ρ1 q1=>by
 obtain ⟨d,e1,q2⟩:=wp_lift q1
 exact hg ds d _ e1 q2) (wp_bind q)
end
end L2.L3
namespace L2.L3
open PySem PySem.Spec PyProof.Rows
section
variable {X:Cx} {F:Fx} {E:Str->DEnv->Prop} {e a b c:Expr} {es:List Expr} {st:Stmt} {rest:List Stmt} {pos:Pos} {x:Str}
@[simp] noncomputable def nLen:List PyData->Option PyData:=fun xs=>match xs with
 | [.list ds]=>some (.int ds.length)
 | [.tuple ds]=>some (.int ds.length)
 | _=>none
theorem fn_len:FN fLen nLen:=fun xs d Q e q=>by
 unfold nLen at e
 split at e
 ·cases e; exact ⟨_,.inl rfl,q⟩
 ·cases e; exact ⟨_,.inr rfl,q⟩
 ·cases e
@[simp] noncomputable def nTuple:List PyData->Option PyData:=fun xs=>match xs with
 | [.list ds]=>some (.tuple ds)
 | [.tuple ds]=>some (.tuple ds)
 | _=>none
theorem fn_tuple:FN fTuple nTuple:=fun xs d Q e q=>by
 unfold nTuple at e
 split at e
 ·cases e; exact .inl ⟨_,rfl,q⟩
 ·cases e; exact .inr ⟨_,rfl,q⟩
 ·cases e
noncomputable def bools?:List PyData->Option (List Bool)
 | []=>some []
 | .bool i :: r=>(bools? r).map (i :: ·)
 | _ :: _=>none
theorem bools_of:∀ {ds:List PyData} {ns:List Bool},bools? ds=some ns->ds=ns.map .bool
 | [],_,e=>by cases e; rfl
 | d :: r,ns,e=>by
  cases d with
  | bool i=>
   cases q:bools? r with
   | none=>simp [bools?,q] at e
   | some l=>simp [bools?,q] at e; subst e; rw [bools_of q]; rfl
  | _=>cases e
noncomputable def nAll:List PyData->Option PyData:=fun xs=>match xs with
 | [.list ds]=>(bools? ds).map fun bs=>.bool (bs.all id)
 | _=>none
theorem fn_all:FN fAll nAll:=fun xs d Q e q=>by
 unfold nAll at e
 split at e
 ·obtain ⟨bs,e1,e2⟩:=Option.map_eq_some_iff.mp e
  rw [bools_of e1]
  subst e2
  exact ⟨bs,rfl,q⟩
 ·cases e
@[simp] noncomputable def xLenS (i:Nat):XM PyData:=fun ρ=>match ρ[i]? with
 | some (some (.scr ns))=>if ns.length<=63 then .ok (.int ns.length) ρ else .bad
 | _=>.bad
@[simp] noncomputable def xIxS (i:Nat) (a:XM PyData):XM PyData:=fun ρ=>match ρ[i]? with
 | some (some (.scr ns))=>(a ρ).bind fun d=>lift (match d with | .int k=>(atI ns k).map .int | _=>none)
 | _=>.bad
@[simp] noncomputable def bEqS (i:Nat):XM Bool:=fun ρ=>match ρ[i]? with
 | some (some (.scr ns))=>.ok (decide (ns=[])) ρ
 | _=>.bad
theorem fe_lenS {i:Nat} (h:DE X F e (dLenS i)):FE X F E e (xLenS i):=h.imp mn_wp fun ρ Q q=>by
 unfold wp xLenS at q
 cases h:ρ[i]? with
 | none=>rw [h] at q; exact q.elim
 | some o=>
  rw [h] at q
  cases o with
  | none=>exact q.elim
  | some c=>
   cases c with
   | scr ns=>
    simp only at q
    by_cases hl:ns.length<=63
    ·rw [if_pos hl] at q; exact ⟨ns,h,fun _=>q⟩
    ·rw [if_neg hl] at q; exact q.elim
   | _=>exact q.elim
theorem fe_ixS {i:Nat} {ma:XM PyData} (h:DE X F e (dIxS i (wp E ma))):FE X F E e (xIxS i ma):=h.imp mn_wp fun ρ Q q=>by
 unfold wp xIxS at q
 cases h:ρ[i]? with
 | none=>rw [h] at q; exact q.elim
 | some o=>
  rw [h] at q
  cases o with
  | none=>exact q.elim
  | some c=>
   cases c with
   | scr ns=>
    refine ⟨ns,h,mn_wp _ _ _ (fun d ρ1 q1=>?_) (wp_bind (m:=ma) (k:=fun d=>lift (match d with | .int k=>(atI ns k).map PyData.int | _=>none)) q)⟩
    obtain ⟨y,e1,q2⟩:=wp_lift q1
    cases d with
    | int k=>
     obtain ⟨n,e2,e3⟩:=Option.map_eq_some_iff.mp e1
     subst e3
     exact ⟨k,n,rfl,e2,q2⟩
    | _=>cases e1
   | _=>exact q.elim
theorem fb_eqS {i:Nat} (h:DB X F e (dEqS i)):FB X F E e (bEqS i):=h.imp mn_wp fun ρ Q q=>by
 unfold wp bEqS at q
 cases h:ρ[i]? with
 | none=>rw [h] at q; exact q.elim
 | some o=>
  rw [h] at q
  cases o with
  | none=>exact q.elim
  | some c=>
   cases c with
   | scr ns=>exact ⟨ns,h,q⟩
   | _=>exact q.elim
@[simp] noncomputable def gNm (i:Nat):GM:=fun d ρ=>some (ρ.set i (some (.dat d)))
theorem fg_name {i:Nat} (h:DG X F e (gN i)):FG X F e (gNm i):=⟨fun d ρ Q Q' k q=>k _ q,h.pg.imp fun v σ H Q ⟨ρ,O,d,st,hd,q⟩=>⟨ρ,O,d,st,hd,q⟩⟩
noncomputable abbrev GMs:=List PyData->DEnv->Option DEnv
noncomputable def wpGs (g:GMs):DTGs:=fun d ρ Q=>match g d ρ with
 | some ρ'=>Q ρ'
 | none=>False
noncomputable abbrev FGs (X:Cx) (F:Fx) (tg:List Expr) (g:GMs):Prop:=DGs X F tg (wpGs g)
@[simp] noncomputable def gNil':GMs:=fun ds ρ=>match ds with | []=>some ρ | _=>none
@[simp] noncomputable def gCons' (t:GM) (u:GMs):GMs:=fun ds ρ=>match ds with | d :: r=>(t d ρ).bind fun ρ'=>u r ρ' | []=>none
theorem mn_wpG {g:GM}:∀ d ρ (Q Q':DEnv->Prop),(∀ ρ',Q ρ'->Q' ρ')->wpG g d ρ Q->wpG g d ρ Q':=fun d ρ Q Q' k q=>by
 unfold wpG at q ⊢
 generalize g d ρ=o at q ⊢
 cases o with
 | some ρ'=>exact k _ q
 | none=>exact q
theorem mn_wpGs {g:GMs}:∀ d ρ (Q Q':DEnv->Prop),(∀ ρ',Q ρ'->Q' ρ')->wpGs g d ρ Q->wpGs g d ρ Q':=fun d ρ Q Q' k q=>by
 unfold wpGs at q ⊢
 generalize g d ρ=o at q ⊢
 cases o with
 | some ρ'=>exact k _ q
 | none=>exact q
theorem fgs_nil:FGs X F [] gNil':=⟨mn_wpGs,dgs_nil.pg.imp fun v σ H Q ⟨ρ,O,d,st,hd,q⟩=>⟨ρ,O,d,st,hd,by
 unfold wpGs gNil' at q
 cases d with
 | nil=>exact ⟨rfl,q⟩
 | cons _ _=>exact q.elim⟩⟩
theorem fgs_cons {g:GM} {gs:GMs} (h1:FG X F e g) (h2:FGs X F es gs) (hs:(assignEach (e :: es) X.env).map (·.2)=assign e X.env :: (assignEach es X.env).map (·.2):=by rfl):FGs X F (e :: es) (gCons' g gs):=⟨mn_wpGs,(dgs_cons h1 h2 hs).pg.imp fun v σ H Q ⟨ρ,O,d,st,hd,q⟩=>⟨ρ,O,d,st,hd,by
 unfold wpGs gCons' at q
 cases d with
 | nil=>exact q.elim
 | cons d r=>
  refine ⟨d,r,rfl,?_⟩
  unfold wpG
  simp only at q
  cases hg:g d ρ with
  | none=>rw [hg] at q; exact q
  | some ρ'=>rw [hg] at q; exact q⟩⟩
@[simp] noncomputable def gTup' (n:Nat) (t:GMs):GM:=fun d ρ=>match d with | .tuple ds=>if ds.length=n then t ds ρ else none | _=>none
theorem fg_tup {k n:Nat} {gs:GMs} (hc:X.calm=true) (h:FGs X F es gs) (hn:(assignEach es X.env).length=n:=by rfl) (hst:(assignEach es X.env).findIdx? (·.1)=none:=by rfl):FG X F (.Tuple es k pos) (gTup' n gs):=⟨mn_wpG,(dg_tup hc h hn hst).pg.imp fun v σ H Q ⟨ρ,O,d,st,hd,q⟩=>⟨ρ,O,d,st,hd,by
 unfold wpG gTup' at q
 cases d with
 | tuple ds=>
  simp only at q
  by_cases hl:ds.length=n
  ·rw [if_pos hl] at q; exact ⟨ds,rfl,hl,q⟩
  ·rw [if_neg hl] at q; exact q.elim
 | _=>exact q.elim⟩⟩
@[simp] noncomputable def cNil:XM (List AX):=fun ρ=>.ok [] ρ
@[simp] noncomputable def cVal (a:XM PyData) (r:XM (List AX)):XM (List AX):=fun ρ=>(a ρ).bind fun d ρ1=>(r ρ1).bind fun as ρ2=>.ok (.d d :: as) ρ2
@[simp] noncomputable def cSlot (j:Nat) (r:XM (List AX)):XM (List AX):=fun ρ=>match ρ[j]? with
 | some (some _)=>(r ρ).bind fun as ρ2=>.ok (.s j :: as) ρ2
 | _=>.bad
theorem fx_nil:FX X F E [] cNil:=dx_nil.imp mn_wp fun _ _ q=>q
theorem fx_val {ma:XM PyData} {mr:XM (List AX)} (ha:FE X F E e ma) (hr:FX X F E es mr) (hs:starEach (e :: es) X.env=(false,eval e X.env) :: starEach es X.env:=by rfl):FX X F E (e :: es) (cVal ma mr):=(dx_val ha hr hs).imp mn_wp fun ρ Q q=>
 mn_wp _ _ _ (fun d ρ1 q1=>mn_wp _ _ _ (fun ds ρ2 q2=>q2) (wp_bind (k:=fun as ρ2=>Out.ok (AX.d d :: as) ρ2) q1)) (wp_bind (m:=ma) (k:=fun d ρ1=>(mr ρ1).bind fun as ρ2=>Out.ok (AX.d d :: as) ρ2) q)
theorem fx_slot {p:Pos} {j:Nat} {mr:XM (List AX)} (hv:PE X (.Name x p) (tVar j)) (hr:FX X F E es mr) (hs:starEach (.Name x p :: es) X.env=(false,eval (.Name x p) X.env) :: starEach es X.env:=by rfl):FX X F E (.Name x p :: es) (cSlot j mr):=(dx_slot hv hr hs).imp mn_wp fun ρ Q q=>by
 unfold wp cSlot at q
 cases h:ρ[j]? with
 | none=>rw [h] at q; exact q.elim
 | some o=>
  rw [h] at q
  cases o with
  | none=>exact q.elim
  | some c=>exact ⟨⟨c,h⟩,mn_wp _ _ _ (fun as ρ2 q2=>q2) (wp_bind (m:=mr) (k:=fun as ρ2=>Out.ok (AX.s j :: as) ρ2) (show wp E (fun ρ=>(mr ρ).bind fun as ρ2=>Out.ok (AX.s j :: as) ρ2) ρ Q from q))⟩
@[simp] noncomputable def callK (f:FM) (as:List AX):XM Cell:=fun ρ=>match argCells ρ as with
 | some (cs,js)=>(match f cs with
  | .rt c outs=>.ok c (back js outs (clr js ρ))
  | .ex c outs=>.ex c (back js outs (clr js ρ))
  | .bad=>.bad)
 | none=>.bad
@[simp] noncomputable def xCall (f:FM) (a:XM (List AX)):XM Cell:=fun ρ=>(a ρ).bind (callK f)
theorem fo_call {g:FM} {ma:XM (List AX)} (h:DO X F e (dCall g E (wp E ma))):FO X F E e (xCall g ma):=h.imp mn_wp fun ρ Q q=>mn_wp _ _ _ (fun as ρ1 q1=>by
 unfold wp callK at q1
 unfold callOn
 cases ha:argCells ρ1 as with
 | none=>rw [ha] at q1; exact q1
 | some p=>
  obtain ⟨cs,js⟩:=p
  rw [ha] at q1
  simp only at q1 ⊢
  cases hf:g cs with
  | rt c outs=>rw [hf] at q1; exact q1
  | ex c outs=>rw [hf] at q1; exact q1
  | bad=>rw [hf] at q1; exact q1) (wp_bind (k:=callK g) q)
@[simp] noncomputable def xFrz (a:XM Cell):XM PyData:=fun ρ=>(a ρ).bind fun c=>lift (frz c)
theorem fe_frz {ma:XM Cell} (h:FO X F E e ma):FE X F E e (xFrz ma):=h.de.imp mn_wp fun ρ Q q=>mn_wp _ _ _ (fun c ρ1 q1=>wp_lift q1) (wp_bind q)
@[simp] noncomputable def sNx:SM:=fun ρ=>.nx ρ
@[simp] noncomputable def sThen (m k:SM):SM:=fun ρ=>match m ρ with
 | .nx ρ'=>k ρ'
 | o=>o
theorem fss_nil:FSs X F E [] sNx:=dss_nil.imp fun _ _ q=>q
theorem fss_cons {m k:SM} (h1:FS X F E st m) (h2:FSs X F E rest k):FSs X F E (st :: rest) (sThen m k):=(dss_cons h1 h2).imp fun D ρ q=>by
 show wpS E m _ ρ
 unfold wpS sThen at q
 unfold wpS
 generalize m ρ=o at q ⊢
 cases o with
 | nx ρ'=>exact q
 | _=>exact q
theorem fss_one {m:SM} (h:FS X F E st m):FSs X F E [st] m:=dss_one h
@[simp] noncomputable def ofX {α:Type} (o:Out α) (k:α->DEnv->OutS):OutS:=match o with
 | .ok a ρ=>k a ρ
 | .ex c ρ=>.ex c ρ
 | .bad=>.bad
theorem wpS_ofX {α:Type} {m:XM α} {k:α->SM} {D:DEnds} {ρ:DEnv} (q:wpS E (fun ρ=>ofX (m ρ) k) D ρ):wp E m ρ fun a ρ'=>wpS E (k a) D ρ':=by
 unfold wpS ofX at q
 unfold wp
 simp only at q
 generalize m ρ=o at q ⊢
 cases o with
 | ok a ρ'=>exact q
 | ex c ρ'=>exact q
 | bad=>exact q
@[simp] noncomputable def optS (o:Option DEnv):OutS:=match o with
 | some ρ=>.nx ρ
 | none=>.bad
@[simp] noncomputable def sAsg (m:XM PyData) (g:GM):SM:=fun ρ=>ofX (m ρ) fun d ρ1=>optS (g d ρ1)
theorem asg_of {m:XM PyData} {g:GM} {D:DEnds} {ρ:DEnv} (q:wpS E (sAsg m g) D ρ):sSet (wp E m) (wpG g) D ρ:=mn_wp _ _ _ (fun d ρ1 q1=>by
 unfold wpS optS at q1
 unfold wpG
 simp only at q1
 generalize g d ρ1=o at q1 ⊢
 cases o with
 | some ρ'=>exact q1
 | none=>exact q1) (wpS_ofX (k:=fun d ρ1=>optS (g d ρ1)) q)
theorem fs_set {i:Nat} {pos':Pos} {m:XM PyData} (hN:X.N.Nodup) (hi:X.N[i]? = some x) (hx:Loc X.env.scope x) (he:FE X F E e m) (hs:swapsWith e (some (.Name x pos')) pos.line X.env=pure false:=by rfl)
  (hf:X.fn x=true\/X.env.scope.names.lookup x=some .local:=by first | exact .inl rfl | exact .inr rfl | assumption):FS X F E (.Assign [.Name x pos'] e pos) (sAsg m (gNm i)):=(ds_set hN hi hx he hs hf).imp fun D ρ q=>asg_of q
@[simp] noncomputable def setK (i:Nat) (c:Cell):SM:=fun ρ1=>if i < ρ1.length then (match c with | .own true _=>.bad | c=>.nx (ρ1.set i (some c))) else .bad
@[simp] noncomputable def sSetC (i:Nat) (m:XM Cell):SM:=fun ρ=>ofX (m ρ) (setK i)
theorem fs_setO {i:Nat} {pos':Pos} {m:XM Cell} (hN:X.N.Nodup) (hi:X.N[i]? = some x) (hx:Loc X.env.scope x) (he:FO X F E e m) (hs:swapsWith e (some (.Name x pos')) pos.line X.env=pure false:=by rfl)
  (hf:X.fn x=true\/X.env.scope.names.lookup x=some .local:=by first | exact .inl rfl | exact .inr rfl | assumption):FS X F E (.Assign [.Name x pos'] e pos) (sSetC i m):=(ds_setO hN hi hx he hs hf).imp fun D ρ q=>mn_wp _ _ _ (fun c ρ1 q1=>by
 unfold wpS setK at q1
 by_cases hl:i < ρ1.length
 ·simp only [if_pos hl] at q1
  cases c with
  | own io b=>cases io with
   | true=>exact q1.elim
   | false=>exact ⟨hl,(fun _ z=>by cases z),q1⟩
  | dat d=>exact ⟨hl,(fun _ z=>by cases z),q1⟩
  | scr d=>exact ⟨hl,(fun _ z=>by cases z),q1⟩
  | exc d=>exact ⟨hl,(fun _ z=>by cases z),q1⟩
  | vw d=>exact ⟨hl,(fun _ z=>by cases z),q1⟩
 ·simp only [if_neg hl] at q1) (wpS_ofX (k:=setK i) q)
@[simp] noncomputable def sRetV (m:XM PyData):SM:=fun ρ=>ofX (m ρ) fun d ρ1=>.rt (.dat d) ρ1
@[simp] noncomputable def sRetC (m:XM Cell):SM:=fun ρ=>ofX (m ρ) fun c ρ1=>.rt c ρ1
@[simp] noncomputable def sDoC (m:XM Cell):SM:=fun ρ=>ofX (m ρ) fun _ ρ1=>.nx ρ1
theorem fs_ret {m:XM PyData} (he:FE X F E e m):FS X F E (.Return (some e) pos) (sRetV m):=(ds_ret he).imp fun D ρ q=>mn_wp _ _ _ (fun c ρ1 q1=>q1) (wpS_ofX (k:=fun d ρ1=>.rt (.dat d) ρ1) q)
theorem fs_retO {m:XM Cell} (he:FO X F E e m):FS X F E (.Return (some e) pos) (sRetC m):=(ds_retO he).imp fun D ρ q=>mn_wp _ _ _ (fun c ρ1 q1=>q1) (wpS_ofX (k:=fun d ρ1=>.rt d ρ1) q)
theorem fs_exprO {m:XM Cell} (he:FO X F E e m) (hs:swapsWith e none pos.line X.env=pure false:=by rfl):FS X F E (.Expr e pos) (sDoC m):=(ds_exprO he hs).imp fun D ρ q=>mn_wp _ _ _ (fun c ρ1 q1=>q1) (wpS_ofX (k:=fun _ ρ1=>.nx ρ1) q)
@[simp] noncomputable def sMv (i:Nat):SM:=fun ρ=>match ρ[i]? with
 | some (some (.own false b))=>.rt (.own false b) (ρ.set i none)
 | some (some (.dat d))=>.rt (.dat d) ρ
 | _=>.bad
@[simp] noncomputable def sIfF (t:XM Bool) (a b:SM):SM:=fun ρ=>ofX (t ρ) fun x ρ1=>if x=true then a ρ1 else b ρ1
theorem fs_if {cnd:Expr} {sa sb:List Stmt} {mt:XM Bool} {ma mb:SM} (hc:FB X F E cnd mt) (ha:FSs X F E sa ma) (hb:FSs X F E sb mb):FS X F E (.If cnd sa sb pos) (sIfF mt ma mb):=(ds_if hc ha hb).imp fun D ρ q=>mn_wp _ _ _ (fun x ρ1 q1=>by
 cases x with
 | true=>exact iteT q1
 | false=>exact iteF q1) (wpS_ofX (k:=fun x ρ1=>if x=true then ma ρ1 else mb ρ1) q)
end
end L2.L3
namespace L2.L3
open PySem PySem.Spec PyProof.Rows
noncomputable def isTab (d n:String):Option Bool:=if d=n then some true else
 if d = "bool"/\n = "int" then some true else
 if (d = "int"\/d = "bool"\/d = "str"\/d = "list"\/d = "tuple"\/d = "NoneType")/\(n = "int"\/n = "bool"\/n = "str"\/n = "list"\/n = "tuple") then some false else none
theorem kit_tab {d n:String} {b:Bool} (h:isTab d n=some b) (K:PySem.W.Frag):PySem.W.kitOne K (.type d) (.type n)=some b:=by
 unfold isTab at h
 split at h
 ·rename_i e; cases h; subst e; unfold PySem.W.kitOne; rw [if_pos (by simp)]
 ·split at h
  ·rename_i e; cases h; obtain ⟨rfl,rfl⟩:=e; rfl
  ·rename_i n1 n2
   split at h
   ·rename_i e
    cases h
    obtain ⟨e1,e2⟩:=e
    rcases e1 with rfl | rfl | rfl | rfl | rfl | rfl <;> rcases e2 with rfl | rfl | rfl | rfl | rfl <;> first | rfl | (exact absurd rfl n1) | (exact absurd ⟨rfl,rfl⟩ n2)
   ·cases h
@[simp] noncomputable def xIs (n:String) (a:XM PyData):XM PyData:=fun ρ=>(a ρ).bind fun d=>lift ((isTab (tyOfD d) n).map .bool)
section
variable {X:Cx} {F:Fx} {E:Str->DEnv->Prop} {e a b c:Expr} {es:List Expr} {st:Stmt} {rest:List Stmt} {pos:Pos} {x:Str}
theorem fe_is {n:String} {ma:XM PyData} (h:DE X F e (dIsI n (wp E ma))):FE X F E e (xIs n ma):=h.imp mn_wp fun ρ Q q=>mn_wp _ _ _ (fun d ρ1 q1=>by
 obtain ⟨y,e1,q2⟩:=wp_lift q1
 obtain ⟨b,e2,e3⟩:=Option.map_eq_some_iff.mp e1
 subst e3
 exact ⟨b,kit_tab e2,q2⟩) (wp_bind q)
theorem fs_mv {i:Nat} {p1:Pos} (hv:PE X (.Name x p1) (tVar i)):FS X F E (.Return (some (.Name x p1)) pos) (sMv i):=fun pins s σ H D I ⟨ρ,O,DD,stt,q,f⟩=>by
 unfold wpS sMv at q
 cases h:ρ[i]? with
 | none=>rw [h] at q; exact q.elim
 | some o=>
  rw [h] at q
  cases o with
  | none=>exact q.elim
  | some c=>
   cases c with
   | own io b=>cases io with
    | true=>exact q.elim
    | false=>exact ds_retMv hv pins s σ H D I ⟨ρ,O,DD,stt,⟨b,h,q⟩,f⟩
   | dat d=>exact ds_ret (de_var i hv) pins s σ H D I ⟨ρ,O,DD,stt,.inl ⟨d,h,q⟩,f⟩
   | scr n=>exact q.elim
   | exc n=>exact q.elim
   | vw n=>exact q.elim
noncomputable def forGo (g:GM) (b:SM):List PyData->SM
 | [],ρ=>.nx ρ
 | d :: r,ρ=>(match g d ρ with
  | some ρ1=>(match b ρ1 with
   | .nx ρ2=>forGo g b r ρ2
   | .ct ρ2=>forGo g b r ρ2
   | .bk ρ2=>.nx ρ2
   | o=>o)
  | none=>.bad)
@[simp] noncomputable def sForF (s:XM (List PyData)) (g:GM) (b:SM):SM:=fun ρ=>ofX (s ρ) (forGo g b)
theorem fs_for {tg iter:Expr} {body:List Stmt} {s:XM (List PyData)} {g:GM} {mb:SM} (hp:PassesOwn (model X.prog X.w) X.A X.env X.xe) (hc:X.calm=true) (hi:FI X F E tg iter s) (hg:FG X F tg g) (hb:FSs X F E body mb) (hs:∀ x,foldedSetIterable iter X.env x=pure x:=by intro _; rfl):FS X F E (.For tg iter body [] pos) (sForF s g mb):=
 (ds_for hp hc hi hg hb hs).imp fun D ρ q=>mn_wp _ _ _ (fun its ρ1 q1=>by
  refine ⟨fun i ρ=>wpS E (forGo g mb (its.drop i)) D ρ,q1,fun i d ρ hd hi=>?_,fun ρ h=>?_⟩
  ·have e:its.drop i=d :: its.drop (i + 1):=by
    obtain ⟨hlt,he⟩:=List.getElem?_eq_some_iff.mp hd
    rw [<-he]
    exact List.drop_eq_getElem_cons hlt
   simp only [e] at hi
   unfold wpS forGo at hi
   unfold wpG
   generalize g d ρ=o at hi ⊢
   cases o with
   | none=>exact hi
   | some ρ1=>
    show wpS E mb _ ρ1
    simp only at hi
    unfold wpS
    generalize mb ρ1=o2 at hi ⊢
    cases o2 with
    | nx ρ2=>exact hi
    | ct ρ2=>exact hi
    | bk ρ2=>exact hi
    | rt c ρ2=>exact hi
    | ex c ρ2=>exact hi
    | bad=>exact hi
  ·simp only [List.drop_length] at h
   exact h) (wpS_ofX (k:=forGo g mb) q)
@[simp] noncomputable def iLs (a:XM PyData):XM (List PyData):=fun ρ=>(a ρ).bind fun d=>lift (match d with | .list ds=>some ds | _=>none)
@[simp] noncomputable def iTs (a:XM PyData):XM (List PyData):=fun ρ=>(a ρ).bind fun d=>lift (match d with | .tuple ds=>some ds | _=>none)
theorem DI.imp {tg iter:Expr} {t t':DTI} (h:DI X F tg iter t) (mn:∀ ρ Q Q',(∀ d ρ',Q d ρ'->Q' d ρ')->t' ρ Q->t' ρ Q') (k:∀ ρ Q,t' ρ Q->t ρ Q):DI X F tg iter t':=⟨mn,h.pi.imp fun σ H Q ⟨ρ,O,st,q⟩=>⟨ρ,O,st,k ρ _ q⟩⟩
theorem fi_list {tg:Expr} {ma:XM PyData} (h:FE X F E e ma):FI X F E tg e (iLs ma):=(di_list h).imp mn_wp fun ρ Q q=>mn_wp _ _ _ (fun d ρ1 q1=>by
 obtain ⟨y,e1,q2⟩:=wp_lift q1
 cases d with
 | list ds=>cases e1; exact ⟨_,rfl,q2⟩
 | _=>cases e1) (wp_bind q)
theorem fi_tup {tg:Expr} {ma:XM PyData} (h:FE X F E e ma):FI X F E tg e (iTs ma):=(di_tup h).imp mn_wp fun ρ Q q=>mn_wp _ _ _ (fun d ρ1 q1=>by
 obtain ⟨y,e1,q2⟩:=wp_lift q1
 cases d with
 | tuple ds=>cases e1; exact ⟨_,rfl,q2⟩
 | _=>cases e1) (wp_bind q)
@[simp] noncomputable def iLf (g:List PyData->Option (List PyData)) (a:XM (List PyData)):XM (List PyData):=fun ρ=>(a ρ).bind fun ds=>lift (g ds)
@[simp] noncomputable def rng1:List PyData->Option (List PyData):=fun xs=>match xs with
 | [.int j]=>if (decide (-(2 ^ 62)<=j) && decide (j < 2 ^ 62))=true then some (intsFrom 0 j.toNat) else none
 | _=>none
theorem fi_range1 {tg:Expr} {ma:XM (List PyData)} (h:DI X F tg e (iR1 (wp E ma))):FI X F E tg e (iLf rng1 ma):=h.imp mn_wp fun ρ Q q=>mn_wp _ _ _ (fun ds ρ1 q1=>by
 obtain ⟨y,e1,q2⟩:=wp_lift q1
 unfold rng1 at e1
 split at e1
 ·split at e1
  ·rename_i h; cases e1; simp only [Bool.and_eq_true,decide_eq_true_eq] at h; exact ⟨_,rfl,h.1,h.2,q2⟩
  ·cases e1
 ·cases e1) (wp_bind q)
noncomputable def compGo (g:GM) (t:XM Bool) (m:XM PyData):List PyData->List PyData->DEnv->Option (List PyData)
 | [],ys,_=>some ys
 | d :: r,ys,ρ=>(match g d ρ with
  | some ρ1=>(match t ρ1 with
   | .ok true ρ2=>(match m ρ2 with
    | .ok y ρ3=>if ys.length < sizeLine then compGo g t m r (ys ++ [y]) ρ3 else none
    | _=>none)
   | .ok false ρ2=>compGo g t m r ys ρ2
   | _=>none)
  | none=>none)
@[simp] noncomputable def liftE (own:Nat) (caps:List Nat) (ρ:DEnv):DEnv:=List.replicate own none ++ caps.map fun j=>capC ρ[j]?
@[simp] noncomputable def compK (own:Nat) (caps:List Nat) (g:GM) (t:XM Bool) (m:XM PyData) (its:List PyData):XM PyData:=fun ρ1=>lift ((compGo g t m its [] (liftE own caps ρ1)).bind fun ys=>if ys.length<=sizeLine then some (.list ys) else none) ρ1
@[simp] noncomputable def xComp (own:Nat) (caps:List Nat) (s:XM (List PyData)) (g:GM) (t:XM Bool) (m:XM PyData):XM PyData:=fun ρ=>(s ρ).bind (compK own caps g t m)
noncomputable abbrev E0':Str->DEnv->Prop:=fun _ _=>False
theorem comp_of {own:List Str} {caps:List Nat} {s:XM (List PyData)} {g:GM} {t:XM Bool} {m:XM PyData} {ρ:DEnv} {Q:PyData->DEnv->Prop} (q:wp E (xComp own.length caps s g t m) ρ Q):dCmp own caps (wp E s) (wpG g) (wp E0' t) (wp E0' m) ρ Q:=mn_wp _ _ _ (fun its ρ1 q1=>by
 obtain ⟨y,e1,q2⟩:=wp_lift (o:=(compGo g t m its [] (liftE own.length caps ρ1)).bind fun ys=>if ys.length<=sizeLine then some (PyData.list ys) else none) (ρ:=ρ1) (E:=E) (Q:=Q) q1
 obtain ⟨ys0,e2,e3⟩:=Option.bind_eq_some_iff.mp e1
 have hl:ys0.length<=sizeLine/\y=.list ys0:=by
  split at e3
  ·rename_i h; cases e3; exact ⟨h,rfl⟩
  ·cases e3
 have eL:liftD own caps ρ1=liftE own.length caps ρ1:=by
  unfold liftD liftE
  rw [List.map_const']
 refine ⟨fun i ys ρ=>compGo g t m (its.drop i) ys ρ=some ys0,by rw [eL]; exact e2,fun i d ys ρ hd hi=>?_,fun ys ρ h=>?_⟩
 ·have e:its.drop i=d :: its.drop (i + 1):=by
   obtain ⟨hlt,he⟩:=List.getElem?_eq_some_iff.mp hd
   rw [<-he]
   exact List.drop_eq_getElem_cons hlt
  simp only [e] at hi
  unfold compGo at hi
  unfold wpG
  cases hg:g d ρ with
  | none=>rw [hg] at hi; cases hi
  | some ρ2=>
   rw [hg] at hi
   simp only at hi ⊢
   unfold wp
   cases ht:t ρ2 with
   | ex c ρ3=>rw [ht] at hi; cases hi
   | bad=>rw [ht] at hi; cases hi
   | ok b ρ3=>
    rw [ht] at hi
    cases b with
    | false=>exact iteF hi
    | true=>
     refine iteT ?_
     simp only at hi ⊢
     cases hm:m ρ3 with
     | ex c ρ4=>rw [hm] at hi; cases hi
     | bad=>rw [hm] at hi; cases hi
     | ok y' ρ4=>
      rw [hm] at hi
      simp only at hi ⊢
      split at hi
      ·rename_i h; exact ⟨h,hi⟩
      ·cases hi
 ·simp only [List.drop_length] at h
  have:ys=ys0:=by unfold compGo at h; exact Option.some.inj h
  subst this
  rw [hl.2] at q2
  exact ⟨hl.1,q2⟩) (wp_bind (k:=compK own.length caps g t m) q)
noncomputable abbrev FBs (X:Cx) (F:Fx) (E:Str->DEnv->Prop) (ifs:List Expr) (m:XM Bool):Prop:=DBs X F ifs (wp E m)
noncomputable def bTrue:XM Bool:=fun ρ=>.ok true ρ
theorem fbs_nil:FBs X F E [] bTrue:=⟨mn_wp,fun pins s σ H Q I ⟨ρ,O,st,q⟩=>dbs_nil.2 pins s σ H Q I ⟨ρ,O,st,q⟩⟩
theorem fbs_one {ma:XM Bool} (h:FB X F E c ma):FBs X F E [c] ma:=dbs_one h
theorem fe_comp {scope:Scope} {own capN:List Str} {caps:List Nat} {tg iter elt:Expr} {ifs:List Expr} {s:XM (List PyData)} {g:GM} {t:XM Bool} {m:XM PyData} {n:Nat} (hG:GF X.mg F) (S:CompScope X scope own capN caps) (hc:X.calm=true) (hn:own.length=n) (hi:FI X F E tg iter s)
  (hin:∀ C fp s₂ H₂ pl F',GF X.mg F'->FG (compCx X scope (own ++ capN) C fp s₂ H₂ pl) F' tg g/\FBs (compCx X scope (own ++ capN) C fp s₂ H₂ pl) F' E0' ifs t/\FE (compCx X scope (own ++ capN) C fp s₂ H₂ pl) F' E0' elt m)
  (hs:∀ x,foldedSetIterable iter X.env x=pure x:=by intro _; rfl):FE X F E (.ListComp elt [⟨tg,iter,ifs,0⟩] scope pos) (xComp n caps s g t m):=by
 subst hn
 exact (de_comp hG S hc hi hin hs).imp mn_wp fun ρ Q q=>comp_of q
theorem fs_setComp {scope:Scope} {own capN:List Str} {caps:List Nat} {tg iter elt:Expr} {ifs:List Expr} {s:XM (List PyData)} {g:GM} {t:XM Bool} {m:XM PyData} {n i:Nat} {y:Str} {py spos:Pos} (hN:X.N.Nodup) (hi':X.N[i]? = some y) (hx:Loc X.env.scope y) (hG:GF X.mg F) (S:CompScope X scope own capN caps) (hc:X.calm=true) (hn:own.length=n) (hi:FI X F E tg iter s)
  (hin:∀ C fp s₂ H₂ pl F',GF X.mg F'->FG (compCx X scope (own ++ capN) C fp s₂ H₂ pl) F' tg g/\FBs (compCx X scope (own ++ capN) C fp s₂ H₂ pl) F' E0' ifs t/\FE (compCx X scope (own ++ capN) C fp s₂ H₂ pl) F' E0' elt m)
  (hsw:swapsWith (.ListComp elt [⟨tg,iter,ifs,0⟩] scope pos) (some (.Name y py)) spos.line X.env=pure true:=by rfl)
  (hs:∀ x,foldedSetIterable iter X.env x=pure x:=by intro _; rfl) (hf:X.fn y=true\/X.env.scope.names.lookup y=some .local:=by first | exact .inl rfl | exact .inr rfl | assumption) :
  FS X F E (.Assign [.Name y py] (.ListComp elt [⟨tg,iter,ifs,0⟩] scope pos) spos) (sAsg (xComp n caps s g t m) (gNm i)):=by
 subst hn
 exact (ds_setComp hN hi' hx hG S hc hi hin hsw hs hf).imp fun D ρ q=>by
  have q':=asg_of q
  exact mn_cmp (s:=wp E s) mn_wp ρ _ _ (fun d ρ' h=>h) (comp_of (Q:=fun d ρ'=>wpG (gNm i) d ρ' D.nx) q')
end
end L2.L3
namespace L2.L3
open PySem PySem.Spec PyProof.Rows
section
variable {K:PySem.W.Frag} {F:Fx} {H H':Hp} {σ:St} {ρ:DEnv} {O O':List Addr}
theorem DSt.fresh (st:DSt K F H σ ρ O) {p:Addr} {o:HO} (hp:H p=none) (ho:Mv o):∃ O',DSt K (F.plus [p]) (upd H p o) σ ρ O'/\Stp O H O' (upd H p o):=by
 obtain ⟨O',h1,h2,_⟩:=DSt.swap (L:=[]) (L':=[p]) (H':=upd H p o) (F:=F) st (fun b u _ e=>same_upd hp b u e) (by simp) (fun a h=>.inr (by obtain rfl:=List.mem_singleton.mp h; exact hp)) (fun a h=>by cases h) (fun a h=>by obtain rfl:=List.mem_singleton.mp h; exact ⟨o,upd_same,ho⟩)
 exact ⟨O',h1,h2⟩
theorem DSt.new1 (st:DSt K F H σ ρ O) {p:Addr} (hp:H p=none):∀ a ∈ [p],a ∈ F.A₀\/F.H₀ a=none:=fun a h=>by
 obtain rfl:=List.mem_singleton.mp h
 by_cases hA:a ∈ F.A₀
 ·exact .inl hA
 ·refine .inr ?_
  cases e:F.H₀ a with
  | none=>rfl
  | some o=>obtain ⟨W,h,_⟩:=st; have:=h.kept a o hA e; rw [hp] at this; cases this
end
section
variable {X:Cx} {F:Fx} {E:Str->DEnv->Prop} {e a b c:Expr} {es:List Expr} {st:Stmt} {rest:List Stmt} {pos:Pos} {x:Str}
noncomputable def dLstO (t:DTA):DTO:=fun ρ Q=>t ρ fun ds ρ'=>ds.length<=sizeLine/\Q (.own false (.l ds)) ρ'
theorem do_lst {tA:DTA} (h:DA X F es tA):DO X F (.List es pos) (dLstO tA):=
 ⟨fun _ _ _ k q=>h.mn _ _ _ (fun _ _ q1=>⟨q1.1,k _ _ q1.2⟩) q,(pe_lst h.pa).imp fun σ H Q ⟨ρ,O,st,q⟩=>
  ⟨ρ,O,st,h.mn _ _ _ (fun ds ρ1 q1 vs H1 O1 st1 s1 d1=>⟨by rw [d1.length]; exact q1.1,fun p hp=>by
   obtain ⟨O2,st2,s2⟩:=st1.fresh (o:=.lst vs) hp trivial
   exact q1.2 _ _ O2 [p] ⟨st2,⟨p,rfl,rfl,vs,upd_same,DVs.mono s2.hid d1⟩,st1.new1 hp⟩ (s1.trans s2)⟩) q⟩⟩
@[simp] noncomputable def xLstO (a:XM (List PyData)):XM Cell:=fun ρ=>(a ρ).bind fun ds=>lift (if ds.length<=sizeLine then some (.own false (.l ds)) else none)
theorem fo_lst {ma:XM (List PyData)} (h:FA X F E es ma):FO X F E (.List es pos) (xLstO ma):=(do_lst h).imp mn_wp fun ρ Q q=>mn_wp _ _ _ (fun ds ρ1 q1=>by
 obtain ⟨d,e1,q2⟩:=wp_lift q1
 split at e1
 ·rename_i h; cases e1; exact ⟨h,q2⟩
 ·cases e1) (wp_bind q)
@[simp] noncomputable def appK (i:Nat) (d:PyData):SM:=fun ρ1=>match ρ1[i]? with
 | some (some (.own io (.l ds)))=>if ds.length < sizeLine then .nx (ρ1.set i (some (.own io (.l (ds ++ [d]))))) else .bad
 | _=>.bad
@[simp] noncomputable def sApp (i:Nat) (m:XM PyData):SM:=fun ρ=>match ρ[i]? with
 | some (some (.own _ (.l _)))=>ofX (m ρ) (appK i)
 | _=>.bad
theorem fs_app {i:Nat} {m:XM PyData} {p1 apos cpos:Pos} (hv:PE X (.Name x p1) (tVar i)) (he:FE X F E e m) (hsw:swapsWith (.Call (.Attribute (.Name x p1) "append" apos) [e] [] cpos) none pos.line X.env=pure false:=by rfl)
  (hbase:attributeBase (.Name x p1) "append" X.env (eval (.Name x p1) X.env)=eval (.Name x p1) X.env:=by rfl)
  (hfew:((backTo cpos (starEach [e] X.env)).all (fun x=>!x.1) && (backToKw cpos (keywordEach [] X.env)).all (fun x=>x.1.isSome) && decide (([e]:List Expr).length + ([]:List Keyword).length + (if ([]:List Keyword).isEmpty then 0 else 1) < 30))=true:=by rfl)
  (hline:(apos.endLine == cpos.line)=true:=by rfl) (hs:starEach [e] X.env=(false,eval e X.env) :: starEach [] X.env:=by rfl) (hplain:(backTo cpos (starEach [] X.env)).any (·.1)=false:=by rfl) :
  FS X F E (.Expr (.Call (.Attribute (.Name x p1) "append" apos) [e] [] cpos) pos) (sApp i m):=
 (ps_expr (pe_bm PySem.F.plainAttrs_list PySem.F.slot_list_append PySem.F.type_list_append mt_append hv (pa_cons he.pe pa_nil hs) hbase hfew hline hs hplain) hsw).imp fun D σ H ⟨ρ,O,DD,st,q,f⟩=>by
  unfold wpS sApp at q
  cases h0:ρ[i]? with
  | none=>rw [h0] at q; exact q.elim
  | some o=>
   rw [h0] at q
   cases o with
   | none=>exact q.elim
   | some c0=>
    cases c0 with
    | dat d=>exact q.elim
    | scr d=>exact q.elim
    | exc d=>exact q.elim
    | vw d=>exact q.elim
    | own io0 b0=>
     cases b0 with
     | m _ _=>exact q.elim
     | o _ _=>exact q.elim
     | sd _=>exact q.elim
     | ll _=>exact q.elim
     | l ds0=>
      obtain ⟨a,fp,hv0,⟨_,xs,hH,_⟩,_,_⟩:=st.box h0
      refine ⟨_,hv0,.inl ⟨rfl,xs,.of hH⟩,ρ,O,st,mn_wp _ _ _ (fun d ρ1 q1 w H1 O1 st1 s1 d1=>?_) (wpS_ofX (m:=m) (k:=appK i) q)⟩
      unfold wpS appK at q1
      cases h1:ρ1[i]? with
      | none=>rw [h1] at q1; exact q1.elim
      | some o=>
       rw [h1] at q1
       cases o with
       | none=>exact q1.elim
       | some c1=>
        cases c1 with
        | dat d=>exact q1.elim
        | scr d=>exact q1.elim
        | exc d=>exact q1.elim
        | vw d=>exact q1.elim
        | own io1 b1=>
         cases b1 with
         | m _ _=>exact q1.elim
         | o _ _=>exact q1.elim
         | sd _=>exact q1.elim
         | ll _=>exact q1.elim
         | l ds=>
          simp only at q1
          obtain ⟨a1,fp1,hv1,⟨e1,ys,hH1,hd⟩,hO,up⟩:=st1.box h1
          rw [hv0] at hv1; cases hv1
          subst e1
          by_cases hz:ds.length < sizeLine
          ·rw [if_pos hz] at q1
           refine ⟨a,ys,w,rfl,rfl,hH1,by rw [hd.length]; exact hz,?_⟩
           obtain ⟨O2,st2,s2,_⟩:=up (upd H1 a (.lst (ys ++ [w]))) (.l (ds ++ [d])) [a] (fun c o hc e=>by rw [upd_ne (by simpa using hc)]; exact e) (by simp) (fun c hc=>.inl hc) (fun G O' s hG _=>by
            subst hG
            exact ⟨s.hid,rfl,ys ++ [w],upd_same,(DVs.mono s.hid hd).append (.cons (DV.mono s.hid d1) .nil)⟩)
           exact f.nx _ _ _ _ st2 (s1.trans s2) q1
          ·rw [if_neg hz] at q1; exact q1.elim
@[simp] noncomputable def lenC:Cell->Option PyData
 | .dat (.list ds)=>some (.int ds.length)
 | .dat (.tuple ds)=>some (.int ds.length)
 | .own _ (.l ds)=>some (.int ds.length)
 | _=>none
@[simp] noncomputable def xLenN (i:Nat):XM PyData:=fun ρ=>match ρ[i]? with
 | some (some c)=>lift (lenC c) ρ
 | _=>.bad
theorem fe_lenN {i:Nat} {p p1:Pos} (hg:Gl X "len") (hm:X.mg "len" = none) (h:PE X (.Name x p1) (tVar i)) (he:starEach [.Name x p1] X.env=(false,eval (.Name x p1) X.env) :: starEach [] X.env:=by rfl) (hpl:(backTo pos (starEach [] X.env)).any (·.1)=false:=by rfl) :
  FE X F E (.Call (.Name "len" p) [.Name x p1] [] pos) (xLenN i):=
 ⟨mn_wp,(pe_callB call_len_seq hg hm PySem.boot_len (pa_cons h pa_nil he) (by decide) (by decide) he hpl).imp fun σ H Q ⟨ρ,O,st,q⟩=>by
  unfold wp xLenN at q
  cases h0:ρ[i]? with
  | none=>rw [h0] at q; exact q.elim
  | some o=>
   rw [h0] at q
   cases o with
   | none=>exact q.elim
   | some c0=>
    unfold lift at q
    cases c0 with
    | scr d=>exact q.elim
    | exc d=>exact q.elim
    | vw d=>exact q.elim
    | dat d=>
     obtain ⟨v,hv,hd⟩:=st.dat h0
     cases d with
     | list ds=>
      obtain ⟨a,xs,rfl,ha,hx⟩:=hd.lst_inv
      exact ⟨_,hv,a,xs,rfl,.inl (.of (of_hide ha).1),by rw [hx.length]; exact q _ H O st .refl (.int _)⟩
     | tuple ds=>
      obtain ⟨a,xs,rfl,ha,hx⟩:=hd.tup_inv
      exact ⟨_,hv,a,xs,rfl,.inr (.inl (of_hideR ha).1),by rw [hx.length]; exact q _ H O st .refl (.int _)⟩
     | _=>exact q.elim
    | own io b=>
     cases b with
     | l ds=>
      obtain ⟨a,fp,hv,⟨_,xs,hH,hx⟩,_,_⟩:=st.box h0
      exact ⟨_,hv,a,xs,rfl,.inl (.of hH),by rw [hx.length]; exact q _ H O st .refl (.int _)⟩
     | _=>exact q.elim⟩
end
end L2.L3
namespace L2.L3
open PySem PySem.Spec PyProof.Rows
noncomputable def keyOf:PyData->Option Key
 | .int i=>some (.inl i)
 | .str x=>some (.inr x)
 | _=>none
noncomputable def keysOf:List PyData->Option (List Key)
 | []=>some []
 | d :: r=>(match keyOf d,keysOf r with | some k,some l=>some (k :: l) | _,_=>none)
noncomputable def keyG:Bool->PyData->Option (List Key)
 | false,d=>(keyOf d).map fun k=>[k]
 | true,.tuple ds=>keysOf ds
 | true,_=>none
noncomputable abbrev KVs:=List (PyData × PyData)
noncomputable def dFind (tk:Bool):KVs->List Key->Option PyData
 | [],_=>none
 | p :: r,k=>if keyG tk p.1=some k then some p.2 else dFind tk r k
noncomputable def dRepl (tk:Bool) (k:List Key) (v:PyData):KVs->KVs
 | []=>[]
 | p :: r=>(if keyG tk p.1=some k then (p.1,v) else p) :: dRepl tk k v r
noncomputable def dStore (tk:Bool) (kvs:KVs) (d:PyData) (k:List Key) (v:PyData):KVs:=if (dFind tk kvs k).isSome=true then dRepl tk k v kvs else kvs ++ [(d,v)]
theorem key_v {G:Hp} {v:V} {d:PyData} {k:Key} (h:DV G v d) (e:keyOf d=some k):v=kV k:=by
 cases d with
 | int i=>cases e; exact h.int_inv
 | str x=>cases e; exact h.str_inv
 | _=>cases e
theorem key_d {k:Key}:keyOf (keyD k)=some k:=by cases k <;> rfl
theorem key_i {d:PyData} {k:Key} (e:keyOf d=some k):d=keyD k:=by
 cases d with
 | int i=>cases e; rfl
 | str x=>cases e; rfl
 | _=>cases e
theorem keys_d:∀ {ks:List Key},keysOf (ks.map keyD)=some ks
 | []=>rfl
 | k :: r=>by show (match keyOf (keyD k),keysOf (r.map keyD) with | some k,some l=>some (k :: l) | _,_=>none)=_; rw [key_d,keys_d]
theorem keys_i:∀ {ds:List PyData} {ks:List Key},keysOf ds=some ks->ds=ks.map keyD
 | [],ks,e=>by cases e; rfl
 | d :: r,ks,e=>by
  unfold keysOf at e
  cases h1:keyOf d with
  | none=>rw [h1] at e; cases e
  | some k=>
   cases h2:keysOf r with
   | none=>rw [h1,h2] at e; cases e
   | some l=>rw [h1,h2] at e; cases e; rw [key_i h1,keys_i h2]; rfl
theorem keys_v {G:Hp}:∀ {vs:List V} {ks:List Key},DVs G vs (ks.map keyD)->vs=ks.map kV
 | [],[],_=>rfl
 | _ :: _,k :: r,.cons h1 h2=>by rw [key_v h1 key_d,keys_v h2]; rfl
theorem valV_rel {κ:Type} [DecidableEq κ] {R:κ->PyData->Prop} {G:Hp} {tk:Bool} {inj:κ->List Key} (hk:∀ k d,R k d->keyG tk d=some (inj k)) (hi:∀ a b,inj a=inj b->a=b) :
  ∀ {ks:List (κ × V)} {kvs:KVs} (k:κ),Paired (fun (p:κ × V) (q:PyData × PyData)=>R p.1 q.1/\DV G p.2 q.2) ks kvs->(valV ks k=none/\dFind tk kvs (inj k)=none)\/∃ v d,valV ks k=some v/\dFind tk kvs (inj k)=some d/\DV G v d
 | [],[],k,_=>.inl ⟨rfl,rfl⟩
 | p :: r,q :: s,k,.cons h t=>by
  by_cases e:p.1=k
  ·refine .inr ⟨p.2,q.2,valV_pos e,?_,h.2⟩
   unfold dFind
   rw [if_pos (by rw [hk _ _ h.1,e])]
  ·rw [valV_neg e]
   unfold dFind
   rw [if_neg (by rw [hk _ _ h.1]; exact fun z=>e (hi _ _ (Option.some.inj z)))]
   exact valV_rel hk hi k t
theorem repl_rel {κ:Type} [DecidableEq κ] {R:κ->PyData->Prop} {G:Hp} {tk:Bool} {inj:κ->List Key} (hk:∀ k d,R k d->keyG tk d=some (inj k)) (hi:∀ a b,inj a=inj b->a=b) {v:V} {x:PyData} (hv:DV G v x) :
  ∀ {ks:List (κ × V)} {kvs:KVs} (k:κ),Paired (fun (p:κ × V) (q:PyData × PyData)=>R p.1 q.1/\DV G p.2 q.2) ks kvs->Paired (fun (p:κ × V) (q:PyData × PyData)=>R p.1 q.1/\DV G p.2 q.2) (ks.map fun kv=>if kv.1=k then (kv.1,v) else kv) (dRepl tk (inj k) x kvs)
 | [],[],k,_=>.nil
 | p :: r,q :: s,k,.cons h t=>by
  refine .cons ?_ (repl_rel hk hi hv k t)
  dsimp only
  by_cases e:p.1=k
  ·rw [if_pos e,if_pos (by rw [hk _ _ h.1,e])]; exact ⟨h.1,hv⟩
  ·rw [if_neg e,if_neg (by rw [hk _ _ h.1]; exact fun z=>e (hi _ _ (Option.some.inj z)))]; exact h
theorem pd_app {α β:Type} {R:α->β->Prop}:∀ {xs:List α} {ys:List β} {us:List α} {vs:List β},Paired R xs ys->Paired R us vs->Paired R (xs ++ us) (ys ++ vs)
 | _,_,_,_,.nil,h=>h
 | _,_,_,_,.cons h t,r=>.cons h (pd_app t r)
theorem put_rel {κ:Type} [DecidableEq κ] {R:κ->PyData->Prop} {G:Hp} {tk:Bool} {inj:κ->List Key} (hk:∀ k d,R k d->keyG tk d=some (inj k)) (hi:∀ a b,inj a=inj b->a=b) {v:V} {x d:PyData} (hv:DV G v x)
  {ks:List (κ × V)} {kvs:KVs} {k:κ} (hd:R k d) (h:Paired (fun (p:κ × V) (q:PyData × PyData)=>R p.1 q.1/\DV G p.2 q.2) ks kvs):Paired (fun (p:κ × V) (q:PyData × PyData)=>R p.1 q.1/\DV G p.2 q.2) (putK ks k v) (dStore tk kvs d (inj k) x):=by
 rcases valV_rel hk hi k h with ⟨e1,e2⟩ | ⟨v',d',e1,e2,_⟩
 ·rw [putK_new v e1]
  unfold dStore
  rw [e2,if_neg (by simp)]
  exact pd_app h (.cons ⟨hd,hv⟩ .nil)
 ·unfold dStore
  rw [e2,if_pos (by rfl)]
  unfold putK
  rw [if_pos (by rw [valV_any,e1]; rfl)]
  exact repl_rel hk hi hv k h
theorem hk1:∀ (k:Key) (d:PyData),keyD k=d->keyG false d=some [k]:=fun k d e=>by subst e; show (keyOf (keyD k)).map _=_; rw [key_d]; rfl
theorem hi1:∀ (a b:Key),[a]=[b]->a=b:=fun a b e=>by cases e; rfl
theorem hk2:∀ (k:List Key) (d:PyData),tupD k=d->keyG true d=some k:=fun k d e=>by subst e; exact keys_d
@[simp] noncomputable def keyQ (tk:Bool) (d:PyData):Option (List Key):=match d with
 | .tuple []=>none
 | d=>keyG tk d
theorem keyQ_of {tk:Bool} {d:PyData} {k:List Key} (e:keyQ tk d=some k):keyG tk d=some k/\d ≠ .tuple []:=by
 unfold keyQ at e
 split at e
 ·cases e
 ·rename_i h; exact ⟨e,h⟩
theorem keyless_of:∀ {ds:List PyData} {k:List Key},keysOf ds=some k->ds ≠ []->keyless ds=false
 | [],_,_,h=>absurd rfl h
 | [d],k,e,_=>by
  cases d <;> first | rfl | (simp [keysOf,keyOf] at e)
 | d :: f :: r,k,e,_=>by
  unfold keysOf at e
  split at e
  ·rename_i k1 l e1 e2
   have ih:=keyless_of (ds:=f :: r) e2 (by simp)
   cases d <;> first | (exact (by simpa [keyless] using ih)) | (exfalso; simp [keyOf] at e1)
  ·cases e
section
variable {G H:Hp} {a:Addr} {tk:Bool} {kvs:KVs}
theorem dic_get (h:DicAt G H a tk kvs) (hG:Same G H) {y:V} {d:PyData} {k:List Key} (hy:DV G y d) (e:keyQ tk d=some k):∃ o,DGet H a y o/\((o=none/\dFind tk kvs k=none)\/∃ v x,o=some v/\dFind tk kvs k=some x/\DV G v x):=by
 obtain ⟨e,hne⟩:=keyQ_of e
 cases tk with
 | false=>
  obtain ⟨ks,hH,pr⟩:=h
  obtain ⟨k',e1,e2⟩:=Option.map_eq_some_iff.mp e
  subst e2
  obtain rfl:=key_v hy e1
  exact ⟨_,.k hH,valV_rel hk1 hi1 k' pr⟩
 | true=>
  obtain ⟨ks,hH,pr⟩:=h
  cases d with
  | tuple ds=>
   obtain ⟨b,xs,rfl,hb,hx⟩:=hy.tup_invK (keyless_of e fun z=>hne (by rw [z]))
   rw [keys_i e] at hx
   rw [keys_v hx] at hb
   exact ⟨_,.t hH (hG _ _ hb),valV_rel (inj:=id) hk2 (fun _ _ z=>z) k pr⟩
  | _=>cases e
theorem dic_put (h:DicAt G H a tk kvs) (hG:Same G H) {y v:V} {d x:PyData} {k:List Key} (hy:DV G y d) (hv:DV G v x) (e:keyQ tk d=some k) (hl:kvs.length < sizeLine) :
  ∃ o,DPut H a y v (upd H a o)/\Mv o/\∀ G',Same G G'->DicAt G' (upd H a o) a tk (dStore tk kvs d k x):=by
 obtain ⟨e,hne⟩:=keyQ_of e
 cases tk with
 | false=>
  obtain ⟨ks,hH,pr⟩:=h
  obtain ⟨k',e1,e2⟩:=Option.map_eq_some_iff.mp e
  subst e2
  obtain rfl:=key_v hy e1
  refine ⟨_,.k hH (by rw [Paired.length pr]; exact hl),trivial,fun G' s=>⟨_,upd_same,put_rel hk1 hi1 (DV.mono s hv) (key_i e1).symm (Paired.mapP pr fun _ _ z=>⟨z.1,DV.mono s z.2⟩)⟩⟩
 | true=>
  obtain ⟨ks,hH,pr⟩:=h
  cases d with
  | tuple ds=>
   obtain ⟨b,xs,rfl,hb,hx⟩:=hy.tup_invK (keyless_of e fun z=>hne (by rw [z]))
   rw [keys_i e] at hx
   rw [keys_v hx] at hb
   exact ⟨_,.t hH (hG _ _ hb) (by rw [Paired.length pr]; exact hl),trivial,fun G' s=>⟨_,upd_same,put_rel (inj:=id) hk2 (fun _ _ z=>z) (DV.mono s hv) (show tupD k=_ by unfold tupD; rw [<-keys_i e]) (Paired.mapP pr fun _ _ z=>⟨z.1,DV.mono s z.2⟩)⟩⟩
  | _=>cases e
theorem dic_is (h:DicAt G H a tk kvs):IsD H a:=by
 cases tk with
 | false=>obtain ⟨ks,hH,_⟩:=h; exact .inl ⟨ks,.of hH⟩
 | true=>obtain ⟨ks,hH,_⟩:=h; exact .inr ⟨ks,.of hH⟩
end
noncomputable def asM (ρ:DEnv) (i:Nat):Option (Bool × Bool × KVs):=match ρ[i]? with
 | some (some (.own io (.m tk kvs)))=>some (io,tk,kvs)
 | _=>none
theorem asM_at {ρ:DEnv} {i:Nat} {io tk:Bool} {kvs:KVs} (h:asM ρ i=some (io,tk,kvs)):ρ[i]? = some (some (.own io (.m tk kvs))):=by
 unfold asM at h
 split at h
 ·rename_i e; cases h; exact e
 ·cases h
section
variable {X:Cx} {F:Fx} {E:Str->DEnv->Prop} {e a b c:Expr} {es:List Expr} {st:Stmt} {rest:List Stmt} {pos:Pos} {x:Str}
noncomputable def xDNew (tk:Bool):XM Cell:=fun ρ=>.ok (.own false (.m tk [])) ρ
theorem fo_dnew (tk:Bool):FO X F E (.Dict [] [] pos) (xDNew tk):=by
 refine ⟨mn_wp,?_⟩
 cases tk with
 | false=>
  refine pe_dnewK.imp ?_
  rintro σ H Q ⟨ρ,O,st,q⟩ p hp
  obtain ⟨O2,st2,s2⟩:=st.fresh (o:=.dK []) hp trivial
  exact q _ _ O2 [p] ⟨st2,⟨p,rfl,rfl,[],upd_same,.nil⟩,st.new1 hp⟩ s2
 | true=>
  refine pe_dnewT.imp ?_
  rintro σ H Q ⟨ρ,O,st,q⟩ p hp
  obtain ⟨O2,st2,s2⟩:=st.fresh (o:=.dT []) hp trivial
  exact q _ _ O2 [p] ⟨st2,⟨p,rfl,rfl,[],upd_same,.nil⟩,st.new1 hp⟩ s2
noncomputable def dGet2K (i:Nat) (d y:PyData):XM PyData:=fun ρ=>lift (match asM ρ i with
 | some (_,tk,kvs)=>(keyQ tk d).map fun k=>(dFind tk kvs k).getD y
 | none=>none) ρ
noncomputable def xDGet2 (i:Nat) (m n:XM PyData):XM PyData:=fun ρ=>match asM ρ i with
 | some _=>(m ρ).bind fun d ρ1=>(n ρ1).bind fun y=>dGet2K i d y
 | none=>.bad
theorem fe_dget2 {i:Nat} {m n:XM PyData} {f:Expr} {p1 apos cpos:Pos} (hu:X.A.units + 1 < cLine) (hv:PE X (.Name x p1) (tVar i)) (he:FE X F E e m) (hf:FE X F E f n) (mm:M2 X (.Name x p1) "get" apos e f cpos:=by exact ⟨rfl,rfl,rfl,rfl⟩):FE X F E (.Call (.Attribute (.Name x p1) "get" apos) [e,f] [] cpos) (xDGet2 i m n):=
 ⟨mn_wp,(pe_dget2 hu hv he.pe hf.pe mm).imp fun σ H Q ⟨ρ,O,st,q⟩=>by
  unfold wp xDGet2 at q
  cases hm:asM ρ i with
  | none=>rw [hm] at q; exact q.elim
  | some p=>
   rw [hm] at q
   obtain ⟨io,tk,kvs⟩:=p
   obtain ⟨a0,fp,hv0,⟨_,hd0⟩,_,_⟩:=st.box (asM_at hm)
   refine ⟨_,hv0,a0,rfl,dic_is hd0,ρ,O,st,mn_wp _ _ _ (fun d ρ1 q1 w H1 O1 st1 s1 d1=>?_) (wp_bind (m:=m) (k:=fun d ρ1=>(n ρ1).bind fun y=>dGet2K i d y) q)⟩
   refine ⟨ρ1,O1,st1,mn_wp _ _ _ (fun y ρ2 q2 z H2 O2 st2 s2 d2=>?_) (wp_bind (m:=n) (k:=fun y=>dGet2K i d y) q1)⟩
   obtain ⟨r,e1,q3⟩:=wp_lift (o:=match asM ρ2 i with | some (_,tk,kvs)=>(keyQ tk d).map fun k=>(dFind tk kvs k).getD y | none=>none) (ρ:=ρ2) (E:=E) q2
   cases hm2:asM ρ2 i with
   | none=>rw [hm2] at e1; cases e1
   | some p=>
    obtain ⟨io2,tk2,kvs2⟩:=p
    rw [hm2] at e1
    obtain ⟨k,e2,e3⟩:=Option.map_eq_some_iff.mp e1
    subst e3
    obtain ⟨a,fp2,hv2,⟨_,hd⟩,_,_⟩:=st2.box (asM_at hm2)
    rw [hv0] at hv2
    cases hv2
    obtain ⟨o,g,r⟩:=dic_get hd hide_le (DV.mono s2.hid d1) e2
    refine ⟨o,g,?_⟩
    rcases r with ⟨rfl,e⟩ | ⟨v,x,rfl,e,hx⟩
    ·rw [e] at q3; exact q3 _ H2 O2 st2 (s1.trans s2) d2
    ·rw [e] at q3; exact q3 _ H2 O2 st2 (s1.trans s2) hx⟩
noncomputable def dPutK (i:Nat) (y d:PyData):SM:=fun ρ=>match asM ρ i with
 | some (io,tk,kvs)=>(match keyQ tk d with
  | some k=>if kvs.length < sizeLine then .nx (ρ.set i (some (.own io (.m tk (dStore tk kvs d k y))))) else .bad
  | none=>.bad)
 | none=>.bad
noncomputable def dPutV (i:Nat) (mk:XM PyData) (y:PyData):SM:=fun ρ=>match asM ρ i with
 | some _=>ofX (mk ρ) (dPutK i y)
 | none=>.bad
noncomputable def sDPutF (i:Nat) (mk mv:XM PyData):SM:=fun ρ=>ofX (mv ρ) (dPutV i mk)
theorem fs_dput {i:Nat} {mk mv:XM PyData} {f:Expr} {p1 pos':Pos} (hu:X.A.units + 1 < cLine) (hv:PE X (.Name x p1) (tVar i)) (hk:FE X F E e mk) (hf:FE X F E f mv) (hs:swapsWith f (some (.Subscript (.Name x p1) e pos')) pos.line X.env=pure false:=by rfl) :
  FS X F E (.Assign [.Subscript (.Name x p1) e pos'] f pos) (sDPutF i mk mv):=
 (ps_dput hu hv hk.pe hf.pe hs).imp fun D σ H ⟨ρ,O,DD,st,q,f⟩=>⟨ρ,O,st,mn_wp _ _ _ (fun y ρ1 q1 vy H1 O1 st1 s1 d1=>by
  unfold wpS dPutV at q1
  cases hm:asM ρ1 i with
  | none=>rw [hm] at q1; exact q1.elim
  | some p=>
   rw [hm] at q1
   obtain ⟨io,tk,kvs⟩:=p
   obtain ⟨a0,fp,hv0,_,_,_⟩:=st1.box (asM_at hm)
   refine ⟨_,hv0,ρ1,O1,st1,mn_wp _ _ _ (fun d ρ2 q2 w H2 O2 st2 s2 d2=>?_) (wpS_ofX (m:=mk) (k:=dPutK i y) q1)⟩
   unfold wpS dPutK at q2
   cases hm2:asM ρ2 i with
   | none=>rw [hm2] at q2; exact q2.elim
   | some p=>
    rw [hm2] at q2
    obtain ⟨io2,tk2,kvs2⟩:=p
    simp only at q2
    cases hk:keyQ tk2 d with
    | none=>rw [hk] at q2; exact q2.elim
    | some k=>
     rw [hk] at q2
     simp only at q2
     by_cases hl:kvs2.length < sizeLine
     ·rw [if_pos hl] at q2
      obtain ⟨a,fp2,hv2,⟨e2,hd⟩,_,up⟩:=st2.box (asM_at hm2)
      rw [hv0] at hv2
      cases hv2
      subst e2
      obtain ⟨o,g,mv,hp⟩:=dic_put hd hide_le d2 (DV.mono s2.hid d1) hk hl
      refine ⟨_,_,rfl,g,?_⟩
      obtain ⟨O3,st3,s3,_⟩:=up (upd H2 a0 o) (.m tk2 (dStore tk2 kvs2 d k y)) [a0] (fun c o hc e=>by rw [upd_ne (by simpa using hc)]; exact e) (by simp) (fun c hc=>.inl hc) (fun G O' s hG _=>by
       subst hG
       exact ⟨s.hid,rfl,hp _ s.hid⟩)
      exact f.nx _ _ _ _ st3 (s1.trans (s2.trans s3)) q2
     ·rw [if_neg hl] at q2; exact q2.elim) (wpS_ofX (m:=mv) (k:=dPutV i mk) q)⟩
end
end L2.L3
namespace L2.L3
open PySem PySem.Spec PyProof.Rows
section
variable {X:Cx} {F:Fx} {E:Str->DEnv->Prop} {e a b c:Expr} {es:List Expr} {st:Stmt} {rest:List Stmt} {pos:Pos} {x:Str}
noncomputable def parK (i j:Nat) (ds:List PyData):SM:=fun ρ=>match ds with
 | [x,y]=>.nx ((ρ.set i (some (.dat x))).set j (some (.dat y)))
 | _=>.bad
noncomputable def sParF (i j:Nat) (m:XM (List PyData)):SM:=fun ρ=>ofX (m ρ) (parK i j)
theorem fs_par {i j:Nat} {m:XM (List PyData)} (h:DS X F st (sPar i j (wp E m))):FS X F E st (sParF i j m):=h.imp fun D ρ q=>mn_wp _ _ _ (fun ds ρ1 q1=>by
 unfold wpS parK at q1
 split at q1
 ·rename_i e
  split at e
  ·cases e; exact ⟨_,_,rfl,q1⟩
  ·cases e
 all_goals (rename_i e; split at e <;> cases e)
 all_goals exact q1.elim) (wpS_ofX (k:=parK i j) q)
end
end L2.L3
namespace L2.L3
open PySem PySem.Spec PyProof.Rows
noncomputable abbrev bmV:List Value:=[.type "ValueError",.type "Exception",.type "BaseException",.type "object"]
noncomputable def OwnEx (h:Heap) (C:Addr):Prop:=∃ tl N nm q bs hdct sn sub ab col dd k0 k1 k2 k3 k5 mN,h.get? C=some (excClassObj nm q C N bs tl hdct sn sub ab col dd k0 k1 k2 k3 k5 "ValueError.__new__")/\h.Ns N mN/\mN "__init__" = none/\OwnTail h bmV tl
theorem ownEx_of {K:PySem.W.Frag} {h:Heap} {C:Addr} (X:K.In h) (e:PySem.W.excIn K C bmV "ValueError.__new__" = true):OwnEx h C:=by
 unfold PySem.W.excIn at e
 split at e
 ·rename_i o1 o2 o3 o4
  split at e
  ·rename_i a1 a2 a3 a4 a5 a6 a7 a8 a9 a10
   have e':=e
   simp only [Bool.and_eq_true,beq_iff_eq] at e'
   obtain ⟨⟨⟨⟨⟨r1,r2⟩,r3⟩,r4⟩,r5⟩,r6⟩:=e'
   obtain ⟨n1,n2,n3,n4,n5,n6,n7,n8,n9,n10,n11⟩:=o2
   obtain ⟨l⟩:=o3
   simp at r3 a9 a10 r5 r6
   subst r1 r2 r3 a9 a10
   exact ⟨a2,n4,n1,n5,n2,n6,n7,n8,n9,n10,o1,a3,a4,a5,a6,a8,_,X _ _ o4,.of_isNs (PySem.W.isNs_of_in X r5),PySem.W.nsMap_none_of_in X r5 r6,PySem.W.tail_of_in X r4⟩
  ·cases e
 ·cases e
structure EC (K:PySem.W.Frag) (mg:Str->Option Value) (c:Str) (C:Addr):Prop where
 mg:mg c=some (.ref C)
 ns:PySem.W.nsIn K mainGlobals c=some (some (.ref C))
 ex:PySem.W.excIn K C bmV "ValueError.__new__" = true
@[simp] noncomputable def sRaiseF (c:Str):SM:=fun ρ=>.ex c ρ
section
variable {X:Cx} {F:Fx} {E:Str->DEnv->Prop}
theorem _root_.L2.Inv.madeX {pins:List (Addr × Obj)} {σ:St} {H:Hp} {s:Shared} {h':Heap} {e:Addr} {C:Value} {us:List Value} (I:Inv X pins σ H s) (m:Heap.MadeExcOf s.heap h' e C us):Inv X pins σ H { s with heap:=h' }/\Cov X pins s.heap/\ExS s.heap H h' e C none:=by
 have hb:∀ b,s.heap.get? b=none->H b=none:=fun b z=>HOk.some_of I.hok z
 obtain ⟨t,h1,h2,h3⟩:=m.there
 refine ⟨I.ch I.cov ⟨fun b o q _ _=>m.keeps b o q,fun b o _ q=>⟨o.slots,m.keeps b o q⟩,fun b o q=>⟨o,m.keeps b o q⟩⟩,I.cov,⟨fun b o q=>⟨o,m.keeps b o q⟩,m.new,hb e m.new,_,_,_,h1,rfl,rfl,rfl,.inl ⟨rfl,rfl⟩⟩⟩
theorem fs_raise {c tx:Str} {C:Addr} {j:Nat} {np cpos pos kp:Pos} (hx:XOk X F E) (hh:X.A.handled=none) (hg:Gl X c) (ec:EC X.K X.mg c C) (hdb:(c == ("__debug__":Str))=false:=by decide)
  (he:starEach [.Constant (.str tx) j kp] X.env=(false,eval (.Constant (.str tx) j kp) X.env) :: starEach [] X.env:=by rfl) :
  FS X F E (.Raise (some (.Call (.Name c np) [.Constant (.str tx) j kp] [] cpos)) none pos) (sRaiseF c):=fun pins s σ H D I ⟨ρ,O,DD,st,q,f⟩=>by
 obtain ⟨tl,N,nm,qn,bs,hdct,sn,sub,ab,col,dd,k0,k1,k2,k3,k5,mN,hC,hN,hni,T⟩:=ownEx_of I.ok.mod.kin ec.ex
 refine wpAny_Raise_call_subU (C:=C) (nm:=nm) (q:=qn) (N:=N) (bs:=bs) (bm:=tl) (hdct:=hdct) (sn:=sn) (sub:=sub) (ab:=ab) (col:=col) (dd:=dd) (k0:=k0) (k1:=k1) (k2:=k2) (k3:=k3) (k5:=k5) (mN:=mN)
  PySem.F.excBase_ValueError (by decide) PySem.F.excBase_ValueError (T.hasType (by decide)) hh (by rw [he]; rfl) hni (ld_glob I hg ec.mg ⟨rfl,?_⟩ hdb)
 have pa:PA X [.Constant (.str tx) j kp] _:=pa_cons (pe_str (X:=X)) pa_nil he
 have w:=pa cpos pins s σ H (fun vs H1=>vs.length=1/\H1=H) I (by exact ⟨rfl,rfl⟩)
 rw [he] at w ⊢
 refine Calls.evalArgs_plain (thn w fun us s2 ⟨vs,H1,I1,r,h1,h2⟩=>?_)
 subst h2
 refine ⟨rfl,by show us.length<=_; rw [<-r.length,h1]; decide,I1.bk _ _ hC,hN.keeps I1.bk,T.keeps I1.bk,fun h' e m=>?_⟩
 obtain ⟨I2,cv,ex⟩:=I1.madeX m
 exact hx.2 pins σ _ _ _ c ρ O ⟨I2,e,.ref C,s2.heap,none,rfl,cv,ex,ec.mg⟩ st q
end
end L2.L3
namespace L2.L3
open PySem PySem.Spec PyProof.Rows
noncomputable def underIn (K:PySem.W.Frag) (C D:Addr):Bool:=match K.lookup C with
 | some ⟨_,_,.cls cd,_⟩=>cd.mro.contains (.ref D)
 | _=>false
noncomputable def attrOk (K:PySem.W.Frag) (C:Addr):Bool:=PySem.W.findIn K (.ref C) "__getattribute__" == some (some (.builtin "BaseException.__getattribute__")) && PySem.W.findIn K (.ref C) "__class__" == some (some (.builtin "object.__class__")) && PySem.W.findIn K (.ref C) "__getattr__" == some none &&
 PySem.W.mroIn K C (.type "BaseException") == some true && PySem.W.mroIn K C (.type "object") == some true
noncomputable def excTab (K:PySem.W.Frag) (D:Addr) (l:List Str):Bool:=l.all fun c=>match PySem.W.nsIn K mainGlobals c with
 | some (some (.ref C))=>PySem.W.excIn K C bmV "ValueError.__new__" && underIn K C D && attrOk K C && (PySem.W.kitOne K (.ref C) (.type "ValueError") == some true) && l.all fun d=>match PySem.W.nsIn K mainGlobals d with
  | some (some (.ref D'))=>PySem.W.kitOne K (.ref C) (.ref D') == some (c == d)
  | _=>false
 | _=>false
structure XT (K:PySem.W.Frag) (mg:Str->Option Value) (l:List Str) (D:Addr):Prop where
 top:EC K mg "DueError" D
 tab:excTab K D l=true
 mgs:∀ c C,PySem.W.nsIn K mainGlobals c=some (some (.ref C))->mg c=some (.ref C)
theorem XT.at_ {K:PySem.W.Frag} {mg:Str->Option Value} {l:List Str} {D:Addr} (x:XT K mg l D) {c:Str} (h:c ∈ l):∃ C,EC K mg c C/\underIn K C D=true/\attrOk K C=true/\PySem.W.kitOne K (.ref C) (.type "ValueError")=some true/\
  ∀ d ∈ l,∃ D',mg d=some (.ref D')/\PySem.W.nsIn K mainGlobals d=some (some (.ref D'))/\PySem.W.kitOne K (.ref C) (.ref D')=some (c == d):=by
 have t:=List.all_eq_true.mp x.tab c h
 split at t
 ·rename_i C e
  simp only [Bool.and_eq_true] at t
  obtain ⟨⟨⟨⟨t1,t2⟩,t0⟩,t3⟩,t4⟩:=t
  refine ⟨C,⟨x.mgs c C e,e,t1⟩,t2,t0,by simpa using t3,fun d hd=>?_⟩
  have u:=List.all_eq_true.mp t4 d hd
  split at u
  ·rename_i D' e'
   exact ⟨D',x.mgs d D' e',e',by simpa using u⟩
  ·cases u
 ·cases t
theorem under_of {K:PySem.W.Frag} {h:Heap} {C D N:Addr} {nm q:Str} {bs tl:List Value} {hdct:Bool} {sn:List Str} {sub:List Value} {ab:Bool} {col:Option Bool} {dd:Option Addr} {k0 k1 k2 k3 k5:Option Value} {newId:String}
  (X:K.In h) (e:underIn K C D=true) (hC:h.get? C=some (excClassObj nm q C N bs tl hdct sn sub ab col dd k0 k1 k2 k3 k5 newId)):(Value.ref C :: tl).contains (.ref D)=true:=by
 unfold underIn at e
 split at e
 ·rename_i o
  have:=X _ _ o
  rw [hC] at this
  cases this
  exact e
 ·cases e
theorem match_under {M:Model} {A:Around} {E:Value->Shared->Prop} {h:Heap} {g:Array GenState} {d:Drawn} {t:Nat} {os:OsState} {e C D:Addr} {oe:Obj} {Q:Bool->Shared->Prop}
  (xc:OwnEx h C) (xd:OwnEx h D) (hu:∀ {nm q N bs tl hdct sn sub ab col dd k0 k1 k2 k3 k5 newId},h.get? C=some (excClassObj nm q C N bs tl hdct sn sub ab col dd k0 k1 k2 k3 k5 newId)->(Value.ref C :: tl).contains (.ref D)=true)
  (he:h.get? e=some oe) (hcls:oe.cls=.ref C) (hq:Q true ⟨h,g,d,t,os⟩):wpAny M A (excMatches (.ref e) (.ref D)) Q E ⟨h,g,d,t,os⟩:=by
 obtain ⟨tl,N,nm,q,bs,hdct,sn,sub,ab,col,dd,k0,k1,k2,k3,k5,mN,hC,_,_,_⟩:=xc
 obtain ⟨tl',N',nm',q',bs',hdct',sn',sub',ab',col',dd',k0',k1',k2',k3',k5',mN',hD,_,_,T'⟩:=xd
 have cB:(Value.ref D :: tl').contains (.type "BaseException")=true:=by rw [List.contains_cons,T'.hasType (X:="BaseException") (b:=true) (by decide),Bool.or_true]
 have cC:=hu hC
 have f:=tc_notTuple
 unfold excMatches
 repeat (first | (with_reducible refine wpAny_loadPart_at he ?_; rw [hcls]) | with_reducible refine wpAny_loadPart_at hD ?_ | (with_reducible refine wpAny_isSubtype_exc hD ?_; rw [cB]) | (with_reducible refine wpAny_isSubtype_exc hC ?_; rw [cC]) | wp_step)
 exact hq
end L2.L3
namespace L2.L3
open PySem PySem.Spec PyProof.Rows
noncomputable abbrev reX (X:Cx) (A:Around) (b:Bool) (pn:List (Addr × Obj)) (xe:Value->Shared->Prop):Cx:={ X with A:=A,calm:=b,pn:=pn,xe:=xe }
section
variable {X:Cx} {F:Fx} {E:Str->DEnv->Prop} {pins pins':List (Addr × Obj)} {σ:St} {H:Hp} {s:Shared} {A:Around} {b:Bool} {xe:Value->Shared->Prop}
theorem _root_.L2.Inv.re (I:Inv X pins σ H s) (A:Around) (b:Bool) (xe:Value->Shared->Prop) (hA:A.frames=X.A.frames) (hb:b=true->A.handled=none):Inv (reX X A b (X.pn ++ pins) xe) [] σ H s:=
 ⟨⟨I.ok.mod,I.ok.kind,I.ok.glob,I.ok.blt,I.ok.above,I.ok.inj,I.ok.has,I.ok.cab,hb,hA.trans I.ok.frames,I.ok.stk,I.ok.exf,I.ok.bs,I.ok.bsz,I.ok.noex,I.ok.exfs,I.ok.funs,I.ok.frf⟩,I.os,I.bare,I.base,I.loc,I.cell,I.free,I.freeC,fun p hp=>I.pin p (by simpa using hp),I.hok,I.len⟩
theorem _root_.L2.Inv.unre (ok:X.Ok) (I:Inv (reX X A b (X.pn ++ pins) xe) pins' σ H s):Inv X pins σ H s:=
 ⟨ok,I.os,I.bare,I.base,I.loc,I.cell,I.free,I.freeC,fun p hp=>I.pin p (List.mem_append_left _ hp),I.hok,I.len⟩
theorem unreSP (ok:X.Ok) {D:Ends} {f:Flow} {s':Shared} (h:SP (reX X A b (X.pn ++ pins) xe) pins' D f s'):SP X pins D f s':=by
 cases f with
 | next=>obtain ⟨σ',H',I,q⟩:=h; exact ⟨σ',H',I.unre ok,q⟩
 | brk=>obtain ⟨σ',H',I,q⟩:=h; exact ⟨σ',H',I.unre ok,q⟩
 | cont=>obtain ⟨σ',H',I,q⟩:=h; exact ⟨σ',H',I.unre ok,q⟩
 | ret u=>obtain ⟨v,σ',H',I,r,q⟩:=h; exact ⟨v,σ',H',I.unre ok,r,q⟩
end
end L2.L3
namespace L2.L3
open PySem PySem.Spec PyProof.Rows
section
variable {K:PySem.W.Frag} {F:Fx} {H H':Hp} {σ σ':St} {ρ ρ':DEnv} {O O':List Addr} {W:List (List Addr)}
noncomputable def Fx.here (F:Fx) (H:Hp) (L:List Addr):Fx:=⟨H,L,F.O₀,F.I₀⟩
theorem DStW.here (st:DStW K F H σ ρ W):DStW K (F.here H W.flatten) H σ ρ W:=⟨st.at_,st.nd,fun _ _ _ e=>e,fun _ h=>.inl h,st.live,st.len,st.lw,st.io⟩
theorem here_new (st:DStW K F H σ ρ W) {a:Addr} (h:a ∈ W.flatten\/H a=none):a ∈ F.A₀\/F.H₀ a=none:=by
 rcases h with h | h
 ·exact st.new a h
 ·by_cases hA:a ∈ F.A₀
  ·exact .inl hA
  ·refine .inr ?_
   cases e:F.H₀ a with
   | none=>rfl
   | some o=>have:=st.kept a o hA e; rw [h] at this; cases this
theorem unhere {fp:List Addr} (st:DStW K F H σ ρ W) (st':DSt K ((F.here H W.flatten).plus fp) H' σ' ρ' O'):DSt K (F.plus fp) H' σ' ρ' O':=by
 obtain ⟨W',h,e⟩:=st'
 refine ⟨W',⟨h.at_,h.nd,fun b o hA e=>h.kept b o (fun z=>?_) (st.kept b o hA e),fun a ha=>here_new st (h.new a ha),h.live,h.len,h.lw,h.io⟩,e⟩
 rcases st.new b z with q | q
 ·exact hA q
 ·rw [show F.H₀ b=some o from e] at q; cases q
theorem here_stp (st':DSt K (F.here H W.flatten) H' σ' ρ' O'):Stp (W.flatten ++ F.O₀) H O' H':=by
 obtain ⟨W',h,rfl⟩:=st'
 refine ⟨fun b o hb e=>h.kept b o (fun z=>hb (List.mem_append_left _ z)) e,fun a ha=>?_⟩
 rcases List.mem_append.mp ha with z | z
 ·exact (h.new a z).imp (List.mem_append_left _) id
 ·exact .inl (List.mem_append_right _ z)
theorem Fits.here {D:Ends} {DD:DEnds} (st:DStW K F H σ ρ W) (f:Fits K F O H D DD):Fits K (F.here H W.flatten) O H D DD:=
 ⟨fun σ' H' ρ' O' s1 s2 q=>f.nx σ' H' ρ' O' (unhere (fp:=[]) st s1) s2 q,fun v σ' H' c ρ' O' fp r s2 q=>f.rt v σ' H' c ρ' O' fp ⟨unhere st r.st,r.at_,fun a h=>here_new st (r.new a h)⟩ s2 q,
  fun σ' H' ρ' O' s1 s2 q=>f.bk σ' H' ρ' O' (unhere (fp:=[]) st s1) s2 q,fun σ' H' ρ' O' s1 s2 q=>f.ct σ' H' ρ' O' (unhere (fp:=[]) st s1) s2 q⟩
end
noncomputable def sTryB (l:List Str) (mb mh:SM):SM:=fun ρ=>match mb ρ with
 | .ex c ρ'=>if c ∈ l then (match mh ρ' with | .rt d ρ''=>.rt d ρ'' | _=>.bad) else .bad
 | o=>o
section
variable {X:Cx} {F:Fx} {E:Str->DEnv->Prop}
theorem to_suite {l:List Str} {D a:Addr} {c:Str} {C:Value} {g:Heap} {fl:Option Value} {np hpos:Pos} {nm:Option Str} {b₀:Stmt} {suite:List Stmt} {pins:List (Addr × Obj)} {σ:St} {H:Hp} {s:Shared} {Q:Flow->Shared->Prop} {E':Value->Shared->Prop}
  (xt:XT X.K X.mg l D) (hg:Gl X "DueError") (hst:X.stack=X.env :: X.outer) (hfr:X.env.frame=some X.env.locals) (hc:c ∈ l) (J:Inv X pins σ H s) (cv:Cov X pins g) (ex:ExS g H s.heap a C fl) (hm:X.mg c=some C)
  (h:∀ s',Inv X pins σ H s'->ExS g H s'.heap a C (some .none)->codeAny (model X.prog X.w) (X.A.mark (some (.ref a))) (.handlers (.ref a) [.ExceptHandler none nm (b₀ :: suite) hpos] X.env) (fun r s₂=>match r with
     | .ok f=>(match nm with
      | none=>Q f s₂
      | some n=>wpAny (model X.prog X.w) X.A (do bindName X.env n .none; unbindBehindTheSuite X.env n hpos) (fun _ s₃=>Q f s₃) E' s₂)
     | .error x=>cameBackBy (model X.prog X.w) X.A X.env E' x s₂) s') :
  wpAny (model X.prog X.w) X.A (noteFrame (.ref a) X.env) (fun _ s₂=>wpAny (model X.prog X.w) X.A (setFlight (.ref a) none) (fun _ s₃=>wpAny (model X.prog X.w) X.A (handleBy (.ref a) X.env [.ExceptHandler (some (.Name "DueError" np)) nm (b₀ :: suite) hpos]) Q E' s₃) E' s₂) E' s:=by
 have fr:X.A.frames=some (X.env :: X.outer):=by rw [J.ok.frames,hst]
 have stk:s.heap.FunFrames X.base (X.env :: X.outer):=by have:=J.stack; rw [hst] at this; exact this
 have hb:∀ b,s.heap.get? b=none->H b=none:=fun b z=>HOk.some_of J.hok z
 refine note_any (base:=X.base) fr stk hfr hb ex fun h1 c1 x1=>?_
 refine flight_any (s:={ s with heap:=h1 }) (fs:=frs (X.env :: X.outer)) none (frames_some (c1.frames (fun _ h=>h) stk)) x1 fun h2 c2 x2=>?_
 have J2:Inv X pins σ H { s with heap:=h2 }:=J.ch cv (by rw [hst]; exact c1.trans c2)
 refine wpAny_handleBy_cons (codeAny_handlers_test ?_) (by intro q; cases q)
 have J3:=J2.re (X.A.mark (some (.ref a))) false X.xe rfl (fun z=>by cases z)
 refine ld_glob (X:=reX X (X.A.mark (some (.ref a))) false (X.pn ++ pins) X.xe) J3 hg xt.top.mg ?_ (by decide)
 obtain ⟨C',ec,hu,_⟩:=xt.at_ hc
 have eC:C=.ref C':=Option.some.inj (hm.symm.trans ec.mg)
 obtain ⟨oe,vs,a0,he,hcl,_⟩:=x2.ob
 refine match_under (C:=C') (ownEx_of J2.kIn ec.ex) (ownEx_of J2.kIn xt.top.ex) (fun hC=>under_of J2.kIn hu hC) he (hcl.trans eC) ?_
 exact h _ J2 x2
theorem fs_tryB {l:List Str} {D:Addr} {np hpos pos:Pos} {body suite:List Stmt} {b₀:Stmt} {mb mh:SM} (xt:XT X.K X.mg l D) (hg:Gl X "DueError") (hst:X.stack=X.env :: X.outer) (hfr:X.env.frame=some X.env.locals)
  (hG:GF X.mg F) (hb:∀ F' pn xe E1,XOk (reX X X.A X.calm pn xe) F' E1->PassesOwn (model X.prog X.w) X.A X.env xe->FSs (reX X X.A X.calm pn xe) F' E1 body mb)
  (hs:∀ F' e pn xe,GF X.mg F'->FSs (reX X (X.A.mark (some e)) false pn xe) F' E0' (b₀ :: suite) mh) :
  FS X F E (.Try body [.ExceptHandler (some (.Name "DueError" np)) none (b₀ :: suite) hpos] [] [] pos) (sTryB l mb mh):=fun pins s σ H D' I ⟨ρ,O,DD,st,q,f⟩=>by
 obtain ⟨W,stw,rfl⟩:=id st
 have hG1:GF X.mg (F.here H W.flatten):=(hG.at st).frame fun a h=>stw.live a (List.mem_append_left _ h)
 let E1:Str->DEnv->Prop:=fun c ρ'=>c ∈ l/\∃ d ρ'',mh ρ' = .rt d ρ''/\DD.rt d ρ''
 have q1:wpS E1 mb DD ρ:=by
  unfold wpS sTryB at q
  unfold wpS
  generalize mb ρ=o at q ⊢
  cases o with
  | ex c ρ'=>
   simp only at q
   by_cases hc:c ∈ l
   ·rw [if_pos hc] at q
    refine ⟨hc,?_⟩
    generalize mh ρ' = o2 at q ⊢
    cases o2 with
    | rt d ρ''=>exact ⟨d,ρ'',rfl,q⟩
    | _=>exact q.elim
   ·rw [if_neg hc] at q; exact q.elim
  | _=>exact q
 refine wpAny_Try_except ?_
 refine thn (hb (F.here H W.flatten) (X.pn ++ pins) _ E1 ?_ PassesOwn.looking [] s σ H D' (I.re X.A X.calm _ rfl I.ok.hd) ⟨ρ,_,DD,⟨W,stw.here,rfl⟩,q1,f.here stw⟩) fun fw s1 h=>?_
 ·refine ⟨hG1,?_⟩
  intro pins' σ' H' s' e c ρ' O' ⟨J1,a,C,g,fl,e1,cv,ex,hm⟩ st' ⟨hc,d,ρ'',hmh,hd⟩
  subst e1
  have J:Inv X pins σ' H' s':=J1.unre I.ok
  have cv':Cov X pins g:=⟨cv.s0,cv.loc,cv.cell,fun p hp=>cv.pin p (List.mem_append_left _ hp)⟩
  refine to_suite xt hg hst hfr hc J cv' ex hm fun s3 J3 x3=>codeAny_handlers_suite ?_
  have stk:s3.heap.FunFrames X.base (X.env :: X.outer):=by have:=J3.stack; rw [hst] at this; exact this
  refine flight_any (s:=s3) (fs:=frs (X.env :: X.outer)) none (frames_some stk) x3 fun h4 c4 x4=>?_
  have J4:Inv X pins σ' H' { s3 with heap:=h4 }:=J3.ch cv' (by rw [hst]; exact c4)
  have step:Stp (W.flatten ++ F.O₀) H O' H':=here_stp st'
  refine thn (hs (F.here H W.flatten) (.ref a) (X.pn ++ pins) _ hG1 [] _ _ _ ⟨fun _ _=>False,D'.rt,fun _ _=>False,fun _ _=>False⟩ (J4.re (X.A.mark (some (.ref a))) false _ rfl (fun z=>by cases z)) ⟨_,O',⟨fun _=>False,fun d ρ''=>DD.rt d ρ'',fun _=>False,fun _=>False⟩,st',?_,?_⟩) fun fw s6 h6=>?_
  ·unfold wpS; rw [hmh]; exact hd
  ·refine ⟨fun _ _ _ _ _ _ z=>z.elim,fun v σ2 H2 c2 ρ2 O2 fp r s2 qq=>?_,fun _ _ _ _ _ _ z=>z.elim,fun _ _ _ _ _ _ z=>z.elim⟩
   exact f.rt v σ2 H2 c2 _ O2 fp ⟨unhere stw r.st,r.at_,fun x hx=>here_new stw (r.new x hx)⟩ (step.trans s2) qq
  ·cases fw with
   | next=>obtain ⟨_,_,_,z⟩:=h6; exact z.elim
   | brk=>obtain ⟨_,_,_,z⟩:=h6; exact z.elim
   | cont=>obtain ⟨_,_,_,z⟩:=h6; exact z.elim
   | ret u=>
    obtain ⟨v,σ7,H7,J8,r8,q8⟩:=h6
    exact ⟨v,_,H7,J8.unre I.ok,r8,q8⟩
 ·cases fw with
  | next=>exact wpAny_execs_nil (unreSP I.ok h)
  | brk=>exact unreSP I.ok h
  | cont=>exact unreSP I.ok h
  | ret u=>exact unreSP I.ok h
end
end L2.L3
namespace L2.L3
open PySem PySem.Spec PyProof.Rows
end L2.L3
namespace L2.L3
open PySem PySem.Spec PyProof.Rows
end L2.L3
namespace L2.L3
open PySem PySem.Spec PyProof.Rows Builtin Builtin.ObjectAttr Builtin.Getset_descriptor
end L2.L3
namespace L2.L3
open PySem PySem.Spec PyProof.Rows
end L2.L3
namespace L2.L3
open PySem PySem.Spec PyProof.Rows
end L2.L3
namespace L2.L3
open PySem PySem.Spec PyProof.Rows
section
variable {X:Cx} {F:Fx} {E:Str->DEnv->Prop} {e a b c:Expr} {es:List Expr} {st:Stmt} {rest:List Stmt} {pos:Pos} {x:Str} {ma mb mc:XM PyData}
@[simp] noncomputable def gAdd:=gI fun i j=>.int (i + j)
@[simp] noncomputable def gSub:=gI fun i j=>.int (i - j)
@[simp] noncomputable def gMul:=gIC cMul fun i j=>.int (i * j)
@[simp] noncomputable def gMod:=gIC cMod fun i j=>.int (i % j)
@[simp] noncomputable def gLt:=gI fun i j=>.bool (decide (i < j))
@[simp] noncomputable def gLe:=gI fun i j=>.bool (decide (i<=j))
@[simp] noncomputable def gGt:=gI fun i j=>.bool (decide (j < i))
theorem fe_add (ha:FE X F E a ma) (hb:FE X F E b mb):FE X F E (.BinOp a .Add b pos) (xOp gAdd ma mb):=fe_op f2_I (de_add ha hb)
theorem fe_sub (ha:FE X F E a ma) (hb:FE X F E b mb):FE X F E (.BinOp a .Sub b pos) (xOp gSub ma mb):=fe_op f2_I (de_sub ha hb)
theorem fe_mul (ha:FE X F E a ma) (hb:FE X F E b mb):FE X F E (.BinOp a .Mult b pos) (xOp gMul ma mb):=fe_op (f2_IC cMul_ok) (de_mul ha hb)
theorem fe_mod (ha:FE X F E a ma) (hb:FE X F E b mb):FE X F E (.BinOp a .Mod b pos) (xOp gMod ma mb):=fe_op (f2_IC cMod_ok) (de_mod ha hb)
theorem fe_cat (ha:FE X F E a ma) (hb:FE X F E b mb):FE X F E (.BinOp a .Add b pos) (xOp gCatL ma mb):=fe_op f2_catL (de_cat ha hb)
theorem fe_lt (ha:FE X F E a ma) (hb:FE X F E b mb):FE X F E (.Compare a [.Lt] [b] pos) (xOp gLt ma mb):=fe_op f2_I (de_lt ha hb)
theorem fb_lt (ha:FE X F E a ma) (hb:FE X F E b mb):FB X F E (.Compare a [.Lt] [b] pos) (xTst (xOp gLt ma mb)):=fb_op f2_I (db_lt ha hb)
theorem fb_le (ha:FE X F E a ma) (hb:FE X F E b mb):FB X F E (.Compare a [.LtE] [b] pos) (xTst (xOp gLe ma mb)):=fb_op f2_I (db_le ha hb)
theorem fb_gt (ha:FE X F E a ma) (hb:FE X F E b mb):FB X F E (.Compare a [.Gt] [b] pos) (xTst (xOp gGt ma mb)):=fb_op f2_I (db_gt ha hb)
theorem fe_eq (hu:X.A.units + 64 < cLine) (ha:FE X F E a ma) (hb:FE X F E b mb):FE X F E (.Compare a [.Eq] [b] pos) (xOp (gEq false) ma mb):=fe_op f2_eq (de_eq hu ha hb)
theorem fb_eq (hu:X.A.units + 64 < cLine) (ha:FE X F E a ma) (hb:FE X F E b mb):FB X F E (.Compare a [.Eq] [b] pos) (xTst (xOp (gEq false) ma mb)):=fb_op f2_eq (db_eq hu ha hb)
theorem fb_ne (hu:X.A.units + 64 < cLine) (ha:FE X F E a ma) (hb:FE X F E b mb):FB X F E (.Compare a [.NotEq] [b] pos) (xTst (xOp (gEq true) ma mb)):=fb_op f2_eq (db_ne hu ha hb)
theorem fe_notN (ha:FE X F E a ma) (hb:FE X F E b mb):FE X F E (.Compare a [.IsNot] [b] pos) (xOp gIsNot ma mb):=fe_op f2_isnot (de_cmp op_notN o_isnot ha hb (nomark _))
theorem fb_isN (ha:FE X F E a ma) (hb:FE X F E b mb):FB X F E (.Compare a [.Is] [b] pos) (xTst (xOp gIs ma mb)):=fb_op f2_is (db_isN ha hb)
theorem fb_notN (ha:FE X F E a ma) (hb:FE X F E b mb):FB X F E (.Compare a [.IsNot] [b] pos) (xTst (xOp gIsNot ma mb)):=fb_op f2_isnot (db_notN ha hb)
theorem fe_lele (ha:FE X F E a ma) (hb:FE X F E b mb) (hc:FE X F E c mc) (hm:lastMarks [.LtE,.LtE] [b,c]=false:=by with_unfolding_all rfl):FE X F E (.Compare a [.LtE,.LtE] [b,c] pos) (xChain (fun i j=>decide (i<=j)) (fun i j=>decide (i<=j)) ma mb mc):=fe_chain (de_lele ha hb hc hm)
@[simp] noncomputable def gIxA:PyData->PyData->Option PyData:=fun x y=>match x,y with
 | .tuple ds,.int i=>atI ds i
 | .list ds,.int i=>atI ds i
 | _,_=>none
noncomputable def fIxA:D2:=fun x y Q=>fIxT x y Q\/fIxL x y Q
theorem o_ixA {K:PySem.W.Frag}:Op2 (fun x y H Q=>rIxT K x y H Q\/rIxL K x y H Q) fIxA where
 mn:=fun x y Q Q' k h=>h.imp (o_ixT (K:=K).mn x y Q Q' k) (o_ixL (K:=K).mn x y Q Q' k)
 ok:=fun O H u v x y Q hO h1 h2 h=>h.imp (o_ixT.ok O H u v x y Q hO h1 h2) (o_ixL.ok O H u v x y Q hO h1 h2)
theorem f2_ixA:F2 fIxA gIxA:=fun x y d Q e q=>by
 unfold gIxA at e
 split at e
 ·exact .inl ⟨_,_,_,rfl,rfl,e,q⟩
 ·exact .inr ⟨_,_,_,rfl,rfl,e,q⟩
 ·cases e
theorem fe_ix (ha:FE X F E a ma) (hb:FE X F E b mb) (hs:PlainIx b:=by intro _ _; rfl):FE X F E (.Subscript a b pos) (xOp gIxA ma mb):=fe_op f2_ixA (de_ix (IxR.or ix_tup ix_list) o_ixA ha hb hs)
end
end L2.L3
namespace L2.L3
open PySem PySem.Spec PyProof.Rows
noncomputable def isStar:Expr->Bool
 | .Starred ..=>true
 | _=>false
theorem star_of {e:Expr} {es:List Expr} {env:Env} (h:isStar e=false):starEach (e :: es) env=(false,eval e env) :: starEach es env:=by
 cases e <;> first | rfl | cases h
section
variable {X:Cx} {F:Fx} {E:Str->DEnv->Prop} {e a b c:Expr} {es:List Expr} {pos:Pos} {x:Str}
theorem fa_c {ma:XM PyData} {mr:XM (List PyData)} (ha:FE X F E e ma) (hr:FA X F E es mr) (hs:isStar e=false:=by rfl):FA X F E (e :: es) (aCons ma mr):=fa_cons ha hr (star_of hs)
theorem fx_v {ma:XM PyData} {mr:XM (List AX)} (ha:FE X F E e ma) (hr:FX X F E es mr) (hs:isStar e=false:=by rfl):FX X F E (e :: es) (cVal ma mr):=fx_val ha hr (star_of hs)
theorem fx_s {p:Pos} {j:Nat} {mr:XM (List AX)} (hv:PE X (.Name x p) (tVar j)) (hr:FX X F E es mr):FX X F E (.Name x p :: es) (cSlot j mr):=fx_slot hv hr (star_of rfl)
end
end L2.L3
namespace L2.L3
open PySem PySem.Spec PyProof.Rows
section
variable {X:Cx} {F:Fx} {E:Str->DEnv->Prop} {e a b c:Expr} {es:List Expr} {pos:Pos} {x:Str} {ma mb:XM PyData}
@[simp] noncomputable def gPow:=gIC cPow fun i j=>.int (i ^ j.toNat)
theorem fe_pow (ha:FE X F E a ma) (hb:FE X F E b mb):FE X F E (.BinOp a .Pow b pos) (xOp gPow ma mb):=fe_op (f2_IC cPow_ok) (de_pow ha hb)
noncomputable def fMin:DN:=fun xs Q=>∃ i j:Int,xs=[.int i,.int j]/\Q (.int (min i j))
theorem n_min:OpN (fun xs H Q=>∃ i j,xs=[.int i,.int j]/\Q (.int (if j < i then j else i)) H) fMin where
 mn:=fun _ _ _ k ⟨i,j,e,q⟩=>⟨i,j,e,k _ q⟩
 ok:=fun O H vs xs Q hO hd ⟨i,j,e,q⟩=>by
  subst e
  obtain ⟨x,y,rfl,h1,h2⟩:=dvs2 hd
  have e:(if j < i then j else i)=min i j:=by split <;> omega
  exact ⟨i,j,by rw [h1.int_inv,h2.int_inv],by rw [e]; exact q _ H (fun _ _ h=>h) (.int _)⟩
@[simp] noncomputable def nMin:List PyData->Option PyData:=fun xs=>match xs with
 | [.int i,.int j]=>some (.int (min i j))
 | _=>none
theorem fn_min:FN fMin nMin:=fun xs d Q e q=>by
 unfold nMin at e
 split at e
 ·cases e; exact ⟨_,_,rfl,q⟩
 ·cases e
end
end L2.L3
namespace L2.L3
open PySem PySem.Spec PyProof.Rows
section
variable {X:Cx} {F:Fx} {E:Str->DEnv->Prop} {e a b c:Expr} {es:List Expr} {st:Stmt} {pos:Pos} {x:Str} {ma mb:XM PyData}
@[simp] noncomputable def xBad {α:Type}:XM α:=fun _=>.bad
theorem fo_bad:FO X F E e xBad:=⟨mn_wp,fun _ _ _ _ _ _ ⟨_,_,_,q⟩=>q.elim⟩
end
end L2.L3
namespace L2
open PySem PySem.Spec PyProof.Rows
end L2
namespace L2.L3
open PySem PySem.Spec PyProof.Rows
end L2.L3
namespace L2
open PySem
namespace F3
end F3
end L2
namespace L2
open PySem PySem.Spec PyProof.Rows
end L2
namespace L2.L3
open PySem PySem.Spec PyProof.Rows
end L2.L3
namespace L2.L3
open PySem PySem.Spec PyProof.Rows
noncomputable def putFl (f:Str) (v:Fl):List (Str × Fl)->List (Str × Fl)
 | []=>[(f,v)]
 | (g,x) :: r=>if g=f then (g,v) :: r else (g,x) :: putFl f v r
noncomputable def plainFl:Option Fl->Bool
 | none=>true
 | some (.d _)=>true
 | _=>false
noncomputable def asIo (C:Addr) (ρ:DEnv) (i:Nat):Option (Bool × List (Str × Fl)):=match ρ[i]? with
 | some (some (.own io (.o C' fs)))=>if C' = C then some (io,fs) else none
 | _=>none
theorem asIo_at {C:Addr} {ρ:DEnv} {i:Nat} {io:Bool} {fs:List (Str × Fl)} (h:asIo C ρ i=some (io,fs)):ρ[i]? = some (some (.own io (.o C fs))):=by
 unfold asIo at h
 split at h
 ·rename_i e
  split at h
  ·rename_i hc; cases h; rw [e,hc]
  ·cases h
 ·cases h
section
variable {G H:Hp}
theorem fls_look {gs:List (Str × V)} {fs:List (Str × Fl)} {fps:List (List Addr)} (h:FlsAt G H gs fs fps) (f:Str):(gs.lookup f=none/\fs.lookup f=none)\/∃ v x fp,gs.lookup f=some v/\fs.lookup f=some x/\FlAt G H v x fp/\fp ∈ fps:=by
 induction h with
 | nil=>exact .inl ⟨rfl,rfl⟩
 | @cons n v x fp gs fs fps h1 h2 ih=>
  by_cases e:f=n
  ·subst e
   exact .inr ⟨v,x,fp,by simp [List.lookup],by simp [List.lookup],h1,List.mem_cons_self⟩
  ·have e':(f == n)=false:=by simpa using e
   rw [List.lookup_cons,List.lookup_cons,e']
   rcases ih with q | ⟨v',x',fp',q1,q2,q3,q4⟩
   ·exact .inl q
   ·exact .inr ⟨v',x',fp',q1,q2,q3,List.mem_cons_of_mem _ q4⟩
end
theorem nd_at {α:Type}:∀ {W:List (List α)} {i:Nat} {l:List α},W.flatten.Nodup->W[i]? = some l->l.Nodup
 | w :: W,0,l,nd,h=>by
  simp only [List.getElem?_cons_zero,Option.some.injEq] at h
  subst h
  rw [List.flatten_cons] at nd
  exact (List.nodup_append.mp nd).1
 | w :: W,i + 1,l,nd,h=>by
  rw [List.flatten_cons] at nd
  exact nd_at (List.nodup_append.mp nd).2.1 (by simpa using h)
theorem DSt.boxN {K:PySem.W.Frag} {F:Fx} {H:Hp} {σ:St} {ρ:DEnv} {O:List Addr} (st:DSt K F H σ ρ O) {i:Nat} {io:Bool} {b:Bx} (e:ρ[i]? = some (some (.own io b))):∃ a fp,σ[i]? = some (some (.ref a))/\BoxAt (hide O H) H a b fp/\(∀ c ∈ fp,c ∈ O)/\fp.Nodup/\
  ∀ (H':Hp) (b':Bx) (fp':List Addr),(∀ c o,c ∉ fp->H c=some o->H' c=some o)->fp'.Nodup->(∀ c ∈ fp',c ∈ fp\/H c=none)->(∀ G,(∀ O',Stp O H O' H'->G=hide O' H'->(∀ c ∈ fp',c ∈ O')->Same (hide O H) G/\BoxAt G H' a b' fp'))->
   ∃ O',DSt K F H' σ (ρ.set i (some (.own io b'))) O'/\Stp O H O' H'/\(∀ c ∈ O',c ∈ fp'\/c ∈ O):=by
 obtain ⟨W,st,rfl⟩:=st
 obtain ⟨v,fp,h1,h2,a,rfl,h3⟩:=st.at_ i _ e
 have hi:i < ρ.length:=(List.getElem?_eq_some_iff.mp e).1
 have hiW:i < W.length:=by rw [st.lw]; exact hi
 refine ⟨a,fp,h1,h3,fun c hc=>List.mem_append_left _ (mem_flat_of h2 hc),(nd_at (List.nodup_append.mp st.nd).1 h2),fun H' b' fp' keep nd fr hb=>?_⟩
 have ndW:W.flatten.Nodup:=(List.nodup_append.mp st.nd).1
 have nO:∀ c ∈ fp,c ∉ F.O₀:=fun c hc z=>(List.nodup_append.mp st.nd).2.2 c (mem_flat_of h2 hc) c z rfl
 have kj:∀ j l c,j ≠ i->W[j]? = some l->c ∈ l->H' c=H c:=fun j l c hj ej hc=>by
  obtain ⟨o,eo,_⟩:=st.live c (List.mem_append_left _ (mem_flat_of ej hc))
  rw [eo]
  exact keep c o (fun z=>flat_disj ndW ej h2 hj hc z) eo
 have kO:∀ c ∈ F.O₀,H' c=H c:=fun c hc=>by
  obtain ⟨o,eo,_⟩:=st.live c (List.mem_append_right _ hc)
  rw [eo]
  exact keep c o (fun z=>nO c z hc) eo
 have ap:∀ c ∈ fp',(∀ j l,j ≠ i->W[j]? = some l->c ∉ l)/\c ∉ F.O₀:=fun c hc=>by
  rcases fr c hc with q | q
  ·exact ⟨fun j l hj ej z=>flat_disj ndW h2 ej (Ne.symm hj) q z,nO c q⟩
  ·refine ⟨fun j l _ ej z=>?_,fun z=>?_⟩
   ·obtain ⟨o,eo,_⟩:=st.live c (List.mem_append_left _ (mem_flat_of ej z)); rw [q] at eo; cases eo
   ·obtain ⟨o,eo,_⟩:=st.live c (List.mem_append_right _ z); rw [q] at eo; cases eo
 have frz:∀ c o,c ∉ W.flatten ++ F.O₀->H c=some o->H' c=some o:=fun c o hc ec=>keep c o (fun z=>hc (List.mem_append_left _ (mem_flat_of h2 z))) ec
 have stp:Stp (W.flatten ++ F.O₀) H ((W.set i fp').flatten ++ F.O₀) H':=⟨frz,fun c h=>by
  rcases List.mem_append.mp h with h | h
  ·rcases mem_flat_set h with h | ⟨j,l,_,ej,hl⟩
   ·exact (fr c h).imp (fun z=>List.mem_append_left _ (mem_flat_of h2 z)) id
   ·exact .inl (List.mem_append_left _ (mem_flat_of ej hl))
  ·exact .inl (List.mem_append_right _ h)⟩
 have inO':∀ c ∈ fp',c ∈ (W.set i fp').flatten ++ F.O₀:=fun c hc=>List.mem_append_left _ (flat_set_self hiW hc)
 have hbx:=(hb _ _ stp rfl inO').2
 obtain ⟨s1,s2⟩:=st.put (H':=H') (i:=i) (v:=.ref a) (c:=.own io b') (fp:=fp') hi kj kO frz nd ap (fun c hc=>(fr c hc).imp (fun z=>mem_flat_of h2 z) id) (fun c hc=>hbx.live c hc) (fun _=>⟨a,rfl,hbx⟩) (fun b2 z=>by cases z; have:=st.io i b e; rw [h1] at this; exact (Option.some.inj (Option.some.inj this)))
 have eσ:σ.set i (some (.ref a))=σ:=by
  apply List.ext_getElem?
  intro j
  by_cases hj:j=i
  ·subst hj; rw [List.getElem?_set_self (List.getElem?_eq_some_iff.mp h1).1,h1]
  ·rw [List.getElem?_set_ne (Ne.symm hj)]
 rw [eσ] at s1
 refine ⟨_,⟨_,s1,rfl⟩,s2,fun c hc=>?_⟩
 rcases List.mem_append.mp hc with hc | hc
 ·rcases mem_flat_set hc with hc | ⟨j,l,_,ej,hl⟩
  ·exact .inl hc
  ·exact .inr (List.mem_append_left _ (mem_flat_of ej hl))
 ·exact .inr (List.mem_append_right _ hc)
theorem FlsAt.len {G H:Hp} {gs:List (Str × V)} {fs:List (Str × Fl)} {fps:List (List Addr)} (h:FlsAt G H gs fs fps):gs.length=fs.length:=by
 induction h with
 | nil=>rfl
 | cons _ _ ih=>simp [ih]
theorem FlsAt.putD {G G' H H':Hp} {gs:List (Str × V)} {fs:List (Str × Fl)} {fps:List (List Addr)} {f:Str} {v:V} {d:PyData} (h:FlsAt G H gs fs fps) (hp:plainFl (fs.lookup f)=true) (hd:DV G' v d) (g:Same G G') (k:∀ c ∈ fps.flatten,H' c=H c) :
  FlsAt G' H' (putF f v gs) (putFl f (.d d) fs) (if (fs.lookup f).isSome=true then fps else fps ++ [[]]):=by
 induction h with
 | nil=>exact .cons ⟨rfl,hd⟩ .nil
 | @cons n w x fp gs fs fps h1 h2 ih=>
  unfold putF putFl
  by_cases e:n=f
  ·subst e
   have hl:List.lookup n ((n,x) :: fs)=some x:=by simp [List.lookup]
   rw [hl] at hp ⊢
   rw [if_pos rfl,if_pos rfl]
   have h2':=h2.keep (H':=H') (fun c hc=>k c (by simp only [List.flatten_cons,List.mem_append]; exact .inr hc)) g
   cases x with
   | d y=>
    obtain ⟨rfl,_⟩:=h1
    exact .cons ⟨rfl,hd⟩ h2'
   | l ds=>cases hp
   | m tk kvs=>cases hp
  ·have e':(f == n)=false:=by simpa using fun z=>e z.symm
   rw [List.lookup_cons,e'] at hp ⊢
   rw [if_neg e,if_neg e]
   have h1':=h1.keep (H':=H') (fun c hc=>k c (by simp only [List.flatten_cons,List.mem_append]; exact .inl hc)) g
   have ih':=ih hp fun c hc=>k c (by simp only [List.flatten_cons,List.mem_append]; exact .inr hc)
   simp only at ih' ⊢
   split
   ·rename_i q; rw [if_pos q] at ih'; exact .cons h1' ih'
   ·rename_i q; rw [if_neg q] at ih'; exact .cons h1' ih'
section
variable {X:Cx} {F:Fx} {E:Str->DEnv->Prop} {e a b c:Expr} {es:List Expr} {st:Stmt} {pos p1:Pos} {x f:Str} {C:Addr} {i:Nat}
noncomputable def xFld (C:Addr) (i:Nat) (f:Str):XM PyData:=fun ρ=>match asIo C ρ i with
 | some (_,fs)=>(match fs.lookup f with
  | some (.d d)=>.ok d ρ
  | _=>.bad)
 | none=>.bad
theorem fe_fld (cl:Cls X.K C) (na:NoAttr X.K C f) (hv:PE X (.Name x p1) (tVar i)) (hb:attributeBase (.Name x p1) f X.env (eval (.Name x p1) X.env)=eval (.Name x p1) X.env:=by rfl):FE X F E (.Attribute (.Name x p1) f pos) (xFld C i f):=
 ⟨mn_wp,(pe_fld hv hb).imp fun σ H Q ⟨ρ,O,st,q⟩=>by
  unfold wp xFld at q
  cases ho:asIo C ρ i with
  | none=>rw [ho] at q; exact q.elim
  | some p=>
   obtain ⟨io,fs⟩:=p
   rw [ho] at q
   simp only at q
   obtain ⟨a0,fp,hv0,⟨dx,gs,fps,e1,e2,e3,e4⟩,_,_⟩:=st.box (asIo_at ho)
   rcases fls_look e4 f with ⟨l1,l2⟩ | ⟨v,y,fp',l1,l2,l3,_⟩
   ·rw [l2] at q; exact q.elim
   ·rw [l2] at q
    cases y with
    | d d=>exact ⟨_,hv0,a0,C,dx,gs,v,rfl,e2,cl,na,l1,q v H O st (.refl ..) l3.2⟩
    | l ds=>exact q.elim
    | m tk kvs=>exact q.elim⟩
noncomputable def fldK (C:Addr) (i:Nat) (f:Str) (d:PyData):SM:=fun ρ=>match asIo C ρ i with
 | some (io,fs)=>if fs.length < 1000/\plainFl (fs.lookup f)=true then .nx (ρ.set i (some (.own io (.o C (putFl f (.d d) fs))))) else .bad
 | none=>.bad
noncomputable def sFldF (C:Addr) (i:Nat) (f:Str) (m:XM PyData):SM:=fun ρ=>ofX (m ρ) (fldK C i f)
theorem fs_fld {m:XM PyData} {pos':Pos} (cl:Cls X.K C) (na:NoAttr X.K C f) (hv:PE X (.Name x p1) (tVar i)) (he:FE X F E e m) (hs:swapsWith e (some (.Attribute (.Name x p1) f pos')) pos.line X.env=pure false:=by rfl):FS X F E (.Assign [.Attribute (.Name x p1) f pos'] e pos) (sFldF C i f m):=
 (ps_fld hv he.pe hs).imp fun D σ H ⟨ρ,O,DD,st,q,fD⟩=>⟨ρ,O,st,mn_wp _ _ _ (fun d ρ1 q1 vy H1 O1 st1 s1 d1=>by
  unfold wpS fldK at q1
  cases ho:asIo C ρ1 i with
  | none=>rw [ho] at q1; exact q1.elim
  | some p=>
   obtain ⟨io,fs⟩:=p
   rw [ho] at q1
   simp only at q1
   by_cases hc:fs.length < 1000/\plainFl (fs.lookup f)=true
   ·rw [if_pos hc] at q1
    obtain ⟨a0,fp,hv0,⟨dx,gs,fps,e1,e2,e3,e4⟩,hO,nd,up⟩:=st1.boxN (asIo_at ho)
    subst e1
    obtain ⟨ndx,_⟩:dx ≠ a0/\True:=⟨fun z=>by subst z; simp at nd,trivial⟩
    refine ⟨_,hv0,a0,C,dx,gs,rfl,e2,cl,na,by rw [e4.len]; exact hc.1,?_⟩
    obtain ⟨O3,st3,s3,_⟩:=up (upd H1 a0 (.ins C dx (putF f vy gs))) (.o C (putFl f (.d d) fs)) (a0 :: dx :: fps.flatten) (fun c o hcn e=>by rw [upd_ne (fun z=>hcn (by simp [z]))]; exact e) nd (fun c hc=>.inl hc) (fun G O' s hG _=>by
     subst hG
     refine ⟨s.hid,dx,putF f vy gs,if (fs.lookup f).isSome=true then fps else fps ++ [[]],?_,upd_same,by rw [upd_ne ndx]; exact e3,?_⟩
     ·split
      ·rfl
      ·simp
     ·refine e4.putD hc.2 (DV.mono s.hid d1) s.hid fun c hc=>upd_ne (fun z=>?_)
      subst z
      exact absurd hc (by
       have:=(List.nodup_cons.mp nd).1
       exact fun w=>this (List.mem_cons_of_mem _ w)))
    exact fD.nx _ _ _ _ st3 (s1.trans s3) q1
   ·rw [if_neg hc] at q1; exact q1.elim) (wpS_ofX (m:=m) (k:=fldK C i f) q)⟩
end
end L2.L3
namespace L2.L3
open PySem PySem.Spec PyProof.Rows
section
variable {X:Cx} {F:Fx} {E:Str->DEnv->Prop} {e:Expr} {es:List Expr} {pos p1 apos p:Pos} {x m:Str} {C:Addr} {i:Nat} {k:Nat} {g:Addr} {fd:FuncData} {ps:List Str} {f:FM} {mX:XM (List AX)}
theorem callK_on {as:List AX} {ρ1:DEnv} {Q:Cell->DEnv->Prop} (q1:wp E (callK f as) ρ1 Q):callOn f E Q as ρ1:=by
 unfold wp callK at q1
 unfold callOn
 cases ha:argCells ρ1 as with
 | none=>rw [ha] at q1; exact q1
 | some p=>
  obtain ⟨cs,js⟩:=p
  rw [ha] at q1
  simp only at q1 ⊢
  cases hf:f cs with
  | rt c outs=>rw [hf] at q1; exact q1
  | ex c outs=>rw [hf] at q1; exact q1
  | bad=>rw [hf] at q1; exact q1
noncomputable def methK (f:FM) (i:Nat) (as:List AX):XM Cell:=callK f (.s i :: as)
noncomputable def xMeth (C:Addr) (i:Nat) (m:Str) (f:FM) (mX:XM (List AX)):XM Cell:=fun ρ=>match asIo C ρ i with
 | some (_,fs)=>if fs.lookup m=none then (mX ρ).bind (methK f i) else .bad
 | none=>.bad
theorem fo_meth {pl:Sem Bool} (hx:XOk X F E) (cl:Cls X.K C) (hm:Meth X.K C m g) (G:FnOk X.prog X.w X.K X.mg X.base (CXM X.prog X.w) k g fd ps (spF X.K X.mg f)) (hr:Room k X.A) (hb:Binds X.K fd ps []) (hv:PE X (.Name x p1) (tVar i)) (ha:FX X F E (e :: es) mX)
  (hst:starEach (e :: es) X.env=(false,eval e X.env) :: starEach es X.env:=by rfl) (hpl:(backTo pos (starEach es X.env)).any (·.1)=false:=by rfl)
  (ht:eval (.Call (.Attribute (.Name x p1) m apos) (e :: es) [] pos) X.env=(do
   let ov <-eval (.Name x p1) X.env
   standAt apos.atName
   let (f,first) <-holding [ov] (getMethod ov m pl)
   callWith pos f first (backTo pos (starEach (e :: es) X.env)) (backToKw pos (keywordEach [] X.env))):=by rfl) :
  FO X F E (.Call (.Attribute (.Name x p1) m apos) (e :: es) [] pos) (xMeth C i m f mX):=by
 refine ⟨mn_wp,fun pins s σ H Q I ⟨ρ,O,st,q⟩=>?_⟩
 unfold wp xMeth at q
 cases ho:asIo C ρ i with
 | none=>rw [ho] at q; exact q.elim
 | some p=>
  obtain ⟨io,fs⟩:=p
  rw [ho] at q
  simp only at q
  by_cases hl:fs.lookup m=none
  ·rw [if_pos hl] at q
   obtain ⟨a0,fp,hv0,⟨dx,gs,fps,e1,e2,e3,e4⟩,_,_⟩:=st.box (asIo_at ho)
   have hg:gs.lookup m=none:=by
    rcases fls_look e4 m with ⟨l1,_⟩ | ⟨_,_,_,_,l2,_⟩
    ·exact l1
    ·rw [hl] at l2; cases l2
   refine PySem.W.methodCall_KW (pl:=pl) (thn (hv pins s σ H (fun v H1=>v=.ref a0/\H1=H) I ⟨_,hv0,rfl,rfl⟩) fun u s1 ⟨v,H1,I1,rx,ex,eH⟩=>?_) ht
   subst ex eH
   obtain rfl:u=Value.ref a0:=rx
   refine getmeth_ok I1 e2 cl hm hg ?_
   have q':=wp_bind (E:=E) (m:=mX) (k:=methK f i) (ρ:=ρ) q
   refine PySem.W.callWith_K (first:=[.ref a0]) (h₀:=X.base) I.ok.mod.kin hm.kp (thn (ha.pa pos pins s1 σ H1 (fun vs H2=>∃ as ρ1 O1,DSt X.K F H2 σ ρ1 O1/\Stp O H1 O1 H2/\AxAt σ (hide O1 H2) vs as/\callOn f E (fun c ρ'=>∀ v H' O' fp,Res X.K F H' σ ρ' O' v c fp->Stp O H1 O' H'->Q v H') (.s i :: as) ρ1) I1 ⟨ρ,O,st,ha.mn _ _ _ (fun as ρ1 q1 vs H2 O1 st1 s1 ax=>⟨as,ρ1,O1,st1,s1,ax,callK_on q1⟩) q'⟩) fun us s2 ⟨vs,H2,I2,r,as,ρ1,O1,st1,s01,ax,q1⟩=>⟨I2.kIn,?_⟩) hst hpl
   exact call_on hx G hr hb I2 (vs:=V.ref a0 :: vs) (us:=Value.ref a0 :: us) (.cons (show RelV (.ref a0) (.ref a0) from rfl) r) st1 (AxAt.s hv0 ax) q1 fun c ρ' h v H' O' fp res s2=>h v H' O' fp res (s01.trans s2)
  ·rw [if_neg hl] at q; exact q.elim
noncomputable def xMeth0 (C:Addr) (i:Nat) (m:Str) (f:FM):XM Cell:=fun ρ=>match asIo C ρ i with
 | some (_,fs)=>if fs.lookup m=none then callK f [.s i] ρ else .bad
 | none=>.bad
theorem fo_meth0 {pl:Sem Bool} (hx:XOk X F E) (cl:Cls X.K C) (hm:Meth X.K C m g) (G:FnOk X.prog X.w X.K X.mg X.base (CXM X.prog X.w) k g fd ps (spF X.K X.mg f)) (hr:Room k X.A) (hb:Binds X.K fd ps []) (hv:PE X (.Name x p1) (tVar i))
  (ht:eval (.Call (.Attribute (.Name x p1) m apos) [] [] pos) X.env=(do
   let ov <-eval (.Name x p1) X.env
   standAt apos.atName
   let (f,first) <-holding [ov] (getMethod ov m pl)
   callWith pos f first (backTo pos (starEach [] X.env)) (backToKw pos (keywordEach [] X.env))):=by rfl) :
  FO X F E (.Call (.Attribute (.Name x p1) m apos) [] [] pos) (xMeth0 C i m f):=by
 refine ⟨mn_wp,fun pins s σ H Q I ⟨ρ,O,st,q⟩=>?_⟩
 unfold wp xMeth0 at q
 cases ho:asIo C ρ i with
 | none=>rw [ho] at q; exact q.elim
 | some p=>
  obtain ⟨io,fs⟩:=p
  rw [ho] at q
  simp only at q
  by_cases hl:fs.lookup m=none
  ·rw [if_pos hl] at q
   obtain ⟨a0,fp,hv0,⟨dx,gs,fps,e1,e2,e3,e4⟩,_,_⟩:=st.box (asIo_at ho)
   have hg:gs.lookup m=none:=by
    rcases fls_look e4 m with ⟨l1,_⟩ | ⟨_,_,_,_,l2,_⟩
    ·exact l1
    ·rw [hl] at l2; cases l2
   refine PySem.W.methodCall_KW (pl:=pl) (thn (hv pins s σ H (fun v H1=>v=.ref a0/\H1=H) I ⟨_,hv0,rfl,rfl⟩) fun u s1 ⟨v,H1,I1,rx,ex,eH⟩=>?_) ht
   subst ex eH
   obtain rfl:u=Value.ref a0:=rx
   refine getmeth_ok I1 e2 cl hm hg ?_
   refine PySem.W.callWith_K0 (first:=[.ref a0]) I1.kIn hm.kp ?_
   exact call_on (vs:=[V.ref a0]) (us:=[Value.ref a0]) (as:=[.s i]) hx G hr hb I1 (.cons (show RelV (.ref a0) (.ref a0) from rfl) .nil) st (AxAt.s hv0 .nil) (callK_on q) fun c ρ' h v H' O' fp res s2=>h v H' O' fp res s2
  ·rw [if_neg hl] at q; exact q.elim
noncomputable def makeK (C:Addr) (f:FM) (ds:List PyData):XM Cell:=fun ρ=>match f (.own true (.o C []) :: ds.map .dat) with
 | .rt (.dat .none) [b]=>.ok (.own false b) ρ
 | .ex c _=>.ex c ρ
 | _=>.bad
noncomputable def xMake (C:Addr) (f:FM) (mA:XM (List PyData)):XM Cell:=fun ρ=>(mA ρ).bind (makeK C f)
theorem args_dat {K:PySem.W.Frag} {H:Hp} {O:List Addr}:∀ {vs:List V} {ds:List PyData},DVs (hide O H) vs ds->ArgsAt K H O vs (ds.map .dat) (ds.map fun _=>[])
 | _,_,.nil=>.nil
 | _,_,.cons h t=>.dat h (args_dat t)
theorem outs_dat {H:Hp} {O:List Addr} {a:Addr} {b:Bx}:∀ {ds:List PyData} {vs:List V} {bs:List Bx} {fps:List (List Addr)},OutsAt H O vs (ds.map Cell.dat) bs fps->bs=[]/\fps=[]
 | [],_,_,_,.nil=>⟨rfl,rfl⟩
 | d :: ds,_,_,_,.skip _ h=>outs_dat (a:=a) (b:=b) h
theorem flat_nil {α β:Type}:∀ l:List α,(l.map fun _=>([]:List β)).flatten=[]
 | []=>rfl
 | _ :: r=>by simp [flat_nil r]
theorem fo_make {mA:XM (List PyData)} (hx:XOk X F E) (M:Mk X.K C g) (G:FnOk X.prog X.w X.K X.mg X.base (CXM X.prog X.w) k g fd ps (spF X.K X.mg f)) (hr:Room (k + 1) X.A) (hg:Gl X x) (hm:X.mg x=some (.ref C)) (hb:Binds X.K fd ps []) (ha:FA X F E (e :: es) mA)
  (hdb:(x == ("__debug__":Str))=false:=by decide) (he:starEach (e :: es) X.env=(false,eval e X.env) :: starEach es X.env:=by rfl) (hpl:(backTo pos (starEach es X.env)).any (·.1)=false:=by rfl) :
  FO X F E (.Call (.Name x p) (e :: es) [] pos) (xMake C f mA):=by
 refine ⟨mn_wp,fun pins s σ H Q I ⟨ρ,O,st,q⟩=>?_⟩
 refine wpAny_Call_Name_kw (ld_glob I hg hm ?_ hdb)
 have q':=wp_bind (E:=E) (m:=mA) (k:=makeK C f) (ρ:=ρ) q
 refine PySem.W.callWith_K (h₀:=X.base) I.ok.mod.kin M.kp (thn (ha.pa pos pins s σ H (fun vs H1=>∃ ds ρ1 O1,DSt X.K F H1 σ ρ1 O1/\Stp O H O1 H1/\DVs (hide O1 H1) vs ds/\wp E (makeK C f ds) ρ1 (fun c ρ'=>∀ v H' O' fp,Res X.K F H' σ ρ' O' v c fp->Stp O H O' H'->Q v H')) I ⟨ρ,O,st,ha.mn _ _ _ (fun ds ρ1 q1 vs H1 O1 st1 s1 dv=>⟨ds,ρ1,O1,st1,s1,dv,q1⟩) q'⟩) fun us s1 ⟨vs,H1,I1,r,ds,ρ1,O1,st1,s01,dv,q1⟩=>⟨I1.kIn,?_⟩) he hpl
 let EX:XK:=fun C _ H'=>∃ c ρ' O',X.mg c=some C/\DSt X.K F H' σ ρ' O'/\E c ρ'
 have h:∀ x dx,H1 x=none->H1 dx=none->dx ≠ x->spF X.K X.mg f (.ref x :: vs) (upd (upd H1 dx (.own x)) x (.ins C dx [])) (fun v H2=>v=.non/\Q (.ref x) H2) EX:=fun x dx h1 h2 hne=>by
  obtain ⟨W,stw,hO1⟩:=id st1
  have liv:∀ a ∈ O1,∃ o,H1 a=some o/\Mv o:=fun a h=>stw.live a (by rw [<-hO1]; exact h)
  have nx:x ∉ O1:=fun z=>by obtain ⟨o,e,_⟩:=liv x z; rw [h1] at e; cases e
  have ndx:dx ∉ O1:=fun z=>by obtain ⟨o,e,_⟩:=liv dx z; rw [h2] at e; cases e
  have ndO:O1.Nodup:=by rw [hO1]; exact stw.nd
  have up:∀ b o,H1 b=some o->upd (upd H1 dx (.own x)) x (.ins C dx []) b=some o:=fun b o e=>by
   rw [upd_ne (fun z=>by subst z; rw [h1] at e; cases e),upd_ne (fun z=>by subst z; rw [h2] at e; cases e)]; exact e
  have fl:(([x,dx] :: ds.map fun _=>([]:List Addr)).flatten ++ O1)=x :: dx :: O1:=by rw [List.flatten_cons,flat_nil]; rfl
  have hid:Same (hide O1 H1) (hide (x :: dx :: O1) (upd (upd H1 dx (.own x)) x (.ins C dx []))):=fun b o e=>by
   obtain ⟨e1,n1⟩:=of_hide e
   refine hide_of (up b o e1) fun z=>?_
   rcases List.mem_cons.mp z with z | z
   ·subst z; rw [h1] at e1; cases e1
   ·rcases List.mem_cons.mp z with z | z
    ·subst z; rw [h2] at e1; cases e1
    ·exact n1 z
  refine ⟨(hx.1.at st1).mono fun b u _ e=>up b u e,.own true (.o C []) :: ds.map .dat,[x,dx] :: ds.map fun _=>[],O1,?_,?_,?_,?_⟩
  ·rw [fl]
   exact .own ⟨dx,[],[],rfl,upd_same,by rw [upd_ne hne,upd_same],.nil⟩ (args_dat (DVs.mono hid dv))
  ·rw [fl]
   refine List.nodup_cons.mpr ⟨fun z=>?_,List.nodup_cons.mpr ⟨ndx,ndO⟩⟩
   rcases List.mem_cons.mp z with z | z
   ·exact hne z.symm
   ·exact nx z
  ·rw [fl]
   intro a ha
   rcases List.mem_cons.mp ha with rfl | ha
   ·exact ⟨.ins C dx [],upd_same,trivial⟩
   ·rcases List.mem_cons.mp ha with rfl | ha
    ·exact ⟨.own x,by rw [upd_ne hne,upd_same],trivial⟩
    ·obtain ⟨o,e1,e2⟩:=liv a ha
     exact ⟨o,up a o e1,e2⟩
  ·unfold wp makeK at q1
   have hL:([x,dx] :: ds.map fun _=>([]:List Addr)).flatten=[x,dx]:=by rw [List.flatten_cons,flat_nil]; rfl
   have st1':DSt X.K (F.plus []) H1 σ ρ1 O1:=st1
   have lift:∀ (H':Hp) (L':List Addr),Beh (upd (upd H1 dx (.own x)) x (.ins C dx [])) H' [x,dx] L' O1->∃ O3,DSt X.K (F.plus L') H' σ ρ1 O3/\Stp O1 H1 O3 H'/\(∀ a ∈ L',a ∈ O3)/\(∀ a ∈ O3,a ∈ L'\/a ∈ O1)/\∀ a ∈ L',a ∈ F.A₀\/F.H₀ a=none:=fun H' L' bh=>by
    have new1:∀ a ∈ L',H1 a=none:=fun a ha=>by
     rcases bh.new a ha with z | z
     ·simp only [List.mem_cons,List.not_mem_nil,or_false] at z
      rcases z with rfl | rfl
      ·exact h1
      ·exact h2
     ·cases e:H1 a with
      | none=>rfl
      | some o=>rw [up a o e] at z; cases z
    obtain ⟨O3,t1,t2,t3,t4,_⟩:=st1'.swap (L':=L') (H':=H') (fun b o _ e=>bh.keep b o (fun z=>by
     simp only [List.mem_cons,List.not_mem_nil,or_false] at z
     rcases z with rfl | rfl
     ·rw [h1] at e; cases e
     ·rw [h2] at e; cases e) (up b o e)) (List.nodup_append.mp bh.nd).1 (fun a ha=>.inr (new1 a ha)) (fun a h=>by cases h) bh.live
    refine ⟨O3,t1,t2,t3,fun a ha=>(t4 a ha).imp id (·.1),fun a ha=>?_⟩
    by_cases hA:a ∈ F.A₀
    ·exact .inl hA
    ·refine .inr ?_
     cases e:F.H₀ a with
     | none=>rfl
     | some o=>have:=stw.kept a o hA e; rw [new1 a ha] at this; cases this
   cases hf:f (.own true (.o C []) :: ds.map .dat) with
   | bad=>rw [hf] at q1; exact q1
   | ex c outs=>
    rw [hf] at q1
    intro C' H' fps' hmc hou bh
    rw [hL] at bh
    obtain ⟨O3,t1,t2,t3,t4,t5⟩:=lift H' [] ⟨ndO,fun a h=>(by cases h),bh.keep,fun a h=>(by cases h)⟩
    exact ⟨c,ρ1,O3,hmc,t1,q1⟩
   | rt c outs=>
    rw [hf] at q1
    intro v H' fp fps' hca hou bh
    rw [hL] at bh
    match c,outs,q1 with
    | .dat .none,[b'],q1=>
     have hv:v=.non:=DV.non_inv hca
     cases hou with
     | skip hno _=>exact absurd rfl (hno _ _)
     | @own _ _ _ _ fp' _ _ _ fps0 hbx hrest=>
      obtain ⟨_,rfl⟩:=outs_dat (a:=0) (b:=b') hrest
      refine ⟨hv,?_⟩
      simp only [List.flatten_cons,List.flatten_nil,List.append_nil] at hbx bh
      have bh':Beh (upd (upd H1 dx (.own x)) x (.ins C dx [])) H' [x,dx] fp' O1:=⟨by
       have n1:=bh.nd
       rw [List.append_assoc] at n1
       obtain ⟨m1,m2,m3⟩:=List.nodup_append.mp n1
       exact List.nodup_append.mpr ⟨m1,ndO,fun a ha b hb=>m3 a ha b (List.mem_append_right _ hb)⟩,fun a ha=>bh.live a (List.mem_append_left _ ha),bh.keep,fun a ha=>bh.new a (List.mem_append_left _ ha)⟩
      obtain ⟨O3,t1,t2,t3,t4,t5⟩:=lift H' fp' bh'
      refine q1 (.ref x) H' O3 fp' ⟨t1,⟨x,rfl,hbx.keep (fun _ _=>rfl) (hide_more fun a ha=>?_)⟩,t5⟩ (s01.trans t2)
      rcases t4 a ha with z | z
      ·exact List.mem_append_left _ (List.mem_append_left _ z)
      ·exact List.mem_append_right _ z
 have hq:=h (s1.heap.objs.size + 1) s1.heap.objs.size (I1.hok.fresh (Nat.le_succ _)) (I1.hok.fresh (Nat.le_refl _)) (Nat.ne_of_lt (Nat.lt_succ_self _))
 have I2:=Inv.made (C:=C) I1
 have r2:Vals (V.ref (s1.heap.objs.size + 1) :: vs) (Value.ref (s1.heap.objs.size + 1) :: us):=.cons rfl r
 have hl:(Value.ref (s1.heap.objs.size + 1) :: us ++ []).length=ps.length:=by
  have e:=r2.length
  rw [G.len _ _ _ _ hq] at e
  rw [List.append_nil]
  exact e.symm
 refine wpAny_call (make_map (f:=g) I1.kIn M.makes M.init (beq_iff_eq.mp M.fn) (codeAny_mono (G.run _ X.stack _ _ ⟨Value.ref (s1.heap.objs.size + 1) :: us,[]⟩ (Value.ref (s1.heap.objs.size + 1) :: us) _ _ EX (hr.make C us [])
  (I2.env0.make C us []) (by have:=hb _ (Value.ref (s1.heap.objs.size + 1) :: us) I2.kIn hl; rw [List.append_nil] at this; exact this) r2 hq) fun r s' hq'=>?_))
 cases r with
 | error e=>
  obtain ⟨a,C',H',e1,I',cv,ex,c,ρ',O',hmc,st',hE⟩:=I2.flies hq'
  exact hx.2 pins σ H' s' e c ρ' O' ⟨I',a,C',_,_,e1,cv,ex,hmc⟩ st' hE
 | ok fl=>
  cases fl with
  | ret u=>
   obtain ⟨v,H',I3,rv,ev,q3⟩:=I2.after hq'
   subst ev
   exact ⟨rv,⟨V.ref (s1.heap.objs.size + 1),H',I3,rfl,q3⟩⟩
  | next=>exact False.elim hq'
  | brk=>exact False.elim hq'
  | cont=>exact False.elim hq'
end
end L2.L3
namespace L2.L3
open PySem PySem.Spec PyProof.Rows
end L2.L3
namespace L2.L3
open PySem PySem.Spec PyProof.Rows
section
variable {X:Cx} {F:Fx} {E:Str->DEnv->Prop} {e a b c:Expr} {es:List Expr} {st:Stmt} {pos p1 apos cpos fpos:Pos} {x f:Str} {C:Addr} {i:Nat} {m:XM PyData}
theorem dvs_put {G:Hp} {v:V} {d:PyData} (hd:DV G v d):∀ {xs:List V} {ds:List PyData} (n:Nat),DVs G xs ds->DVs G (xs.set n v) (ds.set n d)
 | _,_,_,.nil=>.nil
 | _,_,0,.cons _ t=>.cons hd t
 | _,_,n + 1,.cons h t=>.cons h (dvs_put hd n t)
noncomputable def sFldInc (C:Addr) (i:Nat) (f:Str) (n:Int):SM:=fun ρ=>match asIo C ρ i with
 | some (io,fs)=>(match fs.lookup f with
  | some (.d (.int v))=>if fs.length < 1000 then .nx (ρ.set i (some (.own io (.o C (putFl f (.d (.int (v + n))) fs))))) else .bad
  | _=>.bad)
 | none=>.bad
theorem fs_fldinc {n:Int} {tpos:Pos} (cl:Cls X.K C) (na:NoAttr X.K C f) (hv:PE X (.Name x p1) (tVar i)) (he:PE X e (fun σ H Q=>Q (.int n) H)):FS X F E (.AugAssign (.Attribute (.Name x p1) f tpos) .Add e pos) (sFldInc C i f n):=
 (ps_fldaug hv he in_add).imp fun D σ H ⟨ρ,O,DD,st,q,fD⟩=>by
  unfold wpS sFldInc at q
  cases ho:asIo C ρ i with
  | none=>rw [ho] at q; exact q.elim
  | some p=>
   obtain ⟨io,fs⟩:=p
   rw [ho] at q
   simp only at q
   cases hlk:fs.lookup f with
   | none=>rw [hlk] at q; exact q.elim
   | some t=>
    rw [hlk] at q
    cases t with
    | l _=>exact q.elim
    | m _ _=>exact q.elim
    | d x0=>
     cases x0 with
     | int v0=>
      simp only at q
      by_cases hz:fs.length < 1000
      ·rw [if_pos hz] at q
       obtain ⟨a0,fp,hv0,⟨dx,gs,fps,e1,e2,e3,e4⟩,hO,nd,up⟩:=st.boxN (asIo_at ho)
       subst e1
       have ndx:dx ≠ a0:=fun z=>by subst z; simp at nd
       rcases fls_look e4 f with ⟨_,l2⟩ | ⟨v,y1,fp',l1,l2,l3,_⟩
       ·rw [hlk] at l2; cases l2
       ·rw [hlk] at l2; cases l2
        obtain rfl:=l3.2.int_inv
        obtain ⟨O3,st3,s3,_⟩:=up (upd H a0 (.ins C dx (putF f (.int (v0 + n)) gs))) (.o C (putFl f (.d (.int (v0 + n))) fs)) (a0 :: dx :: fps.flatten) (fun c o hcn e=>by rw [upd_ne (fun z=>hcn (by simp [z]))]; exact e) nd (fun c hc=>.inl hc) (fun G O' s hG _=>by
         subst hG
         refine ⟨s.hid,dx,putF f (.int (v0 + n)) gs,if (fs.lookup f).isSome=true then fps else fps ++ [[]],?_,upd_same,by rw [upd_ne ndx]; exact e3,?_⟩
         ·split
          ·rfl
          ·simp
         ·refine e4.putD (by rw [hlk]; rfl) (.int _) s.hid fun c hc=>upd_ne (fun z=>?_)
          subst z
          exact absurd hc (fun w=>(List.nodup_cons.mp nd).1 (List.mem_cons_of_mem _ w)))
        exact ⟨_,hv0,a0,C,dx,gs,_,rfl,e2,cl,na,l1,v0,n,rfl,rfl,dx,gs,e2,by rw [e4.len]; exact hz,fD.nx _ _ _ _ st3 s3 q⟩
      ·rw [if_neg hz] at q; exact q.elim
     | _=>exact q.elim
end
end L2.L3
namespace L2.L3
open PySem PySem.Spec PyProof.Rows
theorem fls_new {G G' H H':Hp} {f:Str} {p:Addr} {y:Fl}:∀ {gs:List (Str × V)} {fs:List (Str × Fl)} {fps:List (List Addr)},FlsAt G H gs fs fps->fs.lookup f=none->Same G G'->(∀ c ∈ fps.flatten,H' c=H c)->FlAt G' H' (.ref p) y [p]->FlsAt G' H' (putF f (.ref p) gs) (putFl f y fs) (fps ++ [[p]])
 | _,_,_,.nil,_,_,_,h=>.cons h .nil
 | (n,v) :: gs,(_,z) :: fs,fp :: fps,.cons h1 h2,hl,g,k,h=>by
  by_cases e:f=n
  ·subst e
   simp [List.lookup] at hl
  ·have e':(f == n)=false:=by simpa using e
   rw [List.lookup_cons,e'] at hl
   unfold putF putFl
   rw [if_neg (fun z=>e z.symm),if_neg (fun z=>e z.symm)]
   exact .cons (h1.keep (fun c hc=>k c (by rw [List.flatten_cons]; exact List.mem_append_left _ hc)) g) (fls_new h2 hl g (fun c hc=>k c (by rw [List.flatten_cons]; exact List.mem_append_right _ hc)) h)
theorem DSt.fldNew {K:PySem.W.Frag} {F:Fx} {H:Hp} {σ:St} {ρ:DEnv} {O:List Addr} {C:Addr} {i:Nat} {io:Bool} {fs:List (Str × Fl)} {f:Str} (st:DSt K F H σ ρ O) (ho:asIo C ρ i=some (io,fs)) (lk:fs.lookup f=none) :
  ∃ a dx gs,σ[i]? = some (some (.ref a))/\H a=some (.ins C dx gs)/\gs.length=fs.length/\
   ∀ (p:Addr) (o':HO) (y:Fl),H p=none->Mv o'->(∀ G,Same (hide O H) G->FlAt G (upd (upd H p o') a (.ins C dx (putF f (.ref p) gs))) (.ref p) y [p])->upd H p o' a=some (.ins C dx gs)/\∃ O',DSt K F (upd (upd H p o') a (.ins C dx (putF f (.ref p) gs))) σ (ρ.set i (some (.own io (.o C (putFl f y fs))))) O'/\Stp O H O' (upd (upd H p o') a (.ins C dx (putF f (.ref p) gs))):=by
 obtain ⟨a,fp,hv0,⟨dx,gs,fps,e1,e2,e3,e4⟩,hO,nd,up⟩:=st.boxN (asIo_at ho)
 subst e1
 have nd':=nd
 rw [List.nodup_cons,List.nodup_cons] at nd'
 obtain ⟨na,ndx,nf⟩:=nd'
 have ad:dx ≠ a:=fun z=>na (by rw [z]; exact List.mem_cons_self)
 refine ⟨a,dx,gs,hv0,e2,e4.len,fun p o' y hp hM hf=>?_⟩
 have pa:a ≠ p:=fun z=>by subst z; rw [e2] at hp; cases hp
 have pd:dx ≠ p:=fun z=>by subst z; rw [e3] at hp; cases hp
 have liv:=st.live
 have pf:p ∉ fps.flatten:=fun z=>by
  exact absurd (hO p (List.mem_cons_of_mem _ (List.mem_cons_of_mem _ z))) (st.nofree p hp)
 refine ⟨by rw [upd_ne pa]; exact e2,?_⟩
 obtain ⟨O',st',s',_⟩:=up (upd (upd H p o') a (.ins C dx (putF f (.ref p) gs))) (.o C (putFl f y fs)) (a :: dx :: (fps ++ [[p]]).flatten) (fun c o hc e=>by
   rw [upd_ne (fun z=>hc (by simp [z])),upd_ne (fun z=>by subst z; rw [hp] at e; cases e)]; exact e) (by
   rw [List.flatten_append]
   simp only [List.flatten_cons,List.flatten_nil,List.append_nil]
   refine List.nodup_cons.mpr ⟨fun z=>?_,List.nodup_cons.mpr ⟨fun z=>?_,List.nodup_append.mpr ⟨nf,by simp,fun x hx y hy=>?_⟩⟩⟩
   ·rcases List.mem_cons.mp z with z | z
    ·exact ad z.symm
    ·rcases List.mem_append.mp z with z | z
     ·exact na (List.mem_cons_of_mem _ z)
     ·exact pa (List.mem_singleton.mp z)
   ·rcases List.mem_append.mp z with z | z
    ·exact ndx z
    ·exact pd (List.mem_singleton.mp z)
   ·rw [List.mem_singleton.mp hy]; exact fun z=>pf (by rw [<-z]; exact hx)) (fun c hc=>by
   rw [List.flatten_append] at hc
   simp only [List.flatten_cons,List.flatten_nil,List.append_nil] at hc
   rcases List.mem_cons.mp hc with rfl | hc
   ·exact .inl List.mem_cons_self
   ·rcases List.mem_cons.mp hc with rfl | hc
    ·exact .inl (by simp)
    ·rcases List.mem_append.mp hc with hc | hc
     ·exact .inl (List.mem_cons_of_mem _ (List.mem_cons_of_mem _ hc))
     ·exact .inr (by rw [List.mem_singleton.mp hc]; exact hp)) (fun G O' s hG _=>by
  subst hG
  refine ⟨s.hid,dx,putF f (.ref p) gs,fps ++ [[p]],rfl,upd_same,by rw [upd_ne ad,upd_ne pd]; exact e3,fls_new e4 lk s.hid (fun c hc=>?_) (hf _ s.hid)⟩
  rw [upd_ne (fun z=>na (by rw [<-z]; exact List.mem_cons_of_mem _ hc)),upd_ne (fun z=>pf (by rw [<-z]; exact hc))])
 exact ⟨O',st',s'⟩
section
variable {X:Cx} {F:Fx} {E:Str->DEnv->Prop} {e a b c:Expr} {es:List Expr} {st:Stmt} {pos p1 p2 apos cpos fpos pos':Pos} {x f:Str} {C:Addr} {i:Nat} {m:XM PyData}
noncomputable def sFldNew (C:Addr) (i:Nat) (f:Str) (y:Fl):SM:=fun ρ=>match asIo C ρ i with
 | some (io,fs)=>if fs.lookup f=none/\fs.length < 1000 then .nx (ρ.set i (some (.own io (.o C (putFl f y fs))))) else .bad
 | none=>.bad
theorem fs_fldnil (cl:Cls X.K C) (na:NoAttr X.K C f) (hv:PE X (.Name x p1) (tVar i)) (hs:swapsWith (.List [] p2) (some (.Attribute (.Name x p1) f pos')) pos.line X.env=pure false:=by rfl):FS X F E (.Assign [.Attribute (.Name x p1) f pos'] (.List [] p2) pos) (sFldNew C i f (.l [])):=
 (ps_fld hv (pe_lst pa_nil) hs).imp fun D σ H ⟨ρ,O,DD,st,q,fD⟩=>by
  unfold wpS sFldNew at q
  cases ho:asIo C ρ i with
  | none=>rw [ho] at q; exact q.elim
  | some p=>
   obtain ⟨io,fs⟩:=p
   rw [ho] at q
   simp only at q
   by_cases hc:fs.lookup f=none/\fs.length < 1000
   ·rw [if_pos hc] at q
    obtain ⟨a0,dx,gs,hv0,e2,hl,nw⟩:=st.fldNew ho hc.1
    refine ⟨Nat.zero_le _,fun p hp=>?_⟩
    have pa:a0 ≠ p:=fun z=>by subst z; rw [e2] at hp; cases hp
    obtain ⟨h1,O3,st3,s3⟩:=nw p (.lst []) (.l []) hp trivial (fun G g=>⟨p,[],rfl,rfl,by rw [upd_ne (fun z=>pa z.symm),upd_same],.nil⟩)
    exact ⟨_,hv0,a0,C,dx,gs,rfl,h1,cl,na,by rw [hl]; exact hc.2,fD.nx _ _ _ _ st3 s3 q⟩
   ·rw [if_neg hc] at q; exact q.elim
theorem fs_flddic (cl:Cls X.K C) (na:NoAttr X.K C f) (hv:PE X (.Name x p1) (tVar i)) (hs:swapsWith (.Dict [] [] p2) (some (.Attribute (.Name x p1) f pos')) pos.line X.env=pure false:=by rfl):FS X F E (.Assign [.Attribute (.Name x p1) f pos'] (.Dict [] [] p2) pos) (sFldNew C i f (.m true [])):=
 (ps_fld hv pe_dnewT hs).imp fun D σ H ⟨ρ,O,DD,st,q,fD⟩=>by
  unfold wpS sFldNew at q
  cases ho:asIo C ρ i with
  | none=>rw [ho] at q; exact q.elim
  | some p=>
   obtain ⟨io,fs⟩:=p
   rw [ho] at q
   simp only at q
   by_cases hc:fs.lookup f=none/\fs.length < 1000
   ·rw [if_pos hc] at q
    obtain ⟨a0,dx,gs,hv0,e2,hl,nw⟩:=st.fldNew ho hc.1
    intro p hp
    have pa:a0 ≠ p:=fun z=>by subst z; rw [e2] at hp; cases hp
    obtain ⟨h1,O3,st3,s3⟩:=nw p (.dT []) (.m true []) hp trivial (fun G g=>⟨p,rfl,rfl,[],by rw [upd_ne (fun z=>pa z.symm),upd_same],.nil⟩)
    exact ⟨_,hv0,a0,C,dx,gs,rfl,h1,cl,na,by rw [hl]; exact hc.2,fD.nx _ _ _ _ st3 s3 q⟩
   ·rw [if_neg hc] at q; exact q.elim
end
end L2.L3
namespace L2
open PySem
end L2
namespace L2.L3
open PySem PySem.Spec PyProof.Rows
end L2.L3
namespace L2
open PySem
end L2
namespace L2
open PySem PySem.Spec PyProof.Rows
end L2
namespace L2.L3
open PySem PySem.Spec PyProof.Rows
section
variable {X:Cx} {F:Fx} {E:Str->DEnv->Prop} {pos:Pos}
theorem DSt.view {K:PySem.W.Frag} {H:Hp} {σ:St} {ρ:DEnv} {O:List Addr} (st:DSt K F H σ ρ O) {i:Nat} {b:Bx} (e:ρ[i]? = some (some (.vw b))):∃ a fp,σ[i]? = some (some (.ref a))/\BoxAt (hide O H) (hide O H) a b fp:=by
 obtain ⟨W,h,rfl⟩:=st
 obtain ⟨v,fp,h1,h2,a,fp',rfl,h3⟩:=h.at_ i _ e
 exact ⟨a,fp',h1,h3⟩
end
end L2.L3
namespace L2.L3
open PySem PySem.Spec PyProof.Rows
section
variable {K:PySem.W.Frag} {F:Fx} {own:List Str} {caps:List Nat} {s:DTI} {g:DTG} {tc:DTT} {te:DT}
theorem rd_cmpN {PF:Fx->Prop} (hP:∀ H1 σ ρ1 O1 O2,DSt K F H1 σ ρ1 O1->PF ⟨H1,[],O2,fun _=>0⟩) (hs:MnI s) (hg:∀ d ρ Q Q',(∀ ρ',Q ρ'->Q' ρ')->g d ρ Q->g d ρ Q') (ht:MnT tc) (he:Mn te):∀ (σ:St) (H:Hp) (Q:VK),(∃ ρ O,DSt K F H σ ρ O/\s ρ fun its ρ1=>∃ Iv:Nat->List PyData->DEnv->Prop,Iv 0 [] (liftD own caps ρ1)/\
   (∀ i d ys ρ',its[i]? = some d->Iv i ys ρ'->g d ρ' fun ρ2=>tc ρ2 fun b ρ3=>if b=true then te ρ3 fun y ρ4=>ys.length < sizeLine/\Iv (i + 1) (ys ++ [y]) ρ4 else Iv (i + 1) ys ρ3)/\
   ∀ ys ρ',Iv its.length ys ρ'->ys.length<=sizeLine/\∀ H' O' vs p,DSt K F H' σ ρ1 O'->Stp O H O' H'->DVs (hide O' H') vs ys->H' p=none->Q (.ref p) (upd H' p (.lst vs)))->
  tComp own caps (rdI K F s) (fun v σ H Q=>∃ F',PF F'/\rdG K F' g v σ H Q) (fun σ H Q=>∃ F',PF F'/\rdT K F' tc σ H Q) (fun σ H Q=>∃ F',PF F'/\rdE K F' te σ H Q) σ H Q:=fun σ H Q ⟨ρ,O,st,q⟩=>by
 refine ⟨ρ,O,st,hs _ _ _ (fun its ρ1 ⟨Iv,i0,step,fin⟩ J H1 O1 st1 s1 wk=>?_) q⟩
 refine ⟨fun i m ys σ' H'=>∃ ρ' O' ds,DSt K ⟨H1,[],O1,fun _=>0⟩ H' σ' ρ' O'/\Iv i ds ρ'/\DVs (hide O' H') ys ds/\i<=its.length/\m=its.length - i,⟨its.length,liftD own caps ρ1,O1,[],?_,i0,.nil,Nat.zero_le _,rfl⟩,?_⟩
 ·have cell:∀ (i:Nat) (c:Cell),(liftD own caps ρ1)[i]? = some (some c)->(∀ io b,c ≠ .own io b)/\∃ v,(liftC own caps σ)[i]? = some (some v)/\CellAt K H1 O1 v c []:=fun i c e=>by
   unfold liftD at e
   unfold liftC
   by_cases hi:i < own.length
   ·rw [List.getElem?_append_left (by simpa using hi),List.getElem?_map] at e
    cases h:own[i]? with
    | none=>rw [h] at e; cases e
    | some y=>rw [h] at e; cases e
   ·rw [List.getElem?_append_right (by simpa using Nat.le_of_not_lt hi),List.length_map,List.getElem?_map] at e
    rw [List.getElem?_append_right (by simpa using Nat.le_of_not_lt hi),List.length_map,List.getElem?_map]
    obtain ⟨j,h1,h2⟩:=Option.map_eq_some_iff.mp e
    rw [h1]
    show _/\∃ v,some ((σ[j]?).getD none)=some (some v)/\_
    cases h3:ρ1[j]? with
    | none=>rw [h3] at h2; cases h2
    | some o=>
     cases o with
     | none=>rw [h3] at h2; cases h2
     | some c'=>
      rw [h3] at h2
      obtain ⟨W,stw,rfl⟩:=id st1
      obtain ⟨v,fp,e1,_,e2⟩:=stw.at_ j c' h3
      rw [e1]
      cases c' with
      | dat d=>cases h2; exact ⟨(fun _ _ z=>by cases z),v,rfl,e2⟩
      | scr ns=>cases h2; exact ⟨(fun _ _ z=>by cases z),v,rfl,e2⟩
      | own _ _=>cases h2
      | exc _=>cases h2
      | vw b=>cases h2; exact ⟨(fun _ _ z=>by cases z),v,rfl,e2⟩
  obtain ⟨W,stw,hO1⟩:=id st1
  have ln:(liftD own caps ρ1).length=(liftC own caps σ).length:=by unfold liftD liftC; simp
  have fl:(List.replicate (liftD own caps ρ1).length ([]:List Addr)).flatten ++ O1=O1:=by rw [flat_rep]; rfl
  refine ⟨List.replicate (liftD own caps ρ1).length [],⟨fun i c e=>?_,by show (_ ++ O1).Nodup; rw [fl,hO1]; exact stw.nd,fun _ _ _ h=>h,fun a h=>?_,by show OOk H1 (_ ++ O1); rw [fl]; exact st1.live,ln,by simp,fun i b e=>absurd rfl ((cell i _ e).1 true b)⟩,fl.symm⟩
  ·obtain ⟨_,v,e1,e2⟩:=cell i c e
   refine ⟨v,[],e1,?_,by show CellAt K H1 (_ ++ O1) v c []; rw [fl]; exact e2⟩
   rw [List.getElem?_replicate,if_pos (List.getElem?_eq_some_iff.mp e).1]
  ·rw [flat_rep] at h; cases h
 ·rintro i m ys σ' H' ⟨ρ',O',ds,st',iv,dv,hi,rfl⟩
  have sm:Same H1 H':=fun b o e=>by obtain ⟨W',h',_⟩:=id st'; exact h'.kept b o (by simp) e
  have stp:Stp O1 H1 O' H':=⟨fun b o _ e=>sm b o e,fun a h=>by
   obtain ⟨W',h',rfl⟩:=id st'
   rcases List.mem_append.mp h with h | h
   ·exact (h'.new a h).elim (fun z=>absurd z (by simp)) .inr
   ·exact .inl h⟩
  have sub1:∀ a ∈ O1,a ∈ O':=fun a h=>by obtain ⟨W',h',rfl⟩:=id st'; exact List.mem_append_right _ h
  obtain ⟨w1,w2⟩:=wk O' H' stp st'.live
  by_cases hlt:i < its.length
  ·obtain ⟨go,yld⟩:=w1 i its[i] (List.getElem?_eq_getElem hlt)
   refine .inr ⟨go,fun x H2 hy=>?_⟩
   obtain ⟨sm2,dx⟩:=yld x H2 hy
   refine ⟨⟨H1,[],O1,fun _=>0⟩,hP _ _ _ _ _ st1,ρ',O',its[i],st'.grow sm2,dx,hg _ _ _ _ (fun ρ2 q2 σ3 H3 O3 st3 s3=>?_) (step i its[i] ds ρ' (List.getElem?_eq_getElem hlt) iv)⟩
   refine ⟨⟨H1,[],O1,fun _=>0⟩,hP _ _ _ _ _ st1,ρ2,O3,st3,ht _ _ _ (fun b ρ3 q3 H4 O4 st4 s4=>?_) q2⟩
   have d4:DVs (hide O4 H4) ys ds:=DVs.mono s4.hid (DVs.mono s3.hid (DVs.mono (hide_same sm2) dv))
   cases b with
   | false=>exact iteF ⟨its.length - (i + 1),by omega,ρ3,O4,ds,st4,ofF q3,d4,hlt,rfl⟩
   | true=>
    refine iteT ⟨⟨H1,[],O1,fun _=>0⟩,hP _ _ _ _ _ st1,ρ3,O4,st4,he _ _ _ (fun y ρ4 q4 v H5 O5 st5 s5 dy=>?_) (ofT q3)⟩
    refine ⟨by rw [d4.length]; exact q4.1,its.length - (i + 1),by omega,ρ4,O5,ds ++ [y],st5,q4.2,(DVs.mono s5.hid d4).append (.cons dy .nil),hlt,rfl⟩
  ·have e:i=its.length:=by omega
   subst e
   obtain ⟨hz,q⟩:=fin ds ρ' iv
   exact .inl ⟨w2,by rw [dv.length]; exact hz,fun p hp=>q H' O1 ys p (st1.grow sm) (s1.trans (.same sm)) (DVs.mono (hide_more sub1) dv) hp⟩
end
section
variable {X:Cx} {F:Fx} {E:Str->DEnv->Prop} {pos:Pos}
theorem comp_of2 {own:List Str} {caps:List Nat} {s:XM (List PyData)} {g:GM} {t:XM Bool} {m:XM PyData} {ρ:DEnv} {P:List PyData->DEnv->Prop} (q:wp E s ρ fun its ρ1=>∃ ys,compGo g t m its [] (liftE own.length caps ρ1)=some ys/\ys.length<=sizeLine/\P ys ρ1) :
  wp E s ρ fun its ρ1=>∃ Iv:Nat->List PyData->DEnv->Prop,Iv 0 [] (liftD own caps ρ1)/\
   (∀ i d ys ρ',its[i]? = some d->Iv i ys ρ'->wpG g d ρ' fun ρ2=>wp E0' t ρ2 fun b ρ3=>if b=true then wp E0' m ρ3 fun y ρ4=>ys.length < sizeLine/\Iv (i + 1) (ys ++ [y]) ρ4 else Iv (i + 1) ys ρ3)/\
   ∀ ys ρ',Iv its.length ys ρ'->ys.length<=sizeLine/\P ys ρ1:=mn_wp _ _ _ (fun its ρ1 ⟨ys0,e2,hl,hP⟩=>by
 have eL:liftD own caps ρ1=liftE own.length caps ρ1:=by
  unfold liftD liftE
  rw [List.map_const']
 refine ⟨fun i ys ρ=>compGo g t m (its.drop i) ys ρ=some ys0,by rw [eL]; exact e2,fun i d ys ρ hd hi=>?_,fun ys ρ h=>?_⟩
 ·have e:its.drop i=d :: its.drop (i + 1):=by
   obtain ⟨hlt,he⟩:=List.getElem?_eq_some_iff.mp hd
   rw [<-he]
   exact List.drop_eq_getElem_cons hlt
  simp only [e] at hi
  unfold compGo at hi
  unfold wpG
  cases hg:g d ρ with
  | none=>rw [hg] at hi; cases hi
  | some ρ2=>
   rw [hg] at hi
   simp only at hi ⊢
   unfold wp
   cases ht:t ρ2 with
   | ex c ρ3=>rw [ht] at hi; cases hi
   | bad=>rw [ht] at hi; cases hi
   | ok b ρ3=>
    rw [ht] at hi
    cases b with
    | false=>exact iteF hi
    | true=>
     refine iteT ?_
     simp only at hi ⊢
     cases hm:m ρ3 with
     | ex c ρ4=>rw [hm] at hi; cases hi
     | bad=>rw [hm] at hi; cases hi
     | ok y' ρ4=>
      rw [hm] at hi
      simp only at hi ⊢
      split at hi
      ·rename_i h; exact ⟨h,hi⟩
      ·cases hi
 ·simp only [List.drop_length] at h
  have:ys=ys0:=by unfold compGo at h; exact Option.some.inj h
  subst this
  exact ⟨hl,hP⟩) q
noncomputable def fldCmpK (C:Addr) (i:Nat) (f:Str) (own:Nat) (caps:List Nat) (g:GM) (t:XM Bool) (m:XM PyData) (its:List PyData):SM:=fun ρ=>match compGo g t m its [] (liftE own caps ρ),asIo C ρ i with
 | some ys,some (io,fs)=>if ys.length<=sizeLine/\fs.lookup f=none/\fs.length < 1000 then .nx (ρ.set i (some (.own io (.o C (putFl f (.l ys) fs))))) else .bad
 | _,_=>.bad
noncomputable def sFldCmp (C:Addr) (i:Nat) (f:Str) (own:Nat) (caps:List Nat) (s:XM (List PyData)) (g:GM) (t:XM Bool) (m:XM PyData):SM:=fun ρ=>ofX (s ρ) (fldCmpK C i f own caps g t m)
theorem fs_fldcomp {C:Addr} {i:Nat} {f x:Str} {p1 pos' spos:Pos} {scope:Scope} {own capN:List Str} {caps:List Nat} {tg iter elt:Expr} {ifs:List Expr} {s:XM (List PyData)} {g:GM} {t:XM Bool} {m:XM PyData} {n:Nat} (cl:Cls X.K C) (na:NoAttr X.K C f) (hv:PE X (.Name x p1) (tVar i)) (hG:GF X.mg F) (S:CompScope X scope own capN caps) (hc:X.calm=true) (hn:own.length=n) (hi:FI X F E tg iter s)
  (hin:∀ C fp s₂ H₂ pl F',GF X.mg F'->FG (compCx X scope (own ++ capN) C fp s₂ H₂ pl) F' tg g/\FBs (compCx X scope (own ++ capN) C fp s₂ H₂ pl) F' E0' ifs t/\FE (compCx X scope (own ++ capN) C fp s₂ H₂ pl) F' E0' elt m)
  (hsw:swapsWith (.ListComp elt [⟨tg,iter,ifs,0⟩] scope pos) (some (.Attribute (.Name x p1) f pos')) spos.line X.env=pure false:=by rfl)
  (hs:∀ x,foldedSetIterable iter X.env x=pure x:=by intro _; rfl):FS X F E (.Assign [.Attribute (.Name x p1) f pos'] (.ListComp elt [⟨tg,iter,ifs,0⟩] scope pos) spos) (sFldCmp C i f n caps s g t m):=by
 subst hn
 obtain ⟨hg,ht,he⟩:=hin 0 [] (PySem.start X.prog).1 (fun _=>none) [] F hG
 have pe:PE X (.ListComp elt [⟨tg,iter,ifs,0⟩] scope pos) (tComp own caps (rdI X.K F (wp E s)) (fun v σ H Q=>∃ F',GF X.mg F'/\rdG X.K F' (wpG g) v σ H Q) (fun σ H Q=>∃ F',GF X.mg F'/\rdT X.K F' (wp E0' t) σ H Q) (fun σ H Q=>∃ F',GF X.mg F'/\rdE X.K F' (wp E0' m) σ H Q)):=pe_comp S hc hi.pi (fun C fp s₂ H₂ pl=>⟨fun pins s σ H v u Q I r ⟨F',g',q⟩=>(hin C fp s₂ H₂ pl F' g').1.pg pins s σ H v u Q I r q,fun pins s σ H Q I ⟨F',g',q⟩=>(hin C fp s₂ H₂ pl F' g').2.1.2 pins s σ H Q I q,fun pins s σ H Q I ⟨F',g',q⟩=>(hin C fp s₂ H₂ pl F' g').2.2.pe pins s σ H Q I q⟩) hs
 refine (ps_fld hv pe hsw).imp fun D σ H ⟨ρ,O,DD,st,q,fD⟩=>?_
 refine rd_cmpN (fun _ _ _ _ _ st=>hG.into st) hi.mn hg.mn ht.1 he.mn σ H _ ⟨ρ,O,st,comp_of2 (mn_wp _ _ _ (fun its ρ1 q1=>?_) (wpS_ofX (m:=s) (k:=fldCmpK C i f own.length caps g t m) q))⟩
 unfold wpS fldCmpK at q1
 cases hys:compGo g t m its [] (liftE own.length caps ρ1) with
 | none=>rw [hys] at q1; exact q1.elim
 | some ys=>
  cases ho:asIo C ρ1 i with
  | none=>rw [hys,ho] at q1; exact q1.elim
  | some p=>
   obtain ⟨io,fs⟩:=p
   rw [hys,ho] at q1
   simp only at q1
   by_cases hcnd:ys.length<=sizeLine/\fs.lookup f=none/\fs.length < 1000
   ·rw [if_pos hcnd] at q1
    refine ⟨ys,rfl,hcnd.1,fun H' O' vs p st' s' dv hp=>?_⟩
    obtain ⟨a0,dx,gs,hv0,e2,hl,nw⟩:=st'.fldNew ho hcnd.2.1
    have pa:a0 ≠ p:=fun z=>by subst z; rw [e2] at hp; cases hp
    obtain ⟨h1,O3,st3,s3⟩:=nw p (.lst vs) (.l ys) hp trivial (fun G gg=>⟨p,vs,rfl,rfl,by rw [upd_ne (fun z=>pa z.symm),upd_same],DVs.mono gg dv⟩)
    exact ⟨_,hv0,a0,C,dx,gs,rfl,h1,cl,na,by rw [hl]; exact hcnd.2.2,fD.nx _ _ _ _ st3 (s'.trans s3) q1⟩
   ·rw [if_neg hcnd] at q1; exact q1.elim
end
end L2.L3
namespace L2
open PySem PyProof.Rows
end L2
namespace L2.L3
open PySem PySem.Spec PyProof.Rows
end L2.L3
namespace L2.L3
open PySem PySem.Spec PyProof.Rows
structure MD (K:PySem.W.Frag) (C:Addr) (m qual:Str) (st:Stmt) (ps:List Str) (g:Addr) (fd:FuncData):Prop where
 fn:Fun K m qual st g fd
 mt:Meth K C m g
 b:Binds K fd ps []
theorem scm {N P:List Str} {sc:Scope} (h1:sc.kind=.function:=by rfl) (h2:sc.isCoroutine=false:=by rfl) (h3:sc.isGenerator=false:=by rfl) (h4:N.Nodup:=by decide +kernel) (h5:N.take P.length=P:=by rfl) (h6:∀ x ∈ P,sc.names.lookup x=some .local\/sc.names.lookup x=some .cell:=by decide +kernel) (h7:∀ y ∈ sc.names,y.2 ≠ .free:=by decide +kernel):FnScope N P sc:=⟨h1,h2,h3,h4,h5,h6,h7⟩
section
variable {X:Cx} {F:Fx} {E:Str->DEnv->Prop} {e:Expr} {es:List Expr} {pos p p1 apos:Pos} {x m q:Str} {C:Addr} {i k j:Nat} {g:Addr} {fd:FuncData} {ps:List Str} {f:FM} {st:Stmt} {mX:XM (List AX)}
theorem fv (i:Nat) (hN:X.N[i]? = some x:=by rfl) (hv:Vis X.env.scope x:=by first | exact Or.inl rfl | exact Or.inr (Or.inl rfl) | exact Or.inr (Or.inr rfl)) (hd:(x == ("__debug__":Str))=false:=by decide) (hcd:(x == ("__classdict__":Str))=false:=by decide):FE X F E (.Name x pos) (xV i):=fe_v (de_var i (pv i hN hv hd hcd))
theorem fgn (i:Nat) (hN:X.N.Nodup) (hi:X.N[i]? = some x:=by rfl) (hx:Loc X.env.scope x:=by first | exact Or.inl rfl | exact Or.inr rfl) (hf:X.fn x=true\/X.env.scope.names.lookup x=some .local:=by first | exact .inl rfl | exact .inr rfl | assumption):FG X F (.Name x pos) (gNm i):=fg_name (dg_name (pg_name hN hi hx hf))
theorem fcd (hx:XOk X F E) (G:FnOk X.prog X.w X.K X.mg X.base (CXM X.prog X.w) k g fd ps (spF X.K X.mg f)) (D:FD X.K X.mg x st ps g fd) (hr:Room j X.A) (ha:FX X F E (e :: es) mX) (hk:k<=j:=by decide) (hg:Gl X x:=by rfl) (hdb:(x == ("__debug__":Str))=false:=by decide)
  (he:starEach (e :: es) X.env=(false,eval e X.env) :: starEach es X.env:=by rfl) (hpl:(backTo pos (starEach es X.env)).any (·.1)=false:=by rfl):FO X F E (.Call (.Name x p) (e :: es) [] pos) (xCall f mX):=fo_call (do_call hx G (hr.mono hk) hg D.mgf D.fn.kp D.b ha hdb he hpl)
theorem fmd {pl:Sem Bool} (hx:XOk X F E) (cl:Cls X.K C) (G:FnOk X.prog X.w X.K X.mg X.base (CXM X.prog X.w) k g fd ps (spF X.K X.mg f)) (D:MD X.K C m q st ps g fd) (hr:Room j X.A) (hv:PE X (.Name x p1) (tVar i)) (ha:FX X F E (e :: es) mX) (hk:k<=j:=by decide)
  (hst:starEach (e :: es) X.env=(false,eval e X.env) :: starEach es X.env:=by rfl) (hpl:(backTo pos (starEach es X.env)).any (·.1)=false:=by rfl)
  (ht:eval (.Call (.Attribute (.Name x p1) m apos) (e :: es) [] pos) X.env=(do
   let ov <-eval (.Name x p1) X.env
   standAt apos.atName
   let (f,first) <-holding [ov] (getMethod ov m pl)
   callWith pos f first (backTo pos (starEach (e :: es) X.env)) (backToKw pos (keywordEach [] X.env))):=by rfl) :
  FO X F E (.Call (.Attribute (.Name x p1) m apos) (e :: es) [] pos) (xMeth C i m f mX):=fo_meth hx cl D.mt G (hr.mono hk) D.b hv ha hst hpl ht
theorem fmd0 {pl:Sem Bool} (hx:XOk X F E) (cl:Cls X.K C) (G:FnOk X.prog X.w X.K X.mg X.base (CXM X.prog X.w) k g fd ps (spF X.K X.mg f)) (D:MD X.K C m q st ps g fd) (hr:Room j X.A) (hv:PE X (.Name x p1) (tVar i)) (hk:k<=j:=by decide)
  (ht:eval (.Call (.Attribute (.Name x p1) m apos) [] [] pos) X.env=(do
   let ov <-eval (.Name x p1) X.env
   standAt apos.atName
   let (f,first) <-holding [ov] (getMethod ov m pl)
   callWith pos f first (backTo pos (starEach [] X.env)) (backToKw pos (keywordEach [] X.env))):=by rfl) :
  FO X F E (.Call (.Attribute (.Name x p1) m apos) [] [] pos) (xMeth0 C i m f):=fo_meth0 hx cl D.mt G (hr.mono hk) D.b hv ht
end
end L2.L3
namespace HT
open PySem PyProof.Rows
end HT
namespace L2
open PySem PySem.Spec PyProof.Rows
end L2
namespace L2.L3
open PySem PySem.Spec PyProof.Rows
end L2.L3
namespace L2.L3
open PySem PySem.Spec PyProof.Rows
end L2.L3
namespace L2.L3
open PySem PySem.Spec PyProof.Rows
end L2.L3
namespace L2
open PySem PySem.Spec PyProof.Rows
end L2
namespace L2.L3
open PySem PySem.Spec PyProof.Rows
end L2.L3
namespace L2.TS
open PySem PyProof.Rows
section
variable {prog:Program} {w:World} {A:Around} {E:Value->Shared->Prop} {s:Shared} {le:Keyed->Keyed->Bool} {κ:SortKind} {S:Keyed->Prop}
noncomputable def LtOK (prog:Program) (w:World) (A:Around) (E:Value->Shared->Prop) (s:Shared) (le:Keyed->Keyed->Bool) (κ:SortKind) (S:Keyed->Prop):Prop:=
 ∀ x y,S x->S y->∀ (Q:Option Bool->SortSt->Prop) (st:SortSt),kindOf st=κ->Q (some (!le y x)) st->wpS (model prog w) A E s (lt' x y) Q st
theorem wpS_elem {ar:Array Keyed} {i:Nat} {x:Keyed} {Q:Keyed->SortSt->Prop} {st:SortSt} (h:ar[i]? = some x) (q:Q x st):wpS (model prog w) A E s (elem' ar i) Q st:=by
 rw [elem'_eq,h]; exact wpS_pure q
end
end L2.TS
namespace L2.TS
open PySem PyProof.Rows
theorem iteC {p:Prop} [Decidable p] {α:Type} {x x' y y':α} (h1:x=x') (h2:y=y'):(if p then x else y)=if p then x' else y':=by rw [h1,h2]
end L2.TS
namespace L2.TS
open PySem PyProof.Rows
theorem arr_list {α:Type} {a:Array α} {i:Nat}:a[i]? = a.toList[i]?:=by simp
section
variable {prog:Program} {w:World} {A:Around} {E:Value->Shared->Prop} {s:Shared} {le:Keyed->Keyed->Bool} {κ:SortKind} {S:Keyed->Prop} {a b:Array Keyed} {st0:SortSt}
theorem at_ {α:Type} {c:Array α} {i:Nat} (h:i < c.size):∃ x,c[i]? = some x:=⟨c[i],Array.getElem?_eq_getElem h⟩
end
end L2.TS
namespace L2.TS
open PySem PyProof.Rows
end L2.TS
namespace L2.TS
open PySem PyProof.Rows
noncomputable abbrev CA:=Option (Option Nat) × Nat
noncomputable abbrev CD:=Option (Option Nat) × Nat × Nat
noncomputable def cAsc (lo a nr:Nat):StateT SortSt Sem CA:=forIn [a:nr] ((none,a):CA) fun _ c=>do
 let q <-ltAt' (lo + c.2) (lo + c.2 - 1)
 match q with
 | some sm=>if sm=true then pure (.done (none,c.2)) else pure (.yield (none,c.2 + 1))
 | _=>pure (.done (some none,c.2))
noncomputable def cTail (lo n nr:Nat):StateT SortSt Sem (Option Nat):=do
 reverseSlice' lo (lo + n)
 let c <-cAsc lo n nr
 match c.1 with
 | some r=>pure r
 | none=>pure (some c.2)
noncomputable def cDesc (lo n nr:Nat):StateT SortSt Sem CD:=forIn [n:nr] ((none,n,0):CD) fun _ c=>do
 let q <-ltAt' (lo + c.2.1) (lo + c.2.1 - 1)
 match q with
 | some sm=>
  if sm=true then
   if c.2.2 > 0 then do
    reverseSlice' (lo + c.2.1 - (c.2.2 + 1)) (lo + c.2.1)
    pure (.yield (none,c.2.1 + 1,0))
   else pure (.yield (none,c.2.1 + 1,0))
  else do
   let q <-ltAt' (lo + c.2.1 - 1) (lo + c.2.1)
   match q with
   | some lg=>if lg=true then pure (.done (none,c.2.1,c.2.2)) else pure (.yield (none,c.2.1 + 1,c.2.2 + 1))
   | _=>pure (.done (some none,c.2.1,c.2.2))
 | _=>pure (.done (some none,c.2.1,c.2.2))
noncomputable def cDP (lo n nr:Nat):StateT SortSt Sem (Option Nat):=do
 liftM (rule "list.sort.descending-run")
 let c <-cDesc lo (n + 1) nr
 match c.1 with
 | some r=>pure r
 | none=>
  if c.2.2 > 0 then do
   reverseSlice' (lo + c.2.1 - (c.2.2 + 1)) (lo + c.2.1)
   cTail lo c.2.1 nr
  else cTail lo c.2.1 nr
theorem cRun_eq (lo nr:Nat):countRun' lo nr=(do
  let c <-cAsc lo 1 nr
  match c.1 with
  | some r=>pure r
  | none=>
   if (c.2 == nr)=true then pure (some c.2)
   else if c.2 > 1 then do
    let q <-ltAt' lo (lo + c.2 - 1)
    match q with
    | some ro=>if ro=true then pure (some c.2) else do
      reverseSlice' lo (lo + c.2)
      cDP lo c.2 nr
    | _=>pure none
   else cDP lo c.2 nr):=by
 rw [countRun'_eq]
 have hT:∀ n:Nat,cTail lo n nr=(do
   reverseSlice' lo (lo + n)
   let c <-cAsc lo n nr
   match c.1 with
   | some r=>pure r
   | none=>pure (some c.2)):=fun _=>rfl
 refine bind_congr fun c=>?_
 obtain ⟨_ | r,n⟩:=c
 ·dsimp only
  refine iteC rfl (iteC (bind_congr fun q=>?_) ?_)
  ·cases q with
   | none=>rfl
   | some ro=>
    refine iteC rfl (bind_congr fun _=>?_)
    unfold cDP
    refine bind_congr fun _=>bind_congr fun d=>?_
    obtain ⟨_ | r,m,nq⟩:=d
    ·dsimp only
     unfold cTail
     refine iteC (bind_congr fun _=>bind_congr fun _=>bind_congr fun e=>?_) (bind_congr fun _=>bind_congr fun e=>?_) <;> (obtain ⟨_ | r,e⟩:=e <;> rfl)
    ·rfl
  ·unfold cDP
   refine bind_congr fun _=>bind_congr fun d=>?_
   obtain ⟨_ | r,m,nq⟩:=d
   ·dsimp only
    unfold cTail
    refine iteC (bind_congr fun _=>bind_congr fun _=>bind_congr fun e=>?_) (bind_congr fun _=>bind_congr fun e=>?_) <;> (obtain ⟨_ | r,e⟩:=e <;> rfl)
   ·rfl
 ·rfl
structure Bs (κ:SortKind) (S:Keyed->Prop) (lo:Nat) (st0 st:SortSt):Prop where
 perm:(arrOf st).Perm (arrOf st0)
 kind:kindOf st=κ
 failed:failedOf st=none
 pend:pendingOf st=pendingOf st0
 keep:∀ k,k < lo->(arrOf st)[k]? = (arrOf st0)[k]?
 mem:∀ x ∈ (arrOf st0).toList,S x
section
variable {prog:Program} {w:World} {A:Around} {E:Value->Shared->Prop} {s:Shared} {le:Keyed->Keyed->Bool} {κ:SortKind} {S:Keyed->Prop} {lo:Nat} {st0 st:SortSt}
theorem Bs.size (h:Bs κ S lo st0 st):(arrOf st).size=(arrOf st0).size:=h.perm.size_eq
theorem Bs.at (h:Bs κ S lo st0 st) {i:Nat} (hi:i < (arrOf st0).size):∃ x,(arrOf st)[i]? = some x/\S x:=by
 obtain ⟨x,hx⟩:=at_ (c:=arrOf st) (i:=i) (by rw [h.size]; exact hi)
 refine ⟨x,hx,h.mem x ((Array.perm_iff_toList_perm.mp h.perm).mem_iff.mp ?_)⟩
 rw [arr_list] at hx
 exact List.mem_of_getElem? hx
theorem Bs.setArr (h:Bs κ S lo st0 st) {xs:Array Keyed} (hp:xs.Perm (arrOf st)) (hk:∀ k,k < lo->xs[k]? = (arrOf st)[k]?):Bs κ S lo st0 (setArr st xs):=
 ⟨hp.trans h.perm,h.kind,h.failed,h.pend,fun k q=>(hk k q).trans (h.keep k q),h.mem⟩
theorem wpS_ltI (hL:LtOK prog w A E s le κ S) (hB:Bs κ S lo st0 st) {i j:Nat} {Q:Option Bool->SortSt->Prop} (hi:i < (arrOf st0).size) (hj:j < (arrOf st0).size)
  (h:∀ x y,(arrOf st)[i]? = some x->(arrOf st)[j]? = some y->Q (some (!le y x)) st):wpS (model prog w) A E s (ltAt' i j) Q st:=by
 obtain ⟨x,hx,sx⟩:=hB.at hi
 obtain ⟨y,hy,sy⟩:=hB.at hj
 rw [ltAt'_eq]
 refine wpS_bind (wpS_get ?_)
 exact wpS_bind (wpS_elem hx (wpS_bind (wpS_elem hy (hL x y sx sy Q st hB.kind (h x y hx hy)))))
theorem wpS_rev {i j:Nat} {Q:Unit->SortSt->Prop} (h:Q () (setArr st (mirror (arrOf st) i j ((j - i) / 2)))):wpS (model prog w) A E s (reverseSlice' i j) Q st:=by
 rw [reverseSlice'_eq]; exact wpS_modify h
noncomputable def Asc (le:Keyed->Keyed->Bool) (xs:Array Keyed) (lo n:Nat):Prop:=∀ (i j:Nat) (x y:Keyed),i<=j->j < n->xs[lo + i]? = some x->xs[lo + j]? = some y->le x y=true
noncomputable def Dsc (le:Keyed->Keyed->Bool) (xs:Array Keyed) (lo n:Nat):Prop:=∀ (i j:Nat) (x y:Keyed),i<=j->j < n->xs[lo + i]? = some x->xs[lo + j]? = some y->le y x=true
theorem mirror_keep {xs:Array Keyed} {i j k:Nat} (hj:j<=xs.size) (hk:k < i):(mirror xs i j ((j - i) / 2))[k]? = xs[k]?:=by rw [getElem?_mirror_all hj,if_neg (by omega)]
theorem more {R:Keyed->Keyed->Prop} (tr:∀ x y z,R x y->R y z->R x z) (rf:∀ x,R x x) {xs:Array Keyed} {lo n:Nat} (hn:0 < n)
  (h:∀ (i j:Nat) (x y:Keyed),i<=j->j < n->xs[lo + i]? = some x->xs[lo + j]? = some y->R x y) (h1:∀ x y,xs[lo + (n - 1)]? = some x->xs[lo + n]? = some y->R x y) :
  ∀ (i j:Nat) (x y:Keyed),i<=j->j < n + 1->xs[lo + i]? = some x->xs[lo + j]? = some y->R x y:=fun i j x y hij hj hx hy=>by
 by_cases hjn:j < n
 ·exact h i j x y hij hjn hx hy
 ·obtain rfl:j=n:=by omega
  by_cases hi:i=j
  ·subst hi; rw [hx] at hy; cases hy; exact rf x
  ·have hlt:lo + j < xs.size:=by
    rcases Nat.lt_or_ge (lo + j) xs.size with q | q
    ·exact q
    ·rw [Array.getElem?_eq_none q] at hy; cases hy
   obtain ⟨z,hz⟩:=at_ (c:=xs) (i:=lo + (j - 1)) (by omega)
   exact tr _ _ _ (h i (j - 1) x z (by omega) (by omega) hx hz) (h1 z y hz hy)
variable (hL:LtOK prog w A E s le κ S) (tr:∀ x y z,le x y=true->le y z=true->le x z=true) (tt:∀ x y,(le x y || le y x)=true)
include tt in
theorem le_rf (x:Keyed):le x x=true:=by simpa using tt x x
include tt in
theorem le_of_not {x y:Keyed} (h:le x y=false):le y x=true:=by have:=tt x y; rw [h] at this; simpa using this
include hL tr tt
theorem wpS_cAsc {a nr:Nat} {Q:CA->SortSt->Prop} (hn:lo + nr<=(arrOf st0).size) (ha:1<=a) (han:a<=nr) (hB:Bs κ S lo st0 st) (hs:Asc le (arrOf st) lo a)
  (h:∀ n,a<=n->n<=nr->Asc le (arrOf st) lo n->(n=nr\/∀ x y,(arrOf st)[lo + (n - 1)]? = some x->(arrOf st)[lo + n]? = some y->le x y=false)->Q (none,n) st) :
  wpS (model prog w) A E s (cAsc lo a nr) Q st:=by
 unfold cAsc
 refine wpS_forRange (I:=fun x c st'=>st' = st/\c=(none,x)/\Asc le (arrOf st) lo x) ?_ ?_ ⟨rfl,rfl,hs⟩
 ·rintro x c st' hax hxn ⟨rfl,rfl,hs'⟩
  dsimp only
  refine wpS_bind (wpS_ltI hL hB (by omega) (by omega) fun u v hu hv=>?_)
  rw [show lo + x - 1=lo + (x - 1) by omega] at hv
  cases e:le v u with
  | false=>
   simp only [Bool.not_false,if_true]
   exact wpS_pure (h x hax (by omega) hs' (.inr fun p q hp hq=>by rw [hp] at hv; rw [hq] at hu; cases hv; cases hu; exact e))
  | true=>
   simp only [Bool.not_true,Bool.false_eq_true,if_false]
   exact wpS_pure ⟨rfl,rfl,more tr (le_rf tt) (by omega) hs' fun p q hp hq=>by rw [hp] at hv; rw [hq] at hu; cases hv; cases hu; exact e⟩
 ·rintro c st' ⟨rfl,rfl,hs'⟩
  rw [show max a nr=nr by omega] at hs' ⊢
  exact h nr han (Nat.le_refl _) hs' (.inl rfl)
theorem wpS_cTail {n nr:Nat} {Q:Option Nat->SortSt->Prop} (hn:lo + nr<=(arrOf st0).size) (h1:1<=n) (hnn:n<=nr) (hB:Bs κ S lo st0 st) (hs:Dsc le (arrOf st) lo n)
  (h:∀ m st',Bs κ S lo st0 st'->1<=m->m<=nr->Asc le (arrOf st') lo m->Q (some m) st'):wpS (model prog w) A E s (cTail lo n nr) Q st:=by
 unfold cTail
 have hsz:lo + n<=(arrOf st).size:=by rw [hB.size]; omega
 refine wpS_bind (wpS_rev ?_)
 have hB':=hB.setArr (mirror_perm (arrOf st) lo (lo + n) ((lo + n - lo) / 2)) fun k hk=>mirror_keep hsz hk
 refine wpS_bind (wpS_cAsc hL tr tt hn h1 hnn hB' (fun i j x y hij hj hx hy=>?_) fun m hm1 hm2 hsm _=>wpS_pure (h m _ hB' (by omega) hm2 hsm))
 have hx':(mirror (arrOf st) lo (lo + n) ((lo + n - lo) / 2))[lo + i]? = some x:=hx
 have hy':(mirror (arrOf st) lo (lo + n) ((lo + n - lo) / 2))[lo + j]? = some y:=hy
 rw [getElem?_mirror_all hsz,if_pos (by omega)] at hx' hy'
 rw [show lo + (lo + n) - 1 - (lo + i)=lo + (n - 1 - i) by omega] at hx'
 rw [show lo + (lo + n) - 1 - (lo + j)=lo + (n - 1 - j) by omega] at hy'
 exact hs (n - 1 - j) (n - 1 - i) y x (by omega) (by omega) hy' hx'
noncomputable def Eqs (le:Keyed->Keyed->Bool) (xs:Array Keyed) (lo m q:Nat):Prop:=∀ (i j:Nat) (x y:Keyed),m - (q + 1)<=i->i < m->m - (q + 1)<=j->j < m->xs[lo + i]? = some x->xs[lo + j]? = some y->le x y=true
omit hL tr tt in
theorem Dsc.mir {xs:Array Keyed} {m q:Nat} (hq:q + 1<=m) (hsz:lo + m<=xs.size) (hs:Dsc le xs lo m) (he:Eqs le xs lo m q):Dsc le (mirror xs (lo + m - (q + 1)) (lo + m) ((lo + m - (lo + m - (q + 1))) / 2)) lo m:=fun i j x y hij hj hx hy=>by
 rw [getElem?_mirror_all hsz] at hx hy
 by_cases hi:m - (q + 1)<=i
 ·rw [if_pos (by omega)] at hx
  rw [if_pos (by omega)] at hy
  rw [show lo + m - (q + 1) + (lo + m) - 1 - (lo + i)=lo + (m - (q + 1) + m - 1 - i) by omega] at hx
  rw [show lo + m - (q + 1) + (lo + m) - 1 - (lo + j)=lo + (m - (q + 1) + m - 1 - j) by omega] at hy
  exact he _ _ y x (by omega) (by omega) (by omega) (by omega) hy hx
 ·rw [if_neg (by omega)] at hx
  by_cases hj2:m - (q + 1)<=j
  ·rw [if_pos (by omega)] at hy
   rw [show lo + m - (q + 1) + (lo + m) - 1 - (lo + j)=lo + (m - (q + 1) + m - 1 - j) by omega] at hy
   exact hs i _ x y (by omega) (by omega) hx hy
  ·rw [if_neg (by omega)] at hy
   exact hs i j x y hij hj hx hy
theorem wpS_cDesc {n nr:Nat} {Q:CD->SortSt->Prop} (hn:lo + nr<=(arrOf st0).size) (h1:1<=n) (hnn:n<=nr) (hB:Bs κ S lo st0 st) (hs:Dsc le (arrOf st) lo n)
  (h:∀ m q st',Bs κ S lo st0 st'->n<=m->m<=nr->Dsc le (arrOf st') lo m->q + 1<=m->Eqs le (arrOf st') lo m q->Q (none,m,q) st'):wpS (model prog w) A E s (cDesc lo n nr) Q st:=by
 unfold cDesc
 have one:∀ (xs:Array Keyed) (m:Nat),Eqs le xs lo m 0:=fun xs m i j x y a1 a2 a3 a4 hx hy=>by
  obtain rfl:i=j:=by omega
  rw [hx] at hy; cases hy; exact le_rf tt x
 refine wpS_forRange (I:=fun x c st'=>∃ q,c=(none,x,q)/\Bs κ S lo st0 st'/\Dsc le (arrOf st') lo x/\q + 1<=x/\Eqs le (arrOf st') lo x q) ?_ ?_ ⟨0,rfl,hB,hs,by omega,one _ _⟩
 ·rintro x c st' hax hxn ⟨q,rfl,hB',hs',hq,he⟩
  dsimp only
  have hsz:lo + x<=(arrOf st').size:=by rw [hB'.size]; omega
  refine wpS_bind (wpS_ltI hL hB' (by omega) (by omega) fun u v hu hv=>?_)
  rw [show lo + x - 1=lo + (x - 1) by omega] at hv
  cases e:le v u with
  | false=>
   simp only [Bool.not_false,if_true]
   have hx1:∀ xs:Array Keyed,Dsc le xs lo x->(∀ y,xs[lo + (x - 1)]? = some y->le u y=true)->xs[lo + x]? = some u->Dsc le xs lo (x + 1):=fun xs hd h1 h2=>
    more (R:=fun a b=>le b a=true) (fun a b c h1 h2=>tr _ _ _ h2 h1) (le_rf tt) (by omega) hd fun p r hp hr=>by rw [h2] at hr; cases hr; exact h1 p hp
   have hvu:le u v=true:=le_of_not tt e
   by_cases hq0:q > 0
   ·rw [if_pos hq0]
    refine wpS_bind (wpS_rev (wpS_pure ⟨0,rfl,hB'.setArr (mirror_perm _ _ _ _) fun k hk=>mirror_keep (by omega) (by omega),?_,by omega,one _ _⟩))
    refine hx1 _ (hs'.mir hq hsz he) (fun y hy=>?_) ?_
    ·have hy':(mirror (arrOf st') (lo + x - (q + 1)) (lo + x) ((lo + x - (lo + x - (q + 1))) / 2))[lo + (x - 1)]? = some y:=hy
     rw [getElem?_mirror_all hsz,if_pos (by omega),show lo + x - (q + 1) + (lo + x) - 1 - (lo + (x - 1))=lo + (x - (q + 1)) by omega] at hy'
     exact tr _ _ _ hvu (he (x - 1) (x - (q + 1)) v y (by omega) (by omega) (by omega) (by omega) hv hy')
    ·show (mirror (arrOf st') (lo + x - (q + 1)) (lo + x) ((lo + x - (lo + x - (q + 1))) / 2))[lo + x]? = some u
     rw [getElem?_mirror_all hsz,if_neg (by omega)]; exact hu
   ·rw [if_neg hq0]
    exact wpS_pure ⟨0,rfl,hB',hx1 _ hs' (fun y hy=>by rw [hv] at hy; cases hy; exact hvu) hu,by omega,one _ _⟩
  | true=>
   simp only [Bool.not_true,Bool.false_eq_true,if_false]
   refine wpS_bind (wpS_ltI hL hB' (by omega) (by omega) fun v' u' hv' hu'=>?_)
   rw [show lo + x - 1=lo + (x - 1) by omega] at hv'
   rw [hv] at hv'; cases hv'
   rw [hu] at hu'; cases hu'
   cases e2:le u v with
   | false=>
    simp only [Bool.not_false,if_true]
    exact wpS_pure (h x q st' hB' hax (by omega) hs' hq he)
   | true=>
    simp only [Bool.not_true,Bool.false_eq_true,if_false]
    refine wpS_pure ⟨q + 1,rfl,hB',more (R:=fun a b=>le b a=true) (fun a b c h1 h2=>tr _ _ _ h2 h1) (le_rf tt) (by omega) hs' (fun p r hp hr=>by rw [hv] at hp; rw [hu] at hr; cases hp; cases hr; exact e2),by omega,fun i j p r a1 a2 a3 a4 hp hr=>?_⟩
    have hl:∀ (i:Nat) (p:Keyed),x + 1 - (q + 1 + 1)<=i->i < x + 1->(arrOf st')[lo + i]? = some p->le p v=true/\le v p=true:=fun i p b1 b2 hp=>by
     by_cases hi:i=x
     ·subst hi; rw [hu] at hp; cases hp; exact ⟨e2,e⟩
     ·exact ⟨he i (x - 1) p v (by omega) (by omega) (by omega) (by omega) hp hv,he (x - 1) i v p (by omega) (by omega) (by omega) (by omega) hv hp⟩
    exact tr _ _ _ (hl i p a1 a2 hp).1 (hl j r a3 a4 hr).2
 ·rintro c st' ⟨q,rfl,hB',hs',hq,he⟩
  rw [show max n nr=nr by omega] at hs' hq he ⊢
  exact h nr q st' hB' hnn (Nat.le_refl _) hs' hq he
theorem wpS_cDP {n nr:Nat} {Q:Option Nat->SortSt->Prop} (hn:lo + nr<=(arrOf st0).size) (hnn:n + 1<=nr) (hB:Bs κ S lo st0 st) (hs:Dsc le (arrOf st) lo (n + 1))
  (h:∀ m st',Bs κ S lo st0 st'->1<=m->m<=nr->Asc le (arrOf st') lo m->Q (some m) st'):wpS (model prog w) A E s (cDP lo n nr) Q st:=by
 unfold cDP
 refine wpS_bind (wpS_lift (wpAny_rule ⟨rfl,?_⟩))
 refine wpS_bind (wpS_cDesc hL tr tt hn (by omega) hnn hB hs fun m q st' hB' hm1 hm2 hs' hq he=>?_)
 dsimp only
 have hsz:lo + m<=(arrOf st').size:=by rw [hB'.size]; omega
 by_cases hq0:q > 0
 ·rw [if_pos hq0]
  exact wpS_bind (wpS_rev (wpS_cTail hL tr tt hn (by omega) hm2 (hB'.setArr (mirror_perm _ _ _ _) fun k hk=>mirror_keep hsz (by omega)) (hs'.mir hq hsz he) h))
 ·rw [if_neg hq0]
  exact wpS_cTail hL tr tt hn (by omega) hm2 hB' hs' h
theorem wpS_cRun {nr:Nat} {Q:Option Nat->SortSt->Prop} (hn:lo + nr<=(arrOf st0).size) (h1:1<=nr) (hB:Bs κ S lo st0 st)
  (h:∀ m st',Bs κ S lo st0 st'->1<=m->m<=nr->Asc le (arrOf st') lo m->Q (some m) st'):wpS (model prog w) A E s (countRun' lo nr) Q st:=by
 rw [cRun_eq]
 refine wpS_bind (wpS_cAsc hL tr tt hn (Nat.le_refl 1) h1 hB (fun i j x y hij hj hx hy=>by
  obtain rfl:i=j:=by omega
  rw [hx] at hy; cases hy; exact le_rf tt x) fun n hn1 hn2 hsn hor=>?_)
 dsimp only
 by_cases hnn:n=nr
 ·rw [if_pos (by simpa using hnn)]
  exact wpS_pure (h n st hB hn1 hn2 hsn)
 ·rw [if_neg (by simpa using hnn)]
  have hlt:=hor.resolve_left hnn
  by_cases hgt:n > 1
  ·rw [if_pos hgt]
   refine wpS_bind (wpS_ltI hL hB (by omega) (by omega) fun u v hu hv=>?_)
   rw [show lo + n - 1=lo + (n - 1) by omega] at hv
   cases e:le v u with
   | false=>
    simp only [Bool.not_false,if_true]
    exact wpS_pure (h n st hB hn1 hn2 hsn)
   | true=>
    simp only [Bool.not_true,Bool.false_eq_true,if_false]
    have hsz:lo + n<=(arrOf st).size:=by rw [hB.size]; omega
    have hall:∀ (i j:Nat) (x y:Keyed),i < n->j < n->(arrOf st)[lo + i]? = some x->(arrOf st)[lo + j]? = some y->le x y=true:=fun i j x y hi hj hx hy=>
     tr _ _ _ (hsn i (n - 1) x v (by omega) (by omega) hx hv) (tr _ _ _ e (hsn 0 j u y (by omega) hj (by simpa using hu) hy))
    refine wpS_bind (wpS_rev (wpS_cDP hL tr tt hn (by omega) (hB.setArr (mirror_perm _ _ _ _) fun k hk=>mirror_keep hsz hk) ?_ h))
    have hin:∀ (i:Nat) (x:Keyed),i < n->(mirror (arrOf st) lo (lo + n) ((lo + n - lo) / 2))[lo + i]? = some x->∃ j,j < n/\(arrOf st)[lo + j]? = some x:=fun i x hi hx=>by
     rw [getElem?_mirror_all hsz,if_pos (by omega),show lo + (lo + n) - 1 - (lo + i)=lo + (n - 1 - i) by omega] at hx
     exact ⟨_,by omega,hx⟩
    refine more (R:=fun a b=>le b a=true) (fun a b c h1 h2=>tr _ _ _ h2 h1) (le_rf tt) (by omega) (fun i j x y hij hj hx hy=>?_) fun x y hx hy=>?_
    ·obtain ⟨i',hi',q1⟩:=hin i x (by omega) hx
     obtain ⟨j',hj',q2⟩:=hin j y hj hy
     exact hall j' i' y x hj' hi' q2 q1
    ·obtain ⟨i',hi',q1⟩:=hin (n - 1) x (by omega) hx
     have hy':(mirror (arrOf st) lo (lo + n) ((lo + n - lo) / 2))[lo + n]? = some y:=hy
     rw [getElem?_mirror_all hsz,if_neg (by omega)] at hy'
     exact tr _ _ _ (le_of_not tt (hlt v y hv hy')) (hall (n - 1) i' v x (by omega) hi' hv q1)
  ·rw [if_neg hgt]
   obtain rfl:n=1:=by omega
   refine wpS_cDP hL tr tt hn (by omega) hB ?_ h
   refine more (R:=fun a b=>le b a=true) (fun a b c h1 h2=>tr _ _ _ h2 h1) (le_rf tt) (by omega) (fun i j x y hij hj hx hy=>?_) fun x y hx hy=>le_of_not tt (hlt x y hx hy)
   obtain rfl:i=j:=by omega
   rw [hx] at hy; cases hy; exact le_rf tt x
theorem wpS_bin {n ok:Nat} {Q:Bool->SortSt->Prop} (hn:lo + n<=(arrOf st0).size) (hok:ok<=n) (hB:Bs κ S lo st0 st) (hs:Asc le (arrOf st) lo ok)
  (h:∀ st',Bs κ S lo st0 st'->Asc le (arrOf st') lo n->Q true st'):wpS (model prog w) A E s (binarySort' lo n ok) Q st:=by
 rw [binarySort'_eq]
 refine wpS_bind (wpS_mono (wpS_forRange (I:=fun k c st'=>c=(none,())/\Bs κ S lo st0 st'/\Asc le (arrOf st') lo (min k n))
  (Q:=fun c st'=>c=(none,())/\Bs κ S lo st0 st'/\Asc le (arrOf st') lo n) ?_ ?_ ?_) ?_)
 ·rintro k c st' hak hkn ⟨rfl,hB',hs'⟩
  rw [show min k n=k by omega] at hs'
  obtain ⟨u,hu,su⟩:=hB'.at (i:=lo + k) (by omega)
  dsimp only
  refine wpS_bind (wpS_mono (wpS_forRange (I:=fun x c st''=>st'' = st'/\∃ l r,c=(none,l,r)/\l<=r/\r<=k/\r - l<=k - x/\
    (∀ (i:Nat) (y:Keyed),i < l->(arrOf st')[lo + i]? = some y->le y u=true)/\(∀ (i:Nat) (y:Keyed),r<=i->i < k->(arrOf st')[lo + i]? = some y->le y u=false))
   (Q:=fun c st''=>st'' = st'/\∃ l r,c=(none,l,r)/\l<=k/\
    (∀ (i:Nat) (y:Keyed),i < l->(arrOf st')[lo + i]? = some y->le y u=true)/\(∀ (i:Nat) (y:Keyed),l<=i->i < k->(arrOf st')[lo + i]? = some y->le y u=false)) ?_ ?_ ?_) ?_)
  ·rintro x c st'' _ hxk ⟨rfl,l,r,rfl,hlr,hrk,hm,hlo,hhi⟩
   dsimp only
   by_cases hge:l ≥ r
   ·rw [if_pos hge]
    obtain rfl:l=r:=by omega
    exact wpS_pure ⟨rfl,l,l,rfl,hrk,hlo,hhi⟩
   ·rw [if_neg hge]
    refine wpS_bind (wpS_ltI hL hB' (by omega) (by omega) fun u' v hu' hv=>?_)
    rw [hu] at hu'; cases hu'
    cases e:le v u with
    | false=>
     simp only [Bool.not_false,if_true]
     refine wpS_pure ⟨rfl,l,(l + r) / 2,rfl,by omega,by omega,by omega,hlo,fun i y h1 h2 hy=>?_⟩
     cases e2:le y u with
     | false=>rfl
     | true=>rw [tr _ _ _ (hs' _ _ v y h1 h2 hv hy) e2] at e; cases e
    | true=>
     simp only [Bool.not_true,Bool.false_eq_true,if_false]
     exact wpS_pure ⟨rfl,(l + r) / 2 + 1,r,rfl,by omega,by omega,by omega,fun i y h1 hy=>tr _ _ _ (hs' i ((l + r) / 2) y v (by omega) (by omega) hy hv) e,hhi⟩
  ·rintro c st'' ⟨rfl,l,r,rfl,hlr,hrk,hm,hlo,hhi⟩
   obtain rfl:l=r:=by omega
   exact ⟨rfl,l,l,rfl,hrk,hlo,hhi⟩
  ·exact ⟨rfl,0,k,rfl,by omega,by omega,by omega,fun i y hi=>by omega,fun i y h1 h2=>by omega⟩
  ·rintro c st'' ⟨rfl,l,r,rfl,hlk,hlo,hhi⟩
   show wpS _ _ _ _ (do moveDown' (lo + k) (lo + l); pure (ForInStep.yield (none,()))) _ _
   rw [moveDown'_eq]
   have hks:lo + k < (arrOf st'').size:=by rw [hB'.size]; omega
   have gb:=fun j=>getElem?_bubble (xs:=arrOf st'') hks (lo + k - (lo + l)) (by omega) j
   refine wpS_bind (wpS_modify (wpS_pure ⟨rfl,hB'.setArr (bubble_perm _ _ _) (fun j hj=>by rw [gb,if_neg (by omega),if_neg (by omega)]),?_⟩))
   rw [show min (k + 1) n=k + 1 by omega]
   intro i j x y hij hj hx hy
   have hx':(bubble (arrOf st'') (lo + k) (lo + k - (lo + l)))[lo + i]? = some x:=hx
   have hy':(bubble (arrOf st'') (lo + k) (lo + k - (lo + l)))[lo + j]? = some y:=hy
   rw [gb] at hx' hy'
   have cs:∀ (i:Nat) (x:Keyed),i < k + 1->(if lo + i=lo + k - (lo + k - (lo + l)) then (arrOf st'')[lo + k]? else if lo + k - (lo + k - (lo + l)) < lo + i/\lo + i<=lo + k then (arrOf st'')[lo + i - 1]? else (arrOf st'')[lo + i]?)=some x->
     (i=l/\x=u)\/(l < i/\(arrOf st'')[lo + (i - 1)]? = some x)\/(i < l/\(arrOf st'')[lo + i]? = some x):=fun i x hi h=>by
    split at h
    ·rw [hu] at h; cases h; exact .inl ⟨by omega,rfl⟩
    ·split at h
     ·rw [show lo + i - 1=lo + (i - 1) by omega] at h; exact .inr (.inl ⟨by omega,h⟩)
     ·exact .inr (.inr ⟨by omega,h⟩)
   rcases cs i x (by omega) hx' with ⟨e1,rfl⟩ | ⟨e1,q1⟩ | ⟨e1,q1⟩ <;> rcases cs j y (by omega) hy' with ⟨e2,rfl⟩ | ⟨e2,q2⟩ | ⟨e2,q2⟩
   ·exact le_rf tt _
   ·exact le_of_not tt (hhi (j - 1) y (by omega) (by omega) q2)
   ·omega
   ·omega
   ·exact hs' (i - 1) (j - 1) x y (by omega) (by omega) q1 q2
   ·omega
   ·exact hlo i x e1 q1
   ·exact hs' i (j - 1) x y (by omega) (by omega) q1 q2
   ·exact hs' i j x y hij (by omega) q1 q2
 ·rintro c st' ⟨hc,hB',hs'⟩
  refine ⟨hc,hB',?_⟩
  rwa [show min (max (max ok 1) n) n=n by omega] at hs'
 ·refine ⟨rfl,hB,fun i j x y hij hj hx hy=>?_⟩
  by_cases h1:ok=0
  ·obtain rfl:i=j:=by omega
   rw [hx] at hy; cases hy; exact le_rf tt x
  ·exact hs i j x y hij (by omega) hx hy
 ·rintro c st' ⟨rfl,hB',hs'⟩
  exact wpS_pure (h st' hB' hs')
end
end L2.TS
namespace L2.TS
open PySem PyProof.Rows
end L2.TS
namespace L2.TS
open PySem PyProof.Rows
end L2.TS
namespace L2.TS
open PySem PyProof.Rows
theorem lex_irr:∀ xs:List Int,HT.lexLt xs xs=false
 | []=>rfl
 | x :: xs=>by rw [HT.lexLt_cons,if_pos rfl]; exact lex_irr xs
theorem lex_tr:∀ {xs ys zs:List Int},HT.lexLt xs ys=true->HT.lexLt ys zs=true->HT.lexLt xs zs=true
 | [],[],_,h,_=>by cases h
 | [],y :: ys,[],_,h=>by cases h
 | [],_ :: _,_ :: _,_,_=>rfl
 | x :: xs,[],_,h,_=>by cases h
 | x :: xs,y :: ys,[],_,h=>by cases h
 | x :: xs,y :: ys,z :: zs,h1,h2=>by
  rw [HT.lexLt_cons] at h1 h2 ⊢
  by_cases e1:x=y
  ·subst e1
   rw [if_pos rfl] at h1
   by_cases e2:x=z
   ·subst e2; rw [if_pos rfl] at h2 ⊢; exact lex_tr h1 h2
   ·rw [if_neg e2] at h2 ⊢; exact h2
  ·rw [if_neg e1] at h1
   by_cases e2:y=z
   ·subst e2; rw [if_neg e1]; exact h1
   ·rw [if_neg e2] at h2
    have h1':=of_decide_eq_true h1
    have h2':=of_decide_eq_true h2
    rw [if_neg (by omega)]
    exact decide_eq_true (by omega)
theorem lex_tot:∀ {xs ys:List Int},HT.lexLt xs ys=false->HT.lexLt ys xs=false->xs=ys
 | [],[],_,_=>rfl
 | [],_ :: _,h,_=>by cases h
 | _ :: _,[],_,h=>by cases h
 | x :: xs,y :: ys,h1,h2=>by
  rw [HT.lexLt_cons] at h1 h2
  by_cases e:x=y
  ·subst e; rw [if_pos rfl] at h1 h2; rw [lex_tot h1 h2]
  ·rw [if_neg e] at h1
   rw [if_neg (Ne.symm e)] at h2
   have h1':=of_decide_eq_false h1
   have h2':=of_decide_eq_false h2
   omega
noncomputable def lexLe (xs ys:List Int):Bool:=!HT.lexLt ys xs
theorem lexLe_tr (xs ys zs:List Int) (h1:lexLe xs ys=true) (h2:lexLe ys zs=true):lexLe xs zs=true:=by
 unfold lexLe at *
 simp only [Bool.not_eq_true'] at *
 cases e:HT.lexLt zs xs with
 | false=>rfl
 | true=>
  cases e2:HT.lexLt xs ys with
  | true=>rw [lex_tr e e2] at h2; cases h2
  | false=>rw [lex_tot e2 h1] at e; rw [e] at h2; cases h2
theorem lexLe_tt (xs ys:List Int):(lexLe xs ys || lexLe ys xs)=true:=by
 unfold lexLe
 cases e:HT.lexLt ys xs with
 | false=>rfl
 | true=>
  cases e2:HT.lexLt xs ys with
  | false=>rfl
  | true=>have:=lex_tr e e2; rw [lex_irr] at this; cases this
theorem lexLe_as {xs ys:List Int} (h1:lexLe xs ys=true) (h2:lexLe ys xs=true):xs=ys:=by
 unfold lexLe at *
 simp only [Bool.not_eq_true'] at *
 exact lex_tot h2 h1
noncomputable def sortR (rows:List (List Int)):List (List Int):=rows.mergeSort lexLe
theorem sortR_of {rows out:List (List Int)} (h1:out.Perm rows) (h2:out.Pairwise fun x y=>lexLe x y=true):out=sortR rows:=
 List.Perm.eq_of_pairwise (fun a b _ _ p q=>lexLe_as p q) h2 (List.pairwise_mergeSort lexLe_tr lexLe_tt rows) (h1.trans (List.mergeSort_perm rows lexLe).symm)
theorem wpS_runsS {prog:Program} {w:World} {A:Around} {E:Value->Shared->Prop} {s:Shared} {le:Keyed->Keyed->Bool} {κ:SortKind} {a₀:List Keyed} {st:SortSt} {Q:Unit->SortSt->Prop} (hL:LtOK prog w A E s le κ (· ∈ a₀)) (tr:∀ x y z,le x y=true->le y z=true->le x z=true) (tt:∀ x y,(le x y || le y x)=true)
  (l2:2<=a₀.length) (l64:a₀.length < 64) (hk:kindOf st=κ) (hf:failedOf st=none) (hp:pendingOf st = #[]) (ha:(arrOf st).toList=a₀)
  (h:∀ st',failedOf st' = none->(arrOf st').toList.Perm a₀->(arrOf st').toList.Pairwise (fun x y=>le x y=true)->Q () st'):wpS (model prog w) A E s sortRuns' Q st:=by
 rw [sortRuns'_eq]
 refine wpS_bind (wpS_get ?_)
 have z0:(arrOf st).size=a₀.length:=by rw [<-ha]; simp
 have mr:minRun' a₀.length a₀.length 0=a₀.length:=by
  have go:∀ q,1<=q->q < 64->minRun' q q 0=q:=fun q h1 h2=>by
   cases q with
   | zero=>omega
   | succ q=>rw [minRun'_succ,if_pos h2,Nat.add_zero]
  exact go _ (by omega) l64
 have B0:Bs κ (· ∈ a₀) 0 st st:=⟨Array.Perm.refl _,hk,hf,rfl,fun _ _=>rfl,fun x hx=>by rw [<-ha]; exact hx⟩
 have dn:∀ t,Bs κ (· ∈ a₀) 0 st t->Asc le (arrOf t) 0 a₀.length->failedOf (setPending t ((pendingOf t).push (0,a₀.length,0)))=none/\(arrOf (setPending t ((pendingOf t).push (0,a₀.length,0)))).toList.Perm a₀/\(arrOf (setPending t ((pendingOf t).push (0,a₀.length,0)))).toList.Pairwise (fun x y=>le x y=true)/\(pendingOf (setPending t ((pendingOf t).push (0,a₀.length,0)))).size=1:=fun t B s1=>by
  refine ⟨B.failed,?_,?_,?_⟩
  ·have:=Array.perm_iff_toList_perm.mp B.perm
   rw [ha] at this; exact this
  ·rw [List.pairwise_iff_getElem]
   intro i j hi hj hij
   have zt:=B.size.trans z0
   have hj':j < (arrOf t).size:=by rw [<-Array.length_toList]; exact hj
   refine s1 i j _ _ (by omega) (by omega) ?_ ?_
   ·rw [Nat.zero_add,arr_list,List.getElem?_eq_getElem]
   ·rw [Nat.zero_add,arr_list,List.getElem?_eq_getElem]
  ·show ((pendingOf t).push _).size=1
   rw [B.pend,hp]; rfl
 simp only [z0,mr]
 refine wpS_bind (wpS_mono (wpS_forRange (I:=fun x c t=>(c=(none,0)/\x=0/\t=st)\/(c=(none,a₀.length)/\0 < x/\failedOf t=none/\(arrOf t).toList.Perm a₀/\(arrOf t).toList.Pairwise (fun x y=>le x y=true)/\(pendingOf t).size=1))
  (Q:=fun c t=>c=(none,a₀.length)/\failedOf t=none/\(arrOf t).toList.Perm a₀/\(arrOf t).toList.Pairwise (fun x y=>le x y=true)/\(pendingOf t).size=1) ?_ ?_ (.inl ⟨rfl,rfl,rfl⟩)) ?_)
 ·rintro x c t _ hx (⟨rfl,rfl,rfl⟩ | ⟨rfl,hx0,f⟩)
  ·dsimp only
   rw [if_neg (by omega)]
   simp only [Nat.sub_zero,Nat.min_self,Nat.zero_add]
   refine wpS_bind (wpS_cRun hL tr tt (by omega) (by omega) B0 fun m st2 B2 hm1 hm2 s2=>?_)
   dsimp only
   have nb:∀ t',Bs κ (· ∈ a₀) 0 t t'->(pendingOf t').back? = none:=fun t' B=>by rw [B.pend,hp]; rfl
   by_cases hlt:m < a₀.length
   ·rw [if_pos hlt]
    refine wpS_bind (wpS_lift (wpAny_rule ⟨rfl,?_⟩))
    refine wpS_bind (wpS_bin hL tr tt (by omega) (by omega) B2 s2 fun st3 B3 s3=>?_)
    simp only [Bool.not_true,Bool.false_eq_true,if_false]
    refine wpS_bind (wpS_get ?_)
    rw [nb st3 B3]
    exact wpS_bind (wpS_modify (wpS_pure (.inr ⟨rfl,by omega,dn st3 B3 s3⟩)))
   ·rw [if_neg hlt]
    obtain rfl:m=a₀.length:=by omega
    refine wpS_bind (wpS_get ?_)
    rw [nb st2 B2]
    exact wpS_bind (wpS_modify (wpS_pure (.inr ⟨rfl,by omega,dn st2 B2 s2⟩)))
  ·dsimp only
   rw [if_pos (by omega)]
   exact wpS_pure ⟨rfl,f⟩
 ·rintro c t (⟨_,hx,_⟩ | ⟨hc,_,f⟩)
  ·omega
  ·exact ⟨hc,f⟩
 ·rintro c t ⟨rfl,f1,f2,f3,f4⟩
  dsimp only
  refine wpS_bind (wpS_mono (wpS_forRange (I:=fun _ c t'=>c=(none,())/\t' = t) (Q:=fun c t'=>c=(none,())/\t' = t) ?_ (fun _ _ q=>q) ⟨rfl,rfl⟩) ?_)
  ·rintro x c t' _ _ ⟨rfl,rfl⟩
   refine wpS_bind (wpS_get ?_)
   rw [if_pos (by omega)]
   exact wpS_pure ⟨rfl,rfl⟩
  ·rintro c t' ⟨rfl,rfl⟩
   exact wpS_pure (h _ f1 f2 f3)
noncomputable def RunsOk (n:Nat):Prop:=2<=n->∀ (prog:Program) (w:World) (A:Around) (E:Value->Shared->Prop) (s:Shared) (le:Keyed->Keyed->Bool) (κ:SortKind) (a₀:List Keyed) (st:SortSt) (Q:Unit->SortSt->Prop),a₀.length=n->LtOK prog w A E s le κ (· ∈ a₀)->(∀ x y z,le x y=true->le y z=true->le x z=true)->(∀ x y,(le x y || le y x)=true)->
 kindOf st=κ->failedOf st=none->pendingOf st = #[]->(arrOf st).toList=a₀->(∀ st',failedOf st' = none->(arrOf st').toList.Perm a₀->(arrOf st').toList.Pairwise (fun x y=>le x y=true)->Q () st')->wpS (model prog w) A E s sortRuns' Q st
theorem runs_few {n:Nat} (h:n < 64):RunsOk n:=fun h2 _ _ _ _ _ _ _ _ _ _ e hL tr tt=>wpS_runsS hL tr tt (by omega) (by omega)
section
variable {prog:Program} {w:World} {A:Around} {E:Value->Shared->Prop} {s:Shared} {rk:Value->List Int} {κ:SortKind}
noncomputable abbrev leV (rk:Value->List Int):Keyed->Keyed->Bool:=fun x y=>lexLe (rk x.1) (rk y.1)
structure KOk (prog:Program) (w:World) (h0:Heap) (vs:List Value) (rk:Value->List Int) (κ:SortKind):Prop where
 kind:∀ (A:Around) (E:Value->Shared->Prop) (s:Shared) (Q:SortKind->Shared->Prop),(∀ b o,h0.get? b=some o->s.heap.get? b=some o)->2<=vs.length->Q κ s->wpAny (model prog w) A (keyKind' vs.toArray) Q E s
 lt:∀ (A:Around) (E:Value->Shared->Prop) (s:Shared) (Q:Bool->Shared->Prop) (x y:Value),(∀ b o,h0.get? b=some o->s.heap.get? b=some o)->x ∈ vs->y ∈ vs->Q (HT.lexLt (rk x) (rk y)) s->wpAny (model prog w) A (keyLt' κ x y) Q E s
theorem KOk.ltok {h0:Heap} {vs:List Value} (k:KOk prog w h0 vs rk κ) (hs:∀ b o,h0.get? b=some o->s.heap.get? b=some o):LtOK prog w A E s (leV rk) κ (· ∈ (pairsOf vs).toList):=fun x y hx hy Q st hk q=>by
 rw [pairsOf_toList] at hx hy
 rw [lt'_eq]
 refine wpS_bind (wpS_get ?_)
 rw [hk]
 refine wpS_bind (wpS_lift (wpAny_attempt (k.lt A _ s _ x.1 y.1 hs (mem_zip_self hx).2 (mem_zip_self hy).2 ⟨rfl,?_⟩)))
 refine wpS_pure ?_
 have e:(!leV rk y x)=HT.lexLt (rk x.1) (rk y.1):=by unfold leV lexLe; simp
 rw [e] at q; exact q
theorem sort_any {a:Addr} {vs:List Value} {n:Nat} {h0:Heap} {P:PySem.Fin->Shared->Prop} (at0:s.heap.get? a=some (seqObj "list" vs.toArray n)) (hz:vs.length<=sizeLine) (R:RunsOk vs.length) (k:KOk prog w h0 vs rk κ) (hb:∀ b o,h0.get? b=some o->b ≠ a/\s.heap.get? b=some o)
  (h:∀ out:List Value,out.Perm vs->out.Pairwise (fun x y=>lexLe (rk x) (rk y)=true)->P (.done (.ret .none)) { s with heap:=sortedHeap s.heap a vs out.toArray }) :
  wpAny (model prog w) A (Builtin.«list.sort» ⟨[.ref a],[]⟩) P E s:=by
 rw [list_sort_plain]
 have la:a < s.heap.objs.size:=Heap.lt_size at0
 refine wpAny_bind (listItems_at at0 rfl (wpAny_bind (listUpdate_at at0 rfl ?_ (by simpa using hz) (Nat.zero_le _))))
 obtain ⟨e1,at1⟩:∃ e1,(s.heap.update a (Obj.mapSeq fun _=>#[])).get? a=some (seqObj "list" #[] e1):=⟨_,get?_update_seq at0 fun _=>#[]⟩
 refine wpAny_bind (seqEpoch_at at1 rfl (wpAny_bind (wpAny_newTuple ?_ (by simpa using hz))))
 refine wpAny_bind (wpAny_newList ?_ (Nat.zero_le _))
 refine wpAny_holding ?_
 have up:∀ {b:Addr} {o:Obj},(s.heap.update a (Obj.mapSeq fun _=>#[])).get? b=some o->(((s.heap.update a (Obj.mapSeq fun _=>#[])).push (seqObj "tuple" vs.toArray 0)).push (seqObj "list" #[] 0)).get? b=some o:=fun e=>Heap.get?_push_of_some _ (Heap.get?_push_of_some _ e)
 have at6:=up at1
 have kp:∀ b o,h0.get? b=some o->(((s.heap.update a (Obj.mapSeq fun _=>#[])).push (seqObj "tuple" vs.toArray 0)).push (seqObj "list" #[] 0)).get? b=some o:=fun b o e=>
  up (by rw [Heap.get?_update_ne _ _ _ _ (hb b o e).1]; exact (hb b o e).2)
 show wpAny (model prog w) A _ P E { s with heap:=((s.heap.update a (Obj.mapSeq fun _=>#[])).push (seqObj "tuple" vs.toArray 0)).push (seqObj "list" #[] 0) }
 dsimp only
 have sz:vs.toArray.size=vs.length:=by simp
 have fin:∀ st':SortSt,(arrOf st').toList.Perm (pairsOf vs).toList->(arrOf st').toList.Pairwise (fun x y=>leV rk x y=true)->P (.done (.ret .none)) { s with heap:=sortedHeap s.heap a vs ((arrOf st').map (·.2)) }:=fun st' p1 p2=>by
  have hm:∀ p ∈ (arrOf st').toList,p.1=p.2:=fun p hp=>by have:=p1.mem_iff.mp hp; rw [pairsOf_toList] at this; exact (mem_zip_self this).1
  have e:(arrOf st').map (·.2)=((arrOf st').toList.map (·.2)).toArray:=by apply Array.toList_inj.mp; simp
  rw [e]
  refine h _ ?_ ?_
  ·have:=p1.map (·.2)
   rwa [pairsOf_toList,List.map_snd_zip (Nat.le_refl _)] at this
  ·rw [List.pairwise_map]
   refine List.Pairwise.imp_of_mem (fun {x y} hx hy q=>?_) p2
   rw [<-hm x hx,<-hm y hy]; exact q
 by_cases h2:vs.toArray.size < 2
 ·rw [if_pos h2,if_pos h2]
  refine wpAny_bind (wpAny_pure ?_)
  rw [StateT.run_pure]
  refine wpAny_bind (wpAny_pure ?_)
  dsimp only
  refine wpAny_bind (seqEpoch_at at6 rfl (wpAny_bind (listUpdate_at at6 rfl ?_ (Nat.zero_le _) (by
   have:((pairsOf vs).map (·.2)).size<=sizeLine + 1:=by rw [Array.size_map,pairsOf_size]; omega
   exact this))))
  simp only [bne_self_eq_false,Bool.false_eq_true,if_false]
  refine wpAny_pure (fin (SortSt.mk' general' (vs.toArray.zip vs.toArray) #[] 7 none) (List.Perm.refl _) ?_)
  show (pairsOf vs).toList.Pairwise _
  rw [pairsOf_toList]
  match vs,sz,h2 with
  | [],_,_=>exact .nil
  | [_],_,_=>exact List.pairwise_singleton _ _
  | _ :: _ :: _,_,h2=>simp at h2; omega
 ·rw [if_neg h2,if_neg h2]
  refine wpAny_bind (k.kind _ _ _ _ kp (by omega) ?_)
  refine wpAny_bind (wpAny_mono (R (by omega) prog w _ _ _ (leV rk) κ (pairsOf vs).toList (SortSt.mk' κ (vs.toArray.zip vs.toArray) #[] 7 none)
   (fun _ st'=>failedOf st' = none/\(arrOf st').toList.Perm (pairsOf vs).toList/\(arrOf st').toList.Pairwise (fun x y=>leV rk x y=true))
   (by rw [Array.length_toList,pairsOf_size]) (k.ltok kp) (fun x y z p q=>lexLe_tr _ _ _ p q) (fun x y=>lexLe_tt _ _) rfl rfl rfl rfl fun st' a1 a2 a3=>⟨a1,a2,a3⟩) ?_ fun _ _ e=>e)
  rintro ⟨⟨⟩,st'⟩ s' ⟨rfl,hf,p1,p2⟩
  dsimp only
  refine wpAny_bind (seqEpoch_at at6 rfl (wpAny_bind (listUpdate_at at6 rfl ?_ (Nat.zero_le _) (by
   have l1:=p1.length_eq
   simp only [Array.length_toList,pairsOf_size] at l1
   have:((arrOf st').map (·.2)).size<=sizeLine + 1:=by rw [Array.size_map]; omega
   exact this))))
  rw [hf]
  simp only [bne_self_eq_false,Bool.false_eq_true,if_false]
  exact wpAny_pure (fin st' p1 p2)
noncomputable def rkH (h:Heap):Value->List Int
 | .int n _=>[n]
 | .ref a=>(match h.get? a with
  | some o=>(match o.data with
   | .seq xs _=>xs.toList.map numOf
   | _=>[])
  | none=>[])
 | _=>[]
noncomputable def TupI (h:Heap) (v:Value):Prop:=∃ (a:Addr) (its:Array Value) (ns:List Int),v=.ref a/\IsTup h a its/\IntsAre its.toList ns/\ns ≠ []
theorem TupI.rnk {h:Heap} {v:Value} (t:TupI h v):∃ (a:Addr) (its:Array Value) (ns:List Int),v=.ref a/\IsTup h a its/\IntsAre its.toList ns/\ns ≠ []/\rkH h v=ns:=by
 obtain ⟨a,its,ns,rfl,t1,t2,t3⟩:=t
 refine ⟨a,its,ns,rfl,t1,t2,t3,?_⟩
 obtain ⟨o,e1,e2,n,e3⟩:=t1
 unfold rkH
 simp only [e1,e3]
 exact t2.nums
theorem lex_go {b:Bool} {Q:Bool->Shared->Prop}:∀ {xs ys:List Value} {ns ms:List Int} (i:Nat),IntsAre xs ns->IntsAre ys ms->Q (HT.lexLt ns ms) s->W.KatLex prog w A b (decide (xs.length < ys.length)) Q (xs.zip ys) i s
 | _,_,_,_,i,.nil,.nil,q=>W.kat_nil q
 | _,_,_,_,i,.nil,.cons m t h,q=>W.kat_nil (by exact q)
 | _,_,_,_,i,.cons n t h,.nil,q=>W.kat_nil (by exact q)
 | _,_,_,_,i,.cons (vs:=vs) n t h,.cons (vs:=ws) m u h',q=>by
  rw [List.zip_cons_cons]
  refine W.kat_cons (wpAny_eqBool_int ?_)
  rw [HT.lexLt_cons] at q
  have el:decide ((Value.int n t :: vs).length < (Value.int m u :: ws).length)=decide (vs.length < ws.length):=by simp
  rw [el]
  refine W.kat_go (fun e=>W.kat_yes ?_) fun e=>W.kat_no ?_
  ·rw [if_pos (by simpa using e)] at q
   exact lex_go (i + 1) h h' q
  ·rw [if_neg (by simpa using e)] at q
   cases b && i == 0 with
   | true=>exact oneLt_int q
   | false=>exact W.kat_one _ _ (lt_int q)
theorem kat_tups {h:Heap}:∀ {vs:List Value},(∀ v ∈ vs,TupI h v)->∃ fs,W.KatTups h vs fs/\fs.length=vs.length/\∀ f ∈ fs,∃ n t,f=Value.int n t
 | [],_=>⟨[],.nil,rfl,fun _ h=>by cases h⟩
 | v :: vs,hv=>by
  obtain ⟨fs,h1,h2,h3⟩:=kat_tups (vs:=vs) fun u hu=>hv u (List.mem_cons_of_mem _ hu)
  obtain ⟨a,its,ns,rfl,⟨o,e1,e2,n,e3⟩,t2,t3⟩:=hv v List.mem_cons_self
  obtain ⟨m,t,r,er⟩:∃ m t r,its.toList=Value.int m t :: r:=by
   generalize its.toList=l at t2
   cases t2 with
   | nil=>exact absurd rfl t3
   | cons n t h=>exact ⟨n,t,_,rfl⟩
  refine ⟨.int m t :: fs,.cons e1 e2 e3 (f:=.int m t) (by rw [arr_list,er]; rfl) h1,by simp [h2],fun f hf=>?_⟩
  rcases List.mem_cons.mp hf with rfl | hf
  ·exact ⟨m,t,rfl⟩
  ·exact h3 f hf
theorem TupI.mono {h h':Heap} (k:∀ b o,h.get? b=some o->h'.get? b=some o) {v:Value} (t:TupI h v):TupI h' v:=
 let ⟨a,its,ns,e,⟨o,e1,e2⟩,t2,t3⟩:=t; ⟨a,its,ns,e,⟨o,k _ _ e1,e2⟩,t2,t3⟩
theorem kok_tups {h0:Heap} {vs:List Value} (hv:∀ v ∈ vs,TupI h0 v):KOk prog w h0 vs (rkH h0) (tuples' true) where
 kind:=fun A E s Q kp h2 q=>by
  obtain ⟨fs,h1,h3,h4⟩:=kat_tups (h:=s.heap) (vs:=vs) fun v hv'=>(hv v hv').mono kp
  refine W.kat_kind (T:=.type "int") h1 (by omega) (fun f hf=>?_) (by decide) q
  obtain ⟨n,t,rfl⟩:=h4 f hf
  exact .now
 lt:=fun A E s Q x y kp hx hy q=>by
  obtain ⟨a,its,ns,rfl,⟨o,e1,e2,k,e3⟩,t2,t3,r1⟩:=(hv x hx).rnk
  obtain ⟨b,jts,ms,rfl,⟨o',e1',e2',k',e3'⟩,t2',t3',r2⟩:=(hv y hy).rnk
  rw [r1,r2] at q
  refine W.kat_lt (kp _ _ e1) e3 (kp _ _ e1') e3' ?_
  have:=lex_go (prog:=prog) (w:=w) (A:=A) (s:=s) (b:=true) (Q:=Q) 0 t2 t2' q
  simpa using this
end
end L2.TS
namespace L2.TS
open PySem PyProof.Rows
end L2.TS
namespace L2.L3
open PySem PySem.Spec PyProof.Rows
end L2.L3
namespace L2
open PySem PySem.Spec PyProof.Rows
open AutoSeq1 (wpAny_loadPart')
end L2
namespace L2.L3
open PySem PySem.Spec PyProof.Rows
end L2.L3
namespace L2.L3
open PySem PySem.Spec PyProof.Rows
noncomputable def asR (ρ:DEnv) (i:Nat):Option (Bool × KVs):=match ρ[i]? with
 | some (some (.own _ (.m tk kvs)))=>some (tk,kvs)
 | some (some (.vw (.m tk kvs)))=>some (tk,kvs)
 | _=>none
theorem DSt.dic {K:PySem.W.Frag} {F:Fx} {H:Hp} {σ:St} {ρ:DEnv} {O:List Addr} (st:DSt K F H σ ρ O) {i:Nat} {tk:Bool} {kvs:KVs} (e:asR ρ i=some (tk,kvs)):∃ a,σ[i]? = some (some (.ref a))/\DicAt (hide O H) H a tk kvs:=by
 unfold asR at e
 split at e
 ·rename_i h
  cases e
  obtain ⟨a,fp,hv,⟨_,hd⟩,_,_⟩:=st.box h
  exact ⟨a,hv,hd⟩
 ·rename_i h
  cases e
  obtain ⟨a,fp,hv,⟨_,hd⟩⟩:=st.view h
  refine ⟨a,hv,hd.keep ?_ fun _ _ z=>z⟩
  obtain ⟨o,eo,_⟩:=hd.live
  rw [eo,(of_hide eo).1]
 ·cases e
section
variable {X:Cx} {F:Fx} {E:Str->DEnv->Prop} {e a b c:Expr} {pos:Pos} {x:Str}
theorem db_chain {op op':CmpOp} {p p':Int->Int->Bool} {ta tb tc:DT} (ho:OpR X (compareOp op) (rI0 fun i j=>.bl (p i j))) (ho':OpR X (compareOp op') (rI0 fun i j=>.bl (p' i j))) (ha:DE X F a ta) (hb:DE X F b tb) (hc:DE X F c tc)
  (hm:lastMarks [op,op'] [b,c]=false:=by with_unfolding_all rfl):DB X F (.Compare a [op,op'] [b,c] pos) (dTst (dChain p p' ta tb tc)):=by
 have he:=de_chain (pos:=pos) ho ho' ha hb hc hm
 refine ⟨mn_tst he.mn,(pt_chain ho ho' ha.pe hb.pe hc.pe hm).imp fun σ H Q ⟨ρ,O,st,q⟩=>?_⟩
 refine ⟨ρ,O,st,ha.mn _ _ _ (fun x ρ1 q1 v H1 O1 st1 s1 d1=>⟨ρ1,O1,st1,hb.mn _ _ _ (fun y ρ2 ⟨i,j,e1,e2,q2⟩ w H2 O2 st2 s2 d2=>?_) q1⟩) q⟩
 subst e1 e2
 refine ⟨i,j,(DV.mono s2.hid d1).int_inv,d2.int_inv,p i j,rfl,?_⟩
 by_cases h:p i j=true
 ·rw [if_pos h] at q2 ⊢
  exact ⟨ρ2,O2,st2,hc.mn _ _ _ (fun z ρ3 ⟨l,e,b',eb,q3⟩ u H3 O3 st3 s3 d3=>by subst e; exact ⟨j,l,(DV.mono s3.hid d2).int_inv,d3.int_inv,p' j l,rfl,by cases eb; exact q3 H3 O3 st3 (s1.trans (s2.trans s3))⟩) q2⟩
 ·rw [if_neg h] at q2 ⊢
  obtain ⟨b',eb,q3⟩:=q2
  cases eb
  exact ⟨false,rfl,q3 H2 O2 st2 (s1.trans s2)⟩
end
end L2.L3
namespace L2.L3
open PySem PySem.Spec PyProof.Rows
section
variable {X:Cx} {F:Fx} {E:Str->DEnv->Prop} {e a b c:Expr} {pos:Pos} {x:Str} {ma mb mc:XM PyData}
theorem chain_of {p p':Int->Int->Bool} {ρ:DEnv} {Q:PyData->DEnv->Prop} (q:wp E (xChain p p' ma mb mc) ρ Q):dChain p p' (wp E ma) (wp E mb) (wp E mc) ρ Q:=by
 refine mn_wp _ _ _ (fun x ρ1 q1=>?_) (wp_bind q)
 refine mn_wp _ _ _ (fun y ρ2 q2=>?_) (wp_bind q1)
 unfold wp at q2
 cases x with
 | int i=>cases y with
  | int j=>
   refine ⟨i,j,rfl,rfl,?_⟩
   by_cases hp:p i j=true
   ·simp only [if_pos hp] at q2
    rw [if_pos hp]
    refine mn_wp _ _ _ (fun z ρ3 q3=>?_) (wp_bind (m:=mc) (k:=fun z=>lift (match z with | .int k=>some (PyData.bool (p' j k)) | _=>none)) q2)
    obtain ⟨d,e1,q4⟩:=wp_lift q3
    cases z with
    | int k=>cases e1; exact ⟨k,rfl,q4⟩
    | _=>cases e1
   ·simp only [if_neg hp] at q2
    rw [if_neg hp]
    exact q2
  | _=>exact q2.elim
 | _=>exact q2.elim
theorem fb_lelt (ha:FE X F E a ma) (hb:FE X F E b mb) (hc:FE X F E c mc) (hm:lastMarks [.LtE,.Lt] [b,c]=false:=by with_unfolding_all rfl):FB X F E (.Compare a [.LtE,.Lt] [b,c] pos) (xTst (xChain (fun i j=>decide (i<=j)) (fun i j=>decide (i < j)) ma mb mc)):=
 (db_chain op_le op_lt ha hb hc hm).imp mn_wp fun ρ Q q=>chain_of (tst_of q)
end
end L2.L3
namespace L2.TS
open PySem PyProof.Rows PySem.W
end L2.TS
namespace L2.L3
open PySem PySem.Spec PyProof.Rows PySem.W
section
variable {X:Cx} {F:Fx} {E:Str->DEnv->Prop} {pos p p1:Pos} {x:Str} {i:Nat}
theorem asR_dk {K:PySem.W.Frag} {H:Hp} {σ:St} {ρ:DEnv} {O:List Addr} (st:DSt K F H σ ρ O) {kvs:KVs} (e:asR ρ i=some (false,kvs)):∃ a ks,σ[i]? = some (some (.ref a))/\H a=some (.dK ks)/\Paired (fun (p:Key × V) (q:PyData × PyData)=>keyD p.1=q.1/\DV (hide O H) p.2 q.2) ks kvs:=
 let ⟨a,hv,ks,h1,h2⟩:=st.dic e; ⟨a,ks,hv,h1,h2⟩
theorem ints_dvs {G:Hp}:∀ ns:List Int,DVs G (ns.map V.int) (ns.map PyData.int)
 | []=>.nil
 | n :: ns=>.cons (.int n) (ints_dvs ns)
end
end L2.L3
namespace L2
open PySem PySem.Spec PyProof.Rows
end L2
namespace L2.L3
open PySem PySem.Spec PyProof.Rows
end L2.L3
namespace L2.L3
open PySem PySem.Spec PyProof.Rows
noncomputable def strsD (ws:List Str):List PyData:=ws.map PyData.str
section
variable {X:Cx} {F:Fx} {E:Str->DEnv->Prop} {tg e:Expr} {x:Str} {pos p1:Pos} {g d:Addr} {ws:List Str}
@[simp] noncomputable def iC (ds:List PyData):XM (List PyData):=fun ρ=>.ok ds ρ
noncomputable def GDic (X:Cx) (d:Addr) (kd:List (Str × Int)):Prop:=(d == sysModules)=false/\∃ (kvs:List (Str × Value)) (ep:Nat),
 (∀ h:Heap,X.K.In h->h.DictAt (strKind X.prog X.w) d kvs ep)/\kvs.map (·.1)=kd.map (·.1)/\∀ k n,kd.lookup k=some n->∃ t,valueAt kvs k=some (.int n t)
noncomputable def Itk (ws:List Str):It:=⟨fun i _=>i < ws.length,fun i H x H'=>H' = H/\∃ k,ws[i]? = some k/\x=.str k,fun i _=>ws.length<=i⟩
theorem turn_gdic {kvs:List (Str × Value)} {ep:Nat} {P:Program} {w:World} {K:PySem.W.Frag} (it:Addr) (hD:∀ h:Heap,K.In h->h.DictAt (strKind P w) d kvs ep) :
  Turn P w K tg (Itk (kvs.map (·.1))) [it] it (fun i h=>h.IsKeyIter it d i kvs.length ep) where
 mem:=by simp
 obj:=fun i h st b hb=>by
  have e:b=it:=by simpa using hb
  subst e
  obtain ⟨o,e,c,dd⟩:=st
  exact ⟨o,e,fun v z=>by rw [dd] at z; cases z⟩
 keep:=fun i h h' st k=>by
  obtain ⟨o,e,c,dd⟩:=st
  exact ⟨o,k it (by simp) o e,c,dd⟩
 item:=by
  intro X hP hw hK hc i pins s σ H E I hf st hg
  subst hP hw hK
  have hi:i < kvs.length:=by simpa [Itk] using hg
  obtain ⟨⟨k,x⟩,hx⟩:∃ p,kvs[i]? = some p:=⟨kvs[i],by simp [hi]⟩
  obtain ⟨f0,f1,f2,f3,f4,f5⟩:=hf it (by simp)
  refine wpAny_pyNext_dict_item st (hD _ I.kIn) hx fun key h' hkey hit' sb=>?_
  obtain ⟨t,rfl⟩:=Value.isStrOf_shape hkey
  have I1:Inv X pins σ H { s with heap:=h' }:=I.turned (t':=s.toks) (fun b o hb e=>(sb.2 b hb).trans e) f0 f1 f3 f4 f5
  obtain ⟨o,e,c,dd⟩:=id hit'
  exact ⟨_,rfl,go_of (s:={ s with heap:=h' }) e c dd (by decide) ⟨.str k,H,I1,⟨t,rfl⟩,⟨rfl,k,by simp [hx],rfl⟩,hit',fun b hb=>(hf b hb).1⟩⟩
 done:=by
  intro X hP hw hK hc i pins s σ H E I hf st hg
  subst hP hw hK
  have hi:kvs.length<=i:=by simpa [Itk] using hg
  obtain ⟨f0,f1,f2,f3,f4,f5⟩:=hf it (by simp)
  exact wpAny_pyNext_dict_end (I.ok.hd hc) st (hD _ I.kIn) (by simp; omega) fun h' eb=>⟨rfl,I.turned (t':=s.toks) (fun b o hb e=>eb b o hb e) f0 f1 f3 f4 f5⟩
 self:=fun _ _ _ _ _ st h=>wpAny_pyIter_keyiter st h
theorem wk_gdic {O:List Addr} {H:Hp}:Wk O H (Itk ws) (strsD ws):=fun O' H' s ok=>by
 refine ⟨fun i d e=>?_,by simp [Itk,strsD]⟩
 unfold strsD at e
 rw [List.getElem?_map] at e
 obtain ⟨y,hy,rfl⟩:=Option.map_eq_some_iff.mp e
 refine ⟨(List.getElem?_eq_some_iff.mp hy).1,fun x H'' ⟨e1,k,e2,e3⟩=>?_⟩
 subst e1 e3
 rw [hy] at e2
 cases e2
 exact ⟨fun _ _ h=>h,.str _⟩
theorem pi_gdic {kvs:List (Str × Value)} {ep:Nat} (hs:(d == sysModules)=false) (hg:Gl X x) (hm:X.mg x=some (.ref d)) (hD:∀ h:Heap,X.K.In h->h.DictAt (strKind X.prog X.w) d kvs ep) (hd:(x == ("__debug__":Str))=false:=by decide) :
  PI X tg (.Name x pos) (fun _ H R=>R (Itk (kvs.map (·.1))) H):=by
 intro pins s σ H R I h
 refine thn (pe_glob (v:=.ref d) hg hm rfl hd pins s σ H (fun v H1=>v=.ref d/\H1=H) I ⟨rfl,rfl⟩) fun v s1 ⟨y,H1,I1,r1,q1,q2⟩=>?_
 subst q1 q2
 cases r1
 refine wpAny_pyIter_dict hs (hD _ I1.kIn) ?_
 refine ⟨s1.heap.objs.size,[s1.heap.objs.size],_,_,H1,rfl,I1.kept (t':=s1.toks) fun b o e=>Heap.get?_push_of_some _ e,turn_gdic _ hD,⟨_,Heap.get?_push_size _ rfl,rfl,rfl⟩,fun b hb=>?_,h⟩
 have e:b=s1.heap.objs.size:=by simpa using hb
 subst e
 exact I1.fpOk (Nat.le_refl _) (I1.hok.fresh (Nat.le_refl _))
theorem fi_gdic {kd:List (Str × Int)} (hg:Gl X x) (hm:X.mg x=some (.ref d)) (hD:GDic X d kd) (hd:(x == ("__debug__":Str))=false:=by decide):FI X F E tg (.Name x pos) (iC (strsD (kd.map (·.1)))):=by
 obtain ⟨hs,kvs,ep,h1,h2,_⟩:=hD
 refine ⟨mn_wp,(pi_gdic hs hg hm h1 hd).imp fun σ H R ⟨ρ,O,st,q⟩=>?_⟩
 rw [h2]
 exact q _ H O st (.refl ..) wk_gdic
noncomputable def gdK (kd:List (Str × Int)):PyData->Option PyData
 | .str k=>(kd.lookup k).map PyData.int
 | _=>none
@[simp] noncomputable def xGD (kd:List (Str × Int)) (m:XM PyData):XM PyData:=fun ρ=>(m ρ).bind fun d=>lift (gdK kd d)
theorem fe_gdic {kd:List (Str × Int)} {m:XM PyData} (hg:Gl X x) (hm:X.mg x=some (.ref d)) (hD:GDic X d kd) (he:FE X F E e m) (hs:NoSl e:=by intro _ _; rfl) (hd:(x == ("__debug__":Str))=false:=by decide):FE X F E (.Subscript (.Name x p1) e pos) (xGD kd m):=by
 obtain ⟨hsy,kvs,ep,h1,h2,h3⟩:=hD
 refine ⟨mn_wp,fun pins s σ H Q I ⟨ρ,O,st,q⟩=>?_⟩
 refine subD_of PySem.F.slot_dict_getitem.lookup hs (thn (pe_glob (v:=.ref d) hg hm rfl hd pins s σ H (fun v H1=>v=.ref d/\H1=H) I ⟨rfl,rfl⟩) fun u s1 ⟨y,H1,I1,r1,q1,q2⟩=>?_)
 subst q1 q2
 cases r1
 refine thn (he.pe pins s1 σ H1 (fun v H2=>∃ k n,v=.str k/\kd.lookup k=some n/\Q (.int n) H2) I1 ⟨ρ,O,st,mn_wp _ _ _ (fun dd ρ1 q1 w H2 O2 st2 s2 d2=>?_) (wp_bind q)⟩) fun iv s2 ⟨z,H2,I2,rz,k,n,ez,el,qz⟩=>?_
 ·obtain ⟨r,e1,q3⟩:=wp_lift q1
  unfold gdK at e1
  split at e1
  ·rename_i k
   obtain ⟨n,e2,e3⟩:=Option.map_eq_some_iff.mp e1
   subst e3
   cases d2
   exact ⟨k,n,rfl,e2,q3 _ H2 O2 st2 s2 (.int _)⟩
  ·cases e1
 ·subst ez
  obtain ⟨t,rfl⟩:=(show ∃ t,iv=Value.str k t from rz)
  have dd:=h1 _ I2.kIn
  obtain ⟨t',hv⟩:=h3 k n el
  refine ⟨dd.dictOf.typeIs,wpAny_getItem_of (knd:=strKind X.prog X.w) (k:=k) ?_ dd.dictOf.mapOf hv ⟨.int n,H2,I2.tok _,⟨t',rfl⟩,qz⟩⟩
  show Value.isStrOf k (.str k t)=true
  simp [Value.isStrOf]
end
end L2.L3
namespace L2.L3
open PySem PySem.Spec PyProof.Rows
section
variable {X:Cx} {F:Fx} {E:Str->DEnv->Prop} {a b:Expr}
@[simp] noncomputable def parO (i j:Nat) (n:Int) (c:Cell):SM:=fun ρ1=>if i < ρ1.length then (match c with | .own true _=>.bad | c=>.nx ((ρ1.set i (some c)).set j (some (.dat (.int n))))) else .bad
@[simp] noncomputable def sParO (i j:Nat) (n:Int) (m:XM Cell):SM:=fun ρ=>ofX (m ρ) (parO i j n)
theorem fs_parO {i j:Nat} {x y:Str} {px py pt pos pb:Pos} {kt k2 pt2} {n:Int} {jb} {m:XM Cell} (hc:X.calm=true) (hN:X.N.Nodup) (hi:X.N[i]? = some x) (hj:X.N[j]? = some y) (hij:i ≠ j)
  (hx:X.env.scope.names.lookup x=some .local) (hy:X.env.scope.names.lookup y=some .local) (he:FO X F E a m)
  (hw:swappedStores [.Tuple [.Name x px,.Name y py] kt pt] (.Tuple [a,.Constant (.int n) jb pb] k2 pt2) X.env=pure (some [x,y]):=by rfl)
  (hs:swapsWithSole [.Tuple [.Name x px,.Name y py] kt pt] (.Tuple [a,.Constant (.int n) jb pb] k2 pt2) pos.line X.env=pure false:=by rfl)
  (h1:starEach [a,.Constant (.int n) jb pb] X.env=(false,eval a X.env) :: starEach [.Constant (.int n) jb pb] X.env:=by rfl) (h2:starEach [.Constant (.int n) jb pb] X.env=(false,eval (.Constant (.int n) jb pb) X.env) :: starEach [] X.env:=by rfl) :
  FS X F E (.Assign [.Tuple [.Name x px,.Name y py] kt pt] (.Tuple [a,.Constant (.int n) jb pb] k2 pt2) pos) (sParO i j n m):=
 (ps_par hc hN hi hj hij hx hy (pa_cons he.pe (pa_cons pe_int pa_nil h2) h1) hw hs).imp fun D σ H ⟨ρ,O,DD,st,q,f⟩=>⟨ρ,O,st,he.mn _ _ _ (fun c ρ1 q0 v H1 O1 fp r s1=>by
  have q1:i < ρ1.length/\(∀ b,c ≠ .own true b)/\DD.nx ((ρ1.set i (some c)).set j (some (.dat (.int n)))):=by
   unfold wpS parO at q0
   by_cases hl:i < ρ1.length
   ·simp only [if_pos hl] at q0
    cases c with
    | own io b=>cases io with
     | true=>exact q0.elim
     | false=>exact ⟨hl,(fun _ z=>by cases z),q0⟩
    | dat d=>exact ⟨hl,(fun _ z=>by cases z),q0⟩
    | scr d=>exact ⟨hl,(fun _ z=>by cases z),q0⟩
    | exc d=>exact ⟨hl,(fun _ z=>by cases z),q0⟩
    | vw d=>exact ⟨hl,(fun _ z=>by cases z),q0⟩
   ·simp only [if_neg hl] at q0
  obtain ⟨hl,hn,q2⟩:=q1
  obtain ⟨O2,st2,s2⟩:=DSt.put1 (io:=true) r.st r.at_ r.new hl (fun b z=>absurd z (hn b))
  exact ⟨v,.int n,rfl,f.nx _ H1 _ O2 (st2.set (.int n)) (s1.trans s2) q2⟩) (wpS_ofX (k:=parO i j n) q)⟩
end
end L2.L3
namespace L2.L3
open PySem PySem.Spec PyProof.Rows
theorem GH.get {mg:Str->Option Value} {H:Hp} {O:List Addr} (g:GH mg H) (ok:OOk H O) {x:Str} {d:PyData} {u:Value} (h1:glob x=some d) (h2:mg x=some u):∃ v,RelV v u/\DV (hide O H) v d:=by
 obtain ⟨v,r,dv⟩:=g x d u h1 h2
 refine ⟨v,r,DV.mono (fun b o e=>?_) dv⟩
 obtain ⟨t,e1⟩:=tup_at e
 refine hide_of e1 fun z=>?_
 obtain ⟨o,e2,m⟩:=ok b z
 rw [e1] at e2
 cases e2
 exact isT_nm t m
section
variable {X:Cx} {F:Fx} {E:Str->DEnv->Prop} {pos:Pos} {x:Str}
theorem fe_glob {d:PyData} {u:Value} (hG:GF X.mg F) (hg:Gl X x) (hm:X.mg x=some u) (hd:glob x=some d) (hdb:(x == ("__debug__":Str))=false:=by decide):FE X F E (.Name x pos) (xC d):=
 ⟨mn_wp,fun pins s σ H Q I ⟨ρ,O,st,q⟩=>by
  obtain ⟨v,r,dv⟩:=(hG.at st).get st.live hd hm
  exact pe_glob hg hm r hdb pins s σ H Q I (q v H O st (.refl ..) dv)⟩
end
end L2.L3
namespace L2.L3
open PySem
theorem glob_ANY_ZONE:glob "ANY_ZONE" = some (.tuple [.int 0,.tuple []]):=by unfold glob; rw [if_pos rfl]
theorem glob_NO_DEEDS:glob "NO_DEEDS" = some (.tuple []):=by
 unfold glob
 rw [if_neg (by decide +kernel),if_pos rfl]
end L2.L3
namespace L2.L3
open PySem
end L2.L3
namespace L2.L3
open PySem PySem.Spec PyProof.Rows
noncomputable def Frzn (H:Hp):Prop:=∀ b u,H b=some u->∃ o v its n,u=.frz o v/\o.data=.seq its n
section
variable {P:Program} {w:World} {K:PySem.W.Frag} {mg mb:Str->Option Value} {CX:CXT} {k:Nat} {fa a:Addr} {fd:FuncData} {x:Str} {sp:Sp} {s₁:Shared}
theorem head_run {H:Hp} (KX:K.In s₁.heap) (hns:s₁.heap.Ns mainGlobals mg) (hb:s₁.heap.Ns builtinsNs mb) (hbb:∀ y:Str,y ≠ "__name__"->mb y=bootBuiltins y) (hlim:s₁.heap.NoLimit) (hg:s₁.gens = #[]) (hr:Room k callerA)
  (F:∀ base:Heap,K.In base->base.Ns mainGlobals mg->FnOk P w K mg base CX k fa fd [x] sp) (hbind:∀ (s:Shared) (u:Value),BindsTo s fd ⟨[u],[]⟩ [(x,u)])
  (hO:Frzn H) (hK:∀ b u,H b=some u->K.lookup b=none) (hok:HOk P w H s₁.heap) (hsp:sp [.ref a] H (fun v _=>v=.bl true) fun _ _ _=>False) (hCX:∀ e s',CX [] H s₁ (fun _ _ _=>False) e s'->False) :
  codeAny (model P w) callerA (.call (.ref fa) ⟨[.ref a],[]⟩) (fun r s'=>r=.ok (.ret (.bool true))/\OldK s₁.heap s'.heap/\s'.os=s₁.os/\AllBare s'.gens) s₁:=by
 have dicts:∀ {b:Addr} {o:Obj} {es:Array DictEntry} {ep:Nat},s₁.heap.get? b=some o->o.data=.dict es ep->H b=none:=fun {b o es ep} e d=>by
  cases q:H b with
  | none=>rfl
  | some u=>
   obtain ⟨o',v,its,n,rfl,d'⟩:=hO b u q
   obtain ⟨e',_⟩:=hok b _ q
   rw [e] at e'
   cases e'
   rw [d] at d'
   cases d'
 have spaces:∀ {b:Addr} {m:Str->Option Value},s₁.heap.Ns b m->(hidT s₁.heap H).Ns b m:=fun ⟨o,es,ep,e,d,r⟩=>⟨o,es,ep,hidT_get e (dicts e d),d,r⟩
 have KB:K.In (hidT s₁.heap H):=fun b o e=>by
  refine hidT_get (KX b o e) ?_
  cases q:H b with
  | none=>rfl
  | some u=>rw [hK b u q] at e; cases e
 have hM:Mod K mg (hidT s₁.heap H):=⟨KB,spaces hns,⟨mb,spaces hb,hbb⟩,let ⟨mc,h1,h2⟩:=hlim; ⟨mc,spaces h1,h2⟩⟩
 have e0:Env0 P w K mg (hidT s₁.heap H) callerA [] s₁ H:=⟨rfl,hM,fun b o e=>of_hidT e,Nat.le_of_eq (hidT_size _ _),trivial,fun b hb=>absurd (show b ∈ ([]:List Addr) from hb) (by simp),hok,.of_eq hg⟩
 refine codeAny_mono ((F _ KB (spaces hns)).run callerA [] s₁ H ⟨[.ref a],[]⟩ [.ref a] [.ref a] _ _ hr e0 (hbind s₁ (.ref a)) (.cons rfl .nil) hsp) fun r s' h=>?_
 rcases r with e | fl
 ·exact (hCX e s' h).elim
 ·cases fl with
  | ret u=>
   obtain ⟨v,H',os,bare,un,hok',r',q⟩:=h
   obtain rfl:v=.bl true:=q
   obtain rfl:u=Value.bool true:=r'
   refine ⟨rfl,OldK.of_keep fun b o e=>?_,os,bare⟩
   cases q:H b with
   | none=>exact un.keep b o e q (fun z=>absurd (show b ∈ ([]:List Addr) from z) (by simp)) (by simp)
   | some u=>
    obtain ⟨o',v,_,_,rfl,_⟩:=hO b u q
    have h1:=(hok b _ q).1
    rw [e] at h1
    cases h1
    exact (hok' b _ (un.frzs b _ _ q)).1
  | next=>exact False.elim h
  | brk=>exact False.elim h
  | cont=>exact False.elim h
end
structure TupG (K':PySem.W.Frag) (h:Heap) (b:Addr) (u:HO):Prop where
 ex:∃ (o:Obj) (xs:List V) (its:Array Value) (n:Nat),u=.frz o (.tup xs)/\h.get? b=some o/\o.cls=.type "tuple"/\o.data=.seq its n/\xs.length<=sizeLine/\Vals xs its.toList
 out:K'.lookup b=none
noncomputable def spT (K:PySem.W.Frag) (mg:Str->Option Value):Sp:=fun vs H Q _=>GH mg H/\∃ a ns,vs=[.ref a]/\Scr K H a ns/\∀ H',Q (.bl true) H'
theorem walk_ofG {l:PySem.W.OpenLaw} {k:Nat} {q:Program} {loose:List Str} {XP:(Str->Option Value)->Heap->Prop} {YP:World->Heap->Prop} {d:DefRec} {K:Params->PySem.W.Frag} {CX:World->CXT} {x:Str}
  (hn:l.most=some 63) (hdf:d.params.defaults=[]) (hr:Room k callerA) (hY:∀ (w:World) (h:Heap),YP w h->(K w.params).In h)
  (F:∀ (w:World) (mg:Str->Option Value) (fa:Addr) (h:Heap),(K w.params).In h->h.Ns mainGlobals mg->mg d.name=some (.ref fa)->
   ∃ (fd:FuncData) (K':PySem.W.Frag) (HG:Hp),(∀ (s:Shared) (u:Value),BindsTo s fd ⟨[u],[]⟩ [(x,u)])/\K'.In h/\(∀ b u,HG b=some u->TupG K' h b u)/\GH mg HG/\
    ∀ base:Heap,K'.In base->base.Ns mainGlobals mg->FnOk l.prog w K' mg base (CX w) k fa fd [x] (spT K' mg))
  (hCX:∀ (w:World) (H:Hp) (s:Shared) (e:Value) (s':Shared),CX w [] H s (fun _ _ _=>False) e s'->False) :
  PySem.W.WalkO q loose XP YP l.row.toRowW d [] (fun f vs=>PySem.call f vs):=by
 refine Att.attach_call hn hdf fun w s₀ s₁ mg mb fa o pm cd doc a vs ns G Y ho hd hcd hmg hobj hints hlen hg=>?_
 obtain ⟨fd,K',HG,hb,KX,tg,gh,hF⟩:=F w mg fa _ (hY w _ Y) G.T.g hmg
 have rv:=vals_ints hints
 have lenV:=hints.length
 have sz:63 < sizeLine:=by decide
 have na:HG a=none:=by
  cases e:HG a with
  | none=>rfl
  | some u=>
   obtain ⟨o,xs,its,n,_,h1,h2,_⟩:=(tg a u e).ex
   rw [hobj] at h1
   cases h1
   injection h2 with h2
   exact absurd h2 (by decide)
 have core:∀ ob:Option HO,(∀ u,ob=some u->u=.frz { cls:=.type "list",data:=.seq vs.toArray } (.lst (ns.map V.int))/\K'.lookup a=none)->(∀ H:Hp,H a=ob->Scr K' H a ns)->
   codeAny (model l.prog w) callerA (.call (.ref fa) ⟨[.ref a],[]⟩) (fun r s'=>r=.ok (.ret (.bool true))/\OldK s₁.heap s'.heap/\s'.os=s₁.os/\AllBare s'.gens) s₁:=by
  intro ob hob hscr
  let H:Hp:=fun b=>if b=a then ob else HG b
  have Ha:H a=ob:=if_pos rfl
  have Hb:∀ b,b ≠ a->H b=HG b:=fun b hb=>if_neg hb
  have sub:∀ b u,HG b=some u->H b=some u:=fun b u e=>by
   rw [Hb b (fun z=>by rw [z,na] at e; cases e)]; exact e
  refine head_run (H:=H) KX G.T.g G.T.b G.T.builtins G.T.nolimit hg hr hF hb ?_ ?_ ?_ ⟨gh.mono fun b u _ e=>sub b u e,a,ns,rfl,hscr H Ha,fun _=>rfl⟩ fun e s' h=>hCX w H s₁ e s' h
  ·intro b u e
   by_cases hb':b=a
   ·subst hb'
    rw [Ha] at e
    obtain ⟨rfl,_⟩:=hob u e
    exact ⟨_,_,_,_,rfl,rfl⟩
   ·rw [Hb b hb'] at e
    obtain ⟨o,xs,its,n,rfl,_,_,h3,_⟩:=(tg b u e).ex
    exact ⟨_,_,_,_,rfl,h3⟩
  ·intro b u e
   by_cases hb':b=a
   ·subst hb'
    rw [Ha] at e
    exact (hob u e).2
   ·rw [Hb b hb'] at e
    exact (tg b u e).out
  ·intro b u e
   by_cases hb':b=a
   ·subst hb'
    rw [Ha] at e
    obtain ⟨rfl,_⟩:=hob u e
    exact ⟨hobj,by rw [List.length_map]; omega,vs,_,rv,hobj⟩
   ·rw [Hb b hb'] at e
    obtain ⟨o,xs,its,n,rfl,h1,h2,h3,h4,h5⟩:=(tg b u e).ex
    exact ⟨h1,h4,its.toList,h5,o,h1,h2,n,by simpa using h3⟩
 cases hk:K'.lookup a with
 | some oo=>
  have e:=KX a oo hk
  rw [hobj] at e
  cases e
  exact core none (fun u e=>by cases e) fun H hH=>⟨hlen,.inr ⟨_,vs.toArray,_,hk,rfl,rfl,rfl,by rw [List.size_toArray,lenV]; omega,by simpa using rv⟩⟩
 | none=>exact core (some _) (fun u e=>by cases e; exact ⟨rfl,hk⟩) fun H hH=>⟨hlen,.inl ⟨_,hH⟩⟩
noncomputable def dropA (gs:List Addr) (K:PySem.W.Frag):PySem.W.Frag:=K.filter fun p=>!gs.contains p.1
theorem drop_in {gs:List Addr} {K:PySem.W.Frag} {h:Heap} (X:K.In h) (hK:∀ b o,(dropA gs K).lookup b=some o->K.lookup b=some o):(dropA gs K).In h:=fun b o e=>X b o (hK b o e)
theorem drop_sub {gs:List Addr}:∀ {K:PySem.W.Frag} {b:Addr} {o:Obj},(dropA gs K).lookup b=some o->K.lookup b=some o/\b ∉ gs
 | [],b,o,e=>by cases e
 | (c,u) :: K,b,o,e=>by
  unfold dropA at e
  rw [List.filter_cons] at e
  by_cases hc:gs.contains c=true
  ·rw [if_neg (by rw [hc]; simp)] at e
   obtain ⟨h1,h2⟩:=drop_sub (K:=K) e
   refine ⟨?_,h2⟩
   rw [List.lookup_cons]
   have:(b == c)=false:=by
    cases hb:b == c with
    | false=>rfl
    | true=>
     have:b=c:=by simpa using hb
     subst this
     exact absurd (by simpa using hc) h2
   rw [this]
   exact h1
  ·rw [if_pos (by simpa using hc)] at e
   rw [List.lookup_cons] at e ⊢
   cases hb:b == c with
   | true=>
    rw [hb] at e
    have:b=c:=by simpa using hb
    subst this
    exact ⟨e,by simpa using hc⟩
   | false=>
    rw [hb] at e
    exact drop_sub (K:=K) e
theorem two_tups {K:PySem.W.Frag} {h:Heap} {mg:Str->Option Value} {g1 g2 g3:Addr} {a1 a2 a3:Option Addr} {t:Tok} {n1 n2 n3:Nat} {s1 s2 s3:Array (Option Value)} (X:K.In h) (l1:K.lookup g1=some ⟨.type "tuple",a1,.seq #[.int 0 t,.ref g2] n1,s1⟩)
  (l2:K.lookup g2=some ⟨.type "tuple",a2,.seq #[] n2,s2⟩) (l3:K.lookup g3=some ⟨.type "tuple",a3,.seq #[] n3,s3⟩) (m1:mg "ANY_ZONE" = some (.ref g1)) (m2:mg "NO_DEEDS" = some (.ref g3)) :
  ∃ HG:Hp,(∀ b u,HG b=some u->TupG (dropA [g1,g2,g3] K) h b u)/\GH mg HG:=by
 have sz:63 < sizeLine:=by decide
 have n12:g2 ≠ g1:=fun z=>by rw [z,l1] at l2; cases l2
 have n13:g3 ≠ g1:=fun z=>by rw [z,l1] at l3; cases l3
 have out:∀ b,b ∈ [g1,g2,g3]->(dropA [g1,g2,g3] K).lookup b=none:=fun b hb=>by
  cases e:(dropA [g1,g2,g3] K).lookup b with
  | none=>rfl
  | some o=>exact absurd hb (drop_sub e).2
 let HG:Hp:=fun b=>if b=g1 then some (.frz ⟨.type "tuple",a1,.seq #[.int 0 t,.ref g2] n1,s1⟩ (.tup [.int 0,.ref g2])) else if b=g2 then some (.frz ⟨.type "tuple",a2,.seq #[] n2,s2⟩ (.tup [])) else if b=g3 then some (.frz ⟨.type "tuple",a3,.seq #[] n3,s3⟩ (.tup [])) else none
 have e1:HG g1=some (.frz ⟨.type "tuple",a1,.seq #[.int 0 t,.ref g2] n1,s1⟩ (.tup [.int 0,.ref g2])):=if_pos rfl
 have e2:HG g2=some (.frz ⟨.type "tuple",a2,.seq #[] n2,s2⟩ (.tup [])):=(if_neg n12).trans (if_pos rfl)
 have e3:∃ o,HG g3=some (.frz o (.tup [])):=by
  by_cases q:g3=g2
  ·exact ⟨_,by rw [q]; exact e2⟩
  ·exact ⟨_,(if_neg n13).trans ((if_neg q).trans (if_pos rfl))⟩
 refine ⟨HG,fun b u e=>?_,fun x d u hd hu=>?_⟩
 ·by_cases q1:b=g1
  ·subst q1
   rw [e1] at e
   cases e
   exact ⟨⟨_,_,_,_,rfl,X _ _ l1,rfl,rfl,by simp; omega,.cons ⟨_,rfl⟩ (.cons rfl .nil)⟩,out _ (by simp)⟩
  ·by_cases q2:b=g2
   ·subst q2
    rw [e2] at e
    cases e
    exact ⟨⟨_,_,_,_,rfl,X _ _ l2,rfl,rfl,by simp,.nil⟩,out _ (by simp)⟩
   ·by_cases q3:b=g3
    ·have e':=((if_neg q1).trans ((if_neg q2).trans (if_pos q3))).symm.trans e
     cases e'
     subst q3
     exact ⟨⟨_,_,_,_,rfl,X _ _ l3,rfl,rfl,by simp,.nil⟩,out _ (by simp)⟩
    ·have e':=((if_neg q1).trans ((if_neg q2).trans (if_neg q3))).symm.trans e
     cases e'
 ·unfold glob at hd
  split at hd
  ·rename_i hx
   subst hx
   cases hd
   rw [m1] at hu
   cases hu
   exact ⟨.ref g1,rfl,.tup (.inr ⟨⟨_,at_tup rfl e1⟩,rfl⟩) (.cons (.int 0) (.cons (.tup (.inr ⟨⟨_,at_tup rfl e2⟩,rfl⟩) .nil) .nil))⟩
  ·split at hd
   ·rename_i hx
    subst hx
    cases hd
    rw [m2] at hu
    cases hu
    obtain ⟨o,e3⟩:=e3
    exact ⟨.ref g3,rfl,.tup (.inr ⟨⟨o,at_tup rfl e3⟩,rfl⟩) .nil⟩
   ·cases hd
end L2.L3
namespace L2.L3
open PySem PySem.Spec PyProof.Rows
section
variable {X:Cx} {F:Fx} {E:Str->DEnv->Prop} {e ix:Expr} {x:Str} {p1 pos pos':Pos}
noncomputable def lsetK (i:Nat) (k:Int) (v:PyData):SM:=fun ρ=>match ρ[i]? with
 | some (some (.own io (.l ds)))=>(match ixN ds.length k with
  | some n=>.nx (ρ.set i (some (.own io (.l (ds.set n v)))))
  | none=>.bad)
 | _=>.bad
@[simp] noncomputable def sLset (i:Nat) (k:Int) (m:XM PyData):SM:=fun ρ=>ofX (m ρ) (lsetK i k)
theorem pe_m1 {n:Int} {j p q}:PE X (.UnaryOp .USub (.Constant (.int n) j p) q) (fun σ H Q=>Q (.int (-n)) H):=(pe_un un_neg pe_int).imp fun σ H Q h=>⟨n,rfl,h⟩
theorem fs_lset {i:Nat} {k:Int} {m:XM PyData} (hv:PE X (.Name x p1) (tVar i)) (hk:PE X ix (fun σ H Q=>Q (.int k) H)) (he:FE X F E e m)
  (hs:swapsWithSole [.Subscript (.Name x p1) ix pos'] e pos.line X.env=pure false:=by rfl) (hw:swappedStores [.Subscript (.Name x p1) ix pos'] e X.env=pure none:=by rfl)
  (h1:(assignEach [.Subscript (.Name x p1) ix pos'] X.env).map (·.2)=[assign (.Subscript (.Name x p1) ix pos') X.env]:=by rfl)
  (hq:∀ v,assign (.Subscript (.Name x p1) ix pos') X.env v=(do
   let ov <-holding [v] (eval (.Name x p1) X.env)
   let iv <-holding [v,ov] (eval ix X.env)
   standAt pos'
   holding [v,ov,iv] (setItem ov iv v)
   release [v,ov,iv] []):=by intro _; rfl) :
  FS X F E (.Assign [.Subscript (.Name x p1) ix pos'] e pos) (sLset i k m):=
 (ps_asg he.pe (pg_sub hv hk set_list hq) hs hw h1).imp fun D σ H ⟨ρ,O,DD,st,q,fD⟩=>⟨ρ,O,st,mn_wp _ _ _ (fun v ρ1 q1 vy H1 O1 st1 s1 d1=>by
  unfold wpS lsetK at q1
  cases h0:ρ1[i]? with
  | none=>rw [h0] at q1; exact q1.elim
  | some o=>
   rw [h0] at q1
   cases o with
   | none=>exact q1.elim
   | some c0=>
    cases c0 with
    | dat d=>exact q1.elim
    | scr d=>exact q1.elim
    | exc d=>exact q1.elim
    | vw d=>exact q1.elim
    | own io0 b0=>
     cases b0 with
     | m _ _=>exact q1.elim
     | o _ _=>exact q1.elim
     | sd _=>exact q1.elim
     | ll _=>exact q1.elim
     | l ds=>
      simp only at q1
      cases hn:ixN ds.length k with
      | none=>rw [hn] at q1; exact q1.elim
      | some n=>
       rw [hn] at q1
       obtain ⟨a,fp,hv0,⟨efp,xs,hH,hdv⟩,hin,up⟩:=st1.box h0
       subst efp
       obtain ⟨O2,st2,s2,_⟩:=up (upd H1 a (.lst (xs.set n vy))) (.l (ds.set n v)) [a] (fun c o hc e=>by rw [upd_ne (fun z=>hc (by simp [z]))]; exact e) (by simp) (fun c hc=>.inl hc) (fun G O' stp eG hO'=>by
        subst eG
        have sm:Same (hide O1 H1) (hide O' (upd H1 a (.lst (xs.set n vy)))):=stp.hid
        exact ⟨sm,rfl,xs.set n vy,upd_same,dvs_put (DV.mono sm d1) n (DVs.mono sm hdv)⟩)
       exact ⟨_,hv0,a,xs,k,n,rfl,rfl,hH,by rw [hdv.length]; exact hn,fD.nx _ _ _ _ st2 (s1.trans s2) q1⟩) (wpS_ofX (m:=m) (k:=lsetK i k) q)⟩
@[simp] noncomputable def xLix (i:Nat) (k:Int):XM PyData:=fun ρ=>match ρ[i]? with
 | some (some (.own _ (.l ds)))=>lift (atI ds k) ρ
 | _=>.bad
theorem fe_lix {i:Nat} {k:Int} (hv:PE X (.Name x p1) (tVar i)) (hk:PE X ix (fun σ H Q=>Q (.int k) H)) (hs:PlainIx ix:=by intro _ _; rfl):FE X F E (.Subscript (.Name x p1) ix pos) (xLix i k):=
 ⟨mn_wp,(pe_ix ix_list hv hk hs).imp fun σ H Q ⟨ρ,O,st,q⟩=>by
  unfold wp xLix at q
  cases h0:ρ[i]? with
  | none=>rw [h0] at q; exact q.elim
  | some o=>
   rw [h0] at q
   cases o with
   | none=>exact q.elim
   | some c0=>
    cases c0 with
    | dat d=>exact q.elim
    | scr d=>exact q.elim
    | exc d=>exact q.elim
    | vw d=>exact q.elim
    | own io0 b0=>
     cases b0 with
     | m _ _=>exact q.elim
     | o _ _=>exact q.elim
     | sd _=>exact q.elim
     | ll _=>exact q.elim
     | l ds=>
      simp only at q
      obtain ⟨d,e1,q2⟩:=wp_lift (o:=atI ds k) (ρ:=ρ) (E:=E) q
      obtain ⟨a,fp,hv0,⟨_,xs,hH,hdv⟩,_,_⟩:=st.box h0
      obtain ⟨w,ew,hw⟩:=atI_dv hdv e1
      exact ⟨_,hv0,a,xs,k,w,rfl,rfl,.of hH,ew,q2 w H O st .refl hw⟩⟩
end
end L2.L3
namespace L2.L3
open PySem PySem.Spec PyProof.Rows
noncomputable def GDicK (P:Program) (w:World) (K:PySem.W.Frag) (d:Addr) (kd:List (Str × Int)):Prop:=(d == sysModules)=false/\∃ (kvs:List (Str × Value)) (ep:Nat),
 (∀ h:Heap,K.In h->h.DictAt (strKind P w) d kvs ep)/\kvs.map (·.1)=kd.map (·.1)/\∀ k n,kd.lookup k=some n->∃ t,valueAt kvs k=some (.int n t)
structure Wn4 where
 k:Str
 n:Int
 t:Tok
 u:Tok
noncomputable def ent (w:World) (e:Wn4):DictEntry:=⟨hashStr w e.k,.str e.k e.t,.int e.n e.u⟩
theorem pairs_ent {P:Program} {w:World}:∀ L:List Wn4,Pairs (strKind P w) (L.map (ent w)) (L.map fun e=>(e.k,Value.int e.n e.u))
 | []=>.nil
 | e :: L=>.cons (by show Value.isStrOf e.k (.str e.k e.t)=true; simp [Value.isStrOf]) rfl (pairs_ent L)
theorem val_ent:∀ (L:List Wn4) (k:Str) (n:Int),(L.map fun e=>(e.k,e.n)).lookup k=some n->∃ t,valueAt (L.map fun e=>(e.k,Value.int e.n e.u)) k=some (.int n t)
 | [],k,n,e=>by cases e
 | e :: L,k,n,h=>by
  rw [List.map_cons,List.lookup_cons] at h
  by_cases q:k=e.k
  ·subst q
   simp at h
   subst h
   exact ⟨e.u,by simp [valueAt]⟩
  ·have:(k == e.k)=false:=by simpa using q
   rw [this] at h
   obtain ⟨t,ih⟩:=val_ent L k n h
   refine ⟨t,?_⟩
   rw [<-ih]
   unfold valueAt
   rw [List.map_cons,List.find?_cons_of_neg (by simpa using fun z:e.k=k=>q z.symm)]
theorem gdic_mk {P:Program} {w:World} {K:PySem.W.Frag} {d:Addr} {ep:Nat} (L:List Wn4) (hl:K.lookup d=some ⟨.type "dict",none,.dict (L.map (ent w)).toArray ep,#[]⟩) (nd:(L.map (·.k)).Nodup) (hs:(d == sysModules)=false):GDicK P w K d (L.map fun e=>(e.k,e.n)):=by
 refine ⟨hs,L.map fun e=>(e.k,Value.int e.n e.u),ep,fun h X=>⟨_,_,X _ _ hl,⟨rfl,rfl,rfl⟩,rfl,?_,by simpa using pairs_ent L,by simpa [Function.comp_def] using nd⟩,by simp [Function.comp_def],val_ent L⟩
 intro e he
 obtain ⟨x,_,rfl⟩:∃ x ∈ L,ent w x=e:=by simpa using he
 exact ⟨x.k,by show Value.isStrOf x.k (.str x.k x.t)=true; simp [Value.isStrOf],rfl⟩
end L2.L3
namespace L2
open PySem PySem.Spec PyProof.Rows
section
variable {X:Cx}
theorem call_anyB (hc:X.calm=true):CallR X (.builtin "any") (fun xs H Q=>∃ (l:Addr) (bs:List Bool),xs=[.ref l]/\H l=some (.lst (bs.map V.bl))/\Q (.bl (bs.any id)) H):=by
 intro pins s σ H xs us Q I r h
 obtain ⟨l,bs,rfl,hl,q⟩:=h
 obtain ⟨u,rfl,ru⟩:=vals1 r
 cases ru
 obtain ⟨z,its,n,rv,e⟩:=I.hok _ _ hl
 have L:s.heap.IsList l its.toArray:=⟨_,e,rfl,_,rfl⟩
 have hlt:l < s.heap.objs.size:=Heap.lt_size e
 have len:=rv.length
 rw [List.length_map] at len
 refine call_any_walk (wpAny_pyIter_list L ?_)
 refine ⟨s.heap.objs.size,_,_,_,_,_,fun i=>bs.getD i false,rfl,Walks.list (A:=X.A.in1) (show X.A.in1.handled=none from I.ok.hd hc) s.heap.objs.size l (Nat.ne_of_lt hlt) its.toArray,⟨⟨_,Heap.get?_push_size _ rfl,rfl,rfl⟩,L.push _⟩,?_,fun h' tk hk=>?_⟩
 ·intro i v s' Q' E' hv hq
  have hi:its[i]? = some v:=by simpa using hv
  have hlt:i < bs.length:=by rw [len]; exact (List.getElem?_eq_some_iff.mp hi).1
  obtain ⟨w,hw,rw'⟩:=rv.get (i:=i) (x:=.bl bs[i]) (by rw [List.getElem?_map,List.getElem?_eq_getElem hlt]; rfl)
  rw [hi] at hw
  cases hw
  cases rw'
  refine wpAny_truthy_bool ?_
  have:bs.getD i false=bs[i]:=by simp [List.getD,hlt]
  have hq:Q' (bs.getD i false) s':=hq
  rw [this] at hq
  exact hq
 ·have e1:(List.range its.toArray.size).any (fun i=>bs.getD i false)=bs.any id:=by
   rw [List.size_toArray,<-len]
   rw [Bool.eq_iff_iff,List.any_eq_true,List.any_eq_true]
   constructor
   ·rintro ⟨i,hi,h⟩
    have hi':=List.mem_range.mp hi
    exact ⟨bs[i],List.getElem_mem hi',by simpa [List.getD,hi'] using h⟩
   ·rintro ⟨b,hb,h⟩
    obtain ⟨i,hi,rfl⟩:=List.getElem_of_mem hb
    exact ⟨i,List.mem_range.mpr hi,by simpa [List.getD,hi] using h⟩
  rw [e1]
  exact ⟨.bl (bs.any id),H,I.kept fun b o eb=>hk b o (fun zz=>absurd (Heap.lt_size eb) (by rw [List.mem_singleton.mp zz]; exact Nat.lt_irrefl _)) (Heap.get?_push_of_some _ eb),rfl,q⟩
end
end L2
namespace L2.L3
open PySem PySem.Spec PyProof.Rows
noncomputable def fAny:DN:=fun xs Q=>∃ bs:List Bool,xs=[.list (bs.map .bool)]/\Q (.bool (bs.any id))
theorem n_any:OpN (fun xs H Q=>∃ (l:Addr) (bs:List Bool),xs=[.ref l]/\H l=some (.lst (bs.map V.bl))/\Q (.bl (bs.any id)) H) fAny where
 mn:=fun _ _ _ k ⟨bs,e,q⟩=>⟨bs,e,k _ q⟩
 ok:=fun O H vs xs Q hO hd ⟨bs,e,q⟩=>by
  subst e
  obtain ⟨x,rfl,h1⟩:=dvs1 hd
  obtain ⟨a,ys,rfl,ha,hy⟩:=h1.lst_inv
  exact ⟨a,bs,rfl,by rw [(of_hide ha).1,dvs_bools hy],q _ H (fun _ _ h=>h) (.bl _)⟩
noncomputable def nAny:List PyData->Option PyData:=fun xs=>match xs with
 | [.list ds]=>(bools? ds).map fun bs=>.bool (bs.any id)
 | _=>none
theorem fn_any:FN fAny nAny:=fun xs d Q e q=>by
 unfold nAny at e
 split at e
 ·obtain ⟨bs,e1,e2⟩:=Option.map_eq_some_iff.mp e
  rw [bools_of e1]
  subst e2
  exact ⟨bs,rfl,q⟩
 ·cases e
end L2.L3
namespace L2.TS
open PySem PyProof.Rows PySem.W
section
variable {prog:Program} {w:World} {A:Around} {E:Value->Shared->Prop} {s:Shared} {r d:Addr} {κ':Type} [DecidableEq κ'] {knd:PySem.KeyKind prog w κ'} {kvs:List (κ' × Value)} {ep:Nat}
theorem sorted_items {Q:Value->Shared->Prop} (hh:A.handled=none) (hv:s.heap.IsItemsView r d) (hm:s.heap.DictAt knd d kvs ep) (hn:kvs.length<=sizeLine) (h64:kvs.length < 64)
  (h:∀ (h1:Heap) (tk:Nat) (as:List Addr),(∀ b o,s.heap.get? b=some o->h1.get? b=some o)->as.length=kvs.length->KdxG knd kvs s.heap.objs.size h1 as->∃ rk κ,KOk prog w h1 (as.map Value.ref) rk κ/\
   ∀ (out:List Value) (h2:Heap) (m:Nat),out.Perm (as.map Value.ref)->out.Pairwise (fun x y=>lexLe (rk x) (rk y)=true)->(∀ b o,h1.get? b=some o->h2.get? b=some o)->h2.get? h1.objs.size=some (seqObj "list" out.toArray m)->Q (.ref h1.objs.size) { s with heap:=h2,toks:=tk }) :
  wpAny (model prog w) A (call (.builtin "sorted") [.ref r]) Q E s:=by
 refine Calls.call_function_entry kind_sorted plain_sorted entry_sorted (args_sorted1 _) ?_
 unfold Builtin.«sorted»
 refine wpAny_bind (m:=checkCount "sorted" 1 1 _) (wpAny_pure ?_)
 refine wpAny_bind (kdx_collect (A:=A.in1) hh hv hm hn fun g tk as gk hl hG=>?_)
 have hz:(as.map Value.ref).length<=sizeLine:=by rw [List.length_map,hl]; exact hn
 obtain ⟨rk,κ,k,fin⟩:=h g tk as gk hl hG
 refine wpAny_bind (wpAny_newList ?_ hz)
 have atL:(g.push (seqObj "list" (as.map Value.ref).toArray 0)).get? g.objs.size=some (seqObj "list" (as.map Value.ref).toArray 0):=Heap.get?_push_size _ rfl
 have hb:∀ b o,g.get? b=some o->b ≠ g.objs.size/\(g.push (seqObj "list" (as.map Value.ref).toArray 0)).get? b=some o:=fun b o e=>⟨Nat.ne_of_lt (Heap.lt_size e),Heap.get?_push_of_some _ e⟩
 refine wpAny_bind (wpAny_holding (wpAny_call_entry slot_list_sort ⟨_,atL,rfl⟩ entry_list_sort (sort_any atL hz (runs_few (by rw [List.length_map,hl]; exact h64)) k hb fun out p1 p2=>⟨_,rfl,?_⟩) (args_list_sort _)))
 refine wpAny_pure ⟨_,rfl,?_⟩
 obtain ⟨e1,at1⟩:∃ e1,((g.push (seqObj "list" (as.map Value.ref).toArray 0)).update g.objs.size (Obj.mapSeq fun _=>#[])).get? g.objs.size=some (seqObj "list" #[] e1):=⟨_,get?_update_seq atL fun _=>#[]⟩
 have at2:((((g.push (seqObj "list" (as.map Value.ref).toArray 0)).update g.objs.size (Obj.mapSeq fun _=>#[])).push (seqObj "tuple" (as.map Value.ref).toArray 0)).push (seqObj "list" #[] 0)).get? g.objs.size=some (seqObj "list" #[] e1):=Heap.get?_push_of_some _ (Heap.get?_push_of_some _ at1)
 refine fin out _ _ p1 p2 (fun b o e=>?_) (get?_update_seq at2 fun _=>out.toArray)
 have q:=hb b o e
 unfold sortedHeap
 rw [Heap.get?_update_ne _ _ _ _ q.1]
 refine Heap.get?_push_of_some _ (Heap.get?_push_of_some _ ?_)
 rw [Heap.get?_update_ne _ _ _ _ q.1]
 exact q.2
end
end L2.TS
namespace L2
open PySem PySem.Spec PyProof.Rows
section
variable {X:Cx} {pins:List (Addr × Obj)} {σ:St} {s:Shared}
theorem track_rows:∀ (L:List (Addr × Int × Int)) {H:Hp},Inv X pins σ H s->(L.map (·.1)).Nodup->(∀ x ∈ L,FpOk X pins H x.1/\∃ t u n,s.heap.get? x.1=some { cls:=.type "tuple",data:=.seq #[.int x.2.1 t,.int x.2.2 u] n })->
  ∃ H2,Inv X pins σ H2 s/\Same H H2/\(∀ x ∈ L,H2 x.1=some (.tup [.int x.2.1,.int x.2.2]))/\∀ b,b ∉ L.map (·.1)->H2 b=H b
 | [],H,I,_,_=>⟨H,I,fun _ _ e=>e,fun x hx=>absurd hx (by simp),fun _ _=>rfl⟩
 | x :: L,H,I,nd,h=>by
  obtain ⟨n1,n2⟩:=List.nodup_cons.mp nd
  obtain ⟨f,t,u,n,e⟩:=h x List.mem_cons_self
  have I1:Inv X pins σ (upd H x.1 (.tup [.int x.2.1,.int x.2.2])) s:=I.track f ⟨by show 2<=sizeLine; decide,[.int x.2.1 t,.int x.2.2 u],.cons ⟨t,rfl⟩ (.cons ⟨u,rfl⟩ .nil),⟨_,e,rfl,n,rfl⟩⟩
  obtain ⟨H2,J,sm,hr,ot⟩:=track_rows L I1 n2 fun y hy=>by
   obtain ⟨g,r⟩:=h y (List.mem_cons_of_mem _ hy)
   have ne:y.1 ≠ x.1:=fun z=>n1 (List.mem_map.mpr ⟨y,hy,z⟩)
   exact ⟨⟨by rw [upd_ne ne]; exact g.1,g.2⟩,r⟩
  refine ⟨H2,J,fun b o q=>sm b o (same_upd f.1 b o q),fun y hy=>?_,fun b hb=>?_⟩
  ·rcases List.mem_cons.mp hy with rfl | hy
   ·exact sm _ _ upd_same
   ·exact hr y hy
  ·rw [List.map_cons,List.mem_cons,not_or] at hb
   rw [ot b hb.2,upd_ne hb.1]
end
end L2
namespace L2
open PySem PySem.Spec PyProof.Rows
noncomputable def refOf:Value->Addr
 | .ref b=>b
 | _=>0
theorem paired_at {α β:Type} {R:α->β->Prop}:∀ {xs:List α} {ys:List β},Paired R xs ys->∀ {j:Nat} {y:β},ys[j]? = some y->∃ x,xs[j]? = some x/\R x y
 | _,_,.nil,_,_,e=>by simp at e
 | _,_,.cons h t,0,y,e=>by simp at e; subst e; exact ⟨_,by simp,h⟩
 | _,_,.cons h t,j + 1,y,e=>by
  obtain ⟨x,h1,h2⟩:=paired_at t (j:=j) (by simpa using e)
  exact ⟨x,by simpa using h1,h2⟩
theorem paired_map {α β:Type} {R:α->β->Prop} {f:α->β}:∀ {xs:List α},(∀ x ∈ xs,R x (f x))->Paired R xs (xs.map f)
 | [],_=>.nil
 | x :: xs,h=>.cons (h x List.mem_cons_self) (paired_map fun y hy=>h y (List.mem_cons_of_mem _ hy))
theorem refs_vals:∀ qs:List Addr,Vals (qs.map V.ref) (qs.map Value.ref)
 | []=>.nil
 | q :: qs=>.cons rfl (refs_vals qs)
section
variable {X:Cx} {pins:List (Addr × Obj)} {σ:St} {H:Hp} {s:Shared} {i:Nat} {x:Str} {v:V} {pos:Pos}
theorem ld_var (I:Inv X pins σ H s) (hN:X.N[i]? = some x) (hv:Vis X.env.scope x) (e:σ[i]? = some (some v)) (hd:(x == ("__debug__":Str))=false:=by decide) (hcd:(x == ("__classdict__":Str))=false:=by decide) :
  ∃ u,RelV v u/\∀ (E:Value->Shared->Prop) (Q:Value->Shared->Prop),Q u s->wpAny (model X.prog X.w) X.A (eval (.Name x pos) X.env) Q E s:=by
 obtain ⟨m,hn,hl⟩:=I.loc
 obtain ⟨u,r,l⟩:=hl i x v hN e hv
 refine ⟨u,r,fun E Q fin=>?_⟩
 rcases l with ⟨hk,hm⟩ | ⟨hk,c,hc,hcell⟩
 ·exact wpAny_Name (wpAny_loadName_local I.ok.kind hk hn hm fin) hd
 ·rcases hk with hk | hk
  ·exact wpAny_Name (wpAny_loadName_cell I.ok.kind hk hc hcell fin) hd
  ·exact wpAny_Name (wpAny_loadName_free I.ok.kind hk hc hcell fin hcd) hd
noncomputable def tItems (i:Nat):TE:=fun σ H Q=>∃ (a:Addr) (ns:List (Int × Int)),ns.length < 64/\σ[i]? = some (some (.ref a))/\H a=some (.dK (ns.map fun p=>(.inl p.1,.int p.2)))/\
 ∀ (p:Addr) (H2:Hp) (qs:List Addr),Same H H2->H p=none->H2 p=some (.lst (qs.map V.ref))->(∀ q ∈ qs,H q=none)->Paired (fun (q:Addr) (row:List Int)=>H2 q=some (.tup (row.map V.int))) qs (TS.sortR (ns.map fun p=>[p.1,p.2]))->Q (.ref p) H2
theorem pe_items {p p1 apos ipos:Pos} (hc:X.calm=true) (hg:Gl X "sorted") (hm:X.mg "sorted" = none) (hN:X.N[i]? = some x) (hv:Vis X.env.scope x) (hd:(x == ("__debug__":Str))=false:=by decide) (hcd:(x == ("__classdict__":Str))=false:=by decide)
  (hbase:attributeBase (.Name x p1) "items" X.env (eval (.Name x p1) X.env)=eval (.Name x p1) X.env:=by rfl) (hline:(apos.endLine == ipos.line)=true:=by rfl)
  (he:starEach [.Call (.Attribute (.Name x p1) "items" apos) [] [] ipos] X.env=(false,eval (.Call (.Attribute (.Name x p1) "items" apos) [] [] ipos) X.env) :: starEach [] X.env:=by rfl) (hpl:(backTo pos (starEach [] X.env)).any (·.1)=false:=by rfl) :
  PE X (.Call (.Name "sorted" p) [.Call (.Attribute (.Name x p1) "items" apos) [] [] ipos] [] pos) (tItems i):=by
 intro pins s σ H Q I ⟨a,ns,h64,ea,eH,q⟩
 obtain ⟨u,ru,ld⟩:=ld_var (pos:=p1) I hN hv ea hd hcd
 cases ru
 obtain ⟨hz,hS,vs,kv,dd⟩:=dk_of I.hok eH
 obtain ⟨ep,da⟩:=dd.dictAt
 refine wpAny_Call_Name_kw (ld_blt I hg hm (show bootBuiltins "sorted" = some (.builtin "sorted") by decide +kernel) ?_ (by decide) (by decide))
 refine PyProof.Rows.callWith_builtin1 ?_ he hpl
 rw [he]
 show wpAny _ _ (spliced ((false,eval (.Call (.Attribute (.Name x p1) "items" apos) [] [] ipos) X.env) :: backTo pos (starEach [] X.env))) _ _ s
 refine Calls.spliced_cons (wpAny_Call_items hS dd hbase hline (fun Q' h=>ld _ Q' h) ?_)
 refine Calls.spliced_nil ?_
 have I1:Inv X pins σ H { s with heap:=s.heap.push { cls:=.type "dict_items",data:=.fields #[.ref a] } }:=I.kept (t':=s.toks) fun b o e=>Heap.get?_push_of_some _ e
 have lv:vs.length=ns.length:=by have:=Paired.length kv; simpa using this.symm
 refine TS.sorted_items (knd:=mixKind X.prog X.w) (kvs:=vs) (ep:=ep) (d:=a) (I.ok.hd hc) ⟨_,Heap.get?_push_size _ rfl,rfl,rfl⟩ (da.push _) (by rw [lv]; simpa using hz) (by rw [lv]; exact h64) fun h1 tk as keep1 hl hG=>?_
 have item:∀ (j:Nat) (b:Addr),as[j]? = some b->∃ n1 n2 t u,ns[j]? = some (n1,n2)/\h1.get? b=some { cls:=.type "tuple",data:=.seq #[.int n1 t,.int n2 u] }:=fun j b e=>by
  obtain ⟨key,k,y,e1,e2,e3⟩:=hG.pairs j b e
  obtain ⟨pv,e4,e5,e6⟩:=paired_at kv e1
  rw [List.getElem?_map] at e4
  obtain ⟨⟨n1,n2⟩,en,rfl⟩:=Option.map_eq_some_iff.mp e4
  obtain ⟨u,hy⟩:=(show ∃ t,y=Value.int n2 t from e6)
  have ek:(Sum.inl n1:Key)=k:=e5
  subst ek
  rcases keyIs_shape (show keyIs (.inl n1) key=true from e2) with ⟨n',t,e7,e8⟩ | ⟨z,t,e7,e8⟩
  ·cases e7
   exact ⟨n1,n2,t,u,en,by rw [e3,e8,hy]⟩
  ·cases e7
 have rk:∀ (j:Nat) (b:Addr),as[j]? = some b->∃ n1 n2,ns[j]? = some (n1,n2)/\TS.rkH h1 (.ref b)=[n1,n2]:=fun j b e=>by
  obtain ⟨n1,n2,t,u,e1,e2⟩:=item j b e
  exact ⟨n1,n2,e1,by unfold TS.rkH; simp only [e2]; rfl⟩
 refine ⟨TS.rkH h1,_,TS.kok_tups fun v hv'=>?_,fun out h2 m p1 p2 keep2 atL=>?_⟩
 ·obtain ⟨b,hb,rfl⟩:=List.mem_map.mp hv'
  obtain ⟨j,hj⟩:=List.getElem?_of_mem hb
  obtain ⟨n1,n2,t,u,e1,e2⟩:=item j b hj
  exact ⟨b,_,[n1,n2],rfl,⟨_,e2,rfl,_,rfl⟩,.cons n1 t (.cons n2 u .nil),by simp⟩
 ·have mo:∀ v ∈ out,v=.ref (refOf v):=fun v hv'=>by
   obtain ⟨b,_,rfl⟩:=List.mem_map.mp (p1.mem_iff.mp hv')
   rfl
  have eo:out=(out.map refOf).map Value.ref:=by
   rw [List.map_map]
   conv=>lhs; rw [<-List.map_id out]
   exact List.map_congr_left fun v hv'=>mo v hv'
  have pq:(out.map refOf).Perm as:=by
   have:=p1.map refOf
   rw [List.map_map] at this
   exact this.trans (.of_eq (by simp [Function.comp_def,refOf]))
  generalize out.map refOf=qs at eo pq
  subst eo
  have I2:Inv X pins σ H { s with heap:=h2,toks:=tk }:=I.kept fun b o e=>keep2 b o (keep1 b o (Heap.get?_push_of_some _ e))
  have big:∀ b,s.heap.objs.size<=b->H b=none:=fun b hb=>I.hok.fresh hb
  have up:∀ b ∈ qs,s.heap.objs.size<=b/\b < h1.objs.size:=fun b hb=>by
   have h':=pq.mem_iff.mp hb
   have h1':(s.heap.push { cls:=.type "dict_items",data:=.fields #[.ref a] }).objs.size < b:=hG.above b h'
   have h2':(s.heap.push { cls:=.type "dict_items",data:=.fields #[.ref a] }).objs.size=s.heap.objs.size + 1:=by simp [Heap.push]
   rw [h2'] at h1'
   exact ⟨Nat.le_of_lt (Nat.lt_of_succ_lt h1'),hG.there h'⟩
  have val:∀ b ∈ qs,∃ n1 n2 t u,TS.rkH h1 (.ref b)=[n1,n2]/\h1.get? b=some { cls:=.type "tuple",data:=.seq #[.int n1 t,.int n2 u] }:=fun b hb=>by
   obtain ⟨j,hj⟩:=List.getElem?_of_mem (pq.mem_iff.mp hb)
   obtain ⟨n1,n2,t,u,e1,e2⟩:=item j b hj
   exact ⟨n1,n2,t,u,by unfold TS.rkH; simp only [e2]; rfl,e2⟩
  have nd:qs.Nodup:=pq.nodup_iff.mpr (hG.rise.imp fun h z=>by rw [z] at h; exact absurd h (Nat.lt_irrefl _))
  have mq:(qs.map fun b=>(b,(TS.rkH h1 (.ref b)).getD 0 0,(TS.rkH h1 (.ref b)).getD 1 0)).map (·.1)=qs:=by simp [Function.comp_def]
  obtain ⟨H2,J,sm,hr,ot⟩:=track_rows (qs.map fun b=>(b,(TS.rkH h1 (.ref b)).getD 0 0,(TS.rkH h1 (.ref b)).getD 1 0)) I2 (by rw [mq]; exact nd) fun y hy=>by
   obtain ⟨b,hb,rfl⟩:=List.mem_map.mp hy
   obtain ⟨n1,n2,t,u,e1,e2⟩:=val b hb
   refine ⟨I.fpOk (up b hb).1 (big b (up b hb).1),t,u,0,?_⟩
   rw [e1]
   exact keep2 _ _ e2
  rw [mq] at ot
  have pz:s.heap.objs.size<=h1.objs.size:=by
   have:=keep1 s.heap.objs.size _ (Heap.get?_push_size _ rfl)
   exact Nat.le_of_lt (Heap.lt_size this)
  have np:h1.objs.size ∉ qs:=fun z=>Nat.lt_irrefl _ (up _ z).2
  have Hp0:H2 h1.objs.size=none:=by rw [ot _ np]; exact big _ pz
  have f:=I.fpOk (H':=H2) pz Hp0
  have lq:qs.length=ns.length:=by rw [pq.length_eq,hl,lv]
  have J2:Inv X pins σ (upd H2 h1.objs.size (.lst (qs.map V.ref))) { s with heap:=h2,toks:=tk }:=J.track f ⟨by rw [List.length_map,lq]; simpa using hz,qs.map Value.ref,m,refs_vals qs,atL⟩
  refine ⟨.ref h1.objs.size,_,J2,rfl,q _ _ qs (fun b o e=>same_upd Hp0 b o (sm b o e)) (big _ pz) upd_same (fun b hb=>big b (up b hb).1) ?_⟩
  have rows:qs.map (fun b=>TS.rkH h1 (.ref b))=TS.sortR (ns.map fun p=>[p.1,p.2]):=by
   refine TS.sortR_of ((pq.map _).trans (.of_eq ?_)) (by rw [List.pairwise_map] at p2 ⊢; exact p2)
   apply List.ext_getElem?
   intro j
   rw [List.getElem?_map,List.getElem?_map]
   cases e:as[j]? with
   | none=>
    have:as.length<=j:=List.getElem?_eq_none_iff.mp e
    rw [List.getElem?_eq_none (by omega)]; rfl
   | some b=>
    obtain ⟨n1,n2,e1,e2⟩:=rk j b e
    rw [e1]
    simp [e2]
  rw [<-rows]
  refine paired_map fun b hb=>?_
  obtain ⟨n1,n2,t,u,e1,e2⟩:=val b hb
  have:=hr (b,(TS.rkH h1 (.ref b)).getD 0 0,(TS.rkH h1 (.ref b)).getD 1 0) (List.mem_map.mpr ⟨b,hb,rfl⟩)
  rw [e1] at this ⊢
  rw [upd_ne (fun z=>np (by rw [z] at hb; exact hb))]
  exact this
end
end L2
namespace L2.L3
open PySem PySem.Spec PyProof.Rows
noncomputable def pairsI:KVs->Option (List (Int × Int))
 | []=>some []
 | (.int k,.int v) :: r=>(pairsI r).map fun l=>(k,v) :: l
 | _ :: _=>none
noncomputable def xItems (i:Nat):XM PyData:=fun ρ=>lift (match asR ρ i with
 | some (false,kvs)=>(pairsI kvs).bind fun ns=>if 64<=ns.length then none else some <| .list ((TS.sortR (ns.map fun p=>[p.1,p.2])).map fun r=>.tuple (r.map PyData.int))
 | _=>none) ρ
theorem pairs_ks {G:Hp}:∀ {ks:List (Key × V)} {kvs:KVs} {ns:List (Int × Int)},Paired (fun (p:Key × V) (q:PyData × PyData)=>keyD p.1=q.1/\DV G p.2 q.2) ks kvs->pairsI kvs=some ns->ks=ns.map fun p=>(.inl p.1,.int p.2)
 | _,_,ns,.nil,e=>by cases e; rfl
 | _,_,ns,.cons (a:=p) (b:=c) h t,e=>by
  obtain ⟨h1,h2⟩:=h
  obtain ⟨c1,c2⟩:=c
  unfold pairsI at e
  split at e
  ·rename_i q; cases q
  ·rename_i k v r q
   cases q
   obtain ⟨l,e1,rfl⟩:=Option.map_eq_some_iff.mp e
   rw [pairs_ks t e1,List.map_cons]
   obtain ⟨p1,p2⟩:=p
   have hv:p2=.int v:=DV.int_inv h2
   have hk:p1=.inl k:=by
    cases p1 with
    | inl n=>cases h1; rfl
    | inr z=>cases h1
   rw [hv,hk]
  ·cases e
section
variable {X:Cx} {F:Fx} {E:Str->DEnv->Prop} {pos p p1 apos ipos:Pos} {x:Str}
theorem fe_items (i:Nat) (hc:X.calm=true) (hg:Gl X "sorted") (hm:X.mg "sorted" = none) (hN:X.N[i]? = some x:=by rfl) (hv:Vis X.env.scope x:=by first | exact Or.inl rfl | exact Or.inr (Or.inl rfl) | exact Or.inr (Or.inr rfl)) (hd:(x == ("__debug__":Str))=false:=by decide) (hcd:(x == ("__classdict__":Str))=false:=by decide)
  (hbase:attributeBase (.Name x p1) "items" X.env (eval (.Name x p1) X.env)=eval (.Name x p1) X.env:=by rfl) (hline:(apos.endLine == ipos.line)=true:=by rfl)
  (he:starEach [.Call (.Attribute (.Name x p1) "items" apos) [] [] ipos] X.env=(false,eval (.Call (.Attribute (.Name x p1) "items" apos) [] [] ipos) X.env) :: starEach [] X.env:=by rfl) (hpl:(backTo pos (starEach [] X.env)).any (·.1)=false:=by rfl) :
  FE X F E (.Call (.Name "sorted" p) [.Call (.Attribute (.Name x p1) "items" apos) [] [] ipos] [] pos) (xItems i):=
 ⟨mn_wp,(pe_items hc hg hm hN hv hd hcd hbase hline he hpl).imp fun σ H Q ⟨ρ,O,st,q⟩=>by
  obtain ⟨y,e1,q2⟩:=wp_lift q
  cases hm:asR ρ i with
  | none=>rw [hm] at e1; cases e1
  | some pr=>
   obtain ⟨tk,kvs⟩:=pr
   cases tk with
   | true=>rw [hm] at e1; cases e1
   | false=>
    rw [hm] at e1
    obtain ⟨ns,e2,e3⟩:=Option.bind_eq_some_iff.mp e1
    have h64:ns.length < 64:=by
     by_cases q:64<=ns.length
     ·rw [if_pos q] at e3; cases e3
     ·omega
    rw [if_neg (by omega)] at e3
    cases e3
    obtain ⟨a,ks,h1,h2,h3⟩:=asR_dk st hm
    rw [pairs_ks h3 e2] at h2
    refine ⟨a,ns,h64,h1,h2,fun p H2 qs sm hp hl hq hr=>?_⟩
    refine q2 _ H2 O (st.grow sm) (.same sm) (.lst (hide_of hl (st.nofree p hp)) ?_)
    have go:∀ (qs:List Addr) (rows:List (List Int)),(∀ b ∈ qs,H b=none)->Paired (fun (q:Addr) (row:List Int)=>H2 q=some (.tup (row.map V.int))) qs rows->DVs (hide O H2) (qs.map V.ref) (rows.map fun r=>.tuple (r.map PyData.int)):=fun qs=>by
     induction qs with
     | nil=>intro rows _ h; cases h; exact .nil
     | cons b qs ih=>
      intro rows hn h
      cases h with
      | cons h t=>exact .cons (.tup (.inl (hide_of h (st.nofree b (hn b List.mem_cons_self)))) (ints_dvs _)) (ih _ (fun c hc'=>hn c (List.mem_cons_of_mem _ hc')) t)
    exact go qs _ hq hr⟩
end
end L2.L3
namespace L2.L3
open PySem PySem.Spec PyProof.Rows
noncomputable def isBl (c:Bool):PyData->Bool
 | .bool b=>b == c
 | _=>false
noncomputable def isBV (c:Bool):V->Bool
 | .bl b=>b == c
 | _=>false
section
variable {X:Cx} {F:Fx} {E:Str->DEnv->Prop} {a b:Expr} {pos:Pos} {ta tb:DT} {ma mb:XM PyData}
theorem op_isB {c:Bool}:OpR X (compareOp .Is) (fun x y H Q=>y=.bl c/\Q (.bl (isBV c x)) H):=by
 intro pins s σ H x y v u Q I rx ry h
 obtain ⟨rfl,q⟩:=h
 cases ry
 cases x with
 | bl b=>cases rx; exact is_bool (fin_bl I q rfl)
 | non=>cases rx; exact wpAny_pure (fin_bl I q rfl)
 | ref a=>cases rx; exact wpAny_pure (fin_bl I q rfl)
 | int i=>obtain ⟨t,rfl⟩:=rx; exact wpAny_pure (fin_bl I q rfl)
 | str i=>obtain ⟨t,rfl⟩:=rx; exact wpAny_pure (fin_bl I q rfl)
 | ty i=>cases rx; exact wpAny_pure (fin_bl I q rfl)
 | byt i=>obtain ⟨t,rfl⟩:=rx; exact wpAny_pure (fin_bl I q rfl)
 | flt i=>obtain ⟨t,rfl⟩:=rx; exact wpAny_pure (fin_bl I q rfl)
noncomputable def fIsB (c:Bool):D2:=fun x y Q=>y=.bool c/\Q (.bool (isBl c x))
theorem dv_bl {H:Hp} {v:V} {d:PyData} {c:Bool} (h:DV H v d):isBV c v=isBl c d:=by cases h <;> rfl
theorem o_isB {c:Bool}:Op2 (fun x y H Q=>y=.bl c/\Q (.bl (isBV c x)) H) (fIsB c) where
 mn:=fun _ _ _ _ k ⟨e,q⟩=>⟨e,k _ q⟩
 ok:=fun O H u v x y Q hO h1 h2 ⟨e,q⟩=>by
  subst e
  exact ⟨by cases h2; rfl,by rw [dv_bl h1]; exact q _ H (fun _ _ h=>h) (.bl _)⟩
@[simp] noncomputable def gIsB (c:Bool):PyData->PyData->Option PyData:=fun x y=>match y with | .bool b=>if b=c then some (.bool (isBl c x)) else none | _=>none
theorem f2_isB {c:Bool}:F2 (fIsB c) (gIsB c):=fun x y d Q e q=>by
 unfold gIsB at e
 split at e
 ·split at e
  ·rename_i h; subst h; cases e; exact ⟨rfl,q⟩
  ·cases e
 ·cases e
theorem fb_isB (c:Bool) (ha:FE X F E a ma) (hb:FE X F E b mb):FB X F E (.Compare a [.Is] [b] pos) (xTst (xOp (gIsB c) ma mb)):=fb_op f2_isB (db_cmp op_isB o_isB ha hb (nomark _))
end
end L2.L3
namespace L2.L3
open PySem PySem.Spec PyProof.Rows
noncomputable def asQ (ρ:DEnv) (i:Nat):Option (Bool × List (List PyData)):=match ρ[i]? with
 | some (some (.own io (.ll xs)))=>some (io,xs)
 | _=>none
theorem asQ_at {ρ:DEnv} {i:Nat} {io:Bool} {xs:List (List PyData)} (h:asQ ρ i=some (io,xs)):ρ[i]? = some (some (.own io (.ll xs))):=by
 unfold asQ at h
 split at h
 ·rename_i e; cases h; exact e
 ·cases h
theorem pq_get {α β:Type} {R:α->β->Prop} {x:β}:∀ {l:List α} {m:List β} (n:Nat),m[n]? = some x->Paired R l m->∃ b,l[n]? = some b/\R b x
 | _,_,_,e,.nil=>by simp at e
 | _,_,0,e,.cons h t=>by simp at e; subst e; exact ⟨_,rfl,h⟩
 | _,_,n + 1,e,.cons _ t=>pq_get n (by simpa using e) t
theorem pq_app {α β:Type} {R:α->β->Prop} {b:α} {x:β} (h:R b x):∀ {l:List α} {m:List β},Paired R l m->Paired R (l ++ [b]) (m ++ [x])
 | _,_,.nil=>.cons h .nil
 | _,_,.cons h' t=>.cons h' (pq_app h t)
theorem pq_mono {α β:Type} {R R':α->β->Prop} {l0:List α} (h:∀ b x,b ∈ l0->R b x->R' b x):∀ {l:List α} {m:List β},(∀ b ∈ l,b ∈ l0)->Paired R l m->Paired R' l m
 | _,_,_,.nil=>.nil
 | _,_,hl,.cons h' t=>.cons (h _ _ (hl _ List.mem_cons_self) h') (pq_mono h (fun b hb=>hl b (List.mem_cons_of_mem _ hb)) t)
section
variable {K:PySem.W.Frag} {F:Fx} {H:Hp} {σ:St} {ρ:DEnv} {O:List Addr}
theorem DSt.freezeLL (st:DSt K F H σ ρ O) {i:Nat} {ds:List (List PyData)} (e:ρ[i]? = some (some (.own false (.ll ds)))) :
  ∃ v O',σ[i]? = some (some v)/\DSt K F H σ (ρ.set i (some (.dat (.list (ds.map .list))))) O'/\Stp O H O' H/\DV (hide O' H) v (.list (ds.map .list)):=by
 obtain ⟨W,st,rfl⟩:=st
 obtain ⟨v,fp,h1,h2,a,rfl,bs,rfl,h3,h4⟩:=st.at_ i _ e
 have hi:i < ρ.length:=(List.getElem?_eq_some_iff.mp e).1
 have ndW:W.flatten.Nodup:=(List.nodup_append.mp st.nd).1
 have nin:∀ c ∈ a :: bs,c ∉ (W.set i []).flatten ++ F.O₀:=fun c hc z=>by
  rcases List.mem_append.mp z with z | z
  ·rcases mem_flat_set z with z | ⟨j,l,hj,ej,hl⟩
   ·cases z
   ·exact flat_disj ndW h2 ej (Ne.symm hj) hc hl
  ·exact (List.nodup_append.mp st.nd).2.2 c (mem_flat_of h2 hc) c z rfl
 have dv:Stp (W.flatten ++ F.O₀) H ((W.set i []).flatten ++ F.O₀) H->DV (hide ((W.set i []).flatten ++ F.O₀) H) (.ref a) (.list (ds.map .list)):=fun s=>by
  refine .lst (hide_of h3 (nin a List.mem_cons_self)) ?_
  have go:∀ (cs:List Addr) (ys:List (List PyData)),(∀ c ∈ cs,c ∈ a :: bs)->Paired (LlAt (hide (W.flatten ++ F.O₀) H) H) cs ys->DVs (hide ((W.set i []).flatten ++ F.O₀) H) (cs.map V.ref) (ys.map .list):=fun cs=>by
   induction cs with
   | nil=>intro ys _ h; cases h; exact .nil
   | cons c cs ih=>
    intro ys hm h
    cases h with
    | cons h t=>
     obtain ⟨vs,e1,e2⟩:=h
     exact .cons (.lst (hide_of e1 (nin c (hm c List.mem_cons_self))) (DVs.mono s.hid e2)) (ih _ (fun x hx=>hm x (List.mem_cons_of_mem _ hx)) t)
  exact go bs ds (fun c hc=>List.mem_cons_of_mem _ hc) h4
 obtain ⟨s1,s2⟩:=st.put (H':=H) (i:=i) (v:=.ref a) (c:=.dat (.list (ds.map .list))) (fp:=[]) hi (fun _ _ _ _ _ _=>rfl) (fun _ _=>rfl) (fun _ _ _ e=>e) List.nodup_nil (fun a h=>by cases h) (fun a h=>by cases h) (fun a h=>by cases h) (fun s=>dv s) (fun _ z=>by cases z)
 have eσ:σ.set i (some (.ref a))=σ:=by
  apply List.ext_getElem?
  intro j
  by_cases hj:j=i
  ·subst hj; rw [List.getElem?_set_self (List.getElem?_eq_some_iff.mp h1).1,h1]
  ·rw [List.getElem?_set_ne (Ne.symm hj)]
 rw [eσ] at s1
 exact ⟨_,_,h1,⟨_,s1,rfl⟩,s2,dv s2⟩
end
section
variable {X:Cx} {F:Fx} {E:Str->DEnv->Prop} {e ix jx:Expr} {es:List Expr} {x:Str} {p1 p2 pos pos':Pos}
noncomputable def xVL (i:Nat):XM PyData:=fun ρ=>match asQ ρ i with
 | some (false,xs)=>.ok (.list (xs.map .list)) (ρ.set i (some (.dat (.list (xs.map .list)))))
 | _=>.bad
theorem fe_vl {i:Nat} (hv:PE X (.Name x p1) (tVar i)):FE X F E (.Name x p1) (xVL i):=
 ⟨mn_wp,hv.imp fun σ H Q ⟨ρ,O,st,q⟩=>by
  unfold wp xVL at q
  cases h0:asQ ρ i with
  | none=>rw [h0] at q; exact q.elim
  | some p=>
   obtain ⟨io,xs⟩:=p
   cases io with
   | true=>rw [h0] at q; exact q.elim
   | false=>
    rw [h0] at q
    obtain ⟨v,O',h1,st2,s2,dv⟩:=st.freezeLL (asQ_at h0)
    exact ⟨v,h1,q v H O' st2 s2 dv⟩⟩
noncomputable def llAppK (i:Nat) (ds:List PyData):SM:=fun ρ=>match asQ ρ i with
 | some (io,xs)=>if xs.length < sizeLine then (if ds.length<=sizeLine then .nx (ρ.set i (some (.own io (.ll (xs ++ [ds]))))) else .bad) else .bad
 | none=>.bad
noncomputable def sLLApp (i:Nat) (m:XM (List PyData)):SM:=fun ρ=>match asQ ρ i with
 | some _=>ofX (m ρ) (llAppK i)
 | none=>.bad
theorem fs_llapp {i:Nat} {m:XM (List PyData)} {lp apos cpos:Pos} (hv:PE X (.Name x p1) (tVar i)) (he:FA X F E es m) (hsw:swapsWith (.Call (.Attribute (.Name x p1) "append" apos) [.List es lp] [] cpos) none pos.line X.env=pure false:=by rfl)
  (hbase:attributeBase (.Name x p1) "append" X.env (eval (.Name x p1) X.env)=eval (.Name x p1) X.env:=by rfl)
  (hfew:((backTo cpos (starEach [.List es lp] X.env)).all (fun x=>!x.1) && (backToKw cpos (keywordEach [] X.env)).all (fun x=>x.1.isSome) && decide (([.List es lp]:List Expr).length + ([]:List Keyword).length + (if ([]:List Keyword).isEmpty then 0 else 1) < 30))=true:=by rfl)
  (hline:(apos.endLine == cpos.line)=true:=by rfl) (hs:starEach [.List es lp] X.env=(false,eval (.List es lp) X.env) :: starEach [] X.env:=by rfl) (hplain:(backTo cpos (starEach [] X.env)).any (·.1)=false:=by rfl) :
  FS X F E (.Expr (.Call (.Attribute (.Name x p1) "append" apos) [.List es lp] [] cpos) pos) (sLLApp i m):=
 (ps_expr (pe_bm PySem.F.plainAttrs_list PySem.F.slot_list_append PySem.F.type_list_append mt_append hv (pa_cons (pe_lst he.pa) pa_nil hs) hbase hfew hline hs hplain) hsw).imp fun D σ H ⟨ρ,O,DD,st,q,f⟩=>by
  unfold wpS sLLApp at q
  cases h0:asQ ρ i with
  | none=>rw [h0] at q; exact q.elim
  | some p0=>
   obtain ⟨io0,xs0⟩:=p0
   rw [h0] at q
   obtain ⟨a,fp,hv0,⟨_,_,hH,_⟩,_,_⟩:=st.box (asQ_at h0)
   refine ⟨_,hv0,.inl ⟨rfl,_,.of hH⟩,ρ,O,st,he.mn _ _ _ (fun ds ρ1 q1 vs H1 O1 st1 s1 d1=>?_) (wpS_ofX (m:=m) (k:=llAppK i) q)⟩
   unfold wpS llAppK at q1
   cases h1:asQ ρ1 i with
   | none=>rw [h1] at q1; exact q1.elim
   | some p=>
    obtain ⟨io,xs⟩:=p
    rw [h1] at q1
    simp only at q1
    obtain ⟨a1,fp1,hv1,⟨bs,e1,hH1,hd⟩,hO,up⟩:=st1.box (asQ_at h1)
    rw [hv0] at hv1; cases hv1
    subst e1
    by_cases hz:xs.length < sizeLine
    ·rw [if_pos hz] at q1
     by_cases hz2:ds.length<=sizeLine
     ·rw [if_pos hz2] at q1
      have lb:bs.length=xs.length:=Paired.length hd
      refine ⟨by rw [d1.length]; exact hz2,fun b hb=>?_⟩
      have hba:b ≠ a:=fun z=>by subst z; rw [hH1] at hb; cases hb
      refine ⟨a,bs.map V.ref,.ref b,rfl,rfl,by rw [upd_ne (Ne.symm hba)]; exact hH1,by rw [List.length_map,lb]; exact hz,?_⟩
      have nfp:(a :: bs).Nodup:=by
       obtain ⟨W,stw,rfl⟩:=id st1
       obtain ⟨v',fp',g1,g2,g3⟩:=stw.at_ i _ (asQ_at h1)
       obtain ⟨a',ea,bs',efp,gH,_⟩:=g3
       rw [hv0] at g1
       have e2:a' = a:=by cases g1; cases ea; rfl
       subst e2
       have e3:bs' = bs:=by
        rw [hH1] at gH
        have:=HO.lst.inj (Option.some.inj gH)
        have inj:∀ l m:List Addr,l.map V.ref=m.map V.ref->l=m:=fun l=>by
         induction l with
         | nil=>intro m h; cases m with | nil=>rfl | cons _ _=>cases h
         | cons x l ih=>intro m h; cases m with | nil=>cases h | cons y m=>simp only [List.map_cons,List.cons.injEq] at h; obtain ⟨h1,h2⟩:=h; cases h1; rw [ih m h2]
        exact (inj _ _ this).symm
       subst e3
       rw [<-efp]
       have n1:=(List.nodup_append.mp stw.nd).1
       exact n1.sublist (List.sublist_flatten_of_mem (List.mem_of_getElem? g2))
      have live:∀ c ∈ a :: bs,H1 c ≠ none:=fun c hc z=>by
       rcases List.mem_cons.mp hc with rfl | hc
       ·rw [hH1] at z; cases z
       ·obtain ⟨o,e2,_⟩:=Lls.live hd c hc; rw [e2] at z; cases z
      have nb:b ∉ a :: bs:=fun z=>live b z hb
      obtain ⟨O2,st2,s2,_⟩:=up (upd (upd H1 b (.lst vs)) a (.lst (bs.map V.ref ++ [.ref b]))) (.ll (xs ++ [ds])) (a :: bs ++ [b]) (fun c o hc e=>by
       rw [upd_ne (fun z=>hc (by simp [z])),upd_ne (fun z=>by subst z; rw [hb] at e; cases e)]; exact e) (by
       rw [List.nodup_append]
       exact ⟨nfp,by simp,fun c hc d hd' z=>by simp at hd'; subst hd'; subst z; exact nb hc⟩) (fun c hc=>by
       rcases List.mem_append.mp hc with hc | hc
       ·exact .inl hc
       ·simp at hc; subst hc; exact .inr hb) (fun G O' s hG hin=>by
       subst hG
       refine ⟨s.hid,bs ++ [b],by simp,by rw [upd_same]; simp,?_⟩
       refine pq_app ⟨vs,by rw [upd_ne hba,upd_same],DVs.mono s.hid d1⟩ ?_
       refine pq_mono (l0:=bs) (fun c y hc ⟨ws,g1,g2⟩=>⟨ws,?_,DVs.mono s.hid g2⟩) (fun _ h=>h) hd
       rw [upd_ne (fun z=>by subst z; exact (List.nodup_cons.mp nfp).1 hc),upd_ne (fun z=>by subst z; exact nb (List.mem_cons_of_mem _ hc))]
       exact g1)
      exact f.nx _ _ _ _ st2 (s1.trans s2) q1
     ·rw [if_neg hz2] at q1; exact q1.elim
    ·rw [if_neg hz] at q1; exact q1.elim
noncomputable def llSetK (i:Nat) (k j:Int) (v:PyData):SM:=fun ρ=>match asQ ρ i with
 | some (io,xs)=>(match ixN xs.length k with
  | some n=>(match xs[n]? with
   | some ds=>(match ixN ds.length j with
    | some p=>.nx (ρ.set i (some (.own io (.ll (xs.set n (ds.set p v))))))
    | none=>.bad)
   | none=>.bad)
  | none=>.bad)
 | none=>.bad
noncomputable def sLLSet (i:Nat) (k j:Int) (m:XM PyData):SM:=fun ρ=>ofX (m ρ) (llSetK i k j)
theorem fs_llset {i:Nat} {k j:Int} {m:XM PyData} (hv:PE X (.Name x p1) (tVar i)) (hk:PE X ix (fun σ H Q=>Q (.int k) H)) (hj:PE X jx (fun σ H Q=>Q (.int j) H)) (he:FE X F E e m) (hpx:PlainIx ix:=by intro _ _; rfl)
  (hs:swapsWithSole [.Subscript (.Subscript (.Name x p1) ix p2) jx pos'] e pos.line X.env=pure false:=by rfl) (hw:swappedStores [.Subscript (.Subscript (.Name x p1) ix p2) jx pos'] e X.env=pure none:=by rfl)
  (h1:(assignEach [.Subscript (.Subscript (.Name x p1) ix p2) jx pos'] X.env).map (·.2)=[assign (.Subscript (.Subscript (.Name x p1) ix p2) jx pos') X.env]:=by rfl)
  (hq:∀ v,assign (.Subscript (.Subscript (.Name x p1) ix p2) jx pos') X.env v=(do
   let ov <-holding [v] (eval (.Subscript (.Name x p1) ix p2) X.env)
   let iv <-holding [v,ov] (eval jx X.env)
   standAt pos'
   holding [v,ov,iv] (setItem ov iv v)
   release [v,ov,iv] []):=by intro _; rfl) :
  FS X F E (.Assign [.Subscript (.Subscript (.Name x p1) ix p2) jx pos'] e pos) (sLLSet i k j m):=
 (ps_asg he.pe (pg_sub (pe_ix ix_list hv hk hpx) hj set_list hq) hs hw h1).imp fun D σ H ⟨ρ,O,DD,st,q,fD⟩=>⟨ρ,O,st,mn_wp _ _ _ (fun v ρ1 q1 vy H1 O1 st1 s1 d1=>by
  unfold wpS llSetK at q1
  cases h1:asQ ρ1 i with
  | none=>rw [h1] at q1; exact q1.elim
  | some p=>
   obtain ⟨io,xs⟩:=p
   rw [h1] at q1
   simp only at q1
   cases hn:ixN xs.length k with
   | none=>rw [hn] at q1; exact q1.elim
   | some n=>
    rw [hn] at q1
    simp only at q1
    cases hx:xs[n]? with
    | none=>rw [hx] at q1; exact q1.elim
    | some ds=>
     rw [hx] at q1
     simp only at q1
     cases hp:ixN ds.length j with
     | none=>rw [hp] at q1; exact q1.elim
     | some p=>
      rw [hp] at q1
      obtain ⟨a,fp,hv0,⟨bs,efp,hH,hd⟩,hin,up⟩:=st1.box (asQ_at h1)
      subst efp
      obtain ⟨b,hb,vs,hbH,hbd⟩:=pq_get n hx hd
      have hmb:b ∈ bs:=List.mem_of_getElem? hb
      have nfp:(a :: bs).Nodup:=by
       obtain ⟨W,stw,rfl⟩:=id st1
       obtain ⟨v',fp',g1,g2,g3⟩:=stw.at_ i _ (asQ_at h1)
       obtain ⟨a',ea,bs',efp,gH,_⟩:=g3
       rw [hv0] at g1
       have e2:a' = a:=by cases g1; cases ea; rfl
       subst e2
       have e3:bs' = bs:=by
        rw [hH] at gH
        have:=HO.lst.inj (Option.some.inj gH)
        have inj:∀ l m:List Addr,l.map V.ref=m.map V.ref->l=m:=fun l=>by
         induction l with
         | nil=>intro m h; cases m with | nil=>rfl | cons _ _=>cases h
         | cons x l ih=>intro m h; cases m with | nil=>cases h | cons y m=>simp only [List.map_cons,List.cons.injEq] at h; obtain ⟨h1,h2⟩:=h; cases h1; rw [ih m h2]
        exact (inj _ _ this).symm
       subst e3
       rw [<-efp]
       have n1:=(List.nodup_append.mp stw.nd).1
       exact n1.sublist (List.sublist_flatten_of_mem (List.mem_of_getElem? g2))
      have hba:b ≠ a:=fun z=>by subst z; exact (List.nodup_cons.mp nfp).1 hmb
      obtain ⟨O2,st2,s2,_⟩:=up (upd H1 b (.lst (vs.set p vy))) (.ll (xs.set n (ds.set p v))) (a :: bs) (fun c o hc e=>by rw [upd_ne (fun z=>hc (by subst z; exact List.mem_cons_of_mem _ hmb))]; exact e) nfp (fun c hc=>.inl hc) (fun G O' stp eG hO'=>by
       subst eG
       have sm:Same (hide O1 H1) (hide O' (upd H1 b (.lst (vs.set p vy)))):=stp.hid
       refine ⟨sm,bs,rfl,by rw [upd_ne (Ne.symm hba)]; exact hH,?_⟩
       have g0:Paired (fun (c:Addr) (y:List PyData)=>c ≠ b->LlAt (hide O' (upd H1 b (.lst (vs.set p vy)))) (upd H1 b (.lst (vs.set p vy))) c y) bs xs:=pq_mono (l0:=bs) (fun c y hc ⟨ws,g1,g2⟩ hcb=>⟨ws,by rw [upd_ne hcb]; exact g1,DVs.mono sm g2⟩) (fun _ h=>h) hd
       have nb:=(List.nodup_cons.mp nfp).2
       have go:∀ (cs:List Addr) (ys:List (List PyData)) (n:Nat),cs.Nodup->cs[n]? = some b->Paired (fun (c:Addr) (y:List PyData)=>c ≠ b->LlAt (hide O' (upd H1 b (.lst (vs.set p vy)))) (upd H1 b (.lst (vs.set p vy))) c y) cs ys->Paired (LlAt (hide O' (upd H1 b (.lst (vs.set p vy)))) (upd H1 b (.lst (vs.set p vy)))) cs (ys.set n (ds.set p v)):=fun cs=>by
        induction cs with
        | nil=>intro ys n _ e _; simp at e
        | cons c cs ih=>
         intro ys n nd e h
         cases h with
         | cons h t=>
          cases n with
          | zero=>
           simp at e
           subst e
           refine .cons ⟨vs.set p vy,upd_same,dvs_put (DV.mono sm d1) p (DVs.mono sm hbd)⟩ ?_
           exact pq_mono (l0:=cs) (fun d y hd' hh=>hh fun z=>by subst z; exact (List.nodup_cons.mp nd).1 hd') (fun _ h=>h) t
          | succ n=>
           have e':cs[n]? = some b:=by simpa using e
           exact .cons (h fun z=>by subst z; exact (List.nodup_cons.mp nd).1 (List.mem_of_getElem? e')) (ih _ n (List.nodup_cons.mp nd).2 e' t)
       exact go bs xs n nb hb g0)
      have at1:atI (bs.map V.ref) k=some (.ref b):=by
       unfold atI
       rw [List.length_map,Paired.length hd,hn]
       simp [hb]
      exact ⟨_,hv0,a,bs.map V.ref,k,.ref b,rfl,rfl,.of hH,at1,b,vs,j,p,rfl,rfl,hbH,by rw [hbd.length]; exact hp,fD.nx _ _ _ _ st2 (s1.trans s2) q1⟩) (wpS_ofX (m:=m) (k:=llSetK i k j) q)⟩
end
section
variable {X:Cx} {F:Fx} {E:Str->DEnv->Prop} {pos:Pos}
noncomputable def tPar3 (i j l:Nat) (ta:TA):TS:=fun D σ H=>ta σ H fun vs H1=>∃ v w z,vs=[v,w,z]/\D.nx (((σ.set i (some v)).set j (some w)).set l (some z)) H1
theorem ps_par3 {i j l:Nat} {x y z:Str} {a b c:Expr} {ta:TA} {px py pz pt:Pos} {kt k2 pt2} (hc:X.calm=true) (hN:X.N.Nodup) (hi:X.N[i]? = some x) (hj:X.N[j]? = some y) (hl:X.N[l]? = some z) (hij:i ≠ j) (hil:i ≠ l) (hjl:j ≠ l)
  (hx:X.env.scope.names.lookup x=some .local) (hy:X.env.scope.names.lookup y=some .local) (hz:X.env.scope.names.lookup z=some .local) (ha:PA X [a,b,c] ta)
  (hw:swappedStores [.Tuple [.Name x px,.Name y py,.Name z pz] kt pt] (.Tuple [a,b,c] k2 pt2) X.env=pure (some [x,y,z]))
  (hs:swapsWithSole [.Tuple [.Name x px,.Name y py,.Name z pz] kt pt] (.Tuple [a,b,c] k2 pt2) pos.line X.env=pure false:=by rfl) :
  PS X (.Assign [.Tuple [.Name x px,.Name y py,.Name z pz] kt pt] (.Tuple [a,b,c] k2 pt2) pos) (tPar3 i j l ta):=by
 intro pins s σ H D I h
 rw [exec_Assign_arm]
 refine wpAny_bind (wpAny_standAt ?_)
 rw [hs]
 refine wpAny_bind (wpAny_pure ?_)
 rw [if_neg (by decide)]
 refine wpAny_bind (Tuple_ (thn (ha _ pins s σ H _ I h) fun us s1 ⟨vs,H1,I1,r1,q1⟩=>?_))
 obtain ⟨v,w,t,e1,q1⟩:=q1
 subst e1
 obtain ⟨u1,u2,u3,rfl,rv,rw',rt⟩:∃ u1 u2 u3,us=[u1,u2,u3]/\RelV v u1/\RelV w u2/\RelV t u3:=by
  cases r1 with
  | cons p q=>
   cases q with
   | cons p' q'=>
    cases q' with
    | cons p2 q2=>
     cases q2
     exact ⟨_,_,_,rfl,p,p',p2⟩
 refine wpAny_newObj_type ?_ (by show 3<=sizeLine; decide)
 have I2:Inv X pins σ H1 { s1 with heap:=s1.heap.push { cls:=.type "tuple",data:=.seq [u1,u2,u3].toArray } }:=I1.kept (t':=s1.toks) fun b o e=>Heap.get?_push_of_some _ e
 rw [hw]
 refine wpAny_bind (wpAny_pure ?_)
 show wpAny (model X.prog X.w) X.A (do rule "assign.swapped-stores"; let items <-unpackItems (.ref s1.heap.objs.size) 3 none; assignInOrder [fun v=>bindName X.env z v,fun v=>bindName X.env y v,fun v=>bindName X.env x v] items.reverse; pure Flow.next) _ _ _
 refine wpAny_bind (wpAny_rule (wpAny_bind (unpackItems_tuple (items:=#[u1,u2,u3]) (I.ok.hd hc) (IsTup.new s1.heap _) fun h' hx'=>?_)))
 have I3:=I2.kept (h':=h') (t':=s1.toks) fun b o e=>hx' b o (Nat.ne_of_lt (Heap.lt_size e)) e
 show wpAny _ _ (assignInOrder [fun v=>bindName X.env z v,fun v=>bindName X.env y v,fun v=>bindName X.env x v] [u3,u2,u1] >>= fun _=>pure Flow.next) _ _ _
 refine wpAny_bind (assignInOrder_cons (wpAny_bindName (store_ok I3 hN hl (.inl hz) rt (fun s2 I4=>?_) (.inr hz))))
 refine assignInOrder_cons (wpAny_bindName (store_ok I4 hN hj (.inl hy) rw' (fun s3 I5=>?_) (.inr hy)))
 refine assignInOrder_cons (wpAny_bindName (store_ok I5 hN hi (.inl hx) rv (fun s4 I6=>assignInOrder_nil (wpAny_pure ?_)) (.inr hx)))
 have eq:((σ.set l (some t)).set j (some w)).set i (some v)=((σ.set i (some v)).set j (some w)).set l (some t):=by
  rw [List.set_comm _ _ (Ne.symm hij),List.set_comm _ _ (Ne.symm hil),List.set_comm _ _ (Ne.symm hjl)]
 rw [eq] at I6
 exact ⟨_,H1,I6,q1⟩
noncomputable def sParL (i j l:Nat) (n:Int):SM:=fun ρ=>if i < ρ.length then .nx (((ρ.set i (some (.own false (.ll [])))).set j (some (.dat .none))).set l (some (.dat (.int n)))) else .bad
theorem fs_parL {i j l:Nat} {x y z:Str} {px py pz pt pl p0 p1:Pos} {kt k2 pt2} {n:Int} {j0 j1} (hc:X.calm=true) (hN:X.N.Nodup) (hi:X.N[i]? = some x) (hj:X.N[j]? = some y) (hl:X.N[l]? = some z) (hij:i ≠ j) (hil:i ≠ l) (hjl:j ≠ l)
  (hx:X.env.scope.names.lookup x=some .local) (hy:X.env.scope.names.lookup y=some .local) (hz:X.env.scope.names.lookup z=some .local)
  (hw:swappedStores [.Tuple [.Name x px,.Name y py,.Name z pz] kt pt] (.Tuple [.List [] pl,.Constant .none j0 p0,.Constant (.int n) j1 p1] k2 pt2) X.env=pure (some [x,y,z]):=by rfl)
  (hs:swapsWithSole [.Tuple [.Name x px,.Name y py,.Name z pz] kt pt] (.Tuple [.List [] pl,.Constant .none j0 p0,.Constant (.int n) j1 p1] k2 pt2) pos.line X.env=pure false:=by rfl)
  (h1:starEach [.List [] pl,.Constant .none j0 p0,.Constant (.int n) j1 p1] X.env=(false,eval (.List [] pl) X.env) :: starEach [.Constant .none j0 p0,.Constant (.int n) j1 p1] X.env:=by rfl)
  (h2:starEach [.Constant .none j0 p0,.Constant (.int n) j1 p1] X.env=(false,eval (.Constant .none j0 p0) X.env) :: starEach [.Constant (.int n) j1 p1] X.env:=by rfl)
  (h3:starEach [.Constant (.int n) j1 p1] X.env=(false,eval (.Constant (.int n) j1 p1) X.env) :: starEach [] X.env:=by rfl) :
  FS X F E (.Assign [.Tuple [.Name x px,.Name y py,.Name z pz] kt pt] (.Tuple [.List [] pl,.Constant .none j0 p0,.Constant (.int n) j1 p1] k2 pt2) pos) (sParL i j l n):=
 (ps_par3 hc hN hi hj hl hij hil hjl hx hy hz (pa_cons (pe_lst pa_nil) (pa_cons pe_non (pa_cons pe_int pa_nil h3) h2) h1) hw hs).imp fun D σ H ⟨ρ,O,DD,st,q,f⟩=>by
  unfold wpS sParL at q
  by_cases hlt:i < ρ.length
  ·rw [if_pos hlt] at q
   refine ⟨by decide,fun b hb=>⟨.ref b,.non,.int n,rfl,?_⟩⟩
   obtain ⟨O2,st2,s2⟩:=st.setBox (i:=i) (a:=b) (b:=.ll []) (fp:=[b]) (H':=upd H b (.lst [])) hlt (fun c o e=>by rw [upd_ne (fun z=>by subst z; rw [hb] at e; cases e)]; exact e) (by simp) (fun c hc=>by simp at hc; subst hc; exact hb) (fun G _=>⟨[],rfl,upd_same,.nil⟩)
   exact f.nx _ _ _ O2 ((st2.set .non).set (.int n)) s2 q
  ·rw [if_neg hlt] at q; exact q.elim
end
end L2.L3
namespace L2.L3
open PySem PySem.Spec PyProof.Rows
noncomputable def asW (ρ:DEnv) (i:Nat):Option (List PyData):=match ρ[i]? with
 | some (some (.own _ (.l ds)))=>some ds
 | _=>none
theorem asW_at {ρ:DEnv} {i:Nat} {ds:List PyData} (h:asW ρ i=some ds):∃ io,ρ[i]? = some (some (.own io (.l ds))):=by
 unfold asW at h
 split at h
 ·rename_i e; cases h; exact ⟨_,e⟩
 ·cases h
noncomputable def eqOK (neg:Bool) (i:Nat) (y:PyData):XM PyData:=fun ρ=>lift (match asW ρ i with
 | some ds=>gEq neg (.list ds) y
 | none=>none) ρ
noncomputable def xEqO (neg:Bool) (i:Nat) (m:XM PyData):XM PyData:=fun ρ=>match asW ρ i with
 | some _=>(m ρ).bind (eqOK neg i)
 | none=>.bad
section
variable {X:Cx} {F:Fx} {E:Str->DEnv->Prop} {e:Expr} {pos p1:Pos} {x:Str} {i:Nat} {m:XM PyData}
theorem rd_eqO {K:PySem.W.Frag} {neg:Bool}:∀ σ H Q,rdE K F (wp E (xEqO neg i m)) σ H Q->tOp (rEqD neg) (tVar i) (rdE K F (wp E m)) σ H Q:=fun σ H Q ⟨ρ,O,st,q⟩=>by
 unfold wp xEqO at q
 cases h0:asW ρ i with
 | none=>rw [h0] at q; exact q.elim
 | some ds0=>
  rw [h0] at q
  obtain ⟨io0,hi0⟩:=asW_at h0
  obtain ⟨a,fp,hv0,_,_,_⟩:=st.box hi0
  refine ⟨.ref a,hv0,ρ,O,st,mn_wp _ _ _ (fun y ρ1 q1 vy H1 O1 st1 s1 d1=>?_) (wp_bind (E:=E) (m:=m) (k:=eqOK neg i) (ρ:=ρ) q)⟩
  obtain ⟨d,e1,q2⟩:=wp_lift q1
  cases h1:asW ρ1 i with
  | none=>rw [h1] at e1; cases e1
  | some ds=>
   rw [h1] at e1
   obtain ⟨io,hi⟩:=asW_at h1
   obtain ⟨a1,fp1,hv1,⟨_,xs,hH,hd⟩,_,_⟩:=st1.box hi
   rw [hv0] at hv1; cases hv1
   obtain ⟨z1,z2,z3⟩:=f2_eq (.list ds) y d (fun d=>∀ v H' O',DSt K F H' σ ρ1 O'->Stp O H O' H'->DV (hide O' H') v d->Q v H') e1 q2
   exact ⟨.list ds,y,.lst hH (DVs.mono hide_le hd),DV.mono hide_le d1,z1,z2,z3 _ H1 O1 st1 s1 (.bl _)⟩
theorem fb_neO (hu:X.A.units + 64 < cLine) (hv:PE X (.Name x p1) (tVar i)) (he:FE X F E e m):FB X F E (.Compare (.Name x p1) [.NotEq] [e] pos) (xTst (xEqO true i m)):=fb_val ⟨mn_tst mn_wp,(pt_cmpR (op_neD hu) hv he.pe (nomark _)).imp fun σ H Q q=>rd_eqO σ H _ (rd_tst mn_wp σ H Q q)⟩
end
end L2.L3
namespace Due
noncomputable abbrev Sh:=List (Int × Int)
inductive Plan where
 | once (m:Int) | every (f s:Int) | daily (h:Int)
end Due
namespace Due
end Due
namespace Due
end Due
namespace K3
open PySem PySem.Spec L2 L2.L3 PyProof.Rows
noncomputable abbrev exL:List Str:=["NoZone","NoMoment","NoDeeds","NoRunner","NoTerm","NotHolder","Nothing","NoCall","NoHolds"]
noncomputable def m_is_whole:SM:=(sRetV (xAnd (xIs "int" (xV 0)) (xAnd (xNot (xIs "bool" (xV 0))) (xChain (fun i j=>decide (i<=j)) (fun i j=>decide (i<=j)) (xV 1) (xV 0) (xV 2)))))
noncomputable def f_is_whole:FM:=fnM 3 3 m_is_whole
noncomputable def m_is_tuple_of:SM:=(sRetV (xAnd (xIs "tuple" (xV 0)) (xOp (gEq false) (xCB nLen (aCons (xV 0) aNil)) (xV 1))))
noncomputable def f_is_tuple_of:FM:=fnM 2 2 m_is_tuple_of
noncomputable def e_are_deeds_1:XM PyData:=(xFrz xBad)
noncomputable def m_are_deeds:SM:=(sThen (sIfF (bOrF (bNotF (xTst (xIs "tuple" (xV 0)))) (xTst (xOp gGt (xCB nLen (aCons (xV 0) aNil)) (xC (.int (6)))))) (sRetV (xC (.bool false))) sNx)
  (sRetV (xCB nAll (aCons (xComp 1 [] (iTs (xV 0)) (gNm 0) bTrue e_are_deeds_1) aNil))))
noncomputable def f_are_deeds:FM:=fnM 1 1 m_are_deeds
noncomputable def m__law_cell_at:SM:=(sThen (sIfF (xTst (xOp gLt (xV 1) (xLenS 0))) (sRetV (xIxS 0 (xV 1))) sNx)
  (sThen (sIfF (bEqS 0) (sRetV (xC (.int 0))) sNx)
  (sRetV (xOp gAdd (xOp gMul (xIxS 0 (xOp gMod (xV 1) (xLenS 0))) (xC (.int 31))) (xV 1)))))
noncomputable def f__law_cell_at:FM:=fnM 2 2 m__law_cell_at
noncomputable def b__law_holds_1:SM:=(sThen (sAsg (xAnd (xOp gIsNot (xV 2) (xC .none)) (xOp gLt (xOp gIxA (xV 4) (xC (.int 2))) (xV 3))) (gNm 5))
  (sIfF (bAndF (xTst (xOp (gEq false) (xOp gIxA (xV 4) (xC (.int 0))) (xC (.str "take")))) (bNotF (xTst (xV 5)))) (sThen (sLLApp 1 (aCons (xOp gIxA (xV 4) (xC (.int 1))) (aCons (xOp gIxA (xV 4) (xC (.int 2))) (aCons (xOp gAdd (xOp gIxA (xV 4) (xC (.int 2))) (xOp gIxA (xV 4) (xC (.int 3)))) aNil))))
  (sParF 2 3 (aCons (xOp gIxA (xV 4) (xC (.int 1))) (aCons (xOp gAdd (xOp gIxA (xV 4) (xC (.int 2))) (xOp gIxA (xV 4) (xC (.int 3)))) aNil)))) (sIfF (bAndF (xTst (xOp (gEq false) (xOp gIxA (xV 4) (xC (.int 0))) (xC (.str "take")))) (xTst (xOp (gEq false) (xV 2) (xOp gIxA (xV 4) (xC (.int 1)))))) (sThen (sAsg (xOp gAdd (xOp gIxA (xV 4) (xC (.int 2))) (xOp gIxA (xV 4) (xC (.int 3)))) (gNm 3))
  (sLLSet 1 (-1) (2) (xV 3))) (sIfF (bAndF (xTst (xOp (gEq false) (xOp gIxA (xV 4) (xC (.int 0))) (xC (.str "give")))) (bAndF (xTst (xV 5)) (xTst (xOp (gEq false) (xV 2) (xOp gIxA (xV 4) (xC (.int 1))))))) (sThen (sLLSet 1 (-1) (2) (xOp gIxA (xV 4) (xC (.int 2))))
  (sAsg (xC .none) (gNm 2))) sNx))))
noncomputable def t__law_holds_2:XM Bool:=(xTst (xOp gLt (xOp gIxA (xV 0) (xC (.int 1))) (xOp gIxA (xV 0) (xC (.int 2)))))
noncomputable def e__law_holds_3:XM PyData:=(xCB nTuple (aCons (xV 0) aNil))
noncomputable def m__law_holds:SM:=(sThen (sParL 1 2 3 0)
  (sThen (sForF (iLs (xV 0)) (gNm 4) b__law_holds_1)
  (sRetV (xComp 1 [] (iLs (xVL 1)) (gNm 0) t__law_holds_2 e__law_holds_3))))
noncomputable def f__law_holds:FM:=fnM 1 6 m__law_holds
noncomputable def m_H_is_held (C:Addr):SM:=(sRetV (xAnd (xOp gIsNot (xFld C 0 "holder") (xC .none)) (xOp gLt (xV 1) (xFld C 0 "until"))))
noncomputable def f_H_is_held (C:Addr):FM:=fnM 2 2 (m_H_is_held C)
noncomputable def m_H_held (C:Addr):SM:=(sRetV (xTup (aCons (xFld C 0 "holder") (aCons (xFld C 0 "until") (aCons (xFld C 0 "holds") aNil)))))
noncomputable def f_H_held (C:Addr):FM:=fnM 1 1 (m_H_held C)
noncomputable def m_is_ahead:SM:=(sRetC (xCall f_is_whole (cVal (xV 0) (cVal (xC (.int (-12))) (cVal (xC (.int (14))) cNil)))))
noncomputable def f_is_ahead:FM:=fnM 1 1 m_is_ahead
noncomputable def m_is_moment:SM:=(sRetC (xCall f_is_whole (cVal (xV 0) (cVal (xC (.int 0)) (cVal (xC (.int (9999))) cNil)))))
noncomputable def f_is_moment:FM:=fnM 1 1 m_is_moment
noncomputable def m_is_runner:SM:=(sRetC (xCall f_is_whole (cVal (xV 0) (cVal (xC (.int 0)) (cVal (xC (.int (3))) cNil)))))
noncomputable def f_is_runner:FM:=fnM 1 1 m_is_runner
noncomputable def m_is_term:SM:=(sRetC (xCall f_is_whole (cVal (xV 0) (cVal (xC (.int 1)) (cVal (xC (.int (99))) cNil)))))
noncomputable def f_is_term:FM:=fnM 1 1 m_is_term
noncomputable def m_has_word:SM:=(sRetV (xAnd (xFrz (xCall f_is_tuple_of (cVal (xV 0) (cVal (xV 2) cNil)))) (xAnd (xIs "str" (xOp gIxA (xV 0) (xC (.int 0)))) (xOp (gEq false) (xOp gIxA (xV 0) (xC (.int 0))) (xV 1)))))
noncomputable def f_has_word:FM:=fnM 3 3 m_has_word
noncomputable def m_check_deeds:SM:=(sIfF (bNotF (xTst (xFrz (xCall f_are_deeds (cVal (xV 0) cNil))))) (sRaiseF "NoDeeds") sNx)
noncomputable def f_check_deeds:FM:=fnM 1 1 m_check_deeds
noncomputable def m__law_mixed:SM:=(sThen (sAsg (xOp gMod (xOp gAdd (xOp gAdd (xOp gMul (xFrz (xCall f__law_cell_at (cSlot 0 (cVal (xV 1) cNil)))) (xC (.int 1103515245))) (xOp gMul (xC (.int 7919)) (xV 1))) (xC (.int 12345))) (xC (.int 2147483647))) (gNm 3))
  (sRetV (xOp gMod (xOp gMod (xOp gMod (xOp gPow (xV 3) (xC (.int 5))) (xC (.int 2147483647))) (xC (.int 999983))) (xV 2))))
noncomputable def f__law_mixed:FM:=fnM 3 4 m__law_mixed
noncomputable def b_are_shifts_1:SM:=(sThen (sIfF (bOrF (bNotF (xTst (xFrz (xCall f_is_tuple_of (cVal (xV 2) (cVal (xC (.int 2)) cNil)))))) (bNotF (xTst (xFrz (xCall f_is_ahead (cVal (xOp gIxA (xV 2) (xC (.int 1))) cNil)))))) (sRetV (xC (.bool false))) sNx)
  (sThen (sIfF (bNotF (xTst (xFrz (xCall f_is_whole (cVal (xOp gIxA (xV 2) (xC (.int 0))) (cVal (xV 1) (cVal (xC (.int (9999))) cNil))))))) (sRetV (xC (.bool false))) sNx)
  (sAsg (xOp gAdd (xOp gIxA (xV 2) (xC (.int 0))) (xC (.int 1))) (gNm 1))))
noncomputable def m_are_shifts:SM:=(sThen (sIfF (bOrF (bNotF (xTst (xIs "tuple" (xV 0)))) (xTst (xOp gGt (xCB nLen (aCons (xV 0) aNil)) (xC (.int (6)))))) (sRetV (xC (.bool false))) sNx)
  (sThen (sAsg (xC (.int 1)) (gNm 1))
  (sThen (sForF (iTs (xV 0)) (gNm 2) b_are_shifts_1)
  (sRetV (xC (.bool true))))))
noncomputable def f_are_shifts:FM:=fnM 1 3 m_are_shifts
noncomputable def m_check_moment:SM:=(sIfF (bNotF (xTst (xFrz (xCall f_is_moment (cVal (xV 0) cNil))))) (sRaiseF "NoMoment") sNx)
noncomputable def f_check_moment:FM:=fnM 1 1 m_check_moment
noncomputable def m_check_runner:SM:=(sIfF (bNotF (xTst (xFrz (xCall f_is_runner (cVal (xV 0) cNil))))) (sRaiseF "NoRunner") sNx)
noncomputable def f_check_runner:FM:=fnM 1 1 m_check_runner
noncomputable def m_check_term:SM:=(sIfF (bNotF (xTst (xFrz (xCall f_is_term (cVal (xV 0) cNil))))) (sRaiseF "NoTerm") sNx)
noncomputable def f_check_term:FM:=fnM 1 1 m_check_term
noncomputable def e_check_call_1:XM PyData:=(xFrz (xCall f_has_word (cVal (xV 1) (cVal (xV 0) (cVal (xGD [("take",4),("give",3),("step",3),("finish",3)] (xV 0)) cNil)))))
noncomputable def m_check_call:SM:=(sIfF (bNotF (xTst (xCB nAny (aCons (xComp 1 [0] (iC (strsD ["take","give","step","finish"])) (gNm 0) bTrue e_check_call_1) aNil)))) (sRaiseF "NoCall") sNx)
noncomputable def f_check_call:FM:=fnM 1 1 m_check_call
noncomputable def m_is_row:SM:=(sThen (sIfF (xTst (xFrz (xCall f_has_word (cVal (xV 0) (cVal (xC (.str "take")) (cVal (xC (.int 4)) cNil)))))) (sRetV (xAnd (xFrz (xCall f_is_runner (cVal (xOp gIxA (xV 0) (xC (.int 1))) cNil))) (xAnd (xFrz (xCall f_is_moment (cVal (xOp gIxA (xV 0) (xC (.int 2))) cNil))) (xFrz (xCall f_is_term (cVal (xOp gIxA (xV 0) (xC (.int 3))) cNil)))))) sNx)
  (sRetV (xAnd (xFrz (xCall f_has_word (cVal (xV 0) (cVal (xC (.str "give")) (cVal (xC (.int 3)) cNil))))) (xAnd (xFrz (xCall f_is_runner (cVal (xOp gIxA (xV 0) (xC (.int 1))) cNil))) (xFrz (xCall f_is_moment (cVal (xOp gIxA (xV 0) (xC (.int 2))) cNil)))))))
noncomputable def f_is_row:FM:=fnM 1 1 m_is_row
noncomputable def m__law_draw:SM:=(sThen (sApp 1 (xC (.int 0)))
  (sRetC (xCall f__law_mixed (cSlot 0 (cVal (xLenN 1) (cVal (xV 2) cNil))))))
noncomputable def f__law_draw:FM:=fnM 3 3 m__law_draw
noncomputable def m_is_zone:SM:=(sRetV (xAnd (xFrz (xCall f_is_tuple_of (cVal (xV 0) (cVal (xC (.int 2)) cNil)))) (xAnd (xFrz (xCall f_is_ahead (cVal (xOp gIxA (xV 0) (xC (.int 0))) cNil))) (xFrz (xCall f_are_shifts (cVal (xOp gIxA (xV 0) (xC (.int 1))) cNil))))))
noncomputable def f_is_zone:FM:=fnM 1 1 m_is_zone
noncomputable def b_check_rows_1:SM:=(sThen (sIfF (bOrF (bNotF (xTst (xFrz (xCall f_is_row (cVal (xV 2) cNil))))) (xTst (xOp gLt (xOp gIxA (xV 2) (xC (.int 2))) (xV 1)))) (sRaiseF "NoHolds") sNx)
  (sAsg (xOp gIxA (xV 2) (xC (.int 2))) (gNm 1)))
noncomputable def m_check_rows:SM:=(sThen (sIfF (bNotF (xTst (xIs "list" (xV 0)))) (sRaiseF "NoHolds") sNx)
  (sThen (sAsg (xC (.int 0)) (gNm 1))
  (sForF (iLs (xV 0)) (gNm 2) b_check_rows_1)))
noncomputable def f_check_rows:FM:=fnM 1 3 m_check_rows
noncomputable def m__law_pick:SM:=(sRetV (xOp gIxA (xV 2) (xFrz (xCall f__law_draw (cSlot 0 (cSlot 1 (cVal (xCB nLen (aCons (xV 2) aNil)) cNil)))))))
noncomputable def f__law_pick:FM:=fnM 3 3 m__law_pick
noncomputable def m_H_check_call (C:Addr):SM:=(sThen (sDoC (xCall f_check_runner (cVal (xV 1) cNil)))
  (sThen (sDoC (xCall f_check_moment (cVal (xV 2) cNil)))
  (sIfF (bAndF (xTst (xOp gIsNot (xFld C 0 "last") (xC .none))) (xTst (xOp gLt (xV 2) (xFld C 0 "last")))) (sRaiseF "NoMoment") sNx)))
noncomputable def f_H_check_call (C:Addr):FM:=fnM 3 3 (m_H_check_call C)
noncomputable def m_check_zone:SM:=(sIfF (bNotF (xTst (xFrz (xCall f_is_zone (cVal (xV 0) cNil))))) (sRaiseF "NoZone") sNx)
noncomputable def f_check_zone:FM:=fnM 1 1 m_check_zone
noncomputable def b__law_rows_1:SM:=(sThen (sAsg (xOp gAdd (xV 4) (xFrz (xCall f__law_draw (cSlot 0 (cSlot 1 (cVal (xFrz (xCall f__law_pick (cSlot 0 (cSlot 1 (cVal (xLst (aCons (xC (.int 1)) (aCons (xC (.int 4)) (aCons (xC (.int 20)) aNil)))) cNil))))) cNil)))))) (gNm 4))
  (sThen (sAsg (xFrz (xCall f__law_draw (cSlot 0 (cSlot 1 (cVal (xFrz (xCall f__law_pick (cSlot 0 (cSlot 1 (cVal (xLst (aCons (xC (.int 2)) (aCons (xC (.int 4)) aNil))) cNil))))) cNil))))) (gNm 6))
  (sIfF (xTst (xOp (gEq false) (xFrz (xCall f__law_draw (cSlot 0 (cSlot 1 (cVal (xC (.int 3)) cNil))))) (xC (.int 0)))) (sApp 3 (xTup (aCons (xC (.str "give")) (aCons (xV 6) (aCons (xV 4) aNil))))) (sApp 3 (xTup (aCons (xC (.str "take")) (aCons (xV 6) (aCons (xV 4) (aCons (xOp gAdd (xC (.int 1)) (xFrz (xCall f__law_draw (cSlot 0 (cSlot 1 (cVal (xFrz (xCall f__law_pick (cSlot 0 (cSlot 1 (cVal (xLst (aCons (xC (.int 3)) (aCons (xC (.int 30)) (aCons (xC (.int 99)) aNil)))) cNil))))) cNil)))))) aNil)))))))))
noncomputable def m__law_rows:SM:=(sThen (sParO 3 4 0 (xLstO aNil))
  (sThen (sForF (iLf rng1 (aCons (xFrz (xCall f__law_draw (cSlot 0 (cSlot 1 (cVal (xOp gAdd (xV 2) (xC (.int 1))) cNil))))) aNil)) (gNm 5) b__law_rows_1)
  (sMv 3)))
noncomputable def f__law_rows:FM:=fnM 3 7 m__law_rows
noncomputable def m_H_check_holder (C:Addr):SM:=(sThen (sDoC (xMeth C 0 "check_call" (f_H_check_call C) (cVal (xV 1) (cVal (xV 2) cNil))))
  (sIfF (bOrF (bNotF (xTst (xFrz (xMeth C 0 "is_held" (f_H_is_held C) (cVal (xV 2) cNil))))) (xTst (xOp (gEq true) (xFld C 0 "holder") (xV 1)))) (sRaiseF "NotHolder") sNx))
noncomputable def f_H_check_holder (C:Addr):FM:=fnM 3 3 (m_H_check_holder C)
noncomputable def m_H_take (C:Addr):SM:=(sThen (sDoC (xMeth C 0 "check_call" (f_H_check_call C) (cVal (xV 1) (cVal (xV 2) cNil))))
  (sThen (sDoC (xCall f_check_term (cVal (xV 3) cNil)))
  (sThen (sFldF C 0 "last" (xV 2))
  (sThen (sIfF (bNotF (xTst (xFrz (xMeth C 0 "is_held" (f_H_is_held C) (cVal (xV 2) cNil))))) (sFldInc C 0 "holds" 1) (sIfF (xTst (xOp (gEq true) (xFld C 0 "holder") (xV 1))) (sRetV (xC (.bool false))) sNx))
  (sThen (sFldF C 0 "holder" (xV 1))
  (sThen (sFldF C 0 "until" (xOp gAdd (xV 2) (xV 3)))
  (sRetV (xC (.bool true)))))))))
noncomputable def f_H_take (C:Addr):FM:=fnM 4 4 (m_H_take C)
noncomputable def e_H___init___1 (C:Addr):XM PyData:=(xC (.int 0))
noncomputable def m_H___init__ (C:Addr):SM:=(sThen (sDoC (xCall f_check_zone (cVal (xV 1) cNil)))
  (sThen (sDoC (xCall f_check_deeds (cVal (xV 2) cNil)))
  (sThen (sFldF C 0 "zone" (xV 1))
  (sThen (sFldF C 0 "deeds" (xV 2))
  (sThen (sFldF C 0 "last" (xC .none))
  (sThen (sFldF C 0 "holder" (xC .none))
  (sThen (sFldF C 0 "until" (xC (.int 0)))
  (sThen (sFldF C 0 "holds" (xC (.int 0)))
  (sThen (sFldF C 0 "begun" (xC .none))
  (sThen (sFldNew C 0 "rows" (.l []))
  (sThen (sFldNew C 0 "words" (.m true []))
  (sFldCmp C 0 "settled" 1 [] (iTs (xV 2)) (gNm 0) bTrue (e_H___init___1 C)))))))))))))
noncomputable def f_H___init__ (C:Addr):FM:=fnM 3 3 (m_H___init__ C)
noncomputable def m_H_give (C:Addr):SM:=(sThen (sDoC (xMeth C 0 "check_holder" (f_H_check_holder C) (cVal (xV 1) (cVal (xV 2) cNil))))
  (sThen (sFldF C 0 "last" (xV 2))
  (sFldF C 0 "holder" (xC .none))))
noncomputable def f_H_give (C:Addr):FM:=fnM 3 3 (m_H_give C)
noncomputable def m_ask (C:Addr):SM:=(sThen (sIfF (xTst (xOp (gEq false) (xOp gIxA (xV 1) (xC (.int 0))) (xC (.str "take")))) (sRetC (xMeth C 0 "take" (f_H_take C) (cVal (xOp gIxA (xV 1) (xC (.int 1))) (cVal (xOp gIxA (xV 1) (xC (.int 2))) (cVal (xOp gIxA (xV 1) (xC (.int 3))) cNil))))) sNx)
  (sThen (sIfF (xTst (xOp (gEq false) (xOp gIxA (xV 1) (xC (.int 0))) (xC (.str "give")))) (sRetC (xMeth C 0 "give" (f_H_give C) (cVal (xOp gIxA (xV 1) (xC (.int 1))) (cVal (xOp gIxA (xV 1) (xC (.int 2))) cNil)))) sNx)
  (sThen (sIfF (xTst (xOp (gEq false) (xOp gIxA (xV 1) (xC (.int 0))) (xC (.str "step")))) (sRetC xBad) sNx)
  (sRetC xBad))))
noncomputable def f_ask (C:Addr):FM:=fnM 2 2 (m_ask C)
noncomputable def m_do (C:Addr):SM:=(sThen (sDoC (xCall f_check_call (cVal (xV 1) cNil)))
  (sTryB exL (sRetC (xCall (f_ask C) (cSlot 0 (cVal (xV 1) cNil)))) (sRetV (xC (.str "refused")))))
noncomputable def f_do (C:Addr):FM:=fnM 2 2 (m_do C)
noncomputable def b_walked_holds_1 (C:Addr):SM:=(sThen (sAsg (xFrz (xCall (f_do C) (cSlot 1 (cVal (xV 3) cNil)))) (gNm 4))
  (sThen (sAsg (xFrz (xMeth0 C 1 "held" (f_H_held C))) (gNm 5))
  (sIfF (xTst (xOp gGt (xOp gIxA (xV 5) (xC (.int 2))) (xLenN 2))) (sApp 2 (xTup (aCons (xOp gIxA (xV 3) (xC (.int 1))) (aCons (xOp gIxA (xV 3) (xC (.int 2))) (aCons (xOp gIxA (xV 5) (xC (.int 1))) aNil))))) (sIfF (xTst (xOp (gIsB true) (xV 4) (xC (.bool true)))) (sLset 2 (-1) (xTup (aCons (xOp gIxA (xV 3) (xC (.int 1))) (aCons (xOp gIxA (xLix 2 (-1)) (xC (.int 1))) (aCons (xOp gIxA (xV 5) (xC (.int 1))) aNil))))) (sIfF (xTst (xOp gIs (xV 4) (xC .none))) (sLset 2 (-1) (xTup (aCons (xOp gIxA (xV 3) (xC (.int 1))) (aCons (xOp gIxA (xLix 2 (-1)) (xC (.int 1))) (aCons (xOp gIxA (xV 3) (xC (.int 2))) aNil))))) sNx)))))
noncomputable def m_walked_holds (C:Addr):SM:=(sThen (sSetC 1 (xMake C (f_H___init__ C) (aCons (xC (.tuple [(.int 0),(.tuple [])])) (aCons (xC (.tuple [])) aNil))))
  (sThen (sSetC 2 (xLstO aNil))
  (sThen (sForF (iLs (xV 0)) (gNm 3) (b_walked_holds_1 C))
  (sMv 2))))
noncomputable def f_walked_holds (C:Addr):FM:=fnM 1 6 (m_walked_holds C)
noncomputable def t_lasting_holds_1 (C:Addr):XM Bool:=(xTst (xOp gLt (xOp gIxA (xV 0) (xC (.int 1))) (xOp gIxA (xV 0) (xC (.int 2)))))
noncomputable def e_lasting_holds_2 (C:Addr):XM PyData:=(xV 0)
noncomputable def m_lasting_holds (C:Addr):SM:=(sRetV (xComp 1 [] (iLs (xFrz (xCall (f_walked_holds C) (cVal (xV 0) cNil)))) (gNm 0) (t_lasting_holds_1 C) (e_lasting_holds_2 C)))
noncomputable def f_lasting_holds (C:Addr):FM:=fnM 1 1 (m_lasting_holds C)
noncomputable def m_all_holds (C:Addr):SM:=(sThen (sDoC (xCall f_check_rows (cVal (xV 0) cNil)))
  (sRetC (xCall (f_lasting_holds C) (cVal (xV 0) cNil))))
noncomputable def f_all_holds (C:Addr):FM:=fnM 1 1 (m_all_holds C)
noncomputable def b_held_by_1 (C:Addr):SM:=(sDPutF 1 (xV 2) (xOp gSub (xOp gAdd (xDGet2 1 (xV 2) (xC (.int 0))) (xV 4)) (xV 3)))
noncomputable def m_held_by (C:Addr):SM:=(sThen (sDoC (xCall f_check_rows (cVal (xV 0) cNil)))
  (sThen (sSetC 1 (xDNew false))
  (sThen (sForF (iLs (xFrz (xCall (f_lasting_holds C) (cVal (xV 0) cNil)))) (gTup' 3 (gCons' (gNm 2) (gCons' (gNm 3) (gCons' (gNm 4) gNil')))) (b_held_by_1 C))
  (sRetV (xItems 1)))))
noncomputable def f_held_by (C:Addr):FM:=fnM 1 5 (m_held_by C)
noncomputable def b_holder_at_1 (C:Addr):SM:=(sIfF (xTst (xChain (fun i j=>decide (i<=j)) (fun i j=>decide (i < j)) (xV 3) (xV 1) (xV 4))) (sRetV (xV 2)) sNx)
noncomputable def m_holder_at (C:Addr):SM:=(sThen (sDoC (xCall f_check_rows (cVal (xV 0) cNil)))
  (sThen (sDoC (xCall f_check_moment (cVal (xV 1) cNil)))
  (sThen (sForF (iLs (xFrz (xCall (f_lasting_holds C) (cVal (xV 0) cNil)))) (gTup' 3 (gCons' (gNm 2) (gCons' (gNm 3) (gCons' (gNm 4) gNil')))) (b_holder_at_1 C))
  (sRetV (xC .none)))))
noncomputable def f_holder_at (C:Addr):FM:=fnM 2 5 (m_holder_at C)
noncomputable def b_nobody_1 (C:Addr):SM:=(sThen (sAsg (xCB nMin (aCons (xOp gSub (xV 6) (xC (.int 1))) (aCons (xV 1) aNil))) (gNm 8))
  (sThen (sIfF (xTst (xOp gLe (xV 3) (xV 8))) (sApp 2 (xTup (aCons (xV 3) (aCons (xV 8) aNil)))) sNx)
  (sAsg (xV 7) (gNm 3))))
noncomputable def m_nobody (C:Addr):SM:=(sThen (sDoC (xCall f_check_rows (cVal (xV 0) cNil)))
  (sThen (sDoC (xCall f_check_moment (cVal (xV 1) cNil)))
  (sThen (sSetC 2 (xLstO aNil))
  (sThen (sAsg (xC (.int 0)) (gNm 3))
  (sThen (sAsg (xOp gCatL (xFrz (xCall (f_lasting_holds C) (cVal (xV 0) cNil))) (xLst (aCons (xTup (aCons (xC .none) (aCons (xOp gAdd (xV 1) (xC (.int 1))) (aCons (xOp gAdd (xV 1) (xC (.int 1))) aNil)))) aNil))) (gNm 4))
  (sThen (sForF (iLs (xV 4)) (gTup' 3 (gCons' (gNm 5) (gCons' (gNm 6) (gCons' (gNm 7) gNil')))) (b_nobody_1 C))
  (sMv 2)))))))
noncomputable def f_nobody (C:Addr):FM:=fnM 2 9 (m_nobody C)
noncomputable def c_law_1 (C:Addr):SM:=(sSetC 1 (xLstO aNil))
noncomputable def c_law_2 (C:Addr):SM:=(sAsg (xFrz (xCall f__law_rows (cSlot 0 (cSlot 1 (cVal (xC (.int 10)) cNil))))) (gNm 2))
noncomputable def c_law_3 (C:Addr):SM:=(sAsg (xFrz (xCall f__law_holds (cVal (xV 2) cNil))) (gNm 3))
noncomputable def c_law_4 (C:Addr):SM:=(sAsg (xFrz (xCall f__law_draw (cSlot 0 (cSlot 1 (cVal (xC (.int 120)) cNil))))) (gNm 4))
noncomputable def c_law_5 (C:Addr):SM:=(sSetC 5 (xLstO aNil))
noncomputable def t_law_6 (C:Addr):XM Bool:=(xTst (xChain (fun i j=>decide (i<=j)) (fun i j=>decide (i < j)) (xV 1) (xV 3) (xV 2)))
noncomputable def e_law_7 (C:Addr):XM PyData:=(xV 0)
noncomputable def b_law_8 (C:Addr):SM:=(sThen (sAsg (xComp 3 [6] (iLs (xV 3)) (gTup' 3 (gCons' (gNm 0) (gCons' (gNm 1) (gCons' (gNm 2) gNil')))) (t_law_6 C) (e_law_7 C)) (gNm 7))
  (sThen (sIfF (xTst (xOp (gEq true) (xFrz (xCall (f_holder_at C) (cVal (xV 2) (cVal (xV 6) cNil)))) (xOp gIxA (xOp gCatL (xV 7) (xLst (aCons (xC .none) aNil))) (xC (.int 0))))) (sRetV (xC (.bool false))) sNx)
  (sIfF (bAndF (xTst (xOp (gEq false) (xV 7) (xLst aNil))) (bAndF (xTst (xEqO true 5 (xLst aNil))) (xTst (xOp (gEq false) (xOp gIxA (xLix 5 (-1)) (xC (.int 1))) (xOp gSub (xV 6) (xC (.int 1))))))) (sLset 5 (-1) (xTup (aCons (xOp gIxA (xLix 5 (-1)) (xC (.int 0))) (aCons (xV 6) aNil)))) (sIfF (xTst (xOp (gEq false) (xV 7) (xLst aNil))) (sApp 5 (xTup (aCons (xV 6) (aCons (xV 6) aNil)))) sNx))))
noncomputable def c_law_9 (C:Addr):SM:=(sForF (iLf rng1 (aCons (xOp gAdd (xV 4) (xC (.int 1))) aNil)) (gNm 6) (b_law_8 C))
noncomputable def c_law_10 (C:Addr):SM:=(sIfF (xTst (xOp (gEq true) (xFrz (xCall (f_nobody C) (cVal (xV 2) (cVal (xV 4) cNil)))) (xV 5))) (sRetV (xC (.bool false))) sNx)
noncomputable def c_law_11 (C:Addr):SM:=(sSetC 8 (xDNew false))
noncomputable def b_law_12 (C:Addr):SM:=(sDPutF 8 (xV 9) (xOp gSub (xOp gAdd (xDGet2 8 (xV 9) (xC (.int 0))) (xV 11)) (xV 10)))
noncomputable def c_law_13 (C:Addr):SM:=(sForF (iLs (xFrz (xCall (f_all_holds C) (cVal (xV 2) cNil)))) (gTup' 3 (gCons' (gNm 9) (gCons' (gNm 10) (gCons' (gNm 11) gNil')))) (b_law_12 C))
noncomputable def c_law_14 (C:Addr):SM:=(sRetV (xOp (gEq false) (xFrz (xCall (f_held_by C) (cVal (xV 2) cNil))) (xItems 8)))
noncomputable def m_law (C:Addr):SM:=(sThen (c_law_1 C)
  (sThen (c_law_2 C)
  (sThen (c_law_3 C)
  (sThen (c_law_4 C)
  (sThen (c_law_5 C)
  (sThen (c_law_9 C)
  (sThen (c_law_10 C)
  (sThen (c_law_11 C)
  (sThen (c_law_13 C)
  (c_law_14 C))))))))))
noncomputable def f_law (C:Addr):FM:=fnM 1 12 (m_law C)
end K3
namespace K3
open PySem PySem.Spec L2 L2.L3 PyProof.Rows
noncomputable def top (i:Nat):Stmt:=PySem.Challenge.pw_duehall_k26_whole_who_holds.main.body.getD i (.Pass ⟨0,0,0,0⟩)
noncomputable abbrev s_is_whole:Stmt:=top 23
noncomputable abbrev s_is_tuple_of:Stmt:=top 24
noncomputable abbrev s_is_ahead:Stmt:=top 25
noncomputable abbrev s_is_moment:Stmt:=top 26
noncomputable abbrev s_is_runner:Stmt:=top 27
noncomputable abbrev s_is_term:Stmt:=top 28
noncomputable abbrev s_are_shifts:Stmt:=top 29
noncomputable abbrev s_is_zone:Stmt:=top 30
noncomputable abbrev s_has_word:Stmt:=top 31
noncomputable abbrev s_are_deeds:Stmt:=top 35
noncomputable abbrev s_check_zone:Stmt:=top 36
noncomputable abbrev s_check_moment:Stmt:=top 37
noncomputable abbrev s_check_deeds:Stmt:=top 38
noncomputable abbrev s_check_runner:Stmt:=top 39
noncomputable abbrev s_check_term:Stmt:=top 40
noncomputable abbrev s_H___init__:Stmt:=inClass (top 56) 0
noncomputable abbrev s_H_is_held:Stmt:=inClass (top 56) 1
noncomputable abbrev s_H_check_call:Stmt:=inClass (top 56) 2
noncomputable abbrev s_H_check_holder:Stmt:=inClass (top 56) 3
noncomputable abbrev s_H_take:Stmt:=inClass (top 56) 4
noncomputable abbrev s_H_give:Stmt:=inClass (top 56) 5
noncomputable abbrev s_H_held:Stmt:=inClass (top 56) 14
noncomputable abbrev s_check_call:Stmt:=top 59
noncomputable abbrev s_ask:Stmt:=top 60
noncomputable abbrev s_do:Stmt:=top 61
noncomputable abbrev s_is_row:Stmt:=top 65
noncomputable abbrev s_check_rows:Stmt:=top 66
noncomputable abbrev s_walked_holds:Stmt:=top 67
noncomputable abbrev s_lasting_holds:Stmt:=top 68
noncomputable abbrev s_all_holds:Stmt:=top 69
noncomputable abbrev s_held_by:Stmt:=top 70
noncomputable abbrev s_holder_at:Stmt:=top 71
noncomputable abbrev s_nobody:Stmt:=top 72
noncomputable abbrev s__law_cell_at:Stmt:=top 74
noncomputable abbrev s__law_mixed:Stmt:=top 75
noncomputable abbrev s__law_draw:Stmt:=top 76
noncomputable abbrev s__law_pick:Stmt:=top 77
noncomputable abbrev s__law_rows:Stmt:=top 78
noncomputable abbrev s__law_holds:Stmt:=top 79
noncomputable abbrev s_law:Stmt:=top 80
theorem sc_is_whole:FnScope ["thing","least","most"] ["thing","least","most"] (defScope s_is_whole):=scm
theorem sc_is_tuple_of:FnScope ["thing","length"] ["thing","length"] (defScope s_is_tuple_of):=scm
theorem sc_is_ahead:FnScope ["thing"] ["thing"] (defScope s_is_ahead):=scm
theorem sc_is_moment:FnScope ["thing"] ["thing"] (defScope s_is_moment):=scm
theorem sc_is_runner:FnScope ["thing"] ["thing"] (defScope s_is_runner):=scm
theorem sc_is_term:FnScope ["thing"] ["thing"] (defScope s_is_term):=scm
theorem sc_are_shifts:FnScope ["thing","earliest","shift"] ["thing"] (defScope s_are_shifts):=scm
theorem sc_is_zone:FnScope ["thing"] ["thing"] (defScope s_is_zone):=scm
theorem sc_has_word:FnScope ["thing","word","length"] ["thing","word","length"] (defScope s_has_word):=scm
theorem sc_are_deeds:FnScope ["thing"] ["thing"] (defScope s_are_deeds):=scm
theorem sc_check_zone:FnScope ["thing"] ["thing"] (defScope s_check_zone):=scm
theorem sc_check_moment:FnScope ["thing"] ["thing"] (defScope s_check_moment):=scm
theorem sc_check_deeds:FnScope ["thing"] ["thing"] (defScope s_check_deeds):=scm
theorem sc_check_runner:FnScope ["thing"] ["thing"] (defScope s_check_runner):=scm
theorem sc_check_term:FnScope ["thing"] ["thing"] (defScope s_check_term):=scm
theorem sc_H___init__:FnScope ["self","zone","deeds"] ["self","zone","deeds"] (defScope s_H___init__):=scm
theorem sc_H_is_held:FnScope ["self","moment"] ["self","moment"] (defScope s_H_is_held):=scm
theorem sc_H_check_call:FnScope ["self","runner","moment"] ["self","runner","moment"] (defScope s_H_check_call):=scm
theorem sc_H_check_holder:FnScope ["self","runner","moment"] ["self","runner","moment"] (defScope s_H_check_holder):=scm
theorem sc_H_take:FnScope ["self","runner","moment","term"] ["self","runner","moment","term"] (defScope s_H_take):=scm
theorem sc_H_give:FnScope ["self","runner","moment"] ["self","runner","moment"] (defScope s_H_give):=scm
theorem sc_H_held:FnScope ["self"] ["self"] (defScope s_H_held):=scm
theorem sc_check_call:FnScope ["thing"] ["thing"] (defScope s_check_call):=scm
theorem sc_ask:FnScope ["hall","call"] ["hall","call"] (defScope s_ask):=scm
theorem sc_do:FnScope ["hall","call"] ["hall","call"] (defScope s_do):=scm
theorem sc_is_row:FnScope ["thing"] ["thing"] (defScope s_is_row):=scm
theorem sc_check_rows:FnScope ["rows","latest","row"] ["rows"] (defScope s_check_rows):=scm
theorem sc_walked_holds:FnScope ["rows","hall","found","row","told","held"] ["rows"] (defScope s_walked_holds):=scm
theorem sc_lasting_holds:FnScope ["rows"] ["rows"] (defScope s_lasting_holds):=scm
theorem sc_all_holds:FnScope ["rows"] ["rows"] (defScope s_all_holds):=scm
theorem sc_held_by:FnScope ["rows","hours","runner","first","behind"] ["rows"] (defScope s_held_by):=scm
theorem sc_holder_at:FnScope ["rows","moment","runner","first","behind"] ["rows","moment"] (defScope s_holder_at):=scm
theorem sc_nobody:FnScope ["rows","last","found","start","ends","runner","first","behind","end"] ["rows","last"] (defScope s_nobody):=scm
theorem sc__law_cell_at:FnScope ["_law_script","_law_k"] ["_law_script","_law_k"] (defScope s__law_cell_at):=scm
theorem sc__law_mixed:FnScope ["_law_script","_law_k","_law_many","_law_drawn"] ["_law_script","_law_k","_law_many"] (defScope s__law_mixed):=scm
theorem sc__law_draw:FnScope ["_law_script","_law_town","_law_many"] ["_law_script","_law_town","_law_many"] (defScope s__law_draw):=scm
theorem sc__law_pick:FnScope ["_law_script","_law_town","_law_some"] ["_law_script","_law_town","_law_some"] (defScope s__law_pick):=scm
theorem sc__law_rows:FnScope ["_law_script","_law_town","_law_most","_law_made","_law_moment","_law_k","_law_runner"] ["_law_script","_law_town","_law_most"] (defScope s__law_rows):=scm
theorem sc__law_holds:FnScope ["_law_rows_here","_law_made","_law_holder","_law_until","_law_row","_law_is_held"] ["_law_rows_here"] (defScope s__law_holds):=scm
theorem sc_law:FnScope ["_law_script","_law_town","_law_rows_here","_law_some","_law_last","_law_free","_law_moment","_law_wanted","_law_book","_law_runner","_law_begin","_law_end"] ["_law_script"] (defScope s_law):=scm
structure Tx (P:Program) (w:World) (K:PySem.W.Frag) (mg:Str->Option Value):Prop where
 d_is_whole:∃ g fd,FD K mg "is_whole" s_is_whole ["thing","least","most"] g fd
 d_is_tuple_of:∃ g fd,FD K mg "is_tuple_of" s_is_tuple_of ["thing","length"] g fd
 d_is_ahead:∃ g fd,FD K mg "is_ahead" s_is_ahead ["thing"] g fd
 d_is_moment:∃ g fd,FD K mg "is_moment" s_is_moment ["thing"] g fd
 d_is_runner:∃ g fd,FD K mg "is_runner" s_is_runner ["thing"] g fd
 d_is_term:∃ g fd,FD K mg "is_term" s_is_term ["thing"] g fd
 d_are_shifts:∃ g fd,FD K mg "are_shifts" s_are_shifts ["thing"] g fd
 d_is_zone:∃ g fd,FD K mg "is_zone" s_is_zone ["thing"] g fd
 d_has_word:∃ g fd,FD K mg "has_word" s_has_word ["thing","word","length"] g fd
 d_are_deeds:∃ g fd,FD K mg "are_deeds" s_are_deeds ["thing"] g fd
 d_check_zone:∃ g fd,FD K mg "check_zone" s_check_zone ["thing"] g fd
 d_check_moment:∃ g fd,FD K mg "check_moment" s_check_moment ["thing"] g fd
 d_check_deeds:∃ g fd,FD K mg "check_deeds" s_check_deeds ["thing"] g fd
 d_check_runner:∃ g fd,FD K mg "check_runner" s_check_runner ["thing"] g fd
 d_check_term:∃ g fd,FD K mg "check_term" s_check_term ["thing"] g fd
 d_check_call:∃ g fd,FD K mg "check_call" s_check_call ["thing"] g fd
 d_ask:∃ g fd,FD K mg "ask" s_ask ["hall","call"] g fd
 d_do:∃ g fd,FD K mg "do" s_do ["hall","call"] g fd
 d_is_row:∃ g fd,FD K mg "is_row" s_is_row ["thing"] g fd
 d_check_rows:∃ g fd,FD K mg "check_rows" s_check_rows ["rows"] g fd
 d_walked_holds:∃ g fd,FD K mg "walked_holds" s_walked_holds ["rows"] g fd
 d_lasting_holds:∃ g fd,FD K mg "lasting_holds" s_lasting_holds ["rows"] g fd
 d_all_holds:∃ g fd,FD K mg "all_holds" s_all_holds ["rows"] g fd
 d_held_by:∃ g fd,FD K mg "held_by" s_held_by ["rows"] g fd
 d_holder_at:∃ g fd,FD K mg "holder_at" s_holder_at ["rows","moment"] g fd
 d_nobody:∃ g fd,FD K mg "nobody" s_nobody ["rows","last"] g fd
 d__law_cell_at:∃ g fd,FD K mg "_law_cell_at" s__law_cell_at ["_law_script","_law_k"] g fd
 d__law_mixed:∃ g fd,FD K mg "_law_mixed" s__law_mixed ["_law_script","_law_k","_law_many"] g fd
 d__law_draw:∃ g fd,FD K mg "_law_draw" s__law_draw ["_law_script","_law_town","_law_many"] g fd
 d__law_pick:∃ g fd,FD K mg "_law_pick" s__law_pick ["_law_script","_law_town","_law_some"] g fd
 d__law_rows:∃ g fd,FD K mg "_law_rows" s__law_rows ["_law_script","_law_town","_law_most"] g fd
 d__law_holds:∃ g fd,FD K mg "_law_holds" s__law_holds ["_law_rows_here"] g fd
 c_LAST_MOMENT:∃ t,mg "LAST_MOMENT" = some (.int (9999) t)
 c_LEAST_AHEAD:∃ t,mg "LEAST_AHEAD" = some (.int (-12) t)
 c_MOST_AHEAD:∃ t,mg "MOST_AHEAD" = some (.int (14) t)
 c_MOST_SHIFTS:∃ t,mg "MOST_SHIFTS" = some (.int (6) t)
 c_MOST_DEEDS:∃ t,mg "MOST_DEEDS" = some (.int (6) t)
 c_LAST_RUNNER:∃ t,mg "LAST_RUNNER" = some (.int (3) t)
 c_MOST_TERM:∃ t,mg "MOST_TERM" = some (.int (99) t)
 c_LENGTHS:∃ d,mg "LENGTHS" = some (.ref d)/\GDicK P w K d [("take",4),("give",3),("step",3),("finish",3)]
 c_ANY_ZONE:∃ u,mg "ANY_ZONE" = some u
 c_NO_DEEDS:∃ u,mg "NO_DEEDS" = some u
 b_all:mg "all" = none
 b_any:mg "any" = none
 b_bool:mg "bool" = none
 b_int:mg "int" = none
 b_isinstance:mg "isinstance" = none
 b_len:mg "len" = none
 b_list:mg "list" = none
 b_min:mg "min" = none
 b_range:mg "range" = none
 b_sorted:mg "sorted" = none
 b_str:mg "str" = none
 b_tuple:mg "tuple" = none
 xt0:∃ D,XT K mg exL D
structure HCx (K:PySem.W.Frag) (mg:Str->Option Value) (C:Addr):Prop where
 cl:Cls K C
 mg:mg "Hall" = some (.ref C)
 mks:PySem.W.makesIn K C=true
 kpC:PySem.W.keepIn K (.ref C)=true
 n_begun:NoAttr K C "begun"
 n_deeds:NoAttr K C "deeds"
 n_holder:NoAttr K C "holder"
 n_holds:NoAttr K C "holds"
 n_last:NoAttr K C "last"
 n_rows:NoAttr K C "rows"
 n_settled:NoAttr K C "settled"
 n_until:NoAttr K C "until"
 n_words:NoAttr K C "words"
 n_zone:NoAttr K C "zone"
 d_H___init__:∃ g fd,MD K C "__init__" "Hall.__init__" s_H___init__ ["self","zone","deeds"] g fd
 d_H_is_held:∃ g fd,MD K C "is_held" "Hall.is_held" s_H_is_held ["self","moment"] g fd
 d_H_check_call:∃ g fd,MD K C "check_call" "Hall.check_call" s_H_check_call ["self","runner","moment"] g fd
 d_H_check_holder:∃ g fd,MD K C "check_holder" "Hall.check_holder" s_H_check_holder ["self","runner","moment"] g fd
 d_H_take:∃ g fd,MD K C "take" "Hall.take" s_H_take ["self","runner","moment","term"] g fd
 d_H_give:∃ g fd,MD K C "give" "Hall.give" s_H_give ["self","runner","moment"] g fd
 d_H_held:∃ g fd,MD K C "held" "Hall.held" s_H_held ["self"] g fd
theorem HCx.make {K:PySem.W.Frag} {mg:Str->Option Value} {C g:Addr} (h:HCx K mg C) (M:Meth K C "__init__" g):Mk K C g:=⟨h.mks,M.at_,M.fn,h.kpC⟩
theorem bt_int:bootBuiltins "int" = some (.type "int"):=by decide +kernel
theorem bt_bool:bootBuiltins "bool" = some (.type "bool"):=by decide +kernel
theorem bt_str:bootBuiltins "str" = some (.type "str"):=by decide +kernel
theorem bt_tuple:bootBuiltins "tuple" = some (.type "tuple"):=by decide +kernel
theorem bt_list:bootBuiltins "list" = some (.type "list"):=by decide +kernel
theorem bt_max:bootBuiltins "max" = some (.builtin "max"):=by decide +kernel
theorem bt_divmod:bootBuiltins "divmod" = some (.builtin "divmod"):=by decide +kernel
theorem bt_all:bootBuiltins "all" = some (.builtin "all"):=by decide +kernel
theorem bt_any:bootBuiltins "any" = some (.builtin "any"):=by decide +kernel
theorem bt_sum:bootBuiltins "sum" = some (.builtin "sum"):=by decide +kernel
theorem bt_min:bootBuiltins "min" = some (.builtin "min"):=by decide +kernel
theorem bt_sorted:bootBuiltins "sorted" = some (.builtin "sorted"):=by decide +kernel
theorem xok0 {X:Cx} {F:Fx} (hG:GF X.mg F):XOk X F E0':=⟨hG,fun _ _ _ _ _ _ _ _ _ _ z=>z.elim⟩
end K3
namespace K3
open PySem PySem.Spec L2 L2.L3 PyProof.Rows
section
variable (P:Program) (w:World) {K:PySem.W.Frag} {mg:Str->Option Value} (base:Heap)
theorem ok_is_whole {g:Addr} {fd:FuncData} (T:Tx P w K mg) (D:FD K mg "is_whole" s_is_whole ["thing","least","most"] g fd):FnOk P w K mg base (CXM P w) 1 g fd ["thing","least","most"] (spF K mg f_is_whole):=by
 refine fn_F D.fn sc_is_whole (by decide) ?_
 intro cdv A outer s H E F E' hr hx
 unfold m_is_whole
 refine fss_one ?_
 refine fs_ret ?_
 ·exact (fe_and (fe_is (de_isinst rfl T.b_isinstance (fv 0) (pe_bltn rfl T.b_int bt_int rfl))) (fe_and (fe_not (fe_is (de_isinst rfl T.b_isinstance (fv 0) (pe_bltn rfl T.b_bool bt_bool rfl)))) (fe_one (fe_lele (fv 1) (fv 0) (fv 2)))))
theorem ok_is_tuple_of {g:Addr} {fd:FuncData} (T:Tx P w K mg) (D:FD K mg "is_tuple_of" s_is_tuple_of ["thing","length"] g fd):FnOk P w K mg base (CXM P w) 1 g fd ["thing","length"] (spF K mg f_is_tuple_of):=by
 refine fn_F D.fn sc_is_tuple_of (by decide) ?_
 intro cdv A outer s H E F E' hr hx
 unfold m_is_tuple_of
 refine fss_one ?_
 refine fs_ret ?_
 ·exact (fe_and (fe_is (de_isinst rfl T.b_isinstance (fv 0) (pe_bltn rfl T.b_tuple bt_tuple rfl))) (fe_one (fe_eq hr.units (fe_cb fn_len (de_callB call_len_seq n_len rfl T.b_len PySem.boot_len (fa_c (fv 0) fa_nil))) (fv 1))))
theorem ok_are_deeds {g:Addr} {fd:FuncData} (T:Tx P w K mg) (D:FD K mg "are_deeds" s_are_deeds ["thing"] g fd):FnOk P w K mg base (CXM P w) 1 g fd ["thing"] (spF K mg f_are_deeds):=by
 obtain ⟨t_MOST_DEEDS,g_MOST_DEEDS⟩:=T.c_MOST_DEEDS
 refine fn_F D.fn sc_are_deeds (by decide) ?_
 intro cdv A outer s H E F E' hr hx
 unfold m_are_deeds
 refine fss_cons ?_ ?_
 ·refine fs_if ?_ ?_ ?_
  ·exact (fb_w (fw_or (fb_not (fb_val (db_val (fe_is (de_isinst rfl T.b_isinstance (fv 0) (pe_bltn rfl T.b_tuple bt_tuple rfl)))))) (fw_or1 (fb_gt (fe_cb fn_len (de_callB call_len_seq n_len rfl T.b_len PySem.boot_len (fa_c (fv 0) fa_nil))) (fe_c (de_gint rfl g_MOST_DEEDS))))))
  ·refine fss_one ?_
   refine fs_ret ?_
   ·exact (fe_c de_bl)
  ·exact fss_nil
 refine fss_one ?_
 refine fs_ret ?_
 ·exact (fe_cb fn_all (de_callB (call_allB rfl) n_all rfl T.b_all bt_all (fa_c (fe_comp hx.1 (CompScope.of (own:=["deed"]) (capN:=[]) (caps:=[])) rfl rfl (fi_tup (fv 0)) (fun _ _ _ _ _ _ hg=>⟨(fgn 0 (show ((["deed"]:List Str) ++ ([]:List Str)).Nodup from by decide +kernel)),fbs_nil,(fe_frz fo_bad)⟩)) fa_nil)))
theorem ok__law_cell_at {g:Addr} {fd:FuncData} (T:Tx P w K mg) (D:FD K mg "_law_cell_at" s__law_cell_at ["_law_script","_law_k"] g fd):FnOk P w K mg base (CXM P w) 1 g fd ["_law_script","_law_k"] (spF K mg f__law_cell_at):=by
 refine fn_F D.fn sc__law_cell_at (by decide) ?_
 intro cdv A outer s H E F E' hr hx
 unfold m__law_cell_at
 refine fss_cons ?_ ?_
 ·refine fs_if ?_ ?_ ?_
  ·exact (fb_lt (fv 1) (fe_lenS (de_lenS rfl T.b_len (pv 0))))
  ·refine fss_one ?_
   refine fs_ret ?_
   ·exact (fe_ixS (de_ixS (pv 0) (fv 1) (by intro _ _; rfl)))
  ·exact fss_nil
 refine fss_cons ?_ ?_
 ·refine fs_if ?_ ?_ ?_
  ·exact (fb_eqS (db_eqS hr.units (pv 0)))
  ·refine fss_one ?_
   refine fs_ret ?_
   ·exact (fe_c de_int)
  ·exact fss_nil
 refine fss_one ?_
 refine fs_ret ?_
 ·exact (fe_add (fe_mul (fe_ixS (de_ixS (pv 0) (fe_mod (fv 1) (fe_lenS (de_lenS rfl T.b_len (pv 0)))) (by intro _ _; rfl))) (fe_c de_int)) (fv 1))
theorem ok__law_holds {g:Addr} {fd:FuncData} (T:Tx P w K mg) (D:FD K mg "_law_holds" s__law_holds ["_law_rows_here"] g fd):FnOk P w K mg base (CXM P w) 1 g fd ["_law_rows_here"] (spF K mg f__law_holds):=by
 refine fn_F D.fn sc__law_holds (by decide) ?_
 intro cdv A outer s H E F E' hr hx
 unfold m__law_holds
 refine fss_cons ?_ ?_
 ·exact (fs_parL (i:=1) (j:=2) (l:=3) rfl sc__law_holds.nd rfl rfl rfl (by decide) (by decide) (by decide) rfl rfl rfl)
 refine fss_cons ?_ ?_
 ·refine fs_for ?_ ?_ ?_ ?_ ?_ ?_ <;> try first|rfl|exact .inl rfl|exact .inr rfl|assumption|exact fun _=>rfl
  ·exact PassesOwn.leaving
  ·exact (fi_list (fv 0))
  ·exact (fgn 4 sc__law_holds.nd)
  ·unfold b__law_holds_1
   refine fss_cons ?_ ?_
   ·refine fs_set (i:=5) ?_ ?_ ?_ ?_ ?_ ?_ <;> try first|rfl|exact .inl rfl|exact .inr rfl|assumption|exact fun _=>rfl
    ·exact sc__law_holds.nd
    ·exact (fe_and (fe_notN (fv 2) (fe_c de_non)) (fe_one (fe_lt (fe_ix (fv 4) (fe_c de_int)) (fv 3))))
   refine fss_one ?_
   refine fs_if ?_ ?_ ?_
   ·exact (fb_w (fw_and (fb_eq hr.units (fe_ix (fv 4) (fe_c de_int)) (fe_c de_str)) (fw_and1 (fb_not (fb_val (db_val (fv 5)))))))
   ·refine fss_cons ?_ ?_
    ·refine fs_llapp ?_ ?_ ?_ ?_ ?_ ?_ ?_ ?_ <;> try first|rfl|exact .inl rfl|exact .inr rfl|assumption|exact fun _=>rfl
     ·exact (pv 1)
     ·exact (fa_c (fe_ix (fv 4) (fe_c de_int)) (fa_c (fe_ix (fv 4) (fe_c de_int)) (fa_c (fe_add (fe_ix (fv 4) (fe_c de_int)) (fe_ix (fv 4) (fe_c de_int))) fa_nil)))
    refine fss_one ?_
    refine fs_par ?_
    ·exact (ds_par (i:=2) (j:=3) rfl sc__law_holds.nd rfl rfl (by decide) rfl rfl (fa_c (fe_ix (fv 4) (fe_c de_int)) (fa_c (fe_add (fe_ix (fv 4) (fe_c de_int)) (fe_ix (fv 4) (fe_c de_int))) fa_nil)))
   ·refine fss_one ?_
    refine fs_if ?_ ?_ ?_
    ·exact (fb_w (fw_and (fb_eq hr.units (fe_ix (fv 4) (fe_c de_int)) (fe_c de_str)) (fw_and1 (fb_eq hr.units (fv 2) (fe_ix (fv 4) (fe_c de_int))))))
    ·refine fss_cons ?_ ?_
     ·refine fs_set (i:=3) ?_ ?_ ?_ ?_ ?_ ?_ <;> try first|rfl|exact .inl rfl|exact .inr rfl|assumption|exact fun _=>rfl
      ·exact sc__law_holds.nd
      ·exact (fe_add (fe_ix (fv 4) (fe_c de_int)) (fe_ix (fv 4) (fe_c de_int)))
     refine fss_one ?_
     exact (fs_llset (pv 1) pe_m1 pe_int (fv 3))
    ·refine fss_one ?_
     refine fs_if ?_ ?_ ?_
     ·exact (fb_w (fw_and (fb_eq hr.units (fe_ix (fv 4) (fe_c de_int)) (fe_c de_str)) (fw_and (fb_val (db_val (fv 5))) (fw_and1 (fb_eq hr.units (fv 2) (fe_ix (fv 4) (fe_c de_int)))))))
     ·refine fss_cons ?_ ?_
      ·exact (fs_llset (pv 1) pe_m1 pe_int (fe_ix (fv 4) (fe_c de_int)))
      refine fss_one ?_
      refine fs_set (i:=2) ?_ ?_ ?_ ?_ ?_ ?_ <;> try first|rfl|exact .inl rfl|exact .inr rfl|assumption|exact fun _=>rfl
      ·exact sc__law_holds.nd
      ·exact (fe_c de_non)
     ·exact fss_nil
 refine fss_one ?_
 refine fs_ret ?_
 ·exact (fe_comp hx.1 (CompScope.of (own:=["_law_one"]) (capN:=[]) (caps:=[])) rfl rfl (fi_list (fe_vl (pv 1))) (fun _ _ _ _ _ _ hg=>⟨(fgn 0 (show ((["_law_one"]:List Str) ++ ([]:List Str)).Nodup from by decide +kernel)),(fbs_one (fb_lt (fe_ix (fv 0) (fe_c de_int)) (fe_ix (fv 0) (fe_c de_int)))),(fe_cb fn_tuple (de_callTy call_tuple_of n_tuple rfl T.b_tuple bt_tuple (fa_c (fv 0) fa_nil)))⟩))
theorem ok_H_is_held {C:Addr} {g:Addr} {fd:FuncData} (T:Tx P w K mg) (HC:HCx K mg C) (D:MD K C "is_held" "Hall.is_held" s_H_is_held ["self","moment"] g fd):FnOk P w K mg base (CXM P w) 1 g fd ["self","moment"] (spF K mg (f_H_is_held C)):=by
 refine fn_F D.fn sc_H_is_held (by decide) ?_
 intro cdv A outer s H E F E' hr hx
 unfold m_H_is_held
 refine fss_one ?_
 refine fs_ret ?_
 ·exact (fe_and (fe_notN (fe_fld HC.cl HC.n_holder (pv 0)) (fe_c de_non)) (fe_one (fe_lt (fv 1) (fe_fld HC.cl HC.n_until (pv 0)))))
theorem ok_H_held {C:Addr} {g:Addr} {fd:FuncData} (T:Tx P w K mg) (HC:HCx K mg C) (D:MD K C "held" "Hall.held" s_H_held ["self"] g fd):FnOk P w K mg base (CXM P w) 1 g fd ["self"] (spF K mg (f_H_held C)):=by
 refine fn_F D.fn sc_H_held (by decide) ?_
 intro cdv A outer s H E F E' hr hx
 unfold m_H_held
 refine fss_one ?_
 refine fs_ret ?_
 ·exact (fe_tup (fa_c (fe_fld HC.cl HC.n_holder (pv 0)) (fa_c (fe_fld HC.cl HC.n_until (pv 0)) (fa_c (fe_fld HC.cl HC.n_holds (pv 0)) fa_nil))))
theorem ok_is_ahead {g:Addr} {fd:FuncData} (T:Tx P w K mg) (D:FD K mg "is_ahead" s_is_ahead ["thing"] g fd):FnOk P w K mg base (CXM P w) 2 g fd ["thing"] (spF K mg f_is_ahead):=by
 obtain ⟨g_is_whole,fd_is_whole,D_is_whole⟩:=T.d_is_whole
 have G_is_whole:=ok_is_whole P w base T D_is_whole
 obtain ⟨t_LEAST_AHEAD,g_LEAST_AHEAD⟩:=T.c_LEAST_AHEAD
 obtain ⟨t_MOST_AHEAD,g_MOST_AHEAD⟩:=T.c_MOST_AHEAD
 refine fn_F D.fn sc_is_ahead (by decide) ?_
 intro cdv A outer s H E F E' hr hx
 unfold m_is_ahead
 refine fss_one ?_
 refine fs_retO ?_
 ·exact (fcd hx G_is_whole D_is_whole hr (fx_v (fv 0) (fx_v (fe_c (de_gint rfl g_LEAST_AHEAD)) (fx_v (fe_c (de_gint rfl g_MOST_AHEAD)) fx_nil))))
theorem ok_is_moment {g:Addr} {fd:FuncData} (T:Tx P w K mg) (D:FD K mg "is_moment" s_is_moment ["thing"] g fd):FnOk P w K mg base (CXM P w) 2 g fd ["thing"] (spF K mg f_is_moment):=by
 obtain ⟨g_is_whole,fd_is_whole,D_is_whole⟩:=T.d_is_whole
 have G_is_whole:=ok_is_whole P w base T D_is_whole
 obtain ⟨t_LAST_MOMENT,g_LAST_MOMENT⟩:=T.c_LAST_MOMENT
 refine fn_F D.fn sc_is_moment (by decide) ?_
 intro cdv A outer s H E F E' hr hx
 unfold m_is_moment
 refine fss_one ?_
 refine fs_retO ?_
 ·exact (fcd hx G_is_whole D_is_whole hr (fx_v (fv 0) (fx_v (fe_c de_int) (fx_v (fe_c (de_gint rfl g_LAST_MOMENT)) fx_nil))))
theorem ok_is_runner {g:Addr} {fd:FuncData} (T:Tx P w K mg) (D:FD K mg "is_runner" s_is_runner ["thing"] g fd):FnOk P w K mg base (CXM P w) 2 g fd ["thing"] (spF K mg f_is_runner):=by
 obtain ⟨g_is_whole,fd_is_whole,D_is_whole⟩:=T.d_is_whole
 have G_is_whole:=ok_is_whole P w base T D_is_whole
 obtain ⟨t_LAST_RUNNER,g_LAST_RUNNER⟩:=T.c_LAST_RUNNER
 refine fn_F D.fn sc_is_runner (by decide) ?_
 intro cdv A outer s H E F E' hr hx
 unfold m_is_runner
 refine fss_one ?_
 refine fs_retO ?_
 ·exact (fcd hx G_is_whole D_is_whole hr (fx_v (fv 0) (fx_v (fe_c de_int) (fx_v (fe_c (de_gint rfl g_LAST_RUNNER)) fx_nil))))
theorem ok_is_term {g:Addr} {fd:FuncData} (T:Tx P w K mg) (D:FD K mg "is_term" s_is_term ["thing"] g fd):FnOk P w K mg base (CXM P w) 2 g fd ["thing"] (spF K mg f_is_term):=by
 obtain ⟨g_is_whole,fd_is_whole,D_is_whole⟩:=T.d_is_whole
 have G_is_whole:=ok_is_whole P w base T D_is_whole
 obtain ⟨t_MOST_TERM,g_MOST_TERM⟩:=T.c_MOST_TERM
 refine fn_F D.fn sc_is_term (by decide) ?_
 intro cdv A outer s H E F E' hr hx
 unfold m_is_term
 refine fss_one ?_
 refine fs_retO ?_
 ·exact (fcd hx G_is_whole D_is_whole hr (fx_v (fv 0) (fx_v (fe_c de_int) (fx_v (fe_c (de_gint rfl g_MOST_TERM)) fx_nil))))
theorem ok_has_word {g:Addr} {fd:FuncData} (T:Tx P w K mg) (D:FD K mg "has_word" s_has_word ["thing","word","length"] g fd):FnOk P w K mg base (CXM P w) 2 g fd ["thing","word","length"] (spF K mg f_has_word):=by
 obtain ⟨g_is_tuple_of,fd_is_tuple_of,D_is_tuple_of⟩:=T.d_is_tuple_of
 have G_is_tuple_of:=ok_is_tuple_of P w base T D_is_tuple_of
 refine fn_F D.fn sc_has_word (by decide) ?_
 intro cdv A outer s H E F E' hr hx
 unfold m_has_word
 refine fss_one ?_
 refine fs_ret ?_
 ·exact (fe_and (fe_frz (fcd hx G_is_tuple_of D_is_tuple_of hr (fx_v (fv 0) (fx_v (fv 2) fx_nil)))) (fe_and (fe_is (de_isinst rfl T.b_isinstance (fe_ix (fv 0) (fe_c de_int)) (pe_bltn rfl T.b_str bt_str rfl))) (fe_one (fe_eq hr.units (fe_ix (fv 0) (fe_c de_int)) (fv 1)))))
theorem ok_check_deeds {g:Addr} {fd:FuncData} (T:Tx P w K mg) (D:FD K mg "check_deeds" s_check_deeds ["thing"] g fd):FnOk P w K mg base (CXM P w) 2 g fd ["thing"] (spF K mg f_check_deeds):=by
 obtain ⟨g_are_deeds,fd_are_deeds,D_are_deeds⟩:=T.d_are_deeds
 have G_are_deeds:=ok_are_deeds P w base T D_are_deeds
 obtain ⟨DE_,xt⟩:=T.xt0
 obtain ⟨C_NoDeeds,E_NoDeeds,_⟩:=xt.at_ (c:="NoDeeds") (by decide +kernel)
 refine fn_F D.fn sc_check_deeds (by decide) ?_
 intro cdv A outer s H E F E' hr hx
 unfold m_check_deeds
 refine fss_one ?_
 refine fs_if ?_ ?_ ?_
 ·exact (fb_not (fb_val (db_val (fe_frz (fcd hx G_are_deeds D_are_deeds hr (fx_v (fv 0) fx_nil))))))
 ·refine fss_one ?_
  exact (fs_raise hx hr.hd rfl E_NoDeeds)
 ·exact fss_nil
theorem ok__law_mixed {g:Addr} {fd:FuncData} (T:Tx P w K mg) (D:FD K mg "_law_mixed" s__law_mixed ["_law_script","_law_k","_law_many"] g fd):FnOk P w K mg base (CXM P w) 2 g fd ["_law_script","_law_k","_law_many"] (spF K mg f__law_mixed):=by
 obtain ⟨g__law_cell_at,fd__law_cell_at,D__law_cell_at⟩:=T.d__law_cell_at
 have G__law_cell_at:=ok__law_cell_at P w base T D__law_cell_at
 refine fn_F D.fn sc__law_mixed (by decide) ?_
 intro cdv A outer s H E F E' hr hx
 unfold m__law_mixed
 refine fss_cons ?_ ?_
 ·refine fs_set (i:=3) ?_ ?_ ?_ ?_ ?_ ?_ <;> try first|rfl|exact .inl rfl|exact .inr rfl|assumption|exact fun _=>rfl
  ·exact sc__law_mixed.nd
  ·exact (fe_mod (fe_add (fe_add (fe_mul (fe_frz (fcd hx G__law_cell_at D__law_cell_at hr (fx_s (pv 0) (fx_v (fv 1) fx_nil)))) (fe_c de_int)) (fe_mul (fe_c de_int) (fv 1))) (fe_c de_int)) (fe_c de_int))
 refine fss_one ?_
 refine fs_ret ?_
 ·exact (fe_mod (fe_mod (fe_mod (fe_pow (fv 3) (fe_c de_int)) (fe_c de_int)) (fe_c de_int)) (fv 2))
theorem ok_are_shifts {g:Addr} {fd:FuncData} (T:Tx P w K mg) (D:FD K mg "are_shifts" s_are_shifts ["thing"] g fd):FnOk P w K mg base (CXM P w) 3 g fd ["thing"] (spF K mg f_are_shifts):=by
 obtain ⟨g_is_whole,fd_is_whole,D_is_whole⟩:=T.d_is_whole
 have G_is_whole:=ok_is_whole P w base T D_is_whole
 obtain ⟨g_is_tuple_of,fd_is_tuple_of,D_is_tuple_of⟩:=T.d_is_tuple_of
 have G_is_tuple_of:=ok_is_tuple_of P w base T D_is_tuple_of
 obtain ⟨g_is_ahead,fd_is_ahead,D_is_ahead⟩:=T.d_is_ahead
 have G_is_ahead:=ok_is_ahead P w base T D_is_ahead
 obtain ⟨t_LAST_MOMENT,g_LAST_MOMENT⟩:=T.c_LAST_MOMENT
 obtain ⟨t_MOST_SHIFTS,g_MOST_SHIFTS⟩:=T.c_MOST_SHIFTS
 refine fn_F D.fn sc_are_shifts (by decide) ?_
 intro cdv A outer s H E F E' hr hx
 unfold m_are_shifts
 refine fss_cons ?_ ?_
 ·refine fs_if ?_ ?_ ?_
  ·exact (fb_w (fw_or (fb_not (fb_val (db_val (fe_is (de_isinst rfl T.b_isinstance (fv 0) (pe_bltn rfl T.b_tuple bt_tuple rfl)))))) (fw_or1 (fb_gt (fe_cb fn_len (de_callB call_len_seq n_len rfl T.b_len PySem.boot_len (fa_c (fv 0) fa_nil))) (fe_c (de_gint rfl g_MOST_SHIFTS))))))
  ·refine fss_one ?_
   refine fs_ret ?_
   ·exact (fe_c de_bl)
  ·exact fss_nil
 refine fss_cons ?_ ?_
 ·refine fs_set (i:=1) ?_ ?_ ?_ ?_ ?_ ?_ <;> try first|rfl|exact .inl rfl|exact .inr rfl|assumption|exact fun _=>rfl
  ·exact sc_are_shifts.nd
  ·exact (fe_c de_int)
 refine fss_cons ?_ ?_
 ·refine fs_for ?_ ?_ ?_ ?_ ?_ ?_ <;> try first|rfl|exact .inl rfl|exact .inr rfl|assumption|exact fun _=>rfl
  ·exact PassesOwn.leaving
  ·exact (fi_tup (fv 0))
  ·exact (fgn 2 sc_are_shifts.nd)
  ·unfold b_are_shifts_1
   refine fss_cons ?_ ?_
   ·refine fs_if ?_ ?_ ?_
    ·exact (fb_w (fw_or (fb_not (fb_val (db_val (fe_frz (fcd hx G_is_tuple_of D_is_tuple_of hr (fx_v (fv 2) (fx_v (fe_c de_int) fx_nil))))))) (fw_or1 (fb_not (fb_val (db_val (fe_frz (fcd hx G_is_ahead D_is_ahead hr (fx_v (fe_ix (fv 2) (fe_c de_int)) fx_nil)))))))))
    ·refine fss_one ?_
     refine fs_ret ?_
     ·exact (fe_c de_bl)
    ·exact fss_nil
   refine fss_cons ?_ ?_
   ·refine fs_if ?_ ?_ ?_
    ·exact (fb_not (fb_val (db_val (fe_frz (fcd hx G_is_whole D_is_whole hr (fx_v (fe_ix (fv 2) (fe_c de_int)) (fx_v (fv 1) (fx_v (fe_c (de_gint rfl g_LAST_MOMENT)) fx_nil))))))))
    ·refine fss_one ?_
     refine fs_ret ?_
     ·exact (fe_c de_bl)
    ·exact fss_nil
   refine fss_one ?_
   refine fs_set (i:=1) ?_ ?_ ?_ ?_ ?_ ?_ <;> try first|rfl|exact .inl rfl|exact .inr rfl|assumption|exact fun _=>rfl
   ·exact sc_are_shifts.nd
   ·exact (fe_add (fe_ix (fv 2) (fe_c de_int)) (fe_c de_int))
 refine fss_one ?_
 refine fs_ret ?_
 ·exact (fe_c de_bl)
theorem ok_check_moment {g:Addr} {fd:FuncData} (T:Tx P w K mg) (D:FD K mg "check_moment" s_check_moment ["thing"] g fd):FnOk P w K mg base (CXM P w) 3 g fd ["thing"] (spF K mg f_check_moment):=by
 obtain ⟨g_is_moment,fd_is_moment,D_is_moment⟩:=T.d_is_moment
 have G_is_moment:=ok_is_moment P w base T D_is_moment
 obtain ⟨DE_,xt⟩:=T.xt0
 obtain ⟨C_NoMoment,E_NoMoment,_⟩:=xt.at_ (c:="NoMoment") (by decide +kernel)
 refine fn_F D.fn sc_check_moment (by decide) ?_
 intro cdv A outer s H E F E' hr hx
 unfold m_check_moment
 refine fss_one ?_
 refine fs_if ?_ ?_ ?_
 ·exact (fb_not (fb_val (db_val (fe_frz (fcd hx G_is_moment D_is_moment hr (fx_v (fv 0) fx_nil))))))
 ·refine fss_one ?_
  exact (fs_raise hx hr.hd rfl E_NoMoment)
 ·exact fss_nil
theorem ok_check_runner {g:Addr} {fd:FuncData} (T:Tx P w K mg) (D:FD K mg "check_runner" s_check_runner ["thing"] g fd):FnOk P w K mg base (CXM P w) 3 g fd ["thing"] (spF K mg f_check_runner):=by
 obtain ⟨g_is_runner,fd_is_runner,D_is_runner⟩:=T.d_is_runner
 have G_is_runner:=ok_is_runner P w base T D_is_runner
 obtain ⟨DE_,xt⟩:=T.xt0
 obtain ⟨C_NoRunner,E_NoRunner,_⟩:=xt.at_ (c:="NoRunner") (by decide +kernel)
 refine fn_F D.fn sc_check_runner (by decide) ?_
 intro cdv A outer s H E F E' hr hx
 unfold m_check_runner
 refine fss_one ?_
 refine fs_if ?_ ?_ ?_
 ·exact (fb_not (fb_val (db_val (fe_frz (fcd hx G_is_runner D_is_runner hr (fx_v (fv 0) fx_nil))))))
 ·refine fss_one ?_
  exact (fs_raise hx hr.hd rfl E_NoRunner)
 ·exact fss_nil
theorem ok_check_term {g:Addr} {fd:FuncData} (T:Tx P w K mg) (D:FD K mg "check_term" s_check_term ["thing"] g fd):FnOk P w K mg base (CXM P w) 3 g fd ["thing"] (spF K mg f_check_term):=by
 obtain ⟨g_is_term,fd_is_term,D_is_term⟩:=T.d_is_term
 have G_is_term:=ok_is_term P w base T D_is_term
 obtain ⟨DE_,xt⟩:=T.xt0
 obtain ⟨C_NoTerm,E_NoTerm,_⟩:=xt.at_ (c:="NoTerm") (by decide +kernel)
 refine fn_F D.fn sc_check_term (by decide) ?_
 intro cdv A outer s H E F E' hr hx
 unfold m_check_term
 refine fss_one ?_
 refine fs_if ?_ ?_ ?_
 ·exact (fb_not (fb_val (db_val (fe_frz (fcd hx G_is_term D_is_term hr (fx_v (fv 0) fx_nil))))))
 ·refine fss_one ?_
  exact (fs_raise hx hr.hd rfl E_NoTerm)
 ·exact fss_nil
theorem ok_check_call {g:Addr} {fd:FuncData} (T:Tx P w K mg) (D:FD K mg "check_call" s_check_call ["thing"] g fd):FnOk P w K mg base (CXM P w) 3 g fd ["thing"] (spF K mg f_check_call):=by
 obtain ⟨g_has_word,fd_has_word,D_has_word⟩:=T.d_has_word
 have G_has_word:=ok_has_word P w base T D_has_word
 obtain ⟨t_LENGTHS,g_LENGTHS⟩:=T.c_LENGTHS
 obtain ⟨DE_,xt⟩:=T.xt0
 obtain ⟨C_NoCall,E_NoCall,_⟩:=xt.at_ (c:="NoCall") (by decide +kernel)
 refine fn_F D.fn sc_check_call (by decide) ?_
 intro cdv A outer s H E F E' hr hx
 unfold m_check_call
 refine fss_one ?_
 refine fs_if ?_ ?_ ?_
 ·exact (fb_not (fb_val (db_val (fe_cb fn_any (de_callB (call_anyB rfl) n_any rfl T.b_any bt_any (fa_c (fe_comp hx.1 (CompScope.of (own:=["word"]) (capN:=["thing"]) (caps:=[0])) rfl rfl (fi_gdic (kd:=[("take",4),("give",3),("step",3),("finish",3)]) rfl g_LENGTHS.1 g_LENGTHS.2) (fun _ _ _ _ _ _ hg=>⟨(fgn 0 (show ((["word"]:List Str) ++ (["thing"]:List Str)).Nodup from by decide +kernel)),fbs_nil,(fe_frz (fcd (xok0 hg) G_has_word D_has_word hr (fx_v (fv 1) (fx_v (fv 0) (fx_v (fe_gdic (kd:=[("take",4),("give",3),("step",3),("finish",3)]) rfl g_LENGTHS.1 g_LENGTHS.2 (fv 0)) fx_nil)))))⟩)) fa_nil))))))
 ·refine fss_one ?_
  exact (fs_raise hx hr.hd rfl E_NoCall)
 ·exact fss_nil
theorem ok_is_row {g:Addr} {fd:FuncData} (T:Tx P w K mg) (D:FD K mg "is_row" s_is_row ["thing"] g fd):FnOk P w K mg base (CXM P w) 3 g fd ["thing"] (spF K mg f_is_row):=by
 obtain ⟨g_has_word,fd_has_word,D_has_word⟩:=T.d_has_word
 have G_has_word:=ok_has_word P w base T D_has_word
 obtain ⟨g_is_runner,fd_is_runner,D_is_runner⟩:=T.d_is_runner
 have G_is_runner:=ok_is_runner P w base T D_is_runner
 obtain ⟨g_is_moment,fd_is_moment,D_is_moment⟩:=T.d_is_moment
 have G_is_moment:=ok_is_moment P w base T D_is_moment
 obtain ⟨g_is_term,fd_is_term,D_is_term⟩:=T.d_is_term
 have G_is_term:=ok_is_term P w base T D_is_term
 refine fn_F D.fn sc_is_row (by decide) ?_
 intro cdv A outer s H E F E' hr hx
 unfold m_is_row
 refine fss_cons ?_ ?_
 ·refine fs_if ?_ ?_ ?_
  ·exact (fb_val (db_val (fe_frz (fcd hx G_has_word D_has_word hr (fx_v (fv 0) (fx_v (fe_c de_str) (fx_v (fe_c de_int) fx_nil)))))))
  ·refine fss_one ?_
   refine fs_ret ?_
   ·exact (fe_and (fe_frz (fcd hx G_is_runner D_is_runner hr (fx_v (fe_ix (fv 0) (fe_c de_int)) fx_nil))) (fe_and (fe_frz (fcd hx G_is_moment D_is_moment hr (fx_v (fe_ix (fv 0) (fe_c de_int)) fx_nil))) (fe_one (fe_frz (fcd hx G_is_term D_is_term hr (fx_v (fe_ix (fv 0) (fe_c de_int)) fx_nil))))))
  ·exact fss_nil
 refine fss_one ?_
 refine fs_ret ?_
 ·exact (fe_and (fe_frz (fcd hx G_has_word D_has_word hr (fx_v (fv 0) (fx_v (fe_c de_str) (fx_v (fe_c de_int) fx_nil))))) (fe_and (fe_frz (fcd hx G_is_runner D_is_runner hr (fx_v (fe_ix (fv 0) (fe_c de_int)) fx_nil))) (fe_one (fe_frz (fcd hx G_is_moment D_is_moment hr (fx_v (fe_ix (fv 0) (fe_c de_int)) fx_nil))))))
theorem ok__law_draw {g:Addr} {fd:FuncData} (T:Tx P w K mg) (D:FD K mg "_law_draw" s__law_draw ["_law_script","_law_town","_law_many"] g fd):FnOk P w K mg base (CXM P w) 3 g fd ["_law_script","_law_town","_law_many"] (spF K mg f__law_draw):=by
 obtain ⟨g__law_mixed,fd__law_mixed,D__law_mixed⟩:=T.d__law_mixed
 have G__law_mixed:=ok__law_mixed P w base T D__law_mixed
 refine fn_F D.fn sc__law_draw (by decide) ?_
 intro cdv A outer s H E F E' hr hx
 unfold m__law_draw
 refine fss_cons ?_ ?_
 ·refine fs_app ?_ ?_ ?_ ?_ ?_ ?_ ?_ ?_ <;> try first|rfl|exact .inl rfl|exact .inr rfl|assumption|exact fun _=>rfl
  ·exact (pv 1)
  ·exact (fe_c de_int)
 refine fss_one ?_
 refine fs_retO ?_
 ·exact (fcd hx G__law_mixed D__law_mixed hr (fx_s (pv 0) (fx_v (fe_lenN rfl T.b_len (pv 1)) (fx_v (fv 2) fx_nil))))
theorem ok_is_zone {g:Addr} {fd:FuncData} (T:Tx P w K mg) (D:FD K mg "is_zone" s_is_zone ["thing"] g fd):FnOk P w K mg base (CXM P w) 4 g fd ["thing"] (spF K mg f_is_zone):=by
 obtain ⟨g_is_tuple_of,fd_is_tuple_of,D_is_tuple_of⟩:=T.d_is_tuple_of
 have G_is_tuple_of:=ok_is_tuple_of P w base T D_is_tuple_of
 obtain ⟨g_is_ahead,fd_is_ahead,D_is_ahead⟩:=T.d_is_ahead
 have G_is_ahead:=ok_is_ahead P w base T D_is_ahead
 obtain ⟨g_are_shifts,fd_are_shifts,D_are_shifts⟩:=T.d_are_shifts
 have G_are_shifts:=ok_are_shifts P w base T D_are_shifts
 refine fn_F D.fn sc_is_zone (by decide) ?_
 intro cdv A outer s H E F E' hr hx
 unfold m_is_zone
 refine fss_one ?_
 refine fs_ret ?_
 ·exact (fe_and (fe_frz (fcd hx G_is_tuple_of D_is_tuple_of hr (fx_v (fv 0) (fx_v (fe_c de_int) fx_nil)))) (fe_and (fe_frz (fcd hx G_is_ahead D_is_ahead hr (fx_v (fe_ix (fv 0) (fe_c de_int)) fx_nil))) (fe_one (fe_frz (fcd hx G_are_shifts D_are_shifts hr (fx_v (fe_ix (fv 0) (fe_c de_int)) fx_nil))))))
theorem ok_check_rows {g:Addr} {fd:FuncData} (T:Tx P w K mg) (D:FD K mg "check_rows" s_check_rows ["rows"] g fd):FnOk P w K mg base (CXM P w) 4 g fd ["rows"] (spF K mg f_check_rows):=by
 obtain ⟨g_is_row,fd_is_row,D_is_row⟩:=T.d_is_row
 have G_is_row:=ok_is_row P w base T D_is_row
 obtain ⟨DE_,xt⟩:=T.xt0
 obtain ⟨C_NoHolds,E_NoHolds,_⟩:=xt.at_ (c:="NoHolds") (by decide +kernel)
 refine fn_F D.fn sc_check_rows (by decide) ?_
 intro cdv A outer s H E F E' hr hx
 unfold m_check_rows
 refine fss_cons ?_ ?_
 ·refine fs_if ?_ ?_ ?_
  ·exact (fb_not (fb_val (db_val (fe_is (de_isinst rfl T.b_isinstance (fv 0) (pe_bltn rfl T.b_list bt_list rfl))))))
  ·refine fss_one ?_
   exact (fs_raise hx hr.hd rfl E_NoHolds)
  ·exact fss_nil
 refine fss_cons ?_ ?_
 ·refine fs_set (i:=1) ?_ ?_ ?_ ?_ ?_ ?_ <;> try first|rfl|exact .inl rfl|exact .inr rfl|assumption|exact fun _=>rfl
  ·exact sc_check_rows.nd
  ·exact (fe_c de_int)
 refine fss_one ?_
 refine fs_for ?_ ?_ ?_ ?_ ?_ ?_ <;> try first|rfl|exact .inl rfl|exact .inr rfl|assumption|exact fun _=>rfl
 ·exact PassesOwn.leaving
 ·exact (fi_list (fv 0))
 ·exact (fgn 2 sc_check_rows.nd)
 ·unfold b_check_rows_1
  refine fss_cons ?_ ?_
  ·refine fs_if ?_ ?_ ?_
   ·exact (fb_w (fw_or (fb_not (fb_val (db_val (fe_frz (fcd hx G_is_row D_is_row hr (fx_v (fv 2) fx_nil)))))) (fw_or1 (fb_lt (fe_ix (fv 2) (fe_c de_int)) (fv 1)))))
   ·refine fss_one ?_
    exact (fs_raise hx hr.hd rfl E_NoHolds)
   ·exact fss_nil
  refine fss_one ?_
  refine fs_set (i:=1) ?_ ?_ ?_ ?_ ?_ ?_ <;> try first|rfl|exact .inl rfl|exact .inr rfl|assumption|exact fun _=>rfl
  ·exact sc_check_rows.nd
  ·exact (fe_ix (fv 2) (fe_c de_int))
theorem ok__law_pick {g:Addr} {fd:FuncData} (T:Tx P w K mg) (D:FD K mg "_law_pick" s__law_pick ["_law_script","_law_town","_law_some"] g fd):FnOk P w K mg base (CXM P w) 4 g fd ["_law_script","_law_town","_law_some"] (spF K mg f__law_pick):=by
 obtain ⟨g__law_draw,fd__law_draw,D__law_draw⟩:=T.d__law_draw
 have G__law_draw:=ok__law_draw P w base T D__law_draw
 refine fn_F D.fn sc__law_pick (by decide) ?_
 intro cdv A outer s H E F E' hr hx
 unfold m__law_pick
 refine fss_one ?_
 refine fs_ret ?_
 ·exact (fe_ix (fv 2) (fe_frz (fcd hx G__law_draw D__law_draw hr (fx_s (pv 0) (fx_s (pv 1) (fx_v (fe_cb fn_len (de_callB call_len_seq n_len rfl T.b_len PySem.boot_len (fa_c (fv 2) fa_nil))) fx_nil))))))
theorem ok_H_check_call {C:Addr} {g:Addr} {fd:FuncData} (T:Tx P w K mg) (HC:HCx K mg C) (D:MD K C "check_call" "Hall.check_call" s_H_check_call ["self","runner","moment"] g fd):FnOk P w K mg base (CXM P w) 4 g fd ["self","runner","moment"] (spF K mg (f_H_check_call C)):=by
 obtain ⟨g_check_runner,fd_check_runner,D_check_runner⟩:=T.d_check_runner
 have G_check_runner:=ok_check_runner P w base T D_check_runner
 obtain ⟨g_check_moment,fd_check_moment,D_check_moment⟩:=T.d_check_moment
 have G_check_moment:=ok_check_moment P w base T D_check_moment
 obtain ⟨DE_,xt⟩:=T.xt0
 obtain ⟨C_NoMoment,E_NoMoment,_⟩:=xt.at_ (c:="NoMoment") (by decide +kernel)
 refine fn_F D.fn sc_H_check_call (by decide) ?_
 intro cdv A outer s H E F E' hr hx
 unfold m_H_check_call
 refine fss_cons ?_ ?_
 ·refine fs_exprO ?_ ?_
  ·exact (fcd hx G_check_runner D_check_runner hr (fx_v (fv 1) fx_nil))
  ·rfl
 refine fss_cons ?_ ?_
 ·refine fs_exprO ?_ ?_
  ·exact (fcd hx G_check_moment D_check_moment hr (fx_v (fv 2) fx_nil))
  ·rfl
 refine fss_one ?_
 refine fs_if ?_ ?_ ?_
 ·exact (fb_w (fw_and (fb_notN (fe_fld HC.cl HC.n_last (pv 0)) (fe_c de_non)) (fw_and1 (fb_lt (fv 2) (fe_fld HC.cl HC.n_last (pv 0))))))
 ·refine fss_one ?_
  exact (fs_raise hx hr.hd rfl E_NoMoment)
 ·exact fss_nil
theorem ok_check_zone {g:Addr} {fd:FuncData} (T:Tx P w K mg) (D:FD K mg "check_zone" s_check_zone ["thing"] g fd):FnOk P w K mg base (CXM P w) 5 g fd ["thing"] (spF K mg f_check_zone):=by
 obtain ⟨g_is_zone,fd_is_zone,D_is_zone⟩:=T.d_is_zone
 have G_is_zone:=ok_is_zone P w base T D_is_zone
 obtain ⟨DE_,xt⟩:=T.xt0
 obtain ⟨C_NoZone,E_NoZone,_⟩:=xt.at_ (c:="NoZone") (by decide +kernel)
 refine fn_F D.fn sc_check_zone (by decide) ?_
 intro cdv A outer s H E F E' hr hx
 unfold m_check_zone
 refine fss_one ?_
 refine fs_if ?_ ?_ ?_
 ·exact (fb_not (fb_val (db_val (fe_frz (fcd hx G_is_zone D_is_zone hr (fx_v (fv 0) fx_nil))))))
 ·refine fss_one ?_
  exact (fs_raise hx hr.hd rfl E_NoZone)
 ·exact fss_nil
theorem ok__law_rows {g:Addr} {fd:FuncData} (T:Tx P w K mg) (D:FD K mg "_law_rows" s__law_rows ["_law_script","_law_town","_law_most"] g fd):FnOk P w K mg base (CXM P w) 5 g fd ["_law_script","_law_town","_law_most"] (spF K mg f__law_rows):=by
 obtain ⟨g__law_draw,fd__law_draw,D__law_draw⟩:=T.d__law_draw
 have G__law_draw:=ok__law_draw P w base T D__law_draw
 obtain ⟨g__law_pick,fd__law_pick,D__law_pick⟩:=T.d__law_pick
 have G__law_pick:=ok__law_pick P w base T D__law_pick
 refine fn_F D.fn sc__law_rows (by decide) ?_
 intro cdv A outer s H E F E' hr hx
 unfold m__law_rows
 refine fss_cons ?_ ?_
 ·exact (fs_parO (i:=3) (j:=4) rfl sc__law_rows.nd rfl rfl (by decide) rfl rfl (fo_lst fa_nil))
 refine fss_cons ?_ ?_
 ·refine fs_for ?_ ?_ ?_ ?_ ?_ ?_ <;> try first|rfl|exact .inl rfl|exact .inr rfl|assumption|exact fun _=>rfl
  ·exact PassesOwn.leaving
  ·exact (fi_range1 (di_range1 rfl T.b_range (fa_c (fe_frz (fcd hx G__law_draw D__law_draw hr (fx_s (pv 0) (fx_s (pv 1) (fx_v (fe_add (fv 2) (fe_c de_int)) fx_nil))))) fa_nil)))
  ·exact (fgn 5 sc__law_rows.nd)
  ·unfold b__law_rows_1
   refine fss_cons ?_ ?_
   ·refine fs_set (i:=4) ?_ ?_ ?_ ?_ ?_ ?_ <;> try first|rfl|exact .inl rfl|exact .inr rfl|assumption|exact fun _=>rfl
    ·exact sc__law_rows.nd
    ·exact (fe_add (fv 4) (fe_frz (fcd hx G__law_draw D__law_draw hr (fx_s (pv 0) (fx_s (pv 1) (fx_v (fe_frz (fcd hx G__law_pick D__law_pick hr (fx_s (pv 0) (fx_s (pv 1) (fx_v (fe_lst (fa_c (fe_c de_int) (fa_c (fe_c de_int) (fa_c (fe_c de_int) fa_nil)))) fx_nil))))) fx_nil))))))
   refine fss_cons ?_ ?_
   ·refine fs_set (i:=6) ?_ ?_ ?_ ?_ ?_ ?_ <;> try first|rfl|exact .inl rfl|exact .inr rfl|assumption|exact fun _=>rfl
    ·exact sc__law_rows.nd
    ·exact (fe_frz (fcd hx G__law_draw D__law_draw hr (fx_s (pv 0) (fx_s (pv 1) (fx_v (fe_frz (fcd hx G__law_pick D__law_pick hr (fx_s (pv 0) (fx_s (pv 1) (fx_v (fe_lst (fa_c (fe_c de_int) (fa_c (fe_c de_int) fa_nil))) fx_nil))))) fx_nil)))))
   refine fss_one ?_
   refine fs_if ?_ ?_ ?_
   ·exact (fb_eq hr.units (fe_frz (fcd hx G__law_draw D__law_draw hr (fx_s (pv 0) (fx_s (pv 1) (fx_v (fe_c de_int) fx_nil))))) (fe_c de_int))
   ·refine fss_one ?_
    refine fs_app ?_ ?_ ?_ ?_ ?_ ?_ ?_ ?_ <;> try first|rfl|exact .inl rfl|exact .inr rfl|assumption|exact fun _=>rfl
    ·exact (pv 3)
    ·exact (fe_tup (fa_c (fe_c de_str) (fa_c (fv 6) (fa_c (fv 4) fa_nil))))
   ·refine fss_one ?_
    refine fs_app ?_ ?_ ?_ ?_ ?_ ?_ ?_ ?_ <;> try first|rfl|exact .inl rfl|exact .inr rfl|assumption|exact fun _=>rfl
    ·exact (pv 3)
    ·exact (fe_tup (fa_c (fe_c de_str) (fa_c (fv 6) (fa_c (fv 4) (fa_c (fe_add (fe_c de_int) (fe_frz (fcd hx G__law_draw D__law_draw hr (fx_s (pv 0) (fx_s (pv 1) (fx_v (fe_frz (fcd hx G__law_pick D__law_pick hr (fx_s (pv 0) (fx_s (pv 1) (fx_v (fe_lst (fa_c (fe_c de_int) (fa_c (fe_c de_int) (fa_c (fe_c de_int) fa_nil)))) fx_nil))))) fx_nil)))))) fa_nil)))))
 refine fss_one ?_
 refine fs_mv ?_
 ·exact (pv 3)
theorem ok_H_check_holder {C:Addr} {g:Addr} {fd:FuncData} (T:Tx P w K mg) (HC:HCx K mg C) (D:MD K C "check_holder" "Hall.check_holder" s_H_check_holder ["self","runner","moment"] g fd):FnOk P w K mg base (CXM P w) 5 g fd ["self","runner","moment"] (spF K mg (f_H_check_holder C)):=by
 obtain ⟨g_H_check_call,fd_H_check_call,D_H_check_call⟩:=HC.d_H_check_call
 have G_H_check_call:=ok_H_check_call P w base T HC D_H_check_call
 obtain ⟨g_H_is_held,fd_H_is_held,D_H_is_held⟩:=HC.d_H_is_held
 have G_H_is_held:=ok_H_is_held P w base T HC D_H_is_held
 obtain ⟨DE_,xt⟩:=T.xt0
 obtain ⟨C_NotHolder,E_NotHolder,_⟩:=xt.at_ (c:="NotHolder") (by decide +kernel)
 refine fn_F D.fn sc_H_check_holder (by decide) ?_
 intro cdv A outer s H E F E' hr hx
 unfold m_H_check_holder
 refine fss_cons ?_ ?_
 ·refine fs_exprO ?_ ?_
  ·exact (fmd hx HC.cl G_H_check_call D_H_check_call hr (pv 0) (fx_v (fv 1) (fx_v (fv 2) fx_nil)))
  ·rfl
 refine fss_one ?_
 refine fs_if ?_ ?_ ?_
 ·exact (fb_w (fw_or (fb_not (fb_val (db_val (fe_frz (fmd hx HC.cl G_H_is_held D_H_is_held hr (pv 0) (fx_v (fv 2) fx_nil)))))) (fw_or1 (fb_ne hr.units (fe_fld HC.cl HC.n_holder (pv 0)) (fv 1)))))
 ·refine fss_one ?_
  exact (fs_raise hx hr.hd rfl E_NotHolder)
 ·exact fss_nil
theorem ok_H_take {C:Addr} {g:Addr} {fd:FuncData} (T:Tx P w K mg) (HC:HCx K mg C) (D:MD K C "take" "Hall.take" s_H_take ["self","runner","moment","term"] g fd):FnOk P w K mg base (CXM P w) 5 g fd ["self","runner","moment","term"] (spF K mg (f_H_take C)):=by
 obtain ⟨g_H_check_call,fd_H_check_call,D_H_check_call⟩:=HC.d_H_check_call
 have G_H_check_call:=ok_H_check_call P w base T HC D_H_check_call
 obtain ⟨g_check_term,fd_check_term,D_check_term⟩:=T.d_check_term
 have G_check_term:=ok_check_term P w base T D_check_term
 obtain ⟨g_H_is_held,fd_H_is_held,D_H_is_held⟩:=HC.d_H_is_held
 have G_H_is_held:=ok_H_is_held P w base T HC D_H_is_held
 refine fn_F D.fn sc_H_take (by decide) ?_
 intro cdv A outer s H E F E' hr hx
 unfold m_H_take
 refine fss_cons ?_ ?_
 ·refine fs_exprO ?_ ?_
  ·exact (fmd hx HC.cl G_H_check_call D_H_check_call hr (pv 0) (fx_v (fv 1) (fx_v (fv 2) fx_nil)))
  ·rfl
 refine fss_cons ?_ ?_
 ·refine fs_exprO ?_ ?_
  ·exact (fcd hx G_check_term D_check_term hr (fx_v (fv 3) fx_nil))
  ·rfl
 refine fss_cons ?_ ?_
 ·refine fs_fld ?_ ?_ ?_ ?_ ?_
  ·exact HC.cl
  ·exact HC.n_last
  ·exact (pv 0)
  ·exact (fv 2)
  ·rfl
 refine fss_cons ?_ ?_
 ·refine fs_if ?_ ?_ ?_
  ·exact (fb_not (fb_val (db_val (fe_frz (fmd hx HC.cl G_H_is_held D_H_is_held hr (pv 0) (fx_v (fv 2) fx_nil))))))
  ·refine fss_one ?_
   refine fs_fldinc ?_ ?_ ?_ ?_
   ·exact HC.cl
   ·exact HC.n_holds
   ·exact (pv 0)
   ·exact pe_int
  ·refine fss_one ?_
   refine fs_if ?_ ?_ ?_
   ·exact (fb_ne hr.units (fe_fld HC.cl HC.n_holder (pv 0)) (fv 1))
   ·refine fss_one ?_
    refine fs_ret ?_
    ·exact (fe_c de_bl)
   ·exact fss_nil
 refine fss_cons ?_ ?_
 ·refine fs_fld ?_ ?_ ?_ ?_ ?_
  ·exact HC.cl
  ·exact HC.n_holder
  ·exact (pv 0)
  ·exact (fv 1)
  ·rfl
 refine fss_cons ?_ ?_
 ·refine fs_fld ?_ ?_ ?_ ?_ ?_
  ·exact HC.cl
  ·exact HC.n_until
  ·exact (pv 0)
  ·exact (fe_add (fv 2) (fv 3))
  ·rfl
 refine fss_one ?_
 refine fs_ret ?_
 ·exact (fe_c de_bl)
theorem ok_H___init__ {C:Addr} {g:Addr} {fd:FuncData} (T:Tx P w K mg) (HC:HCx K mg C) (D:MD K C "__init__" "Hall.__init__" s_H___init__ ["self","zone","deeds"] g fd):FnOk P w K mg base (CXM P w) 6 g fd ["self","zone","deeds"] (spF K mg (f_H___init__ C)):=by
 obtain ⟨g_check_zone,fd_check_zone,D_check_zone⟩:=T.d_check_zone
 have G_check_zone:=ok_check_zone P w base T D_check_zone
 obtain ⟨g_check_deeds,fd_check_deeds,D_check_deeds⟩:=T.d_check_deeds
 have G_check_deeds:=ok_check_deeds P w base T D_check_deeds
 refine fn_F D.fn sc_H___init__ (by decide) ?_
 intro cdv A outer s H E F E' hr hx
 unfold m_H___init__
 refine fss_cons ?_ ?_
 ·refine fs_exprO ?_ ?_
  ·exact (fcd hx G_check_zone D_check_zone hr (fx_v (fv 1) fx_nil))
  ·rfl
 refine fss_cons ?_ ?_
 ·refine fs_exprO ?_ ?_
  ·exact (fcd hx G_check_deeds D_check_deeds hr (fx_v (fv 2) fx_nil))
  ·rfl
 refine fss_cons ?_ ?_
 ·refine fs_fld ?_ ?_ ?_ ?_ ?_
  ·exact HC.cl
  ·exact HC.n_zone
  ·exact (pv 0)
  ·exact (fv 1)
  ·rfl
 refine fss_cons ?_ ?_
 ·refine fs_fld ?_ ?_ ?_ ?_ ?_
  ·exact HC.cl
  ·exact HC.n_deeds
  ·exact (pv 0)
  ·exact (fv 2)
  ·rfl
 refine fss_cons ?_ ?_
 ·refine fs_fld ?_ ?_ ?_ ?_ ?_
  ·exact HC.cl
  ·exact HC.n_last
  ·exact (pv 0)
  ·exact (fe_c de_non)
  ·rfl
 refine fss_cons ?_ ?_
 ·refine fs_fld ?_ ?_ ?_ ?_ ?_
  ·exact HC.cl
  ·exact HC.n_holder
  ·exact (pv 0)
  ·exact (fe_c de_non)
  ·rfl
 refine fss_cons ?_ ?_
 ·refine fs_fld ?_ ?_ ?_ ?_ ?_
  ·exact HC.cl
  ·exact HC.n_until
  ·exact (pv 0)
  ·exact (fe_c de_int)
  ·rfl
 refine fss_cons ?_ ?_
 ·refine fs_fld ?_ ?_ ?_ ?_ ?_
  ·exact HC.cl
  ·exact HC.n_holds
  ·exact (pv 0)
  ·exact (fe_c de_int)
  ·rfl
 refine fss_cons ?_ ?_
 ·refine fs_fld ?_ ?_ ?_ ?_ ?_
  ·exact HC.cl
  ·exact HC.n_begun
  ·exact (pv 0)
  ·exact (fe_c de_non)
  ·rfl
 refine fss_cons ?_ ?_
 ·refine fs_fldnil ?_ ?_ ?_ ?_
  ·exact HC.cl
  ·exact HC.n_rows
  ·exact (pv 0)
  ·rfl
 refine fss_cons ?_ ?_
 ·refine fs_flddic ?_ ?_ ?_ ?_
  ·exact HC.cl
  ·exact HC.n_words
  ·exact (pv 0)
  ·rfl
 refine fss_one ?_
 refine fs_fldcomp (own:=["deed"]) (capN:=[]) (caps:=[]) ?_ ?_ ?_ ?_ ?_ ?_ ?_ ?_ ?_ ?_ ?_ <;> try first|rfl|exact .inl rfl|exact .inr rfl|assumption|exact fun _=>rfl
 ·exact HC.cl
 ·exact HC.n_settled
 ·exact (pv 0)
 ·exact hx.1
 ·exact (CompScope.of (own:=["deed"]) (capN:=[]) (caps:=[]))
 ·exact (fi_tup (fv 2))
 ·exact (fun _ _ _ _ _ _ hg=>⟨(fgn 0 (show ((["deed"]:List Str) ++ ([]:List Str)).Nodup from by decide +kernel)),fbs_nil,(fe_c de_int)⟩)
theorem ok_H_give {C:Addr} {g:Addr} {fd:FuncData} (T:Tx P w K mg) (HC:HCx K mg C) (D:MD K C "give" "Hall.give" s_H_give ["self","runner","moment"] g fd):FnOk P w K mg base (CXM P w) 6 g fd ["self","runner","moment"] (spF K mg (f_H_give C)):=by
 obtain ⟨g_H_check_holder,fd_H_check_holder,D_H_check_holder⟩:=HC.d_H_check_holder
 have G_H_check_holder:=ok_H_check_holder P w base T HC D_H_check_holder
 refine fn_F D.fn sc_H_give (by decide) ?_
 intro cdv A outer s H E F E' hr hx
 unfold m_H_give
 refine fss_cons ?_ ?_
 ·refine fs_exprO ?_ ?_
  ·exact (fmd hx HC.cl G_H_check_holder D_H_check_holder hr (pv 0) (fx_v (fv 1) (fx_v (fv 2) fx_nil)))
  ·rfl
 refine fss_cons ?_ ?_
 ·refine fs_fld ?_ ?_ ?_ ?_ ?_
  ·exact HC.cl
  ·exact HC.n_last
  ·exact (pv 0)
  ·exact (fv 2)
  ·rfl
 refine fss_one ?_
 refine fs_fld ?_ ?_ ?_ ?_ ?_
 ·exact HC.cl
 ·exact HC.n_holder
 ·exact (pv 0)
 ·exact (fe_c de_non)
 ·rfl
theorem ok_ask {C:Addr} {g:Addr} {fd:FuncData} (T:Tx P w K mg) (HC:HCx K mg C) (D:FD K mg "ask" s_ask ["hall","call"] g fd):FnOk P w K mg base (CXM P w) 7 g fd ["hall","call"] (spF K mg (f_ask C)):=by
 obtain ⟨g_H_take,fd_H_take,D_H_take⟩:=HC.d_H_take
 have G_H_take:=ok_H_take P w base T HC D_H_take
 obtain ⟨g_H_give,fd_H_give,D_H_give⟩:=HC.d_H_give
 have G_H_give:=ok_H_give P w base T HC D_H_give
 refine fn_F D.fn sc_ask (by decide) ?_
 intro cdv A outer s H E F E' hr hx
 unfold m_ask
 refine fss_cons ?_ ?_
 ·refine fs_if ?_ ?_ ?_
  ·exact (fb_eq hr.units (fe_ix (fv 1) (fe_c de_int)) (fe_c de_str))
  ·refine fss_one ?_
   refine fs_retO ?_
   ·exact (fmd hx HC.cl G_H_take D_H_take hr (pv 0) (fx_v (fe_ix (fv 1) (fe_c de_int)) (fx_v (fe_ix (fv 1) (fe_c de_int)) (fx_v (fe_ix (fv 1) (fe_c de_int)) fx_nil))))
  ·exact fss_nil
 refine fss_cons ?_ ?_
 ·refine fs_if ?_ ?_ ?_
  ·exact (fb_eq hr.units (fe_ix (fv 1) (fe_c de_int)) (fe_c de_str))
  ·refine fss_one ?_
   refine fs_retO ?_
   ·exact (fmd hx HC.cl G_H_give D_H_give hr (pv 0) (fx_v (fe_ix (fv 1) (fe_c de_int)) (fx_v (fe_ix (fv 1) (fe_c de_int)) fx_nil)))
  ·exact fss_nil
 refine fss_cons ?_ ?_
 ·refine fs_if ?_ ?_ ?_
  ·exact (fb_eq hr.units (fe_ix (fv 1) (fe_c de_int)) (fe_c de_str))
  ·refine fss_one ?_
   refine fs_retO ?_
   ·exact fo_bad
  ·exact fss_nil
 refine fss_one ?_
 refine fs_retO ?_
 ·exact fo_bad
theorem ok_do {C:Addr} {g:Addr} {fd:FuncData} (T:Tx P w K mg) (HC:HCx K mg C) (D:FD K mg "do" s_do ["hall","call"] g fd):FnOk P w K mg base (CXM P w) 8 g fd ["hall","call"] (spF K mg (f_do C)):=by
 obtain ⟨g_check_call,fd_check_call,D_check_call⟩:=T.d_check_call
 have G_check_call:=ok_check_call P w base T D_check_call
 obtain ⟨g_ask,fd_ask,D_ask⟩:=T.d_ask
 have G_ask:=ok_ask P w base T HC D_ask
 obtain ⟨DE_,xt⟩:=T.xt0
 refine fn_F D.fn sc_do (by decide) ?_
 intro cdv A outer s H E F E' hr hx
 unfold m_do
 refine fss_cons ?_ ?_
 ·refine fs_exprO ?_ ?_
  ·exact (fcd hx G_check_call D_check_call hr (fx_v (fv 1) fx_nil))
  ·rfl
 refine fss_one ?_
 refine fs_tryB (D:=DE_) ?_ ?_ ?_ ?_ ?_ ?_ ?_ <;> try first|rfl|exact .inl rfl|exact .inr rfl|assumption|exact fun _=>rfl
 ·exact hx.1
 ·intro F1 pn1 xe1 E1 hx1 hp1
  refine fss_one ?_
  refine fs_retO ?_
  ·exact (fcd hx1 G_ask D_ask hr (fx_s (pv 0) (fx_v (fv 1) fx_nil)))
 ·intro F1 e1 pn1 xe1 hg1
  refine fss_one ?_
  refine fs_ret ?_
  ·exact (fe_c de_str)
theorem ok_walked_holds {C:Addr} {g:Addr} {fd:FuncData} (T:Tx P w K mg) (HC:HCx K mg C) (D:FD K mg "walked_holds" s_walked_holds ["rows"] g fd):FnOk P w K mg base (CXM P w) 9 g fd ["rows"] (spF K mg (f_walked_holds C)):=by
 obtain ⟨g_H___init__,fd_H___init__,D_H___init__⟩:=HC.d_H___init__
 have G_H___init__:=ok_H___init__ P w base T HC D_H___init__
 obtain ⟨g_H_held,fd_H_held,D_H_held⟩:=HC.d_H_held
 have G_H_held:=ok_H_held P w base T HC D_H_held
 obtain ⟨g_do,fd_do,D_do⟩:=T.d_do
 have G_do:=ok_do P w base T HC D_do
 obtain ⟨t_ANY_ZONE,g_ANY_ZONE⟩:=T.c_ANY_ZONE
 obtain ⟨t_NO_DEEDS,g_NO_DEEDS⟩:=T.c_NO_DEEDS
 refine fn_F D.fn sc_walked_holds (by decide) ?_
 intro cdv A outer s H E F E' hr hx
 unfold m_walked_holds
 refine fss_cons ?_ ?_
 ·refine fs_setO (i:=1) ?_ ?_ ?_ ?_ ?_ ?_ <;> try first|rfl|exact .inl rfl|exact .inr rfl|assumption|exact fun _=>rfl
  ·exact sc_walked_holds.nd
  ·exact (fo_make hx (HC.make D_H___init__.mt) G_H___init__ (hr.mono (by decide)) rfl HC.mg D_H___init__.b (fa_c (fe_glob hx.1 rfl g_ANY_ZONE glob_ANY_ZONE) (fa_c (fe_glob hx.1 rfl g_NO_DEEDS glob_NO_DEEDS) fa_nil)))
 refine fss_cons ?_ ?_
 ·refine fs_setO (i:=2) ?_ ?_ ?_ ?_ ?_ ?_ <;> try first|rfl|exact .inl rfl|exact .inr rfl|assumption|exact fun _=>rfl
  ·exact sc_walked_holds.nd
  ·exact (fo_lst fa_nil)
 refine fss_cons ?_ ?_
 ·refine fs_for ?_ ?_ ?_ ?_ ?_ ?_ <;> try first|rfl|exact .inl rfl|exact .inr rfl|assumption|exact fun _=>rfl
  ·exact PassesOwn.leaving
  ·exact (fi_list (fv 0))
  ·exact (fgn 3 sc_walked_holds.nd)
  ·unfold b_walked_holds_1
   refine fss_cons ?_ ?_
   ·refine fs_set (i:=4) ?_ ?_ ?_ ?_ ?_ ?_ <;> try first|rfl|exact .inl rfl|exact .inr rfl|assumption|exact fun _=>rfl
    ·exact sc_walked_holds.nd
    ·exact (fe_frz (fcd hx G_do D_do hr (fx_s (pv 1) (fx_v (fv 3) fx_nil))))
   refine fss_cons ?_ ?_
   ·refine fs_set (i:=5) ?_ ?_ ?_ ?_ ?_ ?_ <;> try first|rfl|exact .inl rfl|exact .inr rfl|assumption|exact fun _=>rfl
    ·exact sc_walked_holds.nd
    ·exact (fe_frz (fmd0 hx HC.cl G_H_held D_H_held hr (pv 1)))
   refine fss_one ?_
   refine fs_if ?_ ?_ ?_
   ·exact (fb_gt (fe_ix (fv 5) (fe_c de_int)) (fe_lenN rfl T.b_len (pv 2)))
   ·refine fss_one ?_
    refine fs_app ?_ ?_ ?_ ?_ ?_ ?_ ?_ ?_ <;> try first|rfl|exact .inl rfl|exact .inr rfl|assumption|exact fun _=>rfl
    ·exact (pv 2)
    ·exact (fe_tup (fa_c (fe_ix (fv 3) (fe_c de_int)) (fa_c (fe_ix (fv 3) (fe_c de_int)) (fa_c (fe_ix (fv 5) (fe_c de_int)) fa_nil))))
   ·refine fss_one ?_
    refine fs_if ?_ ?_ ?_
    ·exact (fb_isB true (fv 4) (fe_c de_bl))
    ·refine fss_one ?_
     exact (fs_lset (pv 2) pe_m1 (fe_tup (fa_c (fe_ix (fv 3) (fe_c de_int)) (fa_c (fe_ix (fe_lix (pv 2) pe_m1) (fe_c de_int)) (fa_c (fe_ix (fv 5) (fe_c de_int)) fa_nil)))))
    ·refine fss_one ?_
     refine fs_if ?_ ?_ ?_
     ·exact (fb_isN (fv 4) (fe_c de_non))
     ·refine fss_one ?_
      exact (fs_lset (pv 2) pe_m1 (fe_tup (fa_c (fe_ix (fv 3) (fe_c de_int)) (fa_c (fe_ix (fe_lix (pv 2) pe_m1) (fe_c de_int)) (fa_c (fe_ix (fv 3) (fe_c de_int)) fa_nil)))))
     ·exact fss_nil
 refine fss_one ?_
 refine fs_mv ?_
 ·exact (pv 2)
theorem ok_lasting_holds {C:Addr} {g:Addr} {fd:FuncData} (T:Tx P w K mg) (HC:HCx K mg C) (D:FD K mg "lasting_holds" s_lasting_holds ["rows"] g fd):FnOk P w K mg base (CXM P w) 10 g fd ["rows"] (spF K mg (f_lasting_holds C)):=by
 obtain ⟨g_walked_holds,fd_walked_holds,D_walked_holds⟩:=T.d_walked_holds
 have G_walked_holds:=ok_walked_holds P w base T HC D_walked_holds
 refine fn_F D.fn sc_lasting_holds (by decide) ?_
 intro cdv A outer s H E F E' hr hx
 unfold m_lasting_holds
 refine fss_one ?_
 refine fs_ret ?_
 ·exact (fe_comp hx.1 (CompScope.of (own:=["hold"]) (capN:=[]) (caps:=[])) rfl rfl (fi_list (fe_frz (fcd hx G_walked_holds D_walked_holds hr (fx_v (fv 0) fx_nil)))) (fun _ _ _ _ _ _ hg=>⟨(fgn 0 (show ((["hold"]:List Str) ++ ([]:List Str)).Nodup from by decide +kernel)),(fbs_one (fb_lt (fe_ix (fv 0) (fe_c de_int)) (fe_ix (fv 0) (fe_c de_int)))),(fv 0)⟩))
theorem ok_all_holds {C:Addr} {g:Addr} {fd:FuncData} (T:Tx P w K mg) (HC:HCx K mg C) (D:FD K mg "all_holds" s_all_holds ["rows"] g fd):FnOk P w K mg base (CXM P w) 11 g fd ["rows"] (spF K mg (f_all_holds C)):=by
 obtain ⟨g_check_rows,fd_check_rows,D_check_rows⟩:=T.d_check_rows
 have G_check_rows:=ok_check_rows P w base T D_check_rows
 obtain ⟨g_lasting_holds,fd_lasting_holds,D_lasting_holds⟩:=T.d_lasting_holds
 have G_lasting_holds:=ok_lasting_holds P w base T HC D_lasting_holds
 refine fn_F D.fn sc_all_holds (by decide) ?_
 intro cdv A outer s H E F E' hr hx
 unfold m_all_holds
 refine fss_cons ?_ ?_
 ·refine fs_exprO ?_ ?_
  ·exact (fcd hx G_check_rows D_check_rows hr (fx_v (fv 0) fx_nil))
  ·rfl
 refine fss_one ?_
 refine fs_retO ?_
 ·exact (fcd hx G_lasting_holds D_lasting_holds hr (fx_v (fv 0) fx_nil))
theorem ok_held_by {C:Addr} {g:Addr} {fd:FuncData} (T:Tx P w K mg) (HC:HCx K mg C) (D:FD K mg "held_by" s_held_by ["rows"] g fd):FnOk P w K mg base (CXM P w) 11 g fd ["rows"] (spF K mg (f_held_by C)):=by
 obtain ⟨g_check_rows,fd_check_rows,D_check_rows⟩:=T.d_check_rows
 have G_check_rows:=ok_check_rows P w base T D_check_rows
 obtain ⟨g_lasting_holds,fd_lasting_holds,D_lasting_holds⟩:=T.d_lasting_holds
 have G_lasting_holds:=ok_lasting_holds P w base T HC D_lasting_holds
 refine fn_F D.fn sc_held_by (by decide) ?_
 intro cdv A outer s H E F E' hr hx
 unfold m_held_by
 refine fss_cons ?_ ?_
 ·refine fs_exprO ?_ ?_
  ·exact (fcd hx G_check_rows D_check_rows hr (fx_v (fv 0) fx_nil))
  ·rfl
 refine fss_cons ?_ ?_
 ·refine fs_setO (i:=1) ?_ ?_ ?_ ?_ ?_ ?_ <;> try first|rfl|exact .inl rfl|exact .inr rfl|assumption|exact fun _=>rfl
  ·exact sc_held_by.nd
  ·exact (fo_dnew false)
 refine fss_cons ?_ ?_
 ·refine fs_for ?_ ?_ ?_ ?_ ?_ ?_ <;> try first|rfl|exact .inl rfl|exact .inr rfl|assumption|exact fun _=>rfl
  ·exact PassesOwn.leaving
  ·exact (fi_list (fe_frz (fcd hx G_lasting_holds D_lasting_holds hr (fx_v (fv 0) fx_nil))))
  ·exact (fg_tup (n:=3) rfl (fgs_cons (fgn 2 sc_held_by.nd) (fgs_cons (fgn 3 sc_held_by.nd) (fgs_cons (fgn 4 sc_held_by.nd) fgs_nil))))
  ·unfold b_held_by_1
   refine fss_one ?_
   refine fs_dput ?_ ?_ ?_ ?_ ?_
   ·exact (hu_of hr)
   ·exact (pv 1)
   ·exact (fv 2)
   ·exact (fe_sub (fe_add (fe_dget2 (hu_of hr) (pv 1) (fv 2) (fe_c de_int)) (fv 4)) (fv 3))
   ·rfl
 refine fss_one ?_
 refine fs_ret ?_
 ·exact (fe_items 1 rfl rfl T.b_sorted)
theorem ok_holder_at {C:Addr} {g:Addr} {fd:FuncData} (T:Tx P w K mg) (HC:HCx K mg C) (D:FD K mg "holder_at" s_holder_at ["rows","moment"] g fd):FnOk P w K mg base (CXM P w) 11 g fd ["rows","moment"] (spF K mg (f_holder_at C)):=by
 obtain ⟨g_check_rows,fd_check_rows,D_check_rows⟩:=T.d_check_rows
 have G_check_rows:=ok_check_rows P w base T D_check_rows
 obtain ⟨g_check_moment,fd_check_moment,D_check_moment⟩:=T.d_check_moment
 have G_check_moment:=ok_check_moment P w base T D_check_moment
 obtain ⟨g_lasting_holds,fd_lasting_holds,D_lasting_holds⟩:=T.d_lasting_holds
 have G_lasting_holds:=ok_lasting_holds P w base T HC D_lasting_holds
 refine fn_F D.fn sc_holder_at (by decide) ?_
 intro cdv A outer s H E F E' hr hx
 unfold m_holder_at
 refine fss_cons ?_ ?_
 ·refine fs_exprO ?_ ?_
  ·exact (fcd hx G_check_rows D_check_rows hr (fx_v (fv 0) fx_nil))
  ·rfl
 refine fss_cons ?_ ?_
 ·refine fs_exprO ?_ ?_
  ·exact (fcd hx G_check_moment D_check_moment hr (fx_v (fv 1) fx_nil))
  ·rfl
 refine fss_cons ?_ ?_
 ·refine fs_for ?_ ?_ ?_ ?_ ?_ ?_ <;> try first|rfl|exact .inl rfl|exact .inr rfl|assumption|exact fun _=>rfl
  ·exact PassesOwn.leaving
  ·exact (fi_list (fe_frz (fcd hx G_lasting_holds D_lasting_holds hr (fx_v (fv 0) fx_nil))))
  ·exact (fg_tup (n:=3) rfl (fgs_cons (fgn 2 sc_holder_at.nd) (fgs_cons (fgn 3 sc_holder_at.nd) (fgs_cons (fgn 4 sc_holder_at.nd) fgs_nil))))
  ·unfold b_holder_at_1
   refine fss_one ?_
   refine fs_if ?_ ?_ ?_
   ·exact (fb_lelt (fv 3) (fv 1) (fv 4))
   ·refine fss_one ?_
    refine fs_ret ?_
    ·exact (fv 2)
   ·exact fss_nil
 refine fss_one ?_
 refine fs_ret ?_
 ·exact (fe_c de_non)
theorem ok_nobody {C:Addr} {g:Addr} {fd:FuncData} (T:Tx P w K mg) (HC:HCx K mg C) (D:FD K mg "nobody" s_nobody ["rows","last"] g fd):FnOk P w K mg base (CXM P w) 11 g fd ["rows","last"] (spF K mg (f_nobody C)):=by
 obtain ⟨g_check_rows,fd_check_rows,D_check_rows⟩:=T.d_check_rows
 have G_check_rows:=ok_check_rows P w base T D_check_rows
 obtain ⟨g_check_moment,fd_check_moment,D_check_moment⟩:=T.d_check_moment
 have G_check_moment:=ok_check_moment P w base T D_check_moment
 obtain ⟨g_lasting_holds,fd_lasting_holds,D_lasting_holds⟩:=T.d_lasting_holds
 have G_lasting_holds:=ok_lasting_holds P w base T HC D_lasting_holds
 refine fn_F D.fn sc_nobody (by decide) ?_
 intro cdv A outer s H E F E' hr hx
 unfold m_nobody
 refine fss_cons ?_ ?_
 ·refine fs_exprO ?_ ?_
  ·exact (fcd hx G_check_rows D_check_rows hr (fx_v (fv 0) fx_nil))
  ·rfl
 refine fss_cons ?_ ?_
 ·refine fs_exprO ?_ ?_
  ·exact (fcd hx G_check_moment D_check_moment hr (fx_v (fv 1) fx_nil))
  ·rfl
 refine fss_cons ?_ ?_
 ·refine fs_setO (i:=2) ?_ ?_ ?_ ?_ ?_ ?_ <;> try first|rfl|exact .inl rfl|exact .inr rfl|assumption|exact fun _=>rfl
  ·exact sc_nobody.nd
  ·exact (fo_lst fa_nil)
 refine fss_cons ?_ ?_
 ·refine fs_set (i:=3) ?_ ?_ ?_ ?_ ?_ ?_ <;> try first|rfl|exact .inl rfl|exact .inr rfl|assumption|exact fun _=>rfl
  ·exact sc_nobody.nd
  ·exact (fe_c de_int)
 refine fss_cons ?_ ?_
 ·refine fs_set (i:=4) ?_ ?_ ?_ ?_ ?_ ?_ <;> try first|rfl|exact .inl rfl|exact .inr rfl|assumption|exact fun _=>rfl
  ·exact sc_nobody.nd
  ·exact (fe_cat (fe_frz (fcd hx G_lasting_holds D_lasting_holds hr (fx_v (fv 0) fx_nil))) (fe_lst (fa_c (fe_tup (fa_c (fe_c de_non) (fa_c (fe_add (fv 1) (fe_c de_int)) (fa_c (fe_add (fv 1) (fe_c de_int)) fa_nil)))) fa_nil)))
 refine fss_cons ?_ ?_
 ·refine fs_for ?_ ?_ ?_ ?_ ?_ ?_ <;> try first|rfl|exact .inl rfl|exact .inr rfl|assumption|exact fun _=>rfl
  ·exact PassesOwn.leaving
  ·exact (fi_list (fv 4))
  ·exact (fg_tup (n:=3) rfl (fgs_cons (fgn 5 sc_nobody.nd) (fgs_cons (fgn 6 sc_nobody.nd) (fgs_cons (fgn 7 sc_nobody.nd) fgs_nil))))
  ·unfold b_nobody_1
   refine fss_cons ?_ ?_
   ·refine fs_set (i:=8) ?_ ?_ ?_ ?_ ?_ ?_ <;> try first|rfl|exact .inl rfl|exact .inr rfl|assumption|exact fun _=>rfl
    ·exact sc_nobody.nd
    ·exact (fe_cb fn_min (de_callB (call_min2 rfl) n_min rfl T.b_min bt_min (fa_c (fe_sub (fv 6) (fe_c de_int)) (fa_c (fv 1) fa_nil))))
   refine fss_cons ?_ ?_
   ·refine fs_if ?_ ?_ ?_
    ·exact (fb_le (fv 3) (fv 8))
    ·refine fss_one ?_
     refine fs_app ?_ ?_ ?_ ?_ ?_ ?_ ?_ ?_ <;> try first|rfl|exact .inl rfl|exact .inr rfl|assumption|exact fun _=>rfl
     ·exact (pv 2)
     ·exact (fe_tup (fa_c (fv 3) (fa_c (fv 8) fa_nil)))
    ·exact fss_nil
   refine fss_one ?_
   refine fs_set (i:=3) ?_ ?_ ?_ ?_ ?_ ?_ <;> try first|rfl|exact .inl rfl|exact .inr rfl|assumption|exact fun _=>rfl
   ·exact sc_nobody.nd
   ·exact (fv 7)
 refine fss_one ?_
 refine fs_mv ?_
 ·exact (pv 2)
theorem ok_law {C:Addr} {g:Addr} {fd:FuncData} (T:Tx P w K mg) (HC:HCx K mg C) (D:FD K mg "law" s_law ["_law_script"] g fd):FnOk P w K mg base (CXM P w) 12 g fd ["_law_script"] (spF K mg (f_law C)):=by
 obtain ⟨g__law_rows,fd__law_rows,D__law_rows⟩:=T.d__law_rows
 have G__law_rows:=ok__law_rows P w base T D__law_rows
 obtain ⟨g__law_holds,fd__law_holds,D__law_holds⟩:=T.d__law_holds
 have G__law_holds:=ok__law_holds P w base T D__law_holds
 obtain ⟨g__law_draw,fd__law_draw,D__law_draw⟩:=T.d__law_draw
 have G__law_draw:=ok__law_draw P w base T D__law_draw
 obtain ⟨g_all_holds,fd_all_holds,D_all_holds⟩:=T.d_all_holds
 have G_all_holds:=ok_all_holds P w base T HC D_all_holds
 obtain ⟨g_nobody,fd_nobody,D_nobody⟩:=T.d_nobody
 have G_nobody:=ok_nobody P w base T HC D_nobody
 obtain ⟨g_held_by,fd_held_by,D_held_by⟩:=T.d_held_by
 have G_held_by:=ok_held_by P w base T HC D_held_by
 obtain ⟨g_holder_at,fd_holder_at,D_holder_at⟩:=T.d_holder_at
 have G_holder_at:=ok_holder_at P w base T HC D_holder_at
 refine fn_F D.fn sc_law (by decide) ?_
 intro cdv A outer s H E F E' hr hx
 unfold m_law
 refine fss_cons ?_ ?_
 ·unfold c_law_1
  refine fs_setO (i:=1) ?_ ?_ ?_ ?_ ?_ ?_ <;> try first|rfl|exact .inl rfl|exact .inr rfl|assumption|exact fun _=>rfl
  ·exact sc_law.nd
  ·exact (fo_lst fa_nil)
 refine fss_cons ?_ ?_
 ·unfold c_law_2
  refine fs_set (i:=2) ?_ ?_ ?_ ?_ ?_ ?_ <;> try first|rfl|exact .inl rfl|exact .inr rfl|assumption|exact fun _=>rfl
  ·exact sc_law.nd
  ·exact (fe_frz (fcd hx G__law_rows D__law_rows hr (fx_s (pv 0) (fx_s (pv 1) (fx_v (fe_c de_int) fx_nil)))))
 refine fss_cons ?_ ?_
 ·unfold c_law_3
  refine fs_set (i:=3) ?_ ?_ ?_ ?_ ?_ ?_ <;> try first|rfl|exact .inl rfl|exact .inr rfl|assumption|exact fun _=>rfl
  ·exact sc_law.nd
  ·exact (fe_frz (fcd hx G__law_holds D__law_holds hr (fx_v (fv 2) fx_nil)))
 refine fss_cons ?_ ?_
 ·unfold c_law_4
  refine fs_set (i:=4) ?_ ?_ ?_ ?_ ?_ ?_ <;> try first|rfl|exact .inl rfl|exact .inr rfl|assumption|exact fun _=>rfl
  ·exact sc_law.nd
  ·exact (fe_frz (fcd hx G__law_draw D__law_draw hr (fx_s (pv 0) (fx_s (pv 1) (fx_v (fe_c de_int) fx_nil)))))
 refine fss_cons ?_ ?_
 ·unfold c_law_5
  refine fs_setO (i:=5) ?_ ?_ ?_ ?_ ?_ ?_ <;> try first|rfl|exact .inl rfl|exact .inr rfl|assumption|exact fun _=>rfl
  ·exact sc_law.nd
  ·exact (fo_lst fa_nil)
 refine fss_cons ?_ ?_
 ·unfold c_law_9
  refine fs_for ?_ ?_ ?_ ?_ ?_ ?_ <;> try first|rfl|exact .inl rfl|exact .inr rfl|assumption|exact fun _=>rfl
  ·exact PassesOwn.leaving
  ·exact (fi_range1 (di_range1 rfl T.b_range (fa_c (fe_add (fv 4) (fe_c de_int)) fa_nil)))
  ·exact (fgn 6 sc_law.nd)
  ·unfold b_law_8
   refine fss_cons ?_ ?_
   ·refine fs_setComp (i:=7) (own:=["_law_runner","_law_begin","_law_end"]) (capN:=["_law_moment"]) (caps:=[6]) ?_ ?_ ?_ ?_ ?_ ?_ ?_ ?_ ?_ ?_ ?_ ?_ <;> try first|rfl|exact .inl rfl|exact .inr rfl|assumption|exact fun _=>rfl
    ·exact sc_law.nd
    ·exact hx.1
    ·exact (CompScope.of (own:=["_law_runner","_law_begin","_law_end"]) (capN:=["_law_moment"]) (caps:=[6]))
    ·exact (fi_list (fv 3))
    ·exact (fun _ _ _ _ _ _ hg=>⟨(fg_tup (n:=3) rfl (fgs_cons (fgn 0 (show ((["_law_runner","_law_begin","_law_end"]:List Str) ++ (["_law_moment"]:List Str)).Nodup from by decide +kernel)) (fgs_cons (fgn 1 (show ((["_law_runner","_law_begin","_law_end"]:List Str) ++ (["_law_moment"]:List Str)).Nodup from by decide +kernel)) (fgs_cons (fgn 2 (show ((["_law_runner","_law_begin","_law_end"]:List Str) ++ (["_law_moment"]:List Str)).Nodup from by decide +kernel)) fgs_nil)))),(fbs_one (fb_lelt (fv 1) (fv 3) (fv 2))),(fv 0)⟩)
   refine fss_cons ?_ ?_
   ·refine fs_if ?_ ?_ ?_
    ·exact (fb_ne hr.units (fe_frz (fcd hx G_holder_at D_holder_at hr (fx_v (fv 2) (fx_v (fv 6) fx_nil)))) (fe_ix (fe_cat (fv 7) (fe_lst (fa_c (fe_c de_non) fa_nil))) (fe_c de_int)))
    ·refine fss_one ?_
     refine fs_ret ?_
     ·exact (fe_c de_bl)
    ·exact fss_nil
   refine fss_one ?_
   refine fs_if ?_ ?_ ?_
   ·exact (fb_w (fw_and (fb_eq hr.units (fv 7) (fe_lst fa_nil)) (fw_and (fb_neO hr.units (pv 5) (fe_lst fa_nil)) (fw_and1 (fb_eq hr.units (fe_ix (fe_lix (pv 5) pe_m1) (fe_c de_int)) (fe_sub (fv 6) (fe_c de_int)))))))
   ·refine fss_one ?_
    exact (fs_lset (pv 5) pe_m1 (fe_tup (fa_c (fe_ix (fe_lix (pv 5) pe_m1) (fe_c de_int)) (fa_c (fv 6) fa_nil))))
   ·refine fss_one ?_
    refine fs_if ?_ ?_ ?_
    ·exact (fb_eq hr.units (fv 7) (fe_lst fa_nil))
    ·refine fss_one ?_
     refine fs_app ?_ ?_ ?_ ?_ ?_ ?_ ?_ ?_ <;> try first|rfl|exact .inl rfl|exact .inr rfl|assumption|exact fun _=>rfl
     ·exact (pv 5)
     ·exact (fe_tup (fa_c (fv 6) (fa_c (fv 6) fa_nil)))
    ·exact fss_nil
 refine fss_cons ?_ ?_
 ·unfold c_law_10
  refine fs_if ?_ ?_ ?_
  ·exact (fb_ne hr.units (fe_frz (fcd hx G_nobody D_nobody hr (fx_v (fv 2) (fx_v (fv 4) fx_nil)))) (fv 5))
  ·refine fss_one ?_
   refine fs_ret ?_
   ·exact (fe_c de_bl)
  ·exact fss_nil
 refine fss_cons ?_ ?_
 ·unfold c_law_11
  refine fs_setO (i:=8) ?_ ?_ ?_ ?_ ?_ ?_ <;> try first|rfl|exact .inl rfl|exact .inr rfl|assumption|exact fun _=>rfl
  ·exact sc_law.nd
  ·exact (fo_dnew false)
 refine fss_cons ?_ ?_
 ·unfold c_law_13
  refine fs_for ?_ ?_ ?_ ?_ ?_ ?_ <;> try first|rfl|exact .inl rfl|exact .inr rfl|assumption|exact fun _=>rfl
  ·exact PassesOwn.leaving
  ·exact (fi_list (fe_frz (fcd hx G_all_holds D_all_holds hr (fx_v (fv 2) fx_nil))))
  ·exact (fg_tup (n:=3) rfl (fgs_cons (fgn 9 sc_law.nd) (fgs_cons (fgn 10 sc_law.nd) (fgs_cons (fgn 11 sc_law.nd) fgs_nil))))
  ·unfold b_law_12
   refine fss_one ?_
   refine fs_dput ?_ ?_ ?_ ?_ ?_
   ·exact (hu_of hr)
   ·exact (pv 8)
   ·exact (fv 9)
   ·exact (fe_sub (fe_add (fe_dget2 (hu_of hr) (pv 8) (fv 9) (fe_c de_int)) (fv 11)) (fv 10))
   ·rfl
 refine fss_one ?_
 unfold c_law_14
 refine fs_ret ?_
 ·exact (fe_eq hr.units (fe_frz (fcd hx G_held_by D_held_by hr (fx_v (fv 2) fx_nil))) (fe_items 8 rfl rfl T.b_sorted))
end
end K3
namespace K3
open PySem L2 L2.L3 Due
noncomputable def isW (d:PyData) (lo hi:Int):Bool:=match d with
 | .int i=>decide (lo<=i) && decide (i<=hi)
 | _=>false
noncomputable def noD:PyData->Bool
 | .dict _=>false
 | _=>true
@[simp] theorem tab_ii:isTab "int" "int" = some true:=by decide
@[simp] theorem tab_ib:isTab "int" "bool" = some false:=by decide
@[simp] theorem tab_bi:isTab "bool" "int" = some true:=by decide
@[simp] theorem tab_bb:isTab "bool" "bool" = some true:=by decide
@[simp] theorem tab_ni:isTab "NoneType" "int" = some false:=by decide
@[simp] theorem tab_si:isTab "str" "int" = some false:=by decide
@[simp] theorem tab_li:isTab "list" "int" = some false:=by decide
@[simp] theorem tab_ti:isTab "tuple" "int" = some false:=by decide
@[simp] theorem tab_it:isTab "int" "tuple" = some false:=by decide
@[simp] theorem tab_bt:isTab "bool" "tuple" = some false:=by decide
@[simp] theorem tab_nt:isTab "NoneType" "tuple" = some false:=by decide
@[simp] theorem tab_st:isTab "str" "tuple" = some false:=by decide
@[simp] theorem tab_lt:isTab "list" "tuple" = some false:=by decide
@[simp] theorem tab_tt:isTab "tuple" "tuple" = some true:=by decide
theorem eqv_int (i j:Int):PyData.eqv (.int i) (.int j)=(i == j):=by rw [PyData.eqv]
theorem shaped_int (i:Int):SeqAt.shaped (.int i)=true:=by rfl
theorem r_is_whole {d:PyData} {lo hi:Int} (h:noD d=true):f_is_whole [.dat d,.dat (.int lo),.dat (.int hi)]=.rt (.dat (.bool (isW d lo hi))) []:=by
 cases d with
 | dict _=>cases h
 | int i=>
  by_cases h1:lo<=i
  ·simp [gEq,f_is_whole,m_is_whole,isW,h1]
  ·simp [gEq,f_is_whole,m_is_whole,isW,h1]
 | _=>simp [gEq,f_is_whole,m_is_whole,isW]
noncomputable def isT (d:PyData) (n:Int):Bool:=match d with
 | .tuple ds=>decide ((ds.length:Int)=n)
 | _=>false
theorem r_is_tuple_of {d:PyData} {n:Int} (h:noD d=true):f_is_tuple_of [.dat d,.dat (.int n)]=.rt (.dat (.bool (isT d n))) []:=by
 cases d with
 | dict _=>cases h
 | tuple ds=>simp [gEq,f_is_tuple_of,m_is_tuple_of,isT,shaped_int,eqv_int]; rfl
 | _=>simp [gEq,f_is_tuple_of,m_is_tuple_of,isT]
theorem r_is_moment {d:PyData} (h:noD d=true):f_is_moment [.dat d]=.rt (.dat (.bool (isW d 0 9999))) []:=by simp [gEq,f_is_moment,m_is_moment,r_is_whole h]
theorem r_check_moment {d:PyData} (h:noD d=true):f_check_moment [.dat d]=if isW d 0 9999=true then .rt (.dat .none) [] else .ex "NoMoment" []:=by
 simp only [f_check_moment,m_check_moment]
 cases hw:isW d 0 9999 <;> simp [gEq,r_is_moment h,hw]
end K3
namespace K3
open PySem L2 L2.L3 Due
noncomputable abbrev shD (p:Int × Int):PyData:=.tuple [.int p.1,.int p.2]
noncomputable abbrev zoneD (a:Int) (ss:Sh):PyData:=.tuple [.int a,.tuple (ss.map shD)]
@[simp] theorem at0 {x:PyData} {l:List PyData}:atI (x :: l) 0=some x:=by
 unfold atI ixN
 rw [if_pos (by omega),if_pos (by simp <;> omega)]
 rfl
@[simp] theorem at1 {x y:PyData} {l:List PyData}:atI (x :: y :: l) 1=some y:=by
 unfold atI ixN
 rw [if_pos (by omega),if_pos (by simp <;> omega)]
 rfl
@[simp] theorem atL {x:PyData} {l:List PyData}:atI (l ++ [x]) (-1)=some x:=by
 unfold atI ixN
 rw [if_neg (by omega),if_pos (by simp; omega)]
 simp
 rw [show (-1 + ((l.length:Int) + 1)).toNat=l.length by omega]
 simp
end K3
namespace K3
open PySem L2 L2.L3 Due
@[simp] theorem sz0:(0:Nat)<=sizeLine:=by decide
@[simp] theorem sz1:(1:Nat)<=sizeLine:=by decide
@[simp] theorem sz2:(2:Nat)<=sizeLine:=by decide
@[simp] theorem sz3:(3:Nat)<=sizeLine:=by decide
@[simp] theorem sz4:(4:Nat)<=sizeLine:=by decide
@[simp] theorem sz5:(5:Nat)<=sizeLine:=by decide
@[simp] theorem sz6:(6:Nat)<=sizeLine:=by decide
@[simp] theorem sz7:(7:Nat)<=sizeLine:=by decide
@[simp] theorem sz8:(8:Nat)<=sizeLine:=by decide
@[simp] theorem sz9:(9:Nat)<=sizeLine:=by decide
@[simp] theorem sz10:(10:Nat)<=sizeLine:=by decide
@[simp] theorem sz11:(11:Nat)<=sizeLine:=by decide
@[simp] theorem sz12:(12:Nat)<=sizeLine:=by decide
@[simp] theorem sz13:(13:Nat)<=sizeLine:=by decide
@[simp] theorem sz14:(14:Nat)<=sizeLine:=by decide
end K3
namespace K3
open PySem L2 L2.L3 Due
theorem r_cell {ns:List Int} {k:Int} (hn:ns.length<=63) (hk:0<=k):∃ v,f__law_cell_at [.scr ns,.dat (.int k)]=.rt (.dat (.int v)) []:=by
 by_cases h:k < ns.length
 ·have:∃ v,atI ns k=some v:=by
   unfold atI ixN
   rw [if_pos hk,if_pos h]
   exact ⟨ns[k.toNat]'(by omega),by simp⟩
  obtain ⟨v,hv⟩:=this
  exact ⟨v,by simp [gEq,f__law_cell_at,m__law_cell_at,hn,h,hv]⟩
 ·by_cases h0:ns=[]
  ·subst h0
   exact ⟨0,by simp [gEq,f__law_cell_at,m__law_cell_at] at h ⊢; simp [gEq,show ¬ k < 0 by omega]⟩
  ·have hp:0 < (ns.length:Int):=by
    have:=List.length_pos_iff.mpr h0
    omega
   have:∃ v,atI ns (k % ns.length)=some v:=by
    have h1:=Int.emod_nonneg k (show (ns.length:Int) ≠ 0 by omega)
    have h2:=Int.emod_lt_of_pos k hp
    unfold atI ixN
    rw [if_pos h1,if_pos h2]
    exact ⟨ns[(k % ns.length).toNat]'(by omega),by simp⟩
   obtain ⟨v,hv⟩:=this
   exact ⟨v * 31 + k,by simp [gEq,f__law_cell_at,m__law_cell_at,hn,h,h0,hv,cMod,cMul,List.length_pos_iff.mpr h0]⟩
theorem r_mixed {ns:List Int} {k many:Int} (hn:ns.length<=63) (hk:0<=k) (hm:0 < many):∃ v,0<=v/\v < many/\f__law_mixed [.scr ns,.dat (.int k),.dat (.int many)]=.rt (.dat (.int v)) []:=by
 obtain ⟨v,hv⟩:=r_cell (k:=k) hn hk
 generalize hd:(v * 1103515245 + 7919 * k + 12345) % 2147483647=dr
 have d1:0<=dr:=by omega
 have d2:dr < 2147483647:=by omega
 refine ⟨dr ^ 5 % 2147483647 % 999983 % many,Int.emod_nonneg _ (by omega),Int.emod_lt_of_pos _ hm,?_⟩
 simp [gEq,f__law_mixed,m__law_mixed,hv,cMul,cMod,cPow,hd,hm,show dr.natAbs < 18446744073709551616 by omega]
theorem r_draw {ns:List Int} {many:Int} {t:List PyData} (hn:ns.length<=63) (ht:t.length < 1000) (hm:0 < many):∃ v,0<=v/\v < many/\f__law_draw [.scr ns,.own true (.l t),.dat (.int many)]=.rt (.dat (.int v)) [.l (t ++ [.int 0])]:=by
 have sz:1000 < sizeLine:=by decide
 obtain ⟨v,h1,h2,h3⟩:=r_mixed (k:=((t ++ [PyData.int 0]).length:Int)) hn (by omega) hm
 refine ⟨v,h1,h2,?_⟩
 simp at h3
 simp [gEq,f__law_draw,m__law_draw,show t.length < sizeLine by omega,h3]
theorem r_pick {ns:List Int} {ds t:List PyData} (hn:ns.length<=63) (ht:t.length < 1000) (hd:ds ≠ []) (hl:ds.length<=1000):∃ d ∈ ds,f__law_pick [.scr ns,.own true (.l t),.dat (.list ds)]=.rt (.dat d) [.l (t ++ [.int 0])]:=by
 have hp:=List.length_pos_iff.mpr hd
 obtain ⟨v,h1,h2,h3⟩:=r_draw (many:=ds.length) hn ht (by omega)
 have:atI ds v=some (ds[v.toNat]'(by omega)):=by
  unfold atI ixN
  rw [if_pos h1,if_pos h2]
  simp
 refine ⟨ds[v.toNat]'(by omega),List.getElem_mem _,?_⟩
 simp [gEq,f__law_pick,m__law_pick,h3,this]
end K3
namespace K3
open PySem L2 L2.L3 Due
theorem shaped_ints (l:List Int):SeqAt.shaped (.list (l.map PyData.int))=true:=by
 have h1:∀ l:List Int,PyData.canLayAll0 (l.map PyData.int)=true:=fun l=>by induction l with | nil=>rfl | cons x r ih=>simpa [PyData.canLayAll0,PyData.canLay0] using ih
 have h2:∀ l:List Int,PyData.depthAll (l.map PyData.int)=0:=fun l=>by induction l with | nil=>rfl | cons x r ih=>simpa [PyData.depthAll,PyData.depth] using ih
 unfold SeqAt.shaped
 simp [PyData.canLay0,PyData.depth,h1,h2]
theorem eq_self {d:PyData} (h:SeqAt.shaped d=true):gEq false d d=some (.bool true):=by simp [gEq,h,eqv_shaped h]
theorem ne_self {d:PyData} (h:SeqAt.shaped d=true):gEq true d d=some (.bool false):=by simp [gEq,h,eqv_shaped h]
theorem ne_int (i j:Int):gEq true (.int i) (.int j)=some (.bool (!decide (i=j))):=by
 by_cases h:i=j
 ·subst h; simp [ne_self (shaped_int i)]
 ·simp [gEq,shaped_int,eqv_int,h]
theorem eq_int (i j:Int):gEq false (.int i) (.int j)=some (.bool (decide (i=j))):=by
 by_cases h:i=j
 ·subst h; simp [eq_self (shaped_int i)]
 ·simp [gEq,shaped_int,eqv_int,h]
end K3
namespace K3
open PySem L2 L2.L3 Due
theorem then_nx {m k:SM} {ρ ρ':DEnv} (h:m ρ=.nx ρ'):sThen m k ρ=k ρ':=by simp [h]
theorem eqv_str (i j:Str):PyData.eqv (.str i) (.str j)=(i == j):=by rw [PyData.eqv]
theorem shaped_str {x:Str} (h:PyData.strOk x=true):SeqAt.shaped (.str x)=true:=by
 unfold SeqAt.shaped
 simp [PyData.canLay0,PyData.depth,h]
theorem eq_str {x y:Str} (hx:PyData.strOk x=true) (hy:PyData.strOk y=true):gEq false (.str x) (.str y)=some (.bool (x == y)):=by simp [gEq,shaped_str hx,shaped_str hy,eqv_str]
@[simp] theorem tab_ss:isTab "str" "str" = some true:=by decide
noncomputable abbrev planD:Plan->PyData
 | .once m=>.tuple [.str "once",.int m]
 | .every f s=>.tuple [.str "every",.int f,.int s]
 | .daily h=>.tuple [.str "daily",.int h]
@[simp] theorem at2 {x y w:PyData} {l:List PyData}:atI (x :: y :: w :: l) 2=some w:=by
 unfold atI ixN
 rw [if_pos (by omega),if_pos (by simp <;> omega)]
 rfl
theorem r_has_word {x w:Str} {rest:List PyData} {n:Int} (hx:PyData.strOk x=true) (hw:PyData.strOk w=true):f_has_word [.dat (.tuple (.str x :: rest)),.dat (.str w),.dat (.int n)]=.rt (.dat (.bool (decide (((rest.length + 1:Nat):Int)=n) && (x == w)))) []:=by
 by_cases h:(((rest.length + 1:Nat):Int)=n)
 ·simp [f_has_word,m_has_word,r_is_tuple_of (d:=.tuple (.str x :: rest)) rfl,isT,eq_str hx hw]
  simp at h
  simp [h]
 ·simp [f_has_word,m_has_word,r_is_tuple_of (d:=.tuple (.str x :: rest)) rfl,isT,eq_str hx hw]
  simp at h
  simp [h]
end K3
namespace K3
open PySem L2 L2.L3 Due
noncomputable def IsT (o:OutS):Prop:=∃ x r,o=.rt (.dat (.bool true)) (x :: r)
theorem law_step {m k:SM} {ρ ρ':DEnv} (h:m ρ=.nx ρ') (q:IsT (k ρ')):IsT (sThen m k ρ):=by rw [then_nx h]; exact q
theorem law_end {m:SM} {n:Nat} {ns:List Int} (h:IsT (m (some (.scr ns) :: List.replicate n none))):fnM 1 (n + 1) m [.scr ns]=.rt (.dat (.bool true)) []:=by
 obtain ⟨x,r,e⟩:=h
 simp [e]
theorem intsFrom_succ (i:Int) (r:Nat):L3.intsFrom i (r + 1)=.int i :: L3.intsFrom (i + 1) r:=by
 unfold L3.intsFrom
 rw [List.range_succ_eq_map,List.map_cons,List.map_map]
 congr 1
 ·simp
 ·apply List.map_congr_left
  intro k _
  simp
  omega
end K3
namespace K3
open PySem L2 L2.L3 Due
inductive Late where
 | all | last | within (n:Int)
structure Deed where
 plan:Plan
 late:Late
 again:Bool
noncomputable abbrev lateD:Late->PyData
 | .all=>.str "all"
 | .last=>.str "last"
 | .within n=>.tuple [.str "within",.int n]
noncomputable abbrev deedD (d:Deed):PyData:=.tuple [planD d.plan,lateD d.late,.bool d.again]
@[irreducible] noncomputable def deedsD (ds:List Deed):PyData:=.tuple (ds.map deedD)
noncomputable def oInt:Option Int->PyData
 | none=>.none
 | some i=>.int i
noncomputable def oBeg:Option (Nat × Nat × Int)->PyData
 | none=>.none
 | some (d,c,h)=>.tuple [.int d,.int c,.int h]
inductive Wd where
 | begun | done | left | unsure
deriving DecidableEq
noncomputable abbrev wdS:Wd->Str
 | .begun=>"begun"
 | .done=>"done"
 | .left=>"left"
 | .unsure=>"unsure"
structure Row where
 mo:Int
 ru:Int
 wd:Wd
 dd:Nat
 ct:Nat
noncomputable abbrev hrowD (r:Row):PyData:=.tuple [.int r.mo,.int r.ru,.str (wdS r.wd),.int r.dd,.int r.ct]
noncomputable abbrev natD (n:Nat):PyData:=.int n
noncomputable def wordsD (ws:List ((Nat × Nat) × Wd)):List (PyData × PyData):=ws.map fun p=>(.tuple [natD p.1.1,natD p.1.2],.str (wdS p.2))
structure Hl where
 a:Int
 ss:Sh
 ds:List Deed
 last:Option Int
 holder:Option Int
 til:Int
 holds:Int
 begun:Option (Nat × Nat × Int)
 rows:List Row
 words:List ((Nat × Nat) × Wd)
 settled:List Nat
@[irreducible] noncomputable def flds (S:Hl):List (Str × Fl):=[("zone",.d (zoneD S.a S.ss)),("deeds",.d (deedsD S.ds)),("last",.d (oInt S.last)),("holder",.d (oInt S.holder)),("until",.d (.int S.til)),("holds",.d (.int S.holds)),("begun",.d (oBeg S.begun)),("rows",.l (S.rows.map hrowD)),("words",.m true (wordsD S.words)),("settled",.l (S.settled.map natD))]
noncomputable abbrev hB (C:Addr) (S:Hl):Bx:=.o C (flds S)
@[simp] theorem lk_zone (S:Hl):List.lookup ("zone":Str) (flds S)=some (.d (zoneD S.a S.ss)):=by unfold flds; kernel_rfl
@[simp] theorem lk_deeds (S:Hl):List.lookup ("deeds":Str) (flds S)=some (.d (deedsD S.ds)):=by unfold flds; kernel_rfl
@[simp] theorem lk_last (S:Hl):List.lookup ("last":Str) (flds S)=some (.d (oInt S.last)):=by unfold flds; kernel_rfl
@[simp] theorem lk_holder (S:Hl):List.lookup ("holder":Str) (flds S)=some (.d (oInt S.holder)):=by unfold flds; kernel_rfl
@[simp] theorem lk_until (S:Hl):List.lookup ("until":Str) (flds S)=some (.d (.int S.til)):=by unfold flds; kernel_rfl
@[simp] theorem lk_holds (S:Hl):List.lookup ("holds":Str) (flds S)=some (.d (.int S.holds)):=by unfold flds; kernel_rfl
@[simp] theorem lk_begun (S:Hl):List.lookup ("begun":Str) (flds S)=some (.d (oBeg S.begun)):=by unfold flds; kernel_rfl
@[simp] theorem lk_rows (S:Hl):List.lookup ("rows":Str) (flds S)=some (.l (S.rows.map hrowD)):=by unfold flds; kernel_rfl
@[simp] theorem lk_words (S:Hl):List.lookup ("words":Str) (flds S)=some (.m true (wordsD S.words)):=by unfold flds; kernel_rfl
@[simp] theorem lk_settled (S:Hl):List.lookup ("settled":Str) (flds S)=some (.l (S.settled.map natD)):=by unfold flds; kernel_rfl
@[simp] theorem lk_m_is_held (S:Hl):List.lookup ("is_held":Str) (flds S)=none:=by unfold flds; kernel_rfl
@[simp] theorem lk_m_check_call (S:Hl):List.lookup ("check_call":Str) (flds S)=none:=by unfold flds; kernel_rfl
@[simp] theorem lk_m_check_holder (S:Hl):List.lookup ("check_holder":Str) (flds S)=none:=by unfold flds; kernel_rfl
@[simp] theorem lk_m_take (S:Hl):List.lookup ("take":Str) (flds S)=none:=by unfold flds; kernel_rfl
@[simp] theorem lk_m_give (S:Hl):List.lookup ("give":Str) (flds S)=none:=by unfold flds; kernel_rfl
@[simp] theorem lk_m_add_row (S:Hl):List.lookup ("add_row":Str) (flds S)=none:=by unfold flds; kernel_rfl
@[simp] theorem lk_m_is_busy (S:Hl):List.lookup ("is_busy":Str) (flds S)=none:=by unfold flds; kernel_rfl
@[simp] theorem lk_m_first_unsettled (S:Hl):List.lookup ("first_unsettled":Str) (flds S)=none:=by unfold flds; kernel_rfl
@[simp] theorem lk_m_step (S:Hl):List.lookup ("step":Str) (flds S)=none:=by unfold flds; kernel_rfl
@[simp] theorem lk_m_step_behind_a_fall (S:Hl):List.lookup ("step_behind_a_fall":Str) (flds S)=none:=by unfold flds; kernel_rfl
@[simp] theorem lk_m_step_ahead (S:Hl):List.lookup ("step_ahead":Str) (flds S)=none:=by unfold flds; kernel_rfl
@[simp] theorem lk_m_finish (S:Hl):List.lookup ("finish":Str) (flds S)=none:=by unfold flds; kernel_rfl
@[simp] theorem lk_m_state (S:Hl):List.lookup ("state":Str) (flds S)=none:=by unfold flds; kernel_rfl
@[simp] theorem lk_m_held (S:Hl):List.lookup ("held":Str) (flds S)=none:=by unfold flds; kernel_rfl
@[simp] theorem lk_m_log (S:Hl):List.lookup ("log":Str) (flds S)=none:=by unfold flds; kernel_rfl
@[simp] theorem lk_m_waiting (S:Hl):List.lookup ("waiting":Str) (flds S)=none:=by unfold flds; kernel_rfl
@[simp] theorem lk_m_saved (S:Hl):List.lookup ("saved":Str) (flds S)=none:=by unfold flds; kernel_rfl
@[simp] theorem len_flds (S:Hl):(flds S).length=10:=by unfold flds; kernel_rfl
theorem put_last (S:Hl) (x:Option Int):putFl ("last":Str) (.d (oInt x)) (flds S)=flds { S with last:=x }:=by unfold flds; kernel_rfl
theorem put_holder (S:Hl) (x:Option Int):putFl ("holder":Str) (.d (oInt x)) (flds S)=flds { S with holder:=x }:=by unfold flds; kernel_rfl
theorem put_until (S:Hl) (x:Int):putFl ("until":Str) (.d (.int x)) (flds S)=flds { S with til:=x }:=by unfold flds; kernel_rfl
theorem put_holds (S:Hl) (x:Int):putFl ("holds":Str) (.d (.int x)) (flds S)=flds { S with holds:=x }:=by unfold flds; kernel_rfl
theorem put_begun (S:Hl) (x:Option (Nat × Nat × Int)):putFl ("begun":Str) (.d (oBeg x)) (flds S)=flds { S with begun:=x }:=by unfold flds; kernel_rfl
@[simp] theorem put_last0 (S:Hl):putFl ("last":Str) (.d .none) (flds S)=flds { S with last:=none }:=put_last S none
@[simp] theorem put_last1 (S:Hl) (i:Int):putFl ("last":Str) (.d (.int i)) (flds S)=flds { S with last:=some i }:=put_last S (some i)
@[simp] theorem put_holder0 (S:Hl):putFl ("holder":Str) (.d .none) (flds S)=flds { S with holder:=none }:=put_holder S none
@[simp] theorem put_holder1 (S:Hl) (i:Int):putFl ("holder":Str) (.d (.int i)) (flds S)=flds { S with holder:=some i }:=put_holder S (some i)
@[simp] theorem put_until1 (S:Hl) (i:Int):putFl ("until":Str) (.d (.int i)) (flds S)=flds { S with til:=i }:=put_until S i
@[simp] theorem put_holds1 (S:Hl) (i:Int):putFl ("holds":Str) (.d (.int i)) (flds S)=flds { S with holds:=i }:=put_holds S i
@[simp] theorem put_begun0 (S:Hl):putFl ("begun":Str) (.d .none) (flds S)=flds { S with begun:=none }:=put_begun S none
@[simp] theorem put_begun1 (S:Hl) (d c:Nat) (h:Int):putFl ("begun":Str) (.d (.tuple [.int d,.int c,.int h])) (flds S)=flds { S with begun:=some (d,c,h) }:=put_begun S (some (d,c,h))
section
variable {C:Addr} {io:Bool} {S:Hl} {ρ:DEnv}
@[simp] theorem asIo0 {fs:List (Str × Fl)}:asIo C (some (.own io (.o C fs)) :: ρ) 0=some (io,fs):=by simp [asIo]
@[simp] theorem asIo2 {x y:Option Cell} {fs:List (Str × Fl)}:asIo C (x :: y :: some (.own io (.o C fs)) :: ρ) 2=some (io,fs):=by simp [asIo]
@[simp] theorem xFld0 {f:Str} {d:PyData} {fs:List (Str × Fl)} (h:fs.lookup f=some (.d d)):xFld C 0 f (some (.own io (.o C fs)) :: ρ)=.ok d (some (.own io (.o C fs)) :: ρ):=by simp [xFld,h]
@[simp] theorem isN0:isNone .none=true:=by simp only [isNone]
@[simp] theorem isN1 (i:Int):isNone (.int i)=false:=by simp only [isNone]
@[simp] theorem isN2 (b:Bool):isNone (.bool b)=false:=by simp only [isNone]
@[simp] theorem isN3 (x:Str):isNone (.str x)=false:=by simp only [isNone]
@[simp] theorem isN4 (l:List PyData):isNone (.tuple l)=false:=by simp only [isNone]
@[simp] theorem isN5 (l:List PyData):isNone (.list l)=false:=by simp only [isNone]
@[simp] theorem isNone_oInt (x:Option Int):isNone (oInt x)=x.isNone:=by cases x <;> simp [oInt]
@[simp] theorem isNone_oBeg (x:Option (Nat × Nat × Int)):isNone (oBeg x)=x.isNone:=by rcases x with _ | ⟨_,_,_⟩ <;> simp [oBeg]
end
end K3
namespace K3
open PySem L2 L2.L3 Due
theorem r_is_runner {d:PyData} (h:noD d=true):f_is_runner [.dat d]=.rt (.dat (.bool (isW d 0 3))) []:=by simp [gEq,f_is_runner,m_is_runner,r_is_whole h]
theorem r_is_term {d:PyData} (h:noD d=true):f_is_term [.dat d]=.rt (.dat (.bool (isW d 1 99))) []:=by simp [gEq,f_is_term,m_is_term,r_is_whole h]
theorem r_check_runner {d:PyData} (h:noD d=true):f_check_runner [.dat d]=if isW d 0 3=true then .rt (.dat .none) [] else .ex "NoRunner" []:=by
 simp only [f_check_runner,m_check_runner]
 cases hw:isW d 0 3 <;> simp [gEq,r_is_runner h,hw]
theorem r_check_term {d:PyData} (h:noD d=true):f_check_term [.dat d]=if isW d 1 99=true then .rt (.dat .none) [] else .ex "NoTerm" []:=by
 simp only [f_check_term,m_check_term]
 cases hw:isW d 1 99 <;> simp [gEq,r_is_term h,hw]
noncomputable def heldAt (S:Hl) (m:Int):Bool:=S.holder.isSome && decide (m < S.til)
noncomputable def pastB (S:Hl) (m:Int):Bool:=match S.last with
 | some l=>decide (m < l)
 | none=>false
section
variable {C:Addr} {S:Hl} {r m:Int} {d:PyData}
theorem r_is_held:f_H_is_held C [.own true (hB C S),.dat (.int m)]=.rt (.dat (.bool (heldAt S m))) [hB C S]:=by
 unfold heldAt
 cases h:S.holder <;> simp [f_H_is_held,m_H_is_held,h,oInt]
theorem call_ok {r:PyData} (hr:noD r=true) (wr:isW r 0 3=true) (hw:isW (.int m) 0 9999=true) (hp:pastB S m=false):f_H_check_call C [.own true (hB C S),.dat r,.dat (.int m)]=.rt (.dat .none) [hB C S]:=by
 unfold pastB at hp
 cases h:S.last with
 | none=>simp [f_H_check_call,m_H_check_call,r_check_runner hr,wr,r_check_moment (d:=.int m) rfl,hw,h,oInt]
 | some l=>
  rw [h] at hp
  simp at hp
  simp [f_H_check_call,m_H_check_call,r_check_runner hr,wr,r_check_moment (d:=.int m) rfl,hw,h,oInt,show ¬ m < l by omega]
theorem ne_oInt (x:Option Int) (r:Int):gEq true (oInt x) (.int r)=some (.bool (!decide (x=some r))):=by
 cases x with
 | none=>simp [oInt,gEq,shaped_int,show SeqAt.shaped .none=true from rfl,PyData.eqv]
 | some i=>simp [oInt,ne_int]
theorem holder_no (h:f_H_check_call C [.own true (hB C S),.dat (.int r),.dat (.int m)]=.rt (.dat .none) [hB C S]) (hn:(heldAt S m && decide (S.holder=some r))=false):f_H_check_holder C [.own true (hB C S),.dat (.int r),.dat (.int m)]=.ex "NotHolder" [hB C S]:=by
 cases hh:heldAt S m with
 | false=>simp [f_H_check_holder,m_H_check_holder,xMeth,methK,h,r_is_held,hh]
 | true=>
  rw [hh] at hn
  simp at hn
  simp [f_H_check_holder,m_H_check_holder,xMeth,methK,h,r_is_held,hh,ne_oInt,hn]
theorem holder_ok (h:f_H_check_call C [.own true (hB C S),.dat (.int r),.dat (.int m)]=.rt (.dat .none) [hB C S]) (h1:heldAt S m=true) (h2:S.holder=some r):f_H_check_holder C [.own true (hB C S),.dat (.int r),.dat (.int m)]=.rt (.dat .none) [hB C S]:=by
 simp [f_H_check_holder,m_H_check_holder,xMeth,methK,h,r_is_held,h1,ne_oInt,h2]
noncomputable def takeS (S:Hl) (r m t:Int):Hl × Bool:=if heldAt S m=false then ({ S with last:=some m,holds:=S.holds + 1,holder:=some r,til:=m + t },true) else if S.holder=some r then ({ S with last:=some m,holder:=some r,til:=m + t },true) else ({ S with last:=some m },false)
theorem r_take {t:Int} (h:f_H_check_call C [.own true (hB C S),.dat (.int r),.dat (.int m)]=.rt (.dat .none) [hB C S]) (ht:isW (.int t) 1 99=true):f_H_take C [.own true (hB C S),.dat (.int r),.dat (.int m),.dat (.int t)]=.rt (.dat (.bool (takeS S r m t).2)) [hB C (takeS S r m t).1]:=by
 unfold takeS
 have hh:heldAt { S with last:=some m } m=heldAt S m:=rfl
 cases he:heldAt S m with
 | false=>simp [f_H_take,m_H_take,xMeth,methK,h,r_check_term (d:=.int t) rfl,ht,sFldF,fldK,plainFl,r_is_held,hh,he,sFldInc]
 | true=>
  by_cases hr:S.holder=some r
  ·have he':m < S.til:=by unfold heldAt at he; simp [hr] at he; exact he
   simp [f_H_take,m_H_take,xMeth,methK,h,r_check_term (d:=.int t) rfl,ht,sFldF,fldK,plainFl,r_is_held,heldAt,he',ne_oInt,hr]
  ·simp [f_H_take,m_H_take,xMeth,methK,h,r_check_term (d:=.int t) rfl,ht,sFldF,fldK,plainFl,r_is_held,hh,he,ne_oInt,hr]
end
end K3
namespace K3
open PySem L2 L2.L3 Due
@[irreducible] noncomputable def fl0 (z d:PyData):List (Str × Fl):=[]
@[irreducible] noncomputable def fl1 (z d:PyData):List (Str × Fl):=[("zone",.d z)]
@[irreducible] noncomputable def fl2 (z d:PyData):List (Str × Fl):=[("zone",.d z),("deeds",.d d)]
@[irreducible] noncomputable def fl3 (z d:PyData):List (Str × Fl):=[("zone",.d z),("deeds",.d d),("last",.d .none)]
@[irreducible] noncomputable def fl4 (z d:PyData):List (Str × Fl):=[("zone",.d z),("deeds",.d d),("last",.d .none),("holder",.d .none)]
@[irreducible] noncomputable def fl5 (z d:PyData):List (Str × Fl):=[("zone",.d z),("deeds",.d d),("last",.d .none),("holder",.d .none),("until",.d (.int 0))]
@[irreducible] noncomputable def fl6 (z d:PyData):List (Str × Fl):=[("zone",.d z),("deeds",.d d),("last",.d .none),("holder",.d .none),("until",.d (.int 0)),("holds",.d (.int 0))]
@[irreducible] noncomputable def fl7 (z d:PyData):List (Str × Fl):=[("zone",.d z),("deeds",.d d),("last",.d .none),("holder",.d .none),("until",.d (.int 0)),("holds",.d (.int 0)),("begun",.d .none)]
@[irreducible] noncomputable def fl8 (z d:PyData):List (Str × Fl):=[("zone",.d z),("deeds",.d d),("last",.d .none),("holder",.d .none),("until",.d (.int 0)),("holds",.d (.int 0)),("begun",.d .none),("rows",.l [])]
@[irreducible] noncomputable def fl9 (z d:PyData):List (Str × Fl):=[("zone",.d z),("deeds",.d d),("last",.d .none),("holder",.d .none),("until",.d (.int 0)),("holds",.d (.int 0)),("begun",.d .none),("rows",.l []),("words",.m true [])]
@[simp] theorem lk0 (z d:PyData):List.lookup ("zone":Str) (fl0 z d)=none:=by unfold fl0; kernel_rfl
@[simp] theorem ln0 (z d:PyData):(fl0 z d).length=0:=by unfold fl0; kernel_rfl
@[simp] theorem pt0 (z d:PyData):putFl ("zone":Str) (.d z) (fl0 z d)=fl1 z d:=by unfold fl0 fl1; kernel_rfl
@[simp] theorem lk1 (z d:PyData):List.lookup ("deeds":Str) (fl1 z d)=none:=by unfold fl1; kernel_rfl
@[simp] theorem ln1 (z d:PyData):(fl1 z d).length=1:=by unfold fl1; kernel_rfl
@[simp] theorem pt1 (z d:PyData):putFl ("deeds":Str) (.d d) (fl1 z d)=fl2 z d:=by unfold fl1 fl2; kernel_rfl
@[simp] theorem lk2 (z d:PyData):List.lookup ("last":Str) (fl2 z d)=none:=by unfold fl2; kernel_rfl
@[simp] theorem ln2 (z d:PyData):(fl2 z d).length=2:=by unfold fl2; kernel_rfl
@[simp] theorem pt2 (z d:PyData):putFl ("last":Str) (.d .none) (fl2 z d)=fl3 z d:=by unfold fl2 fl3; kernel_rfl
@[simp] theorem lk3 (z d:PyData):List.lookup ("holder":Str) (fl3 z d)=none:=by unfold fl3; kernel_rfl
@[simp] theorem ln3 (z d:PyData):(fl3 z d).length=3:=by unfold fl3; kernel_rfl
@[simp] theorem pt3 (z d:PyData):putFl ("holder":Str) (.d .none) (fl3 z d)=fl4 z d:=by unfold fl3 fl4; kernel_rfl
@[simp] theorem lk4 (z d:PyData):List.lookup ("until":Str) (fl4 z d)=none:=by unfold fl4; kernel_rfl
@[simp] theorem ln4 (z d:PyData):(fl4 z d).length=4:=by unfold fl4; kernel_rfl
@[simp] theorem pt4 (z d:PyData):putFl ("until":Str) (.d (.int 0)) (fl4 z d)=fl5 z d:=by unfold fl4 fl5; kernel_rfl
@[simp] theorem lk5 (z d:PyData):List.lookup ("holds":Str) (fl5 z d)=none:=by unfold fl5; kernel_rfl
@[simp] theorem ln5 (z d:PyData):(fl5 z d).length=5:=by unfold fl5; kernel_rfl
@[simp] theorem pt5 (z d:PyData):putFl ("holds":Str) (.d (.int 0)) (fl5 z d)=fl6 z d:=by unfold fl5 fl6; kernel_rfl
@[simp] theorem lk6 (z d:PyData):List.lookup ("begun":Str) (fl6 z d)=none:=by unfold fl6; kernel_rfl
@[simp] theorem ln6 (z d:PyData):(fl6 z d).length=6:=by unfold fl6; kernel_rfl
@[simp] theorem pt6 (z d:PyData):putFl ("begun":Str) (.d .none) (fl6 z d)=fl7 z d:=by unfold fl6 fl7; kernel_rfl
@[simp] theorem lk7 (z d:PyData):List.lookup ("rows":Str) (fl7 z d)=none:=by unfold fl7; kernel_rfl
@[simp] theorem ln7 (z d:PyData):(fl7 z d).length=7:=by unfold fl7; kernel_rfl
@[simp] theorem pt7 (z d:PyData):putFl ("rows":Str) (.l []) (fl7 z d)=fl8 z d:=by unfold fl7 fl8; kernel_rfl
@[simp] theorem lk8 (z d:PyData):List.lookup ("words":Str) (fl8 z d)=none:=by unfold fl8; kernel_rfl
@[simp] theorem ln8 (z d:PyData):(fl8 z d).length=8:=by unfold fl8; kernel_rfl
@[simp] theorem pt8 (z d:PyData):putFl ("words":Str) (.m true []) (fl8 z d)=fl9 z d:=by unfold fl8 fl9; kernel_rfl
@[simp] theorem lk9 (z d:PyData):List.lookup ("settled":Str) (fl9 z d)=none:=by unfold fl9; kernel_rfl
@[simp] theorem ln9 (z d:PyData):(fl9 z d).length=9:=by unfold fl9; kernel_rfl
noncomputable def newH (a:Int) (ss:Sh) (ds:List Deed):Hl:=⟨a,ss,ds,none,none,0,0,none,[],[],List.replicate ds.length 0⟩
theorem pt9 (a:Int) (ss:Sh) (ds:List Deed):putFl ("settled":Str) (.l ((List.replicate ds.length (0:Nat)).map natD)) (fl9 (zoneD a ss) (deedsD ds))=flds (newH a ss ds):=by unfold fl9 flds newH; kernel_rfl
theorem zeros_go {C:Addr}:∀ (l ys:List PyData) (ρ:DEnv),(∃ x,ρ=[x])->ys.length + l.length<=sizeLine->compGo (gNm 0) bTrue (e_H___init___1 C) l ys ρ=some (ys ++ (List.replicate l.length (0:Nat)).map natD)
 | [],ys,ρ,_,_=>by simp [compGo]
 | d :: l,ys,ρ,⟨x,hx⟩,hl=>by
  subst hx
  simp only [List.length_cons] at hl
  have ih:=zeros_go (C:=C) l (ys ++ [.int 0]) [some (.dat d)] ⟨_,rfl⟩ (by simp; omega)
  have he:e_H___init___1 C [some (.dat d)]=.ok (.int 0) [some (.dat d)]:=by simp [e_H___init___1]
  rw [compGo]
  simp [bTrue,he,show ys.length < sizeLine by omega,ih,List.replicate_succ]
theorem r_init {C:Addr} {a:Int} {ss:Sh} {ds:List Deed} (hz:f_check_zone [.dat (zoneD a ss)]=.rt (.dat .none) []) (hd:f_check_deeds [.dat (deedsD ds)]=.rt (.dat .none) []) (hl:ds.length<=6):f_H___init__ C [.own true (.o C []),.dat (zoneD a ss),.dat (deedsD ds)]=.rt (.dat .none) [hB C (newH a ss ds)]:=by
 have sz:1000 < sizeLine:=by decide
 have e0:([]:List (Str × Fl))=fl0 (zoneD a ss) (deedsD ds):=by unfold fl0; rfl
 have g:=zeros_go (C:=C) (ds.map deedD) [] [none] ⟨_,rfl⟩ (by simp; omega)
 rw [List.nil_append,List.length_map] at g
 have ed:deedsD ds=.tuple (ds.map deedD):=by unfold deedsD; rfl
 have p9:=pt9 a ss ds
 rw [e0]
 simp [f_H___init__,m_H___init__,hz,hd,sFldF,fldK,plainFl,sFldNew,sFldCmp,fldCmpK]
 rw [ed] at *
 simp [g,show ds.length<=sizeLine by omega] at p9 ⊢
 exact p9
end K3
namespace K3
open PySem L2 L2.L3 Due
theorem at3' {x y z v:PyData} {l:List PyData}:atI (x :: y :: z :: v :: l) 3=some v:=by
 unfold atI ixN
 rw [if_pos (by omega),if_pos (by simp <;> omega)]
 rfl
end K3
namespace K3
open PySem L2 L2.L3 Due
section
variable {C:Addr} {S:Hl}
noncomputable abbrev irow (r:List Int):PyData:=.tuple (r.map PyData.int)
end
end K3
namespace K3
open PySem L2 L2.L3 Due
@[simp] theorem tab_ts:isTab "tuple" "str" = some false:=by decide
@[simp] theorem tab_tb:isTab "tuple" "bool" = some false:=by decide
@[simp] theorem tab_tl:isTab "tuple" "list" = some false:=by decide
@[simp] theorem tab_ls:isTab "list" "str" = some false:=by decide
@[simp] theorem tab_lb:isTab "list" "bool" = some false:=by decide
@[simp] theorem tab_ll:isTab "list" "list" = some true:=by decide
@[simp] theorem tab_ns:isTab "NoneType" "str" = some false:=by decide
@[simp] theorem tab_nb:isTab "NoneType" "bool" = some false:=by decide
@[simp] theorem tab_nl:isTab "NoneType" "list" = some false:=by decide
@[simp] theorem tab_is:isTab "int" "str" = some false:=by decide
@[simp] theorem tab_il:isTab "int" "list" = some false:=by decide
@[simp] theorem tab_bs:isTab "bool" "str" = some false:=by decide
@[simp] theorem tab_bl:isTab "bool" "list" = some false:=by decide
@[simp] theorem tab_sb:isTab "str" "bool" = some false:=by decide
@[simp] theorem tab_sl:isTab "str" "list" = some false:=by decide
theorem eq_oInt (x:Option Int) (r:Int):gEq false (oInt x) (.int r)=some (.bool (decide (x=some r))):=by
 cases x with
 | none=>simp [oInt,gEq,shaped_int,show SeqAt.shaped .none=true from rfl,PyData.eqv]
 | some i=>simp [oInt,eq_int]
end K3
namespace K3
open PySem L2 L2.L3 Due
theorem lay_ints (l:List Int):PyData.canLayAll0 (l.map PyData.int)=true:=by induction l with | nil=>rfl | cons x r ih=>simpa [PyData.canLayAll0,PyData.canLay0] using ih
theorem dep_ints (l:List Int):PyData.depthAll (l.map PyData.int)=0:=by induction l with | nil=>rfl | cons x r ih=>simpa [PyData.depthAll,PyData.depth] using ih
theorem lay_rows (L:List (List Int)):PyData.canLayAll0 (L.map irow)=true:=by induction L with | nil=>rfl | cons x r ih=>simpa [PyData.canLayAll0,PyData.canLay0,lay_ints] using ih
theorem dep_rows (L:List (List Int)):PyData.depthAll (L.map irow)<=1:=by induction L with | nil=>exact Nat.zero_le _ | cons x r ih=>simp [PyData.depthAll,PyData.depth,dep_ints]; omega
theorem shaped_rows (L:List (List Int)):SeqAt.shaped (.list (L.map irow))=true:=by
 have:=dep_rows L
 unfold SeqAt.shaped
 rw [show PyData.canLay0 (.list (L.map irow))=true by simp [PyData.canLay0,lay_rows],Bool.true_and,decide_eq_true_eq,PyData.depth]
 omega
end K3
namespace K3
open PySem L2 L2.L3 Due
inductive Ro where
 | take (r m t:Int) | give (r m:Int)
noncomputable def Ro.mo:Ro->Int
 | .take _ m _=>m
 | .give _ m=>m
noncomputable def roD:Ro->PyData
 | .take r m t=>.tuple [.str "take",.int r,.int m,.int t]
 | .give r m=>.tuple [.str "give",.int r,.int m]
noncomputable def RoOk:Ro->Prop
 | .take r m t=>(0<=r/\r<=3)/\(0<=m/\m<=9999)/\1<=t/\t<=99
 | .give r m=>(0<=r/\r<=3)/\0<=m/\m<=9999
theorem ok_take':PyData.strOk "take" = true:=by decide +kernel
theorem ok_give':PyData.strOk "give" = true:=by decide +kernel
theorem q_tt':(("take":Str) == ("take":Str))=true:=by decide +kernel
theorem q_gt':(("give":Str) == ("take":Str))=false:=by decide +kernel
theorem q_gg':(("give":Str) == ("give":Str))=true:=by decide +kernel
theorem r_is_row {x:Ro} (ok:RoOk x):f_is_row [.dat (roD x)]=.rt (.dat (.bool true)) []:=by
 cases x with
 | take r m t=>
  obtain ⟨⟨r1,r2⟩,⟨m1,m2⟩,t1,t2⟩:=ok
  have h:=r_has_word (x:="take") (w:="take") (rest:=[.int r,.int m,.int t]) (n:=4) ok_take' ok_take'
  simp [f_is_row,m_is_row,roD,h,q_tt',r_is_runner (d:=.int r) rfl,r_is_moment (d:=.int m) rfl,r_is_term (d:=.int t) rfl,isW,r1,r2,m1,m2,t1,t2,atI,ixN]
 | give r m=>
  obtain ⟨⟨r1,r2⟩,m1,m2⟩:=ok
  have h:=r_has_word (x:="give") (w:="take") (rest:=[.int r,.int m]) (n:=4) ok_give' ok_take'
  have h':=r_has_word (x:="give") (w:="give") (rest:=[.int r,.int m]) (n:=3) ok_give' ok_give'
  simp [f_is_row,m_is_row,roD,h,h',q_gt',q_gg',r_is_runner (d:=.int r) rfl,r_is_moment (d:=.int m) rfl,isW,r1,r2,m1,m2,atI,ixN]
theorem ro_mo (x:Ro):gIxA (roD x) (.int 2)=some (.int x.mo):=by cases x <;> rfl
noncomputable def Up:Int->List Ro->Prop
 | _,[]=>True
 | l,x :: xs=>RoOk x/\l<=x.mo/\Up x.mo xs
theorem rows_go {z0:Option Cell}:∀ (xs:List Ro) (l:Int) (x2:Option Cell),Up l xs->∃ l' y2,forGo (gNm 2) b_check_rows_1 (xs.map roD) [z0,some (.dat (.int l)),x2]=.nx [z0,some (.dat (.int l')),y2]
 | [],l,x2,_=>⟨l,x2,by simp [forGo]⟩
 | x :: xs,l,x2,⟨ok,hl,up⟩=>by
  obtain ⟨l',y2,ih⟩:=rows_go (z0:=z0) xs x.mo (some (.dat (roD x))) up
  refine ⟨l',y2,?_⟩
  have b:b_check_rows_1 [z0,some (.dat (.int l)),some (.dat (roD x))]=.nx [z0,some (.dat (.int x.mo)),some (.dat (roD x))]:=by
   simp [-gIxA,b_check_rows_1,r_is_row ok,ro_mo,show ¬ x.mo < l by omega]
  rw [List.map_cons,forGo,<-ih]
  simp only [gNm,List.length_cons,List.set_cons_succ,List.set_cons_zero,b]
theorem r_check_rows {xs:List Ro} (up:Up 0 xs):f_check_rows [.dat (.list (xs.map roD))]=.rt (.dat .none) []:=by
 obtain ⟨l',y2,e⟩:=rows_go (z0:=some (.dat (.list (xs.map roD)))) xs 0 none up
 simp [f_check_rows,m_check_rows,e]
theorem up_app:∀ (xs:List Ro) (l:Int) (x:Ro),Up l xs->RoOk x->(∀ y ∈ xs,y.mo<=x.mo)->l<=x.mo->Up l (xs ++ [x])
 | [],l,x,_,ok,_,hl=>⟨ok,hl,trivial⟩
 | y :: xs,l,x,⟨oy,ly,uy⟩,ok,h,hl=>⟨oy,ly,up_app xs y.mo x uy ok (fun z hz=>h z (List.mem_cons_of_mem _ hz)) (h y List.mem_cons_self)⟩
theorem rows_step {ns:List Int} {t:List PyData} {xs:List Ro} {m:Int} {x2 x5 x6:Option Cell} (hn:ns.length<=63) (ht:t.length<=700) (hm:0<=m/\m<=5000) (hx:xs.length < 100) :
  ∃ x t' y6,RoOk x/\m<=x.mo/\x.mo<=m + 19/\t'.length<=t.length + 7/\b__law_rows_1 [some (.scr ns),some (.own true (.l t)),x2,some (.own false (.l (xs.map roD))),some (.dat (.int m)),x5,x6]=.nx [some (.scr ns),some (.own true (.l t')),x2,some (.own false (.l ((xs ++ [x]).map roD))),some (.dat (.int x.mo)),x5,y6]:=by
 have sz:1000 < sizeLine:=by decide
 obtain ⟨a,ha,h1⟩:=r_pick (ns:=ns) (t:=t) (ds:=[.int 1,.int 4,.int 20]) hn (by omega) (by simp) (by simp)
 have:∃ i:Int,a=.int i/\0 < i/\i<=20:=by
  simp only [List.mem_cons,List.not_mem_nil,or_false] at ha
  rcases ha with rfl | rfl | rfl <;> exact ⟨_,rfl,by omega,by omega⟩
 obtain ⟨i,rfl,i1,i2⟩:=this
 obtain ⟨u,u1,u2,h2⟩:=r_draw (ns:=ns) (t:=t ++ [.int 0]) (many:=i) hn (by simp; omega) i1
 obtain ⟨b,hb,h3⟩:=r_pick (ns:=ns) (t:=t ++ [.int 0] ++ [.int 0]) (ds:=[.int 2,.int 4]) hn (by simp; omega) (by simp) (by simp)
 have:∃ j:Int,b=.int j/\0 < j/\j<=4:=by
  simp only [List.mem_cons,List.not_mem_nil,or_false] at hb
  rcases hb with rfl | rfl <;> exact ⟨_,rfl,by omega,by omega⟩
 obtain ⟨j,rfl,j1,j2⟩:=this
 obtain ⟨r,r1,r2,h4⟩:=r_draw (ns:=ns) (t:=t ++ [.int 0] ++ [.int 0] ++ [.int 0]) (many:=j) hn (by simp; omega) j1
 obtain ⟨w,w1,w2,h5⟩:=r_draw (ns:=ns) (t:=t ++ [.int 0] ++ [.int 0] ++ [.int 0] ++ [.int 0]) (many:=3) hn (by simp; omega) (by omega)
 obtain ⟨c,hc,h6⟩:=r_pick (ns:=ns) (t:=t ++ [.int 0] ++ [.int 0] ++ [.int 0] ++ [.int 0] ++ [.int 0]) (ds:=[.int 3,.int 30,.int 99]) hn (by simp; omega) (by simp) (by simp)
 have:∃ k:Int,c=.int k/\0 < k/\k<=99:=by
  simp only [List.mem_cons,List.not_mem_nil,or_false] at hc
  rcases hc with rfl | rfl | rfl <;> exact ⟨_,rfl,by omega,by omega⟩
 obtain ⟨k,rfl,k1,k2⟩:=this
 obtain ⟨v,v1,v2,h7⟩:=r_draw (ns:=ns) (t:=t ++ [.int 0] ++ [.int 0] ++ [.int 0] ++ [.int 0] ++ [.int 0] ++ [.int 0]) (many:=k) hn (by simp; omega) k1
 simp only [List.append_assoc,List.cons_append,List.nil_append] at h1 h2 h3 h4 h5 h6 h7
 by_cases hw:w=0
 ·refine ⟨.give r (m + u),t ++ [.int 0,.int 0,.int 0,.int 0,.int 0],some (.dat (.int r)),⟨⟨r1,by omega⟩,by omega,by omega⟩,by show m<=m + u; omega,by show m + u<=m + 19; omega,by simp,?_⟩
  rw [List.map_append,List.map_singleton]
  simp [b__law_rows_1,h1,h2,h3,h4,h5,eq_int,hw,roD,Ro.mo,show xs.length < sizeLine by omega]
 ·refine ⟨.take r (m + u) (1 + v),t ++ [.int 0,.int 0,.int 0,.int 0,.int 0,.int 0,.int 0],some (.dat (.int r)),⟨⟨r1,by omega⟩,⟨by omega,by omega⟩,by omega,by omega⟩,by show m<=m + u; omega,by show m + u<=m + 19; omega,by simp,?_⟩
  rw [List.map_append,List.map_singleton]
  simp [b__law_rows_1,h1,h2,h3,h4,h5,h6,h7,eq_int,hw,roD,Ro.mo,show xs.length < sizeLine by omega]
theorem rows_loop {ns:List Int} {x2:Option Cell} (hn:ns.length<=63):∀ (n:Nat) (i:Int) {t:List PyData} {xs:List Ro} {m:Int} {x5 x6:Option Cell},t.length + 7 * n<=700->xs.length + n < 100->0<=m->m + 19 * n<=5000->Up 0 xs->(∀ y ∈ xs,y.mo<=m)->
  ∃ (ys:List Ro) (t':List PyData) (m':Int) (y5 y6:Option Cell),Up 0 ys/\ys.length=xs.length + n/\t'.length<=t.length + 7 * n/\(∀ y ∈ ys,y.mo<=m')/\m'<=m + 19 * n/\forGo (gNm 5) b__law_rows_1 (L3.intsFrom i n) [some (.scr ns),some (.own true (.l t)),x2,some (.own false (.l (xs.map roD))),some (.dat (.int m)),x5,x6]=.nx [some (.scr ns),some (.own true (.l t')),x2,some (.own false (.l (ys.map roD))),some (.dat (.int m')),y5,y6]
 | 0,i,t,xs,m,x5,x6,_,_,_,_,up,hy=>⟨xs,t,m,x5,x6,up,rfl,by omega,hy,by omega,by simp [L3.intsFrom,forGo]⟩
 | n + 1,i,t,xs,m,x5,x6,ht,hx,m0,hm,up,hy=>by
  obtain ⟨x,t1,y6,ok,m1,m2,l1,e⟩:=rows_step (ns:=ns) (t:=t) (xs:=xs) (m:=m) (x2:=x2) (x5:=some (.dat (.int i))) (x6:=x6) hn (by omega) ⟨m0,by omega⟩ (by omega)
  obtain ⟨ys,t2,m',z5,z6,u2,n2,l2,hy2,hm2,e2⟩:=rows_loop (x2:=x2) hn n (i + 1) (t:=t1) (xs:=xs ++ [x]) (m:=x.mo) (x5:=some (.dat (.int i))) (x6:=y6) (by omega) (by simp; omega) (by omega) (by omega) (up_app xs 0 x up ok (fun y h=>by have:=hy y h; omega) (by omega)) (fun y h=>by
   rcases List.mem_append.mp h with h | h
   ·have:=hy y h; omega
   ·simp only [List.mem_cons,List.not_mem_nil,or_false] at h; rw [h]; exact Int.le_refl _)
  refine ⟨ys,t2,m',z5,z6,u2,by simp at n2; omega,by omega,hy2,by omega,?_⟩
  rw [intsFrom_succ,forGo,<-e2]
  simp only [gNm,List.length_cons,List.set_cons_succ,List.set_cons_zero,e]
theorem r_rows {ns:List Int} {t:List PyData} {most:Nat} (hn:ns.length<=63) (ht:t.length<=500) (hm:most<=14):∃ (xs:List Ro) (t':List PyData),Up 0 xs/\xs.length<=most/\(∀ x ∈ xs,x.mo<=19 * most)/\t'.length<=t.length + 99/\f__law_rows [.scr ns,.own true (.l t),.dat (.int most)]=.rt (.own false (.l (xs.map roD))) [.l t']:=by
 have sz:1000 < sizeLine:=by decide
 obtain ⟨k,k1,k2,h2⟩:=r_draw (ns:=ns) (t:=t) (many:=most + 1) hn (by omega) (by omega)
 obtain ⟨xs,t2,m',y5,y6,up,nd,l2,hmo,mm,e⟩:=rows_loop (ns:=ns) (x2:=some (.dat (.int most))) hn k.toNat 0 (t:=t ++ [.int 0]) (xs:=[]) (m:=0) (x5:=none) (x6:=none) (by simp; omega) (by simp; omega) (by omega) (by omega) trivial (by simp)
 have hr:rng1 [.int k]=some (L3.intsFrom 0 k.toNat):=by simp only [rng1]; rw [if_pos (by simp; omega)]
 simp only [List.length_append,List.length_cons,List.length_nil] at l2 nd
 refine ⟨xs,t2,up,by omega,fun x hx=>by have:=hmo x hx; omega,by omega,?_⟩
 rw [List.map_nil] at e
 simp [-rng1,f__law_rows,m__law_rows,h2,hr,e]
noncomputable abbrev Ho:=Int × Int × Int
noncomputable abbrev hoD (h:Ho):PyData:=.tuple [.int h.1,.int h.2.1,.int h.2.2]
structure Wk where
 G:List Ho
 who:Option Int
 til:Int
noncomputable def Wk.held (w:Wk) (m:Int):Bool:=w.who.isSome && decide (m < w.til)
noncomputable def topB (r b:Int):List Ho->List Ho
 | []=>[]
 | (_,f,_) :: G=>(r,f,b) :: G
noncomputable def Wk.step (w:Wk):Ro->Wk
 | .take r m t=>if w.held m=false then ⟨(r,m,m + t) :: w.G,some r,m + t⟩ else if w.who=some r then ⟨topB r (m + t) w.G,some r,m + t⟩ else w
 | .give r m=>if w.held m=true/\w.who=some r then ⟨topB r m w.G,none,w.til⟩ else w
noncomputable def told (w:Wk):Ro->PyData
 | .take r m _=>.bool (!w.held m || decide (w.who=some r))
 | .give r m=>if w.held m=true/\w.who=some r then .none else .str "refused"
noncomputable def lastB:List Ho->Int
 | []=>0
 | h :: _=>h.2.2
noncomputable def Chn:List Ho->Prop
 | []=>True
 | h :: G=>h.2.1<=h.2.2/\lastB G<=h.2.1/\Chn G
structure Inv (w:Wk) (m:Int):Prop where
 ch:Chn w.G
 on:w.held m=true->∃ r f G0,w.who=some r/\w.G=(r,f,w.til) :: G0/\f<=m
 off:w.held m=false->lastB w.G<=m
theorem Inv.late {w:Wk} {l m:Int} (i:Inv w l) (h:l<=m):Inv w m:=by
 refine ⟨i.ch,fun e=>?_,fun e=>?_⟩
 ·have:w.held l=true:=by
   unfold Wk.held at e ⊢
   simp at e ⊢
   exact ⟨e.1,by omega⟩
  obtain ⟨r,f,G0,h1,h2,h3⟩:=i.on this
  exact ⟨r,f,G0,h1,h2,by omega⟩
 ·cases hl:w.held l with
  | false=>have:=i.off hl; omega
  | true=>
   obtain ⟨r,f,G0,h1,h2,h3⟩:=i.on hl
   unfold Wk.held at e
   simp [h1] at e
   rw [h2]
   exact e
section
variable {w:Wk} {r m t:Int}
theorem step_t0 (h:w.held m=false):w.step (.take r m t)=⟨(r,m,m + t) :: w.G,some r,m + t⟩:=by simp [Wk.step,h]
theorem step_t1 (h:w.held m=true) (h2:w.who=some r):w.step (.take r m t)=⟨topB r (m + t) w.G,some r,m + t⟩:=by simp [Wk.step,h,h2]
theorem step_t2 (h:w.held m=true) (h2:¬ w.who=some r):w.step (.take r m t)=w:=by simp [Wk.step,h,h2]
theorem step_g1 (h:w.held m=true/\w.who=some r):w.step (.give r m)=⟨topB r m w.G,none,w.til⟩:=by simp [Wk.step,h]
theorem step_g2 (h:¬ (w.held m=true/\w.who=some r)):w.step (.give r m)=w:=by simp only [Wk.step,if_neg h]
end
theorem Inv.step {w:Wk} {l:Int} {x:Ro} (i0:Inv w l) (h:l<=x.mo) (ok:RoOk x):Inv (w.step x) x.mo:=by
 have i:=i0.late h
 cases x with
 | take r m t=>
  obtain ⟨_,_,t1,_⟩:=ok
  simp only [Ro.mo] at i h ⊢
  cases hh:w.held m with
  | false=>
   rw [step_t0 hh]
   refine ⟨⟨by show m<=m + t; omega,i.off hh,i.ch⟩,fun _=>⟨r,m,w.G,rfl,rfl,Int.le_refl _⟩,fun e=>?_⟩
   unfold Wk.held at e
   simp at e
   omega
  | true=>
   obtain ⟨r0,f,G0,h1,h2,h3⟩:=i.on hh
   have c:=i.ch
   rw [h2] at c
   by_cases hr:w.who=some r
   ·rw [step_t1 hh hr]
    refine ⟨?_,fun _=>⟨r,f,G0,rfl,by simp [h2,topB],h3⟩,fun e=>?_⟩
    ·simp only [h2,topB]; exact ⟨by show f<=m + t; omega,c.2⟩
    ·unfold Wk.held at e
     simp at e
     omega
   ·rw [step_t2 hh hr]; exact i
 | give r m=>
  simp only [Ro.mo] at i h ⊢
  by_cases hc:w.held m=true/\w.who=some r
  ·rw [step_g1 hc]
   obtain ⟨r0,f,G0,h1,h2,h3⟩:=i.on hc.1
   have c:=i.ch
   rw [h2] at c
   refine ⟨?_,fun e=>?_,fun _=>?_⟩
   ·simp only [h2,topB]; exact ⟨h3,c.2⟩
   ·unfold Wk.held at e; simp at e
   ·simp [h2,topB,lastB]
  ·rw [step_g2 hc]; exact i
theorem topB_len (r b:Int) (G:List Ho):(topB r b G).length=G.length:=by cases G <;> simp [topB]
structure Rel (S:Hl) (w:Wk) (m:Int):Prop where
 ds:S.ds=[]
 bg:S.begun=none
 who:S.holder=w.who
 til:S.til=w.til
 holds:S.holds=w.G.length
 past:pastB S m=false
theorem past_le {S:Hl} {l m:Int} (h:pastB S l=false) (hl:l<=m):pastB S m=false:=by
 unfold pastB at h ⊢
 cases e:S.last with
 | none=>rfl
 | some q=>rw [e] at h; simp at h ⊢; omega
section
variable {C:Addr} {S S':Hl} {w:Wk} {d q r m t c:PyData}
theorem cc_item {x w:Str} {rest:List PyData} {n:Int} (hx:PyData.strOk x=true) (hw:PyData.strOk w=true) (hn:gdK [("take",4),("give",3),("step",3),("finish",3)] (.str w)=some (.int n)):e_check_call_1 [some (.dat (.str w)),some (.dat (.tuple (.str x :: rest)))]=.ok (.bool (decide (((rest.length + 1:Nat):Int)=n) && (x == w))) [some (.dat (.str w)),some (.dat (.tuple (.str x :: rest)))]:=by
 have h:=r_has_word (x:=x) (w:=w) (rest:=rest) (n:=n) hx hw
 simp [e_check_call_1,hn,h]
end
section
variable {C:Addr} {S S':Hl} {w:Wk} {d q r m t c:PyData}
theorem ok_step':PyData.strOk "step" = true:=by decide +kernel
theorem ok_finish':PyData.strOk "finish" = true:=by decide +kernel
theorem q_tg':(("take":Str) == ("give":Str))=false:=by decide +kernel
theorem q_ts':(("take":Str) == ("step":Str))=false:=by decide +kernel
theorem q_tf':(("take":Str) == ("finish":Str))=false:=by decide +kernel
theorem q_gs':(("give":Str) == ("step":Str))=false:=by decide +kernel
theorem q_gf':(("give":Str) == ("finish":Str))=false:=by decide +kernel
theorem cc_go {x:Str} {rest:List PyData} (hx:PyData.strOk x=true):compGo (gNm 0) bTrue e_check_call_1 (strsD ["take","give","step","finish"]) [] [none,some (.dat (.tuple (.str x :: rest)))]=some [.bool (decide (((rest.length + 1:Nat):Int)=4) && (x == "take")),.bool (decide (((rest.length + 1:Nat):Int)=3) && (x == "give")),.bool (decide (((rest.length + 1:Nat):Int)=3) && (x == "step")),.bool (decide (((rest.length + 1:Nat):Int)=3) && (x == "finish"))]:=by
 have sz:1000 < sizeLine:=by decide
 have i1:=cc_item (x:=x) (w:="take") (rest:=rest) (n:=4) hx ok_take' (by kernel_rfl)
 have i2:=cc_item (x:=x) (w:="give") (rest:=rest) (n:=3) hx ok_give' (by kernel_rfl)
 have i3:=cc_item (x:=x) (w:="step") (rest:=rest) (n:=3) hx ok_step' (by kernel_rfl)
 have i4:=cc_item (x:=x) (w:="finish") (rest:=rest) (n:=3) hx ok_finish' (by kernel_rfl)
 have e:strsD ["take","give","step","finish"]=[.str "take",.str "give",.str "step",.str "finish"]:=rfl
 rw [e]
 simp only [compGo,gNm,bTrue,List.set_cons_zero,i1,i2,i3,i4,List.nil_append,List.cons_append,List.length_nil,List.length_cons]
 rw [if_pos (by omega),if_pos (by omega),if_pos (by omega),if_pos (by omega)]
theorem cc_take {a b c:PyData}:f_check_call [.dat (.tuple [.str "take",a,b,c])]=.rt (.dat .none) []:=by
 have g:=cc_go (x:="take") (rest:=[a,b,c]) ok_take'
 simp only [q_tt',q_tg',q_ts',q_tf',List.length_cons,List.length_nil] at g
 simp [f_check_call,m_check_call,g,nAny,bools?]
theorem cc_give {a b:PyData}:f_check_call [.dat (.tuple [.str "give",a,b])]=.rt (.dat .none) []:=by
 have g:=cc_go (x:="give") (rest:=[a,b]) ok_give'
 simp only [q_gt',q_gg',q_gs',q_gf',List.length_cons,List.length_nil] at g
 simp [f_check_call,m_check_call,g,nAny,bools?]
theorem ask_take (h:f_H_take C [.own true (hB C S),.dat r,.dat m,.dat t]=.rt (.dat d) [hB C S']):f_ask C [.own true (hB C S),.dat (.tuple [.str "take",r,m,t])]=.rt (.dat d) [hB C S']:=by
 simp [f_ask,m_ask,eq_str ok_take' ok_take',q_tt',xMeth,methK,h,at3']
theorem ask_give (h:f_H_give C [.own true (hB C S),.dat r,.dat m]=.rt (.dat d) [hB C S']):f_ask C [.own true (hB C S),.dat (.tuple [.str "give",r,m])]=.rt (.dat d) [hB C S']:=by
 simp [f_ask,m_ask,eq_str ok_give' ok_take',q_gt',eq_str ok_give' ok_give',q_gg',xMeth,methK,h]
theorem ask_give_ex {x:Str} (h:f_H_give C [.own true (hB C S),.dat r,.dat m]=.ex x [hB C S]):f_ask C [.own true (hB C S),.dat (.tuple [.str "give",r,m])]=.ex x [hB C S]:=by
 simp [f_ask,m_ask,eq_str ok_give' ok_take',q_gt',eq_str ok_give' ok_give',q_gg',xMeth,methK,h]
theorem rdo_ok (hc:f_check_call [.dat c]=.rt (.dat .none) []) (h:f_ask C [.own true (hB C S),.dat c]=.rt (.dat d) [hB C S']):f_do C [.own true (hB C S),.dat c]=.rt (.dat d) [hB C S']:=by
 simp [f_do,m_do,hc,sTryB,h]
theorem rdo_ex {x:Str} (hc:f_check_call [.dat c]=.rt (.dat .none) []) (h:f_ask C [.own true (hB C S),.dat c]=.ex x [hB C S]) (hx:x ∈ exL):f_do C [.own true (hB C S),.dat c]=.rt (.dat (.str "refused")) [hB C S]:=by
 simp [f_do,m_do,hc,sTryB,h,hx]
end
theorem in_nh:("NotHolder":Str) ∈ exL:=by decide +kernel
theorem r_give' {C:Addr} {S:Hl} {r m:Int} (h:f_H_check_holder C [.own true (hB C S),.dat (.int r),.dat (.int m)]=.rt (.dat .none) [hB C S]):f_H_give C [.own true (hB C S),.dat (.int r),.dat (.int m)]=.rt (.dat .none) [hB C { S with last:=some m,holder:=none }]:=by
 simp [f_H_give,m_H_give,xMeth,methK,h,sFldF,fldK,plainFl]
theorem give_ex' {C:Addr} {S:Hl} {r m:Int} {c:Str} (h:f_H_check_holder C [.own true (hB C S),.dat (.int r),.dat (.int m)]=.ex c [hB C S]):f_H_give C [.own true (hB C S),.dat (.int r),.dat (.int m)]=.ex c [hB C S]:=by
 simp [f_H_give,m_H_give,xMeth,methK,h]
theorem r_do_row {C:Addr} {S:Hl} {w:Wk} {l:Int} {x:Ro} (ok:RoOk x) (R:Rel S w l) (hl:l<=x.mo):∃ S',f_do C [.own true (hB C S),.dat (roD x)]=.rt (.dat (told w x)) [hB C S']/\Rel S' (w.step x) x.mo:=by
 have hp:=past_le R.past hl
 have hh:∀ m,heldAt S m=w.held m:=fun m=>by unfold heldAt Wk.held; rw [R.who,R.til]
 cases x with
 | take r m t=>
  obtain ⟨⟨r1,r2⟩,⟨m1,m2⟩,t1,t2⟩:=ok
  simp only [Ro.mo] at hp hl ⊢
  have ck:=call_ok (C:=C) (S:=S) (m:=m) (r:=.int r) rfl (by simp [isW,r1,r2]) (by simp [isW,m1,m2]) hp
  have tk:=r_take (t:=t) ck (by simp [isW,t1,t2])
  refine ⟨(takeS S r m t).1,?_,?_⟩
  ·have:(takeS S r m t).2=(!w.held m || decide (w.who=some r)):=by
    unfold takeS
    rw [hh,R.who]
    cases w.held m with
    | false=>simp
    | true=>by_cases h2:w.who=some r <;> simp [h2]
   rw [this] at tk
   exact rdo_ok cc_take (ask_take tk)
  ·cases hw:w.held m with
   | false=>
    have e:takeS S r m t=({ S with last:=some m,holds:=S.holds + 1,holder:=some r,til:=m + t },true):=by simp [takeS,hh,hw]
    rw [step_t0 hw,e]
    exact ⟨R.ds,R.bg,rfl,rfl,by simp [R.holds],by simp [pastB]⟩
   | true=>
    by_cases h2:w.who=some r
    ·have e:takeS S r m t=({ S with last:=some m,holder:=some r,til:=m + t },true):=by simp [takeS,hh,hw,R.who,h2]
     rw [step_t1 hw h2,e]
     exact ⟨R.ds,R.bg,rfl,rfl,by simp [R.holds,topB_len],by simp [pastB]⟩
    ·have e:takeS S r m t=({ S with last:=some m },false):=by simp [takeS,hh,hw,R.who,h2]
     rw [step_t2 hw h2,e]
     exact ⟨R.ds,R.bg,R.who,R.til,R.holds,by simp [pastB]⟩
 | give r m=>
  obtain ⟨⟨r1,r2⟩,m1,m2⟩:=ok
  simp only [Ro.mo] at hp hl ⊢
  have ck:=call_ok (C:=C) (S:=S) (m:=m) (r:=.int r) rfl (by simp [isW,r1,r2]) (by simp [isW,m1,m2]) hp
  by_cases hc:w.held m=true/\w.who=some r
  ·have ho:=holder_ok ck (by rw [hh]; exact hc.1) (by rw [R.who]; exact hc.2)
   refine ⟨{ S with last:=some m,holder:=none },?_,?_⟩
   ·have:=rdo_ok cc_give (ask_give (r_give' ho))
    simp only [told,if_pos hc]
    exact this
   ·rw [step_g1 hc]
    exact ⟨R.ds,R.bg,rfl,R.til,by simp [R.holds,topB_len],by simp [pastB]⟩
  ·have ho:=holder_no ck (by
    rw [hh,R.who]
    cases h1:w.held m with
    | false=>rfl
    | true=>simpa [h1] using hc)
   refine ⟨S,?_,?_⟩
   ·have:=rdo_ex cc_give (ask_give_ex (give_ex' ho)) in_nh
    simp only [told,if_neg hc]
    exact this
   ·rw [step_g2 hc]
    exact ⟨R.ds,R.bg,R.who,R.til,R.holds,hp⟩
section
variable {C:Addr}
theorem map_top (G0:List Ho) (h:Ho):((h :: G0).reverse).map hoD=G0.reverse.map hoD ++ [hoD h]:=by simp
theorem ix_last (n:Nat):ixN (n + 1) (-1)=some n:=by
 have h:(-1 + ((n + 1:Nat):Int))=n:=by omega
 unfold ixN
 simp only [show ¬ (0:Int)<=-1 by omega,if_false]
 simp
 omega
theorem at_last (l:List PyData) (x:PyData):atI (l ++ [x]) (-1)=some x:=by
 unfold atI
 rw [List.length_append,List.length_singleton,ix_last]
 simp
theorem walk_step {S:Hl} {w:Wk} {l:Int} {x:Ro} {z0 x4 x5:Option Cell} (ok:RoOk x) (R:Rel S w l) (i0:Inv w l) (hl:l<=x.mo) (hG:w.G.length < 100) :
  ∃ S' y4 y5,Rel S' (w.step x) x.mo/\b_walked_holds_1 C [z0,some (.own false (hB C S)),some (.own false (.l (w.G.reverse.map hoD))),some (.dat (roD x)),x4,x5]=.nx [z0,some (.own false (hB C S')),some (.own false (.l ((w.step x).G.reverse.map hoD))),some (.dat (roD x)),y4,y5]:=by
 have sz:1000 < sizeLine:=by decide
 obtain ⟨S',h1,R'⟩:=r_do_row (C:=C) ok R hl
 have hd:f_H_held C [.own true (hB C S')]=.rt (.dat (.tuple [oInt S'.holder,.int S'.til,.int S'.holds])) [hB C S']:=by
  simp [f_H_held,m_H_held]
 have i:=i0.late hl
 refine ⟨S',some (.dat (told w x)),some (.dat (.tuple [oInt S'.holder,.int S'.til,.int S'.holds])),R',?_⟩
 have eh:=R'.holds
 have et:=R'.til
 have ln:((w.G.reverse.map hoD).length:Int)=w.G.length:=by simp
 cases x with
 | take r m t=>
  simp only [Ro.mo] at *
  cases hh:w.held m with
  | false=>
   rw [step_t0 hh] at eh et ⊢
   simp only [List.length_cons] at eh
   have eg:((r,m,m + t) :: w.G).reverse.map hoD=w.G.reverse.map hoD ++ [hoD (r,m,m + t)]:=map_top _ _
   rw [eg]
   generalize w.G.reverse.map hoD=L at *
   have lL:L.length < sizeLine:=by omega
   simp [roD] at h1
   simp [b_walked_holds_1,roD,asIo,h1,xMeth0,methK,hd,eh,et,lL,show (L.length:Int) < w.G.length + 1 by omega,told,hh,at3']
  | true=>
   obtain ⟨r0,f,G0,w1,w2,w3⟩:=i.on hh
   by_cases hr:w.who=some r
   ·rw [step_t1 hh hr] at eh et ⊢
    simp only [w2,topB,List.length_cons] at eh et ⊢
    rw [map_top,map_top]
    have lL:(G0.reverse.map hoD).length=G0.length:=by simp
    generalize G0.reverse.map hoD=L at *
    simp [roD] at h1
    simp [b_walked_holds_1,roD,asIo,h1,xMeth0,methK,hd,eh,et,lL,told,hh,hr,at3',at_last,ix_last,lsetK,isBl]
   ·rw [step_t2 hh hr] at eh et ⊢
    generalize w.G.reverse.map hoD=L at *
    have lL:L.length < sizeLine:=by omega
    simp [roD] at h1
    simp [b_walked_holds_1,roD,asIo,h1,xMeth0,methK,hd,eh,et,show ¬ (L.length:Int) < w.G.length by omega,told,hh,hr,at3',isBl]
 | give r m=>
  simp only [Ro.mo] at *
  by_cases hc:w.held m=true/\w.who=some r
  ·obtain ⟨r0,f,G0,w1,w2,w3⟩:=i.on hc.1
   rw [step_g1 hc] at eh et ⊢
   simp only [w2,topB,List.length_cons] at eh et ⊢
   rw [map_top,map_top]
   have lL:(G0.reverse.map hoD).length=G0.length:=by simp
   generalize G0.reverse.map hoD=L at *
   simp [roD] at h1
   simp [b_walked_holds_1,roD,asIo,h1,xMeth0,methK,hd,eh,et,lL,told,if_pos hc,at_last,ix_last,lsetK,isBl]
  ·rw [step_g2 hc] at eh et ⊢
   generalize w.G.reverse.map hoD=L at *
   have lL:L.length < sizeLine:=by omega
   simp [roD] at h1
   simp [b_walked_holds_1,roD,asIo,h1,xMeth0,methK,hd,eh,et,show ¬ (L.length:Int) < w.G.length by omega,told,if_neg hc,isBl]
end
end K3
namespace K3
open PySem L2 L2.L3 Due
theorem walk_go {C:Addr} {z0:Option Cell}:∀ (xs:List Ro) (l:Int) (S:Hl) (w:Wk) (x3 x4 x5:Option Cell),Up l xs->Rel S w l->Inv w l->w.G.length + xs.length < 100->∃ S' y3 y4 y5,forGo (gNm 3) (b_walked_holds_1 C) (xs.map roD) [z0,some (.own false (hB C S)),some (.own false (.l (w.G.reverse.map hoD))),x3,x4,x5]=.nx [z0,some (.own false (hB C S')),some (.own false (.l ((xs.foldl Wk.step w).G.reverse.map hoD))),y3,y4,y5]
 | [],l,S,w,x3,x4,x5,_,_,_,_=>⟨S,x3,x4,x5,by simp [forGo]⟩
 | x :: xs,l,S,w,x3,x4,x5,⟨ok,hl,up⟩,R,i0,hG=>by
  simp only [List.length_cons] at hG
  obtain ⟨S1,y4,y5,R1,e1⟩:=walk_step (C:=C) (z0:=z0) (x4:=x4) (x5:=x5) ok R i0 hl (by omega)
  obtain ⟨S2,z3,z4,z5,e2⟩:=walk_go xs x.mo S1 (w.step x) (some (.dat (roD x))) y4 y5 up R1 (i0.step hl ok) (by
   have:(w.step x).G.length<=w.G.length + 1:=by
    cases x with
    | take r m t=>
     unfold Wk.step
     simp only
     split
     ·simp
     ·split
      ·simp [topB_len]
      ·omega
    | give r m=>
     unfold Wk.step
     simp only
     split
     ·simp [topB_len]
     ·omega
   omega)
  refine ⟨S2,z3,z4,z5,?_⟩
  rw [List.map_cons,forGo,List.foldl_cons,<-e2]
  simp only [gNm,List.length_cons,List.set_cons_succ,List.set_cons_zero,e1]
noncomputable def wk0:Wk:=⟨[],none,0⟩
theorem inv0:Inv wk0 0:=⟨trivial,fun h=>by simp [wk0,Wk.held] at h,fun _=>by simp [wk0,lastB]⟩
noncomputable def walkW (xs:List Ro):Wk:=xs.foldl Wk.step wk0
theorem z_any:f_check_zone [.dat (zoneD 0 [])]=.rt (.dat .none) []:=by kernel_rfl
theorem d_any:f_check_deeds [.dat (deedsD [])]=.rt (.dat .none) []:=by kernel_rfl
theorem rel0:Rel (newH 0 [] []) wk0 0:=⟨rfl,rfl,rfl,rfl,rfl,rfl⟩
theorem init0 {C:Addr}:f_H___init__ C [.own true (.o C []),.dat (.tuple [.int 0,.tuple []]),.dat (.tuple [])]=.rt (.dat .none) [hB C (newH 0 [] [])]:=by
 have i:=r_init (C:=C) (a:=0) (ss:=[]) (ds:=[]) z_any d_any (by simp)
 unfold zoneD deedsD at i
 simpa using i
theorem r_walked {C:Addr} {xs:List Ro} (up:Up 0 xs) (hl:xs.length < 100):f_walked_holds C [.dat (.list (xs.map roD))]=.rt (.own false (.l ((walkW xs).G.reverse.map hoD))) []:=by
 obtain ⟨S',y3,y4,y5,e⟩:=walk_go (C:=C) (z0:=some (.dat (.list (xs.map roD)))) xs 0 (newH 0 [] []) wk0 none none none up rel0 inv0 (by simp [wk0]; omega)
 have e0:wk0.G.reverse.map hoD=[]:=rfl
 rw [e0] at e
 simp [f_walked_holds,m_walked_holds,xMake,makeK,init0,e,walkW]
noncomputable def lastH (w:Wk):List Ho:=w.G.reverse.filter fun h=>decide (h.2.1 < h.2.2)
theorem lasting_go {C:Addr}:∀ (hs:List Ho) (ys:List PyData) (x:Option Cell),ys.length + hs.length<=sizeLine->compGo (gNm 0) (t_lasting_holds_1 C) (e_lasting_holds_2 C) (hs.map hoD) ys [x]=some (ys ++ (hs.filter fun h=>decide (h.2.1 < h.2.2)).map hoD)
 | [],ys,x,_=>by simp [compGo]
 | h :: hs,ys,x,hl=>by
  simp only [List.length_cons] at hl
  have e1:t_lasting_holds_1 C [some (.dat (hoD h))]=.ok (decide (h.2.1 < h.2.2)) [some (.dat (hoD h))]:=by
   simp [t_lasting_holds_1]
  have e2:e_lasting_holds_2 C [some (.dat (hoD h))]=.ok (hoD h) [some (.dat (hoD h))]:=by simp [e_lasting_holds_2]
  rw [List.map_cons,compGo]
  simp only [gNm,List.set_cons_zero,e1]
  cases hd:decide (h.2.1 < h.2.2) with
  | true=>
   simp only [e2]
   rw [if_pos (by omega),lasting_go hs _ _ (by simp; omega)]
   simp only [List.filter_cons,hd,if_true,List.map_cons,List.append_assoc,List.singleton_append]
  | false=>
   simp only
   rw [lasting_go hs _ _ (by omega)]
   simp only [List.filter_cons,hd,Bool.false_eq_true,if_false]
theorem walk_len:∀ (xs:List Ro) (w:Wk),(xs.foldl Wk.step w).G.length<=w.G.length + xs.length
 | [],w=>by simp
 | x :: xs,w=>by
  have h:=walk_len xs (w.step x)
  have:(w.step x).G.length<=w.G.length + 1:=by
   cases x with
   | take r m t=>
    unfold Wk.step
    simp only
    split
    ·simp
    ·split
     ·simp [topB_len]
     ·omega
   | give r m=>
    unfold Wk.step
    simp only
    split
    ·simp [topB_len]
    ·omega
  simp only [List.foldl_cons,List.length_cons]
  omega
theorem r_lasting {C:Addr} {xs:List Ro} (up:Up 0 xs) (hl:xs.length < 100):f_lasting_holds C [.dat (.list (xs.map roD))]=.rt (.dat (.list ((lastH (walkW xs)).map hoD))) []:=by
 have sz:1000 < sizeLine:=by decide
 have hw:(walkW xs).G.length<=xs.length:=by have:=walk_len xs wk0; simp only [wk0,List.length_nil] at this; unfold walkW wk0; omega
 have w:=r_walked (C:=C) up hl
 have lR:(walkW xs).G.reverse.length < 100:=by rw [List.length_reverse]; omega
 unfold lastH
 generalize (walkW xs).G.reverse=R at w lR ⊢
 have e:=lasting_go (C:=C) R [] none (by simp only [List.length_nil]; omega)
 rw [List.nil_append] at e
 have lf:(R.filter fun h=>decide (h.2.1 < h.2.2)).length<=R.length:=List.length_filter_le ..
 have lf2:((R.filter fun h=>decide (h.2.1 < h.2.2)).map hoD).length<=sizeLine:=by rw [List.length_map]; omega
 generalize (R.filter fun h=>decide (h.2.1 < h.2.2)).map hoD=Z at *
 simp [f_lasting_holds,m_lasting_holds,w,e,lf2]
theorem r_all_holds {C:Addr} {xs:List Ro} (up:Up 0 xs) (hl:xs.length < 100):f_all_holds C [.dat (.list (xs.map roD))]=.rt (.dat (.list ((lastH (walkW xs)).map hoD))) []:=by
 simp [f_all_holds,m_all_holds,r_check_rows up,r_lasting up hl]
noncomputable def findH (m:Int):List Ho->PyData
 | []=>.none
 | h :: hs=>if h.2.1<=m/\m < h.2.2 then .int h.1 else findH m hs
theorem holder_go {C:Addr} {z0:Option Cell} {m:Int}:∀ (hs:List Ho) (x2 x3 x4:Option Cell),(∃ y2 y3 y4,forGo (gTup' 3 (gCons' (gNm 2) (gCons' (gNm 3) (gCons' (gNm 4) gNil')))) (b_holder_at_1 C) (hs.map hoD) [z0,some (.dat (.int m)),x2,x3,x4]=.nx [z0,some (.dat (.int m)),y2,y3,y4]/\findH m hs=.none)\/∃ ρ,forGo (gTup' 3 (gCons' (gNm 2) (gCons' (gNm 3) (gCons' (gNm 4) gNil')))) (b_holder_at_1 C) (hs.map hoD) [z0,some (.dat (.int m)),x2,x3,x4]=.rt (.dat (findH m hs)) (z0 :: some (.dat (.int m)) :: ρ)
 | [],x2,x3,x4=>.inl ⟨x2,x3,x4,by simp [forGo],rfl⟩
 | h :: hs,x2,x3,x4=>by
  by_cases hc:h.2.1<=m/\m < h.2.2
  ·refine .inr ⟨[some (.dat (.int h.1)),some (.dat (.int h.2.1)),some (.dat (.int h.2.2))],?_⟩
   have b:b_holder_at_1 C [z0,some (.dat (.int m)),some (.dat (.int h.1)),some (.dat (.int h.2.1)),some (.dat (.int h.2.2))]=.rt (.dat (.int h.1)) [z0,some (.dat (.int m)),some (.dat (.int h.1)),some (.dat (.int h.2.1)),some (.dat (.int h.2.2))]:=by
    simp [b_holder_at_1,hc.1,hc.2]
   rw [List.map_cons,forGo,findH,if_pos hc]
   simp [b]
  ·have b:b_holder_at_1 C [z0,some (.dat (.int m)),some (.dat (.int h.1)),some (.dat (.int h.2.1)),some (.dat (.int h.2.2))]=.nx [z0,some (.dat (.int m)),some (.dat (.int h.1)),some (.dat (.int h.2.1)),some (.dat (.int h.2.2))]:=by
    by_cases h1:h.2.1<=m
    ·have h2:¬ m < h.2.2:=fun z=>hc ⟨h1,z⟩
     simp [b_holder_at_1,h1,h2]
    ·simp [b_holder_at_1,h1]
   have ih:=holder_go (C:=C) (z0:=z0) (m:=m) hs (some (.dat (.int h.1))) (some (.dat (.int h.2.1))) (some (.dat (.int h.2.2)))
   rw [List.map_cons,forGo,findH,if_neg hc]
   simpa [b] using ih
theorem r_holder_at {C:Addr} {xs:List Ro} {m:Int} (up:Up 0 xs) (hl:xs.length < 100) (hm:0<=m/\m<=9999):f_holder_at C [.dat (.list (xs.map roD)),.dat (.int m)]=.rt (.dat (findH m (lastH (walkW xs)))) []:=by
 have cm:f_check_moment [.dat (.int m)]=.rt (.dat .none) []:=by rw [r_check_moment rfl]; simp [isW,hm.1,hm.2]
 rcases holder_go (C:=C) (z0:=some (.dat (.list (xs.map roD)))) (m:=m) (lastH (walkW xs)) none none none with ⟨y2,y3,y4,e,e2⟩ | ⟨ρ,e⟩
 ·rw [e2]
  simp [-gTup',-gCons',f_holder_at,m_holder_at,r_check_rows up,cm,r_lasting up hl,e]
 ·simp [-gTup',-gCons',f_holder_at,m_holder_at,r_check_rows up,cm,r_lasting up hl,e]
noncomputable abbrev enD (h:PyData × Int × Int):PyData:=.tuple [h.1,.int h.2.1,.int h.2.2]
noncomputable abbrev prD (p:Int × Int):PyData:=.tuple [.int p.1,.int p.2]
noncomputable def nobG (last:Int):Int->List (PyData × Int × Int)->List (Int × Int)
 | _,[]=>[]
 | s,h :: r=>(if s<=min (h.2.1 - 1) last then [(s,min (h.2.1 - 1) last)] else []) ++ nobG last h.2.2 r
theorem nobody_go {C:Addr} {z0 z4:Option Cell} {last:Int}:∀ (hs:List (PyData × Int × Int)) (ys:List (Int × Int)) (s:Int) (x5 x6 x7 x8:Option Cell),ys.length + hs.length < 200->∃ y3 y5 y6 y7 y8,forGo (gTup' 3 (gCons' (gNm 5) (gCons' (gNm 6) (gCons' (gNm 7) gNil')))) (b_nobody_1 C) (hs.map enD) [z0,some (.dat (.int last)),some (.own false (.l (ys.map prD))),some (.dat (.int s)),z4,x5,x6,x7,x8]=.nx [z0,some (.dat (.int last)),some (.own false (.l ((ys ++ nobG last s hs).map prD))),y3,z4,y5,y6,y7,y8]
 | [],ys,s,x5,x6,x7,x8,_=>⟨some (.dat (.int s)),x5,x6,x7,x8,by simp [forGo,nobG]⟩
 | h :: hs,ys,s,x5,x6,x7,x8,hl=>by
  have sz:1000 < sizeLine:=by decide
  simp only [List.length_cons] at hl
  by_cases hc:s<=min (h.2.1 - 1) last
  ·obtain ⟨y3,y5,y6,y7,y8,e⟩:=nobody_go (C:=C) (z0:=z0) (z4:=z4) (last:=last) hs (ys ++ [(s,min (h.2.1 - 1) last)]) h.2.2 (some (.dat h.1)) (some (.dat (.int h.2.1))) (some (.dat (.int h.2.2))) (some (.dat (.int (min (h.2.1 - 1) last)))) (by simp; omega)
   refine ⟨y3,y5,y6,y7,y8,?_⟩
   have lL:(ys.map prD).length < sizeLine:=by rw [List.length_map]; omega
   have b:b_nobody_1 C [z0,some (.dat (.int last)),some (.own false (.l (ys.map prD))),some (.dat (.int s)),z4,some (.dat h.1),some (.dat (.int h.2.1)),some (.dat (.int h.2.2)),x8]=.nx [z0,some (.dat (.int last)),some (.own false (.l ((ys ++ [(s,min (h.2.1 - 1) last)]).map prD))),some (.dat (.int h.2.2)),z4,some (.dat h.1),some (.dat (.int h.2.1)),some (.dat (.int h.2.2)),some (.dat (.int (min (h.2.1 - 1) last)))]:=by
    rw [List.map_append,List.map_singleton]
    generalize ys.map prD=L at lL ⊢
    simp [b_nobody_1,hc,lL]
   rw [List.map_cons,forGo,nobG,if_pos hc,<-List.append_assoc,<-e]
   simp [b]
  ·obtain ⟨y3,y5,y6,y7,y8,e⟩:=nobody_go (C:=C) (z0:=z0) (z4:=z4) (last:=last) hs ys h.2.2 (some (.dat h.1)) (some (.dat (.int h.2.1))) (some (.dat (.int h.2.2))) (some (.dat (.int (min (h.2.1 - 1) last)))) (by omega)
   refine ⟨y3,y5,y6,y7,y8,?_⟩
   have b:b_nobody_1 C [z0,some (.dat (.int last)),some (.own false (.l (ys.map prD))),some (.dat (.int s)),z4,some (.dat h.1),some (.dat (.int h.2.1)),some (.dat (.int h.2.2)),x8]=.nx [z0,some (.dat (.int last)),some (.own false (.l (ys.map prD))),some (.dat (.int h.2.2)),z4,some (.dat h.1),some (.dat (.int h.2.1)),some (.dat (.int h.2.2)),some (.dat (.int (min (h.2.1 - 1) last)))]:=by
    generalize ys.map prD=L
    simp [b_nobody_1,hc]
   rw [List.map_cons,forGo,nobG,if_neg hc,List.nil_append,<-e]
   simp [b]
noncomputable def endsH (hs:List Ho) (last:Int):List (PyData × Int × Int):=hs.map (fun h=>(.int h.1,h.2)) ++ [(.none,last + 1,last + 1)]
theorem lastH_len (xs:List Ro):(lastH (walkW xs)).length<=xs.length:=by
 have h1:=walk_len xs wk0
 have h2:(lastH (walkW xs)).length<=(walkW xs).G.reverse.length:=List.length_filter_le ..
 rw [List.length_reverse] at h2
 have:wk0.G.length=0:=rfl
 unfold walkW at h2 ⊢
 omega
theorem r_nobody {C:Addr} {xs:List Ro} {last:Int} (up:Up 0 xs) (hl:xs.length < 100) (hm:0<=last/\last<=9999):f_nobody C [.dat (.list (xs.map roD)),.dat (.int last)]=.rt (.own false (.l ((nobG last 0 (endsH (lastH (walkW xs)) last)).map prD))) []:=by
 have sz:1000 < sizeLine:=by decide
 have ll:=lastH_len xs
 have cm:f_check_moment [.dat (.int last)]=.rt (.dat .none) []:=by rw [r_check_moment rfl]; simp [isW,hm.1,hm.2]
 have la:=r_lasting (C:=C) up hl
 generalize lastH (walkW xs)=hs at ll la ⊢
 obtain ⟨y3,y5,y6,y7,y8,e⟩:=nobody_go (C:=C) (z0:=some (.dat (.list (xs.map roD)))) (z4:=some (.dat (.list ((endsH hs last).map enD)))) (last:=last) (endsH hs last) [] 0 none none none none (by simp [endsH]; omega)
 have ee:(endsH hs last).map enD=hs.map hoD ++ [.tuple [.none,.int (last + 1),.int (last + 1)]]:=by
  simp [endsH,Function.comp_def]
 rw [List.nil_append,List.map_nil,ee] at e
 have lz:(hs.map hoD).length + 1<=sizeLine:=by rw [List.length_map]; omega
 generalize hs.map hoD=Z at *
 simp [-gTup',-gCons',f_nobody,m_nobody,r_check_rows up,cm,la,e,lz]
noncomputable abbrev bkD (l:List (Int × Int)):KVs:=l.map fun p=>(.int p.1,.int p.2)
noncomputable def putI (l:List (Int × Int)) (k v:Int):List (Int × Int):=if (l.lookup k).isSome=true then l.map (fun p=>if p.1=k then (p.1,v) else p) else l ++ [(k,v)]
theorem key_i' (j k:Int):keyG false (.int j)=some [Sum.inl k] ↔ j=k:=by
 simp [keyG,keyOf]
theorem find_bk (k:Int):∀ l:List (Int × Int),dFind false (bkD l) [.inl k]=(l.lookup k).map PyData.int
 | []=>rfl
 | (j,v) :: l=>by
  rw [bkD,List.map_cons,dFind]
  by_cases h:j=k
  ·subst h; rw [if_pos ((key_i' _ _).mpr rfl)]; simp
  ·rw [if_neg (fun z=>h ((key_i' _ _).mp z)),List.lookup_cons]
   have:(k == j)=false:=by simpa using fun z=>h z.symm
   rw [this]
   exact find_bk k l
theorem repl_bk (k v:Int):∀ l:List (Int × Int),dRepl false [.inl k] (.int v) (bkD l)=bkD (l.map fun p=>if p.1=k then (p.1,v) else p)
 | []=>rfl
 | (j,w) :: l=>by
  rw [bkD,List.map_cons,dRepl]
  have ih:=repl_bk k v l
  by_cases h:j=k
  ·subst h; rw [if_pos ((key_i' _ _).mpr rfl),ih]; simp
  ·rw [if_neg (fun z=>h ((key_i' _ _).mp z)),ih]; simp [h]
theorem store_bk (l:List (Int × Int)) (k v:Int):dStore false (bkD l) (.int k) [.inl k] (.int v)=bkD (putI l k v):=by
 unfold dStore putI
 rw [find_bk]
 by_cases h:(l.lookup k).isSome=true
 ·rw [if_pos (by simpa using h),if_pos h,repl_bk]
 ·rw [if_neg (by simpa using h),if_neg h]; simp
theorem putI_len (l:List (Int × Int)) (k v:Int):(putI l k v).length<=l.length + 1:=by
 unfold putI
 split <;> simp
noncomputable def bookH (l:List (Int × Int)) (h:Ho):List (Int × Int):=putI l h.1 ((l.lookup h.1).getD 0 + h.2.2 - h.2.1)
theorem heldby_go {C:Addr} {z0:Option Cell}:∀ (hs:List Ho) (l:List (Int × Int)) (x2 x3 x4:Option Cell),l.length + hs.length < 200->∃ y2 y3 y4,forGo (gTup' 3 (gCons' (gNm 2) (gCons' (gNm 3) (gCons' (gNm 4) gNil')))) (b_held_by_1 C) (hs.map hoD) [z0,some (.own false (.m false (bkD l))),x2,x3,x4]=.nx [z0,some (.own false (.m false (bkD (hs.foldl bookH l)))),y2,y3,y4]
 | [],l,x2,x3,x4,_=>⟨x2,x3,x4,by simp [forGo]⟩
 | h :: hs,l,x2,x3,x4,hl=>by
  have sz:1000 < sizeLine:=by decide
  simp only [List.length_cons] at hl
  have hp:(bookH l h).length<=l.length + 1:=putI_len ..
  obtain ⟨y2,y3,y4,e⟩:=heldby_go (C:=C) (z0:=z0) hs (bookH l h) (some (.dat (.int h.1))) (some (.dat (.int h.2.1))) (some (.dat (.int h.2.2))) (by omega)
  refine ⟨y2,y3,y4,?_⟩
  have gt:(dFind false (bkD l) [.inl h.1]).getD (.int 0)=.int ((l.lookup h.1).getD 0):=by
   rw [find_bk]
   cases l.lookup h.1 <;> rfl
  have st:=store_bk l h.1 ((l.lookup h.1).getD 0 + h.2.2 - h.2.1)
  have lk:(bkD l).length < sizeLine:=by rw [List.length_map]; omega
  have b:b_held_by_1 C [z0,some (.own false (.m false (bkD l))),some (.dat (.int h.1)),some (.dat (.int h.2.1)),some (.dat (.int h.2.2))]=.nx [z0,some (.own false (.m false (bkD (bookH l h)))),some (.dat (.int h.1)),some (.dat (.int h.2.1)),some (.dat (.int h.2.2))]:=by
   unfold bookH
   rw [<-st]
   generalize bkD l=kvs at gt lk ⊢
   simp [b_held_by_1,xDGet2,dGet2K,asM,keyG,keyOf,gt,sDPutF,dPutV,dPutK,lk]
  rw [List.map_cons,forGo,List.foldl_cons,<-e]
  simp [b]
theorem pairs_bk:∀ l:List (Int × Int),pairsI (bkD l)=some l
 | []=>rfl
 | (k,v) :: l=>by rw [bkD,List.map_cons,pairsI,pairs_bk l]; rfl
noncomputable def itemsD (l:List (Int × Int)):List PyData:=(TS.sortR (l.map fun p=>[p.1,p.2])).map fun r=>.tuple (r.map PyData.int)
theorem book_len:∀ (hs:List Ho) (l:List (Int × Int)),(hs.foldl bookH l).length<=l.length + hs.length
 | [],l=>by simp
 | h :: hs,l=>by
  have h1:=book_len hs (bookH l h)
  have h2:(bookH l h).length<=l.length + 1:=putI_len ..
  simp only [List.foldl_cons,List.length_cons]
  omega
theorem r_held_by {C:Addr} {xs:List Ro} (up:Up 0 xs) (hl:xs.length < 60):f_held_by C [.dat (.list (xs.map roD))]=.rt (.dat (.list (itemsD ((lastH (walkW xs)).foldl bookH [])))) []:=by
 have ll:=lastH_len xs
 have la:=r_lasting (C:=C) up (by omega)
 obtain ⟨y2,y3,y4,e⟩:=heldby_go (C:=C) (z0:=some (.dat (.list (xs.map roD)))) (lastH (walkW xs)) [] none none none (by simp; omega)
 have e0:bkD []=[]:=rfl
 rw [e0] at e
 generalize (lastH (walkW xs)).map hoD=Z at *
 have hb:=book_len (lastH (walkW xs)) []
 simp only [List.length_nil] at hb
 generalize (lastH (walkW xs)).foldl bookH []=B at *
 have hp:=pairs_bk B
 have h64:¬ 64<=B.length:=by omega
 generalize bkD B=kvs at *
 simp [-gTup',-gCons',f_held_by,m_held_by,r_check_rows up,la,xDNew,e,xItems,asR,hp,h64,itemsD]
noncomputable def Asc:Int->List Ho->Prop
 | _,[]=>True
 | s,h :: hs=>s<=h.2.1/\h.2.1<=h.2.2/\Asc h.2.2 hs
noncomputable def endA (s:Int):List Ho->Int
 | []=>s
 | h :: hs=>endA h.2.2 hs
theorem asc_snoc:∀ (s:Int) (hs:List Ho) (h:Ho),Asc s hs->endA s hs<=h.2.1->h.2.1<=h.2.2->Asc s (hs ++ [h])/\endA s (hs ++ [h])=h.2.2
 | s,[],h,_,h1,h2=>⟨⟨h1,h2,trivial⟩,rfl⟩
 | s,g :: hs,h,⟨a1,a2,a3⟩,h1,h2=>by
  obtain ⟨b1,b2⟩:=asc_snoc g.2.2 hs h a3 h1 h2
  exact ⟨⟨a1,a2,b1⟩,b2⟩
theorem asc_rev:∀ G:List Ho,Chn G->Asc 0 G.reverse/\endA 0 G.reverse=lastB G
 | [],_=>⟨trivial,rfl⟩
 | h :: G,⟨c1,c2,c3⟩=>by
  obtain ⟨b1,b2⟩:=asc_rev G c3
  rw [List.reverse_cons]
  exact asc_snoc 0 G.reverse h b1 (by rw [b2]; exact c2) c1
theorem Asc.low {s s':Int} {hs:List Ho} (h:Asc s hs) (l:s'<=s):Asc s' hs:=by
 cases hs with
 | nil=>trivial
 | cons x xs=>exact ⟨by have:=h.1; omega,h.2⟩
theorem Asc.filt:∀ {s:Int} {hs:List Ho},Asc s hs->Asc s (hs.filter fun h=>decide (h.2.1 < h.2.2))
 | _,[],_=>trivial
 | s,h :: hs,⟨a1,a2,a3⟩=>by
  rw [List.filter_cons]
  have ih:=Asc.filt a3
  split
  ·exact ⟨a1,a2,ih⟩
  ·exact ih.low (by omega)
theorem walk_inv:∀ {l:Int} (xs:List Ro) {w:Wk} {M:Int},Up l xs->Inv w l->(∀ x ∈ xs,x.mo<=M)->l<=M->Inv (xs.foldl Wk.step w) M
 | l,[],w,M,_,i,_,hl=>i.late hl
 | l,x :: xs,w,M,⟨ok,hl,up⟩,i,hM,h=>by
  rw [List.foldl_cons]
  exact walk_inv xs up (i.step hl ok) (fun y hy=>hM y (List.mem_cons_of_mem _ hy)) (hM x List.mem_cons_self)
end K3
namespace K3
open PySem L2 L2.L3 Due
noncomputable abbrev hoL (h:Ho):List PyData:=[.int h.1,.int h.2.1,.int h.2.2]
theorem map_topL (G0:List Ho) (h:Ho):((h :: G0).reverse).map hoL=G0.reverse.map hoL ++ [hoL h]:=by simp
theorem lh_step {w:Wk} {l:Int} {x:Ro} {z0 x5:Option Cell} (i0:Inv w l) (hl:l<=x.mo) (hG:w.G.length < 100) :
  ∃ y5,b__law_holds_1 [z0,some (.own false (.ll (w.G.reverse.map hoL))),some (.dat (oInt w.who)),some (.dat (.int w.til)),some (.dat (roD x)),x5]=.nx [z0,some (.own false (.ll ((w.step x).G.reverse.map hoL))),some (.dat (oInt (w.step x).who)),some (.dat (.int (w.step x).til)),some (.dat (roD x)),y5]:=by
 have sz:1000 < sizeLine:=by decide
 have i:=i0.late hl
 have isN:isNone (oInt w.who)=w.who.isNone:=isNone_oInt _
 refine ⟨some (.dat (.bool (w.held x.mo))),?_⟩
 have lG:(w.G.reverse.map hoL).length < sizeLine:=by simp; omega
 have hd:xAnd (xOp gIsNot (xV 2) (xC .none)) (xOp gLt (xOp gIxA (xV 4) (xC (.int 2))) (xV 3)) [z0,some (.own false (.ll (w.G.reverse.map hoL))),some (.dat (oInt w.who)),some (.dat (.int w.til)),some (.dat (roD x)),x5]=.ok (.bool (w.held x.mo)) [z0,some (.own false (.ll (w.G.reverse.map hoL))),some (.dat (oInt w.who)),some (.dat (.int w.til)),some (.dat (roD x)),x5]:=by
  have gm:=ro_mo x
  generalize roD x=rx at gm ⊢
  unfold Wk.held
  cases hw:w.who with
  | none=>simp [oInt]
  | some r=>simp [-gIxA,oInt,gm]
 cases x with
 | take r m t=>
  simp only [Ro.mo] at *
  have e0:gEq false (.str "take") (.str "take")=some (.bool true):=by rw [eq_str ok_take' ok_take',q_tt']
  cases hh:w.held m with
  | false=>
   rw [step_t0 hh]
   have eg:((r,m,m + t) :: w.G).reverse.map hoL=w.G.reverse.map hoL ++ [hoL (r,m,m + t)]:=map_topL _ _
   rw [hh] at hd
   simp only [eg,roD] at hd ⊢
   generalize w.G.reverse.map hoL=L at *
   unfold b__law_holds_1
   simp only [sThen,sAsg,hd,ofX]
   simp [e0,sLLApp,llAppK,asQ,lG,sParF,parK,at3',oInt,show 3<=sizeLine by omega]
  | true=>
   obtain ⟨r0,f,G0,w1,w2,w3⟩:=i.on hh
   rw [hh] at hd
   by_cases hr:w.who=some r
   ·rw [step_t1 hh hr]
    simp only [w2,topB,roD] at hd ⊢
    rw [map_topL,map_topL]
    rw [map_topL] at hd
    generalize G0.reverse.map hoL=L at *
    have q:=eq_oInt w.who r
    rw [hr] at q
    have ix2:ixN 3 2=some 2:=rfl
    rw [hr] at hd ⊢
    have er:r0=r:=by rw [hr] at w1; cases w1; rfl
    subst er
    unfold b__law_holds_1
    simp only [sThen,sAsg,hd,ofX]
    simp [e0,eq_int,sLLSet,llSetK,asQ,ix_last,ix2,at3',oInt]
   ·rw [step_t2 hh hr]
    have q:=eq_oInt w.who r
    simp only [roD] at hd ⊢
    have e1:gEq false (.str "take") (.str "give")=some (.bool false):=by rw [eq_str ok_take' ok_give',q_tg']
    generalize w.G.reverse.map hoL=L at *
    unfold b__law_holds_1
    simp only [sThen,sAsg,hd,ofX]
    simp [e0,e1,q,hr]
 | give r m=>
  simp only [Ro.mo] at *
  have e0:gEq false (.str "give") (.str "take")=some (.bool false):=by rw [eq_str ok_give' ok_take',q_gt']
  have e1:gEq false (.str "give") (.str "give")=some (.bool true):=by rw [eq_str ok_give' ok_give',q_gg']
  by_cases hc:w.held m=true/\w.who=some r
  ·obtain ⟨r0,f,G0,w1,w2,w3⟩:=i.on hc.1
   rw [step_g1 hc]
   rw [hc.1] at hd
   simp only [w2,topB,roD,hc.1] at hd ⊢
   rw [map_topL,map_topL]
   rw [map_topL] at hd
   generalize G0.reverse.map hoL=L at *
   have q:=eq_oInt w.who r
   rw [hc.2] at q hd ⊢
   have er:r0=r:=by rw [hc.2] at w1; cases w1; rfl
   subst er
   have ix2:ixN 3 2=some 2:=rfl
   unfold b__law_holds_1
   simp only [sThen,sAsg,hd,ofX]
   simp [e0,e1,eq_int,sLLSet,llSetK,asQ,ix_last,ix2,oInt]
  ·rw [step_g2 hc]
   have q:=eq_oInt w.who r
   simp only [roD] at hd ⊢
   generalize w.G.reverse.map hoL=L at *
   unfold b__law_holds_1
   simp only [sThen,sAsg,hd,ofX]
   cases hh:w.held m with
   | false=>simp [e0,e1]
   | true=>
    have hr:¬ w.who=some r:=fun z=>hc ⟨hh,z⟩
    simp [e0,e1,q,hr]
theorem step_len (w:Wk) (x:Ro):(w.step x).G.length<=w.G.length + 1:=by
 cases x with
 | take r m t=>
  unfold Wk.step
  simp only
  split
  ·simp
  ·split
   ·simp [topB_len]
   ·omega
 | give r m=>
  unfold Wk.step
  simp only
  split
  ·simp [topB_len]
  ·omega
theorem lh_go {z0:Option Cell}:∀ (xs:List Ro) (l:Int) (w:Wk) (x4 x5:Option Cell),Up l xs->Inv w l->w.G.length + xs.length < 100->∃ y2 y3 y4 y5,forGo (gNm 4) b__law_holds_1 (xs.map roD) [z0,some (.own false (.ll (w.G.reverse.map hoL))),some (.dat (oInt w.who)),some (.dat (.int w.til)),x4,x5]=.nx [z0,some (.own false (.ll ((xs.foldl Wk.step w).G.reverse.map hoL))),y2,y3,y4,y5]
 | [],l,w,x4,x5,_,_,_=>⟨_,_,x4,x5,by simp only [List.map_nil,forGo,List.foldl_nil]; rfl⟩
 | x :: xs,l,w,x4,x5,⟨ok,hl,up⟩,i0,hG=>by
  simp only [List.length_cons] at hG
  obtain ⟨y5,e1⟩:=lh_step (z0:=z0) (x5:=x5) i0 hl (by omega)
  have sl:=step_len w x
  obtain ⟨z2,z3,z4,z5,e2⟩:=lh_go xs x.mo (w.step x) (some (.dat (roD x))) y5 up (i0.step hl ok) (by omega)
  refine ⟨z2,z3,z4,z5,?_⟩
  rw [List.map_cons,forGo,List.foldl_cons,<-e2]
  simp only [gNm,List.length_cons,List.set_cons_succ,List.set_cons_zero,e1]
theorem lhc_go:∀ (hs:List Ho) (ys:List PyData) (x:Option Cell),ys.length + hs.length<=sizeLine->compGo (gNm 0) t__law_holds_2 e__law_holds_3 ((hs.map hoL).map .list) ys [x]=some (ys ++ (hs.filter fun h=>decide (h.2.1 < h.2.2)).map hoD)
 | [],ys,x,_=>by simp [compGo]
 | h :: hs,ys,x,hl=>by
  simp only [List.length_cons] at hl
  have e1:t__law_holds_2 [some (.dat (.list (hoL h)))]=.ok (decide (h.2.1 < h.2.2)) [some (.dat (.list (hoL h)))]:=by
   simp [t__law_holds_2]
  have e2:e__law_holds_3 [some (.dat (.list (hoL h)))]=.ok (hoD h) [some (.dat (.list (hoL h)))]:=by simp [e__law_holds_3]
  rw [List.map_cons,List.map_cons,compGo]
  simp only [gNm,List.set_cons_zero,e1]
  cases hd:decide (h.2.1 < h.2.2) with
  | true=>
   simp only [e2]
   rw [if_pos (by omega),lhc_go hs _ _ (by simp; omega)]
   simp only [List.filter_cons,hd,if_true,List.map_cons,List.append_assoc,List.singleton_append]
  | false=>
   simp only
   rw [lhc_go hs _ _ (by omega)]
   simp only [List.filter_cons,hd,Bool.false_eq_true,if_false]
theorem r_lholds {xs:List Ro} (up:Up 0 xs) (hl:xs.length < 100):f__law_holds [.dat (.list (xs.map roD))]=.rt (.dat (.list ((lastH (walkW xs)).map hoD))) []:=by
 have sz:1000 < sizeLine:=by decide
 obtain ⟨y2,y3,y4,y5,e⟩:=lh_go (z0:=some (.dat (.list (xs.map roD)))) xs 0 wk0 none none up inv0 (by simp [wk0]; omega)
 have hw:(walkW xs).G.length<=xs.length:=by have:=walk_len xs wk0; simp only [wk0,List.length_nil] at this; unfold walkW wk0; omega
 have lR:(walkW xs).G.reverse.length < 100:=by rw [List.length_reverse]; omega
 have e0:wk0.G.reverse.map hoL=[]:=rfl
 have e1:(oInt wk0.who)=.none:=rfl
 have e2:wk0.til=0:=rfl
 rw [e0,e1,e2] at e
 unfold lastH
 change forGo _ _ _ _=.nx [_,some (.own false (.ll ((walkW xs).G.reverse.map hoL))),_,_,_,_] at e
 generalize (walkW xs).G.reverse=R at e lR ⊢
 have c:=lhc_go R [] none (by simp only [List.length_nil]; omega)
 rw [List.nil_append] at c
 have lf:(R.filter fun h=>decide (h.2.1 < h.2.2)).length<=R.length:=List.length_filter_le ..
 have lf2:((R.filter fun h=>decide (h.2.1 < h.2.2)).map hoD).length<=sizeLine:=by rw [List.length_map]; omega
 generalize (R.filter fun h=>decide (h.2.1 < h.2.2)).map hoD=Z at *
 generalize R.map hoL=Y at *
 simp [-List.map_map,f__law_holds,m__law_holds,sParL,e,xVL,asQ,c,lf2]
end K3
namespace K3
open PySem L2 L2.L3 Due
noncomputable def appM (F:List (Int × Int)) (m:Int):List (Int × Int):=match F.getLast? with
 | some p=>if p.2=m - 1 then F.dropLast ++ [(p.1,m)] else F ++ [(m,m)]
 | none=>[(m,m)]
theorem appM_nil (m:Int):appM [] m=[(m,m)]:=rfl
theorem appM_last (L:List (Int × Int)) (p:Int × Int) (m:Int):appM (L ++ [p]) m=if p.2=m - 1 then L ++ [(p.1,m)] else L ++ [p] ++ [(m,m)]:=by
 unfold appM
 simp
theorem appM_app (A G:List (Int × Int)) (m:Int) (h:∀ p ∈ A,p.2 ≠ m - 1):appM (A ++ G) m=A ++ appM G m:=by
 rcases List.eq_nil_or_concat G with rfl | ⟨L,p,e⟩
 ·rw [List.append_nil,appM_nil]
  rcases List.eq_nil_or_concat A with rfl | ⟨B,q,e⟩
  ·rfl
  ·rw [List.concat_eq_append] at e
   subst e
   rw [appM_last,if_neg (h q (by simp))]
 ·rw [List.concat_eq_append] at e
  subst e
  rw [<-List.append_assoc,appM_last,appM_last]
  split <;> simp
noncomputable def freeAt (hs:List Ho) (m:Int):Bool:=hs.all fun h=>!(decide (h.2.1<=m) && decide (m < h.2.2))
theorem nob_none {l:Int}:∀ (hs:List Ho) (s:Int),Asc s hs->l < s->nobG l s (endsH hs l)=[]
 | [],s,_,h=>by
  simp only [endsH,List.map_nil,List.nil_append,nobG,List.append_nil]
  rw [if_neg (by omega)]
 | h :: hs,s,⟨a1,a2,a3⟩,hl=>by
  have e1:endsH (h :: hs) l=(.int h.1,h.2) :: endsH hs l:=rfl
  rw [e1,nobG,if_neg (by simp only; omega),List.nil_append]
  exact nob_none hs h.2.2 a3 (by omega)
theorem asc_free:∀ (hs:List Ho) (s m:Int),Asc s hs->m < s->freeAt hs m=true
 | [],_,_,_,_=>rfl
 | h :: hs,s,m,⟨a1,a2,a3⟩,hm=>by
  have ih:=asc_free hs h.2.2 m a3 (by omega)
  unfold freeAt at ih ⊢
  simp only [List.all_cons,ih,Bool.and_true]
  simp
  omega
theorem nob_next {l:Int}:∀ (hs:List Ho) (s:Int),Asc s hs->(∀ h ∈ hs,h.2.1 < h.2.2)->s<=l + 1->nobG (l + 1) s (endsH hs (l + 1))=if freeAt hs (l + 1)=true then appM (nobG l s (endsH hs l)) (l + 1) else nobG l s (endsH hs l)
 | [],s,_,_,hs1=>by
  simp only [endsH,List.map_nil,List.nil_append,nobG,List.append_nil,freeAt,List.all_nil,if_true]
  rw [if_pos (by omega)]
  by_cases h:s<=l
  ·rw [if_pos (by omega),show [(s,min (l + 1 - 1) l)]=[] ++ [(s,l)] by simp,appM_last,if_pos (by simp only; omega)]
   simp
  ·rw [if_neg (by omega),appM_nil]
   simp
   omega
 | h :: hs,s,⟨a1,a2,a3⟩,hh,hs1=>by
  have hlt:=hh h List.mem_cons_self
  have e1:∀ q,endsH (h :: hs) q=(.int h.1,h.2) :: endsH hs q:=fun _=>rfl
  rw [e1,e1,nobG,nobG]
  simp only
  have fr:freeAt (h :: hs) (l + 1)=(!(decide (h.2.1<=l + 1) && decide (l + 1 < h.2.2)) && freeAt hs (l + 1)):=rfl
  by_cases c1:l + 1 < h.2.1
  ·have f1:=asc_free hs h.2.2 (l + 1) a3 (by omega)
   have f2:freeAt (h :: hs) (l + 1)=true:=by
    rw [fr,f1]
    simp
    omega
   rw [if_pos f2,nob_none hs h.2.2 a3 (by omega),nob_none hs h.2.2 a3 (by omega),List.append_nil,List.append_nil,if_pos (by omega)]
   by_cases h2:s<=l
   ·rw [if_pos (by omega),show [(s,min (h.2.1 - 1) l)]=[] ++ [(s,l)] by simp; omega,appM_last,if_pos (by simp only; omega)]
    simp
    omega
   ·rw [if_neg (by omega),appM_nil]
    simp
    omega
  ·by_cases c2:l + 1 < h.2.2
   ·have f2:freeAt (h :: hs) (l + 1)=false:=by
     rw [fr]
     simp
     omega
    rw [f2,nob_none hs h.2.2 a3 (by omega),nob_none hs h.2.2 a3 (by omega)]
    simp only [Bool.false_eq_true,if_false]
    rw [show min (h.2.1 - 1) (l + 1)=min (h.2.1 - 1) l by omega]
   ·have ih:=nob_next (l:=l) hs h.2.2 a3 (fun x hx=>hh x (List.mem_cons_of_mem _ hx)) (by omega)
    have f2:freeAt (h :: hs) (l + 1)=freeAt hs (l + 1):=by
     rw [fr]
     have:decide (l + 1 < h.2.2)=false:=decide_eq_false c2
     rw [this]
     simp
    rw [f2,ih,show min (h.2.1 - 1) (l + 1)=min (h.2.1 - 1) l by omega]
    cases hfr:freeAt hs (l + 1) with
    | true=>
     simp only [if_true]
     rw [appM_app]
     intro p hp
     split at hp
     ·simp only [List.mem_cons,List.not_mem_nil,or_false] at hp
      rw [hp]
      simp only
      omega
     ·cases hp
    | false=>simp only [Bool.false_eq_true,if_false]
theorem nob_start (hs:List Ho) (h:Asc 0 hs):nobG (-1) 0 (endsH hs (-1))=[]:=nob_none hs 0 h (by omega)
noncomputable def wantI (hs:List Ho) (m:Int):List Int:=(hs.filter fun h=>decide (h.2.1<=m) && decide (m < h.2.2)).map (·.1)
theorem want_free:∀ (hs:List Ho) (m:Int),(wantI hs m).isEmpty=freeAt hs m
 | [],_=>rfl
 | h :: hs,m=>by
  have ih:=want_free hs m
  unfold wantI freeAt at *
  rw [List.filter_cons,List.all_cons]
  cases hc:(decide (h.2.1<=m) && decide (m < h.2.2)) with
  | true=>simp
  | false=>simpa using ih
theorem find_want:∀ (hs:List Ho) (m:Int),((wantI hs m).map PyData.int ++ [.none])[0]? = some (findH m hs)
 | [],_=>rfl
 | h :: hs,m=>by
  have ih:=find_want hs m
  rw [findH]
  unfold wantI at *
  rw [List.filter_cons]
  by_cases hc:h.2.1<=m/\m < h.2.2
  ·rw [if_pos (by simp [hc.1,hc.2]),if_pos hc]; rfl
  ·rw [if_neg hc,if_neg (by simpa using fun z=>by omega)]
   exact ih
theorem want_go {C:Addr} {m:Int}:∀ (hs:List Ho) (ys:List PyData) (x0 x1 x2:Option Cell),ys.length + hs.length<=sizeLine->compGo (gTup' 3 (gCons' (gNm 0) (gCons' (gNm 1) (gCons' (gNm 2) gNil')))) (t_law_6 C) (e_law_7 C) (hs.map hoD) ys [x0,x1,x2,some (.dat (.int m))]=some (ys ++ (wantI hs m).map PyData.int)
 | [],ys,x0,x1,x2,_=>by simp [compGo,wantI]
 | h :: hs,ys,x0,x1,x2,hl=>by
  simp only [List.length_cons] at hl
  have e1:t_law_6 C [some (.dat (.int h.1)),some (.dat (.int h.2.1)),some (.dat (.int h.2.2)),some (.dat (.int m))]=.ok (decide (h.2.1<=m) && decide (m < h.2.2)) [some (.dat (.int h.1)),some (.dat (.int h.2.1)),some (.dat (.int h.2.2)),some (.dat (.int m))]:=by
   by_cases h1:h.2.1<=m
   ·simp [t_law_6,h1]
   ·simp [t_law_6,h1]
  have e2:e_law_7 C [some (.dat (.int h.1)),some (.dat (.int h.2.1)),some (.dat (.int h.2.2)),some (.dat (.int m))]=.ok (.int h.1) [some (.dat (.int h.1)),some (.dat (.int h.2.1)),some (.dat (.int h.2.2)),some (.dat (.int m))]:=by simp [e_law_7]
  have eg:gTup' 3 (gCons' (gNm 0) (gCons' (gNm 1) (gCons' (gNm 2) gNil'))) (hoD h) [x0,x1,x2,some (.dat (.int m))]=some [some (.dat (.int h.1)),some (.dat (.int h.2.1)),some (.dat (.int h.2.2)),some (.dat (.int m))]:=by simp
  rw [List.map_cons,compGo]
  simp only [eg,e1]
  have wc:wantI (h :: hs) m=if (decide (h.2.1<=m) && decide (m < h.2.2))=true then h.1 :: wantI hs m else wantI hs m:=by
   unfold wantI
   rw [List.filter_cons]
   split <;> rfl
  cases hd:(decide (h.2.1<=m) && decide (m < h.2.2)) with
  | true=>
   rw [hd] at wc
   simp only [e2]
   rw [if_pos (by omega),want_go hs _ _ _ _ (by simp; omega),wc]
   simp
  | false=>
   rw [hd] at wc
   simp only
   rw [want_go hs _ _ _ _ (by omega),wc]
   simp
theorem eq_nil {ds:List PyData} (sh:SeqAt.shaped (.list ds)=true) (neg:Bool):gEq neg (.list ds) (.list [])=some (.bool (ds.isEmpty != neg)):=by
 have s0:SeqAt.shaped (.list [])=true:=by rfl
 cases ds with
 | nil=>simp [gEq,s0,PyData.eqv,PyData.eqvAll]
 | cons d ds=>simp [gEq,sh,s0,PyData.eqv,PyData.eqvAll]
theorem shaped_pr (F:List (Int × Int)):SeqAt.shaped (.list (F.map prD))=true:=by
 have e:F.map prD=(F.map fun p=>[p.1,p.2]).map irow:=by
  rw [List.map_map]
  apply List.map_congr_left
  intro p _
  simp [irow]
 rw [e]
 exact shaped_rows _
theorem shaped_find (hs:List Ho) (m:Int):SeqAt.shaped (findH m hs)=true:=by
 induction hs with
 | nil=>rfl
 | cons h hs ih=>
  unfold findH
  split
  ·rfl
  ·exact ih
theorem day_step {C:Addr} {z0 z1 z4 x7 z8 z9 z10 z11:Option Cell} {xs:List Ro} {F:List (Int × Int)} {m:Int} (up:Up 0 xs) (hl:xs.length < 60) (hm:0<=m/\m<=9999) (hF:F.length < 500) :
  ∃ y7,b_law_8 C [z0,z1,some (.dat (.list (xs.map roD))),some (.dat (.list ((lastH (walkW xs)).map hoD))),z4,some (.own false (.l (F.map prD))),some (.dat (.int m)),x7,z8,z9,z10,z11]=.nx [z0,z1,some (.dat (.list (xs.map roD))),some (.dat (.list ((lastH (walkW xs)).map hoD))),z4,some (.own false (.l ((if freeAt (lastH (walkW xs)) m=true then appM F m else F).map prD))),some (.dat (.int m)),y7,z8,z9,z10,z11]:=by
 have sz:1000 < sizeLine:=by decide
 have ha:=r_holder_at (C:=C) (m:=m) up (by omega) hm
 have ll:=lastH_len xs
 generalize lastH (walkW xs)=hs at *
 have wg:=want_go (C:=C) (m:=m) hs [] none none none (by simp only [List.length_nil]; omega)
 rw [List.nil_append] at wg
 have fw:=find_want hs m
 have wf:=want_free hs m
 have shW:=shaped_ints (wantI hs m)
 have eW:=eq_nil shW false
 have nF:=ne_self (shaped_find hs m)
 have lw:((wantI hs m).map PyData.int).length<=100:=by
  have:(wantI hs m).length<=hs.length:=by unfold wantI; rw [List.length_map]; exact List.length_filter_le ..
  rw [List.length_map]; omega
 have iW:((wantI hs m).map PyData.int).isEmpty=freeAt hs m:=by rw [<-wf]; cases wantI hs m <;> rfl
 rw [iW] at eW
 refine ⟨some (.dat (.list ((wantI hs m).map PyData.int))),?_⟩
 generalize (wantI hs m).map PyData.int=W at *
 generalize hs.map hoD=D at *
 generalize xs.map roD=G at *
 have ix0:gIxA (.list (W ++ [.none])) (.int 0)=some (findH m hs):=by
  have:atI (W ++ [PyData.none]) 0=(W ++ [PyData.none])[0]?:=by simp [atI,ixN]
  simpa [gIxA,this] using fw
 have lc:W.length + 1<=sizeLine:=by omega
 have lW:W.length<=sizeLine:=by omega
 have first:∀ k:SM,sThen (sAsg (xComp 3 [6] (iLs (xV 3)) (gTup' 3 (gCons' (gNm 0) (gCons' (gNm 1) (gCons' (gNm 2) gNil')))) (t_law_6 C) (e_law_7 C)) (gNm 7)) (sThen (sIfF (xTst (xOp (gEq true) (xFrz (xCall (f_holder_at C) (cVal (xV 2) (cVal (xV 6) cNil)))) (xOp gIxA (xOp gCatL (xV 7) (xLst (aCons (xC .none) aNil))) (xC (.int 0))))) (sRetV (xC (.bool false))) sNx) k) [z0,z1,some (.dat (.list G)),some (.dat (.list D)),z4,some (.own false (.l (F.map prD))),some (.dat (.int m)),x7,z8,z9,z10,z11]=k [z0,z1,some (.dat (.list G)),some (.dat (.list D)),z4,some (.own false (.l (F.map prD))),some (.dat (.int m)),some (.dat (.list W)),z8,z9,z10,z11]:=fun k=>by
  generalize F.map prD=Q
  simp [-gTup',-gCons',-gIxA,wg,lW,ha,ix0,lc,nF,show 1<=sizeLine by omega]
 unfold b_law_8
 rw [first]
 cases hf:freeAt hs m with
 | false=>
  rw [hf] at eW
  simp only [Bool.false_eq_true,if_false]
  generalize F.map prD=Q
  simp [eW]
 | true=>
  rw [hf] at eW
  simp only [if_true]
  rcases List.eq_nil_or_concat F with rfl | ⟨L,p,e⟩
  ·have e0:=eq_nil (ds:=[]) (by rfl) true
   simp [eW,appM_nil,xEqO,eqOK,asW,e0,show 0 < sizeLine by omega]
  ·rw [List.concat_eq_append] at e
   subst e
   have e0:=eq_nil (shaped_pr (L ++ [p])) true
   rw [appM_last]
   rw [List.map_append,List.map_singleton] at e0 ⊢
   have lq:(L.map prD ++ [prD p]).length < sizeLine:=by simp at hF ⊢; omega
   have q1:=at_last (L.map prD) (prD p)
   have ixl:ixN (L.map prD ++ [prD p]).length (-1)=some (L.map prD).length:=by rw [List.length_append,List.length_singleton,ix_last]
   have ne:(L.map prD ++ [prD p]).isEmpty=false:=by cases L.map prD <;> rfl
   rw [ne] at e0
   by_cases hp:p.2=m - 1
   ·rw [if_pos hp,List.map_append,List.map_singleton]
    generalize L.map prD=Q at *
    simp [eW,xEqO,eqOK,asW,e0,q1,eq_int,hp,lsetK,ix_last]
   ·rw [if_neg hp,List.map_append,List.map_append,List.map_singleton,List.map_singleton]
    generalize L.map prD=Q at *
    simp [eW,xEqO,eqOK,asW,e0,q1,eq_int,hp] at lq ⊢
    simp [lq]
theorem nob_len {last:Int}:∀ (hs:List (PyData × Int × Int)) (s:Int),(nobG last s hs).length<=hs.length
 | [],s=>by simp [nobG]
 | h :: hs,s=>by
  have:=nob_len (last:=last) hs h.2.2
  rw [nobG,List.length_append]
  split <;> simp <;> omega
theorem days_go {C:Addr} {z0 z1 z4 z8 z9 z10 z11:Option Cell} {xs:List Ro} (up:Up 0 xs) (hl:xs.length < 60) (af:Asc 0 (lastH (walkW xs))) (al:∀ h ∈ lastH (walkW xs),h.2.1 < h.2.2):∀ (n:Nat) (l:Int) (x6 x7:Option Cell),0<=l + 1->l + n<=200->∃ y6 y7,forGo (gNm 6) (b_law_8 C) (L3.intsFrom (l + 1) n) [z0,z1,some (.dat (.list (xs.map roD))),some (.dat (.list ((lastH (walkW xs)).map hoD))),z4,some (.own false (.l ((nobG l 0 (endsH (lastH (walkW xs)) l)).map prD))),x6,x7,z8,z9,z10,z11]=.nx [z0,z1,some (.dat (.list (xs.map roD))),some (.dat (.list ((lastH (walkW xs)).map hoD))),z4,some (.own false (.l ((nobG (l + n) 0 (endsH (lastH (walkW xs)) (l + n))).map prD))),y6,y7,z8,z9,z10,z11]
 | 0,l,x6,x7,_,_=>⟨x6,x7,by simp [L3.intsFrom,forGo]⟩
 | n + 1,l,x6,x7,h0,h1=>by
  have ll:=lastH_len xs
  have nl:=nob_len (last:=l) (endsH (lastH (walkW xs)) l) 0
  have el:(endsH (lastH (walkW xs)) l).length=(lastH (walkW xs)).length + 1:=by simp [endsH]
  obtain ⟨y7,e1⟩:=day_step (C:=C) (z0:=z0) (z1:=z1) (z4:=z4) (x7:=x7) (z8:=z8) (z9:=z9) (z10:=z10) (z11:=z11) (F:=nobG l 0 (endsH (lastH (walkW xs)) l)) (m:=l + 1) up hl ⟨h0,by omega⟩ (by omega)
  rw [<-nob_next (lastH (walkW xs)) 0 af al (by omega)] at e1
  obtain ⟨w6,w7,e2⟩:=days_go (C:=C) (z0:=z0) (z1:=z1) (z4:=z4) (z8:=z8) (z9:=z9) (z10:=z10) (z11:=z11) up hl af al n (l + 1) (some (.dat (.int (l + 1)))) y7 (by omega) (by omega)
  refine ⟨w6,w7,?_⟩
  rw [intsFrom_succ,forGo]
  rw [show l + ((n + 1:Nat):Int)=l + 1 + n by omega,<-e2]
  simp only [gNm,List.length_cons,List.set_cons_succ,List.set_cons_zero,e1]
theorem book_go {C:Addr} {z0 z1 z2 z3 z4 z5 z6 z7:Option Cell}:∀ (hs:List Ho) (l:List (Int × Int)) (x9 x10 x11:Option Cell),l.length + hs.length < 200->∃ y9 y10 y11,forGo (gTup' 3 (gCons' (gNm 9) (gCons' (gNm 10) (gCons' (gNm 11) gNil')))) (b_law_12 C) (hs.map hoD) [z0,z1,z2,z3,z4,z5,z6,z7,some (.own false (.m false (bkD l))),x9,x10,x11]=.nx [z0,z1,z2,z3,z4,z5,z6,z7,some (.own false (.m false (bkD (hs.foldl bookH l)))),y9,y10,y11]
 | [],l,x2,x3,x4,_=>⟨x2,x3,x4,by simp [forGo]⟩
 | h :: hs,l,x2,x3,x4,hl=>by
  have sz:1000 < sizeLine:=by decide
  simp only [List.length_cons] at hl
  have hp:(bookH l h).length<=l.length + 1:=putI_len ..
  obtain ⟨y2,y3,y4,e⟩:=book_go (C:=C) (z0:=z0) (z1:=z1) (z2:=z2) (z3:=z3) (z4:=z4) (z5:=z5) (z6:=z6) (z7:=z7) hs (bookH l h) (some (.dat (.int h.1))) (some (.dat (.int h.2.1))) (some (.dat (.int h.2.2))) (by omega)
  refine ⟨y2,y3,y4,?_⟩
  have gt:(dFind false (bkD l) [.inl h.1]).getD (.int 0)=.int ((l.lookup h.1).getD 0):=by
   rw [find_bk]
   cases l.lookup h.1 <;> rfl
  have st:=store_bk l h.1 ((l.lookup h.1).getD 0 + h.2.2 - h.2.1)
  have lk:(bkD l).length < sizeLine:=by rw [List.length_map]; omega
  have b:b_law_12 C [z0,z1,z2,z3,z4,z5,z6,z7,some (.own false (.m false (bkD l))),some (.dat (.int h.1)),some (.dat (.int h.2.1)),some (.dat (.int h.2.2))]=.nx [z0,z1,z2,z3,z4,z5,z6,z7,some (.own false (.m false (bkD (bookH l h)))),some (.dat (.int h.1)),some (.dat (.int h.2.1)),some (.dat (.int h.2.2))]:=by
   unfold bookH
   rw [<-st]
   generalize bkD l=kvs at gt lk ⊢
   simp [b_law_12,xDGet2,dGet2K,asM,keyG,keyOf,gt,sDPutF,dPutV,dPutK,lk]
  rw [List.map_cons,forGo,List.foldl_cons,<-e]
  simp [b]
theorem shaped_items (l:List (Int × Int)):SeqAt.shaped (.list (itemsD l))=true:=by
 have e:itemsD l=(TS.sortR (l.map fun p=>[p.1,p.2])).map irow:=by
  unfold itemsD
  apply List.map_congr_left
  intro p _
  simp [irow]
 rw [e]
 exact shaped_rows _
theorem law_true {C:Addr} {ns:List Int} (hn:ns.length<=63):f_law C [.scr ns]=.rt (.dat (.bool true)) []:=by
 have sz:1000 < sizeLine:=by decide
 obtain ⟨xs,t1,up,l10,mo,l1,h2⟩:=r_rows (ns:=ns) (t:=[]) (most:=10) hn (by simp) (by omega)
 simp only [List.length_nil] at l1
 have h2':f__law_rows [.scr ns,.own true (.l []),.dat (.int 10)]=.rt (.own false (.l (xs.map roD))) [.l t1]:=h2
 obtain ⟨k,k1,k2,h4⟩:=r_draw (ns:=ns) (t:=t1) (many:=120) hn (by omega) (by omega)
 have al:=r_all_holds (C:=C) up (by omega)
 have lh:=r_lholds up (by omega)
 have hb:=r_held_by (C:=C) up (by omega)
 have nb:=r_nobody (C:=C) (last:=k) up (by omega) ⟨by omega,by omega⟩
 have iv:Inv (walkW xs) 10000:=walk_inv xs up inv0 (fun x hx=>by have:=mo x hx; omega) (by omega)
 have as1:=(asc_rev (walkW xs).G iv.ch).1
 have af:Asc 0 (lastH (walkW xs)):=as1.filt
 have all:∀ h ∈ lastH (walkW xs),h.2.1 < h.2.2:=fun h hh=>by simpa using (List.mem_filter.mp hh).2
 have ll:=lastH_len xs
 obtain ⟨y6,y7,dg⟩:=days_go (C:=C) (z0:=some (.scr ns)) (z1:=some (.own false (.l (t1 ++ [.int 0])))) (z4:=some (.dat (.int k))) (z8:=none) (z9:=none) (z10:=none) (z11:=none) up (by omega) af all (k + 1).toNat (-1) none none (by omega) (by omega)
 rw [nob_start _ af,show (-1:Int) + 1=0 by omega,show (-1:Int) + ((k + 1).toNat:Int)=k by omega,List.map_nil] at dg
 have hr:rng1 [.int (k + 1)]=some (L3.intsFrom 0 (k + 1).toNat):=by simp only [rng1]; rw [if_pos (by simp; omega)]
 have sp:=ne_self (shaped_pr (nobG k 0 (endsH (lastH (walkW xs)) k)))
 obtain ⟨y9,y10,y11,bg⟩:=book_go (C:=C) (z0:=some (.scr ns)) (z1:=some (.own false (.l (t1 ++ [.int 0])))) (z2:=some (.dat (.list (xs.map roD)))) (z3:=some (.dat (.list ((lastH (walkW xs)).map hoD)))) (z4:=some (.dat (.int k))) (z5:=some (.dat (.list ((nobG k 0 (endsH (lastH (walkW xs)) k)).map prD)))) (z6:=y6) (z7:=y7) (lastH (walkW xs)) [] none none none (by simp; omega)
 have e0:bkD []=[]:=rfl
 rw [e0] at bg
 have si:=eq_self (shaped_items ((lastH (walkW xs)).foldl bookH []))
 have bl:=book_len (lastH (walkW xs)) []
 simp only [List.length_nil] at bl
 have h64:¬ 64<=((lastH (walkW xs)).foldl bookH []).length:=by omega
 have hp:=pairs_bk ((lastH (walkW xs)).foldl bookH [])
 have it:itemsD ((lastH (walkW xs)).foldl bookH [])=(TS.sortR (((lastH (walkW xs)).foldl bookH []).map fun p=>[p.1,p.2])).map fun r=>.tuple (r.map PyData.int):=rfl
 generalize (nobG k 0 (endsH (lastH (walkW xs)) k)).map prD=N at *
 generalize (lastH (walkW xs)).map hoD=D at *
 generalize (lastH (walkW xs)).foldl bookH []=B at *
 generalize bkD B=kvs at *
 generalize xs.map roD=G at *
 refine law_end (n:=11) ?_
 unfold m_law
 simp only [List.replicate]
 refine law_step (by simp [c_law_1] <;> rfl) ?_
 refine law_step (by simp [c_law_2,h2'] <;> rfl) ?_
 refine law_step (by simp [c_law_3,lh] <;> rfl) ?_
 refine law_step (by simp [c_law_4,h4] <;> rfl) ?_
 refine law_step (by simp [c_law_5] <;> rfl) ?_
 refine law_step (by simp [-rng1,c_law_9,hr,dg] <;> rfl) ?_
 refine law_step (by simp [c_law_10,nb,sp] <;> rfl) ?_
 refine law_step (by simp [c_law_11,xDNew] <;> rfl) ?_
 refine law_step (by simp [-gTup',-gCons',c_law_13,al,bg] <;> rfl) ?_
 rw [it] at hb si
 exact ⟨_,_,by simp [c_law_14,hb,xItems,asR,hp,h64,si] <;> exact ⟨rfl,rfl⟩⟩
end K3
namespace K3
open PySem PySem.Spec L2 L2.L3 PyProof.Rows
theorem scr_ok {K:PySem.W.Frag} {mg:Str->Option Value} {f:FM} {vs:List V} {H:Hp} {Q:VK} {E:XK} (hG:GH mg H) (hf:∀ ns:List Int,ns.length<=63->f [.scr ns]=.rt (.dat (.bool true)) []) (h:∃ a ns,vs=[.ref a]/\Scr K H a ns/\∀ H',Q (.bl true) H'):spF K mg f vs H Q E:=by
 obtain ⟨a,ns,rfl,hs,q⟩:=h
 refine ⟨hG,[.scr ns],[[]],[],.oth (fun _ z=>by cases z) (fun _ _ z=>by cases z) ⟨a,rfl,hs⟩ .nil,List.nodup_nil,fun b hb=>by simp at hb,?_⟩
 rw [hf ns hs.1]
 intro v H' fp fps' hv _ _
 rw [show v=.bl true from DV.bl_inv hv]
 exact q H'
noncomputable def spL (K:PySem.W.Frag):Sp:=fun vs H Q _=>∃ a ns,vs=[.ref a]/\Scr K H a ns/\∀ H',Q (.bl true) H'
theorem all_mk {l:PySem.W.OpenLaw} {w:World} {K:PySem.W.Frag} {h:Heap} {mg:Str->Option Value} {fa:Addr} (XK:K.In h) (G:h.Ns mainGlobals mg) (hfa:mg "law" = some (.ref fa))
  {C_:Addr}
  {f0_:Addr} {od0 an0:Option Addr} {sl0:Array (Option Value)} {oc0 kV0 dc0 pm0 cd0 ct0:Value}
  {f1_:Addr} {od1 an1:Option Addr} {sl1:Array (Option Value)} {oc1 kV1 dc1 pm1 cd1 ct1:Value}
  {f2_:Addr} {od2 an2:Option Addr} {sl2:Array (Option Value)} {oc2 kV2 dc2 pm2 cd2 ct2:Value}
  {f3_:Addr} {od3 an3:Option Addr} {sl3:Array (Option Value)} {oc3 kV3 dc3 pm3 cd3 ct3:Value}
  {f4_:Addr} {od4 an4:Option Addr} {sl4:Array (Option Value)} {oc4 kV4 dc4 pm4 cd4 ct4:Value}
  {f5_:Addr} {od5 an5:Option Addr} {sl5:Array (Option Value)} {oc5 kV5 dc5 pm5 cd5 ct5:Value}
  {f6_:Addr} {od6 an6:Option Addr} {sl6:Array (Option Value)} {oc6 kV6 dc6 pm6 cd6 ct6:Value}
  {f7_:Addr} {od7 an7:Option Addr} {sl7:Array (Option Value)} {oc7 kV7 dc7 pm7 cd7 ct7:Value}
  {f8_:Addr} {od8 an8:Option Addr} {sl8:Array (Option Value)} {oc8 kV8 dc8 pm8 cd8 ct8:Value}
  {f9_:Addr} {od9 an9:Option Addr} {sl9:Array (Option Value)} {oc9 kV9 dc9 pm9 cd9 ct9:Value}
  {f10_:Addr} {od10 an10:Option Addr} {sl10:Array (Option Value)} {oc10 kV10 dc10 pm10 cd10 ct10:Value}
  {f11_:Addr} {od11 an11:Option Addr} {sl11:Array (Option Value)} {oc11 kV11 dc11 pm11 cd11 ct11:Value}
  {f12_:Addr} {od12 an12:Option Addr} {sl12:Array (Option Value)} {oc12 kV12 dc12 pm12 cd12 ct12:Value}
  {f13_:Addr} {od13 an13:Option Addr} {sl13:Array (Option Value)} {oc13 kV13 dc13 pm13 cd13 ct13:Value}
  {f14_:Addr} {od14 an14:Option Addr} {sl14:Array (Option Value)} {oc14 kV14 dc14 pm14 cd14 ct14:Value}
  {f15_:Addr} {od15 an15:Option Addr} {sl15:Array (Option Value)} {oc15 kV15 dc15 pm15 cd15 ct15:Value}
  {f16_:Addr} {od16 an16:Option Addr} {sl16:Array (Option Value)} {oc16 kV16 dc16 pm16 cd16 ct16:Value}
  {f17_:Addr} {od17 an17:Option Addr} {sl17:Array (Option Value)} {oc17 kV17 dc17 pm17 cd17 ct17:Value}
  {f18_:Addr} {od18 an18:Option Addr} {sl18:Array (Option Value)} {oc18 kV18 dc18 pm18 cd18 ct18:Value}
  {f19_:Addr} {od19 an19:Option Addr} {sl19:Array (Option Value)} {oc19 kV19 dc19 pm19 cd19 ct19:Value}
  {f20_:Addr} {od20 an20:Option Addr} {sl20:Array (Option Value)} {oc20 kV20 dc20 pm20 cd20 ct20:Value}
  {f21_:Addr} {od21 an21:Option Addr} {sl21:Array (Option Value)} {oc21 kV21 dc21 pm21 cd21 ct21:Value}
  {f22_:Addr} {od22 an22:Option Addr} {sl22:Array (Option Value)} {oc22 kV22 dc22 pm22 cd22 ct22:Value}
  {f23_:Addr} {od23 an23:Option Addr} {sl23:Array (Option Value)} {oc23 kV23 dc23 pm23 cd23 ct23:Value}
  {f24_:Addr} {od24 an24:Option Addr} {sl24:Array (Option Value)} {oc24 kV24 dc24 pm24 cd24 ct24:Value}
  {f25_:Addr} {od25 an25:Option Addr} {sl25:Array (Option Value)} {oc25 kV25 dc25 pm25 cd25 ct25:Value}
  {f26_:Addr} {od26 an26:Option Addr} {sl26:Array (Option Value)} {oc26 kV26 dc26 pm26 cd26 ct26:Value}
  {f27_:Addr} {od27 an27:Option Addr} {sl27:Array (Option Value)} {oc27 kV27 dc27 pm27 cd27 ct27:Value}
  {f28_:Addr} {od28 an28:Option Addr} {sl28:Array (Option Value)} {oc28 kV28 dc28 pm28 cd28 ct28:Value}
  {f29_:Addr} {od29 an29:Option Addr} {sl29:Array (Option Value)} {oc29 kV29 dc29 pm29 cd29 ct29:Value}
  {f30_:Addr} {od30 an30:Option Addr} {sl30:Array (Option Value)} {oc30 kV30 dc30 pm30 cd30 ct30:Value}
  {f31_:Addr} {od31 an31:Option Addr} {sl31:Array (Option Value)} {oc31 kV31 dc31 pm31 cd31 ct31:Value}
  {f32_:Addr} {od32 an32:Option Addr} {sl32:Array (Option Value)} {oc32 kV32 dc32 pm32 cd32 ct32:Value}
  {f33_:Addr} {od33 an33:Option Addr} {sl33:Array (Option Value)} {oc33 kV33 dc33 pm33 cd33 ct33:Value}
  {f34_:Addr} {od34 an34:Option Addr} {sl34:Array (Option Value)} {oc34 kV34 dc34 pm34 cd34 ct34:Value}
  {f35_:Addr} {od35 an35:Option Addr} {sl35:Array (Option Value)} {oc35 kV35 dc35 pm35 cd35 ct35:Value}
  {f36_:Addr} {od36 an36:Option Addr} {sl36:Array (Option Value)} {oc36 kV36 dc36 pm36 cd36 ct36:Value}
  {f37_:Addr} {od37 an37:Option Addr} {sl37:Array (Option Value)} {oc37 kV37 dc37 pm37 cd37 ct37:Value}
  {f38_:Addr} {od38 an38:Option Addr} {sl38:Array (Option Value)} {oc38 kV38 dc38 pm38 cd38 ct38:Value}
  {f39_:Addr} {od39 an39:Option Addr} {sl39:Array (Option Value)} {oc39 kV39 dc39 pm39 cd39 ct39:Value}
  {t_LAST_MOMENT:Tok}
  {t_LEAST_AHEAD:Tok}
  {t_MOST_AHEAD:Tok}
  {t_MOST_SHIFTS:Tok}
  {t_MOST_DEEDS:Tok}
  {t_LAST_RUNNER:Tok}
  {t_MOST_TERM:Tok}
  {gd_LENGTHS:Addr} {ed_LENGTHS:Nat} {td_LENGTHS_0 ud_LENGTHS_0 td_LENGTHS_1 ud_LENGTHS_1 td_LENGTHS_2 ud_LENGTHS_2 td_LENGTHS_3 ud_LENGTHS_3:Tok}
  {D_:Addr}
  {g1 g2 g3:Addr} {u1 u2 u3:Option Addr} {tk0:Tok} {n1 n2 n3:Nat} {s1 s2 s3:Array (Option Value)}
  (v_ANY_ZONEq:PySem.W.nsIn K mainGlobals "ANY_ZONE" = some (some (.ref g1)))
  (w1q:K.lookup g1=some ⟨.type "tuple",u1,.seq #[.int 0 tk0,.ref g2] n1,s1⟩)
  (w2q:K.lookup g2=some ⟨.type "tuple",u2,.seq #[] n2,s2⟩)
  (v_NO_DEEDSq:PySem.W.nsIn K mainGlobals "NO_DEEDS" = some (some (.ref g3)))
  (w3q:K.lookup g3=some ⟨.type "tuple",u3,.seq #[] n3,s3⟩)
  (a_Hallq:PySem.W.nsIn K mainGlobals "Hall" = some (some (.ref C_)))
  (a_is_wholeq:PySem.W.nsIn K mainGlobals "is_whole" = some (some (.ref f0_)))
  (l_is_wholeq:K.lookup f0_=some ⟨oc0,od0,.func (PySem.W.fnOf "is_whole" "is_whole" (defArgs s_is_whole) (defBody s_is_whole) (defScope s_is_whole) .none kV0 dc0 pm0 an0 cd0 ct0),sl0⟩)
  (c_is_wholeq:PySem.W.codeIn K cd0 "is_whole" = true)
  (k_is_wholeq:PySem.W.keepIn K (.ref f0_)=true)
  (a_is_tuple_ofq:PySem.W.nsIn K mainGlobals "is_tuple_of" = some (some (.ref f1_)))
  (l_is_tuple_ofq:K.lookup f1_=some ⟨oc1,od1,.func (PySem.W.fnOf "is_tuple_of" "is_tuple_of" (defArgs s_is_tuple_of) (defBody s_is_tuple_of) (defScope s_is_tuple_of) .none kV1 dc1 pm1 an1 cd1 ct1),sl1⟩)
  (c_is_tuple_ofq:PySem.W.codeIn K cd1 "is_tuple_of" = true)
  (k_is_tuple_ofq:PySem.W.keepIn K (.ref f1_)=true)
  (a_is_aheadq:PySem.W.nsIn K mainGlobals "is_ahead" = some (some (.ref f2_)))
  (l_is_aheadq:K.lookup f2_=some ⟨oc2,od2,.func (PySem.W.fnOf "is_ahead" "is_ahead" (defArgs s_is_ahead) (defBody s_is_ahead) (defScope s_is_ahead) .none kV2 dc2 pm2 an2 cd2 ct2),sl2⟩)
  (c_is_aheadq:PySem.W.codeIn K cd2 "is_ahead" = true)
  (k_is_aheadq:PySem.W.keepIn K (.ref f2_)=true)
  (a_is_momentq:PySem.W.nsIn K mainGlobals "is_moment" = some (some (.ref f3_)))
  (l_is_momentq:K.lookup f3_=some ⟨oc3,od3,.func (PySem.W.fnOf "is_moment" "is_moment" (defArgs s_is_moment) (defBody s_is_moment) (defScope s_is_moment) .none kV3 dc3 pm3 an3 cd3 ct3),sl3⟩)
  (c_is_momentq:PySem.W.codeIn K cd3 "is_moment" = true)
  (k_is_momentq:PySem.W.keepIn K (.ref f3_)=true)
  (a_is_runnerq:PySem.W.nsIn K mainGlobals "is_runner" = some (some (.ref f4_)))
  (l_is_runnerq:K.lookup f4_=some ⟨oc4,od4,.func (PySem.W.fnOf "is_runner" "is_runner" (defArgs s_is_runner) (defBody s_is_runner) (defScope s_is_runner) .none kV4 dc4 pm4 an4 cd4 ct4),sl4⟩)
  (c_is_runnerq:PySem.W.codeIn K cd4 "is_runner" = true)
  (k_is_runnerq:PySem.W.keepIn K (.ref f4_)=true)
  (a_is_termq:PySem.W.nsIn K mainGlobals "is_term" = some (some (.ref f5_)))
  (l_is_termq:K.lookup f5_=some ⟨oc5,od5,.func (PySem.W.fnOf "is_term" "is_term" (defArgs s_is_term) (defBody s_is_term) (defScope s_is_term) .none kV5 dc5 pm5 an5 cd5 ct5),sl5⟩)
  (c_is_termq:PySem.W.codeIn K cd5 "is_term" = true)
  (k_is_termq:PySem.W.keepIn K (.ref f5_)=true)
  (a_are_shiftsq:PySem.W.nsIn K mainGlobals "are_shifts" = some (some (.ref f6_)))
  (l_are_shiftsq:K.lookup f6_=some ⟨oc6,od6,.func (PySem.W.fnOf "are_shifts" "are_shifts" (defArgs s_are_shifts) (defBody s_are_shifts) (defScope s_are_shifts) .none kV6 dc6 pm6 an6 cd6 ct6),sl6⟩)
  (c_are_shiftsq:PySem.W.codeIn K cd6 "are_shifts" = true)
  (k_are_shiftsq:PySem.W.keepIn K (.ref f6_)=true)
  (a_is_zoneq:PySem.W.nsIn K mainGlobals "is_zone" = some (some (.ref f7_)))
  (l_is_zoneq:K.lookup f7_=some ⟨oc7,od7,.func (PySem.W.fnOf "is_zone" "is_zone" (defArgs s_is_zone) (defBody s_is_zone) (defScope s_is_zone) .none kV7 dc7 pm7 an7 cd7 ct7),sl7⟩)
  (c_is_zoneq:PySem.W.codeIn K cd7 "is_zone" = true)
  (k_is_zoneq:PySem.W.keepIn K (.ref f7_)=true)
  (a_has_wordq:PySem.W.nsIn K mainGlobals "has_word" = some (some (.ref f8_)))
  (l_has_wordq:K.lookup f8_=some ⟨oc8,od8,.func (PySem.W.fnOf "has_word" "has_word" (defArgs s_has_word) (defBody s_has_word) (defScope s_has_word) .none kV8 dc8 pm8 an8 cd8 ct8),sl8⟩)
  (c_has_wordq:PySem.W.codeIn K cd8 "has_word" = true)
  (k_has_wordq:PySem.W.keepIn K (.ref f8_)=true)
  (a_are_deedsq:PySem.W.nsIn K mainGlobals "are_deeds" = some (some (.ref f9_)))
  (l_are_deedsq:K.lookup f9_=some ⟨oc9,od9,.func (PySem.W.fnOf "are_deeds" "are_deeds" (defArgs s_are_deeds) (defBody s_are_deeds) (defScope s_are_deeds) .none kV9 dc9 pm9 an9 cd9 ct9),sl9⟩)
  (c_are_deedsq:PySem.W.codeIn K cd9 "are_deeds" = true)
  (k_are_deedsq:PySem.W.keepIn K (.ref f9_)=true)
  (a_check_zoneq:PySem.W.nsIn K mainGlobals "check_zone" = some (some (.ref f10_)))
  (l_check_zoneq:K.lookup f10_=some ⟨oc10,od10,.func (PySem.W.fnOf "check_zone" "check_zone" (defArgs s_check_zone) (defBody s_check_zone) (defScope s_check_zone) .none kV10 dc10 pm10 an10 cd10 ct10),sl10⟩)
  (c_check_zoneq:PySem.W.codeIn K cd10 "check_zone" = true)
  (k_check_zoneq:PySem.W.keepIn K (.ref f10_)=true)
  (a_check_momentq:PySem.W.nsIn K mainGlobals "check_moment" = some (some (.ref f11_)))
  (l_check_momentq:K.lookup f11_=some ⟨oc11,od11,.func (PySem.W.fnOf "check_moment" "check_moment" (defArgs s_check_moment) (defBody s_check_moment) (defScope s_check_moment) .none kV11 dc11 pm11 an11 cd11 ct11),sl11⟩)
  (c_check_momentq:PySem.W.codeIn K cd11 "check_moment" = true)
  (k_check_momentq:PySem.W.keepIn K (.ref f11_)=true)
  (a_check_deedsq:PySem.W.nsIn K mainGlobals "check_deeds" = some (some (.ref f12_)))
  (l_check_deedsq:K.lookup f12_=some ⟨oc12,od12,.func (PySem.W.fnOf "check_deeds" "check_deeds" (defArgs s_check_deeds) (defBody s_check_deeds) (defScope s_check_deeds) .none kV12 dc12 pm12 an12 cd12 ct12),sl12⟩)
  (c_check_deedsq:PySem.W.codeIn K cd12 "check_deeds" = true)
  (k_check_deedsq:PySem.W.keepIn K (.ref f12_)=true)
  (a_check_runnerq:PySem.W.nsIn K mainGlobals "check_runner" = some (some (.ref f13_)))
  (l_check_runnerq:K.lookup f13_=some ⟨oc13,od13,.func (PySem.W.fnOf "check_runner" "check_runner" (defArgs s_check_runner) (defBody s_check_runner) (defScope s_check_runner) .none kV13 dc13 pm13 an13 cd13 ct13),sl13⟩)
  (c_check_runnerq:PySem.W.codeIn K cd13 "check_runner" = true)
  (k_check_runnerq:PySem.W.keepIn K (.ref f13_)=true)
  (a_check_termq:PySem.W.nsIn K mainGlobals "check_term" = some (some (.ref f14_)))
  (l_check_termq:K.lookup f14_=some ⟨oc14,od14,.func (PySem.W.fnOf "check_term" "check_term" (defArgs s_check_term) (defBody s_check_term) (defScope s_check_term) .none kV14 dc14 pm14 an14 cd14 ct14),sl14⟩)
  (c_check_termq:PySem.W.codeIn K cd14 "check_term" = true)
  (k_check_termq:PySem.W.keepIn K (.ref f14_)=true)
  (a_H___init__q:PySem.W.findIn K (.ref C_) "__init__" = some (some (.ref f15_)))
  (i_H___init__q:PySem.W.isFn K (.ref f15_)=true)
  (l_H___init__q:K.lookup f15_=some ⟨oc15,od15,.func (PySem.W.fnOf "__init__" "Hall.__init__" (defArgs s_H___init__) (defBody s_H___init__) (defScope s_H___init__) .none kV15 dc15 pm15 an15 cd15 ct15),sl15⟩)
  (c_H___init__q:PySem.W.codeIn K cd15 "Hall.__init__" = true)
  (k_H___init__q:PySem.W.keepIn K (.ref f15_)=true)
  (a_H_is_heldq:PySem.W.findIn K (.ref C_) "is_held" = some (some (.ref f16_)))
  (i_H_is_heldq:PySem.W.isFn K (.ref f16_)=true)
  (l_H_is_heldq:K.lookup f16_=some ⟨oc16,od16,.func (PySem.W.fnOf "is_held" "Hall.is_held" (defArgs s_H_is_held) (defBody s_H_is_held) (defScope s_H_is_held) .none kV16 dc16 pm16 an16 cd16 ct16),sl16⟩)
  (c_H_is_heldq:PySem.W.codeIn K cd16 "Hall.is_held" = true)
  (k_H_is_heldq:PySem.W.keepIn K (.ref f16_)=true)
  (a_H_check_callq:PySem.W.findIn K (.ref C_) "check_call" = some (some (.ref f17_)))
  (i_H_check_callq:PySem.W.isFn K (.ref f17_)=true)
  (l_H_check_callq:K.lookup f17_=some ⟨oc17,od17,.func (PySem.W.fnOf "check_call" "Hall.check_call" (defArgs s_H_check_call) (defBody s_H_check_call) (defScope s_H_check_call) .none kV17 dc17 pm17 an17 cd17 ct17),sl17⟩)
  (c_H_check_callq:PySem.W.codeIn K cd17 "Hall.check_call" = true)
  (k_H_check_callq:PySem.W.keepIn K (.ref f17_)=true)
  (a_H_check_holderq:PySem.W.findIn K (.ref C_) "check_holder" = some (some (.ref f18_)))
  (i_H_check_holderq:PySem.W.isFn K (.ref f18_)=true)
  (l_H_check_holderq:K.lookup f18_=some ⟨oc18,od18,.func (PySem.W.fnOf "check_holder" "Hall.check_holder" (defArgs s_H_check_holder) (defBody s_H_check_holder) (defScope s_H_check_holder) .none kV18 dc18 pm18 an18 cd18 ct18),sl18⟩)
  (c_H_check_holderq:PySem.W.codeIn K cd18 "Hall.check_holder" = true)
  (k_H_check_holderq:PySem.W.keepIn K (.ref f18_)=true)
  (a_H_takeq:PySem.W.findIn K (.ref C_) "take" = some (some (.ref f19_)))
  (i_H_takeq:PySem.W.isFn K (.ref f19_)=true)
  (l_H_takeq:K.lookup f19_=some ⟨oc19,od19,.func (PySem.W.fnOf "take" "Hall.take" (defArgs s_H_take) (defBody s_H_take) (defScope s_H_take) .none kV19 dc19 pm19 an19 cd19 ct19),sl19⟩)
  (c_H_takeq:PySem.W.codeIn K cd19 "Hall.take" = true)
  (k_H_takeq:PySem.W.keepIn K (.ref f19_)=true)
  (a_H_giveq:PySem.W.findIn K (.ref C_) "give" = some (some (.ref f20_)))
  (i_H_giveq:PySem.W.isFn K (.ref f20_)=true)
  (l_H_giveq:K.lookup f20_=some ⟨oc20,od20,.func (PySem.W.fnOf "give" "Hall.give" (defArgs s_H_give) (defBody s_H_give) (defScope s_H_give) .none kV20 dc20 pm20 an20 cd20 ct20),sl20⟩)
  (c_H_giveq:PySem.W.codeIn K cd20 "Hall.give" = true)
  (k_H_giveq:PySem.W.keepIn K (.ref f20_)=true)
  (a_H_heldq:PySem.W.findIn K (.ref C_) "held" = some (some (.ref f21_)))
  (i_H_heldq:PySem.W.isFn K (.ref f21_)=true)
  (l_H_heldq:K.lookup f21_=some ⟨oc21,od21,.func (PySem.W.fnOf "held" "Hall.held" (defArgs s_H_held) (defBody s_H_held) (defScope s_H_held) .none kV21 dc21 pm21 an21 cd21 ct21),sl21⟩)
  (c_H_heldq:PySem.W.codeIn K cd21 "Hall.held" = true)
  (k_H_heldq:PySem.W.keepIn K (.ref f21_)=true)
  (a_check_callq:PySem.W.nsIn K mainGlobals "check_call" = some (some (.ref f22_)))
  (l_check_callq:K.lookup f22_=some ⟨oc22,od22,.func (PySem.W.fnOf "check_call" "check_call" (defArgs s_check_call) (defBody s_check_call) (defScope s_check_call) .none kV22 dc22 pm22 an22 cd22 ct22),sl22⟩)
  (c_check_callq:PySem.W.codeIn K cd22 "check_call" = true)
  (k_check_callq:PySem.W.keepIn K (.ref f22_)=true)
  (a_askq:PySem.W.nsIn K mainGlobals "ask" = some (some (.ref f23_)))
  (l_askq:K.lookup f23_=some ⟨oc23,od23,.func (PySem.W.fnOf "ask" "ask" (defArgs s_ask) (defBody s_ask) (defScope s_ask) .none kV23 dc23 pm23 an23 cd23 ct23),sl23⟩)
  (c_askq:PySem.W.codeIn K cd23 "ask" = true)
  (k_askq:PySem.W.keepIn K (.ref f23_)=true)
  (a_doq:PySem.W.nsIn K mainGlobals "do" = some (some (.ref f24_)))
  (l_doq:K.lookup f24_=some ⟨oc24,od24,.func (PySem.W.fnOf "do" "do" (defArgs s_do) (defBody s_do) (defScope s_do) .none kV24 dc24 pm24 an24 cd24 ct24),sl24⟩)
  (c_doq:PySem.W.codeIn K cd24 "do" = true)
  (k_doq:PySem.W.keepIn K (.ref f24_)=true)
  (a_is_rowq:PySem.W.nsIn K mainGlobals "is_row" = some (some (.ref f25_)))
  (l_is_rowq:K.lookup f25_=some ⟨oc25,od25,.func (PySem.W.fnOf "is_row" "is_row" (defArgs s_is_row) (defBody s_is_row) (defScope s_is_row) .none kV25 dc25 pm25 an25 cd25 ct25),sl25⟩)
  (c_is_rowq:PySem.W.codeIn K cd25 "is_row" = true)
  (k_is_rowq:PySem.W.keepIn K (.ref f25_)=true)
  (a_check_rowsq:PySem.W.nsIn K mainGlobals "check_rows" = some (some (.ref f26_)))
  (l_check_rowsq:K.lookup f26_=some ⟨oc26,od26,.func (PySem.W.fnOf "check_rows" "check_rows" (defArgs s_check_rows) (defBody s_check_rows) (defScope s_check_rows) .none kV26 dc26 pm26 an26 cd26 ct26),sl26⟩)
  (c_check_rowsq:PySem.W.codeIn K cd26 "check_rows" = true)
  (k_check_rowsq:PySem.W.keepIn K (.ref f26_)=true)
  (a_walked_holdsq:PySem.W.nsIn K mainGlobals "walked_holds" = some (some (.ref f27_)))
  (l_walked_holdsq:K.lookup f27_=some ⟨oc27,od27,.func (PySem.W.fnOf "walked_holds" "walked_holds" (defArgs s_walked_holds) (defBody s_walked_holds) (defScope s_walked_holds) .none kV27 dc27 pm27 an27 cd27 ct27),sl27⟩)
  (c_walked_holdsq:PySem.W.codeIn K cd27 "walked_holds" = true)
  (k_walked_holdsq:PySem.W.keepIn K (.ref f27_)=true)
  (a_lasting_holdsq:PySem.W.nsIn K mainGlobals "lasting_holds" = some (some (.ref f28_)))
  (l_lasting_holdsq:K.lookup f28_=some ⟨oc28,od28,.func (PySem.W.fnOf "lasting_holds" "lasting_holds" (defArgs s_lasting_holds) (defBody s_lasting_holds) (defScope s_lasting_holds) .none kV28 dc28 pm28 an28 cd28 ct28),sl28⟩)
  (c_lasting_holdsq:PySem.W.codeIn K cd28 "lasting_holds" = true)
  (k_lasting_holdsq:PySem.W.keepIn K (.ref f28_)=true)
  (a_all_holdsq:PySem.W.nsIn K mainGlobals "all_holds" = some (some (.ref f29_)))
  (l_all_holdsq:K.lookup f29_=some ⟨oc29,od29,.func (PySem.W.fnOf "all_holds" "all_holds" (defArgs s_all_holds) (defBody s_all_holds) (defScope s_all_holds) .none kV29 dc29 pm29 an29 cd29 ct29),sl29⟩)
  (c_all_holdsq:PySem.W.codeIn K cd29 "all_holds" = true)
  (k_all_holdsq:PySem.W.keepIn K (.ref f29_)=true)
  (a_held_byq:PySem.W.nsIn K mainGlobals "held_by" = some (some (.ref f30_)))
  (l_held_byq:K.lookup f30_=some ⟨oc30,od30,.func (PySem.W.fnOf "held_by" "held_by" (defArgs s_held_by) (defBody s_held_by) (defScope s_held_by) .none kV30 dc30 pm30 an30 cd30 ct30),sl30⟩)
  (c_held_byq:PySem.W.codeIn K cd30 "held_by" = true)
  (k_held_byq:PySem.W.keepIn K (.ref f30_)=true)
  (a_holder_atq:PySem.W.nsIn K mainGlobals "holder_at" = some (some (.ref f31_)))
  (l_holder_atq:K.lookup f31_=some ⟨oc31,od31,.func (PySem.W.fnOf "holder_at" "holder_at" (defArgs s_holder_at) (defBody s_holder_at) (defScope s_holder_at) .none kV31 dc31 pm31 an31 cd31 ct31),sl31⟩)
  (c_holder_atq:PySem.W.codeIn K cd31 "holder_at" = true)
  (k_holder_atq:PySem.W.keepIn K (.ref f31_)=true)
  (a_nobodyq:PySem.W.nsIn K mainGlobals "nobody" = some (some (.ref f32_)))
  (l_nobodyq:K.lookup f32_=some ⟨oc32,od32,.func (PySem.W.fnOf "nobody" "nobody" (defArgs s_nobody) (defBody s_nobody) (defScope s_nobody) .none kV32 dc32 pm32 an32 cd32 ct32),sl32⟩)
  (c_nobodyq:PySem.W.codeIn K cd32 "nobody" = true)
  (k_nobodyq:PySem.W.keepIn K (.ref f32_)=true)
  (a__law_cell_atq:PySem.W.nsIn K mainGlobals "_law_cell_at" = some (some (.ref f33_)))
  (l__law_cell_atq:K.lookup f33_=some ⟨oc33,od33,.func (PySem.W.fnOf "_law_cell_at" "_law_cell_at" (defArgs s__law_cell_at) (defBody s__law_cell_at) (defScope s__law_cell_at) .none kV33 dc33 pm33 an33 cd33 ct33),sl33⟩)
  (c__law_cell_atq:PySem.W.codeIn K cd33 "_law_cell_at" = true)
  (k__law_cell_atq:PySem.W.keepIn K (.ref f33_)=true)
  (a__law_mixedq:PySem.W.nsIn K mainGlobals "_law_mixed" = some (some (.ref f34_)))
  (l__law_mixedq:K.lookup f34_=some ⟨oc34,od34,.func (PySem.W.fnOf "_law_mixed" "_law_mixed" (defArgs s__law_mixed) (defBody s__law_mixed) (defScope s__law_mixed) .none kV34 dc34 pm34 an34 cd34 ct34),sl34⟩)
  (c__law_mixedq:PySem.W.codeIn K cd34 "_law_mixed" = true)
  (k__law_mixedq:PySem.W.keepIn K (.ref f34_)=true)
  (a__law_drawq:PySem.W.nsIn K mainGlobals "_law_draw" = some (some (.ref f35_)))
  (l__law_drawq:K.lookup f35_=some ⟨oc35,od35,.func (PySem.W.fnOf "_law_draw" "_law_draw" (defArgs s__law_draw) (defBody s__law_draw) (defScope s__law_draw) .none kV35 dc35 pm35 an35 cd35 ct35),sl35⟩)
  (c__law_drawq:PySem.W.codeIn K cd35 "_law_draw" = true)
  (k__law_drawq:PySem.W.keepIn K (.ref f35_)=true)
  (a__law_pickq:PySem.W.nsIn K mainGlobals "_law_pick" = some (some (.ref f36_)))
  (l__law_pickq:K.lookup f36_=some ⟨oc36,od36,.func (PySem.W.fnOf "_law_pick" "_law_pick" (defArgs s__law_pick) (defBody s__law_pick) (defScope s__law_pick) .none kV36 dc36 pm36 an36 cd36 ct36),sl36⟩)
  (c__law_pickq:PySem.W.codeIn K cd36 "_law_pick" = true)
  (k__law_pickq:PySem.W.keepIn K (.ref f36_)=true)
  (a__law_rowsq:PySem.W.nsIn K mainGlobals "_law_rows" = some (some (.ref f37_)))
  (l__law_rowsq:K.lookup f37_=some ⟨oc37,od37,.func (PySem.W.fnOf "_law_rows" "_law_rows" (defArgs s__law_rows) (defBody s__law_rows) (defScope s__law_rows) .none kV37 dc37 pm37 an37 cd37 ct37),sl37⟩)
  (c__law_rowsq:PySem.W.codeIn K cd37 "_law_rows" = true)
  (k__law_rowsq:PySem.W.keepIn K (.ref f37_)=true)
  (a__law_holdsq:PySem.W.nsIn K mainGlobals "_law_holds" = some (some (.ref f38_)))
  (l__law_holdsq:K.lookup f38_=some ⟨oc38,od38,.func (PySem.W.fnOf "_law_holds" "_law_holds" (defArgs s__law_holds) (defBody s__law_holds) (defScope s__law_holds) .none kV38 dc38 pm38 an38 cd38 ct38),sl38⟩)
  (c__law_holdsq:PySem.W.codeIn K cd38 "_law_holds" = true)
  (k__law_holdsq:PySem.W.keepIn K (.ref f38_)=true)
  (a_lawq:PySem.W.nsIn K mainGlobals "law" = some (some (.ref f39_)))
  (l_lawq:K.lookup f39_=some ⟨oc39,od39,.func (PySem.W.fnOf "law" "law" (defArgs s_law) (defBody s_law) (defScope s_law) .none kV39 dc39 pm39 an39 cd39 ct39),sl39⟩)
  (c_lawq:PySem.W.codeIn K cd39 "law" = true)
  (k_lawq:PySem.W.keepIn K (.ref f39_)=true)
  (v_LAST_MOMENTq:PySem.W.nsIn K mainGlobals "LAST_MOMENT" = some (some (.int (9999) t_LAST_MOMENT)))
  (v_LEAST_AHEADq:PySem.W.nsIn K mainGlobals "LEAST_AHEAD" = some (some (.int (-12) t_LEAST_AHEAD)))
  (v_MOST_AHEADq:PySem.W.nsIn K mainGlobals "MOST_AHEAD" = some (some (.int (14) t_MOST_AHEAD)))
  (v_MOST_SHIFTSq:PySem.W.nsIn K mainGlobals "MOST_SHIFTS" = some (some (.int (6) t_MOST_SHIFTS)))
  (v_MOST_DEEDSq:PySem.W.nsIn K mainGlobals "MOST_DEEDS" = some (some (.int (6) t_MOST_DEEDS)))
  (v_LAST_RUNNERq:PySem.W.nsIn K mainGlobals "LAST_RUNNER" = some (some (.int (3) t_LAST_RUNNER)))
  (v_MOST_TERMq:PySem.W.nsIn K mainGlobals "MOST_TERM" = some (some (.int (99) t_MOST_TERM)))
  (v_LENGTHSq:PySem.W.nsIn K mainGlobals "LENGTHS" = some (some (.ref gd_LENGTHS)))
  (w_LENGTHSq:K.lookup gd_LENGTHS=some ⟨.type "dict",none,.dict #[⟨hashStr w "take",.str "take" td_LENGTHS_0,.int 4 ud_LENGTHS_0⟩,⟨hashStr w "give",.str "give" td_LENGTHS_1,.int 3 ud_LENGTHS_1⟩,⟨hashStr w "step",.str "step" td_LENGTHS_2,.int 3 ud_LENGTHS_2⟩,⟨hashStr w "finish",.str "finish" td_LENGTHS_3,.int 3 ud_LENGTHS_3⟩] ed_LENGTHS,#[]⟩)
  (z_allq:PySem.W.nsIn K mainGlobals "all" = some none)
  (z_anyq:PySem.W.nsIn K mainGlobals "any" = some none)
  (z_boolq:PySem.W.nsIn K mainGlobals "bool" = some none)
  (z_intq:PySem.W.nsIn K mainGlobals "int" = some none)
  (z_isinstanceq:PySem.W.nsIn K mainGlobals "isinstance" = some none)
  (z_lenq:PySem.W.nsIn K mainGlobals "len" = some none)
  (z_listq:PySem.W.nsIn K mainGlobals "list" = some none)
  (z_minq:PySem.W.nsIn K mainGlobals "min" = some none)
  (z_rangeq:PySem.W.nsIn K mainGlobals "range" = some none)
  (z_sortedq:PySem.W.nsIn K mainGlobals "sorted" = some none)
  (z_strq:PySem.W.nsIn K mainGlobals "str" = some none)
  (z_tupleq:PySem.W.nsIn K mainGlobals "tuple" = some none)
  (pg_q:PySem.W.plainGet K C_ Str.empty=true)
  (hd_q:PySem.W.hasDictIn K C_=true)
  (po_q:PySem.W.plainOver K C_=true)
  (sa_q:PySem.W.findIn K (.ref C_) "__setattr__" = some (some (.builtin "object.__setattr__")))
  (mks_q:PySem.W.makesIn K C_=true)
  (kpC_q:PySem.W.keepIn K (.ref C_)=true)
  (n_begunq:PySem.W.findIn K (.ref C_) "begun" = some none)
  (n_deedsq:PySem.W.findIn K (.ref C_) "deeds" = some none)
  (n_holderq:PySem.W.findIn K (.ref C_) "holder" = some none)
  (n_holdsq:PySem.W.findIn K (.ref C_) "holds" = some none)
  (n_lastq:PySem.W.findIn K (.ref C_) "last" = some none)
  (n_rowsq:PySem.W.findIn K (.ref C_) "rows" = some none)
  (n_settledq:PySem.W.findIn K (.ref C_) "settled" = some none)
  (n_untilq:PySem.W.findIn K (.ref C_) "until" = some none)
  (n_wordsq:PySem.W.findIn K (.ref C_) "words" = some none)
  (n_zoneq:PySem.W.findIn K (.ref C_) "zone" = some none)
  (a_Dueq:PySem.W.nsIn K mainGlobals "DueError" = some (some (.ref D_)))
  (v_ANY_ZONE:PySem.W.nsIn (dropA [g1,g2,g3] K) mainGlobals "ANY_ZONE" = some (some (.ref g1)))
  (v_NO_DEEDS:PySem.W.nsIn (dropA [g1,g2,g3] K) mainGlobals "NO_DEEDS" = some (some (.ref g3)))
  (a_Hall:PySem.W.nsIn (dropA [g1,g2,g3] K) mainGlobals "Hall" = some (some (.ref C_)))
  (a0:PySem.W.nsIn (dropA [g1,g2,g3] K) mainGlobals "is_whole" = some (some (.ref f0_)))
  (l0:(dropA [g1,g2,g3] K).lookup f0_=some ⟨oc0,od0,.func (PySem.W.fnOf "is_whole" "is_whole" (defArgs s_is_whole) (defBody s_is_whole) (defScope s_is_whole) .none kV0 dc0 pm0 an0 cd0 ct0),sl0⟩)
  (c0:PySem.W.codeIn (dropA [g1,g2,g3] K) cd0 "is_whole" = true)
  (k0:PySem.W.keepIn (dropA [g1,g2,g3] K) (.ref f0_)=true)
  (a1:PySem.W.nsIn (dropA [g1,g2,g3] K) mainGlobals "is_tuple_of" = some (some (.ref f1_)))
  (l1:(dropA [g1,g2,g3] K).lookup f1_=some ⟨oc1,od1,.func (PySem.W.fnOf "is_tuple_of" "is_tuple_of" (defArgs s_is_tuple_of) (defBody s_is_tuple_of) (defScope s_is_tuple_of) .none kV1 dc1 pm1 an1 cd1 ct1),sl1⟩)
  (c1:PySem.W.codeIn (dropA [g1,g2,g3] K) cd1 "is_tuple_of" = true)
  (k1:PySem.W.keepIn (dropA [g1,g2,g3] K) (.ref f1_)=true)
  (a2:PySem.W.nsIn (dropA [g1,g2,g3] K) mainGlobals "is_ahead" = some (some (.ref f2_)))
  (l2:(dropA [g1,g2,g3] K).lookup f2_=some ⟨oc2,od2,.func (PySem.W.fnOf "is_ahead" "is_ahead" (defArgs s_is_ahead) (defBody s_is_ahead) (defScope s_is_ahead) .none kV2 dc2 pm2 an2 cd2 ct2),sl2⟩)
  (c2:PySem.W.codeIn (dropA [g1,g2,g3] K) cd2 "is_ahead" = true)
  (k2:PySem.W.keepIn (dropA [g1,g2,g3] K) (.ref f2_)=true)
  (a3:PySem.W.nsIn (dropA [g1,g2,g3] K) mainGlobals "is_moment" = some (some (.ref f3_)))
  (l3:(dropA [g1,g2,g3] K).lookup f3_=some ⟨oc3,od3,.func (PySem.W.fnOf "is_moment" "is_moment" (defArgs s_is_moment) (defBody s_is_moment) (defScope s_is_moment) .none kV3 dc3 pm3 an3 cd3 ct3),sl3⟩)
  (c3:PySem.W.codeIn (dropA [g1,g2,g3] K) cd3 "is_moment" = true)
  (k3:PySem.W.keepIn (dropA [g1,g2,g3] K) (.ref f3_)=true)
  (a4:PySem.W.nsIn (dropA [g1,g2,g3] K) mainGlobals "is_runner" = some (some (.ref f4_)))
  (l4:(dropA [g1,g2,g3] K).lookup f4_=some ⟨oc4,od4,.func (PySem.W.fnOf "is_runner" "is_runner" (defArgs s_is_runner) (defBody s_is_runner) (defScope s_is_runner) .none kV4 dc4 pm4 an4 cd4 ct4),sl4⟩)
  (c4:PySem.W.codeIn (dropA [g1,g2,g3] K) cd4 "is_runner" = true)
  (k4:PySem.W.keepIn (dropA [g1,g2,g3] K) (.ref f4_)=true)
  (a5:PySem.W.nsIn (dropA [g1,g2,g3] K) mainGlobals "is_term" = some (some (.ref f5_)))
  (l5:(dropA [g1,g2,g3] K).lookup f5_=some ⟨oc5,od5,.func (PySem.W.fnOf "is_term" "is_term" (defArgs s_is_term) (defBody s_is_term) (defScope s_is_term) .none kV5 dc5 pm5 an5 cd5 ct5),sl5⟩)
  (c5:PySem.W.codeIn (dropA [g1,g2,g3] K) cd5 "is_term" = true)
  (k5:PySem.W.keepIn (dropA [g1,g2,g3] K) (.ref f5_)=true)
  (a6:PySem.W.nsIn (dropA [g1,g2,g3] K) mainGlobals "are_shifts" = some (some (.ref f6_)))
  (l6:(dropA [g1,g2,g3] K).lookup f6_=some ⟨oc6,od6,.func (PySem.W.fnOf "are_shifts" "are_shifts" (defArgs s_are_shifts) (defBody s_are_shifts) (defScope s_are_shifts) .none kV6 dc6 pm6 an6 cd6 ct6),sl6⟩)
  (c6:PySem.W.codeIn (dropA [g1,g2,g3] K) cd6 "are_shifts" = true)
  (k6:PySem.W.keepIn (dropA [g1,g2,g3] K) (.ref f6_)=true)
  (a7:PySem.W.nsIn (dropA [g1,g2,g3] K) mainGlobals "is_zone" = some (some (.ref f7_)))
  (l7:(dropA [g1,g2,g3] K).lookup f7_=some ⟨oc7,od7,.func (PySem.W.fnOf "is_zone" "is_zone" (defArgs s_is_zone) (defBody s_is_zone) (defScope s_is_zone) .none kV7 dc7 pm7 an7 cd7 ct7),sl7⟩)
  (c7:PySem.W.codeIn (dropA [g1,g2,g3] K) cd7 "is_zone" = true)
  (k7:PySem.W.keepIn (dropA [g1,g2,g3] K) (.ref f7_)=true)
  (a8:PySem.W.nsIn (dropA [g1,g2,g3] K) mainGlobals "has_word" = some (some (.ref f8_)))
  (l8:(dropA [g1,g2,g3] K).lookup f8_=some ⟨oc8,od8,.func (PySem.W.fnOf "has_word" "has_word" (defArgs s_has_word) (defBody s_has_word) (defScope s_has_word) .none kV8 dc8 pm8 an8 cd8 ct8),sl8⟩)
  (c8:PySem.W.codeIn (dropA [g1,g2,g3] K) cd8 "has_word" = true)
  (k8:PySem.W.keepIn (dropA [g1,g2,g3] K) (.ref f8_)=true)
  (a9:PySem.W.nsIn (dropA [g1,g2,g3] K) mainGlobals "are_deeds" = some (some (.ref f9_)))
  (l9:(dropA [g1,g2,g3] K).lookup f9_=some ⟨oc9,od9,.func (PySem.W.fnOf "are_deeds" "are_deeds" (defArgs s_are_deeds) (defBody s_are_deeds) (defScope s_are_deeds) .none kV9 dc9 pm9 an9 cd9 ct9),sl9⟩)
  (c9:PySem.W.codeIn (dropA [g1,g2,g3] K) cd9 "are_deeds" = true)
  (k9:PySem.W.keepIn (dropA [g1,g2,g3] K) (.ref f9_)=true)
  (a10:PySem.W.nsIn (dropA [g1,g2,g3] K) mainGlobals "check_zone" = some (some (.ref f10_)))
  (l10:(dropA [g1,g2,g3] K).lookup f10_=some ⟨oc10,od10,.func (PySem.W.fnOf "check_zone" "check_zone" (defArgs s_check_zone) (defBody s_check_zone) (defScope s_check_zone) .none kV10 dc10 pm10 an10 cd10 ct10),sl10⟩)
  (c10:PySem.W.codeIn (dropA [g1,g2,g3] K) cd10 "check_zone" = true)
  (k10:PySem.W.keepIn (dropA [g1,g2,g3] K) (.ref f10_)=true)
  (a11:PySem.W.nsIn (dropA [g1,g2,g3] K) mainGlobals "check_moment" = some (some (.ref f11_)))
  (l11:(dropA [g1,g2,g3] K).lookup f11_=some ⟨oc11,od11,.func (PySem.W.fnOf "check_moment" "check_moment" (defArgs s_check_moment) (defBody s_check_moment) (defScope s_check_moment) .none kV11 dc11 pm11 an11 cd11 ct11),sl11⟩)
  (c11:PySem.W.codeIn (dropA [g1,g2,g3] K) cd11 "check_moment" = true)
  (k11:PySem.W.keepIn (dropA [g1,g2,g3] K) (.ref f11_)=true)
  (a12:PySem.W.nsIn (dropA [g1,g2,g3] K) mainGlobals "check_deeds" = some (some (.ref f12_)))
  (l12:(dropA [g1,g2,g3] K).lookup f12_=some ⟨oc12,od12,.func (PySem.W.fnOf "check_deeds" "check_deeds" (defArgs s_check_deeds) (defBody s_check_deeds) (defScope s_check_deeds) .none kV12 dc12 pm12 an12 cd12 ct12),sl12⟩)
  (c12:PySem.W.codeIn (dropA [g1,g2,g3] K) cd12 "check_deeds" = true)
  (k12:PySem.W.keepIn (dropA [g1,g2,g3] K) (.ref f12_)=true)
  (a13:PySem.W.nsIn (dropA [g1,g2,g3] K) mainGlobals "check_runner" = some (some (.ref f13_)))
  (l13:(dropA [g1,g2,g3] K).lookup f13_=some ⟨oc13,od13,.func (PySem.W.fnOf "check_runner" "check_runner" (defArgs s_check_runner) (defBody s_check_runner) (defScope s_check_runner) .none kV13 dc13 pm13 an13 cd13 ct13),sl13⟩)
  (c13:PySem.W.codeIn (dropA [g1,g2,g3] K) cd13 "check_runner" = true)
  (k13:PySem.W.keepIn (dropA [g1,g2,g3] K) (.ref f13_)=true)
  (a14:PySem.W.nsIn (dropA [g1,g2,g3] K) mainGlobals "check_term" = some (some (.ref f14_)))
  (l14:(dropA [g1,g2,g3] K).lookup f14_=some ⟨oc14,od14,.func (PySem.W.fnOf "check_term" "check_term" (defArgs s_check_term) (defBody s_check_term) (defScope s_check_term) .none kV14 dc14 pm14 an14 cd14 ct14),sl14⟩)
  (c14:PySem.W.codeIn (dropA [g1,g2,g3] K) cd14 "check_term" = true)
  (k14:PySem.W.keepIn (dropA [g1,g2,g3] K) (.ref f14_)=true)
  (a15:PySem.W.findIn (dropA [g1,g2,g3] K) (.ref C_) "__init__" = some (some (.ref f15_)))
  (i15:PySem.W.isFn (dropA [g1,g2,g3] K) (.ref f15_)=true)
  (l15:(dropA [g1,g2,g3] K).lookup f15_=some ⟨oc15,od15,.func (PySem.W.fnOf "__init__" "Hall.__init__" (defArgs s_H___init__) (defBody s_H___init__) (defScope s_H___init__) .none kV15 dc15 pm15 an15 cd15 ct15),sl15⟩)
  (c15:PySem.W.codeIn (dropA [g1,g2,g3] K) cd15 "Hall.__init__" = true)
  (k15:PySem.W.keepIn (dropA [g1,g2,g3] K) (.ref f15_)=true)
  (a16:PySem.W.findIn (dropA [g1,g2,g3] K) (.ref C_) "is_held" = some (some (.ref f16_)))
  (i16:PySem.W.isFn (dropA [g1,g2,g3] K) (.ref f16_)=true)
  (l16:(dropA [g1,g2,g3] K).lookup f16_=some ⟨oc16,od16,.func (PySem.W.fnOf "is_held" "Hall.is_held" (defArgs s_H_is_held) (defBody s_H_is_held) (defScope s_H_is_held) .none kV16 dc16 pm16 an16 cd16 ct16),sl16⟩)
  (c16:PySem.W.codeIn (dropA [g1,g2,g3] K) cd16 "Hall.is_held" = true)
  (k16:PySem.W.keepIn (dropA [g1,g2,g3] K) (.ref f16_)=true)
  (a17:PySem.W.findIn (dropA [g1,g2,g3] K) (.ref C_) "check_call" = some (some (.ref f17_)))
  (i17:PySem.W.isFn (dropA [g1,g2,g3] K) (.ref f17_)=true)
  (l17:(dropA [g1,g2,g3] K).lookup f17_=some ⟨oc17,od17,.func (PySem.W.fnOf "check_call" "Hall.check_call" (defArgs s_H_check_call) (defBody s_H_check_call) (defScope s_H_check_call) .none kV17 dc17 pm17 an17 cd17 ct17),sl17⟩)
  (c17:PySem.W.codeIn (dropA [g1,g2,g3] K) cd17 "Hall.check_call" = true)
  (k17:PySem.W.keepIn (dropA [g1,g2,g3] K) (.ref f17_)=true)
  (a18:PySem.W.findIn (dropA [g1,g2,g3] K) (.ref C_) "check_holder" = some (some (.ref f18_)))
  (i18:PySem.W.isFn (dropA [g1,g2,g3] K) (.ref f18_)=true)
  (l18:(dropA [g1,g2,g3] K).lookup f18_=some ⟨oc18,od18,.func (PySem.W.fnOf "check_holder" "Hall.check_holder" (defArgs s_H_check_holder) (defBody s_H_check_holder) (defScope s_H_check_holder) .none kV18 dc18 pm18 an18 cd18 ct18),sl18⟩)
  (c18:PySem.W.codeIn (dropA [g1,g2,g3] K) cd18 "Hall.check_holder" = true)
  (k18:PySem.W.keepIn (dropA [g1,g2,g3] K) (.ref f18_)=true)
  (a19:PySem.W.findIn (dropA [g1,g2,g3] K) (.ref C_) "take" = some (some (.ref f19_)))
  (i19:PySem.W.isFn (dropA [g1,g2,g3] K) (.ref f19_)=true)
  (l19:(dropA [g1,g2,g3] K).lookup f19_=some ⟨oc19,od19,.func (PySem.W.fnOf "take" "Hall.take" (defArgs s_H_take) (defBody s_H_take) (defScope s_H_take) .none kV19 dc19 pm19 an19 cd19 ct19),sl19⟩)
  (c19:PySem.W.codeIn (dropA [g1,g2,g3] K) cd19 "Hall.take" = true)
  (k19:PySem.W.keepIn (dropA [g1,g2,g3] K) (.ref f19_)=true)
  (a20:PySem.W.findIn (dropA [g1,g2,g3] K) (.ref C_) "give" = some (some (.ref f20_)))
  (i20:PySem.W.isFn (dropA [g1,g2,g3] K) (.ref f20_)=true)
  (l20:(dropA [g1,g2,g3] K).lookup f20_=some ⟨oc20,od20,.func (PySem.W.fnOf "give" "Hall.give" (defArgs s_H_give) (defBody s_H_give) (defScope s_H_give) .none kV20 dc20 pm20 an20 cd20 ct20),sl20⟩)
  (c20:PySem.W.codeIn (dropA [g1,g2,g3] K) cd20 "Hall.give" = true)
  (k20:PySem.W.keepIn (dropA [g1,g2,g3] K) (.ref f20_)=true)
  (a21:PySem.W.findIn (dropA [g1,g2,g3] K) (.ref C_) "held" = some (some (.ref f21_)))
  (i21:PySem.W.isFn (dropA [g1,g2,g3] K) (.ref f21_)=true)
  (l21:(dropA [g1,g2,g3] K).lookup f21_=some ⟨oc21,od21,.func (PySem.W.fnOf "held" "Hall.held" (defArgs s_H_held) (defBody s_H_held) (defScope s_H_held) .none kV21 dc21 pm21 an21 cd21 ct21),sl21⟩)
  (c21:PySem.W.codeIn (dropA [g1,g2,g3] K) cd21 "Hall.held" = true)
  (k21:PySem.W.keepIn (dropA [g1,g2,g3] K) (.ref f21_)=true)
  (a22:PySem.W.nsIn (dropA [g1,g2,g3] K) mainGlobals "check_call" = some (some (.ref f22_)))
  (l22:(dropA [g1,g2,g3] K).lookup f22_=some ⟨oc22,od22,.func (PySem.W.fnOf "check_call" "check_call" (defArgs s_check_call) (defBody s_check_call) (defScope s_check_call) .none kV22 dc22 pm22 an22 cd22 ct22),sl22⟩)
  (c22:PySem.W.codeIn (dropA [g1,g2,g3] K) cd22 "check_call" = true)
  (k22:PySem.W.keepIn (dropA [g1,g2,g3] K) (.ref f22_)=true)
  (a23:PySem.W.nsIn (dropA [g1,g2,g3] K) mainGlobals "ask" = some (some (.ref f23_)))
  (l23:(dropA [g1,g2,g3] K).lookup f23_=some ⟨oc23,od23,.func (PySem.W.fnOf "ask" "ask" (defArgs s_ask) (defBody s_ask) (defScope s_ask) .none kV23 dc23 pm23 an23 cd23 ct23),sl23⟩)
  (c23:PySem.W.codeIn (dropA [g1,g2,g3] K) cd23 "ask" = true)
  (k23:PySem.W.keepIn (dropA [g1,g2,g3] K) (.ref f23_)=true)
  (a24:PySem.W.nsIn (dropA [g1,g2,g3] K) mainGlobals "do" = some (some (.ref f24_)))
  (l24:(dropA [g1,g2,g3] K).lookup f24_=some ⟨oc24,od24,.func (PySem.W.fnOf "do" "do" (defArgs s_do) (defBody s_do) (defScope s_do) .none kV24 dc24 pm24 an24 cd24 ct24),sl24⟩)
  (c24:PySem.W.codeIn (dropA [g1,g2,g3] K) cd24 "do" = true)
  (k24:PySem.W.keepIn (dropA [g1,g2,g3] K) (.ref f24_)=true)
  (a25:PySem.W.nsIn (dropA [g1,g2,g3] K) mainGlobals "is_row" = some (some (.ref f25_)))
  (l25:(dropA [g1,g2,g3] K).lookup f25_=some ⟨oc25,od25,.func (PySem.W.fnOf "is_row" "is_row" (defArgs s_is_row) (defBody s_is_row) (defScope s_is_row) .none kV25 dc25 pm25 an25 cd25 ct25),sl25⟩)
  (c25:PySem.W.codeIn (dropA [g1,g2,g3] K) cd25 "is_row" = true)
  (k25:PySem.W.keepIn (dropA [g1,g2,g3] K) (.ref f25_)=true)
  (a26:PySem.W.nsIn (dropA [g1,g2,g3] K) mainGlobals "check_rows" = some (some (.ref f26_)))
  (l26:(dropA [g1,g2,g3] K).lookup f26_=some ⟨oc26,od26,.func (PySem.W.fnOf "check_rows" "check_rows" (defArgs s_check_rows) (defBody s_check_rows) (defScope s_check_rows) .none kV26 dc26 pm26 an26 cd26 ct26),sl26⟩)
  (c26:PySem.W.codeIn (dropA [g1,g2,g3] K) cd26 "check_rows" = true)
  (k26:PySem.W.keepIn (dropA [g1,g2,g3] K) (.ref f26_)=true)
  (a27:PySem.W.nsIn (dropA [g1,g2,g3] K) mainGlobals "walked_holds" = some (some (.ref f27_)))
  (l27:(dropA [g1,g2,g3] K).lookup f27_=some ⟨oc27,od27,.func (PySem.W.fnOf "walked_holds" "walked_holds" (defArgs s_walked_holds) (defBody s_walked_holds) (defScope s_walked_holds) .none kV27 dc27 pm27 an27 cd27 ct27),sl27⟩)
  (c27:PySem.W.codeIn (dropA [g1,g2,g3] K) cd27 "walked_holds" = true)
  (k27:PySem.W.keepIn (dropA [g1,g2,g3] K) (.ref f27_)=true)
  (a28:PySem.W.nsIn (dropA [g1,g2,g3] K) mainGlobals "lasting_holds" = some (some (.ref f28_)))
  (l28:(dropA [g1,g2,g3] K).lookup f28_=some ⟨oc28,od28,.func (PySem.W.fnOf "lasting_holds" "lasting_holds" (defArgs s_lasting_holds) (defBody s_lasting_holds) (defScope s_lasting_holds) .none kV28 dc28 pm28 an28 cd28 ct28),sl28⟩)
  (c28:PySem.W.codeIn (dropA [g1,g2,g3] K) cd28 "lasting_holds" = true)
  (k28:PySem.W.keepIn (dropA [g1,g2,g3] K) (.ref f28_)=true)
  (a29:PySem.W.nsIn (dropA [g1,g2,g3] K) mainGlobals "all_holds" = some (some (.ref f29_)))
  (l29:(dropA [g1,g2,g3] K).lookup f29_=some ⟨oc29,od29,.func (PySem.W.fnOf "all_holds" "all_holds" (defArgs s_all_holds) (defBody s_all_holds) (defScope s_all_holds) .none kV29 dc29 pm29 an29 cd29 ct29),sl29⟩)
  (c29:PySem.W.codeIn (dropA [g1,g2,g3] K) cd29 "all_holds" = true)
  (k29:PySem.W.keepIn (dropA [g1,g2,g3] K) (.ref f29_)=true)
  (a30:PySem.W.nsIn (dropA [g1,g2,g3] K) mainGlobals "held_by" = some (some (.ref f30_)))
  (l30:(dropA [g1,g2,g3] K).lookup f30_=some ⟨oc30,od30,.func (PySem.W.fnOf "held_by" "held_by" (defArgs s_held_by) (defBody s_held_by) (defScope s_held_by) .none kV30 dc30 pm30 an30 cd30 ct30),sl30⟩)
  (c30:PySem.W.codeIn (dropA [g1,g2,g3] K) cd30 "held_by" = true)
  (k30:PySem.W.keepIn (dropA [g1,g2,g3] K) (.ref f30_)=true)
  (a31:PySem.W.nsIn (dropA [g1,g2,g3] K) mainGlobals "holder_at" = some (some (.ref f31_)))
  (l31:(dropA [g1,g2,g3] K).lookup f31_=some ⟨oc31,od31,.func (PySem.W.fnOf "holder_at" "holder_at" (defArgs s_holder_at) (defBody s_holder_at) (defScope s_holder_at) .none kV31 dc31 pm31 an31 cd31 ct31),sl31⟩)
  (c31:PySem.W.codeIn (dropA [g1,g2,g3] K) cd31 "holder_at" = true)
  (k31:PySem.W.keepIn (dropA [g1,g2,g3] K) (.ref f31_)=true)
  (a32:PySem.W.nsIn (dropA [g1,g2,g3] K) mainGlobals "nobody" = some (some (.ref f32_)))
  (l32:(dropA [g1,g2,g3] K).lookup f32_=some ⟨oc32,od32,.func (PySem.W.fnOf "nobody" "nobody" (defArgs s_nobody) (defBody s_nobody) (defScope s_nobody) .none kV32 dc32 pm32 an32 cd32 ct32),sl32⟩)
  (c32:PySem.W.codeIn (dropA [g1,g2,g3] K) cd32 "nobody" = true)
  (k32:PySem.W.keepIn (dropA [g1,g2,g3] K) (.ref f32_)=true)
  (a33:PySem.W.nsIn (dropA [g1,g2,g3] K) mainGlobals "_law_cell_at" = some (some (.ref f33_)))
  (l33:(dropA [g1,g2,g3] K).lookup f33_=some ⟨oc33,od33,.func (PySem.W.fnOf "_law_cell_at" "_law_cell_at" (defArgs s__law_cell_at) (defBody s__law_cell_at) (defScope s__law_cell_at) .none kV33 dc33 pm33 an33 cd33 ct33),sl33⟩)
  (c33:PySem.W.codeIn (dropA [g1,g2,g3] K) cd33 "_law_cell_at" = true)
  (k33:PySem.W.keepIn (dropA [g1,g2,g3] K) (.ref f33_)=true)
  (a34:PySem.W.nsIn (dropA [g1,g2,g3] K) mainGlobals "_law_mixed" = some (some (.ref f34_)))
  (l34:(dropA [g1,g2,g3] K).lookup f34_=some ⟨oc34,od34,.func (PySem.W.fnOf "_law_mixed" "_law_mixed" (defArgs s__law_mixed) (defBody s__law_mixed) (defScope s__law_mixed) .none kV34 dc34 pm34 an34 cd34 ct34),sl34⟩)
  (c34:PySem.W.codeIn (dropA [g1,g2,g3] K) cd34 "_law_mixed" = true)
  (k34:PySem.W.keepIn (dropA [g1,g2,g3] K) (.ref f34_)=true)
  (a35:PySem.W.nsIn (dropA [g1,g2,g3] K) mainGlobals "_law_draw" = some (some (.ref f35_)))
  (l35:(dropA [g1,g2,g3] K).lookup f35_=some ⟨oc35,od35,.func (PySem.W.fnOf "_law_draw" "_law_draw" (defArgs s__law_draw) (defBody s__law_draw) (defScope s__law_draw) .none kV35 dc35 pm35 an35 cd35 ct35),sl35⟩)
  (c35:PySem.W.codeIn (dropA [g1,g2,g3] K) cd35 "_law_draw" = true)
  (k35:PySem.W.keepIn (dropA [g1,g2,g3] K) (.ref f35_)=true)
  (a36:PySem.W.nsIn (dropA [g1,g2,g3] K) mainGlobals "_law_pick" = some (some (.ref f36_)))
  (l36:(dropA [g1,g2,g3] K).lookup f36_=some ⟨oc36,od36,.func (PySem.W.fnOf "_law_pick" "_law_pick" (defArgs s__law_pick) (defBody s__law_pick) (defScope s__law_pick) .none kV36 dc36 pm36 an36 cd36 ct36),sl36⟩)
  (c36:PySem.W.codeIn (dropA [g1,g2,g3] K) cd36 "_law_pick" = true)
  (k36:PySem.W.keepIn (dropA [g1,g2,g3] K) (.ref f36_)=true)
  (a37:PySem.W.nsIn (dropA [g1,g2,g3] K) mainGlobals "_law_rows" = some (some (.ref f37_)))
  (l37:(dropA [g1,g2,g3] K).lookup f37_=some ⟨oc37,od37,.func (PySem.W.fnOf "_law_rows" "_law_rows" (defArgs s__law_rows) (defBody s__law_rows) (defScope s__law_rows) .none kV37 dc37 pm37 an37 cd37 ct37),sl37⟩)
  (c37:PySem.W.codeIn (dropA [g1,g2,g3] K) cd37 "_law_rows" = true)
  (k37:PySem.W.keepIn (dropA [g1,g2,g3] K) (.ref f37_)=true)
  (a38:PySem.W.nsIn (dropA [g1,g2,g3] K) mainGlobals "_law_holds" = some (some (.ref f38_)))
  (l38:(dropA [g1,g2,g3] K).lookup f38_=some ⟨oc38,od38,.func (PySem.W.fnOf "_law_holds" "_law_holds" (defArgs s__law_holds) (defBody s__law_holds) (defScope s__law_holds) .none kV38 dc38 pm38 an38 cd38 ct38),sl38⟩)
  (c38:PySem.W.codeIn (dropA [g1,g2,g3] K) cd38 "_law_holds" = true)
  (k38:PySem.W.keepIn (dropA [g1,g2,g3] K) (.ref f38_)=true)
  (a39:PySem.W.nsIn (dropA [g1,g2,g3] K) mainGlobals "law" = some (some (.ref f39_)))
  (l39:(dropA [g1,g2,g3] K).lookup f39_=some ⟨oc39,od39,.func (PySem.W.fnOf "law" "law" (defArgs s_law) (defBody s_law) (defScope s_law) .none kV39 dc39 pm39 an39 cd39 ct39),sl39⟩)
  (c39:PySem.W.codeIn (dropA [g1,g2,g3] K) cd39 "law" = true)
  (k39:PySem.W.keepIn (dropA [g1,g2,g3] K) (.ref f39_)=true)
  (v_LAST_MOMENT:PySem.W.nsIn (dropA [g1,g2,g3] K) mainGlobals "LAST_MOMENT" = some (some (.int (9999) t_LAST_MOMENT)))
  (v_LEAST_AHEAD:PySem.W.nsIn (dropA [g1,g2,g3] K) mainGlobals "LEAST_AHEAD" = some (some (.int (-12) t_LEAST_AHEAD)))
  (v_MOST_AHEAD:PySem.W.nsIn (dropA [g1,g2,g3] K) mainGlobals "MOST_AHEAD" = some (some (.int (14) t_MOST_AHEAD)))
  (v_MOST_SHIFTS:PySem.W.nsIn (dropA [g1,g2,g3] K) mainGlobals "MOST_SHIFTS" = some (some (.int (6) t_MOST_SHIFTS)))
  (v_MOST_DEEDS:PySem.W.nsIn (dropA [g1,g2,g3] K) mainGlobals "MOST_DEEDS" = some (some (.int (6) t_MOST_DEEDS)))
  (v_LAST_RUNNER:PySem.W.nsIn (dropA [g1,g2,g3] K) mainGlobals "LAST_RUNNER" = some (some (.int (3) t_LAST_RUNNER)))
  (v_MOST_TERM:PySem.W.nsIn (dropA [g1,g2,g3] K) mainGlobals "MOST_TERM" = some (some (.int (99) t_MOST_TERM)))
  (v_LENGTHS:PySem.W.nsIn (dropA [g1,g2,g3] K) mainGlobals "LENGTHS" = some (some (.ref gd_LENGTHS)))
  (w_LENGTHS:(dropA [g1,g2,g3] K).lookup gd_LENGTHS=some ⟨.type "dict",none,.dict #[⟨hashStr w "take",.str "take" td_LENGTHS_0,.int 4 ud_LENGTHS_0⟩,⟨hashStr w "give",.str "give" td_LENGTHS_1,.int 3 ud_LENGTHS_1⟩,⟨hashStr w "step",.str "step" td_LENGTHS_2,.int 3 ud_LENGTHS_2⟩,⟨hashStr w "finish",.str "finish" td_LENGTHS_3,.int 3 ud_LENGTHS_3⟩] ed_LENGTHS,#[]⟩)
  (z_all:PySem.W.nsIn (dropA [g1,g2,g3] K) mainGlobals "all" = some none)
  (z_any:PySem.W.nsIn (dropA [g1,g2,g3] K) mainGlobals "any" = some none)
  (z_bool:PySem.W.nsIn (dropA [g1,g2,g3] K) mainGlobals "bool" = some none)
  (z_int:PySem.W.nsIn (dropA [g1,g2,g3] K) mainGlobals "int" = some none)
  (z_isinstance:PySem.W.nsIn (dropA [g1,g2,g3] K) mainGlobals "isinstance" = some none)
  (z_len:PySem.W.nsIn (dropA [g1,g2,g3] K) mainGlobals "len" = some none)
  (z_list:PySem.W.nsIn (dropA [g1,g2,g3] K) mainGlobals "list" = some none)
  (z_min:PySem.W.nsIn (dropA [g1,g2,g3] K) mainGlobals "min" = some none)
  (z_range:PySem.W.nsIn (dropA [g1,g2,g3] K) mainGlobals "range" = some none)
  (z_sorted:PySem.W.nsIn (dropA [g1,g2,g3] K) mainGlobals "sorted" = some none)
  (z_str:PySem.W.nsIn (dropA [g1,g2,g3] K) mainGlobals "str" = some none)
  (z_tuple:PySem.W.nsIn (dropA [g1,g2,g3] K) mainGlobals "tuple" = some none)
  (pg_:PySem.W.plainGet (dropA [g1,g2,g3] K) C_ Str.empty=true)
  (hd_:PySem.W.hasDictIn (dropA [g1,g2,g3] K) C_=true)
  (po_:PySem.W.plainOver (dropA [g1,g2,g3] K) C_=true)
  (sa_:PySem.W.findIn (dropA [g1,g2,g3] K) (.ref C_) "__setattr__" = some (some (.builtin "object.__setattr__")))
  (mks_:PySem.W.makesIn (dropA [g1,g2,g3] K) C_=true)
  (kpC_:PySem.W.keepIn (dropA [g1,g2,g3] K) (.ref C_)=true)
  (n_begun:PySem.W.findIn (dropA [g1,g2,g3] K) (.ref C_) "begun" = some none)
  (n_deeds:PySem.W.findIn (dropA [g1,g2,g3] K) (.ref C_) "deeds" = some none)
  (n_holder:PySem.W.findIn (dropA [g1,g2,g3] K) (.ref C_) "holder" = some none)
  (n_holds:PySem.W.findIn (dropA [g1,g2,g3] K) (.ref C_) "holds" = some none)
  (n_last:PySem.W.findIn (dropA [g1,g2,g3] K) (.ref C_) "last" = some none)
  (n_rows:PySem.W.findIn (dropA [g1,g2,g3] K) (.ref C_) "rows" = some none)
  (n_settled:PySem.W.findIn (dropA [g1,g2,g3] K) (.ref C_) "settled" = some none)
  (n_until:PySem.W.findIn (dropA [g1,g2,g3] K) (.ref C_) "until" = some none)
  (n_words:PySem.W.findIn (dropA [g1,g2,g3] K) (.ref C_) "words" = some none)
  (n_zone:PySem.W.findIn (dropA [g1,g2,g3] K) (.ref C_) "zone" = some none)
  (a_Due:PySem.W.nsIn (dropA [g1,g2,g3] K) mainGlobals "DueError" = some (some (.ref D_)))
  (y_LENGTHS:(gd_LENGTHS == sysModules)=false)
  (x_Due:PySem.W.excIn (dropA [g1,g2,g3] K) D_ bmV "ValueError.__new__" = true)
  (x_tab:excTab (dropA [g1,g2,g3] K) D_ exL=true) :
  ∃ (fd:FuncData) (K':PySem.W.Frag) (HG:Hp),(∀ (s:Shared) (v:Value),BindsTo s fd ⟨[v],[]⟩ [("_law_script",v)])/\K'.In h/\(∀ b u,HG b=some u->TupG K' h b u)/\GH mg HG/\∀ base:Heap,K'.In base->base.Ns mainGlobals mg->FnOk l.prog w K' mg base (CXM l.prog w) 12 fa fd ["_law_script"] (spT K' mg):=by
 obtain ⟨HG,tg,gh⟩:=two_tups (mg:=mg) XK w1q w2q w3q (PySem.W.mg_of XK G v_ANY_ZONEq) (PySem.W.mg_of XK G v_NO_DEEDSq)
 have X:(dropA [g1,g2,g3] K).In h:=drop_in XK fun b o e=>(drop_sub e).1
 generalize dropA [g1,g2,g3] K=K at *
 have e:=hfa.symm.trans (PySem.W.mg_of X G a39)
 cases e
 have F0:=fun_mk (st:=s_is_whole) l0 c0 k0
 have D0:FD K mg "is_whole" s_is_whole ["thing","least","most"] _ _:=⟨F0,PySem.W.mg_of X G a0,F0.binds fun _ _ _ _ _ _ us hl=>match us,hl with | [_,_,_],_=>rfl⟩
 have F1:=fun_mk (st:=s_is_tuple_of) l1 c1 k1
 have D1:FD K mg "is_tuple_of" s_is_tuple_of ["thing","length"] _ _:=⟨F1,PySem.W.mg_of X G a1,F1.binds fun _ _ _ _ _ _ us hl=>match us,hl with | [_,_],_=>rfl⟩
 have F2:=fun_mk (st:=s_is_ahead) l2 c2 k2
 have D2:FD K mg "is_ahead" s_is_ahead ["thing"] _ _:=⟨F2,PySem.W.mg_of X G a2,F2.binds fun _ _ _ _ _ _ us hl=>match us,hl with | [_],_=>rfl⟩
 have F3:=fun_mk (st:=s_is_moment) l3 c3 k3
 have D3:FD K mg "is_moment" s_is_moment ["thing"] _ _:=⟨F3,PySem.W.mg_of X G a3,F3.binds fun _ _ _ _ _ _ us hl=>match us,hl with | [_],_=>rfl⟩
 have F4:=fun_mk (st:=s_is_runner) l4 c4 k4
 have D4:FD K mg "is_runner" s_is_runner ["thing"] _ _:=⟨F4,PySem.W.mg_of X G a4,F4.binds fun _ _ _ _ _ _ us hl=>match us,hl with | [_],_=>rfl⟩
 have F5:=fun_mk (st:=s_is_term) l5 c5 k5
 have D5:FD K mg "is_term" s_is_term ["thing"] _ _:=⟨F5,PySem.W.mg_of X G a5,F5.binds fun _ _ _ _ _ _ us hl=>match us,hl with | [_],_=>rfl⟩
 have F6:=fun_mk (st:=s_are_shifts) l6 c6 k6
 have D6:FD K mg "are_shifts" s_are_shifts ["thing"] _ _:=⟨F6,PySem.W.mg_of X G a6,F6.binds fun _ _ _ _ _ _ us hl=>match us,hl with | [_],_=>rfl⟩
 have F7:=fun_mk (st:=s_is_zone) l7 c7 k7
 have D7:FD K mg "is_zone" s_is_zone ["thing"] _ _:=⟨F7,PySem.W.mg_of X G a7,F7.binds fun _ _ _ _ _ _ us hl=>match us,hl with | [_],_=>rfl⟩
 have F8:=fun_mk (st:=s_has_word) l8 c8 k8
 have D8:FD K mg "has_word" s_has_word ["thing","word","length"] _ _:=⟨F8,PySem.W.mg_of X G a8,F8.binds fun _ _ _ _ _ _ us hl=>match us,hl with | [_,_,_],_=>rfl⟩
 have F9:=fun_mk (st:=s_are_deeds) l9 c9 k9
 have D9:FD K mg "are_deeds" s_are_deeds ["thing"] _ _:=⟨F9,PySem.W.mg_of X G a9,F9.binds fun _ _ _ _ _ _ us hl=>match us,hl with | [_],_=>rfl⟩
 have F10:=fun_mk (st:=s_check_zone) l10 c10 k10
 have D10:FD K mg "check_zone" s_check_zone ["thing"] _ _:=⟨F10,PySem.W.mg_of X G a10,F10.binds fun _ _ _ _ _ _ us hl=>match us,hl with | [_],_=>rfl⟩
 have F11:=fun_mk (st:=s_check_moment) l11 c11 k11
 have D11:FD K mg "check_moment" s_check_moment ["thing"] _ _:=⟨F11,PySem.W.mg_of X G a11,F11.binds fun _ _ _ _ _ _ us hl=>match us,hl with | [_],_=>rfl⟩
 have F12:=fun_mk (st:=s_check_deeds) l12 c12 k12
 have D12:FD K mg "check_deeds" s_check_deeds ["thing"] _ _:=⟨F12,PySem.W.mg_of X G a12,F12.binds fun _ _ _ _ _ _ us hl=>match us,hl with | [_],_=>rfl⟩
 have F13:=fun_mk (st:=s_check_runner) l13 c13 k13
 have D13:FD K mg "check_runner" s_check_runner ["thing"] _ _:=⟨F13,PySem.W.mg_of X G a13,F13.binds fun _ _ _ _ _ _ us hl=>match us,hl with | [_],_=>rfl⟩
 have F14:=fun_mk (st:=s_check_term) l14 c14 k14
 have D14:FD K mg "check_term" s_check_term ["thing"] _ _:=⟨F14,PySem.W.mg_of X G a14,F14.binds fun _ _ _ _ _ _ us hl=>match us,hl with | [_],_=>rfl⟩
 have F15:=fun_mk (st:=s_H___init__) l15 c15 k15
 have D15:MD K C_ "__init__" "Hall.__init__" s_H___init__ ["self","zone","deeds"] _ _:=⟨F15,⟨a15,i15,k15⟩,F15.binds fun _ _ _ _ _ _ us hl=>match us,hl with | [_,_,_],_=>rfl⟩
 have F16:=fun_mk (st:=s_H_is_held) l16 c16 k16
 have D16:MD K C_ "is_held" "Hall.is_held" s_H_is_held ["self","moment"] _ _:=⟨F16,⟨a16,i16,k16⟩,F16.binds fun _ _ _ _ _ _ us hl=>match us,hl with | [_,_],_=>rfl⟩
 have F17:=fun_mk (st:=s_H_check_call) l17 c17 k17
 have D17:MD K C_ "check_call" "Hall.check_call" s_H_check_call ["self","runner","moment"] _ _:=⟨F17,⟨a17,i17,k17⟩,F17.binds fun _ _ _ _ _ _ us hl=>match us,hl with | [_,_,_],_=>rfl⟩
 have F18:=fun_mk (st:=s_H_check_holder) l18 c18 k18
 have D18:MD K C_ "check_holder" "Hall.check_holder" s_H_check_holder ["self","runner","moment"] _ _:=⟨F18,⟨a18,i18,k18⟩,F18.binds fun _ _ _ _ _ _ us hl=>match us,hl with | [_,_,_],_=>rfl⟩
 have F19:=fun_mk (st:=s_H_take) l19 c19 k19
 have D19:MD K C_ "take" "Hall.take" s_H_take ["self","runner","moment","term"] _ _:=⟨F19,⟨a19,i19,k19⟩,F19.binds fun _ _ _ _ _ _ us hl=>match us,hl with | [_,_,_,_],_=>rfl⟩
 have F20:=fun_mk (st:=s_H_give) l20 c20 k20
 have D20:MD K C_ "give" "Hall.give" s_H_give ["self","runner","moment"] _ _:=⟨F20,⟨a20,i20,k20⟩,F20.binds fun _ _ _ _ _ _ us hl=>match us,hl with | [_,_,_],_=>rfl⟩
 have F21:=fun_mk (st:=s_H_held) l21 c21 k21
 have D21:MD K C_ "held" "Hall.held" s_H_held ["self"] _ _:=⟨F21,⟨a21,i21,k21⟩,F21.binds fun _ _ _ _ _ _ us hl=>match us,hl with | [_],_=>rfl⟩
 have F22:=fun_mk (st:=s_check_call) l22 c22 k22
 have D22:FD K mg "check_call" s_check_call ["thing"] _ _:=⟨F22,PySem.W.mg_of X G a22,F22.binds fun _ _ _ _ _ _ us hl=>match us,hl with | [_],_=>rfl⟩
 have F23:=fun_mk (st:=s_ask) l23 c23 k23
 have D23:FD K mg "ask" s_ask ["hall","call"] _ _:=⟨F23,PySem.W.mg_of X G a23,F23.binds fun _ _ _ _ _ _ us hl=>match us,hl with | [_,_],_=>rfl⟩
 have F24:=fun_mk (st:=s_do) l24 c24 k24
 have D24:FD K mg "do" s_do ["hall","call"] _ _:=⟨F24,PySem.W.mg_of X G a24,F24.binds fun _ _ _ _ _ _ us hl=>match us,hl with | [_,_],_=>rfl⟩
 have F25:=fun_mk (st:=s_is_row) l25 c25 k25
 have D25:FD K mg "is_row" s_is_row ["thing"] _ _:=⟨F25,PySem.W.mg_of X G a25,F25.binds fun _ _ _ _ _ _ us hl=>match us,hl with | [_],_=>rfl⟩
 have F26:=fun_mk (st:=s_check_rows) l26 c26 k26
 have D26:FD K mg "check_rows" s_check_rows ["rows"] _ _:=⟨F26,PySem.W.mg_of X G a26,F26.binds fun _ _ _ _ _ _ us hl=>match us,hl with | [_],_=>rfl⟩
 have F27:=fun_mk (st:=s_walked_holds) l27 c27 k27
 have D27:FD K mg "walked_holds" s_walked_holds ["rows"] _ _:=⟨F27,PySem.W.mg_of X G a27,F27.binds fun _ _ _ _ _ _ us hl=>match us,hl with | [_],_=>rfl⟩
 have F28:=fun_mk (st:=s_lasting_holds) l28 c28 k28
 have D28:FD K mg "lasting_holds" s_lasting_holds ["rows"] _ _:=⟨F28,PySem.W.mg_of X G a28,F28.binds fun _ _ _ _ _ _ us hl=>match us,hl with | [_],_=>rfl⟩
 have F29:=fun_mk (st:=s_all_holds) l29 c29 k29
 have D29:FD K mg "all_holds" s_all_holds ["rows"] _ _:=⟨F29,PySem.W.mg_of X G a29,F29.binds fun _ _ _ _ _ _ us hl=>match us,hl with | [_],_=>rfl⟩
 have F30:=fun_mk (st:=s_held_by) l30 c30 k30
 have D30:FD K mg "held_by" s_held_by ["rows"] _ _:=⟨F30,PySem.W.mg_of X G a30,F30.binds fun _ _ _ _ _ _ us hl=>match us,hl with | [_],_=>rfl⟩
 have F31:=fun_mk (st:=s_holder_at) l31 c31 k31
 have D31:FD K mg "holder_at" s_holder_at ["rows","moment"] _ _:=⟨F31,PySem.W.mg_of X G a31,F31.binds fun _ _ _ _ _ _ us hl=>match us,hl with | [_,_],_=>rfl⟩
 have F32:=fun_mk (st:=s_nobody) l32 c32 k32
 have D32:FD K mg "nobody" s_nobody ["rows","last"] _ _:=⟨F32,PySem.W.mg_of X G a32,F32.binds fun _ _ _ _ _ _ us hl=>match us,hl with | [_,_],_=>rfl⟩
 have F33:=fun_mk (st:=s__law_cell_at) l33 c33 k33
 have D33:FD K mg "_law_cell_at" s__law_cell_at ["_law_script","_law_k"] _ _:=⟨F33,PySem.W.mg_of X G a33,F33.binds fun _ _ _ _ _ _ us hl=>match us,hl with | [_,_],_=>rfl⟩
 have F34:=fun_mk (st:=s__law_mixed) l34 c34 k34
 have D34:FD K mg "_law_mixed" s__law_mixed ["_law_script","_law_k","_law_many"] _ _:=⟨F34,PySem.W.mg_of X G a34,F34.binds fun _ _ _ _ _ _ us hl=>match us,hl with | [_,_,_],_=>rfl⟩
 have F35:=fun_mk (st:=s__law_draw) l35 c35 k35
 have D35:FD K mg "_law_draw" s__law_draw ["_law_script","_law_town","_law_many"] _ _:=⟨F35,PySem.W.mg_of X G a35,F35.binds fun _ _ _ _ _ _ us hl=>match us,hl with | [_,_,_],_=>rfl⟩
 have F36:=fun_mk (st:=s__law_pick) l36 c36 k36
 have D36:FD K mg "_law_pick" s__law_pick ["_law_script","_law_town","_law_some"] _ _:=⟨F36,PySem.W.mg_of X G a36,F36.binds fun _ _ _ _ _ _ us hl=>match us,hl with | [_,_,_],_=>rfl⟩
 have F37:=fun_mk (st:=s__law_rows) l37 c37 k37
 have D37:FD K mg "_law_rows" s__law_rows ["_law_script","_law_town","_law_most"] _ _:=⟨F37,PySem.W.mg_of X G a37,F37.binds fun _ _ _ _ _ _ us hl=>match us,hl with | [_,_,_],_=>rfl⟩
 have F38:=fun_mk (st:=s__law_holds) l38 c38 k38
 have D38:FD K mg "_law_holds" s__law_holds ["_law_rows_here"] _ _:=⟨F38,PySem.W.mg_of X G a38,F38.binds fun _ _ _ _ _ _ us hl=>match us,hl with | [_],_=>rfl⟩
 have F39:=fun_mk (st:=s_law) l39 c39 k39
 have D39:FD K mg "law" s_law ["_law_script"] _ _:=⟨F39,PySem.W.mg_of X G a39,F39.binds fun _ _ _ _ _ _ us hl=>match us,hl with | [_],_=>rfl⟩
 have HC:HCx K mg C_:={
  cl:=⟨pg_,hd_,po_,sa_⟩
  mg:=PySem.W.mg_of X G a_Hall
  mks:=mks_
  kpC:=kpC_
  n_begun:=n_begun
  n_deeds:=n_deeds
  n_holder:=n_holder
  n_holds:=n_holds
  n_last:=n_last
  n_rows:=n_rows
  n_settled:=n_settled
  n_until:=n_until
  n_words:=n_words
  n_zone:=n_zone
  d_H___init__:=⟨_,_,D15⟩
  d_H_is_held:=⟨_,_,D16⟩
  d_H_check_call:=⟨_,_,D17⟩
  d_H_check_holder:=⟨_,_,D18⟩
  d_H_take:=⟨_,_,D19⟩
  d_H_give:=⟨_,_,D20⟩
  d_H_held:=⟨_,_,D21⟩
 }
 have T:Tx l.prog w K mg:={
  d_is_whole:=⟨_,_,D0⟩
  d_is_tuple_of:=⟨_,_,D1⟩
  d_is_ahead:=⟨_,_,D2⟩
  d_is_moment:=⟨_,_,D3⟩
  d_is_runner:=⟨_,_,D4⟩
  d_is_term:=⟨_,_,D5⟩
  d_are_shifts:=⟨_,_,D6⟩
  d_is_zone:=⟨_,_,D7⟩
  d_has_word:=⟨_,_,D8⟩
  d_are_deeds:=⟨_,_,D9⟩
  d_check_zone:=⟨_,_,D10⟩
  d_check_moment:=⟨_,_,D11⟩
  d_check_deeds:=⟨_,_,D12⟩
  d_check_runner:=⟨_,_,D13⟩
  d_check_term:=⟨_,_,D14⟩
  d_check_call:=⟨_,_,D22⟩
  d_ask:=⟨_,_,D23⟩
  d_do:=⟨_,_,D24⟩
  d_is_row:=⟨_,_,D25⟩
  d_check_rows:=⟨_,_,D26⟩
  d_walked_holds:=⟨_,_,D27⟩
  d_lasting_holds:=⟨_,_,D28⟩
  d_all_holds:=⟨_,_,D29⟩
  d_held_by:=⟨_,_,D30⟩
  d_holder_at:=⟨_,_,D31⟩
  d_nobody:=⟨_,_,D32⟩
  d__law_cell_at:=⟨_,_,D33⟩
  d__law_mixed:=⟨_,_,D34⟩
  d__law_draw:=⟨_,_,D35⟩
  d__law_pick:=⟨_,_,D36⟩
  d__law_rows:=⟨_,_,D37⟩
  d__law_holds:=⟨_,_,D38⟩
  c_LAST_MOMENT:=⟨_,PySem.W.mg_of X G v_LAST_MOMENT⟩
  c_LEAST_AHEAD:=⟨_,PySem.W.mg_of X G v_LEAST_AHEAD⟩
  c_MOST_AHEAD:=⟨_,PySem.W.mg_of X G v_MOST_AHEAD⟩
  c_MOST_SHIFTS:=⟨_,PySem.W.mg_of X G v_MOST_SHIFTS⟩
  c_MOST_DEEDS:=⟨_,PySem.W.mg_of X G v_MOST_DEEDS⟩
  c_LAST_RUNNER:=⟨_,PySem.W.mg_of X G v_LAST_RUNNER⟩
  c_MOST_TERM:=⟨_,PySem.W.mg_of X G v_MOST_TERM⟩
  c_LENGTHS:=⟨_,PySem.W.mg_of X G v_LENGTHS,gdic_mk [⟨"take",4,td_LENGTHS_0,ud_LENGTHS_0⟩,⟨"give",3,td_LENGTHS_1,ud_LENGTHS_1⟩,⟨"step",3,td_LENGTHS_2,ud_LENGTHS_2⟩,⟨"finish",3,td_LENGTHS_3,ud_LENGTHS_3⟩] w_LENGTHS (show (["take","give","step","finish"]:List Str).Nodup from by decide +kernel) y_LENGTHS⟩
  c_ANY_ZONE:=⟨_,PySem.W.mg_of X G v_ANY_ZONE⟩
  c_NO_DEEDS:=⟨_,PySem.W.mg_of X G v_NO_DEEDS⟩
  b_all:=PySem.W.mg_none_of X G z_all
  b_any:=PySem.W.mg_none_of X G z_any
  b_bool:=PySem.W.mg_none_of X G z_bool
  b_int:=PySem.W.mg_none_of X G z_int
  b_isinstance:=PySem.W.mg_none_of X G z_isinstance
  b_len:=PySem.W.mg_none_of X G z_len
  b_list:=PySem.W.mg_none_of X G z_list
  b_min:=PySem.W.mg_none_of X G z_min
  b_range:=PySem.W.mg_none_of X G z_range
  b_sorted:=PySem.W.mg_none_of X G z_sorted
  b_str:=PySem.W.mg_none_of X G z_str
  b_tuple:=PySem.W.mg_none_of X G z_tuple
  xt0:=⟨D_,⟨⟨PySem.W.mg_of X G a_Due,a_Due,x_Due⟩,x_tab,fun c C e=>PySem.W.mg_of X G e⟩⟩
 }
 exact ⟨PySem.W.fnOf "law" "law" (defArgs s_law) (defBody s_law) (defScope s_law) .none kV39 dc39 pm39 an39 cd39 ct39,K,HG,fun s v=>.of_eq rfl,X,tg,gh,fun base _ _=>(ok_law _ _ _ T HC D39).imp fun vs H Q E h=>scr_ok h.1 (fun ns hn=>law_true hn) h.2⟩
theorem law_walk {l:PySem.W.OpenLaw} {q:Program} {loose:List Str} {XP:(Str->Option Value)->Heap->Prop} {YP:World->Heap->Prop} {d:DefRec} {K:Params->PySem.W.Frag} (hn:l.most=some 63) (hdf:d.params.defaults=[])
  (hY:∀ (w:World) (h:Heap),YP w h->(K w.params).In h)
  (F:∀ (w:World) (mg:Str->Option Value) (fa:Addr) (h:Heap),(K w.params).In h->h.Ns mainGlobals mg->mg d.name=some (.ref fa)->
   ∃ (fd:FuncData) (K':PySem.W.Frag) (HG:Hp),(∀ (s:Shared) (u:Value),BindsTo s fd ⟨[u],[]⟩ [("_law_script",u)])/\K'.In h/\(∀ b u,HG b=some u->TupG K' h b u)/\GH mg HG/\∀ base:Heap,K'.In base->base.Ns mainGlobals mg->FnOk l.prog w K' mg base (CXM l.prog w) 12 fa fd ["_law_script"] (spT K' mg)) :
  PySem.W.WalkO q loose XP YP l.row.toRowW d [] (fun f vs=>PySem.call f vs):=
 walk_ofG (k:=12) (x:="_law_script") (CX:=fun w=>CXM l.prog w) hn hdf ⟨rfl,by decide,by decide⟩ hY F fun _ _ _ _ _ ⟨_,_,_,_,_,_,_,_,_,z⟩=>z
end K3
def PySem.W.Fast.tw1050084996278705070 : Unit := ()
def PySem.W.Fast.tw10536685741209565177 : Unit := ()
def PySem.W.Fast.tw11124323416840351909 : Unit := ()
def PySem.W.Fast.tw11731986256673342908 : Unit := ()
def PySem.W.Fast.tw12386082154761484565 : Unit := ()
def PySem.W.Fast.tw12899425759180185142 : Unit := ()
def PySem.W.Fast.tw13494786381126358078 : Unit := ()
def PySem.W.Fast.tw14470508637257178766 : Unit := ()
def PySem.W.Fast.tw1461802331236558781 : Unit := ()
def PySem.W.Fast.tw14952820714219205634 : Unit := ()
def PySem.W.Fast.tw1551479649070141398 : Unit := ()
def PySem.W.Fast.tw15750167442350501160 : Unit := ()
def PySem.W.Fast.tw1708010051365883197 : Unit := ()
def PySem.W.Fast.tw17082476805123627028 : Unit := ()
def PySem.W.Fast.tw17506300259814095539 : Unit := ()
def PySem.W.Fast.tw3472140679191364221 : Unit := ()
def PySem.W.Fast.tw3738050943248851721 : Unit := ()
def PySem.W.Fast.tw4380121290425095972 : Unit := ()
def PySem.W.Fast.tw5948501582134159984 : Unit := ()
def PySem.W.Fast.tw6756251071789905336 : Unit := ()
def PySem.W.Fast.tw9432831306954201075 : Unit := ()
def PySem.W.Fast.tw9551969491159349707 : Unit := ()
open PySem PySem.W PyProof.Rows
set_option maxRecDepth 100000 in
set_option maxHeartbeats 0 in
theorem PySem.Challenge.cw_duehall_k26_whole_who_holds_holds : PySem.Challenge.rw_duehall_k26_whole_who_holds.Holds := by
  w_on; o_law; k_head; (case hw => w_witness2)
  k_fill
  refine K3.law_walk (l := PySem.Challenge.rw_duehall_k26_whole_who_holds) rfl rfl (fun w h Y => PySem.W.kIn_of Y) ?F
  case F =>
    intro w mg fa h KX G hmg
    refine' K3.all_mk KX G hmg ?v_ANY_ZONEq ?w1q ?w2q ?v_NO_DEEDSq ?w3q ?a_Hallq ?a_is_wholeq ?l_is_wholeq ?c_is_wholeq ?k_is_wholeq ?a_is_tuple_ofq ?l_is_tuple_ofq ?c_is_tuple_ofq ?k_is_tuple_ofq ?a_is_aheadq ?l_is_aheadq ?c_is_aheadq ?k_is_aheadq ?a_is_momentq ?l_is_momentq ?c_is_momentq ?k_is_momentq ?a_is_runnerq ?l_is_runnerq ?c_is_runnerq ?k_is_runnerq ?a_is_termq ?l_is_termq ?c_is_termq ?k_is_termq ?a_are_shiftsq ?l_are_shiftsq ?c_are_shiftsq ?k_are_shiftsq ?a_is_zoneq ?l_is_zoneq ?c_is_zoneq ?k_is_zoneq ?a_has_wordq ?l_has_wordq ?c_has_wordq ?k_has_wordq ?a_are_deedsq ?l_are_deedsq ?c_are_deedsq ?k_are_deedsq ?a_check_zoneq ?l_check_zoneq ?c_check_zoneq ?k_check_zoneq ?a_check_momentq ?l_check_momentq ?c_check_momentq ?k_check_momentq ?a_check_deedsq ?l_check_deedsq ?c_check_deedsq ?k_check_deedsq ?a_check_runnerq ?l_check_runnerq ?c_check_runnerq ?k_check_runnerq ?a_check_termq ?l_check_termq ?c_check_termq ?k_check_termq ?a_H___init__q ?i_H___init__q ?l_H___init__q ?c_H___init__q ?k_H___init__q ?a_H_is_heldq ?i_H_is_heldq ?l_H_is_heldq ?c_H_is_heldq ?k_H_is_heldq ?a_H_check_callq ?i_H_check_callq ?l_H_check_callq ?c_H_check_callq ?k_H_check_callq ?a_H_check_holderq ?i_H_check_holderq ?l_H_check_holderq ?c_H_check_holderq ?k_H_check_holderq ?a_H_takeq ?i_H_takeq ?l_H_takeq ?c_H_takeq ?k_H_takeq ?a_H_giveq ?i_H_giveq ?l_H_giveq ?c_H_giveq ?k_H_giveq ?a_H_heldq ?i_H_heldq ?l_H_heldq ?c_H_heldq ?k_H_heldq ?a_check_callq ?l_check_callq ?c_check_callq ?k_check_callq ?a_askq ?l_askq ?c_askq ?k_askq ?a_doq ?l_doq ?c_doq ?k_doq ?a_is_rowq ?l_is_rowq ?c_is_rowq ?k_is_rowq ?a_check_rowsq ?l_check_rowsq ?c_check_rowsq ?k_check_rowsq ?a_walked_holdsq ?l_walked_holdsq ?c_walked_holdsq ?k_walked_holdsq ?a_lasting_holdsq ?l_lasting_holdsq ?c_lasting_holdsq ?k_lasting_holdsq ?a_all_holdsq ?l_all_holdsq ?c_all_holdsq ?k_all_holdsq ?a_held_byq ?l_held_byq ?c_held_byq ?k_held_byq ?a_holder_atq ?l_holder_atq ?c_holder_atq ?k_holder_atq ?a_nobodyq ?l_nobodyq ?c_nobodyq ?k_nobodyq ?a__law_cell_atq ?l__law_cell_atq ?c__law_cell_atq ?k__law_cell_atq ?a__law_mixedq ?l__law_mixedq ?c__law_mixedq ?k__law_mixedq ?a__law_drawq ?l__law_drawq ?c__law_drawq ?k__law_drawq ?a__law_pickq ?l__law_pickq ?c__law_pickq ?k__law_pickq ?a__law_rowsq ?l__law_rowsq ?c__law_rowsq ?k__law_rowsq ?a__law_holdsq ?l__law_holdsq ?c__law_holdsq ?k__law_holdsq ?a_lawq ?l_lawq ?c_lawq ?k_lawq ?v_LAST_MOMENTq ?v_LEAST_AHEADq ?v_MOST_AHEADq ?v_MOST_SHIFTSq ?v_MOST_DEEDSq ?v_LAST_RUNNERq ?v_MOST_TERMq ?v_LENGTHSq ?w_LENGTHSq ?z_allq ?z_anyq ?z_boolq ?z_intq ?z_isinstanceq ?z_lenq ?z_listq ?z_minq ?z_rangeq ?z_sortedq ?z_strq ?z_tupleq ?pg_q ?hd_q ?po_q ?sa_q ?mks_q ?kpC_q ?n_begunq ?n_deedsq ?n_holderq ?n_holdsq ?n_lastq ?n_rowsq ?n_settledq ?n_untilq ?n_wordsq ?n_zoneq ?a_Dueq ?v_ANY_ZONE ?v_NO_DEEDS ?a_Hall ?a0 ?l0 ?c0 ?k0 ?a1 ?l1 ?c1 ?k1 ?a2 ?l2 ?c2 ?k2 ?a3 ?l3 ?c3 ?k3 ?a4 ?l4 ?c4 ?k4 ?a5 ?l5 ?c5 ?k5 ?a6 ?l6 ?c6 ?k6 ?a7 ?l7 ?c7 ?k7 ?a8 ?l8 ?c8 ?k8 ?a9 ?l9 ?c9 ?k9 ?a10 ?l10 ?c10 ?k10 ?a11 ?l11 ?c11 ?k11 ?a12 ?l12 ?c12 ?k12 ?a13 ?l13 ?c13 ?k13 ?a14 ?l14 ?c14 ?k14 ?a15 ?i15 ?l15 ?c15 ?k15 ?a16 ?i16 ?l16 ?c16 ?k16 ?a17 ?i17 ?l17 ?c17 ?k17 ?a18 ?i18 ?l18 ?c18 ?k18 ?a19 ?i19 ?l19 ?c19 ?k19 ?a20 ?i20 ?l20 ?c20 ?k20 ?a21 ?i21 ?l21 ?c21 ?k21 ?a22 ?l22 ?c22 ?k22 ?a23 ?l23 ?c23 ?k23 ?a24 ?l24 ?c24 ?k24 ?a25 ?l25 ?c25 ?k25 ?a26 ?l26 ?c26 ?k26 ?a27 ?l27 ?c27 ?k27 ?a28 ?l28 ?c28 ?k28 ?a29 ?l29 ?c29 ?k29 ?a30 ?l30 ?c30 ?k30 ?a31 ?l31 ?c31 ?k31 ?a32 ?l32 ?c32 ?k32 ?a33 ?l33 ?c33 ?k33 ?a34 ?l34 ?c34 ?k34 ?a35 ?l35 ?c35 ?k35 ?a36 ?l36 ?c36 ?k36 ?a37 ?l37 ?c37 ?k37 ?a38 ?l38 ?c38 ?k38 ?a39 ?l39 ?c39 ?k39 ?v_LAST_MOMENT ?v_LEAST_AHEAD ?v_MOST_AHEAD ?v_MOST_SHIFTS ?v_MOST_DEEDS ?v_LAST_RUNNER ?v_MOST_TERM ?v_LENGTHS ?w_LENGTHS ?z_all ?z_any ?z_bool ?z_int ?z_isinstance ?z_len ?z_list ?z_min ?z_range ?z_sorted ?z_str ?z_tuple ?pg_ ?hd_ ?po_ ?sa_ ?mks_ ?kpC_ ?n_begun ?n_deeds ?n_holder ?n_holds ?n_last ?n_rows ?n_settled ?n_until ?n_words ?n_zone ?a_Due ?y_LENGTHS ?x_Due ?x_tab
    (case v_ANY_ZONEq => k_is)
    (case w1q => k_is)
    (case w2q => k_is)
    (case v_NO_DEEDSq => k_is)
    (case w3q => k_is)
    (case a_Hallq => k_is)
    (case a_is_wholeq => k_is)
    (case l_is_wholeq => k_is)
    (case c_is_wholeq => k_is)
    (case k_is_wholeq => k_is)
    (case a_is_tuple_ofq => k_is)
    (case l_is_tuple_ofq => k_is)
    (case c_is_tuple_ofq => k_is)
    (case k_is_tuple_ofq => k_is)
    (case a_is_aheadq => k_is)
    (case l_is_aheadq => k_is)
    (case c_is_aheadq => k_is)
    (case k_is_aheadq => k_is)
    (case a_is_momentq => k_is)
    (case l_is_momentq => k_is)
    (case c_is_momentq => k_is)
    (case k_is_momentq => k_is)
    (case a_is_runnerq => k_is)
    (case l_is_runnerq => k_is)
    (case c_is_runnerq => k_is)
    (case k_is_runnerq => k_is)
    (case a_is_termq => k_is)
    (case l_is_termq => k_is)
    (case c_is_termq => k_is)
    (case k_is_termq => k_is)
    (case a_are_shiftsq => k_is)
    (case l_are_shiftsq => k_is)
    (case c_are_shiftsq => k_is)
    (case k_are_shiftsq => k_is)
    (case a_is_zoneq => k_is)
    (case l_is_zoneq => k_is)
    (case c_is_zoneq => k_is)
    (case k_is_zoneq => k_is)
    (case a_has_wordq => k_is)
    (case l_has_wordq => k_is)
    (case c_has_wordq => k_is)
    (case k_has_wordq => k_is)
    (case a_are_deedsq => k_is)
    (case l_are_deedsq => k_is)
    (case c_are_deedsq => k_is)
    (case k_are_deedsq => k_is)
    (case a_check_zoneq => k_is)
    (case l_check_zoneq => k_is)
    (case c_check_zoneq => k_is)
    (case k_check_zoneq => k_is)
    (case a_check_momentq => k_is)
    (case l_check_momentq => k_is)
    (case c_check_momentq => k_is)
    (case k_check_momentq => k_is)
    (case a_check_deedsq => k_is)
    (case l_check_deedsq => k_is)
    (case c_check_deedsq => k_is)
    (case k_check_deedsq => k_is)
    (case a_check_runnerq => k_is)
    (case l_check_runnerq => k_is)
    (case c_check_runnerq => k_is)
    (case k_check_runnerq => k_is)
    (case a_check_termq => k_is)
    (case l_check_termq => k_is)
    (case c_check_termq => k_is)
    (case k_check_termq => k_is)
    (case a_H___init__q => k_is)
    (case i_H___init__q => k_is)
    (case l_H___init__q => k_is)
    (case c_H___init__q => k_is)
    (case k_H___init__q => k_is)
    (case a_H_is_heldq => k_is)
    (case i_H_is_heldq => k_is)
    (case l_H_is_heldq => k_is)
    (case c_H_is_heldq => k_is)
    (case k_H_is_heldq => k_is)
    (case a_H_check_callq => k_is)
    (case i_H_check_callq => k_is)
    (case l_H_check_callq => k_is)
    (case c_H_check_callq => k_is)
    (case k_H_check_callq => k_is)
    (case a_H_check_holderq => k_is)
    (case i_H_check_holderq => k_is)
    (case l_H_check_holderq => k_is)
    (case c_H_check_holderq => k_is)
    (case k_H_check_holderq => k_is)
    (case a_H_takeq => k_is)
    (case i_H_takeq => k_is)
    (case l_H_takeq => k_is)
    (case c_H_takeq => k_is)
    (case k_H_takeq => k_is)
    (case a_H_giveq => k_is)
    (case i_H_giveq => k_is)
    (case l_H_giveq => k_is)
    (case c_H_giveq => k_is)
    (case k_H_giveq => k_is)
    (case a_H_heldq => k_is)
    (case i_H_heldq => k_is)
    (case l_H_heldq => k_is)
    (case c_H_heldq => k_is)
    (case k_H_heldq => k_is)
    (case a_check_callq => k_is)
    (case l_check_callq => k_is)
    (case c_check_callq => k_is)
    (case k_check_callq => k_is)
    (case a_askq => k_is)
    (case l_askq => k_is)
    (case c_askq => k_is)
    (case k_askq => k_is)
    (case a_doq => k_is)
    (case l_doq => k_is)
    (case c_doq => k_is)
    (case k_doq => k_is)
    (case a_is_rowq => k_is)
    (case l_is_rowq => k_is)
    (case c_is_rowq => k_is)
    (case k_is_rowq => k_is)
    (case a_check_rowsq => k_is)
    (case l_check_rowsq => k_is)
    (case c_check_rowsq => k_is)
    (case k_check_rowsq => k_is)
    (case a_walked_holdsq => k_is)
    (case l_walked_holdsq => k_is)
    (case c_walked_holdsq => k_is)
    (case k_walked_holdsq => k_is)
    (case a_lasting_holdsq => k_is)
    (case l_lasting_holdsq => k_is)
    (case c_lasting_holdsq => k_is)
    (case k_lasting_holdsq => k_is)
    (case a_all_holdsq => k_is)
    (case l_all_holdsq => k_is)
    (case c_all_holdsq => k_is)
    (case k_all_holdsq => k_is)
    (case a_held_byq => k_is)
    (case l_held_byq => k_is)
    (case c_held_byq => k_is)
    (case k_held_byq => k_is)
    (case a_holder_atq => k_is)
    (case l_holder_atq => k_is)
    (case c_holder_atq => k_is)
    (case k_holder_atq => k_is)
    (case a_nobodyq => k_is)
    (case l_nobodyq => k_is)
    (case c_nobodyq => k_is)
    (case k_nobodyq => k_is)
    (case a__law_cell_atq => k_is)
    (case l__law_cell_atq => k_is)
    (case c__law_cell_atq => k_is)
    (case k__law_cell_atq => k_is)
    (case a__law_mixedq => k_is)
    (case l__law_mixedq => k_is)
    (case c__law_mixedq => k_is)
    (case k__law_mixedq => k_is)
    (case a__law_drawq => k_is)
    (case l__law_drawq => k_is)
    (case c__law_drawq => k_is)
    (case k__law_drawq => k_is)
    (case a__law_pickq => k_is)
    (case l__law_pickq => k_is)
    (case c__law_pickq => k_is)
    (case k__law_pickq => k_is)
    (case a__law_rowsq => k_is)
    (case l__law_rowsq => k_is)
    (case c__law_rowsq => k_is)
    (case k__law_rowsq => k_is)
    (case a__law_holdsq => k_is)
    (case l__law_holdsq => k_is)
    (case c__law_holdsq => k_is)
    (case k__law_holdsq => k_is)
    (case a_lawq => k_is)
    (case l_lawq => k_is)
    (case c_lawq => k_is)
    (case k_lawq => k_is)
    (case v_LAST_MOMENTq => k_is)
    (case v_LEAST_AHEADq => k_is)
    (case v_MOST_AHEADq => k_is)
    (case v_MOST_SHIFTSq => k_is)
    (case v_MOST_DEEDSq => k_is)
    (case v_LAST_RUNNERq => k_is)
    (case v_MOST_TERMq => k_is)
    (case v_LENGTHSq => k_is)
    (case w_LENGTHSq => k_is)
    (case z_allq => k_is)
    (case z_anyq => k_is)
    (case z_boolq => k_is)
    (case z_intq => k_is)
    (case z_isinstanceq => k_is)
    (case z_lenq => k_is)
    (case z_listq => k_is)
    (case z_minq => k_is)
    (case z_rangeq => k_is)
    (case z_sortedq => k_is)
    (case z_strq => k_is)
    (case z_tupleq => k_is)
    (case pg_q => k_is)
    (case hd_q => k_is)
    (case po_q => k_is)
    (case sa_q => k_is)
    (case mks_q => k_is)
    (case kpC_q => k_is)
    (case n_begunq => k_is)
    (case n_deedsq => k_is)
    (case n_holderq => k_is)
    (case n_holdsq => k_is)
    (case n_lastq => k_is)
    (case n_rowsq => k_is)
    (case n_settledq => k_is)
    (case n_untilq => k_is)
    (case n_wordsq => k_is)
    (case n_zoneq => k_is)
    (case a_Dueq => k_is)
    (case v_ANY_ZONE => first | kernel_rfl | rfl)
    (case v_NO_DEEDS => first | kernel_rfl | rfl)
    (case a_Hall => first | kernel_rfl | rfl)
    (case a0 => first | kernel_rfl | rfl)
    (case l0 => first | kernel_rfl | rfl)
    (case c0 => first | kernel_rfl | rfl)
    (case k0 => first | kernel_rfl | rfl)
    (case a1 => first | kernel_rfl | rfl)
    (case l1 => first | kernel_rfl | rfl)
    (case c1 => first | kernel_rfl | rfl)
    (case k1 => first | kernel_rfl | rfl)
    (case a2 => first | kernel_rfl | rfl)
    (case l2 => first | kernel_rfl | rfl)
    (case c2 => first | kernel_rfl | rfl)
    (case k2 => first | kernel_rfl | rfl)
    (case a3 => first | kernel_rfl | rfl)
    (case l3 => first | kernel_rfl | rfl)
    (case c3 => first | kernel_rfl | rfl)
    (case k3 => first | kernel_rfl | rfl)
    (case a4 => first | kernel_rfl | rfl)
    (case l4 => first | kernel_rfl | rfl)
    (case c4 => first | kernel_rfl | rfl)
    (case k4 => first | kernel_rfl | rfl)
    (case a5 => first | kernel_rfl | rfl)
    (case l5 => first | kernel_rfl | rfl)
    (case c5 => first | kernel_rfl | rfl)
    (case k5 => first | kernel_rfl | rfl)
    (case a6 => first | kernel_rfl | rfl)
    (case l6 => first | kernel_rfl | rfl)
    (case c6 => first | kernel_rfl | rfl)
    (case k6 => first | kernel_rfl | rfl)
    (case a7 => first | kernel_rfl | rfl)
    (case l7 => first | kernel_rfl | rfl)
    (case c7 => first | kernel_rfl | rfl)
    (case k7 => first | kernel_rfl | rfl)
    (case a8 => first | kernel_rfl | rfl)
    (case l8 => first | kernel_rfl | rfl)
    (case c8 => first | kernel_rfl | rfl)
    (case k8 => first | kernel_rfl | rfl)
    (case a9 => first | kernel_rfl | rfl)
    (case l9 => first | kernel_rfl | rfl)
    (case c9 => first | kernel_rfl | rfl)
    (case k9 => first | kernel_rfl | rfl)
    (case a10 => first | kernel_rfl | rfl)
    (case l10 => first | kernel_rfl | rfl)
    (case c10 => first | kernel_rfl | rfl)
    (case k10 => first | kernel_rfl | rfl)
    (case a11 => first | kernel_rfl | rfl)
    (case l11 => first | kernel_rfl | rfl)
    (case c11 => first | kernel_rfl | rfl)
    (case k11 => first | kernel_rfl | rfl)
    (case a12 => first | kernel_rfl | rfl)
    (case l12 => first | kernel_rfl | rfl)
    (case c12 => first | kernel_rfl | rfl)
    (case k12 => first | kernel_rfl | rfl)
    (case a13 => first | kernel_rfl | rfl)
    (case l13 => first | kernel_rfl | rfl)
    (case c13 => first | kernel_rfl | rfl)
    (case k13 => first | kernel_rfl | rfl)
    (case a14 => first | kernel_rfl | rfl)
    (case l14 => first | kernel_rfl | rfl)
    (case c14 => first | kernel_rfl | rfl)
    (case k14 => first | kernel_rfl | rfl)
    (case a15 => first | kernel_rfl | rfl)
    (case i15 => first | kernel_rfl | rfl)
    (case l15 => first | kernel_rfl | rfl)
    (case c15 => first | kernel_rfl | rfl)
    (case k15 => first | kernel_rfl | rfl)
    (case a16 => first | kernel_rfl | rfl)
    (case i16 => first | kernel_rfl | rfl)
    (case l16 => first | kernel_rfl | rfl)
    (case c16 => first | kernel_rfl | rfl)
    (case k16 => first | kernel_rfl | rfl)
    (case a17 => first | kernel_rfl | rfl)
    (case i17 => first | kernel_rfl | rfl)
    (case l17 => first | kernel_rfl | rfl)
    (case c17 => first | kernel_rfl | rfl)
    (case k17 => first | kernel_rfl | rfl)
    (case a18 => first | kernel_rfl | rfl)
    (case i18 => first | kernel_rfl | rfl)
    (case l18 => first | kernel_rfl | rfl)
    (case c18 => first | kernel_rfl | rfl)
    (case k18 => first | kernel_rfl | rfl)
    (case a19 => first | kernel_rfl | rfl)
    (case i19 => first | kernel_rfl | rfl)
    (case l19 => first | kernel_rfl | rfl)
    (case c19 => first | kernel_rfl | rfl)
    (case k19 => first | kernel_rfl | rfl)
    (case a20 => first | kernel_rfl | rfl)
    (case i20 => first | kernel_rfl | rfl)
    (case l20 => first | kernel_rfl | rfl)
    (case c20 => first | kernel_rfl | rfl)
    (case k20 => first | kernel_rfl | rfl)
    (case a21 => first | kernel_rfl | rfl)
    (case i21 => first | kernel_rfl | rfl)
    (case l21 => first | kernel_rfl | rfl)
    (case c21 => first | kernel_rfl | rfl)
    (case k21 => first | kernel_rfl | rfl)
    (case a22 => first | kernel_rfl | rfl)
    (case l22 => first | kernel_rfl | rfl)
    (case c22 => first | kernel_rfl | rfl)
    (case k22 => first | kernel_rfl | rfl)
    (case a23 => first | kernel_rfl | rfl)
    (case l23 => first | kernel_rfl | rfl)
    (case c23 => first | kernel_rfl | rfl)
    (case k23 => first | kernel_rfl | rfl)
    (case a24 => first | kernel_rfl | rfl)
    (case l24 => first | kernel_rfl | rfl)
    (case c24 => first | kernel_rfl | rfl)
    (case k24 => first | kernel_rfl | rfl)
    (case a25 => first | kernel_rfl | rfl)
    (case l25 => first | kernel_rfl | rfl)
    (case c25 => first | kernel_rfl | rfl)
    (case k25 => first | kernel_rfl | rfl)
    (case a26 => first | kernel_rfl | rfl)
    (case l26 => first | kernel_rfl | rfl)
    (case c26 => first | kernel_rfl | rfl)
    (case k26 => first | kernel_rfl | rfl)
    (case a27 => first | kernel_rfl | rfl)
    (case l27 => first | kernel_rfl | rfl)
    (case c27 => first | kernel_rfl | rfl)
    (case k27 => first | kernel_rfl | rfl)
    (case a28 => first | kernel_rfl | rfl)
    (case l28 => first | kernel_rfl | rfl)
    (case c28 => first | kernel_rfl | rfl)
    (case k28 => first | kernel_rfl | rfl)
    (case a29 => first | kernel_rfl | rfl)
    (case l29 => first | kernel_rfl | rfl)
    (case c29 => first | kernel_rfl | rfl)
    (case k29 => first | kernel_rfl | rfl)
    (case a30 => first | kernel_rfl | rfl)
    (case l30 => first | kernel_rfl | rfl)
    (case c30 => first | kernel_rfl | rfl)
    (case k30 => first | kernel_rfl | rfl)
    (case a31 => first | kernel_rfl | rfl)
    (case l31 => first | kernel_rfl | rfl)
    (case c31 => first | kernel_rfl | rfl)
    (case k31 => first | kernel_rfl | rfl)
    (case a32 => first | kernel_rfl | rfl)
    (case l32 => first | kernel_rfl | rfl)
    (case c32 => first | kernel_rfl | rfl)
    (case k32 => first | kernel_rfl | rfl)
    (case a33 => first | kernel_rfl | rfl)
    (case l33 => first | kernel_rfl | rfl)
    (case c33 => first | kernel_rfl | rfl)
    (case k33 => first | kernel_rfl | rfl)
    (case a34 => first | kernel_rfl | rfl)
    (case l34 => first | kernel_rfl | rfl)
    (case c34 => first | kernel_rfl | rfl)
    (case k34 => first | kernel_rfl | rfl)
    (case a35 => first | kernel_rfl | rfl)
    (case l35 => first | kernel_rfl | rfl)
    (case c35 => first | kernel_rfl | rfl)
    (case k35 => first | kernel_rfl | rfl)
    (case a36 => first | kernel_rfl | rfl)
    (case l36 => first | kernel_rfl | rfl)
    (case c36 => first | kernel_rfl | rfl)
    (case k36 => first | kernel_rfl | rfl)
    (case a37 => first | kernel_rfl | rfl)
    (case l37 => first | kernel_rfl | rfl)
    (case c37 => first | kernel_rfl | rfl)
    (case k37 => first | kernel_rfl | rfl)
    (case a38 => first | kernel_rfl | rfl)
    (case l38 => first | kernel_rfl | rfl)
    (case c38 => first | kernel_rfl | rfl)
    (case k38 => first | kernel_rfl | rfl)
    (case a39 => first | kernel_rfl | rfl)
    (case l39 => first | kernel_rfl | rfl)
    (case c39 => first | kernel_rfl | rfl)
    (case k39 => first | kernel_rfl | rfl)
    (case v_LAST_MOMENT => first | kernel_rfl | rfl)
    (case v_LEAST_AHEAD => first | kernel_rfl | rfl)
    (case v_MOST_AHEAD => first | kernel_rfl | rfl)
    (case v_MOST_SHIFTS => first | kernel_rfl | rfl)
    (case v_MOST_DEEDS => first | kernel_rfl | rfl)
    (case v_LAST_RUNNER => first | kernel_rfl | rfl)
    (case v_MOST_TERM => first | kernel_rfl | rfl)
    (case v_LENGTHS => first | kernel_rfl | rfl)
    (case w_LENGTHS => first | kernel_rfl | rfl)
    (case z_all => first | kernel_rfl | rfl)
    (case z_any => first | kernel_rfl | rfl)
    (case z_bool => first | kernel_rfl | rfl)
    (case z_int => first | kernel_rfl | rfl)
    (case z_isinstance => first | kernel_rfl | rfl)
    (case z_len => first | kernel_rfl | rfl)
    (case z_list => first | kernel_rfl | rfl)
    (case z_min => first | kernel_rfl | rfl)
    (case z_range => first | kernel_rfl | rfl)
    (case z_sorted => first | kernel_rfl | rfl)
    (case z_str => first | kernel_rfl | rfl)
    (case z_tuple => first | kernel_rfl | rfl)
    (case pg_ => first | kernel_rfl | rfl)
    (case hd_ => first | kernel_rfl | rfl)
    (case po_ => first | kernel_rfl | rfl)
    (case sa_ => first | kernel_rfl | rfl)
    (case mks_ => first | kernel_rfl | rfl)
    (case kpC_ => first | kernel_rfl | rfl)
    (case n_begun => first | kernel_rfl | rfl)
    (case n_deeds => first | kernel_rfl | rfl)
    (case n_holder => first | kernel_rfl | rfl)
    (case n_holds => first | kernel_rfl | rfl)
    (case n_last => first | kernel_rfl | rfl)
    (case n_rows => first | kernel_rfl | rfl)
    (case n_settled => first | kernel_rfl | rfl)
    (case n_until => first | kernel_rfl | rfl)
    (case n_words => first | kernel_rfl | rfl)
    (case n_zone => first | kernel_rfl | rfl)
    (case a_Due => first | kernel_rfl | rfl)
    (case y_LENGTHS => first | kernel_rfl | rfl)
    (case x_Due => first | kernel_rfl | rfl)
    (case x_tab => first | kernel_rfl | rfl)
