import PyProof.Rows.All
import Wide.All
import OpenK.AllK
import Wide.FinOn
import Lean
import PyProof.EqAt
import PyProof.EqKinds
import PyProof.TupleCall
import PySem.Challenge.RW_duehall_k27_holding_refused
set_option Elab.async false
set_option linter.all false
set_option maxRecDepth 100000
namespace L2
open PySem PySem.Spec PyProof.Rows
noncomputable abbrev Key:=Sum Int Str
noncomputable def keyIs:Key->Value->Bool
 | .inl k,v=>Value.isInt k v
 | .inr x,v=>Value.isStrOf x v
noncomputable def keyH (w:World):Key->Int
 | .inl k=>hashInt k
 | .inr x=>hashStr w x
theorem keyIs_shape:∀ {k:Key} {v:Value},keyIs k v=true->(∃ i t,k=Sum.inl i/\v=Value.int i t)\/(∃ x t,k=Sum.inr x/\v=Value.str x t)
 | .inl i,v,h=>by
  obtain ⟨t,e⟩:=Value.isInt_shape (k:=i) (v:=v) h
  exact .inl ⟨i,t,rfl,e⟩
 | .inr x,v,h=>by
  obtain ⟨t,e⟩:=Value.isStrOf_shape (x:=x) (v:=v) h
  exact .inr ⟨x,t,rfl,e⟩
theorem keyIs_int (i:Int) (t:Tok):keyIs (.inl i) (.int i t)=true:=by simp [keyIs,Value.isInt]
theorem keyIs_str (x:Str) (t:Tok):keyIs (.inr x) (.str x t)=true:=by simp [keyIs,Value.isStrOf]
theorem key_ll (a b:Int):decide ((Sum.inl a:Key)=Sum.inl b)=(a == b):=by
 by_cases e:a=b
 ·subst e; simp
 ·have h:¬ (Sum.inl a:Key)=Sum.inl b:=fun q=>e (Sum.inl.inj q)
  rw [decide_eq_false h]
  exact (beq_eq_false_iff_ne.mpr e).symm
theorem key_rr (a b:Str):decide ((Sum.inr a:Key)=Sum.inr b)=decide (a=b):=by
 by_cases e:a=b
 ·subst e; simp
 ·have h:¬ (Sum.inr a:Key)=Sum.inr b:=fun q=>e (Sum.inr.inj q)
  rw [decide_eq_false h,decide_eq_false e]
theorem key_lr (a:Int) (b:Str):decide ((Sum.inl a:Key)=Sum.inr b)=false:=decide_eq_false (fun q=>nomatch q)
theorem key_rl (a:Str) (b:Int):decide ((Sum.inr a:Key)=Sum.inl b)=false:=decide_eq_false (fun q=>nomatch q)
noncomputable def mixKind (prog:Program) (w:World):PySem.KeyKind prog w Key where
 is:=keyIs
 hash:=keyH w
 inj:=fun v a b ha hb=>by
  rcases keyIs_shape ha with ⟨i,t,rfl,rfl⟩ | ⟨x,t,rfl,rfl⟩
  ·rcases keyIs_shape hb with ⟨j,u,rfl,e⟩ | ⟨y,u,rfl,e⟩
   ·injection e with e1 _; rw [e1]
   ·exact nomatch e
  ·rcases keyIs_shape hb with ⟨j,u,rfl,e⟩ | ⟨y,u,rfl,e⟩
   ·exact nomatch e
   ·injection e with e1 _; rw [e1]
 byValue:=fun k v h=>by
  rcases keyIs_shape h with ⟨i,t,rfl,rfl⟩ | ⟨x,t,rfl,rfl⟩ <;> rfl
 pyHash:=fun hv h=>by
  rcases keyIs_shape hv with ⟨i,t,rfl,rfl⟩ | ⟨x,t,rfl,rfl⟩
  ·exact wpAny_pyHash_int h
  ·exact wpAny_pyHash_str h
 eqBool:=fun hu hv h=>by
  rcases keyIs_shape hu with ⟨i,t,rfl,rfl⟩ | ⟨x,t,rfl,rfl⟩
  ·rcases keyIs_shape hv with ⟨j,u,rfl,rfl⟩ | ⟨y,u,rfl,rfl⟩
   ·rw [key_ll] at h; exact wpAny_eqBool_int h
   ·rw [key_lr] at h; exact SeqAt.EqAt.int_str i t y u _ _ _ _ h
  ·rcases keyIs_shape hv with ⟨j,u,rfl,rfl⟩ | ⟨y,u,rfl,rfl⟩
   ·rw [key_rl] at h; exact SeqAt.EqAt.str_int x t j u _ _ _ _ h
   ·rw [key_rr] at h; exact wpAny_eqBool_str h
 «strs»:=fun k x t v h=>by
  rcases keyIs_shape h with ⟨i,u,rfl,e⟩ | ⟨y,u,rfl,e⟩
  ·exact nomatch e
  ·injection e with e1 _
   subst e1
   cases v <;> rfl
theorem mixKind_int (prog:Program) (w:World) (i:Int) (t:Tok):(mixKind prog w).is (.inl i) (.int i t)=true:=keyIs_int i t
theorem mixKind_str (prog:Program) (w:World) (x:Str) (t:Tok):(mixKind prog w).is (.inr x) (.str x t)=true:=keyIs_str x t
end L2
namespace L2
open PySem PySem.Spec PyProof.Rows
inductive V where
 | non | bl (b:Bool) | int (i:Int) | str (x:Str) | byt (b:Array UInt8) | flt (b:UInt64) | ref (a:Addr) | ty (n:String)
 deriving DecidableEq
noncomputable def RelV:V->Value->Prop
 | .non,u=>u=Value.none
 | .bl b,u=>u=Value.bool b
 | .int i,u=>∃ t,u=Value.int i t
 | .str x,u=>∃ t,u=Value.str x t
 | .byt b,u=>∃ t,u=Value.bytes b t
 | .flt b,u=>∃ t,u=Value.float b t
 | .ref a,u=>u=Value.ref a
 | .ty n,u=>u=Value.type n
noncomputable abbrev Vals:List V->List Value->Prop:=Paired RelV
theorem Vals.length {xs:List V} {us:List Value} (r:Vals xs us):xs.length=us.length:=Paired.length r
theorem Vals.get:∀ {xs:List V} {us:List Value} {i:Nat} {x:V},Vals xs us->xs[i]? = some x->∃ u,us[i]? = some u/\RelV x u
 | _,_,_,_,.nil,e=>by simp at e
 | _,_,0,_,.cons r _,e=>by simp at e; subst e; exact ⟨_,rfl,r⟩
 | _,_,i + 1,x,.cons _ t,e=>by
  obtain ⟨u,h1,h2⟩:=Vals.get (i:=i) (x:=x) t (by simpa using e)
  exact ⟨u,by simpa using h1,h2⟩
theorem Vals.append:∀ {xs ys:List V} {us ws:List Value},Vals xs us->Vals ys ws->Vals (xs ++ ys) (us ++ ws)
 | _,_,_,_,.nil,s=>s
 | _,_,_,_,.cons r t,s=>.cons r (Vals.append t s)
noncomputable def RelO:Option V->Option Value->Prop
 | some v,some u=>RelV v u
 | none,none=>True
 | _,_=>False
noncomputable def KV {κ:Type}:List (κ × V)->List (κ × Value)->Prop:=Paired fun (p:κ × V) (q:κ × Value)=>p.1=q.1/\RelV p.2 q.2
noncomputable def kV:Key->V
 | .inl i=>.int i
 | .inr x=>.str x
inductive HO where
 | lst (xs:List V)
 | tup (xs:List V)
 | dK (kvs:List (Key × V)) | dT (kvs:List (List Key × V))
 | set (S:Int->Bool) (n:Nat)
 | ins (C dx:Addr) (fs:List (Str × V))
 | own (x:Addr)
 | xd (fs:List (Str × V))
 | met (f x:Addr)
 | rng (lo hi:Int)
 | frz (o:Obj) (u:HO)
 | tbl (ps:Array Value)
 | ext (φ:Heap->Prop)
noncomputable abbrev Hp:=Addr->Option HO
noncomputable def upd (H:Hp) (a:Addr) (o:HO):Hp:=fun b=>if b=a then some o else H b
theorem upd_same {H:Hp} {a:Addr} {o:HO}:upd H a o a=some o:=by unfold upd; rw [if_pos rfl]
theorem upd_ne {H:Hp} {a b:Addr} {o:HO} (h:b ≠ a):upd H a o b=H b:=by unfold upd; rw [if_neg h]
theorem ne_of {H:Hp} {a b:Addr} {o u:HO} (h:H a=some o) (h':H b=some u) (d:o ≠ u):a ≠ b:=by
 intro e; subst e; rw [h] at h'; exact d (Option.some.inj h')
theorem ne_of_none {H:Hp} {a b:Addr} {o:HO} (h:H a=some o) (h':H b=none):a ≠ b:=by
 intro e; subst e; rw [h] at h'; cases h'
section
variable (P:Program) (w:World)
noncomputable def ObjOk (H:Hp) (h:Heap) (a:Addr):HO->Prop
 | .lst xs=>xs.length<=sizeLine/\∃ (its:List Value) (n:Nat),Vals xs its/\h.get? a=some { cls:=.type "list",data:=.seq its.toArray n }
 | .tup xs=>xs.length<=sizeLine/\∃ its:List Value,Vals xs its/\IsTup h a its.toArray
 | .dK kvs=>kvs.length<=sizeLine/\(a == sysModules)=false/\∃ vs,KV kvs vs/\h.DictOf (mixKind P w) a vs
 | .dT kvs=>kvs.length<=sizeLine/\(a == sysModules)=false/\∃ xs:List (List Key × Addr × Value),
   Paired (fun (p:List Key × V) (q:List Key × Addr × Value)=>p.1=q.1/\H q.2.1=some (.tup (p.1.map kV))/\RelV p.2 q.2.2) kvs xs/\
   ∃ o es ep,h.get? a=some o/\o.ExactDict/\o.data=.dict es ep/\es.toList=xs.map (entryOfKey (tupleKind (mixKind P w)))/\(xs.map (·.1)).Nodup
 | .set S n=>h.SetOf (intKind P w) a S n
 | .ins C dx fs=>H dx=some (.own a)/\fs.length<=1000/\dx ≠ a/\h.get? a=some (PySem.W.instObj C dx)/\
   ∃ mA,h.Ns1 dx mA/\(∀ f,RelO (fs.lookup f) (mA f))/\PySem.Within mA (fs.map (·.1))
 | .own _=>∃ o,h.get? a=some o
 | .xd fs=>∃ mA,h.Ns1 a mA/\∀ f,RelO (fs.lookup f) (mA f)
 | .rng lo hi=>∃ t u v,h.get? a=some { cls:=.type "range",data:=.fields #[.int lo t,.int hi u,.int 1 v] }
 | .frz o u=>h.get? a=some o/\ObjOk H h a u
 | .tbl ps=>h.get? a=some { cls:=.none,data:=.fields ps }
 | .met f x=>h.get? a=some (PySem.W.methodObj (.ref f) (.ref x))
 | .ext φ=>φ h/\(∃ o,h.get? a=some o)/\∀ h1 h2:Heap,φ h1->(∀ o,h1.get? a=some o->h2.get? a=some o)->φ h2
noncomputable def HOk (H:Hp) (h:Heap):Prop:=∀ a o,H a=some o->ObjOk P w H h a o
end
section
variable {P:Program} {w:World} {H H':Hp} {h h':Heap} {a:Addr} {o:HO}
theorem ObjOk.lt (x:ObjOk P w H h a o):a < h.objs.size:=by
 cases o with
 | lst xs=>obtain ⟨_,_,_,_,e⟩:=x; exact Heap.lt_size e
 | tup xs=>obtain ⟨_,_,_,p⟩:=x; exact p.lt
 | dK kvs=>obtain ⟨_,_,_,_,o,_,_,e,_⟩:=x; exact Heap.lt_size e
 | dT kvs=>obtain ⟨_,_,_,_,o,_,_,e,_⟩:=x; exact Heap.lt_size e
 | set S n=>obtain ⟨o,_,_,_,e,_⟩:=x; exact Heap.lt_size e
 | ins C dx fs=>obtain ⟨_,_,_,e,_⟩:=x; exact Heap.lt_size e
 | own y=>obtain ⟨_,e⟩:=x; exact Heap.lt_size e
 | xd fs=>obtain ⟨_,⟨_,_,_,e,_⟩,_⟩:=x; exact Heap.lt_size e
 | rng lo hi=>obtain ⟨_,_,_,e⟩:=x; exact Heap.lt_size e
 | frz ob u=>obtain ⟨e,_⟩:=x; exact Heap.lt_size e
 | tbl ps=>exact Heap.lt_size (show h.get? a=some _ from x)
 | met f y=>exact Heap.lt_size (show h.get? a=some _ from x)
 | ext φ=>obtain ⟨_,⟨_,e⟩,_⟩:=x; exact Heap.lt_size e
theorem Paired.mapP {α β:Type} {F G:α->β->Prop}:∀ {l₁:List α} {l₂:List β},Paired F l₁ l₂->(∀ a b,F a b->G a b)->Paired G l₁ l₂
 | _,_,.nil,_=>.nil
 | _,_,.cons r t,f=>.cons (f _ _ r) (Paired.mapP t f)
theorem ObjOk.stay (x:ObjOk P w H h a o) (k:∀ b u,(b=a\/H b=some (.own a))->h.get? b=some u->h'.get? b=some u)
  (ho:∀ b,H b=some (.own a)->H' b=some (.own a)) (ht:∀ b xs,H b=some (.tup xs)->H' b=some (.tup xs)):ObjOk P w H' h' a o:=by
 induction o with
 | lst xs=>obtain ⟨z,its,n,r,e⟩:=x; exact ⟨z,its,n,r,k _ _ (.inl rfl) e⟩
 | tup xs=>obtain ⟨z,its,r,ob,e,c⟩:=x; exact ⟨z,its,r,ob,k _ _ (.inl rfl) e,c⟩
 | dK kvs=>obtain ⟨z,y,vs,r,ob,es,ep,e,c⟩:=x; exact ⟨z,y,vs,r,ob,es,ep,k _ _ (.inl rfl) e,c⟩
 | dT kvs=>
  obtain ⟨z,y,xs,r,ob,es,ep,e,c⟩:=x
  exact ⟨z,y,xs,Paired.mapP r fun p q z=>⟨z.1,ht _ _ z.2.1,z.2.2⟩,ob,es,ep,k _ _ (.inl rfl) e,c⟩
 | set S n=>obtain ⟨ob,es,ep,t,e,c⟩:=x; exact ⟨ob,es,ep,t,k _ _ (.inl rfl) e,c⟩
 | ins C dx fs=>
  obtain ⟨d,z,ne,e,mA,⟨od,es,ep,e2,c⟩,r⟩:=x
  exact ⟨ho _ d,z,ne,k _ _ (.inl rfl) e,mA,⟨od,es,ep,k _ _ (.inr d) e2,c⟩,r⟩
 | own y=>obtain ⟨ob,e⟩:=x; exact ⟨ob,k _ _ (.inl rfl) e⟩
 | xd fs=>obtain ⟨mA,⟨od,es,ep,e,c⟩,r⟩:=x; exact ⟨mA,⟨od,es,ep,k _ _ (.inl rfl) e,c⟩,r⟩
 | rng lo hi=>obtain ⟨t,u,v,e⟩:=x; exact ⟨t,u,v,k _ _ (.inl rfl) e⟩
 | frz ob u ih=>obtain ⟨e,q⟩:=x; exact ⟨k _ _ (.inl rfl) e,ih q⟩
 | tbl ps=>
  have e:h.get? a=some { cls:=.none,data:=.fields ps }:=x
  show h'.get? a=some { cls:=.none,data:=.fields ps }
  exact k a _ (.inl rfl) e
 | met f y=>
  have e:h.get? a=some (PySem.W.methodObj (.ref f) (.ref y)):=x
  show h'.get? a=some (PySem.W.methodObj (.ref f) (.ref y))
  exact k a _ (.inl rfl) e
 | ext φ=>obtain ⟨p,⟨o,e⟩,st⟩:=x; exact ⟨st _ _ p fun o q=>k _ _ (.inl rfl) q,⟨o,k _ _ (.inl rfl) e⟩,st⟩
theorem HOk.lt (x:HOk P w H h) (e:H a=some o):a < h.objs.size:=(x a o e).lt
theorem HOk.fresh (x:HOk P w H h) (e:h.objs.size<=a):H a=none:=by
 cases q:H a with
 | none=>rfl
 | some u=>exact absurd (Nat.lt_of_lt_of_le (x.lt q) e) (Nat.lt_irrefl _)
theorem HOk.kept (x:HOk P w H h) (k:∀ b u,h.get? b=some u->h'.get? b=some u):HOk P w H h':=fun a o e=>
 (x a o e).stay (fun b u _ q=>k b u q) (fun _ q=>q) fun _ _ q=>q
theorem HOk.laid (x:HOk P w H h) (k:∀ b u,h.get? b=some u->h'.get? b=some u) (hp:h.objs.size<=a) (new:ObjOk P w (upd H a o) h' a o):HOk P w (upd H a o) h':=fun b u e=>by
 have hn:=x.fresh hp
 by_cases hb:b=a
 ·subst hb; rw [upd_same] at e; cases e; exact new
 ·rw [upd_ne hb] at e
  exact (x b u e).stay (fun c v _ q=>k c v q) (fun c q=>by rw [upd_ne (ne_of_none q hn)]; exact q) fun c xs q=>by rw [upd_ne (ne_of_none q hn)]; exact q
end
noncomputable def Rd (H:Hp) (a:Addr) (u:HO):Prop:=H a=some u\/∃ o,H a=some (.frz o u)
theorem Rd.of {H:Hp} {a:Addr} {u:HO} (h:H a=some u):Rd H a u:=.inl h
theorem Rd.ok {P:Program} {w:World} {H:Hp} {h:Heap} {a:Addr} {u:HO} (r:Rd H a u) (x:HOk P w H h):ObjOk P w H h a u:=by
 rcases r with r | ⟨o,r⟩
 ·exact x a u r
 ·obtain ⟨_,q⟩:=x a _ r
  exact q
noncomputable def Mut:Option HO->Prop
 | some (.lst _)=>True
 | some (.dK _)=>True
 | some (.dT _)=>True
 | some (.set _ _)=>True
 | some (.ins _ _ _)=>True
 | some (.ext _)=>True
 | _=>False
section
variable {P:Program} {w:World} {H:Hp} {h h':Heap} {x e:Addr} {o':HO}
theorem HOk.write (ok:HOk P w H h) (mu:Mut (H x)) (he:e=x\/H e=some (.own x)) (k:∀ b u,b ≠ e->h.get? b=some u->h'.get? b=some u) (heo:∃ u,h'.get? e=some u)
  (new:ObjOk P w (upd H x o') h' x o'):HOk P w (upd H x o') h':=fun b u q=>by
 have nown:∀ c y,H c=some (.own y)->c ≠ x:=fun c y r z=>by subst z; rw [r] at mu; exact mu
 have ntup:∀ c xs,H c=some (.tup xs)->c ≠ x:=fun c xs r z=>by subst z; rw [r] at mu; exact mu
 by_cases hb:b=x
 ·subst hb; rw [upd_same] at q; cases q; exact new
 ·rw [upd_ne hb] at q
  by_cases hbe:b=e
  ·have q':H b=some (.own x):=by
    rcases he with z | z
    ·exact absurd (hbe.trans z) hb
    ·rw [hbe]; exact z
   rw [q] at q'; cases q'
   obtain ⟨v,hv⟩:=heo
   exact ⟨v,by rw [hbe]; exact hv⟩
  ·refine (ok b u q).stay (fun c v hc r=>k c v ?_ r) (fun c r=>by rw [upd_ne (nown c b r)]; exact r) fun c xs r=>by rw [upd_ne (ntup c xs r)]; exact r
   rcases hc with rfl | hc
   ·exact hbe
   ·rintro rfl
    rcases he with z | z
    ·exact nown c b hc z
    ·rw [hc] at z; cases z; exact hb rfl
end
structure Un (fs ex:List Addr) (H H':Hp) (h h':Heap):Prop where
 keep:∀ b o,h.get? b=some o->H b=none->b ∉ fs->b ∉ ex->h'.get? b=some o
 slot:∀ b o,h.get? b=some o->H b=none->b ∈ fs->b ∉ ex->∃ sl,h'.get? b=some { o with slots:=sl }
 free:∀ b o,h.get? b=some o->H b=none->b ∉ ex->H' b=none
 there:∀ b o,h.get? b=some o->b ∉ ex->∃ o',h'.get? b=some o'
 tups:∀ b xs,H b=some (.tup xs)->H' b=some (.tup xs)
 frzs:∀ b o u,H b=some (.frz o u)->H' b=some (.frz o u)
 tbls:∀ b ps,H b=some (.tbl ps)->∃ more,H' b=some (.tbl (ps ++ more))
section
variable {fs fs' ex ex':List Addr} {H H1 H2:Hp} {h h1 h2 h':Heap} {a x e:Addr} {o:HO}
theorem Un.any (u:Un fs ex H H1 h h1) {b:Addr} {ob:Obj} (q:h.get? b=some ob) (n:H b=none) (hx:b ∉ ex):∃ sl,h1.get? b=some { ob with slots:=sl }:=by
 by_cases hb:b ∈ fs
 ·exact u.slot b ob q n hb hx
 ·exact ⟨ob.slots,u.keep b ob q n hb hx⟩
theorem Un.kept (k:∀ b u,h.get? b=some u->h'.get? b=some u):Un fs ex H H h h':=
 ⟨fun b ob q _ _ _=>k b ob q,fun b ob q _ _ _=>⟨ob.slots,k b ob q⟩,fun _ _ _ n _=>n,fun b ob q _=>⟨ob,k b ob q⟩,fun _ _ q=>q,fun _ _ _ q=>q,fun _ ps q=>⟨#[],by rw [q]; simp⟩⟩
theorem Un.refl:Un fs ex H H h h:=Un.kept fun _ _ q=>q
theorem Un.laid (k:∀ b u,h.get? b=some u->h'.get? b=some u) (hp:h.objs.size<=a) (hn:H a=none):Un fs ex H (upd H a o) h h' where
 keep:=fun b u q _ _ _=>k b u q
 slot:=fun b u q _ _ _=>⟨u.slots,k b u q⟩
 free:=fun b u q n _=>by rw [upd_ne (Nat.ne_of_lt (Nat.lt_of_lt_of_le (Heap.lt_size q) hp))]; exact n
 there:=fun b u q _=>⟨u,k b u q⟩
 tups:=fun b xs q=>by rw [upd_ne (ne_of_none q hn)]; exact q
 frzs:=fun b u xs q=>by rw [upd_ne (ne_of_none q hn)]; exact q
 tbls:=fun b ps q=>⟨#[],by rw [upd_ne (ne_of_none q hn),q]; simp⟩
theorem Un.write (mu:Mut (H x)) (he:e=x\/H e=some (.own x)) (k:∀ b u,b ≠ e->h.get? b=some u->h'.get? b=some u) (heo:∃ u,h'.get? e=some u):Un fs ex H (upd H x o) h h':=by
 have hx:∀ b,H b=none->b ≠ x:=fun b n z=>by subst z; rw [n] at mu; exact mu
 have hb:∀ b,H b=none->b ≠ e:=fun b n z=>by
  subst z
  rcases he with r | r
  ·exact hx b n r
  ·rw [n] at r; cases r
 have hm:∀ b u,H b=some u->¬ Mut (some u)->b ≠ x:=fun b u q nm z=>by subst z; rw [q] at mu; exact nm mu
 refine ⟨fun b u q n _ _=>k b u (hb b n) q,fun b u q n _ _=>⟨u.slots,k b u (hb b n) q⟩,fun b u q n _=>by rw [upd_ne (hx b n)]; exact n,fun b u q _=>?_,
  fun b xs q=>by rw [upd_ne (hm b _ q fun z=>z)]; exact q,fun b u xs q=>by rw [upd_ne (hm b _ q fun z=>z)]; exact q,fun b ps q=>⟨#[],by rw [upd_ne (hm b _ q fun z=>z),q]; simp⟩⟩
 by_cases hbe:b=e
 ·subst hbe; exact heo
 ·exact ⟨u,k b u hbe q⟩
end
noncomputable def trk (h:Heap) (H:Hp):List Addr:=(List.range h.objs.size).filter fun a=>(H a).isSome
noncomputable def hidT (h:Heap) (H:Hp):Heap:=PySem.W.hideAll h (trk h H)
theorem hidT_size (h:Heap) (H:Hp):(hidT h H).objs.size=h.objs.size:=PySem.W.hideAll_size _ _
theorem hidT_get {h:Heap} {H:Hp} {b:Addr} {o:Obj} (e:h.get? b=some o) (n:H b=none):(hidT h H).get? b=some o:=
 PySem.W.hideAll_get _ e fun hm=>by
  have q:(H b).isSome=true:=(List.mem_filter.mp hm).2
  rw [n] at q; simp at q
theorem of_hidT {h:Heap} {H:Hp} {b:Addr} {o:Obj} (e:(hidT h H).get? b=some o):h.get? b=some o/\H b=none:=by
 have e':h.get? b=some o:=PySem.W.of_hideAll (trk h H) e
 refine ⟨e',?_⟩
 cases q:H b with
 | none=>rfl
 | some x=>
  have hm:b ∈ trk h H:=List.mem_filter.mpr ⟨List.mem_range.mpr (Heap.lt_size e'),by simp [q]⟩
  have z:(hidT h H).get? b=none:=PySem.W.hideAll_none (trk h H) hm
  rw [z] at e; cases e
end L2
namespace L2
open PySem PySem.Spec PyProof.Rows
structure Mod (K:PySem.W.Frag) (mg:Str->Option Value) (base:Heap):Prop where
 kin:K.In base
 glob:base.Ns mainGlobals mg
 blt:∃ mb,base.Ns builtinsNs mb/\∀ x:Str,x ≠ "__name__"->mb x=bootBuiltins x
 nolimit:base.NoLimit
structure Cx where
 prog:Program
 w:World
 K:PySem.W.Frag
 mg:Str->Option Value
 base:Heap
 A:Around
 N:List Str
 s₀:Shared
 H₀:Hp
 env:Env
 outer:List Env
 stack:List Env
 ex:List Addr
 fn:Str->Bool
 calm:Bool
 pn:List (Addr × Obj)
 xe:Value->Shared->Prop
noncomputable def frs (l:List Env):List Addr:=l.filterMap (·.frame)
noncomputable abbrev Cx.fs (X:Cx):List Addr:=frs X.outer
noncomputable def Vis (sc:Scope) (x:Str):Prop:=sc.names.lookup x=some .local\/sc.names.lookup x=some .cell\/sc.names.lookup x=some .free
noncomputable def Loc (sc:Scope) (x:Str):Prop:=sc.names.lookup x=some .local\/sc.names.lookup x=some .cell
noncomputable def Look (env:Env) (h:Heap) (m:Str->Option Value) (x:Str) (u:Value):Prop:=
 (env.kindOf x=some .local/\m x=some u)\/((env.kindOf x=some .cell\/env.kindOf x=some .free)/\∃ c,env.cells.lookup x=some c/\h.IsCell c (some u))
structure Cx.Ok (X:Cx):Prop where
 mod:Mod X.K X.mg X.base
 kind:X.env.scope.kind=.function
 glob:X.env.globals=mainGlobals
 blt:X.env.builtins=builtinsNs
 above:X.s₀.heap.objs.size<=X.env.locals
 inj:∀ x y c,X.env.cells.lookup x=some c->X.env.cells.lookup y=some c->x=y
 has:∀ x,(X.env.kindOf x=some .cell\/X.env.kindOf x=some .free)->∃ c,X.env.cells.lookup x=some c
 cab:∀ x c,X.fn x=true->X.env.cells.lookup x=some c->X.s₀.heap.objs.size<=c
 hd:X.calm=true->X.A.handled=none
 frames:X.A.frames=some X.stack
 stk:X.stack=X.outer\/(X.stack=X.env :: X.outer/\X.env.frame=some X.env.locals)
 exf:∀ b ∈ X.ex,b ≠ X.env.locals/\∀ x c,X.env.cells.lookup x=some c->c ≠ b
 bs:∀ b o,X.base.get? b=some o->X.s₀.heap.get? b=some o/\X.H₀ b=none
 bsz:X.base.objs.size<=X.s₀.heap.objs.size
 noex:∀ b o,X.base.get? b=some o->b ∉ X.ex
 exfs:∀ b ∈ X.ex,b ∉ X.fs
 funs:X.s₀.heap.FunFrames X.base X.outer
 frf:∀ b ∈ X.fs,X.H₀ b=none
structure Inv (X:Cx) (pins:List (Addr × Obj)) (σ:List (Option V)) (H:Hp) (s:Shared):Prop where
 ok:X.Ok
 os:s.os=X.s₀.os
 bare:AllBare s.gens
 base:Un X.fs X.ex X.H₀ H X.s₀.heap s.heap
 loc:∃ m,s.heap.Ns X.env.locals m/\∀ (i:Nat) (x:Str) (v:V),X.N[i]? = some x->σ[i]? = some (some v)->Vis X.env.scope x->∃ u,RelV v u/\Look X.env s.heap m x u
 cell:∀ x c,X.env.cells.lookup x=some c->∃ v,s.heap.IsCell c v
 free:H X.env.locals=none
 freeC:∀ x c,X.env.cells.lookup x=some c->H c=none
 pin:∀ p ∈ X.pn ++ pins,s.heap.get? p.1=some p.2/\H p.1=none/\p.1 ≠ X.env.locals/\p.1 ∉ X.fs/\∀ v,p.2.data ≠ .cell v
 hok:HOk X.prog X.w H s.heap
 len:σ.length=X.N.length
section
variable {X:Cx} {pins:List (Addr × Obj)} {σ:List (Option V)} {H H':Hp} {s:Shared} {h':Heap}
theorem Cx.Ok.nofr (ok:X.Ok) {b:Addr} {o:Obj} (e:X.base.get? b=some o):b ∉ X.fs:=fun hb=>by
 have:=(ok.funs.mem hb).1
 rw [e] at this; cases this
theorem Inv.bs (I:Inv X pins σ H s):∀ b o,X.base.get? b=some o->s.heap.get? b=some o/\H b=none:=fun b o e=>
 ⟨I.base.keep b o (I.ok.bs b o e).1 (I.ok.bs b o e).2 (I.ok.nofr e) (I.ok.noex b o e),I.base.free b o (I.ok.bs b o e).1 (I.ok.bs b o e).2 (I.ok.noex b o e)⟩
theorem Inv.bk (I:Inv X pins σ H s):∀ b o,X.base.get? b=some o->s.heap.get? b=some o:=fun b o e=>(I.bs b o e).1
theorem Inv.mod (I:Inv X pins σ H s):Mod X.K X.mg X.base:=I.ok.mod
theorem Inv.kIn (I:Inv X pins σ H s):X.K.In s.heap:=I.ok.mod.kin.keeps I.bk
theorem Inv.lt (I:Inv X pins σ H s):X.env.locals < s.heap.objs.size:=let ⟨_,hn,_⟩:=I.loc; hn.lt
theorem Inv.sz (I:Inv X pins σ H s):X.s₀.heap.objs.size<=s.heap.objs.size:=Nat.le_trans I.ok.above (Nat.le_of_lt I.lt)
theorem Inv.nofs (I:Inv X pins σ H s) {a:Addr} (h:s.heap.objs.size<=a):a ∉ X.fs:=fun hb=>by
 obtain ⟨_,o,ho,_⟩:=I.ok.funs.mem hb
 exact absurd (Nat.lt_of_lt_of_le (Heap.lt_size ho) (Nat.le_trans I.sz h)) (Nat.lt_irrefl _)
theorem Inv.cne (I:Inv X pins σ H s):∀ x c,X.env.cells.lookup x=some c->c ≠ X.env.locals:=fun x c e z=>by
 obtain ⟨v,o,ho,hd⟩:=I.cell x c e
 obtain ⟨m,⟨o',es,ep,ho',hd',_⟩,_⟩:=I.loc
 rw [z,ho'] at ho; cases ho; rw [hd'] at hd; cases hd
theorem Inv.funs (I:Inv X pins σ H s):s.heap.FunFrames X.base X.outer:=by
 have all:∀ (l:List Env),(∀ b ∈ frs l,b ∈ X.fs)->X.s₀.heap.FunFrames X.base l->s.heap.FunFrames X.base l:=by
  intro l
  induction l with
  | nil=>intro _ _; trivial
  | cons env r ih=>
   intro hs hl
   obtain ⟨hk,⟨L,o,hf,hn,ho,hd⟩,hr⟩:=hl
   have hL:L ∈ X.fs:=hs L (by unfold frs; rw [List.filterMap_cons,hf]; exact List.mem_cons_self)
   obtain ⟨sl,e⟩:=I.base.slot L o ho (I.ok.frf L hL) hL fun z=>I.ok.exfs L z hL
   exact ⟨hk,⟨L,_,hf,hn,e,hd⟩,ih (fun b hb=>hs b (by unfold frs; rw [List.filterMap_cons,hf]; exact List.mem_cons_of_mem _ hb)) hr⟩
 exact all X.outer (fun _ hb=>hb) I.ok.funs
theorem Inv.stack (I:Inv X pins σ H s):s.heap.FunFrames X.base X.stack:=by
 rcases I.ok.stk with e | ⟨e,hf⟩
 ·rw [e]; exact I.funs
 ·rw [e]
  obtain ⟨m,hn,_⟩:=I.loc
  refine .cons (by rw [I.ok.kind]; decide) hf hn ?_ I.funs
  exact Heap.get?_none_of_le (Nat.le_trans I.ok.bsz I.ok.above)
theorem Inv.stkSub (I:Inv X pins σ H s):∀ b ∈ frs X.stack,b ∈ X.env.locals :: X.fs:=fun b hb=>by
 rcases I.ok.stk with e | ⟨e,hf⟩
 ·rw [e] at hb; exact List.mem_cons_of_mem _ hb
 ·rw [e] at hb
  unfold frs at hb
  rw [List.filterMap_cons,hf] at hb
  exact hb
theorem Inv.stkFree (I:Inv X pins σ H s):∀ b ∈ frs X.stack,H b=none:=fun b hb=>by
 rcases List.mem_cons.mp (I.stkSub b hb) with e | hb
 ·rw [e]; exact I.free
 ·obtain ⟨_,o,ho,_⟩:=I.ok.funs.mem hb
  exact I.base.free b o ho (I.ok.frf b hb) fun z=>I.ok.exfs b z hb
theorem Inv.step {g':Array GenState} {t':Nat} {d':Drawn} {ch:List Addr} (I:Inv X pins σ H s)
  (hch:∀ b ∈ ch,(b ∈ X.ex\/X.s₀.heap.objs.size<=b)/\b ≠ X.env.locals/\(∀ x c,X.env.cells.lookup x=some c->c ≠ b)/\∀ p ∈ X.pn ++ pins,p.1 ≠ b)
  (keep:∀ b o,b ≠ X.env.locals->b ∉ X.fs->b ∉ ch->s.heap.get? b=some o->H b=none->h'.get? b=some o)
  (slot:∀ b o,b ≠ X.env.locals->b ∈ X.fs->b ∉ ch->s.heap.get? b=some o->H b=none->∃ sl,h'.get? b=some { o with slots:=sl }) (free:∀ b o,b ∉ ch->s.heap.get? b=some o->H b=none->H' b=none)
  (there:∀ b o,b ∉ ch->s.heap.get? b=some o->∃ o',h'.get? b=some o')
  (tups:∀ b xs,H b=some (.tup xs)->H' b=some (.tup xs)) (frzs:∀ b o u,H b=some (.frz o u)->H' b=some (.frz o u)) (tbls:∀ b ps,H b=some (.tbl ps)->∃ more,H' b=some (.tbl (ps ++ more)))
  (ns:∀ m,s.heap.Ns X.env.locals m->h'.Ns X.env.locals m) (hok:HOk X.prog X.w H' h') (hg:AllBare g') :
  Inv X pins σ H' { s with heap:=h',gens:=g',drawn:=d',toks:=t' }:=by
 have neL:∀ b o,X.s₀.heap.get? b=some o->b ≠ X.env.locals:=fun b o e=>Nat.ne_of_lt (Nat.lt_of_lt_of_le (Heap.lt_size e) I.ok.above)
 have neC:∀ b o,X.s₀.heap.get? b=some o->b ∉ X.ex->b ∉ ch:=fun b o e hx hb=>by
  rcases (hch b hb).1 with z | z
  ·exact hx z
  ·exact absurd (Nat.lt_of_lt_of_le (Heap.lt_size e) z) (Nat.lt_irrefl _)
 have cellK:∀ x c,X.env.cells.lookup x=some c->∀ v,s.heap.IsCell c v->h'.IsCell c v:=fun x c e v ⟨o,ho,hd⟩=>by
  have nch:c ∉ ch:=fun z=>(hch c z).2.2.1 x c e rfl
  by_cases hc:c ∈ X.fs
  ·obtain ⟨sl,q⟩:=slot c o (I.cne x c e) hc nch ho (I.freeC x c e)
   exact ⟨_,q,hd⟩
  ·exact ⟨o,keep c o (I.cne x c e) hc nch ho (I.freeC x c e),hd⟩
 refine ⟨I.ok,I.os,hg,⟨fun b o e n hb hx=>?_,fun b o e n hb hx=>?_,fun b o e n hx=>?_,fun b o e hx=>?_,fun b xs e=>tups b xs (I.base.tups b xs e),fun b o xs e=>frzs b o xs (I.base.frzs b o xs e),fun b ps e=>?_⟩,?_,fun x c e=>?_,?_,fun x c e=>?_,fun p hp=>?_,hok,I.len⟩
 ·exact keep b o (neL b o e) hb (neC b o e hx) (I.base.keep b o e n hb hx) (I.base.free b o e n hx)
 ·obtain ⟨sl,e1⟩:=I.base.slot b o e n hb hx
  obtain ⟨sl',e2⟩:=slot b _ (neL b o e) hb (neC b o e hx) e1 (I.base.free b o e n hx)
  exact ⟨sl',e2⟩
 ·obtain ⟨o',e1⟩:=I.base.there b o e hx
  exact free b o' (neC b o e hx) e1 (I.base.free b o e n hx)
 ·obtain ⟨o',e1⟩:=I.base.there b o e hx
  exact there b o' (neC b o e hx) e1
 ·obtain ⟨m1,e1⟩:=I.base.tbls b ps e
  obtain ⟨m2,e2⟩:=tbls b _ e1
  exact ⟨m1 ++ m2,by rw [e2,Array.append_assoc]⟩
 ·obtain ⟨m,hn,hl⟩:=I.loc
  refine ⟨m,ns m hn,fun i x v e1 e2 e3=>?_⟩
  obtain ⟨u,r,l⟩:=hl i x v e1 e2 e3
  refine ⟨u,r,?_⟩
  rcases l with l | ⟨k,c,e,z⟩
  ·exact .inl l
  ·exact .inr ⟨k,c,e,cellK x c e _ z⟩
 ·obtain ⟨v,z⟩:=I.cell x c e
  exact ⟨v,cellK x c e v z⟩
 ·obtain ⟨m,⟨o,_,_,ho,_⟩,_⟩:=I.loc
  exact free _ o (fun z=>(hch _ z).2.1 rfl) ho I.free
 ·obtain ⟨v,o,ho,hd⟩:=I.cell x c e
  exact free c o (fun z=>(hch c z).2.2.1 x c e rfl) ho (I.freeC x c e)
 ·obtain ⟨e,n,ne,nf,d⟩:=I.pin p hp
  have nch:p.1 ∉ ch:=fun z=>(hch p.1 z).2.2.2 p hp rfl
  exact ⟨keep p.1 p.2 ne nf nch e n,free p.1 p.2 nch e n,ne,nf,d⟩
theorem Inv.un {t':Nat} (I:Inv X pins σ H s) (u:Un X.fs [] H H' s.heap h') (hok:HOk X.prog X.w H' h'):Inv X pins σ H' { s with heap:=h',toks:=t' }:=by
 obtain ⟨m,⟨o,es,ep,ho,r⟩,_⟩:=id I.loc
 obtain ⟨sl,hL⟩:=u.any ho I.free (by simp)
 exact I.step (g':=s.gens) (d':=s.drawn) (ch:=[]) (fun _ z=>nomatch z) (fun b o _ hb _ e n=>u.keep b o e n hb (by simp)) (fun b o _ hb _ e n=>u.slot b o e n hb (by simp)) (fun b o _ e n=>u.free b o e n (by simp)) (fun b o _ e=>u.there b o e (by simp)) u.tups u.frzs u.tbls (fun m' hm=>by
  obtain ⟨o',es',ep',ho',r'⟩:=hm
  rw [ho] at ho'; cases ho'
  exact ⟨_,es',ep',hL,r'⟩) hok I.bare
theorem Inv.call {g':Array GenState} {t':Nat} {d':Drawn} {ch:List Addr} (I:Inv X pins σ H s) (u:Un (frs X.stack) ch H H' s.heap h') (hok:HOk X.prog X.w H' h') (hg:AllBare g')
  (hch:∀ b ∈ ch,(b ∈ X.ex\/X.s₀.heap.objs.size<=b)/\b ≠ X.env.locals/\(∀ x c,X.env.cells.lookup x=some c->c ≠ b)/\∀ p ∈ X.pn ++ pins,p.1 ≠ b) :
  Inv X pins σ H' { s with heap:=h',gens:=g',drawn:=d',toks:=t' }:=by
 obtain ⟨m,⟨o,es,ep,ho,r⟩,_⟩:=id I.loc
 obtain ⟨sl,hL⟩:=u.any ho I.free fun z=>(hch _ z).2.1 rfl
 exact I.step (ch:=ch) hch (fun b o hL hb hc e n=>u.keep b o e n (fun z=>(List.mem_cons.mp (I.stkSub b z)).elim hL hb) hc) (fun b o _ _ hc e n=>u.any e n hc) (fun b o hc e n=>u.free b o e n hc) (fun b o hc e=>u.there b o e hc) u.tups u.frzs u.tbls (fun m' hm=>by
  obtain ⟨o',es',ep',ho',r'⟩:=hm
  rw [ho] at ho'; cases ho'
  exact ⟨_,es',ep',hL,r'⟩) hok hg
theorem Inv.turned {t':Nat} {it:Addr} (I:Inv X pins σ H s) (k:∀ b o,b ≠ it->s.heap.get? b=some o->h'.get? b=some o) (hn:H it=none) (hL:it ≠ X.env.locals)
  (h1:it ∈ X.ex\/X.s₀.heap.objs.size<=it) (h2:∀ x c,X.env.cells.lookup x=some c->c ≠ it) (h3:∀ p ∈ X.pn ++ pins,p.1 ≠ it):Inv X pins σ H { s with heap:=h',toks:=t' }:=by
 have nit:∀ b u,H b=some u->b ≠ it:=fun b u e z=>by rw [z,hn] at e; cases e
 refine I.step (g':=s.gens) (d':=s.drawn) (ch:=[it]) (fun b hb=>?_) (fun b o _ _ hc e _=>k b o (fun z=>hc (by simp [z])) e) (fun b o _ _ hc e _=>⟨o.slots,k b o (fun z=>hc (by simp [z])) e⟩) (fun _ _ _ _ n=>n)
  (fun b o hc e=>⟨o,k b o (fun z=>hc (by simp [z])) e⟩) (fun _ _ e=>e) (fun _ _ _ e=>e) (fun b ps e=>⟨#[],by rw [e]; simp⟩) (fun m hm=>?_) (fun b u e=>?_) I.bare
 ·have e:b=it:=by simpa using hb
  subst e
  exact ⟨h1,hL,h2,h3⟩
 ·obtain ⟨o,es,ep,ho,r⟩:=hm
  exact ⟨o,es,ep,k _ o (Ne.symm hL) ho,r⟩
 ·refine (I.hok b u e).stay (fun c v hc q=>k c v ?_ q) (fun _ q=>q) fun _ _ q=>q
  rcases hc with z | z
  ·rw [z]; exact nit b u e
  ·exact nit c _ z
theorem Inv.tok (I:Inv X pins σ H s) (t:Nat):Inv X pins σ H { s with toks:=t }:=I.un (h':=s.heap) (t':=t) Un.refl I.hok
theorem Inv.kept {t':Nat} (I:Inv X pins σ H s) (k:∀ b u,s.heap.get? b=some u->h'.get? b=some u):Inv X pins σ H { s with heap:=h',toks:=t' }:=I.un (Un.kept k) (I.hok.kept k)
theorem Inv.laid {a:Addr} {o:HO} {t':Nat} (I:Inv X pins σ H s) (k:∀ b u,s.heap.get? b=some u->h'.get? b=some u) (hp:s.heap.objs.size<=a) (new:ObjOk X.prog X.w (upd H a o) h' a o) :
  Inv X pins σ (upd H a o) { s with heap:=h',toks:=t' }:=I.un (Un.laid k hp (I.hok.fresh hp)) (I.hok.laid k hp new)
theorem Inv.write {x e:Addr} {o:HO} {t':Nat} (I:Inv X pins σ H s) (mu:Mut (H x)) (he:e=x\/H e=some (.own x)) (k:∀ b u,b ≠ e->s.heap.get? b=some u->h'.get? b=some u) (heo:∃ u,h'.get? e=some u)
  (new:ObjOk X.prog X.w (upd H x o) h' x o):Inv X pins σ (upd H x o) { s with heap:=h',toks:=t' }:=I.un (Un.write mu he k heo) (I.hok.write mu he k heo new)
theorem Inv.pins_of {pins':List (Addr × Obj)} (I:Inv X pins σ H s) (h:∀ p ∈ pins',s.heap.get? p.1=some p.2/\H p.1=none/\p.1 ≠ X.env.locals/\p.1 ∉ X.fs/\∀ v,p.2.data ≠ .cell v):Inv X pins' σ H s:=
 ⟨I.ok,I.os,I.bare,I.base,I.loc,I.cell,I.free,I.freeC,fun p hp=>(List.mem_append.mp hp).elim (fun z=>I.pin p (List.mem_append_left _ z)) (h p),I.hok,I.len⟩
theorem nodup_ix {N:List Str} (hN:N.Nodup) {i j:Nat} {x:Str} (a:N[i]? = some x) (b:N[j]? = some x):i=j:=by
 obtain ⟨h1,e1⟩:=List.getElem?_eq_some_iff.mp a
 obtain ⟨h2,e2⟩:=List.getElem?_eq_some_iff.mp b
 exact (List.getElem_inj hN).mp (e1.trans e2.symm)
theorem store_ok2 {M:Model} {A:Around} {E:Value->Shared->Prop} {i:Nat} {x:Str} {v:V} {u:Value} {Q:Unit->Shared->Prop} (I:Inv X pins σ H s) (hN:X.N.Nodup) (hi:X.N[i]? = some x) (hx:Loc X.env.scope x) (r:RelV v u)
  (h:∀ s',Inv X pins (σ.set i (some v)) H s'->(∃ a,Heap.SameBut a s.heap s'.heap/\(a=X.env.locals\/X.env.cells.lookup x=some a))->Q () s') (hf:X.fn x=true\/X.env.scope.names.lookup x=some .local:=by first | exact .inl rfl | exact .inr rfl | assumption):wpAny M A (storeName X.env x u) Q E s:=by
 obtain ⟨m,hn,hl⟩:=id I.loc
 have hcls:(X.env.scope.kind == .class || (X.env.scope.kind == .module && X.env.locals != X.env.globals))=false:=by rw [I.ok.kind]; rfl
 have hiσ:i < σ.length:=by rw [I.len]; exact (List.getElem?_eq_some_iff.mp hi).1
 have cne:=I.cne
 have tracked:∀ {a:Addr} {h':Heap},(∃ o,s.heap.get? a=some o/\H a=none)->Heap.SameBut a s.heap h'->HOk X.prog X.w H h':=fun {a h'} ha hs b ob e=>by
  obtain ⟨_,_,hfree⟩:=ha
  refine (I.hok b ob e).stay (fun c w' hc q=>(hs.2 c ?_).trans q) (fun _ q=>q) fun _ _ q=>q
  rintro rfl
  rcases hc with rfl | hc
  ·rw [hfree] at e; cases e
  ·rw [hfree] at hc; cases hc
 rcases hx with hk | hk
 ·refine wpAny_storeName_local hk hn (fun h' hn' hs=>?_) hcls
  obtain ⟨oL,_,_,hoL,_⟩:=id hn
  refine h _ ⟨I.ok,I.os,I.bare,⟨fun b o e n hb hx=>?_,fun b o e n hb hx=>?_,I.base.free,fun b o e hx=>?_,I.base.tups,I.base.frzs,I.base.tbls⟩,⟨_,hn',fun j y v' e1 e2 e3=>?_⟩,fun y c e=>?_,I.free,I.freeC,fun p hp=>?_,tracked ⟨oL,hoL,I.free⟩ hs,by simpa using I.len⟩ ⟨_,hs,.inl rfl⟩
  ·exact (hs.2 b (Nat.ne_of_lt (Nat.lt_of_lt_of_le (Heap.lt_size e) I.ok.above))).trans (I.base.keep b o e n hb hx)
  ·obtain ⟨sl,e1⟩:=I.base.slot b o e n hb hx
   exact ⟨sl,(hs.2 b (Nat.ne_of_lt (Nat.lt_of_lt_of_le (Heap.lt_size e) I.ok.above))).trans e1⟩
  ·obtain ⟨o',e1⟩:=I.base.there b o e hx
   exact ⟨o',(hs.2 b (Nat.ne_of_lt (Nat.lt_of_lt_of_le (Heap.lt_size e) I.ok.above))).trans e1⟩
  ·by_cases hj:j=i
   ·subst hj
    rw [hi] at e1; cases e1
    rw [List.getElem?_set_self hiσ] at e2
    cases e2
    exact ⟨u,r,.inl ⟨hk,by simp⟩⟩
   ·rw [List.getElem?_set_ne (Ne.symm hj)] at e2
    obtain ⟨u',r',q⟩:=hl j y v' e1 e2 e3
    refine ⟨u',r',?_⟩
    rcases q with ⟨k,e⟩ | ⟨k,c,e,z⟩
    ·refine .inl ⟨k,?_⟩
     have:y ≠ x:=fun e=>hj (nodup_ix hN e1 (e ▸ hi))
     simp [this,e]
    ·exact .inr ⟨k,c,e,z.sameBut hs (cne y c e)⟩
  ·obtain ⟨w',z⟩:=I.cell y c e
   exact ⟨w',z.sameBut hs (cne y c e)⟩
  ·obtain ⟨e,n,ne,nf,d⟩:=I.pin p hp
   exact ⟨(hs.2 p.1 ne).trans e,n,ne,nf,d⟩
 ·have hfn:X.fn x=true:=by
   rcases hf with z | z
   ·exact z
   ·rw [z] at hk; cases hk
  obtain ⟨c,hc⟩:=I.ok.has x (.inl hk)
  obtain ⟨w',z⟩:=I.cell x c hc
  refine wpAny_storeName_cell I.ok.kind hk hc z (fun h' hc' hs=>?_)
  obtain ⟨oc,hoc,hocd⟩:=id z
  refine h { s with heap:=h' } ⟨I.ok,I.os,I.bare,⟨fun b o e n hb hx=>?_,fun b o e n hb hx=>?_,I.base.free,fun b o e hx=>?_,I.base.tups,I.base.frzs,I.base.tbls⟩,⟨m,hn.sameBut hs (Ne.symm (cne x c hc)),fun j y v' e1 e2 e3=>?_⟩,fun y c' e=>?_,I.free,I.freeC,fun p hp=>?_,tracked ⟨oc,hoc,I.freeC x c hc⟩ hs,by simpa using I.len⟩ ⟨c,hs,.inr hc⟩
  ·exact (hs.2 b (Nat.ne_of_lt (Nat.lt_of_lt_of_le (Heap.lt_size e) (I.ok.cab x c hfn hc)))).trans (I.base.keep b o e n hb hx)
  ·obtain ⟨sl,e1⟩:=I.base.slot b o e n hb hx
   exact ⟨sl,(hs.2 b (Nat.ne_of_lt (Nat.lt_of_lt_of_le (Heap.lt_size e) (I.ok.cab x c hfn hc)))).trans e1⟩
  ·obtain ⟨o',e1⟩:=I.base.there b o e hx
   exact ⟨o',(hs.2 b (Nat.ne_of_lt (Nat.lt_of_lt_of_le (Heap.lt_size e) (I.ok.cab x c hfn hc)))).trans e1⟩
  ·by_cases hj:j=i
   ·subst hj
    rw [hi] at e1; cases e1
    rw [List.getElem?_set_self hiσ] at e2
    cases e2
    exact ⟨u,r,.inr ⟨.inl hk,c,hc,hc'⟩⟩
   ·rw [List.getElem?_set_ne (Ne.symm hj)] at e2
    obtain ⟨u',r',q⟩:=hl j y v' e1 e2 e3
    refine ⟨u',r',?_⟩
    rcases q with q | ⟨k,c',e,z'⟩
    ·exact .inl q
    ·refine .inr ⟨k,c',e,z'.sameBut hs ?_⟩
     rintro rfl
     exact hj (nodup_ix hN e1 (I.ok.inj _ _ _ e hc ▸ hi))
  ·by_cases hcc:c' = c
   ·subst hcc; exact ⟨_,hc'⟩
   ·obtain ⟨w2,z2⟩:=I.cell y c' e
    exact ⟨w2,z2.sameBut hs hcc⟩
  ·obtain ⟨e,n,ne,nf,d⟩:=I.pin p hp
   refine ⟨(hs.2 p.1 ?_).trans e,n,ne,nf,d⟩
   intro q
   rw [q,hoc] at e
   have q':oc=p.2:=Option.some.inj e
   exact d w' (by rw [<-q']; exact hocd)
theorem store_ok {M:Model} {A:Around} {E:Value->Shared->Prop} {i:Nat} {x:Str} {v:V} {u:Value} {Q:Unit->Shared->Prop} (I:Inv X pins σ H s) (hN:X.N.Nodup) (hi:X.N[i]? = some x) (hx:Loc X.env.scope x) (r:RelV v u)
  (h:∀ s',Inv X pins (σ.set i (some v)) H s'->Q () s') (hf:X.fn x=true\/X.env.scope.names.lookup x=some .local:=by first | exact .inl rfl | exact .inr rfl | assumption):wpAny M A (storeName X.env x u) Q E s:=
 store_ok2 I hN hi hx r (fun s' I' _=>h s' I') hf
theorem Inv.call' {s':Shared} {ch:List Addr} (I:Inv X pins σ H s) (ho:s'.os=s.os) (u:Un (frs X.stack) ch H H' s.heap s'.heap) (hok:HOk X.prog X.w H' s'.heap) (hg:AllBare s'.gens)
  (hch:∀ b ∈ ch,(b ∈ X.ex\/X.s₀.heap.objs.size<=b)/\b ≠ X.env.locals/\(∀ x c,X.env.cells.lookup x=some c->c ≠ b)/\∀ p ∈ X.pn ++ pins,p.1 ≠ b):Inv X pins σ H' s':=by
 obtain ⟨h',g',d',t',o'⟩:=s'
 have e:o' = s.os:=ho
 subst e
 exact I.call (g':=g') (t':=t') (d':=d') u hok hg hch
end
noncomputable abbrev XK:=Value->Option Addr->Hp->Prop
noncomputable abbrev St:=List (Option V)
noncomputable abbrev VK:=V->Hp->Prop
noncomputable abbrev TE:=St->Hp->VK->Prop
noncomputable abbrev TT:=St->Hp->(Bool->Hp->Prop)->Prop
noncomputable abbrev TA:=St->Hp->(List V->Hp->Prop)->Prop
structure Ends where
 nx:St->Hp->Prop
 rt:VK
 bk:St->Hp->Prop:=fun _ _=>False
 ct:St->Hp->Prop:=fun _ _=>False
noncomputable abbrev TS:=Ends->St->Hp->Prop
noncomputable def EP (X:Cx) (pins:List (Addr × Obj)) (σ:St) (Q:VK) (u:Value) (s':Shared):Prop:=∃ v H',Inv X pins σ H' s'/\RelV v u/\Q v H'
noncomputable def TP (X:Cx) (pins:List (Addr × Obj)) (σ:St) (Q:Bool->Hp->Prop) (b:Bool) (s':Shared):Prop:=∃ H',Inv X pins σ H' s'/\Q b H'
noncomputable def AP (X:Cx) (pins:List (Addr × Obj)) (σ:St) (Q:List V->Hp->Prop) (us:List Value) (s':Shared):Prop:=∃ vs H',Inv X pins σ H' s'/\Vals vs us/\Q vs H'
noncomputable def SP (X:Cx) (pins:List (Addr × Obj)) (D:Ends) (f:Flow) (s':Shared):Prop:=
 match f with
 | .next=>∃ σ' H',Inv X pins σ' H' s'/\D.nx σ' H'
 | .brk=>∃ σ' H',Inv X pins σ' H' s'/\D.bk σ' H'
 | .cont=>∃ σ' H',Inv X pins σ' H' s'/\D.ct σ' H'
 | .ret u=>∃ v σ' H',Inv X pins σ' H' s'/\RelV v u/\D.rt v H'
noncomputable def PE (X:Cx) (e:Expr) (t:TE):Prop:=
 ∀ (pins:List (Addr × Obj)) (s:Shared) (σ:St) (H:Hp) (Q:VK),Inv X pins σ H s->t σ H Q->wpAny (model X.prog X.w) X.A (eval e X.env) (EP X pins σ Q) X.xe s
noncomputable def PT (X:Cx) (e:Expr) (t:TT):Prop:=
 ∀ (pins:List (Addr × Obj)) (s:Shared) (σ:St) (H:Hp) (Q:Bool->Hp->Prop),Inv X pins σ H s->t σ H Q->wpAny (model X.prog X.w) X.A (isTrue e X.env (eval e X.env)) (TP X pins σ Q) X.xe s
noncomputable def PW (X:Cx) (e:Expr) (t:TT):Prop:=
 ∀ (whole:Sem Value) (pins:List (Addr × Obj)) (s:Shared) (σ:St) (H:Hp) (Q:Bool->Hp->Prop),Inv X pins σ H s->t σ H Q->wpAny (model X.prog X.w) X.A (isTrue e X.env whole) (TP X pins σ Q) X.xe s
theorem PW.pt {X:Cx} {e:Expr} {t:TT} (h:PW X e t):PT X e t:=h _
noncomputable def PA (X:Cx) (es:List Expr) (t:TA):Prop:=
 ∀ (pos:Pos) (pins:List (Addr × Obj)) (s:Shared) (σ:St) (H:Hp) (Q:List V->Hp->Prop),Inv X pins σ H s->t σ H Q->wpAny (model X.prog X.w) X.A (spliced (backTo pos (starEach es X.env))) (AP X pins σ Q) X.xe s
noncomputable def PS (X:Cx) (st:Stmt) (t:TS):Prop:=
 ∀ (pins:List (Addr × Obj)) (s:Shared) (σ:St) (H:Hp) (D:Ends),Inv X pins σ H s->t D σ H->wpAny (model X.prog X.w) X.A (exec st X.env) (SP X pins D) X.xe s
noncomputable def PSs (X:Cx) (st:List Stmt) (t:TS):Prop:=
 ∀ (pins:List (Addr × Obj)) (s:Shared) (σ:St) (H:Hp) (D:Ends),Inv X pins σ H s->t D σ H->wpAny (model X.prog X.w) X.A (execs st X.env) (SP X pins D) X.xe s
theorem thn {α:Type} {t:Sem α} {Q Q':α->Shared->Prop} {M:Model} {A:Around} {E:Value->Shared->Prop} {s:Shared} (h:wpAny M A t Q E s) (hQ:∀ a s,Q a s->Q' a s):wpAny M A t Q' E s:=wpAny_mono h hQ fun _ _ x=>x
end L2
namespace L2
open PySem PySem.Spec PyProof.Rows
section
variable {X:Cx}
noncomputable def tVar (i:Nat):TE:=fun σ H Q=>∃ v,σ[i]? = some (some v)/\Q v H
noncomputable def tC (v:V):TE:=fun _ H Q=>Q v H
theorem pe_var {i:Nat} {x:Str} {pos:Pos} (hN:X.N[i]? = some x) (hv:Vis X.env.scope x) (hd:(x == ("__debug__":Str))=false:=by decide) (hcd:(x == ("__classdict__":Str))=false:=by decide):PE X (.Name x pos) (tVar i):=by
 intro pins s σ H Q I h
 obtain ⟨v,e,h⟩:=h
 obtain ⟨m,hn,hl⟩:=I.loc
 obtain ⟨u,r,l⟩:=hl i x v hN e hv
 have fin:EP X pins σ Q u s:=⟨v,H,I,r,h⟩
 rcases l with ⟨hk,hm⟩ | ⟨hk,c,hc,hcell⟩
 ·exact wpAny_Name (wpAny_loadName_local I.ok.kind hk hn hm fin) hd
 ·rcases hk with hk | hk
  ·exact wpAny_Name (wpAny_loadName_cell I.ok.kind hk hc hcell fin) hd
  ·exact wpAny_Name (wpAny_loadName_free I.ok.kind hk hc hcell fin hcd) hd
theorem pe_int {i j pos}:PE X (.Constant (.int i) j pos) (tC (.int i)):=fun _ _ _ H _ I h=>wpAny_Constant_int ⟨.int i,H,I.tok _,⟨_,rfl⟩,h⟩
theorem pe_bl {b j pos}:PE X (.Constant (.bool b) j pos) (tC (.bl b)):=fun _ _ _ H _ I h=>Constant_bool ⟨.bl b,H,I,rfl,h⟩
theorem pe_non {j pos}:PE X (.Constant .none j pos) (tC .non):=fun _ _ _ H _ I h=>Constant_none ⟨.non,H,I,rfl,h⟩
theorem pe_str {x j pos}:PE X (.Constant (.str x) j pos) (tC (.str x)):=fun _ _ _ H _ I h=>Calls.Constant_str ⟨.str x,H,I.tok _,⟨_,rfl⟩,h⟩
noncomputable def Gl (X:Cx) (x:Str):Prop:=X.env.kindOf x=some .globalImplicit
theorem ld_glob {E:Value->Shared->Prop} {pins:List (Addr × Obj)} {s:Shared} {σ:St} {H:Hp} {x:Str} {u:Value} {pos:Pos} {Q:Value->Shared->Prop} (I:Inv X pins σ H s) (hg:Gl X x) (hm:X.mg x=some u) (h:Q u s)
  (hd:(x == ("__debug__":Str))=false:=by decide):wpAny (model X.prog X.w) X.A (eval (.Name x pos) X.env) Q E s:=
 Calls.Name_function_global I.ok.kind hg (Calls.loadGlobal_global (by rw [I.ok.glob]; exact I.mod.glob.keeps I.bk) hm h) hd
theorem ld_blt {E:Value->Shared->Prop} {pins:List (Addr × Obj)} {s:Shared} {σ:St} {H:Hp} {x:Str} {u:Value} {pos:Pos} {Q:Value->Shared->Prop} (I:Inv X pins σ H s) (hg:Gl X x) (hm:X.mg x=none) (hv:bootBuiltins x=some u) (h:Q u s)
  (hn:x ≠ "__name__":=by decide) (hd:(x == ("__debug__":Str))=false:=by decide):wpAny (model X.prog X.w) X.A (eval (.Name x pos) X.env) Q E s:=by
 obtain ⟨mb,h1,h2⟩:=I.mod.blt
 exact Calls.Name_function_global I.ok.kind hg (Calls.loadGlobal_builtin (by rw [I.ok.glob]; exact I.mod.glob.keeps I.bk) hm (by rw [I.ok.blt]; exact h1.keeps I.bk) ((h2 x hn).trans hv) h) hd
theorem pe_glob {x:Str} {v:V} {u:Value} {pos:Pos} (hg:Gl X x) (hm:X.mg x=some u) (r:RelV v u) (hd:(x == ("__debug__":Str))=false:=by decide):PE X (.Name x pos) (tC v):=
 fun _ _ _ H _ I h=>ld_glob I hg hm ⟨v,H,I,r,h⟩ hd
theorem pe_bltn {x:Str} {v:V} {u:Value} {pos:Pos} (hg:Gl X x) (hm:X.mg x=none) (hv:bootBuiltins x=some u) (r:RelV v u) (hn:x ≠ "__name__":=by decide) (hd:(x == ("__debug__":Str))=false:=by decide):PE X (.Name x pos) (tC v):=
 fun _ _ _ H _ I h=>ld_blt I hg hm hv ⟨v,H,I,r,h⟩ hn hd
variable {a b:Expr} {ta tb:TE} {pos:Pos}
noncomputable def tB (t:TE):TT:=fun σ H Q=>t σ H fun x H1=>∃ c,x=.bl c/\Q c H1
theorem pt_val {e:Expr} {t:TE} (h:PE X e t) (he:∀ whole,isTrue e X.env whole=(do let v <-whole; standAt e.pos; holding [v] (truthy v)):=by intro _; rfl):PT X e (tB t):=by
 intro pins s σ H Q I hw
 refine isTrue_plain (thn (h pins s σ H _ I hw) fun v s1 ⟨x,H1,I1,r1,q1⟩=>?_) (he _)
 obtain ⟨d,rfl,q⟩:=q1
 cases r1
 exact wpAny_truthy_bool ⟨H1,I1,q⟩
variable {tA tB':TT} {rest:List Expr}
noncomputable def tOr (t u:TT):TT:=fun σ H Q=>t σ H fun c H1=>if c=true then Q true H1 else u σ H1 Q
noncomputable def tNot (t:TT):TT:=fun σ H Q=>t σ H fun c H1=>Q (!c) H1
theorem pw_or1 (ha:PT X a tA):PW X (.BoolOp .Or [a] pos) tA:=by
 intro wh pins s σ H Q I h
 refine isTrue_or (thn (ha pins s σ H Q I h) fun c s1 e=>?_)
 cases c with
 | false=>exact isTrue_or_nil e
 | true=>exact e
theorem pw_or (ha:PT X a tA) (hb:PW X (.BoolOp .Or (b :: rest) pos) tB'):PW X (.BoolOp .Or (a :: b :: rest) pos) (tOr tA tB'):=by
 intro wh pins s σ H Q I h
 refine isTrue_or (thn (ha pins s σ H _ I h) fun c s1 ⟨H1,I1,q1⟩=>?_)
 cases c with
 | true=>exact ⟨H1,I1,q1⟩
 | false=>exact hb wh pins s1 σ H1 Q I1 q1
theorem pt_not (ha:PT X a tA):PT X (.UnaryOp .Not a pos) (tNot tA):=by
 intro pins s σ H Q I h
 exact isTrue_not (ha pins s σ H (fun c H1=>Q (!c) H1) I h)
noncomputable def tAndV (ta tb:TE):TE:=fun σ H Q=>ta σ H fun x H1=>∃ c,x=.bl c/\if c=true then tb σ H1 Q else Q (.bl false) H1
noncomputable def tOrV (ta tb:TE):TE:=fun σ H Q=>ta σ H fun x H1=>∃ c,x=.bl c/\if c=true then Q (.bl true) H1 else tb σ H1 Q
noncomputable def tNotV (ta:TE):TE:=fun σ H Q=>ta σ H fun x H1=>∃ c,x=.bl c/\Q (.bl (!c)) H1
theorem pe_one {op} {t:TE} (h:PE X a t):PE X (.BoolOp op [a] pos) t:=fun pins s σ H Q I hw=>BoolOp_one (h pins s σ H Q I hw)
theorem pe_and (ha:PE X a ta) (hb:PE X (.BoolOp .And (b :: rest) pos) tb):PE X (.BoolOp .And (a :: b :: rest) pos) (tAndV ta tb):=by
 intro pins s σ H Q I h
 refine BoolOp_and (thn (ha pins s σ H _ I h) fun v s1 ⟨x,H1,I1,r1,q1⟩=>?_)
 obtain ⟨c,rfl,q1⟩:=q1
 cases r1
 refine wpAny_truthy_bool ?_
 cases c with
 | true=>exact hb pins s1 σ H1 Q I1 q1
 | false=>exact ⟨.bl false,H1,I1,rfl,q1⟩
theorem pe_or (ha:PE X a ta) (hb:PE X (.BoolOp .Or (b :: rest) pos) tb):PE X (.BoolOp .Or (a :: b :: rest) pos) (tOrV ta tb):=by
 intro pins s σ H Q I h
 refine BoolOp_or (thn (ha pins s σ H _ I h) fun v s1 ⟨x,H1,I1,r1,q1⟩=>?_)
 obtain ⟨c,rfl,q1⟩:=q1
 cases r1
 refine wpAny_truthy_bool ?_
 cases c with
 | false=>exact hb pins s1 σ H1 Q I1 q1
 | true=>exact ⟨.bl true,H1,I1,rfl,q1⟩
theorem pe_not (ha:PE X a ta):PE X (.UnaryOp .Not a pos) (tNotV ta):=by
 intro pins s σ H Q I h
 refine UnaryOp_ (thn (ha pins s σ H _ I h) fun v s1 ⟨x,H1,I1,r1,q1⟩=>?_)
 obtain ⟨c,rfl,q1⟩:=q1
 cases r1
 exact not_of (wpAny_truthy_bool ⟨.bl (!c),H1,I1,rfl,q1⟩)
noncomputable def tIf (t:TT) (ta tb:TE):TE:=fun σ H Q=>t σ H fun c H1=>if c=true then ta σ H1 Q else tb σ H1 Q
theorem pe_ifExp {c:Expr} (hc:PT X c tA) (ha:PE X a ta) (hb:PE X b tb):PE X (.IfExp c a b pos) (tIf tA ta tb):=by
 intro pins s σ H Q I h
 refine wpAny_IfExp (thn (hc pins s σ H _ I h) fun d s1 ⟨H1,I1,q1⟩=>?_)
 cases d with
 | true=>exact ha pins s1 σ H1 Q I1 q1
 | false=>exact hb pins s1 σ H1 Q I1 q1
end
end L2
namespace L2
open PySem PySem.Spec PyProof.Rows
noncomputable def SqL (K:PySem.W.Frag) (H:Hp) (a:Addr) (xs:List V):Prop:=
 Rd H a (.lst xs)\/
  ∃ (o:Obj) (its:Array Value) (n:Nat),K.lookup a=some o/\o.cls=.type "list"/\o.dict=none/\o.data=.seq its n/\its.size<=sizeLine/\Vals xs its.toList
noncomputable def SqT (K:PySem.W.Frag) (H:Hp) (a:Addr) (xs:List V):Prop:=
 Rd H a (.tup xs)\/
  ∃ (o:Obj) (its:Array Value) (n:Nat),K.lookup a=some o/\o.cls=.type "tuple"/\o.data=.seq its n/\its.size<=sizeLine/\Vals xs its.toList
noncomputable def absV:Value->Option V
 | .none=>some .non
 | .bool b=>some (.bl b)
 | .int i _=>some (.int i)
 | .str x _=>some (.str x)
 | .bytes b _=>some (.byt b)
 | .float b _=>some (.flt b)
 | .ref a=>some (.ref a)
 | .type n=>some (.ty n)
 | _=>none
theorem RelV.abs {x:V} {u:Value} (r:RelV x u):absV u=some x:=by
 cases x with
 | non=>cases r; rfl
 | bl _=>cases r; rfl
 | int _=>obtain ⟨t,rfl⟩:=r; rfl
 | str _=>obtain ⟨t,rfl⟩:=r; rfl
 | byt _=>obtain ⟨t,rfl⟩:=r; rfl
 | flt _=>obtain ⟨t,rfl⟩:=r; rfl
 | ref _=>cases r; rfl
 | ty _=>cases r; rfl
theorem RelV.inj {x y:V} {u:Value} (r:RelV x u) (q:RelV y u):x=y:=Option.some.inj (r.abs.symm.trans q.abs)
theorem Vals.inj:∀ {xs ys:List V} {us:List Value},Vals xs us->Vals ys us->xs=ys
 | _,_,_,.nil,.nil=>rfl
 | _,_,_,.cons r t,.cons r' t'=>by rw [r.inj r',Vals.inj t t']
section
variable {X:Cx} {pins:List (Addr × Obj)} {σ:St} {H:Hp} {s:Shared} {a:Addr} {xs ys:List V}
theorem SqL.of {K:PySem.W.Frag} (h:H a=some (.lst xs)):SqL K H a xs:=.inl (.inl h)
theorem Inv.list (I:Inv X pins σ H s) (h:SqL X.K H a xs):∃ its:List Value,Vals xs its/\PlainL s.heap a its.toArray/\xs.length<=sizeLine:=by
 rcases h with h | ⟨o,its,n,hk,hc,hd,hs,hz,r⟩
 ·obtain ⟨z,its,n,r,e⟩:=h.ok I.hok
  exact ⟨its,r,⟨_,n,e,rfl,rfl,rfl⟩,z⟩
 ·refine ⟨its.toList,r,⟨o,n,I.kIn a o hk,hc,hd,by simpa using hs⟩,?_⟩
  have e:=r.length
  simp only [Array.length_toList] at e
  omega
theorem Inv.tuple (I:Inv X pins σ H s) (h:SqT X.K H a xs):∃ its:List Value,Vals xs its/\IsTup s.heap a its.toArray/\xs.length<=sizeLine:=by
 rcases h with h | ⟨o,its,n,hk,hc,hs,hz,r⟩
 ·obtain ⟨z,its,r,p⟩:=h.ok I.hok
  exact ⟨its,r,p,z⟩
 ·refine ⟨its.toList,r,⟨o,I.kIn a o hk,hc,n,by simpa using hs⟩,?_⟩
  have e:=r.length
  simp only [Array.length_toList] at e
  omega
theorem Inv.list_inj (I:Inv X pins σ H s) (h:SqL X.K H a xs) (h':SqL X.K H a ys):xs=ys:=by
 obtain ⟨its,r,⟨o,n,e,_,_,d⟩,_⟩:=I.list h
 obtain ⟨its',r',⟨o',n',e',_,_,d'⟩,_⟩:=I.list h'
 rw [e] at e'; cases e'
 rw [d] at d'
 injection d' with d1 _
 have:its=its':=by simpa using congrArg Array.toList d1
 subst this
 exact r.inj r'
theorem Inv.tuple_inj (I:Inv X pins σ H s) (h:SqT X.K H a xs) (h':SqT X.K H a ys):xs=ys:=by
 obtain ⟨its,r,⟨o,e,_,n,d⟩,_⟩:=I.tuple h
 obtain ⟨its',r',⟨o',e',_,n',d'⟩,_⟩:=I.tuple h'
 rw [e] at e'; cases e'
 rw [d] at d'
 injection d' with d1 _
 have:its=its':=by simpa using congrArg Array.toList d1
 subst this
 exact r.inj r'
end
section
variable {X:Cx} {pins:List (Addr × Obj)} {σ:St} {H:Hp} {s:Shared} {E:Value->Shared->Prop}
end
section
variable {X:Cx} {st:Stmt} {rest:List Stmt} {t u:TS} {e:Expr} {te:TE} {pos:Pos}
noncomputable def tNext:TS:=fun D σ H=>D.nx σ H
noncomputable def tSeq (t u:TS):TS:=fun D σ H=>t { D with nx:=u D } σ H
theorem pss_nil:PSs X [] tNext:=fun _ _ σ H _ I h=>wpAny_execs_nil ⟨σ,H,I,h⟩
theorem pss_cons (h1:PS X st t) (h2:PSs X rest u):PSs X (st :: rest) (tSeq t u):=by
 intro pins s σ H D I h
 refine wpAny_execs_cons (thn (h1 pins s σ H { D with nx:=u D } I h) fun f s1 q=>?_)
 cases f with
 | next=>
  obtain ⟨σ',H',I',q⟩:=q
  exact h2 pins s1 σ' H' D I' q
 | ret v=>exact q
 | brk=>exact q
 | cont=>exact q
theorem pss_one (h1:PS X st t):PSs X [st] t:=by
 intro pins s σ H D I h
 refine wpAny_execs_cons (thn (h1 pins s σ H D I h) fun f s1 q=>?_)
 cases f with
 | next=>exact wpAny_execs_nil q
 | ret v=>exact q
 | brk=>exact q
 | cont=>exact q
theorem Inv.quiet {pins:List (Addr × Obj)} {σ:St} {H:Hp} {s:Shared} (I:Inv X pins σ H s):interactive X.env=false:=by simp [interactive,I.ok.kind]
noncomputable def tDrop (te:TE):TS:=fun D σ H=>te σ H fun _ H1=>D.nx σ H1
theorem ps_expr (he:PE X e te) (hs:swapsWith e none pos.line X.env=pure false:=by rfl):PS X (.Expr e pos) (tDrop te):=by
 intro pins s σ H D I h
 exact wpAny_Expr_any (thn (he pins s σ H _ I h) fun v s1 ⟨x,H1,I1,r1,q1⟩=>⟨σ,H1,I1,q1⟩) I.quiet hs
noncomputable def tRet (te:TE):TS:=fun D σ H=>te σ H D.rt
theorem ps_ret (he:PE X e te):PS X (.Return (some e) pos) (tRet te):=by
 intro pins s σ H D I h
 exact wpAny_Return_some (thn (he pins s σ H _ I h) fun v s1 ⟨x,H1,I1,r1,q1⟩=>⟨x,σ,H1,I1,r1,q1⟩)
noncomputable def tIfS (c:TT) (t u:TS):TS:=fun D σ H=>c σ H fun b H1=>if b=true then t D σ H1 else u D σ H1
theorem ps_if {c:Expr} {a b:List Stmt} {tc:TT} (hc:PT X c tc) (ha:PSs X a t) (hb:PSs X b u):PS X (.If c a b pos) (tIfS tc t u):=by
 intro pins s σ H D I h
 refine wpAny_If (thn (hc pins s σ H _ I h) fun d s1 ⟨H1,I1,q1⟩=>?_)
 cases d with
 | true=>exact ha pins s1 σ H1 D I1 q1
 | false=>exact hb pins s1 σ H1 D I1 q1
end
noncomputable abbrev TG:=V->St->Hp->(St->Hp->Prop)->Prop
noncomputable abbrev TGs:=List V->St->Hp->(St->Hp->Prop)->Prop
noncomputable def PG (X:Cx) (target:Expr) (t:TG):Prop:=
 ∀ (pins:List (Addr × Obj)) (s:Shared) (σ:St) (H:Hp) (v:V) (u:Value) (Q:St->Hp->Prop),Inv X pins σ H s->RelV v u->t v σ H Q->
  wpAny (model X.prog X.w) X.A (assign target X.env u) (fun _ s'=>∃ σ' H',Inv X pins σ' H' s'/\Q σ' H') X.xe s
noncomputable def PGs (X:Cx) (ts:List Expr) (t:TGs):Prop:=
 ∀ (pins:List (Addr × Obj)) (s:Shared) (σ:St) (H:Hp) (vs:List V) (us:List Value) (Q:St->Hp->Prop),Inv X pins σ H s->Vals vs us->t vs σ H Q->
  wpAny (model X.prog X.w) X.A (assignInOrder ((assignEach ts X.env).map (·.2)) us) (fun _ s'=>∃ σ' H',Inv X pins σ' H' s'/\Q σ' H') X.xe s
section
variable {X:Cx} {pos:Pos}
noncomputable def gName (i:Nat):TG:=fun v σ H Q=>Q (σ.set i (some v)) H
theorem pg_name {i:Nat} {x:Str} (hN:X.N.Nodup) (hi:X.N[i]? = some x) (hx:Loc X.env.scope x) (hf:X.fn x=true\/X.env.scope.names.lookup x=some .local:=by first | exact .inl rfl | exact .inr rfl | assumption):PG X (.Name x pos) (gName i):=by
 intro pins s σ H v u Q I r h
 exact wpAny_assign_Name (store_ok I hN hi hx r (fun s' I'=>⟨_,H,I',h⟩) hf)
noncomputable def gNil:TGs:=fun vs σ H Q=>vs=[]/\Q σ H
noncomputable def gCons (t:TG) (u:TGs):TGs:=fun vs σ H Q=>∃ v r,vs=v :: r/\t v σ H fun σ' H'=>u r σ' H' Q
theorem pgs_nil:PGs X [] gNil:=by
 intro pins s σ H vs us Q I r h
 obtain ⟨e,h⟩:=h
 subst e
 cases r
 exact assignInOrder_nil ⟨σ,H,I,h⟩
theorem pgs_cons {e:Expr} {es:List Expr} {t:TG} {u:TGs} (h1:PG X e t) (h2:PGs X es u)
  (hs:(assignEach (e :: es) X.env).map (·.2)=assign e X.env :: (assignEach es X.env).map (·.2):=by rfl):PGs X (e :: es) (gCons t u):=by
 intro pins s σ H vs us Q I r h
 obtain ⟨v,vr,e1,h⟩:=h
 subst e1
 cases r with
 | cons r rr=>
  rw [hs]
  refine assignInOrder_cons (thn (h1 pins s σ H _ _ _ I r h) fun _ s1 ⟨σ1,H1,I1,q1⟩=>?_)
  exact h2 pins s1 σ1 H1 _ _ Q I1 rr q1
noncomputable def gTup (K:PySem.W.Frag) (n:Nat) (t:TGs):TG:=fun v σ H Q=>∃ a xs,v=.ref a/\SqT K H a xs/\xs.length=n/\t xs σ H Q
theorem pg_tup {es:List Expr} {k:Nat} {t:TGs} {n:Nat} (hc:X.calm=true) (h:PGs X es t)
  (hn:(assignEach es X.env).length=n:=by rfl) (hst:(assignEach es X.env).findIdx? (·.1)=none:=by rfl):PG X (.Tuple es k pos) (gTup X.K n t):=by
 intro pins s σ H v u Q I r hw
 obtain ⟨a,xs,e1,hq,hl,hw⟩:=hw
 subst e1
 cases r
 obtain ⟨its,rv,ht,hz⟩:=I.tuple hq
 refine assign_Tuple_tuple (I.ok.hd hc) ht (by simp [hn,<-hl,rv.length]) hst fun h' hx=>?_
 have I1:Inv X pins σ H { s with heap:=h' }:=I.kept (t':=s.toks) fun b o e=>hx b o (Nat.ne_of_lt (Heap.lt_size e)) e
 exact h pins _ σ H xs _ Q I1 (by simpa using rv) hw
noncomputable def tAsg (te:TE) (g:TG):TS:=fun D σ H=>te σ H fun x H1=>g x σ H1 D.nx
theorem ps_set {i:Nat} {x:Str} {e:Expr} {te:TE} {pos':Pos} (hN:X.N.Nodup) (hi:X.N[i]? = some x) (hx:Loc X.env.scope x) (he:PE X e te) (hs:swapsWith e (some (.Name x pos')) pos.line X.env=pure false:=by rfl) (hf:X.fn x=true\/X.env.scope.names.lookup x=some .local:=by first | exact .inl rfl | exact .inr rfl | assumption) :
  PS X (.Assign [.Name x pos'] e pos) (tAsg te (gName i)):=by
 intro pins s σ H D I h
 refine wpAny_Assign_Name (thn (he pins s σ H _ I h) fun v s1 ⟨y,H1,I1,r1,q1⟩=>?_) hs
 exact store_ok I1 hN hi hx r1 (fun s2 I2=>⟨_,H1,I2,q1⟩) hf
noncomputable def tPar (i j:Nat) (ta:TA):TS:=fun D σ H=>ta σ H fun vs H1=>∃ v w,vs=[v,w]/\D.nx ((σ.set i (some v)).set j (some w)) H1
theorem ps_par {i j:Nat} {x y:Str} {a b:Expr} {ta:TA} {px py pt:Pos} {kt k2 pt2} (hc:X.calm=true) (hN:X.N.Nodup) (hi:X.N[i]? = some x) (hj:X.N[j]? = some y) (hij:i ≠ j)
  (hx:X.env.scope.names.lookup x=some .local) (hy:X.env.scope.names.lookup y=some .local) (ha:PA X [a,b] ta)
  (hw:swappedStores [.Tuple [.Name x px,.Name y py] kt pt] (.Tuple [a,b] k2 pt2) X.env=pure (some [x,y]))
  (hs:swapsWithSole [.Tuple [.Name x px,.Name y py] kt pt] (.Tuple [a,b] k2 pt2) pos.line X.env=pure false:=by rfl) :
  PS X (.Assign [.Tuple [.Name x px,.Name y py] kt pt] (.Tuple [a,b] k2 pt2) pos) (tPar i j ta):=by
 intro pins s σ H D I h
 rw [exec_Assign_arm]
 refine wpAny_bind (wpAny_standAt ?_)
 rw [hs]
 refine wpAny_bind (wpAny_pure ?_)
 rw [if_neg (by decide)]
 refine wpAny_bind (Tuple_ (thn (ha _ pins s σ H _ I h) fun us s1 ⟨vs,H1,I1,r1,q1⟩=>?_))
 obtain ⟨v,w,e1,q1⟩:=q1
 subst e1
 obtain ⟨u1,u2,rfl,rv,rw'⟩:∃ u1 u2,us=[u1,u2]/\RelV v u1/\RelV w u2:=by
  cases r1 with
  | cons p q=>
   cases q with
   | cons p' q'=>
    cases q'
    exact ⟨_,_,rfl,p,p'⟩
 refine wpAny_newObj_type ?_ (by show 2<=sizeLine; decide)
 have I2:Inv X pins σ H1 { s1 with heap:=s1.heap.push { cls:=.type "tuple",data:=.seq [u1,u2].toArray } }:=I1.kept (t':=s1.toks) fun b o e=>Heap.get?_push_of_some _ e
 rw [hw]
 refine wpAny_bind (wpAny_pure ?_)
 show wpAny (model X.prog X.w) X.A (do rule "assign.swapped-stores"; let items <-unpackItems (.ref s1.heap.objs.size) 2 none; assignInOrder [fun v=>bindName X.env y v,fun v=>bindName X.env x v] items.reverse; pure Flow.next) _ _ _
 refine wpAny_bind (wpAny_rule (wpAny_bind (unpackItems_tuple (items:=#[u1,u2]) (I.ok.hd hc) (IsTup.new s1.heap _) fun h' hx'=>?_)))
 have I3:=I2.kept (h':=h') (t':=s1.toks) fun b o e=>hx' b o (Nat.ne_of_lt (Heap.lt_size e)) e
 show wpAny _ _ (assignInOrder [fun v=>bindName X.env y v,fun v=>bindName X.env x v] [u2,u1] >>= fun _=>pure Flow.next) _ _ _
 refine wpAny_bind (assignInOrder_cons (wpAny_bindName (store_ok I3 hN hj (.inl hy) rw' (fun s2 I4=>?_) (.inr hy))))
 refine assignInOrder_cons (wpAny_bindName (store_ok I4 hN hi (.inl hx) rv (fun s3 I5=>assignInOrder_nil (wpAny_pure ?_)) (.inr hx)))
 rw [List.set_comm _ _ (Ne.symm hij)] at I5
 exact ⟨_,H1,I5,q1⟩
end
section
variable {X:Cx} {pos:Pos}
end
structure It where
 go:Nat->Hp->Prop
 yld:Nat->Hp->V->Hp->Prop
 stop:Nat->Hp->Prop
noncomputable def FpOk (X:Cx) (pins:List (Addr × Obj)) (H:Hp) (b:Addr):Prop:=
 H b=none/\b ≠ X.env.locals/\b ∉ X.fs/\(b ∈ X.ex\/X.s₀.heap.objs.size<=b)/\(∀ x c,X.env.cells.lookup x=some c->c ≠ b)/\∀ p ∈ X.pn ++ pins,p.1 ≠ b
theorem Inv.fpOk {X:Cx} {pins:List (Addr × Obj)} {σ:St} {H H':Hp} {s:Shared} {b:Addr} (I:Inv X pins σ H s) (hb:s.heap.objs.size<=b) (hn:H' b=none):FpOk X pins H' b:=by
 refine ⟨hn,Nat.ne_of_gt (Nat.lt_of_lt_of_le I.lt hb),I.nofs hb,.inr (Nat.le_trans I.sz hb),fun x c e z=>?_,fun p hp z=>?_⟩
 ·obtain ⟨v,q⟩:=I.cell x c e
  exact absurd (Nat.lt_of_lt_of_le q.lt (by rw [z]; exact hb)) (Nat.lt_irrefl _)
 ·exact absurd (Nat.lt_of_lt_of_le (Heap.lt_size (I.pin p hp).1) (by rw [z]; exact hb)) (Nat.lt_irrefl _)
structure Turn (P:Program) (w:World) (K:PySem.W.Frag) (tg:Expr) (J:It) (fp:List Addr) (it:Addr) (tn:Nat->Heap->Prop):Prop where
 mem:it ∈ fp
 obj:∀ i h,tn i h->∀ b ∈ fp,∃ o,h.get? b=some o/\∀ v,o.data ≠ .cell v
 keep:∀ i h h',tn i h->(∀ b ∈ fp,∀ o,h.get? b=some o->h'.get? b=some o)->tn i h'
 item:∀ (X:Cx),X.prog=P->X.w=w->X.K=K->X.calm=true->∀ (i:Nat) (pins:List (Addr × Obj)) (s:Shared) (σ:St) (H:Hp) (E:Value->Shared->Prop),Inv X pins σ H s->(∀ b ∈ fp,FpOk X pins H b)->tn i s.heap->J.go i H->
  wpAny (model P w) X.A (pyNext (.ref it)) (fun r s1=>∃ u,r=some u/\
   wpAny (model P w) X.A (letOwnedTupleGo tg (.ref it) u) (fun _ s2=>∃ x H',Inv X pins σ H' s2/\RelV x u/\J.yld i H x H'/\tn (i + 1) s2.heap/\∀ b ∈ fp,H' b=none) E s1) E s
 done:∀ (X:Cx),X.prog=P->X.w=w->X.K=K->X.calm=true->∀ (i:Nat) (pins:List (Addr × Obj)) (s:Shared) (σ:St) (H:Hp) (E:Value->Shared->Prop),Inv X pins σ H s->(∀ b ∈ fp,FpOk X pins H b)->tn i s.heap->J.stop i H->
  wpAny (model P w) X.A (pyNext (.ref it)) (fun r s1=>r=none/\Inv X pins σ H s1) E s
 self:∀ (A:Around) (i:Nat) (s:Shared) (Q:Value->Shared->Prop) (E:Value->Shared->Prop),tn i s.heap->Q (.ref it) s->wpAny (model P w) A (pyIter (.ref it)) Q E s
noncomputable abbrev TI:=St->Hp->(It->Hp->Prop)->Prop
noncomputable def PIE (X:Cx) (pins:List (Addr × Obj)) (σ:St) (tg:Expr) (R:It->Hp->Prop) (itv:Value) (s2:Shared):Prop:=
 ∃ (it:Addr) (fp:List Addr) (tn:Nat->Heap->Prop) (J:It) (H':Hp),itv=.ref it/\Inv X pins σ H' s2/\Turn X.prog X.w X.K tg J fp it tn/\tn 0 s2.heap/\(∀ b ∈ fp,FpOk X pins H' b)/\R J H'
noncomputable def PI (X:Cx) (tg iter:Expr) (wi:TI):Prop:=
 ∀ (pins:List (Addr × Obj)) (s:Shared) (σ:St) (H:Hp) (R:It->Hp->Prop),Inv X pins σ H s->wi σ H R->
  wpAny (model X.prog X.w) X.A (eval iter X.env) (fun v s1=>wpAny (model X.prog X.w) X.A (pyIter v) (PIE X pins σ tg R) X.xe s1) X.xe s
theorem go_of {M:Model} {A:Around} {E:Value->Shared->Prop} {s:Shared} {tg:Expr} {it:Addr} {u:Value} {o:Obj} {n:String} {vs:Array Value} {Q:Unit->Shared->Prop} (ho:s.heap.get? it=some o) (hc:o.cls=.type n) (hd:o.data=.fields vs)
    (hn:["enumerate","zip","dict_itemiterator","dict_reverseitemiterator","odict_iterator","itertools.zip_longest","itertools.pairwise"].contains n=false) (hQ:Q () s):wpAny M A (letOwnedTupleGo tg (.ref it) u) Q E s:=by
  unfold letOwnedTupleGo
  cases tg <;> first
    | exact wpAny_pure hQ
    | (cases u <;> first
        | exact wpAny_pure hQ
        | (refine wpAny_bind (wpAny_load ho ?_)
           rw [hc,hd]
           show wpAny M A (if (["enumerate","zip","dict_itemiterator","dict_reverseitemiterator","odict_iterator","itertools.zip_longest","itertools.pairwise"].contains n && vs[0]? == some (rawInt _))=true then _ else _) Q E s
           rw [if_neg (by intro h; rw [hn,Bool.false_and] at h; cases h)]
           exact wpAny_pure hQ))
noncomputable def Itl (K:PySem.W.Frag) (a:Addr):It:=
 ⟨fun i H=>∃ xs x,SqL K H a xs/\xs[i]? = some x,fun i H x H'=>H' = H/\∀ xs,SqL K H a xs->xs[i]? = some x,fun i H=>∃ xs,SqL K H a xs/\xs.length<=i⟩
noncomputable def Itt (K:PySem.W.Frag) (a:Addr):It:=
 ⟨fun i H=>∃ xs x,SqT K H a xs/\xs[i]? = some x,fun i H x H'=>H' = H/\∀ xs,SqT K H a xs->xs[i]? = some x,fun i H=>∃ xs,SqT K H a xs/\xs.length<=i⟩
noncomputable def Itr (lo:Int) (n:Nat):It:=⟨fun i _=>i < n,fun i H x H'=>H' = H/\x=.int (lo + i),fun i _=>n<=i⟩
theorem turn_list {P:Program} {w:World} {K:PySem.W.Frag} {tg:Expr} (a it:Addr):Turn P w K tg (Itl K a) [it] it (fun i h=>h.IsListIter it a i) where
 mem:=by simp
 obj:=fun i h st b hb=>by
  have e:b=it:=by simpa using hb
  subst e
  obtain ⟨o,e,c,d⟩:=st
  exact ⟨o,e,fun v z=>by rw [d] at z; cases z⟩
 keep:=fun i h h' st k=>st.at fun o e=>k it (by simp) o e
 item:=by
  intro X hP hw hK hc i pins s σ H E I hf st hg
  subst hP hw hK
  obtain ⟨xs,x,hq,hx⟩:=hg
  obtain ⟨its,rv,p,hz⟩:=I.list hq
  obtain ⟨u,hu,ru⟩:=rv.get hx
  obtain ⟨f0,f1,f2,f3,f4,f5⟩:=hf it (by simp)
  refine wpAny_pyNext_list_item st p.isList (x:=u) (by simpa using hu) fun h' st' sb=>?_
  have I1:Inv X pins σ H { s with heap:=h' }:=I.turned (t':=s.toks) (fun b o hb e=>(sb.2 b hb).trans e) f0 f1 f3 f4 f5
  obtain ⟨o,e,c,d⟩:=id st'
  exact ⟨u,rfl,go_of (s:={ s with heap:=h' }) e c d (by decide) ⟨x,H,I1,ru,⟨rfl,fun ys hy=>by rw [I.list_inj hy hq]; exact hx⟩,st',fun b hb=>(hf b hb).1⟩⟩
 done:=by
  intro X hP hw hK hc i pins s σ H E I hf st hg
  subst hP hw hK
  obtain ⟨xs,hq,hx⟩:=hg
  obtain ⟨its,rv,p,hz⟩:=I.list hq
  obtain ⟨f0,f1,f2,f3,f4,f5⟩:=hf it (by simp)
  have hl:=rv.length
  exact wpAny_pyNext_list_end (I.ok.hd hc) st p.isList (by simp; omega) fun h' eb=>⟨rfl,I.turned (t':=s.toks) (fun b o hb e=>eb b o hb e) f0 f1 f3 f4 f5⟩
 self:=fun _ _ _ _ _ st h=>wpAny_pyIter_listiter st h
theorem turn_tuple {P:Program} {w:World} {K:PySem.W.Frag} {tg:Expr} (a it:Addr):Turn P w K tg (Itt K a) [it] it (fun i h=>h.IsTupleIter it a i) where
 mem:=by simp
 obj:=fun i h st b hb=>by
  have e:b=it:=by simpa using hb
  subst e
  obtain ⟨o,e,c,d⟩:=st
  exact ⟨o,e,fun v z=>by rw [d] at z; cases z⟩
 keep:=fun i h h' st k=>st.at fun o e=>k it (by simp) o e
 item:=by
  intro X hP hw hK hc i pins s σ H E I hf st hg
  subst hP hw hK
  obtain ⟨xs,x,hq,hx⟩:=hg
  obtain ⟨its,rv,p,hz⟩:=I.tuple hq
  obtain ⟨u,hu,ru⟩:=rv.get hx
  obtain ⟨f0,f1,f2,f3,f4,f5⟩:=hf it (by simp)
  refine wpAny_pyNext_tuple_item st (show s.heap.IsTuple a its.toArray from p) (x:=u) (by simpa using hu) fun h' st' sb=>?_
  have I1:Inv X pins σ H { s with heap:=h' }:=I.turned (t':=s.toks) (fun b o hb e=>(sb.2 b hb).trans e) f0 f1 f3 f4 f5
  obtain ⟨o,e,c,d⟩:=id st'
  exact ⟨u,rfl,go_of (s:={ s with heap:=h' }) e c d (by decide) ⟨x,H,I1,ru,⟨rfl,fun ys hy=>by rw [I.tuple_inj hy hq]; exact hx⟩,st',fun b hb=>(hf b hb).1⟩⟩
 done:=by
  intro X hP hw hK hc i pins s σ H E I hf st hg
  subst hP hw hK
  obtain ⟨xs,hq,hx⟩:=hg
  obtain ⟨its,rv,p,hz⟩:=I.tuple hq
  obtain ⟨f0,f1,f2,f3,f4,f5⟩:=hf it (by simp)
  have hl:=rv.length
  exact wpAny_pyNext_tuple_end (I.ok.hd hc) st (show s.heap.IsTuple a its.toArray from p) (by simp; omega) fun h' eb=>⟨rfl,I.turned (t':=s.toks) (fun b o hb e=>eb b o hb e) f0 f1 f3 f4 f5⟩
 self:=fun _ _ _ _ _ st h=>wpAny_pyIter_tupleiter st h
theorem turn_range {P:Program} {w:World} {K:PySem.W.Frag} {tg:Expr} (it:Addr) (lo:Int) (n:Nat):Turn P w K tg (Itr lo n) [it] it (fun i h=>IsRangeIter h it (lo + (i:Nat) * 1) ((n:Int) - (i:Nat)) 1) where
 mem:=by simp
 obj:=fun i h st b hb=>by
  have e:b=it:=by simpa using hb
  subst e
  exact ⟨_,st,fun v z=>by
   have z':Data.fields _=Data.cell v:=z
   cases z'⟩
 keep:=fun i h h' st k=>k it (by simp) _ st
 item:=by
  intro X hP hw hK hc i pins s σ H E I hf st hg
  subst hP hw hK
  obtain ⟨f0,f1,f2,f3,f4,f5⟩:=hf it (by simp)
  have W:=Walks.range (prog:=X.prog) (w:=X.w) (I.ok.hd hc) it lo 1 n
  refine W.item i s _ _ hg st fun v h' tk hv st' kk=>?_
  obtain ⟨t,rfl⟩:=hv
  have I1:Inv X pins σ H { s with heap:=h',toks:=tk }:=I.turned (fun b o hb e=>kk b o (by simpa using hb) e) f0 f1 f3 f4 f5
  refine ⟨_,rfl,go_of (s:={ s with heap:=h',toks:=tk }) (n:="range_iterator") st' rfl rfl (by decide) ⟨.int (lo + i),H,I1,⟨t,?_⟩,⟨rfl,rfl⟩,st',fun b hb=>(hf b hb).1⟩⟩
  rw [Int.mul_one]
 done:=by
  intro X hP hw hK hc i pins s σ H E I hf st hg
  subst hP hw hK
  obtain ⟨f0,f1,f2,f3,f4,f5⟩:=hf it (by simp)
  exact wpAny_pyNext_range_end (I.ok.hd hc) st (by have:n<=i:=hg; omega) fun h' eb=>⟨rfl,I.turned (t':=s.toks) (fun b o hb e=>eb b o hb e) f0 f1 f3 f4 f5⟩
 self:=fun _ _ _ _ _ st h=>wpAny_pyIter_rangeiter st h
end L2
namespace L2
open PySem PySem.Spec PyProof.Rows
section
variable {X:Cx} {tg:Expr}
noncomputable def iList (K:PySem.W.Frag) (tl:TE):TI:=fun σ H R=>tl σ H fun x H1=>∃ a,x=.ref a/\(∃ xs,SqL K H1 a xs)/\R (Itl K a) H1
noncomputable def iTup (K:PySem.W.Frag) (tl:TE):TI:=fun σ H R=>tl σ H fun x H1=>∃ a,x=.ref a/\(∃ xs,SqT K H1 a xs)/\R (Itt K a) H1
theorem pi_list {l:Expr} {tl:TE} (hl:PE X l tl):PI X tg l (iList X.K tl):=by
 intro pins s σ H R I h
 refine thn (hl pins s σ H _ I h) fun v s1 ⟨x,H1,I1,r1,q1⟩=>?_
 obtain ⟨a,e,⟨xs,hq⟩,q⟩:=q1
 subst e
 cases r1
 obtain ⟨its,rv,p,hz⟩:=I1.list hq
 refine wpAny_pyIter_list p.isList ?_
 refine ⟨s1.heap.objs.size,[s1.heap.objs.size],_,_,H1,rfl,I1.kept (t':=s1.toks) fun b o e=>Heap.get?_push_of_some _ e,turn_list a _,⟨_,Heap.get?_push_size _ rfl,rfl,rfl⟩,fun b hb=>?_,q⟩
 have e:b=s1.heap.objs.size:=by simpa using hb
 subst e
 exact I1.fpOk (Nat.le_refl _) (I1.hok.fresh (Nat.le_refl _))
theorem pi_tup {l:Expr} {tl:TE} (hl:PE X l tl):PI X tg l (iTup X.K tl):=by
 intro pins s σ H R I h
 refine thn (hl pins s σ H _ I h) fun v s1 ⟨x,H1,I1,r1,q1⟩=>?_
 obtain ⟨a,e,⟨xs,hq⟩,q⟩:=q1
 subst e
 cases r1
 obtain ⟨its,rv,p,hz⟩:=I1.tuple hq
 refine wpAny_pyIter_tuple (show s1.heap.IsTuple a its.toArray from p) ?_
 refine ⟨s1.heap.objs.size,[s1.heap.objs.size],_,_,H1,rfl,I1.kept (t':=s1.toks) fun b o e=>Heap.get?_push_of_some _ e,turn_tuple a _,⟨_,Heap.get?_push_size _ rfl,rfl,rfl⟩,fun b hb=>?_,q⟩
 have e:b=s1.heap.objs.size:=by simpa using hb
 subst e
 exact I1.fpOk (Nat.le_refl _) (I1.hok.fresh (Nat.le_refl _))
theorem range_it {pins:List (Addr × Obj)} {σ:St} {H:Hp} {s:Shared} {R:It->Hp->Prop} {E:Value->Shared->Prop} {lo hi:Int} {t u v:Tok} {tk:Nat} (I:Inv X pins σ H s) (h1:-(2 ^ 62)<=lo) (h2:lo < 2 ^ 62) (h3:-(2 ^ 62)<=hi) (h4:hi < 2 ^ 62)
  (q:R (Itr lo (hi - lo).toNat) H):wpAny (model X.prog X.w) X.A (pyIter (.ref s.heap.objs.size)) (PIE X pins σ tg R) E { s with heap:=s.heap.push { cls:=.type "range",data:=.fields #[.int lo t,.int hi u,.int 1 v] },toks:=tk }:=by
 refine wpAny_pyIter_range (IsRange.new ..) (small_one h1 h2 h3 h4) ?_
 have I1:Inv X pins σ H { s with heap:=s.heap.push { cls:=.type "range",data:=.fields #[.int lo t,.int hi u,.int 1 v] },toks:=tk }:=I.kept fun b o e=>Heap.get?_push_of_some _ e
 refine ⟨(s.heap.push { cls:=.type "range",data:=.fields #[.int lo t,.int hi u,.int 1 v] }).objs.size,[(s.heap.push { cls:=.type "range",data:=.fields #[.int lo t,.int hi u,.int 1 v] }).objs.size],_,_,H,rfl,
  I1.kept (t':=tk) fun b o e=>Heap.get?_push_of_some _ e,turn_range _ lo (hi - lo).toNat,?_,fun b hb=>?_,q⟩
 ·have e1:lo + ((0:Nat):Int) * 1=lo:=by simp
  have e2:(((hi - lo).toNat:Nat):Int) - ((0:Nat):Int)=Builtin.Range.rangeSize lo hi 1:=by rw [rangeSize_one]; split <;> omega
  show IsRangeIter _ _ (lo + ((0:Nat):Int) * 1) ((((hi - lo).toNat:Nat):Int) - ((0:Nat):Int)) 1
  rw [e1,e2]
  exact Heap.get?_push_size _ rfl
 ·have e:b=(s.heap.push { cls:=.type "range",data:=.fields #[.int lo t,.int hi u,.int 1 v] }).objs.size:=by simpa using hb
  subst e
  exact I1.fpOk (Nat.le_refl _) (I1.hok.fresh (Nat.le_refl _))
noncomputable def iRng1 (ta:TA):TI:=fun σ H R=>ta σ H fun vs H1=>∃ j:Int,vs=[.int j]/\-(2 ^ 62)<=j/\j < 2 ^ 62/\R (Itr 0 j.toNat) H1
theorem pi_range1 {a:Expr} {ta:TA} {p pos:Pos} (hg:Gl X "range") (hm:X.mg "range" = none) (ha:PA X [a] ta) (hs:starEach [a] X.env=[(false,eval a X.env)]:=by rfl):PI X tg (.Call (.Name "range" p) [a] [] pos) (iRng1 ta):=by
 intro pins s σ H R I h
 refine Call_ (ld_blt I hg hm boot_range (PyProof.Rows.callWith_type1 (thn (ha pos pins s σ H _ I h) fun us s1 ⟨vs,H1,I1,r1,q1⟩=>?_) hs rfl))
 obtain ⟨j,e,q1,q2,q⟩:=q1
 subst e
 cases r1 with
 | cons r rr=>
  cases rr
  obtain ⟨t,rfl⟩:=r
  exact call_range_1 (range_it I1 (by omega) (by omega) q1 q2 (by simpa using q))
noncomputable def tFor (wi:TI) (g:TG) (tb:TS):TS:=fun D σ H=>wi σ H fun J H1=>∃ W:Nat->Nat->St->Hp->Prop,(∃ m,W 0 m σ H1)/\∀ i m σ H,W i m σ H->
 (J.stop i H/\D.nx σ H)\/(J.go i H/\∃ N:St->Hp->Prop,(∀ σ' H',N σ' H'->∃ m',m' < m/\W (i + 1) m' σ' H')/\∀ x H',J.yld i H x H'->g x σ H' fun σ2 H2=>tb { D with nx:=N,ct:=N,bk:=D.nx } σ2 H2)
noncomputable def pinsAt (fp:List Addr) (h:Heap):List (Addr × Obj):=fp.filterMap fun b=>(h.get? b).map fun o=>(b,o)
theorem mem_pinsAt {fp:List Addr} {h:Heap} {b:Addr} {o:Obj} (hb:b ∈ fp) (e:h.get? b=some o):(b,o) ∈ pinsAt fp h:=List.mem_filterMap.mpr ⟨b,hb,by rw [e]; rfl⟩
theorem of_pinsAt {fp:List Addr} {h:Heap} {p:Addr × Obj} (hp:p ∈ pinsAt fp h):p.1 ∈ fp/\h.get? p.1=some p.2:=by
 obtain ⟨b,hb,e⟩:=List.mem_filterMap.mp hp
 cases q:h.get? b with
 | none=>rw [q] at e; cases e
 | some o=>
  rw [q] at e
  have e':(b,o)=p:=Option.some.inj e
  subst e'
  exact ⟨hb,q⟩
theorem Inv.pinned {pins:List (Addr × Obj)} {σ:St} {H:Hp} {s:Shared} {fp:List Addr} (I:Inv X pins σ H s) (hf:∀ b ∈ fp,FpOk X pins H b) (ho:∀ b ∈ fp,∃ o,s.heap.get? b=some o/\∀ v,o.data ≠ .cell v):Inv X (pins ++ pinsAt fp s.heap) σ H s:=
 I.pins_of fun p hp=>(List.mem_append.mp hp).elim (fun z=>I.pin p (List.mem_append_right _ z)) fun z=>by
  obtain ⟨hb,e⟩:=of_pinsAt z
  obtain ⟨f0,f1,f2,_⟩:=hf p.1 hb
  obtain ⟨o,e',d⟩:=ho p.1 hb
  rw [e] at e'; cases e'
  exact ⟨e,f0,f1,f2,d⟩
theorem Inv.unpinned {pins pl:List (Addr × Obj)} {σ:St} {H:Hp} {s:Shared} (I:Inv X (pins ++ pl) σ H s):Inv X pins σ H s:=I.pins_of fun p hp=>I.pin p (List.mem_append_right _ (List.mem_append_left _ hp))
theorem ps_for {iter:Expr} {body:List Stmt} {wi:TI} {g:TG} {tb:TS} {pos:Pos} (hp:PassesOwn (model X.prog X.w) X.A X.env X.xe) (hc:X.calm=true) (hi:PI X tg iter wi) (hg:PG X tg g) (hb:PSs X body tb)
  (hs:∀ x,foldedSetIterable iter X.env x=pure x:=by intro _; rfl):PS X (.For tg iter body [] pos) (tFor wi g tb):=by
 intro pins s σ H D I h
 refine wpAny_For (thn (hi pins s σ H _ I h) fun v s1 h1=>thn h1 fun itv s2 h2=>?_) hs
 obtain ⟨it,fp,tn,J,H2,e,I2,T,st2,f2,W,⟨m0,w0⟩,turn⟩:=h2
 subst e
 have stat:∀ {H':Hp},(∀ b ∈ fp,H' b=none)->∀ b ∈ fp,FpOk X pins H' b:=fun hn b hb=>⟨hn b hb,(f2 b hb).2⟩
 refine codeAny_forLoop_any (fun n s'=>∃ i σ' H',Inv X pins σ' H' s'/\tn i s'.heap/\(∀ b ∈ fp,H' b=none)/\W i n σ' H') ?_ m0 ⟨0,σ,H2,I2,st2,fun b hb=>(f2 b hb).1,w0⟩
 rintro n s3 ⟨i,σ3,H3,I3,st3,fr3,w3⟩
 rcases turn i n σ3 H3 w3 with ⟨stop,qn⟩ | ⟨go,N,hN,step⟩
 ·refine wpAny_passesOwn hp (thn (T.done X rfl rfl rfl hc i pins s3 σ3 H3 X.xe I3 (stat fr3) st3 stop) fun r s4 ⟨hr,I4⟩=>?_)
  subst hr
  exact wpAny_execs_nil ⟨σ3,H3,I4,qn⟩
 ·refine wpAny_passesOwn hp (thn (T.item X rfl rfl rfl hc i pins s3 σ3 H3 X.xe I3 (stat fr3) st3 go) fun r s4 ⟨u,hr,h4⟩=>?_)
  subst hr
  refine wpAny_passesOwn hp (thn h4 fun _ s5 ⟨x,H5,I5,r5,y5,st5,fr5⟩=>?_)
  have I5':=I5.pinned (stat fr5) (T.obj _ _ st5)
  refine wpAny_passesOwn hp (thn (hg _ s5 σ3 H5 x u _ I5' r5 (step x H5 y5)) fun _ s6 ⟨σ6,H6,I6,q6⟩=>?_)
  refine wpAny_passesOwn hp (thn (hb _ s6 σ6 H6 _ I6 q6) fun f s7 q7=>?_)
  have again:∀ {σ7:St} {H7:Hp},Inv X (pins ++ pinsAt fp s5.heap) σ7 H7 s7->N σ7 H7->∃ m,m < n/\∃ i σ' H',Inv X pins σ' H' s7/\tn i s7.heap/\(∀ b ∈ fp,H' b=none)/\W i m σ' H':=fun {σ7 H7} I7 n7=>by
   obtain ⟨m',hm,w7⟩:=hN σ7 H7 n7
   refine ⟨m',hm,i + 1,σ7,H7,I7.unpinned,T.keep _ _ _ st5 fun b hb o e=>(I7.pin (b,o) (List.mem_append_right _ (List.mem_append_right _ (mem_pinsAt hb e)))).1,fun b hb=>?_,w7⟩
   obtain ⟨o,e,d⟩:=T.obj _ _ st5 b hb
   exact (I7.pin (b,o) (List.mem_append_right _ (List.mem_append_right _ (mem_pinsAt hb e)))).2.1
  cases f with
  | next=>obtain ⟨σ7,H7,I7,n7⟩:=q7; exact again I7 n7
  | cont=>obtain ⟨σ7,H7,I7,n7⟩:=q7; exact again I7 n7
  | brk=>obtain ⟨σ7,H7,I7,q7⟩:=q7; exact ⟨σ7,H7,I7.unpinned,q7⟩
  | ret v=>obtain ⟨x7,σ7,H7,I7,r7,q7⟩:=q7; exact ⟨x7,σ7,H7,I7.unpinned,r7,q7⟩
end
end L2
namespace L2
open PySem PySem.Spec PyProof.Rows
noncomputable abbrev R2:=V->V->Hp->VK->Prop
noncomputable def OpR (X:Cx) (f:Value->Value->Sem Value) (r:R2):Prop:=
 ∀ (pins:List (Addr × Obj)) (s:Shared) (σ:St) (H:Hp) (x y:V) (v u:Value) (Q:VK),Inv X pins σ H s->RelV x v->RelV y u->r x y H Q->
  wpAny (model X.prog X.w) X.A (f v u) (EP X pins σ Q) X.xe s
noncomputable def UnR (X:Cx) (f:Value->Sem Value) (r:V->Hp->VK->Prop):Prop:=
 ∀ (pins:List (Addr × Obj)) (s:Shared) (σ:St) (H:Hp) (x:V) (v:Value) (Q:VK),Inv X pins σ H s->RelV x v->r x H Q->
  wpAny (model X.prog X.w) X.A (f v) (EP X pins σ Q) X.xe s
noncomputable def CallR (X:Cx) (f:Value) (r:List V->Hp->VK->Prop):Prop:=
 ∀ (pins:List (Addr × Obj)) (s:Shared) (σ:St) (H:Hp) (xs:List V) (us:List Value) (Q:VK),Inv X pins σ H s->Vals xs us->r xs H Q->
  wpAny (model X.prog X.w) X.A (call f us) (EP X pins σ Q) X.xe s
noncomputable def tOp (r:R2) (ta tb:TE):TE:=fun σ H Q=>ta σ H fun x H1=>tb σ H1 fun y H2=>r x y H2 Q
noncomputable def tUn (r:V->Hp->VK->Prop) (ta:TE):TE:=fun σ H Q=>ta σ H fun x H1=>r x H1 Q
noncomputable def rI (C:Int->Int->Prop) (g:Int->Int->V):R2:=fun x y H Q=>∃ i j,x=.int i/\y=.int j/\C i j/\Q (g i j) H
noncomputable def rI0 (g:Int->Int->V):R2:=fun x y H Q=>∃ i j,x=.int i/\y=.int j/\Q (g i j) H
noncomputable def rU (g:Int->V):V->Hp->VK->Prop:=fun x H Q=>∃ i,x=.int i/\Q (g i) H
section
variable {X:Cx} {a b c:Expr} {ta tb tc:TE} {pos:Pos}
theorem binT (ha:PE X a ta) (hb:PE X b tb) {pins:List (Addr × Obj)} {s:Shared} {σ:St} {H:Hp} {R:V->V->Hp->Prop} (I:Inv X pins σ H s)
  (h:ta σ H fun x H1=>tb σ H1 fun y H2=>R x y H2) {Q:Value->Shared->Prop} {f:Value->Value->Sem Value}
  (hf:∀ v u s2 x y H2,Inv X pins σ H2 s2->RelV x v->RelV y u->R x y H2->wpAny (model X.prog X.w) X.A (f v u) Q X.xe s2) :
  wpAny (model X.prog X.w) X.A (eval a X.env) (fun v s₁=>wpAny (model X.prog X.w) X.A (eval b X.env) (fun u s₂=>wpAny (model X.prog X.w) X.A (f v u) Q X.xe s₂) X.xe s₁) X.xe s:=by
 refine thn (ha pins s σ H _ I h) fun v s1 ⟨x,H1,I1,r1,q1⟩=>?_
 refine thn (hb pins s1 σ H1 _ I1 q1) fun u s2 ⟨y,H2,I2,r2,q2⟩=>?_
 exact hf v u s2 x y H2 I2 r1 r2 q2
theorem pe_op {op:Operator} {r:R2} (ho:OpR X (binaryOp op) r) (ha:PE X a ta) (hb:PE X b tb):PE X (.BinOp a op b pos) (tOp r ta tb):=by
 intro pins s σ H Q I h
 exact wpAny_BinOp (binT ha hb I h fun v u s2 x y H2 I2 rx ry q=>ho pins s2 σ H2 x y v u Q I2 rx ry q)
theorem pe_un {op:UnaryOp} {r:V->Hp->VK->Prop} (ho:UnR X (unaryOp op) r) (ha:PE X a ta):PE X (.UnaryOp op a pos) (tUn r ta):=by
 intro pins s σ H Q I h
 exact UnaryOp_ (thn (ha pins s σ H _ I h) fun v s1 ⟨x,H1,I1,r1,q1⟩=>ho pins s1 σ H1 x v Q I1 r1 q1)
theorem opI {f:Value->Value->Sem Value} {C:Int->Int->Prop} {g:Int->Int->Int}
  (rule:∀ (i j:Int) (t u:Tok) (s:Shared) (Q:Value->Shared->Prop) (E:Value->Shared->Prop),C i j->Q (.int (g i j) s.toks) { s with toks:=s.toks + 1 }->wpAny (model X.prog X.w) X.A (f (.int i t) (.int j u)) Q E s) :
  OpR X f (rI C fun i j=>.int (g i j)):=by
 intro pins s σ H x y v u Q I rx ry h
 obtain ⟨i,j,rfl,rfl,hc,q⟩:=h
 obtain ⟨t,rfl⟩:=rx
 obtain ⟨t',rfl⟩:=ry
 exact rule i j t t' s _ _ hc ⟨.int (g i j),H,I.tok _,⟨_,rfl⟩,q⟩
theorem opI0 {f:Value->Value->Sem Value} {g:Int->Int->Int}
  (rule:∀ (i j:Int) (t u:Tok) (s:Shared) (Q:Value->Shared->Prop) (E:Value->Shared->Prop),Q (.int (g i j) s.toks) { s with toks:=s.toks + 1 }->wpAny (model X.prog X.w) X.A (f (.int i t) (.int j u)) Q E s) :
  OpR X f (rI0 fun i j=>.int (g i j)):=by
 intro pins s σ H x y v u Q I rx ry h
 obtain ⟨i,j,rfl,rfl,q⟩:=h
 obtain ⟨t,rfl⟩:=rx
 obtain ⟨t',rfl⟩:=ry
 exact rule i j t t' s _ _ ⟨.int (g i j),H,I.tok _,⟨_,rfl⟩,q⟩
theorem opB0 {f:Value->Value->Sem Value} {g:Int->Int->Bool}
  (rule:∀ (i j:Int) (t u:Tok) (s:Shared) (Q:Value->Shared->Prop) (E:Value->Shared->Prop),Q (.bool (g i j)) s->wpAny (model X.prog X.w) X.A (f (.int i t) (.int j u)) Q E s) :
  OpR X f (rI0 fun i j=>.bl (g i j)):=by
 intro pins s σ H x y v u Q I rx ry h
 obtain ⟨i,j,rfl,rfl,q⟩:=h
 obtain ⟨t,rfl⟩:=rx
 obtain ⟨t',rfl⟩:=ry
 exact rule i j t t' s _ _ ⟨.bl (g i j),H,I,rfl,q⟩
noncomputable def CPow (i j:Int):Prop:=0<=j/\j<=1000000/\i.natAbs < 2 ^ 64
noncomputable def CMul (i j:Int):Prop:=(-(2 ^ 64) < i/\i < 2 ^ 64)\/(-(2 ^ 64) < j/\j < 2 ^ 64)
theorem CMul.ok {i j:Int} (h:CMul i j):IntMulOk i j:=by
 rcases h with ⟨h1,h2⟩ | ⟨h1,h2⟩
 ·exact .of_left (intBits_le_64 h1 h2)
 ·exact .of_right (intBits_le_64 h1 h2)
theorem op_add:OpR X (binaryOp .Add) (rI0 fun i j=>.int (i + j)):=opI0 fun _ _ _ _ _ _ _ q=>add_int q
theorem op_sub:OpR X (binaryOp .Sub) (rI0 fun i j=>.int (i - j)):=opI0 fun _ _ _ _ _ _ _ q=>sub_int q
theorem op_mul:OpR X (binaryOp .Mult) (rI CMul fun i j=>.int (i * j)):=opI fun _ _ _ _ _ _ _ hc q=>mul_int q hc.ok
theorem op_mod:OpR X (binaryOp .Mod) (rI (fun _ j=>0 < j) fun i j=>.int (i % j)):=opI fun i j _ _ _ _ _ hc q=>by
 have h1:(0:Int) < j:=hc
 exact mod_int' (by omega) (by rw [Int.fmod_eq_emod_of_nonneg i (by omega)]; exact q)
theorem op_pow:OpR X (binaryOp .Pow) (rI CPow fun i j=>.int (i ^ j.toNat)):=opI fun _ _ _ _ _ _ _ hc q=>pow_int_small hc.1 hc.2.1 hc.2.2 q
theorem unI {f:Value->Sem Value} {g:Int->Int}
  (rule:∀ (i:Int) (t:Tok) (s:Shared) (Q:Value->Shared->Prop) (E:Value->Shared->Prop),Q (.int (g i) s.toks) { s with toks:=s.toks + 1 }->wpAny (model X.prog X.w) X.A (f (.int i t)) Q E s) :
  UnR X f (rU fun i=>.int (g i)):=by
 intro pins s σ H x v Q I rx h
 obtain ⟨i,rfl,q⟩:=h
 obtain ⟨t,rfl⟩:=rx
 exact rule i t s _ _ ⟨.int (g i),H,I.tok _,⟨_,rfl⟩,q⟩
theorem un_neg:UnR X (unaryOp .USub) (rU fun i=>.int (-i)):=unI fun _ _ _ _ _ q=>neg_int q
end
section
variable {X:Cx} {a b c:Expr} {ta tb tc:TE} {pos:Pos}
theorem fin_bl {pins:List (Addr × Obj)} {σ:St} {H:Hp} {s:Shared} {Q:VK} {k k':Bool} (I:Inv X pins σ H s) (q:Q (.bl k) H) (e:k=k'):EP X pins σ Q (.bool k') s:=by
 subst e
 exact ⟨.bl k,H,I,rfl,q⟩
theorem op_lt:OpR X (compareOp .Lt) (rI0 fun i j=>.bl (decide (i < j))):=opB0 fun _ _ _ _ _ _ _ q=>lt_int q
theorem op_le:OpR X (compareOp .LtE) (rI0 fun i j=>.bl (decide (i<=j))):=opB0 fun _ _ _ _ _ _ _ q=>le_int q
theorem op_gt:OpR X (compareOp .Gt) (rI0 fun i j=>.bl (decide (j < i))):=opB0 fun _ _ _ _ _ _ _ q=>gt_int q
theorem op_isN:OpR X (compareOp .Is) (fun x y H Q=>y=.non/\Q (.bl (decide (x=.non))) H):=by
 intro pins s σ H x y v u Q I rx ry h
 obtain ⟨rfl,q⟩:=h
 cases ry
 refine is_none_gen (fin_bl I q ?_)
 cases x <;> first
  | (cases rx; rfl)
  | (obtain ⟨t,rfl⟩:=rx; rfl)
theorem nomark (b:Expr) {op:CmpOp} (h:op ≠ .In:=by decide) (h2:op ≠ .NotIn:=by decide):behindInMarks op b=false:=by
 have e1:(op == CmpOp.In)=false:=by cases op <;> first | rfl | exact absurd rfl h
 have e2:(op == CmpOp.NotIn)=false:=by cases op <;> first | rfl | exact absurd rfl h2
 cases b <;> simp [behindInMarks,e1,e2]
theorem pe_cmpR {op:CmpOp} {r:R2} (ho:OpR X (compareOp op) r) (ha:PE X a ta) (hb:PE X b tb) (hm:behindInMarks op b=false):PE X (.Compare a [op] [b] pos) (tOp r ta tb):=by
 intro pins s σ H Q I h
 exact wpAny_Compare1 (binT ha hb I h fun v u s2 x y H2 I2 rx ry q=>ho pins s2 σ H2 x y v u Q I2 rx ry q) hm
noncomputable def tTest (t:TE):TT:=fun σ H Q=>t σ H fun x H'=>∃ k,x=.bl k/\Q k H'
theorem pt_cmpR {op:CmpOp} {r:R2} (ho:OpR X (compareOp op) r) (ha:PE X a ta) (hb:PE X b tb) (hm:behindInMarks op b=false):PT X (.Compare a [op] [b] pos) (tTest (tOp r ta tb)):=by
 intro pins s σ H Q I h
 refine wpAny_isTrue_Compare1 (thn (ha pins s σ H _ I h) fun v s1 ⟨x,H1,I1,r1,q1⟩=>thn (hb pins s1 σ H1 _ I1 q1) fun u s2 ⟨y,H2,I2,r2,q2⟩=>
  thn (ho pins s2 σ H2 x y v u _ I2 r1 r2 q2) fun c s3 ⟨z,H3,I3,r3,k,e,q3⟩=>?_) hm
 subst e
 cases r3
 exact wpAny_truthy_bool ⟨H3,I3,q3⟩
noncomputable def tChain (r r':R2) (ta tb tc:TE):TE:=fun σ H Q=>ta σ H fun x H1=>tb σ H1 fun y H2=>r x y H2 fun z H3=>∃ k,z=.bl k/\
 (if k=true then tc σ H3 fun w' H4=>r' y w' H4 Q else Q (.bl false) H3)
theorem pe_chain {op op':CmpOp} {r r':R2} (ho:OpR X (compareOp op) r) (ho':OpR X (compareOp op') r') (ha:PE X a ta) (hb:PE X b tb) (hc:PE X c tc)
  (hm:lastMarks [op,op'] [b,c]=false:=by with_unfolding_all rfl):PE X (.Compare a [op,op'] [b,c] pos) (tChain r r' ta tb tc):=by
 intro pins s σ H Q I h
 refine Compare_chain (thn (ha pins s σ H _ I h) fun v s1 ⟨x,H1,I1,r1,q1⟩=>chain_link (thn (hb pins s1 σ H1 _ I1 q1) fun u s2 ⟨y,H2,I2,r2,q2⟩=>
  thn (ho pins s2 σ H2 x y v u _ I2 r1 r2 q2) fun d s3 ⟨z,H3,I3,r3,k,e,q3⟩=>?_)) hm
 subst e
 cases r3
 refine wpAny_truthy_bool ?_
 cases k with
 | false=>exact ite_ff ⟨.bl false,H3,I3,rfl,q3⟩
 | true=>exact ite_tt (chain_last (thn (hc pins s3 σ H3 _ I3 q3) fun w' s4 ⟨z',H4,I4,r4,q4⟩=>ho' pins s4 σ H4 y z' u w' Q I4 r2 r4 q4))
theorem pt_chain {op op':CmpOp} {r r':R2} (ho:OpR X (compareOp op) r) (ho':OpR X (compareOp op') r') (ha:PE X a ta) (hb:PE X b tb) (hc:PE X c tc)
  (hm:lastMarks [op,op'] [b,c]=false:=by with_unfolding_all rfl):PT X (.Compare a [op,op'] [b,c] pos) (tTest (tChain r r' ta tb tc)):=by
 intro pins s σ H Q I h
 refine isTrue_chain (thn (ha pins s σ H _ I h) fun v s1 ⟨x,H1,I1,r1,q1⟩=>test_link (thn (hb pins s1 σ H1 _ I1 q1) fun u s2 ⟨y,H2,I2,r2,q2⟩=>
  thn (ho pins s2 σ H2 x y v u _ I2 r1 r2 q2) fun d s3 ⟨z,H3,I3,r3,k,e,q3⟩=>?_)) hm
 subst e
 cases r3
 refine wpAny_truthy_bool ?_
 cases k with
 | false=>
  obtain ⟨k',e',q'⟩:=q3
  cases e'
  exact ite_ff ⟨H3,I3,q'⟩
 | true=>
  refine ite_tt (test_last (thn (hc pins s3 σ H3 _ I3 q3) fun w' s4 ⟨z',H4,I4,r4,q4⟩=>thn (ho' pins s4 σ H4 y z' u w' _ I4 r2 r4 q4) fun d' s5 ⟨z2,H5,I5,r5,k2,e2,q5⟩=>?_))
  subst e2
  cases r5
  exact wpAny_truthy_bool ⟨H5,I5,q5⟩
theorem line63:(sizeLine:Nat) < 2 ^ 63:=by rw [sizeLine_eq]; decide
theorem vals1 {x:V} {us:List Value} (r:Vals [x] us):∃ u,us=[u]/\RelV x u:=by
 cases r with
 | cons r1 r2=>cases r2; exact ⟨_,rfl,r1⟩
theorem vals2 {x y:V} {us:List Value} (r:Vals [x,y] us):∃ u w',us=[u,w']/\RelV x u/\RelV y w':=by
 cases r with
 | cons r1 r2=>
  cases r2 with
  | cons r3 r4=>cases r4; exact ⟨_,_,rfl,r1,r3⟩
theorem call_min2 (hc:X.calm=true):CallR X (.builtin "min") (fun xs H Q=>∃ i j,xs=[.int i,.int j]/\Q (.int (if j < i then j else i)) H):=by
 intro pins s σ H xs us Q I r h
 obtain ⟨i,j,rfl,q⟩:=h
 obtain ⟨u,w',rfl,⟨t,rfl⟩,⟨t',rfl⟩⟩:=vals2 r
 refine min_two_ints (I.ok.hd hc) fun h' tk k=>⟨_,H,I.kept k,?_,q⟩
 by_cases hj:j < i
 ·rw [if_pos hj,if_pos hj]; exact ⟨_,rfl⟩
 ·rw [if_neg hj,if_neg hj]; exact ⟨_,rfl⟩
end
end L2
namespace L2
open PySem PySem.Spec PyProof.Rows
structure ObjM (h:Heap) (x dx C:Addr) (mA:Str->Option Value):Prop where
 obj:h.get? x=some (PySem.W.instObj C dx)
 ns:h.Ns1 dx mA
 ne:dx ≠ x
theorem lookIn_ns {h:Heap} {dx:Addr} {mA:Str->Option Value} (n:h.Ns1 dx mA):∃ od,h.get? dx=some od/\∀ name,PySem.W.lookIn name od=some (mA name):=by
 obtain ⟨o,es,ep,ho,hd,hk,_,hm⟩:=n
 refine ⟨o,ho,fun name=>?_⟩
 have e:=hm name
 unfold nsFind findBy at e
 rw [<-Array.find?_toList] at e
 unfold PySem.W.lookIn
 rw [hd]
 dsimp only
 split
 ·rename_i y q
  rw [q] at e
  exact congrArg some e
 ·rename_i q
  rw [q] at e
  have a:es.toList.any (·.refKey)=false:=by
   rw [List.any_eq_false]
   intro y hy
   obtain ⟨z,t,hkey⟩:=hk y (Array.mem_toList_iff.mp hy)
   simp [DictEntry.refKey,hkey]
  have a':¬ es.toList.any (·.refKey)=true:=by rw [a]; exact Bool.false_ne_true
  rw [if_neg a']
  exact congrArg some e
theorem ObjM.look {h:Heap} {x dx C:Addr} {mA:Str->Option Value} (I:ObjM h x dx C mA):∃ od,PySem.W.InstAt h x (PySem.W.instObj C dx) C (some od)/\∀ name,PySem.W.lookIn name od=some (mA name):=
 let ⟨od,ho,hl⟩:=lookIn_ns I.ns
 ⟨od,⟨I.obj,rfl,rfl,ho⟩,hl⟩
section
variable {prog:Program} {w:World} {A:Around} {E:Value->Shared->Prop} {s:Shared} {K:PySem.W.Frag} {x dx C f:Addr} {mA:Str->Option Value} {name:Str} {v:Value}
theorem get_map {expr:Bool} {Q:Value->Shared->Prop} (X:K.In s.heap) (I:ObjM s.heap x dx C mA) (hg:PySem.W.plainGet K C name=true) (hh:PySem.W.hasDictIn K C=true)
  (ha:PySem.W.findIn K (.ref C) name=some none) (hv:mA name=some v) (hv':PySem.W.handedIn v=true) (h:Q v { s with toks:=s.toks + 1 }) :
  wpAny (model prog w) A (getAttr (.ref x) name expr) Q E s:=by
 obtain ⟨od,J,hl⟩:=I.look
 exact PySem.W.get_value X J (PySem.W.plainGet_of hg).1 (PySem.W.findObj_own hh ha rfl (by rw [hl,hv])) hv' h
theorem get_meth {pl:Sem Bool} {Q:Value × List Value->Shared->Prop} (X:K.In s.heap) (I:ObjM s.heap x dx C mA) (hg:PySem.W.plainGet K C name=true)
  (hf:PySem.W.findIn K (.ref C) name=some (some (.ref f))) (ht:PySem.W.isFn K (.ref f)=true) (hv:mA name=none) (h:Q (.ref f,[.ref x]) s) :
  wpAny (model prog w) A (getMethod (.ref x) name pl) Q E s:=by
 obtain ⟨od,J,hl⟩:=I.look
 exact PySem.W.method_fn X J (PySem.W.plainGet_of hg).1 (PySem.W.plainGet_of hg).2 hf (beq_iff_eq.mp ht) (by show (PySem.W.lookIn name od).map (·.isSome)=some false; rw [hl,hv]; rfl) h
theorem set_map {ns:List Str} {Q:Unit->Shared->Prop} (X:K.In s.heap) (I:ObjM s.heap x dx C mA)
  (hs:PySem.W.findIn K (.ref C) "__setattr__" = some (some (.builtin "object.__setattr__"))) (hp:PySem.W.plainOver K C=true) (ht:PySem.W.takerIn K C name=some none) (hh:PySem.W.hasDictIn K C=true)
  (hw:PySem.Within mA ns) (hsz:ns.length<=sizeLine)
  (h:∀ h',ObjM h' x dx C (fun y=>if y=name then some v else mA y)->Heap.SameBut dx s.heap h'->Q () { s with heap:=h',toks:=s.toks + 2 }) :
  wpAny (model prog w) A (setAttr (.ref x) name v) Q E s:=by
 obtain ⟨od,J,hl⟩:=I.look
 refine PySem.W.set_plain X J hs (PySem.W.osa_open (s:={ s with toks:=s.toks + 1 }) (r:=none) X J hp ht fun b=>?_)
 obtain ⟨cd,hc,hd'⟩:=PySem.W.any_some hh
 have hx:s.heap.get? x=some ⟨.ref C,some dx,.plain,#[]⟩:=I.obj
 refine wpAny_bind (wpAny_pure (wpAny_bind (wpAny_bind (wpAny_loadPart hx (wpAny_bind (PySem.W.Looks.here (s:={ s with toks:=s.toks + 1 }) (PySem.W.looks_clsIn X hc) ?_))))))
 rw [hd']
 refine wpAny_pure (a:=some dx) (wpAny_bind (wpAny_pure (wpAny_bind ?_)))
 refine wpAny_nsSet1 (s:={ s with toks:=s.toks + 1 }) I.ns fun h' hn2 hs2=>?_
 obtain ⟨oD,esD,epD,hoD,hdD,hcD⟩:=hn2.count (PySem.Within.cons name v hw)
 refine wpAny_bind (wpAny_lookBehind hoD (by rw [hdD]; exact pastItsLine_dict (Nat.le_trans hcD (by rw [List.length_cons]; omega))) ?_)
 exact wpAny_pure (h _ ⟨(hs2.2 _ (Ne.symm I.ne)).trans I.obj,hn2,I.ne⟩ hs2)
theorem make_map {R:Result->Shared->Prop} {vs:List Value} {kw:List (Str × Value)} (X:K.In s.heap) (hm:PySem.W.makesIn K C=true)
  (hi:PySem.W.findIn K (.ref C) "__init__" = some (some (.ref f))) (hf:PySem.W.typeIn K (.ref f)=some (.type "function"))
  (h:codeAny (model prog w) (A.under (.builtin "type.__call__" ⟨.ref C :: vs,kw⟩)) (.call (.ref f) ⟨.ref (s.heap.objs.size + 1) :: vs,kw⟩) (PySem.W.InitBack (s.heap.objs.size + 1) R)
   { s with heap:=(s.heap.push PySem.W.emptyDict).push (PySem.W.instObj C s.heap.objs.size) }) :
  codeAny (model prog w) A (.call (.ref C) ⟨vs,kw⟩) R s:=by
 obtain ⟨hh,g,d,t,os⟩:=s
 exact PySem.W.make_core (PySem.W.makes_of X hm) (PySem.W.looks_findIn X hi) (fun self=>PySem.W.bind_fn X self hf) (.inl rfl) h
end
noncomputable def putF (f:Str) (v:V):List (Str × V)->List (Str × V)
 | []=>[(f,v)]
 | (g,x) :: r=>if g=f then (g,v) :: r else (g,x) :: putF f v r
theorem lookup_putF (f g:Str) (v:V):∀ fs:List (Str × V),(putF f v fs).lookup g=if g=f then some v else fs.lookup g
 | []=>by
  show List.lookup g [(f,v)]=_
  by_cases h:g=f
  ·have hb:(g == f)=true:=beq_iff_eq.mpr h
   simp only [List.lookup,hb,if_pos h]
  ·have hb:(g == f)=false:=beq_eq_false_iff_ne.mpr h
   simp only [List.lookup,hb,if_neg h]
 | (k,x) :: r=>by
  have ih:=lookup_putF f g v r
  rw [show putF f v ((k,x) :: r)=(if k=f then (k,v) :: r else (k,x) :: putF f v r) from rfl]
  by_cases hk:k=f
  ·rw [if_pos hk]
   by_cases h:g=k
   ·have hb:(g == k)=true:=beq_iff_eq.mpr h
    simp only [List.lookup,hb,if_pos (h.trans hk)]
   ·have hb:(g == k)=false:=beq_eq_false_iff_ne.mpr h
    simp only [List.lookup,hb,if_neg (fun e:g=f=>h (e.trans hk.symm))]
  ·rw [if_neg hk]
   by_cases h:g=k
   ·have hb:(g == k)=true:=beq_iff_eq.mpr h
    simp only [List.lookup,hb,if_neg (fun e:g=f=>hk (h.symm.trans e))]
   ·have hb:(g == k)=false:=beq_eq_false_iff_ne.mpr h
    simp only [List.lookup,hb]
    exact ih
theorem keys_putF (f:Str) (v:V):∀ fs:List (Str × V),f ∈ (putF f v fs).map (·.1)/\∀ g,g ∈ fs.map (·.1)->g ∈ (putF f v fs).map (·.1)
 | []=>⟨by simp [putF],fun g h=>by simp at h⟩
 | (k,x) :: r=>by
  obtain ⟨i1,i2⟩:=keys_putF f v r
  rw [show putF f v ((k,x) :: r)=(if k=f then (k,v) :: r else (k,x) :: putF f v r) from rfl]
  by_cases hk:k=f
  ·rw [if_pos hk]
   subst hk
   exact ⟨by simp,fun g h=>by simpa using h⟩
  ·rw [if_neg hk]
   refine ⟨?_,fun g h=>?_⟩
   ·rw [List.map_cons]
    exact List.mem_cons_of_mem _ i1
   ·rw [List.map_cons] at h ⊢
    rcases List.mem_cons.mp h with e | e
    ·exact List.mem_cons.mpr (.inl e)
    ·exact List.mem_cons_of_mem _ (i2 g e)
theorem length_putF (f:Str) (v:V):∀ fs:List (Str × V),(putF f v fs).length<=fs.length + 1
 | []=>by simp [putF]
 | (k,x) :: r=>by
  have ih:=length_putF f v r
  rw [show putF f v ((k,x) :: r)=(if k=f then (k,v) :: r else (k,x) :: putF f v r) from rfl]
  by_cases hk:k=f
  ·rw [if_pos hk,List.length_cons,List.length_cons]; omega
  ·rw [if_neg hk,List.length_cons,List.length_cons]; omega
theorem RelO.some_of {v:V} {o:Option Value} (r:RelO (some v) o):∃ u,o=some u/\RelV v u:=by
 cases o with
 | none=>exact (show False from r).elim
 | some u=>exact ⟨u,rfl,r⟩
theorem RelO.none_of {o:Option Value} (r:RelO none o):o=none:=by
 cases o with
 | none=>rfl
 | some u=>exact (show False from r).elim
theorem handed_of {v:V} {u:Value} (r:RelV v u):PySem.W.handedIn u=true:=by
 cases v with
 | non=>cases (show u=Value.none from r); rfl
 | bl b=>cases (show u=Value.bool b from r); rfl
 | int i=>obtain ⟨t,e⟩:=(show ∃ t,u=Value.int i t from r); cases e; rfl
 | str x=>obtain ⟨t,e⟩:=(show ∃ t,u=Value.str x t from r); cases e; rfl
 | byt b=>obtain ⟨t,e⟩:=(show ∃ t,u=Value.bytes b t from r); cases e; rfl
 | flt b=>obtain ⟨t,e⟩:=(show ∃ t,u=Value.float b t from r); cases e; rfl
 | ref a=>cases (show u=Value.ref a from r); rfl
 | ty n=>cases (show u=Value.type n from r); rfl
section
variable {P:Program} {w:World} {H H':Hp} {h h':Heap} {a C dx:Addr} {fs fs':List (Str × V)}
theorem ins_get (hok:HOk P w H h) (e:H a=some (.ins C dx fs)):∃ mA,ObjM h a dx C mA/\(∀ f,RelO (fs.lookup f) (mA f))/\PySem.Within mA (fs.map (·.1))/\fs.length<=1000/\H dx=some (.own a):=by
 obtain ⟨d,z,ne,ob,mA,n,r,q⟩:=(show ObjOk P w H h a (.ins C dx fs) from hok a _ e)
 exact ⟨mA,⟨ob,n,ne⟩,r,q,z,d⟩
end
structure Cls (K:PySem.W.Frag) (C:Addr):Prop where
 pg:PySem.W.plainGet K C Str.empty=true
 hd:PySem.W.hasDictIn K C=true
 po:PySem.W.plainOver K C=true
 sa:PySem.W.findIn K (.ref C) "__setattr__" = some (some (.builtin "object.__setattr__"))
theorem Cls.get {K:PySem.W.Frag} {C:Addr} (c:Cls K C) (f:Str):PySem.W.plainGet K C f=true:=c.pg
noncomputable def NoAttr (K:PySem.W.Frag) (C:Addr) (f:Str):Prop:=PySem.W.findIn K (.ref C) f=some none
theorem NoAttr.taker {K:PySem.W.Frag} {C:Addr} {f:Str} (n:NoAttr K C f):PySem.W.takerIn K C f=some none:=by
 unfold PySem.W.takerIn
 rw [show PySem.W.findIn K (.ref C) f=some none from n]
 rfl
structure Meth (K:PySem.W.Frag) (C:Addr) (m:Str) (f:Addr):Prop where
 at_:PySem.W.findIn K (.ref C) m=some (some (.ref f))
 fn:PySem.W.isFn K (.ref f)=true
 kp:PySem.W.keepIn K (.ref f)=true
section
variable {X:Cx} {pins:List (Addr × Obj)} {σ:St} {H:Hp} {s:Shared} {a C dx:Addr} {fs:List (Str × V)} {f:Str} {v:V} {A:Around} {E:Value->Shared->Prop}
theorem getattr_ok {b:Bool} {Q:Value->Shared->Prop} (I:Inv X pins σ H s) (e:H a=some (.ins C dx fs)) (c:Cls X.K C) (n:NoAttr X.K C f) (l:fs.lookup f=some v)
  (h:∀ u s',Inv X pins σ H s'->RelV v u->Q u s'):wpAny (model X.prog X.w) A (getAttr (.ref a) f b) Q E s:=by
 obtain ⟨mA,O,r,_,_,_⟩:=ins_get I.hok e
 obtain ⟨u,hu,ru⟩:=RelO.some_of (v:=v) (o:=mA f) (by rw [<-l]; exact r f)
 exact get_map I.kIn O (c.get f) c.hd n hu (handed_of ru) (h u _ (I.tok _) ru)
theorem getmeth_ok {m:Str} {g:Addr} {pl:Sem Bool} {Q:Value × List Value->Shared->Prop} (I:Inv X pins σ H s) (e:H a=some (.ins C dx fs)) (c:Cls X.K C) (k:Meth X.K C m g) (l:fs.lookup m=none)
  (h:Q (.ref g,[.ref a]) s):wpAny (model X.prog X.w) A (getMethod (.ref a) m pl) Q E s:=by
 obtain ⟨mA,O,r,_,_,_⟩:=ins_get I.hok e
 have hn:mA m=none:=RelO.none_of (by rw [<-l]; exact r m)
 exact get_meth I.kIn O (c.get m) k.at_ k.fn hn h
theorem setattr_ok {y:V} {u:Value} {Q:Unit->Shared->Prop} (I:Inv X pins σ H s) (e:H a=some (.ins C dx fs)) (c:Cls X.K C) (n:NoAttr X.K C f) (hl:fs.length < 1000) (ry:RelV y u)
  (h:∀ s',Inv X pins σ (upd H a (.ins C dx (putF f y fs))) s'->Q () s'):wpAny (model X.prog X.w) A (setAttr (.ref a) f u) Q E s:=by
 obtain ⟨mA,O,r,wi,_,ho⟩:=ins_get I.hok e
 have hz:(fs.map (·.1)).length<=sizeLine:=by rw [List.length_map,sizeLine_eq]; omega
 refine set_map I.kIn O c.sa c.po n.taker c.hd wi hz fun h' O' sb=>h _ ?_
 have hd:∃ o,h'.get? dx=some o:=let ⟨o,_,_,e',_⟩:=O'.ns; ⟨o,e'⟩
 refine I.write (x:=a) (e:=dx) (by rw [e]; exact True.intro) (.inr ho) (fun b q hb z=>(sb.2 b hb).trans z) hd ?_
 refine ⟨by rw [upd_ne O.ne]; exact ho,?_,O.ne,O'.obj,_,O'.ns,fun g=>?_,fun g hg=>?_⟩
 ·have:=length_putF f y fs; omega
 ·show RelO ((putF f y fs).lookup g) (if g=f then some u else mA g)
  rw [lookup_putF]
  by_cases q:g=f
  ·rw [if_pos q,if_pos q]; exact ry
  ·rw [if_neg q,if_neg q]; exact r g
 ·by_cases q:g=f
  ·rw [q]; exact (keys_putF f y fs).1
  ·refine (keys_putF f y fs).2 g (wi g fun z=>hg ?_)
   show (if g=f then some u else mA g)=none
   rw [if_neg q]; exact z
theorem Inv.made (I:Inv X pins σ H s):Inv X pins σ (upd (upd H s.heap.objs.size (.own (s.heap.objs.size + 1))) (s.heap.objs.size + 1) (.ins C s.heap.objs.size []))
  { s with heap:=(s.heap.push PySem.W.emptyDict).push (PySem.W.instObj C s.heap.objs.size) }:=by
 have e1:(s.heap.push PySem.W.emptyDict).get? s.heap.objs.size=some PySem.W.emptyDict:=Heap.get?_push_size s.heap rfl
 have e2:((s.heap.push PySem.W.emptyDict).push (PySem.W.instObj C s.heap.objs.size)).get? (s.heap.objs.size + 1)=some (PySem.W.instObj C s.heap.objs.size):=by
  have:=Heap.get?_push_size (s.heap.push PySem.W.emptyDict) (o:=PySem.W.instObj C s.heap.objs.size) rfl
  rwa [Heap.size_push] at this
 have e3:(s.heap.push PySem.W.emptyDict).Ns s.heap.objs.size (fun _=>none):=⟨PySem.W.emptyDict,#[],_,e1,rfl,(fun e he=>absurd he (by simp)),fun _=>rfl⟩
 have I1:=I.laid (a:=s.heap.objs.size) (o:=.own (s.heap.objs.size + 1)) (h':=s.heap.push PySem.W.emptyDict) (t':=s.toks) (fun b u q=>Heap.get?_push_of_some _ q) (Nat.le_refl _) ⟨_,e1⟩
 refine I1.laid (a:=s.heap.objs.size + 1) (o:=.ins C s.heap.objs.size []) (t':=s.toks) (fun b u q=>Heap.get?_push_of_some _ q) (Nat.le_of_eq (Heap.size_push _ _)) ?_
 have ne:s.heap.objs.size ≠ s.heap.objs.size + 1:=Nat.ne_of_lt (Nat.lt_succ_self _)
 refine ⟨by rw [upd_ne ne,upd_same],Nat.zero_le _,ne,e2,fun _=>none,(Heap.Ns1.of_empty e3).at fun o q=>Heap.get?_push_of_some _ q,fun _=>True.intro,fun y hy=>absurd rfl hy⟩
theorem attr_of {prog:Program} {w:World} {env:Env} {e:Expr} {f:Str} {pos:Pos} {s:Shared} {Q:Value->Shared->Prop} (hb:attributeBase e f env (eval e env)=eval e env)
  (h:wpAny (model prog w) A (eval e env) (fun o s₁=>wpAny (model prog w) A (getAttr o f true) Q E s₁) E s):wpAny (model prog w) A (eval (.Attribute e f pos) env) Q E s:=
 Attribute_any_ h (by rw [arm_eval_Attribute,hb])
end
noncomputable def tFld (K:PySem.W.Frag) (ta:TE) (f:Str):TE:=fun σ H Q=>ta σ H fun x H1=>∃ a C dx fs v,x=.ref a/\H1 a=some (.ins C dx fs)/\Cls K C/\NoAttr K C f/\fs.lookup f=some v/\Q v H1
noncomputable def sFld (K:PySem.W.Frag) (ta tv:TE) (f:Str):TS:=fun D σ H=>tv σ H fun y H1=>ta σ H1 fun x H2=>∃ a C dx fs,x=.ref a/\H2 a=some (.ins C dx fs)/\Cls K C/\NoAttr K C f/\fs.length < 1000/\
 D.nx σ (upd H2 a (.ins C dx (putF f y fs)))
section
variable {X:Cx} {o e value:Expr} {f:Str} {pos pos' tpos:Pos} {ta tv:TE}
theorem pe_fld (he:PE X e ta) (hb:attributeBase e f X.env (eval e X.env)=eval e X.env):PE X (.Attribute e f pos) (tFld X.K ta f):=by
 intro pins s σ H Q I h
 refine attr_of hb (thn (he pins s σ H _ I h) fun u s1 ⟨x,H1,I1,rx,a,C,dx,fs,v,ex,ea,c,n,l,q⟩=>?_)
 subst ex
 obtain rfl:u=Value.ref a:=rx
 exact getattr_ok I1 ea c n l fun u' s2 I2 ru=>⟨v,H1,I2,ru,q⟩
theorem ps_fld (ha:PE X o ta) (hv:PE X value tv) (hs:swapsWith value (some (.Attribute o f pos')) pos.line X.env=pure false):PS X (.Assign [.Attribute o f pos'] value pos) (sFld X.K ta tv f):=by
 intro pins s σ H D I h
 refine plainObj_wpAny_Assign_Attribute (thn (hv pins s σ H _ I h) fun u s1 ⟨y,H1,I1,ry,q⟩=>thn (ha pins s1 σ H1 _ I1 q) fun ov s2 ⟨x,H2,I2,rx,a,C,dx,fs,ex,ea,c,n,l,q2⟩=>?_) hs
 subst ex
 obtain rfl:ov=Value.ref a:=rx
 exact setattr_ok I2 ea c n l ry fun s3 I3=>⟨σ,_,I3,q2⟩
end
section
variable {X:Cx} {pins:List (Addr × Obj)} {σ:St} {H:Hp} {s:Shared} {A:Around} {E:Value->Shared->Prop} {Q:Value->Shared->Prop} {c:Value} {b:Bool}
inductive TyOf (K:PySem.W.Frag) (H:Hp):V->Value->Prop where
 | non:TyOf K H .non (.type "NoneType")
 | bl (x:Bool):TyOf K H (.bl x) (.type "bool")
 | int (i:Int):TyOf K H (.int i) (.type "int")
 | str (x:Str):TyOf K H (.str x) (.type "str")
 | flt (x:UInt64):TyOf K H (.flt x) (.type "float")
 | lst {a:Addr} {xs:List V} (e:H a=some (.lst xs)):TyOf K H (.ref a) (.type "list")
 | frz {a:Addr} {o:Obj} {xs:List V} (e:H a=some (.frz o (.lst xs))):TyOf K H (.ref a) (.type "list")
 | tup {a:Addr} {xs:List V} (e:H a=some (.tup xs)):TyOf K H (.ref a) (.type "tuple")
 | dK {a:Addr} {kvs:List (Key × V)} (e:H a=some (.dK kvs)):TyOf K H (.ref a) (.type "dict")
 | dT {a:Addr} {kvs:List (List Key × V)} (e:H a=some (.dT kvs)):TyOf K H (.ref a) (.type "dict")
 | ins {a C dx:Addr} {fs:List (Str × V)} (e:H a=some (.ins C dx fs)) (cl:Cls K C) (ha:PySem.W.findIn K (.ref C) "__class__" = some (some (.builtin "object.__class__")))
   (hn:PySem.W.specialIn K (.builtin "object.__class__") "__get__" = some (some (.builtin "getset_descriptor.__get__"))) (htk:PySem.W.takesIn K (.builtin "object.__class__")=some true)
   (hm:PySem.W.mroIn K C (.type "object")=some true):TyOf K H (.ref a) (.ref C)
theorem isinst_ok {x:V} {u t:Value} (I:Inv X pins σ H s) (rx:RelV x u) (ty:TyOf X.K H x t) (e:PySem.W.kitOne X.K t c=some b) (h:∀ tk,Q (.bool b) { s with toks:=tk }) :
  wpAny (model X.prog X.w) A (call (.builtin "isinstance") [u,c]) Q E s:=by
 cases ty with
 | non=>cases (show u=Value.none from rx); exact PySem.W.kia_one PySem.W.kitx_none I.kIn True.intro e (fun z=>nomatch z) h
 | bl y=>cases (show u=Value.bool y from rx); exact PySem.W.kia_one PySem.W.kitx_bool I.kIn True.intro e (fun z=>nomatch z) h
 | int i=>obtain ⟨t,q⟩:=(show ∃ t,u=Value.int i t from rx); cases q; exact PySem.W.kia_one PySem.W.kitx_int I.kIn True.intro e (fun z=>nomatch z) h
 | str y=>obtain ⟨t,q⟩:=(show ∃ t,u=Value.str y t from rx); cases q; exact PySem.W.kia_one PySem.W.kitx_str I.kIn True.intro e (fun z=>nomatch z) h
 | flt y=>obtain ⟨t,q⟩:=(show ∃ t,u=Value.float y t from rx); cases q; exact PySem.W.kia_one PySem.W.kitx_float I.kIn True.intro e (fun z=>nomatch z) h
 | @lst a xs ea=>
  cases (show u=Value.ref a from rx)
  obtain ⟨_,_,n,_,h1⟩:=(show ObjOk X.prog X.w H s.heap a (.lst xs) from I.hok a _ ea)
  exact PySem.W.kia_one PySem.W.kitx_list I.kIn ⟨_,h1,rfl⟩ e (fun z=>nomatch z) h
 | @frz a ob xs ea=>
  cases (show u=Value.ref a from rx)
  obtain ⟨_,_,_,n,_,h1⟩:=(show ObjOk X.prog X.w H s.heap a (.frz ob (.lst xs)) from I.hok a _ ea)
  exact PySem.W.kia_one PySem.W.kitx_list I.kIn ⟨_,h1,rfl⟩ e (fun z=>nomatch z) h
 | @tup a xs ea=>
  cases (show u=Value.ref a from rx)
  obtain ⟨_,_,_,p⟩:=(show ObjOk X.prog X.w H s.heap a (.tup xs) from I.hok a _ ea)
  obtain ⟨o,h1,h2,_⟩:=p
  exact PySem.W.kia_one PySem.W.kitx_tuple I.kIn ⟨o,h1,h2⟩ e (fun z=>nomatch z) h
 | @dK a kvs ea=>
  cases (show u=Value.ref a from rx)
  obtain ⟨_,_,vs,_,p⟩:=(show ObjOk X.prog X.w H s.heap a (.dK kvs) from I.hok a _ ea)
  obtain ⟨o,es,ep,h1,h2,_⟩:=p
  exact PySem.W.kia_one PySem.W.kitx_dict I.kIn ⟨o,h1,h2.1⟩ e (fun z=>nomatch z) h
 | @dT a kvs ea=>
  cases (show u=Value.ref a from rx)
  obtain ⟨_,_,xs,_,o,es,ep,h1,h2,_⟩:=(show ObjOk X.prog X.w H s.heap a (.dT kvs) from I.hok a _ ea)
  exact PySem.W.kia_one PySem.W.kitx_dict I.kIn ⟨o,h1,h2.1⟩ e (fun z=>nomatch z) h
 | @ins a C dx fs ea cl ha hn htk hm=>
  cases (show u=Value.ref a from rx)
  obtain ⟨mA,O,_⟩:=ins_get I.hok ea
  obtain ⟨od,J,_⟩:=O.look
  exact PySem.W.kia_one (PySem.W.kitx_own (cl.get _) cl.hd ha hn htk hm) I.kIn J e (fun z=>nomatch z) h
end
end L2
namespace L2
open PySem PySem.Spec PyProof.Rows
structure Room (k:Nat) (A:Around):Prop where
 hd:A.handled=none
 dp:A.depth + 3 * k + 5 < recursionLimit
 un:A.units + 16 * k + 200 < cLine
theorem Room.mono {j k:Nat} {A:Around} (r:Room k A) (h:j<=k):Room j A:=⟨r.hd,by have:=r.dp; omega,by have:=r.un; omega⟩
theorem Room.deeper {k:Nat} {A:Around} (r:Room (k + 1) A) (env:Env):Room k (A.deeper env):=
 ⟨r.hd,by have:=r.dp; show A.depth + 1 + 3 * k + 5 < _; omega,by have:=r.un; show A.units + 3 + 16 * k + 200 < _; omega⟩
theorem make_depth {A:Around} {C:Addr} {us:List Value} {kw:List (Str × Value)}:(A.under (.builtin "type.__call__" ⟨.ref C :: us,kw⟩)).depth=A.depth + 1:=by
 first | rfl | simp [Around.under,Code.weight,Code.isCreation,Code.isGuard,Code.isCaller,Code.frames,Code.isFrame,guardIds]
theorem make_units {A:Around} {C:Addr} {us:List Value} {kw:List (Str × Value)}:(A.under (.builtin "type.__call__" ⟨.ref C :: us,kw⟩)).units=A.units + 1:=by
 first | rfl | simp [Around.under,Code.cUnits,Code.frames,Code.isFrame]
theorem Room.make {k:Nat} {A:Around} (r:Room (k + 1) A) (C:Addr) (us:List Value) (kw:List (Str × Value)):Room k (A.under (.builtin "type.__call__" ⟨.ref C :: us,kw⟩)):=
 ⟨r.hd,by have:=r.dp; rw [make_depth]; omega,by have:=r.un; rw [make_units]; omega⟩
theorem Room.depth {k:Nat} {A:Around} (r:Room k A):A.depth < recursionLimit:=by have:=r.dp; omega
theorem Room.units {k:Nat} {A:Around} (r:Room k A):A.units + 64 < cLine:=by have:=r.un; omega
noncomputable def tNil:TA:=fun _ H Q=>Q [] H
noncomputable def tCons (ta:TE) (tr:TA):TA:=fun σ H Q=>ta σ H fun x H1=>tr σ H1 fun xs H2=>Q (x :: xs) H2
section
variable {X:Cx} {e:Expr} {es:List Expr} {te:TE} {t:TA} {pos:Pos}
theorem pa_nil:PA X [] tNil:=fun _ _ _ _ H Q I h=>Calls.spliced_nil ⟨[],H,I,.nil,h⟩
theorem pa_cons (ha:PE X e te) (hr:PA X es t) (hs:starEach (e :: es) X.env=(false,eval e X.env) :: starEach es X.env:=by rfl):PA X (e :: es) (tCons te t):=by
 intro pos pins s σ H Q I h
 rw [hs]
 show wpAny _ _ (spliced ((false,eval e X.env) :: backTo pos (starEach es X.env))) _ _ s
 refine Calls.spliced_cons (thn (ha pins s σ H _ I h) fun u s1 ⟨x,H1,I1,r1,q1⟩=>?_)
 exact thn (hr pos pins s1 σ H1 _ I1 q1) fun us s2 ⟨xs,H2,I2,r2,q2⟩=>⟨x :: xs,H2,I2,.cons r1 r2,q2⟩
noncomputable def tTup (t:TA):TE:=fun σ H Q=>t σ H fun xs H1=>xs.length<=sizeLine/\∀ p,H1 p=none->Q (.ref p) (upd H1 p (.tup xs))
noncomputable def tLst (t:TA):TE:=fun σ H Q=>t σ H fun xs H1=>xs.length<=sizeLine/\∀ p,H1 p=none->Q (.ref p) (upd H1 p (.lst xs))
theorem pe_tup {x1} (h:PA X es t):PE X (.Tuple es x1 pos) (tTup t):=by
 intro pins s σ H Q I hq
 refine wpAny_Tuple_spliced (thn (h pos pins s σ H _ I hq) fun us s1 ⟨xs,H1,I1,r,z,q⟩=>⟨by rw [<-r.length]; exact z,?_⟩)
 have hf:H1 s1.heap.objs.size=none:=I1.hok.fresh (Nat.le_refl _)
 refine ⟨.ref s1.heap.objs.size,upd H1 s1.heap.objs.size (.tup xs),I1.laid (t':=s1.toks) (fun b u e=>Heap.get?_push_of_some _ e) (Nat.le_refl _) ?_,rfl,q _ hf⟩
 exact ⟨z,us,r,⟨_,Heap.get?_push_size _ rfl,rfl,_,rfl⟩⟩
theorem pe_lst (h:PA X es t):PE X (.List es pos) (tLst t):=by
 intro pins s σ H Q I hq
 refine wpAny_List_spliced (thn (h pos pins s σ H _ I hq) fun us s1 ⟨xs,H1,I1,r,z,q⟩=>⟨by rw [<-r.length]; exact z,?_⟩)
 have hf:H1 s1.heap.objs.size=none:=I1.hok.fresh (Nat.le_refl _)
 refine ⟨.ref s1.heap.objs.size,upd H1 s1.heap.objs.size (.lst xs),I1.laid (t':=s1.toks) (fun b u e=>Heap.get?_push_of_some _ e) (Nat.le_refl _) ?_,rfl,q _ hf⟩
 exact ⟨z,us,0,r,Heap.get?_push_size _ rfl⟩
end
noncomputable abbrev Sp:=List V->Hp->VK->XK->Prop
noncomputable abbrev CXT:=List Env->Hp->Shared->XK->Value->Shared->Prop
structure Env0 (P:Program) (w:World) (K:PySem.W.Frag) (mg:Str->Option Value) (base:Heap) (A:Around) (outer:List Env) (s:Shared) (H:Hp):Prop where
 frames:A.frames=some outer
 mod:Mod K mg base
 bs:∀ b o,base.get? b=some o->s.heap.get? b=some o/\H b=none
 bsz:base.objs.size<=s.heap.objs.size
 funs:s.heap.FunFrames base outer
 frf:∀ b ∈ frs outer,H b=none
 hok:HOk P w H s.heap
 bare:AllBare s.gens
noncomputable def CE (outer:List Env) (P:Program) (w:World) (H:Hp) (s:Shared) (Q:VK) (u:Value) (s':Shared):Prop:=
 ∃ v H',s'.os=s.os/\AllBare s'.gens/\Un (frs outer) [] H H' s.heap s'.heap/\HOk P w H' s'.heap/\RelV v u/\Q v H'
noncomputable def CR (CX:CXT) (outer:List Env) (P:Program) (w:World) (H:Hp) (s:Shared) (Q:VK) (E:XK) (r:Result) (s':Shared):Prop:=
 match r with
 | .ok (.ret u)=>CE outer P w H s Q u s'
 | .ok _=>False
 | .error e=>CX outer H s E e s'
structure FnOk (P:Program) (w:World) (K:PySem.W.Frag) (mg:Str->Option Value) (base:Heap) (CX:CXT) (k:Nat) (f:Addr) (fd:FuncData) (ps:List Str) (sp:Sp):Prop where
 len:∀ vs H Q E,sp vs H Q E->vs.length=ps.length
 run:∀ (A:Around) (outer:List Env) (s:Shared) (H:Hp) (args:Args) (us:List Value) (vs:List V) (Q:VK) (E:XK),Room k A->Env0 P w K mg base A outer s H->BindsTo s fd args (ps.zip us)->Vals vs us->sp vs H Q E->
  codeAny (model P w) A (.call (.ref f) args) (CR CX outer P w H s Q E) s
theorem FnOk.imp {P:Program} {w:World} {K:PySem.W.Frag} {mg:Str->Option Value} {base:Heap} {CX:CXT} {k:Nat} {f:Addr} {fd:FuncData} {ps:List Str} {sp sp':Sp} (F:FnOk P w K mg base CX k f fd ps sp)
  (h:∀ vs H Q E,sp' vs H Q E->sp vs H Q E):FnOk P w K mg base CX k f fd ps sp':=
 ⟨fun vs H Q E q=>F.len vs H Q E (h _ _ _ _ q),fun A outer s H args us vs Q E hr he hb hv hs=>F.run A outer s H args us vs Q E hr he hb hv (h _ _ _ _ hs)⟩
theorem Env0.make {P:Program} {w:World} {K:PySem.W.Frag} {mg:Str->Option Value} {base:Heap} {A:Around} {outer:List Env} {s:Shared} {H:Hp} (e:Env0 P w K mg base A outer s H) (C:Addr) (us:List Value) (kw:List (Str × Value)) :
  Env0 P w K mg base (A.under (.builtin "type.__call__" ⟨.ref C :: us,kw⟩)) outer s H:=⟨by first | exact e.frames | (simpa [Around.under,Code.envs,Code.isFrame,pushEnvs] using e.frames),e.mod,e.bs,e.bsz,e.funs,e.frf,e.hok,e.bare⟩
section
variable {X:Cx} {pins:List (Addr × Obj)} {σ:St} {H:Hp} {s s':Shared}
theorem Inv.env0 (I:Inv X pins σ H s):Env0 X.prog X.w X.K X.mg X.base X.A X.stack s H:=
 ⟨I.ok.frames,I.ok.mod,I.bs,Nat.le_trans I.ok.bsz I.sz,I.stack,I.stkFree,I.hok,I.bare⟩
theorem Inv.after {Q:VK} {u:Value} (I:Inv X pins σ H s) (h:CE X.stack X.prog X.w H s Q u s'):EP X pins σ Q u s':=by
 obtain ⟨v,H',os,bare,un,hok,r,q⟩:=h
 obtain ⟨hh,g,d,t,os'⟩:=s'
 obtain rfl:os' = s.os:=os
 exact ⟨v,H',I.call (h':=hh) (g':=g) (d':=d) (t':=t) (ch:=[]) un hok bare (fun b z=>absurd z (by simp)),r,q⟩
end
noncomputable def Binds (K:PySem.W.Frag) (fd:FuncData) (ps:List Str) (ds:List Value):Prop:=
 ∀ (s:Shared) (us:List Value),K.In s.heap->(us ++ ds).length=ps.length->BindsTo s fd ⟨us,[]⟩ (ps.zip (us ++ ds))
theorem Binds.all {K:PySem.W.Frag} {fd:FuncData} {ps:List Str} (h:∀ us:List Value,us.length=ps.length->bindArgs fd ⟨us,[]⟩=pure (ps.zip us)):Binds K fd ps []:=fun s us _ hl=>by
 rw [List.append_nil] at hl ⊢
 exact .of_eq (h us hl)
section
variable {X:Cx} {CX:CXT} {k:Nat} {f C:Addr} {fd:FuncData} {ps:List Str} {sp:Sp} {dvs:List V} {ds:List Value} {E:XK} {x m:Str} {p pos apos:Pos} {e o:Expr} {es:List Expr} {ta:TE} {t:TA}
structure Mk (K:PySem.W.Frag) (C f:Addr):Prop where
 makes:PySem.W.makesIn K C=true
 init:PySem.W.findIn K (.ref C) "__init__" = some (some (.ref f))
 fn:PySem.W.isFn K (.ref f)=true
 kp:PySem.W.keepIn K (.ref C)=true
end
section
variable {X:Cx} {CX:CXT} {k:Nat} {f C:Addr} {fd:FuncData} {ps ks:List Str} {sp:Sp} {E:XK} {x m:Str} {p pos apos kpos:Pos} {e o:Expr} {es:List Expr} {kws:List Keyword} {te ta:TE} {t tk:TA} {nm:Option Str}
variable {g:List Value->List Value->List Value} {gV:List V->List V->List V}
end
structure FnScope (N P:List Str) (sc:Scope):Prop where
 kind:sc.kind=.function
 co:sc.isCoroutine=false
 gen:sc.isGenerator=false
 nd:N.Nodup
 pre:N.take P.length=P
 par:∀ x ∈ P,sc.names.lookup x=some .local\/sc.names.lookup x=some .cell
 nofree:∀ y ∈ sc.names,y.2 ≠ .free
theorem bindL_out {kindOf:Str->Option NameKind} {x:Str}:∀ {binds:List (Str × Value)} {m:Str->Option Value},(∀ v,(x,v) ∉ binds)->bindL kindOf binds m x=m x
 | [],_,_=>rfl
 | (n,v) :: r,m,h=>by
  unfold bindL
  rw [bindL_out fun w hw=>h w (List.mem_cons_of_mem _ hw)]
  split
  ·have:x ≠ n:=by rintro rfl; exact h v List.mem_cons_self
   simp [this]
  ·rfl
theorem bindC_out {kindOf:Str->Option NameKind} {x:Str}:∀ {binds:List (Str × Value)} {m:Str->Option Value},(∀ v,(x,v) ∉ binds)->bindC kindOf binds m x=m x
 | [],_,_=>rfl
 | (n,v) :: r,m,h=>by
  unfold bindC
  rw [bindC_out fun w hw=>h w (List.mem_cons_of_mem _ hw)]
  split
  ·rfl
  ·have:x ≠ n:=by rintro rfl; exact h v List.mem_cons_self
   simp [this]
theorem bindL_get {kindOf:Str->Option NameKind} {x:Str} {v:Value}:∀ {P:List Str} {vs:List Value} {i:Nat} {m:Str->Option Value},P.Nodup->P[i]? = some x->vs[i]? = some v->kindOf x=some .local->
  bindL kindOf (P.zip vs) m x=some v
 | [],_,_,_,_,h,_,_=>by simp at h
 | _ :: _,[],_,_,_,_,h,_=>by simp at h
 | p :: P,w :: vs,0,m,nd,h1,h2,hk=>by
  simp at h1 h2; subst h1; subst h2
  show bindL kindOf ((p,w) :: P.zip vs) m p=_
  unfold bindL
  rw [bindL_out fun v hv=>(List.nodup_cons.mp nd).1 (List.of_mem_zip hv).1,if_pos hk]
  simp
 | p :: P,w :: vs,i + 1,m,nd,h1,h2,hk=>by
  show bindL kindOf ((p,w) :: P.zip vs) m x=_
  unfold bindL
  exact bindL_get (i:=i) (List.nodup_cons.mp nd).2 (by simpa using h1) (by simpa using h2) hk
theorem bindC_get {kindOf:Str->Option NameKind} {x:Str} {v:Value}:∀ {P:List Str} {vs:List Value} {i:Nat} {m:Str->Option Value},P.Nodup->P[i]? = some x->vs[i]? = some v->kindOf x ≠ some .local->
  bindC kindOf (P.zip vs) m x=some v
 | [],_,_,_,_,h,_,_=>by simp at h
 | _ :: _,[],_,_,_,_,h,_=>by simp at h
 | p :: P,w :: vs,0,m,nd,h1,h2,hk=>by
  simp at h1 h2; subst h1; subst h2
  show bindC kindOf ((p,w) :: P.zip vs) m p=_
  unfold bindC
  rw [bindC_out fun v hv=>(List.nodup_cons.mp nd).1 (List.of_mem_zip hv).1,if_neg hk]
  simp
 | p :: P,w :: vs,i + 1,m,nd,h1,h2,hk=>by
  show bindC kindOf ((p,w) :: P.zip vs) m x=_
  unfold bindC
  exact bindC_get (i:=i) (List.nodup_cons.mp nd).2 (by simpa using h1) (by simpa using h2) hk
noncomputable def start (N:List Str) (vs:List V):St:=vs.map some ++ List.replicate (N.length - vs.length) none
noncomputable def cxOf (CX:CXT) (P:Program) (w:World) (K:PySem.W.Frag) (mg:Str->Option Value) (base:Heap) (N:List Str) (qual:Str) (scope:Scope) (f:Addr) (cd:Value) (A:Around) (outer:List Env) (s:Shared) (H:Hp) (E:XK):Cx where
 prog:=P
 w:=w
 K:=K
 mg:=mg
 base:=base
 A:=A.deeper (envOfC qual scope s.heap.objs.size f cd)
 N:=N
 s₀:=s
 H₀:=H
 env:=envOfC qual scope s.heap.objs.size f cd
 outer:=outer
 stack:=envOfC qual scope s.heap.objs.size f cd :: outer
 ex:=[]
 calm:=true
 fn:=fun _=>true
 pn:=[]
 xe:=fun e s'=>wpAny (model P w) (A.deeper (envOfC qual scope s.heap.objs.size f cd)) (leaving (envOfC qual scope s.heap.objs.size f cd) e) (fun _ s''=>CX outer H s E e s'') (fun e' s''=>CX outer H s E e' s'') s'
theorem cell_has {sc:Scope} {n:Nat} {x:Str} (h:sc.names.lookup x=some .cell):∃ c,(cellsFrom n sc.names []).lookup x=some c:=by
 have q:=PySem.W.cellsFrom_some sc.names n [] (.inl h)
 exact Option.isSome_iff_exists.mp q
theorem inv_start {CX:CXT} {P:Program} {w:World} {K:PySem.W.Frag} {mg:Str->Option Value} {base:Heap} {N ps:List Str} {qual:Str} {scope:Scope} {f:Addr} {cd:Value} {A:Around} {outer:List Env} {s s1:Shared} {H:Hp} {E:XK} {us:List Value} {vs:List V}
  (S:FnScope N ps scope) (hd:A.handled=none) (e0:Env0 P w K mg base A outer s H) (hl:vs.length=ps.length) (r:Vals vs us)
  (x:InCallC s s.heap.objs.size (bindL (envOfC qual scope s.heap.objs.size f cd).kindOf (ps.zip us) fun _=>none) (cellsFrom (s.heap.objs.size + 1) scope.names []) (bindC (envOfC qual scope s.heap.objs.size f cd).kindOf (ps.zip us) fun _=>none) s1) :
  Inv (cxOf CX P w K mg base N qual scope f cd A outer s H E) [] (start N vs) H s1:=by
 have hpl:ps.length<=N.length:=by have:=congrArg List.length S.pre; rw [List.length_take] at this; omega
 obtain ⟨h1,tk,rfl,hk⟩:=x.done
 have noA:∀ b:Addr,b ∉ (cxOf CX P w K mg base N qual scope f cd A outer s H E).ex:=fun b z=>absurd (show b ∈ ([]:List Addr) from z) (by simp)
 refine ⟨⟨e0.mod,S.kind,rfl,rfl,Nat.le_refl _,fun y z c h1 h2=>?_,fun y hy=>?_,fun y c _ h=>?_,fun _=>hd,Around.frames_deeper e0.frames,.inr ⟨rfl,rfl⟩,fun b z=>absurd z (noA b),e0.bs,e0.bsz,fun b _ _=>noA b,fun b z=>absurd z (noA b),e0.funs,e0.frf⟩,
  rfl,e0.bare,Un.kept hk,⟨_,x.toInCall.ns,fun i y v h1 h2 h3=>?_⟩,fun y c h=>⟨_,x.cell y c h⟩,e0.hok.fresh (Nat.le_refl _),fun y c h=>?_,fun p hp=>absurd (show p ∈ ([]:List (Addr × Obj)) from hp) (by simp),e0.hok.kept hk,?_⟩
 ·exact name_of_addr x.apart (PySem.mem_of_lookup h1) (PySem.mem_of_lookup h2)
 ·have hy:scope.names.lookup y=some .cell\/scope.names.lookup y=some .free:=hy
  rcases hy with hy | hy
  ·exact cell_has hy
  ·exact absurd rfl (S.nofree _ (PySem.mem_of_lookup hy))
 ·exact Nat.le_of_lt (x.above y c (PySem.mem_of_lookup h))
 ·have hi:i < vs.length:=by
   unfold start at h2
   by_cases hi:i < vs.length
   ·exact hi
   ·rw [List.getElem?_append_right (by simpa using hi)] at h2
    rw [List.getElem?_replicate] at h2
    split at h2 <;> cases h2
  have ha:vs[i]? = some v:=by
   unfold start at h2
   rw [List.getElem?_append_left (by simpa using hi),List.getElem?_map] at h2
   cases e:vs[i]? with
   | none=>rw [e] at h2; cases h2
   | some a=>rw [e] at h2; cases h2; rfl
  obtain ⟨u,hu,rv⟩:=r.get ha
  have hp:ps[i]? = some y:=by
   rw [<-S.pre,List.getElem?_take_of_lt (by omega)]; exact h1
  have ndP:ps.Nodup:=by rw [<-S.pre]; exact S.nd.sublist (List.take_sublist _ _)
  refine ⟨u,rv,?_⟩
  rcases S.par y (List.mem_of_getElem? hp) with k | k
  ·exact .inl ⟨k,bindL_get ndP hp hu k⟩
  ·obtain ⟨c,e⟩:=cell_has (n:=s.heap.objs.size + 1) k
   refine .inr ⟨.inl k,c,e,?_⟩
   have q:=x.cell y c e
   rw [bindC_get ndP hp hu (by show scope.names.lookup y ≠ _; rw [k]; decide)] at q
   exact q
 ·exact e0.hok.fresh (Nat.le_of_lt (x.above y c (PySem.mem_of_lookup h)))
 ·unfold start
  show _=N.length
  rw [List.length_append,List.length_map,List.length_replicate]
  omega
theorem fn_of {CX:CXT} {P:Program} {w:World} {K:PySem.W.Frag} {mg:Str->Option Value} {base:Heap} {k:Nat} {f:Addr} {name qual:Str} {params:Arguments} {body:List Stmt} {scope:Scope} {dV kV doc pm cdv ct oc:Value} {an od:Option Addr}
  {osl:Array (Option Value)} {N ps:List Str} {sp:Sp} (lk:K.lookup f=some ⟨oc,od,.func (PySem.W.fnOf name qual params body scope dV kV doc pm an cdv ct),osl⟩) (hcd:PySem.W.codeIn K cdv qual=true) (S:FnScope N ps scope)
  (len:∀ vs H Q E,sp vs H Q E->vs.length=ps.length)
  (hbody:∀ (A:Around) (outer:List Env) (s:Shared) (H:Hp) (vs:List V) (Q:VK) (E:XK),Room k (A.deeper (envOfC qual scope s.heap.objs.size f cdv))->sp vs H Q E->
   ∃ t,PSs (cxOf CX P w K mg base N qual scope f cdv A outer s H E) body t/\t { nx:=fun _ H'=>Q .non H',rt:=Q } (start N vs) H) :
  FnOk P w K mg base CX (k + 1) f (PySem.W.fnOf name qual params body scope dV kV doc pm an cdv ct) ps sp:=by
 refine ⟨len,fun A outer s H args us vs Q E hr e0 hb r hsp=>?_⟩
 have hl:=len _ _ _ _ hsp
 have KX:K.In s.heap:=e0.mod.kin.keeps fun b o e=>(e0.bs b o e).1
 have lim:s.heap.NoLimit:=e0.mod.nolimit.keeps fun b o e=>(e0.bs b o e).1
 have hkind:∀ y ∈ ps.zip us,scope.names.lookup y.1=some .local\/(scope.names.lookup y.1=some .cell/\((cellsFrom (s.heap.objs.size + 1) scope.names []).lookup y.1).isSome=true):=fun ⟨n,v⟩ hy=>by
  rcases S.par n (List.of_mem_zip hy).1 with q | q
  ·exact .inl q
  ·exact .inr ⟨q,PySem.W.cellsFrom_some _ _ _ (.inl q)⟩
 refine codeAny_call_function hr.depth (KX _ _ lk) rfl S.co S.gen rfl (PySem.W.codeRec_of KX hcd) (hb _ _ _ _ ?_)
 refine wpAny_newFunctionEnv_cells S.kind hkind fun env he s1 x=>?_
 subst he
 refine ⟨lim.keeps x.toInCall.keep,codeAny_func ?_⟩
 obtain ⟨t,ht,hq⟩:=hbody A outer s H vs Q E (hr.deeper _) hsp
 have I:Inv (cxOf CX P w K mg base N qual scope f cdv A outer s H E) [] (start N vs) H s1:=inv_start S hr.hd e0 hl r x
 refine wpAny_mono (ht [] s1 (start N vs) H _ I hq) (fun fl s' hs=>?_) fun e s' hs=>hs
 have fin:∀ {σ':St} {H':Hp} {v:V} {u:Value},Inv (cxOf CX P w K mg base N qual scope f cdv A outer s H E) [] σ' H' s'->RelV v u->Q v H'->CE outer P w H s Q u s':=
  fun {σ' H' v u} J rv q=>⟨v,H',J.os,J.bare,J.base,J.hok,rv,q⟩
 cases fl with
 | ret u=>
  obtain ⟨v,σ',H',J,rv,q⟩:=hs
  exact fin J rv q
 | next=>
  obtain ⟨σ',H',J,q⟩:=hs
  exact fin (v:=V.non) (u:=Value.none) J rfl q
 | brk=>
  obtain ⟨_,_,_,q⟩:=hs
  exact False.elim q
 | cont=>
  obtain ⟨_,_,_,q⟩:=hs
  exact False.elim q
end L2
namespace L2
open PySem PySem.Spec PyProof.Rows
section
variable {X:Cx} {x:Str} {p pos:Pos} {e:Expr} {es:List Expr} {t:TA} {id T:String} {r:List V->Hp->VK->Prop}
noncomputable def tCB (r:List V->Hp->VK->Prop) (t:TA):TE:=fun σ H Q=>t σ H fun vs H1=>r vs H1 Q
theorem pe_callB (hc:CallR X (.builtin id) r) (hg:Gl X x) (hm:X.mg x=none) (hv:bootBuiltins x=some (.builtin id)) (ha:PA X (e :: es) t) (hn:x ≠ "__name__":=by decide) (hdb:(x == ("__debug__":Str))=false:=by decide)
  (he:starEach (e :: es) X.env=(false,eval e X.env) :: starEach es X.env:=by rfl) (hpl:(backTo pos (starEach es X.env)).any (·.1)=false:=by rfl):PE X (.Call (.Name x p) (e :: es) [] pos) (tCB r t):=by
 intro pins s σ H Q I h
 refine wpAny_Call_Name_kw (ld_blt I hg hm hv ?_ hn hdb)
 exact PyProof.Rows.callWith_builtin1 (thn (ha pos pins s σ H _ I h) fun us s1 ⟨vs,H1,I1,r1,q1⟩=>hc pins s1 σ H1 vs us Q I1 r1 q1) he hpl
theorem pe_callTy (hc:CallR X (.type T) r) (hg:Gl X x) (hm:X.mg x=none) (hv:bootBuiltins x=some (.type T)) (ha:PA X (e :: es) t) (hn:x ≠ "__name__":=by decide) (hdb:(x == ("__debug__":Str))=false:=by decide)
  (he:starEach (e :: es) X.env=(false,eval e X.env) :: starEach es X.env:=by rfl) (hpl:(backTo pos (starEach es X.env)).any (·.1)=false:=by rfl):PE X (.Call (.Name x p) (e :: es) [] pos) (tCB r t):=by
 intro pins s σ H Q I h
 refine wpAny_Call_Name_kw (ld_blt I hg hm hv ?_ hn hdb)
 exact PyProof.Rows.callWith_type1 (thn (ha pos pins s σ H _ I h) fun us s1 ⟨vs,H1,I1,r1,q1⟩=>hc pins s1 σ H1 vs us Q I1 r1 q1) he hpl
end
end L2
namespace HT
open PySem PyProof.Rows
noncomputable def lexLt:List Int->List Int->Bool
 | [],[]=>false
 | [],_ :: _=>true
 | _ :: _,[]=>false
 | x :: xs,y :: ys=>if x=y then lexLt xs ys else decide (x < y)
theorem lexLt_cons (x y:Int) (xs ys:List Int):lexLt (x :: xs) (y :: ys)=if x=y then lexLt xs ys else decide (x < y):=rfl
theorem lexLt_nil_nil:lexLt [] []=false:=rfl
section
open PySem.SeqAt
open PySem.AutoSeq1 (wpAny_loadPart')
open PySem.MeetsSeq PySem.MeetsSeq2 PySem.MeetsSeq3
end
section
variable {prog:Program} {w:World} {A:Around} {E:Value->Shared->Prop} {s:Shared}
end
end HT
namespace L2
open PySem PySem.Spec PyProof.Rows
section
variable {X:Cx} {e:Expr} {te:TE} {lo hi:Option Expr} {tl th:TO} {pos p2:Pos}
end
end L2
namespace L2
open PySem PySem.Spec PyProof.Rows
noncomputable def ixN (n:Nat) (i:Int):Option Nat:=if 0<=i then (if i < n then some i.toNat else none) else if -(n:Int)<=i then some (i + n).toNat else none
noncomputable def atI {α:Type} (xs:List α) (i:Int):Option α:=(ixN xs.length i).bind fun j=>xs[j]?
theorem ixN_seq {n:Nat} {i:Int} {j:Nat} (h:ixN n i=some j):seqIndex? i n=some j/\j < n/\-(n:Int)<=i/\i < n:=by
 unfold ixN at h
 by_cases h0:0<=i
 ·rw [if_pos h0] at h
  by_cases h1:i < n
  ·rw [if_pos h1] at h
   have e:i.toNat=j:=Option.some.inj h
   exact ⟨by rw [seqIndex_of h0 h1,e],by omega,by omega,h1⟩
  ·rw [if_neg h1] at h; cases h
 ·rw [if_neg h0] at h
  by_cases h1:-(n:Int)<=i
  ·rw [if_pos h1] at h
   have e:(i + n).toNat=j:=Option.some.inj h
   exact ⟨by rw [seqIndex_neg (by omega) h1,e],by omega,h1,by omega⟩
  ·rw [if_neg h1] at h; cases h
theorem atI_get {α:Type} {xs:List α} {i:Int} {v:α} (h:atI xs i=some v):∃ j,seqIndex? i xs.length=some j/\xs[j]? = some v/\j < xs.length/\-(xs.length:Int)<=i/\i < xs.length:=by
 unfold atI at h
 cases e:ixN xs.length i with
 | none=>rw [e] at h; cases h
 | some j=>
  rw [e] at h
  obtain ⟨h1,h2,h3,h4⟩:=ixN_seq e
  exact ⟨j,h1,h,h2,h3,h4⟩
noncomputable def PlainIx (b:Expr):Prop:=∀ o i,subscripted b false o i=operate [o,i] (getItem o i)
noncomputable def IxR (X:Cx) (r:R2):Prop:=
 ∀ (value slice:Expr) (pins:List (Addr × Obj)) (s:Shared) (σ:St) (H:Hp) (x y:V) (v u:Value) (Q:VK),Inv X pins σ H s->RelV x v->RelV y u->r x y H Q->
  subscripted slice false v u=operate [v,u] (getItem v u)->wpAny (model X.prog X.w) X.A (subscriptTail value slice v u) (EP X pins σ Q) X.xe s
noncomputable def MtR (X:Cx) (id:String) (r:V->List V->Hp->VK->Prop):Prop:=
 ∀ (pins:List (Addr × Obj)) (s:Shared) (σ:St) (H:Hp) (x:V) (xs:List V) (v:Value) (us:List Value) (Q:VK),Inv X pins σ H s->RelV x v->Vals xs us->r x xs H Q->
  wpAny (model X.prog X.w) X.A (call (.builtin id) (v :: us)) (EP X pins σ Q) X.xe s
section
variable {X:Cx} {a b:Expr} {ta tb:TE} {pos:Pos}
theorem IxR.or {r r':R2} (h:IxR X r) (h':IxR X r'):IxR X (fun x y H Q=>r x y H Q\/r' x y H Q):=by
 intro value slice pins s σ H x y v u Q I rx ry q hs
 rcases q with q | q
 ·exact h value slice pins s σ H x y v u Q I rx ry q hs
 ·exact h' value slice pins s σ H x y v u Q I rx ry q hs
theorem pe_ix {r:R2} (hr:IxR X r) (ha:PE X a ta) (hb:PE X b tb) (hs:PlainIx b):PE X (.Subscript a b pos) (tOp r ta tb):=by
 intro pins s σ H Q I h
 exact Subscript_ (binT ha hb I h fun v u s2 x y H2 I2 rx ry q=>hr a b pins s2 σ H2 x y v u Q I2 rx ry q (hs _ _))
noncomputable def rIxL (K:PySem.W.Frag):R2:=fun x y H Q=>∃ p xs i v,x=.ref p/\y=.int i/\SqL K H p xs/\atI xs i=some v/\Q v H
noncomputable def rIxT (K:PySem.W.Frag):R2:=fun x y H Q=>∃ p xs i v,x=.ref p/\y=.int i/\SqT K H p xs/\atI xs i=some v/\Q v H
theorem ix_list:IxR X (rIxL X.K):=by
 intro value slice pins s σ H x y v u Q I rx ry h hs
 obtain ⟨p,xs,i,z,rfl,rfl,hq,he,q⟩:=h
 cases rx
 obtain ⟨t,rfl⟩:=ry
 obtain ⟨its,r,pl,hz⟩:=I.list hq
 obtain ⟨j,h1,h2,h3,h4,h5⟩:=atI_get he
 obtain ⟨w,ew,rw'⟩:=r.get h2
 have hl:=r.length
 have hn:=line63
 have fin:EP X pins σ Q w s:=⟨z,H,I,rw',q⟩
 by_cases h0:0<=i
 ·have hj:i.toNat=j:=by
   rw [seqIndex_of h0 h5] at h1
   exact Option.some.inj h1
  exact item_listR pl.isList h0 (by omega) (by rw [hj]; simpa using ew) fin hs
 ·have hj:(i + (its.toArray.size:Int)).toNat=j:=by
   rw [seqIndex_neg (by omega) h4] at h1
   rw [List.size_toArray,<-hl]
   exact Option.some.inj h1
  exact subscriptTail_builtinR (x:=w) pl.isList.typeIs slot_list_getitem.lookup
   (wpAny_getItem_list_neg (Q:=fun r s'=>r=w/\EP X pins σ Q r s') pl.isList (by omega) (by rw [List.size_toArray] <;> omega) (by omega) (by rw [hj]; simpa using ew) ⟨rfl,fin⟩) hs
theorem ix_tup:IxR X (rIxT X.K):=by
 intro value slice pins s σ H x y v u Q I rx ry h hs
 obtain ⟨p,xs,i,z,rfl,rfl,hq,he,q⟩:=h
 cases rx
 obtain ⟨t,rfl⟩:=ry
 obtain ⟨its,r,pl,hz⟩:=I.tuple hq
 obtain ⟨j,h1,h2,h3,h4,h5⟩:=atI_get he
 obtain ⟨w,ew,rw'⟩:=r.get h2
 have hl:=r.length
 have hn:=line63
 have fin:EP X pins σ Q w s:=⟨z,H,I,rw',q⟩
 exact subscriptTail_builtinR (x:=w) pl.typeIs slot_tuple_getitem.lookup
  (getItem_tuple (j:=j) (Q:=fun r s'=>r=w/\EP X pins σ Q r s') pl (by omega) (by omega) (by rw [List.size_toArray,<-hl]; exact h1) (by simpa using ew) ⟨rfl,fin⟩) hs
noncomputable def flatV:V->Bool
 | .non=>true
 | .bl _=>true
 | .int _=>true
 | .str _=>true
 | _=>false
noncomputable def eqV:V->V->Bool
 | .non,.non=>true
 | .bl a,.bl b=>a == b
 | .bl a,.int b=>(if a then 1 else 0) == b
 | .int a,.bl b=>a == (if b then 1 else 0)
 | .int a,.int b=>a == b
 | .str a,.str b=>a == b
 | _,_=>false
theorem eqAt_V {A:Around} {s:Shared} {y x:V} {u v:Value} (ry:RelV y u) (rx:RelV x v) (fy:flatV y=true) (fx:flatV x=true):SeqAt.EqAt A s u v (eqV y x):=by
 cases y with
 | non=>
  cases ry
  cases x with
  | non=>cases rx; exact SeqAt.EqAt.same _
  | bl b=>cases rx; exact SeqAt.EqAt.none_bool b
  | int b=>obtain ⟨t,rfl⟩:=rx; exact SeqAt.EqAt.none_int b t
  | str b=>obtain ⟨t,rfl⟩:=rx; exact SeqAt.EqAt.none_str b t
  | _=>exact absurd (show false=true from fx) Bool.false_ne_true
 | bl a=>
  cases ry
  cases x with
  | non=>cases rx; exact SeqAt.EqAt.bool_none a
  | bl b=>cases rx; exact SeqAt.EqAt.bool_bool a b
  | int b=>obtain ⟨t,rfl⟩:=rx; exact SeqAt.EqAt.bool_int a b t
  | str b=>obtain ⟨t,rfl⟩:=rx; exact SeqAt.EqAt.bool_str a b t
  | _=>exact absurd (show false=true from fx) Bool.false_ne_true
 | int a=>
  obtain ⟨t',rfl⟩:=ry
  cases x with
  | non=>cases rx; exact SeqAt.EqAt.int_none a t'
  | bl b=>cases rx; exact SeqAt.EqAt.int_bool a t' b
  | int b=>obtain ⟨t,rfl⟩:=rx; exact SeqAt.EqAt.int_int a t' b t
  | str b=>obtain ⟨t,rfl⟩:=rx; exact SeqAt.EqAt.int_str a t' b t
  | _=>exact absurd (show false=true from fx) Bool.false_ne_true
 | str a=>
  obtain ⟨t',rfl⟩:=ry
  cases x with
  | non=>cases rx; exact SeqAt.EqAt.str_none a t'
  | bl b=>cases rx; exact SeqAt.EqAt.str_bool a t' b
  | int b=>obtain ⟨t,rfl⟩:=rx; exact SeqAt.EqAt.str_int a t' b t
  | str b=>obtain ⟨t,rfl⟩:=rx; exact SeqAt.EqAt.str_str a t' b t
  | _=>exact absurd (show false=true from fx) Bool.false_ne_true
 | _=>exact absurd (show false=true from fy) Bool.false_ne_true
theorem call_len_seq:CallR X (.builtin "len") (fun xs H Q=>∃ p ys,xs=[.ref p]/\(SqL X.K H p ys\/SqT X.K H p ys)/\Q (.int ys.length) H):=by
 intro pins s σ H xs us Q I r h
 obtain ⟨p,ys,rfl,hq,q⟩:=h
 obtain ⟨u,rfl,rx⟩:=vals1 r
 cases rx
 have hn:=line63
 rcases hq with hq | hq
 ·obtain ⟨its,r',pl,hz⟩:=I.list hq
  have hlen:=r'.length
  exact Calls.call_len_list pl.isList (by simp only [List.size_toArray] <;> omega) ⟨.int ys.length,H,I.tok _,⟨s.toks + 1,by rw [List.size_toArray,hlen]⟩,q⟩
 ·obtain ⟨its,r',pl,hz⟩:=I.tuple hq
  have hlen:=r'.length
  exact len_tuple pl (by simp only [List.size_toArray] <;> omega) ⟨.int ys.length,H,I.tok _,⟨s.toks + 1,by rw [List.size_toArray,hlen]⟩,q⟩
theorem call_tuple_of:CallR X (.type "tuple") (fun xs H Q=>∃ p ys,xs=[.ref p]/\((SqL X.K H p ys/\∀ l,H l=none->Q (.ref l) (upd H l (.tup ys)))\/(SqT X.K H p ys/\Q (.ref p) H))):=by
 intro pins s σ H xs us Q I r h
 obtain ⟨p,ys,rfl,h⟩:=h
 obtain ⟨u,rfl,rx⟩:=vals1 r
 cases rx
 rcases h with ⟨hq,q⟩ | ⟨hq,q⟩
 ·obtain ⟨its,r',pl,hz⟩:=I.list hq
  have hlen:=r'.length
  refine call_tuple_list pl.isList (fun h' kp=>?_) (by simp only [List.size_toArray] <;> omega)
  have I1:Inv X pins σ H { s with heap:=h' }:=I.kept (t':=s.toks) kp
  have I2:Inv X pins σ (upd H h'.objs.size (.tup ys)) { s with heap:=h'.push { cls:=.type "tuple",data:=.seq its.toArray } }:=
   I1.laid (t':=s.toks) (fun b o e=>Heap.get?_push_of_some _ e) (Nat.le_refl _) (show ObjOk X.prog X.w _ _ _ (.tup ys) from ⟨hz,its,r',IsTup.new _ _⟩)
  exact ⟨.ref h'.objs.size,_,I2,rfl,q _ (I1.hok.fresh (Nat.le_refl _))⟩
 ·obtain ⟨its,r',pl,hz⟩:=I.tuple hq
  exact call_tuple_same pl ⟨.ref p,H,I,rfl,q⟩
noncomputable def tyV (K:PySem.W.Frag) (T:String) (x:V) (H:Hp):Prop:=match x with
 | .str _=>T = "str"
 | .int _=>T = "int"
 | .ref p=>(T = "list"/\∃ xs,SqL K H p xs)\/(T = "tuple"/\∃ o,K.lookup p=some o/\o.cls=.type "tuple"/\o.dict=none)\/
   (T = "dict"/\((∃ kvs,H p=some (.dK kvs))\/∃ kvs,H p=some (.dT kvs)))\/(T = "set"/\∃ S n,H p=some (.set S n))
 | _=>False
theorem tyV_is {pins:List (Addr × Obj)} {σ:St} {H:Hp} {s:Shared} {T:String} {x:V} {v:Value} (I:Inv X pins σ H s) (r:RelV x v) (ty:tyV X.K T x H) :
  s.TypeIs v T/\∀ a,v=.ref a->∃ ob,s.heap.get? a=some ob/\ob.dict=none:=by
 cases x with
 | str z=>
  obtain ⟨t,rfl⟩:=r
  cases (show T = "str" from ty)
  exact ⟨typeIs_str s z t,fun _ e=>nomatch e⟩
 | int i=>
  obtain ⟨t,rfl⟩:=r
  cases (show T = "int" from ty)
  exact ⟨typeIs_int s i t,fun _ e=>nomatch e⟩
 | ref p=>
  cases r
  rcases ty with ⟨rfl,xs,hq⟩ | ⟨rfl,o,hk,hc,hd⟩ | ⟨rfl,hk⟩ | ⟨rfl,S,n,hk⟩
  ·obtain ⟨its,_,pl,_⟩:=I.list hq
   refine ⟨pl.isList.typeIs,fun a e=>?_⟩
   cases e
   obtain ⟨o,n,e,c,hd,_⟩:=pl
   exact ⟨o,e,hd⟩
  ·refine ⟨⟨o,I.kIn p o hk,hc⟩,fun a e=>?_⟩
   cases e
   exact ⟨o,I.kIn _ o hk,hd⟩
  ·have z:∃ o,s.heap.get? p=some o/\o.ExactDict:=by
    rcases hk with ⟨kvs,hk⟩ | ⟨kvs,hk⟩
    ·obtain ⟨_,_,_,_,o,_,_,e,ex,_⟩:=I.hok p _ hk
     exact ⟨o,e,ex⟩
    ·obtain ⟨_,_,_,_,o,_,_,e,ex,_⟩:=I.hok p _ hk
     exact ⟨o,e,ex⟩
   obtain ⟨o,e,ex⟩:=z
   refine ⟨⟨o,e,ex.1⟩,fun a e2=>?_⟩
   cases e2
   exact ⟨o,e,ex.2.1⟩
  ·obtain ⟨o,_,_,_,e,ex,_⟩:=I.hok p _ hk
   refine ⟨⟨o,e,ex.1⟩,fun a e2=>?_⟩
   cases e2
   exact ⟨o,e,ex.2.1⟩
 | _=>exact False.elim ty
noncomputable def tBM (K:PySem.W.Frag) (T:String) (r:V->List V->Hp->VK->Prop) (to:TE) (t:TA):TE:=fun σ H Q=>to σ H fun x H1=>tyV K T x H1/\t σ H1 fun xs H2=>r x xs H2 Q
variable {o e:Expr} {es:List Expr} {to:TE} {t:TA} {name:Str} {apos cpos:Pos} {T id:String} {r:V->List V->Hp->VK->Prop}
theorem pe_bm (pa:PlainAttrs T) (slot:Slot T name id) (hty:typeOf (.builtin id)=pure (.type "method_descriptor")) (hm:MtR X id r) (ho:PE X o to) (ha:PA X (e :: es) t)
  (hbase:attributeBase o name X.env (eval o X.env)=eval o X.env:=by rfl)
  (hfew:((backTo cpos (starEach (e :: es) X.env)).all (fun x=>!x.1) && (backToKw cpos (keywordEach [] X.env)).all (fun x=>x.1.isSome)
   && decide ((e :: es).length + ([]:List Keyword).length + (if ([]:List Keyword).isEmpty then 0 else 1) < 30))=true:=by rfl)
  (hline:(apos.endLine == cpos.line)=true:=by rfl) (hs:starEach (e :: es) X.env=(false,eval e X.env) :: starEach es X.env:=by rfl) (hplain:(backTo cpos (starEach es X.env)).any (·.1)=false:=by rfl) :
  PE X (.Call (.Attribute o name apos) (e :: es) [] cpos) (tBM X.K T r to t):=by
 intro pins s σ H Q I h
 refine wpAny_Call_method_late hbase hfew hline rfl (thn (ho pins s σ H _ I h) fun v s1 ⟨x,H1,I1,r1,ty,q1⟩=>?_)
 obtain ⟨h1,h2⟩:=tyV_is I1 r1 ty
 refine ⟨T,id,pa,slot,hty,h1,h2,?_⟩
 have hA:=ha cpos pins s1 σ H1 _ I1 q1
 rw [hs] at hA ⊢
 refine Calls.callWith_builtin (by show (false || (backTo cpos (starEach es X.env)).any (·.1))=false; rw [hplain] <;> rfl) (Calls.evalArgs_plain ?_)
 exact thn hA fun us s2 ⟨vs,H2,I2,r2,q2⟩=>hm pins s2 σ H2 x vs v us Q I2 r1 r2 q2
end
end L2
namespace L2
open PySem PySem.Spec PyProof.Rows
noncomputable def MtM (X:Cx) (id:String) (r:V->List V->Hp->VK->Prop):Prop:=
 ∀ (pins:List (Addr × Obj)) (s:Shared) (σ:St) (H:Hp) (x:V) (xs:List V) (v:Value) (us:List Value) (Q:VK),Inv X pins σ H s->RelV x v->Vals xs us->r x xs H Q->
  wpAny (model X.prog X.w) X.A (call (.builtin id) (v :: us)) (EP X pins σ Q) X.xe s
theorem Vals.one:∀ {x:V} {us:List Value},Vals [x] us->∃ u,us=[u]/\RelV x u
 | _,_,.cons r .nil=>⟨_,rfl,r⟩
theorem Vals.rep {xs:List V} {us:List Value} (h:Vals xs us):∀ k:Nat,Vals (List.replicate k xs).flatten (List.replicate k us).flatten
 | 0=>.nil
 | k + 1=>by
  rw [List.replicate_succ,List.replicate_succ,List.flatten_cons,List.flatten_cons]
  exact Vals.append h (Vals.rep h k)
theorem foldl_rep (its:List Value):∀ (k:Nat) (acc:List Value),
  List.foldl (fun x1 x2=>x1 ++ x2) acc.toArray (List.replicate k its.toArray)=(acc ++ (List.replicate k its).flatten).toArray
 | 0,acc=>by simp
 | k + 1,acc=>by
  have e:acc.toArray ++ its.toArray=(acc ++ its).toArray:=by simp
  have e2:(acc ++ its) ++ (List.replicate k its).flatten=acc ++ (List.replicate (k + 1) its).flatten:=by
   rw [List.replicate_succ,List.flatten_cons,List.append_assoc]
  rw [<-e2,<-foldl_rep its k (acc ++ its),<-e,List.replicate_succ,List.foldl_cons]
section
variable {X:Cx} {pins:List (Addr × Obj)} {σ:St} {H:Hp} {s:Shared} {l b:Addr} {xs ys zs:List V}
theorem Inv.lset {its its':List Value} {n:Nat} {f:Array Value->Array Value} {t':Nat} (I:Inv X pins σ H s) (hH:H l=some (.lst xs))
  (e:s.heap.get? l=some { cls:=.type "list",data:=.seq its.toArray n }) (hf:f its.toArray=its'.toArray) (hv:Vals ys its') (hz:ys.length<=sizeLine) :
  Inv X pins σ (upd H l (.lst ys)) { s with heap:=s.heap.update l (Obj.mapSeq f),toks:=t' }:=by
 have q:=PySem.IsL.update e f
 rw [hf] at q
 refine I.write (x:=l) (e:=l) (by rw [hH]; exact trivial) (.inl rfl) (fun b' u hb hu=>(Heap.get?_update_other s.heap (Obj.mapSeq f) (Ne.symm hb)).trans hu) ⟨_,q⟩ ?_
 exact ⟨hz,its',_,hv,q⟩
theorem Inv.lnew {its:List Value} {t':Nat} (I:Inv X pins σ H s) (hv:Vals ys its) (hz:ys.length<=sizeLine) :
  Inv X pins σ (upd H s.heap.objs.size (.lst ys)) { s with heap:=s.heap.push { cls:=.type "list",data:=.seq its.toArray },toks:=t' }:=
 I.laid (fun _ _ q=>Heap.get?_push_of_some _ q) (Nat.le_refl _) ⟨hz,its,0,hv,Heap.get?_push_size _ rfl⟩
theorem Inv.fresh (I:Inv X pins σ H s):H s.heap.objs.size=none:=I.hok.fresh (Nat.le_refl _)
theorem Inv.lstM (I:Inv X pins σ H s) (hH:H l=some (.lst xs)):xs.length<=sizeLine/\∃ (its:List Value) (n:Nat),Vals xs its/\xs.length=its.length/\s.heap.get? l=some { cls:=.type "list",data:=.seq its.toArray n }:=by
 obtain ⟨z,its,n,r,e⟩:=I.hok l _ hH
 exact ⟨z,its,n,r,r.length,e⟩
theorem notLongL {n:Nat} (h:n<=sizeLine):Builtin.List.listTooLong n=false:=by
 unfold Builtin.List.listTooLong
 exact decide_eq_false (by omega)
end
section
variable {X:Cx}
noncomputable def rAppend:V->List V->Hp->VK->Prop:=fun x vs H Q=>∃ l xs y,x=.ref l/\vs=[y]/\H l=some (.lst xs)/\xs.length < sizeLine/\Q .non (upd H l (.lst (xs ++ [y])))
theorem mt_append:MtM X "list.append" rAppend:=by
 intro pins s σ H x vs v us Q I rx rv h
 obtain ⟨l,xs,y,rfl,rfl,hH,hz,q⟩:=h
 cases rx
 obtain ⟨u,rfl,ru⟩:=rv.one
 obtain ⟨z,its,n,r,hl,e⟩:=I.lstM hH
 refine call_meets F.slot_list_append ⟨_,e,rfl⟩ F.entry_list_append (F.args_list_append_2 _ _) (PySem.list_append l its.toArray n u (by rw [List.size_toArray]; omega)) ⟨e,?_⟩
 refine ⟨.non,_,I.lset (its':=its ++ [u]) hH e (by simp) (r.append (.cons ru .nil)) ?_,rfl,q⟩
 rw [List.length_append,List.length_singleton]
 omega
noncomputable def rExtend:V->List V->Hp->VK->Prop:=fun x vs H Q=>∃ l b xs zs,x=.ref l/\vs=[.ref b]/\H l=some (.lst xs)/\H b=some (.lst zs)/\xs.length + zs.length<=sizeLine/\Q .non (upd H l (.lst (xs ++ zs)))
theorem mt_extend:MtM X "list.extend" rExtend:=by
 intro pins s σ H x vs v us Q I rx rv h
 obtain ⟨l,b,xs,zs,rfl,rfl,hH,hB,hz,q⟩:=h
 cases rx
 obtain ⟨u,rfl,ru⟩:=rv.one
 cases ru
 obtain ⟨z,its,n,r,hl,e⟩:=I.lstM hH
 obtain ⟨z2,its2,n2,r2,hl2,e2⟩:=I.lstM hB
 have hsz:its.toArray.size + its2.toArray.size<=sizeLine:=by rw [List.size_toArray,List.size_toArray]; omega
 have hlong:¬ (!its.toArray.isEmpty && Builtin.List.listTooLong (its.toArray.size + its2.toArray.size))=true:=by
  rw [notLongL hsz,Bool.and_false]
  exact Bool.false_ne_true
 refine call_meets F.slot_list_extend ⟨_,e,rfl⟩ F.entry_list_extend (F.args_list_extend_2 _ _)
  (AutoSeq1.list_extend_list_list_0 l its.toArray n b its2.toArray n2 hlong (by rw [List.size_toArray]; omega) (by omega)) ⟨e,e2,?_⟩
 refine ⟨.non,_,I.lset (its':=its ++ its2) hH e (by simp) (r.append r2) ?_,rfl,q⟩
 rw [List.length_append]
 omega
noncomputable def rCat:R2:=fun x y H Q=>∃ l b xs zs,x=.ref l/\y=.ref b/\H l=some (.lst xs)/\H b=some (.lst zs)/\xs.length + zs.length<=sizeLine/\∀ p,H p=none->Q (.ref p) (upd H p (.lst (xs ++ zs)))
theorem op_cat:OpR X (binaryOp .Add) rCat:=by
 intro pins s σ H x y v u Q I rx ry h
 obtain ⟨l,b,xs,zs,rfl,rfl,hH,hB,hz,q⟩:=h
 cases rx
 cases ry
 obtain ⟨z,its,n,r,hl,e⟩:=I.lstM hH
 obtain ⟨z2,its2,n2,r2,hl2,e2⟩:=I.lstM hB
 refine PySem.P.add_list e e2 ?_ (by rw [List.size_toArray,List.size_toArray]; omega)
 have ea:its.toArray ++ its2.toArray=(its ++ its2).toArray:=by simp
 rw [ea]
 exact ⟨.ref _,_,I.lnew (t':=s.toks) (r.append r2) (by rw [List.length_append]; omega),rfl,q _ I.fresh⟩
noncomputable def rRep:R2:=fun x y H Q=>∃ l k xs,x=.ref l/\y=.int k/\H l=some (.lst xs)/\-(2 ^ 63)<=k/\k < 2 ^ 63/\xs.length * k.toNat<=sizeLine/\
 ∀ p,H p=none->Q (.ref p) (upd H p (.lst (List.replicate k.toNat xs).flatten))
theorem len_rep {α:Type} (xs:List α) (k:Nat):(List.replicate k xs).flatten.length=k * xs.length:=by
 induction k with
 | zero=>simp
 | succ k ih=>rw [List.replicate_succ,List.flatten_cons,List.length_append,ih,Nat.succ_mul,Nat.add_comm]
theorem op_rep:OpR X (binaryOp .Mult) rRep:=by
 intro pins s σ H x y v u Q I rx ry h
 obtain ⟨l,k,xs,rfl,rfl,hH,h1,h2,hz,q⟩:=h
 cases rx
 obtain ⟨t,rfl⟩:=ry
 obtain ⟨z,its,n,r,hl,e⟩:=I.lstM hH
 have hlen:its.toArray.size * k.toNat<=sizeLine:=by rw [List.size_toArray,<-hl]; exact hz
 have hcap:¬ its.toArray.size * k.toNat > (2 ^ 63 - 1) / 8:=by
  have:(sizeLine:Nat)<=(2 ^ 63 - 1) / 8:=by decide
  omega
 have hfit:¬ (!Builtin.List.listFitsIndex k)=true:=by
  rw [fitsIndex_both h1 h2]
  exact Bool.false_ne_true
 have hlong:¬ Builtin.List.listTooLong (its.toArray.size * k.toNat)=true:=by
  rw [notLongL hlen]
  exact Bool.false_ne_true
 have hnew:List.foldl (fun x1 x2=>x1 ++ x2) #[] (List.replicate (if its.toArray.isEmpty=true then 0 else k.toNat) its.toArray)=(List.replicate k.toNat its).flatten.toArray:=by
  have f0:∀ m:Nat,List.foldl (fun x1 x2=>x1 ++ x2) #[] (List.replicate m its.toArray)=(List.replicate m its).flatten.toArray:=fun m=>by
   have:=foldl_rep its m []
   rw [List.nil_append] at this
   exact this
  rw [f0]
  cases its with
  | nil=>simp
  | cons a r'=>rw [if_neg (by simp)]
 refine wpAny_binaryOp_repeat_ref (T:="list") (U:="int") (by decide) ⟨_,e,rfl⟩ (fun s'=>typeIs_int s' k t) noFill_list_mul F.fills_int_mul F.slot_int_rmul repeat_list F.slot_int_index.lookup
  (call_meets F.slot_int_rmul (typeIs_int s k t) F.entry_int_rmul (F.args_int_rmul_2 _ _) (int___rmul___int_list k t l its.toArray n)
   ⟨e,rfl,⟨_,e,rfl⟩,call_meets F.slot_list_mul ⟨_,e,rfl⟩ F.entry_list_mul (F.args_list_mul_2 _ _) (AutoListH.list___mul___list_int_3 l its.toArray n k t hfit hcap hlong) ⟨e,?_⟩⟩)
 rw [hnew]
 exact ⟨.ref _,_,I.lnew (t':=s.toks) (r.rep k.toNat) (by rw [len_rep,Nat.mul_comm]; exact hz),rfl,q _ I.fresh⟩
end
section
variable {prog:Program} {w:World} {A:Around} {E:Value->Shared->Prop} {s:Shared}
set_option maxRecDepth 100000 in
end
section
variable {X:Cx}
end
end L2
namespace Att
open PySem PySem.W PySem.Calls PyProof.Rows
theorem ints_of_wellAll {P:Params} {h:Heap}:∀ (ns:List Int) (vs:List Value),WellAll P h vs (ns.map WData.int)->IntsAre vs ns:=by
 intro ns
 induction ns with
 | nil=>
  intro vs w
  rw [List.map_nil] at w
  cases w
  exact .nil
 | cons n ns ih=>
  intro vs w
  rw [List.map_cons] at w
  cases w with
  | cons a b=>
   cases a
   exact .cons _ _ (ih _ b)
theorem script_of {l:OpenLaw} {n:Nat} (hn:l.most=some n) {P:Params} {h:Heap} {args:List WData} {vals:List Value}
  (hpre:l.row.toRowW.claim.pre args=true) (hwl:WellAll P h vals args) :
  ∃ a vs ns,vals=[Value.ref a]/\args=[WData.list (ns.map WData.int)]/\h.get? a=some { cls:=.type "list",data:=.seq vs.toArray }/\IntsAre vs ns/\ns.length<=n:=by
 have hsh:WShape.hasAll [] args [.list .int]=true:=(pre_splitW hpre).1
 have hc:l.pre.holds [] { args:=args } = true:=(pre_splitW hpre).2
 obtain ⟨d,r,rfl,h1,h2⟩:=hasAllW_cons hsh
 obtain rfl:=hasAllW_nil h2
 obtain ⟨xs,rfl,h3⟩:=hasW_list h1
 obtain ⟨ns,rfl⟩:=items_int h3
 have hlen:ns.length<=n:=by
  unfold OpenLaw.pre at hc
  have h4:(WTm.not (.lt (.lit (.int (n:Int))) (.len (.arg 0)))).holds [] { args:=[.list (ns.map .int)] } = true:=by
   have h4:=(holds_andW hc).1
   rw [hn] at h4
   exact h4
  have h5:=condW_of h4 (w_not (w_lt w_lit (w_len_list (w_arg rfl))))
  rw [List.length_map] at h5
  refine Nat.le_of_not_lt fun q=>?_
  have q':(n:Int) < ((ns.length:Nat):Int):=by omega
  first
   | (rw [decide_eq_true q'] at h5; exact absurd h5 (by decide))
   | (simp at h5; omega)
 cases hwl with
 | cons w1 w2=>
  cases w2
  cases w1 with
  | list ho hall=>exact ⟨_,_,ns,rfl,rfl,ho,ints_of_wellAll ns _ hall,hlen⟩
theorem post_true (l:OpenLaw) (args:List WData):l.row.toRowW.claim.post args (.bool true) args=true:=
 postW_of (r:=l.row.toRowW) (X:=(true == true))
  (show WShape.has [] (.bool true) .bool=true by first | rfl | decide | simp [WShape.has,WShape.arms,WShape.armsAll])
  (show (WTm.eq .res (.lit (.bool true))).value [] { args:=args,res:=some (.bool true),after:=args } = some (.bool (true == true)) from w_eq_bool (w_res rfl) w_lit) rfl
theorem attach_call {l:OpenLaw} {n:Nat} {q:Program} {loose:List Str} {XP:(Str->Option Value)->Heap->Prop} {YP:World->Heap->Prop} {d:DefRec}
  (hn:l.most=some n) (hdf:d.params.defaults=[])
  (call:∀ (w:World) (s₀ s₁:Shared) (mg mb:Str->Option Value) (fa:Addr) (o:Obj) (pm cd doc:Value) (a:Addr) (vs:List Value) (ns:List Int),
   Ground q loose [] XP w s₀ mg mb s₁.heap->YP w s₁.heap->
   s₁.heap.get? fa=some o->o.data=.func (docDef d.name d.params d.body d.scope pm cd doc)->s₁.heap.CodeRec cd d.name->mg d.name=some (.ref fa)->
   s₁.heap.get? a=some { cls:=.type "list",data:=.seq vs.toArray }->IntsAre vs ns->ns.length<=n->s₁.gens = #[]->
   codeAny (model l.prog w) callerA (.call (.ref fa) ⟨[.ref a],[]⟩) (fun r s'=>r=.ok (.ret (.bool true))/\OldK s₁.heap s'.heap/\s'.os=s₁.os/\AllBare s'.gens) s₁) :
  WalkO q loose XP YP l.row.toRowW d [] (fun f vs=>PySem.call f vs):=by
 intro w s₀ s₁ mg mb G Y fa o pm cd doc dV kV ho hd hcd hD hmg hg args vals as hpre hlay hrd hwl hlo
 obtain rfl:dV=.none:=Dflts.none hD hdf
 obtain rfl:kV=.none:=Dflts.noKw hD
 obtain ⟨a,vs,ns,rfl,rfl,hobj,hints,hlen⟩:=script_of hn hpre hwl
 refine enter_call (codeAny_mono (call w s₀ s₁ mg mb fa o pm cd doc a vs ns G Y ho (fd_plain hd) hcd hmg hobj hints hlen hg) fun r s' hq=>?_)
 obtain ⟨rfl,h2,h3,h4⟩:=hq
 exact ⟨.inl ⟨.bool true,.bool true,[],rfl,fun _=>rfl,.bool true,post_true l _,fun _=>⟨List.Pairwise.nil,fun _ hm=>(nomatch hm)⟩⟩,h2,h3,h4⟩
section
variable {prog:Program} {w:World} {A:Around} {E:Value->Shared->Prop} {s:Shared} {K:Frag}
end
end Att
namespace L2
open PySem PySem.Spec PyProof.Rows
theorem vals_ints:∀ {vs:List Value} {ns:List Int},IntsAre vs ns->Vals (ns.map V.int) vs
 | _,_,.nil=>.nil
 | _,_,.cons n t h=>.cons ⟨t,rfl⟩ (vals_ints h)
end L2
namespace L2
open PySem PySem.Spec PyProof.Rows
end L2
namespace L2
open PySem PySem.Spec PyProof.Rows
noncomputable def inClass (s:Stmt) (j:Nat):Stmt:=match s with
 | .ClassDef _ _ _ body _ _ _ _ _ _ _=>body.getD j (.Pass ⟨0,0,0,0⟩)
 | _=>.Pass ⟨0,0,0,0⟩
noncomputable def defArgs (s:Stmt):Arguments:=match s with
 | .FunctionDef _ a _ _ _ _ _ _ _ _=>a
 | _=>{ posonlyargs:=[],args:=[],vararg:=none,kwonlyargs:=[],kw_defaults:=[],kwarg:=none,defaults:=[] }
noncomputable def defBody (s:Stmt):List Stmt:=match s with
 | .FunctionDef _ _ b _ _ _ _ _ _ _=>b
 | _=>[]
noncomputable def defScope (s:Stmt):Scope:=match s with
 | .FunctionDef _ _ _ _ _ _ sc _ _ _=>sc
 | _=>{ kind:=.function,names:=[],isGenerator:=false,isCoroutine:=false }
structure Fun (K:PySem.W.Frag) (x qual:Str) (st:Stmt) (f:Addr) (fd:FuncData):Prop where
 ex:∃ (oc:Value) (od:Option Addr) (kV doc pm:Value) (an:Option Addr) (cdv ct:Value) (osl:Array (Option Value)),
  fd=PySem.W.fnOf x qual (defArgs st) (defBody st) (defScope st) .none kV doc pm an cdv ct/\K.lookup f=some ⟨oc,od,.func fd,osl⟩/\PySem.W.codeIn K cdv qual=true
 kp:PySem.W.keepIn K (.ref f)=true
section
variable {P:Program} {w:World} {K:PySem.W.Frag} {mg:Str->Option Value} {base:Heap}
theorem Fun.binds {x qual:Str} {st:Stmt} {f:Addr} {fd:FuncData} {ps:List Str} (F:Fun K x qual st f fd)
  (h:∀ (kV doc pm:Value) (an:Option Addr) (cdv ct:Value) (us:List Value),us.length=ps.length->bindArgs (PySem.W.fnOf x qual (defArgs st) (defBody st) (defScope st) .none kV doc pm an cdv ct) ⟨us,[]⟩=pure (ps.zip us)):Binds K fd ps []:=by
 obtain ⟨oc,od,kV,doc,pm,an,cdv,ct,osl,rfl,lk,hcd⟩:=F.ex
 exact .all (h kV doc pm an cdv ct)
theorem fun_mk {x qual:Str} {st:Stmt} {f:Addr} {oc:Value} {od an:Option Addr} {osl:Array (Option Value)} {kV doc pm cdv ct:Value} (l:K.lookup f=some ⟨oc,od,.func (PySem.W.fnOf x qual (defArgs st) (defBody st) (defScope st) .none kV doc pm an cdv ct),osl⟩)
  (c:PySem.W.codeIn K cdv qual=true) (k:PySem.W.keepIn K (.ref f)=true):Fun K x qual st f (PySem.W.fnOf x qual (defArgs st) (defBody st) (defScope st) .none kV doc pm an cdv ct):=⟨⟨oc,od,kV,doc,pm,an,cdv,ct,osl,rfl,l,c⟩,k⟩
end
theorem hu_of {A:Around} {k:Nat} (hr:Room k A):A.units + 1 < cLine:=Nat.lt_of_le_of_lt (Nat.add_le_add_left (by decide:1<=64) _) hr.units
section
variable {X:Cx}
theorem pv (i:Nat) {x:Str} {pos:Pos} (hN:X.N[i]? = some x:=by rfl) (hv:Vis X.env.scope x:=by first | exact Or.inl rfl | exact Or.inr (Or.inl rfl) | exact Or.inr (Or.inr rfl)) (hd:(x == ("__debug__":Str))=false:=by decide)
  (hcd:(x == ("__classdict__":Str))=false:=by decide):PE X (.Name x pos) (tVar i):=pe_var hN hv hd hcd
end
theorem iteF {A B:Prop} (h:B):if false=true then A else B:=by
 rw [if_neg Bool.false_ne_true]
 exact h
theorem iteT {A B:Prop} (h:A):if true=true then A else B:=by
 rw [if_pos rfl]
 exact h
noncomputable def Same (H H':Hp):Prop:=∀ b o,H b=some o->H' b=some o
theorem Same.seq {K:PySem.W.Frag} {H H':Hp} {a:Addr} {xs:List V} (e:Same H H') (h:SqL K H a xs):SqL K H' a xs:=by
 rcases h with (h | ⟨o,h⟩) | h
 ·exact .inl (.inl (e _ _ h))
 ·exact .inl (.inr ⟨o,e _ _ h⟩)
 ·exact .inr h
end L2
set_option maxHeartbeats 4000000
namespace L2
open PySem PySem.Spec PyProof.Rows
section
variable {κ:Type} [DecidableEq κ]
noncomputable def valV (kvs:List (κ × V)) (k:κ):Option V:=(kvs.find? fun kv=>decide (kv.1=k)).map (·.2)
noncomputable def putK (kvs:List (κ × V)) (k:κ) (v:V):List (κ × V):=
 if (kvs.any fun kv=>decide (kv.1=k))=true then kvs.map (fun kv=>if kv.1=k then (kv.1,v) else kv) else kvs ++ [(k,v)]
theorem valV_pos {p:κ × V} {r:List (κ × V)} {k:κ} (e:p.1=k):valV (p :: r) k=some p.2:=by simp [valV,List.find?_cons,e]
theorem valV_neg {p:κ × V} {r:List (κ × V)} {k:κ} (e:¬ p.1=k):valV (p :: r) k=valV r k:=by simp [valV,List.find?_cons,e]
theorem valV_any (k:κ):∀ kvs:List (κ × V),(kvs.any fun kv=>decide (kv.1=k))=(valV kvs k).isSome
 | []=>rfl
 | p :: r=>by
  rw [List.any_cons]
  by_cases e:p.1=k
  ·simp only [valV_pos e,decide_eq_true e,Bool.true_or,Option.isSome_some]
  ·rw [valV_neg e,decide_eq_false e,Bool.false_or]; exact valV_any k r
theorem length_putK (kvs:List (κ × V)) (k:κ) (v:V):(putK kvs k v).length<=kvs.length + 1:=by
 unfold putK
 split
 ·rw [List.length_map]; omega
 ·rw [List.length_append,List.length_cons,List.length_nil]; omega
theorem putK_new {kvs:List (κ × V)} {k:κ} (v:V) (h:valV kvs k=none):putK kvs k v=kvs ++ [(k,v)]:=by
 unfold putK
 rw [valV_any,h]
 exact if_neg (by decide)
theorem RelO.isSome_eq {o:Option V} {u:Option Value} (r:RelO o u):o.isSome=u.isSome:=by
 cases o with
 | none=>cases u with
  | none=>rfl
  | some _=>exact (show False from r).elim
 | some _=>cases u with
  | none=>exact (show False from r).elim
  | some _=>rfl
theorem RelO.getD {o:Option V} {u:Option Value} {d:V} {d':Value} (r:RelO o u) (rd:RelV d d'):RelV (o.getD d) (u.getD d'):=by
 cases o with
 | none=>cases u with
  | none=>exact rd
  | some _=>exact (show False from r).elim
 | some _=>cases u with
  | none=>exact (show False from r).elim
  | some _=>exact r
theorem KV.val {kvs:List (κ × V)} {vs:List (κ × Value)} (r:KV kvs vs) (k:κ):RelO (valV kvs k) (valueAt vs k):=by
 unfold KV at r
 induction r with
 | nil=>exact True.intro
 | @cons p q ps qs h t ih=>
  obtain ⟨h1,h2⟩:=h
  by_cases e:p.1=k
  ·have e':q.1=k:=h1.symm.trans e
   have b:valueAt (q :: qs) k=some q.2:=by simp [valueAt,List.find?_cons,e']
   rw [valV_pos e,b]; exact h2
  ·have e':¬ q.1=k:=fun z=>e (h1.trans z)
   have b:valueAt (q :: qs) k=valueAt qs k:=by simp [valueAt,List.find?_cons,e']
   rw [valV_neg e,b]; exact ih
theorem KV.any {kvs:List (κ × V)} {vs:List (κ × Value)} (r:KV kvs vs) (k:κ):(kvs.any fun kv=>decide (kv.1=k))=vs.any fun kv=>decide (kv.1=k):=by
 unfold KV at r
 induction r with
 | nil=>rfl
 | cons h t ih=>rw [List.any_cons,List.any_cons,ih,h.1]
theorem KV.repl {kvs:List (κ × V)} {vs:List (κ × Value)} (r:KV kvs vs) (k:κ) {y:V} {u:Value} (ry:RelV y u) :
  KV (kvs.map fun kv=>if kv.1=k then (kv.1,y) else kv) (vs.map fun kv=>if kv.1=k then (kv.1,u) else kv):=by
 unfold KV at r ⊢
 induction r with
 | nil=>exact .nil
 | @cons p q ps qs h t ih=>
  rw [List.map_cons,List.map_cons]
  refine .cons ?_ ih
  obtain ⟨h1,h2⟩:=h
  by_cases e:p.1=k
  ·rw [if_pos e,if_pos (h1.symm.trans e)]; exact ⟨h1,ry⟩
  ·rw [if_neg e,if_neg (fun z=>e (h1.trans z))]; exact ⟨h1,h2⟩
theorem KV.put {kvs:List (κ × V)} {vs:List (κ × Value)} (r:KV kvs vs) (k:κ) {y:V} {u:Value} (ry:RelV y u):KV (putK kvs k y) (stored vs k u):=by
 unfold putK stored
 rw [r.any k]
 by_cases e:(vs.any fun kv=>decide (kv.1=k))=true
 ·rw [if_pos e,if_pos e]; exact r.repl k ry
 ·rw [if_neg e,if_neg e]; exact Paired.snoc r ⟨rfl,ry⟩
theorem KV.length {kvs:List (κ × V)} {vs:List (κ × Value)} (r:KV kvs vs):kvs.length=vs.length:=Paired.length r
end
theorem kV_is {P:Program} {w:World} {k:Key} {u:Value} (r:RelV (kV k) u):(mixKind P w).is k u=true:=by
 cases k with
 | inl i=>obtain ⟨t,e⟩:=(show ∃ t,u=Value.int i t from r); subst e; exact mixKind_int P w i t
 | inr x=>obtain ⟨t,e⟩:=(show ∃ t,u=Value.str x t from r); subst e; exact mixKind_str P w x t
theorem items_are {P:Program} {w:World}:∀ {ks:List Key} {us:List Value},Vals (ks.map kV) us->ItemsAre (mixKind P w) ks us
 | [],_,r=>by rw [List.map_nil] at r; cases r; exact .nil
 | k :: ks,_,r=>by
  rw [List.map_cons] at r
  cases r with
  | cons h t=>exact .cons (kV_is h) (items_are t)
noncomputable abbrev KT (H:Hp):List (List Key × V)->List (List Key × Addr × Value)->Prop:=Paired fun p q=>p.1=q.1/\H q.2.1=some (.tup (p.1.map kV))/\RelV p.2 q.2.2
theorem KT.val {H:Hp} {kvs:List (List Key × V)} {xs:List (List Key × Addr × Value)} (r:KT H kvs xs) (k:List Key):RelO (valV kvs k) ((atKey xs k).map (·.2)):=by
 induction r with
 | nil=>exact True.intro
 | @cons p q ps qs h t ih=>
  obtain ⟨h1,_,h2⟩:=h
  by_cases e:p.1=k
  ·have e':q.1=k:=h1.symm.trans e
   have b:atKey (q :: qs) k=some q.2:=by simp [atKey,List.find?_cons,e']
   rw [valV_pos e,b]; exact h2
  ·have e':¬ q.1=k:=fun z=>e (h1.trans z)
   have b:atKey (q :: qs) k=atKey qs k:=by simp [atKey,List.find?_cons,e']
   rw [valV_neg e,b]; exact ih
theorem KT.repl {H:Hp} {kvs:List (List Key × V)} {xs:List (List Key × Addr × Value)} (r:KT H kvs xs) (k:List Key) {y:V} {u:Value} (ry:RelV y u) :
  KT H (kvs.map fun kv=>if kv.1=k then (kv.1,y) else kv) (xs.map (putAt k u)):=by
 induction r with
 | nil=>exact .nil
 | @cons p q ps qs h t ih=>
  rw [List.map_cons,List.map_cons]
  refine .cons ?_ ih
  obtain ⟨h1,h2,h3⟩:=h
  unfold putAt
  by_cases e:p.1=k
  ·rw [if_pos e,if_pos (h1.symm.trans e)]; exact ⟨h1,h2,ry⟩
  ·rw [if_neg e,if_neg (fun z=>e (h1.trans z))]; exact ⟨h1,h2,h3⟩
theorem KT.put {H:Hp} {kvs:List (List Key × V)} {xs:List (List Key × Addr × Value)} (r:KT H kvs xs) (k:List Key) {b:Addr} {y:V} {u:Value} (hb:H b=some (.tup (k.map kV))) (ry:RelV y u) :
  KT H (putK kvs k y) (storedH xs k b u):=by
 have e:(kvs.any fun kv=>decide (kv.1=k))=(atKey xs k).isSome:=by
  rw [valV_any,(r.val k).isSome_eq,Option.isSome_map]
 unfold putK storedH
 rw [e]
 by_cases q:(atKey xs k).isSome=true
 ·rw [if_pos q,if_pos q]; exact r.repl k ry
 ·rw [if_neg q,if_neg q]; exact Paired.snoc r ⟨rfl,hb,ry⟩
theorem KT.keeps {H H':Hp} {kvs:List (List Key × V)} {xs:List (List Key × Addr × Value)} (r:KT H kvs xs) (ht:∀ b ys,H b=some (.tup ys)->H' b=some (.tup ys)):KT H' kvs xs:=
 Paired.mapP r fun _ _ z=>⟨z.1,ht _ _ z.2.1,z.2.2⟩
section
variable {P:Program} {w:World} {H:Hp} {h:Heap} {a:Addr}
theorem rd_of {u:HO} (ok:HOk P w H h) (e:Rd H a u):ObjOk P w H h a u:=e.ok ok
theorem dk_rd {kvs:List (Key × V)} (ok:HOk P w H h) (e:Rd H a (.dK kvs)):kvs.length<=sizeLine/\(a == sysModules)=false/\∃ vs,KV kvs vs/\h.DictOf (mixKind P w) a vs:=
 show ObjOk P w H h a (.dK kvs) from rd_of ok e
theorem dk_of {kvs:List (Key × V)} (ok:HOk P w H h) (e:H a=some (.dK kvs)):kvs.length<=sizeLine/\(a == sysModules)=false/\∃ vs,KV kvs vs/\h.DictOf (mixKind P w) a vs:=dk_rd ok (.inl e)
theorem key_of {ks:List Key} (ok:HOk P w H h) (e:H a=some (.tup (ks.map kV))):(tupleKind (mixKind P w)).is h ks a:=by
 obtain ⟨_,its,r,o,h1,h2,n,h3⟩:=(show ObjOk P w H h a (.tup (ks.map kV)) from ok a _ e)
 exact ⟨o,its.toArray,n,h1,h2,h3,by simpa using items_are r⟩
theorem dt_rd {kvs:List (List Key × V)} (ok:HOk P w H h) (e:Rd H a (.dT kvs)):kvs.length<=sizeLine/\(a == sysModules)=false/\
  ∃ xs,KT H kvs xs/\h.DictOfH (tupleKind (mixKind P w)) a xs:=by
 obtain ⟨z,y,xs,r,o,es,ep,h1,h2,h3,h4,h5⟩:=(show ObjOk P w H h a (.dT kvs) from rd_of ok e)
 refine ⟨z,y,xs,r,o,es,ep,h1,h2,h3,h4,fun x hx=>?_,h5⟩
 have all:∀ {l:List (List Key × V)} {m:List (List Key × Addr × Value)},KT H l m->∀ x ∈ m,(tupleKind (mixKind P w)).is h x.1 x.2.1:=by
  intro l m q
  induction q with
  | nil=>intro x hx; exact nomatch hx
  | @cons p q ps qs hq t ih=>
   intro x hx
   rcases List.mem_cons.mp hx with e | hx
   ·subst e
    exact key_of ok (by rw [<-hq.1]; exact hq.2.1)
   ·exact ih x hx
 exact all r x hx
theorem dt_of {kvs:List (List Key × V)} (ok:HOk P w H h) (e:H a=some (.dT kvs)):kvs.length<=sizeLine/\(a == sysModules)=false/\
  ∃ xs,KT H kvs xs/\h.DictOfH (tupleKind (mixKind P w)) a xs:=dt_rd ok (.inl e)
end
noncomputable def DGet (H:Hp) (a:Addr) (y:V) (r:Option V):Prop:=
 (∃ kvs k,Rd H a (.dK kvs)/\y=kV k/\r=valV kvs k)\/∃ kvs k b,Rd H a (.dT kvs)/\y=.ref b/\H b=some (.tup (k.map kV))/\r=valV kvs k
noncomputable def DPut (H:Hp) (a:Addr) (y v:V) (H':Hp):Prop:=
 (∃ kvs k,H a=some (.dK kvs)/\y=kV k/\kvs.length < sizeLine/\H' = upd H a (.dK (putK kvs k v)))\/
 ∃ kvs k b,H a=some (.dT kvs)/\y=.ref b/\H b=some (.tup (k.map kV))/\kvs.length < sizeLine/\H' = upd H a (.dT (putK kvs k v))
theorem DGet.k {H:Hp} {a:Addr} {kvs:List (Key × V)} {k:Key} (e:H a=some (.dK kvs)):DGet H a (kV k) (valV kvs k):=.inl ⟨kvs,k,.inl e,rfl,rfl⟩
theorem DGet.t {H:Hp} {a b:Addr} {kvs:List (List Key × V)} {k:List Key} (e:H a=some (.dT kvs)) (eb:H b=some (.tup (k.map kV))):DGet H a (.ref b) (valV kvs k):=.inr ⟨kvs,k,b,.inl e,rfl,eb,rfl⟩
theorem DPut.k {H:Hp} {a:Addr} {kvs:List (Key × V)} {k:Key} {v:V} (e:H a=some (.dK kvs)) (hl:kvs.length < sizeLine):DPut H a (kV k) v (upd H a (.dK (putK kvs k v))):=.inl ⟨kvs,k,e,rfl,hl,rfl⟩
theorem DPut.t {H:Hp} {a b:Addr} {kvs:List (List Key × V)} {k:List Key} {v:V} (e:H a=some (.dT kvs)) (eb:H b=some (.tup (k.map kV))) (hl:kvs.length < sizeLine) :
  DPut H a (.ref b) v (upd H a (.dT (putK kvs k v))):=.inr ⟨kvs,k,b,e,rfl,eb,hl,rfl⟩
section
variable {X:Cx} {pins:List (Addr × Obj)} {σ:St} {H:Hp} {s:Shared} {a:Addr} {y v:V} {u r:Value} {o:Option V} {A:Around} {E:Value->Shared->Prop}
theorem Inv.big (I:Inv X pins σ H s):sysModules < s.heap.objs.size:=by
 have h:mainGlobals < s.heap.objs.size:=(I.mod.glob.keeps I.bk).lt
 exact Nat.lt_trans (by decide) h
theorem d_write {h':Heap} {t':Nat} {ob:HO} (I:Inv X pins σ H s) (mu:Mut (H a)) (hs:Heap.SameBut a s.heap h') (he:∃ q,h'.get? a=some q) (new:ObjOk X.prog X.w (upd H a ob) h' a ob) :
  Inv X pins σ (upd H a ob) { s with heap:=h',toks:=t' }:=
 I.write (x:=a) (e:=a) mu (.inl rfl) (fun b q hb z=>(hs.2 b hb).trans z) he new
theorem dk_new {P:Program} {w:World} {H':Hp} {h':Heap} {kvs:List (Key × V)} {vs:List (Key × Value)} (z:kvs.length<=sizeLine) (hd:(a == sysModules)=false) (rel:KV kvs vs) (dd:h'.DictOf (mixKind P w) a vs) :
  ObjOk P w H' h' a (.dK kvs):=⟨z,hd,vs,rel,dd⟩
theorem d_setItem {H':Hp} {Q:Unit->Shared->Prop} (hu:A.units + 1 < cLine) (I:Inv X pins σ H s) (g:DPut H a y v H') (ry:RelV y u) (rv:RelV v r) (h:∀ s',Inv X pins σ H' s'->Q () s') :
  wpAny (model X.prog X.w) A (setItem (.ref a) u r) Q E s:=by
 rcases g with ⟨kvs,k,e,ey,l,eH⟩ | ⟨kvs,k,b,e,ey,eb,l,eH⟩
 ·subst ey eH
  obtain ⟨z,hd,vs,rel,dd⟩:=dk_of I.hok e
  have hz:vs.length<=sizeLine:=by rw [<-rel.length]; exact z
  have hl:(putK kvs k v).length<=sizeLine:=by have:=length_putK kvs k v; omega
  refine wpAny_setItem_pairs (hsz:=hz) (kV_is ry) dd fun h' dd' hs=>h _ ?_
  have he:∃ q,h'.get? a=some q:=let ⟨q,_,_,hq,_⟩:=dd'; ⟨q,hq⟩
  exact d_write I (by rw [e]; exact True.intro) hs he (dk_new hl hd (rel.put k rv) dd')
 ·subst ey eH
  cases (show u=Value.ref b from ry)
  obtain ⟨z,hd,xs,rel,dd⟩:=dt_of I.hok e
  have hz:xs.length<=sizeLine:=by rw [<-Paired.length rel]; exact z
  have hl:(putK kvs k v).length<=sizeLine:=by have:=length_putK kvs k v; omega
  refine wpAny_setItem_heap (hsz:=hz) (tupleKind_room_in1 hu) (key_of I.hok eb) dd fun h' dd' hs=>h _ ?_
  obtain ⟨q,es,ep,hq,h2,h3,h4,_,h5⟩:=dd'
  refine d_write I (by rw [e]; exact True.intro) hs ⟨q,hq⟩ ⟨hl,hd,_,(rel.put k eb rv).keeps fun c ys ec=>?_,q,es,ep,hq,h2,h3,h4,h5⟩
  rw [upd_ne (ne_of ec e (fun z=>nomatch z))]
  exact ec
end
section
variable {X:Cx} {pins:List (Addr × Obj)} {σ:St} {H:Hp} {s:Shared} {a:Addr} {kvs:List (Key × V)} {k:Key} {u:Value} {A:Around} {E:Value->Shared->Prop}
end
noncomputable def sDPut (td ty tv:TE):TS:=fun D σ H=>tv σ H fun v H1=>td σ H1 fun x H2=>ty σ H2 fun y H3=>∃ a H4,x=.ref a/\DPut H3 a y v H4/\D.nx σ H4
section
variable {X:Cx} {o i e value:Expr} {pos pos' tpos:Pos} {td ty tv:TE}
theorem ps_dput (hu:X.A.units + 1 < cLine) (ho:PE X o td) (hi:PE X i ty) (hv:PE X value tv) (hs:swapsWith value (some (.Subscript o i pos')) pos.line X.env=pure false) :
  PS X (.Assign [.Subscript o i pos'] value pos) (sDPut td ty tv):=by
 intro pins s σ H D I h
 refine wpAny_Assign_Subscript (thn (hv pins s σ H _ I h) fun r s1 ⟨v,H1,I1,rv,q1⟩=>thn (ho pins s1 σ H1 _ I1 q1) fun u s2 ⟨x,H2,I2,rx,q2⟩=>thn (hi pins s2 σ H2 _ I2 q2) fun iv s3 ⟨y,H3,I3,ry,a,H4,ex,g,q3⟩=>?_) hs
 subst ex
 obtain rfl:u=Value.ref a:=rx
 exact d_setItem hu I3 g ry rv fun s4 I4=>⟨σ,H4,I4,q3⟩
end
theorem dk_empty {P:Program} {w:World} {H:Hp} (h:Heap) (hb:sysModules < h.objs.size):ObjOk P w H (h.push { cls:=.type "dict",data:=.dict #[] }) h.objs.size (.dK []):=
 ⟨Nat.zero_le _,beq_eq_false_iff_ne.mpr (Ne.symm (Nat.ne_of_lt hb)),[],.nil,Heap.DictOf.new h⟩
theorem dt_empty {P:Program} {w:World} {H:Hp} (h:Heap) (hb:sysModules < h.objs.size):ObjOk P w H (h.push { cls:=.type "dict",data:=.dict #[] }) h.objs.size (.dT []):=
 ⟨Nat.zero_le _,beq_eq_false_iff_ne.mpr (Ne.symm (Nat.ne_of_lt hb)),[],.nil,_,#[],0,Heap.get?_push_size _ rfl,⟨rfl,rfl,rfl⟩,rfl,rfl,List.nodup_nil⟩
noncomputable def tDNewK:TE:=fun _ H Q=>∀ p,H p=none->Q (.ref p) (upd H p (.dK []))
noncomputable def tDNewT:TE:=fun _ H Q=>∀ p,H p=none->Q (.ref p) (upd H p (.dT []))
section
variable {X:Cx} {pos:Pos}
theorem pe_dnewK:PE X (.Dict [] [] pos) tDNewK:=fun pins s σ H Q I h=>
 wpAny_Dict_empty ⟨.ref s.heap.objs.size,_,I.laid (a:=s.heap.objs.size) (o:=.dK []) (t':=s.toks) (fun _ _ q=>Heap.get?_push_of_some _ q) (Nat.le_refl _) (dk_empty s.heap I.big),rfl,h _ (I.hok.fresh (Nat.le_refl _))⟩
theorem pe_dnewT:PE X (.Dict [] [] pos) tDNewT:=fun pins s σ H Q I h=>
 wpAny_Dict_empty ⟨.ref s.heap.objs.size,_,I.laid (a:=s.heap.objs.size) (o:=.dT []) (t':=s.toks) (fun _ _ q=>Heap.get?_push_of_some _ q) (Nat.le_refl _) (dt_empty s.heap I.big),rfl,h _ (I.hok.fresh (Nat.le_refl _))⟩
end
structure M2 (X:Cx) (o:Expr) (m:Str) (apos:Pos) (e f:Expr) (cpos:Pos):Prop where
 base:attributeBase o m X.env (eval o X.env)=eval o X.env
 few:((backTo cpos (starEach [e,f] X.env)).all (fun x=>!x.1) && (backToKw cpos (keywordEach [] X.env)).all (fun x=>x.1.isSome)
  && decide (([e,f]:List Expr).length + ([]:List Keyword).length + (if ([]:List Keyword).isEmpty then 0 else 1) < 30))=true
 line:(apos.endLine == cpos.line)=true
 trees:backTo cpos (starEach [e,f] X.env)=[(false,eval e X.env),(false,eval f X.env)]
noncomputable def IsD (H:Hp) (a:Addr):Prop:=(∃ kvs,Rd H a (.dK kvs))\/∃ kvs,Rd H a (.dT kvs)
theorem isD_at {X:Cx} {pins:List (Addr × Obj)} {σ:St} {H:Hp} {s:Shared} {a:Addr} (I:Inv X pins σ H s) (d:IsD H a) :
  s.TypeIs (.ref a) "dict"/\(∀ b,Value.ref a=.ref b->∃ ob,s.heap.get? b=some ob/\ob.dict=none)/\(a == sysModules)=false:=by
 rcases d with ⟨kvs,e⟩ | ⟨kvs,e⟩
 ·obtain ⟨_,hd,vs,_,dd⟩:=dk_rd I.hok e
  refine ⟨dd.typeIs,fun b q=>?_,hd⟩
  cases q
  obtain ⟨ob,_,_,h1,h2,_⟩:=dd
  exact ⟨ob,h1,h2.2.1⟩
 ·obtain ⟨_,hd,xs,_,dd⟩:=dt_rd I.hok e
  refine ⟨dd.typeIs,fun b q=>?_,hd⟩
  cases q
  obtain ⟨ob,_,_,h1,h2,_⟩:=dd
  exact ⟨ob,h1,h2.2.1⟩
section
variable {X:Cx} {pins:List (Addr × Obj)} {σ:St} {H:Hp} {s:Shared} {a:Addr} {y d:V} {u r:Value} {o:Option V} {A:Around} {E:Value->Shared->Prop}
theorem d_get2 {Q:Value->Shared->Prop} (hu:A.units + 1 < cLine) (I:Inv X pins σ H s) (g:DGet H a y o) (ry:RelV y u) (rd:RelV d r) (h:∀ w' s',Inv X pins σ H s'->RelV (o.getD d) w'->Q w' s') :
  wpAny (model X.prog X.w) A (call (.builtin "dict.get") [.ref a,u,r]) Q E s:=by
 rcases g with ⟨kvs,k,e,ey,l⟩ | ⟨kvs,k,b,e,ey,eb,l⟩
 ·subst ey
  obtain ⟨z,hd,vs,rel,dd⟩:=dk_rd I.hok e
  refine call_meetsIn PySem.F.slot_dict_get dd.typeIs PySem.F.entry_dict_get (PySem.F.args_dict_get_3 _ _ _) (meets_dict_get_default (mixKind X.prog X.w) a (kV_is ry) hd r) ⟨_,dd.mapOf,h _ _ (I.tok _) ?_⟩
  rw [l]
  exact (rel.val k).getD rd
 ·subst ey
  cases (show u=Value.ref b from ry)
  obtain ⟨z,hd,xs,rel,dd⟩:=dt_rd I.hok e
  refine call_meetsIn PySem.F.slot_dict_get dd.typeIs PySem.F.entry_dict_get (PySem.F.args_dict_get_3 _ _ _) (meetsH_dict_get_default (tupleKind (mixKind X.prog X.w)) a b hd r) ⟨tupleKind_room_in1 hu,k,xs,key_of I.hok eb,dd,h _ _ (I.tok _) ?_⟩
  rw [l]
  exact (rel.val k).getD rd
end
noncomputable def tDGet2 (td ty tx:TE):TE:=fun σ H Q=>td σ H fun x H1=>∃ a,x=.ref a/\IsD H1 a/\ty σ H1 fun y H2=>tx σ H2 fun z H3=>∃ o,DGet H3 a y o/\Q (o.getD z) H3
section
variable {X:Cx} {o e f:Expr} {apos cpos:Pos} {td ty tx:TE}
theorem pe_dget2 (hu:X.A.units + 1 < cLine) (ho:PE X o td) (he:PE X e ty) (hf:PE X f tx) (m:M2 X o "get" apos e f cpos):PE X (.Call (.Attribute o "get" apos) [e,f] [] cpos) (tDGet2 td ty tx):=by
 intro pins s σ H Q I h
 refine wpAny_Call_method m.base m.few m.line PySem.F.plainAttrs_dict PySem.F.slot_dict_get PySem.F.type_dict_get (thn (ho pins s σ H _ I h) fun u s1 ⟨x,H1,I1,rx,a,ex,d,q1⟩=>?_)
 subst ex
 obtain rfl:u=Value.ref a:=rx
 obtain ⟨t1,t2,_⟩:=isD_at I1 d
 refine ⟨t1,t2,?_⟩
 rw [m.trees]
 refine Calls.callWith_builtin rfl (Calls.evalArgs_plain (Calls.spliced_cons (thn (he pins s1 σ H1 _ I1 q1) fun iv s2 ⟨y,H2,I2,ry,q2⟩=>
  Calls.spliced_cons (thn (hf pins s2 σ H2 _ I2 q2) fun fv s3 ⟨z,H3,I3,rz,ov,g,q3⟩=>Calls.spliced_nil ?_))))
 exact d_get2 hu I3 g ry rz fun w' s4 I4 rw'=>⟨_,H3,I4,rw',q3⟩
end
section
variable {X:Cx} {pins:List (Addr × Obj)} {σ:St} {H:Hp} {s:Shared} {a:Addr} {kvs:List (Key × V)} {A:Around} {E:Value->Shared->Prop}
end
section
variable {X:Cx} {pins:List (Addr × Obj)} {σ:St} {H:Hp} {s:Shared} {a:Addr} {y:V} {u:Value} {A:Around} {E:Value->Shared->Prop}
end
end L2
namespace L2
open PySem PySem.Spec PyProof.Rows
section
variable {κ:Type} [DecidableEq κ]
end
end L2
namespace L2
open PySem PySem.Spec PyProof.Rows
noncomputable def closL (env:Env):List (Str × NameKind)->List (Str × Addr)->List (Str × Addr)
 | [],acc=>acc
 | (n,k) :: r,acc=>if k == .free then closL env r ((n,(env.cells.lookup n).getD 0) :: acc) else closL env r acc
theorem closure_loop (env:Env):∀ (names:List (Str × NameKind)) (acc:List (Str × Addr)),(∀ y ∈ names,y.2=.free->(env.cells.lookup y.1).isSome=true)->
  (forIn names acc fun (x:Str × NameKind) (cs:List (Str × Addr))=>if (x.2 == NameKind.free)=true then (do let c <-cellOf env x.1; pure (ForInStep.yield ((x.1,c) :: cs))) else (pure (ForInStep.yield cs):Sem (ForInStep (List (Str × Addr)))))=pure (closL env names acc)
 | [],acc,_=>rfl
 | (n,k) :: r,acc,h=>by
  have ih:=fun a=>closure_loop env r a fun y hy=>h y (List.mem_cons_of_mem _ hy)
  rw [List.forIn_cons]
  unfold closL
  by_cases hk:(k == NameKind.free)=true
  ·obtain ⟨c,hc⟩:=Option.isSome_iff_exists.mp (h (n,k) List.mem_cons_self (by simpa using hk))
   simp only [hk,if_true]
   have:cellOf env n=pure c:=by unfold cellOf; rw [hc]
   rw [this,hc]
   exact ih _
  ·simp only [hk]
   exact ih _
theorem closureFor_cells {scope:Scope} {env:Env} (h:∀ y ∈ scope.names,y.2=.free->(env.cells.lookup y.1).isSome=true):closureFor scope env=pure (closL env scope.names []):=by
 have e:=closure_loop env scope.names [] h
 unfold closureFor
 exact congrArg (fun m=>m >>= pure) e
theorem closL_keep {env:Env} {x:Str}:∀ {names:List (Str × NameKind)} {acc:List (Str × Addr)} {c:Addr},(∀ y ∈ names,y.2=.free->(env.cells.lookup y.1).isSome=true)->
  (∀ c,acc.lookup x=some c->env.cells.lookup x=some c)->(closL env names acc).lookup x=some c->env.cells.lookup x=some c
 | [],_,_,_,ha,h=>ha _ h
 | (n,k) :: r,acc,c,hn,ha,h=>by
  unfold closL at h
  by_cases hk:(k == NameKind.free)=true
  ·rw [if_pos hk] at h
   refine closL_keep (fun y hy=>hn y (List.mem_cons_of_mem _ hy)) (fun c' e=>?_) h
   rw [List.lookup_cons] at e
   cases hx:x == n with
   | true=>
    rw [hx] at e
    have:x=n:=by simpa using hx
    subst this
    obtain ⟨d,hd⟩:=Option.isSome_iff_exists.mp (hn (x,k) List.mem_cons_self (by simpa using hk))
    rw [hd] at e ⊢
    exact e
   | false=>
    rw [hx] at e
    exact ha _ e
  ·rw [if_neg hk] at h
   exact closL_keep (fun y hy=>hn y (List.mem_cons_of_mem _ hy)) ha h
theorem closL_has {env:Env} {x:Str}:∀ {names:List (Str × NameKind)} {acc:List (Str × Addr)},((x,NameKind.free) ∈ names\/(acc.lookup x).isSome=true)->((closL env names acc).lookup x).isSome=true
 | [],_,h=>by rcases h with h | h; cases h; exact h
 | (n,k) :: r,acc,h=>by
  unfold closL
  by_cases hk:(k == NameKind.free)=true
  ·rw [if_pos hk]
   refine closL_has ?_
   rw [List.lookup_cons]
   cases hx:x == n with
   | true=>exact .inr rfl
   | false=>
    rcases h with h | h
    ·rcases List.mem_cons.mp h with e | h
     ·cases e; simp at hx
     ·exact .inl h
    ·exact .inr h
  ·rw [if_neg hk]
   refine closL_has ?_
   rcases h with h | h
   ·rcases List.mem_cons.mp h with e | h
    ·cases e; simp at hk
    ·exact .inl h
   ·exact .inr h
noncomputable abbrev rlab (env:Env):Str × NameKind->Str × NameKind:=fun (n,k)=>if (k == NameKind.free && env.scope.kind == .function && env.kindOf n == some .cell) then (n,NameKind.cell) else (n,k)
theorem relabel_of {env:Env}:∀ {names:List (Str × NameKind)} {x:Str} {k:NameKind},names.lookup x=some k->
  (names.map (rlab env)).lookup x=some k\/(k=.free/\(names.map (rlab env)).lookup x=some .cell)
 | [],_,_,h=>by simp at h
 | (n,k) :: r,x,k',h=>by
  have ih:=@relabel_of env r x k'
  rw [List.map_cons]
  have e:rlab env (n,k)=(n,k)\/(k=.free/\rlab env (n,k)=(n,.cell)):=by
   by_cases hc:(k == NameKind.free && env.scope.kind == .function && env.kindOf n == some .cell)=true
   ·refine .inr ⟨?_,if_pos hc⟩
    cases k <;> first | rfl | (simp at hc)
   ·exact .inl (if_neg hc)
  cases hx:x == n with
  | true=>
   simp only [List.lookup_cons,hx] at h
   cases h
   rcases e with e | ⟨e1,e⟩
   ·rw [e]; exact .inl (by simp only [List.lookup_cons,hx])
   ·rw [e]; exact .inr ⟨e1,by simp only [List.lookup_cons,hx]⟩
  | false=>
   simp only [List.lookup_cons,hx] at h
   rcases e with e | ⟨e1,e⟩ <;> (rw [e]; simp only [List.lookup_cons,hx]; exact ih h)
theorem relabel_none {env:Env}:∀ {names:List (Str × NameKind)} {x:Str},names.lookup x=none->(names.map (rlab env)).lookup x=none
 | [],_,_=>rfl
 | (n,k) :: r,x,h=>by
  have ih:=@relabel_none env r x
  rw [List.map_cons]
  have e:rlab env (n,k)=(n,k)\/rlab env (n,k)=(n,.cell):=by
   by_cases hc:(k == NameKind.free && env.scope.kind == .function && env.kindOf n == some .cell)=true
   ·exact .inr (if_pos hc)
   ·exact .inl (if_neg hc)
  cases hx:x == n with
  | true=>simp only [List.lookup_cons,hx] at h; cases h
  | false=>
   simp only [List.lookup_cons,hx] at h
   rcases e with e | e <;> (rw [e]; simp only [List.lookup_cons,hx]; exact ih h)
section
variable {prog:Program} {w:World} {A:Around} {E:Value->Shared->Prop} {R:Result->Shared->Prop} {s:Shared}
theorem compLoop_any {elt target iter:Expr} {ifs:List Expr} {scope:Scope} {pos:Pos} {it acc:Value} {env:Env} (I:Nat->Shared->Prop)
  (turn:∀ n s,I n s->wpAny (model prog w) A (pyNext it) (fun r s₁=>match r with
   | none=>R (.ok .next) s₁
   | some v=>wpAny (model prog w) A (letOwnedTupleGo target it v) (fun _ s₁'=>wpAny (model prog w) A (assign target env v) (fun _ s₂=>
     wpAny (model prog w) A (forIn ifs true fun c r=>if r=true then do let ok <-isTrue c env (eval c env); pure (ForInStep.yield ok) else pure (ForInStep.yield r)) (fun ok s₃=>
      if ok=true then wpAny (model prog w) A (eval elt env) (fun x s₄=>
       wpAny (model prog w) A (call (.builtin "list.append") [acc,x]) (fun _ s₅=>∃ m,m < n/\I m s₅) (fun _ _=>False) s₄) (fun _ _=>False) s₃
      else ∃ m,m < n/\I m s₃) (fun _ _=>False) s₂) (fun _ _=>False) s₁') (fun _ _=>False) s₁) (fun _ _=>False) s)
  (n:Nat) (h:I n s) :
  codeAny (model prog w) A (.compLoop (.ListComp elt [⟨target,iter,ifs,0⟩] scope pos) 0 it acc env) R s:=by
 refine codeAny_loop rfl I (fun n s hI=>?_) n h
 show wpAny _ A ((compTurn (.ListComp elt [⟨target,iter,ifs,0⟩] scope pos) 0 it acc env).onRaise (fun x=>do noteFrame x env; theTreesLotGoes x)) _ _ s
 refine wpAny_noted (wpAny_noRaise ?_)
 rw [compTurn_list]
 refine wpAny_bind (wpAny_standAt (wpAny_bind (wpAny_mono (turn n s hI) (fun r s₁ h₁=>?_) fun _ _ h'=>h')))
 cases r with
 | none=>exact wpAny_pure h₁
 | some v=>
  refine wpAny_bind (wpAny_mono h₁ (fun _ s₁' h₁'=>?_) fun _ _ h'=>h')
  refine wpAny_bind (wpAny_mono h₁' (fun _ s₂ h₂=>wpAny_bind (wpAny_mono h₂ (fun ok s₃ h₃=>?_) fun _ _ h'=>h')) fun _ _ h'=>h')
  cases ok with
  | false=>exact wpAny_pure ⟨rfl,h₃⟩
  | true=>
   exact wpAny_bind (wpAny_bind (wpAny_mono h₃ (fun x s₄ h₄=>wpAny_bind (wpAny_mono h₄ (fun _ s₅ h₅=>wpAny_pure (wpAny_pure ⟨rfl,h₅⟩)) fun _ _ h'=>h')) fun _ _ h'=>h'))
end
noncomputable abbrev compCx (X:Cx) (scope:Scope) (N':List Str) (C:Addr) (fp:List Addr) (s₂:Shared) (H₂:Hp) (pl:List (Addr × Obj)):Cx where
 prog:=X.prog
 w:=X.w
 K:=X.K
 mg:=X.mg
 base:=X.base
 A:=X.A
 N:=N'
 s₀:=s₂
 H₀:=H₂
 env:=compEnvC scope (closL X.env scope.names []) C X.env
 outer:=X.stack
 stack:=X.stack
 ex:=fp
 fn:=fun _=>false
 calm:=X.calm
 pn:=X.pn ++ pl
 xe:=fun _ _=>False
structure CompScope (X:Cx) (scope:Scope) (own capN:List Str) (caps:List Nat):Prop where
 kind:scope.kind=.function
 nocell:∀ y ∈ scope.names,y.2 ≠ .cell
 free:∀ y ∈ scope.names,y.2=.free->X.env.kindOf y.1=some .cell\/X.env.kindOf y.1=some .free
 loc:∀ y ∈ scope.names,y.2=.local->scope.names.lookup y.1=some .local
 caps:caps.map (fun j=>X.N[j]?)=capN.map some
 capf:∀ x ∈ capN,scope.names.lookup x=some .free
noncomputable def liftC (own:List Str) (caps:List Nat) (σ:St):St:=own.map (fun _=>none) ++ caps.map (fun j=>(σ[j]?).getD none)
section
variable {X:Cx} {scope:Scope} {own capN:List Str} {caps:List Nat}
theorem CompScope.cells (S:CompScope X scope own capN caps) (ok:X.Ok):∀ y ∈ scope.names,y.2=.free->(X.env.cells.lookup y.1).isSome=true:=fun y hy hf=>by
 obtain ⟨c,hc⟩:=ok.has y.1 (S.free y hy hf)
 rw [hc]; rfl
theorem CompScope.cl (S:CompScope X scope own capN caps) (ok:X.Ok) {x:Str} {c:Addr} (h:(closL X.env scope.names []).lookup x=some c):X.env.cells.lookup x=some c:=
 closL_keep (S.cells ok) (fun _ e=>by simp at e) h
theorem inv_comp {pins:List (Addr × Obj)} {σ:St} {H₂:Hp} {s₂:Shared} {h₁:Heap} {C:Addr} {fp:List Addr} {tk:Nat} {m:Str->Option Value} (S:CompScope X scope own capN caps) (I:Inv X pins σ H₂ s₂)
  (hf:∀ b ∈ fp,FpOk X pins H₂ b) (hfo:∀ b ∈ fp,b < s₂.heap.objs.size) (hC:s₂.heap.objs.size<=C) (hk:∀ b o,s₂.heap.get? b=some o->h₁.get? b=some o) (hn:h₁.Ns C m) :
  Inv (compCx X scope (own ++ capN) C fp s₂ H₂ pins) [] (liftC own caps σ) H₂ { s₂ with heap:=h₁,toks:=tk }:=by
 have cl:=fun {x:Str} {c:Addr}=>S.cl (x:=x) (c:=c) I.ok
 have kindRel:∀ x,((relabel scope X.env).names.lookup x=some .cell\/(relabel scope X.env).names.lookup x=some .free)->scope.names.lookup x=some .free:=fun x hx=>by
  cases e:scope.names.lookup x with
  | none=>
   have z:(relabel scope X.env).names.lookup x=none:=relabel_none (env:=X.env) e
   rw [z] at hx
   rcases hx with q | q <;> cases q
  | some k=>
   rcases relabel_of (env:=X.env) e with z | ⟨z,_⟩
   ·have z':(relabel scope X.env).names.lookup x=some k:=z
    rw [z'] at hx
    rcases hx with q | q
    ·cases q; exact absurd rfl (S.nocell _ (PySem.mem_of_lookup e))
    ·cases q; rfl
   ·rw [z]
 have stk:∀ b,b ≠ X.env.locals->b ∉ X.fs->b ∉ frs X.stack:=fun b h1 h2 z=>(List.mem_cons.mp (I.stkSub b z)).elim h1 h2
 refine ⟨⟨I.ok.mod,S.kind,I.ok.glob,I.ok.blt,hC,fun x y c h1 h2=>I.ok.inj x y c (cl h1) (cl h2),fun x hx=>?_,fun x c h _=>(by cases h),I.ok.hd,I.ok.frames,.inl rfl,fun b hb=>⟨?_,fun x c h=>(hf b hb).2.2.2.2.1 x c (cl h)⟩,
   I.bs,Nat.le_trans I.ok.bsz I.sz,fun b o e hb=>?_,fun b hb=>stk b (hf b hb).2.1 (hf b hb).2.2.1,I.stack,I.stkFree⟩,
  rfl,I.bare,Un.kept hk,⟨m,hn,fun i x v h1 h2 h3=>?_⟩,fun x c h=>?_,I.hok.fresh hC,fun x c h=>I.freeC x c (cl h),fun p hp=>?_,I.hok.kept hk,?_⟩
 ·have q:=kindRel x hx
  exact Option.isSome_iff_exists.mp (closL_has (env:=X.env) (.inl (PySem.mem_of_lookup q)))
 ·exact Nat.ne_of_lt (Nat.lt_of_lt_of_le (hfo b hb) hC)
 ·rcases (hf b hb).2.2.2.1 with z | z
  ·exact I.ok.noex b o e z
  ·exact absurd (Nat.lt_of_lt_of_le (Heap.lt_size (I.ok.bs b o e).1) z) (Nat.lt_irrefl _)
 ·
  have hi:own.length<=i:=by
   refine Nat.le_of_not_lt fun hlt=>?_
   unfold liftC at h2
   rw [List.getElem?_append_left (by simpa using hlt),List.getElem?_map] at h2
   cases q:own[i]? with
   | none=>rw [q] at h2; cases h2
   | some y=>rw [q] at h2; cases h2
  have h1':capN[i - own.length]? = some x:=by
   have:(own ++ capN)[i]? = some x:=h1
   rwa [List.getElem?_append_right hi] at this
  have h2':(caps.map (fun j=>(σ[j]?).getD none))[i - own.length]? = some (some v):=by
   unfold liftC at h2
   rwa [List.getElem?_append_right (by simpa using hi),List.length_map] at h2
  rw [List.getElem?_map] at h2'
  obtain ⟨j,hj,hj2⟩:=Option.map_eq_some_iff.mp h2'
  have hX:X.N[j]? = some x:=by
   have q:=congrArg (fun l=>l[i - own.length]?) S.caps
   simp only [List.getElem?_map,hj,h1',Option.map_some] at q
   exact Option.some.inj q
  have hσ:σ[j]? = some (some v):=by
   cases q:σ[j]? with
   | none=>rw [q] at hj2; cases hj2
   | some z=>rw [q] at hj2; simp at hj2; rw [hj2]
  have hfr:=S.capf x (List.mem_of_getElem? h1')
  have hmem:(x,NameKind.free) ∈ scope.names:=PySem.mem_of_lookup hfr
  have hkX:=S.free _ hmem rfl
  obtain ⟨m',hm',hl⟩:=I.loc
  obtain ⟨u,ru,l⟩:=hl j x v hX hσ (hkX.elim (fun q=>.inr (.inl q)) fun q=>.inr (.inr q))
  refine ⟨u,ru,.inr ⟨?_,?_⟩⟩
  ·rcases relabel_of (env:=X.env) hfr with z | ⟨_,z⟩
   ·exact .inr z
   ·exact .inl z
  ·rcases l with ⟨l,_⟩ | ⟨_,c,hc,hcell⟩
   ·have l':X.env.kindOf x=some .local:=l
    rcases hkX with q | q <;> (rw [l'] at q; cases q)
   ·obtain ⟨c',hc'⟩:=Option.isSome_iff_exists.mp (closL_has (env:=X.env) (acc:=[]) (.inl hmem))
    have:=cl hc'
    rw [hc] at this
    cases this
    obtain ⟨o,ho,hd⟩:=hcell
    exact ⟨c,hc',o,hk c o ho,hd⟩
 ·obtain ⟨v,o,ho,hd⟩:=I.cell x c (cl h)
  exact ⟨v,o,hk c o ho,hd⟩
 ·have hp':p ∈ X.pn ++ pins:=by simpa using hp
  obtain ⟨e,n,ne,nf,d⟩:=I.pin p hp'
  exact ⟨hk _ _ e,n,Nat.ne_of_lt (Nat.lt_of_lt_of_le (Heap.lt_size e) hC),stk p.1 ne nf,d⟩
 ·unfold liftC
  have hl:=congrArg List.length S.caps
  simp only [List.length_map] at hl
  show (own.map (fun _=>(none:Option V)) ++ caps.map (fun j=>(σ[j]?).getD none)).length=(own ++ capN).length
  rw [List.length_append,List.length_append,List.length_map,List.length_map,hl]
end
noncomputable def PTs (X:Cx) (ifs:List Expr) (t:TT):Prop:=
 ∀ (pins:List (Addr × Obj)) (s:Shared) (σ:St) (H:Hp) (Q:Bool->Hp->Prop),Inv X pins σ H s->t σ H Q->
  wpAny (model X.prog X.w) X.A (forIn ifs true fun c r=>if r=true then do let ok <-isTrue c X.env (eval c X.env); pure (ForInStep.yield ok) else pure (ForInStep.yield r)) (TP X pins σ Q) X.xe s
noncomputable def tYes:TT:=fun _ H Q=>Q true H
theorem pts_nil {X:Cx}:PTs X [] tYes:=fun _ _ _ H _ I h=>wpAny_tests_nil ⟨H,I,h⟩
theorem pts_one {X:Cx} {c:Expr} {t:TT} (h:PT X c t):PTs X [c] t:=fun pins s σ H Q I q=>wpAny_tests_one (h pins s σ H Q I q)
noncomputable def tComp (own:List Str) (caps:List Nat) (wi:TI) (g:TG) (tc:TT) (te:TE):TE:=fun σ H Q=>wi σ H fun J H1=>∃ W:Nat->Nat->List V->St->Hp->Prop,(∃ m,W 0 m [] (liftC own caps σ) H1)/\∀ i m ys σ' H,W i m ys σ' H->
 (J.stop i H/\ys.length<=sizeLine/\∀ p,H p=none->Q (.ref p) (upd H p (.lst ys)))\/
 (J.go i H/\∀ x H',J.yld i H x H'->g x σ' H' fun σ2 H2=>tc σ2 H2 fun b H3=>if b=true then te σ2 H3 fun y H4=>ys.length < sizeLine/\∃ m',m' < m/\W (i + 1) m' (ys ++ [y]) σ2 H4 else ∃ m',m' < m/\W (i + 1) m' ys σ2 H3)
section
variable {X:Cx} {scope:Scope} {own capN:List Str} {caps:List Nat} {tg iter elt:Expr} {ifs:List Expr} {wi:TI} {g:TG} {tc:TT} {te:TE} {pos:Pos}
theorem comp_core {pins:List (Addr × Obj)} {σ:St} {H:Hp} {s:Shared} {Q:VK} {RR:Value->Addr->Result->Shared->Prop} (S:CompScope X scope own capN caps) (hc:X.calm=true) (hi:PI X tg iter wi)
  (hin:∀ C fp s₂ H₂ pl,PG (compCx X scope (own ++ capN) C fp s₂ H₂ pl) tg g/\PTs (compCx X scope (own ++ capN) C fp s₂ H₂ pl) ifs tc/\PE (compCx X scope (own ++ capN) C fp s₂ H₂ pl) elt te)
  (I:Inv X pins σ H s) (h:tComp own caps wi g tc te σ H Q)
  (hRR:∀ (D C:Addr) (s':Shared) (H':Hp) (m:Str->Option Value),Inv X pins σ H' s'->FpOk X pins H' C->s'.heap.Ns C m->Q (.ref D) H'->RR (.ref D) C (.ok .next) s') :
  wpAny (model X.prog X.w) X.A (eval iter X.env) (fun x s₁=>wpAny (model X.prog X.w) X.A (pyIter x) (fun it s₂=>wpAny (model X.prog X.w) X.A (newList []) (fun acc s₃=>
   wpAny (model X.prog X.w) X.A (newFunctionEnv scope X.env.globals (closL X.env scope.names []) [] X.env.qual none .none (some X.env)) (fun cenv s₄=>
    codeAny (model X.prog X.w) X.A (.compStart (.ListComp elt [⟨tg,iter,ifs,0⟩] scope pos) 0 it acc { cenv with scope:=relabel scope X.env }) (RR acc cenv.locals) s₄) X.xe s₃) X.xe s₂) X.xe s₁) X.xe s:=by
 refine thn (hi pins s σ H _ I h) fun v s1 h1=>thn h1 fun itv s2 h2=>?_
 obtain ⟨it,fp,tn,J,H2,e,I2,T,st2,f2,W,⟨m0,w0⟩,turn⟩:=h2
 subst e
 have hfo:∀ b ∈ fp,b < s2.heap.objs.size:=fun b hb=>by obtain ⟨o,e,_⟩:=T.obj _ _ st2 b hb; exact Heap.lt_size e
 refine wpAny_newObj_type (wpAny_newFunctionEnv S.nocell (by intro y hy; simp at hy) (fun h₁ hns₁ hsb₁=>?_) S.kind)
 dsimp only at hns₁ hsb₁ ⊢
 generalize hH2:s2.heap.push { cls:=.type "list",dict:=none,data:=.seq ([]:List Value).toArray } = HH at hns₁ hsb₁ ⊢
 have hC:HH.objs.size=s2.heap.objs.size + 1:=by rw [<-hH2,Heap.size_push]
 have hCle:s2.heap.objs.size<=HH.objs.size:=by rw [hC]; exact Nat.le_succ _
 have hDC:s2.heap.objs.size ≠ HH.objs.size:=by rw [hC]; exact Nat.ne_of_lt (Nat.lt_succ_self _)
 have below:∀ b,b < s2.heap.objs.size->b ≠ HH.objs.size:=fun b hb=>by rw [hC]; exact Nat.ne_of_lt (Nat.lt_succ_of_lt hb)
 have old:∀ b o,s2.heap.get? b=some o->h₁.get? b=some o:=fun b o e=>hsb₁.extBut b o (below b (Heap.lt_size e)) (Heap.get?_push_of_some _ (hH2 ▸ Heap.get?_push_of_some _ e))
 have hacc:h₁.get? s2.heap.objs.size=some { cls:=.type "list",dict:=none,data:=.seq ([]:List Value).toArray }:=hsb₁.extBut _ _ hDC (Heap.get?_push_of_some _ (hH2 ▸ Heap.get?_push_size _ rfl))
 generalize hCe:HH.objs.size=C at hns₁ hDC hCle below ⊢
 generalize hDe:s2.heap.objs.size=D at hacc hDC ⊢
 clear hsb₁ hH2 hC hCe HH
 obtain ⟨hg,ht,he⟩:=hin C fp s2 H2 pins
 have Ic:Inv (compCx X scope (own ++ capN) C fp s2 H2 pins) [] (liftC own caps σ) H2 { s2 with heap:=h₁,toks:=s2.toks + ([]:List (Str × Value)).length }:=inv_comp S I2 f2 hfo (by rw [hDe]; rw [hDe] at hCle; exact hCle) old hns₁
 have cellsD:∀ x c,(closL X.env scope.names []).lookup x=some c->c ≠ D:=fun x c e z=>by
  obtain ⟨v,q⟩:=I2.cell x c (S.cl I2.ok e)
  exact absurd q.lt (by rw [z,hDe]; exact Nat.lt_irrefl _)
 have DnotFs:D ∉ frs X.stack:=fun z=>by
  rcases List.mem_cons.mp (I2.stkSub D z) with q | q
  ·exact absurd I2.lt (by rw [<-q,hDe]; exact Nat.lt_irrefl _)
  ·exact I2.nofs (by rw [hDe]; exact Nat.le_refl _) q
 have DnotPin:∀ p ∈ X.pn ++ pins,p.1 ≠ D:=fun p hp z=>absurd (Heap.lt_size (I2.pin p hp).1) (by rw [z,hDe]; exact Nat.lt_irrefl _)
 have pinD:∀ {σ':St} {H':Hp} {s':Shared} {us:List Value} {k:Nat},Inv (compCx X scope (own ++ capN) C fp s2 H2 pins) [] σ' H' s'->s'.heap.get? D=some { cls:=.type "list",data:=.seq us.toArray k }->H' D=none->
   Inv (compCx X scope (own ++ capN) C fp s2 H2 pins) [(D,{ cls:=.type "list",data:=.seq us.toArray k })] σ' H' s':=fun J e n=>J.pins_of fun p hp=>by
  obtain rfl:=List.mem_singleton.mp hp
  exact ⟨e,n,hDC,DnotFs,fun v z=>by cases z⟩
 have fpc:∀ {H':Hp} {o:Obj},(∀ b ∈ fp,H' b=none)->∀ b ∈ fp,FpOk (compCx X scope (own ++ capN) C fp s2 H2 pins) [(D,o)] H' b:=fun hn b hb=>by
  obtain ⟨f0,f1,f2',f3,f4,f5⟩:=f2 b hb
  refine ⟨hn b hb,Nat.ne_of_lt (Nat.lt_of_lt_of_le (hfo b hb) (by rw [hDe]; rw [hDe] at hCle; exact hCle)),fun z=>(List.mem_cons.mp (I2.stkSub b z)).elim f1 f2',.inl hb,fun x c e=>f4 x c (S.cl I2.ok e),fun p hp=>?_⟩
  rcases List.mem_append.mp hp with hp | hp
  ·exact f5 p hp
  ·obtain rfl:=List.mem_singleton.mp hp
   intro z
   have z':D=b:=z
   exact absurd (hfo b hb) (by rw [<-z',hDe]; exact Nat.lt_irrefl _)
 have loop:codeAny (model X.prog X.w) X.A (.compLoop (.ListComp elt [⟨tg,iter,ifs,0⟩] scope pos) 0 (.ref it) (.ref D) (compEnvC scope (closL X.env scope.names []) C X.env)) (RR (.ref D) C) { s2 with heap:=h₁,toks:=s2.toks + ([]:List (Str × Value)).length }:=by
  refine compLoop_any (fun n s'=>∃ i ys us k σ' H',Inv (compCx X scope (own ++ capN) C fp s2 H2 pins) [(D,{ cls:=.type "list",data:=.seq us.toArray k })] σ' H' s'/\tn i s'.heap/\(∀ b ∈ fp,H' b=none)/\Vals ys us/\W i n ys σ' H') ?_ m0
   ⟨0,[],[],0,_,H2,pinD Ic hacc (I2.hok.fresh (by rw [hDe]; exact Nat.le_refl _)),T.keep _ _ _ st2 fun b _ o e=>old b o e,fun b hb=>(f2 b hb).1,.nil,w0⟩
  rintro n s3 ⟨i,ys,us,k,σ3,H3,I3,st3,fr3,r3,w3⟩
  rcases turn i n ys σ3 H3 w3 with ⟨stop,hz,qn⟩ | ⟨go,step⟩
  ·refine thn (T.done (compCx X scope (own ++ capN) C fp s2 H2 pins) rfl rfl rfl hc i _ s3 σ3 H3 _ I3 (fpc fr3) st3 stop) fun r s4 ⟨hr,I4⟩=>?_
   subst hr
   obtain ⟨eD,nD,_⟩:=I4.pin (D,_) (List.mem_append_right _ (List.mem_singleton.mpr rfl))
   have nD':H3 D=none:=nD
   have I5:Inv X pins σ (upd H3 D (.lst ys)) s4:=by
    refine I2.call' (ch:=fp) I4.os ⟨I4.base.keep,I4.base.slot,fun b o e n hx=>?_,I4.base.there,fun b xs e=>?_,fun b o u e=>?_,fun b ps e=>?_⟩ (fun b u e=>?_) I4.bare fun b hb=>⟨(f2 b hb).2.2.2.1,(f2 b hb).2.1,(f2 b hb).2.2.2.2.1,(f2 b hb).2.2.2.2.2⟩
    ·rw [upd_ne (by intro z; exact absurd (Heap.lt_size e) (by rw [z,hDe]; exact Nat.lt_irrefl _))]
     exact I4.base.free b o e n hx
    ·have q:=I4.base.tups b xs e
     rw [upd_ne (ne_of_none q nD')]; exact q
    ·have q:=I4.base.frzs b o u e
     rw [upd_ne (ne_of_none q nD')]; exact q
    ·obtain ⟨more,q⟩:=I4.base.tbls b ps e
     exact ⟨more,by rw [upd_ne (ne_of_none q nD')]; exact q⟩
    ·by_cases hb:b=D
     ·subst hb
      rw [upd_same] at e; cases e
      exact ⟨hz,us,k,r3,eD⟩
     ·rw [upd_ne hb] at e
      exact (I4.hok b u e).stay (fun _ _ _ q=>q) (fun c q=>by rw [upd_ne (ne_of_none q nD')]; exact q) fun c xs q=>by rw [upd_ne (ne_of_none q nD')]; exact q
   obtain ⟨m,hm,_⟩:=I4.loc
   exact hRR D C s4 _ m I5 (I2.fpOk (by rw [hDe]; rw [hDe] at hCle; exact hCle) (by rw [upd_ne (Ne.symm hDC)]; exact I4.free)) hm (qn D nD')
  ·refine thn (T.item (compCx X scope (own ++ capN) C fp s2 H2 pins) rfl rfl rfl hc i _ s3 σ3 H3 _ I3 (fpc fr3) st3 go) fun r s4 ⟨u,hr,h4⟩=>?_
   subst hr
   refine thn h4 fun _ s5 ⟨x,H5,I5,r5,y5,st5,fr5⟩=>?_
   have I5':=I5.pinned (fpc fr5) (T.obj _ _ st5)
   refine thn (hg _ s5 σ3 H5 x u _ I5' r5 (step x H5 y5)) fun _ s6 ⟨σ6,H6,I6,q6⟩=>?_
   refine thn (ht _ s6 σ6 H6 _ I6 q6) fun ok s7 ⟨H7,I7,q7⟩=>?_
   have back:∀ {σ8:St} {H8:Hp} {s8:Shared},Inv (compCx X scope (own ++ capN) C fp s2 H2 pins) ([(D,{ cls:=.type "list",data:=.seq us.toArray k })] ++ pinsAt fp s5.heap) σ8 H8 s8->tn (i + 1) s8.heap/\(∀ b ∈ fp,H8 b=none):=fun {σ8 H8 s8} I8=>by
    refine ⟨T.keep _ _ _ st5 fun b hb o e=>(I8.pin (b,o) (List.mem_append_right _ (List.mem_append_right _ (mem_pinsAt hb e)))).1,fun b hb=>?_⟩
    obtain ⟨o,e,d⟩:=T.obj _ _ st5 b hb
    exact (I8.pin (b,o) (List.mem_append_right _ (List.mem_append_right _ (mem_pinsAt hb e)))).2.1
   cases ok with
   | false=>
    obtain ⟨m',hm,w7⟩:=q7
    obtain ⟨t7,n7⟩:=back I7
    exact ⟨m',hm,i + 1,ys,us,k,σ6,H7,I7.unpinned,t7,n7,r3,w7⟩
   | true=>
    refine thn (he _ s7 σ6 H7 _ I7 q7) fun u8 s8 ⟨y,H8,I8,r8,hz,m',hm,w8⟩=>?_
    obtain ⟨t8,n8⟩:=back I8
    have I9:=I8.unpinned
    obtain ⟨eD,nD,neD,nfD,_⟩:=I9.pin (D,_) (List.mem_append_right _ (List.mem_singleton.mpr rfl))
    have hl:=r3.length
    refine call_meets F.slot_list_append ⟨_,eD,rfl⟩ F.entry_list_append (F.args_list_append_2 _ _) (PySem.list_append D us.toArray k u8 (by rw [List.size_toArray]; omega)) ⟨eD,?_⟩
    have q:=PySem.IsL.update eD (fun a=>a.push u8)
    have e2:us.toArray.push u8=(us ++ [u8]).toArray:=by simp
    rw [e2] at q
    have keep:∀ b o,b ≠ D->s8.heap.get? b=some o->(s8.heap.update D (Obj.mapSeq fun a=>a.push u8)).get? b=some o:=fun b o hb e=>(Heap.get?_update_other s8.heap _ (Ne.symm hb)).trans e
    have I10:Inv (compCx X scope (own ++ capN) C fp s2 H2 pins) [] σ6 H8 { s8 with heap:=s8.heap.update D (Obj.mapSeq fun a=>a.push u8) }:=by
     refine (I9.pins_of (pins':=[]) fun p hp=>absurd hp (by simp)).turned (t':=s8.toks) (it:=D) keep nD neD (.inr (by rw [hDe]; exact Nat.le_refl _)) cellsD fun p hp=>?_
     exact DnotPin p (by simpa using hp)
    exact ⟨m',hm,i + 1,ys ++ [y],us ++ [u8],_,σ6,H8,pinD I10 q nD,T.keep _ _ _ t8 fun b hb o e=>keep b o (by intro z; exact absurd (hfo b hb) (by rw [z,hDe]; exact Nat.lt_irrefl _)) e,n8,r3.append (.cons r8 .nil),w8⟩
 exact codeAny_compStart_list loop (wpAny_noRaise (T.self _ 0 _ _ _ (T.keep _ _ _ st2 fun b _ o e=>old b o e) loop))
theorem pe_comp (S:CompScope X scope own capN caps) (hc:X.calm=true) (hi:PI X tg iter wi)
  (hin:∀ C fp s₂ H₂ pl,PG (compCx X scope (own ++ capN) C fp s₂ H₂ pl) tg g/\PTs (compCx X scope (own ++ capN) C fp s₂ H₂ pl) ifs tc/\PE (compCx X scope (own ++ capN) C fp s₂ H₂ pl) elt te)
  (hs:∀ x,foldedSetIterable iter X.env x=pure x:=by intro _; rfl):PE X (.ListComp elt [⟨tg,iter,ifs,0⟩] scope pos) (tComp own caps wi g tc te):=by
 intro pins s σ H Q I h
 rw [eval_ListComp]
 refine wpAny_comprehension_free (use:=none) rfl hs (closureFor_cells (S.cells I.ok)) S.kind S.loc ?_
 refine comp_core S hc hi hin I h fun D C s' H' m I' f hm q=>⟨m,hm,fun h' hs'=>?_⟩
 exact ⟨.ref D,H',I'.turned (t':=s'.toks) (it:=C) (fun b o hb e=>(hs'.2 b hb).trans e) f.1 f.2.1 f.2.2.2.1 f.2.2.2.2.1 f.2.2.2.2.2,rfl,q⟩
end
end L2
namespace L2
open PySem
section
variable {prog:Program} {w:World} {A:Around} {E:Value->Shared->Prop} {s:Shared}
end
section
variable {prog:Program} {w:World} {A:Around} {E:Value->Shared->Prop} {s:Shared}
end
section
variable {prog:Program} {w:World} {A:Around} {R:Result->Shared->Prop}
end
namespace F3
end F3
section
variable {prog:Program} {w:World} {A:Around} {E:Value->Shared->Prop} {s:Shared}
end
end L2
namespace L2
open PySem PySem.Spec PyProof.Rows
noncomputable def keyless:List PyData->Bool
 | []=>true
 | .tuple _ :: _=>true
 | _ :: ds=>!ds.isEmpty && keyless ds
noncomputable def RdT (H:Hp) (a:Addr) (xs:List V) (ds:List PyData):Prop:=H a=some (.tup xs)\/(∃ o,H a=some (.frz o (.tup xs)))/\keyless ds=true
theorem RdT.mono {H H':Hp} {a:Addr} {xs:List V} {ds:List PyData} (s:Same H H') (h:RdT H a xs ds):RdT H' a xs ds:=h.imp (fun e=>s _ _ e) fun ⟨⟨o,e⟩,k⟩=>⟨⟨o,s _ _ e⟩,k⟩
theorem RdT.rd {H:Hp} {a:Addr} {xs:List V} {ds:List PyData} (h:RdT H a xs ds):Rd H a (.tup xs):=h.imp id fun z=>z.1
mutual
inductive DV (H:Hp):V->PyData->Prop where
 | non:DV H .non .none
 | bl (b:Bool):DV H (.bl b) (.bool b)
 | int (i:Int):DV H (.int i) (.int i)
 | str (x:Str):DV H (.str x) (.str x)
 | lst {a:Addr} {xs:List V} {ds:List PyData}:H a=some (.lst xs)->DVs H xs ds->DV H (.ref a) (.list ds)
 | tup {a:Addr} {xs:List V} {ds:List PyData}:RdT H a xs ds->DVs H xs ds->DV H (.ref a) (.tuple ds)
inductive DVs (H:Hp):List V->List PyData->Prop where
 | nil:DVs H [] []
 | cons {x:V} {xs:List V} {d:PyData} {ds:List PyData}:DV H x d->DVs H xs ds->DVs H (x :: xs) (d :: ds)
end
section
variable {H H':Hp}
mutual
theorem DV.mono (s:Same H H'):∀ {v:V} {d:PyData},DV H v d->DV H' v d
 | _,_,.non=>.non
 | _,_,.bl b=>.bl b
 | _,_,.int i=>.int i
 | _,_,.str x=>.str x
 | _,_,.lst h r=>.lst (s _ _ h) (DVs.mono s r)
 | _,_,.tup h r=>.tup (h.mono s) (DVs.mono s r)
theorem DVs.mono (s:Same H H'):∀ {vs:List V} {ds:List PyData},DVs H vs ds->DVs H' vs ds
 | _,_,.nil=>.nil
 | _,_,.cons h r=>.cons (DV.mono s h) (DVs.mono s r)
end
theorem DVs.length:∀ {vs:List V} {ds:List PyData},DVs H vs ds->vs.length=ds.length
 | _,_,.nil=>rfl
 | _,_,.cons _ r=>congrArg (· + 1) r.length
theorem DVs.append:∀ {vs ws:List V} {ds es:List PyData},DVs H vs ds->DVs H ws es->DVs H (vs ++ ws) (ds ++ es)
 | _,_,_,_,.nil,s=>s
 | _,_,_,_,.cons h r,s=>.cons h (r.append s)
theorem DVs.get:∀ {vs:List V} {ds:List PyData} {i:Nat} {d:PyData},DVs H vs ds->ds[i]? = some d->∃ v,vs[i]? = some v/\DV H v d
 | _,_,_,_,.nil,e=>by simp at e
 | _,_,0,_,.cons h _,e=>by simp at e; subst e; exact ⟨_,rfl,h⟩
 | _,_,i + 1,d,.cons _ r,e=>by
  obtain ⟨v,h1,h2⟩:=r.get (i:=i) (d:=d) (by simpa using e)
  exact ⟨v,by simpa using h1,h2⟩
theorem same_upd {a:Addr} {o:HO} (h:H a=none):Same H (upd H a o):=fun b u e=>by rw [upd_ne (ne_of_none e h)]; exact e
theorem DV.tup_inv {v:V} {ds:List PyData} (h:DV H v (.tuple ds)):∃ a xs,v=.ref a/\Rd H a (.tup xs)/\DVs H xs ds:=by
 cases h with | tup h r=>exact ⟨_,_,rfl,h.rd,r⟩
theorem DV.tup_invK {v:V} {ds:List PyData} (h:DV H v (.tuple ds)) (hk:keyless ds=false):∃ a xs,v=.ref a/\H a=some (.tup xs)/\DVs H xs ds:=by
 cases h with | tup h r=>exact ⟨_,_,rfl,h.elim id (fun z=>by rw [hk] at z; cases z.2),r⟩
theorem DV.lst_inv {v:V} {ds:List PyData} (h:DV H v (.list ds)):∃ a xs,v=.ref a/\H a=some (.lst xs)/\DVs H xs ds:=by
 cases h with | lst h r=>exact ⟨_,_,rfl,h,r⟩
theorem DV.int_inv {v:V} {i:Int} (h:DV H v (.int i)):v=.int i:=by cases h; rfl
theorem DV.str_inv {v:V} {x:Str} (h:DV H v (.str x)):v=.str x:=by cases h; rfl
theorem DV.bl_inv {v:V} {b:Bool} (h:DV H v (.bool b)):v=.bl b:=by cases h; rfl
theorem DV.non_inv {v:V} (h:DV H v .none):v=.non:=by cases h; rfl
end
section
variable {X:Cx} {pins:List (Addr × Obj)} {σ:St} {H:Hp} {s:Shared}
mutual
theorem Inv.reads (I:Inv X pins σ H s):∀ {v:V} {d:PyData} {u:Value},DV H v d->RelV v u->∃ as,Reads s.heap u d as
 | _,_,_,.non,r=>by cases r; exact ⟨_,.none⟩
 | _,_,_,.bl b,r=>by cases r; exact ⟨_,.bool b⟩
 | _,_,_,.int i,r=>by obtain ⟨t,rfl⟩:=r; exact ⟨_,.int i t⟩
 | _,_,_,.str x,r=>by obtain ⟨t,rfl⟩:=r; exact ⟨_,.str x t⟩
 | _,_,_,.lst h q,r=>by
  cases r
  obtain ⟨_,its,n,rv,e⟩:=I.hok _ _ h
  obtain ⟨as,z⟩:=I.readsAll q rv
  exact ⟨_,reads_list_at e rfl rfl (by simpa using z)⟩
 | _,_,_,.tup h q,r=>by
  cases r
  obtain ⟨_,its,rv,o,e,c,n,d⟩:=h.rd.ok I.hok
  obtain ⟨as,z⟩:=I.readsAll q rv
  exact ⟨_,reads_tuple_at e c d (by simpa using z)⟩
theorem Inv.readsAll (I:Inv X pins σ H s):∀ {vs:List V} {ds:List PyData} {us:List Value},DVs H vs ds->Vals vs us->∃ as,ReadsAll s.heap us ds as
 | _,_,_,.nil,.nil=>⟨_,.nil⟩
 | _,_,_,.cons h q,.cons r rr=>by
  obtain ⟨as,z⟩:=I.reads h r
  obtain ⟨bs,z'⟩:=I.readsAll q rr
  exact ⟨_,.cons z z'⟩
end
end
section
variable {X:Cx}
noncomputable def rEqD (neg:Bool):R2:=fun x y H Q=>∃ d e,DV H x d/\DV H y e/\SeqAt.shaped d=true/\SeqAt.shaped e=true/\Q (.bl (PyData.eqv d e != neg)) H
theorem op_eqD (hu:X.A.units + 64 < cLine):OpR X (compareOp .Eq) (rEqD false):=by
 intro pins s σ H x y v u Q I rx ry h
 obtain ⟨d,e,h1,h2,h3,h4,q⟩:=h
 obtain ⟨as,z1⟩:=I.reads h1 rx
 obtain ⟨bs,z2⟩:=I.reads h2 ry
 exact eq_dataH z1 z2 h3 h4 hu ⟨_,H,I,by show Value.bool (PyData.eqv d e)=Value.bool (PyData.eqv d e != false); rw [Bool.bne_false],q⟩
theorem op_neD (hu:X.A.units + 64 < cLine):OpR X (compareOp .NotEq) (rEqD true):=by
 intro pins s σ H x y v u Q I rx ry h
 obtain ⟨d,e,h1,h2,h3,h4,q⟩:=h
 obtain ⟨as,z1⟩:=I.reads h1 rx
 obtain ⟨bs,z2⟩:=I.reads h2 ry
 exact ne_dataH z1 z2 h3 h4 hu ⟨_,H,I,by show Value.bool (!PyData.eqv d e)=Value.bool (PyData.eqv d e != true); rw [Bool.bne_true],q⟩
@[simp] noncomputable def tyOfD:PyData->String
 | .none=>"NoneType"
 | .bool _=>"bool"
 | .int _=>"int"
 | .str _=>"str"
 | .list _=>"list"
 | .tuple _=>"tuple"
 | .dict _=>"dict"
noncomputable def rIsI:List V->Hp->VK->Prop:=fun xs H Q=>∃ x d n b,xs=[x,.ty n]/\DV H x d/\(∀ K:PySem.W.Frag,PySem.W.kitOne K (.type (tyOfD d)) (.type n)=some b)/\Q (.bl b) H
theorem call_isinst:CallR X (.builtin "isinstance") rIsI:=by
 intro pins s σ H xs us Q I r h
 obtain ⟨x,d,n,b,rfl,hd,e,q⟩:=h
 obtain ⟨u,w,rfl,r1,r2⟩:=vals2 r
 cases r2
 have fin:∀ tk,EP X pins σ Q (.bool b) { s with toks:=tk }:=fun tk=>⟨.bl b,H,I.tok tk,rfl,q⟩
 cases hd with
 | non=>exact isinst_ok I r1 .non (e _) fin
 | bl c=>exact isinst_ok I r1 (.bl c) (e _) fin
 | int i=>exact isinst_ok I r1 (.int i) (e _) fin
 | str z=>exact isinst_ok I r1 (.str z) (e _) fin
 | lst h r=>exact isinst_ok I r1 (.lst h) (e _) fin
 | @tup a xs ds h r=>
  cases (show u=Value.ref a from r1)
  obtain ⟨_,_,_,p⟩:=h.rd.ok I.hok
  obtain ⟨o,h1,h2,_⟩:=p
  exact PySem.W.kia_one PySem.W.kitx_tuple I.kIn ⟨o,h1,h2⟩ (e _) (fun z=>nomatch z) fin
end
section
variable {X:Cx} {pins:List (Addr × Obj)} {σ:St} {H:Hp} {s:Shared} {h':Heap}
end
section
variable {X:Cx} {elts:List Expr} {kk:Nat} {tpos:Pos}
end
end L2
namespace L2.L3
open PySem PySem.Spec PyProof.Rows
noncomputable def hide (O:List Addr) (H:Hp):Hp:=fun b=>if b ∈ O then none else H b
section
variable {O O':List Addr} {H H' H1 H2:Hp}
theorem hide_of {b:Addr} {o:HO} (h:H b=some o) (n:b ∉ O):hide O H b=some o:=by unfold hide; rw [if_neg n]; exact h
theorem of_hide {b:Addr} {o:HO} (h:hide O H b=some o):H b=some o/\b ∉ O:=by
 unfold hide at h
 by_cases e:b ∈ O
 ·rw [if_pos e] at h; cases h
 ·rw [if_neg e] at h; exact ⟨h,e⟩
theorem of_hideR {a:Addr} {u:HO} (h:Rd (hide O H) a u):Rd H a u/\a ∉ O:=by
 rcases h with h | ⟨o,h⟩
 ·obtain ⟨e,n⟩:=of_hide h; exact ⟨.inl e,n⟩
 ·obtain ⟨e,n⟩:=of_hide h; exact ⟨.inr ⟨o,e⟩,n⟩
theorem hide_le:Same (hide O H) H:=fun b o h=>(of_hide h).1
structure Stp (O:List Addr) (H:Hp) (O':List Addr) (H':Hp):Prop where
 keep:∀ b o,b ∉ O->H b=some o->H' b=some o
 new:∀ a ∈ O',a ∈ O\/H a=none
theorem Stp.refl:Stp O H O H:=⟨fun _ _ _ h=>h,fun _ h=>.inl h⟩
theorem Stp.trans {O1 O2 O3:List Addr} {H3:Hp} (a:Stp O1 H1 O2 H2) (b:Stp O2 H2 O3 H3):Stp O1 H1 O3 H3:=by
 have nw:∀ c o,c ∉ O1->H1 c=some o->c ∉ O2:=fun c o hc e z=>(a.new c z).elim hc fun n=>by rw [n] at e; cases e
 refine ⟨fun c o hc e=>b.keep c o (nw c o hc e) (a.keep c o hc e),fun c h=>?_⟩
 by_cases hc:c ∈ O1
 ·exact .inl hc
 ·refine .inr ?_
  cases e:H1 c with
  | none=>rfl
  | some o=>
   rcases b.new c h with z | z
   ·exact absurd z (nw c o hc e)
   ·rw [a.keep c o hc e] at z; cases z
theorem Stp.same (s:Same H H'):Stp O H O H':=⟨fun b o _ e=>s b o e,fun _ h=>.inl h⟩
theorem Stp.hid (s:Stp O H O' H'):Same (hide O H) (hide O' H'):=fun b o e=>by
 obtain ⟨e1,n⟩:=of_hide e
 refine hide_of (s.keep b o n e1) fun z=>?_
 rcases s.new b z with q | q
 ·exact n q
 ·rw [q] at e1; cases e1
theorem hide_same (s:Same H H'):Same (hide O H) (hide O H'):=(Stp.same s).hid
theorem hide_more (s:∀ a ∈ O',a ∈ O):Same (hide O H) (hide O' H):=fun b o e=>by
 obtain ⟨e1,n⟩:=of_hide e
 exact hide_of e1 fun z=>n (s b z)
end
inductive Fl where
 | d (x:PyData) | l (ds:List PyData) | m (tk:Bool) (kvs:List (PyData × PyData))
inductive Bx where
 | l (ds:List PyData) | m (tk:Bool) (kvs:List (PyData × PyData)) | o (C:Addr) (fs:List (Str × Fl)) | sd (fs:List (Str × Fl)) | ll (xs:List (List PyData))
inductive Cell where
 | dat (d:PyData)
 | own (io:Bool) (b:Bx)
 | scr (ns:List Int)
 | exc (c:Str)
 | vw (b:Bx)
noncomputable abbrev DEnv:=List (Option Cell)
structure Fx where
 H₀:Hp
 A₀:List Addr
 O₀:List Addr
 I₀:Nat->Addr
noncomputable def Scr (K:PySem.W.Frag) (H:Hp) (a:Addr) (ns:List Int):Prop:=ns.length<=63/\((∃ o,H a=some (.frz o (.lst (ns.map V.int))))\/
 ∃ (o:Obj) (its:Array Value) (n:Nat),K.lookup a=some o/\o.cls=.type "list"/\o.dict=none/\o.data=.seq its n/\its.size<=sizeLine/\Vals (ns.map V.int) its.toList)
theorem Scr.sq {K:PySem.W.Frag} {H:Hp} {a:Addr} {ns:List Int} (h:Scr K H a ns):SqL K H a (ns.map V.int):=h.2.elim (fun ⟨o,e⟩=>.inl (.inr ⟨o,e⟩)) .inr
theorem Scr.mono {K:PySem.W.Frag} {H H':Hp} {a:Addr} {ns:List Int} (h:Scr K H a ns) (k:∀ o u,H a=some (.frz o u)->H' a=some (.frz o u)):Scr K H' a ns:=⟨h.1,h.2.imp (fun ⟨o,e⟩=>⟨o,k _ _ e⟩) id⟩
noncomputable def ExcObj (K:PySem.W.Frag) (a:Addr) (c:Str) (h:Heap):Prop:=∃ C o,PySem.W.nsIn K mainGlobals c=some (some (.ref C))/\h.get? a=some o/\o.cls=.ref C
noncomputable def keyD:Key->PyData
 | .inl i=>.int i
 | .inr x=>.str x
noncomputable def tupD (ks:List Key):PyData:=.tuple (ks.map keyD)
noncomputable def DicAt (G H:Hp) (a:Addr):Bool->List (PyData × PyData)->Prop
 | false,kvs=>∃ ks:List (Key × V),H a=some (.dK ks)/\Paired (fun (p:Key × V) (q:PyData × PyData)=>keyD p.1=q.1/\DV G p.2 q.2) ks kvs
 | true,kvs=>∃ ks:List (List Key × V),H a=some (.dT ks)/\Paired (fun (p:List Key × V) (q:PyData × PyData)=>tupD p.1=q.1/\DV G p.2 q.2) ks kvs
noncomputable def FlAt (G H:Hp) (v:V):Fl->List Addr->Prop
 | .d x,fp=>fp=[]/\DV G v x
 | .l ds,fp=>∃ a xs,v=.ref a/\fp=[a]/\H a=some (.lst xs)/\DVs G xs ds
 | .m tk kvs,fp=>∃ a,v=.ref a/\fp=[a]/\DicAt G H a tk kvs
inductive FlsAt (G H:Hp):List (Str × V)->List (Str × Fl)->List (List Addr)->Prop where
 | nil:FlsAt G H [] [] []
 | cons {n:Str} {v:V} {f:Fl} {fp:List Addr} {gs:List (Str × V)} {fs:List (Str × Fl)} {fps:List (List Addr)}:FlAt G H v f fp->FlsAt G H gs fs fps->FlsAt G H ((n,v) :: gs) ((n,f) :: fs) (fp :: fps)
noncomputable def LlAt (G H:Hp) (b:Addr) (ds:List PyData):Prop:=∃ vs,H b=some (.lst vs)/\DVs G vs ds
noncomputable def BoxAt (G H:Hp) (a:Addr):Bx->List Addr->Prop
 | .l ds,fp=>fp=[a]/\∃ xs,H a=some (.lst xs)/\DVs G xs ds
 | .m tk kvs,fp=>fp=[a]/\DicAt G H a tk kvs
 | .o C fs,fp=>∃ dx gs fps,fp=a :: dx :: fps.flatten/\H a=some (.ins C dx gs)/\H dx=some (.own a)/\FlsAt G H gs fs fps
 | .sd fs,fp=>∃ gs fps,fp=a :: fps.flatten/\H a=some (.dK (gs.map fun p=>(Sum.inr p.1,p.2)))/\FlsAt G H gs fs fps
 | .ll xs,fp=>∃ bs:List Addr,fp=a :: bs/\H a=some (.lst (bs.map V.ref))/\Paired (LlAt G H) bs xs
noncomputable def Mv:HO->Prop
 | .lst _=>True
 | .dK _=>True
 | .dT _=>True
 | .ins _ _ _=>True
 | .own _=>True
 | _=>False
noncomputable def CellAt (K:PySem.W.Frag) (H:Hp) (O:List Addr) (v:V):Cell->List Addr->Prop
 | .dat d,_=>DV (hide O H) v d
 | .own _ b,fp=>∃ a,v=.ref a/\BoxAt (hide O H) H a b fp
 | .scr ns,_=>∃ a,v=.ref a/\Scr K H a ns
 | .exc c,_=>∃ a φ,v=.ref a/\hide O H a=some (.ext φ)/\∀ h,φ h->ExcObj K a c h
 | .vw b,_=>∃ a fp,v=.ref a/\BoxAt (hide O H) (hide O H) a b fp
section
variable {G G' H H':Hp} {a:Addr} {v:V} {fp:List Addr}
theorem DicAt.keep {tk:Bool} {kvs:List (PyData × PyData)} (h:DicAt G H a tk kvs) (k:H' a=H a) (g:Same G G'):DicAt G' H' a tk kvs:=by
 cases tk with
 | false=>obtain ⟨ks,e,p⟩:=h; exact ⟨ks,k.trans e,Paired.mapP p fun _ _ z=>⟨z.1,DV.mono g z.2⟩⟩
 | true=>obtain ⟨ks,e,p⟩:=h; exact ⟨ks,k.trans e,Paired.mapP p fun _ _ z=>⟨z.1,DV.mono g z.2⟩⟩
theorem DicAt.live {tk:Bool} {kvs:List (PyData × PyData)} (h:DicAt G H a tk kvs):∃ o,H a=some o/\Mv o:=by
 cases tk with
 | false=>obtain ⟨ks,e,p⟩:=h; exact ⟨_,e,trivial⟩
 | true=>obtain ⟨ks,e,p⟩:=h; exact ⟨_,e,trivial⟩
theorem FlAt.keep {f:Fl} (h:FlAt G H v f fp) (k:∀ c ∈ fp,H' c=H c) (g:Same G G'):FlAt G' H' v f fp:=by
 cases f with
 | d x=>exact ⟨h.1,DV.mono g h.2⟩
 | l ds=>obtain ⟨a,xs,e1,e2,e3,e4⟩:=h; exact ⟨a,xs,e1,e2,(k a (by simp [e2])).trans e3,DVs.mono g e4⟩
 | m tk kvs=>obtain ⟨a,e1,e2,e3⟩:=h; exact ⟨a,e1,e2,e3.keep (k a (by simp [e2])) g⟩
theorem FlAt.live {f:Fl} (h:FlAt G H v f fp):∀ c ∈ fp,∃ o,H c=some o/\Mv o:=by
 cases f with
 | d x=>obtain ⟨rfl,_⟩:=h; intro c hc; cases hc
 | l ds=>obtain ⟨a,xs,e1,rfl,e3,e4⟩:=h; intro c hc; obtain rfl:=List.mem_singleton.mp hc; exact ⟨_,e3,trivial⟩
 | m tk kvs=>obtain ⟨a,e1,rfl,e3⟩:=h; intro c hc; obtain rfl:=List.mem_singleton.mp hc; exact e3.live
theorem FlsAt.keep {gs:List (Str × V)} {fs:List (Str × Fl)} {fps:List (List Addr)} (h:FlsAt G H gs fs fps) (k:∀ c ∈ fps.flatten,H' c=H c) (g:Same G G'):FlsAt G' H' gs fs fps:=by
 induction h with
 | nil=>exact .nil
 | cons a b ih=>exact .cons (a.keep (fun c hc=>k c (by simp [hc])) g) (ih fun c hc=>k c (by rw [List.flatten_cons]; exact List.mem_append_right _ hc))
theorem FlsAt.live {gs:List (Str × V)} {fs:List (Str × Fl)} {fps:List (List Addr)} (h:FlsAt G H gs fs fps):∀ c ∈ fps.flatten,∃ o,H c=some o/\Mv o:=by
 induction h with
 | nil=>intro c hc; cases hc
 | cons a b ih=>
  intro c hc
  rw [List.flatten_cons] at hc
  rcases List.mem_append.mp hc with hc | hc
  ·exact a.live c hc
  ·exact ih c hc
theorem Lls.keep {bs:List Addr} {xs:List (List PyData)} (h:Paired (LlAt G H) bs xs) (k:∀ c ∈ bs,H' c=H c) (g:Same G G'):Paired (LlAt G' H') bs xs:=by
 induction h with
 | nil=>exact .nil
 | cons a b ih=>obtain ⟨vs,e,d⟩:=a; exact .cons ⟨vs,(k _ List.mem_cons_self).trans e,DVs.mono g d⟩ (ih fun c hc=>k c (List.mem_cons_of_mem _ hc))
theorem Lls.live {bs:List Addr} {xs:List (List PyData)} (h:Paired (LlAt G H) bs xs):∀ c ∈ bs,∃ o,H c=some o/\Mv o:=by
 induction h with
 | nil=>intro c hc; cases hc
 | cons a b ih=>
  intro c hc
  obtain ⟨vs,e,d⟩:=a
  rcases List.mem_cons.mp hc with rfl | hc
  ·exact ⟨_,e,trivial⟩
  ·exact ih c hc
theorem BoxAt.keep {b:Bx} (h:BoxAt G H a b fp) (k:∀ c ∈ fp,H' c=H c) (g:Same G G'):BoxAt G' H' a b fp:=by
 cases b with
 | l ds=>obtain ⟨rfl,xs,e,d⟩:=h; exact ⟨rfl,xs,(k a (by simp)).trans e,DVs.mono g d⟩
 | m tk kvs=>obtain ⟨rfl,d⟩:=h; exact ⟨rfl,d.keep (k a (by simp)) g⟩
 | o C fs=>obtain ⟨dx,gs,fps,rfl,e1,e2,f⟩:=h; exact ⟨dx,gs,fps,rfl,(k a (by simp)).trans e1,(k dx (by simp)).trans e2,f.keep (fun c hc=>k c (by simp [hc])) g⟩
 | sd fs=>obtain ⟨gs,fps,rfl,e1,f⟩:=h; exact ⟨gs,fps,rfl,(k a (by simp)).trans e1,f.keep (fun c hc=>k c (by simp [hc])) g⟩
 | ll xs=>obtain ⟨bs,rfl,e1,f⟩:=h; exact ⟨bs,rfl,(k a (by simp)).trans e1,Lls.keep f (fun c hc=>k c (by simp [hc])) g⟩
theorem BoxAt.live {b:Bx} (h:BoxAt G H a b fp):∀ c ∈ fp,∃ o,H c=some o/\Mv o:=by
 cases b with
 | l ds=>obtain ⟨rfl,xs,e,d⟩:=h; intro c hc; obtain rfl:=List.mem_singleton.mp hc; exact ⟨_,e,trivial⟩
 | m tk kvs=>obtain ⟨rfl,d⟩:=h; intro c hc; obtain rfl:=List.mem_singleton.mp hc; exact d.live
 | o C fs=>
  obtain ⟨dx,gs,fps,rfl,e1,e2,f⟩:=h
  intro c hc
  rcases List.mem_cons.mp hc with rfl | hc
  ·exact ⟨_,e1,trivial⟩
  ·rcases List.mem_cons.mp hc with rfl | hc
   ·exact ⟨_,e2,trivial⟩
   ·exact f.live c hc
 | sd fs=>
  obtain ⟨gs,fps,rfl,e1,f⟩:=h
  intro c hc
  rcases List.mem_cons.mp hc with rfl | hc
  ·exact ⟨_,e1,trivial⟩
  ·exact f.live c hc
 | ll xs=>
  obtain ⟨bs,rfl,e1,f⟩:=h
  intro c hc
  rcases List.mem_cons.mp hc with rfl | hc
  ·exact ⟨_,e1,trivial⟩
  ·exact Lls.live f c hc
end
theorem CellAt.keep {K:PySem.W.Frag} {H H':Hp} {O O':List Addr} {v:V} {c:Cell} {fp:List Addr} (h:CellAt K H O v c fp) (s:Stp O H O' H') (k:∀ b ∈ fp,H' b=H b) (z:∀ b o u,H b=some (.frz o u)->H' b=some (.frz o u)):CellAt K H' O' v c fp:=by
 cases c with
 | dat d=>exact DV.mono s.hid h
 | own io b=>obtain ⟨a,e,q⟩:=h; exact ⟨a,e,q.keep k s.hid⟩
 | scr ns=>obtain ⟨a,e1,q⟩:=h; exact ⟨a,e1,q.mono fun o u w=>z _ _ _ w⟩
 | exc c=>obtain ⟨a,φ,e1,e2,q⟩:=h; exact ⟨a,φ,e1,s.hid _ _ e2,q⟩
 | vw b=>obtain ⟨a,fp',e1,q⟩:=h; exact ⟨a,fp',e1,q.keep (fun c hc=>by obtain ⟨o,e2,_⟩:=q.live c hc; rw [e2]; exact s.hid _ _ e2) s.hid⟩
structure DStW (K:PySem.W.Frag) (F:Fx) (H:Hp) (σ:St) (ρ:DEnv) (W:List (List Addr)):Prop where
 at_:∀ (i:Nat) (c:Cell),ρ[i]? = some (some c)->∃ v fp,σ[i]? = some (some v)/\W[i]? = some fp/\CellAt K H (W.flatten ++ F.O₀) v c fp
 nd:(W.flatten ++ F.O₀).Nodup
 kept:∀ b o,b ∉ F.A₀->F.H₀ b=some o->H b=some o
 new:∀ a ∈ W.flatten,a ∈ F.A₀\/F.H₀ a=none
 live:∀ a ∈ W.flatten ++ F.O₀,∃ o,H a=some o/\Mv o
 len:ρ.length=σ.length
 lw:W.length=ρ.length
 io:∀ (i:Nat) (b:Bx),ρ[i]? = some (some (.own true b))->σ[i]? = some (some (.ref (F.I₀ i)))
noncomputable def DSt (K:PySem.W.Frag) (F:Fx) (H:Hp) (σ:St) (ρ:DEnv) (O:List Addr):Prop:=∃ W,DStW K F H σ ρ W/\O=W.flatten ++ F.O₀
theorem get_set {α:Type} {l:List α} {i j:Nat} {x y:α} (e:(l.set i x)[j]? = some y):(j=i/\y=x/\i < l.length)\/(j ≠ i/\l[j]? = some y):=by
 by_cases hj:j=i
 ·subst hj
  have hlt:j < l.length:=by
   have:=(List.getElem?_eq_some_iff.mp e).1
   rwa [List.length_set] at this
  rw [List.getElem?_set_self hlt] at e
  exact .inl ⟨rfl,(Option.some.inj e).symm,hlt⟩
 ·rw [List.getElem?_set_ne (Ne.symm hj)] at e
  exact .inr ⟨hj,e⟩
theorem mem_flat_set {α:Type} {W:List (List α)} {i:Nat} {fp:List α} {a:α} (h:a ∈ (W.set i fp).flatten):a ∈ fp\/∃ j l,j ≠ i/\W[j]? = some l/\a ∈ l:=by
 obtain ⟨l,hl,ha⟩:=List.mem_flatten.mp h
 obtain ⟨j,hj⟩:=List.getElem?_of_mem hl
 rcases get_set hj with ⟨_,rfl,_⟩ | ⟨hj',e⟩
 ·exact .inl ha
 ·exact .inr ⟨j,l,hj',e,ha⟩
theorem mem_flat_of {α:Type} {W:List (List α)} {j:Nat} {l:List α} {a:α} (h:W[j]? = some l) (ha:a ∈ l):a ∈ W.flatten:=List.mem_flatten.mpr ⟨l,List.mem_of_getElem? h,ha⟩
theorem flat_set_mem {α:Type} {W:List (List α)} {i j:Nat} {fp l:List α} {a:α} (hj:j ≠ i) (h:W[j]? = some l) (ha:a ∈ l):a ∈ (W.set i fp).flatten:=mem_flat_of (j:=j) (by rw [List.getElem?_set_ne (Ne.symm hj)]; exact h) ha
theorem flat_set_self {α:Type} {W:List (List α)} {i:Nat} {fp:List α} {a:α} (hi:i < W.length) (ha:a ∈ fp):a ∈ (W.set i fp).flatten:=mem_flat_of (j:=i) (List.getElem?_set_self hi) ha
theorem flat_disj {α:Type}:∀ {W:List (List α)} {i j:Nat} {l m:List α} {a:α},W.flatten.Nodup->W[i]? = some l->W[j]? = some m->i ≠ j->a ∈ l->a ∉ m
 | [],_,_,_,_,_,_,h,_,_,_=>by simp at h
 | w :: W,0,0,_,_,_,_,_,_,hn,_=>absurd rfl hn
 | w :: W,0,j + 1,l,m,a,nd,h1,h2,_,ha=>fun hm=>by
  have e:w=l:=by simpa using h1
  subst e
  rw [List.flatten_cons] at nd
  exact (List.nodup_append.mp nd).2.2 a ha a (mem_flat_of (j:=j) (by simpa using h2) hm) rfl
 | w :: W,i + 1,0,l,m,a,nd,h1,h2,_,ha=>fun hm=>by
  have e:w=m:=by simpa using h2
  subst e
  rw [List.flatten_cons] at nd
  exact (List.nodup_append.mp nd).2.2 a hm a (mem_flat_of (j:=i) (by simpa using h1) ha) rfl
 | w :: W,i + 1,j + 1,l,m,a,nd,h1,h2,hn,ha=>flat_disj (W:=W) (i:=i) (j:=j) (by rw [List.flatten_cons] at nd; exact (List.nodup_append.mp nd).2.1) (by simpa using h1) (by simpa using h2) (by omega) ha
theorem nodup_set {α:Type} [DecidableEq α]:∀ {W:List (List α)} {i:Nat} {fp O:List α},(W.flatten ++ O).Nodup->fp.Nodup->(∀ a ∈ fp,(∀ j l,j ≠ i->W[j]? = some l->a ∉ l)/\a ∉ O)->((W.set i fp).flatten ++ O).Nodup
 | [],i,fp,O,h,_,_=>by simpa using h
 | w :: W,0,fp,O,h,hf,hd=>by
  rw [List.set_cons_zero,List.flatten_cons,List.append_assoc]
  rw [List.flatten_cons,List.append_assoc] at h
  refine List.nodup_append.mpr ⟨hf,(List.nodup_append.mp h).2.1,fun a ha b hb e=>?_⟩
  subst e
  rcases List.mem_append.mp hb with hb | hb
  ·obtain ⟨l,hl,hal⟩:=List.mem_flatten.mp hb
   obtain ⟨j,hj⟩:=List.getElem?_of_mem hl
   exact (hd a ha).1 (j + 1) l (by omega) (by simpa using hj) hal
  ·exact (hd a ha).2 hb
 | w :: W,i + 1,fp,O,h,hf,hd=>by
  rw [List.set_cons_succ,List.flatten_cons,List.append_assoc]
  rw [List.flatten_cons,List.append_assoc] at h
  obtain ⟨h1,h2,h3⟩:=List.nodup_append.mp h
  have ih:=nodup_set (W:=W) (i:=i) (fp:=fp) (O:=O) h2 hf fun a ha=>⟨fun j l hj e=>(hd a ha).1 (j + 1) l (by omega) (by simpa using e),(hd a ha).2⟩
  refine List.nodup_append.mpr ⟨h1,ih,fun a ha b hb e=>?_⟩
  subst e
  rcases List.mem_append.mp hb with hb | hb
  ·rcases mem_flat_set hb with hb | ⟨j,l,hj,e,hl⟩
   ·exact (hd a hb).1 0 w (by omega) (by simp) ha
   ·exact h3 a ha a (List.mem_append_left _ (mem_flat_of e hl)) rfl
  ·exact h3 a ha a (List.mem_append_right _ hb) rfl
section
variable {K:PySem.W.Frag} {F:Fx} {H H':Hp} {σ:St} {ρ:DEnv} {O O':List Addr} {W:List (List Addr)}
theorem DStW.nofrz (st:DStW K F H σ ρ W) {b:Addr} (h:b ∈ W.flatten ++ F.O₀) {o:Obj} {u:HO}:H b ≠ some (.frz o u):=fun z=>by
 obtain ⟨o',e,m⟩:=st.live b h
 rw [z] at e; cases e; exact m
theorem DStW.put (st:DStW K F H σ ρ W) {i:Nat} {v:V} {c:Cell} {fp:List Addr} (hi:i < ρ.length)
  (keep:∀ j l b,j ≠ i->W[j]? = some l->b ∈ l->H' b=H b) (keepO:∀ b ∈ F.O₀,H' b=H b) (frz:∀ b o,b ∉ W.flatten ++ F.O₀->H b=some o->H' b=some o)
  (nd:fp.Nodup) (ap:∀ a ∈ fp,(∀ j l,j ≠ i->W[j]? = some l->a ∉ l)/\a ∉ F.O₀) (new:∀ a ∈ fp,a ∈ W.flatten\/H a=none) (liv:∀ a ∈ fp,∃ o,H' a=some o/\Mv o)
  (hc:Stp (W.flatten ++ F.O₀) H ((W.set i fp).flatten ++ F.O₀) H'->CellAt K H' ((W.set i fp).flatten ++ F.O₀) v c fp) (hio:∀ b,c=.own true b->v=.ref (F.I₀ i)) :
  DStW K F H' (σ.set i (some v)) (ρ.set i (some c)) (W.set i fp)/\Stp (W.flatten ++ F.O₀) H ((W.set i fp).flatten ++ F.O₀) H':=by
 have stp:Stp (W.flatten ++ F.O₀) H ((W.set i fp).flatten ++ F.O₀) H':=⟨frz,fun a h=>by
  rcases List.mem_append.mp h with h | h
  ·rcases mem_flat_set h with h | ⟨j,l,_,e,hl⟩
   ·exact (new a h).imp (List.mem_append_left _) id
   ·exact .inl (List.mem_append_left _ (mem_flat_of e hl))
  ·exact .inl (List.mem_append_right _ h)⟩
 have zf:∀ b o u,H b=some (.frz o u)->H' b=some (.frz o u):=fun b o u e=>frz b _ (fun z=>st.nofrz z e) e
 have hiW:i < W.length:=by rw [st.lw]; exact hi
 refine ⟨⟨fun j d e=>?_,nodup_set st.nd nd ap,fun b o hA e=>?_,fun a h=>?_,fun a h=>?_,by rw [List.length_set,List.length_set,st.len],by rw [List.length_set,List.length_set,st.lw],fun j b e=>?_⟩,stp⟩
 ·rcases get_set e with ⟨rfl,e1,_⟩ | ⟨hj,e1⟩
  ·cases e1
   exact ⟨v,fp,List.getElem?_set_self (by rw [<-st.len]; exact hi),List.getElem?_set_self hiW,hc stp⟩
  ·obtain ⟨w,l,h1,h2,h3⟩:=st.at_ j d e1
   exact ⟨w,l,by rw [List.getElem?_set_ne (Ne.symm hj)]; exact h1,by rw [List.getElem?_set_ne (Ne.symm hj)]; exact h2,h3.keep stp (fun b hb=>keep j l b hj h2 hb) zf⟩
 ·have e1:=st.kept b o hA e
  by_cases hO:b ∈ F.O₀
  ·rw [keepO b hO]; exact e1
  ·refine frz b o (fun z=>?_) e1
   rcases List.mem_append.mp z with z | z
   ·rcases st.new b z with q | q
    ·exact hA q
    ·rw [q] at e; cases e
   ·exact hO z
 ·rcases mem_flat_set h with h | ⟨j,l,_,e,hl⟩
  ·rcases new a h with q | q
   ·exact st.new a q
   ·by_cases hA:a ∈ F.A₀
    ·exact .inl hA
    ·refine .inr ?_
     cases e:F.H₀ a with
     | none=>rfl
     | some o=>rw [st.kept a o hA e] at q; cases q
  ·exact st.new a (mem_flat_of e hl)
 ·rcases List.mem_append.mp h with h | h
  ·rcases mem_flat_set h with h | ⟨j,l,hj,e,hl⟩
   ·exact liv a h
   ·obtain ⟨o,h1,h2⟩:=st.live a (List.mem_append_left _ (mem_flat_of e hl))
    exact ⟨o,by rw [keep j l a hj e hl]; exact h1,h2⟩
  ·obtain ⟨o,h1,h2⟩:=st.live a (List.mem_append_right _ h)
   exact ⟨o,by rw [keepO a h]; exact h1,h2⟩
 ·rcases get_set e with ⟨rfl,e1,_⟩ | ⟨hj,e1⟩
  ·rw [List.getElem?_set_self (by rw [<-st.len]; exact hi),hio b (Option.some.inj e1).symm]
  ·rw [List.getElem?_set_ne (Ne.symm hj)]; exact st.io j b e1
theorem DStW.grow (st:DStW K F H σ ρ W) (s:Same H H'):DStW K F H' σ ρ W where
 at_:=fun i c e=>let ⟨v,fp,h1,h2,h3⟩:=st.at_ i c e; ⟨v,fp,h1,h2,h3.keep (.same s) (fun b hb=>by
  obtain ⟨o,e1,_⟩:=st.live b (List.mem_append_left _ (mem_flat_of h2 hb))
  rw [e1]; exact s _ _ e1) fun b o u e=>s _ _ e⟩
 nd:=st.nd
 kept:=fun b o n e=>s b o (st.kept b o n e)
 new:=st.new
 live:=fun a h=>let ⟨o,e,m⟩:=st.live a h; ⟨o,s _ _ e,m⟩
 len:=st.len
 lw:=st.lw
 io:=st.io
theorem DSt.grow (st:DSt K F H σ ρ O) (s:Same H H'):DSt K F H' σ ρ O:=let ⟨W,h,e⟩:=st; ⟨W,h.grow s,e⟩
theorem DSt.nofree (st:DSt K F H σ ρ O):∀ p,H p=none->p ∉ O:=fun p hp z=>by
 obtain ⟨W,h,rfl⟩:=st
 obtain ⟨o,e,_⟩:=h.live p z
 rw [hp] at e; cases e
theorem DSt.lenE (st:DSt K F H σ ρ O):ρ.length=σ.length:=let ⟨_,h,_⟩:=st; h.len
theorem DSt.dat (st:DSt K F H σ ρ O) {i:Nat} {d:PyData} (e:ρ[i]? = some (some (.dat d))):∃ v,σ[i]? = some (some v)/\DV (hide O H) v d:=by
 obtain ⟨W,h,rfl⟩:=st
 obtain ⟨v,fp,h1,h2,h3⟩:=h.at_ i _ e
 exact ⟨v,h1,h3⟩
theorem DSt.scr (st:DSt K F H σ ρ O) {i:Nat} {ns:List Int} (e:ρ[i]? = some (some (.scr ns))):∃ a,σ[i]? = some (some (.ref a))/\Scr K H a ns:=by
 obtain ⟨W,h,rfl⟩:=st
 obtain ⟨v,fp,h1,h2,a,rfl,h3⟩:=h.at_ i _ e
 exact ⟨a,h1,h3⟩
theorem DSt.set (st:DSt K F H σ ρ O) {i:Nat} {v:V} {d:PyData} (h:DV (hide O H) v d):DSt K F H (σ.set i (some v)) (ρ.set i (some (.dat d))) O:=by
 obtain ⟨W,st,rfl⟩:=st
 refine ⟨W,⟨fun j c e=>?_,st.nd,st.kept,st.new,st.live,by rw [List.length_set,List.length_set,st.len],by rw [List.length_set,st.lw],fun j b e=>?_⟩,rfl⟩
 rotate_left
 ·rcases get_set e with ⟨rfl,e1,_⟩ | ⟨hj,e1⟩
  ·cases e1
  ·rw [List.getElem?_set_ne (Ne.symm hj)]; exact st.io j b e1
 rcases get_set e with ⟨rfl,e1,hlt⟩ | ⟨hj,e1⟩
 ·cases e1
  obtain ⟨fp,hfp⟩:∃ fp,W[j]? = some fp:=⟨W[j]'(by rw [st.lw]; exact hlt),List.getElem?_eq_getElem _⟩
  exact ⟨v,fp,List.getElem?_set_self (by rw [<-st.len]; exact hlt),hfp,h⟩
 ·obtain ⟨w,l,h1,h2,h3⟩:=st.at_ j c e1
  exact ⟨w,l,by rw [List.getElem?_set_ne (Ne.symm hj)]; exact h1,h2,h3⟩
theorem DSt.box (st:DSt K F H σ ρ O) {i:Nat} {io:Bool} {b:Bx} (e:ρ[i]? = some (some (.own io b))):∃ a fp,σ[i]? = some (some (.ref a))/\BoxAt (hide O H) H a b fp/\(∀ c ∈ fp,c ∈ O)/\
  ∀ (H':Hp) (b':Bx) (fp':List Addr),(∀ c o,c ∉ fp->H c=some o->H' c=some o)->fp'.Nodup->(∀ c ∈ fp',c ∈ fp\/H c=none)->(∀ G,(∀ O',Stp O H O' H'->G=hide O' H'->(∀ c ∈ fp',c ∈ O')->Same (hide O H) G/\BoxAt G H' a b' fp'))->
   ∃ O',DSt K F H' σ (ρ.set i (some (.own io b'))) O'/\Stp O H O' H'/\(∀ c ∈ O',c ∈ fp'\/c ∈ O):=by
 obtain ⟨W,st,rfl⟩:=st
 obtain ⟨v,fp,h1,h2,a,rfl,h3⟩:=st.at_ i _ e
 have hi:i < ρ.length:=(List.getElem?_eq_some_iff.mp e).1
 have hiW:i < W.length:=by rw [st.lw]; exact hi
 refine ⟨a,fp,h1,h3,fun c hc=>List.mem_append_left _ (mem_flat_of h2 hc),fun H' b' fp' keep nd fr hb=>?_⟩
 have ndW:W.flatten.Nodup:=(List.nodup_append.mp st.nd).1
 have nO:∀ c ∈ fp,c ∉ F.O₀:=fun c hc z=>(List.nodup_append.mp st.nd).2.2 c (mem_flat_of h2 hc) c z rfl
 have kj:∀ j l c,j ≠ i->W[j]? = some l->c ∈ l->H' c=H c:=fun j l c hj ej hc=>by
  obtain ⟨o,eo,_⟩:=st.live c (List.mem_append_left _ (mem_flat_of ej hc))
  rw [eo]
  exact keep c o (fun z=>flat_disj ndW ej h2 hj hc z) eo
 have kO:∀ c ∈ F.O₀,H' c=H c:=fun c hc=>by
  obtain ⟨o,eo,_⟩:=st.live c (List.mem_append_right _ hc)
  rw [eo]
  exact keep c o (fun z=>nO c z hc) eo
 have ap:∀ c ∈ fp',(∀ j l,j ≠ i->W[j]? = some l->c ∉ l)/\c ∉ F.O₀:=fun c hc=>by
  rcases fr c hc with q | q
  ·exact ⟨fun j l hj ej z=>flat_disj ndW h2 ej (Ne.symm hj) q z,nO c q⟩
  ·refine ⟨fun j l _ ej z=>?_,fun z=>?_⟩
   ·obtain ⟨o,eo,_⟩:=st.live c (List.mem_append_left _ (mem_flat_of ej z)); rw [q] at eo; cases eo
   ·obtain ⟨o,eo,_⟩:=st.live c (List.mem_append_right _ z); rw [q] at eo; cases eo
 have frz:∀ c o,c ∉ W.flatten ++ F.O₀->H c=some o->H' c=some o:=fun c o hc ec=>keep c o (fun z=>hc (List.mem_append_left _ (mem_flat_of h2 z))) ec
 have stp:Stp (W.flatten ++ F.O₀) H ((W.set i fp').flatten ++ F.O₀) H':=⟨frz,fun c h=>by
  rcases List.mem_append.mp h with h | h
  ·rcases mem_flat_set h with h | ⟨j,l,_,ej,hl⟩
   ·exact (fr c h).imp (fun z=>List.mem_append_left _ (mem_flat_of h2 z)) id
   ·exact .inl (List.mem_append_left _ (mem_flat_of ej hl))
  ·exact .inl (List.mem_append_right _ h)⟩
 have inO':∀ c ∈ fp',c ∈ (W.set i fp').flatten ++ F.O₀:=fun c hc=>List.mem_append_left _ (flat_set_self hiW hc)
 have hbx:=(hb _ _ stp rfl inO').2
 obtain ⟨s1,s2⟩:=st.put (H':=H') (i:=i) (v:=.ref a) (c:=.own io b') (fp:=fp') hi kj kO frz nd ap (fun c hc=>(fr c hc).imp (fun z=>mem_flat_of h2 z) id) (fun c hc=>hbx.live c hc) (fun _=>⟨a,rfl,hbx⟩) (fun b2 z=>by cases z; have:=st.io i b e; rw [h1] at this; exact (Option.some.inj (Option.some.inj this)))
 have eσ:σ.set i (some (.ref a))=σ:=by
  apply List.ext_getElem?
  intro j
  by_cases hj:j=i
  ·subst hj; rw [List.getElem?_set_self (List.getElem?_eq_some_iff.mp h1).1,h1]
  ·rw [List.getElem?_set_ne (Ne.symm hj)]
 rw [eσ] at s1
 refine ⟨_,⟨_,s1,rfl⟩,s2,fun c hc=>?_⟩
 rcases List.mem_append.mp hc with hc | hc
 ·rcases mem_flat_set hc with hc | ⟨j,l,_,ej,hl⟩
  ·exact .inl hc
  ·exact .inr (List.mem_append_left _ (mem_flat_of ej hl))
 ·exact .inr (List.mem_append_right _ hc)
theorem DSt.freeze (st:DSt K F H σ ρ O) {i:Nat} {ds:List PyData} (e:ρ[i]? = some (some (.own false (.l ds)))) :
  ∃ v O',σ[i]? = some (some v)/\DSt K F H σ (ρ.set i (some (.dat (.list ds)))) O'/\Stp O H O' H/\DV (hide O' H) v (.list ds):=by
 obtain ⟨W,st,rfl⟩:=st
 obtain ⟨v,fp,h1,h2,a,rfl,rfl,xs,h3,h4⟩:=st.at_ i _ e
 have hi:i < ρ.length:=(List.getElem?_eq_some_iff.mp e).1
 have ndW:W.flatten.Nodup:=(List.nodup_append.mp st.nd).1
 have nin:a ∉ (W.set i []).flatten ++ F.O₀:=fun z=>by
  rcases List.mem_append.mp z with z | z
  ·rcases mem_flat_set z with z | ⟨j,l,hj,ej,hl⟩
   ·cases z
   ·exact flat_disj ndW h2 ej (Ne.symm hj) List.mem_cons_self hl
  ·exact (List.nodup_append.mp st.nd).2.2 a (mem_flat_of h2 List.mem_cons_self) a z rfl
 have dv:Stp (W.flatten ++ F.O₀) H ((W.set i []).flatten ++ F.O₀) H->DV (hide ((W.set i []).flatten ++ F.O₀) H) (.ref a) (.list ds):=fun s=>.lst (hide_of h3 nin) (DVs.mono s.hid h4)
 obtain ⟨s1,s2⟩:=st.put (H':=H) (i:=i) (v:=.ref a) (c:=.dat (.list ds)) (fp:=[]) hi (fun _ _ _ _ _ _=>rfl) (fun _ _=>rfl) (fun _ _ _ e=>e) List.nodup_nil (fun a h=>by cases h) (fun a h=>by cases h) (fun a h=>by cases h) (fun s=>dv s) (fun _ z=>by cases z)
 have eσ:σ.set i (some (.ref a))=σ:=by
  apply List.ext_getElem?
  intro j
  by_cases hj:j=i
  ·subst hj; rw [List.getElem?_set_self (List.getElem?_eq_some_iff.mp h1).1,h1]
  ·rw [List.getElem?_set_ne (Ne.symm hj)]
 rw [eσ] at s1
 exact ⟨_,_,h1,⟨_,s1,rfl⟩,s2,dv s2⟩
end
end L2.L3
namespace L2.L3
open PySem PySem.Spec PyProof.Rows
noncomputable abbrev DT:=DEnv->(PyData->DEnv->Prop)->Prop
noncomputable def Mn (t:DT):Prop:=∀ ρ Q Q',(∀ d ρ',Q d ρ'->Q' d ρ')->t ρ Q->t ρ Q'
noncomputable def rdE (K:PySem.W.Frag) (F:Fx) (t:DT):TE:=fun σ H Q=>∃ ρ O,DSt K F H σ ρ O/\t ρ fun d ρ'=>∀ v H' O',DSt K F H' σ ρ' O'->Stp O H O' H'->DV (hide O' H') v d->Q v H'
structure DE (X:Cx) (F:Fx) (e:Expr) (t:DT):Prop where
 mn:Mn t
 pe:PE X e (rdE X.K F t)
theorem _root_.L2.PE.imp {X:Cx} {e:Expr} {t t':TE} (h:PE X e t) (k:∀ σ H Q,t' σ H Q->t σ H Q):PE X e t':=fun pins s σ H Q I q=>h pins s σ H Q I (k σ H Q q)
theorem _root_.L2.PT.imp {X:Cx} {e:Expr} {t t':TT} (h:PT X e t) (k:∀ σ H Q,t' σ H Q->t σ H Q):PT X e t':=fun pins s σ H Q I q=>h pins s σ H Q I (k σ H Q q)
theorem _root_.L2.PS.imp {X:Cx} {e:Stmt} {t t':TS} (h:PS X e t) (k:∀ D σ H,t' D σ H->t D σ H):PS X e t':=fun pins s σ H D I q=>h pins s σ H D I (k D σ H q)
theorem _root_.L2.PSs.imp {X:Cx} {e:List Stmt} {t t':TS} (h:PSs X e t) (k:∀ D σ H,t' D σ H->t D σ H):PSs X e t':=fun pins s σ H D I q=>h pins s σ H D I (k D σ H q)
section
variable {X:Cx} {F:Fx} {a b e:Expr} {ta tb:DT} {pos:Pos}
noncomputable def dC (d:PyData):DT:=fun ρ Q=>Q d ρ
noncomputable def dV (i:Nat):DT:=fun ρ Q=>(∃ d,ρ[i]? = some (some (.dat d))/\Q d ρ)\/∃ ds,ρ[i]? = some (some (.own false (.l ds)))/\Q (.list ds) (ρ.set i (some (.dat (.list ds))))
theorem mn_C {d:PyData}:Mn (dC d):=fun _ _ _ h q=>h _ _ q
theorem de_const {d:PyData} {v:V} (h:PE X e (tC v)) (hd:∀ H,DV H v d):DE X F e (dC d):=
 ⟨mn_C,h.imp fun σ H Q ⟨ρ,O,st,q⟩=>q v H O st .refl (hd _)⟩
theorem de_int {i j}:DE X F (.Constant (.int i) j pos) (dC (.int i)):=de_const pe_int fun _=>.int i
theorem de_bl {i j}:DE X F (.Constant (.bool i) j pos) (dC (.bool i)):=de_const pe_bl fun _=>.bl i
theorem de_non {j}:DE X F (.Constant .none j pos) (dC .none):=de_const pe_non fun _=>.non
theorem de_str {x j}:DE X F (.Constant (.str x) j pos) (dC (.str x)):=de_const pe_str fun _=>.str x
theorem de_var (i:Nat) {x:Str} (h:PE X (.Name x pos) (tVar i)):DE X F (.Name x pos) (dV i):=
 ⟨fun _ _ _ k q=>q.imp (fun ⟨d,e,q⟩=>⟨d,e,k _ _ q⟩) fun ⟨d,e,q⟩=>⟨d,e,k _ _ q⟩,h.imp fun σ H Q ⟨ρ,O,st,q⟩=>by
  rcases q with ⟨d,e,q⟩ | ⟨ds,e,q⟩
  ·obtain ⟨v,h1,h2⟩:=st.dat e
   exact ⟨v,h1,q v H O st .refl h2⟩
  ·obtain ⟨v,O',h1,h2,h3,h4⟩:=st.freeze e
   exact ⟨v,h1,q v H O' h2 h3 h4⟩⟩
noncomputable abbrev D2:=PyData->PyData->(PyData->Prop)->Prop
noncomputable def dOp (f:D2) (ta tb:DT):DT:=fun ρ Q=>ta ρ fun x ρ1=>tb ρ1 fun y ρ2=>f x y fun d=>Q d ρ2
structure Op2 (r:R2) (f:D2):Prop where
 mn:∀ x y Q Q',(∀ d,Q d->Q' d)->f x y Q->f x y Q'
 ok:∀ (O:List Addr) (H:Hp) (u v:V) (x y:PyData) (Q:VK),(∀ p,H p=none->p ∉ O)->DV (hide O H) u x->DV (hide O H) v y->f x y (fun d=>∀ w H',Same H H'->DV (hide O H') w d->Q w H')->r u v H Q
theorem rd2 {r:R2} {f:D2} {ta tb:DT} (o:Op2 r f) (ha:Mn ta) (hb:Mn tb) {K:PySem.W.Frag}:∀ σ H Q,rdE K F (dOp f ta tb) σ H Q->tOp r (rdE K F ta) (rdE K F tb) σ H Q:=fun σ H Q ⟨ρ,O,st,q⟩=>by
 refine ⟨ρ,O,st,ha _ _ _ (fun x ρ1 q1 v1 H1 O1 st1 s1 d1=>?_) q⟩
 refine ⟨ρ1,O1,st1,hb _ _ _ (fun y ρ2 q2 v2 H2 O2 st2 s2 d2=>?_) q1⟩
 refine o.ok O2 H2 v1 v2 x y Q st2.nofree (DV.mono s2.hid d1) d2 (o.mn _ _ _ _ (fun d q3 w H3 s3 d3=>?_) q2)
 exact q3 w H3 O2 (st2.grow s3) (s1.trans (s2.trans (.same s3))) d3
theorem mn2 {r:R2} {f:D2} (o:Op2 r f) (ha:Mn ta) (hb:Mn tb):Mn (dOp f ta tb):=fun _ _ _ k q=>ha _ _ _ (fun _ _ q1=>hb _ _ _ (fun _ _ q2=>o.mn _ _ _ _ (fun _ q3=>k _ _ q3) q2) q1) q
theorem de_op {op:Operator} {r:R2} {f:D2} (ho:OpR X (binaryOp op) r) (o:Op2 r f) (ha:DE X F a ta) (hb:DE X F b tb):DE X F (.BinOp a op b pos) (dOp f ta tb):=
 ⟨mn2 o ha.mn hb.mn,(pe_op ho ha.pe hb.pe).imp (rd2 o ha.mn hb.mn)⟩
theorem de_cmp {op:CmpOp} {r:R2} {f:D2} (ho:OpR X (compareOp op) r) (o:Op2 r f) (ha:DE X F a ta) (hb:DE X F b tb) (hm:behindInMarks op b=false):DE X F (.Compare a [op] [b] pos) (dOp f ta tb):=
 ⟨mn2 o ha.mn hb.mn,(pe_cmpR ho ha.pe hb.pe hm).imp (rd2 o ha.mn hb.mn)⟩
theorem de_ix {r:R2} {f:D2} (hr:IxR X r) (o:Op2 r f) (ha:DE X F a ta) (hb:DE X F b tb) (hs:PlainIx b):DE X F (.Subscript a b pos) (dOp f ta tb):=
 ⟨mn2 o ha.mn hb.mn,(pe_ix hr ha.pe hb.pe hs).imp (rd2 o ha.mn hb.mn)⟩
noncomputable def fI (C:Int->Int->Prop) (g:Int->Int->PyData):D2:=fun x y Q=>∃ i j,x=.int i/\y=.int j/\C i j/\Q (g i j)
theorem o_int {C:Int->Int->Prop} {g:Int->Int->V} {g':Int->Int->PyData} (hg:∀ i j H,DV H (g i j) (g' i j)):Op2 (rI C g) (fI C g') where
 mn:=fun _ _ _ _ k ⟨i,j,e1,e2,c,q⟩=>⟨i,j,e1,e2,c,k _ q⟩
 ok:=fun O H u v x y Q hO h1 h2 ⟨i,j,e1,e2,c,q⟩=>by
  subst e1 e2
  exact ⟨i,j,h1.int_inv,h2.int_inv,c,q _ H (fun _ _ h=>h) (hg i j _)⟩
theorem o_int0 {g:Int->Int->V} {g':Int->Int->PyData} (hg:∀ i j H,DV H (g i j) (g' i j)):Op2 (rI0 g) (fI (fun _ _=>True) g') where
 mn:=fun _ _ _ _ k ⟨i,j,e1,e2,c,q⟩=>⟨i,j,e1,e2,c,k _ q⟩
 ok:=fun O H u v x y Q hO h1 h2 ⟨i,j,e1,e2,_,q⟩=>by
  subst e1 e2
  exact ⟨i,j,h1.int_inv,h2.int_inv,q _ H (fun _ _ h=>h) (hg i j _)⟩
noncomputable def fEq (neg:Bool):D2:=fun x y Q=>SeqAt.shaped x=true/\SeqAt.shaped y=true/\Q (.bool (PyData.eqv x y != neg))
theorem o_eq {neg:Bool}:Op2 (rEqD neg) (fEq neg) where
 mn:=fun _ _ _ _ k ⟨e1,e2,q⟩=>⟨e1,e2,k _ q⟩
 ok:=fun O H u v x y Q hO h1 h2 ⟨e1,e2,q⟩=>⟨x,y,DV.mono hide_le h1,DV.mono hide_le h2,e1,e2,q _ H (fun _ _ h=>h) (.bl _)⟩
@[simp] noncomputable def isNone:PyData->Bool
 | .none=>true
 | _=>false
noncomputable def fIs:D2:=fun x y Q=>y=.none/\Q (.bool (isNone x))
theorem dv_non {H:Hp} {v:V} {d:PyData} (h:DV H v d):decide (v=.non)=isNone d:=by
 cases h <;> first | rfl | (exact decide_eq_false (fun z=>by cases z))
theorem o_is:Op2 (fun x y H Q=>y=.non/\Q (.bl (decide (x=.non))) H) fIs where
 mn:=fun _ _ _ _ k ⟨e,q⟩=>⟨e,k _ q⟩
 ok:=fun O H u v x y Q hO h1 h2 ⟨e,q⟩=>by
  subst e
  exact ⟨h2.non_inv,by rw [dv_non h1]; exact q _ H (fun _ _ h=>h) (.bl _)⟩
noncomputable def fIxT:D2:=fun x y Q=>∃ ds i d,x=.tuple ds/\y=.int i/\atI ds i=some d/\Q d
noncomputable def fIxL:D2:=fun x y Q=>∃ ds i d,x=.list ds/\y=.int i/\atI ds i=some d/\Q d
theorem atI_dv {H:Hp} {vs:List V} {ds:List PyData} {i:Int} {d:PyData} (h:DVs H vs ds) (e:atI ds i=some d):∃ v,atI vs i=some v/\DV H v d:=by
 unfold atI at e ⊢
 rw [h.length]
 cases q:ixN ds.length i with
 | none=>rw [q] at e; cases e
 | some j=>
  rw [q] at e
  exact h.get e
theorem o_ixT {K:PySem.W.Frag}:Op2 (rIxT K) fIxT where
 mn:=fun _ _ _ _ k ⟨ds,i,d,e1,e2,e3,q⟩=>⟨ds,i,d,e1,e2,e3,k _ q⟩
 ok:=fun O H u v x y Q hO h1 h2 ⟨ds,i,d,e1,e2,e3,q⟩=>by
  subst e1 e2
  obtain ⟨a,xs,rfl,ha,hd⟩:=h1.tup_inv
  obtain ⟨w,ew,hw⟩:=atI_dv hd e3
  exact ⟨a,xs,i,w,rfl,h2.int_inv,.inl (of_hideR ha).1,ew,q w H (fun _ _ h=>h) hw⟩
theorem o_ixL {K:PySem.W.Frag}:Op2 (rIxL K) fIxL where
 mn:=fun _ _ _ _ k ⟨ds,i,d,e1,e2,e3,q⟩=>⟨ds,i,d,e1,e2,e3,k _ q⟩
 ok:=fun O H u v x y Q hO h1 h2 ⟨ds,i,d,e1,e2,e3,q⟩=>by
  subst e1 e2
  obtain ⟨a,xs,rfl,ha,hd⟩:=h1.lst_inv
  obtain ⟨w,ew,hw⟩:=atI_dv hd e3
  exact ⟨a,xs,i,w,rfl,h2.int_inv,.of (of_hide ha).1,ew,q w H (fun _ _ h=>h) hw⟩
theorem dv_new_lst {O:List Addr} {H:Hp} {p:Addr} {xs:List V} {ds:List PyData} (hp:H p=none) (hO:p ∉ O) (h:DVs (hide O H) xs ds):DV (hide O (upd H p (.lst xs))) (.ref p) (.list ds):=
 .lst (hide_of upd_same hO) (DVs.mono (hide_same (same_upd hp)) h)
theorem dv_new_tup {O:List Addr} {H:Hp} {p:Addr} {xs:List V} {ds:List PyData} (hp:H p=none) (hO:p ∉ O) (h:DVs (hide O H) xs ds):DV (hide O (upd H p (.tup xs))) (.ref p) (.tuple ds):=
 .tup (.inl (hide_of upd_same hO)) (DVs.mono (hide_same (same_upd hp)) h)
noncomputable def fCatL:D2:=fun x y Q=>∃ ds es,x=.list ds/\y=.list es/\ds.length + es.length<=sizeLine/\Q (.list (ds ++ es))
theorem o_catL:Op2 rCat fCatL where
 mn:=fun _ _ _ _ k ⟨ds,es,e1,e2,e3,q⟩=>⟨ds,es,e1,e2,e3,k _ q⟩
 ok:=fun O H u v x y Q hO h1 h2 ⟨ds,es,e1,e2,e3,q⟩=>by
  subst e1 e2
  obtain ⟨a,xs,rfl,ha,hd⟩:=h1.lst_inv
  obtain ⟨b,ys,rfl,hb,he⟩:=h2.lst_inv
  refine ⟨a,b,xs,ys,rfl,rfl,(of_hide ha).1,(of_hide hb).1,by rw [hd.length,he.length]; exact e3,fun p hp=>q _ _ (same_upd hp) (dv_new_lst hp (hO p hp) (hd.append he))⟩
end
theorem ofT {A B:Prop} (h:if true=true then A else B):A:=by rw [if_pos rfl] at h; exact h
theorem ofF {A B:Prop} (h:if false=true then A else B):B:=by rw [if_neg Bool.false_ne_true] at h; exact h
noncomputable abbrev DTA:=DEnv->(List PyData->DEnv->Prop)->Prop
noncomputable def MnA (t:DTA):Prop:=∀ ρ Q Q',(∀ d ρ',Q d ρ'->Q' d ρ')->t ρ Q->t ρ Q'
noncomputable def rdA (K:PySem.W.Frag) (F:Fx) (t:DTA):TA:=fun σ H Q=>∃ ρ O,DSt K F H σ ρ O/\t ρ fun ds ρ'=>∀ vs H' O',DSt K F H' σ ρ' O'->Stp O H O' H'->DVs (hide O' H') vs ds->Q vs H'
structure DA (X:Cx) (F:Fx) (es:List Expr) (t:DTA):Prop where
 mn:MnA t
 pa:PA X es (rdA X.K F t)
theorem _root_.L2.PA.imp {X:Cx} {e:List Expr} {t t':TA} (h:PA X e t) (k:∀ σ H Q,t' σ H Q->t σ H Q):PA X e t':=fun pos pins s σ H Q I q=>h pos pins s σ H Q I (k σ H Q q)
section
variable {X:Cx} {F:Fx} {a b e c:Expr} {es:List Expr} {ta tb tc:DT} {tA:DTA} {pos:Pos}
noncomputable def dNil:DTA:=fun ρ Q=>Q [] ρ
noncomputable def dCons (ta:DT) (tr:DTA):DTA:=fun ρ Q=>ta ρ fun d ρ1=>tr ρ1 fun ds ρ2=>Q (d :: ds) ρ2
theorem da_nil:DA X F [] dNil:=⟨fun _ _ _ k q=>k _ _ q,pa_nil.imp fun σ H Q ⟨ρ,O,st,q⟩=>q [] H O st .refl .nil⟩
theorem da_cons (ha:DE X F e ta) (hr:DA X F es tA) (hs:starEach (e :: es) X.env=(false,eval e X.env) :: starEach es X.env:=by rfl):DA X F (e :: es) (dCons ta tA):=
 ⟨fun _ _ _ k q=>ha.mn _ _ _ (fun _ _ q1=>hr.mn _ _ _ (fun _ _ q2=>k _ _ q2) q1) q,(pa_cons ha.pe hr.pa hs).imp fun σ H Q ⟨ρ,O,st,q⟩=>
  ⟨ρ,O,st,ha.mn _ _ _ (fun d ρ1 q1 v H1 O1 st1 s1 d1=>⟨ρ1,O1,st1,hr.mn _ _ _ (fun ds ρ2 q2 vs H2 O2 st2 s2 d2=>q2 (v :: vs) H2 O2 st2 (s1.trans s2) (.cons (DV.mono s2.hid d1) d2)) q1⟩) q⟩⟩
noncomputable def dTup (t:DTA):DT:=fun ρ Q=>t ρ fun ds ρ'=>ds.length<=sizeLine/\Q (.tuple ds) ρ'
noncomputable def dLst (t:DTA):DT:=fun ρ Q=>t ρ fun ds ρ'=>ds.length<=sizeLine/\Q (.list ds) ρ'
theorem de_tup {x1} (h:DA X F es tA):DE X F (.Tuple es x1 pos) (dTup tA):=
 ⟨fun _ _ _ k q=>h.mn _ _ _ (fun _ _ q1=>⟨q1.1,k _ _ q1.2⟩) q,(pe_tup h.pa).imp fun σ H Q ⟨ρ,O,st,q⟩=>
  ⟨ρ,O,st,h.mn _ _ _ (fun ds ρ1 q1 vs H1 O1 st1 s1 d1=>⟨by rw [d1.length]; exact q1.1,fun p hp=>q1.2 _ _ O1 (st1.grow (same_upd hp)) (s1.trans (.same (same_upd hp))) (dv_new_tup hp (st1.nofree p hp) d1)⟩) q⟩⟩
theorem de_lst (h:DA X F es tA):DE X F (.List es pos) (dLst tA):=
 ⟨fun _ _ _ k q=>h.mn _ _ _ (fun _ _ q1=>⟨q1.1,k _ _ q1.2⟩) q,(pe_lst h.pa).imp fun σ H Q ⟨ρ,O,st,q⟩=>
  ⟨ρ,O,st,h.mn _ _ _ (fun ds ρ1 q1 vs H1 O1 st1 s1 d1=>⟨by rw [d1.length]; exact q1.1,fun p hp=>q1.2 _ _ O1 (st1.grow (same_upd hp)) (s1.trans (.same (same_upd hp))) (dv_new_lst hp (st1.nofree p hp) d1)⟩) q⟩⟩
noncomputable def dNeg (ta:DT):DT:=fun ρ Q=>ta ρ fun d ρ'=>∃ i,d=.int i/\Q (.int (-i)) ρ'
theorem de_neg (ha:DE X F a ta):DE X F (.UnaryOp .USub a pos) (dNeg ta):=
 ⟨fun _ _ _ k q=>ha.mn _ _ _ (fun _ _ ⟨i,e,q⟩=>⟨i,e,k _ _ q⟩) q,(pe_un un_neg ha.pe).imp fun σ H Q ⟨ρ,O,st,q⟩=>
  ⟨ρ,O,st,ha.mn _ _ _ (fun d ρ1 ⟨i,e,q1⟩ v H1 O1 st1 s1 d1=>by subst e; exact ⟨i,d1.int_inv,q1 _ H1 O1 st1 s1 (.int _)⟩) q⟩⟩
noncomputable def dNot (ta:DT):DT:=fun ρ Q=>ta ρ fun d ρ'=>∃ b,d=.bool b/\Q (.bool (!b)) ρ'
theorem de_not (ha:DE X F a ta):DE X F (.UnaryOp .Not a pos) (dNot ta):=
 ⟨fun _ _ _ k q=>ha.mn _ _ _ (fun _ _ ⟨i,e,q⟩=>⟨i,e,k _ _ q⟩) q,(pe_not ha.pe).imp fun σ H Q ⟨ρ,O,st,q⟩=>
  ⟨ρ,O,st,ha.mn _ _ _ (fun d ρ1 ⟨i,e,q1⟩ v H1 O1 st1 s1 d1=>by subst e; exact ⟨i,d1.bl_inv,q1 _ H1 O1 st1 s1 (.bl _)⟩) q⟩⟩
noncomputable def dAnd (ta tb:DT):DT:=fun ρ Q=>ta ρ fun d ρ1=>∃ b,d=.bool b/\if b=true then tb ρ1 Q else Q (.bool false) ρ1
noncomputable def dOr (ta tb:DT):DT:=fun ρ Q=>ta ρ fun d ρ1=>∃ b,d=.bool b/\if b=true then Q (.bool true) ρ1 else tb ρ1 Q
theorem de_one {op} (h:DE X F a ta):DE X F (.BoolOp op [a] pos) ta:=⟨h.mn,pe_one h.pe⟩
theorem de_and {rest:List Expr} (ha:DE X F a ta) (hb:DE X F (.BoolOp .And (b :: rest) pos) tb):DE X F (.BoolOp .And (a :: b :: rest) pos) (dAnd ta tb):=
 ⟨fun _ _ _ k q=>ha.mn _ _ _ (fun _ _ ⟨i,e,q⟩=>⟨i,e,by cases i <;> first | exact k _ _ q | exact hb.mn _ _ _ k q⟩) q,(pe_and ha.pe hb.pe).imp fun σ H Q ⟨ρ,O,st,q⟩=>
  ⟨ρ,O,st,ha.mn _ _ _ (fun d ρ1 ⟨i,e,q1⟩ v H1 O1 st1 s1 d1=>by
   subst e
   refine ⟨i,d1.bl_inv,?_⟩
   cases i with
   | true=>exact iteT ⟨ρ1,O1,st1,hb.mn _ _ _ (fun d ρ2 q2 w H2 O2 st2 s2 d2=>q2 w H2 O2 st2 (s1.trans s2) d2) (ofT q1)⟩
   | false=>exact iteF (ofF q1 _ H1 O1 st1 s1 (.bl _))) q⟩⟩
theorem de_or {rest:List Expr} (ha:DE X F a ta) (hb:DE X F (.BoolOp .Or (b :: rest) pos) tb):DE X F (.BoolOp .Or (a :: b :: rest) pos) (dOr ta tb):=
 ⟨fun _ _ _ k q=>ha.mn _ _ _ (fun _ _ ⟨i,e,q⟩=>⟨i,e,by cases i <;> first | exact k _ _ q | exact hb.mn _ _ _ k q⟩) q,(pe_or ha.pe hb.pe).imp fun σ H Q ⟨ρ,O,st,q⟩=>
  ⟨ρ,O,st,ha.mn _ _ _ (fun d ρ1 ⟨i,e,q1⟩ v H1 O1 st1 s1 d1=>by
   subst e
   refine ⟨i,d1.bl_inv,?_⟩
   cases i with
   | false=>exact iteF ⟨ρ1,O1,st1,hb.mn _ _ _ (fun d ρ2 q2 w H2 O2 st2 s2 d2=>q2 w H2 O2 st2 (s1.trans s2) d2) (ofF q1)⟩
   | true=>exact iteT (ofT q1 _ H1 O1 st1 s1 (.bl _))) q⟩⟩
noncomputable def dChain (p p':Int->Int->Bool) (ta tb tc:DT):DT:=fun ρ Q=>ta ρ fun x ρ1=>tb ρ1 fun y ρ2=>∃ i j,x=.int i/\y=.int j/\if p i j=true then tc ρ2 (fun z ρ3=>∃ k,z=.int k/\Q (.bool (p' j k)) ρ3) else Q (.bool false) ρ2
theorem de_chain {op op':CmpOp} {p p':Int->Int->Bool} (ho:OpR X (compareOp op) (rI0 fun i j=>.bl (p i j))) (ho':OpR X (compareOp op') (rI0 fun i j=>.bl (p' i j))) (ha:DE X F a ta) (hb:DE X F b tb) (hc:DE X F c tc)
  (hm:lastMarks [op,op'] [b,c]=false:=by with_unfolding_all rfl):DE X F (.Compare a [op,op'] [b,c] pos) (dChain p p' ta tb tc):=
 ⟨fun _ _ _ k q=>ha.mn _ _ _ (fun _ _ q1=>hb.mn _ _ _ (fun _ _ ⟨i,j,e1,e2,q2⟩=>⟨i,j,e1,e2,by
   by_cases h:p i j=true
   ·rw [if_pos h] at q2 ⊢; exact hc.mn _ _ _ (fun _ _ ⟨l,e,q3⟩=>⟨l,e,k _ _ q3⟩) q2
   ·rw [if_neg h] at q2 ⊢; exact k _ _ q2⟩) q1) q,
  (pe_chain ho ho' ha.pe hb.pe hc.pe hm).imp fun σ H Q ⟨ρ,O,st,q⟩=>
  ⟨ρ,O,st,ha.mn _ _ _ (fun x ρ1 q1 v H1 O1 st1 s1 d1=>⟨ρ1,O1,st1,hb.mn _ _ _ (fun y ρ2 ⟨i,j,e1,e2,q2⟩ w H2 O2 st2 s2 d2=>by
   subst e1 e2
   refine ⟨i,j,(DV.mono s2.hid d1).int_inv,d2.int_inv,p i j,rfl,?_⟩
   by_cases h:p i j=true
   ·rw [if_pos h] at q2 ⊢
    exact ⟨ρ2,O2,st2,hc.mn _ _ _ (fun z ρ3 ⟨l,e,q3⟩ u H3 O3 st3 s3 d3=>by subst e; exact ⟨j,l,(DV.mono s3.hid d2).int_inv,d3.int_inv,q3 _ H3 O3 st3 (s1.trans (s2.trans s3)) (.bl _)⟩) q2⟩
   ·rw [if_neg h] at q2 ⊢
    exact q2 _ H2 O2 st2 (s1.trans s2) (.bl _)) q1⟩) q⟩⟩
end
noncomputable abbrev DTT:=DEnv->(Bool->DEnv->Prop)->Prop
noncomputable def MnT (t:DTT):Prop:=∀ ρ Q Q',(∀ d ρ',Q d ρ'->Q' d ρ')->t ρ Q->t ρ Q'
noncomputable def rdT (K:PySem.W.Frag) (F:Fx) (t:DTT):TT:=fun σ H Q=>∃ ρ O,DSt K F H σ ρ O/\t ρ fun b ρ'=>∀ H' O',DSt K F H' σ ρ' O'->Stp O H O' H'->Q b H'
structure DB (X:Cx) (F:Fx) (e:Expr) (t:DTT):Prop where
 mn:MnT t
 pt:PT X e (rdT X.K F t)
section
variable {X:Cx} {F:Fx} {a b e c:Expr} {ta tb tc:DT} {tA tB:DTT} {pos:Pos}
noncomputable def dTst (ta:DT):DTT:=fun ρ Q=>ta ρ fun d ρ'=>∃ b,d=.bool b/\Q b ρ'
theorem mn_tst (h:Mn ta):MnT (dTst ta):=fun _ _ _ k q=>h _ _ _ (fun _ _ ⟨b,e,q1⟩=>⟨b,e,k _ _ q1⟩) q
theorem rd_tst {K:PySem.W.Frag} (h:Mn ta):∀ σ H Q,rdT K F (dTst ta) σ H Q->rdE K F ta σ H fun x H'=>∃ k,x=.bl k/\Q k H':=fun σ H Q ⟨ρ,O,st,q⟩=>
 ⟨ρ,O,st,h _ _ _ (fun d ρ1 ⟨b,e,q1⟩ v H1 O1 st1 s1 d1=>by subst e; exact ⟨b,d1.bl_inv,q1 H1 O1 st1 s1⟩) q⟩
theorem db_val (h:DE X F e ta) (he:∀ whole,isTrue e X.env whole=(do let v <-whole; standAt e.pos; holding [v] (truthy v)):=by intro _; rfl):DB X F e (dTst ta):=⟨mn_tst h.mn,(pt_val h.pe he).imp (rd_tst h.mn)⟩
theorem db_cmp {op:CmpOp} {r:R2} {f:D2} (ho:OpR X (compareOp op) r) (o:Op2 r f) (ha:DE X F a ta) (hb:DE X F b tb) (hm:behindInMarks op b=false):DB X F (.Compare a [op] [b] pos) (dTst (dOp f ta tb)):=
 ⟨mn_tst (mn2 o ha.mn hb.mn),(pt_cmpR ho ha.pe hb.pe hm).imp fun σ H Q q=>rd2 o ha.mn hb.mn σ H _ (rd_tst (mn2 o ha.mn hb.mn) σ H Q q)⟩
noncomputable def bNot (t:DTT):DTT:=fun ρ Q=>t ρ fun b ρ'=>Q (!b) ρ'
theorem db_not (h:DB X F a tA):DB X F (.UnaryOp .Not a pos) (bNot tA):=⟨fun _ _ _ k q=>h.mn _ _ _ (fun _ _ q=>k _ _ q) q,(pt_not h.pt).imp fun σ H Q ⟨ρ,O,st,q⟩=>⟨ρ,O,st,h.mn _ _ _ (fun b ρ1 q1 H1 O1 st1 s1=>q1 H1 O1 st1 s1) q⟩⟩
structure DW (X:Cx) (F:Fx) (e:Expr) (t:DTT):Prop where
 mn:MnT t
 pw:PW X e (rdT X.K F t)
theorem _root_.L2.PW.imp {X:Cx} {e:Expr} {t t':TT} (h:PW X e t) (k:∀ σ H Q,t' σ H Q->t σ H Q):PW X e t':=fun wh pins s σ H Q I q=>h wh pins s σ H Q I (k σ H Q q)
theorem DW.db {t:DTT} (h:DW X F e t):DB X F e t:=⟨h.mn,h.pw.pt⟩
noncomputable def bOr (t u:DTT):DTT:=fun ρ Q=>t ρ fun b ρ1=>if b=true then Q true ρ1 else u ρ1 Q
theorem dw_or1 (h:DB X F a tA):DW X F (.BoolOp .Or [a] pos) tA:=⟨h.mn,pw_or1 h.pt⟩
theorem dw_or {rest:List Expr} (ha:DB X F a tA) (hb:DW X F (.BoolOp .Or (b :: rest) pos) tB):DW X F (.BoolOp .Or (a :: b :: rest) pos) (bOr tA tB):=
 ⟨fun _ _ _ k q=>ha.mn _ _ _ (fun b _ q=>by cases b <;> first | exact k _ _ q | exact hb.mn _ _ _ k q) q,(pw_or ha.pt hb.pw).imp fun σ H Q ⟨ρ,O,st,q⟩=>
  ⟨ρ,O,st,ha.mn _ _ _ (fun b ρ1 q1 H1 O1 st1 s1=>by
   cases b with
   | false=>exact iteF ⟨ρ1,O1,st1,hb.mn _ _ _ (fun b ρ2 q2 H2 O2 st2 s2=>q2 H2 O2 st2 (s1.trans s2)) (ofF q1)⟩
   | true=>exact iteT (ofT q1 H1 O1 st1 s1)) q⟩⟩
noncomputable def dIf (t:DTT) (ta tb:DT):DT:=fun ρ Q=>t ρ fun b ρ1=>if b=true then ta ρ1 Q else tb ρ1 Q
theorem de_if (hc:DB X F c tA) (ha:DE X F a ta) (hb:DE X F b tb):DE X F (.IfExp c a b pos) (dIf tA ta tb):=
 ⟨fun _ _ _ k q=>hc.mn _ _ _ (fun b _ q=>by cases b <;> first | exact ha.mn _ _ _ k q | exact hb.mn _ _ _ k q) q,(pe_ifExp hc.pt ha.pe hb.pe).imp fun σ H Q ⟨ρ,O,st,q⟩=>
  ⟨ρ,O,st,hc.mn _ _ _ (fun b ρ1 q1 H1 O1 st1 s1=>by
   cases b with
   | true=>exact iteT ⟨ρ1,O1,st1,ha.mn _ _ _ (fun d ρ2 q2 v H2 O2 st2 s2 d2=>q2 v H2 O2 st2 (s1.trans s2) d2) (ofT q1)⟩
   | false=>exact iteF ⟨ρ1,O1,st1,hb.mn _ _ _ (fun d ρ2 q2 v H2 O2 st2 s2 d2=>q2 v H2 O2 st2 (s1.trans s2) d2) (ofF q1)⟩) q⟩⟩
end
noncomputable abbrev DN:=List PyData->(PyData->Prop)->Prop
structure OpN (r:List V->Hp->VK->Prop) (f:DN):Prop where
 mn:∀ xs Q Q',(∀ d,Q d->Q' d)->f xs Q->f xs Q'
 ok:∀ (O:List Addr) (H:Hp) (vs:List V) (xs:List PyData) (Q:VK),(∀ p,H p=none->p ∉ O)->DVs (hide O H) vs xs->f xs (fun d=>∀ w H',Same H H'->DV (hide O H') w d->Q w H')->r vs H Q
noncomputable def dCB (f:DN) (t:DTA):DT:=fun ρ Q=>t ρ fun ds ρ'=>f ds fun d=>Q d ρ'
section
variable {X:Cx} {F:Fx} {e:Expr} {es:List Expr} {tA:DTA} {pos p:Pos} {x:Str} {id T:String} {r:List V->Hp->VK->Prop} {f:DN}
theorem rdN {K:PySem.W.Frag} (o:OpN r f) (h:MnA tA):∀ σ H Q,rdE K F (dCB f tA) σ H Q->tCB r (rdA K F tA) σ H Q:=fun σ H Q ⟨ρ,O,st,q⟩=>
 ⟨ρ,O,st,h _ _ _ (fun ds ρ1 q1 vs H1 O1 st1 s1 d1=>o.ok O1 H1 vs ds Q st1.nofree d1 (o.mn _ _ _ (fun d q2 w H2 s2 d2=>q2 w H2 O1 (st1.grow s2) (s1.trans (.same s2)) d2) q1)) q⟩
theorem mnN (o:OpN r f) (h:MnA tA):Mn (dCB f tA):=fun _ _ _ k q=>h _ _ _ (fun _ _ q1=>o.mn _ _ _ (fun _ q2=>k _ _ q2) q1) q
theorem de_callB (hc:CallR X (.builtin id) r) (o:OpN r f) (hg:Gl X x) (hm:X.mg x=none) (hv:bootBuiltins x=some (.builtin id)) (ha:DA X F (e :: es) tA) (hn:x ≠ "__name__":=by decide) (hdb:(x == ("__debug__":Str))=false:=by decide)
  (he:starEach (e :: es) X.env=(false,eval e X.env) :: starEach es X.env:=by rfl) (hpl:(backTo pos (starEach es X.env)).any (·.1)=false:=by rfl):DE X F (.Call (.Name x p) (e :: es) [] pos) (dCB f tA):=
 ⟨mnN o ha.mn,(pe_callB hc hg hm hv ha.pa hn hdb he hpl).imp (rdN o ha.mn)⟩
theorem de_callTy (hc:CallR X (.type T) r) (o:OpN r f) (hg:Gl X x) (hm:X.mg x=none) (hv:bootBuiltins x=some (.type T)) (ha:DA X F (e :: es) tA) (hn:x ≠ "__name__":=by decide) (hdb:(x == ("__debug__":Str))=false:=by decide)
  (he:starEach (e :: es) X.env=(false,eval e X.env) :: starEach es X.env:=by rfl) (hpl:(backTo pos (starEach es X.env)).any (·.1)=false:=by rfl):DE X F (.Call (.Name x p) (e :: es) [] pos) (dCB f tA):=
 ⟨mnN o ha.mn,(pe_callTy hc hg hm hv ha.pa hn hdb he hpl).imp (rdN o ha.mn)⟩
end
noncomputable def dIsI (n:String) (ta:DT):DT:=fun ρ Q=>ta ρ fun d ρ'=>∃ b,(∀ K:PySem.W.Frag,PySem.W.kitOne K (.type (tyOfD d)) (.type n)=some b)/\Q (.bool b) ρ'
section
variable {X:Cx} {F:Fx} {e:Expr} {ta:DT} {pos p p2:Pos} {T:String} {x:Str}
theorem de_isinst (hg:Gl X "isinstance") (hm:X.mg "isinstance" = none) (h:DE X F e ta) (ht:PE X (.Name x p2) (tC (.ty T)))
  (he:starEach [e,.Name x p2] X.env=(false,eval e X.env) :: starEach [.Name x p2] X.env:=by rfl) (he2:starEach [.Name x p2] X.env=(false,eval (.Name x p2) X.env) :: starEach [] X.env:=by rfl) (hpl:(backTo pos (starEach [.Name x p2] X.env)).any (·.1)=false:=by rfl) :
  DE X F (.Call (.Name "isinstance" p) [e,.Name x p2] [] pos) (dIsI T ta):=
 ⟨fun _ _ _ k q=>h.mn _ _ _ (fun _ _ ⟨b,e,q⟩=>⟨b,e,k _ _ q⟩) q,
  (pe_callB call_isinst hg hm (show bootBuiltins "isinstance" = some (.builtin "isinstance") by decide +kernel) (pa_cons h.pe (pa_cons ht pa_nil he2) he) (by decide) (by decide) he hpl).imp fun σ H Q ⟨ρ,O,st,q⟩=>
  ⟨ρ,O,st,h.mn _ _ _ (fun d ρ1 ⟨b,e,q1⟩ v H1 O1 st1 s1 d1=>⟨v,d,T,b,rfl,DV.mono hide_le d1,e,q1 _ H1 O1 st1 s1 (.bl b)⟩) q⟩⟩
end
end L2.L3
namespace L2.L3
open PySem PySem.Spec PyProof.Rows
structure ExS (g:Heap) (H:Hp) (h:Heap) (a:Addr) (C:Value) (fl:Option Value):Prop where
 gh:∀ b o,g.get? b=some o->∃ o',h.get? b=some o'
 lo:g.get? a=none
 un:H a=none
 ob:∃ oe vs a0,h.get? a=some oe/\oe.cls=C/\oe.data=.fields vs/\vs[0]? = some a0/\
  ((fl=none/\vs[1]? = some .none)\/∃ T oT ts f,fl=some f/\vs[1]? = some (.ref T)/\g.get? T=none/\H T=none/\T ≠ a/\h.get? T=some oT/\oT.data=.fields ts/\ts[3]? = some f)
structure Ch (g:Heap) (H:Hp) (fs:List Addr) (h h':Heap):Prop where
 keep:∀ b o,h.get? b=some o->((∃ o',g.get? b=some o')\/H b ≠ none)->b ∉ fs->h'.get? b=some o
 slot:∀ b o,b ∈ fs->h.get? b=some o->∃ sl,h'.get? b=some { o with slots:=sl }
 there:∀ b o,h.get? b=some o->∃ o',h'.get? b=some o'
theorem Ch.refl {g:Heap} {H:Hp} {fs:List Addr} {h:Heap}:Ch g H fs h h:=⟨fun _ _ e _ _=>e,fun b o _ e=>⟨o.slots,e⟩,fun b o e=>⟨o,e⟩⟩
theorem Ch.trans {g:Heap} {H:Hp} {fs:List Addr} {h h1 h2:Heap} (x:Ch g H fs h h1) (y:Ch g H fs h1 h2):Ch g H fs h h2 where
 keep:=fun b o e q n=>y.keep b o (x.keep b o e q n) q n
 slot:=fun b o m e=>let ⟨_,e1⟩:=x.slot b o m e; let ⟨sl,e2⟩:=y.slot b _ m e1; ⟨sl,e2⟩
 there:=fun b o e=>let ⟨o1,e1⟩:=x.there b o e; y.there b o1 e1
theorem HOk.some_of {P:Program} {w:World} {H:Hp} {h:Heap} (k:HOk P w H h) {b:Addr} (e:h.get? b=none):H b=none:=by
 cases q:H b with
 | none=>rfl
 | some u=>
  exfalso
  have x:=k b u q
  have:∀ (u:HO),ObjOk P w H h b u->∃ o,h.get? b=some o:=by
   intro u
   induction u with
   | lst xs=>exact fun ⟨_,_,_,_,e⟩=>⟨_,e⟩
   | tup xs=>exact fun ⟨_,_,_,o,e,_⟩=>⟨_,e⟩
   | dK kvs=>exact fun ⟨_,_,_,_,o,_,_,e,_⟩=>⟨_,e⟩
   | dT kvs=>exact fun ⟨_,_,_,_,o,_,_,e,_⟩=>⟨_,e⟩
   | set S n=>exact fun ⟨o,_,_,_,e,_⟩=>⟨_,e⟩
   | ins C dx fs=>exact fun ⟨_,_,_,e,_⟩=>⟨_,e⟩
   | own y=>exact fun ⟨_,e⟩=>⟨_,e⟩
   | xd fs=>exact fun ⟨_,⟨_,_,_,e,_⟩,_⟩=>⟨_,e⟩
   | rng lo hi=>exact fun ⟨_,_,_,e⟩=>⟨_,e⟩
   | frz ob u _=>exact fun ⟨e,_⟩=>⟨_,e⟩
   | tbl ps=>exact fun e=>⟨_,e⟩
   | met f y=>exact fun e=>⟨_,e⟩
   | ext φ=>exact fun ⟨_,⟨_,e⟩,_⟩=>⟨_,e⟩
  obtain ⟨o,eo⟩:=this u x
  rw [e] at eo; cases eo
theorem frames_rebase {h base base':Heap}:∀ {l:List Env},(∀ b ∈ frs l,base'.get? b=none)->h.FunFrames base l->h.FunFrames base' l
 | [],_,_=>trivial
 | env :: r,hb,⟨hk,⟨L,o,hf,_,ho,hd⟩,hr⟩=>by
  have e:frs (env :: r)=L :: frs r:=by unfold frs; rw [List.filterMap_cons,hf]
  exact ⟨hk,⟨L,o,hf,hb L (by rw [e]; exact List.mem_cons_self),ho,hd⟩,frames_rebase (fun b h=>hb b (by rw [e]; exact List.mem_cons_of_mem _ h)) hr⟩
section
variable {P:Program} {w:World} {M:Model} {A:Around} {E:Value->Shared->Prop} {s:Shared} {g base:Heap} {H:Hp} {env:Env} {outer:List Env} {L a:Addr} {C fv:Value} {fl:Option Value}
theorem entry_any {oe:Obj} {vs:Array Value} {head a0:Value} {hadNext:Bool} {Q:Unit->Shared->Prop} (hfr:A.frames=some (env :: outer)) (hl:s.heap.FunFrames base (env :: outer)) (hf:env.frame=some L) (hk:∀ b,s.heap.get? b=none->H b=none)
  (gh:∀ b o,g.get? b=some o->∃ o',s.heap.get? b=some o') (lo:g.get? a=none) (un:H a=none) (he:s.heap.get? a=some oe) (hc:oe.cls=C) (hd:oe.data=.fields vs) (hsz:1 < vs.size) (h0:vs[0]? = some a0)
  (h:∀ h',Ch g H (frs (env :: outer)) s.heap h'->ExS g H h' a C (some (rawInt L))->Q () { s with heap:=h' }) :
  wpAny M A (do let x <-frameOf env; let pl <-entryPlaceOf L hadNext; let b <-EntryCells.newEntry head x .none (rawInt L) .none pl; setField (.ref a) 1 b) Q E s:=by
 refine wpAny_entryW (base:=PySem.W.hideAll s.heap (a :: frs (env :: outer))) hfr (frames_rebase (fun b hb=>PySem.W.hideAll_none _ (List.mem_cons_of_mem _ hb)) hl) hf he (fun b o e=>PySem.W.of_hideAll _ e) (PySem.W.hideAll_none _ List.mem_cons_self) hd hsz h0 fun h' ⟨k1,k2,k3,k4⟩=>?_
 obtain ⟨oe',vs',T,oT,ts,e1,⟨e2,e20⟩,e3,e4,e5,e6,e7,e8,e9⟩:=k3
 have sl:∀ b o,b ∈ frs (env :: outer)->s.heap.get? b=some o->∃ sl,h'.get? b=some { o with slots:=sl }:=fun b o hb e=>by
  obtain ⟨_,o',e',nf⟩:=hl.mem hb
  rw [e] at e'; cases e'
  exact k4 b o e nf
 have kp:∀ b o,s.heap.get? b=some o->b ≠ a->b ∉ frs (env :: outer)->h'.get? b=some o:=fun b o e n1 n2=>k1 b o (PySem.W.hideAll_get _ e fun z=>(List.mem_cons.mp z).elim n1 n2)
 have hT:g.get? T=none/\H T=none:=by
  cases q:s.heap.get? T with
  | some o=>
   exfalso
   by_cases hfT:T ∈ frs (env :: outer)
   ·obtain ⟨_,o',e',nf⟩:=hl.mem hfT
    rw [q] at e'; cases e'
    obtain ⟨sl',e''⟩:=sl T o hfT q
    rw [e7] at e''; cases e''
    exact nf ts e8
   ·rw [PySem.W.hideAll_get _ q (fun z=>(List.mem_cons.mp z).elim e6 hfT)] at e5; cases e5
  | none=>
   refine ⟨?_,hk T q⟩
   cases q2:g.get? T with
   | none=>rfl
   | some o=>obtain ⟨o',e'⟩:=gh T o q2; rw [q] at e'; cases e'
 have ch:Ch g H (frs (env :: outer)) s.heap h':=⟨fun b o e q n=>kp b o e (fun z=>?_) n,fun b o hb e=>sl b o hb e,fun b o e=>?_⟩
 ·refine h h' ch ⟨fun b o e=>?_,lo,un,oe',vs',a0,e1,e2.trans hc,e3,e20,.inr ⟨T,oT,ts,_,rfl,e4,hT.1,hT.2,e6,e7,e8,e9⟩⟩
  obtain ⟨o',e'⟩:=gh b o e
  exact ch.there b o' e'
 ·subst z
  rcases q with ⟨o',q⟩ | q
  ·rw [lo] at q; cases q
  ·exact q un
 ·by_cases n2:b ∈ frs (env :: outer)
  ·obtain ⟨sl',e'⟩:=sl b o n2 e; exact ⟨_,e'⟩
  ·by_cases n1:b=a
   ·subst n1; exact ⟨_,e1⟩
   ·exact ⟨o,kp b o e n1 n2⟩
theorem frames_update {h:Heap} {l:List Env} {T:Addr} {oT:Obj} {ts:Array Value} {f:Obj->Obj} (hl:h.FunFrames base l) (hT:h.get? T=some oT) (hd:oT.data=.fields ts):(h.update T f).FunFrames base l:=
 hl.of_keeps fun b o hb nf=>⟨o,by rw [Heap.get?_update_other _ _ (fun z=>nf ts (by subst z; rw [hT] at hb; cases hb; exact hd))]; exact hb,rfl⟩
theorem ch_update {h:Heap} {fs:List Addr} {T:Addr} {oT:Obj} {ts:Array Value} {f:Array Value->Array Value} (hT:h.get? T=some oT) (hd:oT.data=.fields ts) (hg:g.get? T=none) (hH:H T=none) (hfs:T ∉ fs):Ch g H fs h (h.update T (Obj.mapFields f)):=by
 have self:(h.update T (Obj.mapFields f)).get? T=some (oT.mapFields f):=Heap.get?_update_self _ hT (Obj.isFreed_of_fields (Obj.data_mapFields hd f))
 refine ⟨fun b o e q n=>?_,fun b o m e=>⟨o.slots,?_⟩,fun b o e=>?_⟩
 ·rw [Heap.get?_update_other _ _ (fun z=>?_)]
  ·exact e
  ·subst z
   rcases q with ⟨o',q⟩ | q
   ·rw [hg] at q; cases q
   ·exact q hH
 ·rw [Heap.get?_update_other _ _ (fun z=>hfs (by rw [z]; exact m))]; exact e
 ·by_cases z:b=T
  ·subst z; exact ⟨_,self⟩
  ·exact ⟨o,by rw [Heap.get?_update_other _ _ (Ne.symm z)]; exact e⟩
theorem note_any {Q:Unit->Shared->Prop} (hfr:A.frames=some (env :: outer)) (hl:s.heap.FunFrames base (env :: outer)) (hf:env.frame=some L) (hk:∀ b,s.heap.get? b=none->H b=none) (x:ExS g H s.heap a C fl)
  (h:∀ h',Ch g H (frs (env :: outer)) s.heap h'->ExS g H h' a C (some (rawInt L))->Q () { s with heap:=h' }):wpAny M A (noteFrame (.ref a) env) Q E s:=by
 obtain ⟨gh,lo,un,oe,vs,a0,he,hc,hd,h0,hx⟩:=x
 unfold noteFrame
 simp only [hf]
 rcases hx with ⟨_,h1⟩ | ⟨T,oT,ts,f,_,h1,hgT,hHT,hTa,hT,hdT,h3⟩
 ·refine wpAny_bind (wpAny_field he hd h1 ?_)
  rw [if_neg (by decide)]
  exact entry_any hfr hl hf hk gh lo un he hc hd (Array.getElem?_eq_some_iff.mp h1).1 h0 h
 ·refine wpAny_bind (wpAny_field he hd h1 ?_)
  rw [if_pos (show (Value.ref T != Value.none)=true from by simp)]
  refine wpAny_bind (wpAny_field hT hdT h3 ?_)
  by_cases hfl:(f == rawInt L)=true
  ·rw [if_pos hfl]
   have e:f=rawInt L:=by simpa using hfl
   subst e
   exact wpAny_pure (h s.heap .refl ⟨gh,lo,un,oe,vs,a0,he,hc,hd,h0,.inr ⟨T,oT,ts,_,rfl,h1,hgT,hHT,hTa,hT,hdT,h3⟩⟩)
  ·rw [if_neg hfl]
   refine wpAny_bind (wpAny_setField hT hdT (Array.getElem?_eq_some_iff.mp h3).1 ?_)
   have hTf:T ∉ frs (env :: outer):=fun z=>by
    obtain ⟨_,o',e',nf⟩:=hl.mem z
    rw [hT] at e'; cases e'; exact nf ts hdT
   have c1:=ch_update (g:=g) (H:=H) (f:=(·.setIfInBounds 3 Value.none)) hT hdT hgT hHT hTf
   refine entry_any (s:={ s with heap:=s.heap.update T (Obj.mapFields (·.setIfInBounds 3 Value.none)) }) hfr (frames_update hl hT hdT) hf (fun b e=>?_) (fun b o e=>?_) lo un ?_ hc hd (Array.getElem?_eq_some_iff.mp h1).1 h0 fun h' ch ex=>h h' (c1.trans ch) ex
   ·refine hk b ?_
    cases q:s.heap.get? b with
    | none=>rfl
    | some o=>obtain ⟨o',e'⟩:=c1.there b o q; rw [show ({ s with heap:=s.heap.update T (Obj.mapFields (·.setIfInBounds 3 Value.none)) }:Shared).heap=s.heap.update T (Obj.mapFields (·.setIfInBounds 3 Value.none)) from rfl] at e; rw [e] at e'; cases e'
   ·obtain ⟨o',e'⟩:=gh b o e
    exact c1.there b o' e'
   ·show (s.heap.update T _).get? a=some oe
    rw [Heap.get?_update_other _ _ hTa]; exact he
theorem flight_any {Q:Unit->Shared->Prop} {fs:List Addr} (fr:Option Addr) (hfs:∀ b ∈ fs,∃ o,s.heap.get? b=some o/\∀ vs,o.data ≠ .fields vs) (x:ExS g H s.heap a C (some fv))
  (h:∀ h',Ch g H fs s.heap h'->ExS g H h' a C (some (fr.elim Value.none fun f=>rawInt f))->Q () { s with heap:=h' }):wpAny M A (setFlight (.ref a) fr) Q E s:=by
 obtain ⟨gh,lo,un,oe,vs,a0,he,hc,hd,h0,hx⟩:=x
 rcases hx with ⟨z,_⟩ | ⟨T,oT,ts,f,_,h1,hgT,hHT,hTa,hT,hdT,h3⟩
 ·cases z
 ·unfold setFlight
  refine wpAny_bind (wpAny_field he hd h1 ?_)
  rw [if_pos (show (Value.ref T != Value.none)=true from by simp)]
  have hTf:T ∉ fs:=fun z=>by obtain ⟨o,e1,e2⟩:=hfs T z; rw [hT] at e1; cases e1; exact e2 ts hdT
  have hsz:=(Array.getElem?_eq_some_iff.mp h3).1
  have c1:=ch_update (g:=g) (H:=H) (f:=(·.setIfInBounds 3 (fr.elim Value.none fun f=>rawInt f))) hT hdT hgT hHT hTf
  refine wpAny_setField hT hdT hsz (h _ c1 ⟨fun b o e=>?_,lo,un,oe,vs,a0,?_,hc,hd,h0,.inr ⟨T,_,_,_,rfl,h1,hgT,hHT,hTa,Heap.get?_update_self _ hT (Obj.isFreed_of_fields (Obj.data_mapFields hdT _)),Obj.data_mapFields hdT _,?_⟩⟩)
  ·obtain ⟨o',e'⟩:=gh b o e
   exact c1.there b o' e'
  ·rw [Heap.get?_update_other _ _ hTa]; exact he
  ·simp [hsz]
theorem frames_some {h:Heap} {l:List Env} (hl:h.FunFrames base l):∀ b ∈ frs l,∃ o,h.get? b=some o/\∀ vs,o.data ≠ .fields vs:=fun b hb=>let ⟨_,o,e,n⟩:=hl.mem hb; ⟨o,e,n⟩
theorem Ch.frames {fs:List Addr} {h h':Heap} {l:List Env} (c:Ch g H fs h h') (hs:∀ b ∈ frs l,b ∈ fs) (hl:h.FunFrames base l):h'.FunFrames base l:=by
 induction l with
 | nil=>trivial
 | cons env r ih=>
  obtain ⟨hk,⟨L,o,hf,hn,ho,hd⟩,hr⟩:=hl
  have e:frs (env :: r)=L :: frs r:=by unfold frs; rw [List.filterMap_cons,hf]
  obtain ⟨sl,e'⟩:=c.slot L o (hs L (by rw [e]; exact List.mem_cons_self)) ho
  exact ⟨hk,⟨L,_,hf,hn,e',hd⟩,ih (fun b hb=>hs b (by rw [e]; exact List.mem_cons_of_mem _ hb)) hr⟩
theorem leave_any {Q:Unit->Shared->Prop} (hfr:A.frames=some (env :: outer)) (hl:s.heap.FunFrames base (env :: outer)) (hf:env.frame=some L) (hk:∀ b,s.heap.get? b=none->H b=none) (x:ExS g H s.heap a C fl)
  (h:∀ h',Ch g H (frs (env :: outer)) s.heap h'->ExS g H h' a C (some .none)->Q () { s with heap:=h' }):wpAny M A (leaving env (.ref a)) Q E s:=by
 unfold leaving
 refine wpAny_bind (note_any hfr hl hf hk x fun h1 c1 x1=>?_)
 refine flight_any (s:={ s with heap:=h1 }) (fs:=frs (env :: outer)) none (frames_some (c1.frames (fun _ h=>h) hl)) x1 fun h2 c2 x2=>h h2 (c1.trans c2) x2
end
end L2.L3
namespace L2.L3
open PySem PySem.Spec PyProof.Rows
structure Cov (X:Cx) (pins:List (Addr × Obj)) (g:Heap):Prop where
 s0:∀ b o,X.s₀.heap.get? b=some o->b ∉ X.ex->∃ o',g.get? b=some o'
 loc:∃ o,g.get? X.env.locals=some o
 cell:∀ x c,X.env.cells.lookup x=some c->∃ o,g.get? c=some o
 pin:∀ p ∈ X.pn ++ pins,∃ o,g.get? p.1=some o
section
variable {X:Cx} {pins:List (Addr × Obj)} {σ:St} {H:Hp} {s:Shared} {g h':Heap}
theorem _root_.L2.Inv.cov (I:Inv X pins σ H s):Cov X pins s.heap:=by
 refine ⟨fun b o e n=>I.base.there b o e n,?_,fun x c e=>?_,fun p hp=>⟨_,(I.pin p hp).1⟩⟩
 ·obtain ⟨m,⟨o,es,ep,ho,_⟩,_⟩:=I.loc; exact ⟨o,ho⟩
 ·obtain ⟨v,o,ho,_⟩:=I.cell x c e; exact ⟨o,ho⟩
theorem _root_.L2.Inv.stkIn (I:Inv X pins σ H s) {b:Addr} (h:b ∉ frs X.stack):b ∉ X.fs:=by
 rcases I.ok.stk with e | ⟨e,hf⟩
 ·rw [e] at h; exact h
 ·rw [e] at h; unfold frs at h; rw [List.filterMap_cons,hf] at h; exact fun z=>h (List.mem_cons_of_mem _ z)
theorem _root_.L2.Inv.stkOut (I:Inv X pins σ H s) {b:Addr} (h:b ∉ X.fs) (h2:b ≠ X.env.locals):b ∉ frs X.stack:=fun z=>(List.mem_cons.mp (I.stkSub b z)).elim h2 h
theorem ns_slots {h h':Heap} {a:Addr} {m:Str->Option Value} (k:∀ o,h.get? a=some o->∃ sl,h'.get? a=some { o with slots:=sl }) (hn:h.Ns a m):h'.Ns a m:=by
 obtain ⟨o,es,ep,ho,hd,r⟩:=hn
 obtain ⟨sl,hs⟩:=k o ho
 exact ⟨_,es,ep,hs,hd,r⟩
theorem _root_.L2.Inv.ch (I:Inv X pins σ H s) (cv:Cov X pins g) (c:Ch g H (frs X.stack) s.heap h'):Inv X pins σ H { s with heap:=h' }:=by
 have ht:∀ b o,s.heap.get? b=some o->H b ≠ none->h'.get? b=some o:=fun b o e n=>c.keep b o e (.inr n) fun z=>n (I.stkFree b z)
 have ck:∀ x cc,X.env.cells.lookup x=some cc->∀ o,s.heap.get? cc=some o->∃ o',h'.get? cc=some o'/\o'.data=o.data:=fun x cc e o ho=>by
  by_cases hs:cc ∈ frs X.stack
  ·obtain ⟨sl,e1⟩:=c.slot cc o hs ho; exact ⟨_,e1,rfl⟩
  ·exact ⟨o,c.keep cc o ho (.inl (cv.cell x cc e)) hs,rfl⟩
 refine ⟨I.ok,I.os,I.bare,⟨fun b o e n hf hx=>?_,fun b o e n hf hx=>?_,fun b o e n hx=>I.base.free b o e n hx,fun b o e hx=>?_,I.base.tups,I.base.frzs,I.base.tbls⟩,?_,fun x cc e=>?_,I.free,I.freeC,fun p hp=>?_,fun b u e=>?_,I.len⟩
 ·have e1:=I.base.keep b o e n hf hx
  refine c.keep b o e1 (.inl (cv.s0 b o e hx)) (I.stkOut hf fun z=>?_)
  have h1:=I.ok.above
  have h2:b < X.s₀.heap.objs.size:=Heap.lt_size e
  rw [z] at h2
  exact Nat.lt_irrefl _ (Nat.lt_of_lt_of_le h2 h1)
 ·obtain ⟨sl,e1⟩:=I.base.slot b o e n hf hx
  by_cases hs:b ∈ frs X.stack
  ·obtain ⟨sl',e2⟩:=c.slot b _ hs e1; exact ⟨sl',e2⟩
  ·exact absurd hf (I.stkIn hs)
 ·obtain ⟨o1,e1⟩:=I.base.there b o e hx
  exact c.there b o1 e1
 ·obtain ⟨m,hn,hl⟩:=I.loc
  refine ⟨m,ns_slots (fun o ho=>?_) hn,fun i x v h1 h2 h3=>?_⟩
  ·by_cases hs:X.env.locals ∈ frs X.stack
   ·exact c.slot _ o hs ho
   ·exact ⟨o.slots,c.keep _ o ho (.inl cv.loc) hs⟩
  ·obtain ⟨u,r,l⟩:=hl i x v h1 h2 h3
   refine ⟨u,r,?_⟩
   rcases l with l | ⟨k,cc,e,o,ho,hd⟩
   ·exact .inl l
   ·obtain ⟨o',h1,h2⟩:=ck x cc e o ho
    exact .inr ⟨k,cc,e,o',h1,h2.trans hd⟩
 ·obtain ⟨v,o,ho,hd⟩:=I.cell x cc e
  obtain ⟨o',h1,h2⟩:=ck x cc e o ho
  exact ⟨v,o',h1,h2.trans hd⟩
 ·obtain ⟨h1,h2,h3,h4,h5⟩:=I.pin p hp
  exact ⟨c.keep _ _ h1 (.inl (cv.pin p hp)) (I.stkOut h4 h3),h2,h3,h4,h5⟩
 ·refine (I.hok b u e).stay (fun d v hd q=>ht d v q ?_) (fun _ q=>q) fun _ _ q=>q
  rcases hd with rfl | hd
  ·rw [e]; exact fun z=>by cases z
  ·rw [hd]; exact fun z=>by cases z
noncomputable def CXM (P:Program) (w:World):CXT:=fun outer H s E e s'=>∃ a C H',e=.ref a/\s'.os=s.os/\AllBare s'.gens/\Un (frs outer) [] H H' s.heap s'.heap/\HOk P w H' s'.heap/\ExS s.heap H' s'.heap a C (some .none)/\E C none H'
structure Fly (X:Cx) (pins:List (Addr × Obj)) (σ:St) (H:Hp) (s:Shared) (e:Value) (c:Str):Prop where
 inv:Inv X pins σ H s
 ex:∃ a C g fl,e=.ref a/\Cov X pins g/\ExS g H s.heap a C fl/\X.mg c=some C
noncomputable def glob (x:Str):Option PyData:=if x = "ANY_ZONE" then some (.tuple [.int 0,.tuple []]) else if x = "NO_DEEDS" then some (.tuple []) else none
noncomputable def isT:HO->Bool
 | .tup _=>true
 | .frz _ (.tup _)=>true
 | _=>false
theorem isT_nm {u:HO} (h:isT u=true):¬ Mv u:=fun m=>by
 cases u with
 | tup _=>exact m
 | frz _ _=>exact m
 | _=>cases h
noncomputable def tupH (H:Hp):Hp:=fun b=>match H b with
 | some u=>if isT u=true then some u else none
 | none=>none
theorem tup_at {H:Hp} {b:Addr} {o:HO} (h:tupH H b=some o):isT o=true/\H b=some o:=by
 unfold tupH at h
 split at h
 ·rename_i u e
  split at h
  ·rename_i t; cases h; exact ⟨t,e⟩
  ·cases h
 ·cases h
theorem at_tup {H:Hp} {b:Addr} {u:HO} (t:isT u=true) (h:H b=some u):tupH H b=some u:=by unfold tupH; rw [h]; exact if_pos t
noncomputable def GH (mg:Str->Option Value) (H:Hp):Prop:=∀ x d u,glob x=some d->mg x=some u->∃ v,RelV v u/\DV (tupH H) v d
noncomputable def GF (mg:Str->Option Value) (F:Fx):Prop:=GH mg fun b=>if b ∈ F.A₀ then none else F.H₀ b
theorem GH.mono {mg:Str->Option Value} {H H':Hp} (g:GH mg H) (k:∀ b u,isT u=true->H b=some u->H' b=some u):GH mg H':=fun x d u h1 h2=>by
 obtain ⟨v,r,dv⟩:=g x d u h1 h2
 exact ⟨v,r,DV.mono (fun b o e=>by obtain ⟨t,e1⟩:=tup_at e; exact at_tup t (k b o t e1)) dv⟩
theorem GF.at {mg:Str->Option Value} {K:PySem.W.Frag} {F:Fx} {H:Hp} {σ:St} {ρ:DEnv} {O:List Addr} (g:GF mg F) (st:DSt K F H σ ρ O):GH mg H:=GH.mono g fun b xs t e=>by
 obtain ⟨W,st,rfl⟩:=st
 split at e
 ·cases e
 ·rename_i hn; exact st.kept b _ hn e
theorem GH.frame {mg:Str->Option Value} {H:Hp} {A O:List Addr} {io:Nat->Addr} (g:GH mg H) (h:∀ a ∈ A,∃ o,H a=some o/\Mv o):GF mg ⟨H,A,O,io⟩:=GH.mono g fun b xs t e=>by
 show (if b ∈ A then none else H b)=_
 rw [if_neg,e]
 intro z
 obtain ⟨o,e1,m⟩:=h b z
 rw [e] at e1
 cases e1
 exact isT_nm t m
theorem GF.into {mg:Str->Option Value} {K:PySem.W.Frag} {F:Fx} {H:Hp} {σ:St} {ρ:DEnv} {O O':List Addr} {io:Nat->Addr} (g:GF mg F) (st:DSt K F H σ ρ O):GF mg ⟨H,[],O',io⟩:=(g.at st).frame fun a h=>by cases h
noncomputable def XOk (X:Cx) (F:Fx) (E:Str->DEnv->Prop):Prop:=GF X.mg F/\∀ (pins:List (Addr × Obj)) (σ:St) (H:Hp) (s:Shared) (e:Value) (c:Str) (ρ:DEnv) (O:List Addr),Fly X pins σ H s e c->DSt X.K F H σ ρ O->E c ρ->X.xe e s
theorem ExS.weak {g g':Heap} {H:Hp} {h:Heap} {a:Addr} {C:Value} {fl:Option Value} (x:ExS g H h a C fl) (k:∀ b o,g'.get? b=some o->∃ o',g.get? b=some o'):ExS g' H h a C fl:=by
 have nn:∀ b,g.get? b=none->g'.get? b=none:=fun b e=>by
  cases q:g'.get? b with
  | none=>rfl
  | some o=>obtain ⟨o',e'⟩:=k b o q; rw [e] at e'; cases e'
 obtain ⟨gh,lo,un,oe,vs,a0,he,hc,hd,h0,hx⟩:=x
 refine ⟨fun b o e=>let ⟨o',e'⟩:=k b o e; gh b o' e',nn a lo,un,oe,vs,a0,he,hc,hd,h0,hx.imp id ?_⟩
 rintro ⟨T,oT,ts,f,h1,h2,h3,h4⟩
 exact ⟨T,oT,ts,f,h1,h2,nn T h3,h4⟩
theorem _root_.L2.Inv.flies {E:XK} {e:Value} {s':Shared} (I:Inv X pins σ H s) (h:CXM X.prog X.w X.stack H s E e s'):∃ a C H',e=.ref a/\Inv X pins σ H' s'/\Cov X pins s.heap/\ExS s.heap H' s'.heap a C (some .none)/\E C none H':=by
 obtain ⟨a,C,H',e1,os,bare,un,hok,ex,q⟩:=h
 obtain ⟨hh,g,d,t,os'⟩:=s'
 obtain rfl:os' = s.os:=os
 exact ⟨a,C,H',e1,I.call (h':=hh) (g':=g) (d':=d) (t':=t) (ch:=[]) un hok bare (fun b z=>absurd z (by simp)),I.cov,ex,q⟩
end
theorem xok_fn {P:Program} {w:World} {K:PySem.W.Frag} {mg:Str->Option Value} {base:Heap} {N:List Str} {qual:Str} {scope:Scope} {f:Addr} {cd:Value} {A:Around} {outer:List Env} {s:Shared} {H:Hp} {E:XK} {F:Fx} {E':Str->DEnv->Prop}
  (hG:GF mg F) (hE:∀ c C ρ' σ' H' O',mg c=some C->DSt K F H' σ' ρ' O'->E' c ρ'->E C none H'):XOk (cxOf (CXM P w) P w K mg base N qual scope f cd A outer s H E) F E':=by
 refine ⟨hG,?_⟩
 intro pins σ H1 s1 e c ρ O ⟨I,a,C,g,fl,e1,cv,ex,hm⟩ st q
 subst e1
 have fr:(A.deeper (envOfC qual scope s.heap.objs.size f cd)).frames=some (envOfC qual scope s.heap.objs.size f cd :: outer):=I.ok.frames
 have hb:∀ b,s1.heap.get? b=none->H1 b=none:=fun b z=>HOk.some_of I.hok z
 have stk:frs (envOfC qual scope s.heap.objs.size f cd :: outer)=s.heap.objs.size :: frs outer:=rfl
 refine leave_any (base:=base) fr I.stack rfl hb ex fun h' ch ex'=>?_
 have J:=I.ch cv ch
 refine ⟨a,C,H1,rfl,J.os,J.bare,J.base,J.hok,ex'.weak fun b o eb=>cv.s0 b o eb (by intro z; cases z),hE c C ρ σ H1 O hm st q⟩
end L2.L3
namespace L2.L3
open PySem PySem.Spec PyProof.Rows
noncomputable def Fx.plus (F:Fx) (fp:List Addr):Fx:={ F with O₀:=fp ++ F.O₀ }
theorem Fx.plus_plus {F:Fx} {l m:List Addr}:(F.plus l).plus m=F.plus (m ++ l):=by unfold Fx.plus; simp
section
variable {K:PySem.W.Frag} {F:Fx} {H H':Hp} {σ:St} {ρ:DEnv} {O O':List Addr} {W:List (List Addr)} {fp:List Addr} {v:V} {c:Cell}
structure Res (K:PySem.W.Frag) (F:Fx) (H:Hp) (σ:St) (ρ:DEnv) (O:List Addr) (v:V) (c:Cell) (fp:List Addr):Prop where
 st:DSt K (F.plus fp) H σ ρ O
 at_:CellAt K H O v c fp
 new:∀ a ∈ fp,a ∈ F.A₀\/F.H₀ a=none
theorem stp_less (h:∀ a ∈ O',a ∈ O):Stp O H O' H:=⟨fun _ _ _ e=>e,fun a z=>.inl (h a z)⟩
theorem DStW.less {F':Fx} (st:DStW K F H σ ρ W) (h1:F'.H₀=F.H₀) (h2:F'.A₀=F.A₀) (h4:F'.I₀=F.I₀) (h3:F'.O₀.Sublist F.O₀):DStW K F' H σ ρ W:=by
 have sub:(W.flatten ++ F'.O₀).Sublist (W.flatten ++ F.O₀):=List.Sublist.append (List.Sublist.refl _) h3
 have mem:∀ a ∈ W.flatten ++ F'.O₀,a ∈ W.flatten ++ F.O₀:=fun a h=>sub.subset h
 refine ⟨fun i c e=>?_,st.nd.sublist sub,by rw [h1,h2]; exact st.kept,by rw [h1,h2]; exact st.new,fun a h=>st.live a (mem a h),st.len,st.lw,by rw [h4]; exact st.io⟩
 obtain ⟨v,fp,e1,e2,e3⟩:=st.at_ i c e
 exact ⟨v,fp,e1,e2,e3.keep (stp_less mem) (fun _ _=>rfl) (fun _ _ _ e=>e)⟩
theorem DSt.unplus (st:DSt K (F.plus fp) H σ ρ O):∃ O',DSt K F H σ ρ O'/\Stp O H O' H/\(∀ a ∈ fp,a ∉ O'):=by
 obtain ⟨W,st,rfl⟩:=st
 have st':DStW K F H σ ρ W:=st.less rfl rfl rfl (List.sublist_append_right _ _)
 refine ⟨_,⟨W,st',rfl⟩,stp_less fun a h=>?_,fun a ha z=>?_⟩
 ·rcases List.mem_append.mp h with h | h
  ·exact List.mem_append_left _ h
  ·exact List.mem_append_right _ (List.mem_append_right _ h)
 ·have nd:(W.flatten ++ (fp ++ F.O₀)).Nodup:=st.nd
  obtain ⟨_,n2,n3⟩:=List.nodup_append.mp nd
  rcases List.mem_append.mp z with z | z
  ·exact n3 a z a (List.mem_append_left _ ha) rfl
  ·exact (List.nodup_append.mp n2).2.2 a ha a z rfl
theorem Res.drop (r:Res K F H σ ρ O v c fp):∃ O',DSt K F H σ ρ O'/\Stp O H O' H:=let ⟨O',h1,h2,_⟩:=r.st.unplus; ⟨O',h1,h2⟩
@[simp] noncomputable def frz:Cell->Option PyData
 | .dat d=>some d
 | .own _ (.l ds)=>some (.list ds)
 | _=>none
theorem Res.frz {d:PyData} (r:Res K F H σ ρ O v c fp) (e:frz c=some d):∃ O',DSt K F H σ ρ O'/\Stp O H O' H/\DV (hide O' H) v d:=by
 obtain ⟨O',h1,h2,h3⟩:=r.st.unplus
 refine ⟨O',h1,h2,?_⟩
 have ra:=r.at_
 cases c with
 | dat x=>cases e; exact DV.mono h2.hid ra
 | scr ns=>cases e
 | exc c=>cases e
 | vw c=>cases e
 | own io b=>
  cases b with
  | l ds=>
   cases e
   obtain ⟨a,rfl,rfl,xs,e1,e2⟩:=ra
   exact .lst (hide_of e1 (h3 a (by simp))) (DVs.mono h2.hid e2)
  | m _ _=>cases e
  | o _ _=>cases e
  | sd _=>cases e
  | ll _=>cases e
theorem res_dat (st:DSt K F H σ ρ O) {d:PyData} (h:DV (hide O H) v d):Res K F H σ ρ O v (.dat d) []:=⟨st,h,fun a h=>by cases h⟩
theorem DSt.put1 {io:Bool} (st:DSt K (F.plus fp) H σ ρ O) (hc:CellAt K H O v c fp) (new:∀ a ∈ fp,a ∈ F.A₀\/F.H₀ a=none) {i:Nat} (hi:i < ρ.length) (hio:∀ b,c=.own true b->v=.ref (F.I₀ i)) :
  ∃ O',DSt K F H (σ.set i (some v)) (ρ.set i (some c)) O'/\Stp O H O' H:=by
 obtain ⟨W,st,rfl⟩:=st
 have nd:(W.flatten ++ (fp ++ F.O₀)).Nodup:=st.nd
 obtain ⟨n1,n2,n3⟩:=List.nodup_append.mp nd
 obtain ⟨n4,n5,n6⟩:=List.nodup_append.mp n2
 have hiW:i < W.length:=by rw [st.lw]; exact hi
 have sub:∀ a ∈ (W.set i fp).flatten ++ F.O₀,a ∈ W.flatten ++ (fp ++ F.O₀):=fun a h=>by
  rcases List.mem_append.mp h with h | h
  ·rcases mem_flat_set h with h | ⟨j,l,_,e,hl⟩
   ·exact List.mem_append_right _ (List.mem_append_left _ h)
   ·exact List.mem_append_left _ (mem_flat_of e hl)
  ·exact List.mem_append_right _ (List.mem_append_right _ h)
 have stp:=stp_less (H:=H) sub
 refine ⟨_,⟨W.set i fp,⟨fun j d e=>?_,nodup_set (List.nodup_append.mpr ⟨n1,n5,fun a ha b hb=>n3 a ha b (List.mem_append_right _ hb)⟩) n4 fun a ha=>⟨fun j l _ e z=>n3 a (mem_flat_of e z) a (List.mem_append_left _ ha) rfl,fun z=>n6 a ha a z rfl⟩,st.kept,fun a h=>?_,fun a h=>st.live a (sub a h),by rw [List.length_set,List.length_set,st.len],by rw [List.length_set,List.length_set,st.lw],fun j b e=>?_⟩,rfl⟩,stp⟩
 ·rcases get_set e with ⟨rfl,e1,_⟩ | ⟨hj,e1⟩
  ·cases e1
   exact ⟨v,fp,List.getElem?_set_self (by rw [<-st.len]; exact hi),List.getElem?_set_self hiW,hc.keep stp (fun _ _=>rfl) (fun _ _ _ e=>e)⟩
  ·obtain ⟨w,l,h1,h2,h3⟩:=st.at_ j d e1
   exact ⟨w,l,by rw [List.getElem?_set_ne (Ne.symm hj)]; exact h1,by rw [List.getElem?_set_ne (Ne.symm hj)]; exact h2,h3.keep stp (fun _ _=>rfl) (fun _ _ _ e=>e)⟩
 ·rcases mem_flat_set h with h | ⟨j,l,_,e,hl⟩
  ·exact new a h
  ·exact st.new a (mem_flat_of e hl)
 ·rcases get_set e with ⟨rfl,e1,_⟩ | ⟨hj,e1⟩
  ·rw [List.getElem?_set_self (by rw [<-st.len]; exact hi),hio b (Option.some.inj e1).symm]
  ·rw [List.getElem?_set_ne (Ne.symm hj)]; exact st.io j b e1
theorem DSt.take (st:DSt K F H σ ρ O) {i:Nat} {io:Bool} {b:Bx} (e:ρ[i]? = some (some (.own io b))):∃ a fp O',σ[i]? = some (some (.ref a))/\DSt K (F.plus fp) H σ (ρ.set i none) O'/\BoxAt (hide O' H) H a b fp/\Stp O H O' H/\Stp O' H O H/\(∀ a ∈ fp,a ∈ F.A₀\/F.H₀ a=none)/\(io=true->a=F.I₀ i):=by
 obtain ⟨W,st,rfl⟩:=st
 obtain ⟨v,fp,h1,h2,a,rfl,h3⟩:=st.at_ i _ e
 have hi:i < ρ.length:=(List.getElem?_eq_some_iff.mp e).1
 have hiW:i < W.length:=by rw [st.lw]; exact hi
 obtain ⟨n1,n2,n3⟩:=List.nodup_append.mp st.nd
 have s1:∀ x ∈ (W.set i []).flatten ++ (fp ++ F.O₀),x ∈ W.flatten ++ F.O₀:=fun x h=>by
  rcases List.mem_append.mp h with h | h
  ·rcases mem_flat_set h with h | ⟨j,l,_,ej,hl⟩
   ·cases h
   ·exact List.mem_append_left _ (mem_flat_of ej hl)
  ·rcases List.mem_append.mp h with h | h
   ·exact List.mem_append_left _ (mem_flat_of h2 h)
   ·exact List.mem_append_right _ h
 have s2:∀ x ∈ W.flatten ++ F.O₀,x ∈ (W.set i []).flatten ++ (fp ++ F.O₀):=fun x h=>by
  rcases List.mem_append.mp h with h | h
  ·obtain ⟨l,hl,hx⟩:=List.mem_flatten.mp h
   obtain ⟨j,hj⟩:=List.getElem?_of_mem hl
   by_cases hji:j=i
   ·subst hji; rw [h2] at hj; cases hj; exact List.mem_append_right _ (List.mem_append_left _ hx)
   ·exact List.mem_append_left _ (flat_set_mem hji hj hx)
  ·exact List.mem_append_right _ (List.mem_append_right _ h)
 have nfp:fp.Nodup:=by
  have:∀ {W:List (List Addr)} {i:Nat} {l:List Addr},W.flatten.Nodup->W[i]? = some l->l.Nodup:=fun {W i l} nd hl=>nd.sublist (by
   have:=List.mem_of_getElem? hl
   exact List.sublist_flatten_of_mem this)
  exact this n1 h2
 have nd':((W.set i []).flatten ++ (fp ++ F.O₀)).Nodup:=by
  have q:((W.set i []).flatten ++ ([] ++ F.O₀)).Nodup:=nodup_set (fp:=[]) (O:=F.O₀) st.nd List.nodup_nil (fun a h=>by cases h)
  obtain ⟨q1,_,q3⟩:=List.nodup_append.mp q
  refine List.nodup_append.mpr ⟨q1,List.nodup_append.mpr ⟨nfp,n2,fun x hx y hy z=>n3 x (mem_flat_of h2 hx) y hy z⟩,fun x hx y hy z=>?_⟩
  subst z
  rcases List.mem_append.mp hy with hy | hy
  ·rcases mem_flat_set hx with hx | ⟨j,l,hj,ej,hl⟩
   ·cases hx
   ·exact flat_disj n1 h2 ej (Ne.symm hj) hy hl
  ·exact q3 x hx x hy rfl
 have stp:=stp_less (H:=H) s1
 have k:=stp_less (H:=H) s2
 refine ⟨a,fp,_,h1,⟨W.set i [],⟨fun j d ej=>?_,nd',st.kept,fun x h=>?_,fun x h=>st.live x (s1 x h),by rw [List.length_set,st.len],by rw [List.length_set,List.length_set,st.lw],fun j b' ej=>?_⟩,rfl⟩,h3.keep (fun _ _=>rfl) stp.hid,stp,k,fun x hx=>st.new x (mem_flat_of h2 hx),fun hio=>?_⟩
 ·rcases get_set ej with ⟨rfl,e1,_⟩ | ⟨hj,e1⟩
  ·cases e1
  ·obtain ⟨w,l,q1,q2,q3⟩:=st.at_ j d e1
   exact ⟨w,l,q1,by rw [List.getElem?_set_ne (Ne.symm hj)]; exact q2,q3.keep stp (fun _ _=>rfl) (fun _ _ _ e=>e)⟩
 ·rcases mem_flat_set h with h | ⟨j,l,_,ej,hl⟩
  ·cases h
  ·exact st.new x (mem_flat_of ej hl)
 ·rcases get_set ej with ⟨rfl,e1,_⟩ | ⟨hj,e1⟩
  ·cases e1
  ·exact st.io j b' e1
 ·subst hio
  have:=st.io i b e
  rw [h1] at this
  cases this; rfl
theorem DSt.swap {L L':List Addr} (st:DSt K (F.plus L) H σ ρ O) (keep:∀ b o,b ∉ L->H b=some o->H' b=some o) (nd:L'.Nodup) (new:∀ a ∈ L',a ∈ L\/H a=none) (hA:∀ a ∈ L,a ∈ F.A₀\/F.H₀ a=none) (liv:∀ a ∈ L',∃ o,H' a=some o/\Mv o) :
  ∃ O',DSt K (F.plus L') H' σ ρ O'/\Stp O H O' H'/\(∀ a ∈ L',a ∈ O')/\(∀ a ∈ O',a ∈ L'\/a ∈ O/\a ∉ L)/\∀ a ∈ O,a ∉ L->a ∈ O':=by
 obtain ⟨W,st,rfl⟩:=st
 have ndO:(W.flatten ++ (L ++ F.O₀)).Nodup:=st.nd
 obtain ⟨n1,n2,n3⟩:=List.nodup_append.mp ndO
 obtain ⟨n4,n5,n6⟩:=List.nodup_append.mp n2
 have wl:∀ a ∈ W.flatten,a ∉ L:=fun a h z=>n3 a h a (List.mem_append_left _ z) rfl
 have ol:∀ a ∈ F.O₀,a ∉ L:=fun a h z=>n6 a z a h rfl
 have lv:∀ a ∈ W.flatten ++ F.O₀,∃ o,H a=some o/\Mv o:=fun a h=>st.live a (by
  rcases List.mem_append.mp h with h | h
  ·exact List.mem_append_left _ h
  ·exact List.mem_append_right _ (List.mem_append_right _ h))
 have kp:∀ a ∈ W.flatten ++ F.O₀,H' a=H a:=fun a h=>by
  obtain ⟨o,e,_⟩:=lv a h
  rw [e]
  exact keep a o ((List.mem_append.mp h).elim (wl a) (ol a)) e
 have ap:∀ a ∈ L',a ∉ W.flatten ++ F.O₀:=fun a h z=>by
  rcases new a h with q | q
  ·rcases List.mem_append.mp z with z | z
   ·exact wl a z q
   ·exact ol a z q
  ·obtain ⟨o,e,_⟩:=lv a z; rw [q] at e; cases e
 have stp:Stp (W.flatten ++ (L ++ F.O₀)) H (W.flatten ++ (L' ++ F.O₀)) H':=⟨fun b o hb e=>keep b o (fun z=>hb (List.mem_append_right _ (List.mem_append_left _ z))) e,fun a h=>by
  rcases List.mem_append.mp h with h | h
  ·exact .inl (List.mem_append_left _ h)
  ·rcases List.mem_append.mp h with h | h
   ·exact (new a h).imp (fun z=>List.mem_append_right _ (List.mem_append_left _ z)) id
   ·exact .inl (List.mem_append_right _ (List.mem_append_right _ h))⟩
 have zf:∀ b o u,H b=some (.frz o u)->H' b=some (.frz o u):=fun b o u e=>keep b _ (fun z=>st.nofrz (List.mem_append_right _ (List.mem_append_left _ z)) e) e
 refine ⟨_,⟨W,⟨fun i c e=>?_,?_,fun b o hb e=>?_,st.new,fun a h=>?_,st.len,st.lw,st.io⟩,rfl⟩,stp,fun a h=>List.mem_append_right _ (List.mem_append_left _ h),fun a h=>?_,fun a h hn=>?_⟩
 ·obtain ⟨v,fp,h1,h2,h3⟩:=st.at_ i c e
  exact ⟨v,fp,h1,h2,h3.keep stp (fun b hb=>kp b (List.mem_append_left _ (mem_flat_of h2 hb))) zf⟩
 ·refine List.nodup_append.mpr ⟨n1,List.nodup_append.mpr ⟨nd,n5,fun a ha b hb z=>?_⟩,fun a ha b hb z=>?_⟩
  ·subst z; exact ap a ha (List.mem_append_right _ hb)
  ·subst z
   rcases List.mem_append.mp hb with hb | hb
   ·exact ap a hb (List.mem_append_left _ ha)
   ·exact n3 a ha a (List.mem_append_right _ hb) rfl
 ·have e1:=st.kept b o hb e
  by_cases hL:b ∈ L
  ·rcases hA b hL with q | q
   ·exact absurd q hb
   ·have e':F.H₀ b=some o:=e
    rw [q] at e'; cases e'
  ·exact keep b o hL e1
 ·rcases List.mem_append.mp h with h | h
  ·obtain ⟨o,e1,e2⟩:=lv a (List.mem_append_left _ h)
   exact ⟨o,by rw [kp a (List.mem_append_left _ h)]; exact e1,e2⟩
  ·rcases List.mem_append.mp h with h | h
   ·exact liv a h
   ·obtain ⟨o,e1,e2⟩:=lv a (List.mem_append_right _ h)
    exact ⟨o,by rw [kp a (List.mem_append_right _ h)]; exact e1,e2⟩
 ·rcases List.mem_append.mp h with h | h
  ·exact .inr ⟨List.mem_append_left _ h,wl a h⟩
  ·rcases List.mem_append.mp h with h | h
   ·exact .inl h
   ·exact .inr ⟨List.mem_append_right _ (List.mem_append_right _ h),ol a h⟩
 ·rcases List.mem_append.mp h with h | h
  ·exact List.mem_append_left _ h
  ·rcases List.mem_append.mp h with h | h
   ·exact absurd h hn
   ·exact List.mem_append_right _ (List.mem_append_right _ h)
end
noncomputable abbrev DTO:=DEnv->(Cell->DEnv->Prop)->Prop
noncomputable def MnO (t:DTO):Prop:=∀ ρ Q Q',(∀ c ρ',Q c ρ'->Q' c ρ')->t ρ Q->t ρ Q'
noncomputable def rdO (K:PySem.W.Frag) (F:Fx) (t:DTO):TE:=fun σ H Q=>∃ ρ O,DSt K F H σ ρ O/\t ρ fun c ρ'=>∀ v H' O' fp,Res K F H' σ ρ' O' v c fp->Stp O H O' H'->Q v H'
structure DO (X:Cx) (F:Fx) (e:Expr) (t:DTO):Prop where
 mn:MnO t
 pe:PE X e (rdO X.K F t)
section
variable {X:Cx} {F:Fx} {e:Expr} {te:DT} {to:DTO}
noncomputable def dFrz (t:DTO):DT:=fun ρ Q=>t ρ fun c ρ'=>∃ d,frz c=some d/\Q d ρ'
theorem DO.de (h:DO X F e to):DE X F e (dFrz to):=
 ⟨fun _ _ _ k q=>h.mn _ _ _ (fun _ _ ⟨d,e,q⟩=>⟨d,e,k _ _ q⟩) q,h.pe.imp fun σ H Q ⟨ρ,O,st,q⟩=>⟨ρ,O,st,h.mn _ _ _ (fun c ρ' ⟨d,e,q⟩ v H' O' fp r s=>by
  obtain ⟨O2,st2,s2,dv⟩:=r.frz e
  exact q v H' O2 st2 (s.trans s2) dv) q⟩⟩
end
end L2.L3
namespace L2.L3
open PySem PySem.Spec PyProof.Rows
noncomputable abbrev DTG:=PyData->DEnv->(DEnv->Prop)->Prop
noncomputable def rdG (K:PySem.W.Frag) (F:Fx) (t:DTG):TG:=fun v σ H Q=>∃ ρ O d,DSt K F H σ ρ O/\DV (hide O H) v d/\t d ρ fun ρ'=>∀ σ' H' O',DSt K F H' σ' ρ' O'->Stp O H O' H'->Q σ' H'
structure DG (X:Cx) (F:Fx) (tg:Expr) (t:DTG):Prop where
 mn:∀ d ρ Q Q',(∀ ρ',Q ρ'->Q' ρ')->t d ρ Q->t d ρ Q'
 pg:PG X tg (rdG X.K F t)
noncomputable abbrev DTGs:=List PyData->DEnv->(DEnv->Prop)->Prop
noncomputable def rdGs (K:PySem.W.Frag) (F:Fx) (t:DTGs):TGs:=fun vs σ H Q=>∃ ρ O ds,DSt K F H σ ρ O/\DVs (hide O H) vs ds/\t ds ρ fun ρ'=>∀ σ' H' O',DSt K F H' σ' ρ' O'->Stp O H O' H'->Q σ' H'
structure DGs (X:Cx) (F:Fx) (tg:List Expr) (t:DTGs):Prop where
 mn:∀ d ρ Q Q',(∀ ρ',Q ρ'->Q' ρ')->t d ρ Q->t d ρ Q'
 pg:PGs X tg (rdGs X.K F t)
theorem _root_.L2.PG.imp {X:Cx} {e:Expr} {t t':TG} (h:PG X e t) (k:∀ v σ H Q,t' v σ H Q->t v σ H Q):PG X e t':=fun pins s σ H v u Q I r q=>h pins s σ H v u Q I r (k v σ H Q q)
theorem _root_.L2.PGs.imp {X:Cx} {e:List Expr} {t t':TGs} (h:PGs X e t) (k:∀ v σ H Q,t' v σ H Q->t v σ H Q):PGs X e t':=fun pins s σ H v u Q I r q=>h pins s σ H v u Q I r (k v σ H Q q)
section
variable {X:Cx} {F:Fx} {e:Expr} {es:List Expr} {pos:Pos} {x:Str} {t:DTG} {ts:DTGs}
noncomputable def gN (i:Nat):DTG:=fun d ρ Q=>Q (ρ.set i (some (.dat d)))
theorem dg_name {i:Nat} (h:PG X (.Name x pos) (gName i)):DG X F (.Name x pos) (gN i):=⟨fun _ _ _ _ k q=>k _ q,h.imp fun v σ H Q ⟨ρ,O,d,st,hd,q⟩=>q _ H O (st.set hd) .refl⟩
noncomputable def gNl:DTGs:=fun ds ρ Q=>ds=[]/\Q ρ
noncomputable def gCs (t:DTG) (u:DTGs):DTGs:=fun ds ρ Q=>∃ d r,ds=d :: r/\t d ρ fun ρ'=>u r ρ' Q
theorem dgs_nil:DGs X F [] gNl:=⟨fun _ _ _ _ k q=>⟨q.1,k _ q.2⟩,pgs_nil.imp fun vs σ H Q ⟨ρ,O,ds,st,hd,e,q⟩=>by
 subst e
 cases hd
 exact ⟨rfl,q _ H O st .refl⟩⟩
theorem dgs_cons (h1:DG X F e t) (h2:DGs X F es ts) (hs:(assignEach (e :: es) X.env).map (·.2)=assign e X.env :: (assignEach es X.env).map (·.2):=by rfl):DGs X F (e :: es) (gCs t ts):=
 ⟨fun _ _ _ _ k ⟨d,r,e,q⟩=>⟨d,r,e,h1.mn _ _ _ _ (fun _ q1=>h2.mn _ _ _ _ k q1) q⟩,(pgs_cons h1.pg h2.pg hs).imp fun vs σ H Q ⟨ρ,O,ds,st,hd,d,r,e,q⟩=>by
  subst e
  cases hd with
  | cons hd hr=>
   exact ⟨_,_,rfl,ρ,O,d,st,hd,h1.mn _ _ _ _ (fun ρ1 q1 σ1 H1 O1 st1 s1=>⟨ρ1,O1,r,st1,DVs.mono s1.hid hr,h2.mn _ _ _ _ (fun ρ2 q2 σ2 H2 O2 st2 s2=>q2 σ2 H2 O2 st2 (s1.trans s2)) q1⟩) q⟩⟩
noncomputable def gTp (n:Nat) (t:DTGs):DTG:=fun d ρ Q=>∃ ds,d=.tuple ds/\ds.length=n/\t ds ρ Q
theorem dg_tup {k n:Nat} (hc:X.calm=true) (h:DGs X F es ts) (hn:(assignEach es X.env).length=n:=by rfl) (hst:(assignEach es X.env).findIdx? (·.1)=none:=by rfl):DG X F (.Tuple es k pos) (gTp n ts):=
 ⟨fun _ _ _ _ k ⟨ds,e,l,q⟩=>⟨ds,e,l,h.mn _ _ _ _ k q⟩,(pg_tup hc h.pg hn hst).imp fun v σ H Q ⟨ρ,O,d,st,hd,ds,e,l,q⟩=>by
  subst e
  obtain ⟨a,xs,rfl,ha,hx⟩:=hd.tup_inv
  exact ⟨a,xs,rfl,.inl (of_hideR ha).1,by rw [hx.length]; exact l,ρ,O,ds,st,hx,q⟩⟩
end
structure DEnds where
 nx:DEnv->Prop
 rt:Cell->DEnv->Prop
 bk:DEnv->Prop:=fun _=>False
 ct:DEnv->Prop:=fun _=>False
noncomputable abbrev DTS:=DEnds->DEnv->Prop
structure Fits (K:PySem.W.Frag) (F:Fx) (O:List Addr) (H:Hp) (D:Ends) (DD:DEnds):Prop where
 nx:∀ σ' H' ρ' O',DSt K F H' σ' ρ' O'->Stp O H O' H'->DD.nx ρ'->D.nx σ' H'
 rt:∀ v σ' H' c ρ' O' fp,Res K F H' σ' ρ' O' v c fp->Stp O H O' H'->DD.rt c ρ'->D.rt v H'
 bk:∀ σ' H' ρ' O',DSt K F H' σ' ρ' O'->Stp O H O' H'->DD.bk ρ'->D.bk σ' H'
 ct:∀ σ' H' ρ' O',DSt K F H' σ' ρ' O'->Stp O H O' H'->DD.ct ρ'->D.ct σ' H'
theorem Fits.later {K:PySem.W.Frag} {F:Fx} {O O':List Addr} {H H':Hp} {D:Ends} {DD:DEnds} (f:Fits K F O H D DD) (s:Stp O H O' H'):Fits K F O' H' D DD:=
 ⟨fun σ H ρ O st s' q=>f.nx σ H ρ O st (s.trans s') q,fun v σ H c ρ O fp r s' q=>f.rt v σ H c ρ O fp r (s.trans s') q,fun σ H ρ O st s' q=>f.bk σ H ρ O st (s.trans s') q,fun σ H ρ O st s' q=>f.ct σ H ρ O st (s.trans s') q⟩
noncomputable def rdS (K:PySem.W.Frag) (F:Fx) (t:DTS):TS:=fun D σ H=>∃ ρ O DD,DSt K F H σ ρ O/\t DD ρ/\Fits K F O H D DD
noncomputable def DS (X:Cx) (F:Fx) (s:Stmt) (t:DTS):Prop:=PS X s (rdS X.K F t)
noncomputable def DSs (X:Cx) (F:Fx) (s:List Stmt) (t:DTS):Prop:=PSs X s (rdS X.K F t)
section
variable {X:Cx} {F:Fx} {e:Expr} {es:List Expr} {st:Stmt} {rest:List Stmt} {t u:DTS} {te:DT} {to:DTO} {tA:DTA} {tc:DTT} {tg:DTG} {pos:Pos} {x:Str}
noncomputable def sNext:DTS:=fun D ρ=>D.nx ρ
noncomputable def sSeq (t u:DTS):DTS:=fun D ρ=>t { D with nx:=fun ρ'=>u D ρ' } ρ
theorem dss_nil:DSs X F [] sNext:=pss_nil.imp fun D σ H ⟨ρ,O,DD,st,q,f⟩=>f.nx σ H ρ O st .refl q
theorem dss_cons (h1:DS X F st t) (h2:DSs X F rest u):DSs X F (st :: rest) (sSeq t u):=
 (pss_cons h1 h2).imp fun D σ H ⟨ρ,O,DD,s,q,f⟩=>⟨ρ,O,_,s,q,⟨fun σ' H' ρ' O' st' s' q'=>⟨ρ',O',DD,st',q',f.later s'⟩,f.rt,f.bk,f.ct⟩⟩
theorem dss_one (h:DS X F st t):DSs X F [st] t:=pss_one h
noncomputable def sSet (te:DT) (tg:DTG):DTS:=fun D ρ=>te ρ fun d ρ'=>tg d ρ' D.nx
theorem ds_set {i:Nat} {pos':Pos} (hN:X.N.Nodup) (hi:X.N[i]? = some x) (hx:Loc X.env.scope x) (he:DE X F e te) (hs:swapsWith e (some (.Name x pos')) pos.line X.env=pure false:=by rfl)
  (hf:X.fn x=true\/X.env.scope.names.lookup x=some .local:=by first | exact .inl rfl | exact .inr rfl | assumption):DS X F (.Assign [.Name x pos'] e pos) (sSet te (gN i)):=
 (ps_set hN hi hx he.pe hs hf).imp fun D σ H ⟨ρ,O,DD,st,q,f⟩=>⟨ρ,O,st,he.mn _ _ _ (fun d ρ1 q1 v H1 O1 st1 s1 d1=>f.nx _ H1 _ O1 (st1.set d1) s1 q1) q⟩
noncomputable def sRet (te:DT):DTS:=fun D ρ=>te ρ fun d ρ'=>D.rt (.dat d) ρ'
theorem ds_ret (he:DE X F e te):DS X F (.Return (some e) pos) (sRet te):=
 (ps_ret he.pe).imp fun D σ H ⟨ρ,O,DD,st,q,f⟩=>⟨ρ,O,st,he.mn _ _ _ (fun d ρ1 q1 v H1 O1 st1 s1 d1=>f.rt v σ H1 (.dat d) ρ1 O1 [] (res_dat st1 d1) s1 q1) q⟩
noncomputable def sRetO (to:DTO):DTS:=fun D ρ=>to ρ fun c ρ'=>D.rt c ρ'
theorem ds_retO (he:DO X F e to):DS X F (.Return (some e) pos) (sRetO to):=
 (ps_ret he.pe).imp fun D σ H ⟨ρ,O,DD,st,q,f⟩=>⟨ρ,O,st,he.mn _ _ _ (fun c ρ1 q1 v H1 O1 fp r s1=>f.rt v σ H1 c ρ1 O1 fp r s1 q1) q⟩
noncomputable def sRetMv (i:Nat):DTS:=fun D ρ=>∃ b,ρ[i]? = some (some (.own false b))/\D.rt (.own false b) (ρ.set i none)
theorem ds_retMv {i:Nat} {p1:Pos} (hv:PE X (.Name x p1) (tVar i)):DS X F (.Return (some (.Name x p1)) pos) (sRetMv i):=
 (ps_ret hv).imp fun D σ H ⟨ρ,O,DD,st,⟨b,e,q⟩,f⟩=>by
  obtain ⟨a,fp,O',h1,h2,h3,h4,h5,h6,_⟩:=st.take e
  exact ⟨_,h1,f.rt _ σ H (.own false b) _ O' fp ⟨h2,⟨a,rfl,h3⟩,h6⟩ h4 q⟩
noncomputable def sSetO (i:Nat) (to:DTO):DTS:=fun D ρ=>to ρ fun c ρ'=>i < ρ'.length/\(∀ b,c ≠ .own true b)/\D.nx (ρ'.set i (some c))
theorem ds_setO {i:Nat} {pos':Pos} (hN:X.N.Nodup) (hi:X.N[i]? = some x) (hx:Loc X.env.scope x) (he:DO X F e to) (hs:swapsWith e (some (.Name x pos')) pos.line X.env=pure false:=by rfl)
  (hf:X.fn x=true\/X.env.scope.names.lookup x=some .local:=by first | exact .inl rfl | exact .inr rfl | assumption):DS X F (.Assign [.Name x pos'] e pos) (sSetO i to):=
 (ps_set hN hi hx he.pe hs hf).imp fun D σ H ⟨ρ,O,DD,st,q,f⟩=>⟨ρ,O,st,he.mn _ _ _ (fun c ρ1 ⟨hl,hn,q1⟩ v H1 O1 fp r s1=>by
  obtain ⟨O2,st2,s2⟩:=DSt.put1 (io:=true) r.st r.at_ r.new hl (fun b z=>absurd z (hn b))
  exact f.nx _ H1 _ O2 st2 (s1.trans s2) q1) q⟩
noncomputable def sDropO (to:DTO):DTS:=fun D ρ=>to ρ fun _ ρ'=>D.nx ρ'
theorem ds_exprO (he:DO X F e to) (hs:swapsWith e none pos.line X.env=pure false:=by rfl):DS X F (.Expr e pos) (sDropO to):=
 (ps_expr he.pe hs).imp fun D σ H ⟨ρ,O,DD,st,q,f⟩=>⟨ρ,O,st,he.mn _ _ _ (fun c ρ1 q1 v H1 O1 fp r s1=>by
  obtain ⟨O2,st2,s2⟩:=r.drop
  exact f.nx _ _ _ _ st2 (s1.trans s2) q1) q⟩
noncomputable def sIf (tc:DTT) (t u:DTS):DTS:=fun D ρ=>tc ρ fun b ρ'=>if b=true then t D ρ' else u D ρ'
theorem ds_if {c:Expr} {a b:List Stmt} (hc:DB X F c tc) (ha:DSs X F a t) (hb:DSs X F b u):DS X F (.If c a b pos) (sIf tc t u):=
 (ps_if hc.pt ha hb).imp fun D σ H ⟨ρ,O,DD,st,q,f⟩=>⟨ρ,O,st,hc.mn _ _ _ (fun b ρ1 q1 H1 O1 st1 s1=>by
  cases b with
  | true=>exact iteT ⟨ρ1,O1,DD,st1,ofT q1,f.later s1⟩
  | false=>exact iteF ⟨ρ1,O1,DD,st1,ofF q1,f.later s1⟩) q⟩
end
end L2.L3
namespace L2.L3
open PySem PySem.Spec PyProof.Rows
inductive OutF where
 | rt (c:Cell) (outs:List Bx) | ex (c:Str) (outs:List Bx) | bad
noncomputable abbrev FM:=List Cell->OutF
inductive ArgsAt (K:PySem.W.Frag) (H:Hp) (O:List Addr):List V->List Cell->List (List Addr)->Prop where
 | nil:ArgsAt K H O [] [] []
 | dat {v:V} {d:PyData} {vs:List V} {cs:List Cell} {fps:List (List Addr)}:DV (hide O H) v d->ArgsAt K H O vs cs fps->ArgsAt K H O (v :: vs) (.dat d :: cs) ([] :: fps)
 | oth {v:V} {c:Cell} {vs:List V} {cs:List Cell} {fps:List (List Addr)}:(∀ d,c ≠ .dat d)->(∀ io b,c ≠ .own io b)->CellAt K H O v c []->ArgsAt K H O vs cs fps->ArgsAt K H O (v :: vs) (c :: cs) ([] :: fps)
 | own {a:Addr} {b:Bx} {fp:List Addr} {vs:List V} {cs:List Cell} {fps:List (List Addr)}:BoxAt (hide O H) H a b fp->ArgsAt K H O vs cs fps->ArgsAt K H O (.ref a :: vs) (.own true b :: cs) (fp :: fps)
inductive OutsAt (H:Hp) (O:List Addr):List V->List Cell->List Bx->List (List Addr)->Prop where
 | nil:OutsAt H O [] [] [] []
 | skip {v:V} {c:Cell} {vs:List V} {cs:List Cell} {bs:List Bx} {fps:List (List Addr)}:(∀ io b,c ≠ .own io b)->OutsAt H O vs cs bs fps->OutsAt H O (v :: vs) (c :: cs) bs fps
 | own {a:Addr} {io:Bool} {b b':Bx} {fp:List Addr} {vs:List V} {cs:List Cell} {bs:List Bx} {fps:List (List Addr)}:BoxAt (hide O H) H a b' fp->OutsAt H O vs cs bs fps->OutsAt H O (.ref a :: vs) (.own io b :: cs) (b' :: bs) (fp :: fps)
structure Beh (H H':Hp) (L L' O₀:List Addr):Prop where
 nd:(L' ++ O₀).Nodup
 live:∀ a ∈ L',∃ o,H' a=some o/\Mv o
 keep:∀ b o,b ∉ L->H b=some o->H' b=some o
 new:∀ a ∈ L',a ∈ L\/H a=none
noncomputable def spF (K:PySem.W.Frag) (mg:Str->Option Value) (f:FM):Sp:=fun vs H Q E=>GH mg H/\∃ (cs:List Cell) (fps:List (List Addr)) (O₀:List Addr),ArgsAt K H (fps.flatten ++ O₀) vs cs fps/\(fps.flatten ++ O₀).Nodup/\(∀ a ∈ fps.flatten ++ O₀,∃ o,H a=some o/\Mv o)/\
 match f cs with
 | .rt c outs=>∀ v H' fp fps',CellAt K H' (fps'.flatten ++ fp ++ O₀) v c fp->OutsAt H' (fps'.flatten ++ fp ++ O₀) vs cs outs fps'->Beh H H' fps.flatten (fps'.flatten ++ fp) O₀->Q v H'
 | .ex c outs=>∀ C H' fps',mg c=some C->OutsAt H' (fps'.flatten ++ O₀) vs cs outs fps'->Beh H H' fps.flatten fps'.flatten O₀->E C none H'
 | .bad=>False
theorem ArgsAt.len {K:PySem.W.Frag} {H:Hp} {O:List Addr} {vs:List V} {cs:List Cell} {fps:List (List Addr)} (h:ArgsAt K H O vs cs fps):vs.length=cs.length/\fps.length=cs.length:=by
 induction h with
 | nil=>exact ⟨rfl,rfl⟩
 | dat _ _ ih=>exact ⟨congrArg Nat.succ ih.1,congrArg Nat.succ ih.2⟩
 | oth _ _ _ _ ih=>exact ⟨congrArg Nat.succ ih.1,congrArg Nat.succ ih.2⟩
 | own _ _ ih=>exact ⟨congrArg Nat.succ ih.1,congrArg Nat.succ ih.2⟩
theorem ArgsAt.get {K:PySem.W.Frag} {H:Hp} {O:List Addr} {vs:List V} {cs:List Cell} {fps:List (List Addr)} (h:ArgsAt K H O vs cs fps):∀ (i:Nat) (c:Cell),cs[i]? = some c->∃ v fp,vs[i]? = some v/\fps[i]? = some fp/\CellAt K H O v c fp:=by
 induction h with
 | nil=>intro i c e; simp at e
 | dat h _ ih=>
  intro i c e
  cases i with
  | zero=>simp at e; subst e; exact ⟨_,_,rfl,rfl,h⟩
  | succ i=>exact ih i c (by simpa using e)
 | oth _ _ h _ ih=>
  intro i c e
  cases i with
  | zero=>simp at e; subst e; exact ⟨_,_,rfl,rfl,h⟩
  | succ i=>exact ih i c (by simpa using e)
 | own h _ ih=>
  intro i c e
  cases i with
  | zero=>simp at e; subst e; exact ⟨_,_,rfl,rfl,⟨_,rfl,h⟩⟩
  | succ i=>exact ih i c (by simpa using e)
theorem ArgsAt.mono {K:PySem.W.Frag} {H:Hp} {O O':List Addr} {vs:List V} {cs:List Cell} {fps:List (List Addr)} (h:ArgsAt K H O vs cs fps) (s:Stp O H O' H):ArgsAt K H O' vs cs fps:=by
 induction h with
 | nil=>exact .nil
 | dat h _ ih=>exact .dat (DV.mono s.hid h) ih
 | oth h1 h2 h _ ih=>exact .oth h1 h2 (h.keep s (fun _ _=>rfl) (fun _ _ _ e=>e)) ih
 | own h _ ih=>exact .own (h.keep (fun _ _=>rfl) s.hid) ih
theorem OutsAt.mono {H:Hp} {O O':List Addr} {vs:List V} {cs:List Cell} {bs:List Bx} {fps:List (List Addr)} (h:OutsAt H O vs cs bs fps) (s:Stp O H O' H):OutsAt H O' vs cs bs fps:=by
 induction h with
 | nil=>exact .nil
 | skip h1 _ ih=>exact .skip h1 ih
 | own h _ ih=>exact .own (h.keep (fun _ _=>rfl) s.hid) ih
inductive OutS where
 | nx (ρ:DEnv) | rt (c:Cell) (ρ:DEnv) | bk (ρ:DEnv) | ct (ρ:DEnv) | ex (c:Str) (ρ:DEnv) | bad
noncomputable abbrev SM:=DEnv->OutS
noncomputable def wpS (E:Str->DEnv->Prop) (m:SM):DTS:=fun D ρ=>match m ρ with
 | .nx ρ'=>D.nx ρ'
 | .rt c ρ'=>D.rt c ρ'
 | .bk ρ'=>D.bk ρ'
 | .ct ρ'=>D.ct ρ'
 | .ex c ρ'=>E c ρ'
 | .bad=>False
@[simp] noncomputable def outsOf:List Cell->DEnv->Option (List Bx)
 | [],_=>some []
 | .own _ _ :: cs,some (.own true b) :: ρ=>(outsOf cs ρ).map (b :: ·)
 | .own _ _ :: _,_=>none
 | _ :: cs,_ :: ρ=>outsOf cs ρ
 | _ :: _,[]=>none
@[simp] noncomputable def fnM (n N:Nat) (m:SM):FM:=fun cs=>if cs.length=n then (match m (cs.map some ++ List.replicate (N - n) none) with
 | .nx ρ=>(match outsOf cs ρ with | some o=>.rt (.dat .none) o | none=>.bad)
 | .rt c ρ=>(match outsOf cs ρ with | some o=>.rt c o | none=>.bad)
 | .ex c ρ=>(match outsOf cs ρ with | some o=>.ex c o | none=>.bad)
 | _=>.bad) else .bad
section
variable {K:PySem.W.Frag} {F:Fx} {H:Hp} {σ:St} {ρ:DEnv} {W:List (List Addr)}
theorem drop_cons {α:Type} {l:List α} {k:Nat} {x:α} {r:List α} (h:l.drop k=x :: r):l[k]? = some x/\l.drop (k + 1)=r:=by
 constructor
 ·rw [<-List.head?_drop,h]; rfl
 ·rw [<-List.drop_drop,h]; rfl
theorem exit_go (st:DStW K F H σ ρ W):∀ (cs:List Cell) (vs:List V) (k:Nat) (outs:List Bx),vs.length=cs.length->(∀ (i:Nat) io b,cs[i]? = some (.own io b)->vs[i]? = some (.ref (F.I₀ (k + i))))->outsOf cs (ρ.drop k)=some outs->
  ∃ fps,OutsAt H (W.flatten ++ F.O₀) vs cs outs fps/\fps.flatten.Sublist (W.drop k).flatten
 | [],[],k,outs,_,_,e=>by cases e; exact ⟨[],.nil,by simp⟩
 | [],_ :: _,_,_,hl,_,_=>by cases hl
 | _ :: _,[],_,_,hl,_,_=>by cases hl
 | c :: cs,v :: vs,k,outs,hl,hI,e=>by
  have hl':vs.length=cs.length:=Nat.succ.inj hl
  have hI':∀ (i:Nat) io b,cs[i]? = some (.own io b)->vs[i]? = some (.ref (F.I₀ (k + 1 + i))):=fun i io b h=>by
   have:=hI (i + 1) io b (by simpa using h)
   rw [show k + 1 + i=k + (i + 1) by omega]
   simpa using this
  have sub1:(W.drop (k + 1)).flatten.Sublist (W.drop k).flatten:=by
   cases hw:W.drop k with
   | nil=>rw [show W.drop (k + 1)=[] from by rw [<-List.drop_drop,hw]; rfl]; exact List.Sublist.refl _
   | cons w r=>rw [(drop_cons hw).2,List.flatten_cons]; exact List.sublist_append_right _ _
  cases hd:ρ.drop k with
  | nil=>
   rw [hd] at e
   cases c with
   | own io b=>cases e
   | dat d=>cases e
   | scr n=>cases e
   | exc n=>cases e
   | vw n=>cases e
  | cons x r=>
   obtain ⟨h1,h2⟩:=drop_cons hd
   rw [hd] at e
   have nonown:(∀ io b,c ≠ .own io b)->outsOf cs r=some outs->∃ fps,OutsAt H (W.flatten ++ F.O₀) (v :: vs) (c :: cs) outs fps/\fps.flatten.Sublist (W.drop k).flatten:=fun hn he=>by
    obtain ⟨fps,o,s⟩:=exit_go st cs vs (k + 1) outs hl' hI' (by rw [h2]; exact he)
    exact ⟨fps,.skip hn o,s.trans sub1⟩
   cases c with
   | dat d=>exact nonown (fun _ _ z=>by cases z) e
   | scr n=>exact nonown (fun _ _ z=>by cases z) e
   | exc n=>exact nonown (fun _ _ z=>by cases z) e
   | vw n=>exact nonown (fun _ _ z=>by cases z) e
   | own io b=>
    cases x with
    | none=>cases e
    | some x=>
     cases x with
     | dat d=>cases e
     | scr n=>cases e
     | exc n=>cases e
     | vw n=>cases e
     | own io' b'=>
      cases io' with
      | false=>cases e
      | true=>
       cases q:outsOf cs r with
       | none=>simp [outsOf,q] at e
       | some o'=>
        simp [outsOf,q] at e
        subst e
        obtain ⟨fps,o,s⟩:=exit_go st cs vs (k + 1) o' hl' hI' (by rw [h2]; exact q)
        obtain ⟨u,fp,e1,e2,a,rfl,bx⟩:=st.at_ k _ h1
        have e3:=st.io k b' h1
        rw [e1] at e3
        have ea:a=F.I₀ k:=by cases e3; rfl
        have hv:=hI 0 io b rfl
        have hv':v=.ref a:=by rw [ea]; simpa using hv
        subst hv'
        refine ⟨fp :: fps,.own bx o,?_⟩
        cases hw:W.drop k with
        | nil=>rw [<-List.head?_drop,hw] at e2; cases e2
        | cons w wr=>
         obtain ⟨w1,w2⟩:=drop_cons hw
         rw [e2] at w1
         cases w1
         rw [List.flatten_cons,List.flatten_cons]
         rw [w2] at s
         exact List.Sublist.append (List.Sublist.refl _) s
end
theorem flat_rep {α:Type} (n:Nat):(List.replicate n ([]:List α)).flatten=[]:=by induction n with | zero=>rfl | succ n ih=>rw [List.replicate_succ,List.flatten_cons,ih]; rfl
noncomputable def startD (N n:Nat) (cs:List Cell):DEnv:=cs.map some ++ List.replicate (N - n) none
section
variable {P:Program} {w:World} {K:PySem.W.Frag} {mg:Str->Option Value} {base:Heap} {x qual:Str} {st:Stmt} {f:Addr} {fd:FuncData} {N ps:List Str} {k:Nat} {m:SM}
noncomputable def ioAt (vs:List V) (i:Nat):Addr:=match vs[i]? with
 | some (.ref a)=>a
 | _=>0
theorem dst_start {H:Hp} {vs:List V} {cs:List Cell} {fps:List (List Addr)} {O₀:List Addr} (ha:ArgsAt K H (fps.flatten ++ O₀) vs cs fps) (nd:(fps.flatten ++ O₀).Nodup) (live:∀ a ∈ fps.flatten ++ O₀,∃ o,H a=some o/\Mv o) (hl:cs.length<=N.length) :
  DStW K ⟨H,fps.flatten,O₀,ioAt vs⟩ H (start N vs) (startD N.length cs.length cs) (fps ++ List.replicate (N.length - cs.length) []):=by
 have fl:(fps ++ List.replicate (N.length - cs.length) ([]:List Addr)).flatten=fps.flatten:=by rw [List.flatten_append,flat_rep,List.append_nil]
 obtain ⟨l1,l2⟩:=ha.len
 have get:∀ (i:Nat) c,(startD N.length cs.length cs)[i]? = some (some c)->cs[i]? = some c:=fun i c e=>by
  unfold startD at e
  by_cases h:i < cs.length
  ·rw [List.getElem?_append_left (by simpa using h),List.getElem?_map] at e
   obtain ⟨d,h1,h2⟩:=Option.map_eq_some_iff.mp e
   cases h2
   exact h1
  ·rw [List.getElem?_append_right (by simpa using Nat.le_of_not_lt h),List.getElem?_replicate] at e
   split at e <;> cases e
 have put:∀ (i:Nat) v,vs[i]? = some v->(start N vs)[i]? = some (some v):=fun i v e=>by
  unfold start
  rw [List.getElem?_append_left (by simpa using (List.getElem?_eq_some_iff.mp e).1),List.getElem?_map,e]
  rfl
 refine ⟨fun i c e=>?_,by rw [fl]; exact nd,fun _ _ _ h=>h,fun a h=>.inl (by rw [fl] at h; exact h),by rw [fl]; exact live,?_,?_,fun i b e=>?_⟩
 ·obtain ⟨v,fp,h1,h2,h3⟩:=ha.get i c (get i c e)
  exact ⟨v,fp,put i v h1,by rw [List.getElem?_append_left (List.getElem?_eq_some_iff.mp h2).1]; exact h2,by rw [fl]; exact h3⟩
 ·unfold startD start
  rw [List.length_append,List.length_append,List.length_map,List.length_map,List.length_replicate,List.length_replicate,l1]
 ·unfold startD
  rw [List.length_append,List.length_append,List.length_map,List.length_replicate,List.length_replicate,l2]
 ·obtain ⟨v,fp,h1,h2,a,rfl,h3⟩:=ha.get i _ (get i _ e)
  rw [put i _ h1]
  show _=some (some (V.ref (ioAt vs i)))
  unfold ioAt
  rw [h1]
theorem ArgsAt.ios {H:Hp} {O:List Addr} {vs:List V} {cs:List Cell} {fps:List (List Addr)} (h:ArgsAt K H O vs cs fps):∀ (i:Nat) io b,cs[i]? = some (.own io b)->vs[i]? = some (.ref (ioAt vs (0 + i))):=fun i io b e=>by
 obtain ⟨v,fp,h1,_,a,rfl,_⟩:=h.get i _ e
 rw [Nat.zero_add]
 unfold ioAt
 rw [h1]
theorem fn_F (Fn:Fun K x qual st f fd) (S:FnScope N ps (defScope st)) (hN:ps.length<=N.length)
  (der:∀ (cdv:Value) (A:Around) (outer:List Env) (s:Shared) (H:Hp) (E:XK) (F:Fx) (E':Str->DEnv->Prop),Room k (A.deeper (envOfC qual (defScope st) s.heap.objs.size f cdv))->XOk (cxOf (CXM P w) P w K mg base N qual (defScope st) f cdv A outer s H E) F E'->
   DSs (cxOf (CXM P w) P w K mg base N qual (defScope st) f cdv A outer s H E) F (defBody st) (wpS E' m)):FnOk P w K mg base (CXM P w) (k + 1) f fd ps (spF K mg (fnM ps.length N.length m)):=by
 obtain ⟨oc,od,kV,doc,pm,an,cdv,ct,osl,rfl,lk,hcd⟩:=Fn.ex
 have hlen:∀ vs H Q E,spF K mg (fnM ps.length N.length m) vs H Q E->vs.length=ps.length:=fun vs H Q E ⟨_,cs,fps,O₀,ha,_,_,q⟩=>by
  rw [ha.len.1]
  unfold fnM at q
  by_cases h:cs.length=ps.length
  ·exact h
  ·rw [if_neg h] at q; exact q.elim
 refine fn_of lk hcd S hlen fun A outer s H vs Q E hr hsp=>?_
 have hlv:=hlen vs H Q E hsp
 obtain ⟨gh,cs,fps,O₀,ha,nd,live,q⟩:=hsp
 obtain ⟨l1,l2⟩:=ha.len
 have hlc:cs.length=ps.length:=by omega
 let F:Fx:=⟨H,fps.flatten,O₀,ioAt vs⟩
 have st0:=dst_start (N:=N) ha nd live (by omega)
 have fin:∀ {σ':St} {H':Hp} {ρ':DEnv} {O':List Addr} {fp:List Addr} {outs:List Bx},DSt K (F.plus fp) H' σ' ρ' O'->(∀ a ∈ fp,a ∈ F.A₀\/F.H₀ a=none)->outsOf cs ρ' = some outs->∃ fps',OutsAt H' (fps'.flatten ++ fp ++ O₀) vs cs outs fps'/\Beh H H' fps.flatten (fps'.flatten ++ fp) O₀/\Stp O' H' (fps'.flatten ++ fp ++ O₀) H':=by
  rintro σ' H' ρ' O' fp outs ⟨W,st',rfl⟩ hfp ho
  obtain ⟨fps',o,sb⟩:=exit_go st' cs vs 0 outs l1 (fun i io b e=>ha.ios i io b e) ho
  have sb':fps'.flatten.Sublist W.flatten:=sb
  have sub:(fps'.flatten ++ fp ++ O₀).Sublist (W.flatten ++ (fp ++ O₀)):=by rw [List.append_assoc]; exact List.Sublist.append sb' (List.Sublist.refl _)
  have stp:Stp (W.flatten ++ (fp ++ O₀)) H' (fps'.flatten ++ fp ++ O₀) H':=stp_less fun a h=>sub.subset h
  refine ⟨fps',o.mono stp,⟨st'.nd.sublist sub,fun a h=>st'.live a (sub.subset (List.mem_append_left _ h)),fun b o hb e=>st'.kept b o hb e,fun a h=>?_⟩,stp⟩
  rcases List.mem_append.mp h with h | h
  ·exact st'.new a (sb'.subset h)
  ·exact hfp a h
 have hfn:fnM ps.length N.length m cs=(match m (startD N.length ps.length cs) with
  | .nx ρ=>(match outsOf cs ρ with | some o=>.rt (.dat .none) o | none=>.bad)
  | .rt c ρ=>(match outsOf cs ρ with | some o=>.rt c o | none=>.bad)
  | .ex c ρ=>(match outsOf cs ρ with | some o=>.ex c o | none=>.bad)
  | _=>.bad):=by unfold fnM startD; rw [if_pos hlc]
 rw [hfn] at q
 rw [hlc] at st0
 let E':Str->DEnv->Prop:=fun c ρ'=>∃ outs,outsOf cs ρ' = some outs/\∀ C H' fps',mg c=some C->OutsAt H' (fps'.flatten ++ O₀) vs cs outs fps'->Beh H H' fps.flatten fps'.flatten O₀->E C none H'
 refine ⟨_,der cdv A outer s H E F E' hr (xok_fn (gh.frame fun a h=>live a (List.mem_append_left _ h)) fun c C ρ' σ' H' O' hm st' ⟨outs,ho,k⟩=>?_),?_⟩
 ·obtain ⟨fps',o,b,_⟩:=fin (fp:=[]) st' (fun a h=>by cases h) ho
  rw [List.append_nil] at o b
  exact k C H' fps' hm o b
 ·refine ⟨startD N.length ps.length cs,_,⟨fun ρ'=>∃ outs,outsOf cs ρ' = some outs/\∀ H' fps',OutsAt H' (fps'.flatten ++ [] ++ O₀) vs cs outs fps'->Beh H H' fps.flatten (fps'.flatten ++ []) O₀->Q .non H',fun c ρ'=>∃ outs,outsOf cs ρ' = some outs/\∀ v H' fp fps',CellAt K H' (fps'.flatten ++ fp ++ O₀) v c fp->OutsAt H' (fps'.flatten ++ fp ++ O₀) vs cs outs fps'->Beh H H' fps.flatten (fps'.flatten ++ fp) O₀->Q v H',fun _=>False,fun _=>False⟩,⟨_,st0,rfl⟩,?_,?_⟩
  ·unfold wpS
   cases hm:m (startD N.length ps.length cs) with
   | nx ρ'=>
    rw [hm] at q
    cases ho:outsOf cs ρ' with
    | none=>simp [ho] at q
    | some outs=>
     simp only [ho] at q
     exact ⟨outs,ho,fun H' fps' o b=>q .non H' [] fps' .non o b⟩
   | rt c ρ'=>
    rw [hm] at q
    cases ho:outsOf cs ρ' with
    | none=>simp [ho] at q
    | some outs=>
     simp only [ho] at q
     exact ⟨outs,ho,q⟩
   | ex c ρ'=>
    rw [hm] at q
    cases ho:outsOf cs ρ' with
    | none=>simp [ho] at q
    | some outs=>
     simp only [ho] at q
     exact ⟨outs,ho,q⟩
   | bk ρ'=>rw [hm] at q; exact q
   | ct ρ'=>rw [hm] at q; exact q
   | bad=>rw [hm] at q; exact q
  ·refine ⟨fun σ' H' ρ' O' st' s' ⟨outs,ho,k⟩=>?_,fun v σ' H' c ρ' O' fp r s' ⟨outs,ho,k⟩=>?_,fun _ _ _ _ _ _ z=>z.elim,fun _ _ _ _ _ _ z=>z.elim⟩
   ·obtain ⟨fps',o,b,_⟩:=fin (fp:=[]) st' (fun a h=>by cases h) ho
    exact k H' fps' o b
   ·obtain ⟨fps',o,b,stp⟩:=fin r.st r.new ho
    exact k v H' fp fps' (r.at_.keep stp (fun _ _=>rfl) (fun _ _ _ e=>e)) o b
end
end L2.L3
namespace L2.L3
open PySem PySem.Spec PyProof.Rows
inductive AX where
 | d (x:PyData) | s (j:Nat)
inductive AxAt (σ:St) (G:Hp):List V->List AX->Prop where
 | nil:AxAt σ G [] []
 | d {v:V} {x:PyData} {vs:List V} {as:List AX}:DV G v x->AxAt σ G vs as->AxAt σ G (v :: vs) (.d x :: as)
 | s {v:V} {j:Nat} {vs:List V} {as:List AX}:σ[j]? = some (some v)->AxAt σ G vs as->AxAt σ G (v :: vs) (.s j :: as)
noncomputable abbrev DTX:=DEnv->(List AX->DEnv->Prop)->Prop
noncomputable def MnX (t:DTX):Prop:=∀ ρ Q Q',(∀ d ρ',Q d ρ'->Q' d ρ')->t ρ Q->t ρ Q'
noncomputable def rdX (K:PySem.W.Frag) (F:Fx) (t:DTX):TA:=fun σ H Q=>∃ ρ O,DSt K F H σ ρ O/\t ρ fun as ρ'=>∀ vs H' O',DSt K F H' σ ρ' O'->Stp O H O' H'->AxAt σ (hide O' H') vs as->Q vs H'
structure DX (X:Cx) (F:Fx) (es:List Expr) (t:DTX):Prop where
 mn:MnX t
 pa:PA X es (rdX X.K F t)
section
variable {X:Cx} {F:Fx} {e:Expr} {es:List Expr} {te:DT} {tX:DTX} {x:Str} {p:Pos} {j:Nat}
noncomputable def xNil:DTX:=fun ρ Q=>Q [] ρ
noncomputable def xVal (te:DT) (t:DTX):DTX:=fun ρ Q=>te ρ fun d ρ1=>t ρ1 fun as ρ2=>Q (.d d :: as) ρ2
noncomputable def xSlot (j:Nat) (t:DTX):DTX:=fun ρ Q=>(∃ c,ρ[j]? = some (some c))/\t ρ fun as ρ2=>Q (.s j :: as) ρ2
theorem dx_nil:DX X F [] xNil:=⟨fun _ _ _ k q=>k _ _ q,pa_nil.imp fun σ H Q ⟨ρ,O,st,q⟩=>q [] H O st .refl .nil⟩
theorem dx_val (ha:DE X F e te) (hr:DX X F es tX) (hs:starEach (e :: es) X.env=(false,eval e X.env) :: starEach es X.env:=by rfl):DX X F (e :: es) (xVal te tX):=
 ⟨fun _ _ _ k q=>ha.mn _ _ _ (fun _ _ q1=>hr.mn _ _ _ (fun _ _ q2=>k _ _ q2) q1) q,(pa_cons ha.pe hr.pa hs).imp fun σ H Q ⟨ρ,O,st,q⟩=>
  ⟨ρ,O,st,ha.mn _ _ _ (fun d ρ1 q1 v H1 O1 st1 s1 d1=>⟨ρ1,O1,st1,hr.mn _ _ _ (fun as ρ2 q2 vs H2 O2 st2 s2 d2=>q2 (v :: vs) H2 O2 st2 (s1.trans s2) (.d (DV.mono s2.hid d1) d2)) q1⟩) q⟩⟩
theorem dx_slot (hv:PE X (.Name x p) (tVar j)) (hr:DX X F es tX) (hs:starEach (.Name x p :: es) X.env=(false,eval (.Name x p) X.env) :: starEach es X.env:=by rfl):DX X F (.Name x p :: es) (xSlot j tX):=
 ⟨fun _ _ _ k ⟨h,q⟩=>⟨h,hr.mn _ _ _ (fun _ _ q2=>k _ _ q2) q⟩,(pa_cons hv hr.pa hs).imp fun σ H Q ⟨ρ,O,st,⟨c,hc⟩,q⟩=>by
  obtain ⟨W,h,rfl⟩:=id st
  obtain ⟨v,fp,h1,h2,h3⟩:=h.at_ j c hc
  exact ⟨v,h1,ρ,_,st,hr.mn _ _ _ (fun as ρ2 q2 vs H2 O2 st2 s2 d2=>q2 (v :: vs) H2 O2 st2 s2 (.s h1 d2)) q⟩⟩
end
@[simp] noncomputable def argCells (ρ:DEnv):List AX->Option (List Cell × List (Nat × Bool))
 | []=>some ([],[])
 | .d x :: as=>(match argCells ρ as with | some (cs,js)=>some (.dat x :: cs,js) | none=>none)
 | .s j :: as=>(match argCells ρ as with
  | some (cs,js)=>(match ρ[j]? with
   | some (some (.own io b))=>if js.any (fun p=>p.1 == j) then none else some (.own true b :: cs,(j,io) :: js)
   | some (some c)=>some (c :: cs,js)
   | _=>none)
  | none=>none)
@[simp] noncomputable def clr:List (Nat × Bool)->DEnv->DEnv
 | [],ρ=>ρ
 | (j,_) :: r,ρ=>(clr r ρ).set j none
@[simp] noncomputable def back:List (Nat × Bool)->List Bx->DEnv->DEnv
 | (j,io) :: r,b :: bs,ρ=>back r bs (ρ.set j (some (.own io b)))
 | _,_,ρ=>ρ
theorem clr_len {js:List (Nat × Bool)} {ρ:DEnv}:(clr js ρ).length=ρ.length:=by
 induction js with
 | nil=>rfl
 | cons p r ih=>obtain ⟨j,io⟩:=p; rw [clr,List.length_set,ih]
theorem clr_get {js:List (Nat × Bool)} {ρ:DEnv} {i:Nat} (h:∀ p ∈ js,p.1 ≠ i):(clr js ρ)[i]? = ρ[i]?:=by
 induction js with
 | nil=>rfl
 | cons p r ih=>
  obtain ⟨j,io⟩:=p
  rw [clr,List.getElem?_set_ne (h (j,io) List.mem_cons_self),ih fun q hq=>h q (List.mem_cons_of_mem _ hq)]
inductive JsAt (σ:St) (F:Fx) (n:Nat):List V->List Cell->List (Nat × Bool)->Prop where
 | nil:JsAt σ F n [] [] []
 | skip {v:V} {c:Cell} {vs:List V} {cs:List Cell} {js:List (Nat × Bool)}:(∀ io b,c ≠ .own io b)->JsAt σ F n vs cs js->JsAt σ F n (v :: vs) (c :: cs) js
 | own {a:Addr} {io:Bool} {b:Bx} {j:Nat} {vs:List V} {cs:List Cell} {js:List (Nat × Bool)}:σ[j]? = some (some (.ref a))->(io=true->a=F.I₀ j)->j < n->JsAt σ F n vs cs js->JsAt σ F n (.ref a :: vs) (.own true b :: cs) ((j,io) :: js)
section
variable {K:PySem.W.Frag} {F:Fx} {H H':Hp} {σ:St} {ρ:DEnv} {O O':List Addr}
theorem take_all (st:DSt K F H σ ρ O):∀ (as:List AX) (vs:List V) (cs:List Cell) (js:List (Nat × Bool)),argCells ρ as=some (cs,js)->AxAt σ (hide O H) vs as->
  ∃ fps O',DSt K (F.plus fps.flatten) H σ (clr js ρ) O'/\ArgsAt K H O' vs cs fps/\Stp O H O' H/\Stp O' H O H/\(∀ a ∈ fps.flatten,a ∈ F.A₀\/F.H₀ a=none)/\JsAt σ F ρ.length vs cs js
 | [],vs,cs,js,e,h=>by
  cases e
  cases h
  refine ⟨[],O,st,.nil,.refl,.refl,?_,.nil⟩
  intro a h
  cases h
 | .d x :: as,vs,cs,js,e,h=>by
  cases h with
  | d hv hr=>
   unfold argCells at e
   cases q:argCells ρ as with
   | none=>rw [q] at e; cases e
   | some p=>
    obtain ⟨cs',js'⟩:=p
    rw [q] at e
    simp only [Option.some.injEq,Prod.mk.injEq] at e
    obtain ⟨e1,e2⟩:=e
    obtain ⟨fps,O',st',ar,s1,s2,nw,ja⟩:=take_all st as _ cs' js' q hr
    subst e1 e2
    exact ⟨[] :: fps,O',st',.dat (DV.mono s1.hid hv) ar,s1,s2,nw,.skip (fun _ _ z=>by cases z) ja⟩
 | .s j :: as,vs,cs,js,e,h=>by
  cases h with
  | @s v _ vs _ hv hr=>
   unfold argCells at e
   cases q:argCells ρ as with
   | none=>rw [q] at e; cases e
   | some p=>
    obtain ⟨cs',js'⟩:=p
    rw [q] at e
    obtain ⟨fps,O',st',ar,s1,s2,nw,ja⟩:=take_all st as _ cs' js' q hr
    cases hc:ρ[j]? with
    | none=>rw [hc] at e; cases e
    | some oc=>
     cases oc with
     | none=>rw [hc] at e; cases e
     | some c=>
      rw [hc] at e
      obtain ⟨W,stw,hOW⟩:=id st
      obtain ⟨v',fp',h1,h2,h3⟩:=stw.at_ j c hc
      rw [hv] at h1
      have ev:v' = v:=by cases h1; rfl
      subst ev
      rw [<-hOW] at h3
      have other:(∀ io b,c ≠ .own io b)->∃ fps O',DSt K (F.plus fps.flatten) H σ (clr js' ρ) O'/\ArgsAt K H O' (v' :: vs) (c :: cs') fps/\Stp O H O' H/\Stp O' H O H/\(∀ a ∈ fps.flatten,a ∈ F.A₀\/F.H₀ a=none)/\JsAt σ F ρ.length (v' :: vs) (c :: cs') js':=fun hn=>by
       refine ⟨[] :: fps,O',st',?_,s1,s2,nw,.skip hn ja⟩
       cases c with
       | dat d=>exact .dat (DV.mono s1.hid h3) ar
       | own io b=>exact absurd rfl (hn io b)
       | scr ns=>exact .oth (fun _ z=>by cases z) (fun _ _ z=>by cases z) (CellAt.keep (c:=.scr ns) (fp:=[]) h3 s1 (fun _ _=>rfl) (fun _ _ _ e=>e)) ar
       | exc n=>exact .oth (fun _ z=>by cases z) (fun _ _ z=>by cases z) (CellAt.keep (c:=.exc n) (fp:=[]) h3 s1 (fun _ _=>rfl) (fun _ _ _ e=>e)) ar
       | vw n=>exact .oth (fun _ z=>by cases z) (fun _ _ z=>by cases z) (CellAt.keep (c:=.vw n) (fp:=[]) h3 s1 (fun _ _=>rfl) (fun _ _ _ e=>e)) ar
      cases c with
      | dat d=>
       simp only [Option.some.injEq,Prod.mk.injEq] at e
       rw [<-e.1,<-e.2]; exact other (fun _ _ z=>by cases z)
      | scr ns=>
       simp only [Option.some.injEq,Prod.mk.injEq] at e
       rw [<-e.1,<-e.2]; exact other (fun _ _ z=>by cases z)
      | exc n=>
       simp only [Option.some.injEq,Prod.mk.injEq] at e
       rw [<-e.1,<-e.2]; exact other (fun _ _ z=>by cases z)
      | vw n=>
       simp only [Option.some.injEq,Prod.mk.injEq] at e
       rw [<-e.1,<-e.2]; exact other (fun _ _ z=>by cases z)
      | own io b=>
       by_cases hj:js'.any (fun p=>p.1 == j)=true
       ·simp only [if_pos hj] at e; cases e
       ·simp only [if_neg hj,Option.some.injEq,Prod.mk.injEq] at e
        rw [<-e.1,<-e.2]
        have hjs:∀ p ∈ js',p.1 ≠ j:=fun p hp z=>hj (List.any_eq_true.mpr ⟨p,hp,by simp [z]⟩)
        obtain ⟨a,fp,O2,t1,t2,t3,t4,t5,t6,t7⟩:=st'.take (i:=j) (io:=io) (b:=b) (by rw [clr_get hjs]; exact hc)
        rw [hv] at t1
        have ev:v' = .ref a:=by cases t1; rfl
        subst ev
        rw [Fx.plus_plus] at t2
        refine ⟨fp :: fps,O2,t2,.own t3 (ar.mono t4),s1.trans t4,t5.trans s2,fun x hx=>?_,.own hv t7 (List.getElem?_eq_some_iff.mp hc).1 ja⟩
        rcases List.mem_append.mp hx with hx | hx
        ·exact t6 x hx
        ·exact nw x hx
theorem give_all {fp:List Addr} {n:Nat} {vs:List V} {cs:List Cell} {js:List (Nat × Bool)} (ja:JsAt σ F n vs cs js):∀ {outs:List Bx} {fps:List (List Addr)} {ρ:DEnv} {O:List Addr},ρ.length=n->DSt K (F.plus (fps.flatten ++ fp)) H σ ρ O->OutsAt H O vs cs outs fps->(∀ a ∈ fps.flatten,a ∈ F.A₀\/F.H₀ a=none)->
  ∃ O',DSt K (F.plus fp) H σ (back js outs ρ) O'/\Stp O H O' H:=by
 induction ja with
 | nil=>
  intro outs fps ρ O hn st oa nw
  cases oa
  exact ⟨O,st,.refl⟩
 | skip hn' _ ih=>
  intro outs fps ρ O hn st oa nw
  cases oa with
  | skip _ oa=>exact ih hn st oa nw
  | own _ _=>exact absurd rfl (hn' _ _)
 | @own a io b j vs cs js h1 h2 h3 ja ih=>
  intro outs fps ρ O hn st oa nw
  cases oa with
  | skip hn' _=>exact absurd rfl (hn' _ _)
  | @own _ _ _ b' f1 _ _ bs fr hb oa=>
   have st':DSt K ((F.plus (fr.flatten ++ fp)).plus f1) H σ ρ O:=by rw [Fx.plus_plus,<-List.append_assoc]; exact st
   obtain ⟨O1,st1,s1⟩:=DSt.put1 (io:=true) (c:=.own io b') (v:=.ref a) (i:=j) st' ⟨a,rfl,hb⟩ (fun x hx=>nw x (by rw [List.flatten_cons]; exact List.mem_append_left _ hx)) (by rw [hn]; exact h3) (fun b z=>by cases z; rw [h2 rfl]; rfl)
   have eσ:σ.set j (some (.ref a))=σ:=by
    apply List.ext_getElem?
    intro i
    by_cases hj:i=j
    ·subst hj; rw [List.getElem?_set_self (List.getElem?_eq_some_iff.mp h1).1,h1]
    ·rw [List.getElem?_set_ne (Ne.symm hj)]
   rw [eσ] at st1
   obtain ⟨O2,st2,s2⟩:=ih (by rw [List.length_set]; exact hn) st1 (oa.mono s1) (fun x hx=>nw x (by rw [List.flatten_cons]; exact List.mem_append_right _ hx))
   exact ⟨O2,st2,s1.trans s2⟩
end
noncomputable def callOn (f:FM) (E:Str->DEnv->Prop) (Q:Cell->DEnv->Prop) (as:List AX) (ρ:DEnv):Prop:=match argCells ρ as with
 | some (cs,js)=>(match f cs with
  | .rt c outs=>Q c (back js outs (clr js ρ))
  | .ex c outs=>E c (back js outs (clr js ρ))
  | .bad=>False)
 | none=>False
noncomputable def dCall (f:FM) (E:Str->DEnv->Prop) (t:DTX):DTO:=fun ρ Q=>t ρ fun as ρ1=>callOn f E Q as ρ1
section
variable {X:Cx} {F:Fx} {e:Expr} {es:List Expr} {tX:DTX} {E:Str->DEnv->Prop} {pos p:Pos} {x:Str} {f:FM} {k:Nat} {g:Addr} {fd:FuncData} {ps:List Str}
theorem callOn_mn {Q Q':Cell->DEnv->Prop} {as:List AX} {ρ:DEnv} (h:∀ c ρ',Q c ρ'->Q' c ρ') (q:callOn f E Q as ρ):callOn f E Q' as ρ:=by
 unfold callOn at q ⊢
 split
 ·rename_i cs js e
  rw [e] at q
  simp only at q
  split
  ·rename_i e2; rw [e2] at q; exact h _ _ q
  ·rename_i e2; rw [e2] at q; exact q
  ·rename_i e2; rw [e2] at q; exact q
 ·rename_i e; rw [e] at q; exact q
theorem call_on {pins:List (Addr × Obj)} {σ:St} {H:Hp} {s:Shared} {Q:VK} {us:List Value} {vs:List V} {as:List AX} {ρ:DEnv} {O:List Addr} {QC:Cell->DEnv->Prop} (hx:XOk X F E) (G:FnOk X.prog X.w X.K X.mg X.base (CXM X.prog X.w) k g fd ps (spF X.K X.mg f)) (hr:Room k X.A) (hb:Binds X.K fd ps [])
  (I:Inv X pins σ H s) (r:Vals vs us) (st:DSt X.K F H σ ρ O) (ax:AxAt σ (hide O H) vs as) (q:callOn f E QC as ρ) (hQ:∀ c ρ',QC c ρ'->∀ v H' O' fp,Res X.K F H' σ ρ' O' v c fp->Stp O H O' H'->Q v H') :
  wpAny (model X.prog X.w) X.A (call (.ref g) us) (EP X pins σ Q) X.xe s:=by
 unfold callOn at q
 cases hc:argCells ρ as with
 | none=>rw [hc] at q; exact q.elim
 | some p=>
  obtain ⟨cs,js⟩:=p
  rw [hc] at q
  simp only at q
  obtain ⟨fps,O2,st2,ar,s1,s1',nw,ja⟩:=take_all st as vs cs js hc ax
  obtain ⟨W,stw,hO2⟩:=id st2
  have ndO:(W.flatten ++ (fps.flatten ++ F.O₀)).Nodup:=stw.nd
  have memO:∀ a,a ∈ O2 ↔ a ∈ fps.flatten ++ (W.flatten ++ F.O₀):=fun a=>by
   rw [hO2]
   show a ∈ W.flatten ++ (fps.flatten ++ F.O₀) ↔ _
   simp only [List.mem_append]
   constructor
   ·rintro (h | h | h) <;> simp [h]
   ·rintro (h | h | h) <;> simp [h]
  have perm:(fps.flatten ++ (W.flatten ++ F.O₀)).Perm (W.flatten ++ (fps.flatten ++ F.O₀)):=by
   rw [<-List.append_assoc,<-List.append_assoc]
   exact List.Perm.append_right _ List.perm_append_comm
  have nd1:(fps.flatten ++ (W.flatten ++ F.O₀)).Nodup:=perm.nodup_iff.mpr ndO
  have stE:Stp O2 H (fps.flatten ++ (W.flatten ++ F.O₀)) H:=stp_less fun a h=>(memO a).mpr h
  have back2:∀ (H':Hp) (L':List Addr) (a:Addr),(a ∈ L' ++ (W.flatten ++ F.O₀))->a ∈ L'\/(a ∈ O2/\a ∉ fps.flatten):=fun H' L' a h=>by
   rcases List.mem_append.mp h with h | h
   ·exact .inl h
   ·refine .inr ⟨(memO a).mpr (List.mem_append_right _ h),fun z=>?_⟩
    exact (List.nodup_append.mp nd1).2.2 a z a h rfl
  have swapped:∀ (H':Hp) (L':List Addr),Beh H H' fps.flatten L' (W.flatten ++ F.O₀)->∃ O3,DSt X.K (F.plus L') H' σ (clr js ρ) O3/\Stp O2 H O3 H'/\∀ a,a ∈ O3 ↔ a ∈ L' ++ (W.flatten ++ F.O₀):=fun H' L' bh=>by
   obtain ⟨O3,t1,t2,t3,t4,t5⟩:=st2.swap (H':=H') (L':=L') bh.keep (List.nodup_append.mp bh.nd).1 bh.new nw bh.live
   refine ⟨O3,t1,t2,fun a=>⟨fun h=>?_,fun h=>?_⟩⟩
   ·rcases t4 a h with z | ⟨z1,z2⟩
    ·exact List.mem_append_left _ z
    ·rcases List.mem_append.mp ((memO a).mp z1) with z | z
     ·exact absurd z z2
     ·exact List.mem_append_right _ z
   ·rcases back2 H' L' a h with z | ⟨z1,z2⟩
    ·exact t3 a z
    ·exact t5 a z1 z2
  have r2:Vals (vs ++ []) (us ++ []):=by rw [List.append_nil,List.append_nil]; exact r
  let EX:XK:=fun C _ H'=>∃ c ρ' O',X.mg c=some C/\DSt X.K F H' σ ρ' O'/\E c ρ'
  have sp:spF X.K X.mg f vs H Q EX:=by
   refine ⟨hx.1.at st,cs,fps,W.flatten ++ F.O₀,ar.mono stE,nd1,fun a h=>?_,?_⟩
   ·exact stw.live a (by have:=(memO a).mpr h; rw [hO2] at this; exact this)
   ·cases hf:f cs with
    | bad=>rw [hf] at q; exact q
    | rt c outs=>
     rw [hf] at q
     simp only at q ⊢
     intro v H' fp fps' hca hou bh
     obtain ⟨O3,t1,t2,t3⟩:=swapped H' (fps'.flatten ++ fp) bh
     have eq3:Stp (fps'.flatten ++ fp ++ (W.flatten ++ F.O₀)) H' O3 H':=stp_less fun a h=>(t3 a).mp h
     have nwo:∀ a ∈ fps'.flatten ++ fp,a ∈ F.A₀\/F.H₀ a=none:=fun a h=>by
      rcases bh.new a h with z | z
      ·exact nw a z
      ·by_cases hA:a ∈ F.A₀
       ·exact .inl hA
       ·refine .inr ?_
        cases e:F.H₀ a with
        | none=>rfl
        | some o=>have:=stw.kept a o hA e; rw [z] at this; cases this
     have lj:(clr js ρ).length=ρ.length:=clr_len
     obtain ⟨O4,u1,u2⟩:=give_all (fp:=fp) ja lj t1 (hou.mono eq3) fun a h=>nwo a (List.mem_append_left _ h)
     exact hQ c _ q v H' O4 fp ⟨u1,hca.keep (eq3.trans u2) (fun _ _=>rfl) (fun _ _ _ e=>e),fun a h=>nwo a (List.mem_append_right _ h)⟩ (s1.trans (t2.trans u2))
    | ex c outs=>
     rw [hf] at q
     simp only at q ⊢
     intro C H' fps' hm hou bh
     obtain ⟨O3,t1,t2,t3⟩:=swapped H' fps'.flatten bh
     have eq3:Stp (fps'.flatten ++ (W.flatten ++ F.O₀)) H' O3 H':=stp_less fun a h=>(t3 a).mp h
     have nwo:∀ a ∈ fps'.flatten,a ∈ F.A₀\/F.H₀ a=none:=fun a h=>by
      rcases bh.new a h with z | z
      ·exact nw a z
      ·by_cases hA:a ∈ F.A₀
       ·exact .inl hA
       ·refine .inr ?_
        cases e:F.H₀ a with
        | none=>rfl
        | some o=>have:=stw.kept a o hA e; rw [z] at this; cases this
     have lj:(clr js ρ).length=ρ.length:=clr_len
     obtain ⟨O4,u1,u2⟩:=give_all (fp:=[]) ja lj (by rw [List.append_nil]; exact t1) (hou.mono eq3) nwo
     exact ⟨c,_,O4,hm,u1,q⟩
  have hl:(us ++ []).length=ps.length:=by rw [List.append_nil,<-r.length]; exact G.len _ _ _ _ sp
  refine wpAny_call (codeAny_mono (G.run X.A X.stack s H ⟨us,[]⟩ us vs Q EX hr I.env0 (by have:=hb s us I.kIn hl; rw [List.append_nil] at this; exact this) r sp) fun r s' hq=>?_)
  cases r with
  | error e=>
   obtain ⟨a,C,H',e1,I',cv,ex,c,ρ',O',hm,st',hE⟩:=I.flies hq
   exact hx.2 pins σ H' s' e c ρ' O' ⟨I',a,C,s.heap,_,e1,cv,ex,hm⟩ st' hE
  | ok fl=>
   cases fl with
   | ret u=>exact I.after hq
   | next=>exact False.elim hq
   | brk=>exact False.elim hq
   | cont=>exact False.elim hq
theorem do_call (hx:XOk X F E) (G:FnOk X.prog X.w X.K X.mg X.base (CXM X.prog X.w) k g fd ps (spF X.K X.mg f)) (hr:Room k X.A) (hg:Gl X x) (hm:X.mg x=some (.ref g)) (hk:PySem.W.keepIn X.K (.ref g)=true) (hb:Binds X.K fd ps [])
  (ha:DX X F (e :: es) tX) (hdb:(x == ("__debug__":Str))=false:=by decide) (he:starEach (e :: es) X.env=(false,eval e X.env) :: starEach es X.env:=by rfl) (hpl:(backTo pos (starEach es X.env)).any (·.1)=false:=by rfl) :
  DO X F (.Call (.Name x p) (e :: es) [] pos) (dCall f E tX):=by
 refine ⟨fun ρ Q Q' k q=>ha.mn _ _ _ (fun as ρ1 q1=>callOn_mn k q1) q,fun pins s σ H Q I ⟨ρ,O,st,q⟩=>?_⟩
 refine wpAny_Call_Name_kw (ld_glob I hg hm ?_ hdb)
 refine PySem.W.callWith_K (h₀:=X.base) I.ok.mod.kin hk (thn (ha.pa pos pins s σ H (fun vs H1=>∃ as ρ1 O1,DSt X.K F H1 σ ρ1 O1/\Stp O H O1 H1/\AxAt σ (hide O1 H1) vs as/\callOn f E (fun c ρ'=>∀ v H' O' fp,Res X.K F H' σ ρ' O' v c fp->Stp O H O' H'->Q v H') as ρ1) I ⟨ρ,O,st,ha.mn _ _ _ (fun as ρ1 q1 vs H1 O1 st1 s1 ax=>⟨as,ρ1,O1,st1,s1,ax,q1⟩) q⟩) fun us s1 ⟨vs,H1,I1,r,as,ρ1,O1,st1,s01,ax,q1⟩=>⟨I1.kIn,?_⟩) he hpl
 exact call_on hx G hr hb I1 r st1 ax q1 fun c ρ' h v H' O' fp res s2=>h v H' O' fp res (s01.trans s2)
end
end L2.L3
namespace L2.L3
open PySem PySem.Spec PyProof.Rows
noncomputable def OOk (H:Hp) (O:List Addr):Prop:=∀ a ∈ O,∃ o,H a=some o/\Mv o
theorem DSt.live {K:PySem.W.Frag} {F:Fx} {H:Hp} {σ:St} {ρ:DEnv} {O:List Addr} (st:DSt K F H σ ρ O):OOk H O:=by
 obtain ⟨W,h,rfl⟩:=st
 exact h.live
noncomputable abbrev DTI:=DEnv->(List PyData->DEnv->Prop)->Prop
noncomputable def Wk (O:List Addr) (H:Hp) (J:It) (its:List PyData):Prop:=∀ O' H',Stp O H O' H'->OOk H' O'->
 (∀ i d,its[i]? = some d->J.go i H'/\∀ x H'',J.yld i H' x H''->Same H' H''/\DV (hide O' H'') x d)/\J.stop its.length H'
noncomputable def rdI (K:PySem.W.Frag) (F:Fx) (s:DTI):TI:=fun σ H R=>∃ ρ O,DSt K F H σ ρ O/\s ρ fun its ρ'=>∀ J H' O',DSt K F H' σ ρ' O'->Stp O H O' H'->Wk O' H' J its->R J H'
structure DI (X:Cx) (F:Fx) (tg iter:Expr) (s:DTI):Prop where
 mn:∀ ρ Q Q',(∀ d ρ',Q d ρ'->Q' d ρ')->s ρ Q->s ρ Q'
 pi:PI X tg iter (rdI X.K F s)
theorem _root_.L2.PI.imp {X:Cx} {tg e:Expr} {t t':TI} (h:PI X tg e t) (k:∀ σ H Q,t' σ H Q->t σ H Q):PI X tg e t':=fun pins s σ H Q I q=>h pins s σ H Q I (k σ H Q q)
section
variable {X:Cx} {F:Fx} {tg e a b:Expr} {te:DT} {tA:DTA} {pos p:Pos}
noncomputable def iL (te:DT):DTI:=fun ρ Q=>te ρ fun d ρ'=>∃ ds,d=.list ds/\Q ds ρ'
noncomputable def iT (te:DT):DTI:=fun ρ Q=>te ρ fun d ρ'=>∃ ds,d=.tuple ds/\Q ds ρ'
theorem wk_list {K:PySem.W.Frag} {O:List Addr} {H:Hp} {a:Addr} {xs:List V} {ds:List PyData} (ha:hide O H a=some (.lst xs)) (hd:DVs (hide O H) xs ds):Wk O H (Itl K a) ds:=fun O' H' s ok=>by
 obtain ⟨h1,n1⟩:=of_hide ha
 have h2:=s.keep a _ n1 h1
 have hd':=DVs.mono s.hid hd
 refine ⟨fun i d e=>?_,⟨xs,.of h2,by rw [hd.length]; exact Nat.le_refl _⟩⟩
 obtain ⟨v,hv,dv⟩:=hd'.get e
 refine ⟨⟨xs,v,.of h2,hv⟩,fun x H'' ⟨e1,e2⟩=>?_⟩
 subst e1
 have:=e2 xs (.of h2)
 rw [hv] at this
 cases this
 exact ⟨fun _ _ h=>h,dv⟩
theorem wk_tup {K:PySem.W.Frag} {O:List Addr} {H:Hp} {a:Addr} {xs:List V} {ds:List PyData} (ha:Rd (hide O H) a (.tup xs)) (hd:DVs (hide O H) xs ds):Wk O H (Itt K a) ds:=fun O' H' s ok=>by
 obtain ⟨h1,n1⟩:=of_hideR ha
 have h2:Rd H' a (.tup xs):=h1.imp (fun e=>s.keep a _ n1 e) fun ⟨o,e⟩=>⟨o,s.keep a _ n1 e⟩
 have hd':=DVs.mono s.hid hd
 refine ⟨fun i d e=>?_,⟨xs,.inl h2,by rw [hd.length]; exact Nat.le_refl _⟩⟩
 obtain ⟨v,hv,dv⟩:=hd'.get e
 refine ⟨⟨xs,v,.inl h2,hv⟩,fun x H'' ⟨e1,e2⟩=>?_⟩
 subst e1
 have:=e2 xs (.inl h2)
 rw [hv] at this
 cases this
 exact ⟨fun _ _ h=>h,dv⟩
theorem di_list (h:DE X F e te):DI X F tg e (iL te):=
 ⟨fun _ _ _ k q=>h.mn _ _ _ (fun _ _ ⟨ds,e,q⟩=>⟨ds,e,k _ _ q⟩) q,(pi_list h.pe).imp fun σ H R ⟨ρ,O,st,q⟩=>
  ⟨ρ,O,st,h.mn _ _ _ (fun d ρ1 ⟨ds,e,q1⟩ v H1 O1 st1 s1 d1=>by
   subst e
   obtain ⟨a,xs,rfl,ha,hd⟩:=d1.lst_inv
   exact ⟨a,rfl,⟨xs,.of (of_hide ha).1⟩,q1 _ H1 O1 st1 s1 (wk_list ha hd)⟩) q⟩⟩
theorem di_tup (h:DE X F e te):DI X F tg e (iT te):=
 ⟨fun _ _ _ k q=>h.mn _ _ _ (fun _ _ ⟨ds,e,q⟩=>⟨ds,e,k _ _ q⟩) q,(pi_tup h.pe).imp fun σ H R ⟨ρ,O,st,q⟩=>
  ⟨ρ,O,st,h.mn _ _ _ (fun d ρ1 ⟨ds,e,q1⟩ v H1 O1 st1 s1 d1=>by
   subst e
   obtain ⟨a,xs,rfl,ha,hd⟩:=d1.tup_inv
   exact ⟨a,rfl,⟨xs,.inl (of_hideR ha).1⟩,q1 _ H1 O1 st1 s1 (wk_tup ha hd)⟩) q⟩⟩
noncomputable def intsFrom (lo:Int) (n:Nat):List PyData:=(List.range n).map fun (i:Nat)=>PyData.int (lo + i)
theorem intsFrom_length (lo:Int) (n:Nat):(intsFrom lo n).length=n:=by unfold intsFrom; rw [List.length_map,List.length_range]
theorem wk_range {O:List Addr} {H:Hp} {lo:Int} {n:Nat}:Wk O H (Itr lo n) (intsFrom lo n):=fun O' H' s ok=>by
 refine ⟨fun i d e=>?_,by show n<=(intsFrom lo n).length; rw [intsFrom_length]; exact Nat.le_refl _⟩
 unfold intsFrom at e
 rw [List.getElem?_map] at e
 obtain ⟨j,e1,e2⟩:=Option.map_eq_some_iff.mp e
 obtain ⟨hlt,e3⟩:=List.getElem?_eq_some_iff.mp e1
 rw [List.length_range] at hlt
 rw [List.getElem_range] at e3
 subst e3 e2
 exact ⟨hlt,fun x H'' ⟨q1,q2⟩=>by subst q1 q2; exact ⟨fun _ _ h=>h,.int _⟩⟩
noncomputable def iR1 (t:DTA):DTI:=fun ρ Q=>t ρ fun ds ρ'=>∃ j:Int,ds=[.int j]/\-(2 ^ 62)<=j/\j < 2 ^ 62/\Q (intsFrom 0 j.toNat) ρ'
theorem di_range1 (hg:Gl X "range") (hm:X.mg "range" = none) (ha:DA X F [a] tA) (hs:starEach [a] X.env=[(false,eval a X.env)]:=by rfl):DI X F tg (.Call (.Name "range" p) [a] [] pos) (iR1 tA):=
 ⟨fun _ _ _ k q=>ha.mn _ _ _ (fun _ _ ⟨j,e,h1,h2,q⟩=>⟨j,e,h1,h2,k _ _ q⟩) q,(pi_range1 hg hm ha.pa hs).imp fun σ H R ⟨ρ,O,st,q⟩=>
  ⟨ρ,O,st,ha.mn _ _ _ (fun ds ρ1 ⟨j,e,h1,h2,q1⟩ vs H1 O1 st1 s1 d1=>by
   subst e
   cases d1 with
   | cons d r=>
    cases r
    obtain rfl:=d.int_inv
    exact ⟨j,rfl,h1,h2,q1 _ H1 O1 st1 s1 wk_range⟩) q⟩⟩
end
noncomputable def sFor (s:DTI) (g:DTG) (tb:DTS):DTS:=fun D ρ=>s ρ fun its ρ1=>∃ Iv:Nat->DEnv->Prop,Iv 0 ρ1/\(∀ i d ρ,its[i]? = some d->Iv i ρ->g d ρ fun ρ2=>tb { D with nx:=Iv (i + 1),ct:=Iv (i + 1),bk:=D.nx } ρ2)/\∀ ρ,Iv its.length ρ->D.nx ρ
section
variable {X:Cx} {F:Fx} {tg iter:Expr} {body:List Stmt} {s:DTI} {g:DTG} {tb:DTS} {pos:Pos}
theorem ds_for (hp:PassesOwn (model X.prog X.w) X.A X.env X.xe) (hc:X.calm=true) (hi:DI X F tg iter s) (hg:DG X F tg g) (hb:DSs X F body tb) (hs:∀ x,foldedSetIterable iter X.env x=pure x:=by intro _; rfl):DS X F (.For tg iter body [] pos) (sFor s g tb):=
 (ps_for hp hc hi.pi hg.pg hb hs).imp fun D σ H ⟨ρ,O,DD,st,q,f⟩=>by
  refine ⟨ρ,O,st,hi.mn _ _ _ (fun its ρ1 ⟨Iv,i0,step,fin⟩ J H1 O1 st1 s1 wk=>?_) q⟩
  refine ⟨fun i m σ' H'=>∃ ρ' O',DSt X.K F H' σ' ρ' O'/\Stp O1 H1 O' H'/\Iv i ρ'/\i<=its.length/\m=its.length - i,⟨its.length,ρ1,O1,st1,.refl,i0,Nat.zero_le _,rfl⟩,?_⟩
  rintro i m σ' H' ⟨ρ',O',st',s',iv,hi',rfl⟩
  obtain ⟨w1,w2⟩:=wk O' H' s' st'.live
  by_cases hlt:i < its.length
  ·obtain ⟨go,yld⟩:=w1 i its[i] (List.getElem?_eq_getElem hlt)
   refine .inr ⟨go,fun σ2 H2=>∃ ρ2 O2,DSt X.K F H2 σ2 ρ2 O2/\Stp O1 H1 O2 H2/\Iv (i + 1) ρ2,fun σ2 H2 ⟨ρ2,O2,st2,s2,iv2⟩=>⟨its.length - (i + 1),by omega,ρ2,O2,st2,s2,iv2,hlt,rfl⟩,fun x H2 hy=>?_⟩
   obtain ⟨sm,dv⟩:=yld x H2 hy
   refine ⟨ρ',O',its[i],st'.grow sm,dv,hg.mn _ _ _ _ (fun ρ2 q2 σ3 H3 O3 st3 s3=>?_) (step i its[i] ρ' (List.getElem?_eq_getElem hlt) iv)⟩
   have s13:Stp O1 H1 O3 H3:=s'.trans ((Stp.same sm).trans s3)
   have nxt:∀ σ4 H4 ρ4 O4,DSt X.K F H4 σ4 ρ4 O4->Stp O3 H3 O4 H4->Iv (i + 1) ρ4->∃ ρ2 O2,DSt X.K F H4 σ4 ρ2 O2/\Stp O1 H1 O2 H4/\Iv (i + 1) ρ2:=fun σ4 H4 ρ4 O4 st4 s4 q4=>⟨ρ4,O4,st4,s13.trans s4,q4⟩
   exact ⟨ρ2,O3,_,st3,q2,⟨nxt,fun v σ4 H4 d ρ4 O4 fp4 st4 s4 q4=>f.rt v σ4 H4 d ρ4 O4 fp4 st4 (s1.trans (s13.trans s4)) q4,fun σ4 H4 ρ4 O4 st4 s4 q4=>f.nx σ4 H4 ρ4 O4 st4 (s1.trans (s13.trans s4)) q4,nxt⟩⟩
  ·have e:i=its.length:=by omega
   subst e
   exact .inl ⟨w2,f.nx σ' H' ρ' O' st' (s1.trans s') (fin ρ' iv)⟩
end
section
variable {X:Cx} {F:Fx} {c:Expr} {body:List Stmt} {tc:DTT} {tb:DTS} {pos:Pos}
end
end L2.L3
namespace L2.L3
open PySem PySem.Spec PyProof.Rows
@[simp] noncomputable def capC:Option (Option Cell)->Option Cell
 | some (some (.dat d))=>some (.dat d)
 | some (some (.scr ns))=>some (.scr ns)
 | some (some (.vw b))=>some (.vw b)
 | _=>none
noncomputable def liftD (own:List Str) (caps:List Nat) (ρ:DEnv):DEnv:=own.map (fun _=>none) ++ caps.map fun j=>capC ρ[j]?
noncomputable def dCmp (own:List Str) (caps:List Nat) (s:DTI) (g:DTG) (tc:DTT) (te:DT):DT:=fun ρ Q=>s ρ fun its ρ1=>∃ Iv:Nat->List PyData->DEnv->Prop,Iv 0 [] (liftD own caps ρ1)/\
 (∀ i d ys ρ',its[i]? = some d->Iv i ys ρ'->g d ρ' fun ρ2=>tc ρ2 fun b ρ3=>if b=true then te ρ3 fun y ρ4=>ys.length < sizeLine/\Iv (i + 1) (ys ++ [y]) ρ4 else Iv (i + 1) ys ρ3)/\
 ∀ ys ρ',Iv its.length ys ρ'->ys.length<=sizeLine/\Q (.list ys) ρ1
noncomputable def MnI (s:DTI):Prop:=∀ ρ Q Q',(∀ d ρ',Q d ρ'->Q' d ρ')->s ρ Q->s ρ Q'
section
variable {K:PySem.W.Frag} {F:Fx} {own:List Str} {caps:List Nat} {s:DTI} {g:DTG} {tc:DTT} {te:DT}
theorem mn_cmp (hs:MnI s):Mn (dCmp own caps s g tc te):=fun _ _ _ k q=>hs _ _ _ (fun _ _ ⟨Iv,h0,h1,h2⟩=>⟨Iv,h0,h1,fun ys ρ' h=>⟨(h2 ys ρ' h).1,k _ _ (h2 ys ρ' h).2⟩⟩) q
theorem rd_cmp {PF:Fx->Prop} (hP:∀ H1 σ ρ1 O1 O2,DSt K F H1 σ ρ1 O1->PF ⟨H1,[],O2,fun _=>0⟩) (hs:MnI s) (hg:∀ d ρ Q Q',(∀ ρ',Q ρ'->Q' ρ')->g d ρ Q->g d ρ Q') (ht:MnT tc) (he:Mn te):∀ σ H Q,rdE K F (dCmp own caps s g tc te) σ H Q->
  tComp own caps (rdI K F s) (fun v σ H Q=>∃ F',PF F'/\rdG K F' g v σ H Q) (fun σ H Q=>∃ F',PF F'/\rdT K F' tc σ H Q) (fun σ H Q=>∃ F',PF F'/\rdE K F' te σ H Q) σ H Q:=fun σ H Q ⟨ρ,O,st,q⟩=>by
 refine ⟨ρ,O,st,hs _ _ _ (fun its ρ1 ⟨Iv,i0,step,fin⟩ J H1 O1 st1 s1 wk=>?_) q⟩
 refine ⟨fun i m ys σ' H'=>∃ ρ' O' ds,DSt K ⟨H1,[],O1,fun _=>0⟩ H' σ' ρ' O'/\Iv i ds ρ'/\DVs (hide O' H') ys ds/\i<=its.length/\m=its.length - i,⟨its.length,liftD own caps ρ1,O1,[],?_,i0,.nil,Nat.zero_le _,rfl⟩,?_⟩
 ·have cell:∀ (i:Nat) (c:Cell),(liftD own caps ρ1)[i]? = some (some c)->(∀ io b,c ≠ .own io b)/\∃ v,(liftC own caps σ)[i]? = some (some v)/\CellAt K H1 O1 v c []:=fun i c e=>by
   unfold liftD at e
   unfold liftC
   by_cases hi:i < own.length
   ·rw [List.getElem?_append_left (by simpa using hi),List.getElem?_map] at e
    cases h:own[i]? with
    | none=>rw [h] at e; cases e
    | some y=>rw [h] at e; cases e
   ·rw [List.getElem?_append_right (by simpa using Nat.le_of_not_lt hi),List.length_map,List.getElem?_map] at e
    rw [List.getElem?_append_right (by simpa using Nat.le_of_not_lt hi),List.length_map,List.getElem?_map]
    obtain ⟨j,h1,h2⟩:=Option.map_eq_some_iff.mp e
    rw [h1]
    show _/\∃ v,some ((σ[j]?).getD none)=some (some v)/\_
    cases h3:ρ1[j]? with
    | none=>rw [h3] at h2; cases h2
    | some o=>
     cases o with
     | none=>rw [h3] at h2; cases h2
     | some c'=>
      rw [h3] at h2
      obtain ⟨W,stw,rfl⟩:=id st1
      obtain ⟨v,fp,e1,_,e2⟩:=stw.at_ j c' h3
      rw [e1]
      cases c' with
      | dat d=>cases h2; exact ⟨(fun _ _ z=>by cases z),v,rfl,e2⟩
      | scr ns=>cases h2; exact ⟨(fun _ _ z=>by cases z),v,rfl,e2⟩
      | own _ _=>cases h2
      | exc _=>cases h2
      | vw b=>cases h2; exact ⟨(fun _ _ z=>by cases z),v,rfl,e2⟩
  obtain ⟨W,stw,hO1⟩:=id st1
  have ln:(liftD own caps ρ1).length=(liftC own caps σ).length:=by unfold liftD liftC; simp
  have fl:(List.replicate (liftD own caps ρ1).length ([]:List Addr)).flatten ++ O1=O1:=by rw [flat_rep]; rfl
  refine ⟨List.replicate (liftD own caps ρ1).length [],⟨fun i c e=>?_,by show (_ ++ O1).Nodup; rw [fl,hO1]; exact stw.nd,fun _ _ _ h=>h,fun a h=>?_,by show OOk H1 (_ ++ O1); rw [fl]; exact st1.live,ln,by simp,fun i b e=>absurd rfl ((cell i _ e).1 true b)⟩,fl.symm⟩
  ·obtain ⟨_,v,e1,e2⟩:=cell i c e
   refine ⟨v,[],e1,?_,by show CellAt K H1 (_ ++ O1) v c []; rw [fl]; exact e2⟩
   rw [List.getElem?_replicate,if_pos (List.getElem?_eq_some_iff.mp e).1]
  ·rw [flat_rep] at h; cases h
 ·rintro i m ys σ' H' ⟨ρ',O',ds,st',iv,dv,hi,rfl⟩
  have sm:Same H1 H':=fun b o e=>by obtain ⟨W',h',_⟩:=id st'; exact h'.kept b o (by simp) e
  have stp:Stp O1 H1 O' H':=⟨fun b o _ e=>sm b o e,fun a h=>by
   obtain ⟨W',h',rfl⟩:=id st'
   rcases List.mem_append.mp h with h | h
   ·exact (h'.new a h).elim (fun z=>absurd z (by simp)) .inr
   ·exact .inl h⟩
  have sub1:∀ a ∈ O1,a ∈ O':=fun a h=>by obtain ⟨W',h',rfl⟩:=id st'; exact List.mem_append_right _ h
  obtain ⟨w1,w2⟩:=wk O' H' stp st'.live
  by_cases hlt:i < its.length
  ·obtain ⟨go,yld⟩:=w1 i its[i] (List.getElem?_eq_getElem hlt)
   refine .inr ⟨go,fun x H2 hy=>?_⟩
   obtain ⟨sm2,dx⟩:=yld x H2 hy
   refine ⟨⟨H1,[],O1,fun _=>0⟩,hP _ _ _ _ _ st1,ρ',O',its[i],st'.grow sm2,dx,hg _ _ _ _ (fun ρ2 q2 σ3 H3 O3 st3 s3=>?_) (step i its[i] ds ρ' (List.getElem?_eq_getElem hlt) iv)⟩
   refine ⟨⟨H1,[],O1,fun _=>0⟩,hP _ _ _ _ _ st1,ρ2,O3,st3,ht _ _ _ (fun b ρ3 q3 H4 O4 st4 s4=>?_) q2⟩
   have d4:DVs (hide O4 H4) ys ds:=DVs.mono s4.hid (DVs.mono s3.hid (DVs.mono (hide_same sm2) dv))
   cases b with
   | false=>exact iteF ⟨its.length - (i + 1),by omega,ρ3,O4,ds,st4,ofF q3,d4,hlt,rfl⟩
   | true=>
    refine iteT ⟨⟨H1,[],O1,fun _=>0⟩,hP _ _ _ _ _ st1,ρ3,O4,st4,he _ _ _ (fun y ρ4 q4 v H5 O5 st5 s5 dy=>?_) (ofT q3)⟩
    refine ⟨by rw [d4.length]; exact q4.1,its.length - (i + 1),by omega,ρ4,O5,ds ++ [y],st5,q4.2,(DVs.mono s5.hid d4).append (.cons dy .nil),hlt,rfl⟩
  ·have e:i=its.length:=by omega
   subst e
   obtain ⟨hz,q⟩:=fin ds ρ' iv
   refine .inl ⟨w2,by rw [dv.length]; exact hz,fun p hp=>?_⟩
   have pO':=st'.nofree p hp
   exact q _ _ O1 (st1.grow fun b o e=>same_upd hp _ _ (sm b o e)) (s1.trans (.same fun b o e=>same_upd hp _ _ (sm b o e))) (dv_new_lst hp (fun z=>pO' (sub1 p z)) (DVs.mono (hide_more sub1) dv))
end
noncomputable def DBs (X:Cx) (F:Fx) (ifs:List Expr) (t:DTT):Prop:=MnT t/\PTs X ifs (rdT X.K F t)
noncomputable def bYes:DTT:=fun ρ Q=>Q true ρ
theorem dbs_nil {X:Cx} {F:Fx}:DBs X F [] bYes:=⟨fun _ _ _ k q=>k _ _ q,fun pins s σ H Q I ⟨ρ,O,st,q⟩=>pts_nil pins s σ H Q I (q H O st .refl)⟩
theorem dbs_one {X:Cx} {F:Fx} {c:Expr} {t:DTT} (h:DB X F c t):DBs X F [c] t:=⟨h.mn,pts_one h.pt⟩
section
variable {X:Cx} {F:Fx} {scope:Scope} {own capN:List Str} {caps:List Nat} {tg iter elt:Expr} {ifs:List Expr} {s:DTI} {g:DTG} {tc:DTT} {te:DT} {pos:Pos}
theorem de_comp (hG:GF X.mg F) (S:CompScope X scope own capN caps) (hc:X.calm=true) (hi:DI X F tg iter s)
  (hin:∀ C fp s₂ H₂ pl F',GF X.mg F'->DG (compCx X scope (own ++ capN) C fp s₂ H₂ pl) F' tg g/\DBs (compCx X scope (own ++ capN) C fp s₂ H₂ pl) F' ifs tc/\DE (compCx X scope (own ++ capN) C fp s₂ H₂ pl) F' elt te)
  (hs:∀ x,foldedSetIterable iter X.env x=pure x:=by intro _; rfl):DE X F (.ListComp elt [⟨tg,iter,ifs,0⟩] scope pos) (dCmp own caps s g tc te):=by
 have F0:Fx:=F
 obtain ⟨hg,ht,he⟩:=hin 0 [] (PySem.start X.prog).1 (fun _=>none) [] F hG
 refine ⟨mn_cmp hi.mn,(pe_comp S hc hi.pi (fun C fp s₂ H₂ pl=>⟨fun pins s σ H v u Q I r ⟨F',g',q⟩=>(hin C fp s₂ H₂ pl F' g').1.pg pins s σ H v u Q I r q,fun pins s σ H Q I ⟨F',g',q⟩=>(hin C fp s₂ H₂ pl F' g').2.1.2 pins s σ H Q I q,fun pins s σ H Q I ⟨F',g',q⟩=>(hin C fp s₂ H₂ pl F' g').2.2.pe pins s σ H Q I q⟩) hs).imp (rd_cmp (fun _ _ _ _ _ st=>hG.into st) hi.mn hg.mn ht.1 he.mn)⟩
end
end L2.L3
namespace L2
open PySem PySem.Spec PyProof.Rows
section
variable {X:Cx} {pins:List (Addr × Obj)} {σ:St} {H:Hp} {s:Shared}
end
section
variable {X:Cx} {a b c:Expr} {t:TA} {pos p1 p2 pos2:Pos}
theorem call_allB (hc:X.calm=true):CallR X (.builtin "all") (fun xs H Q=>∃ (l:Addr) (bs:List Bool),xs=[.ref l]/\H l=some (.lst (bs.map V.bl))/\Q (.bl (bs.all id)) H):=by
 intro pins s σ H xs us Q I r h
 obtain ⟨l,bs,rfl,hl,q⟩:=h
 obtain ⟨u,rfl,ru⟩:=vals1 r
 cases ru
 obtain ⟨z,its,n,rv,e⟩:=I.hok _ _ hl
 have L:s.heap.IsList l its.toArray:=⟨_,e,rfl,_,rfl⟩
 have hlt:l < s.heap.objs.size:=Heap.lt_size e
 have len:=rv.length
 rw [List.length_map] at len
 refine call_all_walk (wpAny_pyIter_list L ?_)
 refine ⟨s.heap.objs.size,_,_,_,_,_,fun i=>bs.getD i true,rfl,Walks.list (A:=X.A.in1) (show X.A.in1.handled=none from I.ok.hd hc) s.heap.objs.size l (Nat.ne_of_lt hlt) its.toArray,⟨⟨_,Heap.get?_push_size _ rfl,rfl,rfl⟩,L.push _⟩,?_,fun h' tk hk=>?_⟩
 ·intro i v s' Q' E' hv hq
  have hi:its[i]? = some v:=by simpa using hv
  have hlt:i < bs.length:=by rw [len]; exact (List.getElem?_eq_some_iff.mp hi).1
  obtain ⟨w,hw,rw'⟩:=rv.get (i:=i) (x:=.bl bs[i]) (by rw [List.getElem?_map,List.getElem?_eq_getElem hlt]; rfl)
  rw [hi] at hw
  cases hw
  cases rw'
  refine wpAny_truthy_bool ?_
  have:bs.getD i true=bs[i]:=by simp [List.getD,hlt]
  have hq:Q' (bs.getD i true) s':=hq
  rw [this] at hq
  exact hq
 ·have e1:(List.range its.toArray.size).all (fun i=>bs.getD i true)=bs.all id:=by
   rw [List.size_toArray,<-len]
   rw [Bool.eq_iff_iff,List.all_eq_true,List.all_eq_true]
   constructor
   ·intro h b hb
    obtain ⟨i,hi,rfl⟩:=List.getElem_of_mem hb
    have:=h i (List.mem_range.mpr hi)
    simpa [List.getD,hi] using this
   ·intro h i hi
    have hi':=List.mem_range.mp hi
    have:=h bs[i] (List.getElem_mem hi')
    simpa [List.getD,hi'] using this
  rw [e1]
  exact ⟨.bl (bs.all id),H,I.kept fun b o eb=>hk b o (fun zz=>absurd (Heap.lt_size eb) (by rw [List.mem_singleton.mp zz]; exact Nat.lt_irrefl _)) (Heap.get?_push_of_some _ eb),rfl,q⟩
end
end L2
namespace L2.L3
open PySem PySem.Spec PyProof.Rows
noncomputable def fLen:DN:=fun xs Q=>∃ ds,(xs=[.list ds]\/xs=[.tuple ds])/\Q (.int ds.length)
theorem n_len {K:PySem.W.Frag}:OpN (fun xs H Q=>∃ p ys,xs=[.ref p]/\(SqL K H p ys\/SqT K H p ys)/\Q (.int ys.length) H) fLen where
 mn:=fun _ _ _ k ⟨ds,e,q⟩=>⟨ds,e,k _ q⟩
 ok:=fun O H vs xs Q hO hd ⟨ds,e,q⟩=>by
  rcases e with rfl | rfl
  ·cases hd with
   | cons d r=>
    cases r
    obtain ⟨a,ys,rfl,ha,hy⟩:=d.lst_inv
    exact ⟨a,ys,rfl,.inl (.of (of_hide ha).1),by rw [hy.length]; exact q _ H (fun _ _ h=>h) (.int _)⟩
  ·cases hd with
   | cons d r=>
    cases r
    obtain ⟨a,ys,rfl,ha,hy⟩:=d.tup_inv
    exact ⟨a,ys,rfl,.inr (.inl (of_hideR ha).1),by rw [hy.length]; exact q _ H (fun _ _ h=>h) (.int _)⟩
theorem dvs2 {H:Hp} {vs:List V} {a b:PyData} (h:DVs H vs [a,b]):∃ x y,vs=[x,y]/\DV H x a/\DV H y b:=by
 cases h with | cons d r=>cases r with | cons d' r=>cases r; exact ⟨_,_,rfl,d,d'⟩
theorem dvs1 {H:Hp} {vs:List V} {a:PyData} (h:DVs H vs [a]):∃ x,vs=[x]/\DV H x a:=by
 cases h with | cons d r=>cases r; exact ⟨_,rfl,d⟩
noncomputable def fTuple:DN:=fun xs Q=>(∃ ds,xs=[.list ds]/\Q (.tuple ds))\/∃ ds,xs=[.tuple ds]/\Q (.tuple ds)
theorem n_tuple {K:PySem.W.Frag}:OpN (fun xs H Q=>∃ p ys,xs=[.ref p]/\((SqL K H p ys/\∀ l,H l=none->Q (.ref l) (upd H l (.tup ys)))\/(SqT K H p ys/\Q (.ref p) H))) fTuple where
 mn:=fun _ _ _ k q=>q.imp (fun ⟨i,e,q⟩=>⟨i,e,k _ q⟩) fun ⟨i,e,q⟩=>⟨i,e,k _ q⟩
 ok:=fun O H vs xs Q hO hd q=>by
  rcases q with ⟨ds,e,q⟩ | ⟨ds,e,q⟩
  ·subst e
   obtain ⟨x,rfl,h1⟩:=dvs1 hd
   obtain ⟨a,ys,rfl,ha,hy⟩:=h1.lst_inv
   exact ⟨a,ys,rfl,.inl ⟨.of (of_hide ha).1,fun p hp=>q _ _ (same_upd hp) (dv_new_tup hp (hO p hp) hy)⟩⟩
  ·subst e
   obtain ⟨x,rfl,h1⟩:=dvs1 hd
   obtain ⟨a,ys,e,ha,hy⟩:=h1.tup_inv
   subst e
   exact ⟨a,ys,rfl,.inr ⟨.inl (of_hideR ha).1,q _ H (fun _ _ h=>h) h1⟩⟩
noncomputable def fAll:DN:=fun xs Q=>∃ bs:List Bool,xs=[.list (bs.map .bool)]/\Q (.bool (bs.all id))
theorem dvs_bools {H:Hp}:∀ {bs:List Bool} {vs:List V},DVs H vs (bs.map PyData.bool)->vs=bs.map V.bl
 | [],_,h=>by cases h; rfl
 | b :: r,_,h=>by
  cases h with
  | cons d q=>rw [d.bl_inv,dvs_bools q]; rfl
theorem n_all:OpN (fun xs H Q=>∃ (l:Addr) (bs:List Bool),xs=[.ref l]/\H l=some (.lst (bs.map V.bl))/\Q (.bl (bs.all id)) H) fAll where
 mn:=fun _ _ _ k ⟨bs,e,q⟩=>⟨bs,e,k _ q⟩
 ok:=fun O H vs xs Q hO hd ⟨bs,e,q⟩=>by
  subst e
  obtain ⟨x,rfl,h1⟩:=dvs1 hd
  obtain ⟨a,ys,rfl,ha,hy⟩:=h1.lst_inv
  exact ⟨a,bs,rfl,by rw [(of_hide ha).1,dvs_bools hy],q _ H (fun _ _ h=>h) (.bl _)⟩
section
variable {X:Cx} {F:Fx} {a b c e:Expr} {te:DT} {tA:DTA} {pos p1 p2 pos2:Pos}
end
section
variable {X:Cx} {F:Fx} {a b c e:Expr} {te:DT} {tA:DTA} {pos p p1 p2 pos2:Pos} {x:Str} {i:Nat}
noncomputable def dLenS (i:Nat):DT:=fun ρ Q=>∃ ns,ρ[i]? = some (some (.scr ns))/\(ns.length<=63->Q (.int ns.length) ρ)
theorem de_lenS (hg:Gl X "len") (hm:X.mg "len" = none) (h:PE X (.Name x p1) (tVar i)) (he:starEach [.Name x p1] X.env=(false,eval (.Name x p1) X.env) :: starEach [] X.env:=by rfl) (hpl:(backTo pos (starEach [] X.env)).any (·.1)=false:=by rfl) :
  DE X F (.Call (.Name "len" p) [.Name x p1] [] pos) (dLenS i):=
 ⟨fun _ _ _ k ⟨ns,e,q⟩=>⟨ns,e,fun h=>k _ _ (q h)⟩,(pe_callB call_len_seq hg hm PySem.boot_len (pa_cons h pa_nil he) (by decide) (by decide) he hpl).imp fun σ H Q ⟨ρ,O,st,ns,e,q⟩=>by
  obtain ⟨sa,hv,hs⟩:=st.scr e
  refine ⟨_,hv,sa,ns.map V.int,rfl,.inl hs.sq,?_⟩
  rw [List.length_map]
  exact q hs.1 _ H O st .refl (.int _)⟩
noncomputable def dIxS (i:Nat) (te:DT):DT:=fun ρ Q=>∃ ns,ρ[i]? = some (some (.scr ns))/\te ρ fun d ρ'=>∃ k n,d=.int k/\atI ns k=some n/\Q (.int n) ρ'
theorem atI_map {α β:Type} {g:α->β} {l:List α} {k:Int} {n:α} (h:atI l k=some n):atI (l.map g) k=some (g n):=by
 unfold atI at h ⊢
 rw [List.length_map]
 cases q:ixN l.length k with
 | none=>rw [q] at h; cases h
 | some j=>
  rw [q] at h
  show (l.map g)[j]? = some (g n)
  rw [List.getElem?_map]
  have h:l[j]? = some n:=h
  rw [h]
  rfl
theorem de_ixS (h:PE X (.Name x p1) (tVar i)) (he:DE X F e te) (hs:PlainIx e):DE X F (.Subscript (.Name x p1) e pos) (dIxS i te):=
 ⟨fun _ _ _ k ⟨ns,e,q⟩=>⟨ns,e,he.mn _ _ _ (fun _ _ ⟨k',n,e1,e2,q⟩=>⟨k',n,e1,e2,k _ _ q⟩) q⟩,(pe_ix ix_list h he.pe hs).imp fun σ H Q ⟨ρ,O,st,ns,e,q⟩=>by
  obtain ⟨sa,hv,hs⟩:=st.scr e
  refine ⟨_,hv,ρ,O,st,he.mn _ _ _ (fun d ρ1 ⟨k,n,e1,e2,q1⟩ w H1 O1 st1 s1 d1=>?_) q⟩
  subst e1
  have hs1:Scr X.K H1 sa ns:=hs.mono fun o u q=>s1.keep _ _ (fun z=>by obtain ⟨xs,e,m⟩:=st.live _ z; rw [q] at e; cases e; exact m) q
  exact ⟨sa,ns.map V.int,k,.int n,rfl,d1.int_inv,hs1.sq,atI_map e2,q1 _ H1 O1 st1 s1 (.int _)⟩⟩
noncomputable def rEqS (K:PySem.W.Frag):R2:=fun x y H Q=>∃ a b ns,x=.ref a/\y=.ref b/\SqL K H a (ns.map V.int)/\H b=some (.lst [])/\Q (.bl (decide (ns=[]))) H
theorem reads_ints {h:Heap}:∀ {ns:List Int} {us:List Value},Vals (ns.map V.int) us->∃ as,ReadsAll h us (ns.map PyData.int) as
 | [],_,r=>by cases r; exact ⟨_,.nil⟩
 | n :: ns,_,r=>by
  cases r with
  | cons r1 r=>
   obtain ⟨t,rfl⟩:=r1
   obtain ⟨as,q⟩:=reads_ints r
   exact ⟨_,.cons (.int n t) q⟩
theorem op_eqS (hu:X.A.units + 64 < cLine):OpR X (compareOp .Eq) (rEqS X.K):=by
 intro pins s σ H x y v u Q I rx ry h
 obtain ⟨a,b,ns,rfl,rfl,h1,h2,q⟩:=h
 cases rx; cases ry
 obtain ⟨its,rv,⟨o,n,e,c1,_,d1⟩,hz⟩:=I.list h1
 obtain ⟨_,its2,n2,rv2,e2⟩:=I.hok _ _ h2
 cases rv2
 obtain ⟨as,ra⟩:=reads_ints (h:=s.heap) rv
 have e3:PyData.eqv (.list (ns.map .int)) (.list [])=decide (ns=[]):=by cases ns <;> rfl
 refine eq_dataH (reads_list_at e c1 d1 (by simpa using ra)) (reads_list_at (xs:=[]) e2 rfl rfl .nil) ?_ (by decide) hu (by rw [e3]; exact ⟨.bl _,H,I,rfl,q⟩)
 unfold SeqAt.shaped
 have c0:PyData.canLay0 (.list (ns.map .int))=true:=by
  have:∀ ns:List Int,PyData.canLayAll0 (ns.map .int)=true:=fun ns=>by
   induction ns with
   | nil=>rfl
   | cons n r ih=>rw [List.map_cons]; simp only [PyData.canLayAll0,PyData.canLay0,ih,Bool.and_self]
  simp only [PyData.canLay0,this]
 have dp:PyData.depth (.list (ns.map .int))<=64:=by
  have:∀ ns:List Int,PyData.depthAll (ns.map .int)<=1:=fun ns=>by
   induction ns with
   | nil=>simp [PyData.depthAll]
   | cons n r ih=>rw [List.map_cons]; simp only [PyData.depthAll,PyData.depth]; omega
  have:=this ns
  simp only [PyData.depth]
  omega
 rw [c0,Bool.true_and]
 exact decide_eq_true dp
noncomputable def dEqS (i:Nat):DTT:=fun ρ Q=>∃ ns,ρ[i]? = some (some (.scr ns))/\Q (decide (ns=[])) ρ
theorem db_eqS {lp:Pos} (hu:X.A.units + 64 < cLine) (h:PE X (.Name x p1) (tVar i)):DB X F (.Compare (.Name x p1) [.Eq] [.List [] lp] pos) (dEqS i):=
 ⟨fun _ _ _ k ⟨ns,e,q⟩=>⟨ns,e,k _ _ q⟩,(pt_cmpR (op_eqS hu) h (pe_lst pa_nil) (nomark _)).imp fun σ H Q ⟨ρ,O,st,ns,e,q⟩=>by
  obtain ⟨sa,hv,hs⟩:=st.scr e
  refine ⟨_,hv,Nat.zero_le _,fun p hp=>⟨sa,p,ns,rfl,rfl,(same_upd hp).seq hs.sq,upd_same,_,rfl,q _ O (st.grow (same_upd hp)) (.same (same_upd hp))⟩⟩⟩
end
end L2.L3
namespace L2.L3
open PySem PySem.Spec PyProof.Rows
structure FD (K:PySem.W.Frag) (mg:Str->Option Value) (x:Str) (st:Stmt) (ps:List Str) (g:Addr) (fd:FuncData):Prop where
 fn:Fun K x x st g fd
 mgf:mg x=some (.ref g)
 b:Binds K fd ps []
section
variable {X:Cx} {scope:Scope} {own capN:List Str} {caps:List Nat}
theorem CompScope.of (h1:scope.kind=.function:=by rfl) (h2:(scope.names.all fun y=>y.2 != .cell)=true:=by rfl)
  (h3:(scope.names.all fun y=>y.2 != .free || (X.env.kindOf y.1 == some .cell || X.env.kindOf y.1 == some .free))=true:=by rfl)
  (h4:(scope.names.all fun y=>y.2 != .local || scope.names.lookup y.1 == some .local)=true:=by rfl) (h5:caps.map (fun j=>X.N[j]?)=capN.map some:=by rfl)
  (h6:(capN.all fun x=>scope.names.lookup x == some .free)=true:=by rfl):CompScope X scope own capN caps where
 kind:=h1
 nocell:=fun y hy e=>by
  have:=List.all_eq_true.mp h2 y hy
  rw [e] at this
  exact absurd this (by decide)
 free:=fun y hy e=>by
  have:=List.all_eq_true.mp h3 y hy
  rw [e] at this
  rw [Bool.or_eq_true] at this
  rcases this with z | z
  ·exact absurd z (by decide)
  ·rw [Bool.or_eq_true] at z
   exact z.imp (fun z=>eq_of_beq z) fun z=>eq_of_beq z
 loc:=fun y hy e=>by
  have:=List.all_eq_true.mp h4 y hy
  rw [e] at this
  rw [Bool.or_eq_true] at this
  rcases this with z | z
  ·exact absurd z (by decide)
  ·exact eq_of_beq z
 caps:=h5
 capf:=fun x hx=>eq_of_beq (List.all_eq_true.mp h6 x hx)
end
section
variable {X:Cx} {F:Fx} {a b c e:Expr} {ta tb tc:DT} {pos:Pos}
noncomputable abbrev qI (g:Int->Int->Int):D2:=fI (fun _ _=>True) fun i j=>.int (g i j)
noncomputable abbrev qB (g:Int->Int->Bool):D2:=fI (fun _ _=>True) fun i j=>.bool (g i j)
theorem de_add (ha:DE X F a ta) (hb:DE X F b tb):DE X F (.BinOp a .Add b pos) (dOp (qI fun i j=>i + j) ta tb):=de_op op_add (o_int0 fun _ _ _=>.int _) ha hb
theorem de_sub (ha:DE X F a ta) (hb:DE X F b tb):DE X F (.BinOp a .Sub b pos) (dOp (qI fun i j=>i - j) ta tb):=de_op op_sub (o_int0 fun _ _ _=>.int _) ha hb
theorem de_mul (ha:DE X F a ta) (hb:DE X F b tb):DE X F (.BinOp a .Mult b pos) (dOp (fI CMul fun i j=>.int (i * j)) ta tb):=de_op op_mul (o_int fun _ _ _=>.int _) ha hb
theorem de_mod (ha:DE X F a ta) (hb:DE X F b tb):DE X F (.BinOp a .Mod b pos) (dOp (fI (fun _ j=>0 < j) fun i j=>.int (i % j)) ta tb):=de_op op_mod (o_int fun _ _ _=>.int _) ha hb
theorem de_cat (ha:DE X F a ta) (hb:DE X F b tb):DE X F (.BinOp a .Add b pos) (dOp fCatL ta tb):=de_op op_cat o_catL ha hb
theorem db_lt (ha:DE X F a ta) (hb:DE X F b tb):DB X F (.Compare a [.Lt] [b] pos) (dTst (dOp (qB fun i j=>decide (i < j)) ta tb)):=db_cmp op_lt (o_int0 fun _ _ _=>.bl _) ha hb (nomark _)
theorem db_le (ha:DE X F a ta) (hb:DE X F b tb):DB X F (.Compare a [.LtE] [b] pos) (dTst (dOp (qB fun i j=>decide (i<=j)) ta tb)):=db_cmp op_le (o_int0 fun _ _ _=>.bl _) ha hb (nomark _)
theorem db_gt (ha:DE X F a ta) (hb:DE X F b tb):DB X F (.Compare a [.Gt] [b] pos) (dTst (dOp (qB fun i j=>decide (j < i)) ta tb)):=db_cmp op_gt (o_int0 fun _ _ _=>.bl _) ha hb (nomark _)
theorem de_eq (hu:X.A.units + 64 < cLine) (ha:DE X F a ta) (hb:DE X F b tb):DE X F (.Compare a [.Eq] [b] pos) (dOp (fEq false) ta tb):=de_cmp (op_eqD hu) o_eq ha hb (nomark _)
theorem db_eq (hu:X.A.units + 64 < cLine) (ha:DE X F a ta) (hb:DE X F b tb):DB X F (.Compare a [.Eq] [b] pos) (dTst (dOp (fEq false) ta tb)):=db_cmp (op_eqD hu) o_eq ha hb (nomark _)
theorem db_ne (hu:X.A.units + 64 < cLine) (ha:DE X F a ta) (hb:DE X F b tb):DB X F (.Compare a [.NotEq] [b] pos) (dTst (dOp (fEq true) ta tb)):=db_cmp (op_neD hu) o_eq ha hb (nomark _)
theorem de_isN (ha:DE X F a ta) (hb:DE X F b tb):DE X F (.Compare a [.Is] [b] pos) (dOp fIs ta tb):=de_cmp op_isN o_is ha hb (nomark _)
theorem db_isN (ha:DE X F a ta) (hb:DE X F b tb):DB X F (.Compare a [.Is] [b] pos) (dTst (dOp fIs ta tb)):=db_cmp op_isN o_is ha hb (nomark _)
theorem de_lele (ha:DE X F a ta) (hb:DE X F b tb) (hc:DE X F c tc) (hm:lastMarks [.LtE,.LtE] [b,c]=false:=by with_unfolding_all rfl):DE X F (.Compare a [.LtE,.LtE] [b,c] pos) (dChain (fun i j=>decide (i<=j)) (fun i j=>decide (i<=j)) ta tb tc):=de_chain op_le op_le ha hb hc hm
theorem de_gint {x:Str} {i:Int} {t:Tok} (hg:Gl X x) (hm:X.mg x=some (.int i t)) (hd:(x == ("__debug__":Str))=false:=by decide):DE X F (.Name x pos) (dC (.int i)):=de_const (v:=.int i) (pe_glob hg hm ⟨t,rfl⟩ hd) fun _=>.int i
mutual
theorem eqv_refl:∀ (d:PyData),d.canLay0=true->PyData.eqv d d=true
 | .none,_=>rfl
 | .bool b,_=>by simp [PyData.eqv]
 | .int i,_=>by simp [PyData.eqv]
 | .str s,_=>by simp [PyData.eqv]
 | .list xs,h=>by rw [PyData.eqv]; exact eqvAll_refl xs (by simpa [PyData.canLay0] using h)
 | .tuple xs,h=>by rw [PyData.eqv]; exact eqvAll_refl xs (by simpa [PyData.canLay0] using h)
 | .dict kvs,h=>by simp [PyData.canLay0] at h
theorem eqvAll_refl:∀ (ds:List PyData),PyData.canLayAll0 ds=true->PyData.eqvAll ds ds=true
 | [],_=>rfl
 | x :: xs,h=>by
  simp only [PyData.canLayAll0,Bool.and_eq_true] at h
  rw [PyData.eqvAll,eqv_refl x h.1,eqvAll_refl xs h.2]
  rfl
end
theorem eqv_shaped {d:PyData} (h:SeqAt.shaped d=true):PyData.eqv d d=true:=eqv_refl d (SeqAt.canLay_of_shaped h)
end
end L2.L3
namespace L2.L3
open PySem PySem.Spec PyProof.Rows
end L2.L3
namespace L2
open PySem PySem.Spec PyProof.Rows
section
variable {X:Cx}
end
end L2
namespace L2.L3
open PySem PySem.Spec PyProof.Rows
section
variable {X:Cx} {F:Fx} {a b:Expr} {ta tb:DT} {pos:Pos}
end
end L2.L3
namespace L2
open PySem PySem.Spec PyProof.Rows
section
variable {X:Cx}
end
end L2
namespace L2.L3
open PySem PySem.Spec PyProof.Rows
section
variable {X:Cx} {F:Fx} {a b:Expr} {ta tb:DT} {pos:Pos} {q:PyData->Prop}
theorem de_pow (ha:DE X F a ta) (hb:DE X F b tb):DE X F (.BinOp a .Pow b pos) (dOp (fI CPow fun i j=>.int (i ^ j.toNat)) ta tb):=de_op op_pow (o_int fun _ _ _=>.int _) ha hb
end
end L2.L3
namespace L2
open PySem PySem.Spec PyProof.Rows
section
variable {X:Cx} {a b c e k:Expr} {t:TA} {te:TE} {tk:TO} {pos pos2 p1 p2:Pos}
end
end L2
namespace L2.L3
open PySem PySem.Spec PyProof.Rows
section
variable {X:Cx} {F:Fx} {a b c e k:Expr} {te:DT} {tA:DTA} {pos pos2 p1 p2:Pos} {q:PyData->Prop} {ρ:DEnv} {Q:PyData->DEnv->Prop}
end
end L2.L3
namespace L2.L3
open PySem PySem.Spec PyProof.Rows
section
variable {X:Cx} {F:Fx} {a b:Expr} {ta tb:DT} {pos:Pos} {q:PyData->Prop}
noncomputable def fRep:D2:=fun x y Q=>∃ ds k,x=.list ds/\y=.int k/\(-(2 ^ 63)<=k/\k < 2 ^ 63/\ds.length * k.toNat<=sizeLine)/\Q (.list (List.replicate k.toNat ds).flatten)
theorem dvs_rep {H:Hp} {vs:List V} {ds:List PyData} (r:DVs H vs ds):∀ k:Nat,DVs H (List.replicate k vs).flatten (List.replicate k ds).flatten
 | 0=>.nil
 | k + 1=>by
  rw [List.replicate_succ,List.replicate_succ,List.flatten_cons,List.flatten_cons]
  exact r.append (dvs_rep r k)
theorem o_rep:Op2 rRep fRep where
 mn:=fun _ _ _ _ k ⟨ds,n,e1,e2,e3,q⟩=>⟨ds,n,e1,e2,e3,k _ q⟩
 ok:=fun O H u v x y Q hO h1 h2 ⟨ds,k,e1,e2,⟨e3,e4,e5⟩,q⟩=>by
  subst e1 e2
  obtain ⟨a,xs,rfl,ha,hd⟩:=h1.lst_inv
  refine ⟨a,k,xs,rfl,h2.int_inv,(of_hide ha).1,e3,e4,by rw [hd.length]; exact e5,fun p hp=>q _ _ (same_upd hp) (dv_new_lst hp (hO p hp) (dvs_rep hd _))⟩
theorem de_rep (ha:DE X F a ta) (hb:DE X F b tb):DE X F (.BinOp a .Mult b pos) (dOp fRep ta tb):=de_op op_rep o_rep ha hb
end
end L2.L3
namespace L2
open PySem PySem.Spec PyProof.Rows
section
variable {X:Cx}
end
end L2
namespace L2.L3
open PySem PySem.Spec PyProof.Rows
section
variable {q:PyData->Prop}
end
end L2.L3
namespace L2.L3
open PySem PySem.Spec PyProof.Rows
section
variable {X:Cx} {F:Fx} {tA:DTA} {ρ:DEnv} {N B C:DEnv->Prop} {R:PyData->DEnv->Prop}
end
end L2.L3
namespace L2.L3
open PySem PySem.Spec PyProof.Rows
inductive Out (α:Type) where
 | ok (a:α) (ρ:DEnv) | ex (c:Str) (ρ:DEnv) | bad
@[simp] noncomputable def Out.bind {α β:Type} (o:Out α) (k:α->DEnv->Out β):Out β:=match o with
 | .ok a ρ=>k a ρ
 | .ex c ρ=>.ex c ρ
 | .bad=>.bad
@[simp] noncomputable def lift {α:Type} (o:Option α) (ρ:DEnv):Out α:=match o with
 | some a=>.ok a ρ
 | none=>.bad
noncomputable abbrev XM (α:Type):=DEnv->Out α
noncomputable def wp {α:Type} (E:Str->DEnv->Prop) (m:XM α):DEnv->(α->DEnv->Prop)->Prop:=fun ρ Q=>match m ρ with
 | .ok a ρ'=>Q a ρ'
 | .ex c ρ'=>E c ρ'
 | .bad=>False
section
variable {α β:Type} {E:Str->DEnv->Prop}
theorem mn_wp {m:XM α}:∀ ρ (Q Q':α->DEnv->Prop),(∀ d ρ',Q d ρ'->Q' d ρ')->wp E m ρ Q->wp E m ρ Q':=fun ρ Q Q' k q=>by
 unfold wp at q ⊢
 generalize m ρ=o at q ⊢
 cases o with
 | ok a ρ'=>exact k _ _ q
 | ex c ρ'=>exact q
 | bad=>exact q
theorem wp_bind {m:XM α} {k:α->XM β} {ρ:DEnv} {Q:β->DEnv->Prop} (h:wp E (fun ρ=>(m ρ).bind k) ρ Q):wp E m ρ fun a ρ'=>wp E (k a) ρ' Q:=by
 unfold wp at h ⊢
 unfold Out.bind at h
 simp only at h
 generalize m ρ=o at h ⊢
 cases o with
 | ok a ρ'=>exact h
 | ex c ρ'=>exact h
 | bad=>exact h
theorem wp_lift {o:Option α} {ρ:DEnv} {Q:α->DEnv->Prop} (h:wp E (lift o) ρ Q):∃ a,o=some a/\Q a ρ:=by
 unfold wp lift at h
 cases o with
 | some a=>exact ⟨a,rfl,h⟩
 | none=>exact h.elim
end
section
variable {X:Cx} {F:Fx} {E:Str->DEnv->Prop} {e a b c:Expr} {es:List Expr} {pos:Pos}
theorem DE.imp {t t':DT} (h:DE X F e t) (mn:Mn t') (k:∀ ρ Q,t' ρ Q->t ρ Q):DE X F e t':=⟨mn,h.pe.imp fun σ H Q ⟨ρ,O,st,q⟩=>⟨ρ,O,st,k ρ _ q⟩⟩
theorem DO.imp {t t':DTO} (h:DO X F e t) (mn:MnO t') (k:∀ ρ Q,t' ρ Q->t ρ Q):DO X F e t':=⟨mn,h.pe.imp fun σ H Q ⟨ρ,O,st,q⟩=>⟨ρ,O,st,k ρ _ q⟩⟩
theorem DA.imp {t t':DTA} (h:DA X F es t) (mn:MnA t') (k:∀ ρ Q,t' ρ Q->t ρ Q):DA X F es t':=⟨mn,h.pa.imp fun σ H Q ⟨ρ,O,st,q⟩=>⟨ρ,O,st,k ρ _ q⟩⟩
theorem DX.imp {t t':DTX} (h:DX X F es t) (mn:MnX t') (k:∀ ρ Q,t' ρ Q->t ρ Q):DX X F es t':=⟨mn,h.pa.imp fun σ H Q ⟨ρ,O,st,q⟩=>⟨ρ,O,st,k ρ _ q⟩⟩
theorem DB.imp {t t':DTT} (h:DB X F e t) (mn:MnT t') (k:∀ ρ Q,t' ρ Q->t ρ Q):DB X F e t':=⟨mn,h.pt.imp fun σ H Q ⟨ρ,O,st,q⟩=>⟨ρ,O,st,k ρ _ q⟩⟩
theorem DW.imp {t t':DTT} (h:DW X F e t) (mn:MnT t') (k:∀ ρ Q,t' ρ Q->t ρ Q):DW X F e t':=⟨mn,h.pw.imp fun σ H Q ⟨ρ,O,st,q⟩=>⟨ρ,O,st,k ρ _ q⟩⟩
theorem DSs.imp {sts:List Stmt} {t t':DTS} (h:DSs X F sts t) (k:∀ D ρ,t' D ρ->t D ρ):DSs X F sts t':=PSs.imp h fun D σ H ⟨ρ,O,DD,st,q,f⟩=>⟨ρ,O,DD,st,k DD ρ q,f⟩
theorem DS.imp {s:Stmt} {t t':DTS} (h:DS X F s t) (k:∀ D ρ,t' D ρ->t D ρ):DS X F s t':=PS.imp h fun D σ H ⟨ρ,O,DD,st,q,f⟩=>⟨ρ,O,DD,st,k DD ρ q,f⟩
noncomputable abbrev FE (X:Cx) (F:Fx) (E:Str->DEnv->Prop) (e:Expr) (m:XM PyData):Prop:=DE X F e (wp E m)
noncomputable abbrev FO (X:Cx) (F:Fx) (E:Str->DEnv->Prop) (e:Expr) (m:XM Cell):Prop:=DO X F e (wp E m)
noncomputable abbrev FB (X:Cx) (F:Fx) (E:Str->DEnv->Prop) (e:Expr) (m:XM Bool):Prop:=DB X F e (wp E m)
noncomputable abbrev FW (X:Cx) (F:Fx) (E:Str->DEnv->Prop) (e:Expr) (m:XM Bool):Prop:=DW X F e (wp E m)
noncomputable abbrev FA (X:Cx) (F:Fx) (E:Str->DEnv->Prop) (es:List Expr) (m:XM (List PyData)):Prop:=DA X F es (wp E m)
noncomputable abbrev FX (X:Cx) (F:Fx) (E:Str->DEnv->Prop) (es:List Expr) (m:XM (List AX)):Prop:=DX X F es (wp E m)
noncomputable abbrev FI (X:Cx) (F:Fx) (E:Str->DEnv->Prop) (tg iter:Expr) (m:XM (List PyData)):Prop:=DI X F tg iter (wp E m)
noncomputable abbrev GM:=PyData->DEnv->Option DEnv
noncomputable def wpG (g:GM):DTG:=fun d ρ Q=>match g d ρ with
 | some ρ'=>Q ρ'
 | none=>False
noncomputable abbrev FG (X:Cx) (F:Fx) (tg:Expr) (g:GM):Prop:=DG X F tg (wpG g)
noncomputable abbrev FS (X:Cx) (F:Fx) (E:Str->DEnv->Prop) (s:Stmt) (m:SM):Prop:=DS X F s (wpS E m)
noncomputable abbrev FSs (X:Cx) (F:Fx) (E:Str->DEnv->Prop) (s:List Stmt) (m:SM):Prop:=DSs X F s (wpS E m)
@[simp] noncomputable def xC (d:PyData):XM PyData:=fun ρ=>.ok d ρ
@[simp] noncomputable def xV (i:Nat):XM PyData:=fun ρ=>match ρ[i]? with
 | some (some (.dat d))=>.ok d ρ
 | some (some (.own false (.l ds)))=>.ok (.list ds) (ρ.set i (some (.dat (.list ds))))
 | _=>.bad
theorem fe_c {d:PyData} (h:DE X F e (dC d)):FE X F E e (xC d):=h.imp mn_wp fun _ _ q=>q
theorem fe_v {i:Nat} (h:DE X F e (dV i)):FE X F E e (xV i):=h.imp mn_wp fun ρ Q q=>by
 unfold wp xV at q
 unfold dV
 cases h:ρ[i]? with
 | none=>rw [h] at q; exact q.elim
 | some o=>
  rw [h] at q
  cases o with
  | none=>exact q.elim
  | some c=>
   cases c with
   | dat d=>exact .inl ⟨d,rfl,q⟩
   | scr n=>exact q.elim
   | exc n=>exact q.elim
   | vw n=>exact q.elim
   | own io bx=>
    cases io with
    | true=>exact q.elim
    | false=>
     cases bx with
     | l ds=>exact .inr ⟨ds,rfl,q⟩
     | m _ _=>exact q.elim
     | o _ _=>exact q.elim
     | sd _=>exact q.elim
     | ll _=>exact q.elim
@[simp] noncomputable def xOp (g:PyData->PyData->Option PyData) (a b:XM PyData):XM PyData:=fun ρ=>(a ρ).bind fun x ρ1=>(b ρ1).bind fun y=>lift (g x y)
noncomputable def F2 (f:D2) (g:PyData->PyData->Option PyData):Prop:=∀ x y d Q,g x y=some d->Q d->f x y Q
theorem fe_op {f:D2} {g:PyData->PyData->Option PyData} {ma mb:XM PyData} (hg:F2 f g) (h:DE X F e (dOp f (wp E ma) (wp E mb))):FE X F E e (xOp g ma mb):=h.imp mn_wp fun ρ Q q=>by
 refine mn_wp _ _ _ (fun x ρ1 q1=>?_) (wp_bind q)
 refine mn_wp _ _ _ (fun y ρ2 q2=>?_) (wp_bind q1)
 obtain ⟨d,e1,q3⟩:=wp_lift q2
 exact hg x y d _ e1 q3
@[simp] noncomputable def xTst (m:XM PyData):XM Bool:=fun ρ=>(m ρ).bind fun d=>lift (match d with | .bool b=>some b | _=>none)
theorem tst_of {ρ:DEnv} {Q:Bool->DEnv->Prop} {m:XM PyData} (q:wp E (xTst m) ρ Q):dTst (wp E m) ρ Q:=mn_wp _ _ _ (fun d ρ1 q1=>by
 obtain ⟨b,e1,q2⟩:=wp_lift q1
 cases d with
 | bool b'=>cases e1; exact ⟨_,rfl,q2⟩
 | _=>cases e1) (wp_bind q)
theorem fb_op {f:D2} {g:PyData->PyData->Option PyData} {ma mb:XM PyData} (hg:F2 f g) (h:DB X F e (dTst (dOp f (wp E ma) (wp E mb)))):FB X F E e (xTst (xOp g ma mb)):=h.imp mn_wp fun ρ Q q=>by
 have q':=tst_of q
 refine mn_wp _ _ _ (fun x ρ1 q1=>?_) (wp_bind q')
 refine mn_wp _ _ _ (fun y ρ2 q2=>?_) (wp_bind q1)
 obtain ⟨d,e1,q3⟩:=wp_lift q2
 exact hg x y d _ e1 q3
theorem fb_val {m:XM PyData} (h:DB X F e (dTst (wp E m))):FB X F E e (xTst m):=h.imp mn_wp fun ρ Q q=>tst_of q
@[simp] noncomputable def gI (g:Int->Int->PyData):PyData->PyData->Option PyData:=fun x y=>match x,y with
 | .int i,.int j=>some (g i j)
 | _,_=>none
@[simp] noncomputable def gIC (C:Int->Int->Bool) (g:Int->Int->PyData):PyData->PyData->Option PyData:=fun x y=>match x,y with
 | .int i,.int j=>if C i j=true then some (g i j) else none
 | _,_=>none
theorem f2_I {g:Int->Int->PyData}:F2 (fI (fun _ _=>True) g) (gI g):=fun x y d Q e q=>by
 unfold gI at e
 split at e
 ·cases e; exact ⟨_,_,rfl,rfl,trivial,q⟩
 ·cases e
theorem f2_IC {C:Int->Int->Bool} {P:Int->Int->Prop} {g:Int->Int->PyData} (h:∀ i j,C i j=true->P i j):F2 (fI P g) (gIC C g):=fun x y d Q e q=>by
 unfold gIC at e
 split at e
 ·split at e
  ·rename_i hc; cases e; exact ⟨_,_,rfl,rfl,h _ _ hc,q⟩
  ·cases e
 ·cases e
noncomputable def cMul (i j:Int):Bool:=(decide (-(2 ^ 64) < i) && decide (i < 2 ^ 64)) || (decide (-(2 ^ 64) < j) && decide (j < 2 ^ 64))
noncomputable def cMod (_ j:Int):Bool:=decide (0 < j)
noncomputable def cPow (i j:Int):Bool:=decide (0<=j) && decide (j<=1000000) && decide (i.natAbs < 2 ^ 64)
theorem cMul_ok (i j:Int) (h:cMul i j=true):CMul i j:=by
 unfold cMul at h
 simp only [Bool.or_eq_true,Bool.and_eq_true,decide_eq_true_eq] at h
 exact h
theorem cMod_ok (i j:Int) (h:cMod i j=true):0 < j:=by
 unfold cMod at h
 simpa using h
theorem cPow_ok (i j:Int) (h:cPow i j=true):CPow i j:=by
 unfold cPow at h
 simp only [Bool.and_eq_true,decide_eq_true_eq] at h
 exact ⟨h.1.1,h.1.2,h.2⟩
noncomputable def gEq (neg:Bool):PyData->PyData->Option PyData:=fun x y=>if (SeqAt.shaped x && SeqAt.shaped y)=true then some (.bool (PyData.eqv x y != neg)) else none
theorem f2_eq {neg:Bool}:F2 (fEq neg) (gEq neg):=fun x y d Q e q=>by
 unfold gEq at e
 split at e
 ·rename_i h
  cases e
  exact ⟨(Bool.and_eq_true_iff.mp h).1,(Bool.and_eq_true_iff.mp h).2,q⟩
 ·cases e
@[simp] noncomputable def gIs:PyData->PyData->Option PyData:=fun x y=>match y with | .none=>some (.bool (isNone x)) | _=>none
theorem f2_is:F2 fIs gIs:=fun x y d Q e q=>by
 unfold gIs at e
 split at e
 ·cases e; exact ⟨rfl,q⟩
 ·cases e
@[simp] noncomputable def gCatL:PyData->PyData->Option PyData:=fun x y=>match x,y with
 | .list ds,.list es=>if ds.length + es.length<=sizeLine then some (.list (ds ++ es)) else none
 | _,_=>none
theorem f2_catL:F2 fCatL gCatL:=fun x y d Q e q=>by
 unfold gCatL at e
 split at e
 ·split at e
  ·rename_i h; cases e; exact ⟨_,_,rfl,rfl,h,q⟩
  ·cases e
 ·cases e
@[simp] noncomputable def gRep:PyData->PyData->Option PyData:=fun x y=>match x,y with
 | .list ds,.int k=>if (decide (-(2 ^ 63)<=k) && decide (k < 2 ^ 63) && decide (ds.length * k.toNat<=sizeLine))=true then some (.list (List.replicate k.toNat ds).flatten) else none
 | _,_=>none
theorem f2_rep:F2 fRep gRep:=fun x y d Q e q=>by
 unfold gRep at e
 split at e
 ·split at e
  ·rename_i h
   cases e
   simp only [Bool.and_eq_true,decide_eq_true_eq] at h
   exact ⟨_,_,rfl,rfl,⟨h.1.1,h.1.2,h.2⟩,q⟩
  ·cases e
 ·cases e
@[simp] noncomputable def xNeg (a:XM PyData):XM PyData:=fun ρ=>(a ρ).bind fun d=>lift (match d with | .int i=>some (.int (-i)) | _=>none)
theorem fe_neg {ma:XM PyData} (ha:FE X F E a ma):FE X F E (.UnaryOp .USub a pos) (xNeg ma):=(de_neg ha).imp mn_wp fun ρ Q q=>mn_wp _ _ _ (fun d ρ1 q1=>by
 obtain ⟨y,e1,q2⟩:=wp_lift q1
 cases d with
 | int i=>cases e1; exact ⟨i,rfl,q2⟩
 | _=>cases e1) (wp_bind q)
@[simp] noncomputable def xNot (a:XM PyData):XM PyData:=fun ρ=>(a ρ).bind fun d=>lift (match d with | .bool b=>some (.bool (!b)) | _=>none)
theorem fe_not {ma:XM PyData} (ha:FE X F E a ma):FE X F E (.UnaryOp .Not a pos) (xNot ma):=(de_not ha).imp mn_wp fun ρ Q q=>mn_wp _ _ _ (fun d ρ1 q1=>by
 obtain ⟨y,e1,q2⟩:=wp_lift q1
 cases d with
 | bool b=>cases e1; exact ⟨b,rfl,q2⟩
 | _=>cases e1) (wp_bind q)
@[simp] noncomputable def andK (b:XM PyData) (d:PyData):XM PyData:=fun ρ1=>match d with
 | .bool true=>b ρ1
 | .bool false=>.ok (.bool false) ρ1
 | _=>.bad
@[simp] noncomputable def orK (b:XM PyData) (d:PyData):XM PyData:=fun ρ1=>match d with
 | .bool true=>.ok (.bool true) ρ1
 | .bool false=>b ρ1
 | _=>.bad
@[simp] noncomputable def xAnd (a b:XM PyData):XM PyData:=fun ρ=>(a ρ).bind (andK b)
@[simp] noncomputable def xOr (a b:XM PyData):XM PyData:=fun ρ=>(a ρ).bind (orK b)
theorem fe_and {rest:List Expr} {ma mb:XM PyData} (ha:FE X F E a ma) (hb:FE X F E (.BoolOp .And (b :: rest) pos) mb):FE X F E (.BoolOp .And (a :: b :: rest) pos) (xAnd ma mb):=(de_and ha hb).imp mn_wp fun ρ Q q=>mn_wp _ _ _ (fun d ρ1 q1=>by
 cases d with
 | bool b=>cases b with
  | true=>exact ⟨true,rfl,iteT q1⟩
  | false=>exact ⟨false,rfl,iteF q1⟩
 | _=>exact q1.elim) (wp_bind (k:=andK mb) q)
theorem fe_or {rest:List Expr} {ma mb:XM PyData} (ha:FE X F E a ma) (hb:FE X F E (.BoolOp .Or (b :: rest) pos) mb):FE X F E (.BoolOp .Or (a :: b :: rest) pos) (xOr ma mb):=(de_or ha hb).imp mn_wp fun ρ Q q=>mn_wp _ _ _ (fun d ρ1 q1=>by
 cases d with
 | bool b=>cases b with
  | true=>exact ⟨true,rfl,iteT q1⟩
  | false=>exact ⟨false,rfl,iteF q1⟩
 | _=>exact q1.elim) (wp_bind (k:=orK mb) q)
theorem fe_one {op} {ma:XM PyData} (h:FE X F E a ma):FE X F E (.BoolOp op [a] pos) ma:=de_one h
@[simp] noncomputable def xChain (p p':Int->Int->Bool) (a b c:XM PyData):XM PyData:=fun ρ=>(a ρ).bind fun x ρ1=>(b ρ1).bind fun y ρ2=>match x,y with
 | .int i,.int j=>if p i j=true then (c ρ2).bind (fun z=>lift (match z with | .int k=>some (.bool (p' j k)) | _=>none)) else .ok (.bool false) ρ2
 | _,_=>.bad
theorem fe_chain {p p':Int->Int->Bool} {ma mb mc:XM PyData} (h:DE X F e (dChain p p' (wp E ma) (wp E mb) (wp E mc))):FE X F E e (xChain p p' ma mb mc):=h.imp mn_wp fun ρ Q q=>by
 refine mn_wp _ _ _ (fun x ρ1 q1=>?_) (wp_bind q)
 refine mn_wp _ _ _ (fun y ρ2 q2=>?_) (wp_bind q1)
 unfold wp at q2
 cases x with
 | int i=>cases y with
  | int j=>
   refine ⟨i,j,rfl,rfl,?_⟩
   by_cases hp:p i j=true
   ·simp only [if_pos hp] at q2
    rw [if_pos hp]
    refine mn_wp _ _ _ (fun z ρ3 q3=>?_) (wp_bind (m:=mc) (k:=fun z=>lift (match z with | .int k=>some (PyData.bool (p' j k)) | _=>none)) q2)
    obtain ⟨d,e1,q4⟩:=wp_lift q3
    cases z with
    | int k=>cases e1; exact ⟨k,rfl,q4⟩
    | _=>cases e1
   ·simp only [if_neg hp] at q2
    rw [if_neg hp]
    exact q2
  | _=>exact q2.elim
 | _=>exact q2.elim
@[simp] noncomputable def bNotF (a:XM Bool):XM Bool:=fun ρ=>(a ρ).bind fun b ρ1=>.ok (!b) ρ1
theorem fb_not {ma:XM Bool} (h:FB X F E a ma):FB X F E (.UnaryOp .Not a pos) (bNotF ma):=(db_not h).imp mn_wp fun ρ Q q=>mn_wp _ _ _ (fun d ρ1 q1=>q1) (wp_bind (k:=fun b ρ1=>.ok (!b) ρ1) q)
@[simp] noncomputable def bOrF (a b:XM Bool):XM Bool:=fun ρ=>(a ρ).bind fun x ρ1=>if x=true then .ok true ρ1 else b ρ1
theorem fw_or1 {ma:XM Bool} (h:FB X F E a ma):FW X F E (.BoolOp .Or [a] pos) ma:=dw_or1 h
theorem fw_or {rest:List Expr} {ma mb:XM Bool} (ha:FB X F E a ma) (hb:FW X F E (.BoolOp .Or (b :: rest) pos) mb):FW X F E (.BoolOp .Or (a :: b :: rest) pos) (bOrF ma mb):=(dw_or ha hb).imp mn_wp fun ρ Q q=>mn_wp _ _ _ (fun d ρ1 q1=>by
 cases d with
 | true=>exact iteT q1
 | false=>exact iteF q1) (wp_bind (k:=fun x ρ1=>if x=true then .ok true ρ1 else mb ρ1) q)
theorem fb_w {ma:XM Bool} (h:FW X F E e ma):FB X F E e ma:=h.db
@[simp] noncomputable def xIf {α:Type} (t:XM Bool) (a b:XM α):XM α:=fun ρ=>(t ρ).bind fun x ρ1=>if x=true then a ρ1 else b ρ1
theorem fe_if {mt:XM Bool} {ma mb:XM PyData} (hc:FB X F E c mt) (ha:FE X F E a ma) (hb:FE X F E b mb):FE X F E (.IfExp c a b pos) (xIf mt ma mb):=(de_if hc ha hb).imp mn_wp fun ρ Q q=>mn_wp _ _ _ (fun d ρ1 q1=>by
 cases d with
 | true=>exact iteT q1
 | false=>exact iteF q1) (wp_bind (k:=fun x ρ1=>if x=true then ma ρ1 else mb ρ1) q)
@[simp] noncomputable def aNil:XM (List PyData):=fun ρ=>.ok [] ρ
@[simp] noncomputable def aCons (a:XM PyData) (r:XM (List PyData)):XM (List PyData):=fun ρ=>(a ρ).bind fun d ρ1=>(r ρ1).bind fun ds ρ2=>.ok (d :: ds) ρ2
theorem fa_nil:FA X F E [] aNil:=da_nil.imp mn_wp fun _ _ q=>q
theorem fa_cons {ma:XM PyData} {mr:XM (List PyData)} (ha:FE X F E e ma) (hr:FA X F E es mr) (hs:starEach (e :: es) X.env=(false,eval e X.env) :: starEach es X.env:=by rfl):FA X F E (e :: es) (aCons ma mr):=(da_cons ha hr hs).imp mn_wp fun ρ Q q=>
 mn_wp _ _ _ (fun d ρ1 q1=>mn_wp _ _ _ (fun ds ρ2 q2=>q2) (wp_bind (k:=fun ds ρ2=>.ok (d :: ds) ρ2) q1)) (wp_bind (k:=fun d ρ1=>(mr ρ1).bind fun ds ρ2=>.ok (d :: ds) ρ2) q)
@[simp] noncomputable def xTup (a:XM (List PyData)):XM PyData:=fun ρ=>(a ρ).bind fun ds=>lift (if ds.length<=sizeLine then some (.tuple ds) else none)
@[simp] noncomputable def xLst (a:XM (List PyData)):XM PyData:=fun ρ=>(a ρ).bind fun ds=>lift (if ds.length<=sizeLine then some (.list ds) else none)
theorem fe_tup {x1} {ma:XM (List PyData)} (h:FA X F E es ma):FE X F E (.Tuple es x1 pos) (xTup ma):=(de_tup h).imp mn_wp fun ρ Q q=>mn_wp _ _ _ (fun ds ρ1 q1=>by
 obtain ⟨d,e1,q2⟩:=wp_lift q1
 split at e1
 ·rename_i h; cases e1; exact ⟨h,q2⟩
 ·cases e1) (wp_bind q)
theorem fe_lst {ma:XM (List PyData)} (h:FA X F E es ma):FE X F E (.List es pos) (xLst ma):=(de_lst h).imp mn_wp fun ρ Q q=>mn_wp _ _ _ (fun ds ρ1 q1=>by
 obtain ⟨d,e1,q2⟩:=wp_lift q1
 split at e1
 ·rename_i h; cases e1; exact ⟨h,q2⟩
 ·cases e1) (wp_bind q)
@[simp] noncomputable def xCB (g:List PyData->Option PyData) (a:XM (List PyData)):XM PyData:=fun ρ=>(a ρ).bind fun ds=>lift (g ds)
noncomputable def FN (f:DN) (g:List PyData->Option PyData):Prop:=∀ ds d Q,g ds=some d->Q d->f ds Q
theorem fe_cb {f:DN} {g:List PyData->Option PyData} {ma:XM (List PyData)} (hg:FN f g) (h:DE X F e (dCB f (wp E ma))):FE X F E e (xCB g ma):=h.imp mn_wp fun ρ Q q=>mn_wp _ _ _ (fun ds ρ1 q1=>by
 obtain ⟨d,e1,q2⟩:=wp_lift q1
 exact hg ds d _ e1 q2) (wp_bind q)
end
end L2.L3
namespace L2.L3
open PySem PySem.Spec PyProof.Rows
section
variable {X:Cx} {F:Fx} {E:Str->DEnv->Prop} {e a b c:Expr} {es:List Expr} {st:Stmt} {rest:List Stmt} {pos:Pos} {x:Str}
@[simp] noncomputable def nLen:List PyData->Option PyData:=fun xs=>match xs with
 | [.list ds]=>some (.int ds.length)
 | [.tuple ds]=>some (.int ds.length)
 | _=>none
theorem fn_len:FN fLen nLen:=fun xs d Q e q=>by
 unfold nLen at e
 split at e
 ·cases e; exact ⟨_,.inl rfl,q⟩
 ·cases e; exact ⟨_,.inr rfl,q⟩
 ·cases e
@[simp] noncomputable def nTuple:List PyData->Option PyData:=fun xs=>match xs with
 | [.list ds]=>some (.tuple ds)
 | [.tuple ds]=>some (.tuple ds)
 | _=>none
theorem fn_tuple:FN fTuple nTuple:=fun xs d Q e q=>by
 unfold nTuple at e
 split at e
 ·cases e; exact .inl ⟨_,rfl,q⟩
 ·cases e; exact .inr ⟨_,rfl,q⟩
 ·cases e
noncomputable def bools?:List PyData->Option (List Bool)
 | []=>some []
 | .bool i :: r=>(bools? r).map (i :: ·)
 | _ :: _=>none
theorem bools_of:∀ {ds:List PyData} {ns:List Bool},bools? ds=some ns->ds=ns.map .bool
 | [],_,e=>by cases e; rfl
 | d :: r,ns,e=>by
  cases d with
  | bool i=>
   cases q:bools? r with
   | none=>simp [bools?,q] at e
   | some l=>simp [bools?,q] at e; subst e; rw [bools_of q]; rfl
  | _=>cases e
noncomputable def nAll:List PyData->Option PyData:=fun xs=>match xs with
 | [.list ds]=>(bools? ds).map fun bs=>.bool (bs.all id)
 | _=>none
theorem fn_all:FN fAll nAll:=fun xs d Q e q=>by
 unfold nAll at e
 split at e
 ·obtain ⟨bs,e1,e2⟩:=Option.map_eq_some_iff.mp e
  rw [bools_of e1]
  subst e2
  exact ⟨bs,rfl,q⟩
 ·cases e
@[simp] noncomputable def xLenS (i:Nat):XM PyData:=fun ρ=>match ρ[i]? with
 | some (some (.scr ns))=>if ns.length<=63 then .ok (.int ns.length) ρ else .bad
 | _=>.bad
@[simp] noncomputable def xIxS (i:Nat) (a:XM PyData):XM PyData:=fun ρ=>match ρ[i]? with
 | some (some (.scr ns))=>(a ρ).bind fun d=>lift (match d with | .int k=>(atI ns k).map .int | _=>none)
 | _=>.bad
@[simp] noncomputable def bEqS (i:Nat):XM Bool:=fun ρ=>match ρ[i]? with
 | some (some (.scr ns))=>.ok (decide (ns=[])) ρ
 | _=>.bad
theorem fe_lenS {i:Nat} (h:DE X F e (dLenS i)):FE X F E e (xLenS i):=h.imp mn_wp fun ρ Q q=>by
 unfold wp xLenS at q
 cases h:ρ[i]? with
 | none=>rw [h] at q; exact q.elim
 | some o=>
  rw [h] at q
  cases o with
  | none=>exact q.elim
  | some c=>
   cases c with
   | scr ns=>
    simp only at q
    by_cases hl:ns.length<=63
    ·rw [if_pos hl] at q; exact ⟨ns,h,fun _=>q⟩
    ·rw [if_neg hl] at q; exact q.elim
   | _=>exact q.elim
theorem fe_ixS {i:Nat} {ma:XM PyData} (h:DE X F e (dIxS i (wp E ma))):FE X F E e (xIxS i ma):=h.imp mn_wp fun ρ Q q=>by
 unfold wp xIxS at q
 cases h:ρ[i]? with
 | none=>rw [h] at q; exact q.elim
 | some o=>
  rw [h] at q
  cases o with
  | none=>exact q.elim
  | some c=>
   cases c with
   | scr ns=>
    refine ⟨ns,h,mn_wp _ _ _ (fun d ρ1 q1=>?_) (wp_bind (m:=ma) (k:=fun d=>lift (match d with | .int k=>(atI ns k).map PyData.int | _=>none)) q)⟩
    obtain ⟨y,e1,q2⟩:=wp_lift q1
    cases d with
    | int k=>
     obtain ⟨n,e2,e3⟩:=Option.map_eq_some_iff.mp e1
     subst e3
     exact ⟨k,n,rfl,e2,q2⟩
    | _=>cases e1
   | _=>exact q.elim
theorem fb_eqS {i:Nat} (h:DB X F e (dEqS i)):FB X F E e (bEqS i):=h.imp mn_wp fun ρ Q q=>by
 unfold wp bEqS at q
 cases h:ρ[i]? with
 | none=>rw [h] at q; exact q.elim
 | some o=>
  rw [h] at q
  cases o with
  | none=>exact q.elim
  | some c=>
   cases c with
   | scr ns=>exact ⟨ns,h,q⟩
   | _=>exact q.elim
@[simp] noncomputable def gNm (i:Nat):GM:=fun d ρ=>some (ρ.set i (some (.dat d)))
theorem fg_name {i:Nat} (h:DG X F e (gN i)):FG X F e (gNm i):=⟨fun d ρ Q Q' k q=>k _ q,h.pg.imp fun v σ H Q ⟨ρ,O,d,st,hd,q⟩=>⟨ρ,O,d,st,hd,q⟩⟩
noncomputable abbrev GMs:=List PyData->DEnv->Option DEnv
noncomputable def wpGs (g:GMs):DTGs:=fun d ρ Q=>match g d ρ with
 | some ρ'=>Q ρ'
 | none=>False
noncomputable abbrev FGs (X:Cx) (F:Fx) (tg:List Expr) (g:GMs):Prop:=DGs X F tg (wpGs g)
@[simp] noncomputable def gNil':GMs:=fun ds ρ=>match ds with | []=>some ρ | _=>none
@[simp] noncomputable def gCons' (t:GM) (u:GMs):GMs:=fun ds ρ=>match ds with | d :: r=>(t d ρ).bind fun ρ'=>u r ρ' | []=>none
theorem mn_wpG {g:GM}:∀ d ρ (Q Q':DEnv->Prop),(∀ ρ',Q ρ'->Q' ρ')->wpG g d ρ Q->wpG g d ρ Q':=fun d ρ Q Q' k q=>by
 unfold wpG at q ⊢
 generalize g d ρ=o at q ⊢
 cases o with
 | some ρ'=>exact k _ q
 | none=>exact q
theorem mn_wpGs {g:GMs}:∀ d ρ (Q Q':DEnv->Prop),(∀ ρ',Q ρ'->Q' ρ')->wpGs g d ρ Q->wpGs g d ρ Q':=fun d ρ Q Q' k q=>by
 unfold wpGs at q ⊢
 generalize g d ρ=o at q ⊢
 cases o with
 | some ρ'=>exact k _ q
 | none=>exact q
theorem fgs_nil:FGs X F [] gNil':=⟨mn_wpGs,dgs_nil.pg.imp fun v σ H Q ⟨ρ,O,d,st,hd,q⟩=>⟨ρ,O,d,st,hd,by
 unfold wpGs gNil' at q
 cases d with
 | nil=>exact ⟨rfl,q⟩
 | cons _ _=>exact q.elim⟩⟩
theorem fgs_cons {g:GM} {gs:GMs} (h1:FG X F e g) (h2:FGs X F es gs) (hs:(assignEach (e :: es) X.env).map (·.2)=assign e X.env :: (assignEach es X.env).map (·.2):=by rfl):FGs X F (e :: es) (gCons' g gs):=⟨mn_wpGs,(dgs_cons h1 h2 hs).pg.imp fun v σ H Q ⟨ρ,O,d,st,hd,q⟩=>⟨ρ,O,d,st,hd,by
 unfold wpGs gCons' at q
 cases d with
 | nil=>exact q.elim
 | cons d r=>
  refine ⟨d,r,rfl,?_⟩
  unfold wpG
  simp only at q
  cases hg:g d ρ with
  | none=>rw [hg] at q; exact q
  | some ρ'=>rw [hg] at q; exact q⟩⟩
@[simp] noncomputable def gTup' (n:Nat) (t:GMs):GM:=fun d ρ=>match d with | .tuple ds=>if ds.length=n then t ds ρ else none | _=>none
theorem fg_tup {k n:Nat} {gs:GMs} (hc:X.calm=true) (h:FGs X F es gs) (hn:(assignEach es X.env).length=n:=by rfl) (hst:(assignEach es X.env).findIdx? (·.1)=none:=by rfl):FG X F (.Tuple es k pos) (gTup' n gs):=⟨mn_wpG,(dg_tup hc h hn hst).pg.imp fun v σ H Q ⟨ρ,O,d,st,hd,q⟩=>⟨ρ,O,d,st,hd,by
 unfold wpG gTup' at q
 cases d with
 | tuple ds=>
  simp only at q
  by_cases hl:ds.length=n
  ·rw [if_pos hl] at q; exact ⟨ds,rfl,hl,q⟩
  ·rw [if_neg hl] at q; exact q.elim
 | _=>exact q.elim⟩⟩
@[simp] noncomputable def cNil:XM (List AX):=fun ρ=>.ok [] ρ
@[simp] noncomputable def cVal (a:XM PyData) (r:XM (List AX)):XM (List AX):=fun ρ=>(a ρ).bind fun d ρ1=>(r ρ1).bind fun as ρ2=>.ok (.d d :: as) ρ2
@[simp] noncomputable def cSlot (j:Nat) (r:XM (List AX)):XM (List AX):=fun ρ=>match ρ[j]? with
 | some (some _)=>(r ρ).bind fun as ρ2=>.ok (.s j :: as) ρ2
 | _=>.bad
theorem fx_nil:FX X F E [] cNil:=dx_nil.imp mn_wp fun _ _ q=>q
theorem fx_val {ma:XM PyData} {mr:XM (List AX)} (ha:FE X F E e ma) (hr:FX X F E es mr) (hs:starEach (e :: es) X.env=(false,eval e X.env) :: starEach es X.env:=by rfl):FX X F E (e :: es) (cVal ma mr):=(dx_val ha hr hs).imp mn_wp fun ρ Q q=>
 mn_wp _ _ _ (fun d ρ1 q1=>mn_wp _ _ _ (fun ds ρ2 q2=>q2) (wp_bind (k:=fun as ρ2=>Out.ok (AX.d d :: as) ρ2) q1)) (wp_bind (m:=ma) (k:=fun d ρ1=>(mr ρ1).bind fun as ρ2=>Out.ok (AX.d d :: as) ρ2) q)
theorem fx_slot {p:Pos} {j:Nat} {mr:XM (List AX)} (hv:PE X (.Name x p) (tVar j)) (hr:FX X F E es mr) (hs:starEach (.Name x p :: es) X.env=(false,eval (.Name x p) X.env) :: starEach es X.env:=by rfl):FX X F E (.Name x p :: es) (cSlot j mr):=(dx_slot hv hr hs).imp mn_wp fun ρ Q q=>by
 unfold wp cSlot at q
 cases h:ρ[j]? with
 | none=>rw [h] at q; exact q.elim
 | some o=>
  rw [h] at q
  cases o with
  | none=>exact q.elim
  | some c=>exact ⟨⟨c,h⟩,mn_wp _ _ _ (fun as ρ2 q2=>q2) (wp_bind (m:=mr) (k:=fun as ρ2=>Out.ok (AX.s j :: as) ρ2) (show wp E (fun ρ=>(mr ρ).bind fun as ρ2=>Out.ok (AX.s j :: as) ρ2) ρ Q from q))⟩
@[simp] noncomputable def callK (f:FM) (as:List AX):XM Cell:=fun ρ=>match argCells ρ as with
 | some (cs,js)=>(match f cs with
  | .rt c outs=>.ok c (back js outs (clr js ρ))
  | .ex c outs=>.ex c (back js outs (clr js ρ))
  | .bad=>.bad)
 | none=>.bad
@[simp] noncomputable def xCall (f:FM) (a:XM (List AX)):XM Cell:=fun ρ=>(a ρ).bind (callK f)
theorem fo_call {g:FM} {ma:XM (List AX)} (h:DO X F e (dCall g E (wp E ma))):FO X F E e (xCall g ma):=h.imp mn_wp fun ρ Q q=>mn_wp _ _ _ (fun as ρ1 q1=>by
 unfold wp callK at q1
 unfold callOn
 cases ha:argCells ρ1 as with
 | none=>rw [ha] at q1; exact q1
 | some p=>
  obtain ⟨cs,js⟩:=p
  rw [ha] at q1
  simp only at q1 ⊢
  cases hf:g cs with
  | rt c outs=>rw [hf] at q1; exact q1
  | ex c outs=>rw [hf] at q1; exact q1
  | bad=>rw [hf] at q1; exact q1) (wp_bind (k:=callK g) q)
@[simp] noncomputable def xFrz (a:XM Cell):XM PyData:=fun ρ=>(a ρ).bind fun c=>lift (frz c)
theorem fe_frz {ma:XM Cell} (h:FO X F E e ma):FE X F E e (xFrz ma):=h.de.imp mn_wp fun ρ Q q=>mn_wp _ _ _ (fun c ρ1 q1=>wp_lift q1) (wp_bind q)
@[simp] noncomputable def sNx:SM:=fun ρ=>.nx ρ
@[simp] noncomputable def sThen (m k:SM):SM:=fun ρ=>match m ρ with
 | .nx ρ'=>k ρ'
 | o=>o
theorem fss_nil:FSs X F E [] sNx:=dss_nil.imp fun _ _ q=>q
theorem fss_cons {m k:SM} (h1:FS X F E st m) (h2:FSs X F E rest k):FSs X F E (st :: rest) (sThen m k):=(dss_cons h1 h2).imp fun D ρ q=>by
 show wpS E m _ ρ
 unfold wpS sThen at q
 unfold wpS
 generalize m ρ=o at q ⊢
 cases o with
 | nx ρ'=>exact q
 | _=>exact q
theorem fss_one {m:SM} (h:FS X F E st m):FSs X F E [st] m:=dss_one h
@[simp] noncomputable def ofX {α:Type} (o:Out α) (k:α->DEnv->OutS):OutS:=match o with
 | .ok a ρ=>k a ρ
 | .ex c ρ=>.ex c ρ
 | .bad=>.bad
theorem wpS_ofX {α:Type} {m:XM α} {k:α->SM} {D:DEnds} {ρ:DEnv} (q:wpS E (fun ρ=>ofX (m ρ) k) D ρ):wp E m ρ fun a ρ'=>wpS E (k a) D ρ':=by
 unfold wpS ofX at q
 unfold wp
 simp only at q
 generalize m ρ=o at q ⊢
 cases o with
 | ok a ρ'=>exact q
 | ex c ρ'=>exact q
 | bad=>exact q
@[simp] noncomputable def optS (o:Option DEnv):OutS:=match o with
 | some ρ=>.nx ρ
 | none=>.bad
@[simp] noncomputable def sAsg (m:XM PyData) (g:GM):SM:=fun ρ=>ofX (m ρ) fun d ρ1=>optS (g d ρ1)
theorem asg_of {m:XM PyData} {g:GM} {D:DEnds} {ρ:DEnv} (q:wpS E (sAsg m g) D ρ):sSet (wp E m) (wpG g) D ρ:=mn_wp _ _ _ (fun d ρ1 q1=>by
 unfold wpS optS at q1
 unfold wpG
 simp only at q1
 generalize g d ρ1=o at q1 ⊢
 cases o with
 | some ρ'=>exact q1
 | none=>exact q1) (wpS_ofX (k:=fun d ρ1=>optS (g d ρ1)) q)
theorem fs_set {i:Nat} {pos':Pos} {m:XM PyData} (hN:X.N.Nodup) (hi:X.N[i]? = some x) (hx:Loc X.env.scope x) (he:FE X F E e m) (hs:swapsWith e (some (.Name x pos')) pos.line X.env=pure false:=by rfl)
  (hf:X.fn x=true\/X.env.scope.names.lookup x=some .local:=by first | exact .inl rfl | exact .inr rfl | assumption):FS X F E (.Assign [.Name x pos'] e pos) (sAsg m (gNm i)):=(ds_set hN hi hx he hs hf).imp fun D ρ q=>asg_of q
@[simp] noncomputable def setK (i:Nat) (c:Cell):SM:=fun ρ1=>if i < ρ1.length then (match c with | .own true _=>.bad | c=>.nx (ρ1.set i (some c))) else .bad
@[simp] noncomputable def sSetC (i:Nat) (m:XM Cell):SM:=fun ρ=>ofX (m ρ) (setK i)
theorem fs_setO {i:Nat} {pos':Pos} {m:XM Cell} (hN:X.N.Nodup) (hi:X.N[i]? = some x) (hx:Loc X.env.scope x) (he:FO X F E e m) (hs:swapsWith e (some (.Name x pos')) pos.line X.env=pure false:=by rfl)
  (hf:X.fn x=true\/X.env.scope.names.lookup x=some .local:=by first | exact .inl rfl | exact .inr rfl | assumption):FS X F E (.Assign [.Name x pos'] e pos) (sSetC i m):=(ds_setO hN hi hx he hs hf).imp fun D ρ q=>mn_wp _ _ _ (fun c ρ1 q1=>by
 unfold wpS setK at q1
 by_cases hl:i < ρ1.length
 ·simp only [if_pos hl] at q1
  cases c with
  | own io b=>cases io with
   | true=>exact q1.elim
   | false=>exact ⟨hl,(fun _ z=>by cases z),q1⟩
  | dat d=>exact ⟨hl,(fun _ z=>by cases z),q1⟩
  | scr d=>exact ⟨hl,(fun _ z=>by cases z),q1⟩
  | exc d=>exact ⟨hl,(fun _ z=>by cases z),q1⟩
  | vw d=>exact ⟨hl,(fun _ z=>by cases z),q1⟩
 ·simp only [if_neg hl] at q1) (wpS_ofX (k:=setK i) q)
@[simp] noncomputable def sRetV (m:XM PyData):SM:=fun ρ=>ofX (m ρ) fun d ρ1=>.rt (.dat d) ρ1
@[simp] noncomputable def sRetC (m:XM Cell):SM:=fun ρ=>ofX (m ρ) fun c ρ1=>.rt c ρ1
@[simp] noncomputable def sDoC (m:XM Cell):SM:=fun ρ=>ofX (m ρ) fun _ ρ1=>.nx ρ1
theorem fs_ret {m:XM PyData} (he:FE X F E e m):FS X F E (.Return (some e) pos) (sRetV m):=(ds_ret he).imp fun D ρ q=>mn_wp _ _ _ (fun c ρ1 q1=>q1) (wpS_ofX (k:=fun d ρ1=>.rt (.dat d) ρ1) q)
theorem fs_retO {m:XM Cell} (he:FO X F E e m):FS X F E (.Return (some e) pos) (sRetC m):=(ds_retO he).imp fun D ρ q=>mn_wp _ _ _ (fun c ρ1 q1=>q1) (wpS_ofX (k:=fun d ρ1=>.rt d ρ1) q)
theorem fs_exprO {m:XM Cell} (he:FO X F E e m) (hs:swapsWith e none pos.line X.env=pure false:=by rfl):FS X F E (.Expr e pos) (sDoC m):=(ds_exprO he hs).imp fun D ρ q=>mn_wp _ _ _ (fun c ρ1 q1=>q1) (wpS_ofX (k:=fun _ ρ1=>.nx ρ1) q)
@[simp] noncomputable def sMv (i:Nat):SM:=fun ρ=>match ρ[i]? with
 | some (some (.own false b))=>.rt (.own false b) (ρ.set i none)
 | some (some (.dat d))=>.rt (.dat d) ρ
 | _=>.bad
@[simp] noncomputable def sIfF (t:XM Bool) (a b:SM):SM:=fun ρ=>ofX (t ρ) fun x ρ1=>if x=true then a ρ1 else b ρ1
theorem fs_if {cnd:Expr} {sa sb:List Stmt} {mt:XM Bool} {ma mb:SM} (hc:FB X F E cnd mt) (ha:FSs X F E sa ma) (hb:FSs X F E sb mb):FS X F E (.If cnd sa sb pos) (sIfF mt ma mb):=(ds_if hc ha hb).imp fun D ρ q=>mn_wp _ _ _ (fun x ρ1 q1=>by
 cases x with
 | true=>exact iteT q1
 | false=>exact iteF q1) (wpS_ofX (k:=fun x ρ1=>if x=true then ma ρ1 else mb ρ1) q)
end
end L2.L3
namespace L2.L3
open PySem PySem.Spec PyProof.Rows
noncomputable def isTab (d n:String):Option Bool:=if d=n then some true else
 if d = "bool"/\n = "int" then some true else
 if (d = "int"\/d = "bool"\/d = "str"\/d = "list"\/d = "tuple"\/d = "NoneType")/\(n = "int"\/n = "bool"\/n = "str"\/n = "list"\/n = "tuple") then some false else none
theorem kit_tab {d n:String} {b:Bool} (h:isTab d n=some b) (K:PySem.W.Frag):PySem.W.kitOne K (.type d) (.type n)=some b:=by
 unfold isTab at h
 split at h
 ·rename_i e; cases h; subst e; unfold PySem.W.kitOne; rw [if_pos (by simp)]
 ·split at h
  ·rename_i e; cases h; obtain ⟨rfl,rfl⟩:=e; rfl
  ·rename_i n1 n2
   split at h
   ·rename_i e
    cases h
    obtain ⟨e1,e2⟩:=e
    rcases e1 with rfl | rfl | rfl | rfl | rfl | rfl <;> rcases e2 with rfl | rfl | rfl | rfl | rfl <;> first | rfl | (exact absurd rfl n1) | (exact absurd ⟨rfl,rfl⟩ n2)
   ·cases h
@[simp] noncomputable def xIs (n:String) (a:XM PyData):XM PyData:=fun ρ=>(a ρ).bind fun d=>lift ((isTab (tyOfD d) n).map .bool)
section
variable {X:Cx} {F:Fx} {E:Str->DEnv->Prop} {e a b c:Expr} {es:List Expr} {st:Stmt} {rest:List Stmt} {pos:Pos} {x:Str}
theorem fe_is {n:String} {ma:XM PyData} (h:DE X F e (dIsI n (wp E ma))):FE X F E e (xIs n ma):=h.imp mn_wp fun ρ Q q=>mn_wp _ _ _ (fun d ρ1 q1=>by
 obtain ⟨y,e1,q2⟩:=wp_lift q1
 obtain ⟨b,e2,e3⟩:=Option.map_eq_some_iff.mp e1
 subst e3
 exact ⟨b,kit_tab e2,q2⟩) (wp_bind q)
theorem fs_mv {i:Nat} {p1:Pos} (hv:PE X (.Name x p1) (tVar i)):FS X F E (.Return (some (.Name x p1)) pos) (sMv i):=fun pins s σ H D I ⟨ρ,O,DD,stt,q,f⟩=>by
 unfold wpS sMv at q
 cases h:ρ[i]? with
 | none=>rw [h] at q; exact q.elim
 | some o=>
  rw [h] at q
  cases o with
  | none=>exact q.elim
  | some c=>
   cases c with
   | own io b=>cases io with
    | true=>exact q.elim
    | false=>exact ds_retMv hv pins s σ H D I ⟨ρ,O,DD,stt,⟨b,h,q⟩,f⟩
   | dat d=>exact ds_ret (de_var i hv) pins s σ H D I ⟨ρ,O,DD,stt,.inl ⟨d,h,q⟩,f⟩
   | scr n=>exact q.elim
   | exc n=>exact q.elim
   | vw n=>exact q.elim
noncomputable def forGo (g:GM) (b:SM):List PyData->SM
 | [],ρ=>.nx ρ
 | d :: r,ρ=>(match g d ρ with
  | some ρ1=>(match b ρ1 with
   | .nx ρ2=>forGo g b r ρ2
   | .ct ρ2=>forGo g b r ρ2
   | .bk ρ2=>.nx ρ2
   | o=>o)
  | none=>.bad)
@[simp] noncomputable def sForF (s:XM (List PyData)) (g:GM) (b:SM):SM:=fun ρ=>ofX (s ρ) (forGo g b)
theorem fs_for {tg iter:Expr} {body:List Stmt} {s:XM (List PyData)} {g:GM} {mb:SM} (hp:PassesOwn (model X.prog X.w) X.A X.env X.xe) (hc:X.calm=true) (hi:FI X F E tg iter s) (hg:FG X F tg g) (hb:FSs X F E body mb) (hs:∀ x,foldedSetIterable iter X.env x=pure x:=by intro _; rfl):FS X F E (.For tg iter body [] pos) (sForF s g mb):=
 (ds_for hp hc hi hg hb hs).imp fun D ρ q=>mn_wp _ _ _ (fun its ρ1 q1=>by
  refine ⟨fun i ρ=>wpS E (forGo g mb (its.drop i)) D ρ,q1,fun i d ρ hd hi=>?_,fun ρ h=>?_⟩
  ·have e:its.drop i=d :: its.drop (i + 1):=by
    obtain ⟨hlt,he⟩:=List.getElem?_eq_some_iff.mp hd
    rw [<-he]
    exact List.drop_eq_getElem_cons hlt
   simp only [e] at hi
   unfold wpS forGo at hi
   unfold wpG
   generalize g d ρ=o at hi ⊢
   cases o with
   | none=>exact hi
   | some ρ1=>
    show wpS E mb _ ρ1
    simp only at hi
    unfold wpS
    generalize mb ρ1=o2 at hi ⊢
    cases o2 with
    | nx ρ2=>exact hi
    | ct ρ2=>exact hi
    | bk ρ2=>exact hi
    | rt c ρ2=>exact hi
    | ex c ρ2=>exact hi
    | bad=>exact hi
  ·simp only [List.drop_length] at h
   exact h) (wpS_ofX (k:=forGo g mb) q)
@[simp] noncomputable def iLs (a:XM PyData):XM (List PyData):=fun ρ=>(a ρ).bind fun d=>lift (match d with | .list ds=>some ds | _=>none)
@[simp] noncomputable def iTs (a:XM PyData):XM (List PyData):=fun ρ=>(a ρ).bind fun d=>lift (match d with | .tuple ds=>some ds | _=>none)
theorem DI.imp {tg iter:Expr} {t t':DTI} (h:DI X F tg iter t) (mn:∀ ρ Q Q',(∀ d ρ',Q d ρ'->Q' d ρ')->t' ρ Q->t' ρ Q') (k:∀ ρ Q,t' ρ Q->t ρ Q):DI X F tg iter t':=⟨mn,h.pi.imp fun σ H Q ⟨ρ,O,st,q⟩=>⟨ρ,O,st,k ρ _ q⟩⟩
theorem fi_list {tg:Expr} {ma:XM PyData} (h:FE X F E e ma):FI X F E tg e (iLs ma):=(di_list h).imp mn_wp fun ρ Q q=>mn_wp _ _ _ (fun d ρ1 q1=>by
 obtain ⟨y,e1,q2⟩:=wp_lift q1
 cases d with
 | list ds=>cases e1; exact ⟨_,rfl,q2⟩
 | _=>cases e1) (wp_bind q)
theorem fi_tup {tg:Expr} {ma:XM PyData} (h:FE X F E e ma):FI X F E tg e (iTs ma):=(di_tup h).imp mn_wp fun ρ Q q=>mn_wp _ _ _ (fun d ρ1 q1=>by
 obtain ⟨y,e1,q2⟩:=wp_lift q1
 cases d with
 | tuple ds=>cases e1; exact ⟨_,rfl,q2⟩
 | _=>cases e1) (wp_bind q)
@[simp] noncomputable def iLf (g:List PyData->Option (List PyData)) (a:XM (List PyData)):XM (List PyData):=fun ρ=>(a ρ).bind fun ds=>lift (g ds)
@[simp] noncomputable def rng1:List PyData->Option (List PyData):=fun xs=>match xs with
 | [.int j]=>if (decide (-(2 ^ 62)<=j) && decide (j < 2 ^ 62))=true then some (intsFrom 0 j.toNat) else none
 | _=>none
theorem fi_range1 {tg:Expr} {ma:XM (List PyData)} (h:DI X F tg e (iR1 (wp E ma))):FI X F E tg e (iLf rng1 ma):=h.imp mn_wp fun ρ Q q=>mn_wp _ _ _ (fun ds ρ1 q1=>by
 obtain ⟨y,e1,q2⟩:=wp_lift q1
 unfold rng1 at e1
 split at e1
 ·split at e1
  ·rename_i h; cases e1; simp only [Bool.and_eq_true,decide_eq_true_eq] at h; exact ⟨_,rfl,h.1,h.2,q2⟩
  ·cases e1
 ·cases e1) (wp_bind q)
noncomputable def compGo (g:GM) (t:XM Bool) (m:XM PyData):List PyData->List PyData->DEnv->Option (List PyData)
 | [],ys,_=>some ys
 | d :: r,ys,ρ=>(match g d ρ with
  | some ρ1=>(match t ρ1 with
   | .ok true ρ2=>(match m ρ2 with
    | .ok y ρ3=>if ys.length < sizeLine then compGo g t m r (ys ++ [y]) ρ3 else none
    | _=>none)
   | .ok false ρ2=>compGo g t m r ys ρ2
   | _=>none)
  | none=>none)
@[simp] noncomputable def liftE (own:Nat) (caps:List Nat) (ρ:DEnv):DEnv:=List.replicate own none ++ caps.map fun j=>capC ρ[j]?
@[simp] noncomputable def compK (own:Nat) (caps:List Nat) (g:GM) (t:XM Bool) (m:XM PyData) (its:List PyData):XM PyData:=fun ρ1=>lift ((compGo g t m its [] (liftE own caps ρ1)).bind fun ys=>if ys.length<=sizeLine then some (.list ys) else none) ρ1
@[simp] noncomputable def xComp (own:Nat) (caps:List Nat) (s:XM (List PyData)) (g:GM) (t:XM Bool) (m:XM PyData):XM PyData:=fun ρ=>(s ρ).bind (compK own caps g t m)
noncomputable abbrev E0':Str->DEnv->Prop:=fun _ _=>False
theorem comp_of {own:List Str} {caps:List Nat} {s:XM (List PyData)} {g:GM} {t:XM Bool} {m:XM PyData} {ρ:DEnv} {Q:PyData->DEnv->Prop} (q:wp E (xComp own.length caps s g t m) ρ Q):dCmp own caps (wp E s) (wpG g) (wp E0' t) (wp E0' m) ρ Q:=mn_wp _ _ _ (fun its ρ1 q1=>by
 obtain ⟨y,e1,q2⟩:=wp_lift (o:=(compGo g t m its [] (liftE own.length caps ρ1)).bind fun ys=>if ys.length<=sizeLine then some (PyData.list ys) else none) (ρ:=ρ1) (E:=E) (Q:=Q) q1
 obtain ⟨ys0,e2,e3⟩:=Option.bind_eq_some_iff.mp e1
 have hl:ys0.length<=sizeLine/\y=.list ys0:=by
  split at e3
  ·rename_i h; cases e3; exact ⟨h,rfl⟩
  ·cases e3
 have eL:liftD own caps ρ1=liftE own.length caps ρ1:=by
  unfold liftD liftE
  rw [List.map_const']
 refine ⟨fun i ys ρ=>compGo g t m (its.drop i) ys ρ=some ys0,by rw [eL]; exact e2,fun i d ys ρ hd hi=>?_,fun ys ρ h=>?_⟩
 ·have e:its.drop i=d :: its.drop (i + 1):=by
   obtain ⟨hlt,he⟩:=List.getElem?_eq_some_iff.mp hd
   rw [<-he]
   exact List.drop_eq_getElem_cons hlt
  simp only [e] at hi
  unfold compGo at hi
  unfold wpG
  cases hg:g d ρ with
  | none=>rw [hg] at hi; cases hi
  | some ρ2=>
   rw [hg] at hi
   simp only at hi ⊢
   unfold wp
   cases ht:t ρ2 with
   | ex c ρ3=>rw [ht] at hi; cases hi
   | bad=>rw [ht] at hi; cases hi
   | ok b ρ3=>
    rw [ht] at hi
    cases b with
    | false=>exact iteF hi
    | true=>
     refine iteT ?_
     simp only at hi ⊢
     cases hm:m ρ3 with
     | ex c ρ4=>rw [hm] at hi; cases hi
     | bad=>rw [hm] at hi; cases hi
     | ok y' ρ4=>
      rw [hm] at hi
      simp only at hi ⊢
      split at hi
      ·rename_i h; exact ⟨h,hi⟩
      ·cases hi
 ·simp only [List.drop_length] at h
  have:ys=ys0:=by unfold compGo at h; exact Option.some.inj h
  subst this
  rw [hl.2] at q2
  exact ⟨hl.1,q2⟩) (wp_bind (k:=compK own.length caps g t m) q)
noncomputable abbrev FBs (X:Cx) (F:Fx) (E:Str->DEnv->Prop) (ifs:List Expr) (m:XM Bool):Prop:=DBs X F ifs (wp E m)
noncomputable def bTrue:XM Bool:=fun ρ=>.ok true ρ
theorem fbs_nil:FBs X F E [] bTrue:=⟨mn_wp,fun pins s σ H Q I ⟨ρ,O,st,q⟩=>dbs_nil.2 pins s σ H Q I ⟨ρ,O,st,q⟩⟩
theorem fbs_one {ma:XM Bool} (h:FB X F E c ma):FBs X F E [c] ma:=dbs_one h
theorem fe_comp {scope:Scope} {own capN:List Str} {caps:List Nat} {tg iter elt:Expr} {ifs:List Expr} {s:XM (List PyData)} {g:GM} {t:XM Bool} {m:XM PyData} {n:Nat} (hG:GF X.mg F) (S:CompScope X scope own capN caps) (hc:X.calm=true) (hn:own.length=n) (hi:FI X F E tg iter s)
  (hin:∀ C fp s₂ H₂ pl F',GF X.mg F'->FG (compCx X scope (own ++ capN) C fp s₂ H₂ pl) F' tg g/\FBs (compCx X scope (own ++ capN) C fp s₂ H₂ pl) F' E0' ifs t/\FE (compCx X scope (own ++ capN) C fp s₂ H₂ pl) F' E0' elt m)
  (hs:∀ x,foldedSetIterable iter X.env x=pure x:=by intro _; rfl):FE X F E (.ListComp elt [⟨tg,iter,ifs,0⟩] scope pos) (xComp n caps s g t m):=by
 subst hn
 exact (de_comp hG S hc hi hin hs).imp mn_wp fun ρ Q q=>comp_of q
end
end L2.L3
namespace L2.L3
open PySem PySem.Spec PyProof.Rows
section
variable {K:PySem.W.Frag} {F:Fx} {H H':Hp} {σ:St} {ρ:DEnv} {O O':List Addr}
theorem DSt.fresh (st:DSt K F H σ ρ O) {p:Addr} {o:HO} (hp:H p=none) (ho:Mv o):∃ O',DSt K (F.plus [p]) (upd H p o) σ ρ O'/\Stp O H O' (upd H p o):=by
 obtain ⟨O',h1,h2,_⟩:=DSt.swap (L:=[]) (L':=[p]) (H':=upd H p o) (F:=F) st (fun b u _ e=>same_upd hp b u e) (by simp) (fun a h=>.inr (by obtain rfl:=List.mem_singleton.mp h; exact hp)) (fun a h=>by cases h) (fun a h=>by obtain rfl:=List.mem_singleton.mp h; exact ⟨o,upd_same,ho⟩)
 exact ⟨O',h1,h2⟩
theorem DSt.new1 (st:DSt K F H σ ρ O) {p:Addr} (hp:H p=none):∀ a ∈ [p],a ∈ F.A₀\/F.H₀ a=none:=fun a h=>by
 obtain rfl:=List.mem_singleton.mp h
 by_cases hA:a ∈ F.A₀
 ·exact .inl hA
 ·refine .inr ?_
  cases e:F.H₀ a with
  | none=>rfl
  | some o=>obtain ⟨W,h,_⟩:=st; have:=h.kept a o hA e; rw [hp] at this; cases this
end
section
variable {X:Cx} {F:Fx} {E:Str->DEnv->Prop} {e a b c:Expr} {es:List Expr} {st:Stmt} {rest:List Stmt} {pos:Pos} {x:Str}
noncomputable def dLstO (t:DTA):DTO:=fun ρ Q=>t ρ fun ds ρ'=>ds.length<=sizeLine/\Q (.own false (.l ds)) ρ'
theorem do_lst {tA:DTA} (h:DA X F es tA):DO X F (.List es pos) (dLstO tA):=
 ⟨fun _ _ _ k q=>h.mn _ _ _ (fun _ _ q1=>⟨q1.1,k _ _ q1.2⟩) q,(pe_lst h.pa).imp fun σ H Q ⟨ρ,O,st,q⟩=>
  ⟨ρ,O,st,h.mn _ _ _ (fun ds ρ1 q1 vs H1 O1 st1 s1 d1=>⟨by rw [d1.length]; exact q1.1,fun p hp=>by
   obtain ⟨O2,st2,s2⟩:=st1.fresh (o:=.lst vs) hp trivial
   exact q1.2 _ _ O2 [p] ⟨st2,⟨p,rfl,rfl,vs,upd_same,DVs.mono s2.hid d1⟩,st1.new1 hp⟩ (s1.trans s2)⟩) q⟩⟩
@[simp] noncomputable def xLstO (a:XM (List PyData)):XM Cell:=fun ρ=>(a ρ).bind fun ds=>lift (if ds.length<=sizeLine then some (.own false (.l ds)) else none)
theorem fo_lst {ma:XM (List PyData)} (h:FA X F E es ma):FO X F E (.List es pos) (xLstO ma):=(do_lst h).imp mn_wp fun ρ Q q=>mn_wp _ _ _ (fun ds ρ1 q1=>by
 obtain ⟨d,e1,q2⟩:=wp_lift q1
 split at e1
 ·rename_i h; cases e1; exact ⟨h,q2⟩
 ·cases e1) (wp_bind q)
@[simp] noncomputable def appK (i:Nat) (d:PyData):SM:=fun ρ1=>match ρ1[i]? with
 | some (some (.own io (.l ds)))=>if ds.length < sizeLine then .nx (ρ1.set i (some (.own io (.l (ds ++ [d]))))) else .bad
 | _=>.bad
@[simp] noncomputable def sApp (i:Nat) (m:XM PyData):SM:=fun ρ=>match ρ[i]? with
 | some (some (.own _ (.l _)))=>ofX (m ρ) (appK i)
 | _=>.bad
theorem fs_app {i:Nat} {m:XM PyData} {p1 apos cpos:Pos} (hv:PE X (.Name x p1) (tVar i)) (he:FE X F E e m) (hsw:swapsWith (.Call (.Attribute (.Name x p1) "append" apos) [e] [] cpos) none pos.line X.env=pure false:=by rfl)
  (hbase:attributeBase (.Name x p1) "append" X.env (eval (.Name x p1) X.env)=eval (.Name x p1) X.env:=by rfl)
  (hfew:((backTo cpos (starEach [e] X.env)).all (fun x=>!x.1) && (backToKw cpos (keywordEach [] X.env)).all (fun x=>x.1.isSome) && decide (([e]:List Expr).length + ([]:List Keyword).length + (if ([]:List Keyword).isEmpty then 0 else 1) < 30))=true:=by rfl)
  (hline:(apos.endLine == cpos.line)=true:=by rfl) (hs:starEach [e] X.env=(false,eval e X.env) :: starEach [] X.env:=by rfl) (hplain:(backTo cpos (starEach [] X.env)).any (·.1)=false:=by rfl) :
  FS X F E (.Expr (.Call (.Attribute (.Name x p1) "append" apos) [e] [] cpos) pos) (sApp i m):=
 (ps_expr (pe_bm PySem.F.plainAttrs_list PySem.F.slot_list_append PySem.F.type_list_append mt_append hv (pa_cons he.pe pa_nil hs) hbase hfew hline hs hplain) hsw).imp fun D σ H ⟨ρ,O,DD,st,q,f⟩=>by
  unfold wpS sApp at q
  cases h0:ρ[i]? with
  | none=>rw [h0] at q; exact q.elim
  | some o=>
   rw [h0] at q
   cases o with
   | none=>exact q.elim
   | some c0=>
    cases c0 with
    | dat d=>exact q.elim
    | scr d=>exact q.elim
    | exc d=>exact q.elim
    | vw d=>exact q.elim
    | own io0 b0=>
     cases b0 with
     | m _ _=>exact q.elim
     | o _ _=>exact q.elim
     | sd _=>exact q.elim
     | ll _=>exact q.elim
     | l ds0=>
      obtain ⟨a,fp,hv0,⟨_,xs,hH,_⟩,_,_⟩:=st.box h0
      refine ⟨_,hv0,.inl ⟨rfl,xs,.of hH⟩,ρ,O,st,mn_wp _ _ _ (fun d ρ1 q1 w H1 O1 st1 s1 d1=>?_) (wpS_ofX (m:=m) (k:=appK i) q)⟩
      unfold wpS appK at q1
      cases h1:ρ1[i]? with
      | none=>rw [h1] at q1; exact q1.elim
      | some o=>
       rw [h1] at q1
       cases o with
       | none=>exact q1.elim
       | some c1=>
        cases c1 with
        | dat d=>exact q1.elim
        | scr d=>exact q1.elim
        | exc d=>exact q1.elim
        | vw d=>exact q1.elim
        | own io1 b1=>
         cases b1 with
         | m _ _=>exact q1.elim
         | o _ _=>exact q1.elim
         | sd _=>exact q1.elim
         | ll _=>exact q1.elim
         | l ds=>
          simp only at q1
          obtain ⟨a1,fp1,hv1,⟨e1,ys,hH1,hd⟩,hO,up⟩:=st1.box h1
          rw [hv0] at hv1; cases hv1
          subst e1
          by_cases hz:ds.length < sizeLine
          ·rw [if_pos hz] at q1
           refine ⟨a,ys,w,rfl,rfl,hH1,by rw [hd.length]; exact hz,?_⟩
           obtain ⟨O2,st2,s2,_⟩:=up (upd H1 a (.lst (ys ++ [w]))) (.l (ds ++ [d])) [a] (fun c o hc e=>by rw [upd_ne (by simpa using hc)]; exact e) (by simp) (fun c hc=>.inl hc) (fun G O' s hG _=>by
            subst hG
            exact ⟨s.hid,rfl,ys ++ [w],upd_same,(DVs.mono s.hid hd).append (.cons (DV.mono s.hid d1) .nil)⟩)
           exact f.nx _ _ _ _ st2 (s1.trans s2) q1
          ·rw [if_neg hz] at q1; exact q1.elim
@[simp] noncomputable def lenC:Cell->Option PyData
 | .dat (.list ds)=>some (.int ds.length)
 | .dat (.tuple ds)=>some (.int ds.length)
 | .own _ (.l ds)=>some (.int ds.length)
 | _=>none
@[simp] noncomputable def xLenN (i:Nat):XM PyData:=fun ρ=>match ρ[i]? with
 | some (some c)=>lift (lenC c) ρ
 | _=>.bad
theorem fe_lenN {i:Nat} {p p1:Pos} (hg:Gl X "len") (hm:X.mg "len" = none) (h:PE X (.Name x p1) (tVar i)) (he:starEach [.Name x p1] X.env=(false,eval (.Name x p1) X.env) :: starEach [] X.env:=by rfl) (hpl:(backTo pos (starEach [] X.env)).any (·.1)=false:=by rfl) :
  FE X F E (.Call (.Name "len" p) [.Name x p1] [] pos) (xLenN i):=
 ⟨mn_wp,(pe_callB call_len_seq hg hm PySem.boot_len (pa_cons h pa_nil he) (by decide) (by decide) he hpl).imp fun σ H Q ⟨ρ,O,st,q⟩=>by
  unfold wp xLenN at q
  cases h0:ρ[i]? with
  | none=>rw [h0] at q; exact q.elim
  | some o=>
   rw [h0] at q
   cases o with
   | none=>exact q.elim
   | some c0=>
    unfold lift at q
    cases c0 with
    | scr d=>exact q.elim
    | exc d=>exact q.elim
    | vw d=>exact q.elim
    | dat d=>
     obtain ⟨v,hv,hd⟩:=st.dat h0
     cases d with
     | list ds=>
      obtain ⟨a,xs,rfl,ha,hx⟩:=hd.lst_inv
      exact ⟨_,hv,a,xs,rfl,.inl (.of (of_hide ha).1),by rw [hx.length]; exact q _ H O st .refl (.int _)⟩
     | tuple ds=>
      obtain ⟨a,xs,rfl,ha,hx⟩:=hd.tup_inv
      exact ⟨_,hv,a,xs,rfl,.inr (.inl (of_hideR ha).1),by rw [hx.length]; exact q _ H O st .refl (.int _)⟩
     | _=>exact q.elim
    | own io b=>
     cases b with
     | l ds=>
      obtain ⟨a,fp,hv,⟨_,xs,hH,hx⟩,_,_⟩:=st.box h0
      exact ⟨_,hv,a,xs,rfl,.inl (.of hH),by rw [hx.length]; exact q _ H O st .refl (.int _)⟩
     | _=>exact q.elim⟩
end
end L2.L3
namespace L2.L3
open PySem PySem.Spec PyProof.Rows
noncomputable def keyOf:PyData->Option Key
 | .int i=>some (.inl i)
 | .str x=>some (.inr x)
 | _=>none
noncomputable def keysOf:List PyData->Option (List Key)
 | []=>some []
 | d :: r=>(match keyOf d,keysOf r with | some k,some l=>some (k :: l) | _,_=>none)
noncomputable def keyG:Bool->PyData->Option (List Key)
 | false,d=>(keyOf d).map fun k=>[k]
 | true,.tuple ds=>keysOf ds
 | true,_=>none
noncomputable abbrev KVs:=List (PyData × PyData)
noncomputable def dFind (tk:Bool):KVs->List Key->Option PyData
 | [],_=>none
 | p :: r,k=>if keyG tk p.1=some k then some p.2 else dFind tk r k
noncomputable def dRepl (tk:Bool) (k:List Key) (v:PyData):KVs->KVs
 | []=>[]
 | p :: r=>(if keyG tk p.1=some k then (p.1,v) else p) :: dRepl tk k v r
noncomputable def dStore (tk:Bool) (kvs:KVs) (d:PyData) (k:List Key) (v:PyData):KVs:=if (dFind tk kvs k).isSome=true then dRepl tk k v kvs else kvs ++ [(d,v)]
theorem key_v {G:Hp} {v:V} {d:PyData} {k:Key} (h:DV G v d) (e:keyOf d=some k):v=kV k:=by
 cases d with
 | int i=>cases e; exact h.int_inv
 | str x=>cases e; exact h.str_inv
 | _=>cases e
theorem key_d {k:Key}:keyOf (keyD k)=some k:=by cases k <;> rfl
theorem key_i {d:PyData} {k:Key} (e:keyOf d=some k):d=keyD k:=by
 cases d with
 | int i=>cases e; rfl
 | str x=>cases e; rfl
 | _=>cases e
theorem keys_d:∀ {ks:List Key},keysOf (ks.map keyD)=some ks
 | []=>rfl
 | k :: r=>by show (match keyOf (keyD k),keysOf (r.map keyD) with | some k,some l=>some (k :: l) | _,_=>none)=_; rw [key_d,keys_d]
theorem keys_i:∀ {ds:List PyData} {ks:List Key},keysOf ds=some ks->ds=ks.map keyD
 | [],ks,e=>by cases e; rfl
 | d :: r,ks,e=>by
  unfold keysOf at e
  cases h1:keyOf d with
  | none=>rw [h1] at e; cases e
  | some k=>
   cases h2:keysOf r with
   | none=>rw [h1,h2] at e; cases e
   | some l=>rw [h1,h2] at e; cases e; rw [key_i h1,keys_i h2]; rfl
theorem keys_v {G:Hp}:∀ {vs:List V} {ks:List Key},DVs G vs (ks.map keyD)->vs=ks.map kV
 | [],[],_=>rfl
 | _ :: _,k :: r,.cons h1 h2=>by rw [key_v h1 key_d,keys_v h2]; rfl
theorem valV_rel {κ:Type} [DecidableEq κ] {R:κ->PyData->Prop} {G:Hp} {tk:Bool} {inj:κ->List Key} (hk:∀ k d,R k d->keyG tk d=some (inj k)) (hi:∀ a b,inj a=inj b->a=b) :
  ∀ {ks:List (κ × V)} {kvs:KVs} (k:κ),Paired (fun (p:κ × V) (q:PyData × PyData)=>R p.1 q.1/\DV G p.2 q.2) ks kvs->(valV ks k=none/\dFind tk kvs (inj k)=none)\/∃ v d,valV ks k=some v/\dFind tk kvs (inj k)=some d/\DV G v d
 | [],[],k,_=>.inl ⟨rfl,rfl⟩
 | p :: r,q :: s,k,.cons h t=>by
  by_cases e:p.1=k
  ·refine .inr ⟨p.2,q.2,valV_pos e,?_,h.2⟩
   unfold dFind
   rw [if_pos (by rw [hk _ _ h.1,e])]
  ·rw [valV_neg e]
   unfold dFind
   rw [if_neg (by rw [hk _ _ h.1]; exact fun z=>e (hi _ _ (Option.some.inj z)))]
   exact valV_rel hk hi k t
theorem repl_rel {κ:Type} [DecidableEq κ] {R:κ->PyData->Prop} {G:Hp} {tk:Bool} {inj:κ->List Key} (hk:∀ k d,R k d->keyG tk d=some (inj k)) (hi:∀ a b,inj a=inj b->a=b) {v:V} {x:PyData} (hv:DV G v x) :
  ∀ {ks:List (κ × V)} {kvs:KVs} (k:κ),Paired (fun (p:κ × V) (q:PyData × PyData)=>R p.1 q.1/\DV G p.2 q.2) ks kvs->Paired (fun (p:κ × V) (q:PyData × PyData)=>R p.1 q.1/\DV G p.2 q.2) (ks.map fun kv=>if kv.1=k then (kv.1,v) else kv) (dRepl tk (inj k) x kvs)
 | [],[],k,_=>.nil
 | p :: r,q :: s,k,.cons h t=>by
  refine .cons ?_ (repl_rel hk hi hv k t)
  dsimp only
  by_cases e:p.1=k
  ·rw [if_pos e,if_pos (by rw [hk _ _ h.1,e])]; exact ⟨h.1,hv⟩
  ·rw [if_neg e,if_neg (by rw [hk _ _ h.1]; exact fun z=>e (hi _ _ (Option.some.inj z)))]; exact h
theorem pd_app {α β:Type} {R:α->β->Prop}:∀ {xs:List α} {ys:List β} {us:List α} {vs:List β},Paired R xs ys->Paired R us vs->Paired R (xs ++ us) (ys ++ vs)
 | _,_,_,_,.nil,h=>h
 | _,_,_,_,.cons h t,r=>.cons h (pd_app t r)
theorem put_rel {κ:Type} [DecidableEq κ] {R:κ->PyData->Prop} {G:Hp} {tk:Bool} {inj:κ->List Key} (hk:∀ k d,R k d->keyG tk d=some (inj k)) (hi:∀ a b,inj a=inj b->a=b) {v:V} {x d:PyData} (hv:DV G v x)
  {ks:List (κ × V)} {kvs:KVs} {k:κ} (hd:R k d) (h:Paired (fun (p:κ × V) (q:PyData × PyData)=>R p.1 q.1/\DV G p.2 q.2) ks kvs):Paired (fun (p:κ × V) (q:PyData × PyData)=>R p.1 q.1/\DV G p.2 q.2) (putK ks k v) (dStore tk kvs d (inj k) x):=by
 rcases valV_rel hk hi k h with ⟨e1,e2⟩ | ⟨v',d',e1,e2,_⟩
 ·rw [putK_new v e1]
  unfold dStore
  rw [e2,if_neg (by simp)]
  exact pd_app h (.cons ⟨hd,hv⟩ .nil)
 ·unfold dStore
  rw [e2,if_pos (by rfl)]
  unfold putK
  rw [if_pos (by rw [valV_any,e1]; rfl)]
  exact repl_rel hk hi hv k h
theorem hk1:∀ (k:Key) (d:PyData),keyD k=d->keyG false d=some [k]:=fun k d e=>by subst e; show (keyOf (keyD k)).map _=_; rw [key_d]; rfl
theorem hi1:∀ (a b:Key),[a]=[b]->a=b:=fun a b e=>by cases e; rfl
theorem hk2:∀ (k:List Key) (d:PyData),tupD k=d->keyG true d=some k:=fun k d e=>by subst e; exact keys_d
@[simp] noncomputable def keyQ (tk:Bool) (d:PyData):Option (List Key):=match d with
 | .tuple []=>none
 | d=>keyG tk d
theorem keyQ_of {tk:Bool} {d:PyData} {k:List Key} (e:keyQ tk d=some k):keyG tk d=some k/\d ≠ .tuple []:=by
 unfold keyQ at e
 split at e
 ·cases e
 ·rename_i h; exact ⟨e,h⟩
theorem keyless_of:∀ {ds:List PyData} {k:List Key},keysOf ds=some k->ds ≠ []->keyless ds=false
 | [],_,_,h=>absurd rfl h
 | [d],k,e,_=>by
  cases d <;> first | rfl | (simp [keysOf,keyOf] at e)
 | d :: f :: r,k,e,_=>by
  unfold keysOf at e
  split at e
  ·rename_i k1 l e1 e2
   have ih:=keyless_of (ds:=f :: r) e2 (by simp)
   cases d <;> first | (exact (by simpa [keyless] using ih)) | (exfalso; simp [keyOf] at e1)
  ·cases e
section
variable {G H:Hp} {a:Addr} {tk:Bool} {kvs:KVs}
theorem dic_get (h:DicAt G H a tk kvs) (hG:Same G H) {y:V} {d:PyData} {k:List Key} (hy:DV G y d) (e:keyQ tk d=some k):∃ o,DGet H a y o/\((o=none/\dFind tk kvs k=none)\/∃ v x,o=some v/\dFind tk kvs k=some x/\DV G v x):=by
 obtain ⟨e,hne⟩:=keyQ_of e
 cases tk with
 | false=>
  obtain ⟨ks,hH,pr⟩:=h
  obtain ⟨k',e1,e2⟩:=Option.map_eq_some_iff.mp e
  subst e2
  obtain rfl:=key_v hy e1
  exact ⟨_,.k hH,valV_rel hk1 hi1 k' pr⟩
 | true=>
  obtain ⟨ks,hH,pr⟩:=h
  cases d with
  | tuple ds=>
   obtain ⟨b,xs,rfl,hb,hx⟩:=hy.tup_invK (keyless_of e fun z=>hne (by rw [z]))
   rw [keys_i e] at hx
   rw [keys_v hx] at hb
   exact ⟨_,.t hH (hG _ _ hb),valV_rel (inj:=id) hk2 (fun _ _ z=>z) k pr⟩
  | _=>cases e
theorem dic_put (h:DicAt G H a tk kvs) (hG:Same G H) {y v:V} {d x:PyData} {k:List Key} (hy:DV G y d) (hv:DV G v x) (e:keyQ tk d=some k) (hl:kvs.length < sizeLine) :
  ∃ o,DPut H a y v (upd H a o)/\Mv o/\∀ G',Same G G'->DicAt G' (upd H a o) a tk (dStore tk kvs d k x):=by
 obtain ⟨e,hne⟩:=keyQ_of e
 cases tk with
 | false=>
  obtain ⟨ks,hH,pr⟩:=h
  obtain ⟨k',e1,e2⟩:=Option.map_eq_some_iff.mp e
  subst e2
  obtain rfl:=key_v hy e1
  refine ⟨_,.k hH (by rw [Paired.length pr]; exact hl),trivial,fun G' s=>⟨_,upd_same,put_rel hk1 hi1 (DV.mono s hv) (key_i e1).symm (Paired.mapP pr fun _ _ z=>⟨z.1,DV.mono s z.2⟩)⟩⟩
 | true=>
  obtain ⟨ks,hH,pr⟩:=h
  cases d with
  | tuple ds=>
   obtain ⟨b,xs,rfl,hb,hx⟩:=hy.tup_invK (keyless_of e fun z=>hne (by rw [z]))
   rw [keys_i e] at hx
   rw [keys_v hx] at hb
   exact ⟨_,.t hH (hG _ _ hb) (by rw [Paired.length pr]; exact hl),trivial,fun G' s=>⟨_,upd_same,put_rel (inj:=id) hk2 (fun _ _ z=>z) (DV.mono s hv) (show tupD k=_ by unfold tupD; rw [<-keys_i e]) (Paired.mapP pr fun _ _ z=>⟨z.1,DV.mono s z.2⟩)⟩⟩
  | _=>cases e
theorem dic_is (h:DicAt G H a tk kvs):IsD H a:=by
 cases tk with
 | false=>obtain ⟨ks,hH,_⟩:=h; exact .inl ⟨ks,.of hH⟩
 | true=>obtain ⟨ks,hH,_⟩:=h; exact .inr ⟨ks,.of hH⟩
end
noncomputable def asM (ρ:DEnv) (i:Nat):Option (Bool × Bool × KVs):=match ρ[i]? with
 | some (some (.own io (.m tk kvs)))=>some (io,tk,kvs)
 | _=>none
theorem asM_at {ρ:DEnv} {i:Nat} {io tk:Bool} {kvs:KVs} (h:asM ρ i=some (io,tk,kvs)):ρ[i]? = some (some (.own io (.m tk kvs))):=by
 unfold asM at h
 split at h
 ·rename_i e; cases h; exact e
 ·cases h
section
variable {X:Cx} {F:Fx} {E:Str->DEnv->Prop} {e a b c:Expr} {es:List Expr} {st:Stmt} {rest:List Stmt} {pos:Pos} {x:Str}
noncomputable def xDNew (tk:Bool):XM Cell:=fun ρ=>.ok (.own false (.m tk [])) ρ
theorem fo_dnew (tk:Bool):FO X F E (.Dict [] [] pos) (xDNew tk):=by
 refine ⟨mn_wp,?_⟩
 cases tk with
 | false=>
  refine pe_dnewK.imp ?_
  rintro σ H Q ⟨ρ,O,st,q⟩ p hp
  obtain ⟨O2,st2,s2⟩:=st.fresh (o:=.dK []) hp trivial
  exact q _ _ O2 [p] ⟨st2,⟨p,rfl,rfl,[],upd_same,.nil⟩,st.new1 hp⟩ s2
 | true=>
  refine pe_dnewT.imp ?_
  rintro σ H Q ⟨ρ,O,st,q⟩ p hp
  obtain ⟨O2,st2,s2⟩:=st.fresh (o:=.dT []) hp trivial
  exact q _ _ O2 [p] ⟨st2,⟨p,rfl,rfl,[],upd_same,.nil⟩,st.new1 hp⟩ s2
noncomputable def dGet2K (i:Nat) (d y:PyData):XM PyData:=fun ρ=>lift (match asM ρ i with
 | some (_,tk,kvs)=>(keyQ tk d).map fun k=>(dFind tk kvs k).getD y
 | none=>none) ρ
noncomputable def xDGet2 (i:Nat) (m n:XM PyData):XM PyData:=fun ρ=>match asM ρ i with
 | some _=>(m ρ).bind fun d ρ1=>(n ρ1).bind fun y=>dGet2K i d y
 | none=>.bad
theorem fe_dget2 {i:Nat} {m n:XM PyData} {f:Expr} {p1 apos cpos:Pos} (hu:X.A.units + 1 < cLine) (hv:PE X (.Name x p1) (tVar i)) (he:FE X F E e m) (hf:FE X F E f n) (mm:M2 X (.Name x p1) "get" apos e f cpos:=by exact ⟨rfl,rfl,rfl,rfl⟩):FE X F E (.Call (.Attribute (.Name x p1) "get" apos) [e,f] [] cpos) (xDGet2 i m n):=
 ⟨mn_wp,(pe_dget2 hu hv he.pe hf.pe mm).imp fun σ H Q ⟨ρ,O,st,q⟩=>by
  unfold wp xDGet2 at q
  cases hm:asM ρ i with
  | none=>rw [hm] at q; exact q.elim
  | some p=>
   rw [hm] at q
   obtain ⟨io,tk,kvs⟩:=p
   obtain ⟨a0,fp,hv0,⟨_,hd0⟩,_,_⟩:=st.box (asM_at hm)
   refine ⟨_,hv0,a0,rfl,dic_is hd0,ρ,O,st,mn_wp _ _ _ (fun d ρ1 q1 w H1 O1 st1 s1 d1=>?_) (wp_bind (m:=m) (k:=fun d ρ1=>(n ρ1).bind fun y=>dGet2K i d y) q)⟩
   refine ⟨ρ1,O1,st1,mn_wp _ _ _ (fun y ρ2 q2 z H2 O2 st2 s2 d2=>?_) (wp_bind (m:=n) (k:=fun y=>dGet2K i d y) q1)⟩
   obtain ⟨r,e1,q3⟩:=wp_lift (o:=match asM ρ2 i with | some (_,tk,kvs)=>(keyQ tk d).map fun k=>(dFind tk kvs k).getD y | none=>none) (ρ:=ρ2) (E:=E) q2
   cases hm2:asM ρ2 i with
   | none=>rw [hm2] at e1; cases e1
   | some p=>
    obtain ⟨io2,tk2,kvs2⟩:=p
    rw [hm2] at e1
    obtain ⟨k,e2,e3⟩:=Option.map_eq_some_iff.mp e1
    subst e3
    obtain ⟨a,fp2,hv2,⟨_,hd⟩,_,_⟩:=st2.box (asM_at hm2)
    rw [hv0] at hv2
    cases hv2
    obtain ⟨o,g,r⟩:=dic_get hd hide_le (DV.mono s2.hid d1) e2
    refine ⟨o,g,?_⟩
    rcases r with ⟨rfl,e⟩ | ⟨v,x,rfl,e,hx⟩
    ·rw [e] at q3; exact q3 _ H2 O2 st2 (s1.trans s2) d2
    ·rw [e] at q3; exact q3 _ H2 O2 st2 (s1.trans s2) hx⟩
noncomputable def dPutK (i:Nat) (y d:PyData):SM:=fun ρ=>match asM ρ i with
 | some (io,tk,kvs)=>(match keyQ tk d with
  | some k=>if kvs.length < sizeLine then .nx (ρ.set i (some (.own io (.m tk (dStore tk kvs d k y))))) else .bad
  | none=>.bad)
 | none=>.bad
noncomputable def dPutV (i:Nat) (mk:XM PyData) (y:PyData):SM:=fun ρ=>match asM ρ i with
 | some _=>ofX (mk ρ) (dPutK i y)
 | none=>.bad
noncomputable def sDPutF (i:Nat) (mk mv:XM PyData):SM:=fun ρ=>ofX (mv ρ) (dPutV i mk)
theorem fs_dput {i:Nat} {mk mv:XM PyData} {f:Expr} {p1 pos':Pos} (hu:X.A.units + 1 < cLine) (hv:PE X (.Name x p1) (tVar i)) (hk:FE X F E e mk) (hf:FE X F E f mv) (hs:swapsWith f (some (.Subscript (.Name x p1) e pos')) pos.line X.env=pure false:=by rfl) :
  FS X F E (.Assign [.Subscript (.Name x p1) e pos'] f pos) (sDPutF i mk mv):=
 (ps_dput hu hv hk.pe hf.pe hs).imp fun D σ H ⟨ρ,O,DD,st,q,f⟩=>⟨ρ,O,st,mn_wp _ _ _ (fun y ρ1 q1 vy H1 O1 st1 s1 d1=>by
  unfold wpS dPutV at q1
  cases hm:asM ρ1 i with
  | none=>rw [hm] at q1; exact q1.elim
  | some p=>
   rw [hm] at q1
   obtain ⟨io,tk,kvs⟩:=p
   obtain ⟨a0,fp,hv0,_,_,_⟩:=st1.box (asM_at hm)
   refine ⟨_,hv0,ρ1,O1,st1,mn_wp _ _ _ (fun d ρ2 q2 w H2 O2 st2 s2 d2=>?_) (wpS_ofX (m:=mk) (k:=dPutK i y) q1)⟩
   unfold wpS dPutK at q2
   cases hm2:asM ρ2 i with
   | none=>rw [hm2] at q2; exact q2.elim
   | some p=>
    rw [hm2] at q2
    obtain ⟨io2,tk2,kvs2⟩:=p
    simp only at q2
    cases hk:keyQ tk2 d with
    | none=>rw [hk] at q2; exact q2.elim
    | some k=>
     rw [hk] at q2
     simp only at q2
     by_cases hl:kvs2.length < sizeLine
     ·rw [if_pos hl] at q2
      obtain ⟨a,fp2,hv2,⟨e2,hd⟩,_,up⟩:=st2.box (asM_at hm2)
      rw [hv0] at hv2
      cases hv2
      subst e2
      obtain ⟨o,g,mv,hp⟩:=dic_put hd hide_le d2 (DV.mono s2.hid d1) hk hl
      refine ⟨_,_,rfl,g,?_⟩
      obtain ⟨O3,st3,s3,_⟩:=up (upd H2 a0 o) (.m tk2 (dStore tk2 kvs2 d k y)) [a0] (fun c o hc e=>by rw [upd_ne (by simpa using hc)]; exact e) (by simp) (fun c hc=>.inl hc) (fun G O' s hG _=>by
       subst hG
       exact ⟨s.hid,rfl,hp _ s.hid⟩)
      exact f.nx _ _ _ _ st3 (s1.trans (s2.trans s3)) q2
     ·rw [if_neg hl] at q2; exact q2.elim) (wpS_ofX (m:=mv) (k:=dPutV i mk) q)⟩
end
end L2.L3
namespace L2.L3
open PySem PySem.Spec PyProof.Rows
section
variable {X:Cx} {F:Fx} {E:Str->DEnv->Prop} {e a b c:Expr} {es:List Expr} {st:Stmt} {rest:List Stmt} {pos:Pos} {x:Str}
end
end L2.L3
namespace L2.L3
open PySem PySem.Spec PyProof.Rows
noncomputable abbrev bmV:List Value:=[.type "ValueError",.type "Exception",.type "BaseException",.type "object"]
noncomputable def OwnEx (h:Heap) (C:Addr):Prop:=∃ tl N nm q bs hdct sn sub ab col dd k0 k1 k2 k3 k5 mN,h.get? C=some (excClassObj nm q C N bs tl hdct sn sub ab col dd k0 k1 k2 k3 k5 "ValueError.__new__")/\h.Ns N mN/\mN "__init__" = none/\OwnTail h bmV tl
theorem ownEx_of {K:PySem.W.Frag} {h:Heap} {C:Addr} (X:K.In h) (e:PySem.W.excIn K C bmV "ValueError.__new__" = true):OwnEx h C:=by
 unfold PySem.W.excIn at e
 split at e
 ·rename_i o1 o2 o3 o4
  split at e
  ·rename_i a1 a2 a3 a4 a5 a6 a7 a8 a9 a10
   have e':=e
   simp only [Bool.and_eq_true,beq_iff_eq] at e'
   obtain ⟨⟨⟨⟨⟨r1,r2⟩,r3⟩,r4⟩,r5⟩,r6⟩:=e'
   obtain ⟨n1,n2,n3,n4,n5,n6,n7,n8,n9,n10,n11⟩:=o2
   obtain ⟨l⟩:=o3
   simp at r3 a9 a10 r5 r6
   subst r1 r2 r3 a9 a10
   exact ⟨a2,n4,n1,n5,n2,n6,n7,n8,n9,n10,o1,a3,a4,a5,a6,a8,_,X _ _ o4,.of_isNs (PySem.W.isNs_of_in X r5),PySem.W.nsMap_none_of_in X r5 r6,PySem.W.tail_of_in X r4⟩
  ·cases e
 ·cases e
structure EC (K:PySem.W.Frag) (mg:Str->Option Value) (c:Str) (C:Addr):Prop where
 mg:mg c=some (.ref C)
 ns:PySem.W.nsIn K mainGlobals c=some (some (.ref C))
 ex:PySem.W.excIn K C bmV "ValueError.__new__" = true
@[simp] noncomputable def sRaiseF (c:Str):SM:=fun ρ=>.ex c ρ
section
variable {X:Cx} {F:Fx} {E:Str->DEnv->Prop}
theorem _root_.L2.Inv.madeX {pins:List (Addr × Obj)} {σ:St} {H:Hp} {s:Shared} {h':Heap} {e:Addr} {C:Value} {us:List Value} (I:Inv X pins σ H s) (m:Heap.MadeExcOf s.heap h' e C us):Inv X pins σ H { s with heap:=h' }/\Cov X pins s.heap/\ExS s.heap H h' e C none:=by
 have hb:∀ b,s.heap.get? b=none->H b=none:=fun b z=>HOk.some_of I.hok z
 obtain ⟨t,h1,h2,h3⟩:=m.there
 refine ⟨I.ch I.cov ⟨fun b o q _ _=>m.keeps b o q,fun b o _ q=>⟨o.slots,m.keeps b o q⟩,fun b o q=>⟨o,m.keeps b o q⟩⟩,I.cov,⟨fun b o q=>⟨o,m.keeps b o q⟩,m.new,hb e m.new,_,_,_,h1,rfl,rfl,rfl,.inl ⟨rfl,rfl⟩⟩⟩
theorem fs_raise {c tx:Str} {C:Addr} {j:Nat} {np cpos pos kp:Pos} (hx:XOk X F E) (hh:X.A.handled=none) (hg:Gl X c) (ec:EC X.K X.mg c C) (hdb:(c == ("__debug__":Str))=false:=by decide)
  (he:starEach [.Constant (.str tx) j kp] X.env=(false,eval (.Constant (.str tx) j kp) X.env) :: starEach [] X.env:=by rfl) :
  FS X F E (.Raise (some (.Call (.Name c np) [.Constant (.str tx) j kp] [] cpos)) none pos) (sRaiseF c):=fun pins s σ H D I ⟨ρ,O,DD,st,q,f⟩=>by
 obtain ⟨tl,N,nm,qn,bs,hdct,sn,sub,ab,col,dd,k0,k1,k2,k3,k5,mN,hC,hN,hni,T⟩:=ownEx_of I.ok.mod.kin ec.ex
 refine wpAny_Raise_call_subU (C:=C) (nm:=nm) (q:=qn) (N:=N) (bs:=bs) (bm:=tl) (hdct:=hdct) (sn:=sn) (sub:=sub) (ab:=ab) (col:=col) (dd:=dd) (k0:=k0) (k1:=k1) (k2:=k2) (k3:=k3) (k5:=k5) (mN:=mN)
  PySem.F.excBase_ValueError (by decide) PySem.F.excBase_ValueError (T.hasType (by decide)) hh (by rw [he]; rfl) hni (ld_glob I hg ec.mg ⟨rfl,?_⟩ hdb)
 have pa:PA X [.Constant (.str tx) j kp] _:=pa_cons (pe_str (X:=X)) pa_nil he
 have w:=pa cpos pins s σ H (fun vs H1=>vs.length=1/\H1=H) I (by exact ⟨rfl,rfl⟩)
 rw [he] at w ⊢
 refine Calls.evalArgs_plain (thn w fun us s2 ⟨vs,H1,I1,r,h1,h2⟩=>?_)
 subst h2
 refine ⟨rfl,by show us.length<=_; rw [<-r.length,h1]; decide,I1.bk _ _ hC,hN.keeps I1.bk,T.keeps I1.bk,fun h' e m=>?_⟩
 obtain ⟨I2,cv,ex⟩:=I1.madeX m
 exact hx.2 pins σ _ _ _ c ρ O ⟨I2,e,.ref C,s2.heap,none,rfl,cv,ex,ec.mg⟩ st q
end
end L2.L3
namespace L2.L3
open PySem PySem.Spec PyProof.Rows
noncomputable def underIn (K:PySem.W.Frag) (C D:Addr):Bool:=match K.lookup C with
 | some ⟨_,_,.cls cd,_⟩=>cd.mro.contains (.ref D)
 | _=>false
noncomputable def attrOk (K:PySem.W.Frag) (C:Addr):Bool:=PySem.W.findIn K (.ref C) "__getattribute__" == some (some (.builtin "BaseException.__getattribute__")) && PySem.W.findIn K (.ref C) "__class__" == some (some (.builtin "object.__class__")) && PySem.W.findIn K (.ref C) "__getattr__" == some none &&
 PySem.W.mroIn K C (.type "BaseException") == some true && PySem.W.mroIn K C (.type "object") == some true
noncomputable def excTab (K:PySem.W.Frag) (D:Addr) (l:List Str):Bool:=l.all fun c=>match PySem.W.nsIn K mainGlobals c with
 | some (some (.ref C))=>PySem.W.excIn K C bmV "ValueError.__new__" && underIn K C D && attrOk K C && (PySem.W.kitOne K (.ref C) (.type "ValueError") == some true) && l.all fun d=>match PySem.W.nsIn K mainGlobals d with
  | some (some (.ref D'))=>PySem.W.kitOne K (.ref C) (.ref D') == some (c == d)
  | _=>false
 | _=>false
structure XT (K:PySem.W.Frag) (mg:Str->Option Value) (l:List Str) (D:Addr):Prop where
 top:EC K mg "DueError" D
 tab:excTab K D l=true
 mgs:∀ c C,PySem.W.nsIn K mainGlobals c=some (some (.ref C))->mg c=some (.ref C)
theorem XT.at_ {K:PySem.W.Frag} {mg:Str->Option Value} {l:List Str} {D:Addr} (x:XT K mg l D) {c:Str} (h:c ∈ l):∃ C,EC K mg c C/\underIn K C D=true/\attrOk K C=true/\PySem.W.kitOne K (.ref C) (.type "ValueError")=some true/\
  ∀ d ∈ l,∃ D',mg d=some (.ref D')/\PySem.W.nsIn K mainGlobals d=some (some (.ref D'))/\PySem.W.kitOne K (.ref C) (.ref D')=some (c == d):=by
 have t:=List.all_eq_true.mp x.tab c h
 split at t
 ·rename_i C e
  simp only [Bool.and_eq_true] at t
  obtain ⟨⟨⟨⟨t1,t2⟩,t0⟩,t3⟩,t4⟩:=t
  refine ⟨C,⟨x.mgs c C e,e,t1⟩,t2,t0,by simpa using t3,fun d hd=>?_⟩
  have u:=List.all_eq_true.mp t4 d hd
  split at u
  ·rename_i D' e'
   exact ⟨D',x.mgs d D' e',e',by simpa using u⟩
  ·cases u
 ·cases t
theorem under_of {K:PySem.W.Frag} {h:Heap} {C D N:Addr} {nm q:Str} {bs tl:List Value} {hdct:Bool} {sn:List Str} {sub:List Value} {ab:Bool} {col:Option Bool} {dd:Option Addr} {k0 k1 k2 k3 k5:Option Value} {newId:String}
  (X:K.In h) (e:underIn K C D=true) (hC:h.get? C=some (excClassObj nm q C N bs tl hdct sn sub ab col dd k0 k1 k2 k3 k5 newId)):(Value.ref C :: tl).contains (.ref D)=true:=by
 unfold underIn at e
 split at e
 ·rename_i o
  have:=X _ _ o
  rw [hC] at this
  cases this
  exact e
 ·cases e
theorem match_under {M:Model} {A:Around} {E:Value->Shared->Prop} {h:Heap} {g:Array GenState} {d:Drawn} {t:Nat} {os:OsState} {e C D:Addr} {oe:Obj} {Q:Bool->Shared->Prop}
  (xc:OwnEx h C) (xd:OwnEx h D) (hu:∀ {nm q N bs tl hdct sn sub ab col dd k0 k1 k2 k3 k5 newId},h.get? C=some (excClassObj nm q C N bs tl hdct sn sub ab col dd k0 k1 k2 k3 k5 newId)->(Value.ref C :: tl).contains (.ref D)=true)
  (he:h.get? e=some oe) (hcls:oe.cls=.ref C) (hq:Q true ⟨h,g,d,t,os⟩):wpAny M A (excMatches (.ref e) (.ref D)) Q E ⟨h,g,d,t,os⟩:=by
 obtain ⟨tl,N,nm,q,bs,hdct,sn,sub,ab,col,dd,k0,k1,k2,k3,k5,mN,hC,_,_,_⟩:=xc
 obtain ⟨tl',N',nm',q',bs',hdct',sn',sub',ab',col',dd',k0',k1',k2',k3',k5',mN',hD,_,_,T'⟩:=xd
 have cB:(Value.ref D :: tl').contains (.type "BaseException")=true:=by rw [List.contains_cons,T'.hasType (X:="BaseException") (b:=true) (by decide),Bool.or_true]
 have cC:=hu hC
 have f:=tc_notTuple
 unfold excMatches
 repeat (first | (with_reducible refine wpAny_loadPart_at he ?_; rw [hcls]) | with_reducible refine wpAny_loadPart_at hD ?_ | (with_reducible refine wpAny_isSubtype_exc hD ?_; rw [cB]) | (with_reducible refine wpAny_isSubtype_exc hC ?_; rw [cC]) | wp_step)
 exact hq
end L2.L3
namespace L2.L3
open PySem PySem.Spec PyProof.Rows
noncomputable abbrev reX (X:Cx) (A:Around) (b:Bool) (pn:List (Addr × Obj)) (xe:Value->Shared->Prop):Cx:={ X with A:=A,calm:=b,pn:=pn,xe:=xe }
section
variable {X:Cx} {F:Fx} {E:Str->DEnv->Prop} {pins pins':List (Addr × Obj)} {σ:St} {H:Hp} {s:Shared} {A:Around} {b:Bool} {xe:Value->Shared->Prop}
theorem _root_.L2.Inv.re (I:Inv X pins σ H s) (A:Around) (b:Bool) (xe:Value->Shared->Prop) (hA:A.frames=X.A.frames) (hb:b=true->A.handled=none):Inv (reX X A b (X.pn ++ pins) xe) [] σ H s:=
 ⟨⟨I.ok.mod,I.ok.kind,I.ok.glob,I.ok.blt,I.ok.above,I.ok.inj,I.ok.has,I.ok.cab,hb,hA.trans I.ok.frames,I.ok.stk,I.ok.exf,I.ok.bs,I.ok.bsz,I.ok.noex,I.ok.exfs,I.ok.funs,I.ok.frf⟩,I.os,I.bare,I.base,I.loc,I.cell,I.free,I.freeC,fun p hp=>I.pin p (by simpa using hp),I.hok,I.len⟩
theorem _root_.L2.Inv.unre (ok:X.Ok) (I:Inv (reX X A b (X.pn ++ pins) xe) pins' σ H s):Inv X pins σ H s:=
 ⟨ok,I.os,I.bare,I.base,I.loc,I.cell,I.free,I.freeC,fun p hp=>I.pin p (List.mem_append_left _ hp),I.hok,I.len⟩
theorem unreSP (ok:X.Ok) {D:Ends} {f:Flow} {s':Shared} (h:SP (reX X A b (X.pn ++ pins) xe) pins' D f s'):SP X pins D f s':=by
 cases f with
 | next=>obtain ⟨σ',H',I,q⟩:=h; exact ⟨σ',H',I.unre ok,q⟩
 | brk=>obtain ⟨σ',H',I,q⟩:=h; exact ⟨σ',H',I.unre ok,q⟩
 | cont=>obtain ⟨σ',H',I,q⟩:=h; exact ⟨σ',H',I.unre ok,q⟩
 | ret u=>obtain ⟨v,σ',H',I,r,q⟩:=h; exact ⟨v,σ',H',I.unre ok,r,q⟩
theorem _root_.L2.Inv.caught {g:Heap} {a:Addr} {C:Value} {fl:Option Value} (I:Inv X pins σ H s) (cv:Cov X pins g) (ex:ExS g H s.heap a C fl):Inv X pins σ (upd H a (.ext fun h=>∃ o,h.get? a=some o/\o.cls=C)) s:=by
 have ng:∀ b o,g.get? b=some o->b ≠ a:=fun b o e z=>by subst z; rw [ex.lo] at e; cases e
 obtain ⟨oe,vs,a0,he,hc,_⟩:=ex.ob
 have sm:Same H (upd H a (.ext fun h=>∃ o,h.get? a=some o/\o.cls=C)):=same_upd ex.un
 refine ⟨I.ok,I.os,I.bare,⟨I.base.keep,I.base.slot,fun b o e n hx=>?_,I.base.there,fun b xs e=>sm _ _ (I.base.tups b xs e),fun b o u e=>sm _ _ (I.base.frzs b o u e),fun b ps e=>let ⟨m,q⟩:=I.base.tbls b ps e; ⟨m,sm _ _ q⟩⟩,I.loc,I.cell,?_,fun x c e=>?_,fun p hp=>?_,fun b u e=>?_,I.len⟩
 ·obtain ⟨o',e'⟩:=cv.s0 b o e hx
  rw [upd_ne (ng _ _ e')]; exact I.base.free b o e n hx
 ·obtain ⟨o',e'⟩:=cv.loc
  rw [upd_ne (ng _ _ e')]; exact I.free
 ·obtain ⟨o',e'⟩:=cv.cell x c e
  rw [upd_ne (ng _ _ e')]; exact I.freeC x c e
 ·obtain ⟨o',e'⟩:=cv.pin p hp
  obtain ⟨h1,h2,h3⟩:=I.pin p hp
  exact ⟨h1,by rw [upd_ne (ng _ _ e')]; exact h2,h3⟩
 ·by_cases z:b=a
  ·subst z
   rw [upd_same] at e
   cases e
   refine ⟨⟨oe,he,hc⟩,⟨oe,he⟩,fun h1 h2 ⟨o,q1,q2⟩ k=>⟨o,k o q1,q2⟩⟩
  ·rw [upd_ne z] at e
   exact (I.hok b u e).stay (fun d v hd q=>q) (fun d q=>sm _ _ q) fun d xs q=>sm _ _ q
theorem goes_ok {M:Model} {A:Around} {E:Value->Shared->Prop} {i:Nat} {x:Str} {pos:Pos} {Q:Unit->Shared->Prop} (I:Inv X pins σ H s) (hN:X.N.Nodup) (hi:X.N[i]? = some x) (hx:X.env.scope.names.lookup x=some .local)
  (h:∀ s',Inv X pins (σ.set i none) H s'->Q () s'):wpAny M A (do bindName X.env x .none; unbindBehindTheSuite X.env x pos) Q E s:=by
 obtain ⟨m,hn,hl⟩:=id I.loc
 have hcls:(X.env.scope.kind == .class || (X.env.scope.kind == .module && X.env.locals != X.env.globals))=false:=by rw [I.ok.kind]; rfl
 have cne:=I.cne
 obtain ⟨oL,_,_,hoL,_⟩:=id hn
 refine wpAny_nameGoes_keeps hx hn hcls fun h' v hn' hs=>h _ ⟨I.ok,I.os,I.bare,⟨fun b o e n hb hx=>?_,fun b o e n hb hx=>?_,I.base.free,fun b o e hx=>?_,I.base.tups,I.base.frzs,I.base.tbls⟩,⟨_,hn',fun j y v' e1 e2 e3=>?_⟩,fun y c e=>?_,I.free,I.freeC,fun p hp=>?_,fun b ob e=>?_,?_⟩
 ·exact (hs.2 b (Nat.ne_of_lt (Nat.lt_of_lt_of_le (Heap.lt_size e) I.ok.above))).trans (I.base.keep b o e n hb hx)
 ·obtain ⟨sl,e1⟩:=I.base.slot b o e n hb hx
  exact ⟨sl,(hs.2 b (Nat.ne_of_lt (Nat.lt_of_lt_of_le (Heap.lt_size e) I.ok.above))).trans e1⟩
 ·obtain ⟨o',e1⟩:=I.base.there b o e hx
  exact ⟨o',(hs.2 b (Nat.ne_of_lt (Nat.lt_of_lt_of_le (Heap.lt_size e) I.ok.above))).trans e1⟩
 ·rcases get_set e2 with ⟨_,z,_⟩ | ⟨hj,e2'⟩
  ·cases z
  ·obtain ⟨u',r',q⟩:=hl j y v' e1 e2' e3
   refine ⟨u',r',?_⟩
   rcases q with ⟨k,e⟩ | ⟨k,c,e,z⟩
   ·refine .inl ⟨k,?_⟩
    have:y ≠ x:=fun e=>hj (nodup_ix hN e1 (e ▸ hi))
    simp [this,e]
   ·exact .inr ⟨k,c,e,z.sameBut hs (cne y c e)⟩
 ·obtain ⟨w',z⟩:=I.cell y c e
  exact ⟨w',z.sameBut hs (cne y c e)⟩
 ·obtain ⟨e,n,ne,nf,d⟩:=I.pin p hp
  exact ⟨(hs.2 p.1 ne).trans e,n,ne,nf,d⟩
 ·refine (I.hok b ob e).stay (fun c w' hc q=>(hs.2 c ?_).trans q) (fun _ q=>q) fun _ _ q=>q
  rintro rfl
  rcases hc with rfl | hc
  ·rw [I.free] at e; cases e
  ·rw [I.free] at hc; cases hc
 ·rw [List.length_set]; exact I.len
end
end L2.L3
namespace L2.L3
open PySem PySem.Spec PyProof.Rows
section
variable {K:PySem.W.Frag} {F:Fx} {H H':Hp} {σ σ':St} {ρ ρ':DEnv} {O O':List Addr} {W:List (List Addr)}
noncomputable def Fx.here (F:Fx) (H:Hp) (L:List Addr):Fx:=⟨H,L,F.O₀,F.I₀⟩
theorem DStW.here (st:DStW K F H σ ρ W):DStW K (F.here H W.flatten) H σ ρ W:=⟨st.at_,st.nd,fun _ _ _ e=>e,fun _ h=>.inl h,st.live,st.len,st.lw,st.io⟩
theorem here_new (st:DStW K F H σ ρ W) {a:Addr} (h:a ∈ W.flatten\/H a=none):a ∈ F.A₀\/F.H₀ a=none:=by
 rcases h with h | h
 ·exact st.new a h
 ·by_cases hA:a ∈ F.A₀
  ·exact .inl hA
  ·refine .inr ?_
   cases e:F.H₀ a with
   | none=>rfl
   | some o=>have:=st.kept a o hA e; rw [h] at this; cases this
theorem unhere {fp:List Addr} (st:DStW K F H σ ρ W) (st':DSt K ((F.here H W.flatten).plus fp) H' σ' ρ' O'):DSt K (F.plus fp) H' σ' ρ' O':=by
 obtain ⟨W',h,e⟩:=st'
 refine ⟨W',⟨h.at_,h.nd,fun b o hA e=>h.kept b o (fun z=>?_) (st.kept b o hA e),fun a ha=>here_new st (h.new a ha),h.live,h.len,h.lw,h.io⟩,e⟩
 rcases st.new b z with q | q
 ·exact hA q
 ·rw [show F.H₀ b=some o from e] at q; cases q
theorem here_stp (st':DSt K (F.here H W.flatten) H' σ' ρ' O'):Stp (W.flatten ++ F.O₀) H O' H':=by
 obtain ⟨W',h,rfl⟩:=st'
 refine ⟨fun b o hb e=>h.kept b o (fun z=>hb (List.mem_append_left _ z)) e,fun a ha=>?_⟩
 rcases List.mem_append.mp ha with z | z
 ·exact (h.new a z).imp (List.mem_append_left _) id
 ·exact .inl (List.mem_append_right _ z)
theorem Fits.here {D:Ends} {DD:DEnds} (st:DStW K F H σ ρ W) (f:Fits K F O H D DD):Fits K (F.here H W.flatten) O H D DD:=
 ⟨fun σ' H' ρ' O' s1 s2 q=>f.nx σ' H' ρ' O' (unhere (fp:=[]) st s1) s2 q,fun v σ' H' c ρ' O' fp r s2 q=>f.rt v σ' H' c ρ' O' fp ⟨unhere st r.st,r.at_,fun a h=>here_new st (r.new a h)⟩ s2 q,
  fun σ' H' ρ' O' s1 s2 q=>f.bk σ' H' ρ' O' (unhere (fp:=[]) st s1) s2 q,fun σ' H' ρ' O' s1 s2 q=>f.ct σ' H' ρ' O' (unhere (fp:=[]) st s1) s2 q⟩
theorem DSt.clear (st:DSt K F H σ ρ O) (i:Nat):∃ O',DSt K F H σ (ρ.set i none) O'/\Stp O H O' H:=by
 obtain ⟨W,h,rfl⟩:=st
 have sub:∀ a ∈ (W.set i []).flatten,a ∈ W.flatten:=fun a ha=>by
  rcases mem_flat_set ha with z | ⟨j,l,_,e,hl⟩
  ·cases z
  ·exact mem_flat_of e hl
 have stp:Stp (W.flatten ++ F.O₀) H ((W.set i []).flatten ++ F.O₀) H:=stp_less fun a ha=>by
  rcases List.mem_append.mp ha with z | z
  ·exact List.mem_append_left _ (sub a z)
  ·exact List.mem_append_right _ z
 refine ⟨_,⟨W.set i [],⟨fun j c e=>?_,nodup_set h.nd List.nodup_nil (fun a ha=>by cases ha),h.kept,fun a ha=>h.new a (sub a ha),fun a ha=>h.live a ?_,by rw [List.length_set]; exact h.len,by rw [List.length_set,List.length_set]; exact h.lw,fun j b e=>?_⟩,rfl⟩,stp⟩
 ·rcases get_set e with ⟨_,z,_⟩ | ⟨hj,e1⟩
  ·cases z
  ·obtain ⟨v,fp,h1,h2,h3⟩:=h.at_ j c e1
   exact ⟨v,fp,h1,by rw [List.getElem?_set_ne (Ne.symm hj)]; exact h2,h3.keep stp (fun _ _=>rfl) fun _ _ _ e=>e⟩
 ·rcases List.mem_append.mp ha with z | z
  ·exact List.mem_append_left _ (sub a z)
  ·exact List.mem_append_right _ z
 ·rcases get_set e with ⟨_,z,_⟩ | ⟨hj,e1⟩
  ·cases z
  ·exact h.io j b e1
end
noncomputable def sTryA (l:List Str) (i:Nat) (mb mh:SM):SM:=fun ρ=>match mb ρ with
 | .ex c ρ'=>if c ∈ l then (match mh (ρ'.set i (some (.exc c))) with | .rt d ρ''=>.rt d (ρ''.set i none) | _=>.bad) else .bad
 | o=>o
section
variable {X:Cx} {F:Fx} {E:Str->DEnv->Prop}
theorem to_suite {l:List Str} {D a:Addr} {c:Str} {C:Value} {g:Heap} {fl:Option Value} {np hpos:Pos} {nm:Option Str} {b₀:Stmt} {suite:List Stmt} {pins:List (Addr × Obj)} {σ:St} {H:Hp} {s:Shared} {Q:Flow->Shared->Prop} {E':Value->Shared->Prop}
  (xt:XT X.K X.mg l D) (hg:Gl X "DueError") (hst:X.stack=X.env :: X.outer) (hfr:X.env.frame=some X.env.locals) (hc:c ∈ l) (J:Inv X pins σ H s) (cv:Cov X pins g) (ex:ExS g H s.heap a C fl) (hm:X.mg c=some C)
  (h:∀ s',Inv X pins σ H s'->ExS g H s'.heap a C (some .none)->codeAny (model X.prog X.w) (X.A.mark (some (.ref a))) (.handlers (.ref a) [.ExceptHandler none nm (b₀ :: suite) hpos] X.env) (fun r s₂=>match r with
     | .ok f=>(match nm with
      | none=>Q f s₂
      | some n=>wpAny (model X.prog X.w) X.A (do bindName X.env n .none; unbindBehindTheSuite X.env n hpos) (fun _ s₃=>Q f s₃) E' s₂)
     | .error x=>cameBackBy (model X.prog X.w) X.A X.env E' x s₂) s') :
  wpAny (model X.prog X.w) X.A (noteFrame (.ref a) X.env) (fun _ s₂=>wpAny (model X.prog X.w) X.A (setFlight (.ref a) none) (fun _ s₃=>wpAny (model X.prog X.w) X.A (handleBy (.ref a) X.env [.ExceptHandler (some (.Name "DueError" np)) nm (b₀ :: suite) hpos]) Q E' s₃) E' s₂) E' s:=by
 have fr:X.A.frames=some (X.env :: X.outer):=by rw [J.ok.frames,hst]
 have stk:s.heap.FunFrames X.base (X.env :: X.outer):=by have:=J.stack; rw [hst] at this; exact this
 have hb:∀ b,s.heap.get? b=none->H b=none:=fun b z=>HOk.some_of J.hok z
 refine note_any (base:=X.base) fr stk hfr hb ex fun h1 c1 x1=>?_
 refine flight_any (s:={ s with heap:=h1 }) (fs:=frs (X.env :: X.outer)) none (frames_some (c1.frames (fun _ h=>h) stk)) x1 fun h2 c2 x2=>?_
 have J2:Inv X pins σ H { s with heap:=h2 }:=J.ch cv (by rw [hst]; exact c1.trans c2)
 refine wpAny_handleBy_cons (codeAny_handlers_test ?_) (by intro q; cases q)
 have J3:=J2.re (X.A.mark (some (.ref a))) false X.xe rfl (fun z=>by cases z)
 refine ld_glob (X:=reX X (X.A.mark (some (.ref a))) false (X.pn ++ pins) X.xe) J3 hg xt.top.mg ?_ (by decide)
 obtain ⟨C',ec,hu,_⟩:=xt.at_ hc
 have eC:C=.ref C':=Option.some.inj (hm.symm.trans ec.mg)
 obtain ⟨oe,vs,a0,he,hcl,_⟩:=x2.ob
 refine match_under (C:=C') (ownEx_of J2.kIn ec.ex) (ownEx_of J2.kIn xt.top.ex) (fun hC=>under_of J2.kIn hu hC) he (hcl.trans eC) ?_
 exact h _ J2 x2
theorem fs_tryA {l:List Str} {D:Addr} {i:Nat} {n:Str} {np hpos pos:Pos} {body suite:List Stmt} {b₀:Stmt} {mb mh:SM} (xt:XT X.K X.mg l D) (hg:Gl X "DueError") (hst:X.stack=X.env :: X.outer) (hfr:X.env.frame=some X.env.locals) (hN:X.N.Nodup) (hi:X.N[i]? = some n) (hn:X.env.scope.names.lookup n=some .local)
  (hG:GF X.mg F) (hb:∀ F' pn xe E1,XOk (reX X X.A X.calm pn xe) F' E1->PassesOwn (model X.prog X.w) X.A X.env xe->FSs (reX X X.A X.calm pn xe) F' E1 body mb)
  (hs:∀ F' e pn xe,GF X.mg F'->FSs (reX X (X.A.mark (some e)) false pn xe) F' E0' (b₀ :: suite) mh) :
  FS X F E (.Try body [.ExceptHandler (some (.Name "DueError" np)) (some n) (b₀ :: suite) hpos] [] [] pos) (sTryA l i mb mh):=fun pins s σ H D' I ⟨ρ,O,DD,st,q,f⟩=>by
 obtain ⟨W,stw,rfl⟩:=id st
 have hG1:GF X.mg (F.here H W.flatten):=(hG.at st).frame fun a h=>stw.live a (List.mem_append_left _ h)
 let E1:Str->DEnv->Prop:=fun c ρ'=>c ∈ l/\∃ d ρ'',mh (ρ'.set i (some (.exc c)))=.rt d ρ''/\DD.rt d (ρ''.set i none)
 have q1:wpS E1 mb DD ρ:=by
  unfold wpS sTryA at q
  unfold wpS
  generalize mb ρ=o at q ⊢
  cases o with
  | ex c ρ'=>
   simp only at q
   by_cases hc:c ∈ l
   ·rw [if_pos hc] at q
    refine ⟨hc,?_⟩
    generalize mh (ρ'.set i (some (.exc c)))=o2 at q ⊢
    cases o2 with
    | rt d ρ''=>exact ⟨d,ρ'',rfl,q⟩
    | _=>exact q.elim
   ·rw [if_neg hc] at q; exact q.elim
  | _=>exact q
 refine wpAny_Try_except ?_
 refine thn (hb (F.here H W.flatten) (X.pn ++ pins) _ E1 ?_ PassesOwn.looking [] s σ H D' (I.re X.A X.calm _ rfl I.ok.hd) ⟨ρ,_,DD,⟨W,stw.here,rfl⟩,q1,f.here stw⟩) fun fw s1 h=>?_
 ·refine ⟨hG1,?_⟩
  intro pins' σ' H' s' e c ρ' O' ⟨J1,a,C,g,fl,e1,cv,ex,hm⟩ st' ⟨hc,d,ρ'',hmh,hd⟩
  subst e1
  have J:Inv X pins σ' H' s':=J1.unre I.ok
  have cv':Cov X pins g:=⟨cv.s0,cv.loc,cv.cell,fun p hp=>cv.pin p (List.mem_append_left _ hp)⟩
  have hii:i < ρ'.length:=by rw [st'.lenE,J.len]; exact (List.getElem?_eq_some_iff.mp hi).1
  refine to_suite xt hg hst hfr hc J cv' ex hm fun s3 J3 x3=>codeAny_handlers_suite_as ?_
  have stk:s3.heap.FunFrames X.base (X.env :: X.outer):=by have:=J3.stack; rw [hst] at this; exact this
  refine flight_any (s:=s3) (fs:=frs (X.env :: X.outer)) none (frames_some stk) x3 fun h4 c4 x4=>?_
  have J4:Inv X pins σ' H' { s3 with heap:=h4 }:=J3.ch cv' (by rw [hst]; exact c4)
  have J5:=J4.caught cv' x4
  obtain ⟨C',ec,_⟩:=xt.at_ hc
  have eC:C=.ref C':=Option.some.inj (hm.symm.trans ec.mg)
  refine store_ok J5 hN hi (.inl hn) (v:=.ref a) rfl (fun s5 J6=>?_) (.inr hn)
  have sm:=same_upd (o:=.ext fun h=>∃ o,h.get? a=some o/\o.cls=C) ex.un
  have na:a ∉ O':=st'.nofree a ex.un
  have cell:CellAt X.K (upd H' a (.ext fun h=>∃ o,h.get? a=some o/\o.cls=C)) O' (.ref a) (.exc c) []:=⟨a,_,rfl,hide_of upd_same na,fun h ⟨o,z1,z2⟩=>⟨C',o,ec.ns,z1,z2.trans eC⟩⟩
  obtain ⟨O6,st6,s6⟩:=DSt.put1 (io:=false) (F:=F.here H W.flatten) (fp:=[]) (i:=i) (st'.grow sm) cell (fun _ z=>by cases z) hii (fun _ z=>by cases z)
  have step:Stp (W.flatten ++ F.O₀) H O6 _:=(here_stp st').trans ((Stp.same sm).trans s6)
  refine thn (hs (F.here H W.flatten) (.ref a) (X.pn ++ pins) _ hG1 [] s5 _ _ ⟨fun _ _=>False,D'.rt,fun _ _=>False,fun _ _=>False⟩ (J6.re (X.A.mark (some (.ref a))) false _ rfl (fun z=>by cases z)) ⟨_,O6,⟨fun _=>False,fun d ρ''=>DD.rt d (ρ''.set i none),fun _=>False,fun _=>False⟩,st6,?_,?_⟩) fun fw s6 h6=>?_
  ·unfold wpS; rw [hmh]; exact hd
  ·refine ⟨fun _ _ _ _ _ _ z=>z.elim,fun v σ2 H2 c2 ρ2 O2 fp r s2 qq=>?_,fun _ _ _ _ _ _ z=>z.elim,fun _ _ _ _ _ _ z=>z.elim⟩
   have r2:DSt X.K (F.plus fp) H2 σ2 ρ2 O2:=unhere stw r.st
   obtain ⟨O3,r3,s3⟩:=r2.clear i
   exact f.rt v σ2 H2 c2 _ O3 fp ⟨r3,r.at_.keep s3 (fun _ _=>rfl) (fun _ _ _ e=>e),fun x hx=>here_new stw (r.new x hx)⟩ (step.trans (s2.trans s3)) qq
  ·cases fw with
   | next=>obtain ⟨_,_,_,z⟩:=h6; exact z.elim
   | brk=>obtain ⟨_,_,_,z⟩:=h6; exact z.elim
   | cont=>obtain ⟨_,_,_,z⟩:=h6; exact z.elim
   | ret u=>
    obtain ⟨v,σ7,H7,J8,r8,q8⟩:=h6
    exact goes_ok (J8.unre I.ok) hN hi hn fun s9 J9=>⟨v,_,H7,J9,r8,q8⟩
 ·cases fw with
  | next=>exact wpAny_execs_nil (unreSP I.ok h)
  | brk=>exact unreSP I.ok h
  | cont=>exact unreSP I.ok h
  | ret u=>exact unreSP I.ok h
end
end L2.L3
namespace L2.L3
open PySem PySem.Spec PyProof.Rows
structure RoomH (k:Nat) (A:Around):Prop where
 dp:A.depth + 3 * k + 5 < recursionLimit
 un:A.units + 16 * k + 200 < cLine
theorem Room.h {k:Nat} {A:Around} (r:Room k A) (v:Option Value):RoomH k (A.mark v):=⟨r.dp,r.un⟩
theorem RoomH.deeper {k:Nat} {A:Around} (r:RoomH (k + 1) A) (env:Env):RoomH k (A.deeper env):=
 ⟨by have:=r.dp; show A.depth + 1 + 3 * k + 5 < _; omega,by have:=r.un; show A.units + 3 + 16 * k + 200 < _; omega⟩
structure FnOkH (P:Program) (w:World) (K:PySem.W.Frag) (mg:Str->Option Value) (base:Heap) (CX:CXT) (k:Nat) (f:Addr) (fd:FuncData) (ps:List Str) (sp:Sp):Prop where
 len:∀ vs H Q E,sp vs H Q E->vs.length=ps.length
 run:∀ (A:Around) (outer:List Env) (s:Shared) (H:Hp) (args:Args) (us:List Value) (vs:List V) (Q:VK) (E:XK),RoomH k A->Env0 P w K mg base A outer s H->BindsTo s fd args (ps.zip us)->Vals vs us->sp vs H Q E->
  codeAny (model P w) A (.call (.ref f) args) (CR CX outer P w H s Q E) s
noncomputable abbrev cxH (CX:CXT) (P:Program) (w:World) (K:PySem.W.Frag) (mg:Str->Option Value) (base:Heap) (N:List Str) (qual:Str) (scope:Scope) (f:Addr) (cd:Value) (A:Around) (outer:List Env) (s:Shared) (H:Hp) (E:XK):Cx:=
 { cxOf CX P w K mg base N qual scope f cd A outer s H E with calm:=false }
theorem inv_startH {CX:CXT} {P:Program} {w:World} {K:PySem.W.Frag} {mg:Str->Option Value} {base:Heap} {N ps:List Str} {qual:Str} {scope:Scope} {f:Addr} {cd:Value} {A:Around} {outer:List Env} {s s1:Shared} {H:Hp} {E:XK} {us:List Value} {vs:List V}
  (S:FnScope N ps scope) (e0:Env0 P w K mg base A outer s H) (hl:vs.length=ps.length) (r:Vals vs us)
  (x:InCallC s s.heap.objs.size (bindL (envOfC qual scope s.heap.objs.size f cd).kindOf (ps.zip us) fun _=>none) (cellsFrom (s.heap.objs.size + 1) scope.names []) (bindC (envOfC qual scope s.heap.objs.size f cd).kindOf (ps.zip us) fun _=>none) s1) :
  Inv (cxH CX P w K mg base N qual scope f cd A outer s H E) [] (start N vs) H s1:=by
 have e1:Env0 P w K mg base { A with handled:=none } outer s H:=⟨e0.frames,e0.mod,e0.bs,e0.bsz,e0.funs,e0.frf,e0.hok,e0.bare⟩
 have I:=inv_start (CX:=CX) (E:=E) (qual:=qual) (f:=f) (cd:=cd) S rfl e1 hl r x
 exact ⟨⟨I.ok.mod,I.ok.kind,I.ok.glob,I.ok.blt,I.ok.above,I.ok.inj,I.ok.has,I.ok.cab,(fun z=>by cases z),I.ok.frames,I.ok.stk,I.ok.exf,I.ok.bs,I.ok.bsz,I.ok.noex,I.ok.exfs,I.ok.funs,I.ok.frf⟩,I.os,I.bare,I.base,I.loc,I.cell,I.free,I.freeC,I.pin,I.hok,I.len⟩
theorem fn_ofH {CX:CXT} {P:Program} {w:World} {K:PySem.W.Frag} {mg:Str->Option Value} {base:Heap} {k:Nat} {f:Addr} {name qual:Str} {params:Arguments} {body:List Stmt} {scope:Scope} {dV kV doc pm cdv ct oc:Value} {an od:Option Addr}
  {osl:Array (Option Value)} {N ps:List Str} {sp:Sp} (lk:K.lookup f=some ⟨oc,od,.func (PySem.W.fnOf name qual params body scope dV kV doc pm an cdv ct),osl⟩) (hcd:PySem.W.codeIn K cdv qual=true) (S:FnScope N ps scope)
  (len:∀ vs H Q E,sp vs H Q E->vs.length=ps.length)
  (hbody:∀ (A:Around) (outer:List Env) (s:Shared) (H:Hp) (vs:List V) (Q:VK) (E:XK),RoomH k (A.deeper (envOfC qual scope s.heap.objs.size f cdv))->sp vs H Q E->
   ∃ t,PSs (cxH CX P w K mg base N qual scope f cdv A outer s H E) body t/\t { nx:=fun _ H'=>Q .non H',rt:=Q } (start N vs) H) :
  FnOkH P w K mg base CX (k + 1) f (PySem.W.fnOf name qual params body scope dV kV doc pm an cdv ct) ps sp:=by
 refine ⟨len,fun A outer s H args us vs Q E hr e0 hb r hsp=>?_⟩
 have hl:=len _ _ _ _ hsp
 have KX:K.In s.heap:=e0.mod.kin.keeps fun b o e=>(e0.bs b o e).1
 have lim:s.heap.NoLimit:=e0.mod.nolimit.keeps fun b o e=>(e0.bs b o e).1
 have hkind:∀ y ∈ ps.zip us,scope.names.lookup y.1=some .local\/(scope.names.lookup y.1=some .cell/\((cellsFrom (s.heap.objs.size + 1) scope.names []).lookup y.1).isSome=true):=fun ⟨n,v⟩ hy=>by
  rcases S.par n (List.of_mem_zip hy).1 with q | q
  ·exact .inl q
  ·exact .inr ⟨q,PySem.W.cellsFrom_some _ _ _ (.inl q)⟩
 refine codeAny_call_function (by have:=hr.dp; omega) (KX _ _ lk) rfl S.co S.gen rfl (PySem.W.codeRec_of KX hcd) (hb _ _ _ _ ?_)
 refine wpAny_newFunctionEnv_cells S.kind hkind fun env he s1 x=>?_
 subst he
 refine ⟨lim.keeps x.toInCall.keep,codeAny_func ?_⟩
 obtain ⟨t,ht,hq⟩:=hbody A outer s H vs Q E (hr.deeper _) hsp
 have I:Inv (cxH CX P w K mg base N qual scope f cdv A outer s H E) [] (start N vs) H s1:=inv_startH S e0 hl r x
 refine wpAny_mono (ht [] s1 (start N vs) H _ I hq) (fun fl s' hs=>?_) fun e s' hs=>hs
 have fin:∀ {σ':St} {H':Hp} {v:V} {u:Value},Inv (cxH CX P w K mg base N qual scope f cdv A outer s H E) [] σ' H' s'->RelV v u->Q v H'->CE outer P w H s Q u s':=
  fun {σ' H' v u} J rv q=>⟨v,H',J.os,J.bare,J.base,J.hok,rv,q⟩
 cases fl with
 | ret u=>
  obtain ⟨v,σ',H',J,rv,q⟩:=hs
  exact fin J rv q
 | next=>
  obtain ⟨σ',H',J,q⟩:=hs
  exact fin (v:=V.non) (u:=Value.none) J rfl q
 | brk=>
  obtain ⟨_,_,_,q⟩:=hs
  exact False.elim q
 | cont=>
  obtain ⟨_,_,_,q⟩:=hs
  exact False.elim q
end L2.L3
namespace L2.L3
open PySem PySem.Spec PyProof.Rows
theorem xok_fnH {P:Program} {w:World} {K:PySem.W.Frag} {mg:Str->Option Value} {base:Heap} {N:List Str} {qual:Str} {scope:Scope} {f:Addr} {cd:Value} {A:Around} {outer:List Env} {s:Shared} {H:Hp} {E:XK} {F:Fx} {E':Str->DEnv->Prop}
  (hG:GF mg F) (hE:∀ c C ρ' σ' H' O',mg c=some C->DSt K F H' σ' ρ' O'->E' c ρ'->E C none H'):XOk (cxH (CXM P w) P w K mg base N qual scope f cd A outer s H E) F E':=by
 refine ⟨hG,?_⟩
 intro pins σ H1 s1 e c ρ O ⟨I,a,C,g,fl,e1,cv,ex,hm⟩ st q
 subst e1
 have fr:(A.deeper (envOfC qual scope s.heap.objs.size f cd)).frames=some (envOfC qual scope s.heap.objs.size f cd :: outer):=I.ok.frames
 have hb:∀ b,s1.heap.get? b=none->H1 b=none:=fun b z=>HOk.some_of I.hok z
 have stk:frs (envOfC qual scope s.heap.objs.size f cd :: outer)=s.heap.objs.size :: frs outer:=rfl
 refine leave_any (base:=base) fr I.stack rfl hb ex fun h' ch ex'=>?_
 have J:=I.ch cv ch
 refine ⟨a,C,H1,rfl,J.os,J.bare,J.base,J.hok,ex'.weak fun b o eb=>cv.s0 b o eb (by intro z; cases z),hE c C ρ σ H1 O hm st q⟩
section
variable {P:Program} {w:World} {K:PySem.W.Frag} {mg:Str->Option Value} {base:Heap} {x qual:Str} {st:Stmt} {f:Addr} {fd:FuncData} {N ps:List Str} {k:Nat} {m:SM}
theorem fn_FH (Fn:Fun K x qual st f fd) (S:FnScope N ps (defScope st)) (hN:ps.length<=N.length)
  (der:∀ (cdv:Value) (A:Around) (outer:List Env) (s:Shared) (H:Hp) (E:XK) (F:Fx) (E':Str->DEnv->Prop),RoomH k (A.deeper (envOfC qual (defScope st) s.heap.objs.size f cdv))->XOk (cxH (CXM P w) P w K mg base N qual (defScope st) f cdv A outer s H E) F E'->
   DSs (cxH (CXM P w) P w K mg base N qual (defScope st) f cdv A outer s H E) F (defBody st) (wpS E' m)):FnOkH P w K mg base (CXM P w) (k + 1) f fd ps (spF K mg (fnM ps.length N.length m)):=by
 obtain ⟨oc,od,kV,doc,pm,an,cdv,ct,osl,rfl,lk,hcd⟩:=Fn.ex
 have hlen:∀ vs H Q E,spF K mg (fnM ps.length N.length m) vs H Q E->vs.length=ps.length:=fun vs H Q E ⟨_,cs,fps,O₀,ha,_,_,q⟩=>by
  rw [ha.len.1]
  unfold fnM at q
  by_cases h:cs.length=ps.length
  ·exact h
  ·rw [if_neg h] at q; exact q.elim
 refine fn_ofH lk hcd S hlen fun A outer s H vs Q E hr hsp=>?_
 have hlv:=hlen vs H Q E hsp
 obtain ⟨gh,cs,fps,O₀,ha,nd,live,q⟩:=hsp
 obtain ⟨l1,l2⟩:=ha.len
 have hlc:cs.length=ps.length:=by omega
 let F:Fx:=⟨H,fps.flatten,O₀,ioAt vs⟩
 have st0:=dst_start (N:=N) ha nd live (by omega)
 have fin:∀ {σ':St} {H':Hp} {ρ':DEnv} {O':List Addr} {fp:List Addr} {outs:List Bx},DSt K (F.plus fp) H' σ' ρ' O'->(∀ a ∈ fp,a ∈ F.A₀\/F.H₀ a=none)->outsOf cs ρ' = some outs->∃ fps',OutsAt H' (fps'.flatten ++ fp ++ O₀) vs cs outs fps'/\Beh H H' fps.flatten (fps'.flatten ++ fp) O₀/\Stp O' H' (fps'.flatten ++ fp ++ O₀) H':=by
  rintro σ' H' ρ' O' fp outs ⟨W,st',rfl⟩ hfp ho
  obtain ⟨fps',o,sb⟩:=exit_go st' cs vs 0 outs l1 (fun i io b e=>ha.ios i io b e) ho
  have sb':fps'.flatten.Sublist W.flatten:=sb
  have sub:(fps'.flatten ++ fp ++ O₀).Sublist (W.flatten ++ (fp ++ O₀)):=by rw [List.append_assoc]; exact List.Sublist.append sb' (List.Sublist.refl _)
  have stp:Stp (W.flatten ++ (fp ++ O₀)) H' (fps'.flatten ++ fp ++ O₀) H':=stp_less fun a h=>sub.subset h
  refine ⟨fps',o.mono stp,⟨st'.nd.sublist sub,fun a h=>st'.live a (sub.subset (List.mem_append_left _ h)),fun b o hb e=>st'.kept b o hb e,fun a h=>?_⟩,stp⟩
  rcases List.mem_append.mp h with h | h
  ·exact st'.new a (sb'.subset h)
  ·exact hfp a h
 have hfn:fnM ps.length N.length m cs=(match m (startD N.length ps.length cs) with
  | .nx ρ=>(match outsOf cs ρ with | some o=>.rt (.dat .none) o | none=>.bad)
  | .rt c ρ=>(match outsOf cs ρ with | some o=>.rt c o | none=>.bad)
  | .ex c ρ=>(match outsOf cs ρ with | some o=>.ex c o | none=>.bad)
  | _=>.bad):=by unfold fnM startD; rw [if_pos hlc] <;> rfl
 rw [hfn] at q
 rw [hlc] at st0
 let E':Str->DEnv->Prop:=fun c ρ'=>∃ outs,outsOf cs ρ' = some outs/\∀ C H' fps',mg c=some C->OutsAt H' (fps'.flatten ++ O₀) vs cs outs fps'->Beh H H' fps.flatten fps'.flatten O₀->E C none H'
 refine ⟨_,der cdv A outer s H E F E' hr (xok_fnH (gh.frame fun a h=>live a (List.mem_append_left _ h)) fun c C ρ' σ' H' O' hm st' ⟨outs,ho,k⟩=>?_),?_⟩
 ·obtain ⟨fps',o,b,_⟩:=fin (fp:=[]) st' (fun a h=>by cases h) ho
  rw [List.append_nil] at o b
  exact k C H' fps' hm o b
 ·refine ⟨startD N.length ps.length cs,_,⟨fun ρ'=>∃ outs,outsOf cs ρ' = some outs/\∀ H' fps',OutsAt H' (fps'.flatten ++ [] ++ O₀) vs cs outs fps'->Beh H H' fps.flatten (fps'.flatten ++ []) O₀->Q .non H',fun c ρ'=>∃ outs,outsOf cs ρ' = some outs/\∀ v H' fp fps',CellAt K H' (fps'.flatten ++ fp ++ O₀) v c fp->OutsAt H' (fps'.flatten ++ fp ++ O₀) vs cs outs fps'->Beh H H' fps.flatten (fps'.flatten ++ fp) O₀->Q v H',fun _=>False,fun _=>False⟩,⟨_,st0,rfl⟩,?_,?_⟩
  ·unfold wpS
   cases hm:m (startD N.length ps.length cs) with
   | nx ρ'=>
    rw [hm] at q
    cases ho:outsOf cs ρ' with
    | none=>simp [ho] at q
    | some outs=>
     simp only [ho] at q
     exact ⟨outs,ho,fun H' fps' o b=>q .non H' [] fps' .non o b⟩
   | rt c ρ'=>
    rw [hm] at q
    cases ho:outsOf cs ρ' with
    | none=>simp [ho] at q
    | some outs=>
     simp only [ho] at q
     exact ⟨outs,ho,q⟩
   | ex c ρ'=>
    rw [hm] at q
    cases ho:outsOf cs ρ' with
    | none=>simp [ho] at q
    | some outs=>
     simp only [ho] at q
     exact ⟨outs,ho,q⟩
   | bk ρ'=>rw [hm] at q; exact q
   | ct ρ'=>rw [hm] at q; exact q
   | bad=>rw [hm] at q; exact q
  ·refine ⟨fun σ' H' ρ' O' st' s' ⟨outs,ho,k⟩=>?_,fun v σ' H' c ρ' O' fp r s' ⟨outs,ho,k⟩=>?_,fun _ _ _ _ _ _ z=>z.elim,fun _ _ _ _ _ _ z=>z.elim⟩
   ·obtain ⟨fps',o,b,_⟩:=fin (fp:=[]) st' (fun a h=>by cases h) ho
    exact k H' fps' o b
   ·obtain ⟨fps',o,b,stp⟩:=fin r.st r.new ho
    exact k v H' fp fps' (r.at_.keep stp (fun _ _=>rfl) (fun _ _ _ e=>e)) o b
end
section
variable {X:Cx} {F:Fx} {e:Expr} {es:List Expr} {tX:DTX} {E:Str->DEnv->Prop} {pos p:Pos} {x:Str} {f:FM} {k:Nat} {g:Addr} {fd:FuncData} {ps:List Str}
theorem call_onH {pins:List (Addr × Obj)} {σ:St} {H:Hp} {s:Shared} {Q:VK} {us:List Value} {vs:List V} {as:List AX} {ρ:DEnv} {O:List Addr} {QC:Cell->DEnv->Prop} (hx:XOk X F E) (G:FnOkH X.prog X.w X.K X.mg X.base (CXM X.prog X.w) k g fd ps (spF X.K X.mg f)) (hr:RoomH k X.A) (hb:Binds X.K fd ps [])
  (I:Inv X pins σ H s) (r:Vals vs us) (st:DSt X.K F H σ ρ O) (ax:AxAt σ (hide O H) vs as) (q:callOn f E QC as ρ) (hQ:∀ c ρ',QC c ρ'->∀ v H' O' fp,Res X.K F H' σ ρ' O' v c fp->Stp O H O' H'->Q v H') :
  wpAny (model X.prog X.w) X.A (call (.ref g) us) (EP X pins σ Q) X.xe s:=by
 unfold callOn at q
 cases hc:argCells ρ as with
 | none=>rw [hc] at q; exact q.elim
 | some p=>
  obtain ⟨cs,js⟩:=p
  rw [hc] at q
  simp only at q
  obtain ⟨fps,O2,st2,ar,s1,s1',nw,ja⟩:=take_all st as vs cs js hc ax
  obtain ⟨W,stw,hO2⟩:=id st2
  have ndO:(W.flatten ++ (fps.flatten ++ F.O₀)).Nodup:=stw.nd
  have memO:∀ a,a ∈ O2 ↔ a ∈ fps.flatten ++ (W.flatten ++ F.O₀):=fun a=>by
   rw [hO2]
   show a ∈ W.flatten ++ (fps.flatten ++ F.O₀) ↔ _
   simp only [List.mem_append]
   constructor
   ·rintro (h | h | h) <;> simp [h]
   ·rintro (h | h | h) <;> simp [h]
  have perm:(fps.flatten ++ (W.flatten ++ F.O₀)).Perm (W.flatten ++ (fps.flatten ++ F.O₀)):=by
   rw [<-List.append_assoc,<-List.append_assoc]
   exact List.Perm.append_right _ List.perm_append_comm
  have nd1:(fps.flatten ++ (W.flatten ++ F.O₀)).Nodup:=perm.nodup_iff.mpr ndO
  have stE:Stp O2 H (fps.flatten ++ (W.flatten ++ F.O₀)) H:=stp_less fun a h=>(memO a).mpr h
  have back2:∀ (H':Hp) (L':List Addr) (a:Addr),(a ∈ L' ++ (W.flatten ++ F.O₀))->a ∈ L'\/(a ∈ O2/\a ∉ fps.flatten):=fun H' L' a h=>by
   rcases List.mem_append.mp h with h | h
   ·exact .inl h
   ·refine .inr ⟨(memO a).mpr (List.mem_append_right _ h),fun z=>?_⟩
    exact (List.nodup_append.mp nd1).2.2 a z a h rfl
  have swapped:∀ (H':Hp) (L':List Addr),Beh H H' fps.flatten L' (W.flatten ++ F.O₀)->∃ O3,DSt X.K (F.plus L') H' σ (clr js ρ) O3/\Stp O2 H O3 H'/\∀ a,a ∈ O3 ↔ a ∈ L' ++ (W.flatten ++ F.O₀):=fun H' L' bh=>by
   obtain ⟨O3,t1,t2,t3,t4,t5⟩:=st2.swap (H':=H') (L':=L') bh.keep (List.nodup_append.mp bh.nd).1 bh.new nw bh.live
   refine ⟨O3,t1,t2,fun a=>⟨fun h=>?_,fun h=>?_⟩⟩
   ·rcases t4 a h with z | ⟨z1,z2⟩
    ·exact List.mem_append_left _ z
    ·rcases List.mem_append.mp ((memO a).mp z1) with z | z
     ·exact absurd z z2
     ·exact List.mem_append_right _ z
   ·rcases back2 H' L' a h with z | ⟨z1,z2⟩
    ·exact t3 a z
    ·exact t5 a z1 z2
  have r2:Vals (vs ++ []) (us ++ []):=by rw [List.append_nil,List.append_nil]; exact r
  let EX:XK:=fun C _ H'=>∃ c ρ' O',X.mg c=some C/\DSt X.K F H' σ ρ' O'/\E c ρ'
  have sp:spF X.K X.mg f vs H Q EX:=by
   refine ⟨hx.1.at st,cs,fps,W.flatten ++ F.O₀,ar.mono stE,nd1,fun a h=>?_,?_⟩
   ·exact stw.live a (by have:=(memO a).mpr h; rw [hO2] at this; exact this)
   ·cases hf:f cs with
    | bad=>rw [hf] at q; exact q
    | rt c outs=>
     rw [hf] at q
     simp only at q ⊢
     intro v H' fp fps' hca hou bh
     obtain ⟨O3,t1,t2,t3⟩:=swapped H' (fps'.flatten ++ fp) bh
     have eq3:Stp (fps'.flatten ++ fp ++ (W.flatten ++ F.O₀)) H' O3 H':=stp_less fun a h=>(t3 a).mp h
     have nwo:∀ a ∈ fps'.flatten ++ fp,a ∈ F.A₀\/F.H₀ a=none:=fun a h=>by
      rcases bh.new a h with z | z
      ·exact nw a z
      ·by_cases hA:a ∈ F.A₀
       ·exact .inl hA
       ·refine .inr ?_
        cases e:F.H₀ a with
        | none=>rfl
        | some o=>have:=stw.kept a o hA e; rw [z] at this; cases this
     have lj:(clr js ρ).length=ρ.length:=clr_len
     obtain ⟨O4,u1,u2⟩:=give_all (fp:=fp) ja lj t1 (hou.mono eq3) fun a h=>nwo a (List.mem_append_left _ h)
     exact hQ c _ q v H' O4 fp ⟨u1,hca.keep (eq3.trans u2) (fun _ _=>rfl) (fun _ _ _ e=>e),fun a h=>nwo a (List.mem_append_right _ h)⟩ (s1.trans (t2.trans u2))
    | ex c outs=>
     rw [hf] at q
     simp only at q ⊢
     intro C H' fps' hm hou bh
     obtain ⟨O3,t1,t2,t3⟩:=swapped H' fps'.flatten bh
     have eq3:Stp (fps'.flatten ++ (W.flatten ++ F.O₀)) H' O3 H':=stp_less fun a h=>(t3 a).mp h
     have nwo:∀ a ∈ fps'.flatten,a ∈ F.A₀\/F.H₀ a=none:=fun a h=>by
      rcases bh.new a h with z | z
      ·exact nw a z
      ·by_cases hA:a ∈ F.A₀
       ·exact .inl hA
       ·refine .inr ?_
        cases e:F.H₀ a with
        | none=>rfl
        | some o=>have:=stw.kept a o hA e; rw [z] at this; cases this
     have lj:(clr js ρ).length=ρ.length:=clr_len
     obtain ⟨O4,u1,u2⟩:=give_all (fp:=[]) ja lj (by rw [List.append_nil]; exact t1) (hou.mono eq3) nwo
     exact ⟨c,_,O4,hm,u1,q⟩
  have hl:(us ++ []).length=ps.length:=by rw [List.append_nil,<-r.length]; exact G.len _ _ _ _ sp
  refine wpAny_call (codeAny_mono (G.run X.A X.stack s H ⟨us,[]⟩ us vs Q EX hr I.env0 (by have:=hb s us I.kIn hl; rw [List.append_nil] at this; exact this) r sp) fun r s' hq=>?_)
  cases r with
  | error e=>
   obtain ⟨a,C,H',e1,I',cv,ex,c,ρ',O',hm,st',hE⟩:=I.flies hq
   exact hx.2 pins σ H' s' e c ρ' O' ⟨I',a,C,s.heap,_,e1,cv,ex,hm⟩ st' hE
  | ok fl=>
   cases fl with
   | ret u=>exact I.after hq
   | next=>exact False.elim hq
   | brk=>exact False.elim hq
   | cont=>exact False.elim hq
theorem do_callH (hx:XOk X F E) (G:FnOkH X.prog X.w X.K X.mg X.base (CXM X.prog X.w) k g fd ps (spF X.K X.mg f)) (hr:RoomH k X.A) (hg:Gl X x) (hm:X.mg x=some (.ref g)) (hk:PySem.W.keepIn X.K (.ref g)=true) (hb:Binds X.K fd ps [])
  (ha:DX X F (e :: es) tX) (hdb:(x == ("__debug__":Str))=false:=by decide) (he:starEach (e :: es) X.env=(false,eval e X.env) :: starEach es X.env:=by rfl) (hpl:(backTo pos (starEach es X.env)).any (·.1)=false:=by rfl) :
  DO X F (.Call (.Name x p) (e :: es) [] pos) (dCall f E tX):=by
 refine ⟨fun ρ Q Q' k q=>ha.mn _ _ _ (fun as ρ1 q1=>callOn_mn k q1) q,fun pins s σ H Q I ⟨ρ,O,st,q⟩=>?_⟩
 refine wpAny_Call_Name_kw (ld_glob I hg hm ?_ hdb)
 refine PySem.W.callWith_K (h₀:=X.base) I.ok.mod.kin hk (thn (ha.pa pos pins s σ H (fun vs H1=>∃ as ρ1 O1,DSt X.K F H1 σ ρ1 O1/\Stp O H O1 H1/\AxAt σ (hide O1 H1) vs as/\callOn f E (fun c ρ'=>∀ v H' O' fp,Res X.K F H' σ ρ' O' v c fp->Stp O H O' H'->Q v H') as ρ1) I ⟨ρ,O,st,ha.mn _ _ _ (fun as ρ1 q1 vs H1 O1 st1 s1 ax=>⟨as,ρ1,O1,st1,s1,ax,q1⟩) q⟩) fun us s1 ⟨vs,H1,I1,r,as,ρ1,O1,st1,s01,ax,q1⟩=>⟨I1.kIn,?_⟩) he hpl
 exact call_onH hx G hr hb I1 r st1 ax q1 fun c ρ' h v H' O' fp res s2=>h v H' O' fp res (s01.trans s2)
end
end L2.L3
namespace L2.L3
open PySem PySem.Spec PyProof.Rows Builtin Builtin.ObjectAttr Builtin.Getset_descriptor
section
variable {prog:Program} {w:World} {A:Around} {E:Value->Shared->Prop} {K:PySem.W.Frag} {h:Heap} {g:Array GenState} {d:Drawn} {t:Nat} {os:OsState} {a C:Addr} {o:Obj}
theorem exc_class {Q:Option Value->Shared->Prop} (X:K.In h) (hx:h.get? a=some o) (hc:o.cls=.ref C) (f1:PySem.W.findIn K (.ref C) "__getattribute__" = some (some (.builtin "BaseException.__getattribute__")))
  (f2:PySem.W.findIn K (.ref C) "__class__" = some (some (.builtin "object.__class__"))) (f3:PySem.W.findIn K (.ref C) "__getattr__" = some none) (f4:PySem.W.mroIn K C (.type "BaseException")=some true) (f5:PySem.W.mroIn K C (.type "object")=some true)
  (hq:Q (some (.ref C)) ⟨h,g,d,t + 1,os⟩):wpAny (model prog w) A (getAttr? (.ref a) "__class__") Q E ⟨h,g,d,t,os⟩:=by
 have L0:PySem.W.Looks (model prog w) h (typeOf (.ref a)) (.ref C):=hc ▸ (PySem.W.Looks.ld hx).andThen .now
 have L1:=PySem.W.looks_findIn (M:=model prog w) X f1
 have L2:=PySem.W.looks_findIn (M:=model prog w) X f3
 have L3:=PySem.W.looks_findIn (M:=model prog w) X f2
 have L4:=PySem.W.looks_mroIn (M:=model prog w) X f4
 have L5:=PySem.W.looks_mroIn (M:=model prog w) X f5
 have g3:=F.attrBase_ValueError.ga.bind (.ref a)
 unfold getAttr? getAttrBy? getAttrBy; refine wpAny_bind (wpAny_mkText (wpAny_bind (wpAny_attempt (wpAny_holding (wpAny_bind (L0.at (wpAny_bind (L1.at ?_))))))))
 show wpAny _ _ (getAttrByItsOwn _ _ _ _ _ _) _ _ _
 unfold getAttrByItsOwn
 repeat (any_goals (first | assumption | with_reducible refine L0.at ?_ | with_reducible refine L2.at ?_ | wp_step))
 refine codeAny_call_builtin F.attrBase_ValueError.ga.plain F.entry_bexc_ga ?_
 have k1:builtinKind "BaseException.__getattribute__" = some .slot:=by decide +kernel
 have k2:splitId "BaseException.__getattribute__" = some ("BaseException","__getattribute__"):=by decide +kernel
 have k3:=F.args_bexc_ga (.ref a) (.str "__class__" t)
 simp only [checkBuiltinCall,k1,k2]; refine wpAny_bind ?_
 unfold isInstance
 repeat (any_goals (first | assumption | with_reducible refine L0.at ?_ | with_reducible refine L4.at ?_ | wp_step))
 have k4:typeOf (.builtin "object.__class__")=pure (.type "getset_descriptor"):=PySem.W.KF.type_class
 have k6:=F.slot_gs_get.lookup
 have k7:=F.slot_gs_set.lookup
 repeat (any_goals (first | assumption | with_reducible refine L0.at ?_ | with_reducible refine L3.at ?_ | wp_step))
 refine codeAny_call_builtin PySem.W.KF.slot_gs.plain PySem.W.KF.entry_gs (PySem.W.KF.slot_gs.check _ _ _ _ _ _ _ _ PySem.W.KF.type_class (PySem.W.KF.args_gs _ _ _) ?_)
 unfold Builtin.«getset_descriptor.__get__» descrGet; rw [PySem.W.dga_obj]; refine wpAny_bind (wpAny_pure ?_)
 unfold descrGetter descrCheckInstance descrNameAndClass isInstance; simp only [PySem.W.KF.owner_class]
 repeat (any_goals (first | assumption | with_reducible refine L0.at ?_ | with_reducible refine L5.at ?_ | wp_step))
 refine ⟨Code.quiet_builtin _ (by decide +kernel),codeAny_builtin PySem.W.KF.entry_class ?_⟩
 unfold Builtin.«object.__class__» PySem.shownTypeOf
 repeat (any_goals (first | assumption | with_reducible refine L0.at ?_ | with_reducible refine L5.at ?_ | wp_step))
theorem kitx_exc (f:attrOk K C=true) (hc:(PySem.W.clsIn K C).isSome=true):PySem.W.KitX K (.ref a) (.ref C) (fun h=>∃ o,h.get? a=some o/\o.cls=.ref C):=by
 unfold attrOk at f
 simp only [Bool.and_eq_true,beq_iff_eq] at f
 obtain ⟨⟨⟨⟨f1,f2⟩,f3⟩,f4⟩,f5⟩:=f
 obtain ⟨cd,hcd⟩:=Option.isSome_iff_exists.mp hc
 unfold PySem.W.clsIn at hcd
 split at hcd
 ·rename_i o1 o2 o3 o4 ho
  refine ⟨fun M h X ⟨o,p1,p2⟩=>p2 ▸ (PySem.W.Looks.ld p1).andThen .now,fun M h X _=>?_,fun h tp dd its n sl X htp=>?_,fun {prog w A E Q s} X ⟨o,p1,p2⟩ k=>?_⟩
  ·intro A' Q' E' s' k q; unfold isType loadHead; exact wpAny_bind (wpAny_loadPart (k _ _ (X _ _ ho)) (wpAny_pure q))
  ·refine Bool.eq_false_iff.mpr fun q=>?_
   have e:C=tp:=Value.ref.inj (beq_iff_eq.mp q)
   subst e
   have zz:=(X _ _ ho).symm.trans htp
   cases zz
  ·obtain ⟨hh,g,d,t,os⟩:=s
   exact exc_class X p1 p2 f1 f2 f3 f4 f5 k
 ·cases hcd
end
end L2.L3
namespace L2.L3
open PySem PySem.Spec PyProof.Rows
noncomputable def vOf:Value->V
 | .bool b=>.bl b
 | .int i _=>.int i
 | .str x _=>.str x
 | _=>.non
theorem vOf_eq {v:V} {z:Value} (r:RelV v z) (f:flatV v=true):vOf z=v:=by
 cases v with
 | non=>cases r; rfl
 | bl b=>cases r; rfl
 | int i=>obtain ⟨t,rfl⟩:=r; rfl
 | str i=>obtain ⟨t,rfl⟩:=r; rfl
 | _=>cases f
theorem vals_eq {A:Around} {s:Shared} {y:V} {u:Value} (ry:RelV y u) (fy:flatV y=true):∀ {xs:List V} {its:List Value},Vals xs its->xs.all flatV=true->(∀ z ∈ its,SeqAt.EqAt A s z u (eqV (vOf z) y))/\its.map vOf=xs
 | _,_,.nil,_=>⟨(fun _ h=>nomatch h),rfl⟩
 | _,_,.cons h t,fl=>by
  rw [List.all_cons,Bool.and_eq_true] at fl
  obtain ⟨h1,h2⟩:=vals_eq (A:=A) (s:=s) ry fy t fl.2
  refine ⟨fun z hz=>?_,?_⟩
  ·rcases List.mem_cons.mp hz with rfl | hz
   ·rw [vOf_eq h fl.1]; exact eqAt_V h ry fl.1 fy
   ·exact h1 z hz
  ·rw [List.map_cons,h2,vOf_eq h fl.1]
section
variable {X:Cx} {F:Fx} {E:Str->DEnv->Prop} {e a b c:Expr} {es:List Expr} {st:Stmt} {rest:List Stmt} {pos:Pos} {x:Str}
noncomputable def rCount:V->List V->Hp->VK->Prop:=fun x vs H Q=>∃ l xs y,x=.ref l/\vs=[y]/\H l=some (.lst xs)/\xs.all flatV=true/\flatV y=true/\Q (.int (xs.countP fun z=>eqV z y:Nat)) H
theorem mt_count:MtR X "list.count" rCount:=by
 intro pins s σ H x vs v us Q I rx rv h
 obtain ⟨l,xs,y,rfl,rfl,hH,fl,fy,q⟩:=h
 cases rx
 obtain ⟨u,rfl,ru⟩:=rv.one
 obtain ⟨z,its,n,r,hl,e⟩:=I.lstM hH
 obtain ⟨h1,h2⟩:=vals_eq (A:=X.A.in1) (s:=s) ru fy r fl
 refine call_meets F.slot_list_count ⟨_,e,rfl⟩ F.entry_list_count (F.args_list_count_2 _ _) (SeqAt.list_countAt l its.toArray n none #[] u fun z=>eqV (vOf z) y) ⟨e,fun z hz=>h1 z (by simpa using hz),?_⟩
 refine ⟨.int _,H,I.tok _,⟨_,rfl⟩,?_⟩
 have:its.countP (fun z=>eqV (vOf z) y)=xs.countP fun z=>eqV z y:=by rw [<-h2,List.countP_map]; rfl
 rw [this]
 exact q
noncomputable def rIndex:V->List V->Hp->VK->Prop:=fun x vs H Q=>∃ l xs y,x=.ref l/\vs=[y]/\H l=some (.lst xs)/\xs.all flatV=true/\flatV y=true/\(xs.findIdx fun z=>eqV z y) < xs.length/\Q (.int (xs.findIdx fun z=>eqV z y:Nat)) H
theorem mt_index:MtR X "list.index" rIndex:=by
 intro pins s σ H x vs v us Q I rx rv h
 obtain ⟨l,xs,y,rfl,rfl,hH,fl,fy,hlt,q⟩:=h
 cases rx
 obtain ⟨u,rfl,ru⟩:=rv.one
 obtain ⟨z,its,n,r,hl,e⟩:=I.lstM hH
 obtain ⟨h1,h2⟩:=vals_eq (A:=X.A.in1) (s:=s) ru fy r fl
 have gt:∀ m (hm:m < its.length),eqV (vOf its[m]) y=eqV (xs[m]'(by omega)) y:=fun m hm=>by
  have:xs[m]'(by omega)=vOf its[m]:=by subst h2; simp
  rw [this]
 have big:((xs.findIdx fun z=>eqV z y:Nat):Int) < 2 ^ 63 - 1:=by
  have:sizeLine < 2 ^ 62:=by decide
  omega
 refine call_meets F.slot_list_index ⟨_,e,rfl⟩ F.entry_list_index (F.args_list_index_2 _ _) (SeqAt.list_indexAt l its.toArray n none #[] u (fun z=>eqV (vOf z) y) (xs.findIdx fun z=>eqV z y) (by rw [List.size_toArray]; omega) big ?_ ?_) ⟨e,fun z hz=>h1 z (by simpa using hz),?_⟩
 ·show eqV (vOf its[xs.findIdx fun z=>eqV z y]) y=true
  rw [gt _ (by omega)]
  exact List.findIdx_getElem (w:=hlt)
 ·intro m hm h
  have hm':m < its.length:=by simpa using hm
  show eqV (vOf its[m]) y=false
  rw [gt m hm']
  have:=List.not_of_lt_findIdx h
  simpa using this
 ·exact ⟨.int _,H,I.tok _,⟨_,rfl⟩,q⟩
@[simp] noncomputable def lstC:Cell->Option (List PyData)
 | .dat (.list ds)=>some ds
 | .own _ (.l ds)=>some ds
 | _=>none
@[simp] noncomputable def asL (ρ:DEnv) (i:Nat):Option (List PyData):=match ρ[i]? with
 | some (some c)=>lstC c
 | _=>none
theorem asL_at {K:PySem.W.Frag} {H:Hp} {σ:St} {ρ:DEnv} {O:List Addr} {i:Nat} {ds:List PyData} (st:DSt K F H σ ρ O) (h:asL ρ i=some ds):∃ p vs,σ[i]? = some (some (.ref p))/\H p=some (.lst vs)/\DVs (hide O H) vs ds:=by
 unfold asL at h
 split at h
 ·rename_i c e
  unfold lstC at h
  split at h
  ·cases h
   obtain ⟨v,hv,hd⟩:=st.dat e
   obtain ⟨p,xs,rfl,hp,hx⟩:=hd.lst_inv
   exact ⟨p,xs,hv,(of_hide hp).1,hx⟩
  ·cases h
   obtain ⟨p,fp,hv,⟨_,xs,hH,hx⟩,_⟩:=st.box e
   exact ⟨p,xs,hv,hH,hx⟩
  ·cases h
 ·cases h
@[simp] noncomputable def flatD:PyData->Option V
 | .none=>some .non
 | .bool b=>some (.bl b)
 | .int i=>some (.int i)
 | .str x=>some (.str x)
 | _=>none
@[simp] noncomputable def flatDs:List PyData->Option (List V)
 | []=>some []
 | d :: r=>(match flatD d,flatDs r with | some v,some l=>some (v :: l) | _,_=>none)
theorem flatD_v {G:Hp} {v w:V} {d:PyData} (h:DV G v d) (e:flatD d=some w):v=w/\flatV v=true:=by
 cases d with
 | none=>cases e; rw [h.non_inv]; exact ⟨rfl,rfl⟩
 | bool b=>cases e; rw [h.bl_inv]; exact ⟨rfl,rfl⟩
 | int b=>cases e; rw [h.int_inv]; exact ⟨rfl,rfl⟩
 | str b=>cases e; rw [h.str_inv]; exact ⟨rfl,rfl⟩
 | _=>cases e
theorem flatDs_v {G:Hp}:∀ {vs ws:List V} {ds:List PyData},DVs G vs ds->flatDs ds=some ws->vs=ws/\vs.all flatV=true
 | [],_,[],.nil,e=>by cases e; exact ⟨rfl,rfl⟩
 | v :: vs,_,d :: ds,.cons h t,e=>by
  unfold flatDs at e
  cases h1:flatD d with
  | none=>rw [h1] at e; cases e
  | some w=>
   cases h2:flatDs ds with
   | none=>rw [h1,h2] at e; cases e
   | some l=>
    rw [h1,h2] at e
    cases e
    obtain ⟨e1,f1⟩:=flatD_v h h1
    obtain ⟨e2,f2⟩:=flatDs_v t h2
    exact ⟨by rw [e1,e2],by rw [List.all_cons,f1,f2]; rfl⟩
@[simp] noncomputable def cntD (ds:List PyData) (y:PyData):Option PyData:=match flatDs ds,flatD y with
 | some ws,some w=>some (.int (ws.countP fun z=>eqV z w:Nat))
 | _,_=>none
@[simp] noncomputable def ixD (ds:List PyData) (y:PyData):Option PyData:=match flatDs ds,flatD y with
 | some ws,some w=>if (ws.findIdx fun z=>eqV z w) < ws.length then some (.int (ws.findIdx fun z=>eqV z w:Nat)) else none
 | _,_=>none
@[simp] noncomputable def mtK (g:List PyData->PyData->Option PyData) (i:Nat) (d:PyData):XM PyData:=fun ρ=>lift (match asL ρ i with
 | some ds=>g ds d
 | none=>none) ρ
@[simp] noncomputable def xMt (g:List PyData->PyData->Option PyData) (i:Nat) (m:XM PyData):XM PyData:=fun ρ=>match asL ρ i with
 | some _=>(m ρ).bind (mtK g i)
 | none=>.bad
theorem fe_mt {i:Nat} {m:XM PyData} {p1 apos cpos:Pos} {nm:Str} {id:String} {r:V->List V->Hp->VK->Prop} {g:List PyData->PyData->Option PyData} (slot:Slot "list" nm id) (hty:typeOf (.builtin id)=pure (.type "method_descriptor")) (hm:MtR X id r)
  (hg:∀ G l xs ds y d z H Q,H l=some (.lst xs)->DVs G xs ds->DV G y d->g ds d=some z->(∀ u,DV G u z->Q u H)->r (.ref l) [y] H Q)
  (hv:PE X (.Name x p1) (tVar i)) (he:FE X F E e m)
  (hbase:attributeBase (.Name x p1) nm X.env (eval (.Name x p1) X.env)=eval (.Name x p1) X.env:=by rfl)
  (hfew:((backTo cpos (starEach [e] X.env)).all (fun x=>!x.1) && (backToKw cpos (keywordEach [] X.env)).all (fun x=>x.1.isSome) && decide (([e]:List Expr).length + ([]:List Keyword).length + (if ([]:List Keyword).isEmpty then 0 else 1) < 30))=true:=by rfl)
  (hline:(apos.endLine == cpos.line)=true:=by rfl) (hs:starEach [e] X.env=(false,eval e X.env) :: starEach [] X.env:=by rfl) (hplain:(backTo cpos (starEach [] X.env)).any (·.1)=false:=by rfl) :
  FE X F E (.Call (.Attribute (.Name x p1) nm apos) [e] [] cpos) (xMt g i m):=
 ⟨mn_wp,(pe_bm PySem.F.plainAttrs_list slot hty hm hv (pa_cons he.pe pa_nil hs) hbase hfew hline hs hplain).imp fun σ H Q ⟨ρ,O,st,q⟩=>by
  unfold wp xMt at q
  cases h0:asL ρ i with
  | none=>rw [h0] at q; exact q.elim
  | some ds0=>
   rw [h0] at q
   obtain ⟨p,vs0,hv0,hH0,_⟩:=asL_at st h0
   refine ⟨_,hv0,.inl ⟨rfl,vs0,.of hH0⟩,ρ,O,st,mn_wp _ _ _ (fun d ρ1 q1 w H1 O1 st1 s1 d1=>?_) (wp_bind (m:=m) (k:=mtK g i) q)⟩
   obtain ⟨z,e1,q2⟩:=wp_lift (o:=match asL ρ1 i with | some ds=>g ds d | none=>none) (ρ:=ρ1) (E:=E) q1
   cases h1:asL ρ1 i with
   | none=>rw [h1] at e1; cases e1
   | some ds1=>
    rw [h1] at e1
    obtain ⟨p',vs1,hv1,hH1,hd1⟩:=asL_at st1 h1
    rw [hv0] at hv1
    cases hv1
    exact hg _ _ _ _ _ _ _ _ _ hH1 hd1 d1 e1 fun u hu=>q2 u H1 O1 st1 s1 hu⟩
theorem cnt_ok:∀ G l xs ds y d z H Q,H l=some (.lst xs)->DVs G xs ds->DV G y d->cntD ds d=some z->(∀ u,DV G u z->Q u H)->rCount (.ref l) [y] H Q:=fun G l xs ds y d z H Q hH hx hy e q=>by
 unfold cntD at e
 split at e
 ·rename_i ws w h1 h2
  cases e
  obtain ⟨rfl,f1⟩:=flatDs_v hx h1
  obtain ⟨rfl,f2⟩:=flatD_v hy h2
  exact ⟨l,xs,y,rfl,rfl,hH,f1,f2,q _ (.int _)⟩
 ·cases e
theorem ix_ok:∀ G l xs ds y d z H Q,H l=some (.lst xs)->DVs G xs ds->DV G y d->ixD ds d=some z->(∀ u,DV G u z->Q u H)->rIndex (.ref l) [y] H Q:=fun G l xs ds y d z H Q hH hx hy e q=>by
 unfold ixD at e
 split at e
 ·rename_i ws w h1 h2
  split at e
  ·rename_i hl
   cases e
   obtain ⟨rfl,f1⟩:=flatDs_v hx h1
   obtain ⟨rfl,f2⟩:=flatD_v hy h2
   exact ⟨l,xs,y,rfl,rfl,hH,f1,f2,hl,q _ (.int _)⟩
  ·cases e
 ·cases e
end
end L2.L3
namespace L2.L3
open PySem PySem.Spec PyProof.Rows
section
variable {X:Cx} {F:Fx} {E:Str->DEnv->Prop} {e a b c:Expr} {es:List Expr} {st:Stmt} {rest:List Stmt} {pos:Pos} {x:Str}
@[simp] noncomputable def asO (ρ:DEnv) (i:Nat):Option (Bool × List PyData):=match ρ[i]? with
 | some (some (.own io (.l ds)))=>some (io,ds)
 | _=>none
theorem asO_at {ρ:DEnv} {i:Nat} {io:Bool} {ds:List PyData} (h:asO ρ i=some (io,ds)):ρ[i]? = some (some (.own io (.l ds))):=by
 unfold asO at h
 split at h
 ·rename_i e; cases h; exact e
 ·cases h
@[simp] noncomputable def extK (i:Nat) (d:PyData):SM:=fun ρ1=>match asO ρ1 i,d with
 | some (io,ds),.list zs=>if ds.length + zs.length<=sizeLine then .nx (ρ1.set i (some (.own io (.l (ds ++ zs))))) else .bad
 | _,_=>.bad
@[simp] noncomputable def sExt (i:Nat) (m:XM PyData):SM:=fun ρ=>match asO ρ i with
 | some _=>ofX (m ρ) (extK i)
 | none=>.bad
theorem fs_ext {i:Nat} {m:XM PyData} {p1 apos cpos:Pos} (hv:PE X (.Name x p1) (tVar i)) (he:FE X F E e m) (hsw:swapsWith (.Call (.Attribute (.Name x p1) "extend" apos) [e] [] cpos) none pos.line X.env=pure false:=by rfl)
  (hbase:attributeBase (.Name x p1) "extend" X.env (eval (.Name x p1) X.env)=eval (.Name x p1) X.env:=by rfl)
  (hfew:((backTo cpos (starEach [e] X.env)).all (fun x=>!x.1) && (backToKw cpos (keywordEach [] X.env)).all (fun x=>x.1.isSome) && decide (([e]:List Expr).length + ([]:List Keyword).length + (if ([]:List Keyword).isEmpty then 0 else 1) < 30))=true:=by rfl)
  (hline:(apos.endLine == cpos.line)=true:=by rfl) (hs:starEach [e] X.env=(false,eval e X.env) :: starEach [] X.env:=by rfl) (hplain:(backTo cpos (starEach [] X.env)).any (·.1)=false:=by rfl) :
  FS X F E (.Expr (.Call (.Attribute (.Name x p1) "extend" apos) [e] [] cpos) pos) (sExt i m):=
 (ps_expr (pe_bm PySem.F.plainAttrs_list PySem.F.slot_list_extend PySem.F.type_list_extend mt_extend hv (pa_cons he.pe pa_nil hs) hbase hfew hline hs hplain) hsw).imp fun D σ H ⟨ρ,O,DD,st,q,f⟩=>by
  unfold wpS sExt at q
  cases h0:asO ρ i with
  | none=>rw [h0] at q; exact q.elim
  | some p0=>
   obtain ⟨io0,ds0⟩:=p0
   rw [h0] at q
   obtain ⟨p,fp,hv0,⟨_,xs,hH,_⟩,_,_⟩:=st.box (asO_at h0)
   refine ⟨_,hv0,.inl ⟨rfl,xs,.of hH⟩,ρ,O,st,mn_wp _ _ _ (fun d ρ1 q1 w H1 O1 st1 s1 d1=>?_) (wpS_ofX (m:=m) (k:=extK i) q)⟩
   unfold wpS extK at q1
   cases h1:asO ρ1 i with
   | none=>rw [h1] at q1; exact q1.elim
   | some p1=>
    obtain ⟨io1,ds1⟩:=p1
    rw [h1] at q1
    cases d with
    | list zs=>
     simp only at q1
     obtain ⟨p',fp',hv1,⟨e1,ys,hH1,hd⟩,hO,up⟩:=st1.box (asO_at h1)
     rw [hv0] at hv1; cases hv1
     subst e1
     obtain ⟨b,ws,rfl,hb,hws⟩:=d1.lst_inv
     by_cases hz:ds1.length + zs.length<=sizeLine
     ·rw [if_pos hz] at q1
      refine ⟨p,b,ys,ws,rfl,rfl,hH1,(of_hide hb).1,by rw [hd.length,hws.length]; exact hz,?_⟩
      obtain ⟨O2,st2,s2,_⟩:=up (upd H1 p (.lst (ys ++ ws))) (.l (ds1 ++ zs)) [p] (fun c o hc e=>by rw [upd_ne (by simpa using hc)]; exact e) (by simp) (fun c hc=>.inl hc) (fun G O' s hG _=>by
       subst hG
       exact ⟨s.hid,rfl,ys ++ ws,upd_same,(DVs.mono s.hid hd).append (DVs.mono s.hid hws)⟩)
      exact f.nx _ _ _ _ st2 (s1.trans s2) q1
     ·rw [if_neg hz] at q1; exact q1.elim
    | _=>exact q1.elim
noncomputable def rIsX (K:PySem.W.Frag):List V->Hp->VK->Prop:=fun xs H Q=>∃ a φ C w b,xs=[.ref a,w]/\H a=some (.ext φ)/\(∀ h,φ h->∃ o,h.get? a=some o/\o.cls=.ref C)/\attrOk K C=true/\(PySem.W.clsIn K C).isSome=true/\(∀ u,RelV w u->PySem.W.kitOne K (.ref C) u=some b)/\Q (.bl b) H
theorem call_isX:CallR X (.builtin "isinstance") (rIsX X.K):=by
 intro pins s σ H xs us Q I r h
 obtain ⟨a,φ,C,w,b,rfl,hH,hφ,at_,cl,e,q⟩:=h
 obtain ⟨u,w',rfl,r1,r2⟩:=vals2 r
 cases r1
 obtain ⟨p,_,_⟩:=(show ObjOk X.prog X.w H s.heap a (.ext φ) from I.hok a _ hH)
 exact PySem.W.kia_one (kitx_exc at_ cl) I.kIn (hφ _ p) (e _ r2) (fun z=>nomatch z) fun tk=>⟨.bl b,H,I.tok tk,rfl,q⟩
theorem cls_of_exc {K:PySem.W.Frag} {C:Addr} {l:List Value} {n:String} (h:PySem.W.excIn K C l n=true):(PySem.W.clsIn K C).isSome=true:=by
 unfold PySem.W.excIn at h
 unfold PySem.W.clsIn
 split at h
 ·rename_i e; rw [e]; rfl
 ·cases h
@[simp] noncomputable def asX (ρ:DEnv) (i:Nat):Option Str:=match ρ[i]? with
 | some (some (.exc c))=>some c
 | _=>none
theorem asX_at {ρ:DEnv} {i:Nat} {c:Str} (h:asX ρ i=some c):ρ[i]? = some (some (.exc c)):=by
 unfold asX at h
 split at h
 ·rename_i e; cases h; exact e
 ·cases h
@[simp] noncomputable def xIsX (i:Nat) (l:List Str) (cls:Str):XM PyData:=fun ρ=>match asX ρ i with
 | some c=>if c ∈ l/\cls ∈ l then .ok (.bool (c == cls)) ρ else .bad
 | none=>.bad
@[simp] noncomputable def xIsV (i:Nat) (l:List Str):XM PyData:=fun ρ=>match asX ρ i with
 | some c=>if c ∈ l then .ok (.bool true) ρ else .bad
 | none=>.bad
theorem st_exc {K:PySem.W.Frag} {mg:Str->Option Value} {H:Hp} {σ:St} {ρ:DEnv} {O:List Addr} {i:Nat} {c:Str} {C:Addr} (st:DSt K F H σ ρ O) (h:ρ[i]? = some (some (.exc c))) (ec:EC K mg c C):∃ a φ,σ[i]? = some (some (.ref a))/\H a=some (.ext φ)/\∀ h,φ h->∃ o,h.get? a=some o/\o.cls=.ref C:=by
 obtain ⟨W,h',rfl⟩:=st
 obtain ⟨v,fp,h1,h2,a,φ,rfl,h3,h4⟩:=h'.at_ i _ h
 refine ⟨a,φ,h1,(of_hide h3).1,fun h p=>?_⟩
 obtain ⟨C',o,e1,e2,e3⟩:=h4 h p
 rw [ec.ns] at e1
 cases e1
 exact ⟨o,e2,e3⟩
theorem fe_isX {l:List Str} {D:Addr} {i:Nat} {cls:Str} {p p1 p2:Pos} (xt:XT X.K X.mg l D) (hgi:Gl X "isinstance") (hmi:X.mg "isinstance" = none) (hv:PE X (.Name x p1) (tVar i)) (hgc:Gl X cls) (hcl:cls ∈ l) (hdb:(cls == ("__debug__":Str))=false:=by decide)
  (he:starEach [.Name x p1,.Name cls p2] X.env=(false,eval (.Name x p1) X.env) :: starEach [.Name cls p2] X.env:=by rfl) (he2:starEach [.Name cls p2] X.env=(false,eval (.Name cls p2) X.env) :: starEach [] X.env:=by rfl) (hpl:(backTo pos (starEach [.Name cls p2] X.env)).any (·.1)=false:=by rfl) :
  FE X F E (.Call (.Name "isinstance" p) [.Name x p1,.Name cls p2] [] pos) (xIsX i l cls):=by
 obtain ⟨D',ed,_⟩:=xt.at_ hcl
 refine ⟨mn_wp,(pe_callB call_isX hgi hmi (show bootBuiltins "isinstance" = some (.builtin "isinstance") by decide +kernel) (pa_cons hv (pa_cons (pe_glob (v:=.ref D') hgc ed.mg rfl hdb) pa_nil he2) he) (by decide) (by decide) he hpl).imp fun σ H Q ⟨ρ,O,st,q⟩=>?_⟩
 unfold wp xIsX at q
 cases h0:asX ρ i with
 | none=>rw [h0] at q; exact q.elim
 | some c=>
  rw [h0] at q
  by_cases hc:c ∈ l/\cls ∈ l
  ·simp only [if_pos hc] at q
   obtain ⟨C,ec,_,at_,_,tb⟩:=xt.at_ hc.1
   obtain ⟨D2,m2,n2,k2⟩:=tb cls hc.2
   have eD:D2=D':=by have:=ed.mg.symm.trans m2; cases this; rfl
   subst eD
   obtain ⟨a,φ,h1,h2,h3⟩:=st_exc st (asX_at h0) ec
   exact ⟨_,h1,a,φ,C,.ref D2,_,rfl,h2,h3,at_,cls_of_exc ec.ex,fun u ru=>by cases ru; exact k2,q _ H O st .refl (.bl _)⟩
  ·simp only [if_neg hc] at q
theorem fe_isV {l:List Str} {D:Addr} {i:Nat} {p p1 p2:Pos} (xt:XT X.K X.mg l D) (hgi:Gl X "isinstance") (hmi:X.mg "isinstance" = none) (hv:PE X (.Name x p1) (tVar i)) (hgc:Gl X "ValueError") (hmc:X.mg "ValueError" = none)
  (he:starEach [.Name x p1,.Name "ValueError" p2] X.env=(false,eval (.Name x p1) X.env) :: starEach [.Name "ValueError" p2] X.env:=by rfl) (he2:starEach [.Name "ValueError" p2] X.env=(false,eval (.Name "ValueError" p2) X.env) :: starEach [] X.env:=by rfl) (hpl:(backTo pos (starEach [.Name "ValueError" p2] X.env)).any (·.1)=false:=by rfl) :
  FE X F E (.Call (.Name "isinstance" p) [.Name x p1,.Name "ValueError" p2] [] pos) (xIsV i l):=by
 refine ⟨mn_wp,(pe_callB call_isX hgi hmi (show bootBuiltins "isinstance" = some (.builtin "isinstance") by decide +kernel) (pa_cons hv (pa_cons (pe_bltn (v:=.ty "ValueError") hgc hmc (show bootBuiltins "ValueError" = some (.type "ValueError") by decide +kernel) rfl) pa_nil he2) he) (by decide) (by decide) he hpl).imp fun σ H Q ⟨ρ,O,st,q⟩=>?_⟩
 unfold wp xIsV at q
 cases h0:asX ρ i with
 | none=>rw [h0] at q; exact q.elim
 | some c=>
  rw [h0] at q
  by_cases hc:c ∈ l
  ·simp only [if_pos hc] at q
   obtain ⟨C,ec,_,at_,k2,tb⟩:=xt.at_ hc
   obtain ⟨a,φ,h1,h2,h3⟩:=st_exc st (asX_at h0) ec
   exact ⟨_,h1,a,φ,C,.ty "ValueError",_,rfl,h2,h3,at_,cls_of_exc ec.ex,fun u ru=>by cases ru; exact k2,q _ H O st .refl (.bl _)⟩
  ·simp only [if_neg hc] at q
end
end L2.L3
namespace L2.L3
open PySem PySem.Spec PyProof.Rows
section
variable {X:Cx} {F:Fx} {E:Str->DEnv->Prop} {e a b c:Expr} {es:List Expr} {st:Stmt} {rest:List Stmt} {pos:Pos} {x:Str} {ma mb mc:XM PyData}
@[simp] noncomputable def gAdd:=gI fun i j=>.int (i + j)
@[simp] noncomputable def gSub:=gI fun i j=>.int (i - j)
@[simp] noncomputable def gMul:=gIC cMul fun i j=>.int (i * j)
@[simp] noncomputable def gMod:=gIC cMod fun i j=>.int (i % j)
@[simp] noncomputable def gLt:=gI fun i j=>.bool (decide (i < j))
@[simp] noncomputable def gLe:=gI fun i j=>.bool (decide (i<=j))
@[simp] noncomputable def gGt:=gI fun i j=>.bool (decide (j < i))
theorem fe_add (ha:FE X F E a ma) (hb:FE X F E b mb):FE X F E (.BinOp a .Add b pos) (xOp gAdd ma mb):=fe_op f2_I (de_add ha hb)
theorem fe_sub (ha:FE X F E a ma) (hb:FE X F E b mb):FE X F E (.BinOp a .Sub b pos) (xOp gSub ma mb):=fe_op f2_I (de_sub ha hb)
theorem fe_mul (ha:FE X F E a ma) (hb:FE X F E b mb):FE X F E (.BinOp a .Mult b pos) (xOp gMul ma mb):=fe_op (f2_IC cMul_ok) (de_mul ha hb)
theorem fe_mod (ha:FE X F E a ma) (hb:FE X F E b mb):FE X F E (.BinOp a .Mod b pos) (xOp gMod ma mb):=fe_op (f2_IC cMod_ok) (de_mod ha hb)
theorem fe_cat (ha:FE X F E a ma) (hb:FE X F E b mb):FE X F E (.BinOp a .Add b pos) (xOp gCatL ma mb):=fe_op f2_catL (de_cat ha hb)
theorem fe_rep (ha:FE X F E a ma) (hb:FE X F E b mb):FE X F E (.BinOp a .Mult b pos) (xOp gRep ma mb):=fe_op f2_rep (de_rep ha hb)
theorem fb_lt (ha:FE X F E a ma) (hb:FE X F E b mb):FB X F E (.Compare a [.Lt] [b] pos) (xTst (xOp gLt ma mb)):=fb_op f2_I (db_lt ha hb)
theorem fb_le (ha:FE X F E a ma) (hb:FE X F E b mb):FB X F E (.Compare a [.LtE] [b] pos) (xTst (xOp gLe ma mb)):=fb_op f2_I (db_le ha hb)
theorem fb_gt (ha:FE X F E a ma) (hb:FE X F E b mb):FB X F E (.Compare a [.Gt] [b] pos) (xTst (xOp gGt ma mb)):=fb_op f2_I (db_gt ha hb)
theorem fe_eq (hu:X.A.units + 64 < cLine) (ha:FE X F E a ma) (hb:FE X F E b mb):FE X F E (.Compare a [.Eq] [b] pos) (xOp (gEq false) ma mb):=fe_op f2_eq (de_eq hu ha hb)
theorem fb_eq (hu:X.A.units + 64 < cLine) (ha:FE X F E a ma) (hb:FE X F E b mb):FB X F E (.Compare a [.Eq] [b] pos) (xTst (xOp (gEq false) ma mb)):=fb_op f2_eq (db_eq hu ha hb)
theorem fb_ne (hu:X.A.units + 64 < cLine) (ha:FE X F E a ma) (hb:FE X F E b mb):FB X F E (.Compare a [.NotEq] [b] pos) (xTst (xOp (gEq true) ma mb)):=fb_op f2_eq (db_ne hu ha hb)
theorem fe_isN (ha:FE X F E a ma) (hb:FE X F E b mb):FE X F E (.Compare a [.Is] [b] pos) (xOp gIs ma mb):=fe_op f2_is (de_isN ha hb)
theorem fb_isN (ha:FE X F E a ma) (hb:FE X F E b mb):FB X F E (.Compare a [.Is] [b] pos) (xTst (xOp gIs ma mb)):=fb_op f2_is (db_isN ha hb)
theorem fe_lele (ha:FE X F E a ma) (hb:FE X F E b mb) (hc:FE X F E c mc) (hm:lastMarks [.LtE,.LtE] [b,c]=false:=by with_unfolding_all rfl):FE X F E (.Compare a [.LtE,.LtE] [b,c] pos) (xChain (fun i j=>decide (i<=j)) (fun i j=>decide (i<=j)) ma mb mc):=fe_chain (de_lele ha hb hc hm)
@[simp] noncomputable def gIxA:PyData->PyData->Option PyData:=fun x y=>match x,y with
 | .tuple ds,.int i=>atI ds i
 | .list ds,.int i=>atI ds i
 | _,_=>none
noncomputable def fIxA:D2:=fun x y Q=>fIxT x y Q\/fIxL x y Q
theorem o_ixA {K:PySem.W.Frag}:Op2 (fun x y H Q=>rIxT K x y H Q\/rIxL K x y H Q) fIxA where
 mn:=fun x y Q Q' k h=>h.imp (o_ixT (K:=K).mn x y Q Q' k) (o_ixL (K:=K).mn x y Q Q' k)
 ok:=fun O H u v x y Q hO h1 h2 h=>h.imp (o_ixT.ok O H u v x y Q hO h1 h2) (o_ixL.ok O H u v x y Q hO h1 h2)
theorem f2_ixA:F2 fIxA gIxA:=fun x y d Q e q=>by
 unfold gIxA at e
 split at e
 ·exact .inl ⟨_,_,_,rfl,rfl,e,q⟩
 ·exact .inr ⟨_,_,_,rfl,rfl,e,q⟩
 ·cases e
theorem fe_ix (ha:FE X F E a ma) (hb:FE X F E b mb) (hs:PlainIx b:=by intro _ _; rfl):FE X F E (.Subscript a b pos) (xOp gIxA ma mb):=fe_op f2_ixA (de_ix (IxR.or ix_tup ix_list) o_ixA ha hb hs)
end
end L2.L3
namespace L2.L3
open PySem PySem.Spec PyProof.Rows
noncomputable def isStar:Expr->Bool
 | .Starred ..=>true
 | _=>false
theorem star_of {e:Expr} {es:List Expr} {env:Env} (h:isStar e=false):starEach (e :: es) env=(false,eval e env) :: starEach es env:=by
 cases e <;> first | rfl | cases h
section
variable {X:Cx} {F:Fx} {E:Str->DEnv->Prop} {e a b c:Expr} {es:List Expr} {pos:Pos} {x:Str}
theorem fa_c {ma:XM PyData} {mr:XM (List PyData)} (ha:FE X F E e ma) (hr:FA X F E es mr) (hs:isStar e=false:=by rfl):FA X F E (e :: es) (aCons ma mr):=fa_cons ha hr (star_of hs)
theorem fx_v {ma:XM PyData} {mr:XM (List AX)} (ha:FE X F E e ma) (hr:FX X F E es mr) (hs:isStar e=false:=by rfl):FX X F E (e :: es) (cVal ma mr):=fx_val ha hr (star_of hs)
theorem fx_s {p:Pos} {j:Nat} {mr:XM (List AX)} (hv:PE X (.Name x p) (tVar j)) (hr:FX X F E es mr):FX X F E (.Name x p :: es) (cSlot j mr):=fx_slot hv hr (star_of rfl)
end
end L2.L3
namespace L2.L3
open PySem PySem.Spec PyProof.Rows
section
variable {X:Cx} {F:Fx} {E:Str->DEnv->Prop} {e a b c:Expr} {es:List Expr} {pos:Pos} {x:Str} {ma mb:XM PyData}
@[simp] noncomputable def gPow:=gIC cPow fun i j=>.int (i ^ j.toNat)
theorem fe_pow (ha:FE X F E a ma) (hb:FE X F E b mb):FE X F E (.BinOp a .Pow b pos) (xOp gPow ma mb):=fe_op (f2_IC cPow_ok) (de_pow ha hb)
noncomputable def fMin:DN:=fun xs Q=>∃ i j:Int,xs=[.int i,.int j]/\Q (.int (min i j))
theorem n_min:OpN (fun xs H Q=>∃ i j,xs=[.int i,.int j]/\Q (.int (if j < i then j else i)) H) fMin where
 mn:=fun _ _ _ k ⟨i,j,e,q⟩=>⟨i,j,e,k _ q⟩
 ok:=fun O H vs xs Q hO hd ⟨i,j,e,q⟩=>by
  subst e
  obtain ⟨x,y,rfl,h1,h2⟩:=dvs2 hd
  have e:(if j < i then j else i)=min i j:=by split <;> omega
  exact ⟨i,j,by rw [h1.int_inv,h2.int_inv],by rw [e]; exact q _ H (fun _ _ h=>h) (.int _)⟩
@[simp] noncomputable def nMin:List PyData->Option PyData:=fun xs=>match xs with
 | [.int i,.int j]=>some (.int (min i j))
 | _=>none
theorem fn_min:FN fMin nMin:=fun xs d Q e q=>by
 unfold nMin at e
 split at e
 ·cases e; exact ⟨_,_,rfl,q⟩
 ·cases e
end
end L2.L3
namespace L2.L3
open PySem PySem.Spec PyProof.Rows
section
variable {X:Cx} {F:Fx} {E:Str->DEnv->Prop} {e a b c:Expr} {es:List Expr} {st:Stmt} {pos:Pos} {x:Str} {ma mb:XM PyData}
@[simp] noncomputable def xBad {α:Type}:XM α:=fun _=>.bad
@[simp] noncomputable def sBadF:SM:=fun _=>.bad
theorem fe_bad:FE X F E e xBad:=⟨mn_wp,fun _ _ _ _ _ _ ⟨_,_,_,q⟩=>q.elim⟩
theorem fo_bad:FO X F E e xBad:=⟨mn_wp,fun _ _ _ _ _ _ ⟨_,_,_,q⟩=>q.elim⟩
theorem fs_bad:FS X F E st sBadF:=fun _ _ _ _ _ _ ⟨_,_,_,_,q,_⟩=>q.elim
theorem eval_callSub {a b:Expr} {p pos:Pos} {args:List Expr} {kw:List Keyword} {env:Env}:eval (.Call (.Subscript a b p) args kw pos) env=(do
  callWith pos (<-eval (.Subscript a b p) env) [] (backTo pos (starEach args env)) (backToKw pos (keywordEach kw env))):=rfl
theorem call_imp {g:FM} {ma:XM (List AX)} {ρ:DEnv} {Q:Cell->DEnv->Prop} (q:wp E (xCall g ma) ρ Q):dCall g E (wp E ma) ρ Q:=mn_wp _ _ _ (fun as ρ1 q1=>by
 unfold wp callK at q1
 unfold callOn
 cases ha:argCells ρ1 as with
 | none=>rw [ha] at q1; exact q1
 | some p=>
  obtain ⟨cs,js⟩:=p
  rw [ha] at q1
  simp only at q1 ⊢
  cases hf:g cs with
  | rt c outs=>rw [hf] at q1; exact q1
  | ex c outs=>rw [hf] at q1; exact q1
  | bad=>rw [hf] at q1; exact q1) (wp_bind (k:=callK g) q)
theorem pe_gref {g:Addr} {p:Pos} (hg:Gl X x) (hm:X.mg x=some (.ref g)) (hdb:(x == ("__debug__":Str))=false:=by decide):PE X (.Name x p) (fun σ H Q=>Q (.ref g) H):=
 fun pins s σ H Q I h=>ld_glob I hg hm ⟨.ref g,H,I,rfl,h⟩ hdb
@[simp] noncomputable def sel2 (f g:FM) (ma:XM (List AX)) (d:PyData):XM Cell:=match d with
 | .int 0=>xCall f ma
 | .int 1=>xCall g ma
 | _=>xBad
@[simp] noncomputable def xCall2 (f g:FM) (mi:XM PyData) (ma:XM (List AX)):XM Cell:=fun ρ=>(mi ρ).bind (sel2 f g ma)
variable {k:Nat} {g1 g2:Addr} {fd1 fd2:FuncData} {ps1 ps2:List Str} {f1 f2:FM} {x1 x2:Str} {p1 p2 lp sp:Pos} {mi:XM PyData} {mX:XM (List AX)} {i:Expr}
theorem call_ref {pins:List (Addr × Obj)} {σ:St} {H:Hp} {s:Shared} {Q:Cell->DEnv->Prop} {Q0:VK} {ρ:DEnv} {O:List Addr} (hx:XOk X F E) (G:FnOk X.prog X.w X.K X.mg X.base (CXM X.prog X.w) k g1 fd1 ps1 (spF X.K X.mg f1)) (hr:Room k X.A) (hk:PySem.W.keepIn X.K (.ref g1)=true) (hb:Binds X.K fd1 ps1 [])
  (ha:FX X F E (e :: es) mX) (he:starEach (e :: es) X.env=(false,eval e X.env) :: starEach es X.env) (hpl:(backTo pos (starEach es X.env)).any (·.1)=false)
  (I:Inv X pins σ H s) (st:DSt X.K F H σ ρ O) (q:wp E (xCall f1 mX) ρ Q) (hQ:∀ c ρ',Q c ρ'->∀ v H' O' fp,Res X.K F H' σ ρ' O' v c fp->Stp O H O' H'->Q0 v H') :
  wpAny (model X.prog X.w) X.A (callWith pos (.ref g1) [] (backTo pos (starEach (e :: es) X.env)) (backToKw pos (keywordEach [] X.env))) (EP X pins σ Q0) X.xe s:=by
 have q':=call_imp q
 refine PySem.W.callWith_K (h₀:=X.base) I.ok.mod.kin hk (thn (ha.pa pos pins s σ H (fun vs H1=>∃ as ρ1 O1,DSt X.K F H1 σ ρ1 O1/\Stp O H O1 H1/\AxAt σ (hide O1 H1) vs as/\callOn f1 E Q as ρ1) I ⟨ρ,O,st,ha.mn _ _ _ (fun as ρ1 q1 vs H1 O1 st1 s1 ax=>⟨as,ρ1,O1,st1,s1,ax,q1⟩) q'⟩) fun us s1 ⟨vs,H1,I1,r,as,ρ1,O1,st1,s01,ax,q1⟩=>⟨I1.kIn,?_⟩) he hpl
 exact call_on hx G hr hb I1 r st1 ax q1 fun c ρ' h v H' O' fp res s2=>hQ c ρ' h v H' O' fp res (s01.trans s2)
theorem fo_call2 {k':Nat} (hx:XOk X F E) (G1:FnOk X.prog X.w X.K X.mg X.base (CXM X.prog X.w) k g1 fd1 ps1 (spF X.K X.mg f1)) (hr1:Room k X.A) (hg1:Gl X x1) (hm1:X.mg x1=some (.ref g1)) (hk1:PySem.W.keepIn X.K (.ref g1)=true) (hb1:Binds X.K fd1 ps1 [])
  (G2:FnOk X.prog X.w X.K X.mg X.base (CXM X.prog X.w) k' g2 fd2 ps2 (spF X.K X.mg f2)) (hr2:Room k' X.A) (hg2:Gl X x2) (hm2:X.mg x2=some (.ref g2)) (hk2:PySem.W.keepIn X.K (.ref g2)=true) (hb2:Binds X.K fd2 ps2 [])
  (hi:FE X F E i mi) (ha:FX X F E (e :: es) mX) (hs:PlainIx i:=by intro _ _; rfl) (hd1:(x1 == ("__debug__":Str))=false:=by decide) (hd2:(x2 == ("__debug__":Str))=false:=by decide)
  (he:starEach (e :: es) X.env=(false,eval e X.env) :: starEach es X.env:=by rfl) (hpl:(backTo pos (starEach es X.env)).any (·.1)=false:=by rfl)
  (hl1:starEach [.Name x1 p1,.Name x2 p2] X.env=(false,eval (.Name x1 p1) X.env) :: starEach [.Name x2 p2] X.env:=by rfl) (hl2:starEach [.Name x2 p2] X.env=(false,eval (.Name x2 p2) X.env) :: starEach [] X.env:=by rfl) :
  FO X F E (.Call (.Subscript (.List [.Name x1 p1,.Name x2 p2] lp) i sp) (e :: es) [] pos) (xCall2 f1 f2 mi mX):=by
 refine ⟨mn_wp,fun pins s σ H Q I ⟨ρ,O,st,q⟩=>?_⟩
 rw [eval_callSub]
 refine wpAny_bind ?_
 have pl:=pe_lst (pos:=lp) (pa_cons (pe_gref (p:=p1) hg1 hm1 hd1) (pa_cons (pe_gref (p:=p2) hg2 hm2 hd2) pa_nil hl2) hl1)
 refine thn ((pe_ix (pos:=sp) ix_list pl hi.pe hs) pins s σ H (fun v H1=>∃ ρ1 O1,DSt X.K F H1 σ ρ1 O1/\Stp O H O1 H1/\((v=.ref g1/\wp E (xCall f1 mX) ρ1 (fun c ρ'=>∀ v H' O' fp,Res X.K F H' σ ρ' O' v c fp->Stp O H O' H'->Q v H'))\/(v=.ref g2/\wp E (xCall f2 mX) ρ1 (fun c ρ'=>∀ v H' O' fp,Res X.K F H' σ ρ' O' v c fp->Stp O H O' H'->Q v H')))) I ?_) fun u s1 ⟨v,H1,I1,r1,ρ1,O1,st1,s01,q1⟩=>?_
 ·refine ⟨show 2<=sizeLine by decide,fun p hp=>⟨ρ,O,st.grow (same_upd hp),mn_wp _ _ _ (fun d ρ1 q1 w H1 O1 st1 s1 d1=>?_) (wp_bind (k:=sel2 f1 f2 mX) q)⟩⟩
  have hp1:H1 p=some (.lst [.ref g1,.ref g2]):=by
   have h0:hide O (upd H p (.lst [.ref g1,.ref g2])) p=some (.lst [.ref g1,.ref g2]):=by
    unfold hide
    rw [if_neg (st.nofree p hp),upd_same]
   exact (of_hide (s1.hid _ _ h0)).1
  have s2:Stp O H O1 H1:=(Stp.same (same_upd hp)).trans s1
  cases d with
  | int j=>
   have:=d1.int_inv; subst this
   by_cases e0:j=0
   ·subst e0
    exact ⟨p,_,0,.ref g1,rfl,rfl,.of hp1,rfl,ρ1,O1,st1,s2,.inl ⟨rfl,q1⟩⟩
   ·by_cases e1:j=1
    ·subst e1
     exact ⟨p,_,1,.ref g2,rfl,rfl,.of hp1,rfl,ρ1,O1,st1,s2,.inr ⟨rfl,q1⟩⟩
    ·have eb:sel2 f1 f2 mX (.int j)=xBad:=by
      unfold sel2
      split
      ·rename_i h; cases h; exact absurd rfl e0
      ·rename_i h; cases h; exact absurd rfl e1
      ·rfl
     rw [eb] at q1
     exact q1.elim
  | _=>exact q1.elim
 ·rcases q1 with ⟨rfl,q1⟩ | ⟨rfl,q1⟩
  ·cases r1
   exact call_ref hx G1 hr1 hk1 hb1 ha he hpl I1 st1 q1 fun c ρ' h v H' O' fp res s2=>h v H' O' fp res (s01.trans s2)
  ·cases r1
   exact call_ref hx G2 hr2 hk2 hb2 ha he hpl I1 st1 q1 fun c ρ' h v H' O' fp res s2=>h v H' O' fp res (s01.trans s2)
end
end L2.L3
namespace L2
open PySem PySem.Spec PyProof.Rows
section
variable {X:Cx}
end
end L2
namespace L2.L3
open PySem PySem.Spec PyProof.Rows
section
variable {X:Cx} {F:Fx} {E:Str->DEnv->Prop} {a b:Expr} {ta tb:DT} {pos:Pos} {ma mb:XM PyData}
end
end L2.L3
namespace L2
open PySem
section
variable {prog:Program} {w:World} {A:Around} {E:Value->Shared->Prop} {s:Shared}
end
section
variable {prog:Program} {w:World} {A:Around} {R:Result->Shared->Prop}
end
namespace F3
end F3
section
variable {prog:Program} {w:World} {A:Around} {E:Value->Shared->Prop} {s:Shared}
end
end L2
namespace L2
open PySem PySem.Spec PyProof.Rows
section
variable {X:Cx} {a:Expr} {t:TA} {pos p1 p2 pos2:Pos}
end
end L2
namespace L2.L3
open PySem PySem.Spec PyProof.Rows
section
variable {X:Cx} {F:Fx} {E:Str->DEnv->Prop} {a e:Expr} {tA:DTA} {pos p1 p2 pos2:Pos}
end
end L2.L3
namespace L2.L3
open PySem PySem.Spec PyProof.Rows
noncomputable def putFl (f:Str) (v:Fl):List (Str × Fl)->List (Str × Fl)
 | []=>[(f,v)]
 | (g,x) :: r=>if g=f then (g,v) :: r else (g,x) :: putFl f v r
noncomputable def plainFl:Option Fl->Bool
 | none=>true
 | some (.d _)=>true
 | _=>false
noncomputable def asIo (C:Addr) (ρ:DEnv) (i:Nat):Option (Bool × List (Str × Fl)):=match ρ[i]? with
 | some (some (.own io (.o C' fs)))=>if C' = C then some (io,fs) else none
 | _=>none
theorem asIo_at {C:Addr} {ρ:DEnv} {i:Nat} {io:Bool} {fs:List (Str × Fl)} (h:asIo C ρ i=some (io,fs)):ρ[i]? = some (some (.own io (.o C fs))):=by
 unfold asIo at h
 split at h
 ·rename_i e
  split at h
  ·rename_i hc; cases h; rw [e,hc]
  ·cases h
 ·cases h
section
variable {G H:Hp}
theorem fls_look {gs:List (Str × V)} {fs:List (Str × Fl)} {fps:List (List Addr)} (h:FlsAt G H gs fs fps) (f:Str):(gs.lookup f=none/\fs.lookup f=none)\/∃ v x fp,gs.lookup f=some v/\fs.lookup f=some x/\FlAt G H v x fp/\fp ∈ fps:=by
 induction h with
 | nil=>exact .inl ⟨rfl,rfl⟩
 | @cons n v x fp gs fs fps h1 h2 ih=>
  by_cases e:f=n
  ·subst e
   exact .inr ⟨v,x,fp,by simp [List.lookup],by simp [List.lookup],h1,List.mem_cons_self⟩
  ·have e':(f == n)=false:=by simpa using e
   rw [List.lookup_cons,List.lookup_cons,e']
   rcases ih with q | ⟨v',x',fp',q1,q2,q3,q4⟩
   ·exact .inl q
   ·exact .inr ⟨v',x',fp',q1,q2,q3,List.mem_cons_of_mem _ q4⟩
end
theorem nd_at {α:Type}:∀ {W:List (List α)} {i:Nat} {l:List α},W.flatten.Nodup->W[i]? = some l->l.Nodup
 | w :: W,0,l,nd,h=>by
  simp only [List.getElem?_cons_zero,Option.some.injEq] at h
  subst h
  rw [List.flatten_cons] at nd
  exact (List.nodup_append.mp nd).1
 | w :: W,i + 1,l,nd,h=>by
  rw [List.flatten_cons] at nd
  exact nd_at (List.nodup_append.mp nd).2.1 (by simpa using h)
theorem DSt.boxN {K:PySem.W.Frag} {F:Fx} {H:Hp} {σ:St} {ρ:DEnv} {O:List Addr} (st:DSt K F H σ ρ O) {i:Nat} {io:Bool} {b:Bx} (e:ρ[i]? = some (some (.own io b))):∃ a fp,σ[i]? = some (some (.ref a))/\BoxAt (hide O H) H a b fp/\(∀ c ∈ fp,c ∈ O)/\fp.Nodup/\
  ∀ (H':Hp) (b':Bx) (fp':List Addr),(∀ c o,c ∉ fp->H c=some o->H' c=some o)->fp'.Nodup->(∀ c ∈ fp',c ∈ fp\/H c=none)->(∀ G,(∀ O',Stp O H O' H'->G=hide O' H'->(∀ c ∈ fp',c ∈ O')->Same (hide O H) G/\BoxAt G H' a b' fp'))->
   ∃ O',DSt K F H' σ (ρ.set i (some (.own io b'))) O'/\Stp O H O' H'/\(∀ c ∈ O',c ∈ fp'\/c ∈ O):=by
 obtain ⟨W,st,rfl⟩:=st
 obtain ⟨v,fp,h1,h2,a,rfl,h3⟩:=st.at_ i _ e
 have hi:i < ρ.length:=(List.getElem?_eq_some_iff.mp e).1
 have hiW:i < W.length:=by rw [st.lw]; exact hi
 refine ⟨a,fp,h1,h3,fun c hc=>List.mem_append_left _ (mem_flat_of h2 hc),(nd_at (List.nodup_append.mp st.nd).1 h2),fun H' b' fp' keep nd fr hb=>?_⟩
 have ndW:W.flatten.Nodup:=(List.nodup_append.mp st.nd).1
 have nO:∀ c ∈ fp,c ∉ F.O₀:=fun c hc z=>(List.nodup_append.mp st.nd).2.2 c (mem_flat_of h2 hc) c z rfl
 have kj:∀ j l c,j ≠ i->W[j]? = some l->c ∈ l->H' c=H c:=fun j l c hj ej hc=>by
  obtain ⟨o,eo,_⟩:=st.live c (List.mem_append_left _ (mem_flat_of ej hc))
  rw [eo]
  exact keep c o (fun z=>flat_disj ndW ej h2 hj hc z) eo
 have kO:∀ c ∈ F.O₀,H' c=H c:=fun c hc=>by
  obtain ⟨o,eo,_⟩:=st.live c (List.mem_append_right _ hc)
  rw [eo]
  exact keep c o (fun z=>nO c z hc) eo
 have ap:∀ c ∈ fp',(∀ j l,j ≠ i->W[j]? = some l->c ∉ l)/\c ∉ F.O₀:=fun c hc=>by
  rcases fr c hc with q | q
  ·exact ⟨fun j l hj ej z=>flat_disj ndW h2 ej (Ne.symm hj) q z,nO c q⟩
  ·refine ⟨fun j l _ ej z=>?_,fun z=>?_⟩
   ·obtain ⟨o,eo,_⟩:=st.live c (List.mem_append_left _ (mem_flat_of ej z)); rw [q] at eo; cases eo
   ·obtain ⟨o,eo,_⟩:=st.live c (List.mem_append_right _ z); rw [q] at eo; cases eo
 have frz:∀ c o,c ∉ W.flatten ++ F.O₀->H c=some o->H' c=some o:=fun c o hc ec=>keep c o (fun z=>hc (List.mem_append_left _ (mem_flat_of h2 z))) ec
 have stp:Stp (W.flatten ++ F.O₀) H ((W.set i fp').flatten ++ F.O₀) H':=⟨frz,fun c h=>by
  rcases List.mem_append.mp h with h | h
  ·rcases mem_flat_set h with h | ⟨j,l,_,ej,hl⟩
   ·exact (fr c h).imp (fun z=>List.mem_append_left _ (mem_flat_of h2 z)) id
   ·exact .inl (List.mem_append_left _ (mem_flat_of ej hl))
  ·exact .inl (List.mem_append_right _ h)⟩
 have inO':∀ c ∈ fp',c ∈ (W.set i fp').flatten ++ F.O₀:=fun c hc=>List.mem_append_left _ (flat_set_self hiW hc)
 have hbx:=(hb _ _ stp rfl inO').2
 obtain ⟨s1,s2⟩:=st.put (H':=H') (i:=i) (v:=.ref a) (c:=.own io b') (fp:=fp') hi kj kO frz nd ap (fun c hc=>(fr c hc).imp (fun z=>mem_flat_of h2 z) id) (fun c hc=>hbx.live c hc) (fun _=>⟨a,rfl,hbx⟩) (fun b2 z=>by cases z; have:=st.io i b e; rw [h1] at this; exact (Option.some.inj (Option.some.inj this)))
 have eσ:σ.set i (some (.ref a))=σ:=by
  apply List.ext_getElem?
  intro j
  by_cases hj:j=i
  ·subst hj; rw [List.getElem?_set_self (List.getElem?_eq_some_iff.mp h1).1,h1]
  ·rw [List.getElem?_set_ne (Ne.symm hj)]
 rw [eσ] at s1
 refine ⟨_,⟨_,s1,rfl⟩,s2,fun c hc=>?_⟩
 rcases List.mem_append.mp hc with hc | hc
 ·rcases mem_flat_set hc with hc | ⟨j,l,_,ej,hl⟩
  ·exact .inl hc
  ·exact .inr (List.mem_append_left _ (mem_flat_of ej hl))
 ·exact .inr (List.mem_append_right _ hc)
theorem FlsAt.len {G H:Hp} {gs:List (Str × V)} {fs:List (Str × Fl)} {fps:List (List Addr)} (h:FlsAt G H gs fs fps):gs.length=fs.length:=by
 induction h with
 | nil=>rfl
 | cons _ _ ih=>simp [ih]
theorem FlsAt.putD {G G' H H':Hp} {gs:List (Str × V)} {fs:List (Str × Fl)} {fps:List (List Addr)} {f:Str} {v:V} {d:PyData} (h:FlsAt G H gs fs fps) (hp:plainFl (fs.lookup f)=true) (hd:DV G' v d) (g:Same G G') (k:∀ c ∈ fps.flatten,H' c=H c) :
  FlsAt G' H' (putF f v gs) (putFl f (.d d) fs) (if (fs.lookup f).isSome=true then fps else fps ++ [[]]):=by
 induction h with
 | nil=>exact .cons ⟨rfl,hd⟩ .nil
 | @cons n w x fp gs fs fps h1 h2 ih=>
  unfold putF putFl
  by_cases e:n=f
  ·subst e
   have hl:List.lookup n ((n,x) :: fs)=some x:=by simp [List.lookup]
   rw [hl] at hp ⊢
   rw [if_pos rfl,if_pos rfl]
   have h2':=h2.keep (H':=H') (fun c hc=>k c (by simp only [List.flatten_cons,List.mem_append]; exact .inr hc)) g
   cases x with
   | d y=>
    obtain ⟨rfl,_⟩:=h1
    exact .cons ⟨rfl,hd⟩ h2'
   | l ds=>cases hp
   | m tk kvs=>cases hp
  ·have e':(f == n)=false:=by simpa using fun z=>e z.symm
   rw [List.lookup_cons,e'] at hp ⊢
   rw [if_neg e,if_neg e]
   have h1':=h1.keep (H':=H') (fun c hc=>k c (by simp only [List.flatten_cons,List.mem_append]; exact .inl hc)) g
   have ih':=ih hp fun c hc=>k c (by simp only [List.flatten_cons,List.mem_append]; exact .inr hc)
   simp only at ih' ⊢
   split
   ·rename_i q; rw [if_pos q] at ih'; exact .cons h1' ih'
   ·rename_i q; rw [if_neg q] at ih'; exact .cons h1' ih'
section
variable {X:Cx} {F:Fx} {E:Str->DEnv->Prop} {e a b c:Expr} {es:List Expr} {st:Stmt} {pos p1:Pos} {x f:Str} {C:Addr} {i:Nat}
noncomputable def xFld (C:Addr) (i:Nat) (f:Str):XM PyData:=fun ρ=>match asIo C ρ i with
 | some (_,fs)=>(match fs.lookup f with
  | some (.d d)=>.ok d ρ
  | _=>.bad)
 | none=>.bad
theorem fe_fld (cl:Cls X.K C) (na:NoAttr X.K C f) (hv:PE X (.Name x p1) (tVar i)) (hb:attributeBase (.Name x p1) f X.env (eval (.Name x p1) X.env)=eval (.Name x p1) X.env:=by rfl):FE X F E (.Attribute (.Name x p1) f pos) (xFld C i f):=
 ⟨mn_wp,(pe_fld hv hb).imp fun σ H Q ⟨ρ,O,st,q⟩=>by
  unfold wp xFld at q
  cases ho:asIo C ρ i with
  | none=>rw [ho] at q; exact q.elim
  | some p=>
   obtain ⟨io,fs⟩:=p
   rw [ho] at q
   simp only at q
   obtain ⟨a0,fp,hv0,⟨dx,gs,fps,e1,e2,e3,e4⟩,_,_⟩:=st.box (asIo_at ho)
   rcases fls_look e4 f with ⟨l1,l2⟩ | ⟨v,y,fp',l1,l2,l3,_⟩
   ·rw [l2] at q; exact q.elim
   ·rw [l2] at q
    cases y with
    | d d=>exact ⟨_,hv0,a0,C,dx,gs,v,rfl,e2,cl,na,l1,q v H O st (.refl ..) l3.2⟩
    | l ds=>exact q.elim
    | m tk kvs=>exact q.elim⟩
noncomputable def fldK (C:Addr) (i:Nat) (f:Str) (d:PyData):SM:=fun ρ=>match asIo C ρ i with
 | some (io,fs)=>if fs.length < 1000/\plainFl (fs.lookup f)=true then .nx (ρ.set i (some (.own io (.o C (putFl f (.d d) fs))))) else .bad
 | none=>.bad
noncomputable def sFldF (C:Addr) (i:Nat) (f:Str) (m:XM PyData):SM:=fun ρ=>ofX (m ρ) (fldK C i f)
theorem fs_fld {m:XM PyData} {pos':Pos} (cl:Cls X.K C) (na:NoAttr X.K C f) (hv:PE X (.Name x p1) (tVar i)) (he:FE X F E e m) (hs:swapsWith e (some (.Attribute (.Name x p1) f pos')) pos.line X.env=pure false:=by rfl):FS X F E (.Assign [.Attribute (.Name x p1) f pos'] e pos) (sFldF C i f m):=
 (ps_fld hv he.pe hs).imp fun D σ H ⟨ρ,O,DD,st,q,fD⟩=>⟨ρ,O,st,mn_wp _ _ _ (fun d ρ1 q1 vy H1 O1 st1 s1 d1=>by
  unfold wpS fldK at q1
  cases ho:asIo C ρ1 i with
  | none=>rw [ho] at q1; exact q1.elim
  | some p=>
   obtain ⟨io,fs⟩:=p
   rw [ho] at q1
   simp only at q1
   by_cases hc:fs.length < 1000/\plainFl (fs.lookup f)=true
   ·rw [if_pos hc] at q1
    obtain ⟨a0,fp,hv0,⟨dx,gs,fps,e1,e2,e3,e4⟩,hO,nd,up⟩:=st1.boxN (asIo_at ho)
    subst e1
    obtain ⟨ndx,_⟩:dx ≠ a0/\True:=⟨fun z=>by subst z; simp at nd,trivial⟩
    refine ⟨_,hv0,a0,C,dx,gs,rfl,e2,cl,na,by rw [e4.len]; exact hc.1,?_⟩
    obtain ⟨O3,st3,s3,_⟩:=up (upd H1 a0 (.ins C dx (putF f vy gs))) (.o C (putFl f (.d d) fs)) (a0 :: dx :: fps.flatten) (fun c o hcn e=>by rw [upd_ne (fun z=>hcn (by simp [z]))]; exact e) nd (fun c hc=>.inl hc) (fun G O' s hG _=>by
     subst hG
     refine ⟨s.hid,dx,putF f vy gs,if (fs.lookup f).isSome=true then fps else fps ++ [[]],?_,upd_same,by rw [upd_ne ndx]; exact e3,?_⟩
     ·split
      ·rfl
      ·simp
     ·refine e4.putD hc.2 (DV.mono s.hid d1) s.hid fun c hc=>upd_ne (fun z=>?_)
      subst z
      exact absurd hc (by
       have:=(List.nodup_cons.mp nd).1
       exact fun w=>this (List.mem_cons_of_mem _ w)))
    exact fD.nx _ _ _ _ st3 (s1.trans s3) q1
   ·rw [if_neg hc] at q1; exact q1.elim) (wpS_ofX (m:=m) (k:=fldK C i f) q)⟩
end
end L2.L3
namespace L2.L3
open PySem PySem.Spec PyProof.Rows
section
variable {X:Cx} {F:Fx} {E:Str->DEnv->Prop} {e:Expr} {es:List Expr} {pos p1 apos p:Pos} {x m:Str} {C:Addr} {i:Nat} {k:Nat} {g:Addr} {fd:FuncData} {ps:List Str} {f:FM} {mX:XM (List AX)}
theorem callK_on {as:List AX} {ρ1:DEnv} {Q:Cell->DEnv->Prop} (q1:wp E (callK f as) ρ1 Q):callOn f E Q as ρ1:=by
 unfold wp callK at q1
 unfold callOn
 cases ha:argCells ρ1 as with
 | none=>rw [ha] at q1; exact q1
 | some p=>
  obtain ⟨cs,js⟩:=p
  rw [ha] at q1
  simp only at q1 ⊢
  cases hf:f cs with
  | rt c outs=>rw [hf] at q1; exact q1
  | ex c outs=>rw [hf] at q1; exact q1
  | bad=>rw [hf] at q1; exact q1
noncomputable def xMeth0 (C:Addr) (i:Nat) (m:Str) (f:FM):XM Cell:=fun ρ=>match asIo C ρ i with
 | some (_,fs)=>if fs.lookup m=none then callK f [.s i] ρ else .bad
 | none=>.bad
theorem fo_meth0 {pl:Sem Bool} (hx:XOk X F E) (cl:Cls X.K C) (hm:Meth X.K C m g) (G:FnOk X.prog X.w X.K X.mg X.base (CXM X.prog X.w) k g fd ps (spF X.K X.mg f)) (hr:Room k X.A) (hb:Binds X.K fd ps []) (hv:PE X (.Name x p1) (tVar i))
  (ht:eval (.Call (.Attribute (.Name x p1) m apos) [] [] pos) X.env=(do
   let ov <-eval (.Name x p1) X.env
   standAt apos.atName
   let (f,first) <-holding [ov] (getMethod ov m pl)
   callWith pos f first (backTo pos (starEach [] X.env)) (backToKw pos (keywordEach [] X.env))):=by rfl) :
  FO X F E (.Call (.Attribute (.Name x p1) m apos) [] [] pos) (xMeth0 C i m f):=by
 refine ⟨mn_wp,fun pins s σ H Q I ⟨ρ,O,st,q⟩=>?_⟩
 unfold wp xMeth0 at q
 cases ho:asIo C ρ i with
 | none=>rw [ho] at q; exact q.elim
 | some p=>
  obtain ⟨io,fs⟩:=p
  rw [ho] at q
  simp only at q
  by_cases hl:fs.lookup m=none
  ·rw [if_pos hl] at q
   obtain ⟨a0,fp,hv0,⟨dx,gs,fps,e1,e2,e3,e4⟩,_,_⟩:=st.box (asIo_at ho)
   have hg:gs.lookup m=none:=by
    rcases fls_look e4 m with ⟨l1,_⟩ | ⟨_,_,_,_,l2,_⟩
    ·exact l1
    ·rw [hl] at l2; cases l2
   refine PySem.W.methodCall_KW (pl:=pl) (thn (hv pins s σ H (fun v H1=>v=.ref a0/\H1=H) I ⟨_,hv0,rfl,rfl⟩) fun u s1 ⟨v,H1,I1,rx,ex,eH⟩=>?_) ht
   subst ex eH
   obtain rfl:u=Value.ref a0:=rx
   refine getmeth_ok I1 e2 cl hm hg ?_
   refine PySem.W.callWith_K0 (first:=[.ref a0]) I1.kIn hm.kp ?_
   exact call_on (vs:=[V.ref a0]) (us:=[Value.ref a0]) (as:=[.s i]) hx G hr hb I1 (.cons (show RelV (.ref a0) (.ref a0) from rfl) .nil) st (AxAt.s hv0 .nil) (callK_on q) fun c ρ' h v H' O' fp res s2=>h v H' O' fp res s2
  ·rw [if_neg hl] at q; exact q.elim
noncomputable def makeK (C:Addr) (f:FM) (ds:List PyData):XM Cell:=fun ρ=>match f (.own true (.o C []) :: ds.map .dat) with
 | .rt (.dat .none) [b]=>.ok (.own false b) ρ
 | .ex c _=>.ex c ρ
 | _=>.bad
noncomputable def xMake (C:Addr) (f:FM) (mA:XM (List PyData)):XM Cell:=fun ρ=>(mA ρ).bind (makeK C f)
theorem args_dat {K:PySem.W.Frag} {H:Hp} {O:List Addr}:∀ {vs:List V} {ds:List PyData},DVs (hide O H) vs ds->ArgsAt K H O vs (ds.map .dat) (ds.map fun _=>[])
 | _,_,.nil=>.nil
 | _,_,.cons h t=>.dat h (args_dat t)
theorem outs_dat {H:Hp} {O:List Addr} {a:Addr} {b:Bx}:∀ {ds:List PyData} {vs:List V} {bs:List Bx} {fps:List (List Addr)},OutsAt H O vs (ds.map Cell.dat) bs fps->bs=[]/\fps=[]
 | [],_,_,_,.nil=>⟨rfl,rfl⟩
 | d :: ds,_,_,_,.skip _ h=>outs_dat (a:=a) (b:=b) h
theorem flat_nil {α β:Type}:∀ l:List α,(l.map fun _=>([]:List β)).flatten=[]
 | []=>rfl
 | _ :: r=>by simp [flat_nil r]
theorem fo_make {mA:XM (List PyData)} (hx:XOk X F E) (M:Mk X.K C g) (G:FnOk X.prog X.w X.K X.mg X.base (CXM X.prog X.w) k g fd ps (spF X.K X.mg f)) (hr:Room (k + 1) X.A) (hg:Gl X x) (hm:X.mg x=some (.ref C)) (hb:Binds X.K fd ps []) (ha:FA X F E (e :: es) mA)
  (hdb:(x == ("__debug__":Str))=false:=by decide) (he:starEach (e :: es) X.env=(false,eval e X.env) :: starEach es X.env:=by rfl) (hpl:(backTo pos (starEach es X.env)).any (·.1)=false:=by rfl) :
  FO X F E (.Call (.Name x p) (e :: es) [] pos) (xMake C f mA):=by
 refine ⟨mn_wp,fun pins s σ H Q I ⟨ρ,O,st,q⟩=>?_⟩
 refine wpAny_Call_Name_kw (ld_glob I hg hm ?_ hdb)
 have q':=wp_bind (E:=E) (m:=mA) (k:=makeK C f) (ρ:=ρ) q
 refine PySem.W.callWith_K (h₀:=X.base) I.ok.mod.kin M.kp (thn (ha.pa pos pins s σ H (fun vs H1=>∃ ds ρ1 O1,DSt X.K F H1 σ ρ1 O1/\Stp O H O1 H1/\DVs (hide O1 H1) vs ds/\wp E (makeK C f ds) ρ1 (fun c ρ'=>∀ v H' O' fp,Res X.K F H' σ ρ' O' v c fp->Stp O H O' H'->Q v H')) I ⟨ρ,O,st,ha.mn _ _ _ (fun ds ρ1 q1 vs H1 O1 st1 s1 dv=>⟨ds,ρ1,O1,st1,s1,dv,q1⟩) q'⟩) fun us s1 ⟨vs,H1,I1,r,ds,ρ1,O1,st1,s01,dv,q1⟩=>⟨I1.kIn,?_⟩) he hpl
 let EX:XK:=fun C _ H'=>∃ c ρ' O',X.mg c=some C/\DSt X.K F H' σ ρ' O'/\E c ρ'
 have h:∀ x dx,H1 x=none->H1 dx=none->dx ≠ x->spF X.K X.mg f (.ref x :: vs) (upd (upd H1 dx (.own x)) x (.ins C dx [])) (fun v H2=>v=.non/\Q (.ref x) H2) EX:=fun x dx h1 h2 hne=>by
  obtain ⟨W,stw,hO1⟩:=id st1
  have liv:∀ a ∈ O1,∃ o,H1 a=some o/\Mv o:=fun a h=>stw.live a (by rw [<-hO1]; exact h)
  have nx:x ∉ O1:=fun z=>by obtain ⟨o,e,_⟩:=liv x z; rw [h1] at e; cases e
  have ndx:dx ∉ O1:=fun z=>by obtain ⟨o,e,_⟩:=liv dx z; rw [h2] at e; cases e
  have ndO:O1.Nodup:=by rw [hO1]; exact stw.nd
  have up:∀ b o,H1 b=some o->upd (upd H1 dx (.own x)) x (.ins C dx []) b=some o:=fun b o e=>by
   rw [upd_ne (fun z=>by subst z; rw [h1] at e; cases e),upd_ne (fun z=>by subst z; rw [h2] at e; cases e)]; exact e
  have fl:(([x,dx] :: ds.map fun _=>([]:List Addr)).flatten ++ O1)=x :: dx :: O1:=by rw [List.flatten_cons,flat_nil]; rfl
  have hid:Same (hide O1 H1) (hide (x :: dx :: O1) (upd (upd H1 dx (.own x)) x (.ins C dx []))):=fun b o e=>by
   obtain ⟨e1,n1⟩:=of_hide e
   refine hide_of (up b o e1) fun z=>?_
   rcases List.mem_cons.mp z with z | z
   ·subst z; rw [h1] at e1; cases e1
   ·rcases List.mem_cons.mp z with z | z
    ·subst z; rw [h2] at e1; cases e1
    ·exact n1 z
  refine ⟨(hx.1.at st1).mono fun b u _ e=>up b u e,.own true (.o C []) :: ds.map .dat,[x,dx] :: ds.map fun _=>[],O1,?_,?_,?_,?_⟩
  ·rw [fl]
   exact .own ⟨dx,[],[],rfl,upd_same,by rw [upd_ne hne,upd_same],.nil⟩ (args_dat (DVs.mono hid dv))
  ·rw [fl]
   refine List.nodup_cons.mpr ⟨fun z=>?_,List.nodup_cons.mpr ⟨ndx,ndO⟩⟩
   rcases List.mem_cons.mp z with z | z
   ·exact hne z.symm
   ·exact nx z
  ·rw [fl]
   intro a ha
   rcases List.mem_cons.mp ha with rfl | ha
   ·exact ⟨.ins C dx [],upd_same,trivial⟩
   ·rcases List.mem_cons.mp ha with rfl | ha
    ·exact ⟨.own x,by rw [upd_ne hne,upd_same],trivial⟩
    ·obtain ⟨o,e1,e2⟩:=liv a ha
     exact ⟨o,up a o e1,e2⟩
  ·unfold wp makeK at q1
   have hL:([x,dx] :: ds.map fun _=>([]:List Addr)).flatten=[x,dx]:=by rw [List.flatten_cons,flat_nil]; rfl
   have st1':DSt X.K (F.plus []) H1 σ ρ1 O1:=st1
   have lift:∀ (H':Hp) (L':List Addr),Beh (upd (upd H1 dx (.own x)) x (.ins C dx [])) H' [x,dx] L' O1->∃ O3,DSt X.K (F.plus L') H' σ ρ1 O3/\Stp O1 H1 O3 H'/\(∀ a ∈ L',a ∈ O3)/\(∀ a ∈ O3,a ∈ L'\/a ∈ O1)/\∀ a ∈ L',a ∈ F.A₀\/F.H₀ a=none:=fun H' L' bh=>by
    have new1:∀ a ∈ L',H1 a=none:=fun a ha=>by
     rcases bh.new a ha with z | z
     ·simp only [List.mem_cons,List.not_mem_nil,or_false] at z
      rcases z with rfl | rfl
      ·exact h1
      ·exact h2
     ·cases e:H1 a with
      | none=>rfl
      | some o=>rw [up a o e] at z; cases z
    obtain ⟨O3,t1,t2,t3,t4,_⟩:=st1'.swap (L':=L') (H':=H') (fun b o _ e=>bh.keep b o (fun z=>by
     simp only [List.mem_cons,List.not_mem_nil,or_false] at z
     rcases z with rfl | rfl
     ·rw [h1] at e; cases e
     ·rw [h2] at e; cases e) (up b o e)) (List.nodup_append.mp bh.nd).1 (fun a ha=>.inr (new1 a ha)) (fun a h=>by cases h) bh.live
    refine ⟨O3,t1,t2,t3,fun a ha=>(t4 a ha).imp id (·.1),fun a ha=>?_⟩
    by_cases hA:a ∈ F.A₀
    ·exact .inl hA
    ·refine .inr ?_
     cases e:F.H₀ a with
     | none=>rfl
     | some o=>have:=stw.kept a o hA e; rw [new1 a ha] at this; cases this
   cases hf:f (.own true (.o C []) :: ds.map .dat) with
   | bad=>rw [hf] at q1; exact q1
   | ex c outs=>
    rw [hf] at q1
    intro C' H' fps' hmc hou bh
    rw [hL] at bh
    obtain ⟨O3,t1,t2,t3,t4,t5⟩:=lift H' [] ⟨ndO,fun a h=>(by cases h),bh.keep,fun a h=>(by cases h)⟩
    exact ⟨c,ρ1,O3,hmc,t1,q1⟩
   | rt c outs=>
    rw [hf] at q1
    intro v H' fp fps' hca hou bh
    rw [hL] at bh
    match c,outs,q1 with
    | .dat .none,[b'],q1=>
     have hv:v=.non:=DV.non_inv hca
     cases hou with
     | skip hno _=>exact absurd rfl (hno _ _)
     | @own _ _ _ _ fp' _ _ _ fps0 hbx hrest=>
      obtain ⟨_,rfl⟩:=outs_dat (a:=0) (b:=b') hrest
      refine ⟨hv,?_⟩
      simp only [List.flatten_cons,List.flatten_nil,List.append_nil] at hbx bh
      have bh':Beh (upd (upd H1 dx (.own x)) x (.ins C dx [])) H' [x,dx] fp' O1:=⟨by
       have n1:=bh.nd
       rw [List.append_assoc] at n1
       obtain ⟨m1,m2,m3⟩:=List.nodup_append.mp n1
       exact List.nodup_append.mpr ⟨m1,ndO,fun a ha b hb=>m3 a ha b (List.mem_append_right _ hb)⟩,fun a ha=>bh.live a (List.mem_append_left _ ha),bh.keep,fun a ha=>bh.new a (List.mem_append_left _ ha)⟩
      obtain ⟨O3,t1,t2,t3,t4,t5⟩:=lift H' fp' bh'
      refine q1 (.ref x) H' O3 fp' ⟨t1,⟨x,rfl,hbx.keep (fun _ _=>rfl) (hide_more fun a ha=>?_)⟩,t5⟩ (s01.trans t2)
      rcases t4 a ha with z | z
      ·exact List.mem_append_left _ (List.mem_append_left _ z)
      ·exact List.mem_append_right _ z
 have hq:=h (s1.heap.objs.size + 1) s1.heap.objs.size (I1.hok.fresh (Nat.le_succ _)) (I1.hok.fresh (Nat.le_refl _)) (Nat.ne_of_lt (Nat.lt_succ_self _))
 have I2:=Inv.made (C:=C) I1
 have r2:Vals (V.ref (s1.heap.objs.size + 1) :: vs) (Value.ref (s1.heap.objs.size + 1) :: us):=.cons rfl r
 have hl:(Value.ref (s1.heap.objs.size + 1) :: us ++ []).length=ps.length:=by
  have e:=r2.length
  rw [G.len _ _ _ _ hq] at e
  rw [List.append_nil]
  exact e.symm
 refine wpAny_call (make_map (f:=g) I1.kIn M.makes M.init (beq_iff_eq.mp M.fn) (codeAny_mono (G.run _ X.stack _ _ ⟨Value.ref (s1.heap.objs.size + 1) :: us,[]⟩ (Value.ref (s1.heap.objs.size + 1) :: us) _ _ EX (hr.make C us [])
  (I2.env0.make C us []) (by have:=hb _ (Value.ref (s1.heap.objs.size + 1) :: us) I2.kIn hl; rw [List.append_nil] at this; exact this) r2 hq) fun r s' hq'=>?_))
 cases r with
 | error e=>
  obtain ⟨a,C',H',e1,I',cv,ex,c,ρ',O',hmc,st',hE⟩:=I2.flies hq'
  exact hx.2 pins σ H' s' e c ρ' O' ⟨I',a,C',_,_,e1,cv,ex,hmc⟩ st' hE
 | ok fl=>
  cases fl with
  | ret u=>
   obtain ⟨v,H',I3,rv,ev,q3⟩:=I2.after hq'
   subst ev
   exact ⟨rv,⟨V.ref (s1.heap.objs.size + 1),H',I3,rfl,q3⟩⟩
  | next=>exact False.elim hq'
  | brk=>exact False.elim hq'
  | cont=>exact False.elim hq'
end
end L2.L3
namespace L2.L3
open PySem PySem.Spec PyProof.Rows
section
variable {X:Cx} {F:Fx} {E:Str->DEnv->Prop} {e a b c:Expr} {es:List Expr} {st:Stmt} {pos p1 apos cpos fpos:Pos} {x f:Str} {C:Addr} {i:Nat} {m:XM PyData}
end
end L2.L3
namespace L2.L3
open PySem PySem.Spec PyProof.Rows
section
variable {X:Cx} {F:Fx} {E:Str->DEnv->Prop} {e a b c:Expr} {es:List Expr} {st:Stmt} {pos p1 apos cpos fpos:Pos} {x f:Str} {C:Addr} {i:Nat} {m:XM PyData}
end
end L2.L3
namespace L2.L3
open PySem PySem.Spec PyProof.Rows
theorem fls_new {G G' H H':Hp} {f:Str} {p:Addr} {y:Fl}:∀ {gs:List (Str × V)} {fs:List (Str × Fl)} {fps:List (List Addr)},FlsAt G H gs fs fps->fs.lookup f=none->Same G G'->(∀ c ∈ fps.flatten,H' c=H c)->FlAt G' H' (.ref p) y [p]->FlsAt G' H' (putF f (.ref p) gs) (putFl f y fs) (fps ++ [[p]])
 | _,_,_,.nil,_,_,_,h=>.cons h .nil
 | (n,v) :: gs,(_,z) :: fs,fp :: fps,.cons h1 h2,hl,g,k,h=>by
  by_cases e:f=n
  ·subst e
   simp [List.lookup] at hl
  ·have e':(f == n)=false:=by simpa using e
   rw [List.lookup_cons,e'] at hl
   unfold putF putFl
   rw [if_neg (fun z=>e z.symm),if_neg (fun z=>e z.symm)]
   exact .cons (h1.keep (fun c hc=>k c (by rw [List.flatten_cons]; exact List.mem_append_left _ hc)) g) (fls_new h2 hl g (fun c hc=>k c (by rw [List.flatten_cons]; exact List.mem_append_right _ hc)) h)
theorem DSt.fldNew {K:PySem.W.Frag} {F:Fx} {H:Hp} {σ:St} {ρ:DEnv} {O:List Addr} {C:Addr} {i:Nat} {io:Bool} {fs:List (Str × Fl)} {f:Str} (st:DSt K F H σ ρ O) (ho:asIo C ρ i=some (io,fs)) (lk:fs.lookup f=none) :
  ∃ a dx gs,σ[i]? = some (some (.ref a))/\H a=some (.ins C dx gs)/\gs.length=fs.length/\
   ∀ (p:Addr) (o':HO) (y:Fl),H p=none->Mv o'->(∀ G,Same (hide O H) G->FlAt G (upd (upd H p o') a (.ins C dx (putF f (.ref p) gs))) (.ref p) y [p])->upd H p o' a=some (.ins C dx gs)/\∃ O',DSt K F (upd (upd H p o') a (.ins C dx (putF f (.ref p) gs))) σ (ρ.set i (some (.own io (.o C (putFl f y fs))))) O'/\Stp O H O' (upd (upd H p o') a (.ins C dx (putF f (.ref p) gs))):=by
 obtain ⟨a,fp,hv0,⟨dx,gs,fps,e1,e2,e3,e4⟩,hO,nd,up⟩:=st.boxN (asIo_at ho)
 subst e1
 have nd':=nd
 rw [List.nodup_cons,List.nodup_cons] at nd'
 obtain ⟨na,ndx,nf⟩:=nd'
 have ad:dx ≠ a:=fun z=>na (by rw [z]; exact List.mem_cons_self)
 refine ⟨a,dx,gs,hv0,e2,e4.len,fun p o' y hp hM hf=>?_⟩
 have pa:a ≠ p:=fun z=>by subst z; rw [e2] at hp; cases hp
 have pd:dx ≠ p:=fun z=>by subst z; rw [e3] at hp; cases hp
 have liv:=st.live
 have pf:p ∉ fps.flatten:=fun z=>by
  exact absurd (hO p (List.mem_cons_of_mem _ (List.mem_cons_of_mem _ z))) (st.nofree p hp)
 refine ⟨by rw [upd_ne pa]; exact e2,?_⟩
 obtain ⟨O',st',s',_⟩:=up (upd (upd H p o') a (.ins C dx (putF f (.ref p) gs))) (.o C (putFl f y fs)) (a :: dx :: (fps ++ [[p]]).flatten) (fun c o hc e=>by
   rw [upd_ne (fun z=>hc (by simp [z])),upd_ne (fun z=>by subst z; rw [hp] at e; cases e)]; exact e) (by
   rw [List.flatten_append]
   simp only [List.flatten_cons,List.flatten_nil,List.append_nil]
   refine List.nodup_cons.mpr ⟨fun z=>?_,List.nodup_cons.mpr ⟨fun z=>?_,List.nodup_append.mpr ⟨nf,by simp,fun x hx y hy=>?_⟩⟩⟩
   ·rcases List.mem_cons.mp z with z | z
    ·exact ad z.symm
    ·rcases List.mem_append.mp z with z | z
     ·exact na (List.mem_cons_of_mem _ z)
     ·exact pa (List.mem_singleton.mp z)
   ·rcases List.mem_append.mp z with z | z
    ·exact ndx z
    ·exact pd (List.mem_singleton.mp z)
   ·rw [List.mem_singleton.mp hy]; exact fun z=>pf (by rw [<-z]; exact hx)) (fun c hc=>by
   rw [List.flatten_append] at hc
   simp only [List.flatten_cons,List.flatten_nil,List.append_nil] at hc
   rcases List.mem_cons.mp hc with rfl | hc
   ·exact .inl List.mem_cons_self
   ·rcases List.mem_cons.mp hc with rfl | hc
    ·exact .inl (by simp)
    ·rcases List.mem_append.mp hc with hc | hc
     ·exact .inl (List.mem_cons_of_mem _ (List.mem_cons_of_mem _ hc))
     ·exact .inr (by rw [List.mem_singleton.mp hc]; exact hp)) (fun G O' s hG _=>by
  subst hG
  refine ⟨s.hid,dx,putF f (.ref p) gs,fps ++ [[p]],rfl,upd_same,by rw [upd_ne ad,upd_ne pd]; exact e3,fls_new e4 lk s.hid (fun c hc=>?_) (hf _ s.hid)⟩
  rw [upd_ne (fun z=>na (by rw [<-z]; exact List.mem_cons_of_mem _ hc)),upd_ne (fun z=>pf (by rw [<-z]; exact hc))])
 exact ⟨O',st',s'⟩
section
variable {X:Cx} {F:Fx} {E:Str->DEnv->Prop} {e a b c:Expr} {es:List Expr} {st:Stmt} {pos p1 p2 apos cpos fpos pos':Pos} {x f:Str} {C:Addr} {i:Nat} {m:XM PyData}
noncomputable def sFldNew (C:Addr) (i:Nat) (f:Str) (y:Fl):SM:=fun ρ=>match asIo C ρ i with
 | some (io,fs)=>if fs.lookup f=none/\fs.length < 1000 then .nx (ρ.set i (some (.own io (.o C (putFl f y fs))))) else .bad
 | none=>.bad
theorem fs_fldnil (cl:Cls X.K C) (na:NoAttr X.K C f) (hv:PE X (.Name x p1) (tVar i)) (hs:swapsWith (.List [] p2) (some (.Attribute (.Name x p1) f pos')) pos.line X.env=pure false:=by rfl):FS X F E (.Assign [.Attribute (.Name x p1) f pos'] (.List [] p2) pos) (sFldNew C i f (.l [])):=
 (ps_fld hv (pe_lst pa_nil) hs).imp fun D σ H ⟨ρ,O,DD,st,q,fD⟩=>by
  unfold wpS sFldNew at q
  cases ho:asIo C ρ i with
  | none=>rw [ho] at q; exact q.elim
  | some p=>
   obtain ⟨io,fs⟩:=p
   rw [ho] at q
   simp only at q
   by_cases hc:fs.lookup f=none/\fs.length < 1000
   ·rw [if_pos hc] at q
    obtain ⟨a0,dx,gs,hv0,e2,hl,nw⟩:=st.fldNew ho hc.1
    refine ⟨Nat.zero_le _,fun p hp=>?_⟩
    have pa:a0 ≠ p:=fun z=>by subst z; rw [e2] at hp; cases hp
    obtain ⟨h1,O3,st3,s3⟩:=nw p (.lst []) (.l []) hp trivial (fun G g=>⟨p,[],rfl,rfl,by rw [upd_ne (fun z=>pa z.symm),upd_same],.nil⟩)
    exact ⟨_,hv0,a0,C,dx,gs,rfl,h1,cl,na,by rw [hl]; exact hc.2,fD.nx _ _ _ _ st3 s3 q⟩
   ·rw [if_neg hc] at q; exact q.elim
theorem fs_flddic (cl:Cls X.K C) (na:NoAttr X.K C f) (hv:PE X (.Name x p1) (tVar i)) (hs:swapsWith (.Dict [] [] p2) (some (.Attribute (.Name x p1) f pos')) pos.line X.env=pure false:=by rfl):FS X F E (.Assign [.Attribute (.Name x p1) f pos'] (.Dict [] [] p2) pos) (sFldNew C i f (.m true [])):=
 (ps_fld hv pe_dnewT hs).imp fun D σ H ⟨ρ,O,DD,st,q,fD⟩=>by
  unfold wpS sFldNew at q
  cases ho:asIo C ρ i with
  | none=>rw [ho] at q; exact q.elim
  | some p=>
   obtain ⟨io,fs⟩:=p
   rw [ho] at q
   simp only at q
   by_cases hc:fs.lookup f=none/\fs.length < 1000
   ·rw [if_pos hc] at q
    obtain ⟨a0,dx,gs,hv0,e2,hl,nw⟩:=st.fldNew ho hc.1
    intro p hp
    have pa:a0 ≠ p:=fun z=>by subst z; rw [e2] at hp; cases hp
    obtain ⟨h1,O3,st3,s3⟩:=nw p (.dT []) (.m true []) hp trivial (fun G g=>⟨p,rfl,rfl,[],by rw [upd_ne (fun z=>pa z.symm),upd_same],.nil⟩)
    exact ⟨_,hv0,a0,C,dx,gs,rfl,h1,cl,na,by rw [hl]; exact hc.2,fD.nx _ _ _ _ st3 s3 q⟩
   ·rw [if_neg hc] at q; exact q.elim
end
end L2.L3
namespace L2
open PySem
section
variable {prog:Program} {w:World} {A:Around} {E:Value->Shared->Prop} {s:Shared}
end
end L2
namespace L2.L3
open PySem PySem.Spec PyProof.Rows
section
variable {X:Cx} {F:Fx} {E:Str->DEnv->Prop} {pos p p1 kp kpos:Pos} {x:Str} {i:Nat}
end
end L2.L3
namespace L2
open PySem
section
variable {prog:Program} {w:World} {A:Around} {E:Value->Shared->Prop} {s:Shared}
end
section
variable {prog:Program} {w:World} {A:Around} {E:Value->Shared->Prop} {s:Shared}
end
section
variable {prog:Program} {w:World} {A:Around} {E:Value->Shared->Prop} {s:Shared}
end
end L2
namespace L2
open PySem PySem.Spec PyProof.Rows
section
variable {X:Cx} {elts:List Expr} {kk:Nat} {tpos:Pos}
end
end L2
namespace L2.L3
open PySem PySem.Spec PyProof.Rows
section
variable {K:PySem.W.Frag} {F:Fx} {own:List Str} {caps:List Nat} {s:DTI} {g:DTG} {tc:DTT} {te:DT}
end
section
variable {X:Cx} {F:Fx} {scope:Scope} {own capN:List Str} {caps:List Nat} {tg iter elt:Expr} {ifs:List Expr} {s:DTI} {g:DTG} {tc:DTT} {te:DT} {pos:Pos}
end
section
variable {X:Cx} {F:Fx} {E:Str->DEnv->Prop} {pos:Pos}
end
end L2.L3
namespace L2.L3
open PySem PySem.Spec PyProof.Rows
section
variable {K:PySem.W.Frag} {F:Fx} {own:List Str} {caps:List Nat} {s:DTI} {g:DTG} {tc:DTT} {te:DT}
theorem rd_cmpN {PF:Fx->Prop} (hP:∀ H1 σ ρ1 O1 O2,DSt K F H1 σ ρ1 O1->PF ⟨H1,[],O2,fun _=>0⟩) (hs:MnI s) (hg:∀ d ρ Q Q',(∀ ρ',Q ρ'->Q' ρ')->g d ρ Q->g d ρ Q') (ht:MnT tc) (he:Mn te):∀ (σ:St) (H:Hp) (Q:VK),(∃ ρ O,DSt K F H σ ρ O/\s ρ fun its ρ1=>∃ Iv:Nat->List PyData->DEnv->Prop,Iv 0 [] (liftD own caps ρ1)/\
   (∀ i d ys ρ',its[i]? = some d->Iv i ys ρ'->g d ρ' fun ρ2=>tc ρ2 fun b ρ3=>if b=true then te ρ3 fun y ρ4=>ys.length < sizeLine/\Iv (i + 1) (ys ++ [y]) ρ4 else Iv (i + 1) ys ρ3)/\
   ∀ ys ρ',Iv its.length ys ρ'->ys.length<=sizeLine/\∀ H' O' vs p,DSt K F H' σ ρ1 O'->Stp O H O' H'->DVs (hide O' H') vs ys->H' p=none->Q (.ref p) (upd H' p (.lst vs)))->
  tComp own caps (rdI K F s) (fun v σ H Q=>∃ F',PF F'/\rdG K F' g v σ H Q) (fun σ H Q=>∃ F',PF F'/\rdT K F' tc σ H Q) (fun σ H Q=>∃ F',PF F'/\rdE K F' te σ H Q) σ H Q:=fun σ H Q ⟨ρ,O,st,q⟩=>by
 refine ⟨ρ,O,st,hs _ _ _ (fun its ρ1 ⟨Iv,i0,step,fin⟩ J H1 O1 st1 s1 wk=>?_) q⟩
 refine ⟨fun i m ys σ' H'=>∃ ρ' O' ds,DSt K ⟨H1,[],O1,fun _=>0⟩ H' σ' ρ' O'/\Iv i ds ρ'/\DVs (hide O' H') ys ds/\i<=its.length/\m=its.length - i,⟨its.length,liftD own caps ρ1,O1,[],?_,i0,.nil,Nat.zero_le _,rfl⟩,?_⟩
 ·have cell:∀ (i:Nat) (c:Cell),(liftD own caps ρ1)[i]? = some (some c)->(∀ io b,c ≠ .own io b)/\∃ v,(liftC own caps σ)[i]? = some (some v)/\CellAt K H1 O1 v c []:=fun i c e=>by
   unfold liftD at e
   unfold liftC
   by_cases hi:i < own.length
   ·rw [List.getElem?_append_left (by simpa using hi),List.getElem?_map] at e
    cases h:own[i]? with
    | none=>rw [h] at e; cases e
    | some y=>rw [h] at e; cases e
   ·rw [List.getElem?_append_right (by simpa using Nat.le_of_not_lt hi),List.length_map,List.getElem?_map] at e
    rw [List.getElem?_append_right (by simpa using Nat.le_of_not_lt hi),List.length_map,List.getElem?_map]
    obtain ⟨j,h1,h2⟩:=Option.map_eq_some_iff.mp e
    rw [h1]
    show _/\∃ v,some ((σ[j]?).getD none)=some (some v)/\_
    cases h3:ρ1[j]? with
    | none=>rw [h3] at h2; cases h2
    | some o=>
     cases o with
     | none=>rw [h3] at h2; cases h2
     | some c'=>
      rw [h3] at h2
      obtain ⟨W,stw,rfl⟩:=id st1
      obtain ⟨v,fp,e1,_,e2⟩:=stw.at_ j c' h3
      rw [e1]
      cases c' with
      | dat d=>cases h2; exact ⟨(fun _ _ z=>by cases z),v,rfl,e2⟩
      | scr ns=>cases h2; exact ⟨(fun _ _ z=>by cases z),v,rfl,e2⟩
      | own _ _=>cases h2
      | exc _=>cases h2
      | vw b=>cases h2; exact ⟨(fun _ _ z=>by cases z),v,rfl,e2⟩
  obtain ⟨W,stw,hO1⟩:=id st1
  have ln:(liftD own caps ρ1).length=(liftC own caps σ).length:=by unfold liftD liftC; simp
  have fl:(List.replicate (liftD own caps ρ1).length ([]:List Addr)).flatten ++ O1=O1:=by rw [flat_rep]; rfl
  refine ⟨List.replicate (liftD own caps ρ1).length [],⟨fun i c e=>?_,by show (_ ++ O1).Nodup; rw [fl,hO1]; exact stw.nd,fun _ _ _ h=>h,fun a h=>?_,by show OOk H1 (_ ++ O1); rw [fl]; exact st1.live,ln,by simp,fun i b e=>absurd rfl ((cell i _ e).1 true b)⟩,fl.symm⟩
  ·obtain ⟨_,v,e1,e2⟩:=cell i c e
   refine ⟨v,[],e1,?_,by show CellAt K H1 (_ ++ O1) v c []; rw [fl]; exact e2⟩
   rw [List.getElem?_replicate,if_pos (List.getElem?_eq_some_iff.mp e).1]
  ·rw [flat_rep] at h; cases h
 ·rintro i m ys σ' H' ⟨ρ',O',ds,st',iv,dv,hi,rfl⟩
  have sm:Same H1 H':=fun b o e=>by obtain ⟨W',h',_⟩:=id st'; exact h'.kept b o (by simp) e
  have stp:Stp O1 H1 O' H':=⟨fun b o _ e=>sm b o e,fun a h=>by
   obtain ⟨W',h',rfl⟩:=id st'
   rcases List.mem_append.mp h with h | h
   ·exact (h'.new a h).elim (fun z=>absurd z (by simp)) .inr
   ·exact .inl h⟩
  have sub1:∀ a ∈ O1,a ∈ O':=fun a h=>by obtain ⟨W',h',rfl⟩:=id st'; exact List.mem_append_right _ h
  obtain ⟨w1,w2⟩:=wk O' H' stp st'.live
  by_cases hlt:i < its.length
  ·obtain ⟨go,yld⟩:=w1 i its[i] (List.getElem?_eq_getElem hlt)
   refine .inr ⟨go,fun x H2 hy=>?_⟩
   obtain ⟨sm2,dx⟩:=yld x H2 hy
   refine ⟨⟨H1,[],O1,fun _=>0⟩,hP _ _ _ _ _ st1,ρ',O',its[i],st'.grow sm2,dx,hg _ _ _ _ (fun ρ2 q2 σ3 H3 O3 st3 s3=>?_) (step i its[i] ds ρ' (List.getElem?_eq_getElem hlt) iv)⟩
   refine ⟨⟨H1,[],O1,fun _=>0⟩,hP _ _ _ _ _ st1,ρ2,O3,st3,ht _ _ _ (fun b ρ3 q3 H4 O4 st4 s4=>?_) q2⟩
   have d4:DVs (hide O4 H4) ys ds:=DVs.mono s4.hid (DVs.mono s3.hid (DVs.mono (hide_same sm2) dv))
   cases b with
   | false=>exact iteF ⟨its.length - (i + 1),by omega,ρ3,O4,ds,st4,ofF q3,d4,hlt,rfl⟩
   | true=>
    refine iteT ⟨⟨H1,[],O1,fun _=>0⟩,hP _ _ _ _ _ st1,ρ3,O4,st4,he _ _ _ (fun y ρ4 q4 v H5 O5 st5 s5 dy=>?_) (ofT q3)⟩
    refine ⟨by rw [d4.length]; exact q4.1,its.length - (i + 1),by omega,ρ4,O5,ds ++ [y],st5,q4.2,(DVs.mono s5.hid d4).append (.cons dy .nil),hlt,rfl⟩
  ·have e:i=its.length:=by omega
   subst e
   obtain ⟨hz,q⟩:=fin ds ρ' iv
   exact .inl ⟨w2,by rw [dv.length]; exact hz,fun p hp=>q H' O1 ys p (st1.grow sm) (s1.trans (.same sm)) (DVs.mono (hide_more sub1) dv) hp⟩
end
section
variable {X:Cx} {F:Fx} {E:Str->DEnv->Prop} {pos:Pos}
theorem comp_of2 {own:List Str} {caps:List Nat} {s:XM (List PyData)} {g:GM} {t:XM Bool} {m:XM PyData} {ρ:DEnv} {P:List PyData->DEnv->Prop} (q:wp E s ρ fun its ρ1=>∃ ys,compGo g t m its [] (liftE own.length caps ρ1)=some ys/\ys.length<=sizeLine/\P ys ρ1) :
  wp E s ρ fun its ρ1=>∃ Iv:Nat->List PyData->DEnv->Prop,Iv 0 [] (liftD own caps ρ1)/\
   (∀ i d ys ρ',its[i]? = some d->Iv i ys ρ'->wpG g d ρ' fun ρ2=>wp E0' t ρ2 fun b ρ3=>if b=true then wp E0' m ρ3 fun y ρ4=>ys.length < sizeLine/\Iv (i + 1) (ys ++ [y]) ρ4 else Iv (i + 1) ys ρ3)/\
   ∀ ys ρ',Iv its.length ys ρ'->ys.length<=sizeLine/\P ys ρ1:=mn_wp _ _ _ (fun its ρ1 ⟨ys0,e2,hl,hP⟩=>by
 have eL:liftD own caps ρ1=liftE own.length caps ρ1:=by
  unfold liftD liftE
  rw [List.map_const']
 refine ⟨fun i ys ρ=>compGo g t m (its.drop i) ys ρ=some ys0,by rw [eL]; exact e2,fun i d ys ρ hd hi=>?_,fun ys ρ h=>?_⟩
 ·have e:its.drop i=d :: its.drop (i + 1):=by
   obtain ⟨hlt,he⟩:=List.getElem?_eq_some_iff.mp hd
   rw [<-he]
   exact List.drop_eq_getElem_cons hlt
  simp only [e] at hi
  unfold compGo at hi
  unfold wpG
  cases hg:g d ρ with
  | none=>rw [hg] at hi; cases hi
  | some ρ2=>
   rw [hg] at hi
   simp only at hi ⊢
   unfold wp
   cases ht:t ρ2 with
   | ex c ρ3=>rw [ht] at hi; cases hi
   | bad=>rw [ht] at hi; cases hi
   | ok b ρ3=>
    rw [ht] at hi
    cases b with
    | false=>exact iteF hi
    | true=>
     refine iteT ?_
     simp only at hi ⊢
     cases hm:m ρ3 with
     | ex c ρ4=>rw [hm] at hi; cases hi
     | bad=>rw [hm] at hi; cases hi
     | ok y' ρ4=>
      rw [hm] at hi
      simp only at hi ⊢
      split at hi
      ·rename_i h; exact ⟨h,hi⟩
      ·cases hi
 ·simp only [List.drop_length] at h
  have:ys=ys0:=by unfold compGo at h; exact Option.some.inj h
  subst this
  exact ⟨hl,hP⟩) q
noncomputable def fldCmpK (C:Addr) (i:Nat) (f:Str) (own:Nat) (caps:List Nat) (g:GM) (t:XM Bool) (m:XM PyData) (its:List PyData):SM:=fun ρ=>match compGo g t m its [] (liftE own caps ρ),asIo C ρ i with
 | some ys,some (io,fs)=>if ys.length<=sizeLine/\fs.lookup f=none/\fs.length < 1000 then .nx (ρ.set i (some (.own io (.o C (putFl f (.l ys) fs))))) else .bad
 | _,_=>.bad
noncomputable def sFldCmp (C:Addr) (i:Nat) (f:Str) (own:Nat) (caps:List Nat) (s:XM (List PyData)) (g:GM) (t:XM Bool) (m:XM PyData):SM:=fun ρ=>ofX (s ρ) (fldCmpK C i f own caps g t m)
theorem fs_fldcomp {C:Addr} {i:Nat} {f x:Str} {p1 pos' spos:Pos} {scope:Scope} {own capN:List Str} {caps:List Nat} {tg iter elt:Expr} {ifs:List Expr} {s:XM (List PyData)} {g:GM} {t:XM Bool} {m:XM PyData} {n:Nat} (cl:Cls X.K C) (na:NoAttr X.K C f) (hv:PE X (.Name x p1) (tVar i)) (hG:GF X.mg F) (S:CompScope X scope own capN caps) (hc:X.calm=true) (hn:own.length=n) (hi:FI X F E tg iter s)
  (hin:∀ C fp s₂ H₂ pl F',GF X.mg F'->FG (compCx X scope (own ++ capN) C fp s₂ H₂ pl) F' tg g/\FBs (compCx X scope (own ++ capN) C fp s₂ H₂ pl) F' E0' ifs t/\FE (compCx X scope (own ++ capN) C fp s₂ H₂ pl) F' E0' elt m)
  (hsw:swapsWith (.ListComp elt [⟨tg,iter,ifs,0⟩] scope pos) (some (.Attribute (.Name x p1) f pos')) spos.line X.env=pure false:=by rfl)
  (hs:∀ x,foldedSetIterable iter X.env x=pure x:=by intro _; rfl):FS X F E (.Assign [.Attribute (.Name x p1) f pos'] (.ListComp elt [⟨tg,iter,ifs,0⟩] scope pos) spos) (sFldCmp C i f n caps s g t m):=by
 subst hn
 obtain ⟨hg,ht,he⟩:=hin 0 [] (PySem.start X.prog).1 (fun _=>none) [] F hG
 have pe:PE X (.ListComp elt [⟨tg,iter,ifs,0⟩] scope pos) (tComp own caps (rdI X.K F (wp E s)) (fun v σ H Q=>∃ F',GF X.mg F'/\rdG X.K F' (wpG g) v σ H Q) (fun σ H Q=>∃ F',GF X.mg F'/\rdT X.K F' (wp E0' t) σ H Q) (fun σ H Q=>∃ F',GF X.mg F'/\rdE X.K F' (wp E0' m) σ H Q)):=pe_comp S hc hi.pi (fun C fp s₂ H₂ pl=>⟨fun pins s σ H v u Q I r ⟨F',g',q⟩=>(hin C fp s₂ H₂ pl F' g').1.pg pins s σ H v u Q I r q,fun pins s σ H Q I ⟨F',g',q⟩=>(hin C fp s₂ H₂ pl F' g').2.1.2 pins s σ H Q I q,fun pins s σ H Q I ⟨F',g',q⟩=>(hin C fp s₂ H₂ pl F' g').2.2.pe pins s σ H Q I q⟩) hs
 refine (ps_fld hv pe hsw).imp fun D σ H ⟨ρ,O,DD,st,q,fD⟩=>?_
 refine rd_cmpN (fun _ _ _ _ _ st=>hG.into st) hi.mn hg.mn ht.1 he.mn σ H _ ⟨ρ,O,st,comp_of2 (mn_wp _ _ _ (fun its ρ1 q1=>?_) (wpS_ofX (m:=s) (k:=fldCmpK C i f own.length caps g t m) q))⟩
 unfold wpS fldCmpK at q1
 cases hys:compGo g t m its [] (liftE own.length caps ρ1) with
 | none=>rw [hys] at q1; exact q1.elim
 | some ys=>
  cases ho:asIo C ρ1 i with
  | none=>rw [hys,ho] at q1; exact q1.elim
  | some p=>
   obtain ⟨io,fs⟩:=p
   rw [hys,ho] at q1
   simp only at q1
   by_cases hcnd:ys.length<=sizeLine/\fs.lookup f=none/\fs.length < 1000
   ·rw [if_pos hcnd] at q1
    refine ⟨ys,rfl,hcnd.1,fun H' O' vs p st' s' dv hp=>?_⟩
    obtain ⟨a0,dx,gs,hv0,e2,hl,nw⟩:=st'.fldNew ho hcnd.2.1
    have pa:a0 ≠ p:=fun z=>by subst z; rw [e2] at hp; cases hp
    obtain ⟨h1,O3,st3,s3⟩:=nw p (.lst vs) (.l ys) hp trivial (fun G gg=>⟨p,vs,rfl,rfl,by rw [upd_ne (fun z=>pa z.symm),upd_same],DVs.mono gg dv⟩)
    exact ⟨_,hv0,a0,C,dx,gs,rfl,h1,cl,na,by rw [hl]; exact hcnd.2.2,fD.nx _ _ _ _ st3 (s'.trans s3) q1⟩
   ·rw [if_neg hcnd] at q1; exact q1.elim
end
end L2.L3
namespace L2
open PySem PyProof.Rows
section
variable {prog:Program} {w:World} {A:Around} {R:Result->Shared->Prop} {E:Value->Shared->Prop} {s:Shared} {h0:Heap} {I l S:Addr} {its:Array Value} {rows:List (List Int)} {d:Value}
end
end L2
namespace L2.L3
open PySem PySem.Spec PyProof.Rows
noncomputable def intsOf:List PyData->Option (List Int)
 | []=>some []
 | .int i :: r=>(intsOf r).map (i :: ·)
 | _=>none
noncomputable def rowsOf:List PyData->Option (List (List Int))
 | []=>some []
 | .tuple ds :: r=>(match intsOf ds,rowsOf r with | some x,some y=>some (x :: y) | _,_=>none)
 | _=>none
theorem intsOf_eq:∀ {ds:List PyData} {ns:List Int},intsOf ds=some ns->ds=ns.map PyData.int
 | [],ns,h=>by cases h; rfl
 | .int i :: r,ns,h=>by
  unfold intsOf at h
  obtain ⟨m,h1,h2⟩:=Option.map_eq_some_iff.mp h
  subst h2
  rw [intsOf_eq h1]; rfl
 | .none :: _,_,h=>by cases h
 | .bool _ :: _,_,h=>by cases h
 | .str _ :: _,_,h=>by cases h
 | .list _ :: _,_,h=>by cases h
 | .tuple _ :: _,_,h=>by cases h
 | .dict _ :: _,_,h=>by cases h
theorem rowsOf_eq:∀ {ds:List PyData} {rs:List (List Int)},rowsOf ds=some rs->ds=rs.map fun r=>PyData.tuple (r.map PyData.int)
 | [],rs,h=>by cases h; rfl
 | .tuple l :: r,rs,h=>by
  unfold rowsOf at h
  cases h1:intsOf l with
  | none=>rw [h1] at h; cases h
  | some x=>
   cases h2:rowsOf r with
   | none=>rw [h1,h2] at h; cases h
   | some y=>
    rw [h1,h2] at h
    cases h
    rw [rowsOf_eq h2,intsOf_eq h1]; rfl
 | .none :: _,_,h=>by cases h
 | .bool _ :: _,_,h=>by cases h
 | .str _ :: _,_,h=>by cases h
 | .list _ :: _,_,h=>by cases h
 | .int _ :: _,_,h=>by cases h
 | .dict _ :: _,_,h=>by cases h
theorem dvs_ints {H:Hp}:∀ {vs:List V} {ns:List Int},DVs H vs (ns.map PyData.int)->vs=ns.map V.int
 | _,[],.nil=>rfl
 | _,n :: ns,.cons h t=>by rw [h.int_inv,dvs_ints t]; rfl
theorem ints_are:∀ {ns:List Int} {us:List Value},Vals (ns.map V.int) us->IntsAre us ns
 | [],_,.nil=>.nil
 | n :: ns,_,.cons r t=>by
  obtain ⟨tk,rfl⟩:=r
  exact .cons n tk (ints_are t)
section
variable {X:Cx} {F:Fx} {E:Str->DEnv->Prop} {pos p p1 kp kpos:Pos} {x:Str} {i:Nat}
end
end L2.L3
namespace L2.L3
open PySem PySem.Spec PyProof.Rows
structure MD (K:PySem.W.Frag) (C:Addr) (m qual:Str) (st:Stmt) (ps:List Str) (g:Addr) (fd:FuncData):Prop where
 fn:Fun K m qual st g fd
 mt:Meth K C m g
 b:Binds K fd ps []
theorem scm {N P:List Str} {sc:Scope} (h1:sc.kind=.function:=by rfl) (h2:sc.isCoroutine=false:=by rfl) (h3:sc.isGenerator=false:=by rfl) (h4:N.Nodup:=by decide +kernel) (h5:N.take P.length=P:=by rfl) (h6:∀ x ∈ P,sc.names.lookup x=some .local\/sc.names.lookup x=some .cell:=by decide +kernel) (h7:∀ y ∈ sc.names,y.2 ≠ .free:=by decide +kernel):FnScope N P sc:=⟨h1,h2,h3,h4,h5,h6,h7⟩
section
variable {X:Cx} {F:Fx} {E:Str->DEnv->Prop} {e:Expr} {es:List Expr} {pos p p1 apos:Pos} {x m q:Str} {C:Addr} {i k j:Nat} {g:Addr} {fd:FuncData} {ps:List Str} {f:FM} {st:Stmt} {mX:XM (List AX)}
theorem fv (i:Nat) (hN:X.N[i]? = some x:=by rfl) (hv:Vis X.env.scope x:=by first | exact Or.inl rfl | exact Or.inr (Or.inl rfl) | exact Or.inr (Or.inr rfl)) (hd:(x == ("__debug__":Str))=false:=by decide) (hcd:(x == ("__classdict__":Str))=false:=by decide):FE X F E (.Name x pos) (xV i):=fe_v (de_var i (pv i hN hv hd hcd))
theorem fgn (i:Nat) (hN:X.N.Nodup) (hi:X.N[i]? = some x:=by rfl) (hx:Loc X.env.scope x:=by first | exact Or.inl rfl | exact Or.inr rfl) (hf:X.fn x=true\/X.env.scope.names.lookup x=some .local:=by first | exact .inl rfl | exact .inr rfl | assumption):FG X F (.Name x pos) (gNm i):=fg_name (dg_name (pg_name hN hi hx hf))
theorem fcd (hx:XOk X F E) (G:FnOk X.prog X.w X.K X.mg X.base (CXM X.prog X.w) k g fd ps (spF X.K X.mg f)) (D:FD X.K X.mg x st ps g fd) (hr:Room j X.A) (ha:FX X F E (e :: es) mX) (hk:k<=j:=by decide) (hg:Gl X x:=by rfl) (hdb:(x == ("__debug__":Str))=false:=by decide)
  (he:starEach (e :: es) X.env=(false,eval e X.env) :: starEach es X.env:=by rfl) (hpl:(backTo pos (starEach es X.env)).any (·.1)=false:=by rfl):FO X F E (.Call (.Name x p) (e :: es) [] pos) (xCall f mX):=fo_call (do_call hx G (hr.mono hk) hg D.mgf D.fn.kp D.b ha hdb he hpl)
theorem fmd0 {pl:Sem Bool} (hx:XOk X F E) (cl:Cls X.K C) (G:FnOk X.prog X.w X.K X.mg X.base (CXM X.prog X.w) k g fd ps (spF X.K X.mg f)) (D:MD X.K C m q st ps g fd) (hr:Room j X.A) (hv:PE X (.Name x p1) (tVar i)) (hk:k<=j:=by decide)
  (ht:eval (.Call (.Attribute (.Name x p1) m apos) [] [] pos) X.env=(do
   let ov <-eval (.Name x p1) X.env
   standAt apos.atName
   let (f,first) <-holding [ov] (getMethod ov m pl)
   callWith pos f first (backTo pos (starEach [] X.env)) (backToKw pos (keywordEach [] X.env))):=by rfl) :
  FO X F E (.Call (.Attribute (.Name x p1) m apos) [] [] pos) (xMeth0 C i m f):=fo_meth0 hx cl D.mt G (hr.mono hk) D.b hv ht
end
end L2.L3
namespace HT
open PySem PyProof.Rows
section
variable {prog:Program} {w:World} {A:Around} {E:Value->Shared->Prop} {s:Shared}
end
end HT
namespace L2
open PySem PySem.Spec PyProof.Rows
section
variable {X:Cx}
end
end L2
namespace L2.L3
open PySem PySem.Spec PyProof.Rows
section
variable {X:Cx} {F:Fx} {E:Str->DEnv->Prop} {e:Expr} {pos p2:Pos} {lo hi:Option Expr}
end
end L2.L3
namespace L2.L3
open PySem PySem.Spec PyProof.Rows
section
variable {X:Cx} {F:Fx} {E:Str->DEnv->Prop} {e:Expr} {es:List Expr} {pos p1 apos cpos p:Pos} {x m q:Str} {C:Addr} {i k j:Nat} {g:Addr} {fd:FuncData} {ps:List Str} {f f0:FM} {st:Stmt}
end
end L2.L3
namespace L2.L3
open PySem PySem.Spec PyProof.Rows
section
variable {X:Cx} {F:Fx} {a b:Expr} {ta tb:DT} {pos:Pos}
end
end L2.L3
namespace L2
open PySem PySem.Spec PyProof.Rows
section
variable {X:Cx} {a b:Expr} {t:TA} {pos pos2 p1 p2:Pos}
end
end L2
namespace L2.L3
open PySem PySem.Spec PyProof.Rows
section
variable {X:Cx} {F:Fx} {E:Str->DEnv->Prop} {a b e:Expr} {tA:DTA} {pos pos2 p1 p2:Pos}
end
end L2.L3
namespace L2.TS
open PySem PyProof.Rows
section
variable {α:Type} {le:α->α->Bool}
theorem mg_front {as bs:List α} {b:α}:∀ {xs:List α},(∀ x ∈ xs,le x b=true)->List.merge (xs ++ as) (b :: bs) le=xs ++ List.merge as (b :: bs) le
 | [],_=>rfl
 | x :: xs,h=>by
  rw [List.cons_append,List.cons_merge_cons,if_pos (h x List.mem_cons_self),mg_front fun y hy=>h y (List.mem_cons_of_mem _ hy)]; rfl
theorem mg_frontB {as bs:List α} {a:α}:∀ {ys:List α},(∀ y ∈ ys,le a y=false)->List.merge (a :: as) (ys ++ bs) le=ys ++ List.merge (a :: as) bs le
 | [],_=>rfl
 | y :: ys,h=>by
  rw [List.cons_append,List.cons_merge_cons,if_neg (by rw [h y List.mem_cons_self]; exact Bool.false_ne_true),mg_frontB fun z hz=>h z (List.mem_cons_of_mem _ hz)]; rfl
theorem mg_all {xs bs:List α} (h:∀ y ∈ bs,∀ x ∈ xs,le x y=false):List.merge xs bs le=bs ++ xs:=by
 cases xs with
 | nil=>simp
 | cons x xs=>
  have:=mg_frontB (le:=le) (as:=xs) (bs:=[]) (a:=x) (ys:=bs) fun y hy=>h y hy x List.mem_cons_self
  rw [List.append_nil,List.merge_right] at this
  exact this
theorem mg_allB {as ys:List α} (h:∀ x ∈ as,∀ y ∈ ys,le x y=true):List.merge as ys le=as ++ ys:=by
 cases ys with
 | nil=>simp
 | cons y ys=>
  have:=mg_front (le:=le) (as:=[]) (bs:=ys) (b:=y) (xs:=as) fun x hx=>h x hx y List.mem_cons_self
  simpa using this
theorem mg_backA {xs:List α}:∀ (as bs:List α),(∀ y ∈ bs,∀ x ∈ xs,le x y=false)->List.merge (as ++ xs) bs le=List.merge as bs le ++ xs
 | [],bs,h=>by simpa using mg_all h
 | a :: as,[],h=>by simp
 | a :: as,b :: bs,h=>by
  rw [List.cons_append,List.cons_merge_cons,List.cons_merge_cons]
  split
  ·rw [mg_backA as (b :: bs) h]; rfl
  ·rw [<-List.cons_append,mg_backA (a :: as) bs fun y hy=>h y (List.mem_cons_of_mem _ hy)]; rfl
termination_by as bs=>as.length + bs.length
theorem mg_backB {ys:List α}:∀ (as bs:List α),(∀ x ∈ as,∀ y ∈ ys,le x y=true)->List.merge as (bs ++ ys) le=List.merge as bs le ++ ys
 | as,[],h=>by simpa using mg_allB h
 | [],b :: bs,h=>by simp
 | a :: as,b :: bs,h=>by
  rw [List.cons_append,List.cons_merge_cons,List.cons_merge_cons]
  split
  ·rw [<-List.cons_append,mg_backB as (b :: bs) fun x hx=>h x (List.mem_cons_of_mem _ hx)]; rfl
  ·rw [mg_backB (a :: as) bs h]; rfl
termination_by as bs=>as.length + bs.length
end
noncomputable def gal':Bool->Keyed->Array Keyed->Nat->Nat->Nat->StateT SortSt Sem (Option Nat):=sortPriv% PySem.Builtin.gallop
noncomputable def bey (lf:Bool) (ky:Keyed) (ar:Array Keyed) (bs i:Nat):StateT SortSt Sem (Option Bool):=do
 let x <-elem' ar (bs + i)
 if lf then lt' x ky else return (<-lt' ky x).map (!·)
noncomputable def galT (lf:Bool) (ky:Keyed) (ar:Array Keyed) (bs n l0 h0:Nat):StateT SortSt Sem (Option Nat):=do
 let mut lo:=l0
 let mut hi:=h0
 for _ in [0:n] do
  if lo ≥ hi then break
  let m:=lo + (hi - lo) / 2
  let some mo <-bey lf ky ar bs m | return none
  if mo then lo:=m + 1 else hi:=m
 return some hi
theorem gal'_eq (lf:Bool) (ky:Keyed) (ar:Array Keyed) (bs n hn:Nat):gal' lf ky ar bs n hn=(do
 let mut la:=0
 let mut of:=1
 let some rt <-bey lf ky ar bs hn | return none
 if rt then
  for _ in [0:n] do
   if of ≥ n - hn then break
   let some mo <-bey lf ky ar bs (hn + of) | return none
   if !mo then break
   la:=of
   of:=2 * of + 1
  galT lf ky ar bs n (hn + la + 1) (hn + min of (n - hn))
 else
  for _ in [0:n] do
   if of ≥ hn + 1 then break
   let some fd <-bey lf ky ar bs (hn - of) | return none
   if fd then break
   la:=of
   of:=2 * of + 1
  galT lf ky ar bs n (hn + 1 - min of (hn + 1)) (hn - la)):=rfl
section
variable {prog:Program} {w:World} {A:Around} {E:Value->Shared->Prop} {s:Shared} {le:Keyed->Keyed->Bool} {κ:SortKind} {S:Keyed->Prop}
noncomputable def LtOK (prog:Program) (w:World) (A:Around) (E:Value->Shared->Prop) (s:Shared) (le:Keyed->Keyed->Bool) (κ:SortKind) (S:Keyed->Prop):Prop:=
 ∀ x y,S x->S y->∀ (Q:Option Bool->SortSt->Prop) (st:SortSt),kindOf st=κ->Q (some (!le y x)) st->wpS (model prog w) A E s (lt' x y) Q st
theorem wpS_elem {ar:Array Keyed} {i:Nat} {x:Keyed} {Q:Keyed->SortSt->Prop} {st:SortSt} (h:ar[i]? = some x) (q:Q x st):wpS (model prog w) A E s (elem' ar i) Q st:=by
 rw [elem'_eq,h]; exact wpS_pure q
noncomputable def beyP (le:Keyed->Keyed->Bool) (lf:Bool) (ky x:Keyed):Bool:=if lf then !le ky x else le x ky
theorem wpS_bey (hL:LtOK prog w A E s le κ S) {lf:Bool} {ky x:Keyed} {ar:Array Keyed} {bs i:Nat} {Q:Option Bool->SortSt->Prop} {st:SortSt} (hk:kindOf st=κ) (hx:ar[bs + i]? = some x) (sx:S x) (sk:S ky)
  (q:Q (some (beyP le lf ky x)) st):wpS (model prog w) A E s (bey lf ky ar bs i) Q st:=by
 unfold bey
 refine wpS_bind (wpS_elem hx ?_)
 cases lf with
 | true=>exact hL x ky sx sk Q st hk q
 | false=>exact wpS_bind (hL ky x sk sx _ st hk (wpS_pure (by simpa [beyP] using q)))
variable {p:Nat->Bool} {lf:Bool} {ky:Keyed} {ar:Array Keyed} {bs n:Nat} {Q:Option Nat->SortSt->Prop} {st:SortSt}
theorem wpS_galT (hL:LtOK prog w A E s le κ S) (hk:kindOf st=κ) (sk:S ky) (hin:∀ i,i < n->∃ x,ar[bs + i]? = some x/\S x/\beyP le lf ky x=p i) (mono:∀ i j,i<=j->j < n->p j=true->p i=true)
  (h:∀ k,k<=n->(∀ i,i < k->p i=true)->(∀ i,k<=i->i < n->p i=false)->Q (some k) st) {l0 h0:Nat} (hlh:l0<=h0) (hn:h0<=n) (h1:∀ i,i < l0->p i=true) (h2:∀ i,h0<=i->i < n->p i=false) :
  wpS (model prog w) A E s (galT lf ky ar bs n l0 h0) Q st:=by
 unfold galT
 dsimp only
 refine wpS_bind (wpS_mono (wpS_forRange (I:=fun x c st'=>st' = st/\∃ lo hi,c=(none,lo,hi)/\lo<=hi/\hi<=n/\hi - lo<=n - x/\(∀ i,i < lo->p i=true)/\(∀ i,hi<=i->i < n->p i=false))
  (Q:=fun c st'=>st' = st/\∃ k,c=(none,k,k)/\k<=n/\(∀ i,i < k->p i=true)/\(∀ i,k<=i->i < n->p i=false)) ?_ ?_ ⟨rfl,l0,h0,rfl,hlh,hn,by omega,h1,h2⟩) ?_)
 ·rintro x c st' _ hx ⟨rfl,lo,hi,rfl,a1,a2,a3,a4,a5⟩
  dsimp only
  by_cases hge:lo ≥ hi
  ·rw [if_pos hge]
   have:lo=hi:=by omega
   subst this
   exact wpS_pure ⟨rfl,lo,rfl,a2,a4,a5⟩
  ·rw [if_neg hge]
   obtain ⟨x,e1,e2,e3⟩:=hin (lo + (hi - lo) / 2) (by omega)
   refine wpS_bind (wpS_bey hL hk e1 e2 sk ?_)
   rw [e3]
   cases e:p (lo + (hi - lo) / 2) with
   | true=>exact wpS_pure ⟨rfl,_,_,rfl,by omega,a2,by omega,fun i hi'=>mono i _ (by omega) (by omega) e,a5⟩
   | false=>
    refine wpS_pure ⟨rfl,_,_,rfl,by omega,by omega,by omega,a4,fun i h3 h4=>?_⟩
    cases e':p i with
    | false=>rfl
    | true=>rw [mono _ i h3 h4 e'] at e; cases e
 ·rintro c st' ⟨rfl,lo,hi,rfl,a1,a2,a3,a4,a5⟩
  have:lo=hi:=by omega
  subst this
  exact ⟨rfl,lo,rfl,a2,a4,a5⟩
 ·rintro c st' ⟨rfl,k,rfl,a2,a4,a5⟩
  exact wpS_pure (h k a2 a4 a5)
theorem wpS_gal (hL:LtOK prog w A E s le κ S) (hk:kindOf st=κ) (sk:S ky) (hin:∀ i,i < n->∃ x,ar[bs + i]? = some x/\S x/\beyP le lf ky x=p i) (mono:∀ i j,i<=j->j < n->p j=true->p i=true)
  (h:∀ k,k<=n->(∀ i,i < k->p i=true)->(∀ i,k<=i->i < n->p i=false)->Q (some k) st) {hn:Nat} (hh:hn < n) :
  wpS (model prog w) A E s (gal' lf ky ar bs n hn) Q st:=by
 rw [gal'_eq]
 have anti:∀ i j,i<=j->j < n->p i=false->p j=false:=fun i j h3 h4 e=>by
  cases e':p j with
  | false=>rfl
  | true=>rw [mono i j h3 h4 e'] at e; cases e
 obtain ⟨x,e1,e2,e3⟩:=hin hn hh
 refine wpS_bind (wpS_bey hL hk e1 e2 sk ?_)
 rw [e3]
 dsimp only
 cases e:p hn with
 | true=>
  rw [if_pos rfl]
  refine wpS_bind (wpS_mono (wpS_forRange (I:=fun x c st'=>st' = st/\∃ la of,c=(none,la,of)/\la < of/\x + 1<=of/\hn + la < n/\p (hn + la)=true)
   (Q:=fun c st'=>st' = st/\∃ la of,c=(none,la,of)/\la < of/\hn + la < n/\p (hn + la)=true/\(n - hn<=of\/(hn + of < n/\p (hn + of)=false))) ?_ ?_ ⟨rfl,0,1,rfl,by omega,by omega,by omega,e⟩) ?_)
  ·rintro x c st' _ hx ⟨rfl,la,of,rfl,a1,a2,a3,a4⟩
   dsimp only
   by_cases hge:of ≥ n - hn
   ·rw [if_pos hge]
    exact wpS_pure ⟨rfl,la,of,rfl,a1,a3,a4,.inl hge⟩
   ·rw [if_neg hge]
    obtain ⟨x,e1,e2,e3⟩:=hin (hn + of) (by omega)
    refine wpS_bind (wpS_bey hL hk e1 e2 sk ?_)
    rw [e3]
    cases e:p (hn + of) with
    | true=>exact wpS_pure ⟨rfl,of,_,rfl,by omega,by omega,by omega,e⟩
    | false=>exact wpS_pure ⟨rfl,la,of,rfl,a1,a3,a4,.inr ⟨by omega,e⟩⟩
  ·rintro c st' ⟨rfl,la,of,rfl,a1,a2,a3,a4⟩
   exact ⟨rfl,la,of,rfl,a1,a3,a4,.inl (by omega)⟩
  ·rintro c st' ⟨rfl,la,of,rfl,a1,a3,a4,a5⟩
   dsimp only
   refine wpS_galT hL hk sk hin mono h (by omega) (by omega) (fun i hi=>mono i _ (by omega) a3 a4) (fun i h3 h4=>?_)
   rcases a5 with a5 | ⟨a5,a6⟩
   ·omega
   ·exact anti _ i (by omega) h4 a6
 | false=>
  rw [if_neg Bool.false_ne_true]
  refine wpS_bind (wpS_mono (wpS_forRange (I:=fun x c st'=>st' = st/\∃ la of,c=(none,la,of)/\la < of/\x + 1<=of/\la<=hn/\p (hn - la)=false)
   (Q:=fun c st'=>st' = st/\∃ la of,c=(none,la,of)/\la < of/\la<=hn/\p (hn - la)=false/\(hn + 1<=of\/(of<=hn/\p (hn - of)=true))) ?_ ?_ ⟨rfl,0,1,rfl,by omega,by omega,by omega,e⟩) ?_)
  ·rintro x c st' _ hx ⟨rfl,la,of,rfl,a1,a2,a3,a4⟩
   dsimp only
   by_cases hge:of ≥ hn + 1
   ·rw [if_pos hge]
    exact wpS_pure ⟨rfl,la,of,rfl,a1,a3,a4,.inl hge⟩
   ·rw [if_neg hge]
    obtain ⟨x,e1,e2,e3⟩:=hin (hn - of) (by omega)
    refine wpS_bind (wpS_bey hL hk e1 e2 sk ?_)
    rw [e3]
    cases e:p (hn - of) with
    | false=>exact wpS_pure ⟨rfl,of,_,rfl,by omega,by omega,by omega,e⟩
    | true=>exact wpS_pure ⟨rfl,la,of,rfl,a1,a3,a4,.inr ⟨by omega,e⟩⟩
  ·rintro c st' ⟨rfl,la,of,rfl,a1,a2,a3,a4⟩
   exact ⟨rfl,la,of,rfl,a1,a3,a4,.inl (by omega)⟩
  ·rintro c st' ⟨rfl,la,of,rfl,a1,a3,a4,a5⟩
   dsimp only
   refine wpS_galT hL hk sk hin mono h (by omega) (by omega) (fun i hi=>?_) (fun i h3 h4=>anti _ i h3 h4 a4)
   rcases a5 with a5 | ⟨a5,a6⟩
   ·omega
   ·exact mono i _ (by omega) (by omega) a6
theorem wpS_galS (hL:LtOK prog w A E s le κ S) (tr:∀ x y z,le x y=true->le y z=true->le x z=true) (hk:kindOf st=κ) (sk:S ky) (hS:∀ (i:Nat) (x:Keyed),ar[i]? = some x->S x) (hsz:bs + n<=ar.size)
  (so:∀ (i j:Nat) (x y:Keyed),bs<=i->i<=j->j < bs + n->ar[i]? = some x->ar[j]? = some y->le x y=true)
  (h:∀ k,k<=n->(∀ (i:Nat),i < k->∀ x:Keyed,ar[bs + i]? = some x->beyP le lf ky x=true)->(∀ (i:Nat),k<=i->i < n->∀ x:Keyed,ar[bs + i]? = some x->beyP le lf ky x=false)->Q (some k) st) {hn:Nat} (hh:hn < n) :
  wpS (model prog w) A E s (gal' lf ky ar bs n hn) Q st:=by
 refine wpS_gal (p:=fun i=>match ar[bs + i]? with | some x=>beyP le lf ky x | none=>false) hL hk sk (fun i hi=>?_) (fun i j hij hj e=>?_) (fun k hk1 h1 h2=>h k hk1 (fun i hi x e=>?_) (fun i h3 h4 x e=>?_)) hh
 ·have e:ar[bs + i]? = some (ar[bs + i]'(by omega)):=getElem?_pos _ _ (by omega)
  exact ⟨_,e,hS _ _ e,by simp only [e]⟩
 ·have e1:ar[bs + i]? = some (ar[bs + i]'(by omega)):=getElem?_pos _ _ (by omega)
  have e2:ar[bs + j]? = some (ar[bs + j]'(by omega)):=getElem?_pos _ _ (by omega)
  have q:=so _ _ _ _ (by omega) (by omega) (by omega) e1 e2
  simp only [e1,e2] at e ⊢
  cases lf with
  | false=>exact tr _ _ _ q e
  | true=>
   simp only [beyP,if_true,Bool.not_eq_true'] at e ⊢
   cases e':le ky (ar[bs + i]'(by omega)) with
   | false=>rfl
   | true=>rw [tr _ _ _ e' q] at e; cases e
 ·have:=h1 i hi
  simp only [e] at this
  exact this
 ·have:=h2 i h3 h4
  simp only [e] at this
  exact this
end
end L2.TS
namespace L2.TS
open PySem PyProof.Rows
noncomputable def smg':Nat->StateT SortSt Sem Unit:=sortPriv% PySem.Builtin.setMinGallop
theorem smg'_eq (g:Nat):smg' g=modify fun s=>SortSt.mk' (kindOf s) (arrOf s) (pendingOf s) g (failedOf s):=rfl
noncomputable def mlo':Array Keyed->Array Keyed->StateT SortSt Sem (Array Keyed):=sortPriv% PySem.Builtin.mergeLo
noncomputable abbrev LoG:=Option (Array Keyed) × Array Keyed × Nat × Nat × Nat × Nat × Nat
noncomputable abbrev LoF:=Option (Array Keyed) × Array Keyed × Nat × Nat × Nat × Nat
noncomputable def dn (a b o:Array Keyed) (ia ib:Nat):Array Keyed:=o ++ a.extract ia a.size ++ b.extract ib b.size
noncomputable def la (a b o:Array Keyed) (ia ib:Nat):Array Keyed:=o ++ b.extract ib b.size ++ a.extract ia a.size
noncomputable def loJ3 (a b:Array Keyed) (mg ac bc:Nat) (o:Array Keyed) (ia ib:Nat):StateT SortSt Sem (ForInStep LoG):=do
 let x <-elem' a ia
 if ia + 1 + 1 == a.size then pure (.done (some (la a b (o.push x) (ia + 1) ib),o.push x,ia + 1,ib,mg,ac,bc))
 else if ac < 7 && bc < 7 then pure (.done (none,o.push x,ia + 1,ib,mg,ac,bc)) else pure (.yield (none,o.push x,ia + 1,ib,mg,ac,bc))
noncomputable def loJ2 (a b:Array Keyed) (mg ac bc:Nat) (o:Array Keyed) (ia ib:Nat):StateT SortSt Sem (ForInStep LoG):=do
 let y <-elem' b ib
 if ib + 1 == b.size then pure (.done (some (dn a b (o.push y) ia (ib + 1)),o.push y,ia,ib + 1,mg,ac,bc))
 else
  let x <-elem' a ia
  match <-gal' true x b (ib + 1) (b.size - (ib + 1)) 0 with
  | some k=>
   if k > 0 then
    if ib + 1 + k == b.size then pure (.done (some (dn a b (o.push y ++ b.extract (ib + 1) (ib + 1 + k)) ia (ib + 1 + k)),o.push y ++ b.extract (ib + 1) (ib + 1 + k),ia,ib + 1 + k,mg,ac,k))
    else loJ3 a b mg ac k (o.push y ++ b.extract (ib + 1) (ib + 1 + k)) ia (ib + 1 + k)
   else loJ3 a b mg ac k (o.push y) ia (ib + 1)
  | _=>pure (.done (some (dn a b (o.push y) ia (ib + 1)),o.push y,ia,ib + 1,mg,ac,bc))
noncomputable def loJ1 (a b:Array Keyed) (ac bc:Nat) (o:Array Keyed) (ia ib mg:Nat):StateT SortSt Sem (ForInStep LoG):=do
 smg' mg
 let y <-elem' b ib
 match <-gal' false y a ia (a.size - ia) 0 with
 | some k=>
  if k > 0 then
   if ia + k + 1 == a.size then pure (.done (some (la a b (o ++ a.extract ia (ia + k)) (ia + k) ib),o ++ a.extract ia (ia + k),ia + k,ib,mg,k,bc))
   else if ia + k == a.size then pure (.done (some (dn a b (o ++ a.extract ia (ia + k)) (ia + k) ib),o ++ a.extract ia (ia + k),ia + k,ib,mg,k,bc))
   else loJ2 a b mg k bc (o ++ a.extract ia (ia + k)) (ia + k) ib
  else loJ2 a b mg k bc o ia ib
 | _=>pure (.done (some (dn a b o ia ib),o,ia,ib,mg,ac,bc))
noncomputable def loG (a b:Array Keyed) (c:LoG):StateT SortSt Sem (ForInStep LoG):=
 if c.2.2.2.2.1 > 1 then loJ1 a b c.2.2.2.2.2.1 c.2.2.2.2.2.2 c.2.1 c.2.2.1 c.2.2.2.1 (c.2.2.2.2.1 - 1) else loJ1 a b c.2.2.2.2.2.1 c.2.2.2.2.2.2 c.2.1 c.2.2.1 c.2.2.2.1 c.2.2.2.2.1
noncomputable def loF (a b:Array Keyed) (mg:Nat) (c:LoF):StateT SortSt Sem (ForInStep LoF):=do
 let y <-elem' b c.2.2.2.1
 let x <-elem' a c.2.2.1
 match <-lt' y x with
 | some bw=>
  if bw then do
   let y <-elem' b c.2.2.2.1
   if c.2.2.2.1 + 1 == b.size then pure (.done (some (dn a b (c.2.1.push y) c.2.2.1 (c.2.2.2.1 + 1)),c.2.1.push y,c.2.2.1,c.2.2.2.1 + 1,0,c.2.2.2.2.2 + 1))
   else if c.2.2.2.2.2 + 1 ≥ mg then pure (.done (none,c.2.1.push y,c.2.2.1,c.2.2.2.1 + 1,0,c.2.2.2.2.2 + 1)) else pure (.yield (none,c.2.1.push y,c.2.2.1,c.2.2.2.1 + 1,0,c.2.2.2.2.2 + 1))
  else do
   let x <-elem' a c.2.2.1
   if c.2.2.1 + 1 + 1 == a.size then pure (.done (some (la a b (c.2.1.push x) (c.2.2.1 + 1) c.2.2.2.1),c.2.1.push x,c.2.2.1 + 1,c.2.2.2.1,c.2.2.2.2.1 + 1,0))
   else if c.2.2.2.2.1 + 1 ≥ mg then pure (.done (none,c.2.1.push x,c.2.2.1 + 1,c.2.2.2.1,c.2.2.2.2.1 + 1,0)) else pure (.yield (none,c.2.1.push x,c.2.2.1 + 1,c.2.2.2.1,c.2.2.2.2.1 + 1,0))
 | _=>pure (.done (some (dn a b c.2.1 c.2.2.1 c.2.2.2.1),c.2.1,c.2.2.1,c.2.2.2.1,c.2.2.2.2.1,c.2.2.2.2.2))
noncomputable abbrev LoO:=Option (Array Keyed) × Array Keyed × Nat × Nat × Nat
noncomputable def loO (a b:Array Keyed) (c:LoO):StateT SortSt Sem (ForInStep LoO):=do
 let d <-forIn [:a.size + b.size] ((none,c.2.1,c.2.2.1,c.2.2.2.1,0,0):LoF) fun _ d=>loF a b c.2.2.2.2 d
 match d.1 with
 | some r=>pure (.done (some r,d.2.1,d.2.2.1,d.2.2.2.1,c.2.2.2.2))
 | none=>
  rule "list.sort.gallop"
  let e <-forIn [:a.size + b.size] ((none,d.2.1,d.2.2.1,d.2.2.2.1,c.2.2.2.2 + 1,d.2.2.2.2.1,d.2.2.2.2.2):LoG) fun _ e=>loG a b e
  match e.1 with
  | some r=>pure (.done (some r,e.2.1,e.2.2.1,e.2.2.2.1,e.2.2.2.2.1))
  | none=>
   smg' (e.2.2.2.2.1 + 1)
   pure (.yield (none,e.2.1,e.2.2.1,e.2.2.2.1,e.2.2.2.2.1 + 1))
theorem fb {β γ:Type} {r:Std.Legacy.Range} {x:β} {f g:Nat->β->StateT SortSt Sem (ForInStep β)} {k k':β->StateT SortSt Sem γ} (h:∀ i c,f i c=g i c) (h':∀ c,k c=k' c):(forIn r x f >>= k)=(forIn r x g >>= k'):=by
 have e:f=g:=funext fun i=>funext fun c=>h i c
 have e':k=k':=funext h'
 rw [e,e']
theorem iteC {p:Prop} [Decidable p] {α:Type} {x x' y y':α} (h1:x=x') (h2:y=y'):(if p then x else y)=if p then x' else y':=by rw [h1,h2]
theorem mlo'_eq0 (a b:Array Keyed):mlo' a b=(do
 rule "list.sort.merge-lo"
 let tt:=a.size + b.size
 let dn (o:Array Keyed) (ia ib:Nat):=o ++ a.extract ia a.size ++ b.extract ib b.size
 let la (o:Array Keyed) (ia ib:Nat):=o ++ b.extract ib b.size ++ a.extract ia a.size
 let mut o:Array Keyed:=#[<-elem' b 0]
 let mut ia:=0
 let mut ib:=1
 if ib == b.size then return dn o ia ib
 if ia + 1 == a.size then return la o ia ib
 let mut mg:=gallopOf (<-get)
 for _ in [0:tt] do
  let mut ac:=0
  let mut bc:=0
  for _ in [0:tt] do
   let some bw <-lt' (<-elem' b ib) (<-elem' a ia) | return dn o ia ib
   if bw then
    o:=o.push (<-elem' b ib); ib:=ib + 1; bc:=bc + 1; ac:=0
    if ib == b.size then return dn o ia ib
    if bc ≥ mg then break
   else
    o:=o.push (<-elem' a ia); ia:=ia + 1; ac:=ac + 1; bc:=0
    if ia + 1 == a.size then return la o ia ib
    if ac ≥ mg then break
  rule "list.sort.gallop"
  mg:=mg + 1
  for _ in [0:tt] do
   if mg > 1 then mg:=mg - 1
   smg' mg
   let some k <-gal' false (<-elem' b ib) a ia (a.size - ia) 0 | return dn o ia ib
   ac:=k
   if k > 0 then
    o:=o ++ a.extract ia (ia + k); ia:=ia + k
    if ia + 1 == a.size then return la o ia ib
    if ia == a.size then return dn o ia ib
   o:=o.push (<-elem' b ib); ib:=ib + 1
   if ib == b.size then return dn o ia ib
   let some k <-gal' true (<-elem' a ia) b ib (b.size - ib) 0 | return dn o ia ib
   bc:=k
   if k > 0 then
    o:=o ++ b.extract ib (ib + k); ib:=ib + k
    if ib == b.size then return dn o ia ib
   o:=o.push (<-elem' a ia); ia:=ia + 1
   if ia + 1 == a.size then return la o ia ib
   if ac < 7 && bc < 7 then break
  mg:=mg + 1
  smg' mg
 unsupported "internal:list.sort.merge-bound"):=rfl
theorem mlo'_eq (a b:Array Keyed):mlo' a b=(do
 rule "list.sort.merge-lo"
 let y <-elem' b 0
 if 1 == b.size then return dn a b #[y] 0 1
 if 0 + 1 == a.size then return la a b #[y] 0 1
 let g <-get
 let c <-forIn [:a.size + b.size] ((none,#[y],0,1,gallopOf g):LoO) fun _ c=>loO a b c
 match c.1 with
 | some r=>pure r
 | none=>unsupported "internal:list.sort.merge-bound"):=by
 rw [mlo'_eq0]
 refine bind_congr fun _=>?_
 dsimp only
 refine bind_congr fun y=>?_
 unfold dn la
 refine congrArg _ (congrArg _ (bind_congr fun g=>?_))
 refine fb (fun _ c=>?_) fun c=>?_
 ·unfold loO
  refine fb (fun _ d=>?_) fun d=>?_
  ·unfold loF dn la
   refine bind_congr fun _=>bind_congr fun _=>bind_congr fun q=>?_
   cases q <;> rfl
  ·obtain ⟨r,d⟩:=d
   cases r with
   | some r=>rfl
   | none=>
    dsimp only
    refine bind_congr fun _=>fb (fun _ e=>?_) fun e=>?_
    ·unfold loG loJ1 dn la
     refine iteC ?_ ?_ <;>
     ·refine bind_congr fun _=>bind_congr fun _=>bind_congr fun q=>?_
      cases q with
      | none=>rfl
      | some k=>
       refine iteC (iteC rfl (iteC rfl ?_)) ?_ <;>
       ·unfold loJ2 loJ3 dn la
        refine bind_congr fun _=>iteC rfl (bind_congr fun _=>bind_congr fun q=>?_)
        cases q <;> rfl
    ·obtain ⟨r,e⟩:=e
     cases r <;> rfl
 ·obtain ⟨r,c⟩:=c
  cases r <;> rfl
end L2.TS
namespace L2.TS
open PySem PyProof.Rows
theorem drop_at {α:Type} {l:List α} {i:Nat} {x:α} (h:l[i]? = some x):l.drop i=x :: l.drop (i + 1):=by
 obtain ⟨h1,h2⟩:=List.getElem?_eq_some_iff.mp h
 rw [List.drop_eq_getElem_cons h1,h2]
theorem drop_take {α:Type} (l:List α) (i k:Nat):l.drop i=(l.drop i).take k ++ l.drop (i + k):=by
 rw [<-List.drop_drop]; exact (List.take_append_drop k (l.drop i)).symm
theorem ext_list {α:Type} (a:Array α) (i j:Nat):(a.extract i j).toList=(a.toList.drop i).take (j - i):=by simp [List.extract_eq_take_drop]
theorem arr_list {α:Type} {a:Array α} {i:Nat}:a[i]? = a.toList[i]?:=by simp
noncomputable def JJ (le:Keyed->Keyed->Bool) (a b:Array Keyed) (o:Array Keyed) (ia ib:Nat):Prop:=o.toList ++ List.merge (a.toList.drop ia) (b.toList.drop ib) le=List.merge a.toList b.toList le
section
variable {le:Keyed->Keyed->Bool} {a b o:Array Keyed} {ia ib k:Nat} {x y:Keyed}
theorem JJ.pb (h:JJ le a b o ia ib) (hx:a[ia]? = some x) (hy:b[ib]? = some y) (e:le x y=false):JJ le a b (o.push y) ia (ib + 1):=by
 unfold JJ at h ⊢
 rw [arr_list] at hx hy
 rw [<-h,drop_at hx,drop_at hy,List.cons_merge_cons,if_neg (by rw [e]; exact Bool.false_ne_true)]
 simp
theorem JJ.pa (h:JJ le a b o ia ib) (hx:a[ia]? = some x) (hy:b[ib]? = some y) (e:le x y=true):JJ le a b (o.push x) (ia + 1) ib:=by
 unfold JJ at h ⊢
 rw [arr_list] at hx hy
 rw [<-h,drop_at hx,drop_at hy,List.cons_merge_cons,if_pos e]
 simp
theorem mem_part {l:List Keyed} {i k:Nat} {x:Keyed} (h:x ∈ (l.drop i).take k):∃ j,j < k/\l[i + j]? = some x:=by
 obtain ⟨j,hj⟩:=List.getElem?_of_mem h
 rw [List.getElem?_take] at hj
 split at hj
 ·rename_i q; rw [List.getElem?_drop] at hj; exact ⟨j,q,hj⟩
 ·cases hj
theorem JJ.ga (h:JJ le a b o ia ib) (hy:b[ib]? = some y) (e:∀ (i:Nat),i < k->∀ x:Keyed,a[ia + i]? = some x->le x y=true):JJ le a b (o ++ a.extract ia (ia + k)) (ia + k) ib:=by
 unfold JJ at h ⊢
 rw [arr_list] at hy
 rw [<-h,drop_take a.toList ia k,drop_at hy,mg_front (fun x hx=>by obtain ⟨j,hj,q⟩:=mem_part hx; exact e j hj x (by rw [arr_list]; exact q))]
 simp only [Array.toList_append,ext_list,List.append_assoc,Nat.add_sub_cancel_left]
theorem JJ.gb (h:JJ le a b o ia ib) (hx:a[ia]? = some x) (e:∀ (i:Nat),i < k->∀ y:Keyed,b[ib + i]? = some y->le x y=false):JJ le a b (o ++ b.extract ib (ib + k)) ia (ib + k):=by
 unfold JJ at h ⊢
 rw [arr_list] at hx
 rw [<-h,drop_take b.toList ib k,drop_at hx,mg_frontB (fun y hy=>by obtain ⟨j,hj,q⟩:=mem_part hy; exact e j hj y (by rw [arr_list]; exact q))]
 simp only [Array.toList_append,ext_list,List.append_assoc,Nat.add_sub_cancel_left]
theorem JJ.dn (h:JJ le a b o ia ib) (hb:b.size<=ib):(dn a b o ia ib).toList=List.merge a.toList b.toList le:=by
 unfold JJ at h
 unfold TS.dn
 rw [<-h,show b.toList.drop ib=[] from List.drop_eq_nil_of_le (by simpa using hb),List.merge_right]
 have e1:(b.extract ib b.size).toList=[]:=by rw [ext_list,show b.size - ib=0 by omega,List.take_zero]
 have e2:(a.extract ia a.size).toList=a.toList.drop ia:=by rw [ext_list,List.take_of_length_le (by simp)]
 simp only [Array.toList_append,e1,e2,List.append_nil]
theorem JJ.la (h:JJ le a b o ia ib) (hl:∀ (i:Nat) (x y:Keyed),i + 1=a.size->a[i]? = some x->y ∈ b.toList->le x y=false) (ha:ia + 1=a.size):(la a b o ia ib).toList=List.merge a.toList b.toList le:=by
 unfold JJ at h
 unfold TS.la
 have e1:a[ia]? = some (a[ia]'(by omega)):=getElem?_pos _ _ (by omega)
 have hx:=e1
 rw [arr_list] at hx
 rw [<-h,drop_at hx,List.drop_eq_nil_of_le (by simp; omega),mg_all (fun y hy z hz=>by obtain rfl:=List.mem_singleton.mp hz; exact hl ia _ y ha e1 (List.mem_of_mem_drop hy))]
 have e3:(b.extract ib b.size).toList=b.toList.drop ib:=by rw [ext_list,List.take_of_length_le (by simp)]
 have e2:(a.extract ia a.size).toList=[a[ia]'(by omega)]:=by rw [ext_list,drop_at hx,show a.size - ia=1 by omega]; rfl
 simp only [Array.toList_append,e3,e2,List.append_assoc]
end
structure Sm (st st':SortSt):Prop where
 kind:kindOf st' = kindOf st
 arr:arrOf st' = arrOf st
 pend:pendingOf st' = pendingOf st
 failed:failedOf st' = failedOf st
theorem Sm.refl {st:SortSt}:Sm st st:=⟨rfl,rfl,rfl,rfl⟩
theorem Sm.mg {st st':SortSt} (h:Sm st st') (g:Nat):Sm st (SortSt.mk' (kindOf st') (arrOf st') (pendingOf st') g (failedOf st')):=⟨h.kind,h.arr,h.pend,h.failed⟩
section
variable {prog:Program} {w:World} {A:Around} {E:Value->Shared->Prop} {s:Shared} {le:Keyed->Keyed->Bool} {κ:SortKind} {S:Keyed->Prop} {a b:Array Keyed} {st0:SortSt}
structure MH (le:Keyed->Keyed->Bool) (S:Keyed->Prop) (a b:Array Keyed):Prop where
 tr:∀ x y z,le x y=true->le y z=true->le x z=true
 sa:∀ (i j:Nat) (x y:Keyed),i<=j->a[i]? = some x->a[j]? = some y->le x y=true
 sb:∀ (i j:Nat) (x y:Keyed),i<=j->b[i]? = some x->b[j]? = some y->le x y=true
 Sa:∀ (i:Nat) (x:Keyed),a[i]? = some x->S x
 Sb:∀ (i:Nat) (x:Keyed),b[i]? = some x->S x
 a0:0 < a.size
 b0:0 < b.size
 first:∀ x y:Keyed,a[0]? = some x->b[0]? = some y->le x y=false
 last:∀ (i:Nat) (x y:Keyed),i + 1=a.size->a[i]? = some x->y ∈ b.toList->le x y=false
theorem at_ {α:Type} {c:Array α} {i:Nat} (h:i < c.size):∃ x,c[i]? = some x:=⟨c[i],Array.getElem?_eq_getElem h⟩
noncomputable def Gd (le:Keyed->Keyed->Bool) (a b o:Array Keyed) (ia ib:Nat):Prop:=JJ le a b o ia ib/\ia + 1 < a.size/\ib < b.size
noncomputable def GR (le:Keyed->Keyed->Bool) (a b:Array Keyed) (m:Nat):ForInStep LoG->Prop
 | .done (some r,_)=>r.toList=List.merge a.toList b.toList le
 | .done (none,o,ia,ib,_)=>Gd le a b o ia ib/\m<=ia + ib
 | .yield (none,o,ia,ib,_)=>Gd le a b o ia ib/\m<=ia + ib
 | .yield (some _,_)=>False
variable (M:MH le S a b)
include M
theorem wpS_J3 {mg ac bc:Nat} {o:Array Keyed} {ia ib m:Nat} {st:SortSt} {x y:Keyed} {Q:ForInStep LoG->SortSt->Prop} (h:JJ le a b o ia ib) (ha:ia + 1 < a.size) (hb:ib < b.size) (hm:m<=ia + ib)
  (hx:a[ia]? = some x) (hy:b[ib]? = some y) (e:le x y=true) (hQ:∀ r,GR le a b m r->Q r st):wpS (model prog w) A E s (loJ3 a b mg ac bc o ia ib) Q st:=by
 unfold loJ3
 refine wpS_bind (wpS_elem hx ?_)
 have h1:=h.pa hx hy e
 by_cases e1:ia + 1 + 1=a.size
 ·rw [if_pos (by simpa using e1)]
  exact wpS_pure (hQ _ (h1.la M.last e1))
 ·rw [if_neg (by simpa using e1)]
  have g:Gd le a b (o.push x) (ia + 1) ib/\m<=ia + 1 + ib:=⟨⟨h1,by omega,hb⟩,by omega⟩
  split
  ·exact wpS_pure (hQ _ g)
  ·exact wpS_pure (hQ _ g)
theorem wpS_J2 (hL:LtOK prog w A E s le κ S) {mg ac bc:Nat} {o:Array Keyed} {ia ib m:Nat} {st:SortSt} {x y:Keyed} {Q:ForInStep LoG->SortSt->Prop} (hk:kindOf st=κ) (h:JJ le a b o ia ib) (ha:ia + 1 < a.size) (hb:ib < b.size) (hm:m<=ia + ib)
  (hx:a[ia]? = some x) (hy:b[ib]? = some y) (e:le x y=false) (hQ:∀ r,GR le a b m r->Q r st):wpS (model prog w) A E s (loJ2 a b mg ac bc o ia ib) Q st:=by
 unfold loJ2
 refine wpS_bind (wpS_elem hy ?_)
 have h1:=h.pb hx hy e
 by_cases e1:ib + 1=b.size
 ·rw [if_pos (by simpa using e1)]
  exact wpS_pure (hQ _ (h1.dn (by omega)))
 ·rw [if_neg (by simpa using e1)]
  refine wpS_bind (wpS_elem hx (wpS_bind (wpS_galS hL M.tr hk (M.Sa _ _ hx) M.Sb (by omega) (fun i j u v _ hij _=>M.sb i j u v hij) (fun k hk1 g1 g2=>?_) (by omega))))
  dsimp only
  have h2:=h1.gb (k:=k) hx fun i hi z hz=>by have:=g1 i hi z hz; simpa [beyP] using this
  have h3:∀ z:Keyed,k < b.size - (ib + 1)->b[ib + 1 + k]? = some z->le x z=true:=fun z q hz=>by have:=g2 k (Nat.le_refl _) q z hz; simpa [beyP] using this
  by_cases k0:k > 0
  ·rw [if_pos k0]
   by_cases e2:ib + 1 + k=b.size
   ·rw [if_pos (by simpa using e2)]
    exact wpS_pure (hQ _ (h2.dn (by omega)))
   ·rw [if_neg (by simpa using e2)]
    obtain ⟨z,hz⟩:=at_ (c:=b) (i:=ib + 1 + k) (by omega)
    exact wpS_J3 M h2 ha (by omega) (by omega) hx hz (h3 z (by omega) hz) hQ
  ·rw [if_neg k0]
   have:k=0:=by omega
   subst this
   obtain ⟨z,hz⟩:=at_ (c:=b) (i:=ib + 1) (by omega)
   exact wpS_J3 M h1 ha (by omega) (by omega) hx hz (h3 z (by omega) hz) hQ
theorem wpS_J1 (hL:LtOK prog w A E s le κ S) {mg ac bc:Nat} {o:Array Keyed} {ia ib m:Nat} {st:SortSt} {Q:ForInStep LoG->SortSt->Prop} (hs:Sm st0 st) (hk:kindOf st0=κ) (h:JJ le a b o ia ib) (ha:ia + 1 < a.size) (hb:ib < b.size) (hm:m<=ia + ib)
  (hQ:∀ r st',Sm st0 st'->GR le a b m r->Q r st'):wpS (model prog w) A E s (loJ1 a b ac bc o ia ib mg) Q st:=by
 unfold loJ1
 rw [smg'_eq]
 obtain ⟨y,hy⟩:=at_ hb
 refine wpS_bind (wpS_modify (wpS_bind (wpS_elem hy ?_)))
 have hs1:=hs.mg mg
 generalize SortSt.mk' (kindOf st) (arrOf st) (pendingOf st) mg (failedOf st)=st1 at hs1 ⊢
 have hk1:kindOf st1=κ:=hs1.kind.trans hk
 refine wpS_bind (wpS_galS hL M.tr hk1 (M.Sb _ _ hy) M.Sa (by omega) (fun i j u v _ hij _=>M.sa i j u v hij) (fun k hk2 g1 g2=>?_) (by omega))
 dsimp only
 have h2:=h.ga (k:=k) hy fun i hi z hz=>by have:=g1 i hi z hz; simpa [beyP] using this
 have h3:∀ z:Keyed,k < a.size - ia->a[ia + k]? = some z->le z y=false:=fun z q hz=>by have:=g2 k (Nat.le_refl _) q z hz; simpa [beyP] using this
 have hkl:ia + k < a.size:=by
  rcases Nat.lt_or_ge (ia + k) a.size with q | q
  ·exact q
  ·obtain ⟨z,hz⟩:=at_ (c:=a) (i:=a.size - 1) (by omega)
   have e1:=M.last (a.size - 1) z y (by omega) hz (by rw [arr_list] at hy; exact List.mem_of_getElem? hy)
   have e2:=g1 (a.size - 1 - ia) (by omega) z (by rw [show ia + (a.size - 1 - ia)=a.size - 1 by omega]; exact hz)
   simp [beyP,e1] at e2
 by_cases k0:k > 0
 ·rw [if_pos k0]
  by_cases e2:ia + k + 1=a.size
  ·rw [if_pos (by simpa using e2)]
   exact wpS_pure (hQ _ _ hs1 (h2.la M.last e2))
  ·rw [if_neg (by simpa using e2),if_neg (by simp; omega)]
   obtain ⟨z,hz⟩:=at_ (c:=a) (i:=ia + k) (by omega)
   exact wpS_J2 M hL hk1 h2 (by omega) hb (by omega) hz hy (h3 z (by omega) hz) fun r g=>hQ r _ hs1 g
 ·rw [if_neg k0]
  have:k=0:=by omega
  subst this
  obtain ⟨z,hz⟩:=at_ (c:=a) (i:=ia) (by omega)
  exact wpS_J2 M hL hk1 h ha hb hm hz hy (h3 z (by omega) hz) fun r g=>hQ r _ hs1 g
theorem wpS_loG (hL:LtOK prog w A E s le κ S) {mg ac bc:Nat} {o:Array Keyed} {ia ib m:Nat} {st:SortSt} {Q:ForInStep LoG->SortSt->Prop} (hs:Sm st0 st) (hk:kindOf st0=κ) (h:Gd le a b o ia ib/\m<=ia + ib)
  (hQ:∀ r st',Sm st0 st'->GR le a b m r->Q r st'):wpS (model prog w) A E s (loG a b (none,o,ia,ib,mg,ac,bc)) Q st:=by
 unfold loG
 dsimp only
 split
 ·exact wpS_J1 M hL hs hk h.1.1 h.1.2.1 h.1.2.2 h.2 hQ
 ·exact wpS_J1 M hL hs hk h.1.1 h.1.2.1 h.1.2.2 h.2 hQ
noncomputable def FR (le:Keyed->Keyed->Bool) (a b:Array Keyed) (m:Nat):LoF->Prop
 | (some r,_)=>r.toList=List.merge a.toList b.toList le
 | (none,o,ia,ib,_)=>Gd le a b o ia ib/\m<=ia + ib
theorem wpS_loF (hL:LtOK prog w A E s le κ S) {mg ac bc:Nat} {o:Array Keyed} {ia ib m:Nat} {st:SortSt} {Q:ForInStep LoF->SortSt->Prop} (hk:kindOf st=κ) (h:Gd le a b o ia ib) (hm:m<=ia + ib + 1)
  (hd:∀ c,FR le a b m c->Q (.done c) st) (hy:∀ o' ia' ib' ac' bc',Gd le a b o' ia' ib'->m<=ia' + ib'->Q (.yield (none,o',ia',ib',ac',bc')) st):wpS (model prog w) A E s (loF a b mg (none,o,ia,ib,ac,bc)) Q st:=by
 unfold loF
 dsimp only
 obtain ⟨h,ha,hb⟩:=h
 obtain ⟨y,ey⟩:=at_ hb
 obtain ⟨x,ex⟩:=at_ (c:=a) (i:=ia) (by omega)
 refine wpS_bind (wpS_elem ey (wpS_bind (wpS_elem ex (wpS_bind (hL y x (M.Sb _ _ ey) (M.Sa _ _ ex) _ st hk ?_)))))
 dsimp only
 cases e:le x y with
 | false=>
  simp only [Bool.not_false,if_true]
  have h1:=h.pb ex ey e
  refine wpS_bind (wpS_elem ey ?_)
  by_cases e1:ib + 1=b.size
  ·rw [if_pos (by simpa using e1)]
   exact wpS_pure (hd _ (h1.dn (by omega)))
  ·rw [if_neg (by simpa using e1)]
   split
   ·exact wpS_pure (hd _ ⟨⟨h1,ha,by omega⟩,by omega⟩)
   ·exact wpS_pure (hy _ _ _ _ _ ⟨h1,ha,by omega⟩ (by omega))
 | true=>
  simp only [Bool.not_true,Bool.false_eq_true,if_false]
  have h1:=h.pa ex ey e
  refine wpS_bind (wpS_elem ex ?_)
  by_cases e1:ia + 1 + 1=a.size
  ·rw [if_pos (by simpa using e1)]
   exact wpS_pure (hd _ (h1.la M.last e1))
  ·rw [if_neg (by simpa using e1)]
   split
   ·exact wpS_pure (hd _ ⟨⟨h1,by omega,hb⟩,by omega⟩)
   ·exact wpS_pure (hy _ _ _ _ _ ⟨h1,by omega,hb⟩ (by omega))
theorem wpS_loO (hL:LtOK prog w A E s le κ S) {mg:Nat} {o:Array Keyed} {ia ib m:Nat} {st:SortSt} {Q:ForInStep LoO->SortSt->Prop} (hs:Sm st0 st) (hk:kindOf st0=κ) (h:Gd le a b o ia ib) (hm:m<=ia + ib)
  (hd:∀ r c st',Sm st0 st'->r.toList=List.merge a.toList b.toList le->Q (.done (some r,c)) st') (hy:∀ o' ia' ib' mg' st',Sm st0 st'->Gd le a b o' ia' ib'->m + 1<=ia' + ib'->Q (.yield (none,o',ia',ib',mg')) st') :
  wpS (model prog w) A E s (loO a b (none,o,ia,ib,mg)) Q st:=by
 unfold loO
 dsimp only
 have hk1:kindOf st=κ:=hs.kind.trans hk
 refine wpS_bind (wpS_mono (wpS_forRange (I:=fun x c st'=>st' = st/\∃ o ia ib ac bc,c=(none,o,ia,ib,ac,bc)/\Gd le a b o ia ib/\m + x<=ia + ib)
  (Q:=fun c st'=>st' = st/\FR le a b (m + 1) c) ?_ ?_ ⟨rfl,o,ia,ib,0,0,rfl,h,by omega⟩) ?_)
 ·rintro x c st' _ hx ⟨rfl,o,ia,ib,ac,bc,rfl,g,q⟩
  refine wpS_loF M hL (m:=m + x + 1) hk1 g (by omega) (fun c hc=>⟨rfl,?_⟩) (fun o' ia' ib' ac' bc' g' q'=>⟨rfl,o',ia',ib',ac',bc',rfl,g',by omega⟩)
  obtain ⟨_ | r,c⟩:=c
  ·exact ⟨hc.1,by have:=hc.2; omega⟩
  ·exact hc
 ·rintro c st' ⟨rfl,o,ia,ib,ac,bc,rfl,g,q⟩
  have:=g.2
  omega
 ·rintro ⟨_ | r,c⟩ st' ⟨rfl,hc⟩
  ·obtain ⟨o,ia,ib,ac,bc⟩:=c
   dsimp only
   refine wpS_bind (wpS_lift (wpAny_rule ⟨rfl,?_⟩))
   refine wpS_bind (wpS_mono (wpS_forRange (I:=fun _ c st'=>Sm st0 st'/\∃ o ia ib mg ac bc,c=(none,o,ia,ib,mg,ac,bc)/\Gd le a b o ia ib/\m + 1<=ia + ib)
    (Q:=fun c st'=>Sm st0 st'/\GR le a b (m + 1) (.done c)) ?_ ?_ ⟨hs,o,ia,ib,_,ac,bc,rfl,hc⟩) ?_)
   ·rintro x c st' _ hx ⟨hs',o,ia,ib,mg,ac,bc,rfl,g⟩
    refine wpS_loG M hL hs' hk g fun r st'' hs'' gr=>?_
    match r,gr with
    | .done c,gr=>exact ⟨hs'',gr⟩
    | .yield (none,o,ia,ib,mg,ac,bc),gr=>exact ⟨hs'',o,ia,ib,mg,ac,bc,rfl,gr⟩
    | .yield (some _,_),gr=>exact gr.elim
   ·rintro c st' ⟨hs',o,ia,ib,mg,ac,bc,rfl,g⟩
    exact ⟨hs',g⟩
   ·rintro ⟨_ | r,c⟩ st' ⟨hs',hc⟩
    ·obtain ⟨o,ia,ib,mg,ac,bc⟩:=c
     dsimp only
     rw [smg'_eq]
     exact wpS_bind (wpS_modify (wpS_pure (hy _ _ _ _ _ (hs'.mg _) hc.1 hc.2)))
    ·exact wpS_pure (hd _ _ _ hs' hc)
  ·exact wpS_pure (hd _ _ _ hs hc)
theorem wpS_mlo (hL:LtOK prog w A E s le κ S) {Q:Array Keyed->SortSt->Prop} (hk:kindOf st0=κ) (h:∀ r st',Sm st0 st'->r.toList=List.merge a.toList b.toList le->Q r st'):wpS (model prog w) A E s (mlo' a b) Q st0:=by
 rw [mlo'_eq]
 refine wpS_bind (wpS_lift (wpAny_rule ⟨rfl,?_⟩))
 obtain ⟨y,hy⟩:=at_ M.b0
 obtain ⟨x,hx⟩:=at_ M.a0
 refine wpS_bind (wpS_elem hy ?_)
 have j0:JJ le a b #[] 0 0:=by simp [JJ]
 have j1:JJ le a b #[y] 0 1:=j0.pb hx hy (M.first x y hx hy)
 have b0:=M.b0
 have a0:=M.a0
 by_cases e1:1=b.size
 ·rw [if_pos (by simpa using e1)]
  exact wpS_pure (h _ _ .refl (j1.dn (by omega)))
 ·rw [if_neg (by simpa using e1)]
  by_cases e2:0 + 1=a.size
  ·rw [if_pos (by simpa using e2)]
   exact wpS_pure (h _ _ .refl (j1.la M.last e2))
  ·rw [if_neg (by simpa using e2)]
   refine wpS_bind (wpS_get ?_)
   refine wpS_bind (wpS_mono (wpS_forRange (I:=fun x c st'=>Sm st0 st'/\∃ o ia ib mg,c=(none,o,ia,ib,mg)/\Gd le a b o ia ib/\x + 1<=ia + ib)
    (Q:=fun c st'=>Sm st0 st'/\∃ r c',c=(some r,c')/\r.toList=List.merge a.toList b.toList le) ?_ ?_ ⟨.refl,#[y],0,1,_,rfl,⟨j1,by omega,by omega⟩,by omega⟩) ?_)
   ·rintro x c st' _ hx ⟨hs',o,ia,ib,mg,rfl,g,q⟩
    exact wpS_loO M hL hs' hk g q (fun r c st'' hs'' e=>⟨hs'',r,c,rfl,e⟩) fun o' ia' ib' mg' st'' hs'' g' q'=>⟨hs'',o',ia',ib',mg',rfl,g',q'⟩
   ·rintro c st' ⟨hs',o,ia,ib,mg,rfl,g,q⟩
    have:=g.2
    omega
   ·rintro c st' ⟨hs',r,c,rfl,e⟩
    exact wpS_pure (h _ _ hs' e)
end
end L2.TS
namespace L2.TS
open PySem PyProof.Rows
noncomputable def mhi':Array Keyed->Array Keyed->StateT SortSt Sem (Array Keyed):=sortPriv% PySem.Builtin.mergeHi
noncomputable def dh (a b o:Array Keyed) (na nb:Nat):Array Keyed:=a.extract 0 na ++ b.extract 0 nb ++ o.reverse
noncomputable def fh (a b o:Array Keyed) (na nb:Nat):Array Keyed:=b.extract 0 nb ++ a.extract 0 na ++ o.reverse
noncomputable abbrev HiG:=Option (Array Keyed) × Nat × Nat × Array Keyed × Nat × Nat × Nat
noncomputable abbrev HiF:=Option (Array Keyed) × Nat × Nat × Array Keyed × Nat × Nat
noncomputable abbrev HiO:=Option (Array Keyed) × Nat × Nat × Array Keyed × Nat
noncomputable def hiJ3 (a b:Array Keyed) (mg ac bc:Nat) (na:Nat) (nb:Nat) (o:Array Keyed):StateT SortSt Sem (ForInStep HiG):=do
 let x <-elem' a (na - 1)
 if na - 1 == 0 then pure (.done (some (dh a b (o.push x) (na - 1) nb),na - 1,nb,o.push x,mg,ac,bc))
 else if ac < 7 && bc < 7 then pure (.done (none,na - 1,nb,o.push x,mg,ac,bc)) else pure (.yield (none,na - 1,nb,o.push x,mg,ac,bc))
noncomputable def hiJ2 (a b:Array Keyed) (mg ac bc:Nat) (nb na:Nat) (o:Array Keyed):StateT SortSt Sem (ForInStep HiG):=do
 let y <-elem' b (nb - 1)
 if nb - 1 == 1 then pure (.done (some (fh a b (o.push y) na (nb - 1)),na,nb - 1,o.push y,mg,ac,bc))
 else
  let x <-elem' a (na - 1)
  match <-gal' true x b 0 (nb - 1) (nb - 1 - 1) with
  | some p=>
   if nb - 1 - p > 0 then
    if p == 1 then pure (.done (some (fh a b (o.push y ++ (b.extract p (nb - 1)).reverse) na p),na,p,o.push y ++ (b.extract p (nb - 1)).reverse,mg,ac,nb - 1 - p))
    else if p == 0 then pure (.done (some (dh a b (o.push y ++ (b.extract p (nb - 1)).reverse) na p),na,p,o.push y ++ (b.extract p (nb - 1)).reverse,mg,ac,nb - 1 - p))
    else hiJ3 a b mg ac (nb - 1 - p) na p (o.push y ++ (b.extract p (nb - 1)).reverse)
   else hiJ3 a b mg ac (nb - 1 - p) na (nb - 1) (o.push y)
  | _=>pure (.done (some (dh a b (o.push y) na (nb - 1)),na,nb - 1,o.push y,mg,ac,bc))
noncomputable def hiJ1 (a b:Array Keyed) (ac bc:Nat) (na nb:Nat) (o:Array Keyed) (mg:Nat):StateT SortSt Sem (ForInStep HiG):=do
 smg' mg
 let y <-elem' b (nb - 1)
 match <-gal' false y a 0 na (na - 1) with
 | some p=>
  if na - p > 0 then
   if p == 0 then pure (.done (some (dh a b (o ++ (a.extract p na).reverse) p nb),p,nb,o ++ (a.extract p na).reverse,mg,na - p,bc))
   else hiJ2 a b mg (na - p) bc nb p (o ++ (a.extract p na).reverse)
  else hiJ2 a b mg (na - p) bc nb na o
 | _=>pure (.done (some (dh a b o na nb),na,nb,o,mg,ac,bc))
noncomputable def hiG (a b:Array Keyed) (c:HiG):StateT SortSt Sem (ForInStep HiG):=
 if c.2.2.2.2.1 > 1 then hiJ1 a b c.2.2.2.2.2.1 c.2.2.2.2.2.2 c.2.1 c.2.2.1 c.2.2.2.1 (c.2.2.2.2.1 - 1) else hiJ1 a b c.2.2.2.2.2.1 c.2.2.2.2.2.2 c.2.1 c.2.2.1 c.2.2.2.1 c.2.2.2.2.1
noncomputable def hiF (a b:Array Keyed) (mg:Nat) (c:HiF):StateT SortSt Sem (ForInStep HiF):=do
 let y <-elem' b (c.2.2.1 - 1)
 let x <-elem' a (c.2.1 - 1)
 match <-lt' y x with
 | some aw=>
  if aw then do
   let x <-elem' a (c.2.1 - 1)
   if c.2.1 - 1 == 0 then pure (.done (some (dh a b (c.2.2.2.1.push x) (c.2.1 - 1) c.2.2.1),c.2.1 - 1,c.2.2.1,c.2.2.2.1.push x,c.2.2.2.2.1 + 1,0))
   else if c.2.2.2.2.1 + 1 ≥ mg then pure (.done (none,c.2.1 - 1,c.2.2.1,c.2.2.2.1.push x,c.2.2.2.2.1 + 1,0)) else pure (.yield (none,c.2.1 - 1,c.2.2.1,c.2.2.2.1.push x,c.2.2.2.2.1 + 1,0))
  else do
   let y <-elem' b (c.2.2.1 - 1)
   if c.2.2.1 - 1 == 1 then pure (.done (some (fh a b (c.2.2.2.1.push y) c.2.1 (c.2.2.1 - 1)),c.2.1,c.2.2.1 - 1,c.2.2.2.1.push y,0,c.2.2.2.2.2 + 1))
   else if c.2.2.2.2.2 + 1 ≥ mg then pure (.done (none,c.2.1,c.2.2.1 - 1,c.2.2.2.1.push y,0,c.2.2.2.2.2 + 1)) else pure (.yield (none,c.2.1,c.2.2.1 - 1,c.2.2.2.1.push y,0,c.2.2.2.2.2 + 1))
 | _=>pure (.done (some (dh a b c.2.2.2.1 c.2.1 c.2.2.1),c.2.1,c.2.2.1,c.2.2.2.1,c.2.2.2.2.1,c.2.2.2.2.2))
noncomputable def hiO (a b:Array Keyed) (c:HiO):StateT SortSt Sem (ForInStep HiO):=do
 let d <-forIn [:a.size + b.size] ((none,c.2.1,c.2.2.1,c.2.2.2.1,0,0):HiF) fun _ d=>hiF a b c.2.2.2.2 d
 match d.1 with
 | some r=>pure (.done (some r,d.2.1,d.2.2.1,d.2.2.2.1,c.2.2.2.2))
 | none=>
  rule "list.sort.gallop"
  let e <-forIn [:a.size + b.size] ((none,d.2.1,d.2.2.1,d.2.2.2.1,c.2.2.2.2 + 1,d.2.2.2.2.1,d.2.2.2.2.2):HiG) fun _ e=>hiG a b e
  match e.1 with
  | some r=>pure (.done (some r,e.2.1,e.2.2.1,e.2.2.2.1,e.2.2.2.2.1))
  | none=>
   smg' (e.2.2.2.2.1 + 1)
   pure (.yield (none,e.2.1,e.2.2.1,e.2.2.2.1,e.2.2.2.2.1 + 1))
theorem mhi'_eq0 (a b:Array Keyed):mhi' a b=(do
 rule "list.sort.merge-hi"
 let tt:=a.size + b.size
 let dn (o:Array Keyed) (na nb:Nat):=a.extract 0 na ++ b.extract 0 nb ++ o.reverse
 let la (o:Array Keyed) (na nb:Nat):=b.extract 0 nb ++ a.extract 0 na ++ o.reverse
 let mut na:=a.size - 1
 let mut nb:=b.size
 let mut o:Array Keyed:=#[<-elem' a na]
 if na == 0 then return dn o na nb
 if nb == 1 then return la o na nb
 let mut mg:=gallopOf (<-get)
 for _ in [0:tt] do
  let mut ac:=0
  let mut bc:=0
  for _ in [0:tt] do
   let some aw <-lt' (<-elem' b (nb - 1)) (<-elem' a (na - 1)) | return dn o na nb
   if aw then
    na:=na - 1; o:=o.push (<-elem' a na); ac:=ac + 1; bc:=0
    if na == 0 then return dn o na nb
    if ac ≥ mg then break
   else
    nb:=nb - 1; o:=o.push (<-elem' b nb); bc:=bc + 1; ac:=0
    if nb == 1 then return la o na nb
    if bc ≥ mg then break
  rule "list.sort.gallop"
  mg:=mg + 1
  for _ in [0:tt] do
   if mg > 1 then mg:=mg - 1
   smg' mg
   let some p <-gal' false (<-elem' b (nb - 1)) a 0 na (na - 1) | return dn o na nb
   let k:=na - p
   ac:=k
   if k > 0 then
    o:=o ++ (a.extract p na).reverse; na:=p
    if na == 0 then return dn o na nb
   nb:=nb - 1; o:=o.push (<-elem' b nb)
   if nb == 1 then return la o na nb
   let some p <-gal' true (<-elem' a (na - 1)) b 0 nb (nb - 1) | return dn o na nb
   let k:=nb - p
   bc:=k
   if k > 0 then
    o:=o ++ (b.extract p nb).reverse; nb:=p
    if nb == 1 then return la o na nb
    if nb == 0 then return dn o na nb
   na:=na - 1; o:=o.push (<-elem' a na)
   if na == 0 then return dn o na nb
   if ac < 7 && bc < 7 then break
  mg:=mg + 1
  smg' mg
 unsupported "internal:list.sort.merge-bound"):=rfl
theorem mhi'_eq (a b:Array Keyed):mhi' a b=(do
 rule "list.sort.merge-hi"
 let x <-elem' a (a.size - 1)
 if a.size - 1 == 0 then return dh a b #[x] (a.size - 1) b.size
 if b.size == 1 then return fh a b #[x] (a.size - 1) b.size
 let g <-get
 let c <-forIn [:a.size + b.size] ((none,a.size - 1,b.size,#[x],gallopOf g):HiO) fun _ c=>hiO a b c
 match c.1 with
 | some r=>pure r
 | none=>unsupported "internal:list.sort.merge-bound"):=by
 rw [mhi'_eq0]
 refine bind_congr fun _=>?_
 dsimp only
 refine bind_congr fun y=>?_
 unfold dh fh
 refine congrArg _ (congrArg _ (bind_congr fun g=>?_))
 refine fb (fun _ c=>?_) fun c=>?_
 ·unfold hiO
  refine fb (fun _ d=>?_) fun d=>?_
  ·unfold hiF dh fh
   refine bind_congr fun _=>bind_congr fun _=>bind_congr fun q=>?_
   cases q <;> rfl
  ·obtain ⟨r,d⟩:=d
   cases r with
   | some r=>rfl
   | none=>
    dsimp only
    refine bind_congr fun _=>fb (fun _ e=>?_) fun e=>?_
    ·unfold hiG hiJ1 dh
     refine iteC ?_ ?_ <;>
     ·refine bind_congr fun _=>bind_congr fun _=>bind_congr fun q=>?_
      cases q with
      | none=>rfl
      | some k=>
       refine iteC (iteC rfl ?_) ?_ <;>
       ·unfold hiJ2 hiJ3 dh fh
        refine bind_congr fun _=>iteC rfl (bind_congr fun _=>bind_congr fun q=>?_)
        cases q <;> rfl
    ·obtain ⟨r,e⟩:=e
     cases r <;> rfl
 ·obtain ⟨r,c⟩:=c
  cases r <;> rfl
noncomputable def HH (le:Keyed->Keyed->Bool) (a b:Array Keyed) (o:Array Keyed) (na nb:Nat):Prop:=List.merge (a.toList.take na) (b.toList.take nb) le ++ o.toList.reverse=List.merge a.toList b.toList le
theorem take_at {α:Type} {l:List α} {i:Nat} {x:α} (h:l[i]? = some x):l.take (i + 1)=l.take i ++ [x]:=by
 obtain ⟨h1,h2⟩:=List.getElem?_eq_some_iff.mp h
 rw [List.take_succ,List.getElem?_eq_getElem h1,h2]; rfl
theorem take_take {α:Type} (l:List α) {p n:Nat} (h:p<=n):l.take n=l.take p ++ (l.drop p).take (n - p):=by
 have:l.take n=(l.take n).take p ++ (l.take n).drop p:=(List.take_append_drop p (l.take n)).symm
 rw [List.take_take,Nat.min_eq_left h,List.drop_take] at this
 exact this
theorem mem_take {l:List Keyed} {n:Nat} {x:Keyed} (h:x ∈ l.take n):∃ j,j < n/\l[j]? = some x:=by
 have:=mem_part (l:=l) (i:=0) (k:=n) (x:=x) (by simpa using h)
 simpa using this
section
variable {le:Keyed->Keyed->Bool} {S:Keyed->Prop} {a b o:Array Keyed} {na nb p:Nat} {x y:Keyed}
theorem HH.ga (M:MH le S a b) (h:HH le a b o na (nb + 1)) (hp:p<=na) (hy:b[nb]? = some y) (e:∀ (i:Nat),p<=i->i < na->∀ x:Keyed,a[i]? = some x->le x y=false):HH le a b (o ++ (a.extract p na).reverse) p (nb + 1):=by
 unfold HH at h ⊢
 rw [take_take a.toList hp,mg_backA _ _ (fun z hz x hx=>?_)] at h
 ·rw [<-h]; simp [ext_list]
 ·obtain ⟨j,hj,q⟩:=mem_part hx
  obtain ⟨i,hi,r⟩:=mem_take hz
  have e1:=e (p + j) (by omega) (by omega) x (by rw [arr_list]; exact q)
  have e2:=M.sb i nb z y (by omega) (by rw [arr_list]; exact r) hy
  cases e3:le x z with
  | false=>rfl
  | true=>rw [M.tr _ _ _ e3 e2] at e1; cases e1
theorem HH.gb (M:MH le S a b) (h:HH le a b o (na + 1) nb) (hp:p<=nb) (hx:a[na]? = some x) (e:∀ (i:Nat),p<=i->i < nb->∀ y:Keyed,b[i]? = some y->le x y=true):HH le a b (o ++ (b.extract p nb).reverse) (na + 1) p:=by
 unfold HH at h ⊢
 rw [take_take b.toList hp,mg_backB _ _ (fun z hz y hy=>?_)] at h
 ·rw [<-h]; simp [ext_list]
 ·obtain ⟨j,hj,q⟩:=mem_part hy
  obtain ⟨i,hi,r⟩:=mem_take hz
  have e1:=e (p + j) (by omega) (by omega) y (by rw [arr_list]; exact q)
  have e2:=M.sa i na z x (by omega) (by rw [arr_list]; exact r) hx
  exact M.tr _ _ _ e2 e1
theorem ext_one {α:Type} {a:Array α} {i:Nat} {x:α} (h:a[i]? = some x) (o:Array α):o ++ (a.extract i (i + 1)).reverse=o.push x:=by
 apply Array.toList_inj.mp
 rw [arr_list] at h
 simp only [Array.toList_append,Array.toList_reverse,ext_list,Nat.add_sub_cancel_left,drop_at h,Array.toList_push]
 rfl
theorem HH.pa (M:MH le S a b) (h:HH le a b o (na + 1) (nb + 1)) (hx:a[na]? = some x) (hy:b[nb]? = some y) (e:le x y=false):HH le a b (o.push x) na (nb + 1):=by
 have k0:∀ (i:Nat),na<=i->i < na + 1->∀ z,a[i]? = some z->le z y=false:=fun i h1 h2 z hz=>by
  obtain rfl:i=na:=by omega
  rw [hx] at hz
  cases hz
  exact e
 have:=h.ga M (p:=na) (by omega) hy k0
 rwa [ext_one hx] at this
theorem HH.pb (M:MH le S a b) (h:HH le a b o (na + 1) (nb + 1)) (hx:a[na]? = some x) (hy:b[nb]? = some y) (e:le x y=true):HH le a b (o.push y) (na + 1) nb:=by
 have k0:∀ (i:Nat),nb<=i->i < nb + 1->∀ z,b[i]? = some z->le x z=true:=fun i h1 h2 z hz=>by
  obtain rfl:i=nb:=by omega
  rw [hy] at hz
  cases hz
  exact e
 have:=h.gb M (p:=nb) (by omega) hx k0
 rwa [ext_one hy] at this
theorem ext0 {α:Type} (a:Array α) (n:Nat):(a.extract 0 n).toList=a.toList.take n:=by rw [ext_list]; simp
theorem HH.dh (h:HH le a b o 0 nb):(dh a b o 0 nb).toList=List.merge a.toList b.toList le:=by
 unfold HH at h
 unfold TS.dh
 rw [<-h]; simp only [Array.toList_append,ext0,Array.toList_reverse,List.take_zero,List.nil_append,List.nil_merge]
theorem HH.fh (M:MH le S a b) (h:HH le a b o na 1):(fh a b o na 1).toList=List.merge a.toList b.toList le:=by
 unfold HH at h
 unfold TS.fh
 rw [<-h,mg_all (fun y hy x hx=>?_)]
 ·simp only [Array.toList_append,ext0,Array.toList_reverse]
 ·obtain ⟨j,hj,q⟩:=mem_take hx
  obtain ⟨i,hi,r⟩:=mem_take hy
  obtain rfl:i=0:=by omega
  obtain ⟨x0,hx0⟩:=at_ M.a0
  have e1:=M.first x0 y hx0 (by rw [arr_list]; exact r)
  have e2:=M.sa 0 j x0 x (by omega) hx0 (by rw [arr_list]; exact q)
  cases e3:le x y with
  | false=>rfl
  | true=>rw [M.tr _ _ _ e2 e3] at e1; cases e1
end
section
variable {prog:Program} {w:World} {A:Around} {E:Value->Shared->Prop} {s:Shared} {le:Keyed->Keyed->Bool} {κ:SortKind} {S:Keyed->Prop} {a b:Array Keyed} {st0:SortSt}
noncomputable def Hd (le:Keyed->Keyed->Bool) (a b o:Array Keyed) (na nb:Nat):Prop:=HH le a b o na nb/\0 < na/\na<=a.size/\1 < nb/\nb<=b.size
noncomputable def HR (le:Keyed->Keyed->Bool) (a b:Array Keyed) (m:Nat):ForInStep HiG->Prop
 | .done (some r,_)=>r.toList=List.merge a.toList b.toList le
 | .done (none,na,nb,o,_)=>Hd le a b o na nb/\na + nb<=m
 | .yield (none,na,nb,o,_)=>Hd le a b o na nb/\na + nb<=m
 | .yield (some _,_)=>False
variable (M:MH le S a b)
include M
theorem wpS_H3 {mg ac bc:Nat} {o:Array Keyed} {na nb m:Nat} {st:SortSt} {x y:Keyed} {Q:ForInStep HiG->SortSt->Prop} (h:HH le a b o (na + 1) (nb + 1)) (ha:na + 1<=a.size) (hb0:0 < nb) (hb:nb + 1<=b.size) (hm:na + 1 + (nb + 1)<=m)
  (hx:a[na]? = some x) (hy:b[nb]? = some y) (e:le x y=false) (hQ:∀ r,HR le a b m r->Q r st):wpS (model prog w) A E s (hiJ3 a b mg ac bc (na + 1) (nb + 1) o) Q st:=by
 unfold hiJ3
 simp only [Nat.add_sub_cancel]
 refine wpS_bind (wpS_elem hx ?_)
 have h1:=h.pa M hx hy e
 by_cases e1:na=0
 ·subst e1
  rw [if_pos (by rfl)]
  exact wpS_pure (hQ _ h1.dh)
 ·rw [if_neg (by simpa using e1)]
  have g:Hd le a b (o.push x) na (nb + 1)/\na + (nb + 1)<=m:=⟨⟨h1,by omega,by omega,by omega,by omega⟩,by omega⟩
  split
  ·exact wpS_pure (hQ _ g)
  ·exact wpS_pure (hQ _ g)
theorem wpS_H2 (hL:LtOK prog w A E s le κ S) {mg ac bc:Nat} {o:Array Keyed} {na nb m:Nat} {st:SortSt} {x y:Keyed} {Q:ForInStep HiG->SortSt->Prop} (hk:kindOf st=κ) (h:HH le a b o (na + 1) (nb + 1)) (ha:na + 1<=a.size) (hb0:0 < nb) (hb:nb + 1<=b.size) (hm:na + 1 + (nb + 1)<=m)
  (hx:a[na]? = some x) (hy:b[nb]? = some y) (e:le x y=true) (hQ:∀ r,HR le a b m r->Q r st):wpS (model prog w) A E s (hiJ2 a b mg ac bc (nb + 1) (na + 1) o) Q st:=by
 unfold hiJ2
 simp only [Nat.add_sub_cancel]
 refine wpS_bind (wpS_elem hy ?_)
 have h1:=h.pb M hx hy e
 by_cases e1:nb=1
 ·subst e1
  rw [if_pos (by rfl)]
  exact wpS_pure (hQ _ (h1.fh M))
 ·rw [if_neg (by simpa using e1)]
  refine wpS_bind (wpS_elem hx (wpS_bind (wpS_galS hL M.tr hk (M.Sa _ _ hx) M.Sb (by omega) (fun i j u v _ hij _=>M.sb i j u v hij) (fun p hp g1 g2=>?_) (by omega))))
  simp only [Nat.zero_add] at g1 g2
  dsimp only
  have h2:=h1.gb M hp hx fun i q1 q2 z hz=>by have:=g2 i q1 q2 z hz; simpa [beyP] using this
  have h3:∀ (i:Nat) (z:Keyed),i < p->b[i]? = some z->le x z=false:=fun i z q hz=>by have:=g1 i q z hz; simpa [beyP] using this
  have hp0:0 < p:=by
   rcases Nat.eq_zero_or_pos p with q | q
   ·subst q
    obtain ⟨x0,hx0⟩:=at_ M.a0
    obtain ⟨y0,hy0⟩:=at_ M.b0
    have e2:=M.first x0 y0 hx0 hy0
    have e3:=g2 0 (Nat.le_refl _) (by omega) y0 hy0
    have e4:le x y0=true:=by simpa [beyP] using e3
    have e5:=M.tr _ _ _ (M.sa 0 na x0 x (by omega) hx0 hx) e4
    rw [e5] at e2; cases e2
   ·exact q
  obtain ⟨q,rfl⟩:∃ q,p=q + 1:=⟨p - 1,by omega⟩
  obtain ⟨z,hz⟩:=at_ (c:=b) (i:=q) (by omega)
  by_cases k0:nb - (q + 1) > 0
  ·rw [if_pos k0]
   by_cases e2:q + 1=1
   ·rw [if_pos (by simpa using e2)]
    obtain rfl:q=0:=by omega
    exact wpS_pure (hQ _ (h2.fh M))
   ·rw [if_neg (by simpa using e2),if_neg (by simp)]
    exact wpS_H3 M h2 ha (by omega) (by omega) (by omega) hx hz (h3 q z (by omega) hz) hQ
  ·rw [if_neg k0]
   obtain rfl:nb=q + 1:=by omega
   exact wpS_H3 M h1 ha (by omega) (by omega) (by omega) hx hz (h3 q z (by omega) hz) hQ
theorem wpS_H1 (hL:LtOK prog w A E s le κ S) {mg ac bc:Nat} {o:Array Keyed} {na nb m:Nat} {st:SortSt} {Q:ForInStep HiG->SortSt->Prop} (hs:Sm st0 st) (hk:kindOf st0=κ) (h:Hd le a b o na nb/\na + nb<=m)
  (hQ:∀ r st',Sm st0 st'->HR le a b m r->Q r st'):wpS (model prog w) A E s (hiJ1 a b ac bc na nb o mg) Q st:=by
 obtain ⟨⟨h,ha0,ha,hb0,hb⟩,hm⟩:=h
 obtain ⟨nb,rfl⟩:∃ q,nb=q + 1:=⟨nb - 1,by omega⟩
 unfold hiJ1
 rw [smg'_eq]
 obtain ⟨y,hy⟩:=at_ (c:=b) (i:=nb) (by omega)
 refine wpS_bind (wpS_modify (wpS_bind (wpS_elem hy ?_)))
 have hs1:=hs.mg mg
 generalize SortSt.mk' (kindOf st) (arrOf st) (pendingOf st) mg (failedOf st)=st1 at hs1 ⊢
 have hk1:kindOf st1=κ:=hs1.kind.trans hk
 refine wpS_bind (wpS_galS hL M.tr hk1 (M.Sb _ _ hy) M.Sa (by omega) (fun i j u v _ hij _=>M.sa i j u v hij) (fun p hp g1 g2=>?_) (by omega))
 simp only [Nat.zero_add] at g1 g2
 dsimp only
 have h2:=h.ga M hp hy fun i q1 q2 z hz=>by have:=g2 i q1 q2 z hz; simpa [beyP] using this
 have h3:∀ (i:Nat) (z:Keyed),i < p->a[i]? = some z->le z y=true:=fun i z q hz=>by have:=g1 i q z hz; simpa [beyP] using this
 by_cases k0:na - p > 0
 ·rw [if_pos k0]
  by_cases e2:p=0
  ·subst e2
   rw [if_pos (by rfl)]
   exact wpS_pure (hQ _ _ hs1 h2.dh)
  ·rw [if_neg (by simpa using e2)]
   obtain ⟨q,rfl⟩:∃ q,p=q + 1:=⟨p - 1,by omega⟩
   obtain ⟨z,hz⟩:=at_ (c:=a) (i:=q) (by omega)
   exact wpS_H2 M hL hk1 h2 (by omega) (by omega) hb (by omega) hz hy (h3 q z (by omega) hz) fun r g=>hQ r _ hs1 g
 ·rw [if_neg k0]
  obtain rfl:na=p:=by omega
  obtain ⟨q,rfl⟩:∃ q,na=q + 1:=⟨na - 1,by omega⟩
  obtain ⟨z,hz⟩:=at_ (c:=a) (i:=q) (by omega)
  exact wpS_H2 M hL hk1 h (by omega) (by omega) hb (by omega) hz hy (h3 q z (by omega) hz) fun r g=>hQ r _ hs1 g
theorem wpS_hiG (hL:LtOK prog w A E s le κ S) {mg ac bc:Nat} {o:Array Keyed} {na nb m:Nat} {st:SortSt} {Q:ForInStep HiG->SortSt->Prop} (hs:Sm st0 st) (hk:kindOf st0=κ) (h:Hd le a b o na nb/\na + nb<=m)
  (hQ:∀ r st',Sm st0 st'->HR le a b m r->Q r st'):wpS (model prog w) A E s (hiG a b (none,na,nb,o,mg,ac,bc)) Q st:=by
 unfold hiG
 dsimp only
 split
 ·exact wpS_H1 M hL hs hk h hQ
 ·exact wpS_H1 M hL hs hk h hQ
noncomputable def HFR (le:Keyed->Keyed->Bool) (a b:Array Keyed) (m:Nat):HiF->Prop
 | (some r,_)=>r.toList=List.merge a.toList b.toList le
 | (none,na,nb,o,_)=>Hd le a b o na nb/\na + nb<=m
theorem wpS_hiF (hL:LtOK prog w A E s le κ S) {mg ac bc:Nat} {o:Array Keyed} {na nb m:Nat} {st:SortSt} {Q:ForInStep HiF->SortSt->Prop} (hk:kindOf st=κ) (h:Hd le a b o na nb) (hm:na + nb<=m + 1)
  (hd:∀ c,HFR le a b m c->Q (.done c) st) (hy:∀ o' na' nb' ac' bc',Hd le a b o' na' nb'->na' + nb'<=m->Q (.yield (none,na',nb',o',ac',bc')) st):wpS (model prog w) A E s (hiF a b mg (none,na,nb,o,ac,bc)) Q st:=by
 unfold hiF
 obtain ⟨h,ha0,ha,hb0,hb⟩:=h
 obtain ⟨nb,rfl⟩:∃ q,nb=q + 1:=⟨nb - 1,by omega⟩
 obtain ⟨na,rfl⟩:∃ q,na=q + 1:=⟨na - 1,by omega⟩
 simp only [Nat.add_sub_cancel]
 obtain ⟨y,ey⟩:=at_ (c:=b) (i:=nb) (by omega)
 obtain ⟨x,ex⟩:=at_ (c:=a) (i:=na) (by omega)
 refine wpS_bind (wpS_elem ey (wpS_bind (wpS_elem ex (wpS_bind (hL y x (M.Sb _ _ ey) (M.Sa _ _ ex) _ st hk ?_)))))
 dsimp only
 cases e:le x y with
 | false=>
  simp only [Bool.not_false,if_true]
  have h1:=h.pa M ex ey e
  refine wpS_bind (wpS_elem ex ?_)
  by_cases e1:na=0
  ·subst e1
   rw [if_pos (by rfl)]
   exact wpS_pure (hd _ h1.dh)
  ·rw [if_neg (by simpa using e1)]
   split
   ·exact wpS_pure (hd _ ⟨⟨h1,by omega,by omega,by omega,by omega⟩,by omega⟩)
   ·exact wpS_pure (hy _ _ _ _ _ ⟨h1,by omega,by omega,by omega,by omega⟩ (by omega))
 | true=>
  simp only [Bool.not_true,Bool.false_eq_true,if_false]
  have h1:=h.pb M ex ey e
  refine wpS_bind (wpS_elem ey ?_)
  by_cases e1:nb=1
  ·subst e1
   rw [if_pos (by rfl)]
   exact wpS_pure (hd _ (h1.fh M))
  ·rw [if_neg (by simpa using e1)]
   split
   ·exact wpS_pure (hd _ ⟨⟨h1,by omega,by omega,by omega,by omega⟩,by omega⟩)
   ·exact wpS_pure (hy _ _ _ _ _ ⟨h1,by omega,by omega,by omega,by omega⟩ (by omega))
theorem wpS_hiO (hL:LtOK prog w A E s le κ S) {mg:Nat} {o:Array Keyed} {na nb m:Nat} {st:SortSt} {Q:ForInStep HiO->SortSt->Prop} (hs:Sm st0 st) (hk:kindOf st0=κ) (h:Hd le a b o na nb) (hm:na + nb<=m)
  (hd:∀ r c st',Sm st0 st'->r.toList=List.merge a.toList b.toList le->Q (.done (some r,c)) st') (hy:∀ o' na' nb' mg' st',Sm st0 st'->Hd le a b o' na' nb'->na' + nb' + 1<=m->Q (.yield (none,na',nb',o',mg')) st') :
  wpS (model prog w) A E s (hiO a b (none,na,nb,o,mg)) Q st:=by
 unfold hiO
 dsimp only
 have hk1:kindOf st=κ:=hs.kind.trans hk
 have b0:=M.b0
 have hm0:1<=m:=by have:=h.2.1; omega
 refine wpS_bind (wpS_mono (wpS_forRange (I:=fun x c st'=>st' = st/\∃ o na nb ac bc,c=(none,na,nb,o,ac,bc)/\Hd le a b o na nb/\na + nb + x<=m)
  (Q:=fun c st'=>st' = st/\HFR le a b (m - 1) c) ?_ ?_ ⟨rfl,o,na,nb,0,0,rfl,h,by omega⟩) ?_)
 ·rintro x c st' _ hx ⟨rfl,o,na,nb,ac,bc,rfl,g,q⟩
  have g0:=g.2
  refine wpS_hiF M hL (m:=m - x - 1) hk1 g (by omega) (fun c hc=>⟨rfl,?_⟩) (fun o' ia' ib' ac' bc' g' q'=>⟨rfl,o',ia',ib',ac',bc',rfl,g',by have:=g'.2; omega⟩)
  obtain ⟨_ | r,c⟩:=c
  ·exact ⟨hc.1,by have:=hc.2; omega⟩
  ·exact hc
 ·rintro c st' ⟨rfl,o,na,nb,ac,bc,rfl,g,q⟩
  exact ⟨rfl,g,by omega⟩
 ·rintro ⟨_ | r,c⟩ st' ⟨rfl,hc⟩
  ·obtain ⟨na,nb,o,ac,bc⟩:=c
   dsimp only
   refine wpS_bind (wpS_lift (wpAny_rule ⟨rfl,?_⟩))
   refine wpS_bind (wpS_mono (wpS_forRange (I:=fun _ c st'=>Sm st0 st'/\∃ o na nb mg ac bc,c=(none,na,nb,o,mg,ac,bc)/\Hd le a b o na nb/\na + nb<=m - 1)
    (Q:=fun c st'=>Sm st0 st'/\HR le a b (m - 1) (.done c)) ?_ ?_ ⟨hs,o,na,nb,_,ac,bc,rfl,hc⟩) ?_)
   ·rintro x c st' _ hx ⟨hs',o,na,nb,mg,ac,bc,rfl,g⟩
    refine wpS_hiG M hL hs' hk g fun r st'' hs'' gr=>?_
    match r,gr with
    | .done c,gr=>exact ⟨hs'',gr⟩
    | .yield (none,na,nb,o,mg,ac,bc),gr=>exact ⟨hs'',o,na,nb,mg,ac,bc,rfl,gr⟩
    | .yield (some _,_),gr=>exact gr.elim
   ·rintro c st' ⟨hs',o,na,nb,mg,ac,bc,rfl,g⟩
    exact ⟨hs',g⟩
   ·rintro ⟨_ | r,c⟩ st' ⟨hs',hc⟩
    ·obtain ⟨na,nb,o,mg,ac,bc⟩:=c
     dsimp only
     rw [smg'_eq]
     exact wpS_bind (wpS_modify (wpS_pure (hy _ _ _ _ _ (hs'.mg _) hc.1 (by have:=hc.2; omega))))
    ·exact wpS_pure (hd _ _ _ hs' hc)
  ·exact wpS_pure (hd _ _ _ hs hc)
theorem wpS_mhi (hL:LtOK prog w A E s le κ S) {Q:Array Keyed->SortSt->Prop} (hk:kindOf st0=κ) (h:∀ r st',Sm st0 st'->r.toList=List.merge a.toList b.toList le->Q r st'):wpS (model prog w) A E s (mhi' a b) Q st0:=by
 rw [mhi'_eq]
 refine wpS_bind (wpS_lift (wpAny_rule ⟨rfl,?_⟩))
 have b0:=M.b0
 have a0:=M.a0
 obtain ⟨na,ena⟩:∃ na,a.size=na + 1:=⟨a.size - 1,by omega⟩
 obtain ⟨nb,enb⟩:∃ nb,b.size=nb + 1:=⟨b.size - 1,by omega⟩
 obtain ⟨x,hx⟩:=at_ (c:=a) (i:=na) (by omega)
 obtain ⟨y,hy⟩:=at_ (c:=b) (i:=nb) (by omega)
 rw [ena,enb]
 simp only [Nat.add_sub_cancel]
 refine wpS_bind (wpS_elem hx ?_)
 have j0:HH le a b #[] (na + 1) (nb + 1):=by
  unfold HH
  rw [List.take_of_length_le (by simp; omega),List.take_of_length_le (by simp; omega)]
  simp
 have j1:HH le a b #[x] na (nb + 1):=j0.pa M hx hy (M.last na x y (by omega) hx (by rw [arr_list] at hy; exact List.mem_of_getElem? hy))
 by_cases e1:na=0
 ·subst e1
  rw [if_pos (by rfl)]
  exact wpS_pure (h _ _ .refl j1.dh)
 ·rw [if_neg (by simpa using e1)]
  by_cases e2:nb=0
  ·subst e2
   rw [if_pos (by rfl)]
   exact wpS_pure (h _ _ .refl (j1.fh M))
  ·rw [if_neg (by simpa using e2)]
   refine wpS_bind (wpS_get ?_)
   refine wpS_bind (wpS_mono (wpS_forRange (I:=fun x c st'=>Sm st0 st'/\∃ o ia ib mg,c=(none,ia,ib,o,mg)/\Hd le a b o ia ib/\ia + ib + x + 1<=a.size + b.size)
    (Q:=fun c st'=>Sm st0 st'/\∃ r c',c=(some r,c')/\r.toList=List.merge a.toList b.toList le) ?_ ?_ ⟨.refl,#[x],na,nb + 1,_,rfl,⟨j1,by omega,by omega,by omega,by omega⟩,by omega⟩) ?_)
   ·rintro x c st' _ hx ⟨hs',o,ia,ib,mg,rfl,g,q⟩
    refine wpS_hiO M hL (m:=a.size + b.size - x - 1) hs' hk g (by omega) (fun r c st'' hs'' e=>⟨hs'',r,c,rfl,e⟩) fun o' ia' ib' mg' st'' hs'' g' q'=>⟨hs'',o',ia',ib',mg',rfl,g',by omega⟩
   ·rintro c st' ⟨hs',o,ia,ib,mg,rfl,g,q⟩
    have:=g.2
    omega
   ·rintro c st' ⟨hs',r,c,rfl,e⟩
    exact wpS_pure (h _ _ hs' e)
end
end L2.TS
namespace L2.TS
open PySem PyProof.Rows
noncomputable abbrev CA:=Option (Option Nat) × Nat
noncomputable abbrev CD:=Option (Option Nat) × Nat × Nat
noncomputable def cAsc (lo a nr:Nat):StateT SortSt Sem CA:=forIn [a:nr] ((none,a):CA) fun _ c=>do
 let q <-ltAt' (lo + c.2) (lo + c.2 - 1)
 match q with
 | some sm=>if sm=true then pure (.done (none,c.2)) else pure (.yield (none,c.2 + 1))
 | _=>pure (.done (some none,c.2))
noncomputable def cTail (lo n nr:Nat):StateT SortSt Sem (Option Nat):=do
 reverseSlice' lo (lo + n)
 let c <-cAsc lo n nr
 match c.1 with
 | some r=>pure r
 | none=>pure (some c.2)
noncomputable def cDesc (lo n nr:Nat):StateT SortSt Sem CD:=forIn [n:nr] ((none,n,0):CD) fun _ c=>do
 let q <-ltAt' (lo + c.2.1) (lo + c.2.1 - 1)
 match q with
 | some sm=>
  if sm=true then
   if c.2.2 > 0 then do
    reverseSlice' (lo + c.2.1 - (c.2.2 + 1)) (lo + c.2.1)
    pure (.yield (none,c.2.1 + 1,0))
   else pure (.yield (none,c.2.1 + 1,0))
  else do
   let q <-ltAt' (lo + c.2.1 - 1) (lo + c.2.1)
   match q with
   | some lg=>if lg=true then pure (.done (none,c.2.1,c.2.2)) else pure (.yield (none,c.2.1 + 1,c.2.2 + 1))
   | _=>pure (.done (some none,c.2.1,c.2.2))
 | _=>pure (.done (some none,c.2.1,c.2.2))
noncomputable def cDP (lo n nr:Nat):StateT SortSt Sem (Option Nat):=do
 liftM (rule "list.sort.descending-run")
 let c <-cDesc lo (n + 1) nr
 match c.1 with
 | some r=>pure r
 | none=>
  if c.2.2 > 0 then do
   reverseSlice' (lo + c.2.1 - (c.2.2 + 1)) (lo + c.2.1)
   cTail lo c.2.1 nr
  else cTail lo c.2.1 nr
theorem cRun_eq (lo nr:Nat):countRun' lo nr=(do
  let c <-cAsc lo 1 nr
  match c.1 with
  | some r=>pure r
  | none=>
   if (c.2 == nr)=true then pure (some c.2)
   else if c.2 > 1 then do
    let q <-ltAt' lo (lo + c.2 - 1)
    match q with
    | some ro=>if ro=true then pure (some c.2) else do
      reverseSlice' lo (lo + c.2)
      cDP lo c.2 nr
    | _=>pure none
   else cDP lo c.2 nr):=by
 rw [countRun'_eq]
 have hT:∀ n:Nat,cTail lo n nr=(do
   reverseSlice' lo (lo + n)
   let c <-cAsc lo n nr
   match c.1 with
   | some r=>pure r
   | none=>pure (some c.2)):=fun _=>rfl
 refine bind_congr fun c=>?_
 obtain ⟨_ | r,n⟩:=c
 ·dsimp only
  refine iteC rfl (iteC (bind_congr fun q=>?_) ?_)
  ·cases q with
   | none=>rfl
   | some ro=>
    refine iteC rfl (bind_congr fun _=>?_)
    unfold cDP
    refine bind_congr fun _=>bind_congr fun d=>?_
    obtain ⟨_ | r,m,nq⟩:=d
    ·dsimp only
     unfold cTail
     refine iteC (bind_congr fun _=>bind_congr fun _=>bind_congr fun e=>?_) (bind_congr fun _=>bind_congr fun e=>?_) <;> (obtain ⟨_ | r,e⟩:=e <;> rfl)
    ·rfl
  ·unfold cDP
   refine bind_congr fun _=>bind_congr fun d=>?_
   obtain ⟨_ | r,m,nq⟩:=d
   ·dsimp only
    unfold cTail
    refine iteC (bind_congr fun _=>bind_congr fun _=>bind_congr fun e=>?_) (bind_congr fun _=>bind_congr fun e=>?_) <;> (obtain ⟨_ | r,e⟩:=e <;> rfl)
   ·rfl
 ·rfl
structure Bs (κ:SortKind) (S:Keyed->Prop) (lo:Nat) (st0 st:SortSt):Prop where
 perm:(arrOf st).Perm (arrOf st0)
 kind:kindOf st=κ
 failed:failedOf st=none
 pend:pendingOf st=pendingOf st0
 keep:∀ k,k < lo->(arrOf st)[k]? = (arrOf st0)[k]?
 mem:∀ x ∈ (arrOf st0).toList,S x
section
variable {prog:Program} {w:World} {A:Around} {E:Value->Shared->Prop} {s:Shared} {le:Keyed->Keyed->Bool} {κ:SortKind} {S:Keyed->Prop} {lo:Nat} {st0 st:SortSt}
theorem Bs.size (h:Bs κ S lo st0 st):(arrOf st).size=(arrOf st0).size:=h.perm.size_eq
theorem Bs.at (h:Bs κ S lo st0 st) {i:Nat} (hi:i < (arrOf st0).size):∃ x,(arrOf st)[i]? = some x/\S x:=by
 obtain ⟨x,hx⟩:=at_ (c:=arrOf st) (i:=i) (by rw [h.size]; exact hi)
 refine ⟨x,hx,h.mem x ((Array.perm_iff_toList_perm.mp h.perm).mem_iff.mp ?_)⟩
 rw [arr_list] at hx
 exact List.mem_of_getElem? hx
theorem Bs.setArr (h:Bs κ S lo st0 st) {xs:Array Keyed} (hp:xs.Perm (arrOf st)) (hk:∀ k,k < lo->xs[k]? = (arrOf st)[k]?):Bs κ S lo st0 (setArr st xs):=
 ⟨hp.trans h.perm,h.kind,h.failed,h.pend,fun k q=>(hk k q).trans (h.keep k q),h.mem⟩
theorem wpS_ltI (hL:LtOK prog w A E s le κ S) (hB:Bs κ S lo st0 st) {i j:Nat} {Q:Option Bool->SortSt->Prop} (hi:i < (arrOf st0).size) (hj:j < (arrOf st0).size)
  (h:∀ x y,(arrOf st)[i]? = some x->(arrOf st)[j]? = some y->Q (some (!le y x)) st):wpS (model prog w) A E s (ltAt' i j) Q st:=by
 obtain ⟨x,hx,sx⟩:=hB.at hi
 obtain ⟨y,hy,sy⟩:=hB.at hj
 rw [ltAt'_eq]
 refine wpS_bind (wpS_get ?_)
 exact wpS_bind (wpS_elem hx (wpS_bind (wpS_elem hy (hL x y sx sy Q st hB.kind (h x y hx hy)))))
theorem wpS_rev {i j:Nat} {Q:Unit->SortSt->Prop} (h:Q () (setArr st (mirror (arrOf st) i j ((j - i) / 2)))):wpS (model prog w) A E s (reverseSlice' i j) Q st:=by
 rw [reverseSlice'_eq]; exact wpS_modify h
noncomputable def Asc (le:Keyed->Keyed->Bool) (xs:Array Keyed) (lo n:Nat):Prop:=∀ (i j:Nat) (x y:Keyed),i<=j->j < n->xs[lo + i]? = some x->xs[lo + j]? = some y->le x y=true
noncomputable def Dsc (le:Keyed->Keyed->Bool) (xs:Array Keyed) (lo n:Nat):Prop:=∀ (i j:Nat) (x y:Keyed),i<=j->j < n->xs[lo + i]? = some x->xs[lo + j]? = some y->le y x=true
theorem mirror_keep {xs:Array Keyed} {i j k:Nat} (hj:j<=xs.size) (hk:k < i):(mirror xs i j ((j - i) / 2))[k]? = xs[k]?:=by rw [getElem?_mirror_all hj,if_neg (by omega)]
theorem more {R:Keyed->Keyed->Prop} (tr:∀ x y z,R x y->R y z->R x z) (rf:∀ x,R x x) {xs:Array Keyed} {lo n:Nat} (hn:0 < n)
  (h:∀ (i j:Nat) (x y:Keyed),i<=j->j < n->xs[lo + i]? = some x->xs[lo + j]? = some y->R x y) (h1:∀ x y,xs[lo + (n - 1)]? = some x->xs[lo + n]? = some y->R x y) :
  ∀ (i j:Nat) (x y:Keyed),i<=j->j < n + 1->xs[lo + i]? = some x->xs[lo + j]? = some y->R x y:=fun i j x y hij hj hx hy=>by
 by_cases hjn:j < n
 ·exact h i j x y hij hjn hx hy
 ·obtain rfl:j=n:=by omega
  by_cases hi:i=j
  ·subst hi; rw [hx] at hy; cases hy; exact rf x
  ·have hlt:lo + j < xs.size:=by
    rcases Nat.lt_or_ge (lo + j) xs.size with q | q
    ·exact q
    ·rw [Array.getElem?_eq_none q] at hy; cases hy
   obtain ⟨z,hz⟩:=at_ (c:=xs) (i:=lo + (j - 1)) (by omega)
   exact tr _ _ _ (h i (j - 1) x z (by omega) (by omega) hx hz) (h1 z y hz hy)
variable (hL:LtOK prog w A E s le κ S) (tr:∀ x y z,le x y=true->le y z=true->le x z=true) (tt:∀ x y,(le x y || le y x)=true)
include tt in
theorem le_rf (x:Keyed):le x x=true:=by simpa using tt x x
include tt in
theorem le_of_not {x y:Keyed} (h:le x y=false):le y x=true:=by have:=tt x y; rw [h] at this; simpa using this
include hL tr tt
theorem wpS_cAsc {a nr:Nat} {Q:CA->SortSt->Prop} (hn:lo + nr<=(arrOf st0).size) (ha:1<=a) (han:a<=nr) (hB:Bs κ S lo st0 st) (hs:Asc le (arrOf st) lo a)
  (h:∀ n,a<=n->n<=nr->Asc le (arrOf st) lo n->(n=nr\/∀ x y,(arrOf st)[lo + (n - 1)]? = some x->(arrOf st)[lo + n]? = some y->le x y=false)->Q (none,n) st) :
  wpS (model prog w) A E s (cAsc lo a nr) Q st:=by
 unfold cAsc
 refine wpS_forRange (I:=fun x c st'=>st' = st/\c=(none,x)/\Asc le (arrOf st) lo x) ?_ ?_ ⟨rfl,rfl,hs⟩
 ·rintro x c st' hax hxn ⟨rfl,rfl,hs'⟩
  dsimp only
  refine wpS_bind (wpS_ltI hL hB (by omega) (by omega) fun u v hu hv=>?_)
  rw [show lo + x - 1=lo + (x - 1) by omega] at hv
  cases e:le v u with
  | false=>
   simp only [Bool.not_false,if_true]
   exact wpS_pure (h x hax (by omega) hs' (.inr fun p q hp hq=>by rw [hp] at hv; rw [hq] at hu; cases hv; cases hu; exact e))
  | true=>
   simp only [Bool.not_true,Bool.false_eq_true,if_false]
   exact wpS_pure ⟨rfl,rfl,more tr (le_rf tt) (by omega) hs' fun p q hp hq=>by rw [hp] at hv; rw [hq] at hu; cases hv; cases hu; exact e⟩
 ·rintro c st' ⟨rfl,rfl,hs'⟩
  rw [show max a nr=nr by omega] at hs' ⊢
  exact h nr han (Nat.le_refl _) hs' (.inl rfl)
theorem wpS_cTail {n nr:Nat} {Q:Option Nat->SortSt->Prop} (hn:lo + nr<=(arrOf st0).size) (h1:1<=n) (hnn:n<=nr) (hB:Bs κ S lo st0 st) (hs:Dsc le (arrOf st) lo n)
  (h:∀ m st',Bs κ S lo st0 st'->1<=m->m<=nr->Asc le (arrOf st') lo m->Q (some m) st'):wpS (model prog w) A E s (cTail lo n nr) Q st:=by
 unfold cTail
 have hsz:lo + n<=(arrOf st).size:=by rw [hB.size]; omega
 refine wpS_bind (wpS_rev ?_)
 have hB':=hB.setArr (mirror_perm (arrOf st) lo (lo + n) ((lo + n - lo) / 2)) fun k hk=>mirror_keep hsz hk
 refine wpS_bind (wpS_cAsc hL tr tt hn h1 hnn hB' (fun i j x y hij hj hx hy=>?_) fun m hm1 hm2 hsm _=>wpS_pure (h m _ hB' (by omega) hm2 hsm))
 have hx':(mirror (arrOf st) lo (lo + n) ((lo + n - lo) / 2))[lo + i]? = some x:=hx
 have hy':(mirror (arrOf st) lo (lo + n) ((lo + n - lo) / 2))[lo + j]? = some y:=hy
 rw [getElem?_mirror_all hsz,if_pos (by omega)] at hx' hy'
 rw [show lo + (lo + n) - 1 - (lo + i)=lo + (n - 1 - i) by omega] at hx'
 rw [show lo + (lo + n) - 1 - (lo + j)=lo + (n - 1 - j) by omega] at hy'
 exact hs (n - 1 - j) (n - 1 - i) y x (by omega) (by omega) hy' hx'
noncomputable def Eqs (le:Keyed->Keyed->Bool) (xs:Array Keyed) (lo m q:Nat):Prop:=∀ (i j:Nat) (x y:Keyed),m - (q + 1)<=i->i < m->m - (q + 1)<=j->j < m->xs[lo + i]? = some x->xs[lo + j]? = some y->le x y=true
omit hL tr tt in
theorem Dsc.mir {xs:Array Keyed} {m q:Nat} (hq:q + 1<=m) (hsz:lo + m<=xs.size) (hs:Dsc le xs lo m) (he:Eqs le xs lo m q):Dsc le (mirror xs (lo + m - (q + 1)) (lo + m) ((lo + m - (lo + m - (q + 1))) / 2)) lo m:=fun i j x y hij hj hx hy=>by
 rw [getElem?_mirror_all hsz] at hx hy
 by_cases hi:m - (q + 1)<=i
 ·rw [if_pos (by omega)] at hx
  rw [if_pos (by omega)] at hy
  rw [show lo + m - (q + 1) + (lo + m) - 1 - (lo + i)=lo + (m - (q + 1) + m - 1 - i) by omega] at hx
  rw [show lo + m - (q + 1) + (lo + m) - 1 - (lo + j)=lo + (m - (q + 1) + m - 1 - j) by omega] at hy
  exact he _ _ y x (by omega) (by omega) (by omega) (by omega) hy hx
 ·rw [if_neg (by omega)] at hx
  by_cases hj2:m - (q + 1)<=j
  ·rw [if_pos (by omega)] at hy
   rw [show lo + m - (q + 1) + (lo + m) - 1 - (lo + j)=lo + (m - (q + 1) + m - 1 - j) by omega] at hy
   exact hs i _ x y (by omega) (by omega) hx hy
  ·rw [if_neg (by omega)] at hy
   exact hs i j x y hij hj hx hy
theorem wpS_cDesc {n nr:Nat} {Q:CD->SortSt->Prop} (hn:lo + nr<=(arrOf st0).size) (h1:1<=n) (hnn:n<=nr) (hB:Bs κ S lo st0 st) (hs:Dsc le (arrOf st) lo n)
  (h:∀ m q st',Bs κ S lo st0 st'->n<=m->m<=nr->Dsc le (arrOf st') lo m->q + 1<=m->Eqs le (arrOf st') lo m q->Q (none,m,q) st'):wpS (model prog w) A E s (cDesc lo n nr) Q st:=by
 unfold cDesc
 have one:∀ (xs:Array Keyed) (m:Nat),Eqs le xs lo m 0:=fun xs m i j x y a1 a2 a3 a4 hx hy=>by
  obtain rfl:i=j:=by omega
  rw [hx] at hy; cases hy; exact le_rf tt x
 refine wpS_forRange (I:=fun x c st'=>∃ q,c=(none,x,q)/\Bs κ S lo st0 st'/\Dsc le (arrOf st') lo x/\q + 1<=x/\Eqs le (arrOf st') lo x q) ?_ ?_ ⟨0,rfl,hB,hs,by omega,one _ _⟩
 ·rintro x c st' hax hxn ⟨q,rfl,hB',hs',hq,he⟩
  dsimp only
  have hsz:lo + x<=(arrOf st').size:=by rw [hB'.size]; omega
  refine wpS_bind (wpS_ltI hL hB' (by omega) (by omega) fun u v hu hv=>?_)
  rw [show lo + x - 1=lo + (x - 1) by omega] at hv
  cases e:le v u with
  | false=>
   simp only [Bool.not_false,if_true]
   have hx1:∀ xs:Array Keyed,Dsc le xs lo x->(∀ y,xs[lo + (x - 1)]? = some y->le u y=true)->xs[lo + x]? = some u->Dsc le xs lo (x + 1):=fun xs hd h1 h2=>
    more (R:=fun a b=>le b a=true) (fun a b c h1 h2=>tr _ _ _ h2 h1) (le_rf tt) (by omega) hd fun p r hp hr=>by rw [h2] at hr; cases hr; exact h1 p hp
   have hvu:le u v=true:=le_of_not tt e
   by_cases hq0:q > 0
   ·rw [if_pos hq0]
    refine wpS_bind (wpS_rev (wpS_pure ⟨0,rfl,hB'.setArr (mirror_perm _ _ _ _) fun k hk=>mirror_keep (by omega) (by omega),?_,by omega,one _ _⟩))
    refine hx1 _ (hs'.mir hq hsz he) (fun y hy=>?_) ?_
    ·have hy':(mirror (arrOf st') (lo + x - (q + 1)) (lo + x) ((lo + x - (lo + x - (q + 1))) / 2))[lo + (x - 1)]? = some y:=hy
     rw [getElem?_mirror_all hsz,if_pos (by omega),show lo + x - (q + 1) + (lo + x) - 1 - (lo + (x - 1))=lo + (x - (q + 1)) by omega] at hy'
     exact tr _ _ _ hvu (he (x - 1) (x - (q + 1)) v y (by omega) (by omega) (by omega) (by omega) hv hy')
    ·show (mirror (arrOf st') (lo + x - (q + 1)) (lo + x) ((lo + x - (lo + x - (q + 1))) / 2))[lo + x]? = some u
     rw [getElem?_mirror_all hsz,if_neg (by omega)]; exact hu
   ·rw [if_neg hq0]
    exact wpS_pure ⟨0,rfl,hB',hx1 _ hs' (fun y hy=>by rw [hv] at hy; cases hy; exact hvu) hu,by omega,one _ _⟩
  | true=>
   simp only [Bool.not_true,Bool.false_eq_true,if_false]
   refine wpS_bind (wpS_ltI hL hB' (by omega) (by omega) fun v' u' hv' hu'=>?_)
   rw [show lo + x - 1=lo + (x - 1) by omega] at hv'
   rw [hv] at hv'; cases hv'
   rw [hu] at hu'; cases hu'
   cases e2:le u v with
   | false=>
    simp only [Bool.not_false,if_true]
    exact wpS_pure (h x q st' hB' hax (by omega) hs' hq he)
   | true=>
    simp only [Bool.not_true,Bool.false_eq_true,if_false]
    refine wpS_pure ⟨q + 1,rfl,hB',more (R:=fun a b=>le b a=true) (fun a b c h1 h2=>tr _ _ _ h2 h1) (le_rf tt) (by omega) hs' (fun p r hp hr=>by rw [hv] at hp; rw [hu] at hr; cases hp; cases hr; exact e2),by omega,fun i j p r a1 a2 a3 a4 hp hr=>?_⟩
    have hl:∀ (i:Nat) (p:Keyed),x + 1 - (q + 1 + 1)<=i->i < x + 1->(arrOf st')[lo + i]? = some p->le p v=true/\le v p=true:=fun i p b1 b2 hp=>by
     by_cases hi:i=x
     ·subst hi; rw [hu] at hp; cases hp; exact ⟨e2,e⟩
     ·exact ⟨he i (x - 1) p v (by omega) (by omega) (by omega) (by omega) hp hv,he (x - 1) i v p (by omega) (by omega) (by omega) (by omega) hv hp⟩
    exact tr _ _ _ (hl i p a1 a2 hp).1 (hl j r a3 a4 hr).2
 ·rintro c st' ⟨q,rfl,hB',hs',hq,he⟩
  rw [show max n nr=nr by omega] at hs' hq he ⊢
  exact h nr q st' hB' hnn (Nat.le_refl _) hs' hq he
theorem wpS_cDP {n nr:Nat} {Q:Option Nat->SortSt->Prop} (hn:lo + nr<=(arrOf st0).size) (hnn:n + 1<=nr) (hB:Bs κ S lo st0 st) (hs:Dsc le (arrOf st) lo (n + 1))
  (h:∀ m st',Bs κ S lo st0 st'->1<=m->m<=nr->Asc le (arrOf st') lo m->Q (some m) st'):wpS (model prog w) A E s (cDP lo n nr) Q st:=by
 unfold cDP
 refine wpS_bind (wpS_lift (wpAny_rule ⟨rfl,?_⟩))
 refine wpS_bind (wpS_cDesc hL tr tt hn (by omega) hnn hB hs fun m q st' hB' hm1 hm2 hs' hq he=>?_)
 dsimp only
 have hsz:lo + m<=(arrOf st').size:=by rw [hB'.size]; omega
 by_cases hq0:q > 0
 ·rw [if_pos hq0]
  exact wpS_bind (wpS_rev (wpS_cTail hL tr tt hn (by omega) hm2 (hB'.setArr (mirror_perm _ _ _ _) fun k hk=>mirror_keep hsz (by omega)) (hs'.mir hq hsz he) h))
 ·rw [if_neg hq0]
  exact wpS_cTail hL tr tt hn (by omega) hm2 hB' hs' h
theorem wpS_cRun {nr:Nat} {Q:Option Nat->SortSt->Prop} (hn:lo + nr<=(arrOf st0).size) (h1:1<=nr) (hB:Bs κ S lo st0 st)
  (h:∀ m st',Bs κ S lo st0 st'->1<=m->m<=nr->Asc le (arrOf st') lo m->Q (some m) st'):wpS (model prog w) A E s (countRun' lo nr) Q st:=by
 rw [cRun_eq]
 refine wpS_bind (wpS_cAsc hL tr tt hn (Nat.le_refl 1) h1 hB (fun i j x y hij hj hx hy=>by
  obtain rfl:i=j:=by omega
  rw [hx] at hy; cases hy; exact le_rf tt x) fun n hn1 hn2 hsn hor=>?_)
 dsimp only
 by_cases hnn:n=nr
 ·rw [if_pos (by simpa using hnn)]
  exact wpS_pure (h n st hB hn1 hn2 hsn)
 ·rw [if_neg (by simpa using hnn)]
  have hlt:=hor.resolve_left hnn
  by_cases hgt:n > 1
  ·rw [if_pos hgt]
   refine wpS_bind (wpS_ltI hL hB (by omega) (by omega) fun u v hu hv=>?_)
   rw [show lo + n - 1=lo + (n - 1) by omega] at hv
   cases e:le v u with
   | false=>
    simp only [Bool.not_false,if_true]
    exact wpS_pure (h n st hB hn1 hn2 hsn)
   | true=>
    simp only [Bool.not_true,Bool.false_eq_true,if_false]
    have hsz:lo + n<=(arrOf st).size:=by rw [hB.size]; omega
    have hall:∀ (i j:Nat) (x y:Keyed),i < n->j < n->(arrOf st)[lo + i]? = some x->(arrOf st)[lo + j]? = some y->le x y=true:=fun i j x y hi hj hx hy=>
     tr _ _ _ (hsn i (n - 1) x v (by omega) (by omega) hx hv) (tr _ _ _ e (hsn 0 j u y (by omega) hj (by simpa using hu) hy))
    refine wpS_bind (wpS_rev (wpS_cDP hL tr tt hn (by omega) (hB.setArr (mirror_perm _ _ _ _) fun k hk=>mirror_keep hsz hk) ?_ h))
    have hin:∀ (i:Nat) (x:Keyed),i < n->(mirror (arrOf st) lo (lo + n) ((lo + n - lo) / 2))[lo + i]? = some x->∃ j,j < n/\(arrOf st)[lo + j]? = some x:=fun i x hi hx=>by
     rw [getElem?_mirror_all hsz,if_pos (by omega),show lo + (lo + n) - 1 - (lo + i)=lo + (n - 1 - i) by omega] at hx
     exact ⟨_,by omega,hx⟩
    refine more (R:=fun a b=>le b a=true) (fun a b c h1 h2=>tr _ _ _ h2 h1) (le_rf tt) (by omega) (fun i j x y hij hj hx hy=>?_) fun x y hx hy=>?_
    ·obtain ⟨i',hi',q1⟩:=hin i x (by omega) hx
     obtain ⟨j',hj',q2⟩:=hin j y hj hy
     exact hall j' i' y x hj' hi' q2 q1
    ·obtain ⟨i',hi',q1⟩:=hin (n - 1) x (by omega) hx
     have hy':(mirror (arrOf st) lo (lo + n) ((lo + n - lo) / 2))[lo + n]? = some y:=hy
     rw [getElem?_mirror_all hsz,if_neg (by omega)] at hy'
     exact tr _ _ _ (le_of_not tt (hlt v y hv hy')) (hall (n - 1) i' v x (by omega) hi' hv q1)
  ·rw [if_neg hgt]
   obtain rfl:n=1:=by omega
   refine wpS_cDP hL tr tt hn (by omega) hB ?_ h
   refine more (R:=fun a b=>le b a=true) (fun a b c h1 h2=>tr _ _ _ h2 h1) (le_rf tt) (by omega) (fun i j x y hij hj hx hy=>?_) fun x y hx hy=>le_of_not tt (hlt x y hx hy)
   obtain rfl:i=j:=by omega
   rw [hx] at hy; cases hy; exact le_rf tt x
theorem wpS_bin {n ok:Nat} {Q:Bool->SortSt->Prop} (hn:lo + n<=(arrOf st0).size) (hok:ok<=n) (hB:Bs κ S lo st0 st) (hs:Asc le (arrOf st) lo ok)
  (h:∀ st',Bs κ S lo st0 st'->Asc le (arrOf st') lo n->Q true st'):wpS (model prog w) A E s (binarySort' lo n ok) Q st:=by
 rw [binarySort'_eq]
 refine wpS_bind (wpS_mono (wpS_forRange (I:=fun k c st'=>c=(none,())/\Bs κ S lo st0 st'/\Asc le (arrOf st') lo (min k n))
  (Q:=fun c st'=>c=(none,())/\Bs κ S lo st0 st'/\Asc le (arrOf st') lo n) ?_ ?_ ?_) ?_)
 ·rintro k c st' hak hkn ⟨rfl,hB',hs'⟩
  rw [show min k n=k by omega] at hs'
  obtain ⟨u,hu,su⟩:=hB'.at (i:=lo + k) (by omega)
  dsimp only
  refine wpS_bind (wpS_mono (wpS_forRange (I:=fun x c st''=>st'' = st'/\∃ l r,c=(none,l,r)/\l<=r/\r<=k/\r - l<=k - x/\
    (∀ (i:Nat) (y:Keyed),i < l->(arrOf st')[lo + i]? = some y->le y u=true)/\(∀ (i:Nat) (y:Keyed),r<=i->i < k->(arrOf st')[lo + i]? = some y->le y u=false))
   (Q:=fun c st''=>st'' = st'/\∃ l r,c=(none,l,r)/\l<=k/\
    (∀ (i:Nat) (y:Keyed),i < l->(arrOf st')[lo + i]? = some y->le y u=true)/\(∀ (i:Nat) (y:Keyed),l<=i->i < k->(arrOf st')[lo + i]? = some y->le y u=false)) ?_ ?_ ?_) ?_)
  ·rintro x c st'' _ hxk ⟨rfl,l,r,rfl,hlr,hrk,hm,hlo,hhi⟩
   dsimp only
   by_cases hge:l ≥ r
   ·rw [if_pos hge]
    obtain rfl:l=r:=by omega
    exact wpS_pure ⟨rfl,l,l,rfl,hrk,hlo,hhi⟩
   ·rw [if_neg hge]
    refine wpS_bind (wpS_ltI hL hB' (by omega) (by omega) fun u' v hu' hv=>?_)
    rw [hu] at hu'; cases hu'
    cases e:le v u with
    | false=>
     simp only [Bool.not_false,if_true]
     refine wpS_pure ⟨rfl,l,(l + r) / 2,rfl,by omega,by omega,by omega,hlo,fun i y h1 h2 hy=>?_⟩
     cases e2:le y u with
     | false=>rfl
     | true=>rw [tr _ _ _ (hs' _ _ v y h1 h2 hv hy) e2] at e; cases e
    | true=>
     simp only [Bool.not_true,Bool.false_eq_true,if_false]
     exact wpS_pure ⟨rfl,(l + r) / 2 + 1,r,rfl,by omega,by omega,by omega,fun i y h1 hy=>tr _ _ _ (hs' i ((l + r) / 2) y v (by omega) (by omega) hy hv) e,hhi⟩
  ·rintro c st'' ⟨rfl,l,r,rfl,hlr,hrk,hm,hlo,hhi⟩
   obtain rfl:l=r:=by omega
   exact ⟨rfl,l,l,rfl,hrk,hlo,hhi⟩
  ·exact ⟨rfl,0,k,rfl,by omega,by omega,by omega,fun i y hi=>by omega,fun i y h1 h2=>by omega⟩
  ·rintro c st'' ⟨rfl,l,r,rfl,hlk,hlo,hhi⟩
   show wpS _ _ _ _ (do moveDown' (lo + k) (lo + l); pure (ForInStep.yield (none,()))) _ _
   rw [moveDown'_eq]
   have hks:lo + k < (arrOf st'').size:=by rw [hB'.size]; omega
   have gb:=fun j=>getElem?_bubble (xs:=arrOf st'') hks (lo + k - (lo + l)) (by omega) j
   refine wpS_bind (wpS_modify (wpS_pure ⟨rfl,hB'.setArr (bubble_perm _ _ _) (fun j hj=>by rw [gb,if_neg (by omega),if_neg (by omega)]),?_⟩))
   rw [show min (k + 1) n=k + 1 by omega]
   intro i j x y hij hj hx hy
   have hx':(bubble (arrOf st'') (lo + k) (lo + k - (lo + l)))[lo + i]? = some x:=hx
   have hy':(bubble (arrOf st'') (lo + k) (lo + k - (lo + l)))[lo + j]? = some y:=hy
   rw [gb] at hx' hy'
   have cs:∀ (i:Nat) (x:Keyed),i < k + 1->(if lo + i=lo + k - (lo + k - (lo + l)) then (arrOf st'')[lo + k]? else if lo + k - (lo + k - (lo + l)) < lo + i/\lo + i<=lo + k then (arrOf st'')[lo + i - 1]? else (arrOf st'')[lo + i]?)=some x->
     (i=l/\x=u)\/(l < i/\(arrOf st'')[lo + (i - 1)]? = some x)\/(i < l/\(arrOf st'')[lo + i]? = some x):=fun i x hi h=>by
    split at h
    ·rw [hu] at h; cases h; exact .inl ⟨by omega,rfl⟩
    ·split at h
     ·rw [show lo + i - 1=lo + (i - 1) by omega] at h; exact .inr (.inl ⟨by omega,h⟩)
     ·exact .inr (.inr ⟨by omega,h⟩)
   rcases cs i x (by omega) hx' with ⟨e1,rfl⟩ | ⟨e1,q1⟩ | ⟨e1,q1⟩ <;> rcases cs j y (by omega) hy' with ⟨e2,rfl⟩ | ⟨e2,q2⟩ | ⟨e2,q2⟩
   ·exact le_rf tt _
   ·exact le_of_not tt (hhi (j - 1) y (by omega) (by omega) q2)
   ·omega
   ·omega
   ·exact hs' (i - 1) (j - 1) x y (by omega) (by omega) q1 q2
   ·omega
   ·exact hlo i x e1 q1
   ·exact hs' i (j - 1) x y (by omega) (by omega) q1 q2
   ·exact hs' i j x y hij (by omega) q1 q2
 ·rintro c st' ⟨hc,hB',hs'⟩
  refine ⟨hc,hB',?_⟩
  rwa [show min (max (max ok 1) n) n=n by omega] at hs'
 ·refine ⟨rfl,hB,fun i j x y hij hj hx hy=>?_⟩
  by_cases h1:ok=0
  ·obtain rfl:i=j:=by omega
   rw [hx] at hy; cases hy; exact le_rf tt x
  ·exact hs i j x y hij (by omega) hx hy
 ·rintro c st' ⟨rfl,hB',hs'⟩
  exact wpS_pure (h st' hB' hs')
end
end L2.TS
namespace L2.TS
open PySem PyProof.Rows
theorem put_all (c:Nat):∀ (m:List Keyed) (t:Nat) (arr:Array Keyed),c + t + m.length<=arr.size->((m.zipIdx t).foldl (fun (a:Array Keyed) (q:Keyed × Nat)=>a.setIfInBounds (c + q.2) q.1) arr).toList=arr.toList.take (c + t) ++ (m ++ arr.toList.drop (c + t + m.length))
 | [],t,arr,h=>by simp
 | x :: m,t,arr,h=>by
  rw [List.zipIdx_cons,List.foldl_cons,put_all c m (t + 1) _ (by rw [Array.size_setIfInBounds]; simp at h; omega)]
  simp only [Array.toList_setIfInBounds]
  have hl:c + t < arr.toList.length:=by simp at h ⊢; omega
  rw [show c + (t + 1)=c + t + 1 by omega,take_at (l:=arr.toList.set (c + t) x) (x:=x) (by rw [List.getElem?_set_self hl]),List.take_set_of_le (Nat.le_refl _),List.drop_set_of_lt (by omega)]
  rw [show c + t + (x :: m).length=c + t + 1 + m.length by simp; omega]
  simp
theorem mAt'_eq (i:Nat):mergeAt' i=(do
 let t <-get
 let (some (sa,na,pw),some (sb,nb,_)):=((pendingOf t)[i]?,(pendingOf t)[i + 1]?) | unsupported "internal:list.sort.pending"
 set (setPending t (((pendingOf t).setIfInBounds i (sa,na + nb,pw)).eraseIdxIfInBounds (i + 1)))
 let some k <-gal' false (<-elem' (arrOf t) sb) (arrOf t) sa na 0 | return false
 let (sa,na):=(sa + k,na - k)
 if na == 0 then return true
 let some nb <-gal' true (<-elem' (arrOf t) (sa + na - 1)) (arrOf t) sb nb (nb - 1) | return false
 if nb == 0 then return true
 let x:=(arrOf t).extract sa sb
 let y:=(arrOf t).extract sb (sb + nb)
 let r <-if na<=nb then mlo' x y else mhi' x y
 modify fun u=>setArr u (r.toList.zipIdx.foldl (fun a (p,j)=>a.setIfInBounds (sa + j) p) (arrOf u))
 return (failedOf (<-get)).isNone):=rfl
theorem wpS_set {prog:Program} {w:World} {A:Around} {E:Value->Shared->Prop} {s:Shared} {st st1:SortSt} {Q:PUnit->SortSt->Prop} (h:Q ⟨⟩ st1):wpS (model prog w) A E s (set st1:StateT SortSt Sem PUnit) Q st:=by
 unfold wpS
 have e:(set st1:StateT SortSt Sem PUnit).run st=pure (⟨⟩,st1):=rfl
 rw [e]
 exact wpAny_pure ⟨rfl,h⟩
theorem pw_ix {le:Keyed->Keyed->Bool} (rf:∀ x,le x x=true) {l:List Keyed} (h:l.Pairwise (fun x y=>le x y=true)) {i j:Nat} {x y:Keyed} (hij:i<=j) (hx:l[i]? = some x) (hy:l[j]? = some y):le x y=true:=by
 obtain ⟨i1,rfl⟩:=List.getElem?_eq_some_iff.mp hx
 obtain ⟨j1,rfl⟩:=List.getElem?_eq_some_iff.mp hy
 rcases Nat.lt_or_ge i j with q | q
 ·exact List.pairwise_iff_getElem.mp h i j i1 j1 q
 ·obtain rfl:i=j:=by omega
  exact rf _
section
variable {prog:Program} {w:World} {A:Around} {E:Value->Shared->Prop} {s:Shared} {le:Keyed->Keyed->Bool} {κ:SortKind} {S:Keyed->Prop} {st:SortSt}
variable (hL:LtOK prog w A E s le κ S) (tr:∀ x y z,le x y=true->le y z=true->le x z=true) (tt:∀ x y,(le x y || le y x)=true)
include hL tr tt
theorem wpS_mAt {Q:Bool->SortSt->Prop} {i pw pv:Nat} {L RA RB R:List Keyed} (hk:kindOf st=κ) (hf:failedOf st=none) (hS:∀ x ∈ (arrOf st).toList,S x)
  (h1:(pendingOf st)[i]? = some (L.length,RA.length,pw)) (h2:(pendingOf st)[i + 1]? = some (L.length + RA.length,RB.length,pv)) (ha:(arrOf st).toList=L ++ (RA ++ (RB ++ R)))
  (a0:0 < RA.length) (b0:0 < RB.length) (sa:RA.Pairwise fun x y=>le x y=true) (sb:RB.Pairwise fun x y=>le x y=true)
  (h:∀ st',kindOf st' = κ->failedOf st' = none->pendingOf st' = ((pendingOf st).setIfInBounds i (L.length,RA.length + RB.length,pw)).eraseIdxIfInBounds (i + 1)->(arrOf st').toList=L ++ (List.merge RA RB le ++ R)->Q true st') :
  wpS (model prog w) A E s (mergeAt' i) Q st:=by
 rw [mAt'_eq]
 refine wpS_bind (wpS_get ?_)
 rw [h1,h2]
 dsimp only
 have rf:=le_rf (le:=le) tt
 have ixA:∀ j,j < RA.length->(arrOf st)[L.length + j]? = RA[j]?:=fun j hj=>by
  rw [arr_list,ha,List.getElem?_append_right (by omega),Nat.add_sub_cancel_left,List.getElem?_append_left hj]
 have ixB:∀ j,j < RB.length->(arrOf st)[L.length + RA.length + j]? = RB[j]?:=fun j hj=>by
  rw [arr_list,ha,List.getElem?_append_right (by omega),List.getElem?_append_right (by omega),show L.length + RA.length + j - L.length - RA.length=j by omega,List.getElem?_append_left hj]
 have Sx:∀ (j:Nat) (x:Keyed),(arrOf st)[j]? = some x->S x:=fun j x hx=>hS x (by rw [arr_list] at hx; exact List.mem_of_getElem? hx)
 have sz:(arrOf st).size=L.length + (RA.length + (RB.length + R.length)):=by rw [<-Array.length_toList,ha]; simp
 generalize hst:setPending st (((pendingOf st).setIfInBounds i (L.length,RA.length + RB.length,pw)).eraseIdxIfInBounds (i + 1))=st1
 have k1:kindOf st1=κ:=by rw [<-hst]; exact hk
 have f1:failedOf st1=none:=by rw [<-hst]; exact hf
 have p1:pendingOf st1=((pendingOf st).setIfInBounds i (L.length,RA.length + RB.length,pw)).eraseIdxIfInBounds (i + 1):=by rw [<-hst]
 have ar1:arrOf st1=arrOf st:=by rw [<-hst]
 refine wpS_bind (wpS_set ?_)
 obtain ⟨y0,RB',eB⟩:∃ y t,RB=y :: t:=by cases RB with
  | nil=>simp at b0
  | cons y t=>exact ⟨y,t,rfl⟩
 have hy0:(arrOf st)[L.length + RA.length]? = some y0:=by have:=ixB 0 b0; rw [eB] at this; simpa using this
 refine wpS_bind (wpS_elem hy0 (wpS_bind (wpS_galS hL tr k1 (Sx _ _ hy0) Sx (by omega) (fun i j x y q1 q2 q3 hx hy=>?_) (fun k hk2 g1 g2=>?_) a0)))
 ·obtain ⟨i',rfl⟩:∃ i',i=L.length + i':=⟨i - L.length,by omega⟩
  obtain ⟨j',rfl⟩:∃ j',j=L.length + j':=⟨j - L.length,by omega⟩
  rw [ixA _ (by omega)] at hx hy
  exact pw_ix rf sa (by omega) hx hy
 have eA:RA.take k ++ RA.drop k=RA:=List.take_append_drop k RA
 have fr:List.merge RA RB le=RA.take k ++ List.merge (RA.drop k) RB le:=by
  rw [eB]
  conv=>lhs; rw [<-eA]
  refine mg_front fun x hx=>?_
  obtain ⟨j,hj,q⟩:=mem_take hx
  have:=g1 j hj x (by rw [ixA j (by omega)]; exact q)
  simpa [beyP] using this
 dsimp only
 by_cases e1:RA.length - k=0
 ·rw [if_pos (by simpa using e1)]
  refine wpS_pure (h st1 k1 f1 p1 ?_)
  rw [ar1,ha,fr,List.drop_eq_nil_of_le (by omega),List.take_of_length_le (by omega),List.nil_merge,List.append_assoc]
 rw [if_neg (by simpa using e1)]
 obtain ⟨x1,hx1⟩:∃ x,RA[RA.length - 1]? = some x:=⟨_,List.getElem?_eq_getElem (by omega)⟩
 have hx2:(arrOf st)[L.length + k + (RA.length - k) - 1]? = some x1:=by rw [show L.length + k + (RA.length - k) - 1=L.length + (RA.length - 1) by omega,ixA _ (by omega)]; exact hx1
 refine wpS_bind (wpS_elem hx2 (wpS_bind (wpS_galS hL tr k1 (Sx _ _ hx2) Sx (by omega) (fun i j x y q1 q2 q3 hx hy=>?_) (fun nc hk3 g3 g4=>?_) (by omega))))
 ·obtain ⟨i',rfl⟩:∃ i',i=L.length + RA.length + i':=⟨i - (L.length + RA.length),by omega⟩
  obtain ⟨j',rfl⟩:∃ j',j=L.length + RA.length + j':=⟨j - (L.length + RA.length),by omega⟩
  rw [ixB _ (by omega)] at hx hy
  exact pw_ix rf sb (by omega) hx hy
 have eC:RB.take nc ++ RB.drop nc=RB:=List.take_append_drop nc RB
 have bk:List.merge (RA.drop k) RB le=List.merge (RA.drop k) (RB.take nc) le ++ RB.drop nc:=by
  conv=>lhs; rw [<-eC]
  refine mg_backB _ _ fun x hx y hy=>?_
  obtain ⟨j,hj⟩:=List.getElem?_of_mem hx
  rw [List.getElem?_drop] at hj
  obtain ⟨l,hl⟩:=List.getElem?_of_mem hy
  rw [List.getElem?_drop] at hl
  have hlt:nc + l < RB.length:=(List.getElem?_eq_some_iff.mp hl).1
  have hjt:k + j < RA.length:=(List.getElem?_eq_some_iff.mp hj).1
  have q1:=pw_ix rf sa (i:=k + j) (j:=RA.length - 1) (by omega) hj hx1
  have q2:=g4 (nc + l) (by omega) hlt y (by rw [ixB _ hlt]; exact hl)
  exact tr _ _ _ q1 (by simpa [beyP] using q2)
 dsimp only
 by_cases e2:nc=0
 ·rw [if_pos (by simpa using e2)]
  refine wpS_pure (h st1 k1 f1 p1 ?_)
  subst e2
  rw [ar1,ha,fr,bk]
  simp only [List.take_zero,List.drop_zero,List.merge_right]
  rw [<-List.append_assoc (RA.take k),eA,List.append_assoc]
 rw [if_neg (by simpa using e2)]
 have tX:((arrOf st).extract (L.length + k) (L.length + RA.length)).toList=RA.drop k:=by
  rw [ext_list,ha,<-List.drop_drop,List.drop_left,List.drop_append_of_le_length (by omega),show L.length + RA.length - (L.length + k)=(RA.drop k).length by simp; omega,List.take_left]
 have tY:((arrOf st).extract (L.length + RA.length) (L.length + RA.length + nc)).toList=RB.take nc:=by
  rw [ext_list,ha,<-List.drop_drop,List.drop_left,List.drop_left,Nat.add_sub_cancel_left,List.take_append_of_le_length (by omega)]
 have lX:((arrOf st).extract (L.length + k) (L.length + RA.length)).size=RA.length - k:=by rw [<-Array.length_toList,tX]; simp
 have lY:((arrOf st).extract (L.length + RA.length) (L.length + RA.length + nc)).size=nc:=by rw [<-Array.length_toList,tY]; simp; omega
 have atX:∀ (j:Nat) (x:Keyed),((arrOf st).extract (L.length + k) (L.length + RA.length))[j]? = some x->RA[k + j]? = some x:=fun j x hx=>by rw [arr_list,tX,List.getElem?_drop] at hx; exact hx
 have atY:∀ (j:Nat) (x:Keyed),((arrOf st).extract (L.length + RA.length) (L.length + RA.length + nc))[j]? = some x->j < nc/\RB[j]? = some x:=fun j x hx=>by
  rw [arr_list,tY,List.getElem?_take] at hx
  split at hx
  ·exact ⟨by assumption,hx⟩
  ·cases hx
 have M:MH le S ((arrOf st).extract (L.length + k) (L.length + RA.length)) ((arrOf st).extract (L.length + RA.length) (L.length + RA.length + nc)):={
  tr:=tr
  sa:=fun i j x y hij hx hy=>pw_ix rf sa (by omega) (atX i x hx) (atX j y hy)
  sb:=fun i j x y hij hx hy=>pw_ix rf sb hij (atY i x hx).2 (atY j y hy).2
  Sa:=fun i x hx=>by have q:=atX i x hx; exact Sx (L.length + (k + i)) x (by rw [ixA _ (List.getElem?_eq_some_iff.mp q).1]; exact q)
  Sb:=fun i x hx=>by have q:=(atY i x hx).2; exact Sx (L.length + RA.length + i) x (by rw [ixB _ (List.getElem?_eq_some_iff.mp q).1]; exact q)
  a0:=by omega
  b0:=by omega
  first:=fun x y hx hy=>by
   have q1:=atX 0 x hx
   have q2:=(atY 0 y hy).2
   rw [eB] at q2
   have q3:=g2 k (Nat.le_refl _) (by omega) x (by rw [ixA k (by omega)]; exact q1)
   simp only [List.getElem?_cons_zero,Option.some.injEq] at q2
   rw [<-q2]
   simpa [beyP] using q3
  last:=fun i x y hi hx hy=>by
   have q1:=atX i x hx
   rw [show k + i=RA.length - 1 by omega,hx1] at q1
   cases q1
   rw [tY] at hy
   obtain ⟨j,hj,q⟩:=mem_take hy
   have q3:=g3 j hj y (by rw [ixB j (by omega)]; exact q)
   simpa [beyP] using q3 }
 have fin:∀ (r:Array Keyed) (st2:SortSt),Sm st1 st2->r.toList=List.merge ((arrOf st).extract (L.length + k) (L.length + RA.length)).toList ((arrOf st).extract (L.length + RA.length) (L.length + RA.length + nc)).toList le->
   wpS (model prog w) A E s (do
    modify fun u=>setArr u (List.foldl (fun (a:Array Keyed) (x:Keyed × Nat)=>a.setIfInBounds (L.length + k + x.snd) x.fst) (arrOf u) r.toList.zipIdx)
    let v <-get
    pure (failedOf v).isNone) Q st2:=fun r st2 hs hr=>by
  refine wpS_bind (wpS_modify (wpS_bind (wpS_get ?_)))
  rw [tX,tY] at hr
  have f2:failedOf st2=none:=hs.failed.trans f1
  show wpS _ _ _ _ (pure (failedOf st2).isNone) Q _
  rw [f2]
  refine wpS_pure (h _ (hs.kind.trans k1) f2 (hs.pend.trans p1) ?_)
  show (List.foldl (fun (a:Array Keyed) (x:Keyed × Nat)=>a.setIfInBounds (L.length + k + x.snd) x.fst) (arrOf st2) r.toList.zipIdx).toList=_
  have hl:r.toList.length=RA.length - k + nc:=by rw [hr,List.length_merge]; simp; omega
  rw [hs.arr,ar1,put_all (L.length + k) r.toList 0 (arrOf st) (by omega),hl,Nat.add_zero,ha,fr,bk,hr]
  have t1:(L ++ (RA ++ (RB ++ R))).take (L.length + k)=L ++ RA.take k:=by rw [List.take_append,List.take_of_length_le (by omega),Nat.add_sub_cancel_left,List.take_append_of_le_length (by omega)]
  have t2:(L ++ (RA ++ (RB ++ R))).drop (L.length + k + (RA.length - k + nc))=RB.drop nc ++ R:=by
   rw [show L.length + k + (RA.length - k + nc)=L.length + (RA.length + nc) by omega,<-List.drop_drop,List.drop_left,<-List.drop_drop,List.drop_left,List.drop_append_of_le_length (by omega)]
  rw [t1,t2]
  simp only [List.append_assoc]
 split
 ·exact wpS_bind (wpS_mlo M hL k1 fun r st2 hs hr=>fin r st2 hs hr)
 ·exact wpS_bind (wpS_mhi M hL k1 fun r st2 hs hr=>fin r st2 hs hr)
end
end L2.TS
namespace L2.TS
open PySem PyProof.Rows
noncomputable def Rn (le:Keyed->Keyed->Bool):Nat->List (Nat × Nat × Nat)->List (List Keyed)->Prop
 | _,[],[]=>True
 | lo,p :: ps,r :: rs=>p.1=lo/\p.2.1=r.length/\0 < r.length/\r.Pairwise (fun x y=>le x y=true)/\Rn le (lo + r.length) ps rs
 | _,_,_=>False
section
variable {le:Keyed->Keyed->Bool}
theorem Rn.len:∀ {lo:Nat} {ps:List (Nat × Nat × Nat)} {rs:List (List Keyed)},Rn le lo ps rs->ps.length=rs.length
 | _,[],[],_=>rfl
 | _,_ :: _,_ :: _,h=>by simp [Rn.len h.2.2.2.2]
 | _,[],_ :: _,h=>h.elim
 | _,_ :: _,[],h=>h.elim
theorem Rn.few:∀ {lo:Nat} {ps:List (Nat × Nat × Nat)} {rs:List (List Keyed)},Rn le lo ps rs->rs.length<=rs.flatten.length
 | _,[],[],_=>by simp
 | _,_ :: _,r :: rs,h=>by have:=Rn.few h.2.2.2.2; have:=h.2.2.1; simp; simp at *; omega
 | _,[],_ :: _,h=>h.elim
 | _,_ :: _,[],h=>h.elim
theorem Rn.split:∀ {P Q:List (Nat × Nat × Nat)} {lo:Nat} {rs:List (List Keyed)},Rn le lo (P ++ Q) rs->∃ R1 R2,rs=R1 ++ R2/\Rn le lo P R1/\Rn le (lo + R1.flatten.length) Q R2
 | [],Q,lo,rs,h=>⟨[],rs,rfl,trivial,h⟩
 | p :: P,Q,lo,r :: rs,h=>by
  obtain ⟨R1,R2,e,h1,h2⟩:=Rn.split h.2.2.2.2
  refine ⟨r :: R1,R2,by rw [e]; rfl,⟨h.1,h.2.1,h.2.2.1,h.2.2.2.1,h1⟩,?_⟩
  rw [List.flatten_cons,List.length_append,<-Nat.add_assoc]; exact h2
 | p :: P,Q,lo,[],h=>h.elim
theorem Rn.join:∀ {P Q:List (Nat × Nat × Nat)} {lo:Nat} {R1 R2:List (List Keyed)},Rn le lo P R1->Rn le (lo + R1.flatten.length) Q R2->Rn le lo (P ++ Q) (R1 ++ R2)
 | [],Q,lo,[],R2,_,h=>by simpa using h
 | p :: P,Q,lo,r :: R1,R2,h,h2=>⟨h.1,h.2.1,h.2.2.1,h.2.2.2.1,h.2.2.2.2.join (by rw [List.flatten_cons,List.length_append,<-Nat.add_assoc] at h2; exact h2)⟩
 | [],_,_,_ :: _,_,h,_=>h.elim
 | _ :: _,_,_,[],_,h,_=>h.elim
theorem Rn.pw {f:Nat × Nat × Nat->Nat × Nat × Nat} (hf:∀ p,(f p).1=p.1/\(f p).2.1=p.2.1):∀ {ps:List (Nat × Nat × Nat)} {lo i:Nat} {rs:List (List Keyed)},Rn le lo ps rs->Rn le lo (ps.modify i f) rs
 | [],_,_,[],h=>by simp [Rn]
 | p :: ps,lo,0,r :: rs,h=>by simpa [List.modify,Rn,hf] using h
 | p :: ps,lo,i + 1,r :: rs,h=>by rw [List.modify_succ_cons]; exact ⟨h.1,h.2.1,h.2.2.1,h.2.2.2.1,h.2.2.2.2.pw hf⟩
 | [],_,_,_ :: _,h=>h.elim
 | _ :: _,_,_,[],h=>h.elim
structure IV (le:Keyed->Keyed->Bool) (κ:SortKind) (a₀:List Keyed) (st:SortSt) (rs:List (List Keyed)) (rest:List Keyed):Prop where
 kind:kindOf st=κ
 failed:failedOf st=none
 perm:(arrOf st).toList.Perm a₀
 arr:(arrOf st).toList=rs.flatten ++ rest
 runs:Rn le 0 (pendingOf st).toList rs
variable {prog:Program} {w:World} {A:Around} {E:Value->Shared->Prop} {s:Shared} {κ:SortKind} {a₀:List Keyed} {st:SortSt}
variable (hL:LtOK prog w A E s le κ (· ∈ a₀)) (tr:∀ x y z,le x y=true->le y z=true->le x z=true) (tt:∀ x y,(le x y || le y x)=true)
include hL tr tt
theorem wpS_mIV {Q:Bool->SortSt->Prop} {i:Nat} {rs:List (List Keyed)} {rest:List Keyed} (v:IV le κ a₀ st rs rest) (hi:i + 1 < (pendingOf st).size)
  (h:∀ st' rs',IV le κ a₀ st' rs' rest->rs'.flatten.length=rs.flatten.length->(pendingOf st').size + 1=(pendingOf st).size->Q true st'):wpS (model prog w) A E s (mergeAt' i) Q st:=by
 obtain ⟨P,p1,p2,P',e,hP⟩:∃ P p1 p2 P',(pendingOf st).toList=P ++ p1 :: p2 :: P'/\P.length=i:=by
  have h1:i + 1 < (pendingOf st).toList.length:=by simpa using hi
  refine ⟨(pendingOf st).toList.take i,(pendingOf st).toList[i]'(by omega),(pendingOf st).toList[i + 1],(pendingOf st).toList.drop (i + 2),?_,by rw [List.length_take]; omega⟩
  rw [<-List.drop_eq_getElem_cons h1,<-List.drop_eq_getElem_cons (by omega),List.take_append_drop]
 have hr:=v.runs
 rw [e] at hr
 obtain ⟨R1,R2,e2,r1,r2⟩:=hr.split
 match R2,r2,e2 with
 | Ra :: Rb :: R3,r2,e2=>
  obtain ⟨p1s,p1n,p1p⟩:=p1
  obtain ⟨p2s,p2n,p2p⟩:=p2
  obtain ⟨q1,q2,q3,q4,q5,q6,q7,q8,q9⟩:=r2
  dsimp only at q1 q2 q5 q6
  simp only [Nat.zero_add] at q1 q5
  subst q1 q2 q5 q6
  have ea:(arrOf st).toList=R1.flatten ++ (Ra ++ (Rb ++ (R3.flatten ++ rest))):=by rw [v.arr,e2]; simp
  have g1:(pendingOf st)[i]? = some (R1.flatten.length,Ra.length,p1p):=by rw [arr_list,e,<-hP]; simp
  have g2:(pendingOf st)[i + 1]? = some (R1.flatten.length + Ra.length,Rb.length,p2p):=by rw [arr_list,e,<-hP]; simp
  refine wpS_mAt hL tr tt v.kind v.failed (fun x hx=>v.perm.mem_iff.mp hx) g1 g2 ea q3 q7 q4 q8 fun st' k' f' p' a'=>?_
  have pl:(pendingOf st').toList=P ++ (R1.flatten.length,Ra.length + Rb.length,p1p) :: P':=by
   rw [p',Array.toList_eraseIdxIfInBounds,Array.toList_setIfInBounds,e,<-hP,List.set_append_right _ _ (Nat.le_refl _),List.eraseIdx_append_of_length_le (by omega)]
   simp
  have lm:(List.merge Ra Rb le).length=Ra.length + Rb.length:=List.length_merge _ _ _
  refine h st' (R1 ++ List.merge Ra Rb le :: R3) ⟨k',f',?_,?_,?_⟩ ?_ ?_
  ·refine List.Perm.trans ?_ v.perm
   rw [a',ea]
   refine List.Perm.append_left _ ?_
   rw [<-List.append_assoc Ra]
   exact List.Perm.append_right _ (List.merge_perm_append le)
  ·rw [a']; simp
  ·rw [pl]
   refine r1.join ⟨by simp,by simp [lm],by omega,List.pairwise_merge tr tt _ _ q4 q8,?_⟩
   rw [lm,<-Nat.add_assoc,Nat.zero_add]
   simpa using q9
  ·rw [e2]; simp [lm]; omega
  ·have l1:=congrArg List.length pl
   have l2:=congrArg List.length e
   simp at l1 l2
   omega
 | [],r2,e2=>exact r2.elim
 | [_],r2,e2=>exact r2.2.2.2.2.elim
theorem wpS_push {Q:ForInStep (Option Unit × Nat)->SortSt->Prop} {lo n:Nat} {rs:List (List Keyed)} {rest:List Keyed} (v:IV le κ a₀ st rs rest) (hlo:rs.flatten.length=lo) (hn:1<=n) (hn2:n<=rest.length) (so:(rest.take n).Pairwise fun x y=>le x y=true)
  (h:∀ st' rs',IV le κ a₀ st' rs' (rest.drop n)->rs'.flatten.length=lo + n->Q (.yield (none,lo + n)) st') :
  wpS (model prog w) A E s (do
   modify fun s=>setPending s ((pendingOf s).push (lo,n,0))
   pure (ForInStep.yield (none,lo + n))) Q st:=by
 refine wpS_bind (wpS_modify (wpS_pure (h _ (rs ++ [rest.take n]) ⟨v.kind,v.failed,v.perm,?_,?_⟩ ?_)))
 ·show (arrOf st).toList=_
  rw [v.arr]; simp
 ·show Rn le 0 ((pendingOf st).push (lo,n,0)).toList _
  rw [Array.toList_push]
  refine v.runs.join ⟨by simp [hlo],by simp; omega,by simp; omega,so,trivial⟩
 ·simp [hlo]; omega
theorem wpS_srT {Q:ForInStep (Option Unit × Nat)->SortSt->Prop} {sz lo n:Nat} {rs:List (List Keyed)} {rest:List Keyed} (v:IV le κ a₀ st rs rest) (hlo:rs.flatten.length=lo) (hn:1<=n) (hn2:n<=rest.length) (so:(rest.take n).Pairwise fun x y=>le x y=true)
  (h:∀ st' rs',IV le κ a₀ st' rs' (rest.drop n)->rs'.flatten.length=lo + n->Q (.yield (none,lo + n)) st') :
  ∀ m,m=(do
   let g <-get
   match (pendingOf g).back? with
   | some (s1,n1,_)=>do
    let c <-forIn [:sz] ((none,()):Option Unit × Unit) fun _ _=>do
     let g <-get
     match if (pendingOf g).size > 1 then (pendingOf g)[(pendingOf g).size - 2]? else none with
     | some (_,_,older)=>
      if older<=power' sz (2 * s1 + n1) (2 * s1 + n1 + n1 + n) sz then pure (ForInStep.done (none,()))
      else do
       let b <-mergeAt' ((pendingOf g).size - 2)
       if (!b)=true then pure (ForInStep.done (some (),())) else pure (ForInStep.yield (none,()))
     | _=>pure (ForInStep.done (none,()))
    match c.fst with
    | some r=>pure (ForInStep.done (some r,lo))
    | none=>do
     modify fun s=>setPending s ((pendingOf s).modify ((pendingOf s).size - 1) fun x=>(x.fst,x.2.fst,power' sz (2 * s1 + n1) (2 * s1 + n1 + n1 + n) sz))
     modify fun s=>setPending s ((pendingOf s).push (lo,n,0))
     pure (ForInStep.yield (none,lo + n))
   | _=>do
    modify fun s=>setPending s ((pendingOf s).push (lo,n,0))
    pure (ForInStep.yield (none,lo + n)))->wpS (model prog w) A E s m Q st:=by
 rintro m rfl
 refine wpS_bind (wpS_get ?_)
 cases e:(pendingOf st).back? with
 | none=>exact wpS_push hL tr tt v hlo hn hn2 so h
 | some p=>
  obtain ⟨s1,n1,p1⟩:=p
  dsimp only
  refine wpS_bind (wpS_mono (wpS_forRange (I:=fun _ c st'=>c=(none,())/\∃ rs,IV le κ a₀ st' rs rest/\rs.flatten.length=lo)
   (Q:=fun c st'=>c=(none,())/\∃ rs,IV le κ a₀ st' rs rest/\rs.flatten.length=lo) ?_ (fun c st' q=>q) ⟨rfl,rs,v,hlo⟩) ?_)
  ·rintro x c st' _ _ ⟨rfl,rs,v,hlo⟩
   refine wpS_bind (wpS_get ?_)
   by_cases h1:(pendingOf st').size > 1
   ·rw [if_pos h1]
    obtain ⟨⟨q1,q2,q3⟩,hq⟩:=at_ (c:=pendingOf st') (i:=(pendingOf st').size - 2) (by omega)
    rw [hq]
    dsimp only
    split
    ·exact wpS_pure ⟨rfl,rs,v,hlo⟩
    ·exact wpS_bind (wpS_mIV hL tr tt v (by omega) fun st'' rs' v' e1 e2=>wpS_pure ⟨rfl,rs',v',by omega⟩)
   ·rw [if_neg h1]
    exact wpS_pure ⟨rfl,rs,v,hlo⟩
  ·rintro c st' ⟨rfl,rs,v,hlo⟩
   dsimp only
   refine wpS_bind (wpS_modify (wpS_push hL tr tt ⟨v.kind,v.failed,v.perm,v.arr,?_⟩ hlo hn hn2 so h))
   show Rn le 0 ((pendingOf st').modify _ _).toList _
   rw [Array.toList_modify]
   exact v.runs.pw (f:=fun x=>(x.fst,x.2.fst,power' sz (2 * s1 + n1) (2 * s1 + n1 + n1 + n) sz)) fun p=>⟨rfl,rfl⟩
theorem wpS_runs {Q:Unit->SortSt->Prop} (hk:kindOf st=κ) (hf:failedOf st=none) (hp:pendingOf st = #[]) (ha:(arrOf st).toList=a₀)
  (h:∀ st',failedOf st' = none->(arrOf st').toList.Perm a₀->(arrOf st').toList.Pairwise (fun x y=>le x y=true)->Q () st'):wpS (model prog w) A E s sortRuns' Q st:=by
 rw [sortRuns'_eq]
 refine wpS_bind (wpS_get ?_)
 dsimp only
 generalize hmr:minRun' (arrOf st).size (arrOf st).size 0=mr
 generalize hsz:(arrOf st).size=sz
 have hl0:a₀.length=sz:=by rw [<-ha,<-hsz]; simp
 refine wpS_bind (wpS_mono (wpS_forRange (I:=fun x c st'=>∃ lo rs rest,c=(none,lo)/\IV le κ a₀ st' rs rest/\rs.flatten.length=lo/\x<=lo)
  (Q:=fun c st'=>∃ lo rs rest,c=(none,lo)/\IV le κ a₀ st' rs rest/\rs.flatten.length=lo/\sz<=lo) ?_ ?_ ⟨0,[],a₀,rfl,⟨hk,hf,by rw [ha],by rw [ha]; rfl,by rw [hp]; trivial⟩,rfl,Nat.zero_le _⟩) ?_)
 ·rintro x c st1 _ hx ⟨lo,rs,rest,rfl,v,hlo,hxl⟩
  dsimp only
  by_cases hge:lo ≥ sz
  ·rw [if_pos hge]
   exact wpS_pure ⟨lo,rs,rest,rfl,v,hlo,hge⟩
  ·rw [if_neg hge]
   have size1:(arrOf st1).size=sz:=by rw [<-Array.length_toList,v.perm.length_eq,hl0]
   have B1:Bs κ (· ∈ a₀) lo st1 st1:=⟨Array.Perm.refl _,v.kind,v.failed,rfl,fun _ _=>rfl,fun x hx=>v.perm.mem_iff.mp hx⟩
   have back:∀ (st2:SortSt) (m:Nat),Bs κ (· ∈ a₀) lo st1 st2->Asc le (arrOf st2) lo m->m<=sz - lo->∃ rest2,IV le κ a₀ st2 rs rest2/\rest2.length=sz - lo/\(rest2.take m).Pairwise fun x y=>le x y=true:=fun st2 m B2 s2 hm=>by
    have size2:(arrOf st2).size=sz:=B2.size.trans size1
    have tk:(arrOf st2).toList.take lo=rs.flatten:=by
     have:(arrOf st2).toList.take lo=(arrOf st1).toList.take lo:=by
      apply List.ext_getElem?
      intro k
      rw [List.getElem?_take,List.getElem?_take]
      split
      ·rename_i q; have:=B2.keep k q; rwa [arr_list,arr_list] at this
      ·rfl
     rw [this,v.arr,<-hlo,List.take_left]
    refine ⟨(arrOf st2).toList.drop lo,⟨B2.kind,B2.failed,(Array.perm_iff_toList_perm.mp B2.perm).trans v.perm,?_,by rw [B2.pend]; exact v.runs⟩,by simp [size2],?_⟩
    ·conv=>lhs; rw [<-List.take_append_drop lo (arrOf st2).toList,tk]
    ·rw [List.pairwise_iff_getElem]
     intro i j hi hj hij
     simp at hi hj
     refine s2 i j _ _ (by omega) (by omega) ?_ ?_
     ·rw [arr_list,List.getElem_take,List.getElem_drop,List.getElem?_eq_getElem]
     ·rw [arr_list,List.getElem_take,List.getElem_drop,List.getElem?_eq_getElem]
   refine wpS_bind (wpS_cRun hL tr tt (by omega) (by omega) B1 fun m st2 B2 hm1 hm2 s2=>?_)
   dsimp only
   have fin:∀ (st3:SortSt) (n:Nat),Bs κ (· ∈ a₀) lo st1 st3->Asc le (arrOf st3) lo n->1<=n->n<=sz - lo->∀ st4 rs',(∃ rest2:List Keyed,rest2.length=sz - lo/\IV le κ a₀ st4 rs' (rest2.drop n))->rs'.flatten.length=lo + n->∃ lo' rs rest,((none,lo + n):Option Unit × Nat)=(none,lo')/\IV le κ a₀ st4 rs rest/\rs.flatten.length=lo'/\x + 1<=lo':=fun st3 n B3 s3 n1 n2 st4 rs' ⟨r2,_,v4⟩ e4=>⟨lo + n,rs',_,rfl,v4,e4,by omega⟩
   by_cases hlt:m < mr
   ·rw [if_pos hlt]
    refine wpS_bind (wpS_lift (wpAny_rule ⟨rfl,?_⟩))
    refine wpS_bind (wpS_bin hL tr tt (by omega) (by omega) B2 s2 fun st3 B3 s3=>?_)
    simp only [Bool.not_true,Bool.false_eq_true,if_false]
    obtain ⟨rest2,v3,l3,p3⟩:=back st3 _ B3 s3 (by omega)
    refine wpS_srT (sz:=sz) hL tr tt v3 hlo (by omega) (by omega) p3 (fun st4 rs' v4 e4=>?_) _ ?_
    rotate_left
    ·refine bind_congr fun g=>?_
     cases (pendingOf g).back? with
     | none=>rfl
     | some p=>
      refine fb (fun _ _=>bind_congr fun g=>?_) fun c=>?_
      ·cases (if (pendingOf g).size > 1 then (pendingOf g)[(pendingOf g).size - 2]? else none) <;> rfl
      ·obtain ⟨_ | r,c⟩:=c <;> rfl
    exact fin st3 _ B3 s3 (by omega) (by omega) st4 rs' ⟨rest2,l3,v4⟩ e4
   ·rw [if_neg hlt]
    obtain ⟨rest2,v3,l3,p3⟩:=back st2 _ B2 s2 (by omega)
    refine wpS_srT (sz:=sz) hL tr tt v3 hlo (by omega) (by omega) p3 (fun st4 rs' v4 e4=>?_) _ ?_
    rotate_left
    ·refine bind_congr fun g=>?_
     cases (pendingOf g).back? with
     | none=>rfl
     | some p=>
      refine fb (fun _ _=>bind_congr fun g=>?_) fun c=>?_
      ·cases (if (pendingOf g).size > 1 then (pendingOf g)[(pendingOf g).size - 2]? else none) <;> rfl
      ·obtain ⟨_ | r,c⟩:=c <;> rfl
    exact fin st2 _ B2 s2 (by omega) (by omega) st4 rs' ⟨rest2,l3,v4⟩ e4
 ·rintro c st' ⟨lo,rs,rest,rfl,v,hlo,hxl⟩
  exact ⟨lo,rs,rest,rfl,v,hlo,by omega⟩
 ·rintro c st1 ⟨lo,rs,rest,rfl,v,hlo,hge⟩
  dsimp only
  have hrest:rest=[]:=by
   have l1:=congrArg List.length v.arr
   rw [v.perm.length_eq,List.length_append] at l1
   exact List.eq_nil_of_length_eq_zero (by omega)
  subst hrest
  have pl:(pendingOf st1).size<=sz:=by
   have l1:=congrArg List.length v.arr
   rw [v.perm.length_eq,List.length_append] at l1
   have:=v.runs.few
   have l2:=v.runs.len
   rw [Array.length_toList] at l2
   simp only [List.length_nil] at l1
   omega
  refine wpS_bind (wpS_mono (wpS_forRange (I:=fun x c st'=>c=(none,())/\(∃ rs,IV le κ a₀ st' rs [])/\(pendingOf st').size<=max 1 (sz - x))
   (Q:=fun c st'=>c=(none,())/\(∃ rs,IV le κ a₀ st' rs [])/\(pendingOf st').size<=1) ?_ ?_ ⟨rfl,⟨rs,v⟩,by omega⟩) ?_)
  ·rintro x c st' _ hx ⟨rfl,⟨rs,v⟩,hm⟩
   refine wpS_bind (wpS_get ?_)
   by_cases h1:(pendingOf st').size<=1
   ·rw [if_pos h1]
    exact wpS_pure ⟨rfl,⟨rs,v⟩,h1⟩
   ·rw [if_neg h1]
    refine wpS_bind (wpS_mIV hL tr tt v ?_ fun st'' rs' v' e1 e2=>wpS_pure ⟨rfl,⟨rs',v'⟩,by omega⟩)
    have pk:∀ (b:Bool) (i n:Nat),i + 1 < n->(if b=true then i - 1 else i) + 1 < n:=fun b i n h=>by cases b <;> simp <;> omega
    exact pk _ _ _ (by omega)
  ·rintro c st' ⟨rfl,v,hm⟩
   exact ⟨rfl,v,by omega⟩
  ·rintro c st' ⟨rfl,⟨rs,v⟩,hm⟩
   refine wpS_pure (h st' v.failed v.perm ?_)
   rw [v.arr,List.append_nil]
   have l2:=v.runs.len
   rw [Array.length_toList] at l2
   match rs,v.runs,l2 with
   | [],_,_=>exact .nil
   | [r],q,l2=>
    have e:∃ p,(pendingOf st').toList=[p]:=List.length_eq_one_iff.mp (by rw [Array.length_toList]; simpa using l2)
    obtain ⟨p,e⟩:=e
    rw [e] at q
    simpa using q.2.2.2.1
   | _ :: _ :: _,_,l2=>simp at l2; omega
end
end L2.TS
namespace L2.TS
open PySem PyProof.Rows
theorem lex_irr:∀ xs:List Int,HT.lexLt xs xs=false
 | []=>rfl
 | x :: xs=>by rw [HT.lexLt_cons,if_pos rfl]; exact lex_irr xs
theorem lex_tr:∀ {xs ys zs:List Int},HT.lexLt xs ys=true->HT.lexLt ys zs=true->HT.lexLt xs zs=true
 | [],[],_,h,_=>by cases h
 | [],y :: ys,[],_,h=>by cases h
 | [],_ :: _,_ :: _,_,_=>rfl
 | x :: xs,[],_,h,_=>by cases h
 | x :: xs,y :: ys,[],_,h=>by cases h
 | x :: xs,y :: ys,z :: zs,h1,h2=>by
  rw [HT.lexLt_cons] at h1 h2 ⊢
  by_cases e1:x=y
  ·subst e1
   rw [if_pos rfl] at h1
   by_cases e2:x=z
   ·subst e2; rw [if_pos rfl] at h2 ⊢; exact lex_tr h1 h2
   ·rw [if_neg e2] at h2 ⊢; exact h2
  ·rw [if_neg e1] at h1
   by_cases e2:y=z
   ·subst e2; rw [if_neg e1]; exact h1
   ·rw [if_neg e2] at h2
    have h1':=of_decide_eq_true h1
    have h2':=of_decide_eq_true h2
    rw [if_neg (by omega)]
    exact decide_eq_true (by omega)
theorem lex_tot:∀ {xs ys:List Int},HT.lexLt xs ys=false->HT.lexLt ys xs=false->xs=ys
 | [],[],_,_=>rfl
 | [],_ :: _,h,_=>by cases h
 | _ :: _,[],_,h=>by cases h
 | x :: xs,y :: ys,h1,h2=>by
  rw [HT.lexLt_cons] at h1 h2
  by_cases e:x=y
  ·subst e; rw [if_pos rfl] at h1 h2; rw [lex_tot h1 h2]
  ·rw [if_neg e] at h1
   rw [if_neg (Ne.symm e)] at h2
   have h1':=of_decide_eq_false h1
   have h2':=of_decide_eq_false h2
   omega
noncomputable def lexLe (xs ys:List Int):Bool:=!HT.lexLt ys xs
theorem lexLe_tr (xs ys zs:List Int) (h1:lexLe xs ys=true) (h2:lexLe ys zs=true):lexLe xs zs=true:=by
 unfold lexLe at *
 simp only [Bool.not_eq_true'] at *
 cases e:HT.lexLt zs xs with
 | false=>rfl
 | true=>
  cases e2:HT.lexLt xs ys with
  | true=>rw [lex_tr e e2] at h2; cases h2
  | false=>rw [lex_tot e2 h1] at e; rw [e] at h2; cases h2
theorem lexLe_tt (xs ys:List Int):(lexLe xs ys || lexLe ys xs)=true:=by
 unfold lexLe
 cases e:HT.lexLt ys xs with
 | false=>rfl
 | true=>
  cases e2:HT.lexLt xs ys with
  | false=>rfl
  | true=>have:=lex_tr e e2; rw [lex_irr] at this; cases this
theorem lexLe_as {xs ys:List Int} (h1:lexLe xs ys=true) (h2:lexLe ys xs=true):xs=ys:=by
 unfold lexLe at *
 simp only [Bool.not_eq_true'] at *
 exact lex_tot h2 h1
noncomputable def sortR (rows:List (List Int)):List (List Int):=rows.mergeSort lexLe
theorem sortR_of {rows out:List (List Int)} (h1:out.Perm rows) (h2:out.Pairwise fun x y=>lexLe x y=true):out=sortR rows:=
 List.Perm.eq_of_pairwise (fun a b _ _ p q=>lexLe_as p q) h2 (List.pairwise_mergeSort lexLe_tr lexLe_tt rows) (h1.trans (List.mergeSort_perm rows lexLe).symm)
theorem sortR_perm (rows:List (List Int)):(sortR rows).Perm rows:=List.mergeSort_perm rows lexLe
section
variable {prog:Program} {w:World} {A:Around} {E:Value->Shared->Prop} {s:Shared} {rk:Value->List Int} {κ:SortKind}
noncomputable abbrev leV (rk:Value->List Int):Keyed->Keyed->Bool:=fun x y=>lexLe (rk x.1) (rk y.1)
structure KOk (prog:Program) (w:World) (h0:Heap) (vs:List Value) (rk:Value->List Int) (κ:SortKind):Prop where
 kind:∀ (A:Around) (E:Value->Shared->Prop) (s:Shared) (Q:SortKind->Shared->Prop),(∀ b o,h0.get? b=some o->s.heap.get? b=some o)->2<=vs.length->Q κ s->wpAny (model prog w) A (keyKind' vs.toArray) Q E s
 lt:∀ (A:Around) (E:Value->Shared->Prop) (s:Shared) (Q:Bool->Shared->Prop) (x y:Value),(∀ b o,h0.get? b=some o->s.heap.get? b=some o)->x ∈ vs->y ∈ vs->Q (HT.lexLt (rk x) (rk y)) s->wpAny (model prog w) A (keyLt' κ x y) Q E s
theorem KOk.ltok {h0:Heap} {vs:List Value} (k:KOk prog w h0 vs rk κ) (hs:∀ b o,h0.get? b=some o->s.heap.get? b=some o):LtOK prog w A E s (leV rk) κ (· ∈ (pairsOf vs).toList):=fun x y hx hy Q st hk q=>by
 rw [pairsOf_toList] at hx hy
 rw [lt'_eq]
 refine wpS_bind (wpS_get ?_)
 rw [hk]
 refine wpS_bind (wpS_lift (wpAny_attempt (k.lt A _ s _ x.1 y.1 hs (mem_zip_self hx).2 (mem_zip_self hy).2 ⟨rfl,?_⟩)))
 refine wpS_pure ?_
 have e:(!leV rk y x)=HT.lexLt (rk x.1) (rk y.1):=by unfold leV lexLe; simp
 rw [e] at q; exact q
theorem sort_any {a:Addr} {vs:List Value} {n:Nat} {h0:Heap} {P:PySem.Fin->Shared->Prop} (at0:s.heap.get? a=some (seqObj "list" vs.toArray n)) (hz:vs.length<=sizeLine) (k:KOk prog w h0 vs rk κ) (hb:∀ b o,h0.get? b=some o->b ≠ a/\s.heap.get? b=some o)
  (h:∀ out:List Value,out.Perm vs->out.Pairwise (fun x y=>lexLe (rk x) (rk y)=true)->P (.done (.ret .none)) { s with heap:=sortedHeap s.heap a vs out.toArray }) :
  wpAny (model prog w) A (Builtin.«list.sort» ⟨[.ref a],[]⟩) P E s:=by
 rw [list_sort_plain]
 have la:a < s.heap.objs.size:=Heap.lt_size at0
 refine wpAny_bind (listItems_at at0 rfl (wpAny_bind (listUpdate_at at0 rfl ?_ (by simpa using hz) (Nat.zero_le _))))
 obtain ⟨e1,at1⟩:∃ e1,(s.heap.update a (Obj.mapSeq fun _=>#[])).get? a=some (seqObj "list" #[] e1):=⟨_,get?_update_seq at0 fun _=>#[]⟩
 refine wpAny_bind (seqEpoch_at at1 rfl (wpAny_bind (wpAny_newTuple ?_ (by simpa using hz))))
 refine wpAny_bind (wpAny_newList ?_ (Nat.zero_le _))
 refine wpAny_holding ?_
 have up:∀ {b:Addr} {o:Obj},(s.heap.update a (Obj.mapSeq fun _=>#[])).get? b=some o->(((s.heap.update a (Obj.mapSeq fun _=>#[])).push (seqObj "tuple" vs.toArray 0)).push (seqObj "list" #[] 0)).get? b=some o:=fun e=>Heap.get?_push_of_some _ (Heap.get?_push_of_some _ e)
 have at6:=up at1
 have kp:∀ b o,h0.get? b=some o->(((s.heap.update a (Obj.mapSeq fun _=>#[])).push (seqObj "tuple" vs.toArray 0)).push (seqObj "list" #[] 0)).get? b=some o:=fun b o e=>
  up (by rw [Heap.get?_update_ne _ _ _ _ (hb b o e).1]; exact (hb b o e).2)
 show wpAny (model prog w) A _ P E { s with heap:=((s.heap.update a (Obj.mapSeq fun _=>#[])).push (seqObj "tuple" vs.toArray 0)).push (seqObj "list" #[] 0) }
 dsimp only
 have sz:vs.toArray.size=vs.length:=by simp
 have fin:∀ st':SortSt,(arrOf st').toList.Perm (pairsOf vs).toList->(arrOf st').toList.Pairwise (fun x y=>leV rk x y=true)->P (.done (.ret .none)) { s with heap:=sortedHeap s.heap a vs ((arrOf st').map (·.2)) }:=fun st' p1 p2=>by
  have hm:∀ p ∈ (arrOf st').toList,p.1=p.2:=fun p hp=>by have:=p1.mem_iff.mp hp; rw [pairsOf_toList] at this; exact (mem_zip_self this).1
  have e:(arrOf st').map (·.2)=((arrOf st').toList.map (·.2)).toArray:=by apply Array.toList_inj.mp; simp
  rw [e]
  refine h _ ?_ ?_
  ·have:=p1.map (·.2)
   rwa [pairsOf_toList,List.map_snd_zip (Nat.le_refl _)] at this
  ·rw [List.pairwise_map]
   refine List.Pairwise.imp_of_mem (fun {x y} hx hy q=>?_) p2
   rw [<-hm x hx,<-hm y hy]; exact q
 by_cases h2:vs.toArray.size < 2
 ·rw [if_pos h2,if_pos h2]
  refine wpAny_bind (wpAny_pure ?_)
  rw [StateT.run_pure]
  refine wpAny_bind (wpAny_pure ?_)
  dsimp only
  refine wpAny_bind (seqEpoch_at at6 rfl (wpAny_bind (listUpdate_at at6 rfl ?_ (Nat.zero_le _) (by
   have:((pairsOf vs).map (·.2)).size<=sizeLine + 1:=by rw [Array.size_map,pairsOf_size]; omega
   exact this))))
  simp only [bne_self_eq_false,Bool.false_eq_true,if_false]
  refine wpAny_pure (fin (SortSt.mk' general' (vs.toArray.zip vs.toArray) #[] 7 none) (List.Perm.refl _) ?_)
  show (pairsOf vs).toList.Pairwise _
  rw [pairsOf_toList]
  match vs,sz,h2 with
  | [],_,_=>exact .nil
  | [_],_,_=>exact List.pairwise_singleton _ _
  | _ :: _ :: _,_,h2=>simp at h2; omega
 ·rw [if_neg h2,if_neg h2]
  refine wpAny_bind (k.kind _ _ _ _ kp (by omega) ?_)
  refine wpAny_bind (wpAny_mono (wpS_runs (a₀:=(pairsOf vs).toList) (le:=leV rk) (κ:=κ) (st:=SortSt.mk' κ (vs.toArray.zip vs.toArray) #[] 7 none)
   (Q:=fun _ st'=>failedOf st' = none/\(arrOf st').toList.Perm (pairsOf vs).toList/\(arrOf st').toList.Pairwise (fun x y=>leV rk x y=true))
   (k.ltok kp) (fun x y z p q=>lexLe_tr _ _ _ p q) (fun x y=>lexLe_tt _ _) rfl rfl rfl rfl fun st' a1 a2 a3=>⟨a1,a2,a3⟩) ?_ fun _ _ e=>e)
  rintro ⟨⟨⟩,st'⟩ s' ⟨rfl,hf,p1,p2⟩
  dsimp only
  refine wpAny_bind (seqEpoch_at at6 rfl (wpAny_bind (listUpdate_at at6 rfl ?_ (Nat.zero_le _) (by
   have l1:=p1.length_eq
   simp only [Array.length_toList,pairsOf_size] at l1
   have:((arrOf st').map (·.2)).size<=sizeLine + 1:=by rw [Array.size_map]; omega
   exact this))))
  rw [hf]
  simp only [bne_self_eq_false,Bool.false_eq_true,if_false]
  exact wpAny_pure (fin st' p1 p2)
theorem sorted_any {l:Addr} {vs:List Value} {Q:Value->Shared->Prop} (hl:s.heap.IsList l vs.toArray) (hz:vs.length<=sizeLine) (k:KOk prog w s.heap vs rk κ)
  (h:∀ (out:List Value) (h':Heap) (n:Nat),out.Perm vs->out.Pairwise (fun x y=>lexLe (rk x) (rk y)=true)->(∀ b o,s.heap.get? b=some o->h'.get? b=some o)->h'.get? (s.heap.objs.size + 1)=some (seqObj "list" out.toArray n)->Q (.ref (s.heap.objs.size + 1)) { s with heap:=h' }) :
  wpAny (model prog w) A (call (.builtin "sorted") [.ref l]) Q E s:=by
 refine Calls.call_function_entry kind_sorted plain_sorted entry_sorted (args_sorted1 _) ?_
 unfold Builtin.«sorted»
 refine wpAny_bind (m:=checkCount "sorted" 1 1 _) (wpAny_pure ?_)
 refine wpAny_bind (collect_list hl (wpAny_bind (wpAny_newList ?_ hz)) hz)
 generalize hg:(s.heap.push (seqObj "list" #[] 0)).update s.heap.objs.size (Obj.mapSeq (· ++ vs.toArray))=g
 have gz:g.objs.size=s.heap.objs.size + 1:=by rw [<-hg,Heap.size_update,size_push']
 have gk:∀ b o,s.heap.get? b=some o->g.get? b=some o:=fun b o e=>by
  have hlt:b < s.heap.objs.size:=Heap.lt_size e
  rw [<-hg,Heap.get?_update_ne _ _ _ _ (Nat.ne_of_lt hlt),Heap.get?_push_ne _ _ _ (Nat.ne_of_lt hlt)]; exact e
 have atL:(g.push (seqObj "list" vs.toArray 0)).get? (s.heap.objs.size + 1)=some (seqObj "list" vs.toArray 0):=by rw [<-gz]; exact Heap.get?_push_size _ rfl
 show wpAny _ _ _ _ _ { s with heap:=g.push (seqObj "list" vs.toArray 0) }
 rw [gz]
 have hb:∀ b o,s.heap.get? b=some o->b ≠ s.heap.objs.size + 1/\(g.push (seqObj "list" vs.toArray 0)).get? b=some o:=fun b o e=>
  ⟨Nat.ne_of_lt (Nat.lt_succ_of_lt (Heap.lt_size e)),Heap.get?_push_of_some _ (gk b o e)⟩
 refine wpAny_bind (wpAny_holding (wpAny_call_entry slot_list_sort ⟨_,atL,rfl⟩ entry_list_sort (sort_any atL hz k hb fun out p1 p2=>⟨_,rfl,?_⟩) (args_list_sort _)))
 refine wpAny_pure ⟨_,rfl,?_⟩
 obtain ⟨e1,at1⟩:∃ e1,((g.push (seqObj "list" vs.toArray 0)).update (s.heap.objs.size + 1) (Obj.mapSeq fun _=>#[])).get? (s.heap.objs.size + 1)=some (seqObj "list" #[] e1):=⟨_,get?_update_seq atL fun _=>#[]⟩
 have at2:(((((g.push (seqObj "list" vs.toArray 0)).update (s.heap.objs.size + 1) (Obj.mapSeq fun _=>#[])).push (seqObj "tuple" vs.toArray 0)).push (seqObj "list" #[] 0))).get? (s.heap.objs.size + 1)=some (seqObj "list" #[] e1):=Heap.get?_push_of_some _ (Heap.get?_push_of_some _ at1)
 refine h out _ _ p1 p2 (fun b o e=>?_) (get?_update_seq at2 fun _=>out.toArray)
 have q:=hb b o e
 unfold sortedHeap
 rw [Heap.get?_update_ne _ _ _ _ q.1]
 refine Heap.get?_push_of_some _ (Heap.get?_push_of_some _ ?_)
 rw [Heap.get?_update_ne _ _ _ _ q.1]
 exact q.2
noncomputable def rkH (h:Heap):Value->List Int
 | .int n _=>[n]
 | .ref a=>(match h.get? a with
  | some o=>(match o.data with
   | .seq xs _=>xs.toList.map numOf
   | _=>[])
  | none=>[])
 | _=>[]
theorem kok_ints {h0:Heap} {vs:List Value} (hv:∀ v ∈ vs,∃ n t,v=.int n t):KOk prog w h0 vs (rkH h0) oneType' where
 kind:=fun A E s Q _ h2 q=>by
  have hI:=intsAre_map vs hv
  match vs,hI,h2 with
  | v1 :: v2 :: r,hI,_=>rw [keyKind_ints hI]; exact wpAny_pure q
  | [_],_,h2=>simp at h2
  | [],_,h2=>simp at h2
 lt:=fun A E s Q x y _ hx hy q=>by
  obtain ⟨a,t,rfl⟩:=hv x hx
  obtain ⟨b,u,rfl⟩:=hv y hy
  rw [keyLt'_oneType]
  refine oneLt_int ?_
  have e:HT.lexLt (rkH h0 (.int a t)) (rkH h0 (.int b u))=decide (a < b):=by
   show HT.lexLt [a] [b]=_
   rw [HT.lexLt_cons]
   split
   ·rename_i z; subst z; rw [HT.lexLt_nil_nil]; symm; exact decide_eq_false (by omega)
   ·rfl
  rw [e] at q; exact q
noncomputable def TupI (h:Heap) (v:Value):Prop:=∃ (a:Addr) (its:Array Value) (ns:List Int),v=.ref a/\IsTup h a its/\IntsAre its.toList ns/\ns ≠ []
theorem TupI.rnk {h:Heap} {v:Value} (t:TupI h v):∃ (a:Addr) (its:Array Value) (ns:List Int),v=.ref a/\IsTup h a its/\IntsAre its.toList ns/\ns ≠ []/\rkH h v=ns:=by
 obtain ⟨a,its,ns,rfl,t1,t2,t3⟩:=t
 refine ⟨a,its,ns,rfl,t1,t2,t3,?_⟩
 obtain ⟨o,e1,e2,n,e3⟩:=t1
 unfold rkH
 simp only [e1,e3]
 exact t2.nums
theorem lex_go {b:Bool} {Q:Bool->Shared->Prop}:∀ {xs ys:List Value} {ns ms:List Int} (i:Nat),IntsAre xs ns->IntsAre ys ms->Q (HT.lexLt ns ms) s->W.KatLex prog w A b (decide (xs.length < ys.length)) Q (xs.zip ys) i s
 | _,_,_,_,i,.nil,.nil,q=>W.kat_nil q
 | _,_,_,_,i,.nil,.cons m t h,q=>W.kat_nil (by exact q)
 | _,_,_,_,i,.cons n t h,.nil,q=>W.kat_nil (by exact q)
 | _,_,_,_,i,.cons (vs:=vs) n t h,.cons (vs:=ws) m u h',q=>by
  rw [List.zip_cons_cons]
  refine W.kat_cons (wpAny_eqBool_int ?_)
  rw [HT.lexLt_cons] at q
  have el:decide ((Value.int n t :: vs).length < (Value.int m u :: ws).length)=decide (vs.length < ws.length):=by simp
  rw [el]
  refine W.kat_go (fun e=>W.kat_yes ?_) fun e=>W.kat_no ?_
  ·rw [if_pos (by simpa using e)] at q
   exact lex_go (i + 1) h h' q
  ·rw [if_neg (by simpa using e)] at q
   cases b && i == 0 with
   | true=>exact oneLt_int q
   | false=>exact W.kat_one _ _ (lt_int q)
theorem kat_tups {h:Heap}:∀ {vs:List Value},(∀ v ∈ vs,TupI h v)->∃ fs,W.KatTups h vs fs/\fs.length=vs.length/\∀ f ∈ fs,∃ n t,f=Value.int n t
 | [],_=>⟨[],.nil,rfl,fun _ h=>by cases h⟩
 | v :: vs,hv=>by
  obtain ⟨fs,h1,h2,h3⟩:=kat_tups (vs:=vs) fun u hu=>hv u (List.mem_cons_of_mem _ hu)
  obtain ⟨a,its,ns,rfl,⟨o,e1,e2,n,e3⟩,t2,t3⟩:=hv v List.mem_cons_self
  obtain ⟨m,t,r,er⟩:∃ m t r,its.toList=Value.int m t :: r:=by
   generalize its.toList=l at t2
   cases t2 with
   | nil=>exact absurd rfl t3
   | cons n t h=>exact ⟨n,t,_,rfl⟩
  refine ⟨.int m t :: fs,.cons e1 e2 e3 (f:=.int m t) (by rw [arr_list,er]; rfl) h1,by simp [h2],fun f hf=>?_⟩
  rcases List.mem_cons.mp hf with rfl | hf
  ·exact ⟨m,t,rfl⟩
  ·exact h3 f hf
theorem TupI.mono {h h':Heap} (k:∀ b o,h.get? b=some o->h'.get? b=some o) {v:Value} (t:TupI h v):TupI h' v:=
 let ⟨a,its,ns,e,⟨o,e1,e2⟩,t2,t3⟩:=t; ⟨a,its,ns,e,⟨o,k _ _ e1,e2⟩,t2,t3⟩
theorem kok_tups {h0:Heap} {vs:List Value} (hv:∀ v ∈ vs,TupI h0 v):KOk prog w h0 vs (rkH h0) (tuples' true) where
 kind:=fun A E s Q kp h2 q=>by
  obtain ⟨fs,h1,h3,h4⟩:=kat_tups (h:=s.heap) (vs:=vs) fun v hv'=>(hv v hv').mono kp
  refine W.kat_kind (T:=.type "int") h1 (by omega) (fun f hf=>?_) (by decide) q
  obtain ⟨n,t,rfl⟩:=h4 f hf
  exact .now
 lt:=fun A E s Q x y kp hx hy q=>by
  obtain ⟨a,its,ns,rfl,⟨o,e1,e2,k,e3⟩,t2,t3,r1⟩:=(hv x hx).rnk
  obtain ⟨b,jts,ms,rfl,⟨o',e1',e2',k',e3'⟩,t2',t3',r2⟩:=(hv y hy).rnk
  rw [r1,r2] at q
  refine W.kat_lt (kp _ _ e1) e3 (kp _ _ e1') e3' ?_
  have:=lex_go (prog:=prog) (w:=w) (A:=A) (s:=s) (b:=true) (Q:=Q) 0 t2 t2' q
  simpa using this
end
end L2.TS
namespace L2.TS
open PySem PyProof.Rows
theorem perm_lift {α β:Type} {f:α->β} {l m:List β} (h:l.Perm m):∀ {ts:List α},m=ts.map f->∃ ts':List α,ts'.Perm ts/\ts'.map f=l:=by
 induction h with
 | nil=>
  intro ts e
  cases ts with
  | nil=>exact ⟨[],.nil,rfl⟩
  | cons _ _=>cases e
 | cons x _ ih=>
  intro ts e
  cases ts with
  | nil=>cases e
  | cons t ts=>
   simp only [List.map_cons,List.cons.injEq] at e
   obtain ⟨ts',h1,h2⟩:=ih e.2
   exact ⟨t :: ts',h1.cons t,by rw [List.map_cons,h2,e.1]⟩
 | swap x y l=>
  intro ts e
  match ts,e with
  | [],e=>cases e
  | [_],e=>cases e
  | t :: u :: ts,e=>
   simp only [List.map_cons,List.cons.injEq] at e
   exact ⟨u :: t :: ts,.swap t u ts,by simp [e.1,e.2.1,e.2.2]⟩
 | trans _ _ ih1 ih2=>
  intro ts e
  obtain ⟨t1,h1,h2⟩:=ih2 e
  obtain ⟨t2,h3,h4⟩:=ih1 h2.symm
  exact ⟨t2,h3.trans h1,h4⟩
theorem Paired.zipAll {α β:Type} {R:α->β->Prop}:∀ {xs:List α} {ys:List β},Paired R xs ys->∀ p ∈ xs.zip ys,R p.1 p.2
 | _,_,.nil,p,h=>by cases h
 | _,_,.cons r t,p,h=>by
  rw [List.zip_cons_cons] at h
  rcases List.mem_cons.mp h with rfl | h
  ·exact r
  ·exact Paired.zipAll t p h
theorem Paired.ofZip {α β:Type} {R:α->β->Prop}:∀ {zs:List (α × β)},(∀ p ∈ zs,R p.1 p.2)->Paired R (zs.map (·.1)) (zs.map (·.2))
 | [],_=>.nil
 | z :: zs,h=>.cons (h z List.mem_cons_self) (Paired.ofZip fun p hp=>h p (List.mem_cons_of_mem _ hp))
section
variable {X:Cx}
noncomputable def RowV (K:PySem.W.Frag) (H:Hp):Bool->V->List Int->Prop
 | false,v,r=>∃ i,v=.int i/\r=[i]
 | true,v,r=>∃ a,v=.ref a/\SqT K H a (r.map V.int)/\r ≠ []
noncomputable def rSorted (K:PySem.W.Frag):List V->Hp->VK->Prop:=fun xs H Q=>∃ p ys rows b,xs=[.ref p]/\SqL K H p ys/\Paired (RowV K H b) ys rows/\
 ∀ (l:Addr) (zs:List (V × List Int)),H l=none->zs.Perm (ys.zip rows)->zs.map (·.2)=sortR rows->Q (.ref l) (upd H l (.lst (zs.map (·.1))))
theorem call_sorted:CallR X (.builtin "sorted") (rSorted X.K):=by
 intro pins s σ H xs us Q I r h
 obtain ⟨p,ys,rows,b,rfl,hq,hr,q⟩:=h
 obtain ⟨u,rfl,rx⟩:=vals1 r
 cases rx
 obtain ⟨its,r',pl,hz⟩:=I.list hq
 have hlen:=r'.length
 have key:∀ (y:V) (v:Value) (row:List Int),RelV y v->RowV X.K H b y row->rkH s.heap v=row/\(b=true->TupI s.heap v)/\(b=false->∃ n t,v=.int n t):=fun y v row rel rv=>by
  cases b with
  | false=>
   obtain ⟨i,rfl,rfl⟩:=rv
   obtain ⟨t,rfl⟩:=rel
   exact ⟨rfl,(fun z=>by cases z),fun _=>⟨i,t,rfl⟩⟩
  | true=>
   obtain ⟨a,rfl,sq,ne⟩:=rv
   cases rel
   obtain ⟨jts,rj,tj,_⟩:=I.tuple sq
   have ia:IntsAre jts row:=L3.ints_are rj
   have T:TupI s.heap (.ref a):=⟨a,jts.toArray,row,rfl,tj,by simpa using ia,ne⟩
   obtain ⟨a',its',ns',e1,⟨o,q1,q2,n,q3⟩,e3,e4,e5⟩:=T.rnk
   refine ⟨?_,fun _=>T,fun z=>by cases z⟩
   obtain ⟨o',p1,p2,n',p3⟩:=tj
   unfold rkH
   simp only [p1,p3]
   exact ia.nums
 have all:∀ {ys:List V} {vs:List Value} {rows:List (List Int)},Vals ys vs->Paired (RowV X.K H b) ys rows->vs.map (rkH s.heap)=rows/\∀ v ∈ vs,(b=true->TupI s.heap v)/\(b=false->∃ n t,v=.int n t):=by
  intro ys vs rows h1
  induction h1 generalizing rows with
  | nil=>intro h2; cases h2; exact ⟨rfl,fun _ h=>by cases h⟩
  | cons a _ ih=>
   intro h2
   cases h2 with
   | cons c d=>
    obtain ⟨e1,e2⟩:=ih d
    have k:=key _ _ _ a c
    refine ⟨by rw [List.map_cons,e1,k.1],fun v hv=>?_⟩
    rcases List.mem_cons.mp hv with rfl | hv
    ·exact k.2
    ·exact e2 v hv
 obtain ⟨erk,hall⟩:=all r' hr
 have kok:∃ κ,KOk X.prog X.w s.heap its (rkH s.heap) κ:=by
  cases b with
  | false=>exact ⟨_,kok_ints fun v hv=>(hall v hv).2 rfl⟩
  | true=>exact ⟨_,kok_tups fun v hv=>(hall v hv).1 rfl⟩
 obtain ⟨κ,kok⟩:=kok
 refine sorted_any (rk:=rkH s.heap) pl.isList (by omega) kok fun out h' n p1 p2 kp e=>?_
 obtain ⟨ts,t1,t2⟩:=perm_lift (f:=fun t:V × Value=>t.2) p1 (ts:=ys.zip its) (by rw [List.map_snd_zip (by omega)])
 have rel:∀ t ∈ ts,RelV t.1 t.2:=fun t ht=>Paired.zipAll r' t (t1.mem_iff.mp ht)
 have vals:Vals (ts.map (·.1)) out:=by
  have:=Paired.ofZip (R:=RelV) rel
  rwa [t2] at this
 have lz:(ts.map (·.1)).length<=sizeLine:=by rw [vals.length,p1.length_eq]; omega
 have zs1:(ts.map fun t=>(t.1,rkH s.heap t.2)).Perm (ys.zip rows):=by
  have:=t1.map fun t:V × Value=>(t.1,rkH s.heap t.2)
  refine this.trans (.of_eq ?_)
  rw [<-erk,List.zip_map_right]
  rfl
 have zs2:(ts.map fun t=>(t.1,rkH s.heap t.2)).map (·.2)=sortR rows:=by
  have e1:(ts.map fun t=>(t.1,rkH s.heap t.2)).map (·.2)=out.map (rkH s.heap):=by rw [<-t2]; simp
  rw [e1]
  refine sortR_of ?_ ?_
  ·rw [<-erk]; exact p1.map _
  ·rw [List.pairwise_map]; exact p2
 have fin:=q (s.heap.objs.size + 1) _ (I.hok.fresh (Nat.le_succ _)) zs1 zs2
 have e3:(ts.map fun t=>(t.1,rkH s.heap t.2)).map (·.1)=ts.map (·.1):=by simp
 rw [e3] at fin
 exact ⟨.ref (s.heap.objs.size + 1),_,I.laid (t':=s.toks) kp (Nat.le_succ _) (show ObjOk X.prog X.w _ h' _ (.lst (ts.map (·.1))) from ⟨lz,out,n,vals,e⟩),rfl,fin⟩
end
end L2.TS
namespace L2.L3
open PySem PySem.Spec PyProof.Rows
noncomputable def sortI (ns:List Int):List Int:=ns.mergeSort fun a b=>decide (a<=b)
noncomputable def sortD (ds:List PyData):Option (List PyData):=match intsOf ds with
 | some ns=>some ((sortI ns).map PyData.int)
 | none=>(match rowsOf ds with
  | some rows=>if rows.all (fun r=>!r.isEmpty)=true then some ((TS.sortR rows).map fun r=>.tuple (r.map PyData.int)) else none
  | none=>none)
noncomputable def nSort:List PyData->Option PyData:=fun xs=>match xs with
 | [.list ds]=>(sortD ds).map PyData.list
 | _=>none
noncomputable def fSorted:DN:=fun xs Q=>∃ d,nSort xs=some d/\Q d
theorem sortI_eq (ns:List Int):(TS.sortR (ns.map fun n=>[n])).map (fun r=>r.headD 0)=sortI ns:=by
 have p:=(TS.sortR_perm (ns.map fun n=>[n])).map (fun r=>r.headD 0)
 have e:(ns.map fun n=>[n]).map (fun r=>r.headD 0)=ns:=by rw [List.map_map]; exact (List.map_congr_left fun n _=>rfl).trans (List.map_id ns)
 rw [e] at p
 refine List.Perm.eq_of_pairwise (le:=fun a b=>decide (a<=b)=true) (fun a b _ _ h1 h2=>by simp at h1 h2; omega) ?_ (List.pairwise_mergeSort (fun a b c h1 h2=>by simp at *; omega) (fun a b=>by simp; omega) ns) (p.trans (List.mergeSort_perm _ _).symm)
 rw [List.pairwise_map]
 have q:(TS.sortR (ns.map fun n=>[n])).Pairwise (fun x y=>TS.lexLe x y=true):=List.pairwise_mergeSort TS.lexLe_tr TS.lexLe_tt _
 refine List.Pairwise.imp_of_mem (fun {x y} hx hy h=>?_) q
 obtain ⟨a,_,rfl⟩:=List.mem_map.mp ((TS.sortR_perm _).mem_iff.mp hx)
 obtain ⟨b,_,rfl⟩:=List.mem_map.mp ((TS.sortR_perm _).mem_iff.mp hy)
 refine decide_eq_true (show a<=b from ?_)
 unfold TS.lexLe at h
 rw [HT.lexLt_cons] at h
 by_cases e:b=a
 ·exact Int.le_of_eq e.symm
 ·rw [if_neg e] at h
  by_cases e2:b < a
  ·simp [e2] at h
  ·omega
theorem dvs_paired {G:Hp} {mk:List Int->PyData}:∀ {ys:List V} {rows:List (List Int)},DVs G ys (rows.map mk)->Paired (fun y r=>DV G y (mk r)) ys rows
 | _,[],.nil=>.nil
 | _,_ :: _,.cons a b=>.cons a (dvs_paired b)
theorem paired_dvs {G:Hp} {mk:List Int->PyData}:∀ {ys:List V} {rows:List (List Int)},Paired (fun y r=>DV G y (mk r)) ys rows->DVs G ys (rows.map mk)
 | _,_,.nil=>.nil
 | _,_,.cons a b=>.cons a (paired_dvs b)
theorem n_sorted {K:PySem.W.Frag}:OpN (TS.rSorted K) fSorted where
 mn:=fun _ _ _ k ⟨d,e,q⟩=>⟨d,e,k _ q⟩
 ok:=fun O H vs xs Q hO hd q=>by
  obtain ⟨d,e,q⟩:=q
  obtain ⟨ds,rfl⟩:∃ ds,xs=[.list ds]:=by
   unfold nSort at e
   split at e
   ·exact ⟨_,rfl⟩
   ·cases e
  obtain ⟨x,rfl,h1⟩:=dvs1 hd
  obtain ⟨a,ys,rfl,ha,hy⟩:=h1.lst_inv
  have sq:SqL K H a ys:=.of (of_hide ha).1
  have go:∀ (b:Bool) (mk:List Int->PyData) (rows:List (List Int)),ds=rows.map mk->(∀ y r,r ∈ rows->DV (hide O H) y (mk r)->TS.RowV K H b y r)->d=.list ((TS.sortR rows).map mk)->TS.rSorted K [.ref a] H Q:=fun b mk rows e1 e2 e3=>by
   subst e1
   have pr:=dvs_paired hy
   have pr2:Paired (TS.RowV K H b) ys rows:=by
    clear sq ha h1 hd e
    have:∀ {ys:List V} {rs:List (List Int)},(∀ r ∈ rs,r ∈ rows)->Paired (fun y r=>DV (hide O H) y (mk r)) ys rs->Paired (TS.RowV K H b) ys rs:=by
     intro ys rs hs p
     induction p with
     | nil=>exact .nil
     | cons c _ ih=>exact .cons (e2 _ _ (hs _ List.mem_cons_self) c) (ih fun r hr=>hs r (List.mem_cons_of_mem _ hr))
    exact this (fun _ h=>h) pr
   refine ⟨a,ys,rows,b,rfl,sq,pr2,fun l zs hl z1 z2=>?_⟩
   subst e3
   refine q _ _ (same_upd hl) (dv_new_lst hl (hO l hl) ?_)
   have z3:∀ z ∈ zs,DV (hide O H) z.1 (mk z.2):=fun z hz=>TS.Paired.zipAll pr z (z1.mem_iff.mp hz)
   have:=paired_dvs (TS.Paired.ofZip (R:=fun y r=>DV (hide O H) y (mk r)) z3)
   rwa [z2] at this
  have e':(sortD ds).map PyData.list=some d:=e
  unfold sortD at e'
  cases h2:intsOf ds with
  | some ns=>
   rw [h2] at e'
   simp only [Option.map_some,Option.some.injEq] at e'
   refine go false (fun r=>.int (r.headD 0)) (ns.map fun n=>[n]) (by rw [intsOf_eq h2]; simp) (fun y r hr hv=>?_) ?_
   ·obtain ⟨n,_,rfl⟩:=List.mem_map.mp hr
    exact ⟨n,hv.int_inv,rfl⟩
   ·rw [<-e',<-sortI_eq,List.map_map]; rfl
  | none=>
   rw [h2] at e'
   cases h3:rowsOf ds with
   | none=>rw [h3] at e'; cases e'
   | some rows=>
    rw [h3] at e'
    dsimp only at e'
    split at e'
    ·rename_i hall
     simp only [Option.map_some,Option.some.injEq] at e'
     refine go true (fun r=>.tuple (r.map PyData.int)) rows (rowsOf_eq h3) (fun y r hr hv=>?_) e'.symm
     obtain ⟨b,ws,rfl,hb,hw⟩:=hv.tup_inv
     rw [dvs_ints hw] at hb
     refine ⟨b,rfl,.inl (of_hideR hb).1,fun z=>?_⟩
     have:=List.all_eq_true.mp hall r hr
     rw [z] at this; cases this
    ·cases e'
theorem fn_sorted:FN fSorted nSort:=fun xs d Q e q=>⟨d,e,q⟩
end L2.L3
namespace L2
open PySem PySem.Spec PyProof.Rows
open AutoSeq1 (wpAny_loadPart')
section
variable {X:Cx} {elts:List Expr} {kk:Nat} {tpos:Pos}
end
end L2
namespace L2.L3
open PySem PySem.Spec PyProof.Rows
section
variable {X:Cx} {F:Fx} {E:Str->DEnv->Prop} {a e:Expr} {tA:DTA} {p pos:Pos}
end
end L2.L3
namespace L2.L3
open PySem PySem.Spec PyProof.Rows
section
variable {X:Cx} {F:Fx} {E:Str->DEnv->Prop} {e a b c:Expr} {pos:Pos} {x:Str}
theorem db_chain {op op':CmpOp} {p p':Int->Int->Bool} {ta tb tc:DT} (ho:OpR X (compareOp op) (rI0 fun i j=>.bl (p i j))) (ho':OpR X (compareOp op') (rI0 fun i j=>.bl (p' i j))) (ha:DE X F a ta) (hb:DE X F b tb) (hc:DE X F c tc)
  (hm:lastMarks [op,op'] [b,c]=false:=by with_unfolding_all rfl):DB X F (.Compare a [op,op'] [b,c] pos) (dTst (dChain p p' ta tb tc)):=by
 have he:=de_chain (pos:=pos) ho ho' ha hb hc hm
 refine ⟨mn_tst he.mn,(pt_chain ho ho' ha.pe hb.pe hc.pe hm).imp fun σ H Q ⟨ρ,O,st,q⟩=>?_⟩
 refine ⟨ρ,O,st,ha.mn _ _ _ (fun x ρ1 q1 v H1 O1 st1 s1 d1=>⟨ρ1,O1,st1,hb.mn _ _ _ (fun y ρ2 ⟨i,j,e1,e2,q2⟩ w H2 O2 st2 s2 d2=>?_) q1⟩) q⟩
 subst e1 e2
 refine ⟨i,j,(DV.mono s2.hid d1).int_inv,d2.int_inv,p i j,rfl,?_⟩
 by_cases h:p i j=true
 ·rw [if_pos h] at q2 ⊢
  exact ⟨ρ2,O2,st2,hc.mn _ _ _ (fun z ρ3 ⟨l,e,b',eb,q3⟩ u H3 O3 st3 s3 d3=>by subst e; exact ⟨j,l,(DV.mono s3.hid d2).int_inv,d3.int_inv,p' j l,rfl,by cases eb; exact q3 H3 O3 st3 (s1.trans (s2.trans s3))⟩) q2⟩
 ·rw [if_neg h] at q2 ⊢
  obtain ⟨b',eb,q3⟩:=q2
  cases eb
  exact ⟨false,rfl,q3 H2 O2 st2 (s1.trans s2)⟩
end
end L2.L3
namespace L2.L3
open PySem PySem.Spec PyProof.Rows
section
variable {X:Cx} {F:Fx} {E:Str->DEnv->Prop} {e a b c:Expr} {pos:Pos} {x:Str} {ma mb mc:XM PyData}
theorem chain_of {p p':Int->Int->Bool} {ρ:DEnv} {Q:PyData->DEnv->Prop} (q:wp E (xChain p p' ma mb mc) ρ Q):dChain p p' (wp E ma) (wp E mb) (wp E mc) ρ Q:=by
 refine mn_wp _ _ _ (fun x ρ1 q1=>?_) (wp_bind q)
 refine mn_wp _ _ _ (fun y ρ2 q2=>?_) (wp_bind q1)
 unfold wp at q2
 cases x with
 | int i=>cases y with
  | int j=>
   refine ⟨i,j,rfl,rfl,?_⟩
   by_cases hp:p i j=true
   ·simp only [if_pos hp] at q2
    rw [if_pos hp]
    refine mn_wp _ _ _ (fun z ρ3 q3=>?_) (wp_bind (m:=mc) (k:=fun z=>lift (match z with | .int k=>some (PyData.bool (p' j k)) | _=>none)) q2)
    obtain ⟨d,e1,q4⟩:=wp_lift q3
    cases z with
    | int k=>cases e1; exact ⟨k,rfl,q4⟩
    | _=>cases e1
   ·simp only [if_neg hp] at q2
    rw [if_neg hp]
    exact q2
  | _=>exact q2.elim
 | _=>exact q2.elim
theorem fb_lelt (ha:FE X F E a ma) (hb:FE X F E b mb) (hc:FE X F E c mc) (hm:lastMarks [.LtE,.Lt] [b,c]=false:=by with_unfolding_all rfl):FB X F E (.Compare a [.LtE,.Lt] [b,c] pos) (xTst (xChain (fun i j=>decide (i<=j)) (fun i j=>decide (i < j)) ma mb mc)):=
 (db_chain op_le op_lt ha hb hc hm).imp mn_wp fun ρ Q q=>chain_of (tst_of q)
end
end L2.L3
namespace L2.TS
open PySem PyProof.Rows PySem.W
section
variable {prog:Program} {w:World} {A:Around} {E:Value->Shared->Prop} {s:Shared} {T:String} {r d:Addr} {n:Nat} {P:Nat->Value->Prop} {OK:Heap->Prop}
end
end L2.TS
namespace L2.L3
open PySem PySem.Spec PyProof.Rows PySem.W
section
variable {X:Cx} {F:Fx} {E:Str->DEnv->Prop} {pos p p1:Pos} {x:Str} {i:Nat}
end
end L2.L3
namespace L2
open PySem PySem.Spec PyProof.Rows
section
variable {prog:Program} {w:World} {A:Around} {E:Value->Shared->Prop} {s:Shared}
end
section
variable {X:Cx} {y:Str} {tpos:Pos}
end
end L2
namespace L2.L3
open PySem PySem.Spec PyProof.Rows
section
variable {X:Cx} {F:Fx} {E:Str->DEnv->Prop} {a e:Expr} {tA:DTA} {p pos tpos:Pos} {y:Str}
end
end L2.L3
namespace L2.L3
open PySem PySem.Spec PyProof.Rows
section
variable {X:Cx} {F:Fx} {E:Str->DEnv->Prop} {tg e:Expr} {x:Str} {pos p1:Pos} {g d:Addr} {ws:List Str}
end
end L2.L3
namespace L2.L3
open PySem PySem.Spec PyProof.Rows
section
variable {X:Cx} {F:Fx} {E:Str->DEnv->Prop} {a b:Expr}
@[simp] noncomputable def parO (i j:Nat) (n:Int) (c:Cell):SM:=fun ρ1=>if i < ρ1.length then (match c with | .own true _=>.bad | c=>.nx ((ρ1.set i (some c)).set j (some (.dat (.int n))))) else .bad
@[simp] noncomputable def sParO (i j:Nat) (n:Int) (m:XM Cell):SM:=fun ρ=>ofX (m ρ) (parO i j n)
theorem fs_parO {i j:Nat} {x y:Str} {px py pt pos pb:Pos} {kt k2 pt2} {n:Int} {jb} {m:XM Cell} (hc:X.calm=true) (hN:X.N.Nodup) (hi:X.N[i]? = some x) (hj:X.N[j]? = some y) (hij:i ≠ j)
  (hx:X.env.scope.names.lookup x=some .local) (hy:X.env.scope.names.lookup y=some .local) (he:FO X F E a m)
  (hw:swappedStores [.Tuple [.Name x px,.Name y py] kt pt] (.Tuple [a,.Constant (.int n) jb pb] k2 pt2) X.env=pure (some [x,y]):=by rfl)
  (hs:swapsWithSole [.Tuple [.Name x px,.Name y py] kt pt] (.Tuple [a,.Constant (.int n) jb pb] k2 pt2) pos.line X.env=pure false:=by rfl)
  (h1:starEach [a,.Constant (.int n) jb pb] X.env=(false,eval a X.env) :: starEach [.Constant (.int n) jb pb] X.env:=by rfl) (h2:starEach [.Constant (.int n) jb pb] X.env=(false,eval (.Constant (.int n) jb pb) X.env) :: starEach [] X.env:=by rfl) :
  FS X F E (.Assign [.Tuple [.Name x px,.Name y py] kt pt] (.Tuple [a,.Constant (.int n) jb pb] k2 pt2) pos) (sParO i j n m):=
 (ps_par hc hN hi hj hij hx hy (pa_cons he.pe (pa_cons pe_int pa_nil h2) h1) hw hs).imp fun D σ H ⟨ρ,O,DD,st,q,f⟩=>⟨ρ,O,st,he.mn _ _ _ (fun c ρ1 q0 v H1 O1 fp r s1=>by
  have q1:i < ρ1.length/\(∀ b,c ≠ .own true b)/\DD.nx ((ρ1.set i (some c)).set j (some (.dat (.int n)))):=by
   unfold wpS parO at q0
   by_cases hl:i < ρ1.length
   ·simp only [if_pos hl] at q0
    cases c with
    | own io b=>cases io with
     | true=>exact q0.elim
     | false=>exact ⟨hl,(fun _ z=>by cases z),q0⟩
    | dat d=>exact ⟨hl,(fun _ z=>by cases z),q0⟩
    | scr d=>exact ⟨hl,(fun _ z=>by cases z),q0⟩
    | exc d=>exact ⟨hl,(fun _ z=>by cases z),q0⟩
    | vw d=>exact ⟨hl,(fun _ z=>by cases z),q0⟩
   ·simp only [if_neg hl] at q0
  obtain ⟨hl,hn,q2⟩:=q1
  obtain ⟨O2,st2,s2⟩:=DSt.put1 (io:=true) r.st r.at_ r.new hl (fun b z=>absurd z (hn b))
  exact ⟨v,.int n,rfl,f.nx _ H1 _ O2 (st2.set (.int n)) (s1.trans s2) q2⟩) (wpS_ofX (k:=parO i j n) q)⟩
end
end L2.L3
namespace L2.L3
open PySem PySem.Spec PyProof.Rows
theorem GH.get {mg:Str->Option Value} {H:Hp} {O:List Addr} (g:GH mg H) (ok:OOk H O) {x:Str} {d:PyData} {u:Value} (h1:glob x=some d) (h2:mg x=some u):∃ v,RelV v u/\DV (hide O H) v d:=by
 obtain ⟨v,r,dv⟩:=g x d u h1 h2
 refine ⟨v,r,DV.mono (fun b o e=>?_) dv⟩
 obtain ⟨t,e1⟩:=tup_at e
 refine hide_of e1 fun z=>?_
 obtain ⟨o,e2,m⟩:=ok b z
 rw [e1] at e2
 cases e2
 exact isT_nm t m
section
variable {X:Cx} {F:Fx} {E:Str->DEnv->Prop} {pos:Pos} {x:Str}
theorem fe_glob {d:PyData} {u:Value} (hG:GF X.mg F) (hg:Gl X x) (hm:X.mg x=some u) (hd:glob x=some d) (hdb:(x == ("__debug__":Str))=false:=by decide):FE X F E (.Name x pos) (xC d):=
 ⟨mn_wp,fun pins s σ H Q I ⟨ρ,O,st,q⟩=>by
  obtain ⟨v,r,dv⟩:=(hG.at st).get st.live hd hm
  exact pe_glob hg hm r hdb pins s σ H Q I (q v H O st (.refl ..) dv)⟩
end
end L2.L3
namespace L2.L3
open PySem
theorem glob_ANY_ZONE:glob "ANY_ZONE" = some (.tuple [.int 0,.tuple []]):=by unfold glob; rw [if_pos rfl]
theorem glob_NO_DEEDS:glob "NO_DEEDS" = some (.tuple []):=by
 unfold glob
 rw [if_neg (by decide +kernel),if_pos rfl]
end L2.L3
namespace L2.L3
open PySem
end L2.L3
namespace L2.L3
open PySem PySem.Spec PyProof.Rows
noncomputable def Frzn (H:Hp):Prop:=∀ b u,H b=some u->∃ o v its n,u=.frz o v/\o.data=.seq its n
section
variable {P:Program} {w:World} {K:PySem.W.Frag} {mg mb:Str->Option Value} {CX:CXT} {k:Nat} {fa a:Addr} {fd:FuncData} {x:Str} {sp:Sp} {s₁:Shared}
theorem head_run {H:Hp} (KX:K.In s₁.heap) (hns:s₁.heap.Ns mainGlobals mg) (hb:s₁.heap.Ns builtinsNs mb) (hbb:∀ y:Str,y ≠ "__name__"->mb y=bootBuiltins y) (hlim:s₁.heap.NoLimit) (hg:s₁.gens = #[]) (hr:Room k callerA)
  (F:∀ base:Heap,K.In base->base.Ns mainGlobals mg->FnOk P w K mg base CX k fa fd [x] sp) (hbind:∀ (s:Shared) (u:Value),BindsTo s fd ⟨[u],[]⟩ [(x,u)])
  (hO:Frzn H) (hK:∀ b u,H b=some u->K.lookup b=none) (hok:HOk P w H s₁.heap) (hsp:sp [.ref a] H (fun v _=>v=.bl true) fun _ _ _=>False) (hCX:∀ e s',CX [] H s₁ (fun _ _ _=>False) e s'->False) :
  codeAny (model P w) callerA (.call (.ref fa) ⟨[.ref a],[]⟩) (fun r s'=>r=.ok (.ret (.bool true))/\OldK s₁.heap s'.heap/\s'.os=s₁.os/\AllBare s'.gens) s₁:=by
 have dicts:∀ {b:Addr} {o:Obj} {es:Array DictEntry} {ep:Nat},s₁.heap.get? b=some o->o.data=.dict es ep->H b=none:=fun {b o es ep} e d=>by
  cases q:H b with
  | none=>rfl
  | some u=>
   obtain ⟨o',v,its,n,rfl,d'⟩:=hO b u q
   obtain ⟨e',_⟩:=hok b _ q
   rw [e] at e'
   cases e'
   rw [d] at d'
   cases d'
 have spaces:∀ {b:Addr} {m:Str->Option Value},s₁.heap.Ns b m->(hidT s₁.heap H).Ns b m:=fun ⟨o,es,ep,e,d,r⟩=>⟨o,es,ep,hidT_get e (dicts e d),d,r⟩
 have KB:K.In (hidT s₁.heap H):=fun b o e=>by
  refine hidT_get (KX b o e) ?_
  cases q:H b with
  | none=>rfl
  | some u=>rw [hK b u q] at e; cases e
 have hM:Mod K mg (hidT s₁.heap H):=⟨KB,spaces hns,⟨mb,spaces hb,hbb⟩,let ⟨mc,h1,h2⟩:=hlim; ⟨mc,spaces h1,h2⟩⟩
 have e0:Env0 P w K mg (hidT s₁.heap H) callerA [] s₁ H:=⟨rfl,hM,fun b o e=>of_hidT e,Nat.le_of_eq (hidT_size _ _),trivial,fun b hb=>absurd (show b ∈ ([]:List Addr) from hb) (by simp),hok,.of_eq hg⟩
 refine codeAny_mono ((F _ KB (spaces hns)).run callerA [] s₁ H ⟨[.ref a],[]⟩ [.ref a] [.ref a] _ _ hr e0 (hbind s₁ (.ref a)) (.cons rfl .nil) hsp) fun r s' h=>?_
 rcases r with e | fl
 ·exact (hCX e s' h).elim
 ·cases fl with
  | ret u=>
   obtain ⟨v,H',os,bare,un,hok',r',q⟩:=h
   obtain rfl:v=.bl true:=q
   obtain rfl:u=Value.bool true:=r'
   refine ⟨rfl,OldK.of_keep fun b o e=>?_,os,bare⟩
   cases q:H b with
   | none=>exact un.keep b o e q (fun z=>absurd (show b ∈ ([]:List Addr) from z) (by simp)) (by simp)
   | some u=>
    obtain ⟨o',v,_,_,rfl,_⟩:=hO b u q
    have h1:=(hok b _ q).1
    rw [e] at h1
    cases h1
    exact (hok' b _ (un.frzs b _ _ q)).1
  | next=>exact False.elim h
  | brk=>exact False.elim h
  | cont=>exact False.elim h
end
structure TupG (K':PySem.W.Frag) (h:Heap) (b:Addr) (u:HO):Prop where
 ex:∃ (o:Obj) (xs:List V) (its:Array Value) (n:Nat),u=.frz o (.tup xs)/\h.get? b=some o/\o.cls=.type "tuple"/\o.data=.seq its n/\xs.length<=sizeLine/\Vals xs its.toList
 out:K'.lookup b=none
noncomputable def spT (K:PySem.W.Frag) (mg:Str->Option Value):Sp:=fun vs H Q _=>GH mg H/\∃ a ns,vs=[.ref a]/\Scr K H a ns/\∀ H',Q (.bl true) H'
theorem walk_ofG {l:PySem.W.OpenLaw} {k:Nat} {q:Program} {loose:List Str} {XP:(Str->Option Value)->Heap->Prop} {YP:World->Heap->Prop} {d:DefRec} {K:Params->PySem.W.Frag} {CX:World->CXT} {x:Str}
  (hn:l.most=some 63) (hdf:d.params.defaults=[]) (hr:Room k callerA) (hY:∀ (w:World) (h:Heap),YP w h->(K w.params).In h)
  (F:∀ (w:World) (mg:Str->Option Value) (fa:Addr) (h:Heap),(K w.params).In h->h.Ns mainGlobals mg->mg d.name=some (.ref fa)->
   ∃ (fd:FuncData) (K':PySem.W.Frag) (HG:Hp),(∀ (s:Shared) (u:Value),BindsTo s fd ⟨[u],[]⟩ [(x,u)])/\K'.In h/\(∀ b u,HG b=some u->TupG K' h b u)/\GH mg HG/\
    ∀ base:Heap,K'.In base->base.Ns mainGlobals mg->FnOk l.prog w K' mg base (CX w) k fa fd [x] (spT K' mg))
  (hCX:∀ (w:World) (H:Hp) (s:Shared) (e:Value) (s':Shared),CX w [] H s (fun _ _ _=>False) e s'->False) :
  PySem.W.WalkO q loose XP YP l.row.toRowW d [] (fun f vs=>PySem.call f vs):=by
 refine Att.attach_call hn hdf fun w s₀ s₁ mg mb fa o pm cd doc a vs ns G Y ho hd hcd hmg hobj hints hlen hg=>?_
 obtain ⟨fd,K',HG,hb,KX,tg,gh,hF⟩:=F w mg fa _ (hY w _ Y) G.T.g hmg
 have rv:=vals_ints hints
 have lenV:=hints.length
 have sz:63 < sizeLine:=by decide
 have na:HG a=none:=by
  cases e:HG a with
  | none=>rfl
  | some u=>
   obtain ⟨o,xs,its,n,_,h1,h2,_⟩:=(tg a u e).ex
   rw [hobj] at h1
   cases h1
   injection h2 with h2
   exact absurd h2 (by decide)
 have core:∀ ob:Option HO,(∀ u,ob=some u->u=.frz { cls:=.type "list",data:=.seq vs.toArray } (.lst (ns.map V.int))/\K'.lookup a=none)->(∀ H:Hp,H a=ob->Scr K' H a ns)->
   codeAny (model l.prog w) callerA (.call (.ref fa) ⟨[.ref a],[]⟩) (fun r s'=>r=.ok (.ret (.bool true))/\OldK s₁.heap s'.heap/\s'.os=s₁.os/\AllBare s'.gens) s₁:=by
  intro ob hob hscr
  let H:Hp:=fun b=>if b=a then ob else HG b
  have Ha:H a=ob:=if_pos rfl
  have Hb:∀ b,b ≠ a->H b=HG b:=fun b hb=>if_neg hb
  have sub:∀ b u,HG b=some u->H b=some u:=fun b u e=>by
   rw [Hb b (fun z=>by rw [z,na] at e; cases e)]; exact e
  refine head_run (H:=H) KX G.T.g G.T.b G.T.builtins G.T.nolimit hg hr hF hb ?_ ?_ ?_ ⟨gh.mono fun b u _ e=>sub b u e,a,ns,rfl,hscr H Ha,fun _=>rfl⟩ fun e s' h=>hCX w H s₁ e s' h
  ·intro b u e
   by_cases hb':b=a
   ·subst hb'
    rw [Ha] at e
    obtain ⟨rfl,_⟩:=hob u e
    exact ⟨_,_,_,_,rfl,rfl⟩
   ·rw [Hb b hb'] at e
    obtain ⟨o,xs,its,n,rfl,_,_,h3,_⟩:=(tg b u e).ex
    exact ⟨_,_,_,_,rfl,h3⟩
  ·intro b u e
   by_cases hb':b=a
   ·subst hb'
    rw [Ha] at e
    exact (hob u e).2
   ·rw [Hb b hb'] at e
    exact (tg b u e).out
  ·intro b u e
   by_cases hb':b=a
   ·subst hb'
    rw [Ha] at e
    obtain ⟨rfl,_⟩:=hob u e
    exact ⟨hobj,by rw [List.length_map]; omega,vs,_,rv,hobj⟩
   ·rw [Hb b hb'] at e
    obtain ⟨o,xs,its,n,rfl,h1,h2,h3,h4,h5⟩:=(tg b u e).ex
    exact ⟨h1,h4,its.toList,h5,o,h1,h2,n,by simpa using h3⟩
 cases hk:K'.lookup a with
 | some oo=>
  have e:=KX a oo hk
  rw [hobj] at e
  cases e
  exact core none (fun u e=>by cases e) fun H hH=>⟨hlen,.inr ⟨_,vs.toArray,_,hk,rfl,rfl,rfl,by rw [List.size_toArray,lenV]; omega,by simpa using rv⟩⟩
 | none=>exact core (some _) (fun u e=>by cases e; exact ⟨rfl,hk⟩) fun H hH=>⟨hlen,.inl ⟨_,hH⟩⟩
noncomputable def dropA (gs:List Addr) (K:PySem.W.Frag):PySem.W.Frag:=K.filter fun p=>!gs.contains p.1
theorem drop_in {gs:List Addr} {K:PySem.W.Frag} {h:Heap} (X:K.In h) (hK:∀ b o,(dropA gs K).lookup b=some o->K.lookup b=some o):(dropA gs K).In h:=fun b o e=>X b o (hK b o e)
theorem drop_sub {gs:List Addr}:∀ {K:PySem.W.Frag} {b:Addr} {o:Obj},(dropA gs K).lookup b=some o->K.lookup b=some o/\b ∉ gs
 | [],b,o,e=>by cases e
 | (c,u) :: K,b,o,e=>by
  unfold dropA at e
  rw [List.filter_cons] at e
  by_cases hc:gs.contains c=true
  ·rw [if_neg (by rw [hc]; simp)] at e
   obtain ⟨h1,h2⟩:=drop_sub (K:=K) e
   refine ⟨?_,h2⟩
   rw [List.lookup_cons]
   have:(b == c)=false:=by
    cases hb:b == c with
    | false=>rfl
    | true=>
     have:b=c:=by simpa using hb
     subst this
     exact absurd (by simpa using hc) h2
   rw [this]
   exact h1
  ·rw [if_pos (by simpa using hc)] at e
   rw [List.lookup_cons] at e ⊢
   cases hb:b == c with
   | true=>
    rw [hb] at e
    have:b=c:=by simpa using hb
    subst this
    exact ⟨e,by simpa using hc⟩
   | false=>
    rw [hb] at e
    exact drop_sub (K:=K) e
theorem two_tups {K:PySem.W.Frag} {h:Heap} {mg:Str->Option Value} {g1 g2 g3:Addr} {a1 a2 a3:Option Addr} {t:Tok} {n1 n2 n3:Nat} {s1 s2 s3:Array (Option Value)} (X:K.In h) (l1:K.lookup g1=some ⟨.type "tuple",a1,.seq #[.int 0 t,.ref g2] n1,s1⟩)
  (l2:K.lookup g2=some ⟨.type "tuple",a2,.seq #[] n2,s2⟩) (l3:K.lookup g3=some ⟨.type "tuple",a3,.seq #[] n3,s3⟩) (m1:mg "ANY_ZONE" = some (.ref g1)) (m2:mg "NO_DEEDS" = some (.ref g3)) :
  ∃ HG:Hp,(∀ b u,HG b=some u->TupG (dropA [g1,g2,g3] K) h b u)/\GH mg HG:=by
 have sz:63 < sizeLine:=by decide
 have n12:g2 ≠ g1:=fun z=>by rw [z,l1] at l2; cases l2
 have n13:g3 ≠ g1:=fun z=>by rw [z,l1] at l3; cases l3
 have out:∀ b,b ∈ [g1,g2,g3]->(dropA [g1,g2,g3] K).lookup b=none:=fun b hb=>by
  cases e:(dropA [g1,g2,g3] K).lookup b with
  | none=>rfl
  | some o=>exact absurd hb (drop_sub e).2
 let HG:Hp:=fun b=>if b=g1 then some (.frz ⟨.type "tuple",a1,.seq #[.int 0 t,.ref g2] n1,s1⟩ (.tup [.int 0,.ref g2])) else if b=g2 then some (.frz ⟨.type "tuple",a2,.seq #[] n2,s2⟩ (.tup [])) else if b=g3 then some (.frz ⟨.type "tuple",a3,.seq #[] n3,s3⟩ (.tup [])) else none
 have e1:HG g1=some (.frz ⟨.type "tuple",a1,.seq #[.int 0 t,.ref g2] n1,s1⟩ (.tup [.int 0,.ref g2])):=if_pos rfl
 have e2:HG g2=some (.frz ⟨.type "tuple",a2,.seq #[] n2,s2⟩ (.tup [])):=(if_neg n12).trans (if_pos rfl)
 have e3:∃ o,HG g3=some (.frz o (.tup [])):=by
  by_cases q:g3=g2
  ·exact ⟨_,by rw [q]; exact e2⟩
  ·exact ⟨_,(if_neg n13).trans ((if_neg q).trans (if_pos rfl))⟩
 refine ⟨HG,fun b u e=>?_,fun x d u hd hu=>?_⟩
 ·by_cases q1:b=g1
  ·subst q1
   rw [e1] at e
   cases e
   exact ⟨⟨_,_,_,_,rfl,X _ _ l1,rfl,rfl,by simp; omega,.cons ⟨_,rfl⟩ (.cons rfl .nil)⟩,out _ (by simp)⟩
  ·by_cases q2:b=g2
   ·subst q2
    rw [e2] at e
    cases e
    exact ⟨⟨_,_,_,_,rfl,X _ _ l2,rfl,rfl,by simp,.nil⟩,out _ (by simp)⟩
   ·by_cases q3:b=g3
    ·have e':=((if_neg q1).trans ((if_neg q2).trans (if_pos q3))).symm.trans e
     cases e'
     subst q3
     exact ⟨⟨_,_,_,_,rfl,X _ _ l3,rfl,rfl,by simp,.nil⟩,out _ (by simp)⟩
    ·have e':=((if_neg q1).trans ((if_neg q2).trans (if_neg q3))).symm.trans e
     cases e'
 ·unfold glob at hd
  split at hd
  ·rename_i hx
   subst hx
   cases hd
   rw [m1] at hu
   cases hu
   exact ⟨.ref g1,rfl,.tup (.inr ⟨⟨_,at_tup rfl e1⟩,rfl⟩) (.cons (.int 0) (.cons (.tup (.inr ⟨⟨_,at_tup rfl e2⟩,rfl⟩) .nil) .nil))⟩
  ·split at hd
   ·rename_i hx
    subst hx
    cases hd
    rw [m2] at hu
    cases hu
    obtain ⟨o,e3⟩:=e3
    exact ⟨.ref g3,rfl,.tup (.inr ⟨⟨o,at_tup rfl e3⟩,rfl⟩) .nil⟩
   ·cases hd
end L2.L3
namespace Due
noncomputable abbrev Sh:=List (Int × Int)
inductive Plan where
 | once (m:Int) | every (f s:Int) | daily (h:Int)
end Due
namespace Due
end Due
namespace Due
end Due
namespace K3
open PySem PySem.Spec L2 L2.L3 PyProof.Rows
noncomputable abbrev exL:List Str:=["NoZone","NoPlan","NoMoment","NoCount","NoDeeds","NoDeed","NoRunner","NoTerm","NotHolder","Nothing","NoCall","NoText","NoWidth","NoHolds"]
noncomputable def m_is_whole:SM:=(sRetV (xAnd (xIs "int" (xV 0)) (xAnd (xNot (xIs "bool" (xV 0))) (xChain (fun i j=>decide (i<=j)) (fun i j=>decide (i<=j)) (xV 1) (xV 0) (xV 2)))))
noncomputable def f_is_whole:FM:=fnM 3 3 m_is_whole
noncomputable def m_is_tuple_of:SM:=(sRetV (xAnd (xIs "tuple" (xV 0)) (xOp (gEq false) (xCB nLen (aCons (xV 0) aNil)) (xV 1))))
noncomputable def f_is_tuple_of:FM:=fnM 2 2 m_is_tuple_of
noncomputable def m__law_cell_at:SM:=(sThen (sIfF (xTst (xOp gLt (xV 1) (xLenS 0))) (sRetV (xIxS 0 (xV 1))) sNx)
  (sThen (sIfF (bEqS 0) (sRetV (xC (.int 0))) sNx)
  (sRetV (xOp gAdd (xOp gMul (xIxS 0 (xOp gMod (xV 1) (xLenS 0))) (xC (.int 31))) (xV 1)))))
noncomputable def f__law_cell_at:FM:=fnM 2 2 m__law_cell_at
noncomputable def m__law_which:SM:=(sThen (sSetC 1 (xLstO (aCons (xIsX 0 exL "NoZone") (aCons (xIsX 0 exL "NoPlan") (aCons (xIsX 0 exL "NoMoment") (aCons (xIsX 0 exL "NoCount") aNil))))))
  (sThen (sExt 1 (xLst (aCons (xIsX 0 exL "NoDeeds") (aCons (xIsX 0 exL "NoDeed") (aCons (xIsX 0 exL "NoRunner") (aCons (xIsX 0 exL "NoTerm") aNil))))))
  (sThen (sExt 1 (xLst (aCons (xIsX 0 exL "NotHolder") (aCons (xIsX 0 exL "Nothing") (aCons (xIsX 0 exL "NoCall") (aCons (xIsX 0 exL "NoText") aNil))))))
  (sThen (sExt 1 (xLst (aCons (xIsX 0 exL "NoWidth") (aCons (xIsX 0 exL "NoHolds") aNil))))
  (sThen (sIfF (bOrF (xTst (xOp (gEq true) (xMt cntD 1 (xC (.bool true))) (xC (.int 1)))) (bNotF (xTst (xIsV 0 exL)))) (sRetV (xTup (aCons (xC (.str "refused")) (aCons (xNeg (xC (.int 1))) aNil)))) sNx)
  (sRetV (xTup (aCons (xC (.str "refused")) (aCons (xMt ixD 1 (xC (.bool true))) aNil)))))))))
noncomputable def f__law_which:FM:=fnM 1 2 m__law_which
noncomputable def m_H_held (C:Addr):SM:=(sRetV (xTup (aCons (xFld C 0 "holder") (aCons (xFld C 0 "until") (aCons (xFld C 0 "holds") aNil)))))
noncomputable def f_H_held (C:Addr):FM:=fnM 1 1 (m_H_held C)
noncomputable def m_is_ahead:SM:=(sRetC (xCall f_is_whole (cVal (xV 0) (cVal (xC (.int (-12))) (cVal (xC (.int (14))) cNil)))))
noncomputable def f_is_ahead:FM:=fnM 1 1 m_is_ahead
noncomputable def m_is_moment:SM:=(sRetC (xCall f_is_whole (cVal (xV 0) (cVal (xC (.int 0)) (cVal (xC (.int (9999))) cNil)))))
noncomputable def f_is_moment:FM:=fnM 1 1 m_is_moment
noncomputable def m_is_runner:SM:=(sRetC (xCall f_is_whole (cVal (xV 0) (cVal (xC (.int 0)) (cVal (xC (.int (3))) cNil)))))
noncomputable def f_is_runner:FM:=fnM 1 1 m_is_runner
noncomputable def m_is_term:SM:=(sRetC (xCall f_is_whole (cVal (xV 0) (cVal (xC (.int 1)) (cVal (xC (.int (99))) cNil)))))
noncomputable def f_is_term:FM:=fnM 1 1 m_is_term
noncomputable def m_has_word:SM:=(sRetV (xAnd (xFrz (xCall f_is_tuple_of (cVal (xV 0) (cVal (xV 2) cNil)))) (xAnd (xIs "str" (xOp gIxA (xV 0) (xC (.int 0)))) (xOp (gEq false) (xOp gIxA (xV 0) (xC (.int 0))) (xV 1)))))
noncomputable def f_has_word:FM:=fnM 3 3 m_has_word
noncomputable def m__law_mixed:SM:=(sThen (sAsg (xOp gMod (xOp gAdd (xOp gAdd (xOp gMul (xFrz (xCall f__law_cell_at (cSlot 0 (cVal (xV 1) cNil)))) (xC (.int 1103515245))) (xOp gMul (xC (.int 7919)) (xV 1))) (xC (.int 12345))) (xC (.int 2147483647))) (gNm 3))
  (sRetV (xOp gMod (xOp gMod (xOp gMod (xOp gPow (xV 3) (xC (.int 5))) (xC (.int 2147483647))) (xC (.int 999983))) (xV 2))))
noncomputable def f__law_mixed:FM:=fnM 3 4 m__law_mixed
noncomputable def b_are_shifts_1:SM:=(sThen (sIfF (bOrF (bNotF (xTst (xFrz (xCall f_is_tuple_of (cVal (xV 2) (cVal (xC (.int 2)) cNil)))))) (bNotF (xTst (xFrz (xCall f_is_ahead (cVal (xOp gIxA (xV 2) (xC (.int 1))) cNil)))))) (sRetV (xC (.bool false))) sNx)
  (sThen (sIfF (bNotF (xTst (xFrz (xCall f_is_whole (cVal (xOp gIxA (xV 2) (xC (.int 0))) (cVal (xV 1) (cVal (xC (.int (9999))) cNil))))))) (sRetV (xC (.bool false))) sNx)
  (sAsg (xOp gAdd (xOp gIxA (xV 2) (xC (.int 0))) (xC (.int 1))) (gNm 1))))
noncomputable def m_are_shifts:SM:=(sThen (sIfF (bOrF (bNotF (xTst (xIs "tuple" (xV 0)))) (xTst (xOp gGt (xCB nLen (aCons (xV 0) aNil)) (xC (.int (6)))))) (sRetV (xC (.bool false))) sNx)
  (sThen (sAsg (xC (.int 1)) (gNm 1))
  (sThen (sForF (iTs (xV 0)) (gNm 2) b_are_shifts_1)
  (sRetV (xC (.bool true))))))
noncomputable def f_are_shifts:FM:=fnM 1 3 m_are_shifts
noncomputable def m_is_plan:SM:=(sThen (sIfF (xTst (xFrz (xCall f_has_word (cVal (xV 0) (cVal (xC (.str "once")) (cVal (xC (.int 2)) cNil)))))) (sRetC (xCall f_is_moment (cVal (xOp gIxA (xV 0) (xC (.int 1))) cNil))) sNx)
  (sThen (sIfF (xTst (xFrz (xCall f_has_word (cVal (xV 0) (cVal (xC (.str "every")) (cVal (xC (.int 3)) cNil)))))) (sRetV (xAnd (xFrz (xCall f_is_moment (cVal (xOp gIxA (xV 0) (xC (.int 1))) cNil))) (xFrz (xCall f_is_whole (cVal (xOp gIxA (xV 0) (xC (.int 2))) (cVal (xC (.int 1)) (cVal (xC (.int (999))) cNil))))))) sNx)
  (sRetV (xAnd (xFrz (xCall f_has_word (cVal (xV 0) (cVal (xC (.str "daily")) (cVal (xC (.int 2)) cNil))))) (xFrz (xCall f_is_whole (cVal (xOp gIxA (xV 0) (xC (.int 1))) (cVal (xC (.int 0)) (cVal (xC (.int (23))) cNil)))))))))
noncomputable def f_is_plan:FM:=fnM 1 1 m_is_plan
noncomputable def m_is_late:SM:=(sThen (sIfF (xTst (xIs "str" (xV 0))) (sRetV (xOr (xOp (gEq false) (xV 0) (xC (.str "all"))) (xOp (gEq false) (xV 0) (xC (.str "last"))))) sNx)
  (sRetV (xAnd (xFrz (xCall f_has_word (cVal (xV 0) (cVal (xC (.str "within")) (cVal (xC (.int 2)) cNil))))) (xFrz (xCall f_is_whole (cVal (xOp gIxA (xV 0) (xC (.int 1))) (cVal (xC (.int 0)) (cVal (xC (.int (999))) cNil))))))))
noncomputable def f_is_late:FM:=fnM 1 1 m_is_late
noncomputable def m_check_moment:SM:=(sIfF (bNotF (xTst (xFrz (xCall f_is_moment (cVal (xV 0) cNil))))) (sRaiseF "NoMoment") sNx)
noncomputable def f_check_moment:FM:=fnM 1 1 m_check_moment
noncomputable def m_is_row:SM:=(sThen (sIfF (xTst (xFrz (xCall f_has_word (cVal (xV 0) (cVal (xC (.str "take")) (cVal (xC (.int 4)) cNil)))))) (sRetV (xAnd (xFrz (xCall f_is_runner (cVal (xOp gIxA (xV 0) (xC (.int 1))) cNil))) (xAnd (xFrz (xCall f_is_moment (cVal (xOp gIxA (xV 0) (xC (.int 2))) cNil))) (xFrz (xCall f_is_term (cVal (xOp gIxA (xV 0) (xC (.int 3))) cNil)))))) sNx)
  (sRetV (xAnd (xFrz (xCall f_has_word (cVal (xV 0) (cVal (xC (.str "give")) (cVal (xC (.int 3)) cNil))))) (xAnd (xFrz (xCall f_is_runner (cVal (xOp gIxA (xV 0) (xC (.int 1))) cNil))) (xFrz (xCall f_is_moment (cVal (xOp gIxA (xV 0) (xC (.int 2))) cNil)))))))
noncomputable def f_is_row:FM:=fnM 1 1 m_is_row
noncomputable def m__law_draw:SM:=(sThen (sApp 1 (xC (.int 0)))
  (sRetC (xCall f__law_mixed (cSlot 0 (cVal (xLenN 1) (cVal (xV 2) cNil))))))
noncomputable def f__law_draw:FM:=fnM 3 3 m__law_draw
noncomputable def m_is_zone:SM:=(sRetV (xAnd (xFrz (xCall f_is_tuple_of (cVal (xV 0) (cVal (xC (.int 2)) cNil)))) (xAnd (xFrz (xCall f_is_ahead (cVal (xOp gIxA (xV 0) (xC (.int 0))) cNil))) (xFrz (xCall f_are_shifts (cVal (xOp gIxA (xV 0) (xC (.int 1))) cNil))))))
noncomputable def f_is_zone:FM:=fnM 1 1 m_is_zone
noncomputable def m_is_deed:SM:=(sRetV (xAnd (xFrz (xCall f_is_tuple_of (cVal (xV 0) (cVal (xC (.int 3)) cNil)))) (xAnd (xFrz (xCall f_is_plan (cVal (xOp gIxA (xV 0) (xC (.int 0))) cNil))) (xAnd (xFrz (xCall f_is_late (cVal (xOp gIxA (xV 0) (xC (.int 1))) cNil))) (xIs "bool" (xOp gIxA (xV 0) (xC (.int 2))))))))
noncomputable def f_is_deed:FM:=fnM 1 1 m_is_deed
noncomputable def b_check_rows_1:SM:=(sThen (sIfF (bOrF (bNotF (xTst (xFrz (xCall f_is_row (cVal (xV 2) cNil))))) (xTst (xOp gLt (xOp gIxA (xV 2) (xC (.int 2))) (xV 1)))) (sRaiseF "NoHolds") sNx)
  (sAsg (xOp gIxA (xV 2) (xC (.int 2))) (gNm 1)))
noncomputable def m_check_rows:SM:=(sThen (sIfF (bNotF (xTst (xIs "list" (xV 0)))) (sRaiseF "NoHolds") sNx)
  (sThen (sAsg (xC (.int 0)) (gNm 1))
  (sForF (iLs (xV 0)) (gNm 2) b_check_rows_1)))
noncomputable def f_check_rows:FM:=fnM 1 3 m_check_rows
noncomputable def m__law_pick:SM:=(sRetV (xOp gIxA (xV 2) (xFrz (xCall f__law_draw (cSlot 0 (cSlot 1 (cVal (xCB nLen (aCons (xV 2) aNil)) cNil)))))))
noncomputable def f__law_pick:FM:=fnM 3 3 m__law_pick
noncomputable def e_are_deeds_1:XM PyData:=(xFrz (xCall f_is_deed (cVal (xV 0) cNil)))
noncomputable def m_are_deeds:SM:=(sThen (sIfF (bOrF (bNotF (xTst (xIs "tuple" (xV 0)))) (xTst (xOp gGt (xCB nLen (aCons (xV 0) aNil)) (xC (.int (6)))))) (sRetV (xC (.bool false))) sNx)
  (sRetV (xCB nAll (aCons (xComp 1 [] (iTs (xV 0)) (gNm 0) bTrue e_are_deeds_1) aNil))))
noncomputable def f_are_deeds:FM:=fnM 1 1 m_are_deeds
noncomputable def m_check_zone:SM:=(sIfF (bNotF (xTst (xFrz (xCall f_is_zone (cVal (xV 0) cNil))))) (sRaiseF "NoZone") sNx)
noncomputable def f_check_zone:FM:=fnM 1 1 m_check_zone
noncomputable def b__law_rows_1:SM:=(sThen (sAsg (xOp gAdd (xV 4) (xFrz (xCall f__law_draw (cSlot 0 (cSlot 1 (cVal (xFrz (xCall f__law_pick (cSlot 0 (cSlot 1 (cVal (xLst (aCons (xC (.int 1)) (aCons (xC (.int 4)) (aCons (xC (.int 20)) aNil)))) cNil))))) cNil)))))) (gNm 4))
  (sThen (sAsg (xFrz (xCall f__law_draw (cSlot 0 (cSlot 1 (cVal (xFrz (xCall f__law_pick (cSlot 0 (cSlot 1 (cVal (xLst (aCons (xC (.int 2)) (aCons (xC (.int 4)) aNil))) cNil))))) cNil))))) (gNm 6))
  (sIfF (xTst (xOp (gEq false) (xFrz (xCall f__law_draw (cSlot 0 (cSlot 1 (cVal (xC (.int 3)) cNil))))) (xC (.int 0)))) (sApp 3 (xTup (aCons (xC (.str "give")) (aCons (xV 6) (aCons (xV 4) aNil))))) (sApp 3 (xTup (aCons (xC (.str "take")) (aCons (xV 6) (aCons (xV 4) (aCons (xOp gAdd (xC (.int 1)) (xFrz (xCall f__law_draw (cSlot 0 (cSlot 1 (cVal (xFrz (xCall f__law_pick (cSlot 0 (cSlot 1 (cVal (xLst (aCons (xC (.int 3)) (aCons (xC (.int 30)) (aCons (xC (.int 99)) aNil)))) cNil))))) cNil)))))) aNil)))))))))
noncomputable def m__law_rows:SM:=(sThen (sParO 3 4 0 (xLstO aNil))
  (sThen (sForF (iLf rng1 (aCons (xFrz (xCall f__law_draw (cSlot 0 (cSlot 1 (cVal (xOp gAdd (xV 2) (xC (.int 1))) cNil))))) aNil)) (gNm 5) b__law_rows_1)
  (sMv 3)))
noncomputable def f__law_rows:FM:=fnM 3 7 m__law_rows
noncomputable def m_check_deeds:SM:=(sIfF (bNotF (xTst (xFrz (xCall f_are_deeds (cVal (xV 0) cNil))))) (sRaiseF "NoDeeds") sNx)
noncomputable def f_check_deeds:FM:=fnM 1 1 m_check_deeds
noncomputable def e_H___init___1 (C:Addr):XM PyData:=(xC (.int 0))
noncomputable def m_H___init__ (C:Addr):SM:=(sThen (sDoC (xCall f_check_zone (cVal (xV 1) cNil)))
  (sThen (sDoC (xCall f_check_deeds (cVal (xV 2) cNil)))
  (sThen (sFldF C 0 "zone" (xV 1))
  (sThen (sFldF C 0 "deeds" (xV 2))
  (sThen (sFldF C 0 "last" (xC .none))
  (sThen (sFldF C 0 "holder" (xC .none))
  (sThen (sFldF C 0 "until" (xC (.int 0)))
  (sThen (sFldF C 0 "holds" (xC (.int 0)))
  (sThen (sFldF C 0 "begun" (xC .none))
  (sThen (sFldNew C 0 "rows" (.l []))
  (sThen (sFldNew C 0 "words" (.m true []))
  (sFldCmp C 0 "settled" 1 [] (iTs (xV 2)) (gNm 0) bTrue (e_H___init___1 C)))))))))))))
noncomputable def f_H___init__ (C:Addr):FM:=fnM 3 3 (m_H___init__ C)
noncomputable def b_walked_holds_1 (C:Addr):SM:=(sThen (sAsg (xFrz xBad) (gNm 4))
  (sThen (sAsg (xFrz (xMeth0 C 1 "held" (f_H_held C))) (gNm 5))
  (sIfF (xTst (xOp gGt (xOp gIxA (xV 5) (xC (.int 2))) (xLenN 2))) (sApp 2 (xTup (aCons (xOp gIxA (xV 3) (xC (.int 1))) (aCons (xOp gIxA (xV 3) (xC (.int 2))) (aCons (xOp gIxA (xV 5) (xC (.int 1))) aNil))))) (sIfF (xTst (xOp gIs (xV 4) (xC (.bool true)))) sBadF (sIfF (xTst (xOp gIs (xV 4) (xC .none))) sBadF sNx)))))
noncomputable def m_walked_holds (C:Addr):SM:=(sThen (sSetC 1 (xMake C (f_H___init__ C) (aCons (xC (.tuple [(.int 0),(.tuple [])])) (aCons (xC (.tuple [])) aNil))))
  (sThen (sSetC 2 (xLstO aNil))
  (sThen (sForF (iLs (xV 0)) (gNm 3) (b_walked_holds_1 C))
  (sMv 2))))
noncomputable def f_walked_holds (C:Addr):FM:=fnM 1 6 (m_walked_holds C)
noncomputable def t_lasting_holds_1 (C:Addr):XM Bool:=(xTst (xOp gLt (xOp gIxA (xV 0) (xC (.int 1))) (xOp gIxA (xV 0) (xC (.int 2)))))
noncomputable def e_lasting_holds_2 (C:Addr):XM PyData:=(xV 0)
noncomputable def m_lasting_holds (C:Addr):SM:=(sRetV (xComp 1 [] (iLs (xFrz (xCall (f_walked_holds C) (cVal (xV 0) cNil)))) (gNm 0) (t_lasting_holds_1 C) (e_lasting_holds_2 C)))
noncomputable def f_lasting_holds (C:Addr):FM:=fnM 1 1 (m_lasting_holds C)
noncomputable def m_all_holds (C:Addr):SM:=(sThen (sDoC (xCall f_check_rows (cVal (xV 0) cNil)))
  (sRetC (xCall (f_lasting_holds C) (cVal (xV 0) cNil))))
noncomputable def f_all_holds (C:Addr):FM:=fnM 1 1 (m_all_holds C)
noncomputable def b_held_by_1 (C:Addr):SM:=(sDPutF 1 (xV 2) (xOp gSub (xOp gAdd (xDGet2 1 (xV 2) (xC (.int 0))) (xV 4)) (xV 3)))
noncomputable def m_held_by (C:Addr):SM:=(sThen (sDoC (xCall f_check_rows (cVal (xV 0) cNil)))
  (sThen (sSetC 1 (xDNew false))
  (sThen (sForF (iLs (xFrz (xCall (f_lasting_holds C) (cVal (xV 0) cNil)))) (gTup' 3 (gCons' (gNm 2) (gCons' (gNm 3) (gCons' (gNm 4) gNil')))) (b_held_by_1 C))
  (sRetV (xCB nSort (aCons xBad aNil))))))
noncomputable def f_held_by (C:Addr):FM:=fnM 1 5 (m_held_by C)
noncomputable def b_holder_at_1 (C:Addr):SM:=(sIfF (xTst (xChain (fun i j=>decide (i<=j)) (fun i j=>decide (i < j)) (xV 3) (xV 1) (xV 4))) (sRetV (xV 2)) sNx)
noncomputable def m_holder_at (C:Addr):SM:=(sThen (sDoC (xCall f_check_rows (cVal (xV 0) cNil)))
  (sThen (sDoC (xCall f_check_moment (cVal (xV 1) cNil)))
  (sThen (sForF (iLs (xFrz (xCall (f_lasting_holds C) (cVal (xV 0) cNil)))) (gTup' 3 (gCons' (gNm 2) (gCons' (gNm 3) (gCons' (gNm 4) gNil')))) (b_holder_at_1 C))
  (sRetV (xC .none)))))
noncomputable def f_holder_at (C:Addr):FM:=fnM 2 5 (m_holder_at C)
noncomputable def b_nobody_1 (C:Addr):SM:=(sThen (sAsg (xCB nMin (aCons (xOp gSub (xV 6) (xC (.int 1))) (aCons (xV 1) aNil))) (gNm 8))
  (sThen (sIfF (xTst (xOp gLe (xV 3) (xV 8))) (sApp 2 (xTup (aCons (xV 3) (aCons (xV 8) aNil)))) sNx)
  (sAsg (xV 7) (gNm 3))))
noncomputable def m_nobody (C:Addr):SM:=(sThen (sDoC (xCall f_check_rows (cVal (xV 0) cNil)))
  (sThen (sDoC (xCall f_check_moment (cVal (xV 1) cNil)))
  (sThen (sSetC 2 (xLstO aNil))
  (sThen (sAsg (xC (.int 0)) (gNm 3))
  (sThen (sAsg (xOp gCatL (xFrz (xCall (f_lasting_holds C) (cVal (xV 0) cNil))) (xLst (aCons (xTup (aCons (xC .none) (aCons (xOp gAdd (xV 1) (xC (.int 1))) (aCons (xOp gAdd (xV 1) (xC (.int 1))) aNil)))) aNil))) (gNm 4))
  (sThen (sForF (iLs (xV 4)) (gTup' 3 (gCons' (gNm 5) (gCons' (gNm 6) (gCons' (gNm 7) gNil')))) (b_nobody_1 C))
  (sMv 2)))))))
noncomputable def f_nobody (C:Addr):FM:=fnM 2 9 (m_nobody C)
noncomputable def m__law_ask (C:Addr):SM:=(sTryA exL 3 (sRetV (xIf (xTst (xOp gLt (xV 0) (xC (.int 2)))) (xFrz (xCall2 (f_holder_at C) (f_nobody C) (xV 0) (cVal (xV 1) (cVal (xV 2) cNil)))) (xFrz (xCall2 (f_all_holds C) (f_held_by C) (xOp gSub (xV 0) (xC (.int 2))) (cVal (xV 1) cNil))))) (sRetC (xCall f__law_which (cSlot 3 cNil))))
noncomputable def f__law_ask (C:Addr):FM:=fnM 3 4 (m__law_ask C)
noncomputable def c_law_1 (C:Addr):SM:=(sSetC 1 (xLstO aNil))
noncomputable def c_law_2 (C:Addr):SM:=(sAsg (xFrz (xCall f__law_rows (cSlot 0 (cSlot 1 (cVal (xC (.int 6)) cNil))))) (gNm 2))
noncomputable def c_law_3 (C:Addr):SM:=(sAsg (xLst (aCons (xC .none) (aCons (xC (.int 5)) (aCons (xTup aNil) (aCons (xTup (aCons (xC (.str "take")) (aCons (xC (.int 0)) (aCons (xC (.int 5)) aNil)))) (aCons (xTup (aCons (xC (.str "take")) (aCons (xC (.int 4)) (aCons (xC (.int 5)) (aCons (xC (.int 5)) aNil))))) (aCons (xTup (aCons (xC (.str "take")) (aCons (xC (.int 0)) (aCons (xNeg (xC (.int 1))) (aCons (xC (.int 5)) aNil))))) (aCons (xTup (aCons (xC (.str "take")) (aCons (xC (.int 0)) (aCons (xC (.int 5)) (aCons (xC (.int 0)) aNil))))) aNil)))))))) (gNm 3))
noncomputable def c_law_4 (C:Addr):SM:=(sAsg (xOp gCatL (xV 3) (xLst (aCons (xTup (aCons (xC (.str "take")) (aCons (xC (.int 0)) (aCons (xC (.int 5)) (aCons (xC (.int 100)) aNil))))) (aCons (xTup (aCons (xC (.str "give")) (aCons (xC (.int 0)) aNil))) (aCons (xTup (aCons (xC (.str "give")) (aCons (xC (.int 0)) (aCons (xC (.int 5)) (aCons (xC (.int 5)) aNil))))) (aCons (xTup (aCons (xC (.str "hold")) (aCons (xC (.int 0)) (aCons (xC (.int 5)) aNil)))) (aCons (xLst (aCons (xC (.str "take")) (aCons (xC (.int 0)) (aCons (xC (.int 5)) (aCons (xC (.int 5)) aNil))))) aNil))))))) (gNm 3))
noncomputable def c_law_5 (C:Addr):SM:=(sAsg (xOp gCatL (xV 3) (xLst (aCons (xTup (aCons (xC (.str "take")) (aCons (xC (.bool true)) (aCons (xC (.int 5)) (aCons (xC (.int 5)) aNil))))) (aCons (xTup (aCons (xC (.str "step")) (aCons (xC (.int 0)) (aCons (xC (.int 5)) aNil)))) aNil)))) (gNm 3))
noncomputable def c_law_6 (C:Addr):SM:=(sAsg (xFrz (xCall f__law_pick (cSlot 0 (cSlot 1 (cVal (xLst (aCons (xC .none) (aCons (xC (.int 5)) (aCons (xCB nTuple (aCons (xV 2) aNil)) (aCons (xOp gCatL (xV 2) (xLst (aCons (xFrz (xCall f__law_pick (cSlot 0 (cSlot 1 (cVal (xV 3) cNil))))) aNil))) (aCons (xC (.str "take")) (aCons (xTup aNil) aNil))))))) cNil))))) (gNm 4))
noncomputable def e_law_7 (C:Addr):XM PyData:=(xFrz (xCall (f__law_ask C) (cVal (xV 0) (cVal (xV 1) (cVal (xC .none) cNil)))))
noncomputable def c_law_8 (C:Addr):SM:=(sIfF (xTst (xOp (gEq true) (xComp 1 [4] (iLf rng1 (aCons (xC (.int 4)) aNil)) (gNm 0) bTrue (e_law_7 C)) (xOp gRep (xLst (aCons (xTup (aCons (xC (.str "refused")) (aCons (xC (.int 13)) aNil))) aNil)) (xC (.int 4))))) (sRetV (xC (.bool false))) sNx)
noncomputable def c_law_9 (C:Addr):SM:=(sAsg (xLst (aCons (xTup (aCons (xC (.str "take")) (aCons (xC (.int 0)) (aCons (xC (.int 9)) (aCons (xC (.int 5)) aNil))))) (aCons (xTup (aCons (xC (.str "give")) (aCons (xC (.int 0)) (aCons (xC (.int 8)) aNil)))) aNil))) (gNm 5))
noncomputable def c_law_10 (C:Addr):SM:=(sIfF (xTst (xOp (gEq true) (xComp 1 [5] (iLf rng1 (aCons (xC (.int 4)) aNil)) (gNm 0) bTrue (e_law_7 C)) (xOp gRep (xLst (aCons (xTup (aCons (xC (.str "refused")) (aCons (xC (.int 13)) aNil))) aNil)) (xC (.int 4))))) (sRetV (xC (.bool false))) sNx)
noncomputable def c_law_11 (C:Addr):SM:=(sAsg (xFrz (xCall f__law_pick (cSlot 0 (cSlot 1 (cVal (xLst (aCons (xC .none) (aCons (xNeg (xC (.int 1))) (aCons (xC (.int 10000)) (aCons (xC (.bool true)) (aCons (xC (.str "5")) aNil)))))) cNil))))) (gNm 6))
noncomputable def e_law_12 (C:Addr):XM PyData:=(xFrz (xCall (f__law_ask C) (cVal (xV 0) (cVal (xV 1) (cVal (xV 2) cNil)))))
noncomputable def c_law_13 (C:Addr):SM:=(sIfF (xTst (xOp (gEq true) (xComp 1 [2,6] (iLf rng1 (aCons (xC (.int 2)) aNil)) (gNm 0) bTrue (e_law_12 C)) (xOp gRep (xLst (aCons (xTup (aCons (xC (.str "refused")) (aCons (xC (.int 2)) aNil))) aNil)) (xC (.int 2))))) (sRetV (xC (.bool false))) sNx)
noncomputable def c_law_14 (C:Addr):SM:=(sRetV (xAnd (xOp (gEq false) (xFrz (xCall (f__law_ask C) (cVal (xC (.int 2)) (cVal (xLst aNil) (cVal (xC .none) cNil))))) (xLst aNil)) (xAnd (xOp (gEq false) (xFrz (xCall (f__law_ask C) (cVal (xC (.int 1)) (cVal (xLst aNil) (cVal (xC (.int 5)) cNil))))) (xLst (aCons (xTup (aCons (xC (.int 0)) (aCons (xC (.int 5)) aNil))) aNil))) (xOp gIs (xFrz (xCall (f__law_ask C) (cVal (xC (.int 0)) (cVal (xLst aNil) (cVal (xC (.int 5)) cNil))))) (xC .none)))))
noncomputable def m_law (C:Addr):SM:=(sThen (c_law_1 C)
  (sThen (c_law_2 C)
  (sThen (c_law_3 C)
  (sThen (c_law_4 C)
  (sThen (c_law_5 C)
  (sThen (c_law_6 C)
  (sThen (c_law_8 C)
  (sThen (c_law_9 C)
  (sThen (c_law_10 C)
  (sThen (c_law_11 C)
  (sThen (c_law_13 C)
  (c_law_14 C))))))))))))
noncomputable def f_law (C:Addr):FM:=fnM 1 7 (m_law C)
end K3
namespace K3
open PySem PySem.Spec L2 L2.L3 PyProof.Rows
noncomputable def top (i:Nat):Stmt:=PySem.Challenge.pw_duehall_k27_holding_refused.main.body.getD i (.Pass ⟨0,0,0,0⟩)
noncomputable abbrev s_is_whole:Stmt:=top 28
noncomputable abbrev s_is_tuple_of:Stmt:=top 29
noncomputable abbrev s_is_ahead:Stmt:=top 30
noncomputable abbrev s_is_moment:Stmt:=top 31
noncomputable abbrev s_is_runner:Stmt:=top 32
noncomputable abbrev s_is_term:Stmt:=top 33
noncomputable abbrev s_are_shifts:Stmt:=top 34
noncomputable abbrev s_is_zone:Stmt:=top 35
noncomputable abbrev s_has_word:Stmt:=top 36
noncomputable abbrev s_is_plan:Stmt:=top 37
noncomputable abbrev s_is_late:Stmt:=top 38
noncomputable abbrev s_is_deed:Stmt:=top 39
noncomputable abbrev s_are_deeds:Stmt:=top 40
noncomputable abbrev s_check_zone:Stmt:=top 41
noncomputable abbrev s_check_moment:Stmt:=top 42
noncomputable abbrev s_check_deeds:Stmt:=top 43
noncomputable abbrev s_H___init__:Stmt:=inClass (top 61) 0
noncomputable abbrev s_H_held:Stmt:=inClass (top 61) 14
noncomputable abbrev s_is_row:Stmt:=top 70
noncomputable abbrev s_check_rows:Stmt:=top 71
noncomputable abbrev s_walked_holds:Stmt:=top 72
noncomputable abbrev s_lasting_holds:Stmt:=top 73
noncomputable abbrev s_all_holds:Stmt:=top 74
noncomputable abbrev s_held_by:Stmt:=top 75
noncomputable abbrev s_holder_at:Stmt:=top 76
noncomputable abbrev s_nobody:Stmt:=top 77
noncomputable abbrev s__law_cell_at:Stmt:=top 79
noncomputable abbrev s__law_mixed:Stmt:=top 80
noncomputable abbrev s__law_draw:Stmt:=top 81
noncomputable abbrev s__law_pick:Stmt:=top 82
noncomputable abbrev s__law_rows:Stmt:=top 83
noncomputable abbrev s__law_which:Stmt:=top 85
noncomputable abbrev s__law_ask:Stmt:=top 86
noncomputable abbrev s_law:Stmt:=top 87
theorem sc_is_whole:FnScope ["thing","least","most"] ["thing","least","most"] (defScope s_is_whole):=scm
theorem sc_is_tuple_of:FnScope ["thing","length"] ["thing","length"] (defScope s_is_tuple_of):=scm
theorem sc_is_ahead:FnScope ["thing"] ["thing"] (defScope s_is_ahead):=scm
theorem sc_is_moment:FnScope ["thing"] ["thing"] (defScope s_is_moment):=scm
theorem sc_is_runner:FnScope ["thing"] ["thing"] (defScope s_is_runner):=scm
theorem sc_is_term:FnScope ["thing"] ["thing"] (defScope s_is_term):=scm
theorem sc_are_shifts:FnScope ["thing","earliest","shift"] ["thing"] (defScope s_are_shifts):=scm
theorem sc_is_zone:FnScope ["thing"] ["thing"] (defScope s_is_zone):=scm
theorem sc_has_word:FnScope ["thing","word","length"] ["thing","word","length"] (defScope s_has_word):=scm
theorem sc_is_plan:FnScope ["thing"] ["thing"] (defScope s_is_plan):=scm
theorem sc_is_late:FnScope ["thing"] ["thing"] (defScope s_is_late):=scm
theorem sc_is_deed:FnScope ["thing"] ["thing"] (defScope s_is_deed):=scm
theorem sc_are_deeds:FnScope ["thing"] ["thing"] (defScope s_are_deeds):=scm
theorem sc_check_zone:FnScope ["thing"] ["thing"] (defScope s_check_zone):=scm
theorem sc_check_moment:FnScope ["thing"] ["thing"] (defScope s_check_moment):=scm
theorem sc_check_deeds:FnScope ["thing"] ["thing"] (defScope s_check_deeds):=scm
theorem sc_H___init__:FnScope ["self","zone","deeds"] ["self","zone","deeds"] (defScope s_H___init__):=scm
theorem sc_H_held:FnScope ["self"] ["self"] (defScope s_H_held):=scm
theorem sc_is_row:FnScope ["thing"] ["thing"] (defScope s_is_row):=scm
theorem sc_check_rows:FnScope ["rows","latest","row"] ["rows"] (defScope s_check_rows):=scm
theorem sc_walked_holds:FnScope ["rows","hall","found","row","told","held"] ["rows"] (defScope s_walked_holds):=scm
theorem sc_lasting_holds:FnScope ["rows"] ["rows"] (defScope s_lasting_holds):=scm
theorem sc_all_holds:FnScope ["rows"] ["rows"] (defScope s_all_holds):=scm
theorem sc_held_by:FnScope ["rows","hours","runner","first","behind"] ["rows"] (defScope s_held_by):=scm
theorem sc_holder_at:FnScope ["rows","moment","runner","first","behind"] ["rows","moment"] (defScope s_holder_at):=scm
theorem sc_nobody:FnScope ["rows","last","found","start","ends","runner","first","behind","end"] ["rows","last"] (defScope s_nobody):=scm
theorem sc__law_cell_at:FnScope ["_law_script","_law_k"] ["_law_script","_law_k"] (defScope s__law_cell_at):=scm
theorem sc__law_mixed:FnScope ["_law_script","_law_k","_law_many","_law_drawn"] ["_law_script","_law_k","_law_many"] (defScope s__law_mixed):=scm
theorem sc__law_draw:FnScope ["_law_script","_law_town","_law_many"] ["_law_script","_law_town","_law_many"] (defScope s__law_draw):=scm
theorem sc__law_pick:FnScope ["_law_script","_law_town","_law_some"] ["_law_script","_law_town","_law_some"] (defScope s__law_pick):=scm
theorem sc__law_rows:FnScope ["_law_script","_law_town","_law_most","_law_made","_law_moment","_law_k","_law_runner"] ["_law_script","_law_town","_law_most"] (defScope s__law_rows):=scm
theorem sc__law_which:FnScope ["_law_e","_law_own"] ["_law_e"] (defScope s__law_which):=scm
theorem sc__law_ask:FnScope ["_law_what","_law_rows_here","_law_moment","_law_e"] ["_law_what","_law_rows_here","_law_moment"] (defScope s__law_ask):=scm
theorem sc_law:FnScope ["_law_script","_law_town","_law_good","_law_odd","_law_bad","_law_turned","_law_moment"] ["_law_script"] (defScope s_law):=scm
structure Tx (K:PySem.W.Frag) (mg:Str->Option Value):Prop where
 d_is_whole:∃ g fd,FD K mg "is_whole" s_is_whole ["thing","least","most"] g fd
 d_is_tuple_of:∃ g fd,FD K mg "is_tuple_of" s_is_tuple_of ["thing","length"] g fd
 d_is_ahead:∃ g fd,FD K mg "is_ahead" s_is_ahead ["thing"] g fd
 d_is_moment:∃ g fd,FD K mg "is_moment" s_is_moment ["thing"] g fd
 d_is_runner:∃ g fd,FD K mg "is_runner" s_is_runner ["thing"] g fd
 d_is_term:∃ g fd,FD K mg "is_term" s_is_term ["thing"] g fd
 d_are_shifts:∃ g fd,FD K mg "are_shifts" s_are_shifts ["thing"] g fd
 d_is_zone:∃ g fd,FD K mg "is_zone" s_is_zone ["thing"] g fd
 d_has_word:∃ g fd,FD K mg "has_word" s_has_word ["thing","word","length"] g fd
 d_is_plan:∃ g fd,FD K mg "is_plan" s_is_plan ["thing"] g fd
 d_is_late:∃ g fd,FD K mg "is_late" s_is_late ["thing"] g fd
 d_is_deed:∃ g fd,FD K mg "is_deed" s_is_deed ["thing"] g fd
 d_are_deeds:∃ g fd,FD K mg "are_deeds" s_are_deeds ["thing"] g fd
 d_check_zone:∃ g fd,FD K mg "check_zone" s_check_zone ["thing"] g fd
 d_check_moment:∃ g fd,FD K mg "check_moment" s_check_moment ["thing"] g fd
 d_check_deeds:∃ g fd,FD K mg "check_deeds" s_check_deeds ["thing"] g fd
 d_is_row:∃ g fd,FD K mg "is_row" s_is_row ["thing"] g fd
 d_check_rows:∃ g fd,FD K mg "check_rows" s_check_rows ["rows"] g fd
 d_walked_holds:∃ g fd,FD K mg "walked_holds" s_walked_holds ["rows"] g fd
 d_lasting_holds:∃ g fd,FD K mg "lasting_holds" s_lasting_holds ["rows"] g fd
 d_all_holds:∃ g fd,FD K mg "all_holds" s_all_holds ["rows"] g fd
 d_held_by:∃ g fd,FD K mg "held_by" s_held_by ["rows"] g fd
 d_holder_at:∃ g fd,FD K mg "holder_at" s_holder_at ["rows","moment"] g fd
 d_nobody:∃ g fd,FD K mg "nobody" s_nobody ["rows","last"] g fd
 d__law_cell_at:∃ g fd,FD K mg "_law_cell_at" s__law_cell_at ["_law_script","_law_k"] g fd
 d__law_mixed:∃ g fd,FD K mg "_law_mixed" s__law_mixed ["_law_script","_law_k","_law_many"] g fd
 d__law_draw:∃ g fd,FD K mg "_law_draw" s__law_draw ["_law_script","_law_town","_law_many"] g fd
 d__law_pick:∃ g fd,FD K mg "_law_pick" s__law_pick ["_law_script","_law_town","_law_some"] g fd
 d__law_rows:∃ g fd,FD K mg "_law_rows" s__law_rows ["_law_script","_law_town","_law_most"] g fd
 d__law_which:∃ g fd,FD K mg "_law_which" s__law_which ["_law_e"] g fd
 d__law_ask:∃ g fd,FD K mg "_law_ask" s__law_ask ["_law_what","_law_rows_here","_law_moment"] g fd
 c_LAST_MOMENT:∃ t,mg "LAST_MOMENT" = some (.int (9999) t)
 c_LAST_HOUR:∃ t,mg "LAST_HOUR" = some (.int (23) t)
 c_LEAST_AHEAD:∃ t,mg "LEAST_AHEAD" = some (.int (-12) t)
 c_MOST_AHEAD:∃ t,mg "MOST_AHEAD" = some (.int (14) t)
 c_MOST_SHIFTS:∃ t,mg "MOST_SHIFTS" = some (.int (6) t)
 c_MOST_STEP:∃ t,mg "MOST_STEP" = some (.int (999) t)
 c_MOST_DEEDS:∃ t,mg "MOST_DEEDS" = some (.int (6) t)
 c_MOST_WITHIN:∃ t,mg "MOST_WITHIN" = some (.int (999) t)
 c_LAST_RUNNER:∃ t,mg "LAST_RUNNER" = some (.int (3) t)
 c_MOST_TERM:∃ t,mg "MOST_TERM" = some (.int (99) t)
 c_ANY_ZONE:∃ u,mg "ANY_ZONE" = some u
 c_NO_DEEDS:∃ u,mg "NO_DEEDS" = some u
 b_ValueError:mg "ValueError" = none
 b_all:mg "all" = none
 b_bool:mg "bool" = none
 b_int:mg "int" = none
 b_isinstance:mg "isinstance" = none
 b_len:mg "len" = none
 b_list:mg "list" = none
 b_min:mg "min" = none
 b_range:mg "range" = none
 b_sorted:mg "sorted" = none
 b_str:mg "str" = none
 b_tuple:mg "tuple" = none
 xt0:∃ D,XT K mg exL D
structure HCx (K:PySem.W.Frag) (mg:Str->Option Value) (C:Addr):Prop where
 cl:Cls K C
 mg:mg "Hall" = some (.ref C)
 mks:PySem.W.makesIn K C=true
 kpC:PySem.W.keepIn K (.ref C)=true
 n_begun:NoAttr K C "begun"
 n_deeds:NoAttr K C "deeds"
 n_holder:NoAttr K C "holder"
 n_holds:NoAttr K C "holds"
 n_last:NoAttr K C "last"
 n_rows:NoAttr K C "rows"
 n_settled:NoAttr K C "settled"
 n_until:NoAttr K C "until"
 n_words:NoAttr K C "words"
 n_zone:NoAttr K C "zone"
 d_H___init__:∃ g fd,MD K C "__init__" "Hall.__init__" s_H___init__ ["self","zone","deeds"] g fd
 d_H_held:∃ g fd,MD K C "held" "Hall.held" s_H_held ["self"] g fd
theorem HCx.make {K:PySem.W.Frag} {mg:Str->Option Value} {C g:Addr} (h:HCx K mg C) (M:Meth K C "__init__" g):Mk K C g:=⟨h.mks,M.at_,M.fn,h.kpC⟩
theorem bt_int:bootBuiltins "int" = some (.type "int"):=by decide +kernel
theorem bt_bool:bootBuiltins "bool" = some (.type "bool"):=by decide +kernel
theorem bt_str:bootBuiltins "str" = some (.type "str"):=by decide +kernel
theorem bt_tuple:bootBuiltins "tuple" = some (.type "tuple"):=by decide +kernel
theorem bt_list:bootBuiltins "list" = some (.type "list"):=by decide +kernel
theorem bt_max:bootBuiltins "max" = some (.builtin "max"):=by decide +kernel
theorem bt_divmod:bootBuiltins "divmod" = some (.builtin "divmod"):=by decide +kernel
theorem bt_all:bootBuiltins "all" = some (.builtin "all"):=by decide +kernel
theorem bt_sum:bootBuiltins "sum" = some (.builtin "sum"):=by decide +kernel
theorem bt_min:bootBuiltins "min" = some (.builtin "min"):=by decide +kernel
theorem bt_sorted:bootBuiltins "sorted" = some (.builtin "sorted"):=by decide +kernel
theorem roomH_units {k:Nat} {A:Around} (r:RoomH k A):A.units + 64 < cLine:=by have:=r.un; omega
theorem xok0 {X:Cx} {F:Fx} (hG:GF X.mg F):XOk X F E0':=⟨hG,fun _ _ _ _ _ _ _ _ _ _ z=>z.elim⟩
end K3
namespace K3
open PySem PySem.Spec L2 L2.L3 PyProof.Rows
section
variable (P:Program) (w:World) {K:PySem.W.Frag} {mg:Str->Option Value} (base:Heap)
theorem ok_is_whole {g:Addr} {fd:FuncData} (T:Tx K mg) (D:FD K mg "is_whole" s_is_whole ["thing","least","most"] g fd):FnOk P w K mg base (CXM P w) 1 g fd ["thing","least","most"] (spF K mg f_is_whole):=by
 refine fn_F D.fn sc_is_whole (by decide) ?_
 intro cdv A outer s H E F E' hr hx
 unfold m_is_whole
 refine fss_one ?_
 refine fs_ret ?_
 ·exact (fe_and (fe_is (de_isinst rfl T.b_isinstance (fv 0) (pe_bltn rfl T.b_int bt_int rfl))) (fe_and (fe_not (fe_is (de_isinst rfl T.b_isinstance (fv 0) (pe_bltn rfl T.b_bool bt_bool rfl)))) (fe_one (fe_lele (fv 1) (fv 0) (fv 2)))))
theorem ok_is_tuple_of {g:Addr} {fd:FuncData} (T:Tx K mg) (D:FD K mg "is_tuple_of" s_is_tuple_of ["thing","length"] g fd):FnOk P w K mg base (CXM P w) 1 g fd ["thing","length"] (spF K mg f_is_tuple_of):=by
 refine fn_F D.fn sc_is_tuple_of (by decide) ?_
 intro cdv A outer s H E F E' hr hx
 unfold m_is_tuple_of
 refine fss_one ?_
 refine fs_ret ?_
 ·exact (fe_and (fe_is (de_isinst rfl T.b_isinstance (fv 0) (pe_bltn rfl T.b_tuple bt_tuple rfl))) (fe_one (fe_eq hr.units (fe_cb fn_len (de_callB call_len_seq n_len rfl T.b_len PySem.boot_len (fa_c (fv 0) fa_nil))) (fv 1))))
theorem ok__law_cell_at {g:Addr} {fd:FuncData} (T:Tx K mg) (D:FD K mg "_law_cell_at" s__law_cell_at ["_law_script","_law_k"] g fd):FnOk P w K mg base (CXM P w) 1 g fd ["_law_script","_law_k"] (spF K mg f__law_cell_at):=by
 refine fn_F D.fn sc__law_cell_at (by decide) ?_
 intro cdv A outer s H E F E' hr hx
 unfold m__law_cell_at
 refine fss_cons ?_ ?_
 ·refine fs_if ?_ ?_ ?_
  ·exact (fb_lt (fv 1) (fe_lenS (de_lenS rfl T.b_len (pv 0))))
  ·refine fss_one ?_
   refine fs_ret ?_
   ·exact (fe_ixS (de_ixS (pv 0) (fv 1) (by intro _ _; rfl)))
  ·exact fss_nil
 refine fss_cons ?_ ?_
 ·refine fs_if ?_ ?_ ?_
  ·exact (fb_eqS (db_eqS hr.units (pv 0)))
  ·refine fss_one ?_
   refine fs_ret ?_
   ·exact (fe_c de_int)
  ·exact fss_nil
 refine fss_one ?_
 refine fs_ret ?_
 ·exact (fe_add (fe_mul (fe_ixS (de_ixS (pv 0) (fe_mod (fv 1) (fe_lenS (de_lenS rfl T.b_len (pv 0)))) (by intro _ _; rfl))) (fe_c de_int)) (fv 1))
theorem ok__law_which {g:Addr} {fd:FuncData} (T:Tx K mg) (D:FD K mg "_law_which" s__law_which ["_law_e"] g fd):FnOkH P w K mg base (CXM P w) 1 g fd ["_law_e"] (spF K mg f__law_which):=by
 obtain ⟨DE_,xt⟩:=T.xt0
 refine fn_FH D.fn sc__law_which (by decide) ?_
 intro cdv A outer s H E F E' hr hx
 unfold m__law_which
 refine fss_cons ?_ ?_
 ·refine fs_setO (i:=1) ?_ ?_ ?_ ?_ ?_ ?_ <;> try first|rfl|exact .inl rfl|exact .inr rfl|assumption|exact fun _=>rfl
  ·exact sc__law_which.nd
  ·exact (fo_lst (fa_c (fe_isX xt rfl T.b_isinstance (pv 0) rfl (by decide +kernel)) (fa_c (fe_isX xt rfl T.b_isinstance (pv 0) rfl (by decide +kernel)) (fa_c (fe_isX xt rfl T.b_isinstance (pv 0) rfl (by decide +kernel)) (fa_c (fe_isX xt rfl T.b_isinstance (pv 0) rfl (by decide +kernel)) fa_nil)))))
 refine fss_cons ?_ ?_
 ·refine fs_ext ?_ ?_ ?_ ?_ ?_ ?_ ?_ ?_ <;> try first|rfl|exact .inl rfl|exact .inr rfl|assumption|exact fun _=>rfl
  ·exact (pv 1)
  ·exact (fe_lst (fa_c (fe_isX xt rfl T.b_isinstance (pv 0) rfl (by decide +kernel)) (fa_c (fe_isX xt rfl T.b_isinstance (pv 0) rfl (by decide +kernel)) (fa_c (fe_isX xt rfl T.b_isinstance (pv 0) rfl (by decide +kernel)) (fa_c (fe_isX xt rfl T.b_isinstance (pv 0) rfl (by decide +kernel)) fa_nil)))))
 refine fss_cons ?_ ?_
 ·refine fs_ext ?_ ?_ ?_ ?_ ?_ ?_ ?_ ?_ <;> try first|rfl|exact .inl rfl|exact .inr rfl|assumption|exact fun _=>rfl
  ·exact (pv 1)
  ·exact (fe_lst (fa_c (fe_isX xt rfl T.b_isinstance (pv 0) rfl (by decide +kernel)) (fa_c (fe_isX xt rfl T.b_isinstance (pv 0) rfl (by decide +kernel)) (fa_c (fe_isX xt rfl T.b_isinstance (pv 0) rfl (by decide +kernel)) (fa_c (fe_isX xt rfl T.b_isinstance (pv 0) rfl (by decide +kernel)) fa_nil)))))
 refine fss_cons ?_ ?_
 ·refine fs_ext ?_ ?_ ?_ ?_ ?_ ?_ ?_ ?_ <;> try first|rfl|exact .inl rfl|exact .inr rfl|assumption|exact fun _=>rfl
  ·exact (pv 1)
  ·exact (fe_lst (fa_c (fe_isX xt rfl T.b_isinstance (pv 0) rfl (by decide +kernel)) (fa_c (fe_isX xt rfl T.b_isinstance (pv 0) rfl (by decide +kernel)) fa_nil)))
 refine fss_cons ?_ ?_
 ·refine fs_if ?_ ?_ ?_
  ·exact (fb_w (fw_or (fb_ne (roomH_units hr) (fe_mt (g:=cntD) PySem.F.slot_list_count PySem.F.type_list_count mt_count cnt_ok (pv 1) (fe_c de_bl)) (fe_c de_int)) (fw_or1 (fb_not (fb_val (db_val (fe_isV xt rfl T.b_isinstance (pv 0) rfl T.b_ValueError)))))))
  ·refine fss_one ?_
   refine fs_ret ?_
   ·exact (fe_tup (fa_c (fe_c de_str) (fa_c (fe_neg (fe_c de_int)) fa_nil)))
  ·exact fss_nil
 refine fss_one ?_
 refine fs_ret ?_
 ·exact (fe_tup (fa_c (fe_c de_str) (fa_c (fe_mt (g:=ixD) PySem.F.slot_list_index PySem.F.type_list_index mt_index ix_ok (pv 1) (fe_c de_bl)) fa_nil)))
theorem ok_H_held {C:Addr} {g:Addr} {fd:FuncData} (T:Tx K mg) (HC:HCx K mg C) (D:MD K C "held" "Hall.held" s_H_held ["self"] g fd):FnOk P w K mg base (CXM P w) 1 g fd ["self"] (spF K mg (f_H_held C)):=by
 refine fn_F D.fn sc_H_held (by decide) ?_
 intro cdv A outer s H E F E' hr hx
 unfold m_H_held
 refine fss_one ?_
 refine fs_ret ?_
 ·exact (fe_tup (fa_c (fe_fld HC.cl HC.n_holder (pv 0)) (fa_c (fe_fld HC.cl HC.n_until (pv 0)) (fa_c (fe_fld HC.cl HC.n_holds (pv 0)) fa_nil))))
theorem ok_is_ahead {g:Addr} {fd:FuncData} (T:Tx K mg) (D:FD K mg "is_ahead" s_is_ahead ["thing"] g fd):FnOk P w K mg base (CXM P w) 2 g fd ["thing"] (spF K mg f_is_ahead):=by
 obtain ⟨g_is_whole,fd_is_whole,D_is_whole⟩:=T.d_is_whole
 have G_is_whole:=ok_is_whole P w base T D_is_whole
 obtain ⟨t_LEAST_AHEAD,g_LEAST_AHEAD⟩:=T.c_LEAST_AHEAD
 obtain ⟨t_MOST_AHEAD,g_MOST_AHEAD⟩:=T.c_MOST_AHEAD
 refine fn_F D.fn sc_is_ahead (by decide) ?_
 intro cdv A outer s H E F E' hr hx
 unfold m_is_ahead
 refine fss_one ?_
 refine fs_retO ?_
 ·exact (fcd hx G_is_whole D_is_whole hr (fx_v (fv 0) (fx_v (fe_c (de_gint rfl g_LEAST_AHEAD)) (fx_v (fe_c (de_gint rfl g_MOST_AHEAD)) fx_nil))))
theorem ok_is_moment {g:Addr} {fd:FuncData} (T:Tx K mg) (D:FD K mg "is_moment" s_is_moment ["thing"] g fd):FnOk P w K mg base (CXM P w) 2 g fd ["thing"] (spF K mg f_is_moment):=by
 obtain ⟨g_is_whole,fd_is_whole,D_is_whole⟩:=T.d_is_whole
 have G_is_whole:=ok_is_whole P w base T D_is_whole
 obtain ⟨t_LAST_MOMENT,g_LAST_MOMENT⟩:=T.c_LAST_MOMENT
 refine fn_F D.fn sc_is_moment (by decide) ?_
 intro cdv A outer s H E F E' hr hx
 unfold m_is_moment
 refine fss_one ?_
 refine fs_retO ?_
 ·exact (fcd hx G_is_whole D_is_whole hr (fx_v (fv 0) (fx_v (fe_c de_int) (fx_v (fe_c (de_gint rfl g_LAST_MOMENT)) fx_nil))))
theorem ok_is_runner {g:Addr} {fd:FuncData} (T:Tx K mg) (D:FD K mg "is_runner" s_is_runner ["thing"] g fd):FnOk P w K mg base (CXM P w) 2 g fd ["thing"] (spF K mg f_is_runner):=by
 obtain ⟨g_is_whole,fd_is_whole,D_is_whole⟩:=T.d_is_whole
 have G_is_whole:=ok_is_whole P w base T D_is_whole
 obtain ⟨t_LAST_RUNNER,g_LAST_RUNNER⟩:=T.c_LAST_RUNNER
 refine fn_F D.fn sc_is_runner (by decide) ?_
 intro cdv A outer s H E F E' hr hx
 unfold m_is_runner
 refine fss_one ?_
 refine fs_retO ?_
 ·exact (fcd hx G_is_whole D_is_whole hr (fx_v (fv 0) (fx_v (fe_c de_int) (fx_v (fe_c (de_gint rfl g_LAST_RUNNER)) fx_nil))))
theorem ok_is_term {g:Addr} {fd:FuncData} (T:Tx K mg) (D:FD K mg "is_term" s_is_term ["thing"] g fd):FnOk P w K mg base (CXM P w) 2 g fd ["thing"] (spF K mg f_is_term):=by
 obtain ⟨g_is_whole,fd_is_whole,D_is_whole⟩:=T.d_is_whole
 have G_is_whole:=ok_is_whole P w base T D_is_whole
 obtain ⟨t_MOST_TERM,g_MOST_TERM⟩:=T.c_MOST_TERM
 refine fn_F D.fn sc_is_term (by decide) ?_
 intro cdv A outer s H E F E' hr hx
 unfold m_is_term
 refine fss_one ?_
 refine fs_retO ?_
 ·exact (fcd hx G_is_whole D_is_whole hr (fx_v (fv 0) (fx_v (fe_c de_int) (fx_v (fe_c (de_gint rfl g_MOST_TERM)) fx_nil))))
theorem ok_has_word {g:Addr} {fd:FuncData} (T:Tx K mg) (D:FD K mg "has_word" s_has_word ["thing","word","length"] g fd):FnOk P w K mg base (CXM P w) 2 g fd ["thing","word","length"] (spF K mg f_has_word):=by
 obtain ⟨g_is_tuple_of,fd_is_tuple_of,D_is_tuple_of⟩:=T.d_is_tuple_of
 have G_is_tuple_of:=ok_is_tuple_of P w base T D_is_tuple_of
 refine fn_F D.fn sc_has_word (by decide) ?_
 intro cdv A outer s H E F E' hr hx
 unfold m_has_word
 refine fss_one ?_
 refine fs_ret ?_
 ·exact (fe_and (fe_frz (fcd hx G_is_tuple_of D_is_tuple_of hr (fx_v (fv 0) (fx_v (fv 2) fx_nil)))) (fe_and (fe_is (de_isinst rfl T.b_isinstance (fe_ix (fv 0) (fe_c de_int)) (pe_bltn rfl T.b_str bt_str rfl))) (fe_one (fe_eq hr.units (fe_ix (fv 0) (fe_c de_int)) (fv 1)))))
theorem ok__law_mixed {g:Addr} {fd:FuncData} (T:Tx K mg) (D:FD K mg "_law_mixed" s__law_mixed ["_law_script","_law_k","_law_many"] g fd):FnOk P w K mg base (CXM P w) 2 g fd ["_law_script","_law_k","_law_many"] (spF K mg f__law_mixed):=by
 obtain ⟨g__law_cell_at,fd__law_cell_at,D__law_cell_at⟩:=T.d__law_cell_at
 have G__law_cell_at:=ok__law_cell_at P w base T D__law_cell_at
 refine fn_F D.fn sc__law_mixed (by decide) ?_
 intro cdv A outer s H E F E' hr hx
 unfold m__law_mixed
 refine fss_cons ?_ ?_
 ·refine fs_set (i:=3) ?_ ?_ ?_ ?_ ?_ ?_ <;> try first|rfl|exact .inl rfl|exact .inr rfl|assumption|exact fun _=>rfl
  ·exact sc__law_mixed.nd
  ·exact (fe_mod (fe_add (fe_add (fe_mul (fe_frz (fcd hx G__law_cell_at D__law_cell_at hr (fx_s (pv 0) (fx_v (fv 1) fx_nil)))) (fe_c de_int)) (fe_mul (fe_c de_int) (fv 1))) (fe_c de_int)) (fe_c de_int))
 refine fss_one ?_
 refine fs_ret ?_
 ·exact (fe_mod (fe_mod (fe_mod (fe_pow (fv 3) (fe_c de_int)) (fe_c de_int)) (fe_c de_int)) (fv 2))
theorem ok_are_shifts {g:Addr} {fd:FuncData} (T:Tx K mg) (D:FD K mg "are_shifts" s_are_shifts ["thing"] g fd):FnOk P w K mg base (CXM P w) 3 g fd ["thing"] (spF K mg f_are_shifts):=by
 obtain ⟨g_is_whole,fd_is_whole,D_is_whole⟩:=T.d_is_whole
 have G_is_whole:=ok_is_whole P w base T D_is_whole
 obtain ⟨g_is_tuple_of,fd_is_tuple_of,D_is_tuple_of⟩:=T.d_is_tuple_of
 have G_is_tuple_of:=ok_is_tuple_of P w base T D_is_tuple_of
 obtain ⟨g_is_ahead,fd_is_ahead,D_is_ahead⟩:=T.d_is_ahead
 have G_is_ahead:=ok_is_ahead P w base T D_is_ahead
 obtain ⟨t_LAST_MOMENT,g_LAST_MOMENT⟩:=T.c_LAST_MOMENT
 obtain ⟨t_MOST_SHIFTS,g_MOST_SHIFTS⟩:=T.c_MOST_SHIFTS
 refine fn_F D.fn sc_are_shifts (by decide) ?_
 intro cdv A outer s H E F E' hr hx
 unfold m_are_shifts
 refine fss_cons ?_ ?_
 ·refine fs_if ?_ ?_ ?_
  ·exact (fb_w (fw_or (fb_not (fb_val (db_val (fe_is (de_isinst rfl T.b_isinstance (fv 0) (pe_bltn rfl T.b_tuple bt_tuple rfl)))))) (fw_or1 (fb_gt (fe_cb fn_len (de_callB call_len_seq n_len rfl T.b_len PySem.boot_len (fa_c (fv 0) fa_nil))) (fe_c (de_gint rfl g_MOST_SHIFTS))))))
  ·refine fss_one ?_
   refine fs_ret ?_
   ·exact (fe_c de_bl)
  ·exact fss_nil
 refine fss_cons ?_ ?_
 ·refine fs_set (i:=1) ?_ ?_ ?_ ?_ ?_ ?_ <;> try first|rfl|exact .inl rfl|exact .inr rfl|assumption|exact fun _=>rfl
  ·exact sc_are_shifts.nd
  ·exact (fe_c de_int)
 refine fss_cons ?_ ?_
 ·refine fs_for ?_ ?_ ?_ ?_ ?_ ?_ <;> try first|rfl|exact .inl rfl|exact .inr rfl|assumption|exact fun _=>rfl
  ·exact PassesOwn.leaving
  ·exact (fi_tup (fv 0))
  ·exact (fgn 2 sc_are_shifts.nd)
  ·unfold b_are_shifts_1
   refine fss_cons ?_ ?_
   ·refine fs_if ?_ ?_ ?_
    ·exact (fb_w (fw_or (fb_not (fb_val (db_val (fe_frz (fcd hx G_is_tuple_of D_is_tuple_of hr (fx_v (fv 2) (fx_v (fe_c de_int) fx_nil))))))) (fw_or1 (fb_not (fb_val (db_val (fe_frz (fcd hx G_is_ahead D_is_ahead hr (fx_v (fe_ix (fv 2) (fe_c de_int)) fx_nil)))))))))
    ·refine fss_one ?_
     refine fs_ret ?_
     ·exact (fe_c de_bl)
    ·exact fss_nil
   refine fss_cons ?_ ?_
   ·refine fs_if ?_ ?_ ?_
    ·exact (fb_not (fb_val (db_val (fe_frz (fcd hx G_is_whole D_is_whole hr (fx_v (fe_ix (fv 2) (fe_c de_int)) (fx_v (fv 1) (fx_v (fe_c (de_gint rfl g_LAST_MOMENT)) fx_nil))))))))
    ·refine fss_one ?_
     refine fs_ret ?_
     ·exact (fe_c de_bl)
    ·exact fss_nil
   refine fss_one ?_
   refine fs_set (i:=1) ?_ ?_ ?_ ?_ ?_ ?_ <;> try first|rfl|exact .inl rfl|exact .inr rfl|assumption|exact fun _=>rfl
   ·exact sc_are_shifts.nd
   ·exact (fe_add (fe_ix (fv 2) (fe_c de_int)) (fe_c de_int))
 refine fss_one ?_
 refine fs_ret ?_
 ·exact (fe_c de_bl)
theorem ok_is_plan {g:Addr} {fd:FuncData} (T:Tx K mg) (D:FD K mg "is_plan" s_is_plan ["thing"] g fd):FnOk P w K mg base (CXM P w) 3 g fd ["thing"] (spF K mg f_is_plan):=by
 obtain ⟨g_has_word,fd_has_word,D_has_word⟩:=T.d_has_word
 have G_has_word:=ok_has_word P w base T D_has_word
 obtain ⟨g_is_moment,fd_is_moment,D_is_moment⟩:=T.d_is_moment
 have G_is_moment:=ok_is_moment P w base T D_is_moment
 obtain ⟨g_is_whole,fd_is_whole,D_is_whole⟩:=T.d_is_whole
 have G_is_whole:=ok_is_whole P w base T D_is_whole
 obtain ⟨t_LAST_HOUR,g_LAST_HOUR⟩:=T.c_LAST_HOUR
 obtain ⟨t_MOST_STEP,g_MOST_STEP⟩:=T.c_MOST_STEP
 refine fn_F D.fn sc_is_plan (by decide) ?_
 intro cdv A outer s H E F E' hr hx
 unfold m_is_plan
 refine fss_cons ?_ ?_
 ·refine fs_if ?_ ?_ ?_
  ·exact (fb_val (db_val (fe_frz (fcd hx G_has_word D_has_word hr (fx_v (fv 0) (fx_v (fe_c de_str) (fx_v (fe_c de_int) fx_nil)))))))
  ·refine fss_one ?_
   refine fs_retO ?_
   ·exact (fcd hx G_is_moment D_is_moment hr (fx_v (fe_ix (fv 0) (fe_c de_int)) fx_nil))
  ·exact fss_nil
 refine fss_cons ?_ ?_
 ·refine fs_if ?_ ?_ ?_
  ·exact (fb_val (db_val (fe_frz (fcd hx G_has_word D_has_word hr (fx_v (fv 0) (fx_v (fe_c de_str) (fx_v (fe_c de_int) fx_nil)))))))
  ·refine fss_one ?_
   refine fs_ret ?_
   ·exact (fe_and (fe_frz (fcd hx G_is_moment D_is_moment hr (fx_v (fe_ix (fv 0) (fe_c de_int)) fx_nil))) (fe_one (fe_frz (fcd hx G_is_whole D_is_whole hr (fx_v (fe_ix (fv 0) (fe_c de_int)) (fx_v (fe_c de_int) (fx_v (fe_c (de_gint rfl g_MOST_STEP)) fx_nil)))))))
  ·exact fss_nil
 refine fss_one ?_
 refine fs_ret ?_
 ·exact (fe_and (fe_frz (fcd hx G_has_word D_has_word hr (fx_v (fv 0) (fx_v (fe_c de_str) (fx_v (fe_c de_int) fx_nil))))) (fe_one (fe_frz (fcd hx G_is_whole D_is_whole hr (fx_v (fe_ix (fv 0) (fe_c de_int)) (fx_v (fe_c de_int) (fx_v (fe_c (de_gint rfl g_LAST_HOUR)) fx_nil)))))))
theorem ok_is_late {g:Addr} {fd:FuncData} (T:Tx K mg) (D:FD K mg "is_late" s_is_late ["thing"] g fd):FnOk P w K mg base (CXM P w) 3 g fd ["thing"] (spF K mg f_is_late):=by
 obtain ⟨g_has_word,fd_has_word,D_has_word⟩:=T.d_has_word
 have G_has_word:=ok_has_word P w base T D_has_word
 obtain ⟨g_is_whole,fd_is_whole,D_is_whole⟩:=T.d_is_whole
 have G_is_whole:=ok_is_whole P w base T D_is_whole
 obtain ⟨t_MOST_WITHIN,g_MOST_WITHIN⟩:=T.c_MOST_WITHIN
 refine fn_F D.fn sc_is_late (by decide) ?_
 intro cdv A outer s H E F E' hr hx
 unfold m_is_late
 refine fss_cons ?_ ?_
 ·refine fs_if ?_ ?_ ?_
  ·exact (fb_val (db_val (fe_is (de_isinst rfl T.b_isinstance (fv 0) (pe_bltn rfl T.b_str bt_str rfl)))))
  ·refine fss_one ?_
   refine fs_ret ?_
   ·exact (fe_or (fe_eq hr.units (fv 0) (fe_c de_str)) (fe_one (fe_eq hr.units (fv 0) (fe_c de_str))))
  ·exact fss_nil
 refine fss_one ?_
 refine fs_ret ?_
 ·exact (fe_and (fe_frz (fcd hx G_has_word D_has_word hr (fx_v (fv 0) (fx_v (fe_c de_str) (fx_v (fe_c de_int) fx_nil))))) (fe_one (fe_frz (fcd hx G_is_whole D_is_whole hr (fx_v (fe_ix (fv 0) (fe_c de_int)) (fx_v (fe_c de_int) (fx_v (fe_c (de_gint rfl g_MOST_WITHIN)) fx_nil)))))))
theorem ok_check_moment {g:Addr} {fd:FuncData} (T:Tx K mg) (D:FD K mg "check_moment" s_check_moment ["thing"] g fd):FnOk P w K mg base (CXM P w) 3 g fd ["thing"] (spF K mg f_check_moment):=by
 obtain ⟨g_is_moment,fd_is_moment,D_is_moment⟩:=T.d_is_moment
 have G_is_moment:=ok_is_moment P w base T D_is_moment
 obtain ⟨DE_,xt⟩:=T.xt0
 obtain ⟨C_NoMoment,E_NoMoment,_⟩:=xt.at_ (c:="NoMoment") (by decide +kernel)
 refine fn_F D.fn sc_check_moment (by decide) ?_
 intro cdv A outer s H E F E' hr hx
 unfold m_check_moment
 refine fss_one ?_
 refine fs_if ?_ ?_ ?_
 ·exact (fb_not (fb_val (db_val (fe_frz (fcd hx G_is_moment D_is_moment hr (fx_v (fv 0) fx_nil))))))
 ·refine fss_one ?_
  exact (fs_raise hx hr.hd rfl E_NoMoment)
 ·exact fss_nil
theorem ok_is_row {g:Addr} {fd:FuncData} (T:Tx K mg) (D:FD K mg "is_row" s_is_row ["thing"] g fd):FnOk P w K mg base (CXM P w) 3 g fd ["thing"] (spF K mg f_is_row):=by
 obtain ⟨g_has_word,fd_has_word,D_has_word⟩:=T.d_has_word
 have G_has_word:=ok_has_word P w base T D_has_word
 obtain ⟨g_is_runner,fd_is_runner,D_is_runner⟩:=T.d_is_runner
 have G_is_runner:=ok_is_runner P w base T D_is_runner
 obtain ⟨g_is_moment,fd_is_moment,D_is_moment⟩:=T.d_is_moment
 have G_is_moment:=ok_is_moment P w base T D_is_moment
 obtain ⟨g_is_term,fd_is_term,D_is_term⟩:=T.d_is_term
 have G_is_term:=ok_is_term P w base T D_is_term
 refine fn_F D.fn sc_is_row (by decide) ?_
 intro cdv A outer s H E F E' hr hx
 unfold m_is_row
 refine fss_cons ?_ ?_
 ·refine fs_if ?_ ?_ ?_
  ·exact (fb_val (db_val (fe_frz (fcd hx G_has_word D_has_word hr (fx_v (fv 0) (fx_v (fe_c de_str) (fx_v (fe_c de_int) fx_nil)))))))
  ·refine fss_one ?_
   refine fs_ret ?_
   ·exact (fe_and (fe_frz (fcd hx G_is_runner D_is_runner hr (fx_v (fe_ix (fv 0) (fe_c de_int)) fx_nil))) (fe_and (fe_frz (fcd hx G_is_moment D_is_moment hr (fx_v (fe_ix (fv 0) (fe_c de_int)) fx_nil))) (fe_one (fe_frz (fcd hx G_is_term D_is_term hr (fx_v (fe_ix (fv 0) (fe_c de_int)) fx_nil))))))
  ·exact fss_nil
 refine fss_one ?_
 refine fs_ret ?_
 ·exact (fe_and (fe_frz (fcd hx G_has_word D_has_word hr (fx_v (fv 0) (fx_v (fe_c de_str) (fx_v (fe_c de_int) fx_nil))))) (fe_and (fe_frz (fcd hx G_is_runner D_is_runner hr (fx_v (fe_ix (fv 0) (fe_c de_int)) fx_nil))) (fe_one (fe_frz (fcd hx G_is_moment D_is_moment hr (fx_v (fe_ix (fv 0) (fe_c de_int)) fx_nil))))))
theorem ok__law_draw {g:Addr} {fd:FuncData} (T:Tx K mg) (D:FD K mg "_law_draw" s__law_draw ["_law_script","_law_town","_law_many"] g fd):FnOk P w K mg base (CXM P w) 3 g fd ["_law_script","_law_town","_law_many"] (spF K mg f__law_draw):=by
 obtain ⟨g__law_mixed,fd__law_mixed,D__law_mixed⟩:=T.d__law_mixed
 have G__law_mixed:=ok__law_mixed P w base T D__law_mixed
 refine fn_F D.fn sc__law_draw (by decide) ?_
 intro cdv A outer s H E F E' hr hx
 unfold m__law_draw
 refine fss_cons ?_ ?_
 ·refine fs_app ?_ ?_ ?_ ?_ ?_ ?_ ?_ ?_ <;> try first|rfl|exact .inl rfl|exact .inr rfl|assumption|exact fun _=>rfl
  ·exact (pv 1)
  ·exact (fe_c de_int)
 refine fss_one ?_
 refine fs_retO ?_
 ·exact (fcd hx G__law_mixed D__law_mixed hr (fx_s (pv 0) (fx_v (fe_lenN rfl T.b_len (pv 1)) (fx_v (fv 2) fx_nil))))
theorem ok_is_zone {g:Addr} {fd:FuncData} (T:Tx K mg) (D:FD K mg "is_zone" s_is_zone ["thing"] g fd):FnOk P w K mg base (CXM P w) 4 g fd ["thing"] (spF K mg f_is_zone):=by
 obtain ⟨g_is_tuple_of,fd_is_tuple_of,D_is_tuple_of⟩:=T.d_is_tuple_of
 have G_is_tuple_of:=ok_is_tuple_of P w base T D_is_tuple_of
 obtain ⟨g_is_ahead,fd_is_ahead,D_is_ahead⟩:=T.d_is_ahead
 have G_is_ahead:=ok_is_ahead P w base T D_is_ahead
 obtain ⟨g_are_shifts,fd_are_shifts,D_are_shifts⟩:=T.d_are_shifts
 have G_are_shifts:=ok_are_shifts P w base T D_are_shifts
 refine fn_F D.fn sc_is_zone (by decide) ?_
 intro cdv A outer s H E F E' hr hx
 unfold m_is_zone
 refine fss_one ?_
 refine fs_ret ?_
 ·exact (fe_and (fe_frz (fcd hx G_is_tuple_of D_is_tuple_of hr (fx_v (fv 0) (fx_v (fe_c de_int) fx_nil)))) (fe_and (fe_frz (fcd hx G_is_ahead D_is_ahead hr (fx_v (fe_ix (fv 0) (fe_c de_int)) fx_nil))) (fe_one (fe_frz (fcd hx G_are_shifts D_are_shifts hr (fx_v (fe_ix (fv 0) (fe_c de_int)) fx_nil))))))
theorem ok_is_deed {g:Addr} {fd:FuncData} (T:Tx K mg) (D:FD K mg "is_deed" s_is_deed ["thing"] g fd):FnOk P w K mg base (CXM P w) 4 g fd ["thing"] (spF K mg f_is_deed):=by
 obtain ⟨g_is_tuple_of,fd_is_tuple_of,D_is_tuple_of⟩:=T.d_is_tuple_of
 have G_is_tuple_of:=ok_is_tuple_of P w base T D_is_tuple_of
 obtain ⟨g_is_plan,fd_is_plan,D_is_plan⟩:=T.d_is_plan
 have G_is_plan:=ok_is_plan P w base T D_is_plan
 obtain ⟨g_is_late,fd_is_late,D_is_late⟩:=T.d_is_late
 have G_is_late:=ok_is_late P w base T D_is_late
 refine fn_F D.fn sc_is_deed (by decide) ?_
 intro cdv A outer s H E F E' hr hx
 unfold m_is_deed
 refine fss_one ?_
 refine fs_ret ?_
 ·exact (fe_and (fe_frz (fcd hx G_is_tuple_of D_is_tuple_of hr (fx_v (fv 0) (fx_v (fe_c de_int) fx_nil)))) (fe_and (fe_frz (fcd hx G_is_plan D_is_plan hr (fx_v (fe_ix (fv 0) (fe_c de_int)) fx_nil))) (fe_and (fe_frz (fcd hx G_is_late D_is_late hr (fx_v (fe_ix (fv 0) (fe_c de_int)) fx_nil))) (fe_one (fe_is (de_isinst rfl T.b_isinstance (fe_ix (fv 0) (fe_c de_int)) (pe_bltn rfl T.b_bool bt_bool rfl)))))))
theorem ok_check_rows {g:Addr} {fd:FuncData} (T:Tx K mg) (D:FD K mg "check_rows" s_check_rows ["rows"] g fd):FnOk P w K mg base (CXM P w) 4 g fd ["rows"] (spF K mg f_check_rows):=by
 obtain ⟨g_is_row,fd_is_row,D_is_row⟩:=T.d_is_row
 have G_is_row:=ok_is_row P w base T D_is_row
 obtain ⟨DE_,xt⟩:=T.xt0
 obtain ⟨C_NoHolds,E_NoHolds,_⟩:=xt.at_ (c:="NoHolds") (by decide +kernel)
 refine fn_F D.fn sc_check_rows (by decide) ?_
 intro cdv A outer s H E F E' hr hx
 unfold m_check_rows
 refine fss_cons ?_ ?_
 ·refine fs_if ?_ ?_ ?_
  ·exact (fb_not (fb_val (db_val (fe_is (de_isinst rfl T.b_isinstance (fv 0) (pe_bltn rfl T.b_list bt_list rfl))))))
  ·refine fss_one ?_
   exact (fs_raise hx hr.hd rfl E_NoHolds)
  ·exact fss_nil
 refine fss_cons ?_ ?_
 ·refine fs_set (i:=1) ?_ ?_ ?_ ?_ ?_ ?_ <;> try first|rfl|exact .inl rfl|exact .inr rfl|assumption|exact fun _=>rfl
  ·exact sc_check_rows.nd
  ·exact (fe_c de_int)
 refine fss_one ?_
 refine fs_for ?_ ?_ ?_ ?_ ?_ ?_ <;> try first|rfl|exact .inl rfl|exact .inr rfl|assumption|exact fun _=>rfl
 ·exact PassesOwn.leaving
 ·exact (fi_list (fv 0))
 ·exact (fgn 2 sc_check_rows.nd)
 ·unfold b_check_rows_1
  refine fss_cons ?_ ?_
  ·refine fs_if ?_ ?_ ?_
   ·exact (fb_w (fw_or (fb_not (fb_val (db_val (fe_frz (fcd hx G_is_row D_is_row hr (fx_v (fv 2) fx_nil)))))) (fw_or1 (fb_lt (fe_ix (fv 2) (fe_c de_int)) (fv 1)))))
   ·refine fss_one ?_
    exact (fs_raise hx hr.hd rfl E_NoHolds)
   ·exact fss_nil
  refine fss_one ?_
  refine fs_set (i:=1) ?_ ?_ ?_ ?_ ?_ ?_ <;> try first|rfl|exact .inl rfl|exact .inr rfl|assumption|exact fun _=>rfl
  ·exact sc_check_rows.nd
  ·exact (fe_ix (fv 2) (fe_c de_int))
theorem ok__law_pick {g:Addr} {fd:FuncData} (T:Tx K mg) (D:FD K mg "_law_pick" s__law_pick ["_law_script","_law_town","_law_some"] g fd):FnOk P w K mg base (CXM P w) 4 g fd ["_law_script","_law_town","_law_some"] (spF K mg f__law_pick):=by
 obtain ⟨g__law_draw,fd__law_draw,D__law_draw⟩:=T.d__law_draw
 have G__law_draw:=ok__law_draw P w base T D__law_draw
 refine fn_F D.fn sc__law_pick (by decide) ?_
 intro cdv A outer s H E F E' hr hx
 unfold m__law_pick
 refine fss_one ?_
 refine fs_ret ?_
 ·exact (fe_ix (fv 2) (fe_frz (fcd hx G__law_draw D__law_draw hr (fx_s (pv 0) (fx_s (pv 1) (fx_v (fe_cb fn_len (de_callB call_len_seq n_len rfl T.b_len PySem.boot_len (fa_c (fv 2) fa_nil))) fx_nil))))))
theorem ok_are_deeds {g:Addr} {fd:FuncData} (T:Tx K mg) (D:FD K mg "are_deeds" s_are_deeds ["thing"] g fd):FnOk P w K mg base (CXM P w) 5 g fd ["thing"] (spF K mg f_are_deeds):=by
 obtain ⟨g_is_deed,fd_is_deed,D_is_deed⟩:=T.d_is_deed
 have G_is_deed:=ok_is_deed P w base T D_is_deed
 obtain ⟨t_MOST_DEEDS,g_MOST_DEEDS⟩:=T.c_MOST_DEEDS
 refine fn_F D.fn sc_are_deeds (by decide) ?_
 intro cdv A outer s H E F E' hr hx
 unfold m_are_deeds
 refine fss_cons ?_ ?_
 ·refine fs_if ?_ ?_ ?_
  ·exact (fb_w (fw_or (fb_not (fb_val (db_val (fe_is (de_isinst rfl T.b_isinstance (fv 0) (pe_bltn rfl T.b_tuple bt_tuple rfl)))))) (fw_or1 (fb_gt (fe_cb fn_len (de_callB call_len_seq n_len rfl T.b_len PySem.boot_len (fa_c (fv 0) fa_nil))) (fe_c (de_gint rfl g_MOST_DEEDS))))))
  ·refine fss_one ?_
   refine fs_ret ?_
   ·exact (fe_c de_bl)
  ·exact fss_nil
 refine fss_one ?_
 refine fs_ret ?_
 ·exact (fe_cb fn_all (de_callB (call_allB rfl) n_all rfl T.b_all bt_all (fa_c (fe_comp hx.1 (CompScope.of (own:=["deed"]) (capN:=[]) (caps:=[])) rfl rfl (fi_tup (fv 0)) (fun _ _ _ _ _ _ hg=>⟨(fgn 0 (show ((["deed"]:List Str) ++ ([]:List Str)).Nodup from by decide +kernel)),fbs_nil,(fe_frz (fcd (xok0 hg) G_is_deed D_is_deed hr (fx_v (fv 0) fx_nil)))⟩)) fa_nil)))
theorem ok_check_zone {g:Addr} {fd:FuncData} (T:Tx K mg) (D:FD K mg "check_zone" s_check_zone ["thing"] g fd):FnOk P w K mg base (CXM P w) 5 g fd ["thing"] (spF K mg f_check_zone):=by
 obtain ⟨g_is_zone,fd_is_zone,D_is_zone⟩:=T.d_is_zone
 have G_is_zone:=ok_is_zone P w base T D_is_zone
 obtain ⟨DE_,xt⟩:=T.xt0
 obtain ⟨C_NoZone,E_NoZone,_⟩:=xt.at_ (c:="NoZone") (by decide +kernel)
 refine fn_F D.fn sc_check_zone (by decide) ?_
 intro cdv A outer s H E F E' hr hx
 unfold m_check_zone
 refine fss_one ?_
 refine fs_if ?_ ?_ ?_
 ·exact (fb_not (fb_val (db_val (fe_frz (fcd hx G_is_zone D_is_zone hr (fx_v (fv 0) fx_nil))))))
 ·refine fss_one ?_
  exact (fs_raise hx hr.hd rfl E_NoZone)
 ·exact fss_nil
theorem ok__law_rows {g:Addr} {fd:FuncData} (T:Tx K mg) (D:FD K mg "_law_rows" s__law_rows ["_law_script","_law_town","_law_most"] g fd):FnOk P w K mg base (CXM P w) 5 g fd ["_law_script","_law_town","_law_most"] (spF K mg f__law_rows):=by
 obtain ⟨g__law_draw,fd__law_draw,D__law_draw⟩:=T.d__law_draw
 have G__law_draw:=ok__law_draw P w base T D__law_draw
 obtain ⟨g__law_pick,fd__law_pick,D__law_pick⟩:=T.d__law_pick
 have G__law_pick:=ok__law_pick P w base T D__law_pick
 refine fn_F D.fn sc__law_rows (by decide) ?_
 intro cdv A outer s H E F E' hr hx
 unfold m__law_rows
 refine fss_cons ?_ ?_
 ·exact (fs_parO (i:=3) (j:=4) rfl sc__law_rows.nd rfl rfl (by decide) rfl rfl (fo_lst fa_nil))
 refine fss_cons ?_ ?_
 ·refine fs_for ?_ ?_ ?_ ?_ ?_ ?_ <;> try first|rfl|exact .inl rfl|exact .inr rfl|assumption|exact fun _=>rfl
  ·exact PassesOwn.leaving
  ·exact (fi_range1 (di_range1 rfl T.b_range (fa_c (fe_frz (fcd hx G__law_draw D__law_draw hr (fx_s (pv 0) (fx_s (pv 1) (fx_v (fe_add (fv 2) (fe_c de_int)) fx_nil))))) fa_nil)))
  ·exact (fgn 5 sc__law_rows.nd)
  ·unfold b__law_rows_1
   refine fss_cons ?_ ?_
   ·refine fs_set (i:=4) ?_ ?_ ?_ ?_ ?_ ?_ <;> try first|rfl|exact .inl rfl|exact .inr rfl|assumption|exact fun _=>rfl
    ·exact sc__law_rows.nd
    ·exact (fe_add (fv 4) (fe_frz (fcd hx G__law_draw D__law_draw hr (fx_s (pv 0) (fx_s (pv 1) (fx_v (fe_frz (fcd hx G__law_pick D__law_pick hr (fx_s (pv 0) (fx_s (pv 1) (fx_v (fe_lst (fa_c (fe_c de_int) (fa_c (fe_c de_int) (fa_c (fe_c de_int) fa_nil)))) fx_nil))))) fx_nil))))))
   refine fss_cons ?_ ?_
   ·refine fs_set (i:=6) ?_ ?_ ?_ ?_ ?_ ?_ <;> try first|rfl|exact .inl rfl|exact .inr rfl|assumption|exact fun _=>rfl
    ·exact sc__law_rows.nd
    ·exact (fe_frz (fcd hx G__law_draw D__law_draw hr (fx_s (pv 0) (fx_s (pv 1) (fx_v (fe_frz (fcd hx G__law_pick D__law_pick hr (fx_s (pv 0) (fx_s (pv 1) (fx_v (fe_lst (fa_c (fe_c de_int) (fa_c (fe_c de_int) fa_nil))) fx_nil))))) fx_nil)))))
   refine fss_one ?_
   refine fs_if ?_ ?_ ?_
   ·exact (fb_eq hr.units (fe_frz (fcd hx G__law_draw D__law_draw hr (fx_s (pv 0) (fx_s (pv 1) (fx_v (fe_c de_int) fx_nil))))) (fe_c de_int))
   ·refine fss_one ?_
    refine fs_app ?_ ?_ ?_ ?_ ?_ ?_ ?_ ?_ <;> try first|rfl|exact .inl rfl|exact .inr rfl|assumption|exact fun _=>rfl
    ·exact (pv 3)
    ·exact (fe_tup (fa_c (fe_c de_str) (fa_c (fv 6) (fa_c (fv 4) fa_nil))))
   ·refine fss_one ?_
    refine fs_app ?_ ?_ ?_ ?_ ?_ ?_ ?_ ?_ <;> try first|rfl|exact .inl rfl|exact .inr rfl|assumption|exact fun _=>rfl
    ·exact (pv 3)
    ·exact (fe_tup (fa_c (fe_c de_str) (fa_c (fv 6) (fa_c (fv 4) (fa_c (fe_add (fe_c de_int) (fe_frz (fcd hx G__law_draw D__law_draw hr (fx_s (pv 0) (fx_s (pv 1) (fx_v (fe_frz (fcd hx G__law_pick D__law_pick hr (fx_s (pv 0) (fx_s (pv 1) (fx_v (fe_lst (fa_c (fe_c de_int) (fa_c (fe_c de_int) (fa_c (fe_c de_int) fa_nil)))) fx_nil))))) fx_nil)))))) fa_nil)))))
 refine fss_one ?_
 refine fs_mv ?_
 ·exact (pv 3)
theorem ok_check_deeds {g:Addr} {fd:FuncData} (T:Tx K mg) (D:FD K mg "check_deeds" s_check_deeds ["thing"] g fd):FnOk P w K mg base (CXM P w) 6 g fd ["thing"] (spF K mg f_check_deeds):=by
 obtain ⟨g_are_deeds,fd_are_deeds,D_are_deeds⟩:=T.d_are_deeds
 have G_are_deeds:=ok_are_deeds P w base T D_are_deeds
 obtain ⟨DE_,xt⟩:=T.xt0
 obtain ⟨C_NoDeeds,E_NoDeeds,_⟩:=xt.at_ (c:="NoDeeds") (by decide +kernel)
 refine fn_F D.fn sc_check_deeds (by decide) ?_
 intro cdv A outer s H E F E' hr hx
 unfold m_check_deeds
 refine fss_one ?_
 refine fs_if ?_ ?_ ?_
 ·exact (fb_not (fb_val (db_val (fe_frz (fcd hx G_are_deeds D_are_deeds hr (fx_v (fv 0) fx_nil))))))
 ·refine fss_one ?_
  exact (fs_raise hx hr.hd rfl E_NoDeeds)
 ·exact fss_nil
theorem ok_H___init__ {C:Addr} {g:Addr} {fd:FuncData} (T:Tx K mg) (HC:HCx K mg C) (D:MD K C "__init__" "Hall.__init__" s_H___init__ ["self","zone","deeds"] g fd):FnOk P w K mg base (CXM P w) 7 g fd ["self","zone","deeds"] (spF K mg (f_H___init__ C)):=by
 obtain ⟨g_check_zone,fd_check_zone,D_check_zone⟩:=T.d_check_zone
 have G_check_zone:=ok_check_zone P w base T D_check_zone
 obtain ⟨g_check_deeds,fd_check_deeds,D_check_deeds⟩:=T.d_check_deeds
 have G_check_deeds:=ok_check_deeds P w base T D_check_deeds
 refine fn_F D.fn sc_H___init__ (by decide) ?_
 intro cdv A outer s H E F E' hr hx
 unfold m_H___init__
 refine fss_cons ?_ ?_
 ·refine fs_exprO ?_ ?_
  ·exact (fcd hx G_check_zone D_check_zone hr (fx_v (fv 1) fx_nil))
  ·rfl
 refine fss_cons ?_ ?_
 ·refine fs_exprO ?_ ?_
  ·exact (fcd hx G_check_deeds D_check_deeds hr (fx_v (fv 2) fx_nil))
  ·rfl
 refine fss_cons ?_ ?_
 ·refine fs_fld ?_ ?_ ?_ ?_ ?_
  ·exact HC.cl
  ·exact HC.n_zone
  ·exact (pv 0)
  ·exact (fv 1)
  ·rfl
 refine fss_cons ?_ ?_
 ·refine fs_fld ?_ ?_ ?_ ?_ ?_
  ·exact HC.cl
  ·exact HC.n_deeds
  ·exact (pv 0)
  ·exact (fv 2)
  ·rfl
 refine fss_cons ?_ ?_
 ·refine fs_fld ?_ ?_ ?_ ?_ ?_
  ·exact HC.cl
  ·exact HC.n_last
  ·exact (pv 0)
  ·exact (fe_c de_non)
  ·rfl
 refine fss_cons ?_ ?_
 ·refine fs_fld ?_ ?_ ?_ ?_ ?_
  ·exact HC.cl
  ·exact HC.n_holder
  ·exact (pv 0)
  ·exact (fe_c de_non)
  ·rfl
 refine fss_cons ?_ ?_
 ·refine fs_fld ?_ ?_ ?_ ?_ ?_
  ·exact HC.cl
  ·exact HC.n_until
  ·exact (pv 0)
  ·exact (fe_c de_int)
  ·rfl
 refine fss_cons ?_ ?_
 ·refine fs_fld ?_ ?_ ?_ ?_ ?_
  ·exact HC.cl
  ·exact HC.n_holds
  ·exact (pv 0)
  ·exact (fe_c de_int)
  ·rfl
 refine fss_cons ?_ ?_
 ·refine fs_fld ?_ ?_ ?_ ?_ ?_
  ·exact HC.cl
  ·exact HC.n_begun
  ·exact (pv 0)
  ·exact (fe_c de_non)
  ·rfl
 refine fss_cons ?_ ?_
 ·refine fs_fldnil ?_ ?_ ?_ ?_
  ·exact HC.cl
  ·exact HC.n_rows
  ·exact (pv 0)
  ·rfl
 refine fss_cons ?_ ?_
 ·refine fs_flddic ?_ ?_ ?_ ?_
  ·exact HC.cl
  ·exact HC.n_words
  ·exact (pv 0)
  ·rfl
 refine fss_one ?_
 refine fs_fldcomp (own:=["deed"]) (capN:=[]) (caps:=[]) ?_ ?_ ?_ ?_ ?_ ?_ ?_ ?_ ?_ ?_ ?_ <;> try first|rfl|exact .inl rfl|exact .inr rfl|assumption|exact fun _=>rfl
 ·exact HC.cl
 ·exact HC.n_settled
 ·exact (pv 0)
 ·exact hx.1
 ·exact (CompScope.of (own:=["deed"]) (capN:=[]) (caps:=[]))
 ·exact (fi_tup (fv 2))
 ·exact (fun _ _ _ _ _ _ hg=>⟨(fgn 0 (show ((["deed"]:List Str) ++ ([]:List Str)).Nodup from by decide +kernel)),fbs_nil,(fe_c de_int)⟩)
theorem ok_walked_holds {C:Addr} {g:Addr} {fd:FuncData} (T:Tx K mg) (HC:HCx K mg C) (D:FD K mg "walked_holds" s_walked_holds ["rows"] g fd):FnOk P w K mg base (CXM P w) 9 g fd ["rows"] (spF K mg (f_walked_holds C)):=by
 obtain ⟨g_H___init__,fd_H___init__,D_H___init__⟩:=HC.d_H___init__
 have G_H___init__:=ok_H___init__ P w base T HC D_H___init__
 obtain ⟨g_H_held,fd_H_held,D_H_held⟩:=HC.d_H_held
 have G_H_held:=ok_H_held P w base T HC D_H_held
 obtain ⟨t_ANY_ZONE,g_ANY_ZONE⟩:=T.c_ANY_ZONE
 obtain ⟨t_NO_DEEDS,g_NO_DEEDS⟩:=T.c_NO_DEEDS
 refine fn_F D.fn sc_walked_holds (by decide) ?_
 intro cdv A outer s H E F E' hr hx
 unfold m_walked_holds
 refine fss_cons ?_ ?_
 ·refine fs_setO (i:=1) ?_ ?_ ?_ ?_ ?_ ?_ <;> try first|rfl|exact .inl rfl|exact .inr rfl|assumption|exact fun _=>rfl
  ·exact sc_walked_holds.nd
  ·exact (fo_make hx (HC.make D_H___init__.mt) G_H___init__ (hr.mono (by decide)) rfl HC.mg D_H___init__.b (fa_c (fe_glob hx.1 rfl g_ANY_ZONE glob_ANY_ZONE) (fa_c (fe_glob hx.1 rfl g_NO_DEEDS glob_NO_DEEDS) fa_nil)))
 refine fss_cons ?_ ?_
 ·refine fs_setO (i:=2) ?_ ?_ ?_ ?_ ?_ ?_ <;> try first|rfl|exact .inl rfl|exact .inr rfl|assumption|exact fun _=>rfl
  ·exact sc_walked_holds.nd
  ·exact (fo_lst fa_nil)
 refine fss_cons ?_ ?_
 ·refine fs_for ?_ ?_ ?_ ?_ ?_ ?_ <;> try first|rfl|exact .inl rfl|exact .inr rfl|assumption|exact fun _=>rfl
  ·exact PassesOwn.leaving
  ·exact (fi_list (fv 0))
  ·exact (fgn 3 sc_walked_holds.nd)
  ·unfold b_walked_holds_1
   refine fss_cons ?_ ?_
   ·refine fs_set (i:=4) ?_ ?_ ?_ ?_ ?_ ?_ <;> try first|rfl|exact .inl rfl|exact .inr rfl|assumption|exact fun _=>rfl
    ·exact sc_walked_holds.nd
    ·exact (fe_frz fo_bad)
   refine fss_cons ?_ ?_
   ·refine fs_set (i:=5) ?_ ?_ ?_ ?_ ?_ ?_ <;> try first|rfl|exact .inl rfl|exact .inr rfl|assumption|exact fun _=>rfl
    ·exact sc_walked_holds.nd
    ·exact (fe_frz (fmd0 hx HC.cl G_H_held D_H_held hr (pv 1)))
   refine fss_one ?_
   refine fs_if ?_ ?_ ?_
   ·exact (fb_gt (fe_ix (fv 5) (fe_c de_int)) (fe_lenN rfl T.b_len (pv 2)))
   ·refine fss_one ?_
    refine fs_app ?_ ?_ ?_ ?_ ?_ ?_ ?_ ?_ <;> try first|rfl|exact .inl rfl|exact .inr rfl|assumption|exact fun _=>rfl
    ·exact (pv 2)
    ·exact (fe_tup (fa_c (fe_ix (fv 3) (fe_c de_int)) (fa_c (fe_ix (fv 3) (fe_c de_int)) (fa_c (fe_ix (fv 5) (fe_c de_int)) fa_nil))))
   ·refine fss_one ?_
    refine fs_if ?_ ?_ ?_
    ·exact (fb_isN (fv 4) (fe_c de_bl))
    ·refine fss_one ?_
     exact fs_bad
    ·refine fss_one ?_
     refine fs_if ?_ ?_ ?_
     ·exact (fb_isN (fv 4) (fe_c de_non))
     ·refine fss_one ?_
      exact fs_bad
     ·exact fss_nil
 refine fss_one ?_
 refine fs_mv ?_
 ·exact (pv 2)
theorem ok_lasting_holds {C:Addr} {g:Addr} {fd:FuncData} (T:Tx K mg) (HC:HCx K mg C) (D:FD K mg "lasting_holds" s_lasting_holds ["rows"] g fd):FnOk P w K mg base (CXM P w) 10 g fd ["rows"] (spF K mg (f_lasting_holds C)):=by
 obtain ⟨g_walked_holds,fd_walked_holds,D_walked_holds⟩:=T.d_walked_holds
 have G_walked_holds:=ok_walked_holds P w base T HC D_walked_holds
 refine fn_F D.fn sc_lasting_holds (by decide) ?_
 intro cdv A outer s H E F E' hr hx
 unfold m_lasting_holds
 refine fss_one ?_
 refine fs_ret ?_
 ·exact (fe_comp hx.1 (CompScope.of (own:=["hold"]) (capN:=[]) (caps:=[])) rfl rfl (fi_list (fe_frz (fcd hx G_walked_holds D_walked_holds hr (fx_v (fv 0) fx_nil)))) (fun _ _ _ _ _ _ hg=>⟨(fgn 0 (show ((["hold"]:List Str) ++ ([]:List Str)).Nodup from by decide +kernel)),(fbs_one (fb_lt (fe_ix (fv 0) (fe_c de_int)) (fe_ix (fv 0) (fe_c de_int)))),(fv 0)⟩))
theorem ok_all_holds {C:Addr} {g:Addr} {fd:FuncData} (T:Tx K mg) (HC:HCx K mg C) (D:FD K mg "all_holds" s_all_holds ["rows"] g fd):FnOk P w K mg base (CXM P w) 11 g fd ["rows"] (spF K mg (f_all_holds C)):=by
 obtain ⟨g_check_rows,fd_check_rows,D_check_rows⟩:=T.d_check_rows
 have G_check_rows:=ok_check_rows P w base T D_check_rows
 obtain ⟨g_lasting_holds,fd_lasting_holds,D_lasting_holds⟩:=T.d_lasting_holds
 have G_lasting_holds:=ok_lasting_holds P w base T HC D_lasting_holds
 refine fn_F D.fn sc_all_holds (by decide) ?_
 intro cdv A outer s H E F E' hr hx
 unfold m_all_holds
 refine fss_cons ?_ ?_
 ·refine fs_exprO ?_ ?_
  ·exact (fcd hx G_check_rows D_check_rows hr (fx_v (fv 0) fx_nil))
  ·rfl
 refine fss_one ?_
 refine fs_retO ?_
 ·exact (fcd hx G_lasting_holds D_lasting_holds hr (fx_v (fv 0) fx_nil))
theorem ok_held_by {C:Addr} {g:Addr} {fd:FuncData} (T:Tx K mg) (HC:HCx K mg C) (D:FD K mg "held_by" s_held_by ["rows"] g fd):FnOk P w K mg base (CXM P w) 11 g fd ["rows"] (spF K mg (f_held_by C)):=by
 obtain ⟨g_check_rows,fd_check_rows,D_check_rows⟩:=T.d_check_rows
 have G_check_rows:=ok_check_rows P w base T D_check_rows
 obtain ⟨g_lasting_holds,fd_lasting_holds,D_lasting_holds⟩:=T.d_lasting_holds
 have G_lasting_holds:=ok_lasting_holds P w base T HC D_lasting_holds
 refine fn_F D.fn sc_held_by (by decide) ?_
 intro cdv A outer s H E F E' hr hx
 unfold m_held_by
 refine fss_cons ?_ ?_
 ·refine fs_exprO ?_ ?_
  ·exact (fcd hx G_check_rows D_check_rows hr (fx_v (fv 0) fx_nil))
  ·rfl
 refine fss_cons ?_ ?_
 ·refine fs_setO (i:=1) ?_ ?_ ?_ ?_ ?_ ?_ <;> try first|rfl|exact .inl rfl|exact .inr rfl|assumption|exact fun _=>rfl
  ·exact sc_held_by.nd
  ·exact (fo_dnew false)
 refine fss_cons ?_ ?_
 ·refine fs_for ?_ ?_ ?_ ?_ ?_ ?_ <;> try first|rfl|exact .inl rfl|exact .inr rfl|assumption|exact fun _=>rfl
  ·exact PassesOwn.leaving
  ·exact (fi_list (fe_frz (fcd hx G_lasting_holds D_lasting_holds hr (fx_v (fv 0) fx_nil))))
  ·exact (fg_tup (n:=3) rfl (fgs_cons (fgn 2 sc_held_by.nd) (fgs_cons (fgn 3 sc_held_by.nd) (fgs_cons (fgn 4 sc_held_by.nd) fgs_nil))))
  ·unfold b_held_by_1
   refine fss_one ?_
   refine fs_dput ?_ ?_ ?_ ?_ ?_
   ·exact (hu_of hr)
   ·exact (pv 1)
   ·exact (fv 2)
   ·exact (fe_sub (fe_add (fe_dget2 (hu_of hr) (pv 1) (fv 2) (fe_c de_int)) (fv 4)) (fv 3))
   ·rfl
 refine fss_one ?_
 refine fs_ret ?_
 ·exact (fe_cb fn_sorted (de_callB TS.call_sorted n_sorted rfl T.b_sorted bt_sorted (fa_c fe_bad fa_nil)))
theorem ok_holder_at {C:Addr} {g:Addr} {fd:FuncData} (T:Tx K mg) (HC:HCx K mg C) (D:FD K mg "holder_at" s_holder_at ["rows","moment"] g fd):FnOk P w K mg base (CXM P w) 11 g fd ["rows","moment"] (spF K mg (f_holder_at C)):=by
 obtain ⟨g_check_rows,fd_check_rows,D_check_rows⟩:=T.d_check_rows
 have G_check_rows:=ok_check_rows P w base T D_check_rows
 obtain ⟨g_check_moment,fd_check_moment,D_check_moment⟩:=T.d_check_moment
 have G_check_moment:=ok_check_moment P w base T D_check_moment
 obtain ⟨g_lasting_holds,fd_lasting_holds,D_lasting_holds⟩:=T.d_lasting_holds
 have G_lasting_holds:=ok_lasting_holds P w base T HC D_lasting_holds
 refine fn_F D.fn sc_holder_at (by decide) ?_
 intro cdv A outer s H E F E' hr hx
 unfold m_holder_at
 refine fss_cons ?_ ?_
 ·refine fs_exprO ?_ ?_
  ·exact (fcd hx G_check_rows D_check_rows hr (fx_v (fv 0) fx_nil))
  ·rfl
 refine fss_cons ?_ ?_
 ·refine fs_exprO ?_ ?_
  ·exact (fcd hx G_check_moment D_check_moment hr (fx_v (fv 1) fx_nil))
  ·rfl
 refine fss_cons ?_ ?_
 ·refine fs_for ?_ ?_ ?_ ?_ ?_ ?_ <;> try first|rfl|exact .inl rfl|exact .inr rfl|assumption|exact fun _=>rfl
  ·exact PassesOwn.leaving
  ·exact (fi_list (fe_frz (fcd hx G_lasting_holds D_lasting_holds hr (fx_v (fv 0) fx_nil))))
  ·exact (fg_tup (n:=3) rfl (fgs_cons (fgn 2 sc_holder_at.nd) (fgs_cons (fgn 3 sc_holder_at.nd) (fgs_cons (fgn 4 sc_holder_at.nd) fgs_nil))))
  ·unfold b_holder_at_1
   refine fss_one ?_
   refine fs_if ?_ ?_ ?_
   ·exact (fb_lelt (fv 3) (fv 1) (fv 4))
   ·refine fss_one ?_
    refine fs_ret ?_
    ·exact (fv 2)
   ·exact fss_nil
 refine fss_one ?_
 refine fs_ret ?_
 ·exact (fe_c de_non)
theorem ok_nobody {C:Addr} {g:Addr} {fd:FuncData} (T:Tx K mg) (HC:HCx K mg C) (D:FD K mg "nobody" s_nobody ["rows","last"] g fd):FnOk P w K mg base (CXM P w) 11 g fd ["rows","last"] (spF K mg (f_nobody C)):=by
 obtain ⟨g_check_rows,fd_check_rows,D_check_rows⟩:=T.d_check_rows
 have G_check_rows:=ok_check_rows P w base T D_check_rows
 obtain ⟨g_check_moment,fd_check_moment,D_check_moment⟩:=T.d_check_moment
 have G_check_moment:=ok_check_moment P w base T D_check_moment
 obtain ⟨g_lasting_holds,fd_lasting_holds,D_lasting_holds⟩:=T.d_lasting_holds
 have G_lasting_holds:=ok_lasting_holds P w base T HC D_lasting_holds
 refine fn_F D.fn sc_nobody (by decide) ?_
 intro cdv A outer s H E F E' hr hx
 unfold m_nobody
 refine fss_cons ?_ ?_
 ·refine fs_exprO ?_ ?_
  ·exact (fcd hx G_check_rows D_check_rows hr (fx_v (fv 0) fx_nil))
  ·rfl
 refine fss_cons ?_ ?_
 ·refine fs_exprO ?_ ?_
  ·exact (fcd hx G_check_moment D_check_moment hr (fx_v (fv 1) fx_nil))
  ·rfl
 refine fss_cons ?_ ?_
 ·refine fs_setO (i:=2) ?_ ?_ ?_ ?_ ?_ ?_ <;> try first|rfl|exact .inl rfl|exact .inr rfl|assumption|exact fun _=>rfl
  ·exact sc_nobody.nd
  ·exact (fo_lst fa_nil)
 refine fss_cons ?_ ?_
 ·refine fs_set (i:=3) ?_ ?_ ?_ ?_ ?_ ?_ <;> try first|rfl|exact .inl rfl|exact .inr rfl|assumption|exact fun _=>rfl
  ·exact sc_nobody.nd
  ·exact (fe_c de_int)
 refine fss_cons ?_ ?_
 ·refine fs_set (i:=4) ?_ ?_ ?_ ?_ ?_ ?_ <;> try first|rfl|exact .inl rfl|exact .inr rfl|assumption|exact fun _=>rfl
  ·exact sc_nobody.nd
  ·exact (fe_cat (fe_frz (fcd hx G_lasting_holds D_lasting_holds hr (fx_v (fv 0) fx_nil))) (fe_lst (fa_c (fe_tup (fa_c (fe_c de_non) (fa_c (fe_add (fv 1) (fe_c de_int)) (fa_c (fe_add (fv 1) (fe_c de_int)) fa_nil)))) fa_nil)))
 refine fss_cons ?_ ?_
 ·refine fs_for ?_ ?_ ?_ ?_ ?_ ?_ <;> try first|rfl|exact .inl rfl|exact .inr rfl|assumption|exact fun _=>rfl
  ·exact PassesOwn.leaving
  ·exact (fi_list (fv 4))
  ·exact (fg_tup (n:=3) rfl (fgs_cons (fgn 5 sc_nobody.nd) (fgs_cons (fgn 6 sc_nobody.nd) (fgs_cons (fgn 7 sc_nobody.nd) fgs_nil))))
  ·unfold b_nobody_1
   refine fss_cons ?_ ?_
   ·refine fs_set (i:=8) ?_ ?_ ?_ ?_ ?_ ?_ <;> try first|rfl|exact .inl rfl|exact .inr rfl|assumption|exact fun _=>rfl
    ·exact sc_nobody.nd
    ·exact (fe_cb fn_min (de_callB (call_min2 rfl) n_min rfl T.b_min bt_min (fa_c (fe_sub (fv 6) (fe_c de_int)) (fa_c (fv 1) fa_nil))))
   refine fss_cons ?_ ?_
   ·refine fs_if ?_ ?_ ?_
    ·exact (fb_le (fv 3) (fv 8))
    ·refine fss_one ?_
     refine fs_app ?_ ?_ ?_ ?_ ?_ ?_ ?_ ?_ <;> try first|rfl|exact .inl rfl|exact .inr rfl|assumption|exact fun _=>rfl
     ·exact (pv 2)
     ·exact (fe_tup (fa_c (fv 3) (fa_c (fv 8) fa_nil)))
    ·exact fss_nil
   refine fss_one ?_
   refine fs_set (i:=3) ?_ ?_ ?_ ?_ ?_ ?_ <;> try first|rfl|exact .inl rfl|exact .inr rfl|assumption|exact fun _=>rfl
   ·exact sc_nobody.nd
   ·exact (fv 7)
 refine fss_one ?_
 refine fs_mv ?_
 ·exact (pv 2)
theorem ok__law_ask {C:Addr} {g:Addr} {fd:FuncData} (T:Tx K mg) (HC:HCx K mg C) (D:FD K mg "_law_ask" s__law_ask ["_law_what","_law_rows_here","_law_moment"] g fd):FnOk P w K mg base (CXM P w) 12 g fd ["_law_what","_law_rows_here","_law_moment"] (spF K mg (f__law_ask C)):=by
 obtain ⟨g__law_which,fd__law_which,D__law_which⟩:=T.d__law_which
 have G__law_which:=ok__law_which P w base T D__law_which
 obtain ⟨g_holder_at,fd_holder_at,D_holder_at⟩:=T.d_holder_at
 have G_holder_at:=ok_holder_at P w base T HC D_holder_at
 obtain ⟨g_nobody,fd_nobody,D_nobody⟩:=T.d_nobody
 have G_nobody:=ok_nobody P w base T HC D_nobody
 obtain ⟨g_all_holds,fd_all_holds,D_all_holds⟩:=T.d_all_holds
 have G_all_holds:=ok_all_holds P w base T HC D_all_holds
 obtain ⟨g_held_by,fd_held_by,D_held_by⟩:=T.d_held_by
 have G_held_by:=ok_held_by P w base T HC D_held_by
 obtain ⟨DE_,xt⟩:=T.xt0
 refine fn_F D.fn sc__law_ask (by decide) ?_
 intro cdv A outer s H E F E' hr hx
 unfold m__law_ask
 refine fss_one ?_
 refine fs_tryA (D:=DE_) (i:=3) ?_ ?_ ?_ ?_ ?_ ?_ ?_ ?_ ?_ ?_ <;> try first|rfl|exact .inl rfl|exact .inr rfl|assumption|exact fun _=>rfl
 ·exact sc__law_ask.nd
 ·exact hx.1
 ·intro F1 pn1 xe1 E1 hx1 hp1
  refine fss_one ?_
  refine fs_ret ?_
  ·exact (fe_if (fb_lt (fv 0) (fe_c de_int)) (fe_frz (fo_call2 hx1 G_holder_at (hr.mono (by decide)) rfl D_holder_at.mgf D_holder_at.fn.kp D_holder_at.b G_nobody (hr.mono (by decide)) rfl D_nobody.mgf D_nobody.fn.kp D_nobody.b (fv 0) (fx_v (fv 1) (fx_v (fv 2) fx_nil)))) (fe_frz (fo_call2 hx1 G_all_holds (hr.mono (by decide)) rfl D_all_holds.mgf D_all_holds.fn.kp D_all_holds.b G_held_by (hr.mono (by decide)) rfl D_held_by.mgf D_held_by.fn.kp D_held_by.b (fe_sub (fv 0) (fe_c de_int)) (fx_v (fv 1) fx_nil))))
 ·intro F1 e1 pn1 xe1 hg1
  refine fss_one ?_
  refine fs_retO ?_
  ·exact (fo_call (do_callH (xok0 hg1) G__law_which (Room.h (hr.mono (j:=1) (by decide)) _) rfl D__law_which.mgf D__law_which.fn.kp D__law_which.b (fx_s (pv 3) fx_nil)))
theorem ok_law {C:Addr} {g:Addr} {fd:FuncData} (T:Tx K mg) (HC:HCx K mg C) (D:FD K mg "law" s_law ["_law_script"] g fd):FnOk P w K mg base (CXM P w) 13 g fd ["_law_script"] (spF K mg (f_law C)):=by
 obtain ⟨g__law_rows,fd__law_rows,D__law_rows⟩:=T.d__law_rows
 have G__law_rows:=ok__law_rows P w base T D__law_rows
 obtain ⟨g__law_pick,fd__law_pick,D__law_pick⟩:=T.d__law_pick
 have G__law_pick:=ok__law_pick P w base T D__law_pick
 obtain ⟨g__law_ask,fd__law_ask,D__law_ask⟩:=T.d__law_ask
 have G__law_ask:=ok__law_ask P w base T HC D__law_ask
 refine fn_F D.fn sc_law (by decide) ?_
 intro cdv A outer s H E F E' hr hx
 unfold m_law
 refine fss_cons ?_ ?_
 ·unfold c_law_1
  refine fs_setO (i:=1) ?_ ?_ ?_ ?_ ?_ ?_ <;> try first|rfl|exact .inl rfl|exact .inr rfl|assumption|exact fun _=>rfl
  ·exact sc_law.nd
  ·exact (fo_lst fa_nil)
 refine fss_cons ?_ ?_
 ·unfold c_law_2
  refine fs_set (i:=2) ?_ ?_ ?_ ?_ ?_ ?_ <;> try first|rfl|exact .inl rfl|exact .inr rfl|assumption|exact fun _=>rfl
  ·exact sc_law.nd
  ·exact (fe_frz (fcd hx G__law_rows D__law_rows hr (fx_s (pv 0) (fx_s (pv 1) (fx_v (fe_c de_int) fx_nil)))))
 refine fss_cons ?_ ?_
 ·unfold c_law_3
  refine fs_set (i:=3) ?_ ?_ ?_ ?_ ?_ ?_ <;> try first|rfl|exact .inl rfl|exact .inr rfl|assumption|exact fun _=>rfl
  ·exact sc_law.nd
  ·exact (fe_lst (fa_c (fe_c de_non) (fa_c (fe_c de_int) (fa_c (fe_tup fa_nil) (fa_c (fe_tup (fa_c (fe_c de_str) (fa_c (fe_c de_int) (fa_c (fe_c de_int) fa_nil)))) (fa_c (fe_tup (fa_c (fe_c de_str) (fa_c (fe_c de_int) (fa_c (fe_c de_int) (fa_c (fe_c de_int) fa_nil))))) (fa_c (fe_tup (fa_c (fe_c de_str) (fa_c (fe_c de_int) (fa_c (fe_neg (fe_c de_int)) (fa_c (fe_c de_int) fa_nil))))) (fa_c (fe_tup (fa_c (fe_c de_str) (fa_c (fe_c de_int) (fa_c (fe_c de_int) (fa_c (fe_c de_int) fa_nil))))) fa_nil))))))))
 refine fss_cons ?_ ?_
 ·unfold c_law_4
  refine fs_set (i:=3) ?_ ?_ ?_ ?_ ?_ ?_ <;> try first|rfl|exact .inl rfl|exact .inr rfl|assumption|exact fun _=>rfl
  ·exact sc_law.nd
  ·exact (fe_cat (fv 3) (fe_lst (fa_c (fe_tup (fa_c (fe_c de_str) (fa_c (fe_c de_int) (fa_c (fe_c de_int) (fa_c (fe_c de_int) fa_nil))))) (fa_c (fe_tup (fa_c (fe_c de_str) (fa_c (fe_c de_int) fa_nil))) (fa_c (fe_tup (fa_c (fe_c de_str) (fa_c (fe_c de_int) (fa_c (fe_c de_int) (fa_c (fe_c de_int) fa_nil))))) (fa_c (fe_tup (fa_c (fe_c de_str) (fa_c (fe_c de_int) (fa_c (fe_c de_int) fa_nil)))) (fa_c (fe_lst (fa_c (fe_c de_str) (fa_c (fe_c de_int) (fa_c (fe_c de_int) (fa_c (fe_c de_int) fa_nil))))) fa_nil)))))))
 refine fss_cons ?_ ?_
 ·unfold c_law_5
  refine fs_set (i:=3) ?_ ?_ ?_ ?_ ?_ ?_ <;> try first|rfl|exact .inl rfl|exact .inr rfl|assumption|exact fun _=>rfl
  ·exact sc_law.nd
  ·exact (fe_cat (fv 3) (fe_lst (fa_c (fe_tup (fa_c (fe_c de_str) (fa_c (fe_c de_bl) (fa_c (fe_c de_int) (fa_c (fe_c de_int) fa_nil))))) (fa_c (fe_tup (fa_c (fe_c de_str) (fa_c (fe_c de_int) (fa_c (fe_c de_int) fa_nil)))) fa_nil))))
 refine fss_cons ?_ ?_
 ·unfold c_law_6
  refine fs_set (i:=4) ?_ ?_ ?_ ?_ ?_ ?_ <;> try first|rfl|exact .inl rfl|exact .inr rfl|assumption|exact fun _=>rfl
  ·exact sc_law.nd
  ·exact (fe_frz (fcd hx G__law_pick D__law_pick hr (fx_s (pv 0) (fx_s (pv 1) (fx_v (fe_lst (fa_c (fe_c de_non) (fa_c (fe_c de_int) (fa_c (fe_cb fn_tuple (de_callTy call_tuple_of n_tuple rfl T.b_tuple bt_tuple (fa_c (fv 2) fa_nil))) (fa_c (fe_cat (fv 2) (fe_lst (fa_c (fe_frz (fcd hx G__law_pick D__law_pick hr (fx_s (pv 0) (fx_s (pv 1) (fx_v (fv 3) fx_nil))))) fa_nil))) (fa_c (fe_c de_str) (fa_c (fe_tup fa_nil) fa_nil))))))) fx_nil)))))
 refine fss_cons ?_ ?_
 ·unfold c_law_8
  refine fs_if ?_ ?_ ?_
  ·exact (fb_ne hr.units (fe_comp hx.1 (CompScope.of (own:=["_law_what"]) (capN:=["_law_bad"]) (caps:=[4])) rfl rfl (fi_range1 (di_range1 rfl T.b_range (fa_c (fe_c de_int) fa_nil))) (fun _ _ _ _ _ _ hg=>⟨(fgn 0 (show ((["_law_what"]:List Str) ++ (["_law_bad"]:List Str)).Nodup from by decide +kernel)),fbs_nil,(fe_frz (fcd (xok0 hg) G__law_ask D__law_ask hr (fx_v (fv 0) (fx_v (fv 1) (fx_v (fe_c de_non) fx_nil)))))⟩)) (fe_rep (fe_lst (fa_c (fe_tup (fa_c (fe_c de_str) (fa_c (fe_c de_int) fa_nil))) fa_nil)) (fe_c de_int)))
  ·refine fss_one ?_
   refine fs_ret ?_
   ·exact (fe_c de_bl)
  ·exact fss_nil
 refine fss_cons ?_ ?_
 ·unfold c_law_9
  refine fs_set (i:=5) ?_ ?_ ?_ ?_ ?_ ?_ <;> try first|rfl|exact .inl rfl|exact .inr rfl|assumption|exact fun _=>rfl
  ·exact sc_law.nd
  ·exact (fe_lst (fa_c (fe_tup (fa_c (fe_c de_str) (fa_c (fe_c de_int) (fa_c (fe_c de_int) (fa_c (fe_c de_int) fa_nil))))) (fa_c (fe_tup (fa_c (fe_c de_str) (fa_c (fe_c de_int) (fa_c (fe_c de_int) fa_nil)))) fa_nil)))
 refine fss_cons ?_ ?_
 ·unfold c_law_10
  refine fs_if ?_ ?_ ?_
  ·exact (fb_ne hr.units (fe_comp hx.1 (CompScope.of (own:=["_law_what"]) (capN:=["_law_turned"]) (caps:=[5])) rfl rfl (fi_range1 (di_range1 rfl T.b_range (fa_c (fe_c de_int) fa_nil))) (fun _ _ _ _ _ _ hg=>⟨(fgn 0 (show ((["_law_what"]:List Str) ++ (["_law_turned"]:List Str)).Nodup from by decide +kernel)),fbs_nil,(fe_frz (fcd (xok0 hg) G__law_ask D__law_ask hr (fx_v (fv 0) (fx_v (fv 1) (fx_v (fe_c de_non) fx_nil)))))⟩)) (fe_rep (fe_lst (fa_c (fe_tup (fa_c (fe_c de_str) (fa_c (fe_c de_int) fa_nil))) fa_nil)) (fe_c de_int)))
  ·refine fss_one ?_
   refine fs_ret ?_
   ·exact (fe_c de_bl)
  ·exact fss_nil
 refine fss_cons ?_ ?_
 ·unfold c_law_11
  refine fs_set (i:=6) ?_ ?_ ?_ ?_ ?_ ?_ <;> try first|rfl|exact .inl rfl|exact .inr rfl|assumption|exact fun _=>rfl
  ·exact sc_law.nd
  ·exact (fe_frz (fcd hx G__law_pick D__law_pick hr (fx_s (pv 0) (fx_s (pv 1) (fx_v (fe_lst (fa_c (fe_c de_non) (fa_c (fe_neg (fe_c de_int)) (fa_c (fe_c de_int) (fa_c (fe_c de_bl) (fa_c (fe_c de_str) fa_nil)))))) fx_nil)))))
 refine fss_cons ?_ ?_
 ·unfold c_law_13
  refine fs_if ?_ ?_ ?_
  ·exact (fb_ne hr.units (fe_comp hx.1 (CompScope.of (own:=["_law_what"]) (capN:=["_law_good","_law_moment"]) (caps:=[2,6])) rfl rfl (fi_range1 (di_range1 rfl T.b_range (fa_c (fe_c de_int) fa_nil))) (fun _ _ _ _ _ _ hg=>⟨(fgn 0 (show ((["_law_what"]:List Str) ++ (["_law_good","_law_moment"]:List Str)).Nodup from by decide +kernel)),fbs_nil,(fe_frz (fcd (xok0 hg) G__law_ask D__law_ask hr (fx_v (fv 0) (fx_v (fv 1) (fx_v (fv 2) fx_nil)))))⟩)) (fe_rep (fe_lst (fa_c (fe_tup (fa_c (fe_c de_str) (fa_c (fe_c de_int) fa_nil))) fa_nil)) (fe_c de_int)))
  ·refine fss_one ?_
   refine fs_ret ?_
   ·exact (fe_c de_bl)
  ·exact fss_nil
 refine fss_one ?_
 unfold c_law_14
 refine fs_ret ?_
 ·exact (fe_and (fe_eq hr.units (fe_frz (fcd hx G__law_ask D__law_ask hr (fx_v (fe_c de_int) (fx_v (fe_lst fa_nil) (fx_v (fe_c de_non) fx_nil))))) (fe_lst fa_nil)) (fe_and (fe_eq hr.units (fe_frz (fcd hx G__law_ask D__law_ask hr (fx_v (fe_c de_int) (fx_v (fe_lst fa_nil) (fx_v (fe_c de_int) fx_nil))))) (fe_lst (fa_c (fe_tup (fa_c (fe_c de_int) (fa_c (fe_c de_int) fa_nil))) fa_nil))) (fe_one (fe_isN (fe_frz (fcd hx G__law_ask D__law_ask hr (fx_v (fe_c de_int) (fx_v (fe_lst fa_nil) (fx_v (fe_c de_int) fx_nil))))) (fe_c de_non)))))
end
end K3
namespace K3
open PySem L2 L2.L3 Due
noncomputable def isW (d:PyData) (lo hi:Int):Bool:=match d with
 | .int i=>decide (lo<=i) && decide (i<=hi)
 | _=>false
noncomputable def noD:PyData->Bool
 | .dict _=>false
 | _=>true
@[simp] theorem tab_ii:isTab "int" "int" = some true:=by decide
@[simp] theorem tab_ib:isTab "int" "bool" = some false:=by decide
@[simp] theorem tab_bi:isTab "bool" "int" = some true:=by decide
@[simp] theorem tab_bb:isTab "bool" "bool" = some true:=by decide
@[simp] theorem tab_ni:isTab "NoneType" "int" = some false:=by decide
@[simp] theorem tab_si:isTab "str" "int" = some false:=by decide
@[simp] theorem tab_li:isTab "list" "int" = some false:=by decide
@[simp] theorem tab_ti:isTab "tuple" "int" = some false:=by decide
@[simp] theorem tab_it:isTab "int" "tuple" = some false:=by decide
@[simp] theorem tab_bt:isTab "bool" "tuple" = some false:=by decide
@[simp] theorem tab_nt:isTab "NoneType" "tuple" = some false:=by decide
@[simp] theorem tab_st:isTab "str" "tuple" = some false:=by decide
@[simp] theorem tab_lt:isTab "list" "tuple" = some false:=by decide
@[simp] theorem tab_tt:isTab "tuple" "tuple" = some true:=by decide
theorem eqv_int (i j:Int):PyData.eqv (.int i) (.int j)=(i == j):=by rw [PyData.eqv]
theorem shaped_int (i:Int):SeqAt.shaped (.int i)=true:=by rfl
theorem r_is_whole {d:PyData} {lo hi:Int} (h:noD d=true):f_is_whole [.dat d,.dat (.int lo),.dat (.int hi)]=.rt (.dat (.bool (isW d lo hi))) []:=by
 cases d with
 | dict _=>cases h
 | int i=>
  by_cases h1:lo<=i
  ·simp [gEq,f_is_whole,m_is_whole,isW,h1]
  ·simp [gEq,f_is_whole,m_is_whole,isW,h1]
 | _=>simp [gEq,f_is_whole,m_is_whole,isW]
noncomputable def isT (d:PyData) (n:Int):Bool:=match d with
 | .tuple ds=>decide ((ds.length:Int)=n)
 | _=>false
theorem r_is_tuple_of {d:PyData} {n:Int} (h:noD d=true):f_is_tuple_of [.dat d,.dat (.int n)]=.rt (.dat (.bool (isT d n))) []:=by
 cases d with
 | dict _=>cases h
 | tuple ds=>simp [gEq,f_is_tuple_of,m_is_tuple_of,isT,shaped_int,eqv_int]; rfl
 | _=>simp [gEq,f_is_tuple_of,m_is_tuple_of,isT]
theorem r_is_moment {d:PyData} (h:noD d=true):f_is_moment [.dat d]=.rt (.dat (.bool (isW d 0 9999))) []:=by simp [gEq,f_is_moment,m_is_moment,r_is_whole h]
theorem r_check_moment {d:PyData} (h:noD d=true):f_check_moment [.dat d]=if isW d 0 9999=true then .rt (.dat .none) [] else .ex "NoMoment" []:=by
 simp only [f_check_moment,m_check_moment]
 cases hw:isW d 0 9999 <;> simp [gEq,r_is_moment h,hw]
end K3
namespace K3
open PySem L2 L2.L3 Due
noncomputable abbrev shD (p:Int × Int):PyData:=.tuple [.int p.1,.int p.2]
noncomputable abbrev zoneD (a:Int) (ss:Sh):PyData:=.tuple [.int a,.tuple (ss.map shD)]
@[simp] theorem at0 {x:PyData} {l:List PyData}:atI (x :: l) 0=some x:=by
 unfold atI ixN
 rw [if_pos (by omega),if_pos (by simp <;> omega)]
 rfl
@[simp] theorem at1 {x y:PyData} {l:List PyData}:atI (x :: y :: l) 1=some y:=by
 unfold atI ixN
 rw [if_pos (by omega),if_pos (by simp <;> omega)]
 rfl
@[simp] theorem atL {x:PyData} {l:List PyData}:atI (l ++ [x]) (-1)=some x:=by
 unfold atI ixN
 rw [if_neg (by omega),if_pos (by simp; omega)]
 simp
 rw [show (-1 + ((l.length:Int) + 1)).toNat=l.length by omega]
 simp
end K3
namespace K3
open PySem L2 L2.L3 Due
@[simp] theorem sz0:(0:Nat)<=sizeLine:=by decide
@[simp] theorem sz1:(1:Nat)<=sizeLine:=by decide
@[simp] theorem sz2:(2:Nat)<=sizeLine:=by decide
@[simp] theorem sz3:(3:Nat)<=sizeLine:=by decide
@[simp] theorem sz4:(4:Nat)<=sizeLine:=by decide
@[simp] theorem sz5:(5:Nat)<=sizeLine:=by decide
@[simp] theorem sz6:(6:Nat)<=sizeLine:=by decide
@[simp] theorem sz7:(7:Nat)<=sizeLine:=by decide
@[simp] theorem sz8:(8:Nat)<=sizeLine:=by decide
@[simp] theorem sz9:(9:Nat)<=sizeLine:=by decide
@[simp] theorem sz10:(10:Nat)<=sizeLine:=by decide
@[simp] theorem sz11:(11:Nat)<=sizeLine:=by decide
@[simp] theorem sz12:(12:Nat)<=sizeLine:=by decide
@[simp] theorem sz13:(13:Nat)<=sizeLine:=by decide
@[simp] theorem sz14:(14:Nat)<=sizeLine:=by decide
end K3
namespace K3
open PySem L2 L2.L3 Due
theorem r_cell {ns:List Int} {k:Int} (hn:ns.length<=63) (hk:0<=k):∃ v,f__law_cell_at [.scr ns,.dat (.int k)]=.rt (.dat (.int v)) []:=by
 by_cases h:k < ns.length
 ·have:∃ v,atI ns k=some v:=by
   unfold atI ixN
   rw [if_pos hk,if_pos h]
   exact ⟨ns[k.toNat]'(by omega),by simp⟩
  obtain ⟨v,hv⟩:=this
  exact ⟨v,by simp [gEq,f__law_cell_at,m__law_cell_at,hn,h,hv]⟩
 ·by_cases h0:ns=[]
  ·subst h0
   exact ⟨0,by simp [gEq,f__law_cell_at,m__law_cell_at] at h ⊢; simp [gEq,show ¬ k < 0 by omega]⟩
  ·have hp:0 < (ns.length:Int):=by
    have:=List.length_pos_iff.mpr h0
    omega
   have:∃ v,atI ns (k % ns.length)=some v:=by
    have h1:=Int.emod_nonneg k (show (ns.length:Int) ≠ 0 by omega)
    have h2:=Int.emod_lt_of_pos k hp
    unfold atI ixN
    rw [if_pos h1,if_pos h2]
    exact ⟨ns[(k % ns.length).toNat]'(by omega),by simp⟩
   obtain ⟨v,hv⟩:=this
   exact ⟨v * 31 + k,by simp [gEq,f__law_cell_at,m__law_cell_at,hn,h,h0,hv,cMod,cMul,List.length_pos_iff.mpr h0]⟩
theorem r_mixed {ns:List Int} {k many:Int} (hn:ns.length<=63) (hk:0<=k) (hm:0 < many):∃ v,0<=v/\v < many/\f__law_mixed [.scr ns,.dat (.int k),.dat (.int many)]=.rt (.dat (.int v)) []:=by
 obtain ⟨v,hv⟩:=r_cell (k:=k) hn hk
 generalize hd:(v * 1103515245 + 7919 * k + 12345) % 2147483647=dr
 have d1:0<=dr:=by omega
 have d2:dr < 2147483647:=by omega
 refine ⟨dr ^ 5 % 2147483647 % 999983 % many,Int.emod_nonneg _ (by omega),Int.emod_lt_of_pos _ hm,?_⟩
 simp [gEq,f__law_mixed,m__law_mixed,hv,cMul,cMod,cPow,hd,hm,show dr.natAbs < 18446744073709551616 by omega]
theorem r_draw {ns:List Int} {many:Int} {t:List PyData} (hn:ns.length<=63) (ht:t.length < 1000) (hm:0 < many):∃ v,0<=v/\v < many/\f__law_draw [.scr ns,.own true (.l t),.dat (.int many)]=.rt (.dat (.int v)) [.l (t ++ [.int 0])]:=by
 have sz:1000 < sizeLine:=by decide
 obtain ⟨v,h1,h2,h3⟩:=r_mixed (k:=((t ++ [PyData.int 0]).length:Int)) hn (by omega) hm
 refine ⟨v,h1,h2,?_⟩
 simp at h3
 simp [gEq,f__law_draw,m__law_draw,show t.length < sizeLine by omega,h3]
theorem r_pick {ns:List Int} {ds t:List PyData} (hn:ns.length<=63) (ht:t.length < 1000) (hd:ds ≠ []) (hl:ds.length<=1000):∃ d ∈ ds,f__law_pick [.scr ns,.own true (.l t),.dat (.list ds)]=.rt (.dat d) [.l (t ++ [.int 0])]:=by
 have hp:=List.length_pos_iff.mpr hd
 obtain ⟨v,h1,h2,h3⟩:=r_draw (many:=ds.length) hn ht (by omega)
 have:atI ds v=some (ds[v.toNat]'(by omega)):=by
  unfold atI ixN
  rw [if_pos h1,if_pos h2]
  simp
 refine ⟨ds[v.toNat]'(by omega),List.getElem_mem _,?_⟩
 simp [gEq,f__law_pick,m__law_pick,h3,this]
end K3
namespace K3
open PySem L2 L2.L3 Due
theorem eq_self {d:PyData} (h:SeqAt.shaped d=true):gEq false d d=some (.bool true):=by simp [gEq,h,eqv_shaped h]
theorem ne_self {d:PyData} (h:SeqAt.shaped d=true):gEq true d d=some (.bool false):=by simp [gEq,h,eqv_shaped h]
theorem eq_int (i j:Int):gEq false (.int i) (.int j)=some (.bool (decide (i=j))):=by
 by_cases h:i=j
 ·subst h; simp [eq_self (shaped_int i)]
 ·simp [gEq,shaped_int,eqv_int,h]
theorem w_moment:f__law_which [.exc "NoMoment"]=.rt (.dat (.tuple [.str "refused",.int 2])) []:=by kernel_rfl
end K3
namespace K3
open PySem L2 L2.L3 Due
theorem then_nx {m k:SM} {ρ ρ':DEnv} (h:m ρ=.nx ρ'):sThen m k ρ=k ρ':=by simp [h]
theorem eqv_str (i j:Str):PyData.eqv (.str i) (.str j)=(i == j):=by rw [PyData.eqv]
theorem shaped_str {x:Str} (h:PyData.strOk x=true):SeqAt.shaped (.str x)=true:=by
 unfold SeqAt.shaped
 simp [PyData.canLay0,PyData.depth,h]
theorem eq_str {x y:Str} (hx:PyData.strOk x=true) (hy:PyData.strOk y=true):gEq false (.str x) (.str y)=some (.bool (x == y)):=by simp [gEq,shaped_str hx,shaped_str hy,eqv_str]
@[simp] theorem tab_ss:isTab "str" "str" = some true:=by decide
noncomputable abbrev planD:Plan->PyData
 | .once m=>.tuple [.str "once",.int m]
 | .every f s=>.tuple [.str "every",.int f,.int s]
 | .daily h=>.tuple [.str "daily",.int h]
@[simp] theorem at2 {x y w:PyData} {l:List PyData}:atI (x :: y :: w :: l) 2=some w:=by
 unfold atI ixN
 rw [if_pos (by omega),if_pos (by simp <;> omega)]
 rfl
theorem r_has_word {x w:Str} {rest:List PyData} {n:Int} (hx:PyData.strOk x=true) (hw:PyData.strOk w=true):f_has_word [.dat (.tuple (.str x :: rest)),.dat (.str w),.dat (.int n)]=.rt (.dat (.bool (decide (((rest.length + 1:Nat):Int)=n) && (x == w)))) []:=by
 by_cases h:(((rest.length + 1:Nat):Int)=n)
 ·simp [f_has_word,m_has_word,r_is_tuple_of (d:=.tuple (.str x :: rest)) rfl,isT,eq_str hx hw]
  simp at h
  simp [h]
 ·simp [f_has_word,m_has_word,r_is_tuple_of (d:=.tuple (.str x :: rest)) rfl,isT,eq_str hx hw]
  simp at h
  simp [h]
end K3
namespace K3
open PySem L2 L2.L3 Due
noncomputable def IsT (o:OutS):Prop:=∃ x r,o=.rt (.dat (.bool true)) (x :: r)
theorem law_step {m k:SM} {ρ ρ':DEnv} (h:m ρ=.nx ρ') (q:IsT (k ρ')):IsT (sThen m k ρ):=by rw [then_nx h]; exact q
theorem law_end {m:SM} {n:Nat} {ns:List Int} (h:IsT (m (some (.scr ns) :: List.replicate n none))):fnM 1 (n + 1) m [.scr ns]=.rt (.dat (.bool true)) []:=by
 obtain ⟨x,r,e⟩:=h
 simp [e]
theorem intsFrom_succ (i:Int) (r:Nat):L3.intsFrom i (r + 1)=.int i :: L3.intsFrom (i + 1) r:=by
 unfold L3.intsFrom
 rw [List.range_succ_eq_map,List.map_cons,List.map_map]
 congr 1
 ·simp
 ·apply List.map_congr_left
  intro k _
  simp
  omega
end K3
namespace K3
open PySem L2 L2.L3 Due
theorem w_holds:f__law_which [.exc "NoHolds"]=.rt (.dat (.tuple [.str "refused",.int 13])) []:=by kernel_rfl
end K3
namespace K3
open PySem L2 L2.L3 Due
inductive Late where
 | all | last | within (n:Int)
structure Deed where
 plan:Plan
 late:Late
 again:Bool
noncomputable abbrev lateD:Late->PyData
 | .all=>.str "all"
 | .last=>.str "last"
 | .within n=>.tuple [.str "within",.int n]
noncomputable abbrev deedD (d:Deed):PyData:=.tuple [planD d.plan,lateD d.late,.bool d.again]
@[irreducible] noncomputable def deedsD (ds:List Deed):PyData:=.tuple (ds.map deedD)
noncomputable def oInt:Option Int->PyData
 | none=>.none
 | some i=>.int i
noncomputable def oBeg:Option (Nat × Nat × Int)->PyData
 | none=>.none
 | some (d,c,h)=>.tuple [.int d,.int c,.int h]
inductive Wd where
 | begun | done | left | unsure
deriving DecidableEq
noncomputable abbrev wdS:Wd->Str
 | .begun=>"begun"
 | .done=>"done"
 | .left=>"left"
 | .unsure=>"unsure"
structure Row where
 mo:Int
 ru:Int
 wd:Wd
 dd:Nat
 ct:Nat
noncomputable abbrev hrowD (r:Row):PyData:=.tuple [.int r.mo,.int r.ru,.str (wdS r.wd),.int r.dd,.int r.ct]
noncomputable abbrev natD (n:Nat):PyData:=.int n
noncomputable def wordsD (ws:List ((Nat × Nat) × Wd)):List (PyData × PyData):=ws.map fun p=>(.tuple [natD p.1.1,natD p.1.2],.str (wdS p.2))
structure Hl where
 a:Int
 ss:Sh
 ds:List Deed
 last:Option Int
 holder:Option Int
 til:Int
 holds:Int
 begun:Option (Nat × Nat × Int)
 rows:List Row
 words:List ((Nat × Nat) × Wd)
 settled:List Nat
@[irreducible] noncomputable def flds (S:Hl):List (Str × Fl):=[("zone",.d (zoneD S.a S.ss)),("deeds",.d (deedsD S.ds)),("last",.d (oInt S.last)),("holder",.d (oInt S.holder)),("until",.d (.int S.til)),("holds",.d (.int S.holds)),("begun",.d (oBeg S.begun)),("rows",.l (S.rows.map hrowD)),("words",.m true (wordsD S.words)),("settled",.l (S.settled.map natD))]
noncomputable abbrev hB (C:Addr) (S:Hl):Bx:=.o C (flds S)
@[simp] theorem lk_zone (S:Hl):List.lookup ("zone":Str) (flds S)=some (.d (zoneD S.a S.ss)):=by unfold flds; kernel_rfl
@[simp] theorem lk_deeds (S:Hl):List.lookup ("deeds":Str) (flds S)=some (.d (deedsD S.ds)):=by unfold flds; kernel_rfl
@[simp] theorem lk_last (S:Hl):List.lookup ("last":Str) (flds S)=some (.d (oInt S.last)):=by unfold flds; kernel_rfl
@[simp] theorem lk_holder (S:Hl):List.lookup ("holder":Str) (flds S)=some (.d (oInt S.holder)):=by unfold flds; kernel_rfl
@[simp] theorem lk_until (S:Hl):List.lookup ("until":Str) (flds S)=some (.d (.int S.til)):=by unfold flds; kernel_rfl
@[simp] theorem lk_holds (S:Hl):List.lookup ("holds":Str) (flds S)=some (.d (.int S.holds)):=by unfold flds; kernel_rfl
@[simp] theorem lk_begun (S:Hl):List.lookup ("begun":Str) (flds S)=some (.d (oBeg S.begun)):=by unfold flds; kernel_rfl
@[simp] theorem lk_rows (S:Hl):List.lookup ("rows":Str) (flds S)=some (.l (S.rows.map hrowD)):=by unfold flds; kernel_rfl
@[simp] theorem lk_words (S:Hl):List.lookup ("words":Str) (flds S)=some (.m true (wordsD S.words)):=by unfold flds; kernel_rfl
@[simp] theorem lk_settled (S:Hl):List.lookup ("settled":Str) (flds S)=some (.l (S.settled.map natD)):=by unfold flds; kernel_rfl
@[simp] theorem lk_m_is_held (S:Hl):List.lookup ("is_held":Str) (flds S)=none:=by unfold flds; kernel_rfl
@[simp] theorem lk_m_check_call (S:Hl):List.lookup ("check_call":Str) (flds S)=none:=by unfold flds; kernel_rfl
@[simp] theorem lk_m_check_holder (S:Hl):List.lookup ("check_holder":Str) (flds S)=none:=by unfold flds; kernel_rfl
@[simp] theorem lk_m_take (S:Hl):List.lookup ("take":Str) (flds S)=none:=by unfold flds; kernel_rfl
@[simp] theorem lk_m_give (S:Hl):List.lookup ("give":Str) (flds S)=none:=by unfold flds; kernel_rfl
@[simp] theorem lk_m_add_row (S:Hl):List.lookup ("add_row":Str) (flds S)=none:=by unfold flds; kernel_rfl
@[simp] theorem lk_m_is_busy (S:Hl):List.lookup ("is_busy":Str) (flds S)=none:=by unfold flds; kernel_rfl
@[simp] theorem lk_m_first_unsettled (S:Hl):List.lookup ("first_unsettled":Str) (flds S)=none:=by unfold flds; kernel_rfl
@[simp] theorem lk_m_step (S:Hl):List.lookup ("step":Str) (flds S)=none:=by unfold flds; kernel_rfl
@[simp] theorem lk_m_step_behind_a_fall (S:Hl):List.lookup ("step_behind_a_fall":Str) (flds S)=none:=by unfold flds; kernel_rfl
@[simp] theorem lk_m_step_ahead (S:Hl):List.lookup ("step_ahead":Str) (flds S)=none:=by unfold flds; kernel_rfl
@[simp] theorem lk_m_finish (S:Hl):List.lookup ("finish":Str) (flds S)=none:=by unfold flds; kernel_rfl
@[simp] theorem lk_m_state (S:Hl):List.lookup ("state":Str) (flds S)=none:=by unfold flds; kernel_rfl
@[simp] theorem lk_m_held (S:Hl):List.lookup ("held":Str) (flds S)=none:=by unfold flds; kernel_rfl
@[simp] theorem lk_m_log (S:Hl):List.lookup ("log":Str) (flds S)=none:=by unfold flds; kernel_rfl
@[simp] theorem lk_m_waiting (S:Hl):List.lookup ("waiting":Str) (flds S)=none:=by unfold flds; kernel_rfl
@[simp] theorem lk_m_saved (S:Hl):List.lookup ("saved":Str) (flds S)=none:=by unfold flds; kernel_rfl
@[simp] theorem len_flds (S:Hl):(flds S).length=10:=by unfold flds; kernel_rfl
theorem put_last (S:Hl) (x:Option Int):putFl ("last":Str) (.d (oInt x)) (flds S)=flds { S with last:=x }:=by unfold flds; kernel_rfl
theorem put_holder (S:Hl) (x:Option Int):putFl ("holder":Str) (.d (oInt x)) (flds S)=flds { S with holder:=x }:=by unfold flds; kernel_rfl
theorem put_until (S:Hl) (x:Int):putFl ("until":Str) (.d (.int x)) (flds S)=flds { S with til:=x }:=by unfold flds; kernel_rfl
theorem put_holds (S:Hl) (x:Int):putFl ("holds":Str) (.d (.int x)) (flds S)=flds { S with holds:=x }:=by unfold flds; kernel_rfl
theorem put_begun (S:Hl) (x:Option (Nat × Nat × Int)):putFl ("begun":Str) (.d (oBeg x)) (flds S)=flds { S with begun:=x }:=by unfold flds; kernel_rfl
@[simp] theorem put_last0 (S:Hl):putFl ("last":Str) (.d .none) (flds S)=flds { S with last:=none }:=put_last S none
@[simp] theorem put_last1 (S:Hl) (i:Int):putFl ("last":Str) (.d (.int i)) (flds S)=flds { S with last:=some i }:=put_last S (some i)
@[simp] theorem put_holder0 (S:Hl):putFl ("holder":Str) (.d .none) (flds S)=flds { S with holder:=none }:=put_holder S none
@[simp] theorem put_holder1 (S:Hl) (i:Int):putFl ("holder":Str) (.d (.int i)) (flds S)=flds { S with holder:=some i }:=put_holder S (some i)
@[simp] theorem put_until1 (S:Hl) (i:Int):putFl ("until":Str) (.d (.int i)) (flds S)=flds { S with til:=i }:=put_until S i
@[simp] theorem put_holds1 (S:Hl) (i:Int):putFl ("holds":Str) (.d (.int i)) (flds S)=flds { S with holds:=i }:=put_holds S i
@[simp] theorem put_begun0 (S:Hl):putFl ("begun":Str) (.d .none) (flds S)=flds { S with begun:=none }:=put_begun S none
@[simp] theorem put_begun1 (S:Hl) (d c:Nat) (h:Int):putFl ("begun":Str) (.d (.tuple [.int d,.int c,.int h])) (flds S)=flds { S with begun:=some (d,c,h) }:=put_begun S (some (d,c,h))
section
variable {C:Addr} {io:Bool} {S:Hl} {ρ:DEnv}
@[simp] theorem asIo0 {fs:List (Str × Fl)}:asIo C (some (.own io (.o C fs)) :: ρ) 0=some (io,fs):=by simp [asIo]
@[simp] theorem asIo2 {x y:Option Cell} {fs:List (Str × Fl)}:asIo C (x :: y :: some (.own io (.o C fs)) :: ρ) 2=some (io,fs):=by simp [asIo]
@[simp] theorem xFld0 {f:Str} {d:PyData} {fs:List (Str × Fl)} (h:fs.lookup f=some (.d d)):xFld C 0 f (some (.own io (.o C fs)) :: ρ)=.ok d (some (.own io (.o C fs)) :: ρ):=by simp [xFld,h]
@[simp] theorem isN0:isNone .none=true:=by simp only [isNone]
@[simp] theorem isN1 (i:Int):isNone (.int i)=false:=by simp only [isNone]
@[simp] theorem isN2 (b:Bool):isNone (.bool b)=false:=by simp only [isNone]
@[simp] theorem isN3 (x:Str):isNone (.str x)=false:=by simp only [isNone]
@[simp] theorem isN4 (l:List PyData):isNone (.tuple l)=false:=by simp only [isNone]
@[simp] theorem isN5 (l:List PyData):isNone (.list l)=false:=by simp only [isNone]
@[simp] theorem isNone_oInt (x:Option Int):isNone (oInt x)=x.isNone:=by cases x <;> simp [oInt]
@[simp] theorem isNone_oBeg (x:Option (Nat × Nat × Int)):isNone (oBeg x)=x.isNone:=by rcases x with _ | ⟨_,_,_⟩ <;> simp [oBeg]
end
end K3
namespace K3
open PySem L2 L2.L3 Due
theorem r_is_runner {d:PyData} (h:noD d=true):f_is_runner [.dat d]=.rt (.dat (.bool (isW d 0 3))) []:=by simp [gEq,f_is_runner,m_is_runner,r_is_whole h]
theorem r_is_term {d:PyData} (h:noD d=true):f_is_term [.dat d]=.rt (.dat (.bool (isW d 1 99))) []:=by simp [gEq,f_is_term,m_is_term,r_is_whole h]
section
variable {C:Addr} {S:Hl} {r m:Int} {d:PyData}
end
end K3
namespace K3
open PySem L2 L2.L3 Due
@[irreducible] noncomputable def fl0 (z d:PyData):List (Str × Fl):=[]
@[irreducible] noncomputable def fl1 (z d:PyData):List (Str × Fl):=[("zone",.d z)]
@[irreducible] noncomputable def fl2 (z d:PyData):List (Str × Fl):=[("zone",.d z),("deeds",.d d)]
@[irreducible] noncomputable def fl3 (z d:PyData):List (Str × Fl):=[("zone",.d z),("deeds",.d d),("last",.d .none)]
@[irreducible] noncomputable def fl4 (z d:PyData):List (Str × Fl):=[("zone",.d z),("deeds",.d d),("last",.d .none),("holder",.d .none)]
@[irreducible] noncomputable def fl5 (z d:PyData):List (Str × Fl):=[("zone",.d z),("deeds",.d d),("last",.d .none),("holder",.d .none),("until",.d (.int 0))]
@[irreducible] noncomputable def fl6 (z d:PyData):List (Str × Fl):=[("zone",.d z),("deeds",.d d),("last",.d .none),("holder",.d .none),("until",.d (.int 0)),("holds",.d (.int 0))]
@[irreducible] noncomputable def fl7 (z d:PyData):List (Str × Fl):=[("zone",.d z),("deeds",.d d),("last",.d .none),("holder",.d .none),("until",.d (.int 0)),("holds",.d (.int 0)),("begun",.d .none)]
@[irreducible] noncomputable def fl8 (z d:PyData):List (Str × Fl):=[("zone",.d z),("deeds",.d d),("last",.d .none),("holder",.d .none),("until",.d (.int 0)),("holds",.d (.int 0)),("begun",.d .none),("rows",.l [])]
@[irreducible] noncomputable def fl9 (z d:PyData):List (Str × Fl):=[("zone",.d z),("deeds",.d d),("last",.d .none),("holder",.d .none),("until",.d (.int 0)),("holds",.d (.int 0)),("begun",.d .none),("rows",.l []),("words",.m true [])]
@[simp] theorem lk0 (z d:PyData):List.lookup ("zone":Str) (fl0 z d)=none:=by unfold fl0; kernel_rfl
@[simp] theorem ln0 (z d:PyData):(fl0 z d).length=0:=by unfold fl0; kernel_rfl
@[simp] theorem pt0 (z d:PyData):putFl ("zone":Str) (.d z) (fl0 z d)=fl1 z d:=by unfold fl0 fl1; kernel_rfl
@[simp] theorem lk1 (z d:PyData):List.lookup ("deeds":Str) (fl1 z d)=none:=by unfold fl1; kernel_rfl
@[simp] theorem ln1 (z d:PyData):(fl1 z d).length=1:=by unfold fl1; kernel_rfl
@[simp] theorem pt1 (z d:PyData):putFl ("deeds":Str) (.d d) (fl1 z d)=fl2 z d:=by unfold fl1 fl2; kernel_rfl
@[simp] theorem lk2 (z d:PyData):List.lookup ("last":Str) (fl2 z d)=none:=by unfold fl2; kernel_rfl
@[simp] theorem ln2 (z d:PyData):(fl2 z d).length=2:=by unfold fl2; kernel_rfl
@[simp] theorem pt2 (z d:PyData):putFl ("last":Str) (.d .none) (fl2 z d)=fl3 z d:=by unfold fl2 fl3; kernel_rfl
@[simp] theorem lk3 (z d:PyData):List.lookup ("holder":Str) (fl3 z d)=none:=by unfold fl3; kernel_rfl
@[simp] theorem ln3 (z d:PyData):(fl3 z d).length=3:=by unfold fl3; kernel_rfl
@[simp] theorem pt3 (z d:PyData):putFl ("holder":Str) (.d .none) (fl3 z d)=fl4 z d:=by unfold fl3 fl4; kernel_rfl
@[simp] theorem lk4 (z d:PyData):List.lookup ("until":Str) (fl4 z d)=none:=by unfold fl4; kernel_rfl
@[simp] theorem ln4 (z d:PyData):(fl4 z d).length=4:=by unfold fl4; kernel_rfl
@[simp] theorem pt4 (z d:PyData):putFl ("until":Str) (.d (.int 0)) (fl4 z d)=fl5 z d:=by unfold fl4 fl5; kernel_rfl
@[simp] theorem lk5 (z d:PyData):List.lookup ("holds":Str) (fl5 z d)=none:=by unfold fl5; kernel_rfl
@[simp] theorem ln5 (z d:PyData):(fl5 z d).length=5:=by unfold fl5; kernel_rfl
@[simp] theorem pt5 (z d:PyData):putFl ("holds":Str) (.d (.int 0)) (fl5 z d)=fl6 z d:=by unfold fl5 fl6; kernel_rfl
@[simp] theorem lk6 (z d:PyData):List.lookup ("begun":Str) (fl6 z d)=none:=by unfold fl6; kernel_rfl
@[simp] theorem ln6 (z d:PyData):(fl6 z d).length=6:=by unfold fl6; kernel_rfl
@[simp] theorem pt6 (z d:PyData):putFl ("begun":Str) (.d .none) (fl6 z d)=fl7 z d:=by unfold fl6 fl7; kernel_rfl
@[simp] theorem lk7 (z d:PyData):List.lookup ("rows":Str) (fl7 z d)=none:=by unfold fl7; kernel_rfl
@[simp] theorem ln7 (z d:PyData):(fl7 z d).length=7:=by unfold fl7; kernel_rfl
@[simp] theorem pt7 (z d:PyData):putFl ("rows":Str) (.l []) (fl7 z d)=fl8 z d:=by unfold fl7 fl8; kernel_rfl
@[simp] theorem lk8 (z d:PyData):List.lookup ("words":Str) (fl8 z d)=none:=by unfold fl8; kernel_rfl
@[simp] theorem ln8 (z d:PyData):(fl8 z d).length=8:=by unfold fl8; kernel_rfl
@[simp] theorem pt8 (z d:PyData):putFl ("words":Str) (.m true []) (fl8 z d)=fl9 z d:=by unfold fl8 fl9; kernel_rfl
@[simp] theorem lk9 (z d:PyData):List.lookup ("settled":Str) (fl9 z d)=none:=by unfold fl9; kernel_rfl
@[simp] theorem ln9 (z d:PyData):(fl9 z d).length=9:=by unfold fl9; kernel_rfl
noncomputable def newH (a:Int) (ss:Sh) (ds:List Deed):Hl:=⟨a,ss,ds,none,none,0,0,none,[],[],List.replicate ds.length 0⟩
theorem pt9 (a:Int) (ss:Sh) (ds:List Deed):putFl ("settled":Str) (.l ((List.replicate ds.length (0:Nat)).map natD)) (fl9 (zoneD a ss) (deedsD ds))=flds (newH a ss ds):=by unfold fl9 flds newH; kernel_rfl
theorem zeros_go {C:Addr}:∀ (l ys:List PyData) (ρ:DEnv),(∃ x,ρ=[x])->ys.length + l.length<=sizeLine->compGo (gNm 0) bTrue (e_H___init___1 C) l ys ρ=some (ys ++ (List.replicate l.length (0:Nat)).map natD)
 | [],ys,ρ,_,_=>by simp [compGo]
 | d :: l,ys,ρ,⟨x,hx⟩,hl=>by
  subst hx
  simp only [List.length_cons] at hl
  have ih:=zeros_go (C:=C) l (ys ++ [.int 0]) [some (.dat d)] ⟨_,rfl⟩ (by simp; omega)
  have he:e_H___init___1 C [some (.dat d)]=.ok (.int 0) [some (.dat d)]:=by simp [e_H___init___1]
  rw [compGo]
  simp [bTrue,he,show ys.length < sizeLine by omega,ih,List.replicate_succ]
theorem r_init {C:Addr} {a:Int} {ss:Sh} {ds:List Deed} (hz:f_check_zone [.dat (zoneD a ss)]=.rt (.dat .none) []) (hd:f_check_deeds [.dat (deedsD ds)]=.rt (.dat .none) []) (hl:ds.length<=6):f_H___init__ C [.own true (.o C []),.dat (zoneD a ss),.dat (deedsD ds)]=.rt (.dat .none) [hB C (newH a ss ds)]:=by
 have sz:1000 < sizeLine:=by decide
 have e0:([]:List (Str × Fl))=fl0 (zoneD a ss) (deedsD ds):=by unfold fl0; rfl
 have g:=zeros_go (C:=C) (ds.map deedD) [] [none] ⟨_,rfl⟩ (by simp; omega)
 rw [List.nil_append,List.length_map] at g
 have ed:deedsD ds=.tuple (ds.map deedD):=by unfold deedsD; rfl
 have p9:=pt9 a ss ds
 rw [e0]
 simp [f_H___init__,m_H___init__,hz,hd,sFldF,fldK,plainFl,sFldNew,sFldCmp,fldCmpK]
 rw [ed] at *
 simp [g,show ds.length<=sizeLine by omega] at p9 ⊢
 exact p9
end K3
namespace K3
open PySem L2 L2.L3 Due
@[simp] theorem tab_ts:isTab "tuple" "str" = some false:=by decide
@[simp] theorem tab_tb:isTab "tuple" "bool" = some false:=by decide
@[simp] theorem tab_tl:isTab "tuple" "list" = some false:=by decide
@[simp] theorem tab_ls:isTab "list" "str" = some false:=by decide
@[simp] theorem tab_lb:isTab "list" "bool" = some false:=by decide
@[simp] theorem tab_ll:isTab "list" "list" = some true:=by decide
@[simp] theorem tab_ns:isTab "NoneType" "str" = some false:=by decide
@[simp] theorem tab_nb:isTab "NoneType" "bool" = some false:=by decide
@[simp] theorem tab_nl:isTab "NoneType" "list" = some false:=by decide
@[simp] theorem tab_is:isTab "int" "str" = some false:=by decide
@[simp] theorem tab_il:isTab "int" "list" = some false:=by decide
@[simp] theorem tab_bs:isTab "bool" "str" = some false:=by decide
@[simp] theorem tab_bl:isTab "bool" "list" = some false:=by decide
@[simp] theorem tab_sb:isTab "str" "bool" = some false:=by decide
@[simp] theorem tab_sl:isTab "str" "list" = some false:=by decide
section
variable {C:Addr} {S S':Hl} {d q r m t:PyData} {c:Str}
end
end K3
namespace K3
open PySem L2 L2.L3 Due
inductive Ro where
 | take (r m t:Int) | give (r m:Int)
noncomputable def Ro.mo:Ro->Int
 | .take _ m _=>m
 | .give _ m=>m
noncomputable def roD:Ro->PyData
 | .take r m t=>.tuple [.str "take",.int r,.int m,.int t]
 | .give r m=>.tuple [.str "give",.int r,.int m]
noncomputable def RoOk:Ro->Prop
 | .take r m t=>(0<=r/\r<=3)/\(0<=m/\m<=9999)/\1<=t/\t<=99
 | .give r m=>(0<=r/\r<=3)/\0<=m/\m<=9999
theorem ok_take':PyData.strOk "take" = true:=by decide +kernel
theorem ok_give':PyData.strOk "give" = true:=by decide +kernel
theorem q_tt':(("take":Str) == ("take":Str))=true:=by decide +kernel
theorem q_gt':(("give":Str) == ("take":Str))=false:=by decide +kernel
theorem q_gg':(("give":Str) == ("give":Str))=true:=by decide +kernel
theorem r_is_row {x:Ro} (ok:RoOk x):f_is_row [.dat (roD x)]=.rt (.dat (.bool true)) []:=by
 cases x with
 | take r m t=>
  obtain ⟨⟨r1,r2⟩,⟨m1,m2⟩,t1,t2⟩:=ok
  have h:=r_has_word (x:="take") (w:="take") (rest:=[.int r,.int m,.int t]) (n:=4) ok_take' ok_take'
  simp [f_is_row,m_is_row,roD,h,q_tt',r_is_runner (d:=.int r) rfl,r_is_moment (d:=.int m) rfl,r_is_term (d:=.int t) rfl,isW,r1,r2,m1,m2,t1,t2,atI,ixN]
 | give r m=>
  obtain ⟨⟨r1,r2⟩,m1,m2⟩:=ok
  have h:=r_has_word (x:="give") (w:="take") (rest:=[.int r,.int m]) (n:=4) ok_give' ok_take'
  have h':=r_has_word (x:="give") (w:="give") (rest:=[.int r,.int m]) (n:=3) ok_give' ok_give'
  simp [f_is_row,m_is_row,roD,h,h',q_gt',q_gg',r_is_runner (d:=.int r) rfl,r_is_moment (d:=.int m) rfl,isW,r1,r2,m1,m2,atI,ixN]
theorem ro_mo (x:Ro):gIxA (roD x) (.int 2)=some (.int x.mo):=by cases x <;> rfl
noncomputable def Up:Int->List Ro->Prop
 | _,[]=>True
 | l,x :: xs=>RoOk x/\l<=x.mo/\Up x.mo xs
theorem rows_go {z0:Option Cell}:∀ (xs:List Ro) (l:Int) (x2:Option Cell),Up l xs->∃ l' y2,forGo (gNm 2) b_check_rows_1 (xs.map roD) [z0,some (.dat (.int l)),x2]=.nx [z0,some (.dat (.int l')),y2]
 | [],l,x2,_=>⟨l,x2,by simp [forGo]⟩
 | x :: xs,l,x2,⟨ok,hl,up⟩=>by
  obtain ⟨l',y2,ih⟩:=rows_go (z0:=z0) xs x.mo (some (.dat (roD x))) up
  refine ⟨l',y2,?_⟩
  have b:b_check_rows_1 [z0,some (.dat (.int l)),some (.dat (roD x))]=.nx [z0,some (.dat (.int x.mo)),some (.dat (roD x))]:=by
   simp [-gIxA,b_check_rows_1,r_is_row ok,ro_mo,show ¬ x.mo < l by omega]
  rw [List.map_cons,forGo,<-ih]
  simp only [gNm,List.length_cons,List.set_cons_succ,List.set_cons_zero,b]
theorem rows_bad {z0:Option Cell} {o:PyData} (ho:f_is_row [.dat o]=.rt (.dat (.bool false)) []):∀ (xs:List Ro) (l:Int) (x2:Option Cell),Up l xs->∃ ρ,forGo (gNm 2) b_check_rows_1 (xs.map roD ++ [o]) [z0,some (.dat (.int l)),x2]=.ex "NoHolds" (z0 :: ρ)
 | [],l,x2,_=>⟨[some (.dat (.int l)),some (.dat o)],by
  have b:b_check_rows_1 [z0,some (.dat (.int l)),some (.dat o)]=.ex "NoHolds" [z0,some (.dat (.int l)),some (.dat o)]:=by simp [b_check_rows_1,ho]
  rw [List.map_nil,List.nil_append,forGo]
  simp only [gNm,List.length_cons,List.set_cons_succ,List.set_cons_zero,b]⟩
 | x :: xs,l,x2,⟨ok,hl,up⟩=>by
  obtain ⟨ρ,ih⟩:=rows_bad (z0:=z0) ho xs x.mo (some (.dat (roD x))) up
  refine ⟨ρ,?_⟩
  have b:b_check_rows_1 [z0,some (.dat (.int l)),some (.dat (roD x))]=.nx [z0,some (.dat (.int x.mo)),some (.dat (roD x))]:=by
   simp [-gIxA,b_check_rows_1,r_is_row ok,ro_mo,show ¬ x.mo < l by omega]
  rw [List.map_cons,List.cons_append,forGo,<-ih]
  simp only [gNm,List.length_cons,List.set_cons_succ,List.set_cons_zero,b]
theorem r_check_rows {xs:List Ro} (up:Up 0 xs):f_check_rows [.dat (.list (xs.map roD))]=.rt (.dat .none) []:=by
 obtain ⟨l',y2,e⟩:=rows_go (z0:=some (.dat (.list (xs.map roD)))) xs 0 none up
 simp [f_check_rows,m_check_rows,e]
theorem bad_rows {xs:List Ro} {o:PyData} (up:Up 0 xs) (ho:f_is_row [.dat o]=.rt (.dat (.bool false)) []):f_check_rows [.dat (.list (xs.map roD ++ [o]))]=.ex "NoHolds" []:=by
 obtain ⟨ρ,e⟩:=rows_bad (z0:=some (.dat (.list (xs.map roD ++ [o])))) ho xs 0 none up
 simp [f_check_rows,m_check_rows,e]
noncomputable def noList:PyData->Bool
 | .list _=>false
 | .dict _=>false
 | _=>true
theorem bad_thing {d:PyData} (h:noList d=true):f_check_rows [.dat d]=.ex "NoHolds" []:=by
 cases d <;> first | (simp [f_check_rows,m_check_rows]; done) | (cases h)
section
variable {C:Addr} {d m:PyData}
theorem ex_H:("NoHolds":Str) ∈ exL:=by decide +kernel
theorem ex_M:("NoMoment":Str) ∈ exL:=by decide +kernel
theorem ask_H (h:f_check_rows [.dat d]=.ex "NoHolds" []):∀ k:Int,k=0\/k=1\/k=2\/k=3->f__law_ask C [.dat (.int k),.dat d,.dat m]=.rt (.dat (.tuple [.str "refused",.int 13])) []:=by
 intro k hk
 have e1:f_holder_at C [.dat d,.dat m]=.ex "NoHolds" []:=by simp [f_holder_at,m_holder_at,h]
 have e2:f_nobody C [.dat d,.dat m]=.ex "NoHolds" []:=by simp [f_nobody,m_nobody,h]
 have e3:f_all_holds C [.dat d]=.ex "NoHolds" []:=by simp [f_all_holds,m_all_holds,h]
 have e4:f_held_by C [.dat d]=.ex "NoHolds" []:=by simp [f_held_by,m_held_by,h]
 rcases hk with rfl | rfl | rfl | rfl
 ·simp [f__law_ask,m__law_ask,sTryA,xCall2,sel2,e1,ex_H,w_holds]
 ·simp [f__law_ask,m__law_ask,sTryA,xCall2,sel2,e2,ex_H,w_holds]
 ·simp [f__law_ask,m__law_ask,sTryA,xCall2,sel2,e3,ex_H,w_holds]
 ·simp [f__law_ask,m__law_ask,sTryA,xCall2,sel2,e4,ex_H,w_holds]
theorem ask_M {xs:List Ro} (up:Up 0 xs) (hm:noD m=true) (hw:isW m 0 9999=false):∀ k:Int,k=0\/k=1->f__law_ask C [.dat (.int k),.dat (.list (xs.map roD)),.dat m]=.rt (.dat (.tuple [.str "refused",.int 2])) []:=by
 intro k hk
 have cm:=r_check_moment hm
 rw [hw] at cm
 simp only [Bool.false_eq_true,if_false] at cm
 have e1:f_holder_at C [.dat (.list (xs.map roD)),.dat m]=.ex "NoMoment" []:=by simp [f_holder_at,m_holder_at,r_check_rows up,cm]
 have e2:f_nobody C [.dat (.list (xs.map roD)),.dat m]=.ex "NoMoment" []:=by simp [f_nobody,m_nobody,r_check_rows up,cm]
 rcases hk with rfl | rfl
 ·simp [f__law_ask,m__law_ask,sTryA,xCall2,sel2,e1,ex_M,w_moment]
 ·simp [f__law_ask,m__law_ask,sTryA,xCall2,sel2,e2,ex_M,w_moment]
theorem z_any:f_check_zone [.dat (zoneD 0 [])]=.rt (.dat .none) []:=by kernel_rfl
theorem d_any:f_check_deeds [.dat (deedsD [])]=.rt (.dat .none) []:=by kernel_rfl
theorem walked:f_walked_holds C [.dat (.list [])]=.rt (.own false (.l [])) []:=by
 have i:=r_init (C:=C) (a:=0) (ss:=[]) (ds:=[]) z_any d_any (by simp)
 unfold zoneD deedsD at i
 simp at i
 simp [f_walked_holds,m_walked_holds,xMake,makeK,i,forGo]
theorem lasting:f_lasting_holds C [.dat (.list [])]=.rt (.dat (.list [])) []:=by
 simp [f_lasting_holds,m_lasting_holds,walked,compGo]
theorem none_rows:f_check_rows [.dat (.list [])]=.rt (.dat .none) []:=r_check_rows (xs:=[]) trivial
theorem mom5:f_check_moment [.dat (.int 5)]=.rt (.dat .none) []:=by rw [r_check_moment rfl]; rfl
theorem ask2:f__law_ask C [.dat (.int 2),.dat (.list []),.dat .none]=.rt (.dat (.list [])) []:=by
 have e:f_all_holds C [.dat (.list [])]=.rt (.dat (.list [])) []:=by simp [f_all_holds,m_all_holds,none_rows,lasting]
 simp [f__law_ask,m__law_ask,sTryA,xCall2,sel2,e]
theorem ask1:f__law_ask C [.dat (.int 1),.dat (.list []),.dat (.int 5)]=.rt (.dat (.list [.tuple [.int 0,.int 5]])) []:=by
 have sz:1000 < sizeLine:=by decide
 have e:f_nobody C [.dat (.list []),.dat (.int 5)]=.rt (.own false (.l [.tuple [.int 0,.int 5]])) []:=by
  simp [f_nobody,m_nobody,none_rows,mom5,lasting,b_nobody_1,forGo,nMin,show 0 < sizeLine by omega,show 1<=sizeLine by omega]
 simp [f__law_ask,m__law_ask,sTryA,xCall2,sel2,e]
theorem ask0:f__law_ask C [.dat (.int 0),.dat (.list []),.dat (.int 5)]=.rt (.dat .none) []:=by
 have e:f_holder_at C [.dat (.list []),.dat (.int 5)]=.rt (.dat .none) []:=by simp [f_holder_at,m_holder_at,none_rows,mom5,lasting,forGo]
 simp [f__law_ask,m__law_ask,sTryA,xCall2,sel2,e]
end
theorem up_app:∀ (xs:List Ro) (l:Int) (x:Ro),Up l xs->RoOk x->(∀ y ∈ xs,y.mo<=x.mo)->l<=x.mo->Up l (xs ++ [x])
 | [],l,x,_,ok,_,hl=>⟨ok,hl,trivial⟩
 | y :: xs,l,x,⟨oy,ly,uy⟩,ok,h,hl=>⟨oy,ly,up_app xs y.mo x uy ok (fun z hz=>h z (List.mem_cons_of_mem _ hz)) (h y List.mem_cons_self)⟩
theorem rows_step {ns:List Int} {t:List PyData} {xs:List Ro} {m:Int} {x2 x5 x6:Option Cell} (hn:ns.length<=63) (ht:t.length<=700) (hm:0<=m/\m<=5000) (hx:xs.length < 100) :
  ∃ x t' y6,RoOk x/\m<=x.mo/\x.mo<=m + 19/\t'.length<=t.length + 7/\b__law_rows_1 [some (.scr ns),some (.own true (.l t)),x2,some (.own false (.l (xs.map roD))),some (.dat (.int m)),x5,x6]=.nx [some (.scr ns),some (.own true (.l t')),x2,some (.own false (.l ((xs ++ [x]).map roD))),some (.dat (.int x.mo)),x5,y6]:=by
 have sz:1000 < sizeLine:=by decide
 obtain ⟨a,ha,h1⟩:=r_pick (ns:=ns) (t:=t) (ds:=[.int 1,.int 4,.int 20]) hn (by omega) (by simp) (by simp)
 have:∃ i:Int,a=.int i/\0 < i/\i<=20:=by
  simp only [List.mem_cons,List.not_mem_nil,or_false] at ha
  rcases ha with rfl | rfl | rfl <;> exact ⟨_,rfl,by omega,by omega⟩
 obtain ⟨i,rfl,i1,i2⟩:=this
 obtain ⟨u,u1,u2,h2⟩:=r_draw (ns:=ns) (t:=t ++ [.int 0]) (many:=i) hn (by simp; omega) i1
 obtain ⟨b,hb,h3⟩:=r_pick (ns:=ns) (t:=t ++ [.int 0] ++ [.int 0]) (ds:=[.int 2,.int 4]) hn (by simp; omega) (by simp) (by simp)
 have:∃ j:Int,b=.int j/\0 < j/\j<=4:=by
  simp only [List.mem_cons,List.not_mem_nil,or_false] at hb
  rcases hb with rfl | rfl <;> exact ⟨_,rfl,by omega,by omega⟩
 obtain ⟨j,rfl,j1,j2⟩:=this
 obtain ⟨r,r1,r2,h4⟩:=r_draw (ns:=ns) (t:=t ++ [.int 0] ++ [.int 0] ++ [.int 0]) (many:=j) hn (by simp; omega) j1
 obtain ⟨w,w1,w2,h5⟩:=r_draw (ns:=ns) (t:=t ++ [.int 0] ++ [.int 0] ++ [.int 0] ++ [.int 0]) (many:=3) hn (by simp; omega) (by omega)
 obtain ⟨c,hc,h6⟩:=r_pick (ns:=ns) (t:=t ++ [.int 0] ++ [.int 0] ++ [.int 0] ++ [.int 0] ++ [.int 0]) (ds:=[.int 3,.int 30,.int 99]) hn (by simp; omega) (by simp) (by simp)
 have:∃ k:Int,c=.int k/\0 < k/\k<=99:=by
  simp only [List.mem_cons,List.not_mem_nil,or_false] at hc
  rcases hc with rfl | rfl | rfl <;> exact ⟨_,rfl,by omega,by omega⟩
 obtain ⟨k,rfl,k1,k2⟩:=this
 obtain ⟨v,v1,v2,h7⟩:=r_draw (ns:=ns) (t:=t ++ [.int 0] ++ [.int 0] ++ [.int 0] ++ [.int 0] ++ [.int 0] ++ [.int 0]) (many:=k) hn (by simp; omega) k1
 simp only [List.append_assoc,List.cons_append,List.nil_append] at h1 h2 h3 h4 h5 h6 h7
 by_cases hw:w=0
 ·refine ⟨.give r (m + u),t ++ [.int 0,.int 0,.int 0,.int 0,.int 0],some (.dat (.int r)),⟨⟨r1,by omega⟩,by omega,by omega⟩,by show m<=m + u; omega,by show m + u<=m + 19; omega,by simp,?_⟩
  rw [List.map_append,List.map_singleton]
  simp [b__law_rows_1,h1,h2,h3,h4,h5,eq_int,hw,roD,Ro.mo,show xs.length < sizeLine by omega]
 ·refine ⟨.take r (m + u) (1 + v),t ++ [.int 0,.int 0,.int 0,.int 0,.int 0,.int 0,.int 0],some (.dat (.int r)),⟨⟨r1,by omega⟩,⟨by omega,by omega⟩,by omega,by omega⟩,by show m<=m + u; omega,by show m + u<=m + 19; omega,by simp,?_⟩
  rw [List.map_append,List.map_singleton]
  simp [b__law_rows_1,h1,h2,h3,h4,h5,h6,h7,eq_int,hw,roD,Ro.mo,show xs.length < sizeLine by omega]
theorem rows_loop {ns:List Int} {x2:Option Cell} (hn:ns.length<=63):∀ (n:Nat) (i:Int) {t:List PyData} {xs:List Ro} {m:Int} {x5 x6:Option Cell},t.length + 7 * n<=700->xs.length + n < 100->0<=m->m + 19 * n<=5000->Up 0 xs->(∀ y ∈ xs,y.mo<=m)->
  ∃ (ys:List Ro) (t':List PyData) (m':Int) (y5 y6:Option Cell),Up 0 ys/\ys.length=xs.length + n/\t'.length<=t.length + 7 * n/\forGo (gNm 5) b__law_rows_1 (L3.intsFrom i n) [some (.scr ns),some (.own true (.l t)),x2,some (.own false (.l (xs.map roD))),some (.dat (.int m)),x5,x6]=.nx [some (.scr ns),some (.own true (.l t')),x2,some (.own false (.l (ys.map roD))),some (.dat (.int m')),y5,y6]
 | 0,i,t,xs,m,x5,x6,_,_,_,_,up,_=>⟨xs,t,m,x5,x6,up,rfl,by omega,by simp [L3.intsFrom,forGo]⟩
 | n + 1,i,t,xs,m,x5,x6,ht,hx,m0,hm,up,hy=>by
  obtain ⟨x,t1,y6,ok,m1,m2,l1,e⟩:=rows_step (ns:=ns) (t:=t) (xs:=xs) (m:=m) (x2:=x2) (x5:=some (.dat (.int i))) (x6:=x6) hn (by omega) ⟨m0,by omega⟩ (by omega)
  obtain ⟨ys,t2,m',z5,z6,u2,n2,l2,e2⟩:=rows_loop (x2:=x2) hn n (i + 1) (t:=t1) (xs:=xs ++ [x]) (m:=x.mo) (x5:=some (.dat (.int i))) (x6:=y6) (by omega) (by simp; omega) (by omega) (by omega) (up_app xs 0 x up ok (fun y h=>by have:=hy y h; omega) (by omega)) (fun y h=>by
   rcases List.mem_append.mp h with h | h
   ·have:=hy y h; omega
   ·simp only [List.mem_cons,List.not_mem_nil,or_false] at h; rw [h]; exact Int.le_refl _)
  refine ⟨ys,t2,m',z5,z6,u2,by simp at n2; omega,by omega,?_⟩
  rw [intsFrom_succ,forGo,<-e2]
  simp only [gNm,List.length_cons,List.set_cons_succ,List.set_cons_zero,e]
theorem r_rows {ns:List Int} {t:List PyData} (hn:ns.length<=63) (ht:t.length<=500):∃ (xs:List Ro) (t':List PyData),Up 0 xs/\xs.length<=6/\t'.length<=t.length + 43/\f__law_rows [.scr ns,.own true (.l t),.dat (.int 6)]=.rt (.own false (.l (xs.map roD))) [.l t']:=by
 have sz:1000 < sizeLine:=by decide
 obtain ⟨k,k1,k2,h2⟩:=r_draw (ns:=ns) (t:=t) (many:=7) hn (by omega) (by omega)
 obtain ⟨xs,t2,m',y5,y6,up,nd,l2,e⟩:=rows_loop (ns:=ns) (x2:=some (.dat (.int 6))) hn k.toNat 0 (t:=t ++ [.int 0]) (xs:=[]) (m:=0) (x5:=none) (x6:=none) (by simp; omega) (by simp; omega) (by omega) (by omega) trivial (by simp)
 have hr:rng1 [.int k]=some (L3.intsFrom 0 k.toNat):=by simp only [rng1]; rw [if_pos (by simp; omega)]
 simp only [List.length_append,List.length_cons,List.length_nil] at l2 nd
 refine ⟨xs,t2,up,by omega,by omega,?_⟩
 rw [List.map_nil] at e
 simp [-rng1,f__law_rows,m__law_rows,h2,hr,e]
noncomputable def oddR:List PyData:=[.none,.int 5,.tuple [],.tuple [.str "take",.int 0,.int 5],.tuple [.str "take",.int 4,.int 5,.int 5],.tuple [.str "take",.int 0,.int (-1),.int 5],.tuple [.str "take",.int 0,.int 5,.int 0],.tuple [.str "take",.int 0,.int 5,.int 100],.tuple [.str "give",.int 0],.tuple [.str "give",.int 0,.int 5,.int 5],.tuple [.str "hold",.int 0,.int 5],.list [.str "take",.int 0,.int 5,.int 5],.tuple [.str "take",.bool true,.int 5,.int 5],.tuple [.str "step",.int 0,.int 5]]
theorem odd_row:∀ o ∈ oddR,f_is_row [.dat o]=.rt (.dat (.bool false)) []:=by
 intro o ho
 simp only [oddR,List.mem_cons,List.not_mem_nil,or_false] at ho
 rcases ho with rfl | rfl | rfl | rfl | rfl | rfl | rfl | rfl | rfl | rfl | rfl | rfl | rfl | rfl <;> kernel_rfl
theorem turned:f_check_rows [.dat (.list [.tuple [.str "take",.int 0,.int 9,.int 5],.tuple [.str "give",.int 0,.int 8]])]=.ex "NoHolds" []:=by kernel_rfl
noncomputable abbrev r13:PyData:=.tuple [.str "refused",.int 13]
noncomputable abbrev r2:PyData:=.tuple [.str "refused",.int 2]
theorem sh13:SeqAt.shaped (.list [r13,r13,r13,r13])=true:=by kernel_rfl
theorem sh2:SeqAt.shaped (.list [r2,r2])=true:=by kernel_rfl
theorem sh0:SeqAt.shaped (.list [])=true:=by kernel_rfl
theorem sh1:SeqAt.shaped (.list [.tuple [.int 0,.int 5]])=true:=by kernel_rfl
theorem comp13 {C:Addr} {d:PyData} (h:f_check_rows [.dat d]=.ex "NoHolds" []):compGo (gNm 0) bTrue (e_law_7 C) (L3.intsFrom 0 4) [] [none,some (.dat d)]=some [r13,r13,r13,r13]:=by
 have sz:1000 < sizeLine:=by decide
 have a0:=ask_H (C:=C) (m:=.none) h 0 (by omega)
 have a1:=ask_H (C:=C) (m:=.none) h 1 (by omega)
 have a2:=ask_H (C:=C) (m:=.none) h 2 (by omega)
 have a3:=ask_H (C:=C) (m:=.none) h 3 (by omega)
 have e:L3.intsFrom 0 4=[.int 0,.int 1,.int 2,.int 3]:=by kernel_rfl
 rw [e]
 simp [compGo,bTrue,e_law_7,a0,a1,a2,a3,show 0 < sizeLine by omega,show 1 < sizeLine by omega,show 2 < sizeLine by omega,show 3 < sizeLine by omega]
theorem comp2 {C:Addr} {xs:List Ro} {m:PyData} (up:Up 0 xs) (hm:noD m=true) (hw:isW m 0 9999=false):compGo (gNm 0) bTrue (e_law_12 C) (L3.intsFrom 0 2) [] [none,some (.dat (.list (xs.map roD))),some (.dat m)]=some [r2,r2]:=by
 have sz:1000 < sizeLine:=by decide
 have a0:=ask_M (C:=C) up hm hw 0 (by omega)
 have a1:=ask_M (C:=C) up hm hw 1 (by omega)
 have e:L3.intsFrom 0 2=[.int 0,.int 1]:=by kernel_rfl
 rw [e]
 simp [compGo,bTrue,e_law_12,a0,a1,show 0 < sizeLine by omega,show 1 < sizeLine by omega]
theorem rep13:gRep (.list [r13]) (.int 4)=some (.list [r13,r13,r13,r13]):=by kernel_rfl
theorem rep2:gRep (.list [r2]) (.int 2)=some (.list [r2,r2]):=by kernel_rfl
theorem rg4:rng1 [.int 4]=some (L3.intsFrom 0 4):=by kernel_rfl
theorem rg2:rng1 [.int 2]=some (L3.intsFrom 0 2):=by kernel_rfl
theorem law_true {C:Addr} {ns:List Int} (hn:ns.length<=63):f_law C [.scr ns]=.rt (.dat (.bool true)) []:=by
 have sz:1000 < sizeLine:=by decide
 obtain ⟨xs,t1,up,l6,l1,h2⟩:=r_rows (ns:=ns) (t:=[]) hn (by simp)
 simp only [List.length_nil] at l1
 obtain ⟨o,ho,h3⟩:=r_pick (ns:=ns) (t:=t1) (ds:=oddR) hn (by omega) (by simp [oddR]) (by simp [oddR])
 obtain ⟨b,hb,h4⟩:=r_pick (ns:=ns) (t:=t1 ++ [.int 0]) (ds:=[.none,.int 5,.tuple (xs.map roD),.list (xs.map roD ++ [o]),.str "take",.tuple []]) hn (by simp; omega) (by simp) (by simp)
 obtain ⟨m,hm,h5⟩:=r_pick (ns:=ns) (t:=t1 ++ [.int 0] ++ [.int 0]) (ds:=[.none,.int (-1),.int 10000,.bool true,.str "5"]) hn (by simp; omega) (by simp) (by simp)
 simp only [List.append_assoc,List.cons_append,List.nil_append] at h4 h5
 have cb:f_check_rows [.dat b]=.ex "NoHolds" []:=by
  simp only [List.mem_cons,List.not_mem_nil,or_false] at hb
  rcases hb with rfl | rfl | rfl | rfl | rfl | rfl
  ·exact bad_thing rfl
  ·exact bad_thing rfl
  ·exact bad_thing rfl
  ·exact bad_rows up (odd_row o ho)
  ·exact bad_thing rfl
  ·exact bad_thing rfl
 have cm:noD m=true/\isW m 0 9999=false:=by
  simp only [List.mem_cons,List.not_mem_nil,or_false] at hm
  rcases hm with rfl | rfl | rfl | rfl | rfl <;> exact ⟨by rfl,by rfl⟩
 have k1:=comp13 (C:=C) cb
 have k2:=comp13 (C:=C) turned
 have k3:=comp2 (C:=C) up cm.1 cm.2
 have n13:=ne_self sh13
 have n2:=ne_self sh2
 have q0:=eq_self sh0
 have q1:=eq_self sh1
 have lx:(xs.map roD).length=xs.length:=List.length_map ..
 generalize xs.map roD=G at *
 refine law_end (n:=6) ?_
 unfold m_law
 simp only [List.replicate]
 refine law_step (by simp [c_law_1] <;> rfl) ?_
 refine law_step (by simp [c_law_2,h2] <;> rfl) ?_
 unfold oddR at h3
 have le:∀ n:Nat,n<=20->n<=sizeLine:=fun n h=>by omega
 refine law_step (by simp [c_law_3,le] <;> rfl) ?_
 refine law_step (by simp [c_law_4,le] <;> rfl) ?_
 refine law_step (by simp [c_law_5,le] <;> rfl) ?_
 refine law_step (by simp [c_law_6,h3,h4,le,show G.length + 1<=sizeLine by omega] <;> rfl) ?_
 refine law_step (by simp [-rng1,-gRep,c_law_8,rg4,k1,rep13,n13,le] <;> rfl) ?_
 refine law_step (by simp [c_law_9,le] <;> rfl) ?_
 refine law_step (by simp [-rng1,-gRep,c_law_10,rg4,k2,rep13,n13,le] <;> rfl) ?_
 refine law_step (by simp [c_law_11,h5,le] <;> rfl) ?_
 refine law_step (by simp [-rng1,-gRep,c_law_13,rg2,k3,rep2,n2,le] <;> rfl) ?_
 exact ⟨_,_,by simp [c_law_14,ask2,ask1,ask0,q0,q1,gIs,isNone,le] <;> exact ⟨rfl,rfl⟩⟩
end K3
namespace K3
open PySem PySem.Spec L2 L2.L3 PyProof.Rows
theorem scr_ok {K:PySem.W.Frag} {mg:Str->Option Value} {f:FM} {vs:List V} {H:Hp} {Q:VK} {E:XK} (hG:GH mg H) (hf:∀ ns:List Int,ns.length<=63->f [.scr ns]=.rt (.dat (.bool true)) []) (h:∃ a ns,vs=[.ref a]/\Scr K H a ns/\∀ H',Q (.bl true) H'):spF K mg f vs H Q E:=by
 obtain ⟨a,ns,rfl,hs,q⟩:=h
 refine ⟨hG,[.scr ns],[[]],[],.oth (fun _ z=>by cases z) (fun _ _ z=>by cases z) ⟨a,rfl,hs⟩ .nil,List.nodup_nil,fun b hb=>by simp at hb,?_⟩
 rw [hf ns hs.1]
 intro v H' fp fps' hv _ _
 rw [show v=.bl true from DV.bl_inv hv]
 exact q H'
noncomputable def spL (K:PySem.W.Frag):Sp:=fun vs H Q _=>∃ a ns,vs=[.ref a]/\Scr K H a ns/\∀ H',Q (.bl true) H'
theorem all_mk {l:PySem.W.OpenLaw} {w:World} {K:PySem.W.Frag} {h:Heap} {mg:Str->Option Value} {fa:Addr} (XK:K.In h) (G:h.Ns mainGlobals mg) (hfa:mg "law" = some (.ref fa))
  {C_:Addr}
  {f0_:Addr} {od0 an0:Option Addr} {sl0:Array (Option Value)} {oc0 kV0 dc0 pm0 cd0 ct0:Value}
  {f1_:Addr} {od1 an1:Option Addr} {sl1:Array (Option Value)} {oc1 kV1 dc1 pm1 cd1 ct1:Value}
  {f2_:Addr} {od2 an2:Option Addr} {sl2:Array (Option Value)} {oc2 kV2 dc2 pm2 cd2 ct2:Value}
  {f3_:Addr} {od3 an3:Option Addr} {sl3:Array (Option Value)} {oc3 kV3 dc3 pm3 cd3 ct3:Value}
  {f4_:Addr} {od4 an4:Option Addr} {sl4:Array (Option Value)} {oc4 kV4 dc4 pm4 cd4 ct4:Value}
  {f5_:Addr} {od5 an5:Option Addr} {sl5:Array (Option Value)} {oc5 kV5 dc5 pm5 cd5 ct5:Value}
  {f6_:Addr} {od6 an6:Option Addr} {sl6:Array (Option Value)} {oc6 kV6 dc6 pm6 cd6 ct6:Value}
  {f7_:Addr} {od7 an7:Option Addr} {sl7:Array (Option Value)} {oc7 kV7 dc7 pm7 cd7 ct7:Value}
  {f8_:Addr} {od8 an8:Option Addr} {sl8:Array (Option Value)} {oc8 kV8 dc8 pm8 cd8 ct8:Value}
  {f9_:Addr} {od9 an9:Option Addr} {sl9:Array (Option Value)} {oc9 kV9 dc9 pm9 cd9 ct9:Value}
  {f10_:Addr} {od10 an10:Option Addr} {sl10:Array (Option Value)} {oc10 kV10 dc10 pm10 cd10 ct10:Value}
  {f11_:Addr} {od11 an11:Option Addr} {sl11:Array (Option Value)} {oc11 kV11 dc11 pm11 cd11 ct11:Value}
  {f12_:Addr} {od12 an12:Option Addr} {sl12:Array (Option Value)} {oc12 kV12 dc12 pm12 cd12 ct12:Value}
  {f13_:Addr} {od13 an13:Option Addr} {sl13:Array (Option Value)} {oc13 kV13 dc13 pm13 cd13 ct13:Value}
  {f14_:Addr} {od14 an14:Option Addr} {sl14:Array (Option Value)} {oc14 kV14 dc14 pm14 cd14 ct14:Value}
  {f15_:Addr} {od15 an15:Option Addr} {sl15:Array (Option Value)} {oc15 kV15 dc15 pm15 cd15 ct15:Value}
  {f16_:Addr} {od16 an16:Option Addr} {sl16:Array (Option Value)} {oc16 kV16 dc16 pm16 cd16 ct16:Value}
  {f17_:Addr} {od17 an17:Option Addr} {sl17:Array (Option Value)} {oc17 kV17 dc17 pm17 cd17 ct17:Value}
  {f18_:Addr} {od18 an18:Option Addr} {sl18:Array (Option Value)} {oc18 kV18 dc18 pm18 cd18 ct18:Value}
  {f19_:Addr} {od19 an19:Option Addr} {sl19:Array (Option Value)} {oc19 kV19 dc19 pm19 cd19 ct19:Value}
  {f20_:Addr} {od20 an20:Option Addr} {sl20:Array (Option Value)} {oc20 kV20 dc20 pm20 cd20 ct20:Value}
  {f21_:Addr} {od21 an21:Option Addr} {sl21:Array (Option Value)} {oc21 kV21 dc21 pm21 cd21 ct21:Value}
  {f22_:Addr} {od22 an22:Option Addr} {sl22:Array (Option Value)} {oc22 kV22 dc22 pm22 cd22 ct22:Value}
  {f23_:Addr} {od23 an23:Option Addr} {sl23:Array (Option Value)} {oc23 kV23 dc23 pm23 cd23 ct23:Value}
  {f24_:Addr} {od24 an24:Option Addr} {sl24:Array (Option Value)} {oc24 kV24 dc24 pm24 cd24 ct24:Value}
  {f25_:Addr} {od25 an25:Option Addr} {sl25:Array (Option Value)} {oc25 kV25 dc25 pm25 cd25 ct25:Value}
  {f26_:Addr} {od26 an26:Option Addr} {sl26:Array (Option Value)} {oc26 kV26 dc26 pm26 cd26 ct26:Value}
  {f27_:Addr} {od27 an27:Option Addr} {sl27:Array (Option Value)} {oc27 kV27 dc27 pm27 cd27 ct27:Value}
  {f28_:Addr} {od28 an28:Option Addr} {sl28:Array (Option Value)} {oc28 kV28 dc28 pm28 cd28 ct28:Value}
  {f29_:Addr} {od29 an29:Option Addr} {sl29:Array (Option Value)} {oc29 kV29 dc29 pm29 cd29 ct29:Value}
  {f30_:Addr} {od30 an30:Option Addr} {sl30:Array (Option Value)} {oc30 kV30 dc30 pm30 cd30 ct30:Value}
  {f31_:Addr} {od31 an31:Option Addr} {sl31:Array (Option Value)} {oc31 kV31 dc31 pm31 cd31 ct31:Value}
  {f32_:Addr} {od32 an32:Option Addr} {sl32:Array (Option Value)} {oc32 kV32 dc32 pm32 cd32 ct32:Value}
  {f33_:Addr} {od33 an33:Option Addr} {sl33:Array (Option Value)} {oc33 kV33 dc33 pm33 cd33 ct33:Value}
  {t_LAST_MOMENT:Tok}
  {t_LAST_HOUR:Tok}
  {t_LEAST_AHEAD:Tok}
  {t_MOST_AHEAD:Tok}
  {t_MOST_SHIFTS:Tok}
  {t_MOST_STEP:Tok}
  {t_MOST_DEEDS:Tok}
  {t_MOST_WITHIN:Tok}
  {t_LAST_RUNNER:Tok}
  {t_MOST_TERM:Tok}
  {D_:Addr}
  {g1 g2 g3:Addr} {u1 u2 u3:Option Addr} {tk0:Tok} {n1 n2 n3:Nat} {s1 s2 s3:Array (Option Value)}
  (v_ANY_ZONEq:PySem.W.nsIn K mainGlobals "ANY_ZONE" = some (some (.ref g1)))
  (w1q:K.lookup g1=some ⟨.type "tuple",u1,.seq #[.int 0 tk0,.ref g2] n1,s1⟩)
  (w2q:K.lookup g2=some ⟨.type "tuple",u2,.seq #[] n2,s2⟩)
  (v_NO_DEEDSq:PySem.W.nsIn K mainGlobals "NO_DEEDS" = some (some (.ref g3)))
  (w3q:K.lookup g3=some ⟨.type "tuple",u3,.seq #[] n3,s3⟩)
  (a_Hallq:PySem.W.nsIn K mainGlobals "Hall" = some (some (.ref C_)))
  (a_is_wholeq:PySem.W.nsIn K mainGlobals "is_whole" = some (some (.ref f0_)))
  (l_is_wholeq:K.lookup f0_=some ⟨oc0,od0,.func (PySem.W.fnOf "is_whole" "is_whole" (defArgs s_is_whole) (defBody s_is_whole) (defScope s_is_whole) .none kV0 dc0 pm0 an0 cd0 ct0),sl0⟩)
  (c_is_wholeq:PySem.W.codeIn K cd0 "is_whole" = true)
  (k_is_wholeq:PySem.W.keepIn K (.ref f0_)=true)
  (a_is_tuple_ofq:PySem.W.nsIn K mainGlobals "is_tuple_of" = some (some (.ref f1_)))
  (l_is_tuple_ofq:K.lookup f1_=some ⟨oc1,od1,.func (PySem.W.fnOf "is_tuple_of" "is_tuple_of" (defArgs s_is_tuple_of) (defBody s_is_tuple_of) (defScope s_is_tuple_of) .none kV1 dc1 pm1 an1 cd1 ct1),sl1⟩)
  (c_is_tuple_ofq:PySem.W.codeIn K cd1 "is_tuple_of" = true)
  (k_is_tuple_ofq:PySem.W.keepIn K (.ref f1_)=true)
  (a_is_aheadq:PySem.W.nsIn K mainGlobals "is_ahead" = some (some (.ref f2_)))
  (l_is_aheadq:K.lookup f2_=some ⟨oc2,od2,.func (PySem.W.fnOf "is_ahead" "is_ahead" (defArgs s_is_ahead) (defBody s_is_ahead) (defScope s_is_ahead) .none kV2 dc2 pm2 an2 cd2 ct2),sl2⟩)
  (c_is_aheadq:PySem.W.codeIn K cd2 "is_ahead" = true)
  (k_is_aheadq:PySem.W.keepIn K (.ref f2_)=true)
  (a_is_momentq:PySem.W.nsIn K mainGlobals "is_moment" = some (some (.ref f3_)))
  (l_is_momentq:K.lookup f3_=some ⟨oc3,od3,.func (PySem.W.fnOf "is_moment" "is_moment" (defArgs s_is_moment) (defBody s_is_moment) (defScope s_is_moment) .none kV3 dc3 pm3 an3 cd3 ct3),sl3⟩)
  (c_is_momentq:PySem.W.codeIn K cd3 "is_moment" = true)
  (k_is_momentq:PySem.W.keepIn K (.ref f3_)=true)
  (a_is_runnerq:PySem.W.nsIn K mainGlobals "is_runner" = some (some (.ref f4_)))
  (l_is_runnerq:K.lookup f4_=some ⟨oc4,od4,.func (PySem.W.fnOf "is_runner" "is_runner" (defArgs s_is_runner) (defBody s_is_runner) (defScope s_is_runner) .none kV4 dc4 pm4 an4 cd4 ct4),sl4⟩)
  (c_is_runnerq:PySem.W.codeIn K cd4 "is_runner" = true)
  (k_is_runnerq:PySem.W.keepIn K (.ref f4_)=true)
  (a_is_termq:PySem.W.nsIn K mainGlobals "is_term" = some (some (.ref f5_)))
  (l_is_termq:K.lookup f5_=some ⟨oc5,od5,.func (PySem.W.fnOf "is_term" "is_term" (defArgs s_is_term) (defBody s_is_term) (defScope s_is_term) .none kV5 dc5 pm5 an5 cd5 ct5),sl5⟩)
  (c_is_termq:PySem.W.codeIn K cd5 "is_term" = true)
  (k_is_termq:PySem.W.keepIn K (.ref f5_)=true)
  (a_are_shiftsq:PySem.W.nsIn K mainGlobals "are_shifts" = some (some (.ref f6_)))
  (l_are_shiftsq:K.lookup f6_=some ⟨oc6,od6,.func (PySem.W.fnOf "are_shifts" "are_shifts" (defArgs s_are_shifts) (defBody s_are_shifts) (defScope s_are_shifts) .none kV6 dc6 pm6 an6 cd6 ct6),sl6⟩)
  (c_are_shiftsq:PySem.W.codeIn K cd6 "are_shifts" = true)
  (k_are_shiftsq:PySem.W.keepIn K (.ref f6_)=true)
  (a_is_zoneq:PySem.W.nsIn K mainGlobals "is_zone" = some (some (.ref f7_)))
  (l_is_zoneq:K.lookup f7_=some ⟨oc7,od7,.func (PySem.W.fnOf "is_zone" "is_zone" (defArgs s_is_zone) (defBody s_is_zone) (defScope s_is_zone) .none kV7 dc7 pm7 an7 cd7 ct7),sl7⟩)
  (c_is_zoneq:PySem.W.codeIn K cd7 "is_zone" = true)
  (k_is_zoneq:PySem.W.keepIn K (.ref f7_)=true)
  (a_has_wordq:PySem.W.nsIn K mainGlobals "has_word" = some (some (.ref f8_)))
  (l_has_wordq:K.lookup f8_=some ⟨oc8,od8,.func (PySem.W.fnOf "has_word" "has_word" (defArgs s_has_word) (defBody s_has_word) (defScope s_has_word) .none kV8 dc8 pm8 an8 cd8 ct8),sl8⟩)
  (c_has_wordq:PySem.W.codeIn K cd8 "has_word" = true)
  (k_has_wordq:PySem.W.keepIn K (.ref f8_)=true)
  (a_is_planq:PySem.W.nsIn K mainGlobals "is_plan" = some (some (.ref f9_)))
  (l_is_planq:K.lookup f9_=some ⟨oc9,od9,.func (PySem.W.fnOf "is_plan" "is_plan" (defArgs s_is_plan) (defBody s_is_plan) (defScope s_is_plan) .none kV9 dc9 pm9 an9 cd9 ct9),sl9⟩)
  (c_is_planq:PySem.W.codeIn K cd9 "is_plan" = true)
  (k_is_planq:PySem.W.keepIn K (.ref f9_)=true)
  (a_is_lateq:PySem.W.nsIn K mainGlobals "is_late" = some (some (.ref f10_)))
  (l_is_lateq:K.lookup f10_=some ⟨oc10,od10,.func (PySem.W.fnOf "is_late" "is_late" (defArgs s_is_late) (defBody s_is_late) (defScope s_is_late) .none kV10 dc10 pm10 an10 cd10 ct10),sl10⟩)
  (c_is_lateq:PySem.W.codeIn K cd10 "is_late" = true)
  (k_is_lateq:PySem.W.keepIn K (.ref f10_)=true)
  (a_is_deedq:PySem.W.nsIn K mainGlobals "is_deed" = some (some (.ref f11_)))
  (l_is_deedq:K.lookup f11_=some ⟨oc11,od11,.func (PySem.W.fnOf "is_deed" "is_deed" (defArgs s_is_deed) (defBody s_is_deed) (defScope s_is_deed) .none kV11 dc11 pm11 an11 cd11 ct11),sl11⟩)
  (c_is_deedq:PySem.W.codeIn K cd11 "is_deed" = true)
  (k_is_deedq:PySem.W.keepIn K (.ref f11_)=true)
  (a_are_deedsq:PySem.W.nsIn K mainGlobals "are_deeds" = some (some (.ref f12_)))
  (l_are_deedsq:K.lookup f12_=some ⟨oc12,od12,.func (PySem.W.fnOf "are_deeds" "are_deeds" (defArgs s_are_deeds) (defBody s_are_deeds) (defScope s_are_deeds) .none kV12 dc12 pm12 an12 cd12 ct12),sl12⟩)
  (c_are_deedsq:PySem.W.codeIn K cd12 "are_deeds" = true)
  (k_are_deedsq:PySem.W.keepIn K (.ref f12_)=true)
  (a_check_zoneq:PySem.W.nsIn K mainGlobals "check_zone" = some (some (.ref f13_)))
  (l_check_zoneq:K.lookup f13_=some ⟨oc13,od13,.func (PySem.W.fnOf "check_zone" "check_zone" (defArgs s_check_zone) (defBody s_check_zone) (defScope s_check_zone) .none kV13 dc13 pm13 an13 cd13 ct13),sl13⟩)
  (c_check_zoneq:PySem.W.codeIn K cd13 "check_zone" = true)
  (k_check_zoneq:PySem.W.keepIn K (.ref f13_)=true)
  (a_check_momentq:PySem.W.nsIn K mainGlobals "check_moment" = some (some (.ref f14_)))
  (l_check_momentq:K.lookup f14_=some ⟨oc14,od14,.func (PySem.W.fnOf "check_moment" "check_moment" (defArgs s_check_moment) (defBody s_check_moment) (defScope s_check_moment) .none kV14 dc14 pm14 an14 cd14 ct14),sl14⟩)
  (c_check_momentq:PySem.W.codeIn K cd14 "check_moment" = true)
  (k_check_momentq:PySem.W.keepIn K (.ref f14_)=true)
  (a_check_deedsq:PySem.W.nsIn K mainGlobals "check_deeds" = some (some (.ref f15_)))
  (l_check_deedsq:K.lookup f15_=some ⟨oc15,od15,.func (PySem.W.fnOf "check_deeds" "check_deeds" (defArgs s_check_deeds) (defBody s_check_deeds) (defScope s_check_deeds) .none kV15 dc15 pm15 an15 cd15 ct15),sl15⟩)
  (c_check_deedsq:PySem.W.codeIn K cd15 "check_deeds" = true)
  (k_check_deedsq:PySem.W.keepIn K (.ref f15_)=true)
  (a_H___init__q:PySem.W.findIn K (.ref C_) "__init__" = some (some (.ref f16_)))
  (i_H___init__q:PySem.W.isFn K (.ref f16_)=true)
  (l_H___init__q:K.lookup f16_=some ⟨oc16,od16,.func (PySem.W.fnOf "__init__" "Hall.__init__" (defArgs s_H___init__) (defBody s_H___init__) (defScope s_H___init__) .none kV16 dc16 pm16 an16 cd16 ct16),sl16⟩)
  (c_H___init__q:PySem.W.codeIn K cd16 "Hall.__init__" = true)
  (k_H___init__q:PySem.W.keepIn K (.ref f16_)=true)
  (a_H_heldq:PySem.W.findIn K (.ref C_) "held" = some (some (.ref f17_)))
  (i_H_heldq:PySem.W.isFn K (.ref f17_)=true)
  (l_H_heldq:K.lookup f17_=some ⟨oc17,od17,.func (PySem.W.fnOf "held" "Hall.held" (defArgs s_H_held) (defBody s_H_held) (defScope s_H_held) .none kV17 dc17 pm17 an17 cd17 ct17),sl17⟩)
  (c_H_heldq:PySem.W.codeIn K cd17 "Hall.held" = true)
  (k_H_heldq:PySem.W.keepIn K (.ref f17_)=true)
  (a_is_rowq:PySem.W.nsIn K mainGlobals "is_row" = some (some (.ref f18_)))
  (l_is_rowq:K.lookup f18_=some ⟨oc18,od18,.func (PySem.W.fnOf "is_row" "is_row" (defArgs s_is_row) (defBody s_is_row) (defScope s_is_row) .none kV18 dc18 pm18 an18 cd18 ct18),sl18⟩)
  (c_is_rowq:PySem.W.codeIn K cd18 "is_row" = true)
  (k_is_rowq:PySem.W.keepIn K (.ref f18_)=true)
  (a_check_rowsq:PySem.W.nsIn K mainGlobals "check_rows" = some (some (.ref f19_)))
  (l_check_rowsq:K.lookup f19_=some ⟨oc19,od19,.func (PySem.W.fnOf "check_rows" "check_rows" (defArgs s_check_rows) (defBody s_check_rows) (defScope s_check_rows) .none kV19 dc19 pm19 an19 cd19 ct19),sl19⟩)
  (c_check_rowsq:PySem.W.codeIn K cd19 "check_rows" = true)
  (k_check_rowsq:PySem.W.keepIn K (.ref f19_)=true)
  (a_walked_holdsq:PySem.W.nsIn K mainGlobals "walked_holds" = some (some (.ref f20_)))
  (l_walked_holdsq:K.lookup f20_=some ⟨oc20,od20,.func (PySem.W.fnOf "walked_holds" "walked_holds" (defArgs s_walked_holds) (defBody s_walked_holds) (defScope s_walked_holds) .none kV20 dc20 pm20 an20 cd20 ct20),sl20⟩)
  (c_walked_holdsq:PySem.W.codeIn K cd20 "walked_holds" = true)
  (k_walked_holdsq:PySem.W.keepIn K (.ref f20_)=true)
  (a_lasting_holdsq:PySem.W.nsIn K mainGlobals "lasting_holds" = some (some (.ref f21_)))
  (l_lasting_holdsq:K.lookup f21_=some ⟨oc21,od21,.func (PySem.W.fnOf "lasting_holds" "lasting_holds" (defArgs s_lasting_holds) (defBody s_lasting_holds) (defScope s_lasting_holds) .none kV21 dc21 pm21 an21 cd21 ct21),sl21⟩)
  (c_lasting_holdsq:PySem.W.codeIn K cd21 "lasting_holds" = true)
  (k_lasting_holdsq:PySem.W.keepIn K (.ref f21_)=true)
  (a_all_holdsq:PySem.W.nsIn K mainGlobals "all_holds" = some (some (.ref f22_)))
  (l_all_holdsq:K.lookup f22_=some ⟨oc22,od22,.func (PySem.W.fnOf "all_holds" "all_holds" (defArgs s_all_holds) (defBody s_all_holds) (defScope s_all_holds) .none kV22 dc22 pm22 an22 cd22 ct22),sl22⟩)
  (c_all_holdsq:PySem.W.codeIn K cd22 "all_holds" = true)
  (k_all_holdsq:PySem.W.keepIn K (.ref f22_)=true)
  (a_held_byq:PySem.W.nsIn K mainGlobals "held_by" = some (some (.ref f23_)))
  (l_held_byq:K.lookup f23_=some ⟨oc23,od23,.func (PySem.W.fnOf "held_by" "held_by" (defArgs s_held_by) (defBody s_held_by) (defScope s_held_by) .none kV23 dc23 pm23 an23 cd23 ct23),sl23⟩)
  (c_held_byq:PySem.W.codeIn K cd23 "held_by" = true)
  (k_held_byq:PySem.W.keepIn K (.ref f23_)=true)
  (a_holder_atq:PySem.W.nsIn K mainGlobals "holder_at" = some (some (.ref f24_)))
  (l_holder_atq:K.lookup f24_=some ⟨oc24,od24,.func (PySem.W.fnOf "holder_at" "holder_at" (defArgs s_holder_at) (defBody s_holder_at) (defScope s_holder_at) .none kV24 dc24 pm24 an24 cd24 ct24),sl24⟩)
  (c_holder_atq:PySem.W.codeIn K cd24 "holder_at" = true)
  (k_holder_atq:PySem.W.keepIn K (.ref f24_)=true)
  (a_nobodyq:PySem.W.nsIn K mainGlobals "nobody" = some (some (.ref f25_)))
  (l_nobodyq:K.lookup f25_=some ⟨oc25,od25,.func (PySem.W.fnOf "nobody" "nobody" (defArgs s_nobody) (defBody s_nobody) (defScope s_nobody) .none kV25 dc25 pm25 an25 cd25 ct25),sl25⟩)
  (c_nobodyq:PySem.W.codeIn K cd25 "nobody" = true)
  (k_nobodyq:PySem.W.keepIn K (.ref f25_)=true)
  (a__law_cell_atq:PySem.W.nsIn K mainGlobals "_law_cell_at" = some (some (.ref f26_)))
  (l__law_cell_atq:K.lookup f26_=some ⟨oc26,od26,.func (PySem.W.fnOf "_law_cell_at" "_law_cell_at" (defArgs s__law_cell_at) (defBody s__law_cell_at) (defScope s__law_cell_at) .none kV26 dc26 pm26 an26 cd26 ct26),sl26⟩)
  (c__law_cell_atq:PySem.W.codeIn K cd26 "_law_cell_at" = true)
  (k__law_cell_atq:PySem.W.keepIn K (.ref f26_)=true)
  (a__law_mixedq:PySem.W.nsIn K mainGlobals "_law_mixed" = some (some (.ref f27_)))
  (l__law_mixedq:K.lookup f27_=some ⟨oc27,od27,.func (PySem.W.fnOf "_law_mixed" "_law_mixed" (defArgs s__law_mixed) (defBody s__law_mixed) (defScope s__law_mixed) .none kV27 dc27 pm27 an27 cd27 ct27),sl27⟩)
  (c__law_mixedq:PySem.W.codeIn K cd27 "_law_mixed" = true)
  (k__law_mixedq:PySem.W.keepIn K (.ref f27_)=true)
  (a__law_drawq:PySem.W.nsIn K mainGlobals "_law_draw" = some (some (.ref f28_)))
  (l__law_drawq:K.lookup f28_=some ⟨oc28,od28,.func (PySem.W.fnOf "_law_draw" "_law_draw" (defArgs s__law_draw) (defBody s__law_draw) (defScope s__law_draw) .none kV28 dc28 pm28 an28 cd28 ct28),sl28⟩)
  (c__law_drawq:PySem.W.codeIn K cd28 "_law_draw" = true)
  (k__law_drawq:PySem.W.keepIn K (.ref f28_)=true)
  (a__law_pickq:PySem.W.nsIn K mainGlobals "_law_pick" = some (some (.ref f29_)))
  (l__law_pickq:K.lookup f29_=some ⟨oc29,od29,.func (PySem.W.fnOf "_law_pick" "_law_pick" (defArgs s__law_pick) (defBody s__law_pick) (defScope s__law_pick) .none kV29 dc29 pm29 an29 cd29 ct29),sl29⟩)
  (c__law_pickq:PySem.W.codeIn K cd29 "_law_pick" = true)
  (k__law_pickq:PySem.W.keepIn K (.ref f29_)=true)
  (a__law_rowsq:PySem.W.nsIn K mainGlobals "_law_rows" = some (some (.ref f30_)))
  (l__law_rowsq:K.lookup f30_=some ⟨oc30,od30,.func (PySem.W.fnOf "_law_rows" "_law_rows" (defArgs s__law_rows) (defBody s__law_rows) (defScope s__law_rows) .none kV30 dc30 pm30 an30 cd30 ct30),sl30⟩)
  (c__law_rowsq:PySem.W.codeIn K cd30 "_law_rows" = true)
  (k__law_rowsq:PySem.W.keepIn K (.ref f30_)=true)
  (a__law_whichq:PySem.W.nsIn K mainGlobals "_law_which" = some (some (.ref f31_)))
  (l__law_whichq:K.lookup f31_=some ⟨oc31,od31,.func (PySem.W.fnOf "_law_which" "_law_which" (defArgs s__law_which) (defBody s__law_which) (defScope s__law_which) .none kV31 dc31 pm31 an31 cd31 ct31),sl31⟩)
  (c__law_whichq:PySem.W.codeIn K cd31 "_law_which" = true)
  (k__law_whichq:PySem.W.keepIn K (.ref f31_)=true)
  (a__law_askq:PySem.W.nsIn K mainGlobals "_law_ask" = some (some (.ref f32_)))
  (l__law_askq:K.lookup f32_=some ⟨oc32,od32,.func (PySem.W.fnOf "_law_ask" "_law_ask" (defArgs s__law_ask) (defBody s__law_ask) (defScope s__law_ask) .none kV32 dc32 pm32 an32 cd32 ct32),sl32⟩)
  (c__law_askq:PySem.W.codeIn K cd32 "_law_ask" = true)
  (k__law_askq:PySem.W.keepIn K (.ref f32_)=true)
  (a_lawq:PySem.W.nsIn K mainGlobals "law" = some (some (.ref f33_)))
  (l_lawq:K.lookup f33_=some ⟨oc33,od33,.func (PySem.W.fnOf "law" "law" (defArgs s_law) (defBody s_law) (defScope s_law) .none kV33 dc33 pm33 an33 cd33 ct33),sl33⟩)
  (c_lawq:PySem.W.codeIn K cd33 "law" = true)
  (k_lawq:PySem.W.keepIn K (.ref f33_)=true)
  (v_LAST_MOMENTq:PySem.W.nsIn K mainGlobals "LAST_MOMENT" = some (some (.int (9999) t_LAST_MOMENT)))
  (v_LAST_HOURq:PySem.W.nsIn K mainGlobals "LAST_HOUR" = some (some (.int (23) t_LAST_HOUR)))
  (v_LEAST_AHEADq:PySem.W.nsIn K mainGlobals "LEAST_AHEAD" = some (some (.int (-12) t_LEAST_AHEAD)))
  (v_MOST_AHEADq:PySem.W.nsIn K mainGlobals "MOST_AHEAD" = some (some (.int (14) t_MOST_AHEAD)))
  (v_MOST_SHIFTSq:PySem.W.nsIn K mainGlobals "MOST_SHIFTS" = some (some (.int (6) t_MOST_SHIFTS)))
  (v_MOST_STEPq:PySem.W.nsIn K mainGlobals "MOST_STEP" = some (some (.int (999) t_MOST_STEP)))
  (v_MOST_DEEDSq:PySem.W.nsIn K mainGlobals "MOST_DEEDS" = some (some (.int (6) t_MOST_DEEDS)))
  (v_MOST_WITHINq:PySem.W.nsIn K mainGlobals "MOST_WITHIN" = some (some (.int (999) t_MOST_WITHIN)))
  (v_LAST_RUNNERq:PySem.W.nsIn K mainGlobals "LAST_RUNNER" = some (some (.int (3) t_LAST_RUNNER)))
  (v_MOST_TERMq:PySem.W.nsIn K mainGlobals "MOST_TERM" = some (some (.int (99) t_MOST_TERM)))
  (z_ValueErrorq:PySem.W.nsIn K mainGlobals "ValueError" = some none)
  (z_allq:PySem.W.nsIn K mainGlobals "all" = some none)
  (z_boolq:PySem.W.nsIn K mainGlobals "bool" = some none)
  (z_intq:PySem.W.nsIn K mainGlobals "int" = some none)
  (z_isinstanceq:PySem.W.nsIn K mainGlobals "isinstance" = some none)
  (z_lenq:PySem.W.nsIn K mainGlobals "len" = some none)
  (z_listq:PySem.W.nsIn K mainGlobals "list" = some none)
  (z_minq:PySem.W.nsIn K mainGlobals "min" = some none)
  (z_rangeq:PySem.W.nsIn K mainGlobals "range" = some none)
  (z_sortedq:PySem.W.nsIn K mainGlobals "sorted" = some none)
  (z_strq:PySem.W.nsIn K mainGlobals "str" = some none)
  (z_tupleq:PySem.W.nsIn K mainGlobals "tuple" = some none)
  (pg_q:PySem.W.plainGet K C_ Str.empty=true)
  (hd_q:PySem.W.hasDictIn K C_=true)
  (po_q:PySem.W.plainOver K C_=true)
  (sa_q:PySem.W.findIn K (.ref C_) "__setattr__" = some (some (.builtin "object.__setattr__")))
  (mks_q:PySem.W.makesIn K C_=true)
  (kpC_q:PySem.W.keepIn K (.ref C_)=true)
  (n_begunq:PySem.W.findIn K (.ref C_) "begun" = some none)
  (n_deedsq:PySem.W.findIn K (.ref C_) "deeds" = some none)
  (n_holderq:PySem.W.findIn K (.ref C_) "holder" = some none)
  (n_holdsq:PySem.W.findIn K (.ref C_) "holds" = some none)
  (n_lastq:PySem.W.findIn K (.ref C_) "last" = some none)
  (n_rowsq:PySem.W.findIn K (.ref C_) "rows" = some none)
  (n_settledq:PySem.W.findIn K (.ref C_) "settled" = some none)
  (n_untilq:PySem.W.findIn K (.ref C_) "until" = some none)
  (n_wordsq:PySem.W.findIn K (.ref C_) "words" = some none)
  (n_zoneq:PySem.W.findIn K (.ref C_) "zone" = some none)
  (a_Dueq:PySem.W.nsIn K mainGlobals "DueError" = some (some (.ref D_)))
  (v_ANY_ZONE:PySem.W.nsIn (dropA [g1,g2,g3] K) mainGlobals "ANY_ZONE" = some (some (.ref g1)))
  (v_NO_DEEDS:PySem.W.nsIn (dropA [g1,g2,g3] K) mainGlobals "NO_DEEDS" = some (some (.ref g3)))
  (a_Hall:PySem.W.nsIn (dropA [g1,g2,g3] K) mainGlobals "Hall" = some (some (.ref C_)))
  (a0:PySem.W.nsIn (dropA [g1,g2,g3] K) mainGlobals "is_whole" = some (some (.ref f0_)))
  (l0:(dropA [g1,g2,g3] K).lookup f0_=some ⟨oc0,od0,.func (PySem.W.fnOf "is_whole" "is_whole" (defArgs s_is_whole) (defBody s_is_whole) (defScope s_is_whole) .none kV0 dc0 pm0 an0 cd0 ct0),sl0⟩)
  (c0:PySem.W.codeIn (dropA [g1,g2,g3] K) cd0 "is_whole" = true)
  (k0:PySem.W.keepIn (dropA [g1,g2,g3] K) (.ref f0_)=true)
  (a1:PySem.W.nsIn (dropA [g1,g2,g3] K) mainGlobals "is_tuple_of" = some (some (.ref f1_)))
  (l1:(dropA [g1,g2,g3] K).lookup f1_=some ⟨oc1,od1,.func (PySem.W.fnOf "is_tuple_of" "is_tuple_of" (defArgs s_is_tuple_of) (defBody s_is_tuple_of) (defScope s_is_tuple_of) .none kV1 dc1 pm1 an1 cd1 ct1),sl1⟩)
  (c1:PySem.W.codeIn (dropA [g1,g2,g3] K) cd1 "is_tuple_of" = true)
  (k1:PySem.W.keepIn (dropA [g1,g2,g3] K) (.ref f1_)=true)
  (a2:PySem.W.nsIn (dropA [g1,g2,g3] K) mainGlobals "is_ahead" = some (some (.ref f2_)))
  (l2:(dropA [g1,g2,g3] K).lookup f2_=some ⟨oc2,od2,.func (PySem.W.fnOf "is_ahead" "is_ahead" (defArgs s_is_ahead) (defBody s_is_ahead) (defScope s_is_ahead) .none kV2 dc2 pm2 an2 cd2 ct2),sl2⟩)
  (c2:PySem.W.codeIn (dropA [g1,g2,g3] K) cd2 "is_ahead" = true)
  (k2:PySem.W.keepIn (dropA [g1,g2,g3] K) (.ref f2_)=true)
  (a3:PySem.W.nsIn (dropA [g1,g2,g3] K) mainGlobals "is_moment" = some (some (.ref f3_)))
  (l3:(dropA [g1,g2,g3] K).lookup f3_=some ⟨oc3,od3,.func (PySem.W.fnOf "is_moment" "is_moment" (defArgs s_is_moment) (defBody s_is_moment) (defScope s_is_moment) .none kV3 dc3 pm3 an3 cd3 ct3),sl3⟩)
  (c3:PySem.W.codeIn (dropA [g1,g2,g3] K) cd3 "is_moment" = true)
  (k3:PySem.W.keepIn (dropA [g1,g2,g3] K) (.ref f3_)=true)
  (a4:PySem.W.nsIn (dropA [g1,g2,g3] K) mainGlobals "is_runner" = some (some (.ref f4_)))
  (l4:(dropA [g1,g2,g3] K).lookup f4_=some ⟨oc4,od4,.func (PySem.W.fnOf "is_runner" "is_runner" (defArgs s_is_runner) (defBody s_is_runner) (defScope s_is_runner) .none kV4 dc4 pm4 an4 cd4 ct4),sl4⟩)
  (c4:PySem.W.codeIn (dropA [g1,g2,g3] K) cd4 "is_runner" = true)
  (k4:PySem.W.keepIn (dropA [g1,g2,g3] K) (.ref f4_)=true)
  (a5:PySem.W.nsIn (dropA [g1,g2,g3] K) mainGlobals "is_term" = some (some (.ref f5_)))
  (l5:(dropA [g1,g2,g3] K).lookup f5_=some ⟨oc5,od5,.func (PySem.W.fnOf "is_term" "is_term" (defArgs s_is_term) (defBody s_is_term) (defScope s_is_term) .none kV5 dc5 pm5 an5 cd5 ct5),sl5⟩)
  (c5:PySem.W.codeIn (dropA [g1,g2,g3] K) cd5 "is_term" = true)
  (k5:PySem.W.keepIn (dropA [g1,g2,g3] K) (.ref f5_)=true)
  (a6:PySem.W.nsIn (dropA [g1,g2,g3] K) mainGlobals "are_shifts" = some (some (.ref f6_)))
  (l6:(dropA [g1,g2,g3] K).lookup f6_=some ⟨oc6,od6,.func (PySem.W.fnOf "are_shifts" "are_shifts" (defArgs s_are_shifts) (defBody s_are_shifts) (defScope s_are_shifts) .none kV6 dc6 pm6 an6 cd6 ct6),sl6⟩)
  (c6:PySem.W.codeIn (dropA [g1,g2,g3] K) cd6 "are_shifts" = true)
  (k6:PySem.W.keepIn (dropA [g1,g2,g3] K) (.ref f6_)=true)
  (a7:PySem.W.nsIn (dropA [g1,g2,g3] K) mainGlobals "is_zone" = some (some (.ref f7_)))
  (l7:(dropA [g1,g2,g3] K).lookup f7_=some ⟨oc7,od7,.func (PySem.W.fnOf "is_zone" "is_zone" (defArgs s_is_zone) (defBody s_is_zone) (defScope s_is_zone) .none kV7 dc7 pm7 an7 cd7 ct7),sl7⟩)
  (c7:PySem.W.codeIn (dropA [g1,g2,g3] K) cd7 "is_zone" = true)
  (k7:PySem.W.keepIn (dropA [g1,g2,g3] K) (.ref f7_)=true)
  (a8:PySem.W.nsIn (dropA [g1,g2,g3] K) mainGlobals "has_word" = some (some (.ref f8_)))
  (l8:(dropA [g1,g2,g3] K).lookup f8_=some ⟨oc8,od8,.func (PySem.W.fnOf "has_word" "has_word" (defArgs s_has_word) (defBody s_has_word) (defScope s_has_word) .none kV8 dc8 pm8 an8 cd8 ct8),sl8⟩)
  (c8:PySem.W.codeIn (dropA [g1,g2,g3] K) cd8 "has_word" = true)
  (k8:PySem.W.keepIn (dropA [g1,g2,g3] K) (.ref f8_)=true)
  (a9:PySem.W.nsIn (dropA [g1,g2,g3] K) mainGlobals "is_plan" = some (some (.ref f9_)))
  (l9:(dropA [g1,g2,g3] K).lookup f9_=some ⟨oc9,od9,.func (PySem.W.fnOf "is_plan" "is_plan" (defArgs s_is_plan) (defBody s_is_plan) (defScope s_is_plan) .none kV9 dc9 pm9 an9 cd9 ct9),sl9⟩)
  (c9:PySem.W.codeIn (dropA [g1,g2,g3] K) cd9 "is_plan" = true)
  (k9:PySem.W.keepIn (dropA [g1,g2,g3] K) (.ref f9_)=true)
  (a10:PySem.W.nsIn (dropA [g1,g2,g3] K) mainGlobals "is_late" = some (some (.ref f10_)))
  (l10:(dropA [g1,g2,g3] K).lookup f10_=some ⟨oc10,od10,.func (PySem.W.fnOf "is_late" "is_late" (defArgs s_is_late) (defBody s_is_late) (defScope s_is_late) .none kV10 dc10 pm10 an10 cd10 ct10),sl10⟩)
  (c10:PySem.W.codeIn (dropA [g1,g2,g3] K) cd10 "is_late" = true)
  (k10:PySem.W.keepIn (dropA [g1,g2,g3] K) (.ref f10_)=true)
  (a11:PySem.W.nsIn (dropA [g1,g2,g3] K) mainGlobals "is_deed" = some (some (.ref f11_)))
  (l11:(dropA [g1,g2,g3] K).lookup f11_=some ⟨oc11,od11,.func (PySem.W.fnOf "is_deed" "is_deed" (defArgs s_is_deed) (defBody s_is_deed) (defScope s_is_deed) .none kV11 dc11 pm11 an11 cd11 ct11),sl11⟩)
  (c11:PySem.W.codeIn (dropA [g1,g2,g3] K) cd11 "is_deed" = true)
  (k11:PySem.W.keepIn (dropA [g1,g2,g3] K) (.ref f11_)=true)
  (a12:PySem.W.nsIn (dropA [g1,g2,g3] K) mainGlobals "are_deeds" = some (some (.ref f12_)))
  (l12:(dropA [g1,g2,g3] K).lookup f12_=some ⟨oc12,od12,.func (PySem.W.fnOf "are_deeds" "are_deeds" (defArgs s_are_deeds) (defBody s_are_deeds) (defScope s_are_deeds) .none kV12 dc12 pm12 an12 cd12 ct12),sl12⟩)
  (c12:PySem.W.codeIn (dropA [g1,g2,g3] K) cd12 "are_deeds" = true)
  (k12:PySem.W.keepIn (dropA [g1,g2,g3] K) (.ref f12_)=true)
  (a13:PySem.W.nsIn (dropA [g1,g2,g3] K) mainGlobals "check_zone" = some (some (.ref f13_)))
  (l13:(dropA [g1,g2,g3] K).lookup f13_=some ⟨oc13,od13,.func (PySem.W.fnOf "check_zone" "check_zone" (defArgs s_check_zone) (defBody s_check_zone) (defScope s_check_zone) .none kV13 dc13 pm13 an13 cd13 ct13),sl13⟩)
  (c13:PySem.W.codeIn (dropA [g1,g2,g3] K) cd13 "check_zone" = true)
  (k13:PySem.W.keepIn (dropA [g1,g2,g3] K) (.ref f13_)=true)
  (a14:PySem.W.nsIn (dropA [g1,g2,g3] K) mainGlobals "check_moment" = some (some (.ref f14_)))
  (l14:(dropA [g1,g2,g3] K).lookup f14_=some ⟨oc14,od14,.func (PySem.W.fnOf "check_moment" "check_moment" (defArgs s_check_moment) (defBody s_check_moment) (defScope s_check_moment) .none kV14 dc14 pm14 an14 cd14 ct14),sl14⟩)
  (c14:PySem.W.codeIn (dropA [g1,g2,g3] K) cd14 "check_moment" = true)
  (k14:PySem.W.keepIn (dropA [g1,g2,g3] K) (.ref f14_)=true)
  (a15:PySem.W.nsIn (dropA [g1,g2,g3] K) mainGlobals "check_deeds" = some (some (.ref f15_)))
  (l15:(dropA [g1,g2,g3] K).lookup f15_=some ⟨oc15,od15,.func (PySem.W.fnOf "check_deeds" "check_deeds" (defArgs s_check_deeds) (defBody s_check_deeds) (defScope s_check_deeds) .none kV15 dc15 pm15 an15 cd15 ct15),sl15⟩)
  (c15:PySem.W.codeIn (dropA [g1,g2,g3] K) cd15 "check_deeds" = true)
  (k15:PySem.W.keepIn (dropA [g1,g2,g3] K) (.ref f15_)=true)
  (a16:PySem.W.findIn (dropA [g1,g2,g3] K) (.ref C_) "__init__" = some (some (.ref f16_)))
  (i16:PySem.W.isFn (dropA [g1,g2,g3] K) (.ref f16_)=true)
  (l16:(dropA [g1,g2,g3] K).lookup f16_=some ⟨oc16,od16,.func (PySem.W.fnOf "__init__" "Hall.__init__" (defArgs s_H___init__) (defBody s_H___init__) (defScope s_H___init__) .none kV16 dc16 pm16 an16 cd16 ct16),sl16⟩)
  (c16:PySem.W.codeIn (dropA [g1,g2,g3] K) cd16 "Hall.__init__" = true)
  (k16:PySem.W.keepIn (dropA [g1,g2,g3] K) (.ref f16_)=true)
  (a17:PySem.W.findIn (dropA [g1,g2,g3] K) (.ref C_) "held" = some (some (.ref f17_)))
  (i17:PySem.W.isFn (dropA [g1,g2,g3] K) (.ref f17_)=true)
  (l17:(dropA [g1,g2,g3] K).lookup f17_=some ⟨oc17,od17,.func (PySem.W.fnOf "held" "Hall.held" (defArgs s_H_held) (defBody s_H_held) (defScope s_H_held) .none kV17 dc17 pm17 an17 cd17 ct17),sl17⟩)
  (c17:PySem.W.codeIn (dropA [g1,g2,g3] K) cd17 "Hall.held" = true)
  (k17:PySem.W.keepIn (dropA [g1,g2,g3] K) (.ref f17_)=true)
  (a18:PySem.W.nsIn (dropA [g1,g2,g3] K) mainGlobals "is_row" = some (some (.ref f18_)))
  (l18:(dropA [g1,g2,g3] K).lookup f18_=some ⟨oc18,od18,.func (PySem.W.fnOf "is_row" "is_row" (defArgs s_is_row) (defBody s_is_row) (defScope s_is_row) .none kV18 dc18 pm18 an18 cd18 ct18),sl18⟩)
  (c18:PySem.W.codeIn (dropA [g1,g2,g3] K) cd18 "is_row" = true)
  (k18:PySem.W.keepIn (dropA [g1,g2,g3] K) (.ref f18_)=true)
  (a19:PySem.W.nsIn (dropA [g1,g2,g3] K) mainGlobals "check_rows" = some (some (.ref f19_)))
  (l19:(dropA [g1,g2,g3] K).lookup f19_=some ⟨oc19,od19,.func (PySem.W.fnOf "check_rows" "check_rows" (defArgs s_check_rows) (defBody s_check_rows) (defScope s_check_rows) .none kV19 dc19 pm19 an19 cd19 ct19),sl19⟩)
  (c19:PySem.W.codeIn (dropA [g1,g2,g3] K) cd19 "check_rows" = true)
  (k19:PySem.W.keepIn (dropA [g1,g2,g3] K) (.ref f19_)=true)
  (a20:PySem.W.nsIn (dropA [g1,g2,g3] K) mainGlobals "walked_holds" = some (some (.ref f20_)))
  (l20:(dropA [g1,g2,g3] K).lookup f20_=some ⟨oc20,od20,.func (PySem.W.fnOf "walked_holds" "walked_holds" (defArgs s_walked_holds) (defBody s_walked_holds) (defScope s_walked_holds) .none kV20 dc20 pm20 an20 cd20 ct20),sl20⟩)
  (c20:PySem.W.codeIn (dropA [g1,g2,g3] K) cd20 "walked_holds" = true)
  (k20:PySem.W.keepIn (dropA [g1,g2,g3] K) (.ref f20_)=true)
  (a21:PySem.W.nsIn (dropA [g1,g2,g3] K) mainGlobals "lasting_holds" = some (some (.ref f21_)))
  (l21:(dropA [g1,g2,g3] K).lookup f21_=some ⟨oc21,od21,.func (PySem.W.fnOf "lasting_holds" "lasting_holds" (defArgs s_lasting_holds) (defBody s_lasting_holds) (defScope s_lasting_holds) .none kV21 dc21 pm21 an21 cd21 ct21),sl21⟩)
  (c21:PySem.W.codeIn (dropA [g1,g2,g3] K) cd21 "lasting_holds" = true)
  (k21:PySem.W.keepIn (dropA [g1,g2,g3] K) (.ref f21_)=true)
  (a22:PySem.W.nsIn (dropA [g1,g2,g3] K) mainGlobals "all_holds" = some (some (.ref f22_)))
  (l22:(dropA [g1,g2,g3] K).lookup f22_=some ⟨oc22,od22,.func (PySem.W.fnOf "all_holds" "all_holds" (defArgs s_all_holds) (defBody s_all_holds) (defScope s_all_holds) .none kV22 dc22 pm22 an22 cd22 ct22),sl22⟩)
  (c22:PySem.W.codeIn (dropA [g1,g2,g3] K) cd22 "all_holds" = true)
  (k22:PySem.W.keepIn (dropA [g1,g2,g3] K) (.ref f22_)=true)
  (a23:PySem.W.nsIn (dropA [g1,g2,g3] K) mainGlobals "held_by" = some (some (.ref f23_)))
  (l23:(dropA [g1,g2,g3] K).lookup f23_=some ⟨oc23,od23,.func (PySem.W.fnOf "held_by" "held_by" (defArgs s_held_by) (defBody s_held_by) (defScope s_held_by) .none kV23 dc23 pm23 an23 cd23 ct23),sl23⟩)
  (c23:PySem.W.codeIn (dropA [g1,g2,g3] K) cd23 "held_by" = true)
  (k23:PySem.W.keepIn (dropA [g1,g2,g3] K) (.ref f23_)=true)
  (a24:PySem.W.nsIn (dropA [g1,g2,g3] K) mainGlobals "holder_at" = some (some (.ref f24_)))
  (l24:(dropA [g1,g2,g3] K).lookup f24_=some ⟨oc24,od24,.func (PySem.W.fnOf "holder_at" "holder_at" (defArgs s_holder_at) (defBody s_holder_at) (defScope s_holder_at) .none kV24 dc24 pm24 an24 cd24 ct24),sl24⟩)
  (c24:PySem.W.codeIn (dropA [g1,g2,g3] K) cd24 "holder_at" = true)
  (k24:PySem.W.keepIn (dropA [g1,g2,g3] K) (.ref f24_)=true)
  (a25:PySem.W.nsIn (dropA [g1,g2,g3] K) mainGlobals "nobody" = some (some (.ref f25_)))
  (l25:(dropA [g1,g2,g3] K).lookup f25_=some ⟨oc25,od25,.func (PySem.W.fnOf "nobody" "nobody" (defArgs s_nobody) (defBody s_nobody) (defScope s_nobody) .none kV25 dc25 pm25 an25 cd25 ct25),sl25⟩)
  (c25:PySem.W.codeIn (dropA [g1,g2,g3] K) cd25 "nobody" = true)
  (k25:PySem.W.keepIn (dropA [g1,g2,g3] K) (.ref f25_)=true)
  (a26:PySem.W.nsIn (dropA [g1,g2,g3] K) mainGlobals "_law_cell_at" = some (some (.ref f26_)))
  (l26:(dropA [g1,g2,g3] K).lookup f26_=some ⟨oc26,od26,.func (PySem.W.fnOf "_law_cell_at" "_law_cell_at" (defArgs s__law_cell_at) (defBody s__law_cell_at) (defScope s__law_cell_at) .none kV26 dc26 pm26 an26 cd26 ct26),sl26⟩)
  (c26:PySem.W.codeIn (dropA [g1,g2,g3] K) cd26 "_law_cell_at" = true)
  (k26:PySem.W.keepIn (dropA [g1,g2,g3] K) (.ref f26_)=true)
  (a27:PySem.W.nsIn (dropA [g1,g2,g3] K) mainGlobals "_law_mixed" = some (some (.ref f27_)))
  (l27:(dropA [g1,g2,g3] K).lookup f27_=some ⟨oc27,od27,.func (PySem.W.fnOf "_law_mixed" "_law_mixed" (defArgs s__law_mixed) (defBody s__law_mixed) (defScope s__law_mixed) .none kV27 dc27 pm27 an27 cd27 ct27),sl27⟩)
  (c27:PySem.W.codeIn (dropA [g1,g2,g3] K) cd27 "_law_mixed" = true)
  (k27:PySem.W.keepIn (dropA [g1,g2,g3] K) (.ref f27_)=true)
  (a28:PySem.W.nsIn (dropA [g1,g2,g3] K) mainGlobals "_law_draw" = some (some (.ref f28_)))
  (l28:(dropA [g1,g2,g3] K).lookup f28_=some ⟨oc28,od28,.func (PySem.W.fnOf "_law_draw" "_law_draw" (defArgs s__law_draw) (defBody s__law_draw) (defScope s__law_draw) .none kV28 dc28 pm28 an28 cd28 ct28),sl28⟩)
  (c28:PySem.W.codeIn (dropA [g1,g2,g3] K) cd28 "_law_draw" = true)
  (k28:PySem.W.keepIn (dropA [g1,g2,g3] K) (.ref f28_)=true)
  (a29:PySem.W.nsIn (dropA [g1,g2,g3] K) mainGlobals "_law_pick" = some (some (.ref f29_)))
  (l29:(dropA [g1,g2,g3] K).lookup f29_=some ⟨oc29,od29,.func (PySem.W.fnOf "_law_pick" "_law_pick" (defArgs s__law_pick) (defBody s__law_pick) (defScope s__law_pick) .none kV29 dc29 pm29 an29 cd29 ct29),sl29⟩)
  (c29:PySem.W.codeIn (dropA [g1,g2,g3] K) cd29 "_law_pick" = true)
  (k29:PySem.W.keepIn (dropA [g1,g2,g3] K) (.ref f29_)=true)
  (a30:PySem.W.nsIn (dropA [g1,g2,g3] K) mainGlobals "_law_rows" = some (some (.ref f30_)))
  (l30:(dropA [g1,g2,g3] K).lookup f30_=some ⟨oc30,od30,.func (PySem.W.fnOf "_law_rows" "_law_rows" (defArgs s__law_rows) (defBody s__law_rows) (defScope s__law_rows) .none kV30 dc30 pm30 an30 cd30 ct30),sl30⟩)
  (c30:PySem.W.codeIn (dropA [g1,g2,g3] K) cd30 "_law_rows" = true)
  (k30:PySem.W.keepIn (dropA [g1,g2,g3] K) (.ref f30_)=true)
  (a31:PySem.W.nsIn (dropA [g1,g2,g3] K) mainGlobals "_law_which" = some (some (.ref f31_)))
  (l31:(dropA [g1,g2,g3] K).lookup f31_=some ⟨oc31,od31,.func (PySem.W.fnOf "_law_which" "_law_which" (defArgs s__law_which) (defBody s__law_which) (defScope s__law_which) .none kV31 dc31 pm31 an31 cd31 ct31),sl31⟩)
  (c31:PySem.W.codeIn (dropA [g1,g2,g3] K) cd31 "_law_which" = true)
  (k31:PySem.W.keepIn (dropA [g1,g2,g3] K) (.ref f31_)=true)
  (a32:PySem.W.nsIn (dropA [g1,g2,g3] K) mainGlobals "_law_ask" = some (some (.ref f32_)))
  (l32:(dropA [g1,g2,g3] K).lookup f32_=some ⟨oc32,od32,.func (PySem.W.fnOf "_law_ask" "_law_ask" (defArgs s__law_ask) (defBody s__law_ask) (defScope s__law_ask) .none kV32 dc32 pm32 an32 cd32 ct32),sl32⟩)
  (c32:PySem.W.codeIn (dropA [g1,g2,g3] K) cd32 "_law_ask" = true)
  (k32:PySem.W.keepIn (dropA [g1,g2,g3] K) (.ref f32_)=true)
  (a33:PySem.W.nsIn (dropA [g1,g2,g3] K) mainGlobals "law" = some (some (.ref f33_)))
  (l33:(dropA [g1,g2,g3] K).lookup f33_=some ⟨oc33,od33,.func (PySem.W.fnOf "law" "law" (defArgs s_law) (defBody s_law) (defScope s_law) .none kV33 dc33 pm33 an33 cd33 ct33),sl33⟩)
  (c33:PySem.W.codeIn (dropA [g1,g2,g3] K) cd33 "law" = true)
  (k33:PySem.W.keepIn (dropA [g1,g2,g3] K) (.ref f33_)=true)
  (v_LAST_MOMENT:PySem.W.nsIn (dropA [g1,g2,g3] K) mainGlobals "LAST_MOMENT" = some (some (.int (9999) t_LAST_MOMENT)))
  (v_LAST_HOUR:PySem.W.nsIn (dropA [g1,g2,g3] K) mainGlobals "LAST_HOUR" = some (some (.int (23) t_LAST_HOUR)))
  (v_LEAST_AHEAD:PySem.W.nsIn (dropA [g1,g2,g3] K) mainGlobals "LEAST_AHEAD" = some (some (.int (-12) t_LEAST_AHEAD)))
  (v_MOST_AHEAD:PySem.W.nsIn (dropA [g1,g2,g3] K) mainGlobals "MOST_AHEAD" = some (some (.int (14) t_MOST_AHEAD)))
  (v_MOST_SHIFTS:PySem.W.nsIn (dropA [g1,g2,g3] K) mainGlobals "MOST_SHIFTS" = some (some (.int (6) t_MOST_SHIFTS)))
  (v_MOST_STEP:PySem.W.nsIn (dropA [g1,g2,g3] K) mainGlobals "MOST_STEP" = some (some (.int (999) t_MOST_STEP)))
  (v_MOST_DEEDS:PySem.W.nsIn (dropA [g1,g2,g3] K) mainGlobals "MOST_DEEDS" = some (some (.int (6) t_MOST_DEEDS)))
  (v_MOST_WITHIN:PySem.W.nsIn (dropA [g1,g2,g3] K) mainGlobals "MOST_WITHIN" = some (some (.int (999) t_MOST_WITHIN)))
  (v_LAST_RUNNER:PySem.W.nsIn (dropA [g1,g2,g3] K) mainGlobals "LAST_RUNNER" = some (some (.int (3) t_LAST_RUNNER)))
  (v_MOST_TERM:PySem.W.nsIn (dropA [g1,g2,g3] K) mainGlobals "MOST_TERM" = some (some (.int (99) t_MOST_TERM)))
  (z_ValueError:PySem.W.nsIn (dropA [g1,g2,g3] K) mainGlobals "ValueError" = some none)
  (z_all:PySem.W.nsIn (dropA [g1,g2,g3] K) mainGlobals "all" = some none)
  (z_bool:PySem.W.nsIn (dropA [g1,g2,g3] K) mainGlobals "bool" = some none)
  (z_int:PySem.W.nsIn (dropA [g1,g2,g3] K) mainGlobals "int" = some none)
  (z_isinstance:PySem.W.nsIn (dropA [g1,g2,g3] K) mainGlobals "isinstance" = some none)
  (z_len:PySem.W.nsIn (dropA [g1,g2,g3] K) mainGlobals "len" = some none)
  (z_list:PySem.W.nsIn (dropA [g1,g2,g3] K) mainGlobals "list" = some none)
  (z_min:PySem.W.nsIn (dropA [g1,g2,g3] K) mainGlobals "min" = some none)
  (z_range:PySem.W.nsIn (dropA [g1,g2,g3] K) mainGlobals "range" = some none)
  (z_sorted:PySem.W.nsIn (dropA [g1,g2,g3] K) mainGlobals "sorted" = some none)
  (z_str:PySem.W.nsIn (dropA [g1,g2,g3] K) mainGlobals "str" = some none)
  (z_tuple:PySem.W.nsIn (dropA [g1,g2,g3] K) mainGlobals "tuple" = some none)
  (pg_:PySem.W.plainGet (dropA [g1,g2,g3] K) C_ Str.empty=true)
  (hd_:PySem.W.hasDictIn (dropA [g1,g2,g3] K) C_=true)
  (po_:PySem.W.plainOver (dropA [g1,g2,g3] K) C_=true)
  (sa_:PySem.W.findIn (dropA [g1,g2,g3] K) (.ref C_) "__setattr__" = some (some (.builtin "object.__setattr__")))
  (mks_:PySem.W.makesIn (dropA [g1,g2,g3] K) C_=true)
  (kpC_:PySem.W.keepIn (dropA [g1,g2,g3] K) (.ref C_)=true)
  (n_begun:PySem.W.findIn (dropA [g1,g2,g3] K) (.ref C_) "begun" = some none)
  (n_deeds:PySem.W.findIn (dropA [g1,g2,g3] K) (.ref C_) "deeds" = some none)
  (n_holder:PySem.W.findIn (dropA [g1,g2,g3] K) (.ref C_) "holder" = some none)
  (n_holds:PySem.W.findIn (dropA [g1,g2,g3] K) (.ref C_) "holds" = some none)
  (n_last:PySem.W.findIn (dropA [g1,g2,g3] K) (.ref C_) "last" = some none)
  (n_rows:PySem.W.findIn (dropA [g1,g2,g3] K) (.ref C_) "rows" = some none)
  (n_settled:PySem.W.findIn (dropA [g1,g2,g3] K) (.ref C_) "settled" = some none)
  (n_until:PySem.W.findIn (dropA [g1,g2,g3] K) (.ref C_) "until" = some none)
  (n_words:PySem.W.findIn (dropA [g1,g2,g3] K) (.ref C_) "words" = some none)
  (n_zone:PySem.W.findIn (dropA [g1,g2,g3] K) (.ref C_) "zone" = some none)
  (a_Due:PySem.W.nsIn (dropA [g1,g2,g3] K) mainGlobals "DueError" = some (some (.ref D_)))
  (x_Due:PySem.W.excIn (dropA [g1,g2,g3] K) D_ bmV "ValueError.__new__" = true)
  (x_tab:excTab (dropA [g1,g2,g3] K) D_ exL=true) :
  ∃ (fd:FuncData) (K':PySem.W.Frag) (HG:Hp),(∀ (s:Shared) (v:Value),BindsTo s fd ⟨[v],[]⟩ [("_law_script",v)])/\K'.In h/\(∀ b u,HG b=some u->TupG K' h b u)/\GH mg HG/\∀ base:Heap,K'.In base->base.Ns mainGlobals mg->FnOk l.prog w K' mg base (CXM l.prog w) 13 fa fd ["_law_script"] (spT K' mg):=by
 obtain ⟨HG,tg,gh⟩:=two_tups (mg:=mg) XK w1q w2q w3q (PySem.W.mg_of XK G v_ANY_ZONEq) (PySem.W.mg_of XK G v_NO_DEEDSq)
 have X:(dropA [g1,g2,g3] K).In h:=drop_in XK fun b o e=>(drop_sub e).1
 generalize dropA [g1,g2,g3] K=K at *
 have e:=hfa.symm.trans (PySem.W.mg_of X G a33)
 cases e
 have F0:=fun_mk (st:=s_is_whole) l0 c0 k0
 have D0:FD K mg "is_whole" s_is_whole ["thing","least","most"] _ _:=⟨F0,PySem.W.mg_of X G a0,F0.binds fun _ _ _ _ _ _ us hl=>match us,hl with | [_,_,_],_=>rfl⟩
 have F1:=fun_mk (st:=s_is_tuple_of) l1 c1 k1
 have D1:FD K mg "is_tuple_of" s_is_tuple_of ["thing","length"] _ _:=⟨F1,PySem.W.mg_of X G a1,F1.binds fun _ _ _ _ _ _ us hl=>match us,hl with | [_,_],_=>rfl⟩
 have F2:=fun_mk (st:=s_is_ahead) l2 c2 k2
 have D2:FD K mg "is_ahead" s_is_ahead ["thing"] _ _:=⟨F2,PySem.W.mg_of X G a2,F2.binds fun _ _ _ _ _ _ us hl=>match us,hl with | [_],_=>rfl⟩
 have F3:=fun_mk (st:=s_is_moment) l3 c3 k3
 have D3:FD K mg "is_moment" s_is_moment ["thing"] _ _:=⟨F3,PySem.W.mg_of X G a3,F3.binds fun _ _ _ _ _ _ us hl=>match us,hl with | [_],_=>rfl⟩
 have F4:=fun_mk (st:=s_is_runner) l4 c4 k4
 have D4:FD K mg "is_runner" s_is_runner ["thing"] _ _:=⟨F4,PySem.W.mg_of X G a4,F4.binds fun _ _ _ _ _ _ us hl=>match us,hl with | [_],_=>rfl⟩
 have F5:=fun_mk (st:=s_is_term) l5 c5 k5
 have D5:FD K mg "is_term" s_is_term ["thing"] _ _:=⟨F5,PySem.W.mg_of X G a5,F5.binds fun _ _ _ _ _ _ us hl=>match us,hl with | [_],_=>rfl⟩
 have F6:=fun_mk (st:=s_are_shifts) l6 c6 k6
 have D6:FD K mg "are_shifts" s_are_shifts ["thing"] _ _:=⟨F6,PySem.W.mg_of X G a6,F6.binds fun _ _ _ _ _ _ us hl=>match us,hl with | [_],_=>rfl⟩
 have F7:=fun_mk (st:=s_is_zone) l7 c7 k7
 have D7:FD K mg "is_zone" s_is_zone ["thing"] _ _:=⟨F7,PySem.W.mg_of X G a7,F7.binds fun _ _ _ _ _ _ us hl=>match us,hl with | [_],_=>rfl⟩
 have F8:=fun_mk (st:=s_has_word) l8 c8 k8
 have D8:FD K mg "has_word" s_has_word ["thing","word","length"] _ _:=⟨F8,PySem.W.mg_of X G a8,F8.binds fun _ _ _ _ _ _ us hl=>match us,hl with | [_,_,_],_=>rfl⟩
 have F9:=fun_mk (st:=s_is_plan) l9 c9 k9
 have D9:FD K mg "is_plan" s_is_plan ["thing"] _ _:=⟨F9,PySem.W.mg_of X G a9,F9.binds fun _ _ _ _ _ _ us hl=>match us,hl with | [_],_=>rfl⟩
 have F10:=fun_mk (st:=s_is_late) l10 c10 k10
 have D10:FD K mg "is_late" s_is_late ["thing"] _ _:=⟨F10,PySem.W.mg_of X G a10,F10.binds fun _ _ _ _ _ _ us hl=>match us,hl with | [_],_=>rfl⟩
 have F11:=fun_mk (st:=s_is_deed) l11 c11 k11
 have D11:FD K mg "is_deed" s_is_deed ["thing"] _ _:=⟨F11,PySem.W.mg_of X G a11,F11.binds fun _ _ _ _ _ _ us hl=>match us,hl with | [_],_=>rfl⟩
 have F12:=fun_mk (st:=s_are_deeds) l12 c12 k12
 have D12:FD K mg "are_deeds" s_are_deeds ["thing"] _ _:=⟨F12,PySem.W.mg_of X G a12,F12.binds fun _ _ _ _ _ _ us hl=>match us,hl with | [_],_=>rfl⟩
 have F13:=fun_mk (st:=s_check_zone) l13 c13 k13
 have D13:FD K mg "check_zone" s_check_zone ["thing"] _ _:=⟨F13,PySem.W.mg_of X G a13,F13.binds fun _ _ _ _ _ _ us hl=>match us,hl with | [_],_=>rfl⟩
 have F14:=fun_mk (st:=s_check_moment) l14 c14 k14
 have D14:FD K mg "check_moment" s_check_moment ["thing"] _ _:=⟨F14,PySem.W.mg_of X G a14,F14.binds fun _ _ _ _ _ _ us hl=>match us,hl with | [_],_=>rfl⟩
 have F15:=fun_mk (st:=s_check_deeds) l15 c15 k15
 have D15:FD K mg "check_deeds" s_check_deeds ["thing"] _ _:=⟨F15,PySem.W.mg_of X G a15,F15.binds fun _ _ _ _ _ _ us hl=>match us,hl with | [_],_=>rfl⟩
 have F16:=fun_mk (st:=s_H___init__) l16 c16 k16
 have D16:MD K C_ "__init__" "Hall.__init__" s_H___init__ ["self","zone","deeds"] _ _:=⟨F16,⟨a16,i16,k16⟩,F16.binds fun _ _ _ _ _ _ us hl=>match us,hl with | [_,_,_],_=>rfl⟩
 have F17:=fun_mk (st:=s_H_held) l17 c17 k17
 have D17:MD K C_ "held" "Hall.held" s_H_held ["self"] _ _:=⟨F17,⟨a17,i17,k17⟩,F17.binds fun _ _ _ _ _ _ us hl=>match us,hl with | [_],_=>rfl⟩
 have F18:=fun_mk (st:=s_is_row) l18 c18 k18
 have D18:FD K mg "is_row" s_is_row ["thing"] _ _:=⟨F18,PySem.W.mg_of X G a18,F18.binds fun _ _ _ _ _ _ us hl=>match us,hl with | [_],_=>rfl⟩
 have F19:=fun_mk (st:=s_check_rows) l19 c19 k19
 have D19:FD K mg "check_rows" s_check_rows ["rows"] _ _:=⟨F19,PySem.W.mg_of X G a19,F19.binds fun _ _ _ _ _ _ us hl=>match us,hl with | [_],_=>rfl⟩
 have F20:=fun_mk (st:=s_walked_holds) l20 c20 k20
 have D20:FD K mg "walked_holds" s_walked_holds ["rows"] _ _:=⟨F20,PySem.W.mg_of X G a20,F20.binds fun _ _ _ _ _ _ us hl=>match us,hl with | [_],_=>rfl⟩
 have F21:=fun_mk (st:=s_lasting_holds) l21 c21 k21
 have D21:FD K mg "lasting_holds" s_lasting_holds ["rows"] _ _:=⟨F21,PySem.W.mg_of X G a21,F21.binds fun _ _ _ _ _ _ us hl=>match us,hl with | [_],_=>rfl⟩
 have F22:=fun_mk (st:=s_all_holds) l22 c22 k22
 have D22:FD K mg "all_holds" s_all_holds ["rows"] _ _:=⟨F22,PySem.W.mg_of X G a22,F22.binds fun _ _ _ _ _ _ us hl=>match us,hl with | [_],_=>rfl⟩
 have F23:=fun_mk (st:=s_held_by) l23 c23 k23
 have D23:FD K mg "held_by" s_held_by ["rows"] _ _:=⟨F23,PySem.W.mg_of X G a23,F23.binds fun _ _ _ _ _ _ us hl=>match us,hl with | [_],_=>rfl⟩
 have F24:=fun_mk (st:=s_holder_at) l24 c24 k24
 have D24:FD K mg "holder_at" s_holder_at ["rows","moment"] _ _:=⟨F24,PySem.W.mg_of X G a24,F24.binds fun _ _ _ _ _ _ us hl=>match us,hl with | [_,_],_=>rfl⟩
 have F25:=fun_mk (st:=s_nobody) l25 c25 k25
 have D25:FD K mg "nobody" s_nobody ["rows","last"] _ _:=⟨F25,PySem.W.mg_of X G a25,F25.binds fun _ _ _ _ _ _ us hl=>match us,hl with | [_,_],_=>rfl⟩
 have F26:=fun_mk (st:=s__law_cell_at) l26 c26 k26
 have D26:FD K mg "_law_cell_at" s__law_cell_at ["_law_script","_law_k"] _ _:=⟨F26,PySem.W.mg_of X G a26,F26.binds fun _ _ _ _ _ _ us hl=>match us,hl with | [_,_],_=>rfl⟩
 have F27:=fun_mk (st:=s__law_mixed) l27 c27 k27
 have D27:FD K mg "_law_mixed" s__law_mixed ["_law_script","_law_k","_law_many"] _ _:=⟨F27,PySem.W.mg_of X G a27,F27.binds fun _ _ _ _ _ _ us hl=>match us,hl with | [_,_,_],_=>rfl⟩
 have F28:=fun_mk (st:=s__law_draw) l28 c28 k28
 have D28:FD K mg "_law_draw" s__law_draw ["_law_script","_law_town","_law_many"] _ _:=⟨F28,PySem.W.mg_of X G a28,F28.binds fun _ _ _ _ _ _ us hl=>match us,hl with | [_,_,_],_=>rfl⟩
 have F29:=fun_mk (st:=s__law_pick) l29 c29 k29
 have D29:FD K mg "_law_pick" s__law_pick ["_law_script","_law_town","_law_some"] _ _:=⟨F29,PySem.W.mg_of X G a29,F29.binds fun _ _ _ _ _ _ us hl=>match us,hl with | [_,_,_],_=>rfl⟩
 have F30:=fun_mk (st:=s__law_rows) l30 c30 k30
 have D30:FD K mg "_law_rows" s__law_rows ["_law_script","_law_town","_law_most"] _ _:=⟨F30,PySem.W.mg_of X G a30,F30.binds fun _ _ _ _ _ _ us hl=>match us,hl with | [_,_,_],_=>rfl⟩
 have F31:=fun_mk (st:=s__law_which) l31 c31 k31
 have D31:FD K mg "_law_which" s__law_which ["_law_e"] _ _:=⟨F31,PySem.W.mg_of X G a31,F31.binds fun _ _ _ _ _ _ us hl=>match us,hl with | [_],_=>rfl⟩
 have F32:=fun_mk (st:=s__law_ask) l32 c32 k32
 have D32:FD K mg "_law_ask" s__law_ask ["_law_what","_law_rows_here","_law_moment"] _ _:=⟨F32,PySem.W.mg_of X G a32,F32.binds fun _ _ _ _ _ _ us hl=>match us,hl with | [_,_,_],_=>rfl⟩
 have F33:=fun_mk (st:=s_law) l33 c33 k33
 have D33:FD K mg "law" s_law ["_law_script"] _ _:=⟨F33,PySem.W.mg_of X G a33,F33.binds fun _ _ _ _ _ _ us hl=>match us,hl with | [_],_=>rfl⟩
 have HC:HCx K mg C_:={
  cl:=⟨pg_,hd_,po_,sa_⟩
  mg:=PySem.W.mg_of X G a_Hall
  mks:=mks_
  kpC:=kpC_
  n_begun:=n_begun
  n_deeds:=n_deeds
  n_holder:=n_holder
  n_holds:=n_holds
  n_last:=n_last
  n_rows:=n_rows
  n_settled:=n_settled
  n_until:=n_until
  n_words:=n_words
  n_zone:=n_zone
  d_H___init__:=⟨_,_,D16⟩
  d_H_held:=⟨_,_,D17⟩
 }
 have T:Tx K mg:={
  d_is_whole:=⟨_,_,D0⟩
  d_is_tuple_of:=⟨_,_,D1⟩
  d_is_ahead:=⟨_,_,D2⟩
  d_is_moment:=⟨_,_,D3⟩
  d_is_runner:=⟨_,_,D4⟩
  d_is_term:=⟨_,_,D5⟩
  d_are_shifts:=⟨_,_,D6⟩
  d_is_zone:=⟨_,_,D7⟩
  d_has_word:=⟨_,_,D8⟩
  d_is_plan:=⟨_,_,D9⟩
  d_is_late:=⟨_,_,D10⟩
  d_is_deed:=⟨_,_,D11⟩
  d_are_deeds:=⟨_,_,D12⟩
  d_check_zone:=⟨_,_,D13⟩
  d_check_moment:=⟨_,_,D14⟩
  d_check_deeds:=⟨_,_,D15⟩
  d_is_row:=⟨_,_,D18⟩
  d_check_rows:=⟨_,_,D19⟩
  d_walked_holds:=⟨_,_,D20⟩
  d_lasting_holds:=⟨_,_,D21⟩
  d_all_holds:=⟨_,_,D22⟩
  d_held_by:=⟨_,_,D23⟩
  d_holder_at:=⟨_,_,D24⟩
  d_nobody:=⟨_,_,D25⟩
  d__law_cell_at:=⟨_,_,D26⟩
  d__law_mixed:=⟨_,_,D27⟩
  d__law_draw:=⟨_,_,D28⟩
  d__law_pick:=⟨_,_,D29⟩
  d__law_rows:=⟨_,_,D30⟩
  d__law_which:=⟨_,_,D31⟩
  d__law_ask:=⟨_,_,D32⟩
  c_LAST_MOMENT:=⟨_,PySem.W.mg_of X G v_LAST_MOMENT⟩
  c_LAST_HOUR:=⟨_,PySem.W.mg_of X G v_LAST_HOUR⟩
  c_LEAST_AHEAD:=⟨_,PySem.W.mg_of X G v_LEAST_AHEAD⟩
  c_MOST_AHEAD:=⟨_,PySem.W.mg_of X G v_MOST_AHEAD⟩
  c_MOST_SHIFTS:=⟨_,PySem.W.mg_of X G v_MOST_SHIFTS⟩
  c_MOST_STEP:=⟨_,PySem.W.mg_of X G v_MOST_STEP⟩
  c_MOST_DEEDS:=⟨_,PySem.W.mg_of X G v_MOST_DEEDS⟩
  c_MOST_WITHIN:=⟨_,PySem.W.mg_of X G v_MOST_WITHIN⟩
  c_LAST_RUNNER:=⟨_,PySem.W.mg_of X G v_LAST_RUNNER⟩
  c_MOST_TERM:=⟨_,PySem.W.mg_of X G v_MOST_TERM⟩
  c_ANY_ZONE:=⟨_,PySem.W.mg_of X G v_ANY_ZONE⟩
  c_NO_DEEDS:=⟨_,PySem.W.mg_of X G v_NO_DEEDS⟩
  b_ValueError:=PySem.W.mg_none_of X G z_ValueError
  b_all:=PySem.W.mg_none_of X G z_all
  b_bool:=PySem.W.mg_none_of X G z_bool
  b_int:=PySem.W.mg_none_of X G z_int
  b_isinstance:=PySem.W.mg_none_of X G z_isinstance
  b_len:=PySem.W.mg_none_of X G z_len
  b_list:=PySem.W.mg_none_of X G z_list
  b_min:=PySem.W.mg_none_of X G z_min
  b_range:=PySem.W.mg_none_of X G z_range
  b_sorted:=PySem.W.mg_none_of X G z_sorted
  b_str:=PySem.W.mg_none_of X G z_str
  b_tuple:=PySem.W.mg_none_of X G z_tuple
  xt0:=⟨D_,⟨⟨PySem.W.mg_of X G a_Due,a_Due,x_Due⟩,x_tab,fun c C e=>PySem.W.mg_of X G e⟩⟩
 }
 exact ⟨PySem.W.fnOf "law" "law" (defArgs s_law) (defBody s_law) (defScope s_law) .none kV33 dc33 pm33 an33 cd33 ct33,K,HG,fun s v=>.of_eq rfl,X,tg,gh,fun base _ _=>(ok_law _ _ _ T HC D33).imp fun vs H Q E h=>scr_ok h.1 (fun ns hn=>law_true hn) h.2⟩
theorem law_walk {l:PySem.W.OpenLaw} {q:Program} {loose:List Str} {XP:(Str->Option Value)->Heap->Prop} {YP:World->Heap->Prop} {d:DefRec} {K:Params->PySem.W.Frag} (hn:l.most=some 63) (hdf:d.params.defaults=[])
  (hY:∀ (w:World) (h:Heap),YP w h->(K w.params).In h)
  (F:∀ (w:World) (mg:Str->Option Value) (fa:Addr) (h:Heap),(K w.params).In h->h.Ns mainGlobals mg->mg d.name=some (.ref fa)->
   ∃ (fd:FuncData) (K':PySem.W.Frag) (HG:Hp),(∀ (s:Shared) (u:Value),BindsTo s fd ⟨[u],[]⟩ [("_law_script",u)])/\K'.In h/\(∀ b u,HG b=some u->TupG K' h b u)/\GH mg HG/\∀ base:Heap,K'.In base->base.Ns mainGlobals mg->FnOk l.prog w K' mg base (CXM l.prog w) 13 fa fd ["_law_script"] (spT K' mg)) :
  PySem.W.WalkO q loose XP YP l.row.toRowW d [] (fun f vs=>PySem.call f vs):=
 walk_ofG (k:=13) (x:="_law_script") (CX:=fun w=>CXM l.prog w) hn hdf ⟨rfl,by decide,by decide⟩ hY F fun _ _ _ _ _ ⟨_,_,_,_,_,_,_,_,_,z⟩=>z
end K3
def PySem.W.Fast.tw10608388899403905488 : Unit := ()
def PySem.W.Fast.tw10765480905276428130 : Unit := ()
def PySem.W.Fast.tw11284616093688745387 : Unit := ()
def PySem.W.Fast.tw11428256269377720103 : Unit := ()
def PySem.W.Fast.tw12431132388645306329 : Unit := ()
def PySem.W.Fast.tw14265386888139869706 : Unit := ()
def PySem.W.Fast.tw15206141153156721816 : Unit := ()
def PySem.W.Fast.tw15349734533920533196 : Unit := ()
def PySem.W.Fast.tw15423932487467724349 : Unit := ()
def PySem.W.Fast.tw16145347632979163131 : Unit := ()
def PySem.W.Fast.tw1771721120356504946 : Unit := ()
def PySem.W.Fast.tw17830696380273957084 : Unit := ()
def PySem.W.Fast.tw3266957017941465415 : Unit := ()
def PySem.W.Fast.tw4792523374981346204 : Unit := ()
def PySem.W.Fast.tw5213695760856066261 : Unit := ()
def PySem.W.Fast.tw5415367158879924311 : Unit := ()
def PySem.W.Fast.tw5535012131061740775 : Unit := ()
def PySem.W.Fast.tw5618647493704501190 : Unit := ()
def PySem.W.Fast.tw6119624791368942110 : Unit := ()
def PySem.W.Fast.tw6676943509118680726 : Unit := ()
def PySem.W.Fast.tw7028830958929915321 : Unit := ()
def PySem.W.Fast.tw7466126295202543144 : Unit := ()
def PySem.W.Fast.tw7522871678914038898 : Unit := ()
def PySem.W.Fast.tw8397245607193791957 : Unit := ()
def PySem.W.Fast.tw8716823078835294801 : Unit := ()
def PySem.W.Fast.tw8928447458699159382 : Unit := ()
def PySem.W.Fast.tw9706410655953880031 : Unit := ()
open PySem PySem.W PyProof.Rows
set_option maxRecDepth 100000 in
set_option maxHeartbeats 0 in
theorem PySem.Challenge.cw_duehall_k27_holding_refused_holds : PySem.Challenge.rw_duehall_k27_holding_refused.Holds := by
  w_on; o_law; k_head; (case hw => w_witness2)
  k_fill
  refine K3.law_walk (l := PySem.Challenge.rw_duehall_k27_holding_refused) rfl rfl (fun w h Y => PySem.W.kIn_of Y) ?F
  case F =>
    intro w mg fa h KX G hmg
    refine' K3.all_mk KX G hmg ?v_ANY_ZONEq ?w1q ?w2q ?v_NO_DEEDSq ?w3q ?a_Hallq ?a_is_wholeq ?l_is_wholeq ?c_is_wholeq ?k_is_wholeq ?a_is_tuple_ofq ?l_is_tuple_ofq ?c_is_tuple_ofq ?k_is_tuple_ofq ?a_is_aheadq ?l_is_aheadq ?c_is_aheadq ?k_is_aheadq ?a_is_momentq ?l_is_momentq ?c_is_momentq ?k_is_momentq ?a_is_runnerq ?l_is_runnerq ?c_is_runnerq ?k_is_runnerq ?a_is_termq ?l_is_termq ?c_is_termq ?k_is_termq ?a_are_shiftsq ?l_are_shiftsq ?c_are_shiftsq ?k_are_shiftsq ?a_is_zoneq ?l_is_zoneq ?c_is_zoneq ?k_is_zoneq ?a_has_wordq ?l_has_wordq ?c_has_wordq ?k_has_wordq ?a_is_planq ?l_is_planq ?c_is_planq ?k_is_planq ?a_is_lateq ?l_is_lateq ?c_is_lateq ?k_is_lateq ?a_is_deedq ?l_is_deedq ?c_is_deedq ?k_is_deedq ?a_are_deedsq ?l_are_deedsq ?c_are_deedsq ?k_are_deedsq ?a_check_zoneq ?l_check_zoneq ?c_check_zoneq ?k_check_zoneq ?a_check_momentq ?l_check_momentq ?c_check_momentq ?k_check_momentq ?a_check_deedsq ?l_check_deedsq ?c_check_deedsq ?k_check_deedsq ?a_H___init__q ?i_H___init__q ?l_H___init__q ?c_H___init__q ?k_H___init__q ?a_H_heldq ?i_H_heldq ?l_H_heldq ?c_H_heldq ?k_H_heldq ?a_is_rowq ?l_is_rowq ?c_is_rowq ?k_is_rowq ?a_check_rowsq ?l_check_rowsq ?c_check_rowsq ?k_check_rowsq ?a_walked_holdsq ?l_walked_holdsq ?c_walked_holdsq ?k_walked_holdsq ?a_lasting_holdsq ?l_lasting_holdsq ?c_lasting_holdsq ?k_lasting_holdsq ?a_all_holdsq ?l_all_holdsq ?c_all_holdsq ?k_all_holdsq ?a_held_byq ?l_held_byq ?c_held_byq ?k_held_byq ?a_holder_atq ?l_holder_atq ?c_holder_atq ?k_holder_atq ?a_nobodyq ?l_nobodyq ?c_nobodyq ?k_nobodyq ?a__law_cell_atq ?l__law_cell_atq ?c__law_cell_atq ?k__law_cell_atq ?a__law_mixedq ?l__law_mixedq ?c__law_mixedq ?k__law_mixedq ?a__law_drawq ?l__law_drawq ?c__law_drawq ?k__law_drawq ?a__law_pickq ?l__law_pickq ?c__law_pickq ?k__law_pickq ?a__law_rowsq ?l__law_rowsq ?c__law_rowsq ?k__law_rowsq ?a__law_whichq ?l__law_whichq ?c__law_whichq ?k__law_whichq ?a__law_askq ?l__law_askq ?c__law_askq ?k__law_askq ?a_lawq ?l_lawq ?c_lawq ?k_lawq ?v_LAST_MOMENTq ?v_LAST_HOURq ?v_LEAST_AHEADq ?v_MOST_AHEADq ?v_MOST_SHIFTSq ?v_MOST_STEPq ?v_MOST_DEEDSq ?v_MOST_WITHINq ?v_LAST_RUNNERq ?v_MOST_TERMq ?z_ValueErrorq ?z_allq ?z_boolq ?z_intq ?z_isinstanceq ?z_lenq ?z_listq ?z_minq ?z_rangeq ?z_sortedq ?z_strq ?z_tupleq ?pg_q ?hd_q ?po_q ?sa_q ?mks_q ?kpC_q ?n_begunq ?n_deedsq ?n_holderq ?n_holdsq ?n_lastq ?n_rowsq ?n_settledq ?n_untilq ?n_wordsq ?n_zoneq ?a_Dueq ?v_ANY_ZONE ?v_NO_DEEDS ?a_Hall ?a0 ?l0 ?c0 ?k0 ?a1 ?l1 ?c1 ?k1 ?a2 ?l2 ?c2 ?k2 ?a3 ?l3 ?c3 ?k3 ?a4 ?l4 ?c4 ?k4 ?a5 ?l5 ?c5 ?k5 ?a6 ?l6 ?c6 ?k6 ?a7 ?l7 ?c7 ?k7 ?a8 ?l8 ?c8 ?k8 ?a9 ?l9 ?c9 ?k9 ?a10 ?l10 ?c10 ?k10 ?a11 ?l11 ?c11 ?k11 ?a12 ?l12 ?c12 ?k12 ?a13 ?l13 ?c13 ?k13 ?a14 ?l14 ?c14 ?k14 ?a15 ?l15 ?c15 ?k15 ?a16 ?i16 ?l16 ?c16 ?k16 ?a17 ?i17 ?l17 ?c17 ?k17 ?a18 ?l18 ?c18 ?k18 ?a19 ?l19 ?c19 ?k19 ?a20 ?l20 ?c20 ?k20 ?a21 ?l21 ?c21 ?k21 ?a22 ?l22 ?c22 ?k22 ?a23 ?l23 ?c23 ?k23 ?a24 ?l24 ?c24 ?k24 ?a25 ?l25 ?c25 ?k25 ?a26 ?l26 ?c26 ?k26 ?a27 ?l27 ?c27 ?k27 ?a28 ?l28 ?c28 ?k28 ?a29 ?l29 ?c29 ?k29 ?a30 ?l30 ?c30 ?k30 ?a31 ?l31 ?c31 ?k31 ?a32 ?l32 ?c32 ?k32 ?a33 ?l33 ?c33 ?k33 ?v_LAST_MOMENT ?v_LAST_HOUR ?v_LEAST_AHEAD ?v_MOST_AHEAD ?v_MOST_SHIFTS ?v_MOST_STEP ?v_MOST_DEEDS ?v_MOST_WITHIN ?v_LAST_RUNNER ?v_MOST_TERM ?z_ValueError ?z_all ?z_bool ?z_int ?z_isinstance ?z_len ?z_list ?z_min ?z_range ?z_sorted ?z_str ?z_tuple ?pg_ ?hd_ ?po_ ?sa_ ?mks_ ?kpC_ ?n_begun ?n_deeds ?n_holder ?n_holds ?n_last ?n_rows ?n_settled ?n_until ?n_words ?n_zone ?a_Due ?x_Due ?x_tab
    (case v_ANY_ZONEq => k_is)
    (case w1q => k_is)
    (case w2q => k_is)
    (case v_NO_DEEDSq => k_is)
    (case w3q => k_is)
    (case a_Hallq => k_is)
    (case a_is_wholeq => k_is)
    (case l_is_wholeq => k_is)
    (case c_is_wholeq => k_is)
    (case k_is_wholeq => k_is)
    (case a_is_tuple_ofq => k_is)
    (case l_is_tuple_ofq => k_is)
    (case c_is_tuple_ofq => k_is)
    (case k_is_tuple_ofq => k_is)
    (case a_is_aheadq => k_is)
    (case l_is_aheadq => k_is)
    (case c_is_aheadq => k_is)
    (case k_is_aheadq => k_is)
    (case a_is_momentq => k_is)
    (case l_is_momentq => k_is)
    (case c_is_momentq => k_is)
    (case k_is_momentq => k_is)
    (case a_is_runnerq => k_is)
    (case l_is_runnerq => k_is)
    (case c_is_runnerq => k_is)
    (case k_is_runnerq => k_is)
    (case a_is_termq => k_is)
    (case l_is_termq => k_is)
    (case c_is_termq => k_is)
    (case k_is_termq => k_is)
    (case a_are_shiftsq => k_is)
    (case l_are_shiftsq => k_is)
    (case c_are_shiftsq => k_is)
    (case k_are_shiftsq => k_is)
    (case a_is_zoneq => k_is)
    (case l_is_zoneq => k_is)
    (case c_is_zoneq => k_is)
    (case k_is_zoneq => k_is)
    (case a_has_wordq => k_is)
    (case l_has_wordq => k_is)
    (case c_has_wordq => k_is)
    (case k_has_wordq => k_is)
    (case a_is_planq => k_is)
    (case l_is_planq => k_is)
    (case c_is_planq => k_is)
    (case k_is_planq => k_is)
    (case a_is_lateq => k_is)
    (case l_is_lateq => k_is)
    (case c_is_lateq => k_is)
    (case k_is_lateq => k_is)
    (case a_is_deedq => k_is)
    (case l_is_deedq => k_is)
    (case c_is_deedq => k_is)
    (case k_is_deedq => k_is)
    (case a_are_deedsq => k_is)
    (case l_are_deedsq => k_is)
    (case c_are_deedsq => k_is)
    (case k_are_deedsq => k_is)
    (case a_check_zoneq => k_is)
    (case l_check_zoneq => k_is)
    (case c_check_zoneq => k_is)
    (case k_check_zoneq => k_is)
    (case a_check_momentq => k_is)
    (case l_check_momentq => k_is)
    (case c_check_momentq => k_is)
    (case k_check_momentq => k_is)
    (case a_check_deedsq => k_is)
    (case l_check_deedsq => k_is)
    (case c_check_deedsq => k_is)
    (case k_check_deedsq => k_is)
    (case a_H___init__q => k_is)
    (case i_H___init__q => k_is)
    (case l_H___init__q => k_is)
    (case c_H___init__q => k_is)
    (case k_H___init__q => k_is)
    (case a_H_heldq => k_is)
    (case i_H_heldq => k_is)
    (case l_H_heldq => k_is)
    (case c_H_heldq => k_is)
    (case k_H_heldq => k_is)
    (case a_is_rowq => k_is)
    (case l_is_rowq => k_is)
    (case c_is_rowq => k_is)
    (case k_is_rowq => k_is)
    (case a_check_rowsq => k_is)
    (case l_check_rowsq => k_is)
    (case c_check_rowsq => k_is)
    (case k_check_rowsq => k_is)
    (case a_walked_holdsq => k_is)
    (case l_walked_holdsq => k_is)
    (case c_walked_holdsq => k_is)
    (case k_walked_holdsq => k_is)
    (case a_lasting_holdsq => k_is)
    (case l_lasting_holdsq => k_is)
    (case c_lasting_holdsq => k_is)
    (case k_lasting_holdsq => k_is)
    (case a_all_holdsq => k_is)
    (case l_all_holdsq => k_is)
    (case c_all_holdsq => k_is)
    (case k_all_holdsq => k_is)
    (case a_held_byq => k_is)
    (case l_held_byq => k_is)
    (case c_held_byq => k_is)
    (case k_held_byq => k_is)
    (case a_holder_atq => k_is)
    (case l_holder_atq => k_is)
    (case c_holder_atq => k_is)
    (case k_holder_atq => k_is)
    (case a_nobodyq => k_is)
    (case l_nobodyq => k_is)
    (case c_nobodyq => k_is)
    (case k_nobodyq => k_is)
    (case a__law_cell_atq => k_is)
    (case l__law_cell_atq => k_is)
    (case c__law_cell_atq => k_is)
    (case k__law_cell_atq => k_is)
    (case a__law_mixedq => k_is)
    (case l__law_mixedq => k_is)
    (case c__law_mixedq => k_is)
    (case k__law_mixedq => k_is)
    (case a__law_drawq => k_is)
    (case l__law_drawq => k_is)
    (case c__law_drawq => k_is)
    (case k__law_drawq => k_is)
    (case a__law_pickq => k_is)
    (case l__law_pickq => k_is)
    (case c__law_pickq => k_is)
    (case k__law_pickq => k_is)
    (case a__law_rowsq => k_is)
    (case l__law_rowsq => k_is)
    (case c__law_rowsq => k_is)
    (case k__law_rowsq => k_is)
    (case a__law_whichq => k_is)
    (case l__law_whichq => k_is)
    (case c__law_whichq => k_is)
    (case k__law_whichq => k_is)
    (case a__law_askq => k_is)
    (case l__law_askq => k_is)
    (case c__law_askq => k_is)
    (case k__law_askq => k_is)
    (case a_lawq => k_is)
    (case l_lawq => k_is)
    (case c_lawq => k_is)
    (case k_lawq => k_is)
    (case v_LAST_MOMENTq => k_is)
    (case v_LAST_HOURq => k_is)
    (case v_LEAST_AHEADq => k_is)
    (case v_MOST_AHEADq => k_is)
    (case v_MOST_SHIFTSq => k_is)
    (case v_MOST_STEPq => k_is)
    (case v_MOST_DEEDSq => k_is)
    (case v_MOST_WITHINq => k_is)
    (case v_LAST_RUNNERq => k_is)
    (case v_MOST_TERMq => k_is)
    (case z_ValueErrorq => k_is)
    (case z_allq => k_is)
    (case z_boolq => k_is)
    (case z_intq => k_is)
    (case z_isinstanceq => k_is)
    (case z_lenq => k_is)
    (case z_listq => k_is)
    (case z_minq => k_is)
    (case z_rangeq => k_is)
    (case z_sortedq => k_is)
    (case z_strq => k_is)
    (case z_tupleq => k_is)
    (case pg_q => k_is)
    (case hd_q => k_is)
    (case po_q => k_is)
    (case sa_q => k_is)
    (case mks_q => k_is)
    (case kpC_q => k_is)
    (case n_begunq => k_is)
    (case n_deedsq => k_is)
    (case n_holderq => k_is)
    (case n_holdsq => k_is)
    (case n_lastq => k_is)
    (case n_rowsq => k_is)
    (case n_settledq => k_is)
    (case n_untilq => k_is)
    (case n_wordsq => k_is)
    (case n_zoneq => k_is)
    (case a_Dueq => k_is)
    (case v_ANY_ZONE => first | kernel_rfl | rfl)
    (case v_NO_DEEDS => first | kernel_rfl | rfl)
    (case a_Hall => first | kernel_rfl | rfl)
    (case a0 => first | kernel_rfl | rfl)
    (case l0 => first | kernel_rfl | rfl)
    (case c0 => first | kernel_rfl | rfl)
    (case k0 => first | kernel_rfl | rfl)
    (case a1 => first | kernel_rfl | rfl)
    (case l1 => first | kernel_rfl | rfl)
    (case c1 => first | kernel_rfl | rfl)
    (case k1 => first | kernel_rfl | rfl)
    (case a2 => first | kernel_rfl | rfl)
    (case l2 => first | kernel_rfl | rfl)
    (case c2 => first | kernel_rfl | rfl)
    (case k2 => first | kernel_rfl | rfl)
    (case a3 => first | kernel_rfl | rfl)
    (case l3 => first | kernel_rfl | rfl)
    (case c3 => first | kernel_rfl | rfl)
    (case k3 => first | kernel_rfl | rfl)
    (case a4 => first | kernel_rfl | rfl)
    (case l4 => first | kernel_rfl | rfl)
    (case c4 => first | kernel_rfl | rfl)
    (case k4 => first | kernel_rfl | rfl)
    (case a5 => first | kernel_rfl | rfl)
    (case l5 => first | kernel_rfl | rfl)
    (case c5 => first | kernel_rfl | rfl)
    (case k5 => first | kernel_rfl | rfl)
    (case a6 => first | kernel_rfl | rfl)
    (case l6 => first | kernel_rfl | rfl)
    (case c6 => first | kernel_rfl | rfl)
    (case k6 => first | kernel_rfl | rfl)
    (case a7 => first | kernel_rfl | rfl)
    (case l7 => first | kernel_rfl | rfl)
    (case c7 => first | kernel_rfl | rfl)
    (case k7 => first | kernel_rfl | rfl)
    (case a8 => first | kernel_rfl | rfl)
    (case l8 => first | kernel_rfl | rfl)
    (case c8 => first | kernel_rfl | rfl)
    (case k8 => first | kernel_rfl | rfl)
    (case a9 => first | kernel_rfl | rfl)
    (case l9 => first | kernel_rfl | rfl)
    (case c9 => first | kernel_rfl | rfl)
    (case k9 => first | kernel_rfl | rfl)
    (case a10 => first | kernel_rfl | rfl)
    (case l10 => first | kernel_rfl | rfl)
    (case c10 => first | kernel_rfl | rfl)
    (case k10 => first | kernel_rfl | rfl)
    (case a11 => first | kernel_rfl | rfl)
    (case l11 => first | kernel_rfl | rfl)
    (case c11 => first | kernel_rfl | rfl)
    (case k11 => first | kernel_rfl | rfl)
    (case a12 => first | kernel_rfl | rfl)
    (case l12 => first | kernel_rfl | rfl)
    (case c12 => first | kernel_rfl | rfl)
    (case k12 => first | kernel_rfl | rfl)
    (case a13 => first | kernel_rfl | rfl)
    (case l13 => first | kernel_rfl | rfl)
    (case c13 => first | kernel_rfl | rfl)
    (case k13 => first | kernel_rfl | rfl)
    (case a14 => first | kernel_rfl | rfl)
    (case l14 => first | kernel_rfl | rfl)
    (case c14 => first | kernel_rfl | rfl)
    (case k14 => first | kernel_rfl | rfl)
    (case a15 => first | kernel_rfl | rfl)
    (case l15 => first | kernel_rfl | rfl)
    (case c15 => first | kernel_rfl | rfl)
    (case k15 => first | kernel_rfl | rfl)
    (case a16 => first | kernel_rfl | rfl)
    (case i16 => first | kernel_rfl | rfl)
    (case l16 => first | kernel_rfl | rfl)
    (case c16 => first | kernel_rfl | rfl)
    (case k16 => first | kernel_rfl | rfl)
    (case a17 => first | kernel_rfl | rfl)
    (case i17 => first | kernel_rfl | rfl)
    (case l17 => first | kernel_rfl | rfl)
    (case c17 => first | kernel_rfl | rfl)
    (case k17 => first | kernel_rfl | rfl)
    (case a18 => first | kernel_rfl | rfl)
    (case l18 => first | kernel_rfl | rfl)
    (case c18 => first | kernel_rfl | rfl)
    (case k18 => first | kernel_rfl | rfl)
    (case a19 => first | kernel_rfl | rfl)
    (case l19 => first | kernel_rfl | rfl)
    (case c19 => first | kernel_rfl | rfl)
    (case k19 => first | kernel_rfl | rfl)
    (case a20 => first | kernel_rfl | rfl)
    (case l20 => first | kernel_rfl | rfl)
    (case c20 => first | kernel_rfl | rfl)
    (case k20 => first | kernel_rfl | rfl)
    (case a21 => first | kernel_rfl | rfl)
    (case l21 => first | kernel_rfl | rfl)
    (case c21 => first | kernel_rfl | rfl)
    (case k21 => first | kernel_rfl | rfl)
    (case a22 => first | kernel_rfl | rfl)
    (case l22 => first | kernel_rfl | rfl)
    (case c22 => first | kernel_rfl | rfl)
    (case k22 => first | kernel_rfl | rfl)
    (case a23 => first | kernel_rfl | rfl)
    (case l23 => first | kernel_rfl | rfl)
    (case c23 => first | kernel_rfl | rfl)
    (case k23 => first | kernel_rfl | rfl)
    (case a24 => first | kernel_rfl | rfl)
    (case l24 => first | kernel_rfl | rfl)
    (case c24 => first | kernel_rfl | rfl)
    (case k24 => first | kernel_rfl | rfl)
    (case a25 => first | kernel_rfl | rfl)
    (case l25 => first | kernel_rfl | rfl)
    (case c25 => first | kernel_rfl | rfl)
    (case k25 => first | kernel_rfl | rfl)
    (case a26 => first | kernel_rfl | rfl)
    (case l26 => first | kernel_rfl | rfl)
    (case c26 => first | kernel_rfl | rfl)
    (case k26 => first | kernel_rfl | rfl)
    (case a27 => first | kernel_rfl | rfl)
    (case l27 => first | kernel_rfl | rfl)
    (case c27 => first | kernel_rfl | rfl)
    (case k27 => first | kernel_rfl | rfl)
    (case a28 => first | kernel_rfl | rfl)
    (case l28 => first | kernel_rfl | rfl)
    (case c28 => first | kernel_rfl | rfl)
    (case k28 => first | kernel_rfl | rfl)
    (case a29 => first | kernel_rfl | rfl)
    (case l29 => first | kernel_rfl | rfl)
    (case c29 => first | kernel_rfl | rfl)
    (case k29 => first | kernel_rfl | rfl)
    (case a30 => first | kernel_rfl | rfl)
    (case l30 => first | kernel_rfl | rfl)
    (case c30 => first | kernel_rfl | rfl)
    (case k30 => first | kernel_rfl | rfl)
    (case a31 => first | kernel_rfl | rfl)
    (case l31 => first | kernel_rfl | rfl)
    (case c31 => first | kernel_rfl | rfl)
    (case k31 => first | kernel_rfl | rfl)
    (case a32 => first | kernel_rfl | rfl)
    (case l32 => first | kernel_rfl | rfl)
    (case c32 => first | kernel_rfl | rfl)
    (case k32 => first | kernel_rfl | rfl)
    (case a33 => first | kernel_rfl | rfl)
    (case l33 => first | kernel_rfl | rfl)
    (case c33 => first | kernel_rfl | rfl)
    (case k33 => first | kernel_rfl | rfl)
    (case v_LAST_MOMENT => first | kernel_rfl | rfl)
    (case v_LAST_HOUR => first | kernel_rfl | rfl)
    (case v_LEAST_AHEAD => first | kernel_rfl | rfl)
    (case v_MOST_AHEAD => first | kernel_rfl | rfl)
    (case v_MOST_SHIFTS => first | kernel_rfl | rfl)
    (case v_MOST_STEP => first | kernel_rfl | rfl)
    (case v_MOST_DEEDS => first | kernel_rfl | rfl)
    (case v_MOST_WITHIN => first | kernel_rfl | rfl)
    (case v_LAST_RUNNER => first | kernel_rfl | rfl)
    (case v_MOST_TERM => first | kernel_rfl | rfl)
    (case z_ValueError => first | kernel_rfl | rfl)
    (case z_all => first | kernel_rfl | rfl)
    (case z_bool => first | kernel_rfl | rfl)
    (case z_int => first | kernel_rfl | rfl)
    (case z_isinstance => first | kernel_rfl | rfl)
    (case z_len => first | kernel_rfl | rfl)
    (case z_list => first | kernel_rfl | rfl)
    (case z_min => first | kernel_rfl | rfl)
    (case z_range => first | kernel_rfl | rfl)
    (case z_sorted => first | kernel_rfl | rfl)
    (case z_str => first | kernel_rfl | rfl)
    (case z_tuple => first | kernel_rfl | rfl)
    (case pg_ => first | kernel_rfl | rfl)
    (case hd_ => first | kernel_rfl | rfl)
    (case po_ => first | kernel_rfl | rfl)
    (case sa_ => first | kernel_rfl | rfl)
    (case mks_ => first | kernel_rfl | rfl)
    (case kpC_ => first | kernel_rfl | rfl)
    (case n_begun => first | kernel_rfl | rfl)
    (case n_deeds => first | kernel_rfl | rfl)
    (case n_holder => first | kernel_rfl | rfl)
    (case n_holds => first | kernel_rfl | rfl)
    (case n_last => first | kernel_rfl | rfl)
    (case n_rows => first | kernel_rfl | rfl)
    (case n_settled => first | kernel_rfl | rfl)
    (case n_until => first | kernel_rfl | rfl)
    (case n_words => first | kernel_rfl | rfl)
    (case n_zone => first | kernel_rfl | rfl)
    (case a_Due => first | kernel_rfl | rfl)
    (case x_Due => first | kernel_rfl | rfl)
    (case x_tab => first | kernel_rfl | rfl)
