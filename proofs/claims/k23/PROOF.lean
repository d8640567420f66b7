import PyProof.Rows.All
import Wide.All
import OpenK.AllK
import Wide.FinOn
import Lean
import PyProof.EqAt
import PyProof.EqKinds
import PyProof.TupleCall
import PySem.Challenge.RW_duehall_k23_whole_zone_texts
set_option Elab.async false
set_option linter.all false
set_option maxRecDepth 100000
namespace L2
open PySem PySem.Spec PyProof.Rows
noncomputable abbrev Key:=Sum Int Str
noncomputable def keyIs:Key->Value->Bool
 | .inl k,v=>Value.isInt k v
 | .inr x,v=>Value.isStrOf x v
noncomputable def keyH (w:World):Key->Int
 | .inl k=>hashInt k
 | .inr x=>hashStr w x
theorem keyIs_shape:∀ {k:Key} {v:Value},keyIs k v=true->(∃ i t,k=Sum.inl i/\v=Value.int i t)\/(∃ x t,k=Sum.inr x/\v=Value.str x t)
 | .inl i,v,h=>by
  obtain ⟨t,e⟩:=Value.isInt_shape (k:=i) (v:=v) h
  exact .inl ⟨i,t,rfl,e⟩
 | .inr x,v,h=>by
  obtain ⟨t,e⟩:=Value.isStrOf_shape (x:=x) (v:=v) h
  exact .inr ⟨x,t,rfl,e⟩
theorem keyIs_int (i:Int) (t:Tok):keyIs (.inl i) (.int i t)=true:=by simp [keyIs,Value.isInt]
theorem keyIs_str (x:Str) (t:Tok):keyIs (.inr x) (.str x t)=true:=by simp [keyIs,Value.isStrOf]
theorem key_ll (a b:Int):decide ((Sum.inl a:Key)=Sum.inl b)=(a == b):=by
 by_cases e:a=b
 ·subst e; simp
 ·have h:¬ (Sum.inl a:Key)=Sum.inl b:=fun q=>e (Sum.inl.inj q)
  rw [decide_eq_false h]
  exact (beq_eq_false_iff_ne.mpr e).symm
theorem key_rr (a b:Str):decide ((Sum.inr a:Key)=Sum.inr b)=decide (a=b):=by
 by_cases e:a=b
 ·subst e; simp
 ·have h:¬ (Sum.inr a:Key)=Sum.inr b:=fun q=>e (Sum.inr.inj q)
  rw [decide_eq_false h,decide_eq_false e]
theorem key_lr (a:Int) (b:Str):decide ((Sum.inl a:Key)=Sum.inr b)=false:=decide_eq_false (fun q=>nomatch q)
theorem key_rl (a:Str) (b:Int):decide ((Sum.inr a:Key)=Sum.inl b)=false:=decide_eq_false (fun q=>nomatch q)
noncomputable def mixKind (prog:Program) (w:World):PySem.KeyKind prog w Key where
 is:=keyIs
 hash:=keyH w
 inj:=fun v a b ha hb=>by
  rcases keyIs_shape ha with ⟨i,t,rfl,rfl⟩ | ⟨x,t,rfl,rfl⟩
  ·rcases keyIs_shape hb with ⟨j,u,rfl,e⟩ | ⟨y,u,rfl,e⟩
   ·injection e with e1 _; rw [e1]
   ·exact nomatch e
  ·rcases keyIs_shape hb with ⟨j,u,rfl,e⟩ | ⟨y,u,rfl,e⟩
   ·exact nomatch e
   ·injection e with e1 _; rw [e1]
 byValue:=fun k v h=>by
  rcases keyIs_shape h with ⟨i,t,rfl,rfl⟩ | ⟨x,t,rfl,rfl⟩ <;> rfl
 pyHash:=fun hv h=>by
  rcases keyIs_shape hv with ⟨i,t,rfl,rfl⟩ | ⟨x,t,rfl,rfl⟩
  ·exact wpAny_pyHash_int h
  ·exact wpAny_pyHash_str h
 eqBool:=fun hu hv h=>by
  rcases keyIs_shape hu with ⟨i,t,rfl,rfl⟩ | ⟨x,t,rfl,rfl⟩
  ·rcases keyIs_shape hv with ⟨j,u,rfl,rfl⟩ | ⟨y,u,rfl,rfl⟩
   ·rw [key_ll] at h; exact wpAny_eqBool_int h
   ·rw [key_lr] at h; exact SeqAt.EqAt.int_str i t y u _ _ _ _ h
  ·rcases keyIs_shape hv with ⟨j,u,rfl,rfl⟩ | ⟨y,u,rfl,rfl⟩
   ·rw [key_rl] at h; exact SeqAt.EqAt.str_int x t j u _ _ _ _ h
   ·rw [key_rr] at h; exact wpAny_eqBool_str h
 «strs»:=fun k x t v h=>by
  rcases keyIs_shape h with ⟨i,u,rfl,e⟩ | ⟨y,u,rfl,e⟩
  ·exact nomatch e
  ·injection e with e1 _
   subst e1
   cases v <;> rfl
theorem mixKind_int (prog:Program) (w:World) (i:Int) (t:Tok):(mixKind prog w).is (.inl i) (.int i t)=true:=keyIs_int i t
theorem mixKind_str (prog:Program) (w:World) (x:Str) (t:Tok):(mixKind prog w).is (.inr x) (.str x t)=true:=keyIs_str x t
end L2
namespace L2
open PySem PySem.Spec PyProof.Rows
inductive V where
 | non | bl (b:Bool) | int (i:Int) | str (x:Str) | byt (b:Array UInt8) | flt (b:UInt64) | ref (a:Addr) | ty (n:String)
 deriving DecidableEq
noncomputable def RelV:V->Value->Prop
 | .non,u=>u=Value.none
 | .bl b,u=>u=Value.bool b
 | .int i,u=>∃ t,u=Value.int i t
 | .str x,u=>∃ t,u=Value.str x t
 | .byt b,u=>∃ t,u=Value.bytes b t
 | .flt b,u=>∃ t,u=Value.float b t
 | .ref a,u=>u=Value.ref a
 | .ty n,u=>u=Value.type n
noncomputable abbrev Vals:List V->List Value->Prop:=Paired RelV
theorem Vals.length {xs:List V} {us:List Value} (r:Vals xs us):xs.length=us.length:=Paired.length r
theorem Vals.get:∀ {xs:List V} {us:List Value} {i:Nat} {x:V},Vals xs us->xs[i]? = some x->∃ u,us[i]? = some u/\RelV x u
 | _,_,_,_,.nil,e=>by simp at e
 | _,_,0,_,.cons r _,e=>by simp at e; subst e; exact ⟨_,rfl,r⟩
 | _,_,i + 1,x,.cons _ t,e=>by
  obtain ⟨u,h1,h2⟩:=Vals.get (i:=i) (x:=x) t (by simpa using e)
  exact ⟨u,by simpa using h1,h2⟩
theorem Vals.append:∀ {xs ys:List V} {us ws:List Value},Vals xs us->Vals ys ws->Vals (xs ++ ys) (us ++ ws)
 | _,_,_,_,.nil,s=>s
 | _,_,_,_,.cons r t,s=>.cons r (Vals.append t s)
theorem Vals.take:∀ {xs:List V} {us:List Value} (n:Nat),Vals xs us->Vals (xs.take n) (us.take n)
 | _,_,0,_=>.nil
 | _,_,_ + 1,.nil=>.nil
 | _,_,n + 1,.cons r t=>.cons r (Vals.take n t)
theorem Vals.drop:∀ {xs:List V} {us:List Value} (n:Nat),Vals xs us->Vals (xs.drop n) (us.drop n)
 | _,_,0,r=>r
 | _,_,_ + 1,.nil=>.nil
 | _,_,n + 1,.cons _ t=>Vals.drop n t
noncomputable def RelO:Option V->Option Value->Prop
 | some v,some u=>RelV v u
 | none,none=>True
 | _,_=>False
noncomputable def KV {κ:Type}:List (κ × V)->List (κ × Value)->Prop:=Paired fun (p:κ × V) (q:κ × Value)=>p.1=q.1/\RelV p.2 q.2
noncomputable def kV:Key->V
 | .inl i=>.int i
 | .inr x=>.str x
inductive HO where
 | lst (xs:List V)
 | tup (xs:List V)
 | dK (kvs:List (Key × V)) | dT (kvs:List (List Key × V))
 | set (S:Int->Bool) (n:Nat)
 | ins (C dx:Addr) (fs:List (Str × V))
 | own (x:Addr)
 | xd (fs:List (Str × V))
 | met (f x:Addr)
 | rng (lo hi:Int)
 | frz (o:Obj) (u:HO)
 | tbl (ps:Array Value)
 | ext (φ:Heap->Prop)
noncomputable abbrev Hp:=Addr->Option HO
noncomputable def upd (H:Hp) (a:Addr) (o:HO):Hp:=fun b=>if b=a then some o else H b
theorem upd_same {H:Hp} {a:Addr} {o:HO}:upd H a o a=some o:=by unfold upd; rw [if_pos rfl]
theorem upd_ne {H:Hp} {a b:Addr} {o:HO} (h:b ≠ a):upd H a o b=H b:=by unfold upd; rw [if_neg h]
theorem ne_of_none {H:Hp} {a b:Addr} {o:HO} (h:H a=some o) (h':H b=none):a ≠ b:=by
 intro e; subst e; rw [h] at h'; cases h'
section
variable (P:Program) (w:World)
noncomputable def ObjOk (H:Hp) (h:Heap) (a:Addr):HO->Prop
 | .lst xs=>xs.length<=sizeLine/\∃ (its:List Value) (n:Nat),Vals xs its/\h.get? a=some { cls:=.type "list",data:=.seq its.toArray n }
 | .tup xs=>xs.length<=sizeLine/\∃ its:List Value,Vals xs its/\IsTup h a its.toArray
 | .dK kvs=>kvs.length<=sizeLine/\(a == sysModules)=false/\∃ vs,KV kvs vs/\h.DictOf (mixKind P w) a vs
 | .dT kvs=>kvs.length<=sizeLine/\(a == sysModules)=false/\∃ xs:List (List Key × Addr × Value),
   Paired (fun (p:List Key × V) (q:List Key × Addr × Value)=>p.1=q.1/\H q.2.1=some (.tup (p.1.map kV))/\RelV p.2 q.2.2) kvs xs/\
   ∃ o es ep,h.get? a=some o/\o.ExactDict/\o.data=.dict es ep/\es.toList=xs.map (entryOfKey (tupleKind (mixKind P w)))/\(xs.map (·.1)).Nodup
 | .set S n=>h.SetOf (intKind P w) a S n
 | .ins C dx fs=>H dx=some (.own a)/\fs.length<=1000/\dx ≠ a/\h.get? a=some (PySem.W.instObj C dx)/\
   ∃ mA,h.Ns1 dx mA/\(∀ f,RelO (fs.lookup f) (mA f))/\PySem.Within mA (fs.map (·.1))
 | .own _=>∃ o,h.get? a=some o
 | .xd fs=>∃ mA,h.Ns1 a mA/\∀ f,RelO (fs.lookup f) (mA f)
 | .rng lo hi=>∃ t u v,h.get? a=some { cls:=.type "range",data:=.fields #[.int lo t,.int hi u,.int 1 v] }
 | .frz o u=>h.get? a=some o/\ObjOk H h a u
 | .tbl ps=>h.get? a=some { cls:=.none,data:=.fields ps }
 | .met f x=>h.get? a=some (PySem.W.methodObj (.ref f) (.ref x))
 | .ext φ=>φ h/\(∃ o,h.get? a=some o)/\∀ h1 h2:Heap,φ h1->(∀ o,h1.get? a=some o->h2.get? a=some o)->φ h2
noncomputable def HOk (H:Hp) (h:Heap):Prop:=∀ a o,H a=some o->ObjOk P w H h a o
end
section
variable {P:Program} {w:World} {H H':Hp} {h h':Heap} {a:Addr} {o:HO}
theorem ObjOk.lt (x:ObjOk P w H h a o):a < h.objs.size:=by
 cases o with
 | lst xs=>obtain ⟨_,_,_,_,e⟩:=x; exact Heap.lt_size e
 | tup xs=>obtain ⟨_,_,_,p⟩:=x; exact p.lt
 | dK kvs=>obtain ⟨_,_,_,_,o,_,_,e,_⟩:=x; exact Heap.lt_size e
 | dT kvs=>obtain ⟨_,_,_,_,o,_,_,e,_⟩:=x; exact Heap.lt_size e
 | set S n=>obtain ⟨o,_,_,_,e,_⟩:=x; exact Heap.lt_size e
 | ins C dx fs=>obtain ⟨_,_,_,e,_⟩:=x; exact Heap.lt_size e
 | own y=>obtain ⟨_,e⟩:=x; exact Heap.lt_size e
 | xd fs=>obtain ⟨_,⟨_,_,_,e,_⟩,_⟩:=x; exact Heap.lt_size e
 | rng lo hi=>obtain ⟨_,_,_,e⟩:=x; exact Heap.lt_size e
 | frz ob u=>obtain ⟨e,_⟩:=x; exact Heap.lt_size e
 | tbl ps=>exact Heap.lt_size (show h.get? a=some _ from x)
 | met f y=>exact Heap.lt_size (show h.get? a=some _ from x)
 | ext φ=>obtain ⟨_,⟨_,e⟩,_⟩:=x; exact Heap.lt_size e
theorem Paired.mapP {α β:Type} {F G:α->β->Prop}:∀ {l₁:List α} {l₂:List β},Paired F l₁ l₂->(∀ a b,F a b->G a b)->Paired G l₁ l₂
 | _,_,.nil,_=>.nil
 | _,_,.cons r t,f=>.cons (f _ _ r) (Paired.mapP t f)
theorem ObjOk.stay (x:ObjOk P w H h a o) (k:∀ b u,(b=a\/H b=some (.own a))->h.get? b=some u->h'.get? b=some u)
  (ho:∀ b,H b=some (.own a)->H' b=some (.own a)) (ht:∀ b xs,H b=some (.tup xs)->H' b=some (.tup xs)):ObjOk P w H' h' a o:=by
 induction o with
 | lst xs=>obtain ⟨z,its,n,r,e⟩:=x; exact ⟨z,its,n,r,k _ _ (.inl rfl) e⟩
 | tup xs=>obtain ⟨z,its,r,ob,e,c⟩:=x; exact ⟨z,its,r,ob,k _ _ (.inl rfl) e,c⟩
 | dK kvs=>obtain ⟨z,y,vs,r,ob,es,ep,e,c⟩:=x; exact ⟨z,y,vs,r,ob,es,ep,k _ _ (.inl rfl) e,c⟩
 | dT kvs=>
  obtain ⟨z,y,xs,r,ob,es,ep,e,c⟩:=x
  exact ⟨z,y,xs,Paired.mapP r fun p q z=>⟨z.1,ht _ _ z.2.1,z.2.2⟩,ob,es,ep,k _ _ (.inl rfl) e,c⟩
 | set S n=>obtain ⟨ob,es,ep,t,e,c⟩:=x; exact ⟨ob,es,ep,t,k _ _ (.inl rfl) e,c⟩
 | ins C dx fs=>
  obtain ⟨d,z,ne,e,mA,⟨od,es,ep,e2,c⟩,r⟩:=x
  exact ⟨ho _ d,z,ne,k _ _ (.inl rfl) e,mA,⟨od,es,ep,k _ _ (.inr d) e2,c⟩,r⟩
 | own y=>obtain ⟨ob,e⟩:=x; exact ⟨ob,k _ _ (.inl rfl) e⟩
 | xd fs=>obtain ⟨mA,⟨od,es,ep,e,c⟩,r⟩:=x; exact ⟨mA,⟨od,es,ep,k _ _ (.inl rfl) e,c⟩,r⟩
 | rng lo hi=>obtain ⟨t,u,v,e⟩:=x; exact ⟨t,u,v,k _ _ (.inl rfl) e⟩
 | frz ob u ih=>obtain ⟨e,q⟩:=x; exact ⟨k _ _ (.inl rfl) e,ih q⟩
 | tbl ps=>
  have e:h.get? a=some { cls:=.none,data:=.fields ps }:=x
  show h'.get? a=some { cls:=.none,data:=.fields ps }
  exact k a _ (.inl rfl) e
 | met f y=>
  have e:h.get? a=some (PySem.W.methodObj (.ref f) (.ref y)):=x
  show h'.get? a=some (PySem.W.methodObj (.ref f) (.ref y))
  exact k a _ (.inl rfl) e
 | ext φ=>obtain ⟨p,⟨o,e⟩,st⟩:=x; exact ⟨st _ _ p fun o q=>k _ _ (.inl rfl) q,⟨o,k _ _ (.inl rfl) e⟩,st⟩
theorem HOk.lt (x:HOk P w H h) (e:H a=some o):a < h.objs.size:=(x a o e).lt
theorem HOk.fresh (x:HOk P w H h) (e:h.objs.size<=a):H a=none:=by
 cases q:H a with
 | none=>rfl
 | some u=>exact absurd (Nat.lt_of_lt_of_le (x.lt q) e) (Nat.lt_irrefl _)
theorem HOk.kept (x:HOk P w H h) (k:∀ b u,h.get? b=some u->h'.get? b=some u):HOk P w H h':=fun a o e=>
 (x a o e).stay (fun b u _ q=>k b u q) (fun _ q=>q) fun _ _ q=>q
theorem HOk.laid (x:HOk P w H h) (k:∀ b u,h.get? b=some u->h'.get? b=some u) (hp:h.objs.size<=a) (new:ObjOk P w (upd H a o) h' a o):HOk P w (upd H a o) h':=fun b u e=>by
 have hn:=x.fresh hp
 by_cases hb:b=a
 ·subst hb; rw [upd_same] at e; cases e; exact new
 ·rw [upd_ne hb] at e
  exact (x b u e).stay (fun c v _ q=>k c v q) (fun c q=>by rw [upd_ne (ne_of_none q hn)]; exact q) fun c xs q=>by rw [upd_ne (ne_of_none q hn)]; exact q
end
noncomputable def Rd (H:Hp) (a:Addr) (u:HO):Prop:=H a=some u\/∃ o,H a=some (.frz o u)
theorem Rd.ok {P:Program} {w:World} {H:Hp} {h:Heap} {a:Addr} {u:HO} (r:Rd H a u) (x:HOk P w H h):ObjOk P w H h a u:=by
 rcases r with r | ⟨o,r⟩
 ·exact x a u r
 ·obtain ⟨_,q⟩:=x a _ r
  exact q
noncomputable def Mut:Option HO->Prop
 | some (.lst _)=>True
 | some (.dK _)=>True
 | some (.dT _)=>True
 | some (.set _ _)=>True
 | some (.ins _ _ _)=>True
 | some (.ext _)=>True
 | _=>False
section
variable {P:Program} {w:World} {H:Hp} {h h':Heap} {x e:Addr} {o':HO}
theorem HOk.write (ok:HOk P w H h) (mu:Mut (H x)) (he:e=x\/H e=some (.own x)) (k:∀ b u,b ≠ e->h.get? b=some u->h'.get? b=some u) (heo:∃ u,h'.get? e=some u)
  (new:ObjOk P w (upd H x o') h' x o'):HOk P w (upd H x o') h':=fun b u q=>by
 have nown:∀ c y,H c=some (.own y)->c ≠ x:=fun c y r z=>by subst z; rw [r] at mu; exact mu
 have ntup:∀ c xs,H c=some (.tup xs)->c ≠ x:=fun c xs r z=>by subst z; rw [r] at mu; exact mu
 by_cases hb:b=x
 ·subst hb; rw [upd_same] at q; cases q; exact new
 ·rw [upd_ne hb] at q
  by_cases hbe:b=e
  ·have q':H b=some (.own x):=by
    rcases he with z | z
    ·exact absurd (hbe.trans z) hb
    ·rw [hbe]; exact z
   rw [q] at q'; cases q'
   obtain ⟨v,hv⟩:=heo
   exact ⟨v,by rw [hbe]; exact hv⟩
  ·refine (ok b u q).stay (fun c v hc r=>k c v ?_ r) (fun c r=>by rw [upd_ne (nown c b r)]; exact r) fun c xs r=>by rw [upd_ne (ntup c xs r)]; exact r
   rcases hc with rfl | hc
   ·exact hbe
   ·rintro rfl
    rcases he with z | z
    ·exact nown c b hc z
    ·rw [hc] at z; cases z; exact hb rfl
end
structure Un (fs ex:List Addr) (H H':Hp) (h h':Heap):Prop where
 keep:∀ b o,h.get? b=some o->H b=none->b ∉ fs->b ∉ ex->h'.get? b=some o
 slot:∀ b o,h.get? b=some o->H b=none->b ∈ fs->b ∉ ex->∃ sl,h'.get? b=some { o with slots:=sl }
 free:∀ b o,h.get? b=some o->H b=none->b ∉ ex->H' b=none
 there:∀ b o,h.get? b=some o->b ∉ ex->∃ o',h'.get? b=some o'
 tups:∀ b xs,H b=some (.tup xs)->H' b=some (.tup xs)
 frzs:∀ b o u,H b=some (.frz o u)->H' b=some (.frz o u)
 tbls:∀ b ps,H b=some (.tbl ps)->∃ more,H' b=some (.tbl (ps ++ more))
section
variable {fs fs' ex ex':List Addr} {H H1 H2:Hp} {h h1 h2 h':Heap} {a x e:Addr} {o:HO}
theorem Un.any (u:Un fs ex H H1 h h1) {b:Addr} {ob:Obj} (q:h.get? b=some ob) (n:H b=none) (hx:b ∉ ex):∃ sl,h1.get? b=some { ob with slots:=sl }:=by
 by_cases hb:b ∈ fs
 ·exact u.slot b ob q n hb hx
 ·exact ⟨ob.slots,u.keep b ob q n hb hx⟩
theorem Un.kept (k:∀ b u,h.get? b=some u->h'.get? b=some u):Un fs ex H H h h':=
 ⟨fun b ob q _ _ _=>k b ob q,fun b ob q _ _ _=>⟨ob.slots,k b ob q⟩,fun _ _ _ n _=>n,fun b ob q _=>⟨ob,k b ob q⟩,fun _ _ q=>q,fun _ _ _ q=>q,fun _ ps q=>⟨#[],by rw [q]; simp⟩⟩
theorem Un.refl:Un fs ex H H h h:=Un.kept fun _ _ q=>q
theorem Un.laid (k:∀ b u,h.get? b=some u->h'.get? b=some u) (hp:h.objs.size<=a) (hn:H a=none):Un fs ex H (upd H a o) h h' where
 keep:=fun b u q _ _ _=>k b u q
 slot:=fun b u q _ _ _=>⟨u.slots,k b u q⟩
 free:=fun b u q n _=>by rw [upd_ne (Nat.ne_of_lt (Nat.lt_of_lt_of_le (Heap.lt_size q) hp))]; exact n
 there:=fun b u q _=>⟨u,k b u q⟩
 tups:=fun b xs q=>by rw [upd_ne (ne_of_none q hn)]; exact q
 frzs:=fun b u xs q=>by rw [upd_ne (ne_of_none q hn)]; exact q
 tbls:=fun b ps q=>⟨#[],by rw [upd_ne (ne_of_none q hn),q]; simp⟩
theorem Un.write (mu:Mut (H x)) (he:e=x\/H e=some (.own x)) (k:∀ b u,b ≠ e->h.get? b=some u->h'.get? b=some u) (heo:∃ u,h'.get? e=some u):Un fs ex H (upd H x o) h h':=by
 have hx:∀ b,H b=none->b ≠ x:=fun b n z=>by subst z; rw [n] at mu; exact mu
 have hb:∀ b,H b=none->b ≠ e:=fun b n z=>by
  subst z
  rcases he with r | r
  ·exact hx b n r
  ·rw [n] at r; cases r
 have hm:∀ b u,H b=some u->¬ Mut (some u)->b ≠ x:=fun b u q nm z=>by subst z; rw [q] at mu; exact nm mu
 refine ⟨fun b u q n _ _=>k b u (hb b n) q,fun b u q n _ _=>⟨u.slots,k b u (hb b n) q⟩,fun b u q n _=>by rw [upd_ne (hx b n)]; exact n,fun b u q _=>?_,
  fun b xs q=>by rw [upd_ne (hm b _ q fun z=>z)]; exact q,fun b u xs q=>by rw [upd_ne (hm b _ q fun z=>z)]; exact q,fun b ps q=>⟨#[],by rw [upd_ne (hm b _ q fun z=>z),q]; simp⟩⟩
 by_cases hbe:b=e
 ·subst hbe; exact heo
 ·exact ⟨u,k b u hbe q⟩
end
noncomputable def trk (h:Heap) (H:Hp):List Addr:=(List.range h.objs.size).filter fun a=>(H a).isSome
noncomputable def hidT (h:Heap) (H:Hp):Heap:=PySem.W.hideAll h (trk h H)
theorem hidT_size (h:Heap) (H:Hp):(hidT h H).objs.size=h.objs.size:=PySem.W.hideAll_size _ _
theorem hidT_get {h:Heap} {H:Hp} {b:Addr} {o:Obj} (e:h.get? b=some o) (n:H b=none):(hidT h H).get? b=some o:=
 PySem.W.hideAll_get _ e fun hm=>by
  have q:(H b).isSome=true:=(List.mem_filter.mp hm).2
  rw [n] at q; simp at q
theorem of_hidT {h:Heap} {H:Hp} {b:Addr} {o:Obj} (e:(hidT h H).get? b=some o):h.get? b=some o/\H b=none:=by
 have e':h.get? b=some o:=PySem.W.of_hideAll (trk h H) e
 refine ⟨e',?_⟩
 cases q:H b with
 | none=>rfl
 | some x=>
  have hm:b ∈ trk h H:=List.mem_filter.mpr ⟨List.mem_range.mpr (Heap.lt_size e'),by simp [q]⟩
  have z:(hidT h H).get? b=none:=PySem.W.hideAll_none (trk h H) hm
  rw [z] at e; cases e
end L2
namespace L2
open PySem PySem.Spec PyProof.Rows
structure Mod (K:PySem.W.Frag) (mg:Str->Option Value) (base:Heap):Prop where
 kin:K.In base
 glob:base.Ns mainGlobals mg
 blt:∃ mb,base.Ns builtinsNs mb/\∀ x:Str,x ≠ "__name__"->mb x=bootBuiltins x
 nolimit:base.NoLimit
structure Cx where
 prog:Program
 w:World
 K:PySem.W.Frag
 mg:Str->Option Value
 base:Heap
 A:Around
 N:List Str
 s₀:Shared
 H₀:Hp
 env:Env
 outer:List Env
 stack:List Env
 ex:List Addr
 fn:Str->Bool
 calm:Bool
 pn:List (Addr × Obj)
 xe:Value->Shared->Prop
noncomputable def frs (l:List Env):List Addr:=l.filterMap (·.frame)
noncomputable abbrev Cx.fs (X:Cx):List Addr:=frs X.outer
noncomputable def Vis (sc:Scope) (x:Str):Prop:=sc.names.lookup x=some .local\/sc.names.lookup x=some .cell\/sc.names.lookup x=some .free
noncomputable def Loc (sc:Scope) (x:Str):Prop:=sc.names.lookup x=some .local\/sc.names.lookup x=some .cell
noncomputable def Look (env:Env) (h:Heap) (m:Str->Option Value) (x:Str) (u:Value):Prop:=
 (env.kindOf x=some .local/\m x=some u)\/((env.kindOf x=some .cell\/env.kindOf x=some .free)/\∃ c,env.cells.lookup x=some c/\h.IsCell c (some u))
structure Cx.Ok (X:Cx):Prop where
 mod:Mod X.K X.mg X.base
 kind:X.env.scope.kind=.function
 glob:X.env.globals=mainGlobals
 blt:X.env.builtins=builtinsNs
 above:X.s₀.heap.objs.size<=X.env.locals
 inj:∀ x y c,X.env.cells.lookup x=some c->X.env.cells.lookup y=some c->x=y
 has:∀ x,(X.env.kindOf x=some .cell\/X.env.kindOf x=some .free)->∃ c,X.env.cells.lookup x=some c
 cab:∀ x c,X.fn x=true->X.env.cells.lookup x=some c->X.s₀.heap.objs.size<=c
 hd:X.calm=true->X.A.handled=none
 frames:X.A.frames=some X.stack
 stk:X.stack=X.outer\/(X.stack=X.env :: X.outer/\X.env.frame=some X.env.locals)
 exf:∀ b ∈ X.ex,b ≠ X.env.locals/\∀ x c,X.env.cells.lookup x=some c->c ≠ b
 bs:∀ b o,X.base.get? b=some o->X.s₀.heap.get? b=some o/\X.H₀ b=none
 bsz:X.base.objs.size<=X.s₀.heap.objs.size
 noex:∀ b o,X.base.get? b=some o->b ∉ X.ex
 exfs:∀ b ∈ X.ex,b ∉ X.fs
 funs:X.s₀.heap.FunFrames X.base X.outer
 frf:∀ b ∈ X.fs,X.H₀ b=none
structure Inv (X:Cx) (pins:List (Addr × Obj)) (σ:List (Option V)) (H:Hp) (s:Shared):Prop where
 ok:X.Ok
 os:s.os=X.s₀.os
 bare:AllBare s.gens
 base:Un X.fs X.ex X.H₀ H X.s₀.heap s.heap
 loc:∃ m,s.heap.Ns X.env.locals m/\∀ (i:Nat) (x:Str) (v:V),X.N[i]? = some x->σ[i]? = some (some v)->Vis X.env.scope x->∃ u,RelV v u/\Look X.env s.heap m x u
 cell:∀ x c,X.env.cells.lookup x=some c->∃ v,s.heap.IsCell c v
 free:H X.env.locals=none
 freeC:∀ x c,X.env.cells.lookup x=some c->H c=none
 pin:∀ p ∈ X.pn ++ pins,s.heap.get? p.1=some p.2/\H p.1=none/\p.1 ≠ X.env.locals/\p.1 ∉ X.fs/\∀ v,p.2.data ≠ .cell v
 hok:HOk X.prog X.w H s.heap
 len:σ.length=X.N.length
section
variable {X:Cx} {pins:List (Addr × Obj)} {σ:List (Option V)} {H H':Hp} {s:Shared} {h':Heap}
theorem Cx.Ok.nofr (ok:X.Ok) {b:Addr} {o:Obj} (e:X.base.get? b=some o):b ∉ X.fs:=fun hb=>by
 have:=(ok.funs.mem hb).1
 rw [e] at this; cases this
theorem Inv.bs (I:Inv X pins σ H s):∀ b o,X.base.get? b=some o->s.heap.get? b=some o/\H b=none:=fun b o e=>
 ⟨I.base.keep b o (I.ok.bs b o e).1 (I.ok.bs b o e).2 (I.ok.nofr e) (I.ok.noex b o e),I.base.free b o (I.ok.bs b o e).1 (I.ok.bs b o e).2 (I.ok.noex b o e)⟩
theorem Inv.bk (I:Inv X pins σ H s):∀ b o,X.base.get? b=some o->s.heap.get? b=some o:=fun b o e=>(I.bs b o e).1
theorem Inv.mod (I:Inv X pins σ H s):Mod X.K X.mg X.base:=I.ok.mod
theorem Inv.kIn (I:Inv X pins σ H s):X.K.In s.heap:=I.ok.mod.kin.keeps I.bk
theorem Inv.lt (I:Inv X pins σ H s):X.env.locals < s.heap.objs.size:=let ⟨_,hn,_⟩:=I.loc; hn.lt
theorem Inv.sz (I:Inv X pins σ H s):X.s₀.heap.objs.size<=s.heap.objs.size:=Nat.le_trans I.ok.above (Nat.le_of_lt I.lt)
theorem Inv.nofs (I:Inv X pins σ H s) {a:Addr} (h:s.heap.objs.size<=a):a ∉ X.fs:=fun hb=>by
 obtain ⟨_,o,ho,_⟩:=I.ok.funs.mem hb
 exact absurd (Nat.lt_of_lt_of_le (Heap.lt_size ho) (Nat.le_trans I.sz h)) (Nat.lt_irrefl _)
theorem Inv.cne (I:Inv X pins σ H s):∀ x c,X.env.cells.lookup x=some c->c ≠ X.env.locals:=fun x c e z=>by
 obtain ⟨v,o,ho,hd⟩:=I.cell x c e
 obtain ⟨m,⟨o',es,ep,ho',hd',_⟩,_⟩:=I.loc
 rw [z,ho'] at ho; cases ho; rw [hd'] at hd; cases hd
theorem Inv.funs (I:Inv X pins σ H s):s.heap.FunFrames X.base X.outer:=by
 have all:∀ (l:List Env),(∀ b ∈ frs l,b ∈ X.fs)->X.s₀.heap.FunFrames X.base l->s.heap.FunFrames X.base l:=by
  intro l
  induction l with
  | nil=>intro _ _; trivial
  | cons env r ih=>
   intro hs hl
   obtain ⟨hk,⟨L,o,hf,hn,ho,hd⟩,hr⟩:=hl
   have hL:L ∈ X.fs:=hs L (by unfold frs; rw [List.filterMap_cons,hf]; exact List.mem_cons_self)
   obtain ⟨sl,e⟩:=I.base.slot L o ho (I.ok.frf L hL) hL fun z=>I.ok.exfs L z hL
   exact ⟨hk,⟨L,_,hf,hn,e,hd⟩,ih (fun b hb=>hs b (by unfold frs; rw [List.filterMap_cons,hf]; exact List.mem_cons_of_mem _ hb)) hr⟩
 exact all X.outer (fun _ hb=>hb) I.ok.funs
theorem Inv.stack (I:Inv X pins σ H s):s.heap.FunFrames X.base X.stack:=by
 rcases I.ok.stk with e | ⟨e,hf⟩
 ·rw [e]; exact I.funs
 ·rw [e]
  obtain ⟨m,hn,_⟩:=I.loc
  refine .cons (by rw [I.ok.kind]; decide) hf hn ?_ I.funs
  exact Heap.get?_none_of_le (Nat.le_trans I.ok.bsz I.ok.above)
theorem Inv.stkSub (I:Inv X pins σ H s):∀ b ∈ frs X.stack,b ∈ X.env.locals :: X.fs:=fun b hb=>by
 rcases I.ok.stk with e | ⟨e,hf⟩
 ·rw [e] at hb; exact List.mem_cons_of_mem _ hb
 ·rw [e] at hb
  unfold frs at hb
  rw [List.filterMap_cons,hf] at hb
  exact hb
theorem Inv.stkFree (I:Inv X pins σ H s):∀ b ∈ frs X.stack,H b=none:=fun b hb=>by
 rcases List.mem_cons.mp (I.stkSub b hb) with e | hb
 ·rw [e]; exact I.free
 ·obtain ⟨_,o,ho,_⟩:=I.ok.funs.mem hb
  exact I.base.free b o ho (I.ok.frf b hb) fun z=>I.ok.exfs b z hb
theorem Inv.step {g':Array GenState} {t':Nat} {d':Drawn} {ch:List Addr} (I:Inv X pins σ H s)
  (hch:∀ b ∈ ch,(b ∈ X.ex\/X.s₀.heap.objs.size<=b)/\b ≠ X.env.locals/\(∀ x c,X.env.cells.lookup x=some c->c ≠ b)/\∀ p ∈ X.pn ++ pins,p.1 ≠ b)
  (keep:∀ b o,b ≠ X.env.locals->b ∉ X.fs->b ∉ ch->s.heap.get? b=some o->H b=none->h'.get? b=some o)
  (slot:∀ b o,b ≠ X.env.locals->b ∈ X.fs->b ∉ ch->s.heap.get? b=some o->H b=none->∃ sl,h'.get? b=some { o with slots:=sl }) (free:∀ b o,b ∉ ch->s.heap.get? b=some o->H b=none->H' b=none)
  (there:∀ b o,b ∉ ch->s.heap.get? b=some o->∃ o',h'.get? b=some o')
  (tups:∀ b xs,H b=some (.tup xs)->H' b=some (.tup xs)) (frzs:∀ b o u,H b=some (.frz o u)->H' b=some (.frz o u)) (tbls:∀ b ps,H b=some (.tbl ps)->∃ more,H' b=some (.tbl (ps ++ more)))
  (ns:∀ m,s.heap.Ns X.env.locals m->h'.Ns X.env.locals m) (hok:HOk X.prog X.w H' h') (hg:AllBare g') :
  Inv X pins σ H' { s with heap:=h',gens:=g',drawn:=d',toks:=t' }:=by
 have neL:∀ b o,X.s₀.heap.get? b=some o->b ≠ X.env.locals:=fun b o e=>Nat.ne_of_lt (Nat.lt_of_lt_of_le (Heap.lt_size e) I.ok.above)
 have neC:∀ b o,X.s₀.heap.get? b=some o->b ∉ X.ex->b ∉ ch:=fun b o e hx hb=>by
  rcases (hch b hb).1 with z | z
  ·exact hx z
  ·exact absurd (Nat.lt_of_lt_of_le (Heap.lt_size e) z) (Nat.lt_irrefl _)
 have cellK:∀ x c,X.env.cells.lookup x=some c->∀ v,s.heap.IsCell c v->h'.IsCell c v:=fun x c e v ⟨o,ho,hd⟩=>by
  have nch:c ∉ ch:=fun z=>(hch c z).2.2.1 x c e rfl
  by_cases hc:c ∈ X.fs
  ·obtain ⟨sl,q⟩:=slot c o (I.cne x c e) hc nch ho (I.freeC x c e)
   exact ⟨_,q,hd⟩
  ·exact ⟨o,keep c o (I.cne x c e) hc nch ho (I.freeC x c e),hd⟩
 refine ⟨I.ok,I.os,hg,⟨fun b o e n hb hx=>?_,fun b o e n hb hx=>?_,fun b o e n hx=>?_,fun b o e hx=>?_,fun b xs e=>tups b xs (I.base.tups b xs e),fun b o xs e=>frzs b o xs (I.base.frzs b o xs e),fun b ps e=>?_⟩,?_,fun x c e=>?_,?_,fun x c e=>?_,fun p hp=>?_,hok,I.len⟩
 ·exact keep b o (neL b o e) hb (neC b o e hx) (I.base.keep b o e n hb hx) (I.base.free b o e n hx)
 ·obtain ⟨sl,e1⟩:=I.base.slot b o e n hb hx
  obtain ⟨sl',e2⟩:=slot b _ (neL b o e) hb (neC b o e hx) e1 (I.base.free b o e n hx)
  exact ⟨sl',e2⟩
 ·obtain ⟨o',e1⟩:=I.base.there b o e hx
  exact free b o' (neC b o e hx) e1 (I.base.free b o e n hx)
 ·obtain ⟨o',e1⟩:=I.base.there b o e hx
  exact there b o' (neC b o e hx) e1
 ·obtain ⟨m1,e1⟩:=I.base.tbls b ps e
  obtain ⟨m2,e2⟩:=tbls b _ e1
  exact ⟨m1 ++ m2,by rw [e2,Array.append_assoc]⟩
 ·obtain ⟨m,hn,hl⟩:=I.loc
  refine ⟨m,ns m hn,fun i x v e1 e2 e3=>?_⟩
  obtain ⟨u,r,l⟩:=hl i x v e1 e2 e3
  refine ⟨u,r,?_⟩
  rcases l with l | ⟨k,c,e,z⟩
  ·exact .inl l
  ·exact .inr ⟨k,c,e,cellK x c e _ z⟩
 ·obtain ⟨v,z⟩:=I.cell x c e
  exact ⟨v,cellK x c e v z⟩
 ·obtain ⟨m,⟨o,_,_,ho,_⟩,_⟩:=I.loc
  exact free _ o (fun z=>(hch _ z).2.1 rfl) ho I.free
 ·obtain ⟨v,o,ho,hd⟩:=I.cell x c e
  exact free c o (fun z=>(hch c z).2.2.1 x c e rfl) ho (I.freeC x c e)
 ·obtain ⟨e,n,ne,nf,d⟩:=I.pin p hp
  have nch:p.1 ∉ ch:=fun z=>(hch p.1 z).2.2.2 p hp rfl
  exact ⟨keep p.1 p.2 ne nf nch e n,free p.1 p.2 nch e n,ne,nf,d⟩
theorem Inv.un {t':Nat} (I:Inv X pins σ H s) (u:Un X.fs [] H H' s.heap h') (hok:HOk X.prog X.w H' h'):Inv X pins σ H' { s with heap:=h',toks:=t' }:=by
 obtain ⟨m,⟨o,es,ep,ho,r⟩,_⟩:=id I.loc
 obtain ⟨sl,hL⟩:=u.any ho I.free (by simp)
 exact I.step (g':=s.gens) (d':=s.drawn) (ch:=[]) (fun _ z=>nomatch z) (fun b o _ hb _ e n=>u.keep b o e n hb (by simp)) (fun b o _ hb _ e n=>u.slot b o e n hb (by simp)) (fun b o _ e n=>u.free b o e n (by simp)) (fun b o _ e=>u.there b o e (by simp)) u.tups u.frzs u.tbls (fun m' hm=>by
  obtain ⟨o',es',ep',ho',r'⟩:=hm
  rw [ho] at ho'; cases ho'
  exact ⟨_,es',ep',hL,r'⟩) hok I.bare
theorem Inv.call {g':Array GenState} {t':Nat} {d':Drawn} {ch:List Addr} (I:Inv X pins σ H s) (u:Un (frs X.stack) ch H H' s.heap h') (hok:HOk X.prog X.w H' h') (hg:AllBare g')
  (hch:∀ b ∈ ch,(b ∈ X.ex\/X.s₀.heap.objs.size<=b)/\b ≠ X.env.locals/\(∀ x c,X.env.cells.lookup x=some c->c ≠ b)/\∀ p ∈ X.pn ++ pins,p.1 ≠ b) :
  Inv X pins σ H' { s with heap:=h',gens:=g',drawn:=d',toks:=t' }:=by
 obtain ⟨m,⟨o,es,ep,ho,r⟩,_⟩:=id I.loc
 obtain ⟨sl,hL⟩:=u.any ho I.free fun z=>(hch _ z).2.1 rfl
 exact I.step (ch:=ch) hch (fun b o hL hb hc e n=>u.keep b o e n (fun z=>(List.mem_cons.mp (I.stkSub b z)).elim hL hb) hc) (fun b o _ _ hc e n=>u.any e n hc) (fun b o hc e n=>u.free b o e n hc) (fun b o hc e=>u.there b o e hc) u.tups u.frzs u.tbls (fun m' hm=>by
  obtain ⟨o',es',ep',ho',r'⟩:=hm
  rw [ho] at ho'; cases ho'
  exact ⟨_,es',ep',hL,r'⟩) hok hg
theorem Inv.turned {t':Nat} {it:Addr} (I:Inv X pins σ H s) (k:∀ b o,b ≠ it->s.heap.get? b=some o->h'.get? b=some o) (hn:H it=none) (hL:it ≠ X.env.locals)
  (h1:it ∈ X.ex\/X.s₀.heap.objs.size<=it) (h2:∀ x c,X.env.cells.lookup x=some c->c ≠ it) (h3:∀ p ∈ X.pn ++ pins,p.1 ≠ it):Inv X pins σ H { s with heap:=h',toks:=t' }:=by
 have nit:∀ b u,H b=some u->b ≠ it:=fun b u e z=>by rw [z,hn] at e; cases e
 refine I.step (g':=s.gens) (d':=s.drawn) (ch:=[it]) (fun b hb=>?_) (fun b o _ _ hc e _=>k b o (fun z=>hc (by simp [z])) e) (fun b o _ _ hc e _=>⟨o.slots,k b o (fun z=>hc (by simp [z])) e⟩) (fun _ _ _ _ n=>n)
  (fun b o hc e=>⟨o,k b o (fun z=>hc (by simp [z])) e⟩) (fun _ _ e=>e) (fun _ _ _ e=>e) (fun b ps e=>⟨#[],by rw [e]; simp⟩) (fun m hm=>?_) (fun b u e=>?_) I.bare
 ·have e:b=it:=by simpa using hb
  subst e
  exact ⟨h1,hL,h2,h3⟩
 ·obtain ⟨o,es,ep,ho,r⟩:=hm
  exact ⟨o,es,ep,k _ o (Ne.symm hL) ho,r⟩
 ·refine (I.hok b u e).stay (fun c v hc q=>k c v ?_ q) (fun _ q=>q) fun _ _ q=>q
  rcases hc with z | z
  ·rw [z]; exact nit b u e
  ·exact nit c _ z
theorem Inv.tok (I:Inv X pins σ H s) (t:Nat):Inv X pins σ H { s with toks:=t }:=I.un (h':=s.heap) (t':=t) Un.refl I.hok
theorem Inv.kept {t':Nat} (I:Inv X pins σ H s) (k:∀ b u,s.heap.get? b=some u->h'.get? b=some u):Inv X pins σ H { s with heap:=h',toks:=t' }:=I.un (Un.kept k) (I.hok.kept k)
theorem Inv.laid {a:Addr} {o:HO} {t':Nat} (I:Inv X pins σ H s) (k:∀ b u,s.heap.get? b=some u->h'.get? b=some u) (hp:s.heap.objs.size<=a) (new:ObjOk X.prog X.w (upd H a o) h' a o) :
  Inv X pins σ (upd H a o) { s with heap:=h',toks:=t' }:=I.un (Un.laid k hp (I.hok.fresh hp)) (I.hok.laid k hp new)
theorem Inv.write {x e:Addr} {o:HO} {t':Nat} (I:Inv X pins σ H s) (mu:Mut (H x)) (he:e=x\/H e=some (.own x)) (k:∀ b u,b ≠ e->s.heap.get? b=some u->h'.get? b=some u) (heo:∃ u,h'.get? e=some u)
  (new:ObjOk X.prog X.w (upd H x o) h' x o):Inv X pins σ (upd H x o) { s with heap:=h',toks:=t' }:=I.un (Un.write mu he k heo) (I.hok.write mu he k heo new)
theorem Inv.pins_of {pins':List (Addr × Obj)} (I:Inv X pins σ H s) (h:∀ p ∈ pins',s.heap.get? p.1=some p.2/\H p.1=none/\p.1 ≠ X.env.locals/\p.1 ∉ X.fs/\∀ v,p.2.data ≠ .cell v):Inv X pins' σ H s:=
 ⟨I.ok,I.os,I.bare,I.base,I.loc,I.cell,I.free,I.freeC,fun p hp=>(List.mem_append.mp hp).elim (fun z=>I.pin p (List.mem_append_left _ z)) (h p),I.hok,I.len⟩
theorem nodup_ix {N:List Str} (hN:N.Nodup) {i j:Nat} {x:Str} (a:N[i]? = some x) (b:N[j]? = some x):i=j:=by
 obtain ⟨h1,e1⟩:=List.getElem?_eq_some_iff.mp a
 obtain ⟨h2,e2⟩:=List.getElem?_eq_some_iff.mp b
 exact (List.getElem_inj hN).mp (e1.trans e2.symm)
theorem store_ok2 {M:Model} {A:Around} {E:Value->Shared->Prop} {i:Nat} {x:Str} {v:V} {u:Value} {Q:Unit->Shared->Prop} (I:Inv X pins σ H s) (hN:X.N.Nodup) (hi:X.N[i]? = some x) (hx:Loc X.env.scope x) (r:RelV v u)
  (h:∀ s',Inv X pins (σ.set i (some v)) H s'->(∃ a,Heap.SameBut a s.heap s'.heap/\(a=X.env.locals\/X.env.cells.lookup x=some a))->Q () s') (hf:X.fn x=true\/X.env.scope.names.lookup x=some .local:=by first | exact .inl rfl | exact .inr rfl | assumption):wpAny M A (storeName X.env x u) Q E s:=by
 obtain ⟨m,hn,hl⟩:=id I.loc
 have hcls:(X.env.scope.kind == .class || (X.env.scope.kind == .module && X.env.locals != X.env.globals))=false:=by rw [I.ok.kind]; rfl
 have hiσ:i < σ.length:=by rw [I.len]; exact (List.getElem?_eq_some_iff.mp hi).1
 have cne:=I.cne
 have tracked:∀ {a:Addr} {h':Heap},(∃ o,s.heap.get? a=some o/\H a=none)->Heap.SameBut a s.heap h'->HOk X.prog X.w H h':=fun {a h'} ha hs b ob e=>by
  obtain ⟨_,_,hfree⟩:=ha
  refine (I.hok b ob e).stay (fun c w' hc q=>(hs.2 c ?_).trans q) (fun _ q=>q) fun _ _ q=>q
  rintro rfl
  rcases hc with rfl | hc
  ·rw [hfree] at e; cases e
  ·rw [hfree] at hc; cases hc
 rcases hx with hk | hk
 ·refine wpAny_storeName_local hk hn (fun h' hn' hs=>?_) hcls
  obtain ⟨oL,_,_,hoL,_⟩:=id hn
  refine h _ ⟨I.ok,I.os,I.bare,⟨fun b o e n hb hx=>?_,fun b o e n hb hx=>?_,I.base.free,fun b o e hx=>?_,I.base.tups,I.base.frzs,I.base.tbls⟩,⟨_,hn',fun j y v' e1 e2 e3=>?_⟩,fun y c e=>?_,I.free,I.freeC,fun p hp=>?_,tracked ⟨oL,hoL,I.free⟩ hs,by simpa using I.len⟩ ⟨_,hs,.inl rfl⟩
  ·exact (hs.2 b (Nat.ne_of_lt (Nat.lt_of_lt_of_le (Heap.lt_size e) I.ok.above))).trans (I.base.keep b o e n hb hx)
  ·obtain ⟨sl,e1⟩:=I.base.slot b o e n hb hx
   exact ⟨sl,(hs.2 b (Nat.ne_of_lt (Nat.lt_of_lt_of_le (Heap.lt_size e) I.ok.above))).trans e1⟩
  ·obtain ⟨o',e1⟩:=I.base.there b o e hx
   exact ⟨o',(hs.2 b (Nat.ne_of_lt (Nat.lt_of_lt_of_le (Heap.lt_size e) I.ok.above))).trans e1⟩
  ·by_cases hj:j=i
   ·subst hj
    rw [hi] at e1; cases e1
    rw [List.getElem?_set_self hiσ] at e2
    cases e2
    exact ⟨u,r,.inl ⟨hk,by simp⟩⟩
   ·rw [List.getElem?_set_ne (Ne.symm hj)] at e2
    obtain ⟨u',r',q⟩:=hl j y v' e1 e2 e3
    refine ⟨u',r',?_⟩
    rcases q with ⟨k,e⟩ | ⟨k,c,e,z⟩
    ·refine .inl ⟨k,?_⟩
     have:y ≠ x:=fun e=>hj (nodup_ix hN e1 (e ▸ hi))
     simp [this,e]
    ·exact .inr ⟨k,c,e,z.sameBut hs (cne y c e)⟩
  ·obtain ⟨w',z⟩:=I.cell y c e
   exact ⟨w',z.sameBut hs (cne y c e)⟩
  ·obtain ⟨e,n,ne,nf,d⟩:=I.pin p hp
   exact ⟨(hs.2 p.1 ne).trans e,n,ne,nf,d⟩
 ·have hfn:X.fn x=true:=by
   rcases hf with z | z
   ·exact z
   ·rw [z] at hk; cases hk
  obtain ⟨c,hc⟩:=I.ok.has x (.inl hk)
  obtain ⟨w',z⟩:=I.cell x c hc
  refine wpAny_storeName_cell I.ok.kind hk hc z (fun h' hc' hs=>?_)
  obtain ⟨oc,hoc,hocd⟩:=id z
  refine h { s with heap:=h' } ⟨I.ok,I.os,I.bare,⟨fun b o e n hb hx=>?_,fun b o e n hb hx=>?_,I.base.free,fun b o e hx=>?_,I.base.tups,I.base.frzs,I.base.tbls⟩,⟨m,hn.sameBut hs (Ne.symm (cne x c hc)),fun j y v' e1 e2 e3=>?_⟩,fun y c' e=>?_,I.free,I.freeC,fun p hp=>?_,tracked ⟨oc,hoc,I.freeC x c hc⟩ hs,by simpa using I.len⟩ ⟨c,hs,.inr hc⟩
  ·exact (hs.2 b (Nat.ne_of_lt (Nat.lt_of_lt_of_le (Heap.lt_size e) (I.ok.cab x c hfn hc)))).trans (I.base.keep b o e n hb hx)
  ·obtain ⟨sl,e1⟩:=I.base.slot b o e n hb hx
   exact ⟨sl,(hs.2 b (Nat.ne_of_lt (Nat.lt_of_lt_of_le (Heap.lt_size e) (I.ok.cab x c hfn hc)))).trans e1⟩
  ·obtain ⟨o',e1⟩:=I.base.there b o e hx
   exact ⟨o',(hs.2 b (Nat.ne_of_lt (Nat.lt_of_lt_of_le (Heap.lt_size e) (I.ok.cab x c hfn hc)))).trans e1⟩
  ·by_cases hj:j=i
   ·subst hj
    rw [hi] at e1; cases e1
    rw [List.getElem?_set_self hiσ] at e2
    cases e2
    exact ⟨u,r,.inr ⟨.inl hk,c,hc,hc'⟩⟩
   ·rw [List.getElem?_set_ne (Ne.symm hj)] at e2
    obtain ⟨u',r',q⟩:=hl j y v' e1 e2 e3
    refine ⟨u',r',?_⟩
    rcases q with q | ⟨k,c',e,z'⟩
    ·exact .inl q
    ·refine .inr ⟨k,c',e,z'.sameBut hs ?_⟩
     rintro rfl
     exact hj (nodup_ix hN e1 (I.ok.inj _ _ _ e hc ▸ hi))
  ·by_cases hcc:c' = c
   ·subst hcc; exact ⟨_,hc'⟩
   ·obtain ⟨w2,z2⟩:=I.cell y c' e
    exact ⟨w2,z2.sameBut hs hcc⟩
  ·obtain ⟨e,n,ne,nf,d⟩:=I.pin p hp
   refine ⟨(hs.2 p.1 ?_).trans e,n,ne,nf,d⟩
   intro q
   rw [q,hoc] at e
   have q':oc=p.2:=Option.some.inj e
   exact d w' (by rw [<-q']; exact hocd)
theorem store_ok {M:Model} {A:Around} {E:Value->Shared->Prop} {i:Nat} {x:Str} {v:V} {u:Value} {Q:Unit->Shared->Prop} (I:Inv X pins σ H s) (hN:X.N.Nodup) (hi:X.N[i]? = some x) (hx:Loc X.env.scope x) (r:RelV v u)
  (h:∀ s',Inv X pins (σ.set i (some v)) H s'->Q () s') (hf:X.fn x=true\/X.env.scope.names.lookup x=some .local:=by first | exact .inl rfl | exact .inr rfl | assumption):wpAny M A (storeName X.env x u) Q E s:=
 store_ok2 I hN hi hx r (fun s' I' _=>h s' I') hf
theorem Inv.call' {s':Shared} {ch:List Addr} (I:Inv X pins σ H s) (ho:s'.os=s.os) (u:Un (frs X.stack) ch H H' s.heap s'.heap) (hok:HOk X.prog X.w H' s'.heap) (hg:AllBare s'.gens)
  (hch:∀ b ∈ ch,(b ∈ X.ex\/X.s₀.heap.objs.size<=b)/\b ≠ X.env.locals/\(∀ x c,X.env.cells.lookup x=some c->c ≠ b)/\∀ p ∈ X.pn ++ pins,p.1 ≠ b):Inv X pins σ H' s':=by
 obtain ⟨h',g',d',t',o'⟩:=s'
 have e:o' = s.os:=ho
 subst e
 exact I.call (g':=g') (t':=t') (d':=d') u hok hg hch
end
noncomputable abbrev XK:=Value->Option Addr->Hp->Prop
noncomputable abbrev St:=List (Option V)
noncomputable abbrev VK:=V->Hp->Prop
noncomputable abbrev TE:=St->Hp->VK->Prop
noncomputable abbrev TT:=St->Hp->(Bool->Hp->Prop)->Prop
noncomputable abbrev TA:=St->Hp->(List V->Hp->Prop)->Prop
structure Ends where
 nx:St->Hp->Prop
 rt:VK
 bk:St->Hp->Prop:=fun _ _=>False
 ct:St->Hp->Prop:=fun _ _=>False
noncomputable abbrev TS:=Ends->St->Hp->Prop
noncomputable def EP (X:Cx) (pins:List (Addr × Obj)) (σ:St) (Q:VK) (u:Value) (s':Shared):Prop:=∃ v H',Inv X pins σ H' s'/\RelV v u/\Q v H'
noncomputable def TP (X:Cx) (pins:List (Addr × Obj)) (σ:St) (Q:Bool->Hp->Prop) (b:Bool) (s':Shared):Prop:=∃ H',Inv X pins σ H' s'/\Q b H'
noncomputable def AP (X:Cx) (pins:List (Addr × Obj)) (σ:St) (Q:List V->Hp->Prop) (us:List Value) (s':Shared):Prop:=∃ vs H',Inv X pins σ H' s'/\Vals vs us/\Q vs H'
noncomputable def SP (X:Cx) (pins:List (Addr × Obj)) (D:Ends) (f:Flow) (s':Shared):Prop:=
 match f with
 | .next=>∃ σ' H',Inv X pins σ' H' s'/\D.nx σ' H'
 | .brk=>∃ σ' H',Inv X pins σ' H' s'/\D.bk σ' H'
 | .cont=>∃ σ' H',Inv X pins σ' H' s'/\D.ct σ' H'
 | .ret u=>∃ v σ' H',Inv X pins σ' H' s'/\RelV v u/\D.rt v H'
noncomputable def PE (X:Cx) (e:Expr) (t:TE):Prop:=
 ∀ (pins:List (Addr × Obj)) (s:Shared) (σ:St) (H:Hp) (Q:VK),Inv X pins σ H s->t σ H Q->wpAny (model X.prog X.w) X.A (eval e X.env) (EP X pins σ Q) X.xe s
noncomputable def PT (X:Cx) (e:Expr) (t:TT):Prop:=
 ∀ (pins:List (Addr × Obj)) (s:Shared) (σ:St) (H:Hp) (Q:Bool->Hp->Prop),Inv X pins σ H s->t σ H Q->wpAny (model X.prog X.w) X.A (isTrue e X.env (eval e X.env)) (TP X pins σ Q) X.xe s
noncomputable def PW (X:Cx) (e:Expr) (t:TT):Prop:=
 ∀ (whole:Sem Value) (pins:List (Addr × Obj)) (s:Shared) (σ:St) (H:Hp) (Q:Bool->Hp->Prop),Inv X pins σ H s->t σ H Q->wpAny (model X.prog X.w) X.A (isTrue e X.env whole) (TP X pins σ Q) X.xe s
theorem PW.pt {X:Cx} {e:Expr} {t:TT} (h:PW X e t):PT X e t:=h _
noncomputable def PA (X:Cx) (es:List Expr) (t:TA):Prop:=
 ∀ (pos:Pos) (pins:List (Addr × Obj)) (s:Shared) (σ:St) (H:Hp) (Q:List V->Hp->Prop),Inv X pins σ H s->t σ H Q->wpAny (model X.prog X.w) X.A (spliced (backTo pos (starEach es X.env))) (AP X pins σ Q) X.xe s
noncomputable def PS (X:Cx) (st:Stmt) (t:TS):Prop:=
 ∀ (pins:List (Addr × Obj)) (s:Shared) (σ:St) (H:Hp) (D:Ends),Inv X pins σ H s->t D σ H->wpAny (model X.prog X.w) X.A (exec st X.env) (SP X pins D) X.xe s
noncomputable def PSs (X:Cx) (st:List Stmt) (t:TS):Prop:=
 ∀ (pins:List (Addr × Obj)) (s:Shared) (σ:St) (H:Hp) (D:Ends),Inv X pins σ H s->t D σ H->wpAny (model X.prog X.w) X.A (execs st X.env) (SP X pins D) X.xe s
theorem thn {α:Type} {t:Sem α} {Q Q':α->Shared->Prop} {M:Model} {A:Around} {E:Value->Shared->Prop} {s:Shared} (h:wpAny M A t Q E s) (hQ:∀ a s,Q a s->Q' a s):wpAny M A t Q' E s:=wpAny_mono h hQ fun _ _ x=>x
end L2
namespace L2
open PySem PySem.Spec PyProof.Rows
section
variable {X:Cx}
noncomputable def tVar (i:Nat):TE:=fun σ H Q=>∃ v,σ[i]? = some (some v)/\Q v H
noncomputable def tC (v:V):TE:=fun _ H Q=>Q v H
theorem pe_var {i:Nat} {x:Str} {pos:Pos} (hN:X.N[i]? = some x) (hv:Vis X.env.scope x) (hd:(x == ("__debug__":Str))=false:=by decide) (hcd:(x == ("__classdict__":Str))=false:=by decide):PE X (.Name x pos) (tVar i):=by
 intro pins s σ H Q I h
 obtain ⟨v,e,h⟩:=h
 obtain ⟨m,hn,hl⟩:=I.loc
 obtain ⟨u,r,l⟩:=hl i x v hN e hv
 have fin:EP X pins σ Q u s:=⟨v,H,I,r,h⟩
 rcases l with ⟨hk,hm⟩ | ⟨hk,c,hc,hcell⟩
 ·exact wpAny_Name (wpAny_loadName_local I.ok.kind hk hn hm fin) hd
 ·rcases hk with hk | hk
  ·exact wpAny_Name (wpAny_loadName_cell I.ok.kind hk hc hcell fin) hd
  ·exact wpAny_Name (wpAny_loadName_free I.ok.kind hk hc hcell fin hcd) hd
theorem pe_int {i j pos}:PE X (.Constant (.int i) j pos) (tC (.int i)):=fun _ _ _ H _ I h=>wpAny_Constant_int ⟨.int i,H,I.tok _,⟨_,rfl⟩,h⟩
theorem pe_bl {b j pos}:PE X (.Constant (.bool b) j pos) (tC (.bl b)):=fun _ _ _ H _ I h=>Constant_bool ⟨.bl b,H,I,rfl,h⟩
theorem pe_non {j pos}:PE X (.Constant .none j pos) (tC .non):=fun _ _ _ H _ I h=>Constant_none ⟨.non,H,I,rfl,h⟩
theorem pe_str {x j pos}:PE X (.Constant (.str x) j pos) (tC (.str x)):=fun _ _ _ H _ I h=>Calls.Constant_str ⟨.str x,H,I.tok _,⟨_,rfl⟩,h⟩
noncomputable def Gl (X:Cx) (x:Str):Prop:=X.env.kindOf x=some .globalImplicit
theorem ld_glob {E:Value->Shared->Prop} {pins:List (Addr × Obj)} {s:Shared} {σ:St} {H:Hp} {x:Str} {u:Value} {pos:Pos} {Q:Value->Shared->Prop} (I:Inv X pins σ H s) (hg:Gl X x) (hm:X.mg x=some u) (h:Q u s)
  (hd:(x == ("__debug__":Str))=false:=by decide):wpAny (model X.prog X.w) X.A (eval (.Name x pos) X.env) Q E s:=
 Calls.Name_function_global I.ok.kind hg (Calls.loadGlobal_global (by rw [I.ok.glob]; exact I.mod.glob.keeps I.bk) hm h) hd
theorem ld_blt {E:Value->Shared->Prop} {pins:List (Addr × Obj)} {s:Shared} {σ:St} {H:Hp} {x:Str} {u:Value} {pos:Pos} {Q:Value->Shared->Prop} (I:Inv X pins σ H s) (hg:Gl X x) (hm:X.mg x=none) (hv:bootBuiltins x=some u) (h:Q u s)
  (hn:x ≠ "__name__":=by decide) (hd:(x == ("__debug__":Str))=false:=by decide):wpAny (model X.prog X.w) X.A (eval (.Name x pos) X.env) Q E s:=by
 obtain ⟨mb,h1,h2⟩:=I.mod.blt
 exact Calls.Name_function_global I.ok.kind hg (Calls.loadGlobal_builtin (by rw [I.ok.glob]; exact I.mod.glob.keeps I.bk) hm (by rw [I.ok.blt]; exact h1.keeps I.bk) ((h2 x hn).trans hv) h) hd
theorem pe_glob {x:Str} {v:V} {u:Value} {pos:Pos} (hg:Gl X x) (hm:X.mg x=some u) (r:RelV v u) (hd:(x == ("__debug__":Str))=false:=by decide):PE X (.Name x pos) (tC v):=
 fun _ _ _ H _ I h=>ld_glob I hg hm ⟨v,H,I,r,h⟩ hd
theorem pe_bltn {x:Str} {v:V} {u:Value} {pos:Pos} (hg:Gl X x) (hm:X.mg x=none) (hv:bootBuiltins x=some u) (r:RelV v u) (hn:x ≠ "__name__":=by decide) (hd:(x == ("__debug__":Str))=false:=by decide):PE X (.Name x pos) (tC v):=
 fun _ _ _ H _ I h=>ld_blt I hg hm hv ⟨v,H,I,r,h⟩ hn hd
variable {a b:Expr} {ta tb:TE} {pos:Pos}
noncomputable def PC (X:Cx) (op:CmpOp) (a b:Expr) (t:TE):Prop:=
 ∀ (pins:List (Addr × Obj)) (s:Shared) (σ:St) (H:Hp) (Q:VK),Inv X pins σ H s->t σ H Q->
  wpAny (model X.prog X.w) X.A (eval a X.env) (fun v s₁=>wpAny (model X.prog X.w) X.A (eval b X.env) (fun u s₂=>wpAny (model X.prog X.w) X.A (compareOp op v u) (EP X pins σ Q) X.xe s₂) X.xe s₁) X.xe s
noncomputable def tB (t:TE):TT:=fun σ H Q=>t σ H fun x H1=>∃ c,x=.bl c/\Q c H1
theorem pt_cmp {op:CmpOp} {t:TE} (h:PC X op a b t) (h1:behindInMarks op b=false:=by first | exact nobehind _ (by decide) (by decide) | rfl):PT X (.Compare a [op] [b] pos) (tB t):=by
 intro pins s σ H Q I hw
 refine wpAny_isTrue_Compare1 (thn (h pins s σ H _ I hw) fun v s1 h1=>thn h1 fun u s2 h2=>thn h2 fun c s3 ⟨x,H1,I1,r1,q1⟩=>?_) h1
 obtain ⟨d,rfl,q⟩:=q1
 cases r1
 exact wpAny_truthy_bool ⟨H1,I1,q⟩
theorem pt_val {e:Expr} {t:TE} (h:PE X e t) (he:∀ whole,isTrue e X.env whole=(do let v <-whole; standAt e.pos; holding [v] (truthy v)):=by intro _; rfl):PT X e (tB t):=by
 intro pins s σ H Q I hw
 refine isTrue_plain (thn (h pins s σ H _ I hw) fun v s1 ⟨x,H1,I1,r1,q1⟩=>?_) (he _)
 obtain ⟨d,rfl,q⟩:=q1
 cases r1
 exact wpAny_truthy_bool ⟨H1,I1,q⟩
variable {tA tB':TT} {rest:List Expr}
noncomputable def tAnd (t u:TT):TT:=fun σ H Q=>t σ H fun c H1=>if c=true then u σ H1 Q else Q false H1
noncomputable def tOr (t u:TT):TT:=fun σ H Q=>t σ H fun c H1=>if c=true then Q true H1 else u σ H1 Q
noncomputable def tNot (t:TT):TT:=fun σ H Q=>t σ H fun c H1=>Q (!c) H1
theorem pw_and1 (ha:PT X a tA):PW X (.BoolOp .And [a] pos) tA:=by
 intro wh pins s σ H Q I h
 refine isTrue_and (thn (ha pins s σ H Q I h) fun c s1 e=>?_)
 cases c with
 | true=>exact isTrue_and_nil e
 | false=>exact e
theorem pw_or1 (ha:PT X a tA):PW X (.BoolOp .Or [a] pos) tA:=by
 intro wh pins s σ H Q I h
 refine isTrue_or (thn (ha pins s σ H Q I h) fun c s1 e=>?_)
 cases c with
 | false=>exact isTrue_or_nil e
 | true=>exact e
theorem pw_and (ha:PT X a tA) (hb:PW X (.BoolOp .And (b :: rest) pos) tB'):PW X (.BoolOp .And (a :: b :: rest) pos) (tAnd tA tB'):=by
 intro wh pins s σ H Q I h
 refine isTrue_and (thn (ha pins s σ H _ I h) fun c s1 ⟨H1,I1,q1⟩=>?_)
 cases c with
 | true=>exact hb wh pins s1 σ H1 Q I1 q1
 | false=>exact ⟨H1,I1,q1⟩
theorem pw_or (ha:PT X a tA) (hb:PW X (.BoolOp .Or (b :: rest) pos) tB'):PW X (.BoolOp .Or (a :: b :: rest) pos) (tOr tA tB'):=by
 intro wh pins s σ H Q I h
 refine isTrue_or (thn (ha pins s σ H _ I h) fun c s1 ⟨H1,I1,q1⟩=>?_)
 cases c with
 | true=>exact ⟨H1,I1,q1⟩
 | false=>exact hb wh pins s1 σ H1 Q I1 q1
theorem pt_not (ha:PT X a tA):PT X (.UnaryOp .Not a pos) (tNot tA):=by
 intro pins s σ H Q I h
 exact isTrue_not (ha pins s σ H (fun c H1=>Q (!c) H1) I h)
noncomputable def tAndV (ta tb:TE):TE:=fun σ H Q=>ta σ H fun x H1=>∃ c,x=.bl c/\if c=true then tb σ H1 Q else Q (.bl false) H1
noncomputable def tNotV (ta:TE):TE:=fun σ H Q=>ta σ H fun x H1=>∃ c,x=.bl c/\Q (.bl (!c)) H1
theorem pe_one {op} {t:TE} (h:PE X a t):PE X (.BoolOp op [a] pos) t:=fun pins s σ H Q I hw=>BoolOp_one (h pins s σ H Q I hw)
theorem pe_and (ha:PE X a ta) (hb:PE X (.BoolOp .And (b :: rest) pos) tb):PE X (.BoolOp .And (a :: b :: rest) pos) (tAndV ta tb):=by
 intro pins s σ H Q I h
 refine BoolOp_and (thn (ha pins s σ H _ I h) fun v s1 ⟨x,H1,I1,r1,q1⟩=>?_)
 obtain ⟨c,rfl,q1⟩:=q1
 cases r1
 refine wpAny_truthy_bool ?_
 cases c with
 | true=>exact hb pins s1 σ H1 Q I1 q1
 | false=>exact ⟨.bl false,H1,I1,rfl,q1⟩
theorem pe_not (ha:PE X a ta):PE X (.UnaryOp .Not a pos) (tNotV ta):=by
 intro pins s σ H Q I h
 refine UnaryOp_ (thn (ha pins s σ H _ I h) fun v s1 ⟨x,H1,I1,r1,q1⟩=>?_)
 obtain ⟨c,rfl,q1⟩:=q1
 cases r1
 exact not_of (wpAny_truthy_bool ⟨.bl (!c),H1,I1,rfl,q1⟩)
noncomputable def tIf (t:TT) (ta tb:TE):TE:=fun σ H Q=>t σ H fun c H1=>if c=true then ta σ H1 Q else tb σ H1 Q
theorem pe_ifExp {c:Expr} (hc:PT X c tA) (ha:PE X a ta) (hb:PE X b tb):PE X (.IfExp c a b pos) (tIf tA ta tb):=by
 intro pins s σ H Q I h
 refine wpAny_IfExp (thn (hc pins s σ H _ I h) fun d s1 ⟨H1,I1,q1⟩=>?_)
 cases d with
 | true=>exact ha pins s1 σ H1 Q I1 q1
 | false=>exact hb pins s1 σ H1 Q I1 q1
end
end L2
namespace L2
open PySem PySem.Spec PyProof.Rows
noncomputable def SqL (K:PySem.W.Frag) (H:Hp) (a:Addr) (xs:List V):Prop:=
 Rd H a (.lst xs)\/
  ∃ (o:Obj) (its:Array Value) (n:Nat),K.lookup a=some o/\o.cls=.type "list"/\o.dict=none/\o.data=.seq its n/\its.size<=sizeLine/\Vals xs its.toList
noncomputable def SqT (K:PySem.W.Frag) (H:Hp) (a:Addr) (xs:List V):Prop:=
 Rd H a (.tup xs)\/
  ∃ (o:Obj) (its:Array Value) (n:Nat),K.lookup a=some o/\o.cls=.type "tuple"/\o.data=.seq its n/\its.size<=sizeLine/\Vals xs its.toList
noncomputable def absV:Value->Option V
 | .none=>some .non
 | .bool b=>some (.bl b)
 | .int i _=>some (.int i)
 | .str x _=>some (.str x)
 | .bytes b _=>some (.byt b)
 | .float b _=>some (.flt b)
 | .ref a=>some (.ref a)
 | .type n=>some (.ty n)
 | _=>none
theorem RelV.abs {x:V} {u:Value} (r:RelV x u):absV u=some x:=by
 cases x with
 | non=>cases r; rfl
 | bl _=>cases r; rfl
 | int _=>obtain ⟨t,rfl⟩:=r; rfl
 | str _=>obtain ⟨t,rfl⟩:=r; rfl
 | byt _=>obtain ⟨t,rfl⟩:=r; rfl
 | flt _=>obtain ⟨t,rfl⟩:=r; rfl
 | ref _=>cases r; rfl
 | ty _=>cases r; rfl
theorem RelV.inj {x y:V} {u:Value} (r:RelV x u) (q:RelV y u):x=y:=Option.some.inj (r.abs.symm.trans q.abs)
theorem Vals.inj:∀ {xs ys:List V} {us:List Value},Vals xs us->Vals ys us->xs=ys
 | _,_,_,.nil,.nil=>rfl
 | _,_,_,.cons r t,.cons r' t'=>by rw [r.inj r',Vals.inj t t']
section
variable {X:Cx} {pins:List (Addr × Obj)} {σ:St} {H:Hp} {s:Shared} {a:Addr} {xs ys:List V}
theorem SqL.of {K:PySem.W.Frag} (h:H a=some (.lst xs)):SqL K H a xs:=.inl (.inl h)
theorem Inv.list (I:Inv X pins σ H s) (h:SqL X.K H a xs):∃ its:List Value,Vals xs its/\PlainL s.heap a its.toArray/\xs.length<=sizeLine:=by
 rcases h with h | ⟨o,its,n,hk,hc,hd,hs,hz,r⟩
 ·obtain ⟨z,its,n,r,e⟩:=h.ok I.hok
  exact ⟨its,r,⟨_,n,e,rfl,rfl,rfl⟩,z⟩
 ·refine ⟨its.toList,r,⟨o,n,I.kIn a o hk,hc,hd,by simpa using hs⟩,?_⟩
  have e:=r.length
  simp only [Array.length_toList] at e
  omega
theorem Inv.tuple (I:Inv X pins σ H s) (h:SqT X.K H a xs):∃ its:List Value,Vals xs its/\IsTup s.heap a its.toArray/\xs.length<=sizeLine:=by
 rcases h with h | ⟨o,its,n,hk,hc,hs,hz,r⟩
 ·obtain ⟨z,its,r,p⟩:=h.ok I.hok
  exact ⟨its,r,p,z⟩
 ·refine ⟨its.toList,r,⟨o,I.kIn a o hk,hc,n,by simpa using hs⟩,?_⟩
  have e:=r.length
  simp only [Array.length_toList] at e
  omega
theorem Inv.list_inj (I:Inv X pins σ H s) (h:SqL X.K H a xs) (h':SqL X.K H a ys):xs=ys:=by
 obtain ⟨its,r,⟨o,n,e,_,_,d⟩,_⟩:=I.list h
 obtain ⟨its',r',⟨o',n',e',_,_,d'⟩,_⟩:=I.list h'
 rw [e] at e'; cases e'
 rw [d] at d'
 injection d' with d1 _
 have:its=its':=by simpa using congrArg Array.toList d1
 subst this
 exact r.inj r'
theorem Inv.tuple_inj (I:Inv X pins σ H s) (h:SqT X.K H a xs) (h':SqT X.K H a ys):xs=ys:=by
 obtain ⟨its,r,⟨o,e,_,n,d⟩,_⟩:=I.tuple h
 obtain ⟨its',r',⟨o',e',_,n',d'⟩,_⟩:=I.tuple h'
 rw [e] at e'; cases e'
 rw [d] at d'
 injection d' with d1 _
 have:its=its':=by simpa using congrArg Array.toList d1
 subst this
 exact r.inj r'
end
noncomputable abbrev Cx.wish (X:Cx) (E:Value->Shared->Prop):Cx:={ X with xe:=E }
theorem Cx.Ok.wish {X:Cx} (ok:X.Ok) (E:Value->Shared->Prop):(X.wish E).Ok:=
 ⟨ok.mod,ok.kind,ok.glob,ok.blt,ok.above,ok.inj,ok.has,ok.cab,ok.hd,ok.frames,ok.stk,ok.exf,ok.bs,ok.bsz,ok.noex,ok.exfs,ok.funs,ok.frf⟩
section
variable {X:Cx} {pins:List (Addr × Obj)} {σ:St} {H:Hp} {s:Shared} {E:Value->Shared->Prop}
theorem Inv.wish (I:Inv X pins σ H s) (E:Value->Shared->Prop):Inv (X.wish E) pins σ H s:=⟨I.ok.wish E,I.os,I.bare,I.base,I.loc,I.cell,I.free,I.freeC,I.pin,I.hok,I.len⟩
end
section
variable {X:Cx} {st:Stmt} {rest:List Stmt} {t u:TS} {e:Expr} {te:TE} {pos:Pos}
noncomputable def tNext:TS:=fun D σ H=>D.nx σ H
noncomputable def tSeq (t u:TS):TS:=fun D σ H=>t { D with nx:=u D } σ H
theorem pss_nil:PSs X [] tNext:=fun _ _ σ H _ I h=>wpAny_execs_nil ⟨σ,H,I,h⟩
theorem pss_cons (h1:PS X st t) (h2:PSs X rest u):PSs X (st :: rest) (tSeq t u):=by
 intro pins s σ H D I h
 refine wpAny_execs_cons (thn (h1 pins s σ H { D with nx:=u D } I h) fun f s1 q=>?_)
 cases f with
 | next=>
  obtain ⟨σ',H',I',q⟩:=q
  exact h2 pins s1 σ' H' D I' q
 | ret v=>exact q
 | brk=>exact q
 | cont=>exact q
theorem pss_one (h1:PS X st t):PSs X [st] t:=by
 intro pins s σ H D I h
 refine wpAny_execs_cons (thn (h1 pins s σ H D I h) fun f s1 q=>?_)
 cases f with
 | next=>exact wpAny_execs_nil q
 | ret v=>exact q
 | brk=>exact q
 | cont=>exact q
theorem Inv.quiet {pins:List (Addr × Obj)} {σ:St} {H:Hp} {s:Shared} (I:Inv X pins σ H s):interactive X.env=false:=by simp [interactive,I.ok.kind]
noncomputable def tDrop (te:TE):TS:=fun D σ H=>te σ H fun _ H1=>D.nx σ H1
theorem ps_expr (he:PE X e te) (hs:swapsWith e none pos.line X.env=pure false:=by rfl):PS X (.Expr e pos) (tDrop te):=by
 intro pins s σ H D I h
 exact wpAny_Expr_any (thn (he pins s σ H _ I h) fun v s1 ⟨x,H1,I1,r1,q1⟩=>⟨σ,H1,I1,q1⟩) I.quiet hs
noncomputable def tRet (te:TE):TS:=fun D σ H=>te σ H D.rt
theorem ps_ret (he:PE X e te):PS X (.Return (some e) pos) (tRet te):=by
 intro pins s σ H D I h
 exact wpAny_Return_some (thn (he pins s σ H _ I h) fun v s1 ⟨x,H1,I1,r1,q1⟩=>⟨x,σ,H1,I1,r1,q1⟩)
noncomputable def tIfS (c:TT) (t u:TS):TS:=fun D σ H=>c σ H fun b H1=>if b=true then t D σ H1 else u D σ H1
theorem ps_if {c:Expr} {a b:List Stmt} {tc:TT} (hc:PT X c tc) (ha:PSs X a t) (hb:PSs X b u):PS X (.If c a b pos) (tIfS tc t u):=by
 intro pins s σ H D I h
 refine wpAny_If (thn (hc pins s σ H _ I h) fun d s1 ⟨H1,I1,q1⟩=>?_)
 cases d with
 | true=>exact ha pins s1 σ H1 D I1 q1
 | false=>exact hb pins s1 σ H1 D I1 q1
end
noncomputable abbrev TG:=V->St->Hp->(St->Hp->Prop)->Prop
noncomputable abbrev TGs:=List V->St->Hp->(St->Hp->Prop)->Prop
noncomputable def PG (X:Cx) (target:Expr) (t:TG):Prop:=
 ∀ (pins:List (Addr × Obj)) (s:Shared) (σ:St) (H:Hp) (v:V) (u:Value) (Q:St->Hp->Prop),Inv X pins σ H s->RelV v u->t v σ H Q->
  wpAny (model X.prog X.w) X.A (assign target X.env u) (fun _ s'=>∃ σ' H',Inv X pins σ' H' s'/\Q σ' H') X.xe s
noncomputable def PGs (X:Cx) (ts:List Expr) (t:TGs):Prop:=
 ∀ (pins:List (Addr × Obj)) (s:Shared) (σ:St) (H:Hp) (vs:List V) (us:List Value) (Q:St->Hp->Prop),Inv X pins σ H s->Vals vs us->t vs σ H Q->
  wpAny (model X.prog X.w) X.A (assignInOrder ((assignEach ts X.env).map (·.2)) us) (fun _ s'=>∃ σ' H',Inv X pins σ' H' s'/\Q σ' H') X.xe s
section
variable {X:Cx} {pos:Pos}
noncomputable def gName (i:Nat):TG:=fun v σ H Q=>Q (σ.set i (some v)) H
theorem pg_name {i:Nat} {x:Str} (hN:X.N.Nodup) (hi:X.N[i]? = some x) (hx:Loc X.env.scope x) (hf:X.fn x=true\/X.env.scope.names.lookup x=some .local:=by first | exact .inl rfl | exact .inr rfl | assumption):PG X (.Name x pos) (gName i):=by
 intro pins s σ H v u Q I r h
 exact wpAny_assign_Name (store_ok I hN hi hx r (fun s' I'=>⟨_,H,I',h⟩) hf)
noncomputable def gNil:TGs:=fun vs σ H Q=>vs=[]/\Q σ H
noncomputable def gCons (t:TG) (u:TGs):TGs:=fun vs σ H Q=>∃ v r,vs=v :: r/\t v σ H fun σ' H'=>u r σ' H' Q
theorem pgs_nil:PGs X [] gNil:=by
 intro pins s σ H vs us Q I r h
 obtain ⟨e,h⟩:=h
 subst e
 cases r
 exact assignInOrder_nil ⟨σ,H,I,h⟩
theorem pgs_cons {e:Expr} {es:List Expr} {t:TG} {u:TGs} (h1:PG X e t) (h2:PGs X es u)
  (hs:(assignEach (e :: es) X.env).map (·.2)=assign e X.env :: (assignEach es X.env).map (·.2):=by rfl):PGs X (e :: es) (gCons t u):=by
 intro pins s σ H vs us Q I r h
 obtain ⟨v,vr,e1,h⟩:=h
 subst e1
 cases r with
 | cons r rr=>
  rw [hs]
  refine assignInOrder_cons (thn (h1 pins s σ H _ _ _ I r h) fun _ s1 ⟨σ1,H1,I1,q1⟩=>?_)
  exact h2 pins s1 σ1 H1 _ _ Q I1 rr q1
noncomputable def gTup (K:PySem.W.Frag) (n:Nat) (t:TGs):TG:=fun v σ H Q=>∃ a xs,v=.ref a/\SqT K H a xs/\xs.length=n/\t xs σ H Q
theorem pg_tup {es:List Expr} {k:Nat} {t:TGs} {n:Nat} (hc:X.calm=true) (h:PGs X es t)
  (hn:(assignEach es X.env).length=n:=by rfl) (hst:(assignEach es X.env).findIdx? (·.1)=none:=by rfl):PG X (.Tuple es k pos) (gTup X.K n t):=by
 intro pins s σ H v u Q I r hw
 obtain ⟨a,xs,e1,hq,hl,hw⟩:=hw
 subst e1
 cases r
 obtain ⟨its,rv,ht,hz⟩:=I.tuple hq
 refine assign_Tuple_tuple (I.ok.hd hc) ht (by simp [hn,<-hl,rv.length]) hst fun h' hx=>?_
 have I1:Inv X pins σ H { s with heap:=h' }:=I.kept (t':=s.toks) fun b o e=>hx b o (Nat.ne_of_lt (Heap.lt_size e)) e
 exact h pins _ σ H xs _ Q I1 (by simpa using rv) hw
noncomputable def tAsg (te:TE) (g:TG):TS:=fun D σ H=>te σ H fun x H1=>g x σ H1 D.nx
theorem ps_asg {tg e:Expr} {te:TE} {g:TG} (he:PE X e te) (hg:PG X tg g) (hs:swapsWithSole [tg] e pos.line X.env=pure false:=by rfl) (hw:swappedStores [tg] e X.env=pure none:=by rfl)
  (h1:(assignEach [tg] X.env).map (·.2)=[assign tg X.env]:=by rfl):PS X (.Assign [tg] e pos) (tAsg te g):=by
 intro pins s σ H D I h
 refine wpAny_Assign_stores (thn (he pins s σ H _ I h) fun v s1 ⟨x,H1,I1,r1,q1⟩=>?_) hs hw
 rw [h1]
 exact thn (hg pins s1 σ H1 x v _ I1 r1 q1) fun _ s2 q=>q
theorem ps_set {i:Nat} {x:Str} {e:Expr} {te:TE} {pos':Pos} (hN:X.N.Nodup) (hi:X.N[i]? = some x) (hx:Loc X.env.scope x) (he:PE X e te) (hs:swapsWith e (some (.Name x pos')) pos.line X.env=pure false:=by rfl) (hf:X.fn x=true\/X.env.scope.names.lookup x=some .local:=by first | exact .inl rfl | exact .inr rfl | assumption) :
  PS X (.Assign [.Name x pos'] e pos) (tAsg te (gName i)):=by
 intro pins s σ H D I h
 refine wpAny_Assign_Name (thn (he pins s σ H _ I h) fun v s1 ⟨y,H1,I1,r1,q1⟩=>?_) hs
 exact store_ok I1 hN hi hx r1 (fun s2 I2=>⟨_,H1,I2,q1⟩) hf
end
structure It where
 go:Nat->Hp->Prop
 yld:Nat->Hp->V->Hp->Prop
 stop:Nat->Hp->Prop
noncomputable def FpOk (X:Cx) (pins:List (Addr × Obj)) (H:Hp) (b:Addr):Prop:=
 H b=none/\b ≠ X.env.locals/\b ∉ X.fs/\(b ∈ X.ex\/X.s₀.heap.objs.size<=b)/\(∀ x c,X.env.cells.lookup x=some c->c ≠ b)/\∀ p ∈ X.pn ++ pins,p.1 ≠ b
theorem Inv.fpOk {X:Cx} {pins:List (Addr × Obj)} {σ:St} {H H':Hp} {s:Shared} {b:Addr} (I:Inv X pins σ H s) (hb:s.heap.objs.size<=b) (hn:H' b=none):FpOk X pins H' b:=by
 refine ⟨hn,Nat.ne_of_gt (Nat.lt_of_lt_of_le I.lt hb),I.nofs hb,.inr (Nat.le_trans I.sz hb),fun x c e z=>?_,fun p hp z=>?_⟩
 ·obtain ⟨v,q⟩:=I.cell x c e
  exact absurd (Nat.lt_of_lt_of_le q.lt (by rw [z]; exact hb)) (Nat.lt_irrefl _)
 ·exact absurd (Nat.lt_of_lt_of_le (Heap.lt_size (I.pin p hp).1) (by rw [z]; exact hb)) (Nat.lt_irrefl _)
structure Turn (P:Program) (w:World) (K:PySem.W.Frag) (tg:Expr) (J:It) (fp:List Addr) (it:Addr) (tn:Nat->Heap->Prop):Prop where
 mem:it ∈ fp
 obj:∀ i h,tn i h->∀ b ∈ fp,∃ o,h.get? b=some o/\∀ v,o.data ≠ .cell v
 keep:∀ i h h',tn i h->(∀ b ∈ fp,∀ o,h.get? b=some o->h'.get? b=some o)->tn i h'
 item:∀ (X:Cx),X.prog=P->X.w=w->X.K=K->X.calm=true->∀ (i:Nat) (pins:List (Addr × Obj)) (s:Shared) (σ:St) (H:Hp) (E:Value->Shared->Prop),Inv X pins σ H s->(∀ b ∈ fp,FpOk X pins H b)->tn i s.heap->J.go i H->
  wpAny (model P w) X.A (pyNext (.ref it)) (fun r s1=>∃ u,r=some u/\
   wpAny (model P w) X.A (letOwnedTupleGo tg (.ref it) u) (fun _ s2=>∃ x H',Inv X pins σ H' s2/\RelV x u/\J.yld i H x H'/\tn (i + 1) s2.heap/\∀ b ∈ fp,H' b=none) E s1) E s
 done:∀ (X:Cx),X.prog=P->X.w=w->X.K=K->X.calm=true->∀ (i:Nat) (pins:List (Addr × Obj)) (s:Shared) (σ:St) (H:Hp) (E:Value->Shared->Prop),Inv X pins σ H s->(∀ b ∈ fp,FpOk X pins H b)->tn i s.heap->J.stop i H->
  wpAny (model P w) X.A (pyNext (.ref it)) (fun r s1=>r=none/\Inv X pins σ H s1) E s
 self:∀ (A:Around) (i:Nat) (s:Shared) (Q:Value->Shared->Prop) (E:Value->Shared->Prop),tn i s.heap->Q (.ref it) s->wpAny (model P w) A (pyIter (.ref it)) Q E s
noncomputable abbrev TI:=St->Hp->(It->Hp->Prop)->Prop
noncomputable def PIE (X:Cx) (pins:List (Addr × Obj)) (σ:St) (tg:Expr) (R:It->Hp->Prop) (itv:Value) (s2:Shared):Prop:=
 ∃ (it:Addr) (fp:List Addr) (tn:Nat->Heap->Prop) (J:It) (H':Hp),itv=.ref it/\Inv X pins σ H' s2/\Turn X.prog X.w X.K tg J fp it tn/\tn 0 s2.heap/\(∀ b ∈ fp,FpOk X pins H' b)/\R J H'
noncomputable def PI (X:Cx) (tg iter:Expr) (wi:TI):Prop:=
 ∀ (pins:List (Addr × Obj)) (s:Shared) (σ:St) (H:Hp) (R:It->Hp->Prop),Inv X pins σ H s->wi σ H R->
  wpAny (model X.prog X.w) X.A (eval iter X.env) (fun v s1=>wpAny (model X.prog X.w) X.A (pyIter v) (PIE X pins σ tg R) X.xe s1) X.xe s
theorem go_of {M:Model} {A:Around} {E:Value->Shared->Prop} {s:Shared} {tg:Expr} {it:Addr} {u:Value} {o:Obj} {n:String} {vs:Array Value} {Q:Unit->Shared->Prop} (ho:s.heap.get? it=some o) (hc:o.cls=.type n) (hd:o.data=.fields vs)
    (hn:["enumerate","zip","dict_itemiterator","dict_reverseitemiterator","odict_iterator","itertools.zip_longest","itertools.pairwise"].contains n=false) (hQ:Q () s):wpAny M A (letOwnedTupleGo tg (.ref it) u) Q E s:=by
  unfold letOwnedTupleGo
  cases tg <;> first
    | exact wpAny_pure hQ
    | (cases u <;> first
        | exact wpAny_pure hQ
        | (refine wpAny_bind (wpAny_load ho ?_)
           rw [hc,hd]
           show wpAny M A (if (["enumerate","zip","dict_itemiterator","dict_reverseitemiterator","odict_iterator","itertools.zip_longest","itertools.pairwise"].contains n && vs[0]? == some (rawInt _))=true then _ else _) Q E s
           rw [if_neg (by intro h; rw [hn,Bool.false_and] at h; cases h)]
           exact wpAny_pure hQ))
noncomputable def Itl (K:PySem.W.Frag) (a:Addr):It:=
 ⟨fun i H=>∃ xs x,SqL K H a xs/\xs[i]? = some x,fun i H x H'=>H' = H/\∀ xs,SqL K H a xs->xs[i]? = some x,fun i H=>∃ xs,SqL K H a xs/\xs.length<=i⟩
noncomputable def Itt (K:PySem.W.Frag) (a:Addr):It:=
 ⟨fun i H=>∃ xs x,SqT K H a xs/\xs[i]? = some x,fun i H x H'=>H' = H/\∀ xs,SqT K H a xs->xs[i]? = some x,fun i H=>∃ xs,SqT K H a xs/\xs.length<=i⟩
noncomputable def Itr (lo:Int) (n:Nat):It:=⟨fun i _=>i < n,fun i H x H'=>H' = H/\x=.int (lo + i),fun i _=>n<=i⟩
theorem turn_list {P:Program} {w:World} {K:PySem.W.Frag} {tg:Expr} (a it:Addr):Turn P w K tg (Itl K a) [it] it (fun i h=>h.IsListIter it a i) where
 mem:=by simp
 obj:=fun i h st b hb=>by
  have e:b=it:=by simpa using hb
  subst e
  obtain ⟨o,e,c,d⟩:=st
  exact ⟨o,e,fun v z=>by rw [d] at z; cases z⟩
 keep:=fun i h h' st k=>st.at fun o e=>k it (by simp) o e
 item:=by
  intro X hP hw hK hc i pins s σ H E I hf st hg
  subst hP hw hK
  obtain ⟨xs,x,hq,hx⟩:=hg
  obtain ⟨its,rv,p,hz⟩:=I.list hq
  obtain ⟨u,hu,ru⟩:=rv.get hx
  obtain ⟨f0,f1,f2,f3,f4,f5⟩:=hf it (by simp)
  refine wpAny_pyNext_list_item st p.isList (x:=u) (by simpa using hu) fun h' st' sb=>?_
  have I1:Inv X pins σ H { s with heap:=h' }:=I.turned (t':=s.toks) (fun b o hb e=>(sb.2 b hb).trans e) f0 f1 f3 f4 f5
  obtain ⟨o,e,c,d⟩:=id st'
  exact ⟨u,rfl,go_of (s:={ s with heap:=h' }) e c d (by decide) ⟨x,H,I1,ru,⟨rfl,fun ys hy=>by rw [I.list_inj hy hq]; exact hx⟩,st',fun b hb=>(hf b hb).1⟩⟩
 done:=by
  intro X hP hw hK hc i pins s σ H E I hf st hg
  subst hP hw hK
  obtain ⟨xs,hq,hx⟩:=hg
  obtain ⟨its,rv,p,hz⟩:=I.list hq
  obtain ⟨f0,f1,f2,f3,f4,f5⟩:=hf it (by simp)
  have hl:=rv.length
  exact wpAny_pyNext_list_end (I.ok.hd hc) st p.isList (by simp; omega) fun h' eb=>⟨rfl,I.turned (t':=s.toks) (fun b o hb e=>eb b o hb e) f0 f1 f3 f4 f5⟩
 self:=fun _ _ _ _ _ st h=>wpAny_pyIter_listiter st h
theorem turn_tuple {P:Program} {w:World} {K:PySem.W.Frag} {tg:Expr} (a it:Addr):Turn P w K tg (Itt K a) [it] it (fun i h=>h.IsTupleIter it a i) where
 mem:=by simp
 obj:=fun i h st b hb=>by
  have e:b=it:=by simpa using hb
  subst e
  obtain ⟨o,e,c,d⟩:=st
  exact ⟨o,e,fun v z=>by rw [d] at z; cases z⟩
 keep:=fun i h h' st k=>st.at fun o e=>k it (by simp) o e
 item:=by
  intro X hP hw hK hc i pins s σ H E I hf st hg
  subst hP hw hK
  obtain ⟨xs,x,hq,hx⟩:=hg
  obtain ⟨its,rv,p,hz⟩:=I.tuple hq
  obtain ⟨u,hu,ru⟩:=rv.get hx
  obtain ⟨f0,f1,f2,f3,f4,f5⟩:=hf it (by simp)
  refine wpAny_pyNext_tuple_item st (show s.heap.IsTuple a its.toArray from p) (x:=u) (by simpa using hu) fun h' st' sb=>?_
  have I1:Inv X pins σ H { s with heap:=h' }:=I.turned (t':=s.toks) (fun b o hb e=>(sb.2 b hb).trans e) f0 f1 f3 f4 f5
  obtain ⟨o,e,c,d⟩:=id st'
  exact ⟨u,rfl,go_of (s:={ s with heap:=h' }) e c d (by decide) ⟨x,H,I1,ru,⟨rfl,fun ys hy=>by rw [I.tuple_inj hy hq]; exact hx⟩,st',fun b hb=>(hf b hb).1⟩⟩
 done:=by
  intro X hP hw hK hc i pins s σ H E I hf st hg
  subst hP hw hK
  obtain ⟨xs,hq,hx⟩:=hg
  obtain ⟨its,rv,p,hz⟩:=I.tuple hq
  obtain ⟨f0,f1,f2,f3,f4,f5⟩:=hf it (by simp)
  have hl:=rv.length
  exact wpAny_pyNext_tuple_end (I.ok.hd hc) st (show s.heap.IsTuple a its.toArray from p) (by simp; omega) fun h' eb=>⟨rfl,I.turned (t':=s.toks) (fun b o hb e=>eb b o hb e) f0 f1 f3 f4 f5⟩
 self:=fun _ _ _ _ _ st h=>wpAny_pyIter_tupleiter st h
theorem turn_range {P:Program} {w:World} {K:PySem.W.Frag} {tg:Expr} (it:Addr) (lo:Int) (n:Nat):Turn P w K tg (Itr lo n) [it] it (fun i h=>IsRangeIter h it (lo + (i:Nat) * 1) ((n:Int) - (i:Nat)) 1) where
 mem:=by simp
 obj:=fun i h st b hb=>by
  have e:b=it:=by simpa using hb
  subst e
  exact ⟨_,st,fun v z=>by
   have z':Data.fields _=Data.cell v:=z
   cases z'⟩
 keep:=fun i h h' st k=>k it (by simp) _ st
 item:=by
  intro X hP hw hK hc i pins s σ H E I hf st hg
  subst hP hw hK
  obtain ⟨f0,f1,f2,f3,f4,f5⟩:=hf it (by simp)
  have W:=Walks.range (prog:=X.prog) (w:=X.w) (I.ok.hd hc) it lo 1 n
  refine W.item i s _ _ hg st fun v h' tk hv st' kk=>?_
  obtain ⟨t,rfl⟩:=hv
  have I1:Inv X pins σ H { s with heap:=h',toks:=tk }:=I.turned (fun b o hb e=>kk b o (by simpa using hb) e) f0 f1 f3 f4 f5
  refine ⟨_,rfl,go_of (s:={ s with heap:=h',toks:=tk }) (n:="range_iterator") st' rfl rfl (by decide) ⟨.int (lo + i),H,I1,⟨t,?_⟩,⟨rfl,rfl⟩,st',fun b hb=>(hf b hb).1⟩⟩
  rw [Int.mul_one]
 done:=by
  intro X hP hw hK hc i pins s σ H E I hf st hg
  subst hP hw hK
  obtain ⟨f0,f1,f2,f3,f4,f5⟩:=hf it (by simp)
  exact wpAny_pyNext_range_end (I.ok.hd hc) st (by have:n<=i:=hg; omega) fun h' eb=>⟨rfl,I.turned (t':=s.toks) (fun b o hb e=>eb b o hb e) f0 f1 f3 f4 f5⟩
 self:=fun _ _ _ _ _ st h=>wpAny_pyIter_rangeiter st h
end L2
namespace L2
open PySem PySem.Spec PyProof.Rows
section
variable {X:Cx} {tg:Expr}
noncomputable def iList (K:PySem.W.Frag) (tl:TE):TI:=fun σ H R=>tl σ H fun x H1=>∃ a,x=.ref a/\(∃ xs,SqL K H1 a xs)/\R (Itl K a) H1
noncomputable def iTup (K:PySem.W.Frag) (tl:TE):TI:=fun σ H R=>tl σ H fun x H1=>∃ a,x=.ref a/\(∃ xs,SqT K H1 a xs)/\R (Itt K a) H1
theorem pi_list {l:Expr} {tl:TE} (hl:PE X l tl):PI X tg l (iList X.K tl):=by
 intro pins s σ H R I h
 refine thn (hl pins s σ H _ I h) fun v s1 ⟨x,H1,I1,r1,q1⟩=>?_
 obtain ⟨a,e,⟨xs,hq⟩,q⟩:=q1
 subst e
 cases r1
 obtain ⟨its,rv,p,hz⟩:=I1.list hq
 refine wpAny_pyIter_list p.isList ?_
 refine ⟨s1.heap.objs.size,[s1.heap.objs.size],_,_,H1,rfl,I1.kept (t':=s1.toks) fun b o e=>Heap.get?_push_of_some _ e,turn_list a _,⟨_,Heap.get?_push_size _ rfl,rfl,rfl⟩,fun b hb=>?_,q⟩
 have e:b=s1.heap.objs.size:=by simpa using hb
 subst e
 exact I1.fpOk (Nat.le_refl _) (I1.hok.fresh (Nat.le_refl _))
theorem pi_tup {l:Expr} {tl:TE} (hl:PE X l tl):PI X tg l (iTup X.K tl):=by
 intro pins s σ H R I h
 refine thn (hl pins s σ H _ I h) fun v s1 ⟨x,H1,I1,r1,q1⟩=>?_
 obtain ⟨a,e,⟨xs,hq⟩,q⟩:=q1
 subst e
 cases r1
 obtain ⟨its,rv,p,hz⟩:=I1.tuple hq
 refine wpAny_pyIter_tuple (show s1.heap.IsTuple a its.toArray from p) ?_
 refine ⟨s1.heap.objs.size,[s1.heap.objs.size],_,_,H1,rfl,I1.kept (t':=s1.toks) fun b o e=>Heap.get?_push_of_some _ e,turn_tuple a _,⟨_,Heap.get?_push_size _ rfl,rfl,rfl⟩,fun b hb=>?_,q⟩
 have e:b=s1.heap.objs.size:=by simpa using hb
 subst e
 exact I1.fpOk (Nat.le_refl _) (I1.hok.fresh (Nat.le_refl _))
theorem range_it {pins:List (Addr × Obj)} {σ:St} {H:Hp} {s:Shared} {R:It->Hp->Prop} {E:Value->Shared->Prop} {lo hi:Int} {t u v:Tok} {tk:Nat} (I:Inv X pins σ H s) (h1:-(2 ^ 62)<=lo) (h2:lo < 2 ^ 62) (h3:-(2 ^ 62)<=hi) (h4:hi < 2 ^ 62)
  (q:R (Itr lo (hi - lo).toNat) H):wpAny (model X.prog X.w) X.A (pyIter (.ref s.heap.objs.size)) (PIE X pins σ tg R) E { s with heap:=s.heap.push { cls:=.type "range",data:=.fields #[.int lo t,.int hi u,.int 1 v] },toks:=tk }:=by
 refine wpAny_pyIter_range (IsRange.new ..) (small_one h1 h2 h3 h4) ?_
 have I1:Inv X pins σ H { s with heap:=s.heap.push { cls:=.type "range",data:=.fields #[.int lo t,.int hi u,.int 1 v] },toks:=tk }:=I.kept fun b o e=>Heap.get?_push_of_some _ e
 refine ⟨(s.heap.push { cls:=.type "range",data:=.fields #[.int lo t,.int hi u,.int 1 v] }).objs.size,[(s.heap.push { cls:=.type "range",data:=.fields #[.int lo t,.int hi u,.int 1 v] }).objs.size],_,_,H,rfl,
  I1.kept (t':=tk) fun b o e=>Heap.get?_push_of_some _ e,turn_range _ lo (hi - lo).toNat,?_,fun b hb=>?_,q⟩
 ·have e1:lo + ((0:Nat):Int) * 1=lo:=by simp
  have e2:(((hi - lo).toNat:Nat):Int) - ((0:Nat):Int)=Builtin.Range.rangeSize lo hi 1:=by rw [rangeSize_one]; split <;> omega
  show IsRangeIter _ _ (lo + ((0:Nat):Int) * 1) ((((hi - lo).toNat:Nat):Int) - ((0:Nat):Int)) 1
  rw [e1,e2]
  exact Heap.get?_push_size _ rfl
 ·have e:b=(s.heap.push { cls:=.type "range",data:=.fields #[.int lo t,.int hi u,.int 1 v] }).objs.size:=by simpa using hb
  subst e
  exact I1.fpOk (Nat.le_refl _) (I1.hok.fresh (Nat.le_refl _))
noncomputable def iRng1 (ta:TA):TI:=fun σ H R=>ta σ H fun vs H1=>∃ j:Int,vs=[.int j]/\-(2 ^ 62)<=j/\j < 2 ^ 62/\R (Itr 0 j.toNat) H1
noncomputable def iRng2 (ta:TA):TI:=fun σ H R=>ta σ H fun vs H1=>∃ i j:Int,vs=[.int i,.int j]/\(-(2 ^ 62)<=i/\i < 2 ^ 62/\-(2 ^ 62)<=j/\j < 2 ^ 62)/\R (Itr i (j - i).toNat) H1
theorem pi_range1 {a:Expr} {ta:TA} {p pos:Pos} (hg:Gl X "range") (hm:X.mg "range" = none) (ha:PA X [a] ta) (hs:starEach [a] X.env=[(false,eval a X.env)]:=by rfl):PI X tg (.Call (.Name "range" p) [a] [] pos) (iRng1 ta):=by
 intro pins s σ H R I h
 refine Call_ (ld_blt I hg hm boot_range (PyProof.Rows.callWith_type1 (thn (ha pos pins s σ H _ I h) fun us s1 ⟨vs,H1,I1,r1,q1⟩=>?_) hs rfl))
 obtain ⟨j,e,q1,q2,q⟩:=q1
 subst e
 cases r1 with
 | cons r rr=>
  cases rr
  obtain ⟨t,rfl⟩:=r
  exact call_range_1 (range_it I1 (by omega) (by omega) q1 q2 (by simpa using q))
theorem pi_range2 {a b:Expr} {ta:TA} {p pos:Pos} (hg:Gl X "range") (hm:X.mg "range" = none) (ha:PA X [a,b] ta) (hs:starEach [a,b] X.env=[(false,eval a X.env),(false,eval b X.env)]:=by rfl) (hs2:starEach [b] X.env=[(false,eval b X.env)]:=by rfl) :
  PI X tg (.Call (.Name "range" p) [a,b] [] pos) (iRng2 ta):=by
 intro pins s σ H R I h
 refine Call_ (ld_blt I hg hm boot_range (PyProof.Rows.callWith_type1 (thn (ha pos pins s σ H _ I h) fun us s1 ⟨vs,H1,I1,r1,q1⟩=>?_) (by rw [hs,hs2]) (by rw [hs2]; rfl)))
 obtain ⟨i,j,e,⟨q1,q2,q3,q4⟩,q⟩:=q1
 subst e
 cases r1 with
 | cons r rr=>
  cases rr with
  | cons r' rr=>
   cases rr
   obtain ⟨t,rfl⟩:=r
   obtain ⟨t',rfl⟩:=r'
   exact call_range_2 (range_it I1 q1 q2 q3 q4 q)
noncomputable def tFor (wi:TI) (g:TG) (tb:TS):TS:=fun D σ H=>wi σ H fun J H1=>∃ W:Nat->Nat->St->Hp->Prop,(∃ m,W 0 m σ H1)/\∀ i m σ H,W i m σ H->
 (J.stop i H/\D.nx σ H)\/(J.go i H/\∃ N:St->Hp->Prop,(∀ σ' H',N σ' H'->∃ m',m' < m/\W (i + 1) m' σ' H')/\∀ x H',J.yld i H x H'->g x σ H' fun σ2 H2=>tb { D with nx:=N,ct:=N,bk:=D.nx } σ2 H2)
noncomputable def pinsAt (fp:List Addr) (h:Heap):List (Addr × Obj):=fp.filterMap fun b=>(h.get? b).map fun o=>(b,o)
theorem mem_pinsAt {fp:List Addr} {h:Heap} {b:Addr} {o:Obj} (hb:b ∈ fp) (e:h.get? b=some o):(b,o) ∈ pinsAt fp h:=List.mem_filterMap.mpr ⟨b,hb,by rw [e]; rfl⟩
theorem of_pinsAt {fp:List Addr} {h:Heap} {p:Addr × Obj} (hp:p ∈ pinsAt fp h):p.1 ∈ fp/\h.get? p.1=some p.2:=by
 obtain ⟨b,hb,e⟩:=List.mem_filterMap.mp hp
 cases q:h.get? b with
 | none=>rw [q] at e; cases e
 | some o=>
  rw [q] at e
  have e':(b,o)=p:=Option.some.inj e
  subst e'
  exact ⟨hb,q⟩
theorem Inv.pinned {pins:List (Addr × Obj)} {σ:St} {H:Hp} {s:Shared} {fp:List Addr} (I:Inv X pins σ H s) (hf:∀ b ∈ fp,FpOk X pins H b) (ho:∀ b ∈ fp,∃ o,s.heap.get? b=some o/\∀ v,o.data ≠ .cell v):Inv X (pins ++ pinsAt fp s.heap) σ H s:=
 I.pins_of fun p hp=>(List.mem_append.mp hp).elim (fun z=>I.pin p (List.mem_append_right _ z)) fun z=>by
  obtain ⟨hb,e⟩:=of_pinsAt z
  obtain ⟨f0,f1,f2,_⟩:=hf p.1 hb
  obtain ⟨o,e',d⟩:=ho p.1 hb
  rw [e] at e'; cases e'
  exact ⟨e,f0,f1,f2,d⟩
theorem Inv.unpinned {pins pl:List (Addr × Obj)} {σ:St} {H:Hp} {s:Shared} (I:Inv X (pins ++ pl) σ H s):Inv X pins σ H s:=I.pins_of fun p hp=>I.pin p (List.mem_append_right _ (List.mem_append_left _ hp))
theorem ps_for {iter:Expr} {body:List Stmt} {wi:TI} {g:TG} {tb:TS} {pos:Pos} (hp:PassesOwn (model X.prog X.w) X.A X.env X.xe) (hc:X.calm=true) (hi:PI X tg iter wi) (hg:PG X tg g) (hb:PSs X body tb)
  (hs:∀ x,foldedSetIterable iter X.env x=pure x:=by intro _; rfl):PS X (.For tg iter body [] pos) (tFor wi g tb):=by
 intro pins s σ H D I h
 refine wpAny_For (thn (hi pins s σ H _ I h) fun v s1 h1=>thn h1 fun itv s2 h2=>?_) hs
 obtain ⟨it,fp,tn,J,H2,e,I2,T,st2,f2,W,⟨m0,w0⟩,turn⟩:=h2
 subst e
 have stat:∀ {H':Hp},(∀ b ∈ fp,H' b=none)->∀ b ∈ fp,FpOk X pins H' b:=fun hn b hb=>⟨hn b hb,(f2 b hb).2⟩
 refine codeAny_forLoop_any (fun n s'=>∃ i σ' H',Inv X pins σ' H' s'/\tn i s'.heap/\(∀ b ∈ fp,H' b=none)/\W i n σ' H') ?_ m0 ⟨0,σ,H2,I2,st2,fun b hb=>(f2 b hb).1,w0⟩
 rintro n s3 ⟨i,σ3,H3,I3,st3,fr3,w3⟩
 rcases turn i n σ3 H3 w3 with ⟨stop,qn⟩ | ⟨go,N,hN,step⟩
 ·refine wpAny_passesOwn hp (thn (T.done X rfl rfl rfl hc i pins s3 σ3 H3 X.xe I3 (stat fr3) st3 stop) fun r s4 ⟨hr,I4⟩=>?_)
  subst hr
  exact wpAny_execs_nil ⟨σ3,H3,I4,qn⟩
 ·refine wpAny_passesOwn hp (thn (T.item X rfl rfl rfl hc i pins s3 σ3 H3 X.xe I3 (stat fr3) st3 go) fun r s4 ⟨u,hr,h4⟩=>?_)
  subst hr
  refine wpAny_passesOwn hp (thn h4 fun _ s5 ⟨x,H5,I5,r5,y5,st5,fr5⟩=>?_)
  have I5':=I5.pinned (stat fr5) (T.obj _ _ st5)
  refine wpAny_passesOwn hp (thn (hg _ s5 σ3 H5 x u _ I5' r5 (step x H5 y5)) fun _ s6 ⟨σ6,H6,I6,q6⟩=>?_)
  refine wpAny_passesOwn hp (thn (hb _ s6 σ6 H6 _ I6 q6) fun f s7 q7=>?_)
  have again:∀ {σ7:St} {H7:Hp},Inv X (pins ++ pinsAt fp s5.heap) σ7 H7 s7->N σ7 H7->∃ m,m < n/\∃ i σ' H',Inv X pins σ' H' s7/\tn i s7.heap/\(∀ b ∈ fp,H' b=none)/\W i m σ' H':=fun {σ7 H7} I7 n7=>by
   obtain ⟨m',hm,w7⟩:=hN σ7 H7 n7
   refine ⟨m',hm,i + 1,σ7,H7,I7.unpinned,T.keep _ _ _ st5 fun b hb o e=>(I7.pin (b,o) (List.mem_append_right _ (List.mem_append_right _ (mem_pinsAt hb e)))).1,fun b hb=>?_,w7⟩
   obtain ⟨o,e,d⟩:=T.obj _ _ st5 b hb
   exact (I7.pin (b,o) (List.mem_append_right _ (List.mem_append_right _ (mem_pinsAt hb e)))).2.1
  cases f with
  | next=>obtain ⟨σ7,H7,I7,n7⟩:=q7; exact again I7 n7
  | cont=>obtain ⟨σ7,H7,I7,n7⟩:=q7; exact again I7 n7
  | brk=>obtain ⟨σ7,H7,I7,q7⟩:=q7; exact ⟨σ7,H7,I7.unpinned,q7⟩
  | ret v=>obtain ⟨x7,σ7,H7,I7,r7,q7⟩:=q7; exact ⟨x7,σ7,H7,I7.unpinned,r7,q7⟩
end
end L2
namespace L2
open PySem PySem.Spec PyProof.Rows
noncomputable abbrev R2:=V->V->Hp->VK->Prop
noncomputable def OpR (X:Cx) (f:Value->Value->Sem Value) (r:R2):Prop:=
 ∀ (pins:List (Addr × Obj)) (s:Shared) (σ:St) (H:Hp) (x y:V) (v u:Value) (Q:VK),Inv X pins σ H s->RelV x v->RelV y u->r x y H Q->
  wpAny (model X.prog X.w) X.A (f v u) (EP X pins σ Q) X.xe s
noncomputable def UnR (X:Cx) (f:Value->Sem Value) (r:V->Hp->VK->Prop):Prop:=
 ∀ (pins:List (Addr × Obj)) (s:Shared) (σ:St) (H:Hp) (x:V) (v:Value) (Q:VK),Inv X pins σ H s->RelV x v->r x H Q->
  wpAny (model X.prog X.w) X.A (f v) (EP X pins σ Q) X.xe s
noncomputable def CallR (X:Cx) (f:Value) (r:List V->Hp->VK->Prop):Prop:=
 ∀ (pins:List (Addr × Obj)) (s:Shared) (σ:St) (H:Hp) (xs:List V) (us:List Value) (Q:VK),Inv X pins σ H s->Vals xs us->r xs H Q->
  wpAny (model X.prog X.w) X.A (call f us) (EP X pins σ Q) X.xe s
noncomputable def tOp (r:R2) (ta tb:TE):TE:=fun σ H Q=>ta σ H fun x H1=>tb σ H1 fun y H2=>r x y H2 Q
noncomputable def tUn (r:V->Hp->VK->Prop) (ta:TE):TE:=fun σ H Q=>ta σ H fun x H1=>r x H1 Q
noncomputable def rI (C:Int->Int->Prop) (g:Int->Int->V):R2:=fun x y H Q=>∃ i j,x=.int i/\y=.int j/\C i j/\Q (g i j) H
noncomputable def rI0 (g:Int->Int->V):R2:=fun x y H Q=>∃ i j,x=.int i/\y=.int j/\Q (g i j) H
noncomputable def rU (g:Int->V):V->Hp->VK->Prop:=fun x H Q=>∃ i,x=.int i/\Q (g i) H
section
variable {X:Cx} {a b c:Expr} {ta tb tc:TE} {pos:Pos}
theorem binT (ha:PE X a ta) (hb:PE X b tb) {pins:List (Addr × Obj)} {s:Shared} {σ:St} {H:Hp} {R:V->V->Hp->Prop} (I:Inv X pins σ H s)
  (h:ta σ H fun x H1=>tb σ H1 fun y H2=>R x y H2) {Q:Value->Shared->Prop} {f:Value->Value->Sem Value}
  (hf:∀ v u s2 x y H2,Inv X pins σ H2 s2->RelV x v->RelV y u->R x y H2->wpAny (model X.prog X.w) X.A (f v u) Q X.xe s2) :
  wpAny (model X.prog X.w) X.A (eval a X.env) (fun v s₁=>wpAny (model X.prog X.w) X.A (eval b X.env) (fun u s₂=>wpAny (model X.prog X.w) X.A (f v u) Q X.xe s₂) X.xe s₁) X.xe s:=by
 refine thn (ha pins s σ H _ I h) fun v s1 ⟨x,H1,I1,r1,q1⟩=>?_
 refine thn (hb pins s1 σ H1 _ I1 q1) fun u s2 ⟨y,H2,I2,r2,q2⟩=>?_
 exact hf v u s2 x y H2 I2 r1 r2 q2
theorem pe_op {op:Operator} {r:R2} (ho:OpR X (binaryOp op) r) (ha:PE X a ta) (hb:PE X b tb):PE X (.BinOp a op b pos) (tOp r ta tb):=by
 intro pins s σ H Q I h
 exact wpAny_BinOp (binT ha hb I h fun v u s2 x y H2 I2 rx ry q=>ho pins s2 σ H2 x y v u Q I2 rx ry q)
theorem pe_un {op:UnaryOp} {r:V->Hp->VK->Prop} (ho:UnR X (unaryOp op) r) (ha:PE X a ta):PE X (.UnaryOp op a pos) (tUn r ta):=by
 intro pins s σ H Q I h
 exact UnaryOp_ (thn (ha pins s σ H _ I h) fun v s1 ⟨x,H1,I1,r1,q1⟩=>ho pins s1 σ H1 x v Q I1 r1 q1)
theorem opI {f:Value->Value->Sem Value} {C:Int->Int->Prop} {g:Int->Int->Int}
  (rule:∀ (i j:Int) (t u:Tok) (s:Shared) (Q:Value->Shared->Prop) (E:Value->Shared->Prop),C i j->Q (.int (g i j) s.toks) { s with toks:=s.toks + 1 }->wpAny (model X.prog X.w) X.A (f (.int i t) (.int j u)) Q E s) :
  OpR X f (rI C fun i j=>.int (g i j)):=by
 intro pins s σ H x y v u Q I rx ry h
 obtain ⟨i,j,rfl,rfl,hc,q⟩:=h
 obtain ⟨t,rfl⟩:=rx
 obtain ⟨t',rfl⟩:=ry
 exact rule i j t t' s _ _ hc ⟨.int (g i j),H,I.tok _,⟨_,rfl⟩,q⟩
theorem opI0 {f:Value->Value->Sem Value} {g:Int->Int->Int}
  (rule:∀ (i j:Int) (t u:Tok) (s:Shared) (Q:Value->Shared->Prop) (E:Value->Shared->Prop),Q (.int (g i j) s.toks) { s with toks:=s.toks + 1 }->wpAny (model X.prog X.w) X.A (f (.int i t) (.int j u)) Q E s) :
  OpR X f (rI0 fun i j=>.int (g i j)):=by
 intro pins s σ H x y v u Q I rx ry h
 obtain ⟨i,j,rfl,rfl,q⟩:=h
 obtain ⟨t,rfl⟩:=rx
 obtain ⟨t',rfl⟩:=ry
 exact rule i j t t' s _ _ ⟨.int (g i j),H,I.tok _,⟨_,rfl⟩,q⟩
theorem opB0 {f:Value->Value->Sem Value} {g:Int->Int->Bool}
  (rule:∀ (i j:Int) (t u:Tok) (s:Shared) (Q:Value->Shared->Prop) (E:Value->Shared->Prop),Q (.bool (g i j)) s->wpAny (model X.prog X.w) X.A (f (.int i t) (.int j u)) Q E s) :
  OpR X f (rI0 fun i j=>.bl (g i j)):=by
 intro pins s σ H x y v u Q I rx ry h
 obtain ⟨i,j,rfl,rfl,q⟩:=h
 obtain ⟨t,rfl⟩:=rx
 obtain ⟨t',rfl⟩:=ry
 exact rule i j t t' s _ _ ⟨.bl (g i j),H,I,rfl,q⟩
noncomputable def CPow (i j:Int):Prop:=0<=j/\j<=1000000/\i.natAbs < 2 ^ 64
noncomputable def CMul (i j:Int):Prop:=(-(2 ^ 64) < i/\i < 2 ^ 64)\/(-(2 ^ 64) < j/\j < 2 ^ 64)
theorem CMul.ok {i j:Int} (h:CMul i j):IntMulOk i j:=by
 rcases h with ⟨h1,h2⟩ | ⟨h1,h2⟩
 ·exact .of_left (intBits_le_64 h1 h2)
 ·exact .of_right (intBits_le_64 h1 h2)
theorem op_add:OpR X (binaryOp .Add) (rI0 fun i j=>.int (i + j)):=opI0 fun _ _ _ _ _ _ _ q=>add_int q
theorem op_mul:OpR X (binaryOp .Mult) (rI CMul fun i j=>.int (i * j)):=opI fun _ _ _ _ _ _ _ hc q=>mul_int q hc.ok
theorem op_mod:OpR X (binaryOp .Mod) (rI (fun _ j=>0 < j) fun i j=>.int (i % j)):=opI fun i j _ _ _ _ _ hc q=>by
 have h1:(0:Int) < j:=hc
 exact mod_int' (by omega) (by rw [Int.fmod_eq_emod_of_nonneg i (by omega)]; exact q)
theorem op_pow:OpR X (binaryOp .Pow) (rI CPow fun i j=>.int (i ^ j.toNat)):=opI fun _ _ _ _ _ _ _ hc q=>pow_int_small hc.1 hc.2.1 hc.2.2 q
theorem unI {f:Value->Sem Value} {g:Int->Int}
  (rule:∀ (i:Int) (t:Tok) (s:Shared) (Q:Value->Shared->Prop) (E:Value->Shared->Prop),Q (.int (g i) s.toks) { s with toks:=s.toks + 1 }->wpAny (model X.prog X.w) X.A (f (.int i t)) Q E s) :
  UnR X f (rU fun i=>.int (g i)):=by
 intro pins s σ H x v Q I rx h
 obtain ⟨i,rfl,q⟩:=h
 obtain ⟨t,rfl⟩:=rx
 exact rule i t s _ _ ⟨.int (g i),H,I.tok _,⟨_,rfl⟩,q⟩
theorem un_neg:UnR X (unaryOp .USub) (rU fun i=>.int (-i)):=unI fun _ _ _ _ _ q=>neg_int q
end
section
variable {X:Cx} {a b c:Expr} {ta tb tc:TE} {pos:Pos}
theorem fin_bl {pins:List (Addr × Obj)} {σ:St} {H:Hp} {s:Shared} {Q:VK} {k k':Bool} (I:Inv X pins σ H s) (q:Q (.bl k) H) (e:k=k'):EP X pins σ Q (.bool k') s:=by
 subst e
 exact ⟨.bl k,H,I,rfl,q⟩
theorem op_lt:OpR X (compareOp .Lt) (rI0 fun i j=>.bl (decide (i < j))):=opB0 fun _ _ _ _ _ _ _ q=>lt_int q
theorem op_le:OpR X (compareOp .LtE) (rI0 fun i j=>.bl (decide (i<=j))):=opB0 fun _ _ _ _ _ _ _ q=>le_int q
theorem op_gt:OpR X (compareOp .Gt) (rI0 fun i j=>.bl (decide (j < i))):=opB0 fun _ _ _ _ _ _ _ q=>gt_int q
theorem op_in_str:OpR X (compareOp .In) (fun x y H Q=>∃ i j,x=.str i/\y=.str j/\Q (.bl (!(Builtin.Str.occurrences j i 0 j.length 1).isEmpty)) H):=by
 intro pins s σ H x y v u Q I rx ry h
 obtain ⟨i,j,rfl,rfl,q⟩:=h
 obtain ⟨t,rfl⟩:=rx
 obtain ⟨t',rfl⟩:=ry
 exact in_str (fin_bl I q rfl)
theorem op_notN:OpR X (compareOp .IsNot) (fun x y H Q=>y=.non/\Q (.bl (!decide (x=.non))) H):=by
 intro pins s σ H x y v u Q I rx ry h
 obtain ⟨rfl,q⟩:=h
 cases ry
 refine isnot_none_gen (fin_bl I q ?_)
 cases x <;> first
  | (cases rx; rfl)
  | (obtain ⟨t,rfl⟩:=rx; rfl)
theorem nomark (b:Expr) {op:CmpOp} (h:op ≠ .In:=by decide) (h2:op ≠ .NotIn:=by decide):behindInMarks op b=false:=by
 have e1:(op == CmpOp.In)=false:=by cases op <;> first | rfl | exact absurd rfl h
 have e2:(op == CmpOp.NotIn)=false:=by cases op <;> first | rfl | exact absurd rfl h2
 cases b <;> simp [behindInMarks,e1,e2]
theorem pe_cmpR {op:CmpOp} {r:R2} (ho:OpR X (compareOp op) r) (ha:PE X a ta) (hb:PE X b tb) (hm:behindInMarks op b=false):PE X (.Compare a [op] [b] pos) (tOp r ta tb):=by
 intro pins s σ H Q I h
 exact wpAny_Compare1 (binT ha hb I h fun v u s2 x y H2 I2 rx ry q=>ho pins s2 σ H2 x y v u Q I2 rx ry q) hm
noncomputable def tTest (t:TE):TT:=fun σ H Q=>t σ H fun x H'=>∃ k,x=.bl k/\Q k H'
theorem pt_cmpR {op:CmpOp} {r:R2} (ho:OpR X (compareOp op) r) (ha:PE X a ta) (hb:PE X b tb) (hm:behindInMarks op b=false):PT X (.Compare a [op] [b] pos) (tTest (tOp r ta tb)):=by
 intro pins s σ H Q I h
 refine wpAny_isTrue_Compare1 (thn (ha pins s σ H _ I h) fun v s1 ⟨x,H1,I1,r1,q1⟩=>thn (hb pins s1 σ H1 _ I1 q1) fun u s2 ⟨y,H2,I2,r2,q2⟩=>
  thn (ho pins s2 σ H2 x y v u _ I2 r1 r2 q2) fun c s3 ⟨z,H3,I3,r3,k,e,q3⟩=>?_) hm
 subst e
 cases r3
 exact wpAny_truthy_bool ⟨H3,I3,q3⟩
noncomputable def tChain (r r':R2) (ta tb tc:TE):TE:=fun σ H Q=>ta σ H fun x H1=>tb σ H1 fun y H2=>r x y H2 fun z H3=>∃ k,z=.bl k/\
 (if k=true then tc σ H3 fun w' H4=>r' y w' H4 Q else Q (.bl false) H3)
theorem pe_chain {op op':CmpOp} {r r':R2} (ho:OpR X (compareOp op) r) (ho':OpR X (compareOp op') r') (ha:PE X a ta) (hb:PE X b tb) (hc:PE X c tc)
  (hm:lastMarks [op,op'] [b,c]=false:=by with_unfolding_all rfl):PE X (.Compare a [op,op'] [b,c] pos) (tChain r r' ta tb tc):=by
 intro pins s σ H Q I h
 refine Compare_chain (thn (ha pins s σ H _ I h) fun v s1 ⟨x,H1,I1,r1,q1⟩=>chain_link (thn (hb pins s1 σ H1 _ I1 q1) fun u s2 ⟨y,H2,I2,r2,q2⟩=>
  thn (ho pins s2 σ H2 x y v u _ I2 r1 r2 q2) fun d s3 ⟨z,H3,I3,r3,k,e,q3⟩=>?_)) hm
 subst e
 cases r3
 refine wpAny_truthy_bool ?_
 cases k with
 | false=>exact ite_ff ⟨.bl false,H3,I3,rfl,q3⟩
 | true=>exact ite_tt (chain_last (thn (hc pins s3 σ H3 _ I3 q3) fun w' s4 ⟨z',H4,I4,r4,q4⟩=>ho' pins s4 σ H4 y z' u w' Q I4 r2 r4 q4))
theorem pt_chain {op op':CmpOp} {r r':R2} (ho:OpR X (compareOp op) r) (ho':OpR X (compareOp op') r') (ha:PE X a ta) (hb:PE X b tb) (hc:PE X c tc)
  (hm:lastMarks [op,op'] [b,c]=false:=by with_unfolding_all rfl):PT X (.Compare a [op,op'] [b,c] pos) (tTest (tChain r r' ta tb tc)):=by
 intro pins s σ H Q I h
 refine isTrue_chain (thn (ha pins s σ H _ I h) fun v s1 ⟨x,H1,I1,r1,q1⟩=>test_link (thn (hb pins s1 σ H1 _ I1 q1) fun u s2 ⟨y,H2,I2,r2,q2⟩=>
  thn (ho pins s2 σ H2 x y v u _ I2 r1 r2 q2) fun d s3 ⟨z,H3,I3,r3,k,e,q3⟩=>?_)) hm
 subst e
 cases r3
 refine wpAny_truthy_bool ?_
 cases k with
 | false=>
  obtain ⟨k',e',q'⟩:=q3
  cases e'
  exact ite_ff ⟨H3,I3,q'⟩
 | true=>
  refine ite_tt (test_last (thn (hc pins s3 σ H3 _ I3 q3) fun w' s4 ⟨z',H4,I4,r4,q4⟩=>thn (ho' pins s4 σ H4 y z' u w' _ I4 r2 r4 q4) fun d' s5 ⟨z2,H5,I5,r5,k2,e2,q5⟩=>?_))
  subst e2
  cases r5
  exact wpAny_truthy_bool ⟨H5,I5,q5⟩
theorem line63:(sizeLine:Nat) < 2 ^ 63:=by rw [sizeLine_eq]; decide
theorem op_add_str:OpR X (binaryOp .Add) (fun x y H Q=>∃ i j,x=.str i/\y=.str j/\i.length + j.length<=sizeLine/\Q (.str (i ++ j)) H):=by
 intro pins s σ H x y v u Q I rx ry h
 obtain ⟨i,j,rfl,rfl,hz,q⟩:=h
 obtain ⟨t,rfl⟩:=rx
 obtain ⟨t',rfl⟩:=ry
 exact add_str (fun t' tk=>⟨.str (i ++ j),H,I.tok _,⟨_,rfl⟩,q⟩) hz
theorem vals1 {x:V} {us:List Value} (r:Vals [x] us):∃ u,us=[u]/\RelV x u:=by
 cases r with
 | cons r1 r2=>cases r2; exact ⟨_,rfl,r1⟩
theorem vals2 {x y:V} {us:List Value} (r:Vals [x,y] us):∃ u w',us=[u,w']/\RelV x u/\RelV y w':=by
 cases r with
 | cons r1 r2=>
  cases r2 with
  | cons r3 r4=>cases r4; exact ⟨_,_,rfl,r1,r3⟩
theorem call_max2 (hc:X.calm=true):CallR X (.builtin "max") (fun xs H Q=>∃ i j,xs=[.int i,.int j]/\Q (.int (if j > i then j else i)) H):=by
 intro pins s σ H xs us Q I r h
 obtain ⟨i,j,rfl,q⟩:=h
 obtain ⟨u,w',rfl,⟨t,rfl⟩,⟨t',rfl⟩⟩:=vals2 r
 refine max_two_ints (I.ok.hd hc) fun h' tk k=>⟨_,H,I.kept k,?_,q⟩
 by_cases hj:j > i
 ·rw [if_pos hj,if_pos hj]; exact ⟨_,rfl⟩
 ·rw [if_neg hj,if_neg hj]; exact ⟨_,rfl⟩
theorem call_str_int:CallR X (.type "str") (fun xs H Q=>∃ i,xs=[.int i]/\i.natAbs.log2 < 1920/\Q (.str (toString i)) H):=by
 intro pins s σ H xs us Q I r h
 obtain ⟨i,rfl,hz,q⟩:=h
 obtain ⟨u,rfl,t,rfl⟩:=vals1 r
 exact PySem.P.str_of_int hz ⟨.str _,H,I.tok _,⟨_,rfl⟩,q⟩
end
end L2
namespace L2
open PySem PySem.Spec PyProof.Rows
structure ObjM (h:Heap) (x dx C:Addr) (mA:Str->Option Value):Prop where
 obj:h.get? x=some (PySem.W.instObj C dx)
 ns:h.Ns1 dx mA
 ne:dx ≠ x
theorem lookIn_ns {h:Heap} {dx:Addr} {mA:Str->Option Value} (n:h.Ns1 dx mA):∃ od,h.get? dx=some od/\∀ name,PySem.W.lookIn name od=some (mA name):=by
 obtain ⟨o,es,ep,ho,hd,hk,_,hm⟩:=n
 refine ⟨o,ho,fun name=>?_⟩
 have e:=hm name
 unfold nsFind findBy at e
 rw [<-Array.find?_toList] at e
 unfold PySem.W.lookIn
 rw [hd]
 dsimp only
 split
 ·rename_i y q
  rw [q] at e
  exact congrArg some e
 ·rename_i q
  rw [q] at e
  have a:es.toList.any (·.refKey)=false:=by
   rw [List.any_eq_false]
   intro y hy
   obtain ⟨z,t,hkey⟩:=hk y (Array.mem_toList_iff.mp hy)
   simp [DictEntry.refKey,hkey]
  have a':¬ es.toList.any (·.refKey)=true:=by rw [a]; exact Bool.false_ne_true
  rw [if_neg a']
  exact congrArg some e
theorem ObjM.look {h:Heap} {x dx C:Addr} {mA:Str->Option Value} (I:ObjM h x dx C mA):∃ od,PySem.W.InstAt h x (PySem.W.instObj C dx) C (some od)/\∀ name,PySem.W.lookIn name od=some (mA name):=
 let ⟨od,ho,hl⟩:=lookIn_ns I.ns
 ⟨od,⟨I.obj,rfl,rfl,ho⟩,hl⟩
theorem RelO.some_of {v:V} {o:Option Value} (r:RelO (some v) o):∃ u,o=some u/\RelV v u:=by
 cases o with
 | none=>exact (show False from r).elim
 | some u=>exact ⟨u,rfl,r⟩
section
variable {P:Program} {w:World} {H H':Hp} {h h':Heap} {a C dx:Addr} {fs fs':List (Str × V)}
theorem ins_get (hok:HOk P w H h) (e:H a=some (.ins C dx fs)):∃ mA,ObjM h a dx C mA/\(∀ f,RelO (fs.lookup f) (mA f))/\PySem.Within mA (fs.map (·.1))/\fs.length<=1000/\H dx=some (.own a):=by
 obtain ⟨d,z,ne,ob,mA,n,r,q⟩:=(show ObjOk P w H h a (.ins C dx fs) from hok a _ e)
 exact ⟨mA,⟨ob,n,ne⟩,r,q,z,d⟩
end
structure Cls (K:PySem.W.Frag) (C:Addr):Prop where
 pg:PySem.W.plainGet K C Str.empty=true
 hd:PySem.W.hasDictIn K C=true
 po:PySem.W.plainOver K C=true
 sa:PySem.W.findIn K (.ref C) "__setattr__" = some (some (.builtin "object.__setattr__"))
theorem Cls.get {K:PySem.W.Frag} {C:Addr} (c:Cls K C) (f:Str):PySem.W.plainGet K C f=true:=c.pg
section
variable {X:Cx} {pins:List (Addr × Obj)} {σ:St} {H:Hp} {s:Shared} {A:Around} {E:Value->Shared->Prop} {Q:Value->Shared->Prop} {c:Value} {b:Bool}
inductive TyOf (K:PySem.W.Frag) (H:Hp):V->Value->Prop where
 | non:TyOf K H .non (.type "NoneType")
 | bl (x:Bool):TyOf K H (.bl x) (.type "bool")
 | int (i:Int):TyOf K H (.int i) (.type "int")
 | str (x:Str):TyOf K H (.str x) (.type "str")
 | flt (x:UInt64):TyOf K H (.flt x) (.type "float")
 | lst {a:Addr} {xs:List V} (e:H a=some (.lst xs)):TyOf K H (.ref a) (.type "list")
 | frz {a:Addr} {o:Obj} {xs:List V} (e:H a=some (.frz o (.lst xs))):TyOf K H (.ref a) (.type "list")
 | tup {a:Addr} {xs:List V} (e:H a=some (.tup xs)):TyOf K H (.ref a) (.type "tuple")
 | dK {a:Addr} {kvs:List (Key × V)} (e:H a=some (.dK kvs)):TyOf K H (.ref a) (.type "dict")
 | dT {a:Addr} {kvs:List (List Key × V)} (e:H a=some (.dT kvs)):TyOf K H (.ref a) (.type "dict")
 | ins {a C dx:Addr} {fs:List (Str × V)} (e:H a=some (.ins C dx fs)) (cl:Cls K C) (ha:PySem.W.findIn K (.ref C) "__class__" = some (some (.builtin "object.__class__")))
   (hn:PySem.W.specialIn K (.builtin "object.__class__") "__get__" = some (some (.builtin "getset_descriptor.__get__"))) (htk:PySem.W.takesIn K (.builtin "object.__class__")=some true)
   (hm:PySem.W.mroIn K C (.type "object")=some true):TyOf K H (.ref a) (.ref C)
theorem isinst_ok {x:V} {u t:Value} (I:Inv X pins σ H s) (rx:RelV x u) (ty:TyOf X.K H x t) (e:PySem.W.kitOne X.K t c=some b) (h:∀ tk,Q (.bool b) { s with toks:=tk }) :
  wpAny (model X.prog X.w) A (call (.builtin "isinstance") [u,c]) Q E s:=by
 cases ty with
 | non=>cases (show u=Value.none from rx); exact PySem.W.kia_one PySem.W.kitx_none I.kIn True.intro e (fun z=>nomatch z) h
 | bl y=>cases (show u=Value.bool y from rx); exact PySem.W.kia_one PySem.W.kitx_bool I.kIn True.intro e (fun z=>nomatch z) h
 | int i=>obtain ⟨t,q⟩:=(show ∃ t,u=Value.int i t from rx); cases q; exact PySem.W.kia_one PySem.W.kitx_int I.kIn True.intro e (fun z=>nomatch z) h
 | str y=>obtain ⟨t,q⟩:=(show ∃ t,u=Value.str y t from rx); cases q; exact PySem.W.kia_one PySem.W.kitx_str I.kIn True.intro e (fun z=>nomatch z) h
 | flt y=>obtain ⟨t,q⟩:=(show ∃ t,u=Value.float y t from rx); cases q; exact PySem.W.kia_one PySem.W.kitx_float I.kIn True.intro e (fun z=>nomatch z) h
 | @lst a xs ea=>
  cases (show u=Value.ref a from rx)
  obtain ⟨_,_,n,_,h1⟩:=(show ObjOk X.prog X.w H s.heap a (.lst xs) from I.hok a _ ea)
  exact PySem.W.kia_one PySem.W.kitx_list I.kIn ⟨_,h1,rfl⟩ e (fun z=>nomatch z) h
 | @frz a ob xs ea=>
  cases (show u=Value.ref a from rx)
  obtain ⟨_,_,_,n,_,h1⟩:=(show ObjOk X.prog X.w H s.heap a (.frz ob (.lst xs)) from I.hok a _ ea)
  exact PySem.W.kia_one PySem.W.kitx_list I.kIn ⟨_,h1,rfl⟩ e (fun z=>nomatch z) h
 | @tup a xs ea=>
  cases (show u=Value.ref a from rx)
  obtain ⟨_,_,_,p⟩:=(show ObjOk X.prog X.w H s.heap a (.tup xs) from I.hok a _ ea)
  obtain ⟨o,h1,h2,_⟩:=p
  exact PySem.W.kia_one PySem.W.kitx_tuple I.kIn ⟨o,h1,h2⟩ e (fun z=>nomatch z) h
 | @dK a kvs ea=>
  cases (show u=Value.ref a from rx)
  obtain ⟨_,_,vs,_,p⟩:=(show ObjOk X.prog X.w H s.heap a (.dK kvs) from I.hok a _ ea)
  obtain ⟨o,es,ep,h1,h2,_⟩:=p
  exact PySem.W.kia_one PySem.W.kitx_dict I.kIn ⟨o,h1,h2.1⟩ e (fun z=>nomatch z) h
 | @dT a kvs ea=>
  cases (show u=Value.ref a from rx)
  obtain ⟨_,_,xs,_,o,es,ep,h1,h2,_⟩:=(show ObjOk X.prog X.w H s.heap a (.dT kvs) from I.hok a _ ea)
  exact PySem.W.kia_one PySem.W.kitx_dict I.kIn ⟨o,h1,h2.1⟩ e (fun z=>nomatch z) h
 | @ins a C dx fs ea cl ha hn htk hm=>
  cases (show u=Value.ref a from rx)
  obtain ⟨mA,O,_⟩:=ins_get I.hok ea
  obtain ⟨od,J,_⟩:=O.look
  exact PySem.W.kia_one (PySem.W.kitx_own (cl.get _) cl.hd ha hn htk hm) I.kIn J e (fun z=>nomatch z) h
end
end L2
namespace L2
open PySem PySem.Spec PyProof.Rows
structure Room (k:Nat) (A:Around):Prop where
 hd:A.handled=none
 dp:A.depth + 3 * k + 5 < recursionLimit
 un:A.units + 16 * k + 200 < cLine
theorem Room.mono {j k:Nat} {A:Around} (r:Room k A) (h:j<=k):Room j A:=⟨r.hd,by have:=r.dp; omega,by have:=r.un; omega⟩
theorem Room.deeper {k:Nat} {A:Around} (r:Room (k + 1) A) (env:Env):Room k (A.deeper env):=
 ⟨r.hd,by have:=r.dp; show A.depth + 1 + 3 * k + 5 < _; omega,by have:=r.un; show A.units + 3 + 16 * k + 200 < _; omega⟩
theorem Room.depth {k:Nat} {A:Around} (r:Room k A):A.depth < recursionLimit:=by have:=r.dp; omega
theorem Room.units {k:Nat} {A:Around} (r:Room k A):A.units + 64 < cLine:=by have:=r.un; omega
noncomputable def tNil:TA:=fun _ H Q=>Q [] H
noncomputable def tCons (ta:TE) (tr:TA):TA:=fun σ H Q=>ta σ H fun x H1=>tr σ H1 fun xs H2=>Q (x :: xs) H2
section
variable {X:Cx} {e:Expr} {es:List Expr} {te:TE} {t:TA} {pos:Pos}
theorem pa_nil:PA X [] tNil:=fun _ _ _ _ H Q I h=>Calls.spliced_nil ⟨[],H,I,.nil,h⟩
theorem pa_cons (ha:PE X e te) (hr:PA X es t) (hs:starEach (e :: es) X.env=(false,eval e X.env) :: starEach es X.env:=by rfl):PA X (e :: es) (tCons te t):=by
 intro pos pins s σ H Q I h
 rw [hs]
 show wpAny _ _ (spliced ((false,eval e X.env) :: backTo pos (starEach es X.env))) _ _ s
 refine Calls.spliced_cons (thn (ha pins s σ H _ I h) fun u s1 ⟨x,H1,I1,r1,q1⟩=>?_)
 exact thn (hr pos pins s1 σ H1 _ I1 q1) fun us s2 ⟨xs,H2,I2,r2,q2⟩=>⟨x :: xs,H2,I2,.cons r1 r2,q2⟩
noncomputable def tTup (t:TA):TE:=fun σ H Q=>t σ H fun xs H1=>xs.length<=sizeLine/\∀ p,H1 p=none->Q (.ref p) (upd H1 p (.tup xs))
noncomputable def tLst (t:TA):TE:=fun σ H Q=>t σ H fun xs H1=>xs.length<=sizeLine/\∀ p,H1 p=none->Q (.ref p) (upd H1 p (.lst xs))
theorem pe_tup {x1} (h:PA X es t):PE X (.Tuple es x1 pos) (tTup t):=by
 intro pins s σ H Q I hq
 refine wpAny_Tuple_spliced (thn (h pos pins s σ H _ I hq) fun us s1 ⟨xs,H1,I1,r,z,q⟩=>⟨by rw [<-r.length]; exact z,?_⟩)
 have hf:H1 s1.heap.objs.size=none:=I1.hok.fresh (Nat.le_refl _)
 refine ⟨.ref s1.heap.objs.size,upd H1 s1.heap.objs.size (.tup xs),I1.laid (t':=s1.toks) (fun b u e=>Heap.get?_push_of_some _ e) (Nat.le_refl _) ?_,rfl,q _ hf⟩
 exact ⟨z,us,r,⟨_,Heap.get?_push_size _ rfl,rfl,_,rfl⟩⟩
theorem pe_lst (h:PA X es t):PE X (.List es pos) (tLst t):=by
 intro pins s σ H Q I hq
 refine wpAny_List_spliced (thn (h pos pins s σ H _ I hq) fun us s1 ⟨xs,H1,I1,r,z,q⟩=>⟨by rw [<-r.length]; exact z,?_⟩)
 have hf:H1 s1.heap.objs.size=none:=I1.hok.fresh (Nat.le_refl _)
 refine ⟨.ref s1.heap.objs.size,upd H1 s1.heap.objs.size (.lst xs),I1.laid (t':=s1.toks) (fun b u e=>Heap.get?_push_of_some _ e) (Nat.le_refl _) ?_,rfl,q _ hf⟩
 exact ⟨z,us,0,r,Heap.get?_push_size _ rfl⟩
end
noncomputable abbrev Sp:=List V->Hp->VK->XK->Prop
noncomputable abbrev CXT:=List Env->Hp->Shared->XK->Value->Shared->Prop
structure Env0 (P:Program) (w:World) (K:PySem.W.Frag) (mg:Str->Option Value) (base:Heap) (A:Around) (outer:List Env) (s:Shared) (H:Hp):Prop where
 frames:A.frames=some outer
 mod:Mod K mg base
 bs:∀ b o,base.get? b=some o->s.heap.get? b=some o/\H b=none
 bsz:base.objs.size<=s.heap.objs.size
 funs:s.heap.FunFrames base outer
 frf:∀ b ∈ frs outer,H b=none
 hok:HOk P w H s.heap
 bare:AllBare s.gens
noncomputable def CE (outer:List Env) (P:Program) (w:World) (H:Hp) (s:Shared) (Q:VK) (u:Value) (s':Shared):Prop:=
 ∃ v H',s'.os=s.os/\AllBare s'.gens/\Un (frs outer) [] H H' s.heap s'.heap/\HOk P w H' s'.heap/\RelV v u/\Q v H'
noncomputable def CR (CX:CXT) (outer:List Env) (P:Program) (w:World) (H:Hp) (s:Shared) (Q:VK) (E:XK) (r:Result) (s':Shared):Prop:=
 match r with
 | .ok (.ret u)=>CE outer P w H s Q u s'
 | .ok _=>False
 | .error e=>CX outer H s E e s'
structure FnOk (P:Program) (w:World) (K:PySem.W.Frag) (mg:Str->Option Value) (base:Heap) (CX:CXT) (k:Nat) (f:Addr) (fd:FuncData) (ps:List Str) (sp:Sp):Prop where
 len:∀ vs H Q E,sp vs H Q E->vs.length=ps.length
 run:∀ (A:Around) (outer:List Env) (s:Shared) (H:Hp) (args:Args) (us:List Value) (vs:List V) (Q:VK) (E:XK),Room k A->Env0 P w K mg base A outer s H->BindsTo s fd args (ps.zip us)->Vals vs us->sp vs H Q E->
  codeAny (model P w) A (.call (.ref f) args) (CR CX outer P w H s Q E) s
theorem FnOk.imp {P:Program} {w:World} {K:PySem.W.Frag} {mg:Str->Option Value} {base:Heap} {CX:CXT} {k:Nat} {f:Addr} {fd:FuncData} {ps:List Str} {sp sp':Sp} (F:FnOk P w K mg base CX k f fd ps sp)
  (h:∀ vs H Q E,sp' vs H Q E->sp vs H Q E):FnOk P w K mg base CX k f fd ps sp':=
 ⟨fun vs H Q E q=>F.len vs H Q E (h _ _ _ _ q),fun A outer s H args us vs Q E hr he hb hv hs=>F.run A outer s H args us vs Q E hr he hb hv (h _ _ _ _ hs)⟩
section
variable {X:Cx} {pins:List (Addr × Obj)} {σ:St} {H:Hp} {s s':Shared}
theorem Inv.env0 (I:Inv X pins σ H s):Env0 X.prog X.w X.K X.mg X.base X.A X.stack s H:=
 ⟨I.ok.frames,I.ok.mod,I.bs,Nat.le_trans I.ok.bsz I.sz,I.stack,I.stkFree,I.hok,I.bare⟩
theorem Inv.after {Q:VK} {u:Value} (I:Inv X pins σ H s) (h:CE X.stack X.prog X.w H s Q u s'):EP X pins σ Q u s':=by
 obtain ⟨v,H',os,bare,un,hok,r,q⟩:=h
 obtain ⟨hh,g,d,t,os'⟩:=s'
 obtain rfl:os' = s.os:=os
 exact ⟨v,H',I.call (h':=hh) (g':=g) (d':=d) (t':=t) (ch:=[]) un hok bare (fun b z=>absurd z (by simp)),r,q⟩
end
noncomputable def Binds (K:PySem.W.Frag) (fd:FuncData) (ps:List Str) (ds:List Value):Prop:=
 ∀ (s:Shared) (us:List Value),K.In s.heap->(us ++ ds).length=ps.length->BindsTo s fd ⟨us,[]⟩ (ps.zip (us ++ ds))
theorem Binds.all {K:PySem.W.Frag} {fd:FuncData} {ps:List Str} (h:∀ us:List Value,us.length=ps.length->bindArgs fd ⟨us,[]⟩=pure (ps.zip us)):Binds K fd ps []:=fun s us _ hl=>by
 rw [List.append_nil] at hl ⊢
 exact .of_eq (h us hl)
structure FnScope (N P:List Str) (sc:Scope):Prop where
 kind:sc.kind=.function
 co:sc.isCoroutine=false
 gen:sc.isGenerator=false
 nd:N.Nodup
 pre:N.take P.length=P
 par:∀ x ∈ P,sc.names.lookup x=some .local\/sc.names.lookup x=some .cell
 nofree:∀ y ∈ sc.names,y.2 ≠ .free
theorem bindL_out {kindOf:Str->Option NameKind} {x:Str}:∀ {binds:List (Str × Value)} {m:Str->Option Value},(∀ v,(x,v) ∉ binds)->bindL kindOf binds m x=m x
 | [],_,_=>rfl
 | (n,v) :: r,m,h=>by
  unfold bindL
  rw [bindL_out fun w hw=>h w (List.mem_cons_of_mem _ hw)]
  split
  ·have:x ≠ n:=by rintro rfl; exact h v List.mem_cons_self
   simp [this]
  ·rfl
theorem bindC_out {kindOf:Str->Option NameKind} {x:Str}:∀ {binds:List (Str × Value)} {m:Str->Option Value},(∀ v,(x,v) ∉ binds)->bindC kindOf binds m x=m x
 | [],_,_=>rfl
 | (n,v) :: r,m,h=>by
  unfold bindC
  rw [bindC_out fun w hw=>h w (List.mem_cons_of_mem _ hw)]
  split
  ·rfl
  ·have:x ≠ n:=by rintro rfl; exact h v List.mem_cons_self
   simp [this]
theorem bindL_get {kindOf:Str->Option NameKind} {x:Str} {v:Value}:∀ {P:List Str} {vs:List Value} {i:Nat} {m:Str->Option Value},P.Nodup->P[i]? = some x->vs[i]? = some v->kindOf x=some .local->
  bindL kindOf (P.zip vs) m x=some v
 | [],_,_,_,_,h,_,_=>by simp at h
 | _ :: _,[],_,_,_,_,h,_=>by simp at h
 | p :: P,w :: vs,0,m,nd,h1,h2,hk=>by
  simp at h1 h2; subst h1; subst h2
  show bindL kindOf ((p,w) :: P.zip vs) m p=_
  unfold bindL
  rw [bindL_out fun v hv=>(List.nodup_cons.mp nd).1 (List.of_mem_zip hv).1,if_pos hk]
  simp
 | p :: P,w :: vs,i + 1,m,nd,h1,h2,hk=>by
  show bindL kindOf ((p,w) :: P.zip vs) m x=_
  unfold bindL
  exact bindL_get (i:=i) (List.nodup_cons.mp nd).2 (by simpa using h1) (by simpa using h2) hk
theorem bindC_get {kindOf:Str->Option NameKind} {x:Str} {v:Value}:∀ {P:List Str} {vs:List Value} {i:Nat} {m:Str->Option Value},P.Nodup->P[i]? = some x->vs[i]? = some v->kindOf x ≠ some .local->
  bindC kindOf (P.zip vs) m x=some v
 | [],_,_,_,_,h,_,_=>by simp at h
 | _ :: _,[],_,_,_,_,h,_=>by simp at h
 | p :: P,w :: vs,0,m,nd,h1,h2,hk=>by
  simp at h1 h2; subst h1; subst h2
  show bindC kindOf ((p,w) :: P.zip vs) m p=_
  unfold bindC
  rw [bindC_out fun v hv=>(List.nodup_cons.mp nd).1 (List.of_mem_zip hv).1,if_neg hk]
  simp
 | p :: P,w :: vs,i + 1,m,nd,h1,h2,hk=>by
  show bindC kindOf ((p,w) :: P.zip vs) m x=_
  unfold bindC
  exact bindC_get (i:=i) (List.nodup_cons.mp nd).2 (by simpa using h1) (by simpa using h2) hk
noncomputable def start (N:List Str) (vs:List V):St:=vs.map some ++ List.replicate (N.length - vs.length) none
noncomputable def cxOf (CX:CXT) (P:Program) (w:World) (K:PySem.W.Frag) (mg:Str->Option Value) (base:Heap) (N:List Str) (qual:Str) (scope:Scope) (f:Addr) (cd:Value) (A:Around) (outer:List Env) (s:Shared) (H:Hp) (E:XK):Cx where
 prog:=P
 w:=w
 K:=K
 mg:=mg
 base:=base
 A:=A.deeper (envOfC qual scope s.heap.objs.size f cd)
 N:=N
 s₀:=s
 H₀:=H
 env:=envOfC qual scope s.heap.objs.size f cd
 outer:=outer
 stack:=envOfC qual scope s.heap.objs.size f cd :: outer
 ex:=[]
 calm:=true
 fn:=fun _=>true
 pn:=[]
 xe:=fun e s'=>wpAny (model P w) (A.deeper (envOfC qual scope s.heap.objs.size f cd)) (leaving (envOfC qual scope s.heap.objs.size f cd) e) (fun _ s''=>CX outer H s E e s'') (fun e' s''=>CX outer H s E e' s'') s'
theorem cell_has {sc:Scope} {n:Nat} {x:Str} (h:sc.names.lookup x=some .cell):∃ c,(cellsFrom n sc.names []).lookup x=some c:=by
 have q:=PySem.W.cellsFrom_some sc.names n [] (.inl h)
 exact Option.isSome_iff_exists.mp q
theorem inv_start {CX:CXT} {P:Program} {w:World} {K:PySem.W.Frag} {mg:Str->Option Value} {base:Heap} {N ps:List Str} {qual:Str} {scope:Scope} {f:Addr} {cd:Value} {A:Around} {outer:List Env} {s s1:Shared} {H:Hp} {E:XK} {us:List Value} {vs:List V}
  (S:FnScope N ps scope) (hd:A.handled=none) (e0:Env0 P w K mg base A outer s H) (hl:vs.length=ps.length) (r:Vals vs us)
  (x:InCallC s s.heap.objs.size (bindL (envOfC qual scope s.heap.objs.size f cd).kindOf (ps.zip us) fun _=>none) (cellsFrom (s.heap.objs.size + 1) scope.names []) (bindC (envOfC qual scope s.heap.objs.size f cd).kindOf (ps.zip us) fun _=>none) s1) :
  Inv (cxOf CX P w K mg base N qual scope f cd A outer s H E) [] (start N vs) H s1:=by
 have hpl:ps.length<=N.length:=by have:=congrArg List.length S.pre; rw [List.length_take] at this; omega
 obtain ⟨h1,tk,rfl,hk⟩:=x.done
 have noA:∀ b:Addr,b ∉ (cxOf CX P w K mg base N qual scope f cd A outer s H E).ex:=fun b z=>absurd (show b ∈ ([]:List Addr) from z) (by simp)
 refine ⟨⟨e0.mod,S.kind,rfl,rfl,Nat.le_refl _,fun y z c h1 h2=>?_,fun y hy=>?_,fun y c _ h=>?_,fun _=>hd,Around.frames_deeper e0.frames,.inr ⟨rfl,rfl⟩,fun b z=>absurd z (noA b),e0.bs,e0.bsz,fun b _ _=>noA b,fun b z=>absurd z (noA b),e0.funs,e0.frf⟩,
  rfl,e0.bare,Un.kept hk,⟨_,x.toInCall.ns,fun i y v h1 h2 h3=>?_⟩,fun y c h=>⟨_,x.cell y c h⟩,e0.hok.fresh (Nat.le_refl _),fun y c h=>?_,fun p hp=>absurd (show p ∈ ([]:List (Addr × Obj)) from hp) (by simp),e0.hok.kept hk,?_⟩
 ·exact name_of_addr x.apart (PySem.mem_of_lookup h1) (PySem.mem_of_lookup h2)
 ·have hy:scope.names.lookup y=some .cell\/scope.names.lookup y=some .free:=hy
  rcases hy with hy | hy
  ·exact cell_has hy
  ·exact absurd rfl (S.nofree _ (PySem.mem_of_lookup hy))
 ·exact Nat.le_of_lt (x.above y c (PySem.mem_of_lookup h))
 ·have hi:i < vs.length:=by
   unfold start at h2
   by_cases hi:i < vs.length
   ·exact hi
   ·rw [List.getElem?_append_right (by simpa using hi)] at h2
    rw [List.getElem?_replicate] at h2
    split at h2 <;> cases h2
  have ha:vs[i]? = some v:=by
   unfold start at h2
   rw [List.getElem?_append_left (by simpa using hi),List.getElem?_map] at h2
   cases e:vs[i]? with
   | none=>rw [e] at h2; cases h2
   | some a=>rw [e] at h2; cases h2; rfl
  obtain ⟨u,hu,rv⟩:=r.get ha
  have hp:ps[i]? = some y:=by
   rw [<-S.pre,List.getElem?_take_of_lt (by omega)]; exact h1
  have ndP:ps.Nodup:=by rw [<-S.pre]; exact S.nd.sublist (List.take_sublist _ _)
  refine ⟨u,rv,?_⟩
  rcases S.par y (List.mem_of_getElem? hp) with k | k
  ·exact .inl ⟨k,bindL_get ndP hp hu k⟩
  ·obtain ⟨c,e⟩:=cell_has (n:=s.heap.objs.size + 1) k
   refine .inr ⟨.inl k,c,e,?_⟩
   have q:=x.cell y c e
   rw [bindC_get ndP hp hu (by show scope.names.lookup y ≠ _; rw [k]; decide)] at q
   exact q
 ·exact e0.hok.fresh (Nat.le_of_lt (x.above y c (PySem.mem_of_lookup h)))
 ·unfold start
  show _=N.length
  rw [List.length_append,List.length_map,List.length_replicate]
  omega
theorem fn_of {CX:CXT} {P:Program} {w:World} {K:PySem.W.Frag} {mg:Str->Option Value} {base:Heap} {k:Nat} {f:Addr} {name qual:Str} {params:Arguments} {body:List Stmt} {scope:Scope} {dV kV doc pm cdv ct oc:Value} {an od:Option Addr}
  {osl:Array (Option Value)} {N ps:List Str} {sp:Sp} (lk:K.lookup f=some ⟨oc,od,.func (PySem.W.fnOf name qual params body scope dV kV doc pm an cdv ct),osl⟩) (hcd:PySem.W.codeIn K cdv qual=true) (S:FnScope N ps scope)
  (len:∀ vs H Q E,sp vs H Q E->vs.length=ps.length)
  (hbody:∀ (A:Around) (outer:List Env) (s:Shared) (H:Hp) (vs:List V) (Q:VK) (E:XK),Room k (A.deeper (envOfC qual scope s.heap.objs.size f cdv))->sp vs H Q E->
   ∃ t,PSs (cxOf CX P w K mg base N qual scope f cdv A outer s H E) body t/\t { nx:=fun _ H'=>Q .non H',rt:=Q } (start N vs) H) :
  FnOk P w K mg base CX (k + 1) f (PySem.W.fnOf name qual params body scope dV kV doc pm an cdv ct) ps sp:=by
 refine ⟨len,fun A outer s H args us vs Q E hr e0 hb r hsp=>?_⟩
 have hl:=len _ _ _ _ hsp
 have KX:K.In s.heap:=e0.mod.kin.keeps fun b o e=>(e0.bs b o e).1
 have lim:s.heap.NoLimit:=e0.mod.nolimit.keeps fun b o e=>(e0.bs b o e).1
 have hkind:∀ y ∈ ps.zip us,scope.names.lookup y.1=some .local\/(scope.names.lookup y.1=some .cell/\((cellsFrom (s.heap.objs.size + 1) scope.names []).lookup y.1).isSome=true):=fun ⟨n,v⟩ hy=>by
  rcases S.par n (List.of_mem_zip hy).1 with q | q
  ·exact .inl q
  ·exact .inr ⟨q,PySem.W.cellsFrom_some _ _ _ (.inl q)⟩
 refine codeAny_call_function hr.depth (KX _ _ lk) rfl S.co S.gen rfl (PySem.W.codeRec_of KX hcd) (hb _ _ _ _ ?_)
 refine wpAny_newFunctionEnv_cells S.kind hkind fun env he s1 x=>?_
 subst he
 refine ⟨lim.keeps x.toInCall.keep,codeAny_func ?_⟩
 obtain ⟨t,ht,hq⟩:=hbody A outer s H vs Q E (hr.deeper _) hsp
 have I:Inv (cxOf CX P w K mg base N qual scope f cdv A outer s H E) [] (start N vs) H s1:=inv_start S hr.hd e0 hl r x
 refine wpAny_mono (ht [] s1 (start N vs) H _ I hq) (fun fl s' hs=>?_) fun e s' hs=>hs
 have fin:∀ {σ':St} {H':Hp} {v:V} {u:Value},Inv (cxOf CX P w K mg base N qual scope f cdv A outer s H E) [] σ' H' s'->RelV v u->Q v H'->CE outer P w H s Q u s':=
  fun {σ' H' v u} J rv q=>⟨v,H',J.os,J.bare,J.base,J.hok,rv,q⟩
 cases fl with
 | ret u=>
  obtain ⟨v,σ',H',J,rv,q⟩:=hs
  exact fin J rv q
 | next=>
  obtain ⟨σ',H',J,q⟩:=hs
  exact fin (v:=V.non) (u:=Value.none) J rfl q
 | brk=>
  obtain ⟨_,_,_,q⟩:=hs
  exact False.elim q
 | cont=>
  obtain ⟨_,_,_,q⟩:=hs
  exact False.elim q
end L2
namespace L2
open PySem PySem.Spec PyProof.Rows
section
variable {X:Cx} {x:Str} {p pos:Pos} {e:Expr} {es:List Expr} {t:TA} {id T:String} {r:List V->Hp->VK->Prop}
noncomputable def tCB (r:List V->Hp->VK->Prop) (t:TA):TE:=fun σ H Q=>t σ H fun vs H1=>r vs H1 Q
theorem pe_callB (hc:CallR X (.builtin id) r) (hg:Gl X x) (hm:X.mg x=none) (hv:bootBuiltins x=some (.builtin id)) (ha:PA X (e :: es) t) (hn:x ≠ "__name__":=by decide) (hdb:(x == ("__debug__":Str))=false:=by decide)
  (he:starEach (e :: es) X.env=(false,eval e X.env) :: starEach es X.env:=by rfl) (hpl:(backTo pos (starEach es X.env)).any (·.1)=false:=by rfl):PE X (.Call (.Name x p) (e :: es) [] pos) (tCB r t):=by
 intro pins s σ H Q I h
 refine wpAny_Call_Name_kw (ld_blt I hg hm hv ?_ hn hdb)
 exact PyProof.Rows.callWith_builtin1 (thn (ha pos pins s σ H _ I h) fun us s1 ⟨vs,H1,I1,r1,q1⟩=>hc pins s1 σ H1 vs us Q I1 r1 q1) he hpl
theorem pe_callTy (hc:CallR X (.type T) r) (hg:Gl X x) (hm:X.mg x=none) (hv:bootBuiltins x=some (.type T)) (ha:PA X (e :: es) t) (hn:x ≠ "__name__":=by decide) (hdb:(x == ("__debug__":Str))=false:=by decide)
  (he:starEach (e :: es) X.env=(false,eval e X.env) :: starEach es X.env:=by rfl) (hpl:(backTo pos (starEach es X.env)).any (·.1)=false:=by rfl):PE X (.Call (.Name x p) (e :: es) [] pos) (tCB r t):=by
 intro pins s σ H Q I h
 refine wpAny_Call_Name_kw (ld_blt I hg hm hv ?_ hn hdb)
 exact PyProof.Rows.callWith_type1 (thn (ha pos pins s σ H _ I h) fun us s1 ⟨vs,H1,I1,r1,q1⟩=>hc pins s1 σ H1 vs us Q I1 r1 q1) he hpl
end
end L2
namespace HT
open PySem PyProof.Rows
section
variable {prog:Program} {w:World} {A:Around} {E:Value->Shared->Prop} {s:Shared}
theorem cat_tup {t b:Addr} {vs ws:List Value} {Q:Value->Shared->Prop} (ht:IsTup s.heap t vs.toArray) (hb:IsTup s.heap b ws.toArray) (hv:vs ≠ [])
  (h1:ws=[]->Q (.ref t) s) (h2:ws ≠ []->Q (.ref s.heap.objs.size) { s with heap:=s.heap.push { cls:=.type "tuple",data:=.seq (vs ++ ws).toArray } })
  (hsz:vs.length + ws.length<=sizeLine):wpAny (model prog w) A (binaryOp .Add (.ref t) (.ref b)) Q E s:=by
 obtain ⟨⟨cls,dd,data,sl⟩,ho,hc,n,hd⟩:=id ht
 obtain ⟨⟨cls2,dd2,data2,sl2⟩,ho2,hc2,n2,hd2⟩:=id hb
 simp only at hc hd hc2 hd2
 subst hc hd hc2 hd2
 have e:vs.toArray ++ ws.toArray=(vs ++ ws).toArray:=by simp
 by_cases hw:ws=[]
 ·exact concat_meets ⟨_,ho,rfl⟩ ⟨_,ho2,rfl⟩ noFill_tuple_add seq_tuple_add PySem.F.slot_tuple_add PySem.F.entry_tuple_add (PySem.F.args_tuple_add_2 _ _)
   (tuple_addW1 t b vs.toArray ws.toArray n n2 dd dd2 sl sl2 (by simpa using hv) (by simp [hw])) ⟨ho,ho2,h1 hw⟩
 ·refine concat_meets ⟨_,ho,rfl⟩ ⟨_,ho2,rfl⟩ noFill_tuple_add seq_tuple_add PySem.F.slot_tuple_add PySem.F.entry_tuple_add (PySem.F.args_tuple_add_2 _ _)
   (tuple_addW2 t b vs.toArray ws.toArray n n2 dd dd2 sl sl2 (by simpa using hv) (by simpa using hw) (by rw [List.size_toArray,List.size_toArray]; exact hsz)) ⟨ho,ho2,?_⟩
  rw [e]
  exact h2 hw
noncomputable def sIx (n d:Nat):Option Int->Nat
 | none=>d
 | some v=>if v < 0 then (v + (n:Int)).toNat else min v.toNat n
theorem sIx_none (n d:Nat):sIx n d none=d:=rfl
theorem sIx_nat (n d k:Nat):sIx n d (some (k:Int))=min k n:=by
 show (if (k:Int) < 0 then ((k:Int) + (n:Int)).toNat else min (k:Int).toNat n)=min k n
 rw [if_neg (by omega),Int.toNat_natCast]
end
end HT
namespace L2
open PySem PySem.Spec PyProof.Rows
noncomputable abbrev TO:=St->Hp->(Option Int->Hp->Prop)->Prop
noncomputable def PO (X:Cx) (e:Option Expr) (t:TO):Prop:=
 ∀ (pins:List (Addr × Obj)) (s:Shared) (σ:St) (H:Hp) (Q:Option Int->Hp->Prop),Inv X pins σ H s->t σ H Q->
  wpAny (model X.prog X.w) X.A (evalPart e X.env) (fun u s'=>∃ o H',Inv X pins σ H' s'/\IsPart u o/\Q o H') X.xe s
noncomputable def tNoPart:TO:=fun _ H Q=>Q none H
noncomputable def tPart (t:TE):TO:=fun σ H Q=>t σ H fun x H1=>∃ i,x=.int i/\Q (some i) H1
section
variable {X:Cx} {e:Expr} {te:TE} {lo hi:Option Expr} {tl th:TO} {pos p2:Pos}
theorem po_none:PO X none tNoPart:=by
 intro pins s σ H Q I h
 rw [evalPart_none]
 exact wpAny_pure ⟨none,H,I,.none,h⟩
theorem po_some (h:PE X e te):PO X (some e) (tPart te):=by
 intro pins s σ H Q I hw
 rw [evalPart_some]
 refine thn (h pins s σ H _ I hw) fun u s1 ⟨x,H1,I1,r1,q1⟩=>?_
 obtain ⟨i,rfl,q⟩:=q1
 obtain ⟨t,rfl⟩:=r1
 exact ⟨some i,H1,I1,.int i t,q⟩
noncomputable def SlR (X:Cx) (r:V->Option Int->Option Int->Hp->VK->Prop):Prop:=
 ∀ (pins:List (Addr × Obj)) (s:Shared) (σ:St) (H:Hp) (x:V) (v vl vu:Value) (lo hi:Option Int) (sl:Addr) (Q:VK),Inv X pins σ H s->RelV x v->s.heap.IsSliceOf sl vl vu .none->IsPart vl lo->IsPart vu hi->r x lo hi H Q->
  ∃ T id,typeLookup (.type T) "__getitem__" = pure (some (.builtin id))/\s.TypeIs v T/\wpAny (model X.prog X.w) X.A (getItem v (.ref sl)) (EP X pins σ Q) X.xe s
noncomputable def tSl (r:V->Option Int->Option Int->Hp->VK->Prop) (te:TE) (tl th:TO):TE:=fun σ H Q=>te σ H fun x H1=>tl σ H1 fun l H2=>th σ H2 fun u H3=>r x l u H3 Q
theorem pe_slice {r:V->Option Int->Option Int->Hp->VK->Prop} (hr:SlR X r) (he:PE X e te) (hl:PO X lo tl) (hu:PO X hi th):PE X (.Subscript e (.Slice lo hi none p2) pos) (tSl r te tl th):=by
 intro pins s σ H Q I h
 refine Subscript_ (thn (he pins s σ H _ I h) fun v s1 ⟨x,H1,I1,r1,q1⟩=>?_)
 refine wpAny_Slice (thn (hl pins s1 σ H1 _ I1 q1) fun vl s2 ⟨l,H2,I2,pl,q2⟩=>thn (hu pins s2 σ H2 _ I2 q2) fun vu s3 ⟨u,H3,I3,pu,q3⟩=>?_)
 rw [evalPart_none]
 refine wpAny_pure ?_
 have I4:Inv X pins σ H3 { s3 with heap:=s3.heap.push { cls:=.type "slice",data:=.fields #[vl,vu,.none] } }:=I3.kept (t':=s3.toks) fun b ob q=>Heap.get?_push_of_some _ q
 obtain ⟨T,id,hT,ht,hg⟩:=hr pins { s3 with heap:=s3.heap.push { cls:=.type "slice",data:=.fields #[vl,vu,.none] } } σ H3 x v vl vu l u s3.heap.objs.size Q I4 r1 (Heap.IsSliceOf.new ..) pl pu q3
 show wpAny (model X.prog X.w) X.A (subscriptTail e (.Slice lo hi none p2) v (.ref s3.heap.objs.size)) (EP X pins σ Q) X.xe { s3 with heap:=s3.heap.push { cls:=.type "slice",data:=.fields #[vl,vu,.none] } }
 exact tail_any (ops:=[.ref s3.heap.objs.size,v]) ht hT hg (by with_unfolding_all rfl)
noncomputable def cutV (xs:List V) (lo hi:Option Int):List V:=(xs.drop (HT.sIx xs.length 0 lo)).take (HT.sIx xs.length xs.length hi - HT.sIx xs.length 0 lo)
theorem cutV_length (xs:List V) (lo hi:Option Int):(cutV xs lo hi).length<=xs.length:=by
 unfold cutV
 rw [List.length_take,List.length_drop]
 omega
noncomputable def rCatT (K:PySem.W.Frag):R2:=fun x y H Q=>∃ a b xs ys,x=.ref a/\y=.ref b/\SqT K H a xs/\SqT K H b ys/\xs ≠ []/\xs.length + ys.length<=sizeLine/\
 (ys=[]->Q (.ref a) H)/\(ys ≠ []->∀ p,H p=none->Q (.ref p) (upd H p (.tup (xs ++ ys))))
theorem Vals.nil_iff {xs:List V} {us:List Value} (r:Vals xs us):us=[] ↔ xs=[]:=by
 cases r with
 | nil=>simp
 | cons _ _=>simp
theorem op_catT:OpR X (binaryOp .Add) (rCatT X.K):=by
 intro pins s σ H x y v u Q I rx ry h
 obtain ⟨a,b,xs,ys,rfl,rfl,ha,hb,hx,hz,q1,q2⟩:=h
 cases rx
 cases ry
 obtain ⟨its,r1,p1,_⟩:=I.tuple ha
 obtain ⟨its2,r2,p2,_⟩:=I.tuple hb
 refine HT.cat_tup p1 p2 (fun z=>hx (r1.nil_iff.mp z)) (fun z=>⟨.ref a,H,I,rfl,q1 (r2.nil_iff.mp z)⟩) (fun z=>?_) (by rw [<-r1.length,<-r2.length]; exact hz)
 refine ⟨.ref s.heap.objs.size,_,I.laid (t':=s.toks) (o:=.tup (xs ++ ys)) (fun b ob q=>Heap.get?_push_of_some _ q) (Nat.le_refl _) ?_,rfl,q2 (fun w=>z (r2.nil_iff.mpr w)) _ (I.hok.fresh (Nat.le_refl _))⟩
 exact ⟨by rw [List.length_append]; exact hz,_,r1.append r2,IsTup.new _ _⟩
end
end L2
namespace L2
open PySem PySem.Spec PyProof.Rows
noncomputable def ixN (n:Nat) (i:Int):Option Nat:=if 0<=i then (if i < n then some i.toNat else none) else if -(n:Int)<=i then some (i + n).toNat else none
noncomputable def atI {α:Type} (xs:List α) (i:Int):Option α:=(ixN xs.length i).bind fun j=>xs[j]?
theorem ixN_seq {n:Nat} {i:Int} {j:Nat} (h:ixN n i=some j):seqIndex? i n=some j/\j < n/\-(n:Int)<=i/\i < n:=by
 unfold ixN at h
 by_cases h0:0<=i
 ·rw [if_pos h0] at h
  by_cases h1:i < n
  ·rw [if_pos h1] at h
   have e:i.toNat=j:=Option.some.inj h
   exact ⟨by rw [seqIndex_of h0 h1,e],by omega,by omega,h1⟩
  ·rw [if_neg h1] at h; cases h
 ·rw [if_neg h0] at h
  by_cases h1:-(n:Int)<=i
  ·rw [if_pos h1] at h
   have e:(i + n).toNat=j:=Option.some.inj h
   exact ⟨by rw [seqIndex_neg (by omega) h1,e],by omega,h1,by omega⟩
  ·rw [if_neg h1] at h; cases h
theorem atI_get {α:Type} {xs:List α} {i:Int} {v:α} (h:atI xs i=some v):∃ j,seqIndex? i xs.length=some j/\xs[j]? = some v/\j < xs.length/\-(xs.length:Int)<=i/\i < xs.length:=by
 unfold atI at h
 cases e:ixN xs.length i with
 | none=>rw [e] at h; cases h
 | some j=>
  rw [e] at h
  obtain ⟨h1,h2,h3,h4⟩:=ixN_seq e
  exact ⟨j,h1,h,h2,h3,h4⟩
noncomputable def PlainIx (b:Expr):Prop:=∀ o i,subscripted b false o i=operate [o,i] (getItem o i)
noncomputable def IxR (X:Cx) (r:R2):Prop:=
 ∀ (value slice:Expr) (pins:List (Addr × Obj)) (s:Shared) (σ:St) (H:Hp) (x y:V) (v u:Value) (Q:VK),Inv X pins σ H s->RelV x v->RelV y u->r x y H Q->
  subscripted slice false v u=operate [v,u] (getItem v u)->wpAny (model X.prog X.w) X.A (subscriptTail value slice v u) (EP X pins σ Q) X.xe s
noncomputable def MtR (X:Cx) (id:String) (r:V->List V->Hp->VK->Prop):Prop:=
 ∀ (pins:List (Addr × Obj)) (s:Shared) (σ:St) (H:Hp) (x:V) (xs:List V) (v:Value) (us:List Value) (Q:VK),Inv X pins σ H s->RelV x v->Vals xs us->r x xs H Q->
  wpAny (model X.prog X.w) X.A (call (.builtin id) (v :: us)) (EP X pins σ Q) X.xe s
section
variable {X:Cx} {a b:Expr} {ta tb:TE} {pos:Pos}
theorem IxR.or {r r':R2} (h:IxR X r) (h':IxR X r'):IxR X (fun x y H Q=>r x y H Q\/r' x y H Q):=by
 intro value slice pins s σ H x y v u Q I rx ry q hs
 rcases q with q | q
 ·exact h value slice pins s σ H x y v u Q I rx ry q hs
 ·exact h' value slice pins s σ H x y v u Q I rx ry q hs
theorem pe_ix {r:R2} (hr:IxR X r) (ha:PE X a ta) (hb:PE X b tb) (hs:PlainIx b):PE X (.Subscript a b pos) (tOp r ta tb):=by
 intro pins s σ H Q I h
 exact Subscript_ (binT ha hb I h fun v u s2 x y H2 I2 rx ry q=>hr a b pins s2 σ H2 x y v u Q I2 rx ry q (hs _ _))
noncomputable def rIxL (K:PySem.W.Frag):R2:=fun x y H Q=>∃ p xs i v,x=.ref p/\y=.int i/\SqL K H p xs/\atI xs i=some v/\Q v H
noncomputable def rIxT (K:PySem.W.Frag):R2:=fun x y H Q=>∃ p xs i v,x=.ref p/\y=.int i/\SqT K H p xs/\atI xs i=some v/\Q v H
noncomputable def rIxS:R2:=fun x y H Q=>∃ z i c,x=.str z/\y=.int i/\z.length<=sizeLine/\atI z.cps.toList i=some c/\Q (.str ⟨#[c]⟩) H
theorem ix_list:IxR X (rIxL X.K):=by
 intro value slice pins s σ H x y v u Q I rx ry h hs
 obtain ⟨p,xs,i,z,rfl,rfl,hq,he,q⟩:=h
 cases rx
 obtain ⟨t,rfl⟩:=ry
 obtain ⟨its,r,pl,hz⟩:=I.list hq
 obtain ⟨j,h1,h2,h3,h4,h5⟩:=atI_get he
 obtain ⟨w,ew,rw'⟩:=r.get h2
 have hl:=r.length
 have hn:=line63
 have fin:EP X pins σ Q w s:=⟨z,H,I,rw',q⟩
 by_cases h0:0<=i
 ·have hj:i.toNat=j:=by
   rw [seqIndex_of h0 h5] at h1
   exact Option.some.inj h1
  exact item_listR pl.isList h0 (by omega) (by rw [hj]; simpa using ew) fin hs
 ·have hj:(i + (its.toArray.size:Int)).toNat=j:=by
   rw [seqIndex_neg (by omega) h4] at h1
   rw [List.size_toArray,<-hl]
   exact Option.some.inj h1
  exact subscriptTail_builtinR (x:=w) pl.isList.typeIs slot_list_getitem.lookup
   (wpAny_getItem_list_neg (Q:=fun r s'=>r=w/\EP X pins σ Q r s') pl.isList (by omega) (by rw [List.size_toArray] <;> omega) (by omega) (by rw [hj]; simpa using ew) ⟨rfl,fin⟩) hs
theorem ix_tup:IxR X (rIxT X.K):=by
 intro value slice pins s σ H x y v u Q I rx ry h hs
 obtain ⟨p,xs,i,z,rfl,rfl,hq,he,q⟩:=h
 cases rx
 obtain ⟨t,rfl⟩:=ry
 obtain ⟨its,r,pl,hz⟩:=I.tuple hq
 obtain ⟨j,h1,h2,h3,h4,h5⟩:=atI_get he
 obtain ⟨w,ew,rw'⟩:=r.get h2
 have hl:=r.length
 have hn:=line63
 have fin:EP X pins σ Q w s:=⟨z,H,I,rw',q⟩
 exact subscriptTail_builtinR (x:=w) pl.typeIs slot_tuple_getitem.lookup
  (getItem_tuple (j:=j) (Q:=fun r s'=>r=w/\EP X pins σ Q r s') pl (by omega) (by omega) (by rw [List.size_toArray,<-hl]; exact h1) (by simpa using ew) ⟨rfl,fin⟩) hs
theorem ix_str:IxR X rIxS:=by
 intro value slice pins s σ H x y v u Q I rx ry h hs
 obtain ⟨z,i,c,rfl,rfl,hz,he,q⟩:=h
 obtain ⟨t,rfl⟩:=rx
 obtain ⟨t',rfl⟩:=ry
 obtain ⟨j,h1,h2,h3,h4,h5⟩:=atI_get he
 have hl:z.cps.toList.length=z.length:=by simp [Str.length]
 rw [hl] at h1 h4 h5
 have hn:=line63
 exact tail_any (typeIs_str s z t) slot_str_getitem.lookup (getItem_str (c:=c) (by
  have e1:decide (i < -(2 ^ 63:Int))=false:=decide_eq_false (by omega)
  have e2:decide (i ≥ 2 ^ 63)=false:=decide_eq_false (by omega)
  rw [e1,e2,Bool.or_false]) (by rw [h1]; simpa using h2) ⟨.str ⟨#[c]⟩,H,I.tok _,⟨_,rfl⟩,q⟩) hs
theorem slice_bounds (lo hi:Option Int) (n:Nat):(sliceBounds lo hi none n).1=((HT.sIx n 0 lo:Nat):Int)/\(sliceBounds lo hi none n).2.1=((HT.sIx n n hi:Nat):Int)/\(sliceBounds lo hi none n).2.2=1:=by
 refine ⟨?_,?_,rfl⟩
 ·cases lo with
  | none=>simp [sliceBounds,HT.sIx]
  | some i=>
   simp only [sliceBounds,HT.sIx,Option.getD_none,show (1:Int) > 0 by decide,if_true]
   by_cases h:i < 0
   ·simp only [h,if_true] <;> omega
   ·simp only [h,if_false] <;> omega
 ·cases hi with
  | none=>simp [sliceBounds,HT.sIx]
  | some i=>
   simp only [sliceBounds,HT.sIx,Option.getD_none,show (1:Int) > 0 by decide,if_true]
   by_cases h:i < 0
   ·simp only [h,if_true] <;> omega
   ·simp only [h,if_false] <;> omega
theorem slicePick_cut (its:List Value) (lo hi:Option Int):slicePick its.toArray lo hi none=((its.drop (HT.sIx its.length 0 lo)).take (HT.sIx its.length its.length hi - HT.sIx its.length 0 lo)).toArray:=by
 obtain ⟨h1,h2,h3⟩:=slice_bounds lo hi its.toArray.size
 unfold slicePick
 rw [h1,h2,h3]
 simp only [sliceRange_one,pick_run,List.size_toArray] <;> rfl
noncomputable def rSlL (K:PySem.W.Frag):V->Option Int->Option Int->Hp->VK->Prop:=fun x lo hi H Q=>∃ a xs,x=.ref a/\SqL K H a xs/\∀ p,H p=none->Q (.ref p) (upd H p (.lst (cutV xs lo hi)))
theorem sl_list:SlR X (rSlL X.K):=by
 intro pins s σ H x v vl vu lo hi sl Q I rx hs pl pu h
 obtain ⟨a,xs,rfl,hx,q⟩:=h
 cases rx
 obtain ⟨its,r,ht,hz⟩:=I.list hx
 have hlen:=r.length
 refine ⟨"list",_,slot_list_getitem.lookup,ht.isList.typeIs,?_⟩
 refine wpAny_getItem_list_slice ht.isList hs pl pu .none (by simp) ?_ (by rw [List.size_toArray] <;> omega)
 rw [slicePick_cut,<-hlen]
 refine ⟨.ref s.heap.objs.size,_,I.laid (t':=s.toks) (o:=.lst (cutV xs lo hi)) (fun b ob q=>Heap.get?_push_of_some _ q) (Nat.le_refl _) ?_,rfl,q _ (I.hok.fresh (Nat.le_refl _))⟩
 exact ⟨Nat.le_trans (cutV_length xs lo hi) hz,_,0,(r.drop (HT.sIx xs.length 0 lo)).take (HT.sIx xs.length xs.length hi - HT.sIx xs.length 0 lo),Heap.get?_push_size _ rfl⟩
noncomputable def flatV:V->Bool
 | .non=>true
 | .bl _=>true
 | .int _=>true
 | .str _=>true
 | _=>false
noncomputable def eqV:V->V->Bool
 | .non,.non=>true
 | .bl a,.bl b=>a == b
 | .bl a,.int b=>(if a then 1 else 0) == b
 | .int a,.bl b=>a == (if b then 1 else 0)
 | .int a,.int b=>a == b
 | .str a,.str b=>a == b
 | _,_=>false
theorem eqAt_V {A:Around} {s:Shared} {y x:V} {u v:Value} (ry:RelV y u) (rx:RelV x v) (fy:flatV y=true) (fx:flatV x=true):SeqAt.EqAt A s u v (eqV y x):=by
 cases y with
 | non=>
  cases ry
  cases x with
  | non=>cases rx; exact SeqAt.EqAt.same _
  | bl b=>cases rx; exact SeqAt.EqAt.none_bool b
  | int b=>obtain ⟨t,rfl⟩:=rx; exact SeqAt.EqAt.none_int b t
  | str b=>obtain ⟨t,rfl⟩:=rx; exact SeqAt.EqAt.none_str b t
  | _=>exact absurd (show false=true from fx) Bool.false_ne_true
 | bl a=>
  cases ry
  cases x with
  | non=>cases rx; exact SeqAt.EqAt.bool_none a
  | bl b=>cases rx; exact SeqAt.EqAt.bool_bool a b
  | int b=>obtain ⟨t,rfl⟩:=rx; exact SeqAt.EqAt.bool_int a b t
  | str b=>obtain ⟨t,rfl⟩:=rx; exact SeqAt.EqAt.bool_str a b t
  | _=>exact absurd (show false=true from fx) Bool.false_ne_true
 | int a=>
  obtain ⟨t',rfl⟩:=ry
  cases x with
  | non=>cases rx; exact SeqAt.EqAt.int_none a t'
  | bl b=>cases rx; exact SeqAt.EqAt.int_bool a t' b
  | int b=>obtain ⟨t,rfl⟩:=rx; exact SeqAt.EqAt.int_int a t' b t
  | str b=>obtain ⟨t,rfl⟩:=rx; exact SeqAt.EqAt.int_str a t' b t
  | _=>exact absurd (show false=true from fx) Bool.false_ne_true
 | str a=>
  obtain ⟨t',rfl⟩:=ry
  cases x with
  | non=>cases rx; exact SeqAt.EqAt.str_none a t'
  | bl b=>cases rx; exact SeqAt.EqAt.str_bool a t' b
  | int b=>obtain ⟨t,rfl⟩:=rx; exact SeqAt.EqAt.str_int a t' b t
  | str b=>obtain ⟨t,rfl⟩:=rx; exact SeqAt.EqAt.str_str a t' b t
  | _=>exact absurd (show false=true from fx) Bool.false_ne_true
 | _=>exact absurd (show false=true from fy) Bool.false_ne_true
theorem call_len_seq:CallR X (.builtin "len") (fun xs H Q=>∃ p ys,xs=[.ref p]/\(SqL X.K H p ys\/SqT X.K H p ys)/\Q (.int ys.length) H):=by
 intro pins s σ H xs us Q I r h
 obtain ⟨p,ys,rfl,hq,q⟩:=h
 obtain ⟨u,rfl,rx⟩:=vals1 r
 cases rx
 have hn:=line63
 rcases hq with hq | hq
 ·obtain ⟨its,r',pl,hz⟩:=I.list hq
  have hlen:=r'.length
  exact Calls.call_len_list pl.isList (by simp only [List.size_toArray] <;> omega) ⟨.int ys.length,H,I.tok _,⟨s.toks + 1,by rw [List.size_toArray,hlen]⟩,q⟩
 ·obtain ⟨its,r',pl,hz⟩:=I.tuple hq
  have hlen:=r'.length
  exact len_tuple pl (by simp only [List.size_toArray] <;> omega) ⟨.int ys.length,H,I.tok _,⟨s.toks + 1,by rw [List.size_toArray,hlen]⟩,q⟩
theorem call_len_str:CallR X (.builtin "len") (fun xs H Q=>∃ z,xs=[.str z]/\z.length<=sizeLine/\Q (.int z.length) H):=by
 intro pins s σ H xs us Q I r h
 obtain ⟨z,rfl,hz,q⟩:=h
 obtain ⟨u,rfl,t,rfl⟩:=vals1 r
 have hn:=line63
 exact len_str (by omega) ⟨.int z.length,H,I.tok _,⟨_,rfl⟩,q⟩
theorem call_tuple_of:CallR X (.type "tuple") (fun xs H Q=>∃ p ys,xs=[.ref p]/\((SqL X.K H p ys/\∀ l,H l=none->Q (.ref l) (upd H l (.tup ys)))\/(SqT X.K H p ys/\Q (.ref p) H))):=by
 intro pins s σ H xs us Q I r h
 obtain ⟨p,ys,rfl,h⟩:=h
 obtain ⟨u,rfl,rx⟩:=vals1 r
 cases rx
 rcases h with ⟨hq,q⟩ | ⟨hq,q⟩
 ·obtain ⟨its,r',pl,hz⟩:=I.list hq
  have hlen:=r'.length
  refine call_tuple_list pl.isList (fun h' kp=>?_) (by simp only [List.size_toArray] <;> omega)
  have I1:Inv X pins σ H { s with heap:=h' }:=I.kept (t':=s.toks) kp
  have I2:Inv X pins σ (upd H h'.objs.size (.tup ys)) { s with heap:=h'.push { cls:=.type "tuple",data:=.seq its.toArray } }:=
   I1.laid (t':=s.toks) (fun b o e=>Heap.get?_push_of_some _ e) (Nat.le_refl _) (show ObjOk X.prog X.w _ _ _ (.tup ys) from ⟨hz,its,r',IsTup.new _ _⟩)
  exact ⟨.ref h'.objs.size,_,I2,rfl,q _ (I1.hok.fresh (Nat.le_refl _))⟩
 ·obtain ⟨its,r',pl,hz⟩:=I.tuple hq
  exact call_tuple_same pl ⟨.ref p,H,I,rfl,q⟩
noncomputable def tyV (K:PySem.W.Frag) (T:String) (x:V) (H:Hp):Prop:=match x with
 | .str _=>T = "str"
 | .int _=>T = "int"
 | .ref p=>(T = "list"/\∃ xs,SqL K H p xs)\/(T = "tuple"/\∃ o,K.lookup p=some o/\o.cls=.type "tuple"/\o.dict=none)\/
   (T = "dict"/\((∃ kvs,H p=some (.dK kvs))\/∃ kvs,H p=some (.dT kvs)))\/(T = "set"/\∃ S n,H p=some (.set S n))
 | _=>False
theorem tyV_is {pins:List (Addr × Obj)} {σ:St} {H:Hp} {s:Shared} {T:String} {x:V} {v:Value} (I:Inv X pins σ H s) (r:RelV x v) (ty:tyV X.K T x H) :
  s.TypeIs v T/\∀ a,v=.ref a->∃ ob,s.heap.get? a=some ob/\ob.dict=none:=by
 cases x with
 | str z=>
  obtain ⟨t,rfl⟩:=r
  cases (show T = "str" from ty)
  exact ⟨typeIs_str s z t,fun _ e=>nomatch e⟩
 | int i=>
  obtain ⟨t,rfl⟩:=r
  cases (show T = "int" from ty)
  exact ⟨typeIs_int s i t,fun _ e=>nomatch e⟩
 | ref p=>
  cases r
  rcases ty with ⟨rfl,xs,hq⟩ | ⟨rfl,o,hk,hc,hd⟩ | ⟨rfl,hk⟩ | ⟨rfl,S,n,hk⟩
  ·obtain ⟨its,_,pl,_⟩:=I.list hq
   refine ⟨pl.isList.typeIs,fun a e=>?_⟩
   cases e
   obtain ⟨o,n,e,c,hd,_⟩:=pl
   exact ⟨o,e,hd⟩
  ·refine ⟨⟨o,I.kIn p o hk,hc⟩,fun a e=>?_⟩
   cases e
   exact ⟨o,I.kIn _ o hk,hd⟩
  ·have z:∃ o,s.heap.get? p=some o/\o.ExactDict:=by
    rcases hk with ⟨kvs,hk⟩ | ⟨kvs,hk⟩
    ·obtain ⟨_,_,_,_,o,_,_,e,ex,_⟩:=I.hok p _ hk
     exact ⟨o,e,ex⟩
    ·obtain ⟨_,_,_,_,o,_,_,e,ex,_⟩:=I.hok p _ hk
     exact ⟨o,e,ex⟩
   obtain ⟨o,e,ex⟩:=z
   refine ⟨⟨o,e,ex.1⟩,fun a e2=>?_⟩
   cases e2
   exact ⟨o,e,ex.2.1⟩
  ·obtain ⟨o,_,_,_,e,ex,_⟩:=I.hok p _ hk
   refine ⟨⟨o,e,ex.1⟩,fun a e2=>?_⟩
   cases e2
   exact ⟨o,e,ex.2.1⟩
 | _=>exact False.elim ty
noncomputable def tBM (K:PySem.W.Frag) (T:String) (r:V->List V->Hp->VK->Prop) (to:TE) (t:TA):TE:=fun σ H Q=>to σ H fun x H1=>tyV K T x H1/\t σ H1 fun xs H2=>r x xs H2 Q
variable {o e:Expr} {es:List Expr} {to:TE} {t:TA} {name:Str} {apos cpos:Pos} {T id:String} {r:V->List V->Hp->VK->Prop}
theorem pe_bm (pa:PlainAttrs T) (slot:Slot T name id) (hty:typeOf (.builtin id)=pure (.type "method_descriptor")) (hm:MtR X id r) (ho:PE X o to) (ha:PA X (e :: es) t)
  (hbase:attributeBase o name X.env (eval o X.env)=eval o X.env:=by rfl)
  (hfew:((backTo cpos (starEach (e :: es) X.env)).all (fun x=>!x.1) && (backToKw cpos (keywordEach [] X.env)).all (fun x=>x.1.isSome)
   && decide ((e :: es).length + ([]:List Keyword).length + (if ([]:List Keyword).isEmpty then 0 else 1) < 30))=true:=by rfl)
  (hline:(apos.endLine == cpos.line)=true:=by rfl) (hs:starEach (e :: es) X.env=(false,eval e X.env) :: starEach es X.env:=by rfl) (hplain:(backTo cpos (starEach es X.env)).any (·.1)=false:=by rfl) :
  PE X (.Call (.Attribute o name apos) (e :: es) [] cpos) (tBM X.K T r to t):=by
 intro pins s σ H Q I h
 refine wpAny_Call_method_late hbase hfew hline rfl (thn (ho pins s σ H _ I h) fun v s1 ⟨x,H1,I1,r1,ty,q1⟩=>?_)
 obtain ⟨h1,h2⟩:=tyV_is I1 r1 ty
 refine ⟨T,id,pa,slot,hty,h1,h2,?_⟩
 have hA:=ha cpos pins s1 σ H1 _ I1 q1
 rw [hs] at hA ⊢
 refine Calls.callWith_builtin (by show (false || (backTo cpos (starEach es X.env)).any (·.1))=false; rw [hplain] <;> rfl) (Calls.evalArgs_plain ?_)
 exact thn hA fun us s2 ⟨vs,H2,I2,r2,q2⟩=>hm pins s2 σ H2 x vs v us Q I2 r1 r2 q2
end
end L2
namespace L2
open PySem PySem.Spec PyProof.Rows
noncomputable def MtM (X:Cx) (id:String) (r:V->List V->Hp->VK->Prop):Prop:=
 ∀ (pins:List (Addr × Obj)) (s:Shared) (σ:St) (H:Hp) (x:V) (xs:List V) (v:Value) (us:List Value) (Q:VK),Inv X pins σ H s->RelV x v->Vals xs us->r x xs H Q->
  wpAny (model X.prog X.w) X.A (call (.builtin id) (v :: us)) (EP X pins σ Q) X.xe s
theorem Vals.one:∀ {x:V} {us:List Value},Vals [x] us->∃ u,us=[u]/\RelV x u
 | _,_,.cons r .nil=>⟨_,rfl,r⟩
section
variable {X:Cx} {pins:List (Addr × Obj)} {σ:St} {H:Hp} {s:Shared} {l b:Addr} {xs ys zs:List V}
theorem Inv.lset {its its':List Value} {n:Nat} {f:Array Value->Array Value} {t':Nat} (I:Inv X pins σ H s) (hH:H l=some (.lst xs))
  (e:s.heap.get? l=some { cls:=.type "list",data:=.seq its.toArray n }) (hf:f its.toArray=its'.toArray) (hv:Vals ys its') (hz:ys.length<=sizeLine) :
  Inv X pins σ (upd H l (.lst ys)) { s with heap:=s.heap.update l (Obj.mapSeq f),toks:=t' }:=by
 have q:=PySem.IsL.update e f
 rw [hf] at q
 refine I.write (x:=l) (e:=l) (by rw [hH]; exact trivial) (.inl rfl) (fun b' u hb hu=>(Heap.get?_update_other s.heap (Obj.mapSeq f) (Ne.symm hb)).trans hu) ⟨_,q⟩ ?_
 exact ⟨hz,its',_,hv,q⟩
theorem Inv.lnew {its:List Value} {t':Nat} (I:Inv X pins σ H s) (hv:Vals ys its) (hz:ys.length<=sizeLine) :
  Inv X pins σ (upd H s.heap.objs.size (.lst ys)) { s with heap:=s.heap.push { cls:=.type "list",data:=.seq its.toArray },toks:=t' }:=
 I.laid (fun _ _ q=>Heap.get?_push_of_some _ q) (Nat.le_refl _) ⟨hz,its,0,hv,Heap.get?_push_size _ rfl⟩
theorem Inv.fresh (I:Inv X pins σ H s):H s.heap.objs.size=none:=I.hok.fresh (Nat.le_refl _)
theorem Inv.lstM (I:Inv X pins σ H s) (hH:H l=some (.lst xs)):xs.length<=sizeLine/\∃ (its:List Value) (n:Nat),Vals xs its/\xs.length=its.length/\s.heap.get? l=some { cls:=.type "list",data:=.seq its.toArray n }:=by
 obtain ⟨z,its,n,r,e⟩:=I.hok l _ hH
 exact ⟨z,its,n,r,r.length,e⟩
theorem notLongL {n:Nat} (h:n<=sizeLine):Builtin.List.listTooLong n=false:=by
 unfold Builtin.List.listTooLong
 exact decide_eq_false (by omega)
end
section
variable {X:Cx}
noncomputable def rAppend:V->List V->Hp->VK->Prop:=fun x vs H Q=>∃ l xs y,x=.ref l/\vs=[y]/\H l=some (.lst xs)/\xs.length < sizeLine/\Q .non (upd H l (.lst (xs ++ [y])))
theorem mt_append:MtM X "list.append" rAppend:=by
 intro pins s σ H x vs v us Q I rx rv h
 obtain ⟨l,xs,y,rfl,rfl,hH,hz,q⟩:=h
 cases rx
 obtain ⟨u,rfl,ru⟩:=rv.one
 obtain ⟨z,its,n,r,hl,e⟩:=I.lstM hH
 refine call_meets F.slot_list_append ⟨_,e,rfl⟩ F.entry_list_append (F.args_list_append_2 _ _) (PySem.list_append l its.toArray n u (by rw [List.size_toArray]; omega)) ⟨e,?_⟩
 refine ⟨.non,_,I.lset (its':=its ++ [u]) hH e (by simp) (r.append (.cons ru .nil)) ?_,rfl,q⟩
 rw [List.length_append,List.length_singleton]
 omega
noncomputable def rExtend:V->List V->Hp->VK->Prop:=fun x vs H Q=>∃ l b xs zs,x=.ref l/\vs=[.ref b]/\H l=some (.lst xs)/\H b=some (.lst zs)/\xs.length + zs.length<=sizeLine/\Q .non (upd H l (.lst (xs ++ zs)))
theorem mt_extend:MtM X "list.extend" rExtend:=by
 intro pins s σ H x vs v us Q I rx rv h
 obtain ⟨l,b,xs,zs,rfl,rfl,hH,hB,hz,q⟩:=h
 cases rx
 obtain ⟨u,rfl,ru⟩:=rv.one
 cases ru
 obtain ⟨z,its,n,r,hl,e⟩:=I.lstM hH
 obtain ⟨z2,its2,n2,r2,hl2,e2⟩:=I.lstM hB
 have hsz:its.toArray.size + its2.toArray.size<=sizeLine:=by rw [List.size_toArray,List.size_toArray]; omega
 have hlong:¬ (!its.toArray.isEmpty && Builtin.List.listTooLong (its.toArray.size + its2.toArray.size))=true:=by
  rw [notLongL hsz,Bool.and_false]
  exact Bool.false_ne_true
 refine call_meets F.slot_list_extend ⟨_,e,rfl⟩ F.entry_list_extend (F.args_list_extend_2 _ _)
  (AutoSeq1.list_extend_list_list_0 l its.toArray n b its2.toArray n2 hlong (by rw [List.size_toArray]; omega) (by omega)) ⟨e,e2,?_⟩
 refine ⟨.non,_,I.lset (its':=its ++ its2) hH e (by simp) (r.append r2) ?_,rfl,q⟩
 rw [List.length_append]
 omega
noncomputable def rCat:R2:=fun x y H Q=>∃ l b xs zs,x=.ref l/\y=.ref b/\H l=some (.lst xs)/\H b=some (.lst zs)/\xs.length + zs.length<=sizeLine/\∀ p,H p=none->Q (.ref p) (upd H p (.lst (xs ++ zs)))
theorem op_cat:OpR X (binaryOp .Add) rCat:=by
 intro pins s σ H x y v u Q I rx ry h
 obtain ⟨l,b,xs,zs,rfl,rfl,hH,hB,hz,q⟩:=h
 cases rx
 cases ry
 obtain ⟨z,its,n,r,hl,e⟩:=I.lstM hH
 obtain ⟨z2,its2,n2,r2,hl2,e2⟩:=I.lstM hB
 refine PySem.P.add_list e e2 ?_ (by rw [List.size_toArray,List.size_toArray]; omega)
 have ea:its.toArray ++ its2.toArray=(its ++ its2).toArray:=by simp
 rw [ea]
 exact ⟨.ref _,_,I.lnew (t':=s.toks) (r.append r2) (by rw [List.length_append]; omega),rfl,q _ I.fresh⟩
end
end L2
namespace Att
open PySem PySem.W PySem.Calls PyProof.Rows
theorem ints_of_wellAll {P:Params} {h:Heap}:∀ (ns:List Int) (vs:List Value),WellAll P h vs (ns.map WData.int)->IntsAre vs ns:=by
 intro ns
 induction ns with
 | nil=>
  intro vs w
  rw [List.map_nil] at w
  cases w
  exact .nil
 | cons n ns ih=>
  intro vs w
  rw [List.map_cons] at w
  cases w with
  | cons a b=>
   cases a
   exact .cons _ _ (ih _ b)
theorem script_of {l:OpenLaw} {n:Nat} (hn:l.most=some n) {P:Params} {h:Heap} {args:List WData} {vals:List Value}
  (hpre:l.row.toRowW.claim.pre args=true) (hwl:WellAll P h vals args) :
  ∃ a vs ns,vals=[Value.ref a]/\args=[WData.list (ns.map WData.int)]/\h.get? a=some { cls:=.type "list",data:=.seq vs.toArray }/\IntsAre vs ns/\ns.length<=n:=by
 have hsh:WShape.hasAll [] args [.list .int]=true:=(pre_splitW hpre).1
 have hc:l.pre.holds [] { args:=args } = true:=(pre_splitW hpre).2
 obtain ⟨d,r,rfl,h1,h2⟩:=hasAllW_cons hsh
 obtain rfl:=hasAllW_nil h2
 obtain ⟨xs,rfl,h3⟩:=hasW_list h1
 obtain ⟨ns,rfl⟩:=items_int h3
 have hlen:ns.length<=n:=by
  unfold OpenLaw.pre at hc
  have h4:(WTm.not (.lt (.lit (.int (n:Int))) (.len (.arg 0)))).holds [] { args:=[.list (ns.map .int)] } = true:=by
   have h4:=(holds_andW hc).1
   rw [hn] at h4
   exact h4
  have h5:=condW_of h4 (w_not (w_lt w_lit (w_len_list (w_arg rfl))))
  rw [List.length_map] at h5
  refine Nat.le_of_not_lt fun q=>?_
  have q':(n:Int) < ((ns.length:Nat):Int):=by omega
  first
   | (rw [decide_eq_true q'] at h5; exact absurd h5 (by decide))
   | (simp at h5; omega)
 cases hwl with
 | cons w1 w2=>
  cases w2
  cases w1 with
  | list ho hall=>exact ⟨_,_,ns,rfl,rfl,ho,ints_of_wellAll ns _ hall,hlen⟩
theorem post_true (l:OpenLaw) (args:List WData):l.row.toRowW.claim.post args (.bool true) args=true:=
 postW_of (r:=l.row.toRowW) (X:=(true == true))
  (show WShape.has [] (.bool true) .bool=true by first | rfl | decide | simp [WShape.has,WShape.arms,WShape.armsAll])
  (show (WTm.eq .res (.lit (.bool true))).value [] { args:=args,res:=some (.bool true),after:=args } = some (.bool (true == true)) from w_eq_bool (w_res rfl) w_lit) rfl
theorem attach_call {l:OpenLaw} {n:Nat} {q:Program} {loose:List Str} {XP:(Str->Option Value)->Heap->Prop} {YP:World->Heap->Prop} {d:DefRec}
  (hn:l.most=some n) (hdf:d.params.defaults=[])
  (call:∀ (w:World) (s₀ s₁:Shared) (mg mb:Str->Option Value) (fa:Addr) (o:Obj) (pm cd doc:Value) (a:Addr) (vs:List Value) (ns:List Int),
   Ground q loose [] XP w s₀ mg mb s₁.heap->YP w s₁.heap->
   s₁.heap.get? fa=some o->o.data=.func (docDef d.name d.params d.body d.scope pm cd doc)->s₁.heap.CodeRec cd d.name->mg d.name=some (.ref fa)->
   s₁.heap.get? a=some { cls:=.type "list",data:=.seq vs.toArray }->IntsAre vs ns->ns.length<=n->s₁.gens = #[]->
   codeAny (model l.prog w) callerA (.call (.ref fa) ⟨[.ref a],[]⟩) (fun r s'=>r=.ok (.ret (.bool true))/\OldK s₁.heap s'.heap/\s'.os=s₁.os/\AllBare s'.gens) s₁) :
  WalkO q loose XP YP l.row.toRowW d [] (fun f vs=>PySem.call f vs):=by
 intro w s₀ s₁ mg mb G Y fa o pm cd doc dV kV ho hd hcd hD hmg hg args vals as hpre hlay hrd hwl hlo
 obtain rfl:dV=.none:=Dflts.none hD hdf
 obtain rfl:kV=.none:=Dflts.noKw hD
 obtain ⟨a,vs,ns,rfl,rfl,hobj,hints,hlen⟩:=script_of hn hpre hwl
 refine enter_call (codeAny_mono (call w s₀ s₁ mg mb fa o pm cd doc a vs ns G Y ho (fd_plain hd) hcd hmg hobj hints hlen hg) fun r s' hq=>?_)
 obtain ⟨rfl,h2,h3,h4⟩:=hq
 exact ⟨.inl ⟨.bool true,.bool true,[],rfl,fun _=>rfl,.bool true,post_true l _,fun _=>⟨List.Pairwise.nil,fun _ hm=>(nomatch hm)⟩⟩,h2,h3,h4⟩
end Att
namespace L2
open PySem PySem.Spec PyProof.Rows
theorem vals_ints:∀ {vs:List Value} {ns:List Int},IntsAre vs ns->Vals (ns.map V.int) vs
 | _,_,.nil=>.nil
 | _,_,.cons n t h=>.cons ⟨t,rfl⟩ (vals_ints h)
noncomputable def Only (H:Hp):Prop:=∀ b,H b=none\/∃ o xs,H b=some (.frz o (.lst xs))
theorem law_call {P:Program} {w:World} {K:PySem.W.Frag} {mg mb:Str->Option Value} {CX:CXT} {k:Nat} {fa a:Addr} {fd:FuncData} {x:Str} {sp:Sp} {s₁:Shared} {vs:List Value} {ns:List Int}
  (KX:K.In s₁.heap) (hns:s₁.heap.Ns mainGlobals mg) (hb:s₁.heap.Ns builtinsNs mb) (hbb:∀ x:Str,x ≠ "__name__"->mb x=bootBuiltins x) (hlim:s₁.heap.NoLimit) (hg:s₁.gens = #[])
  (ha:s₁.heap.get? a=some { cls:=.type "list",data:=.seq vs.toArray }) (hi:IntsAre vs ns) (hl:ns.length<=sizeLine) (hr:Room k callerA)
  (F:∀ base:Heap,K.In base->base.Ns mainGlobals mg->FnOk P w K mg base CX k fa fd [x] sp) (hbind:∀ (s:Shared) (u:Value),BindsTo s fd ⟨[u],[]⟩ [(x,u)])
  (hsp:∀ H:Hp,Only H->SqL K H a (ns.map V.int)->sp [.ref a] H (fun v _=>v=.bl true) fun _ _ _=>False)
  (hCX:∀ H e s',CX [] H s₁ (fun _ _ _=>False) e s'->False) :
  codeAny (model P w) callerA (.call (.ref fa) ⟨[.ref a],[]⟩) (fun r s'=>r=.ok (.ret (.bool true))/\OldK s₁.heap s'.heap/\s'.os=s₁.os/\AllBare s'.gens) s₁:=by
 have rv:=vals_ints hi
 have lenV:=hi.length
 have core:∀ H:Hp,Only H->SqL K H a (ns.map V.int)->HOk P w H s₁.heap->(∀ b,H b ≠ none->b=a)->(H a ≠ none->K.lookup a=none)->
   codeAny (model P w) callerA (.call (.ref fa) ⟨[.ref a],[]⟩) (fun r s'=>r=.ok (.ret (.bool true))/\OldK s₁.heap s'.heap/\s'.os=s₁.os/\AllBare s'.gens) s₁:=by
  intro H hO hS hok hA hK
  have base_of:∀ {b:Addr} {o:Obj},s₁.heap.get? b=some o->H b=none->(hidT s₁.heap H).get? b=some o:=fun e n=>hidT_get e n
  have noA:∀ {b:Addr} {o:Obj} {es:Array DictEntry} {ep:Nat},s₁.heap.get? b=some o->o.data=.dict es ep->H b=none:=fun {b o es ep} e d=>by
   cases q:H b with
   | none=>rfl
   | some u=>
    have e':b=a:=hA b (by rw [q]; simp)
    subst e'
    rw [ha] at e; cases e
    have d':Data.seq vs.toArray _=Data.dict es ep:=d
    cases d'
  have nsK:∀ {b:Addr} {m:Str->Option Value},s₁.heap.Ns b m->(hidT s₁.heap H).Ns b m:=fun {b m} ⟨o,es,ep,e,d,r⟩=>⟨o,es,ep,base_of e (noA e d),d,r⟩
  have hKb:K.In (hidT s₁.heap H):=fun b o e=>base_of (KX b o e) (by
   cases q:H b with
   | none=>rfl
   | some u=>
    have e':b=a:=hA b (by rw [q]; simp)
    subst e'
    rw [hK (by rw [q]; simp)] at e; cases e)
  have hM:Mod K mg (hidT s₁.heap H):=⟨hKb,nsK hns,⟨mb,nsK hb,hbb⟩,let ⟨mc,h1,h2⟩:=hlim; ⟨mc,nsK h1,h2⟩⟩
  have e0:Env0 P w K mg (hidT s₁.heap H) callerA [] s₁ H:=⟨rfl,hM,fun b o e=>of_hidT e,Nat.le_of_eq (hidT_size _ _),trivial,fun b hb=>absurd (show b ∈ ([]:List Addr) from hb) (by simp),hok,.of_eq hg⟩
  refine codeAny_mono ((F _ hKb (nsK hns)).run callerA [] s₁ H ⟨[.ref a],[]⟩ [.ref a] [.ref a] _ _ hr e0 (hbind s₁ (.ref a)) (.cons rfl .nil) (hsp H hO hS)) fun r s' h=>?_
  cases r with
  | error e=>exact (hCX H e s' h).elim
  | ok fl=>
   cases fl with
   | next=>exact False.elim h
   | brk=>exact False.elim h
   | cont=>exact False.elim h
   | ret u=>
    obtain ⟨v,H',os,bare,un,hok',r',q⟩:=h
    have q':v=.bl true:=q
    subst q'
    obtain rfl:u=Value.bool true:=r'
    refine ⟨rfl,OldK.of_keep fun b o e=>?_,os,bare⟩
    cases q:H b with
    | none=>exact un.keep b o e q (by intro z; exact absurd (show b ∈ ([]:List Addr) from z) (by simp)) (by simp)
    | some u=>
     rcases hO b with z | ⟨ob,xs,z⟩
     ·rw [q] at z; cases z
     ·have z2:=un.frzs b ob _ z
      obtain ⟨e1,_⟩:=hok b _ z
      obtain ⟨e2,_⟩:=hok' b _ z2
      rw [e] at e1; cases e1
      exact e2
 cases hk:K.lookup a with
 | some o=>
  have e:=KX a o hk
  rw [ha] at e
  cases e
  refine core (fun _=>none) (fun _=>.inl rfl) (.inr ⟨_,vs.toArray,_,hk,rfl,rfl,rfl,by rw [List.size_toArray,lenV]; exact hl,by simpa using rv⟩) (fun b u z=>by have z':(none:Option HO)=some u:=z; cases z') (fun b z=>absurd rfl z) fun z=>absurd rfl z
 | none=>
  refine core (fun b=>if b=a then some (.frz { cls:=.type "list",data:=.seq vs.toArray } (.lst (ns.map V.int))) else none) (fun b=>?_) (.inl (.inr ⟨{ cls:=.type "list",data:=.seq vs.toArray },if_pos rfl⟩)) (fun b u z=>?_) (fun b z=>?_) fun _=>hk
  ·by_cases hb:b=a
   ·exact .inr ⟨_,_,if_pos hb⟩
   ·exact .inl (if_neg hb)
  ·by_cases hb:b=a
   ·have z':=(if_pos hb).symm.trans z
    cases z'
    subst hb
    exact ⟨ha,by rw [List.length_map]; exact hl,vs,_,rv,ha⟩
   ·have z':=(if_neg hb).symm.trans z
    cases z'
  ·by_cases hb:b=a
   ·exact hb
   ·exact absurd (if_neg hb) z
end L2
namespace L2
open PySem PySem.Spec PyProof.Rows
theorem walk_of {l:PySem.W.OpenLaw} {n k:Nat} {q:Program} {loose:List Str} {XP:(Str->Option Value)->Heap->Prop} {YP:World->Heap->Prop} {d:DefRec} {K:Params->PySem.W.Frag} {CX:World->CXT} {sp:World->Sp} {x:Str}
  (hn:l.most=some n) (hn2:n<=sizeLine) (hdf:d.params.defaults=[]) (hr:Room k callerA)
  (hY:∀ (w:World) (h:Heap),YP w h->(K w.params).In h)
  (F:∀ (w:World) (mg:Str->Option Value) (fa:Addr) (h:Heap),(K w.params).In h->h.Ns mainGlobals mg->mg d.name=some (.ref fa)->
   ∃ fd:FuncData,(∀ (s:Shared) (u:Value),BindsTo s fd ⟨[u],[]⟩ [(x,u)])/\
    ∀ base:Heap,(K w.params).In base->base.Ns mainGlobals mg->FnOk l.prog w (K w.params) mg base (CX w) k fa fd [x] (sp w))
  (hsp:∀ (w:World) (H:Hp) (a:Addr) (ns:List Int),ns.length<=n->Only H->SqL (K w.params) H a (ns.map V.int)->sp w [.ref a] H (fun v _=>v=.bl true) fun _ _ _=>False)
  (hCX:∀ (w:World) (H:Hp) (s:Shared) (e:Value) (s':Shared),CX w [] H s (fun _ _ _=>False) e s'->False) :
  PySem.W.WalkO q loose XP YP l.row.toRowW d [] (fun f vs=>PySem.call f vs):=by
 refine Att.attach_call hn hdf fun w s₀ s₁ mg mb fa o pm cd doc a vs ns G Y ho hd hcd hmg hobj hints hlen hg=>?_
 have KX:=hY w _ Y
 obtain ⟨fd,hb,hF⟩:=F w mg fa _ KX G.T.g hmg
 exact law_call KX G.T.g G.T.b G.T.builtins G.T.nolimit hg hobj hints (Nat.le_trans hlen hn2) hr hF hb (fun H hO hS=>hsp w H a ns hlen hO hS) fun H e s'=>hCX w H s₁ e s'
end L2
namespace L2
open PySem PySem.Spec PyProof.Rows
noncomputable def defArgs (s:Stmt):Arguments:=match s with
 | .FunctionDef _ a _ _ _ _ _ _ _ _=>a
 | _=>{ posonlyargs:=[],args:=[],vararg:=none,kwonlyargs:=[],kw_defaults:=[],kwarg:=none,defaults:=[] }
noncomputable def defBody (s:Stmt):List Stmt:=match s with
 | .FunctionDef _ _ b _ _ _ _ _ _ _=>b
 | _=>[]
noncomputable def defScope (s:Stmt):Scope:=match s with
 | .FunctionDef _ _ _ _ _ _ sc _ _ _=>sc
 | _=>{ kind:=.function,names:=[],isGenerator:=false,isCoroutine:=false }
structure Fun (K:PySem.W.Frag) (x qual:Str) (st:Stmt) (f:Addr) (fd:FuncData):Prop where
 ex:∃ (oc:Value) (od:Option Addr) (kV doc pm:Value) (an:Option Addr) (cdv ct:Value) (osl:Array (Option Value)),
  fd=PySem.W.fnOf x qual (defArgs st) (defBody st) (defScope st) .none kV doc pm an cdv ct/\K.lookup f=some ⟨oc,od,.func fd,osl⟩/\PySem.W.codeIn K cdv qual=true
 kp:PySem.W.keepIn K (.ref f)=true
section
variable {P:Program} {w:World} {K:PySem.W.Frag} {mg:Str->Option Value} {base:Heap}
theorem Fun.binds {x qual:Str} {st:Stmt} {f:Addr} {fd:FuncData} {ps:List Str} (F:Fun K x qual st f fd)
  (h:∀ (kV doc pm:Value) (an:Option Addr) (cdv ct:Value) (us:List Value),us.length=ps.length->bindArgs (PySem.W.fnOf x qual (defArgs st) (defBody st) (defScope st) .none kV doc pm an cdv ct) ⟨us,[]⟩=pure (ps.zip us)):Binds K fd ps []:=by
 obtain ⟨oc,od,kV,doc,pm,an,cdv,ct,osl,rfl,lk,hcd⟩:=F.ex
 exact .all (h kV doc pm an cdv ct)
theorem fun_mk {x qual:Str} {st:Stmt} {f:Addr} {oc:Value} {od an:Option Addr} {osl:Array (Option Value)} {kV doc pm cdv ct:Value} (l:K.lookup f=some ⟨oc,od,.func (PySem.W.fnOf x qual (defArgs st) (defBody st) (defScope st) .none kV doc pm an cdv ct),osl⟩)
  (c:PySem.W.codeIn K cdv qual=true) (k:PySem.W.keepIn K (.ref f)=true):Fun K x qual st f (PySem.W.fnOf x qual (defArgs st) (defBody st) (defScope st) .none kV doc pm an cdv ct):=⟨⟨oc,od,kV,doc,pm,an,cdv,ct,osl,rfl,l,c⟩,k⟩
end
theorem hu_of {A:Around} {k:Nat} (hr:Room k A):A.units + 1 < cLine:=Nat.lt_of_le_of_lt (Nat.add_le_add_left (by decide:1<=64) _) hr.units
section
variable {X:Cx}
theorem pv (i:Nat) {x:Str} {pos:Pos} (hN:X.N[i]? = some x:=by rfl) (hv:Vis X.env.scope x:=by first | exact Or.inl rfl | exact Or.inr (Or.inl rfl) | exact Or.inr (Or.inr rfl)) (hd:(x == ("__debug__":Str))=false:=by decide)
  (hcd:(x == ("__classdict__":Str))=false:=by decide):PE X (.Name x pos) (tVar i):=pe_var hN hv hd hcd
end
theorem iteF {A B:Prop} (h:B):if false=true then A else B:=by
 rw [if_neg Bool.false_ne_true]
 exact h
theorem iteT {A B:Prop} (h:A):if true=true then A else B:=by
 rw [if_pos rfl]
 exact h
noncomputable def Same (H H':Hp):Prop:=∀ b o,H b=some o->H' b=some o
theorem Same.refl (H:Hp):Same H H:=fun _ _ h=>h
theorem Same.seq {K:PySem.W.Frag} {H H':Hp} {a:Addr} {xs:List V} (e:Same H H') (h:SqL K H a xs):SqL K H' a xs:=by
 rcases h with (h | ⟨o,h⟩) | h
 ·exact .inl (.inl (e _ _ h))
 ·exact .inl (.inr ⟨o,e _ _ h⟩)
 ·exact .inr h
end L2
set_option maxHeartbeats 4000000
namespace L2
open PySem PySem.Spec PyProof.Rows
section
variable {κ:Type} [DecidableEq κ]
noncomputable def valV (kvs:List (κ × V)) (k:κ):Option V:=(kvs.find? fun kv=>decide (kv.1=k)).map (·.2)
noncomputable def putK (kvs:List (κ × V)) (k:κ) (v:V):List (κ × V):=
 if (kvs.any fun kv=>decide (kv.1=k))=true then kvs.map (fun kv=>if kv.1=k then (kv.1,v) else kv) else kvs ++ [(k,v)]
theorem valV_pos {p:κ × V} {r:List (κ × V)} {k:κ} (e:p.1=k):valV (p :: r) k=some p.2:=by simp [valV,List.find?_cons,e]
theorem valV_neg {p:κ × V} {r:List (κ × V)} {k:κ} (e:¬ p.1=k):valV (p :: r) k=valV r k:=by simp [valV,List.find?_cons,e]
theorem valV_any (k:κ):∀ kvs:List (κ × V),(kvs.any fun kv=>decide (kv.1=k))=(valV kvs k).isSome
 | []=>rfl
 | p :: r=>by
  rw [List.any_cons]
  by_cases e:p.1=k
  ·simp only [valV_pos e,decide_eq_true e,Bool.true_or,Option.isSome_some]
  ·rw [valV_neg e,decide_eq_false e,Bool.false_or]; exact valV_any k r
theorem length_putK (kvs:List (κ × V)) (k:κ) (v:V):(putK kvs k v).length<=kvs.length + 1:=by
 unfold putK
 split
 ·rw [List.length_map]; omega
 ·rw [List.length_append,List.length_cons,List.length_nil]; omega
theorem putK_new {kvs:List (κ × V)} {k:κ} (v:V) (h:valV kvs k=none):putK kvs k v=kvs ++ [(k,v)]:=by
 unfold putK
 rw [valV_any,h]
 exact if_neg (by decide)
theorem RelO.isSome_eq {o:Option V} {u:Option Value} (r:RelO o u):o.isSome=u.isSome:=by
 cases o with
 | none=>cases u with
  | none=>rfl
  | some _=>exact (show False from r).elim
 | some _=>cases u with
  | none=>exact (show False from r).elim
  | some _=>rfl
theorem KV.val {kvs:List (κ × V)} {vs:List (κ × Value)} (r:KV kvs vs) (k:κ):RelO (valV kvs k) (valueAt vs k):=by
 unfold KV at r
 induction r with
 | nil=>exact True.intro
 | @cons p q ps qs h t ih=>
  obtain ⟨h1,h2⟩:=h
  by_cases e:p.1=k
  ·have e':q.1=k:=h1.symm.trans e
   have b:valueAt (q :: qs) k=some q.2:=by simp [valueAt,List.find?_cons,e']
   rw [valV_pos e,b]; exact h2
  ·have e':¬ q.1=k:=fun z=>e (h1.trans z)
   have b:valueAt (q :: qs) k=valueAt qs k:=by simp [valueAt,List.find?_cons,e']
   rw [valV_neg e,b]; exact ih
theorem KV.any {kvs:List (κ × V)} {vs:List (κ × Value)} (r:KV kvs vs) (k:κ):(kvs.any fun kv=>decide (kv.1=k))=vs.any fun kv=>decide (kv.1=k):=by
 unfold KV at r
 induction r with
 | nil=>rfl
 | cons h t ih=>rw [List.any_cons,List.any_cons,ih,h.1]
theorem KV.repl {kvs:List (κ × V)} {vs:List (κ × Value)} (r:KV kvs vs) (k:κ) {y:V} {u:Value} (ry:RelV y u) :
  KV (kvs.map fun kv=>if kv.1=k then (kv.1,y) else kv) (vs.map fun kv=>if kv.1=k then (kv.1,u) else kv):=by
 unfold KV at r ⊢
 induction r with
 | nil=>exact .nil
 | @cons p q ps qs h t ih=>
  rw [List.map_cons,List.map_cons]
  refine .cons ?_ ih
  obtain ⟨h1,h2⟩:=h
  by_cases e:p.1=k
  ·rw [if_pos e,if_pos (h1.symm.trans e)]; exact ⟨h1,ry⟩
  ·rw [if_neg e,if_neg (fun z=>e (h1.trans z))]; exact ⟨h1,h2⟩
theorem KV.put {kvs:List (κ × V)} {vs:List (κ × Value)} (r:KV kvs vs) (k:κ) {y:V} {u:Value} (ry:RelV y u):KV (putK kvs k y) (stored vs k u):=by
 unfold putK stored
 rw [r.any k]
 by_cases e:(vs.any fun kv=>decide (kv.1=k))=true
 ·rw [if_pos e,if_pos e]; exact r.repl k ry
 ·rw [if_neg e,if_neg e]; exact Paired.snoc r ⟨rfl,ry⟩
theorem KV.length {kvs:List (κ × V)} {vs:List (κ × Value)} (r:KV kvs vs):kvs.length=vs.length:=Paired.length r
end
theorem kV_is {P:Program} {w:World} {k:Key} {u:Value} (r:RelV (kV k) u):(mixKind P w).is k u=true:=by
 cases k with
 | inl i=>obtain ⟨t,e⟩:=(show ∃ t,u=Value.int i t from r); subst e; exact mixKind_int P w i t
 | inr x=>obtain ⟨t,e⟩:=(show ∃ t,u=Value.str x t from r); subst e; exact mixKind_str P w x t
theorem items_are {P:Program} {w:World}:∀ {ks:List Key} {us:List Value},Vals (ks.map kV) us->ItemsAre (mixKind P w) ks us
 | [],_,r=>by rw [List.map_nil] at r; cases r; exact .nil
 | k :: ks,_,r=>by
  rw [List.map_cons] at r
  cases r with
  | cons h t=>exact .cons (kV_is h) (items_are t)
noncomputable abbrev KT (H:Hp):List (List Key × V)->List (List Key × Addr × Value)->Prop:=Paired fun p q=>p.1=q.1/\H q.2.1=some (.tup (p.1.map kV))/\RelV p.2 q.2.2
theorem KT.val {H:Hp} {kvs:List (List Key × V)} {xs:List (List Key × Addr × Value)} (r:KT H kvs xs) (k:List Key):RelO (valV kvs k) ((atKey xs k).map (·.2)):=by
 induction r with
 | nil=>exact True.intro
 | @cons p q ps qs h t ih=>
  obtain ⟨h1,_,h2⟩:=h
  by_cases e:p.1=k
  ·have e':q.1=k:=h1.symm.trans e
   have b:atKey (q :: qs) k=some q.2:=by simp [atKey,List.find?_cons,e']
   rw [valV_pos e,b]; exact h2
  ·have e':¬ q.1=k:=fun z=>e (h1.trans z)
   have b:atKey (q :: qs) k=atKey qs k:=by simp [atKey,List.find?_cons,e']
   rw [valV_neg e,b]; exact ih
section
variable {P:Program} {w:World} {H:Hp} {h:Heap} {a:Addr}
theorem rd_of {u:HO} (ok:HOk P w H h) (e:Rd H a u):ObjOk P w H h a u:=e.ok ok
theorem dk_rd {kvs:List (Key × V)} (ok:HOk P w H h) (e:Rd H a (.dK kvs)):kvs.length<=sizeLine/\(a == sysModules)=false/\∃ vs,KV kvs vs/\h.DictOf (mixKind P w) a vs:=
 show ObjOk P w H h a (.dK kvs) from rd_of ok e
theorem key_of {ks:List Key} (ok:HOk P w H h) (e:H a=some (.tup (ks.map kV))):(tupleKind (mixKind P w)).is h ks a:=by
 obtain ⟨_,its,r,o,h1,h2,n,h3⟩:=(show ObjOk P w H h a (.tup (ks.map kV)) from ok a _ e)
 exact ⟨o,its.toArray,n,h1,h2,h3,by simpa using items_are r⟩
theorem dt_rd {kvs:List (List Key × V)} (ok:HOk P w H h) (e:Rd H a (.dT kvs)):kvs.length<=sizeLine/\(a == sysModules)=false/\
  ∃ xs,KT H kvs xs/\h.DictOfH (tupleKind (mixKind P w)) a xs:=by
 obtain ⟨z,y,xs,r,o,es,ep,h1,h2,h3,h4,h5⟩:=(show ObjOk P w H h a (.dT kvs) from rd_of ok e)
 refine ⟨z,y,xs,r,o,es,ep,h1,h2,h3,h4,fun x hx=>?_,h5⟩
 have all:∀ {l:List (List Key × V)} {m:List (List Key × Addr × Value)},KT H l m->∀ x ∈ m,(tupleKind (mixKind P w)).is h x.1 x.2.1:=by
  intro l m q
  induction q with
  | nil=>intro x hx; exact nomatch hx
  | @cons p q ps qs hq t ih=>
   intro x hx
   rcases List.mem_cons.mp hx with e | hx
   ·subst e
    exact key_of ok (by rw [<-hq.1]; exact hq.2.1)
   ·exact ih x hx
 exact all r x hx
end
noncomputable def DGet (H:Hp) (a:Addr) (y:V) (r:Option V):Prop:=
 (∃ kvs k,Rd H a (.dK kvs)/\y=kV k/\r=valV kvs k)\/∃ kvs k b,Rd H a (.dT kvs)/\y=.ref b/\H b=some (.tup (k.map kV))/\r=valV kvs k
theorem DGet.k {H:Hp} {a:Addr} {kvs:List (Key × V)} {k:Key} (e:H a=some (.dK kvs)):DGet H a (kV k) (valV kvs k):=.inl ⟨kvs,k,.inl e,rfl,rfl⟩
theorem DGet.t {H:Hp} {a b:Addr} {kvs:List (List Key × V)} {k:List Key} (e:H a=some (.dT kvs)) (eb:H b=some (.tup (k.map kV))):DGet H a (.ref b) (valV kvs k):=.inr ⟨kvs,k,b,.inl e,rfl,eb,rfl⟩
section
variable {X:Cx} {pins:List (Addr × Obj)} {σ:St} {H:Hp} {s:Shared} {a:Addr} {y v:V} {u r:Value} {o:Option V} {A:Around} {E:Value->Shared->Prop}
theorem Inv.big (I:Inv X pins σ H s):sysModules < s.heap.objs.size:=by
 have h:mainGlobals < s.heap.objs.size:=(I.mod.glob.keeps I.bk).lt
 exact Nat.lt_trans (by decide) h
theorem d_getItem {Q:Value->Shared->Prop} (hu:A.units + 1 < cLine) (I:Inv X pins σ H s) (g:DGet H a y (some v)) (ry:RelV y u) (h:∀ w' s',Inv X pins σ H s'->RelV v w'->Q w' s') :
  wpAny (model X.prog X.w) A (getItem (.ref a) u) Q E s:=by
 rcases g with ⟨kvs,k,e,ey,l⟩ | ⟨kvs,k,b,e,ey,eb,l⟩
 ·subst ey
  obtain ⟨z,hd,vs,rel,dd⟩:=dk_rd I.hok e
  obtain ⟨w',hw,rw'⟩:=RelO.some_of (v:=v) (o:=valueAt vs k) (by rw [l]; exact rel.val k)
  exact wpAny_getItem_of (kV_is ry) dd.mapOf hw (h w' _ (I.tok _) rw')
 ·subst ey
  cases (show u=Value.ref b from ry)
  obtain ⟨z,hd,xs,rel,dd⟩:=dt_rd I.hok e
  obtain ⟨w',hw,rw'⟩:=RelO.some_of (v:=v) (o:=(atKey xs k).map (·.2)) (by rw [l]; exact rel.val k)
  obtain ⟨p,hp,hp2⟩:=Option.map_eq_some_iff.mp hw
  refine wpAny_getItem_heap (tupleKind_room_in1 hu) (key_of I.hok eb) dd hp ?_
  rw [hp2]
  exact h w' _ (I.tok _) rw'
theorem d_notIn {Q:Value->Shared->Prop} (hu:A.units + 1 < cLine) (I:Inv X pins σ H s) (g:DGet H a y o) (ry:RelV y u) (h:∀ s',Inv X pins σ H s'->Q (.bool (!o.isSome)) s') :
  wpAny (model X.prog X.w) A (compareOp .NotIn u (.ref a)) Q E s:=by
 rcases g with ⟨kvs,k,e,ey,l⟩ | ⟨kvs,k,b,e,ey,eb,l⟩
 ·subst ey
  obtain ⟨z,hd,vs,rel,dd⟩:=dk_rd I.hok e
  refine wpAny_notIn_of (kV_is ry) hd dd.mapOf ?_
  rw [<-(rel.val k).isSome_eq,<-l]
  exact h _ (I.tok _)
 ·subst ey
  cases (show u=Value.ref b from ry)
  obtain ⟨z,hd,xs,rel,dd⟩:=dt_rd I.hok e
  refine wpAny_notIn_heap (tupleKind_room_in1 hu) (key_of I.hok eb) hd dd ?_
  have q:=(rel.val k).isSome_eq
  rw [Option.isSome_map] at q
  rw [<-q,<-l]
  exact h _ (I.tok _)
theorem dk_new {P:Program} {w:World} {H':Hp} {h':Heap} {kvs:List (Key × V)} {vs:List (Key × Value)} (z:kvs.length<=sizeLine) (hd:(a == sysModules)=false) (rel:KV kvs vs) (dd:h'.DictOf (mixKind P w) a vs) :
  ObjOk P w H' h' a (.dK kvs):=⟨z,hd,vs,rel,dd⟩
end
noncomputable def NoSl (i:Expr):Prop:=∀ ov iv,subscripted i false ov iv=operate [ov,iv] (getItem ov iv)
theorem subD_of {prog:Program} {w:World} {A:Around} {E:Value->Shared->Prop} {s:Shared} {env:Env} {value slice:Expr} {pos:Pos} {T id:String} {Q:Value->Shared->Prop}
  (hl:typeLookup (.type T) "__getitem__" = pure (some (.builtin id))) (hs:NoSl slice)
  (h:wpAny (model prog w) A (eval value env) (fun o s₁=>wpAny (model prog w) A (eval slice env) (fun i s₂=>s₂.TypeIs o T/\wpAny (model prog w) A (getItem o i) Q E s₂) E s₁) E s) :
  wpAny (model prog w) A (eval (.Subscript value slice pos) env) Q E s:=by
 refine Subscript_ (wpAny_mono h (fun o s₁ h₁=>wpAny_mono h₁ (fun i s₂ h₂=>?_) fun _ _ x=>x) fun _ _ x=>x)
 obtain ⟨hT,h₂⟩:=h₂
 unfold subscriptTail
 refine wpAny_bind ?_
 rw [getitemInPython_of_ne hT.not_modules]
 refine wpAny_bind (wpAny_specialOf hT hl ?_)
 have fin:wpAny (model prog w) A (subscripted slice false o i) (fun r s₃=>wpAny (model prog w) A (letTemporaryGo value o r >>= fun _=>pure r) Q E s₃) E s₂:=by
  rw [hs o i]
  exact wpAny_operating (wpAny_mono h₂ (fun r s₃ h₃=>wpAny_bind (wpAny_letTemporaryGo (wpAny_pure h₃))) fun _ _ x=>x)
 first
  | exact wpAny_pure (wpAny_bind fin)
  | exact wpAny_bind (wpAny_pure (wpAny_bind fin))
  | exact wpAny_bind fin
theorem dict_typeIs {X:Cx} {pins:List (Addr × Obj)} {σ:St} {H:Hp} {s:Shared} {a:Addr} {y:V} {o:Option V} (I:Inv X pins σ H s) (g:DGet H a y o):s.TypeIs (.ref a) "dict":=by
 rcases g with ⟨kvs,k,e,_,_⟩ | ⟨kvs,k,b,e,_,_,_⟩
 ·obtain ⟨_,_,vs,_,dd⟩:=dk_rd I.hok e
  exact dd.typeIs
 ·obtain ⟨_,_,xs,_,dd⟩:=dt_rd I.hok e
  exact dd.typeIs
noncomputable def tDGet (td ty:TE):TE:=fun σ H Q=>td σ H fun x H1=>ty σ H1 fun y H2=>∃ a v,x=.ref a/\DGet H2 a y (some v)/\Q v H2
noncomputable def tDNotIn (ty td:TE):TE:=fun σ H Q=>ty σ H fun y H1=>td σ H1 fun x H2=>∃ a o,x=.ref a/\DGet H2 a y o/\Q (.bl (!o.isSome)) H2
section
variable {X:Cx} {o i e value:Expr} {pos pos' tpos:Pos} {td ty tv:TE}
theorem pe_dget (hu:X.A.units + 1 < cLine) (ho:PE X o td) (hi:PE X i ty) (hs:NoSl i):PE X (.Subscript o i pos) (tDGet td ty):=by
 intro pins s σ H Q I h
 refine subD_of PySem.F.slot_dict_getitem.lookup hs (thn (ho pins s σ H _ I h) fun u s1 ⟨x,H1,I1,rx,q1⟩=>thn (hi pins s1 σ H1 _ I1 q1) fun iv s2 ⟨y,H2,I2,ry,a,v,ex,g,q2⟩=>?_)
 subst ex
 obtain rfl:u=Value.ref a:=rx
 exact ⟨dict_typeIs I2 g,d_getItem hu I2 g ry fun w' s3 I3 rw'=>⟨v,H2,I3,rw',q2⟩⟩
theorem pc_dnotin (hu:X.A.units + 1 < cLine) (hi:PE X i ty) (ho:PE X o td):PC X .NotIn i o (tDNotIn ty td):=by
 intro pins s σ H Q I h
 refine thn (hi pins s σ H _ I h) fun iv s1 ⟨y,H1,I1,ry,q1⟩=>thn (ho pins s1 σ H1 _ I1 q1) fun u s2 ⟨x,H2,I2,rx,a,ov,ex,g,q2⟩=>?_
 subst ex
 obtain rfl:u=Value.ref a:=rx
 exact d_notIn hu I2 g ry fun s3 I3=>⟨.bl (!ov.isSome),H2,I3,rfl,q2⟩
end
end L2
namespace L2
open PySem PySem.Spec PyProof.Rows
end L2
namespace L2
open PySem PySem.Spec PyProof.Rows
noncomputable def closL (env:Env):List (Str × NameKind)->List (Str × Addr)->List (Str × Addr)
 | [],acc=>acc
 | (n,k) :: r,acc=>if k == .free then closL env r ((n,(env.cells.lookup n).getD 0) :: acc) else closL env r acc
theorem closure_loop (env:Env):∀ (names:List (Str × NameKind)) (acc:List (Str × Addr)),(∀ y ∈ names,y.2=.free->(env.cells.lookup y.1).isSome=true)->
  (forIn names acc fun (x:Str × NameKind) (cs:List (Str × Addr))=>if (x.2 == NameKind.free)=true then (do let c <-cellOf env x.1; pure (ForInStep.yield ((x.1,c) :: cs))) else (pure (ForInStep.yield cs):Sem (ForInStep (List (Str × Addr)))))=pure (closL env names acc)
 | [],acc,_=>rfl
 | (n,k) :: r,acc,h=>by
  have ih:=fun a=>closure_loop env r a fun y hy=>h y (List.mem_cons_of_mem _ hy)
  rw [List.forIn_cons]
  unfold closL
  by_cases hk:(k == NameKind.free)=true
  ·obtain ⟨c,hc⟩:=Option.isSome_iff_exists.mp (h (n,k) List.mem_cons_self (by simpa using hk))
   simp only [hk,if_true]
   have:cellOf env n=pure c:=by unfold cellOf; rw [hc]
   rw [this,hc]
   exact ih _
  ·simp only [hk]
   exact ih _
theorem closureFor_cells {scope:Scope} {env:Env} (h:∀ y ∈ scope.names,y.2=.free->(env.cells.lookup y.1).isSome=true):closureFor scope env=pure (closL env scope.names []):=by
 have e:=closure_loop env scope.names [] h
 unfold closureFor
 exact congrArg (fun m=>m >>= pure) e
theorem closL_keep {env:Env} {x:Str}:∀ {names:List (Str × NameKind)} {acc:List (Str × Addr)} {c:Addr},(∀ y ∈ names,y.2=.free->(env.cells.lookup y.1).isSome=true)->
  (∀ c,acc.lookup x=some c->env.cells.lookup x=some c)->(closL env names acc).lookup x=some c->env.cells.lookup x=some c
 | [],_,_,_,ha,h=>ha _ h
 | (n,k) :: r,acc,c,hn,ha,h=>by
  unfold closL at h
  by_cases hk:(k == NameKind.free)=true
  ·rw [if_pos hk] at h
   refine closL_keep (fun y hy=>hn y (List.mem_cons_of_mem _ hy)) (fun c' e=>?_) h
   rw [List.lookup_cons] at e
   cases hx:x == n with
   | true=>
    rw [hx] at e
    have:x=n:=by simpa using hx
    subst this
    obtain ⟨d,hd⟩:=Option.isSome_iff_exists.mp (hn (x,k) List.mem_cons_self (by simpa using hk))
    rw [hd] at e ⊢
    exact e
   | false=>
    rw [hx] at e
    exact ha _ e
  ·rw [if_neg hk] at h
   exact closL_keep (fun y hy=>hn y (List.mem_cons_of_mem _ hy)) ha h
theorem closL_has {env:Env} {x:Str}:∀ {names:List (Str × NameKind)} {acc:List (Str × Addr)},((x,NameKind.free) ∈ names\/(acc.lookup x).isSome=true)->((closL env names acc).lookup x).isSome=true
 | [],_,h=>by rcases h with h | h; cases h; exact h
 | (n,k) :: r,acc,h=>by
  unfold closL
  by_cases hk:(k == NameKind.free)=true
  ·rw [if_pos hk]
   refine closL_has ?_
   rw [List.lookup_cons]
   cases hx:x == n with
   | true=>exact .inr rfl
   | false=>
    rcases h with h | h
    ·rcases List.mem_cons.mp h with e | h
     ·cases e; simp at hx
     ·exact .inl h
    ·exact .inr h
  ·rw [if_neg hk]
   refine closL_has ?_
   rcases h with h | h
   ·rcases List.mem_cons.mp h with e | h
    ·cases e; simp at hk
    ·exact .inl h
   ·exact .inr h
noncomputable abbrev rlab (env:Env):Str × NameKind->Str × NameKind:=fun (n,k)=>if (k == NameKind.free && env.scope.kind == .function && env.kindOf n == some .cell) then (n,NameKind.cell) else (n,k)
theorem relabel_of {env:Env}:∀ {names:List (Str × NameKind)} {x:Str} {k:NameKind},names.lookup x=some k->
  (names.map (rlab env)).lookup x=some k\/(k=.free/\(names.map (rlab env)).lookup x=some .cell)
 | [],_,_,h=>by simp at h
 | (n,k) :: r,x,k',h=>by
  have ih:=@relabel_of env r x k'
  rw [List.map_cons]
  have e:rlab env (n,k)=(n,k)\/(k=.free/\rlab env (n,k)=(n,.cell)):=by
   by_cases hc:(k == NameKind.free && env.scope.kind == .function && env.kindOf n == some .cell)=true
   ·refine .inr ⟨?_,if_pos hc⟩
    cases k <;> first | rfl | (simp at hc)
   ·exact .inl (if_neg hc)
  cases hx:x == n with
  | true=>
   simp only [List.lookup_cons,hx] at h
   cases h
   rcases e with e | ⟨e1,e⟩
   ·rw [e]; exact .inl (by simp only [List.lookup_cons,hx])
   ·rw [e]; exact .inr ⟨e1,by simp only [List.lookup_cons,hx]⟩
  | false=>
   simp only [List.lookup_cons,hx] at h
   rcases e with e | ⟨e1,e⟩ <;> (rw [e]; simp only [List.lookup_cons,hx]; exact ih h)
theorem relabel_none {env:Env}:∀ {names:List (Str × NameKind)} {x:Str},names.lookup x=none->(names.map (rlab env)).lookup x=none
 | [],_,_=>rfl
 | (n,k) :: r,x,h=>by
  have ih:=@relabel_none env r x
  rw [List.map_cons]
  have e:rlab env (n,k)=(n,k)\/rlab env (n,k)=(n,.cell):=by
   by_cases hc:(k == NameKind.free && env.scope.kind == .function && env.kindOf n == some .cell)=true
   ·exact .inr (if_pos hc)
   ·exact .inl (if_neg hc)
  cases hx:x == n with
  | true=>simp only [List.lookup_cons,hx] at h; cases h
  | false=>
   simp only [List.lookup_cons,hx] at h
   rcases e with e | e <;> (rw [e]; simp only [List.lookup_cons,hx]; exact ih h)
section
variable {prog:Program} {w:World} {A:Around} {E:Value->Shared->Prop} {R:Result->Shared->Prop} {s:Shared}
theorem compLoop_any {elt target iter:Expr} {ifs:List Expr} {scope:Scope} {pos:Pos} {it acc:Value} {env:Env} (I:Nat->Shared->Prop)
  (turn:∀ n s,I n s->wpAny (model prog w) A (pyNext it) (fun r s₁=>match r with
   | none=>R (.ok .next) s₁
   | some v=>wpAny (model prog w) A (letOwnedTupleGo target it v) (fun _ s₁'=>wpAny (model prog w) A (assign target env v) (fun _ s₂=>
     wpAny (model prog w) A (forIn ifs true fun c r=>if r=true then do let ok <-isTrue c env (eval c env); pure (ForInStep.yield ok) else pure (ForInStep.yield r)) (fun ok s₃=>
      if ok=true then wpAny (model prog w) A (eval elt env) (fun x s₄=>
       wpAny (model prog w) A (call (.builtin "list.append") [acc,x]) (fun _ s₅=>∃ m,m < n/\I m s₅) (fun _ _=>False) s₄) (fun _ _=>False) s₃
      else ∃ m,m < n/\I m s₃) (fun _ _=>False) s₂) (fun _ _=>False) s₁') (fun _ _=>False) s₁) (fun _ _=>False) s)
  (n:Nat) (h:I n s) :
  codeAny (model prog w) A (.compLoop (.ListComp elt [⟨target,iter,ifs,0⟩] scope pos) 0 it acc env) R s:=by
 refine codeAny_loop rfl I (fun n s hI=>?_) n h
 show wpAny _ A ((compTurn (.ListComp elt [⟨target,iter,ifs,0⟩] scope pos) 0 it acc env).onRaise (fun x=>do noteFrame x env; theTreesLotGoes x)) _ _ s
 refine wpAny_noted (wpAny_noRaise ?_)
 rw [compTurn_list]
 refine wpAny_bind (wpAny_standAt (wpAny_bind (wpAny_mono (turn n s hI) (fun r s₁ h₁=>?_) fun _ _ h'=>h')))
 cases r with
 | none=>exact wpAny_pure h₁
 | some v=>
  refine wpAny_bind (wpAny_mono h₁ (fun _ s₁' h₁'=>?_) fun _ _ h'=>h')
  refine wpAny_bind (wpAny_mono h₁' (fun _ s₂ h₂=>wpAny_bind (wpAny_mono h₂ (fun ok s₃ h₃=>?_) fun _ _ h'=>h')) fun _ _ h'=>h')
  cases ok with
  | false=>exact wpAny_pure ⟨rfl,h₃⟩
  | true=>
   exact wpAny_bind (wpAny_bind (wpAny_mono h₃ (fun x s₄ h₄=>wpAny_bind (wpAny_mono h₄ (fun _ s₅ h₅=>wpAny_pure (wpAny_pure ⟨rfl,h₅⟩)) fun _ _ h'=>h')) fun _ _ h'=>h'))
end
theorem cf_keep {x:Str}:∀ (names:List (Str × NameKind)) (n:Nat) (acc:List (Str × Addr)),((x,NameKind.cell) ∉ names)->(cellsFrom n names acc).lookup x=acc.lookup x
 | [],_,_,_=>rfl
 | (y,k) :: r,n,acc,h=>by
  unfold cellsFrom
  have hr:(x,NameKind.cell) ∉ r:=fun z=>h (List.mem_cons_of_mem _ z)
  split
  ·rename_i hk
   rw [cf_keep r _ _ hr,List.lookup_cons]
   have:(x == y)=false:=by
    cases e:x == y with
    | false=>rfl
    | true=>exact absurd (by rw [eq_of_beq e,<-eq_of_beq hk]; exact List.mem_cons_self) h
   rw [this]
  ·exact cf_keep r _ _ hr
theorem cf_new {x:Str} {c:Addr}:∀ (names:List (Str × NameKind)) (h:Heap) (acc:List (Str × Addr)),(cellsFrom h.objs.size names acc).lookup x=some c->acc.lookup x=some c\/(h.objs.size<=c/\(x,NameKind.cell) ∈ names/\(pushCells h names).IsCell c none)
 | [],_,_,e=>.inl e
 | (y,k) :: r,h,acc,e=>by
  unfold cellsFrom at e
  unfold pushCells
  split at e
  ·rename_i hk
   rw [if_pos hk]
   have sz:(h.push { cls:=.type "cell",data:=.cell none }).objs.size=h.objs.size + 1:=Heap.size_push ..
   rw [<-sz] at e
   rcases cf_new r _ _ e with z | ⟨z1,z2,z3⟩
   ·rw [List.lookup_cons] at z
    split at z
    ·rename_i hx
     cases z
     refine .inr ⟨Nat.le_refl _,?_,⟨_,pushCells_keeps r _ _ _ (Heap.get?_push_size _ rfl),rfl⟩⟩
     rw [eq_of_beq hx,<-eq_of_beq hk]; exact List.mem_cons_self
    ·exact .inl z
   ·exact .inr ⟨by rw [sz] at z1; omega,List.mem_cons_of_mem _ z2,z3⟩
  ·rename_i hk
   rw [if_neg hk]
   rcases cf_new r _ _ e with z | ⟨z1,z2,z3⟩
   ·exact .inl z
   ·exact .inr ⟨z1,List.mem_cons_of_mem _ z2,z3⟩
theorem cf_ge {x:Str} {c:Addr}:∀ (names:List (Str × NameKind)) (n:Nat) (acc:List (Str × Addr)),(x,NameKind.cell) ∈ names->(cellsFrom n names acc).lookup x=some c->n<=c
 | (y,k) :: r,n,acc,hm,e=>by
  unfold cellsFrom at e
  by_cases hr:(x,NameKind.cell) ∈ r
  ·split at e
   ·have:=cf_ge r _ _ hr e; omega
   ·exact cf_ge r _ _ hr e
  ·rcases List.mem_cons.mp hm with z | z
   ·cases z
    rw [if_pos (by rfl),cf_keep r _ _ hr,List.lookup_cons,beq_self_eq_true] at e
    cases e
    exact Nat.le_refl _
   ·exact absurd z hr
theorem cf_has {x:Str}:∀ (names:List (Str × NameKind)) (n:Nat) (acc:List (Str × Addr)),((x,NameKind.cell) ∈ names\/(acc.lookup x).isSome=true)->((cellsFrom n names acc).lookup x).isSome=true
 | [],_,_,h=>by rcases h with h | h; cases h; exact h
 | (y,k) :: r,n,acc,h=>by
  unfold cellsFrom
  split
  ·rename_i hk
   refine cf_has r _ _ ?_
   rcases h with h | h
   ·rcases List.mem_cons.mp h with z | z
    ·cases z; right; rw [List.lookup_cons,beq_self_eq_true]; rfl
    ·exact .inl z
   ·right
    rw [List.lookup_cons]
    split
    ·rfl
    ·exact h
  ·rename_i hk
   refine cf_has r _ _ ?_
   rcases h with h | h
   ·rcases List.mem_cons.mp h with z | z
    ·cases z; exact absurd rfl hk
    ·exact .inl z
   ·exact .inr h
theorem cf_inj {x y:Str} {c:Addr} {lo:Nat}:∀ (names:List (Str × NameKind)) (n:Nat) (acc:List (Str × Addr)),(∀ x y c,lo<=c->acc.lookup x=some c->acc.lookup y=some c->x=y)->(∀ x c,acc.lookup x=some c->c < n)->lo<=c->(cellsFrom n names acc).lookup x=some c->(cellsFrom n names acc).lookup y=some c->x=y
 | [],_,_,h,_,l,e1,e2=>h _ _ _ l e1 e2
 | (z,k) :: r,n,acc,h,hb,l,e1,e2=>by
  unfold cellsFrom at e1 e2
  split at e1
  ·rename_i hk
   rw [if_pos hk] at e2
   refine cf_inj r (n + 1) ((z,n) :: acc) (fun x y c l e1 e2=>?_) (fun x c e=>?_) l e1 e2
   ·rw [List.lookup_cons] at e1 e2
    split at e1 <;> split at e2
    ·rename_i a _ b; rw [eq_of_beq a,eq_of_beq b]
    ·cases e1; exact absurd (hb _ _ e2) (Nat.lt_irrefl _)
    ·cases e2; exact absurd (hb _ _ e1) (Nat.lt_irrefl _)
    ·exact h _ _ _ l e1 e2
   ·rw [List.lookup_cons] at e
    split at e
    ·cases e; exact Nat.lt_succ_self _
    ·exact Nat.lt_succ_of_lt (hb _ _ e)
  ·rename_i hk
   rw [if_neg hk] at e2
   exact cf_inj r n acc h hb l e1 e2
theorem wpAny_newCompEnv {M:Model} {A:Around} {E:Value->Shared->Prop} {s:Shared} {scope:Scope} {globals:Addr} {cl:List (Str × Addr)} {qual:Str} {env:Env} {Q:Env->Shared->Prop}
  (h:Q { scope,locals:=s.heap.objs.size,globals,cells:=cellsFrom (s.heap.objs.size + 1) scope.names cl,qual,func:=none,code:=env.code,frame:=env.frame,builtins:=env.builtins } { s with heap:=pushCells (s.heap.push { cls:=.type "dict",data:=.dict #[] }) scope.names }) :
  wpAny M A (newFunctionEnv scope globals cl [] qual none .none (some env)) Q E s:=by
 simp only [newFunctionEnv,Option.isSome_some,if_true]
 refine wpAny_bind (wpAny_alloc ?_)
 refine wpAny_bind (wpAny_layCells _ (fun name kind cells=>by cases hkc:kind == NameKind.cell <;> simp [hkc]) _ _ _ _ ?_)
 rw [show ({ s with heap:=s.heap.push { cls:=.type "dict",data:=.dict #[] } }:Shared).heap.objs.size=s.heap.objs.size + 1 from Heap.size_push ..]
 exact wpAny_bind (wpAny_pure (wpAny_pure h))
noncomputable abbrev compCx (X:Cx) (scope:Scope) (N':List Str) (C:Addr) (fp:List Addr) (s₂:Shared) (H₂:Hp) (pl:List (Addr × Obj)):Cx where
 prog:=X.prog
 w:=X.w
 K:=X.K
 mg:=X.mg
 base:=X.base
 A:=X.A
 N:=N'
 s₀:=s₂
 H₀:=H₂
 env:=compEnvC scope (cellsFrom (C + 1) scope.names (closL X.env scope.names [])) C X.env
 outer:=X.stack
 stack:=X.stack
 ex:=fp
 fn:=fun y=>scope.names.lookup y == some .cell
 calm:=X.calm
 pn:=X.pn ++ pl
 xe:=fun _ _=>False
structure CompScope (X:Cx) (scope:Scope) (own capN:List Str) (caps:List Nat):Prop where
 kind:scope.kind=.function
 one:∀ y ∈ scope.names,scope.names.lookup y.1=some y.2
 free:∀ y ∈ scope.names,y.2=.free->X.env.kindOf y.1=some .cell\/X.env.kindOf y.1=some .free
 loc:∀ y ∈ scope.names,y.2=.local->scope.names.lookup y.1=some .local
 caps:caps.map (fun j=>X.N[j]?)=capN.map some
 capf:∀ x ∈ capN,scope.names.lookup x=some .free
noncomputable def liftC (own:List Str) (caps:List Nat) (σ:St):St:=own.map (fun _=>none) ++ caps.map (fun j=>(σ[j]?).getD none)
section
variable {X:Cx} {scope:Scope} {own capN:List Str} {caps:List Nat}
theorem CompScope.cells (S:CompScope X scope own capN caps) (ok:X.Ok):∀ y ∈ scope.names,y.2=.free->(X.env.cells.lookup y.1).isSome=true:=fun y hy hf=>by
 obtain ⟨c,hc⟩:=ok.has y.1 (S.free y hy hf)
 rw [hc]; rfl
theorem CompScope.cl (S:CompScope X scope own capN caps) (ok:X.Ok) {x:Str} {c:Addr} (h:(closL X.env scope.names []).lookup x=some c):X.env.cells.lookup x=some c:=
 closL_keep (S.cells ok) (fun _ e=>by simp at e) h
theorem inv_comp {pins:List (Addr × Obj)} {σ:St} {H₂:Hp} {s₂:Shared} {h₁:Heap} {C:Addr} {fp:List Addr} {tk:Nat} {m:Str->Option Value} (S:CompScope X scope own capN caps) (I:Inv X pins σ H₂ s₂)
  (hf:∀ b ∈ fp,FpOk X pins H₂ b) (hfo:∀ b ∈ fp,b < s₂.heap.objs.size) (hC:s₂.heap.objs.size<=C) (hk:∀ b o,s₂.heap.get? b=some o->h₁.get? b=some o) (hn:h₁.Ns C m) (hnew:∀ x c,(cellsFrom (C + 1) scope.names (closL X.env scope.names [])).lookup x=some c->(closL X.env scope.names []).lookup x=some c\/(C + 1<=c/\h₁.IsCell c none)) :
  Inv (compCx X scope (own ++ capN) C fp s₂ H₂ pins) [] (liftC own caps σ) H₂ { s₂ with heap:=h₁,toks:=tk }:=by
 have cl:=fun {x:Str} {c:Addr}=>S.cl (x:=x) (c:=c) I.ok
 have lt:∀ {x:Str} {c:Addr},X.env.cells.lookup x=some c->c < s₂.heap.objs.size:=fun e=>by obtain ⟨v,q⟩:=I.cell _ _ e; exact q.lt
 have far:∀ {x:Str} {c:Addr},X.env.cells.lookup x=some c->C + 1<=c->False:=fun e z=>absurd (Nat.lt_of_lt_of_le (lt e) (Nat.le_trans hC (Nat.le_of_succ_le z))) (Nat.lt_irrefl _)
 have dich:∀ {x:Str} {c:Addr},(cellsFrom (C + 1) scope.names (closL X.env scope.names [])).lookup x=some c->X.env.cells.lookup x=some c\/(C + 1<=c/\h₁.IsCell c none):=fun {x c} e=>(hnew x c e).imp (fun z=>cl z) fun z=>z
 have kindRel:∀ x,((relabel scope X.env).names.lookup x=some .cell\/(relabel scope X.env).names.lookup x=some .free)->scope.names.lookup x=some .free\/scope.names.lookup x=some .cell:=fun x hx=>by
  cases e:scope.names.lookup x with
  | none=>
   have z:(relabel scope X.env).names.lookup x=none:=relabel_none (env:=X.env) e
   rw [z] at hx
   rcases hx with q | q <;> cases q
  | some k=>
   rcases relabel_of (env:=X.env) e with z | ⟨z,_⟩
   ·have z':(relabel scope X.env).names.lookup x=some k:=z
    rw [z'] at hx
    rcases hx with q | q
    ·cases q; exact .inr rfl
    ·cases q; exact .inl rfl
   ·rw [z]; exact .inl rfl
 have stk:∀ b,b ≠ X.env.locals->b ∉ X.fs->b ∉ frs X.stack:=fun b h1 h2 z=>(List.mem_cons.mp (I.stkSub b z)).elim h1 h2
 refine ⟨⟨I.ok.mod,S.kind,I.ok.glob,I.ok.blt,hC,fun x y c h1 h2=>?inj,fun x hx=>?_,fun x c h e=>?cab,I.ok.hd,I.ok.frames,.inl rfl,fun b hb=>⟨?_,fun x c h=>?exf⟩,
   I.bs,Nat.le_trans I.ok.bsz I.sz,fun b o e hb=>?_,fun b hb=>stk b (hf b hb).2.1 (hf b hb).2.2.1,I.stack,I.stkFree⟩,
  rfl,I.bare,Un.kept hk,⟨m,hn,fun i x v h1 h2 h3=>?_⟩,fun x c h=>?_,I.hok.fresh hC,fun x c h=>?frc,fun p hp=>?_,I.hok.kept hk,?_⟩
 case inj=>
  rcases dich h1 with z1 | ⟨z1,_⟩ <;> rcases dich h2 with z2 | ⟨z2,_⟩
  ·exact I.ok.inj x y c z1 z2
  ·exact (far z1 z2).elim
  ·exact (far z2 z1).elim
  ·exact cf_inj (lo:=C + 1) scope.names (C + 1) (closL X.env scope.names []) (fun x y c l e _=>(far (cl e) l).elim) (fun x c e=>Nat.lt_succ_of_le (Nat.le_trans (Nat.le_of_lt (lt (cl e))) hC)) z1 h1 h2
 case cab=>
  have e1:=eq_of_beq (show (scope.names.lookup x == some NameKind.cell)=true from h)
  have:=cf_ge scope.names (C + 1) (closL X.env scope.names []) (PySem.mem_of_lookup e1) e
  exact Nat.le_trans hC (Nat.le_of_succ_le this)
 case exf=>
  rcases dich h with z | ⟨z,_⟩
  ·exact (hf b hb).2.2.2.2.1 x c z
  ·exact Ne.symm (Nat.ne_of_lt (Nat.lt_of_lt_of_le (hfo b hb) (Nat.le_trans hC (Nat.le_of_succ_le z))))
 case frc=>
  rcases dich h with z | ⟨z,_⟩
  ·exact I.freeC x c z
  ·exact I.hok.fresh (Nat.le_trans hC (Nat.le_of_succ_le z))
 ·refine Option.isSome_iff_exists.mp (cf_has scope.names (C + 1) (closL X.env scope.names []) ?_)
  rcases kindRel x hx with q | q
  ·exact .inr (closL_has (env:=X.env) (.inl (PySem.mem_of_lookup q)))
  ·exact .inl (PySem.mem_of_lookup q)
 ·exact Nat.ne_of_lt (Nat.lt_of_lt_of_le (hfo b hb) hC)
 ·rcases (hf b hb).2.2.2.1 with z | z
  ·exact I.ok.noex b o e z
  ·exact absurd (Nat.lt_of_lt_of_le (Heap.lt_size (I.ok.bs b o e).1) z) (Nat.lt_irrefl _)
 ·
  have hi:own.length<=i:=by
   refine Nat.le_of_not_lt fun hlt=>?_
   unfold liftC at h2
   rw [List.getElem?_append_left (by simpa using hlt),List.getElem?_map] at h2
   cases q:own[i]? with
   | none=>rw [q] at h2; cases h2
   | some y=>rw [q] at h2; cases h2
  have h1':capN[i - own.length]? = some x:=by
   have:(own ++ capN)[i]? = some x:=h1
   rwa [List.getElem?_append_right hi] at this
  have h2':(caps.map (fun j=>(σ[j]?).getD none))[i - own.length]? = some (some v):=by
   unfold liftC at h2
   rwa [List.getElem?_append_right (by simpa using hi),List.length_map] at h2
  rw [List.getElem?_map] at h2'
  obtain ⟨j,hj,hj2⟩:=Option.map_eq_some_iff.mp h2'
  have hX:X.N[j]? = some x:=by
   have q:=congrArg (fun l=>l[i - own.length]?) S.caps
   simp only [List.getElem?_map,hj,h1',Option.map_some] at q
   exact Option.some.inj q
  have hσ:σ[j]? = some (some v):=by
   cases q:σ[j]? with
   | none=>rw [q] at hj2; cases hj2
   | some z=>rw [q] at hj2; simp at hj2; rw [hj2]
  have hfr:=S.capf x (List.mem_of_getElem? h1')
  have hmem:(x,NameKind.free) ∈ scope.names:=PySem.mem_of_lookup hfr
  have hkX:=S.free _ hmem rfl
  obtain ⟨m',hm',hl⟩:=I.loc
  obtain ⟨u,ru,l⟩:=hl j x v hX hσ (hkX.elim (fun q=>.inr (.inl q)) fun q=>.inr (.inr q))
  refine ⟨u,ru,.inr ⟨?_,?_⟩⟩
  ·rcases relabel_of (env:=X.env) hfr with z | ⟨_,z⟩
   ·exact .inr z
   ·exact .inl z
  ·rcases l with ⟨l,_⟩ | ⟨_,c,hc,hcell⟩
   ·have l':X.env.kindOf x=some .local:=l
    rcases hkX with q | q <;> (rw [l'] at q; cases q)
   ·obtain ⟨c',hc'⟩:=Option.isSome_iff_exists.mp (closL_has (env:=X.env) (acc:=[]) (.inl hmem))
    have:=cl hc'
    rw [hc] at this
    cases this
    obtain ⟨o,ho,hd⟩:=hcell
    have nc:(x,NameKind.cell) ∉ scope.names:=fun z=>by
     have:=S.one _ z
     rw [hfr] at this
     cases this
    exact ⟨c,(cf_keep scope.names (C + 1) (closL X.env scope.names []) nc).trans hc',o,hk c o ho,hd⟩
 ·rcases dich h with z | ⟨_,z⟩
  ·obtain ⟨v,o,ho,hd⟩:=I.cell x c z
   exact ⟨v,o,hk c o ho,hd⟩
  ·exact ⟨_,z⟩
 ·have hp':p ∈ X.pn ++ pins:=by simpa using hp
  obtain ⟨e,n,ne,nf,d⟩:=I.pin p hp'
  exact ⟨hk _ _ e,n,Nat.ne_of_lt (Nat.lt_of_lt_of_le (Heap.lt_size e) hC),stk p.1 ne nf,d⟩
 ·unfold liftC
  have hl:=congrArg List.length S.caps
  simp only [List.length_map] at hl
  show (own.map (fun _=>(none:Option V)) ++ caps.map (fun j=>(σ[j]?).getD none)).length=(own ++ capN).length
  rw [List.length_append,List.length_append,List.length_map,List.length_map,hl]
end
noncomputable def PTs (X:Cx) (ifs:List Expr) (t:TT):Prop:=
 ∀ (pins:List (Addr × Obj)) (s:Shared) (σ:St) (H:Hp) (Q:Bool->Hp->Prop),Inv X pins σ H s->t σ H Q->
  wpAny (model X.prog X.w) X.A (forIn ifs true fun c r=>if r=true then do let ok <-isTrue c X.env (eval c X.env); pure (ForInStep.yield ok) else pure (ForInStep.yield r)) (TP X pins σ Q) X.xe s
noncomputable def tYes:TT:=fun _ H Q=>Q true H
theorem pts_nil {X:Cx}:PTs X [] tYes:=fun _ _ _ H _ I h=>wpAny_tests_nil ⟨H,I,h⟩
theorem pts_one {X:Cx} {c:Expr} {t:TT} (h:PT X c t):PTs X [c] t:=fun pins s σ H Q I q=>wpAny_tests_one (h pins s σ H Q I q)
noncomputable def tComp (own:List Str) (caps:List Nat) (wi:TI) (g:TG) (tc:TT) (te:TE):TE:=fun σ H Q=>wi σ H fun J H1=>∃ W:Nat->Nat->List V->St->Hp->Prop,(∃ m,W 0 m [] (liftC own caps σ) H1)/\∀ i m ys σ' H,W i m ys σ' H->
 (J.stop i H/\ys.length<=sizeLine/\∀ p,H p=none->Q (.ref p) (upd H p (.lst ys)))\/
 (J.go i H/\∀ x H',J.yld i H x H'->g x σ' H' fun σ2 H2=>tc σ2 H2 fun b H3=>if b=true then te σ2 H3 fun y H4=>ys.length < sizeLine/\∃ m',m' < m/\W (i + 1) m' (ys ++ [y]) σ2 H4 else ∃ m',m' < m/\W (i + 1) m' ys σ2 H3)
section
variable {X:Cx} {scope:Scope} {own capN:List Str} {caps:List Nat} {tg iter elt:Expr} {ifs:List Expr} {wi:TI} {g:TG} {tc:TT} {te:TE} {pos:Pos}
theorem comp_core {pins:List (Addr × Obj)} {σ:St} {H:Hp} {s:Shared} {Q:VK} {RR:Value->Addr->Result->Shared->Prop} (S:CompScope X scope own capN caps) (hc:X.calm=true) (hi:PI X tg iter wi)
  (hin:∀ C fp s₂ H₂ pl,PG (compCx X scope (own ++ capN) C fp s₂ H₂ pl) tg g/\PTs (compCx X scope (own ++ capN) C fp s₂ H₂ pl) ifs tc/\PE (compCx X scope (own ++ capN) C fp s₂ H₂ pl) elt te)
  (I:Inv X pins σ H s) (h:tComp own caps wi g tc te σ H Q)
  (hRR:∀ (D C:Addr) (s':Shared) (H':Hp) (m:Str->Option Value),Inv X pins σ H' s'->FpOk X pins H' C->s'.heap.Ns C m->Q (.ref D) H'->RR (.ref D) C (.ok .next) s') :
  wpAny (model X.prog X.w) X.A (eval iter X.env) (fun x s₁=>wpAny (model X.prog X.w) X.A (pyIter x) (fun it s₂=>wpAny (model X.prog X.w) X.A (newList []) (fun acc s₃=>
   wpAny (model X.prog X.w) X.A (newFunctionEnv scope X.env.globals (closL X.env scope.names []) [] X.env.qual none .none (some X.env)) (fun cenv s₄=>
    codeAny (model X.prog X.w) X.A (.compStart (.ListComp elt [⟨tg,iter,ifs,0⟩] scope pos) 0 it acc { cenv with scope:=relabel scope X.env }) (RR acc cenv.locals) s₄) X.xe s₃) X.xe s₂) X.xe s₁) X.xe s:=by
 refine thn (hi pins s σ H _ I h) fun v s1 h1=>thn h1 fun itv s2 h2=>?_
 obtain ⟨it,fp,tn,J,H2,e,I2,T,st2,f2,W,⟨m0,w0⟩,turn⟩:=h2
 subst e
 have hfo:∀ b ∈ fp,b < s2.heap.objs.size:=fun b hb=>by obtain ⟨o,e,_⟩:=T.obj _ _ st2 b hb; exact Heap.lt_size e
 refine wpAny_newObj_type (wpAny_newCompEnv ?_)
 dsimp only
 generalize hH2:s2.heap.push { cls:=.type "list",dict:=none,data:=.seq ([]:List Value).toArray } = HH
 have hC:HH.objs.size=s2.heap.objs.size + 1:=by rw [<-hH2,Heap.size_push]
 have hCle:s2.heap.objs.size<=HH.objs.size:=by rw [hC]; exact Nat.le_succ _
 have hDC:s2.heap.objs.size ≠ HH.objs.size:=by rw [hC]; exact Nat.ne_of_lt (Nat.lt_succ_self _)
 have below:∀ b,b < s2.heap.objs.size->b ≠ HH.objs.size:=fun b hb=>by rw [hC]; exact Nat.ne_of_lt (Nat.lt_succ_of_lt hb)
 have szp:(HH.push { cls:=.type "dict",data:=.dict #[] }).objs.size=HH.objs.size + 1:=Heap.size_push ..
 have hnew:∀ x c,(cellsFrom (HH.objs.size + 1) scope.names (closL X.env scope.names [])).lookup x=some c->(closL X.env scope.names []).lookup x=some c\/(HH.objs.size + 1<=c/\(pushCells (HH.push { cls:=.type "dict",data:=.dict #[] }) scope.names).IsCell c none):=fun x c e=>by
  rw [<-szp] at e ⊢
  exact (cf_new scope.names _ _ e).imp (fun z=>z) fun ⟨z1,_,z2⟩=>⟨z1,z2⟩
 have hns₁:(pushCells (HH.push { cls:=.type "dict",data:=.dict #[] }) scope.names).Ns HH.objs.size (fun _=>none):=(Heap.Ns.new HH (.type "dict")).keeps (pushCells_keeps _ _)
 have old:∀ b o,s2.heap.get? b=some o->(pushCells (HH.push { cls:=.type "dict",data:=.dict #[] }) scope.names).get? b=some o:=fun b o e=>pushCells_keeps _ _ b o (Heap.get?_push_of_some _ (hH2 ▸ Heap.get?_push_of_some _ e))
 have hacc:(pushCells (HH.push { cls:=.type "dict",data:=.dict #[] }) scope.names).get? s2.heap.objs.size=some { cls:=.type "list",dict:=none,data:=.seq ([]:List Value).toArray }:=pushCells_keeps _ _ _ _ (Heap.get?_push_of_some _ (hH2 ▸ Heap.get?_push_size _ rfl))
 generalize pushCells (HH.push { cls:=.type "dict",data:=.dict #[] }) scope.names=h₁ at hnew hns₁ old hacc ⊢
 generalize hCe:HH.objs.size=C at hns₁ hDC hCle below hnew ⊢
 generalize hDe:s2.heap.objs.size=D at hacc hDC ⊢
 clear hH2 hC hCe szp HH
 obtain ⟨hg,ht,he⟩:=hin C fp s2 H2 pins
 have Ic:Inv (compCx X scope (own ++ capN) C fp s2 H2 pins) [] (liftC own caps σ) H2 { s2 with heap:=h₁,toks:=s2.toks }:=inv_comp S I2 f2 hfo (by rw [hDe]; rw [hDe] at hCle; exact hCle) old hns₁ hnew
 have cellsD:∀ x c,(cellsFrom (C + 1) scope.names (closL X.env scope.names [])).lookup x=some c->c ≠ D:=fun x c e z=>by
  rcases hnew x c e with e | ⟨e,_⟩
  ·obtain ⟨v,q⟩:=I2.cell x c (S.cl I2.ok e)
   exact absurd q.lt (by rw [z,hDe]; exact Nat.lt_irrefl _)
  ·rw [hDe] at hCle; exact absurd (Nat.lt_of_le_of_lt hCle (Nat.lt_of_lt_of_le (Nat.lt_succ_self C) e)) (by rw [z]; exact Nat.lt_irrefl _)
 have DnotFs:D ∉ frs X.stack:=fun z=>by
  rcases List.mem_cons.mp (I2.stkSub D z) with q | q
  ·exact absurd I2.lt (by rw [<-q,hDe]; exact Nat.lt_irrefl _)
  ·exact I2.nofs (by rw [hDe]; exact Nat.le_refl _) q
 have DnotPin:∀ p ∈ X.pn ++ pins,p.1 ≠ D:=fun p hp z=>absurd (Heap.lt_size (I2.pin p hp).1) (by rw [z,hDe]; exact Nat.lt_irrefl _)
 have pinD:∀ {σ':St} {H':Hp} {s':Shared} {us:List Value} {k:Nat},Inv (compCx X scope (own ++ capN) C fp s2 H2 pins) [] σ' H' s'->s'.heap.get? D=some { cls:=.type "list",data:=.seq us.toArray k }->H' D=none->
   Inv (compCx X scope (own ++ capN) C fp s2 H2 pins) [(D,{ cls:=.type "list",data:=.seq us.toArray k })] σ' H' s':=fun J e n=>J.pins_of fun p hp=>by
  obtain rfl:=List.mem_singleton.mp hp
  exact ⟨e,n,hDC,DnotFs,fun v z=>by cases z⟩
 have fpc:∀ {H':Hp} {o:Obj},(∀ b ∈ fp,H' b=none)->∀ b ∈ fp,FpOk (compCx X scope (own ++ capN) C fp s2 H2 pins) [(D,o)] H' b:=fun hn b hb=>by
  obtain ⟨f0,f1,f2',f3,f4,f5⟩:=f2 b hb
  refine ⟨hn b hb,Nat.ne_of_lt (Nat.lt_of_lt_of_le (hfo b hb) (by rw [hDe]; rw [hDe] at hCle; exact hCle)),fun z=>(List.mem_cons.mp (I2.stkSub b z)).elim f1 f2',.inl hb,fun x c e=>?cl,fun p hp=>?_⟩
  case cl=>
   rcases hnew x c e with e | ⟨e,_⟩
   ·exact f4 x c (S.cl I2.ok e)
   ·exact Ne.symm (Nat.ne_of_lt (Nat.lt_of_lt_of_le (hfo b hb) (Nat.le_trans (by rw [hDe]; rw [hDe] at hCle; exact hCle) (Nat.le_of_succ_le e))))
  rcases List.mem_append.mp hp with hp | hp
  ·exact f5 p hp
  ·obtain rfl:=List.mem_singleton.mp hp
   intro z
   have z':D=b:=z
   exact absurd (hfo b hb) (by rw [<-z',hDe]; exact Nat.lt_irrefl _)
 have loop:codeAny (model X.prog X.w) X.A (.compLoop (.ListComp elt [⟨tg,iter,ifs,0⟩] scope pos) 0 (.ref it) (.ref D) (compEnvC scope (cellsFrom (C + 1) scope.names (closL X.env scope.names [])) C X.env)) (RR (.ref D) C) { s2 with heap:=h₁,toks:=s2.toks }:=by
  refine compLoop_any (fun n s'=>∃ i ys us k σ' H',Inv (compCx X scope (own ++ capN) C fp s2 H2 pins) [(D,{ cls:=.type "list",data:=.seq us.toArray k })] σ' H' s'/\tn i s'.heap/\(∀ b ∈ fp,H' b=none)/\Vals ys us/\W i n ys σ' H') ?_ m0
   ⟨0,[],[],0,_,H2,pinD Ic hacc (I2.hok.fresh (by rw [hDe]; exact Nat.le_refl _)),T.keep _ _ _ st2 fun b _ o e=>old b o e,fun b hb=>(f2 b hb).1,.nil,w0⟩
  rintro n s3 ⟨i,ys,us,k,σ3,H3,I3,st3,fr3,r3,w3⟩
  rcases turn i n ys σ3 H3 w3 with ⟨stop,hz,qn⟩ | ⟨go,step⟩
  ·refine thn (T.done (compCx X scope (own ++ capN) C fp s2 H2 pins) rfl rfl rfl hc i _ s3 σ3 H3 _ I3 (fpc fr3) st3 stop) fun r s4 ⟨hr,I4⟩=>?_
   subst hr
   obtain ⟨eD,nD,_⟩:=I4.pin (D,_) (List.mem_append_right _ (List.mem_singleton.mpr rfl))
   have nD':H3 D=none:=nD
   have I5:Inv X pins σ (upd H3 D (.lst ys)) s4:=by
    refine I2.call' (ch:=fp) I4.os ⟨I4.base.keep,I4.base.slot,fun b o e n hx=>?_,I4.base.there,fun b xs e=>?_,fun b o u e=>?_,fun b ps e=>?_⟩ (fun b u e=>?_) I4.bare fun b hb=>⟨(f2 b hb).2.2.2.1,(f2 b hb).2.1,(f2 b hb).2.2.2.2.1,(f2 b hb).2.2.2.2.2⟩
    ·rw [upd_ne (by intro z; exact absurd (Heap.lt_size e) (by rw [z,hDe]; exact Nat.lt_irrefl _))]
     exact I4.base.free b o e n hx
    ·have q:=I4.base.tups b xs e
     rw [upd_ne (ne_of_none q nD')]; exact q
    ·have q:=I4.base.frzs b o u e
     rw [upd_ne (ne_of_none q nD')]; exact q
    ·obtain ⟨more,q⟩:=I4.base.tbls b ps e
     exact ⟨more,by rw [upd_ne (ne_of_none q nD')]; exact q⟩
    ·by_cases hb:b=D
     ·subst hb
      rw [upd_same] at e; cases e
      exact ⟨hz,us,k,r3,eD⟩
     ·rw [upd_ne hb] at e
      exact (I4.hok b u e).stay (fun _ _ _ q=>q) (fun c q=>by rw [upd_ne (ne_of_none q nD')]; exact q) fun c xs q=>by rw [upd_ne (ne_of_none q nD')]; exact q
   obtain ⟨m,hm,_⟩:=I4.loc
   exact hRR D C s4 _ m I5 (I2.fpOk (by rw [hDe]; rw [hDe] at hCle; exact hCle) (by rw [upd_ne (Ne.symm hDC)]; exact I4.free)) hm (qn D nD')
  ·refine thn (T.item (compCx X scope (own ++ capN) C fp s2 H2 pins) rfl rfl rfl hc i _ s3 σ3 H3 _ I3 (fpc fr3) st3 go) fun r s4 ⟨u,hr,h4⟩=>?_
   subst hr
   refine thn h4 fun _ s5 ⟨x,H5,I5,r5,y5,st5,fr5⟩=>?_
   have I5':=I5.pinned (fpc fr5) (T.obj _ _ st5)
   refine thn (hg _ s5 σ3 H5 x u _ I5' r5 (step x H5 y5)) fun _ s6 ⟨σ6,H6,I6,q6⟩=>?_
   refine thn (ht _ s6 σ6 H6 _ I6 q6) fun ok s7 ⟨H7,I7,q7⟩=>?_
   have back:∀ {σ8:St} {H8:Hp} {s8:Shared},Inv (compCx X scope (own ++ capN) C fp s2 H2 pins) ([(D,{ cls:=.type "list",data:=.seq us.toArray k })] ++ pinsAt fp s5.heap) σ8 H8 s8->tn (i + 1) s8.heap/\(∀ b ∈ fp,H8 b=none):=fun {σ8 H8 s8} I8=>by
    refine ⟨T.keep _ _ _ st5 fun b hb o e=>(I8.pin (b,o) (List.mem_append_right _ (List.mem_append_right _ (mem_pinsAt hb e)))).1,fun b hb=>?_⟩
    obtain ⟨o,e,d⟩:=T.obj _ _ st5 b hb
    exact (I8.pin (b,o) (List.mem_append_right _ (List.mem_append_right _ (mem_pinsAt hb e)))).2.1
   cases ok with
   | false=>
    obtain ⟨m',hm,w7⟩:=q7
    obtain ⟨t7,n7⟩:=back I7
    exact ⟨m',hm,i + 1,ys,us,k,σ6,H7,I7.unpinned,t7,n7,r3,w7⟩
   | true=>
    refine thn (he _ s7 σ6 H7 _ I7 q7) fun u8 s8 ⟨y,H8,I8,r8,hz,m',hm,w8⟩=>?_
    obtain ⟨t8,n8⟩:=back I8
    have I9:=I8.unpinned
    obtain ⟨eD,nD,neD,nfD,_⟩:=I9.pin (D,_) (List.mem_append_right _ (List.mem_singleton.mpr rfl))
    have hl:=r3.length
    refine call_meets F.slot_list_append ⟨_,eD,rfl⟩ F.entry_list_append (F.args_list_append_2 _ _) (PySem.list_append D us.toArray k u8 (by rw [List.size_toArray]; omega)) ⟨eD,?_⟩
    have q:=PySem.IsL.update eD (fun a=>a.push u8)
    have e2:us.toArray.push u8=(us ++ [u8]).toArray:=by simp
    rw [e2] at q
    have keep:∀ b o,b ≠ D->s8.heap.get? b=some o->(s8.heap.update D (Obj.mapSeq fun a=>a.push u8)).get? b=some o:=fun b o hb e=>(Heap.get?_update_other s8.heap _ (Ne.symm hb)).trans e
    have I10:Inv (compCx X scope (own ++ capN) C fp s2 H2 pins) [] σ6 H8 { s8 with heap:=s8.heap.update D (Obj.mapSeq fun a=>a.push u8) }:=by
     refine (I9.pins_of (pins':=[]) fun p hp=>absurd hp (by simp)).turned (t':=s8.toks) (it:=D) keep nD neD (.inr (by rw [hDe]; exact Nat.le_refl _)) cellsD fun p hp=>?_
     exact DnotPin p (by simpa using hp)
    exact ⟨m',hm,i + 1,ys ++ [y],us ++ [u8],_,σ6,H8,pinD I10 q nD,T.keep _ _ _ t8 fun b hb o e=>keep b o (by intro z; exact absurd (hfo b hb) (by rw [z,hDe]; exact Nat.lt_irrefl _)) e,n8,r3.append (.cons r8 .nil),w8⟩
 exact codeAny_compStart_list loop (wpAny_noRaise (T.self _ 0 _ _ _ (T.keep _ _ _ st2 fun b _ o e=>old b o e) loop))
theorem pe_comp (S:CompScope X scope own capN caps) (hc:X.calm=true) (hi:PI X tg iter wi)
  (hin:∀ C fp s₂ H₂ pl,PG (compCx X scope (own ++ capN) C fp s₂ H₂ pl) tg g/\PTs (compCx X scope (own ++ capN) C fp s₂ H₂ pl) ifs tc/\PE (compCx X scope (own ++ capN) C fp s₂ H₂ pl) elt te)
  (hs:∀ x,foldedSetIterable iter X.env x=pure x:=by intro _; rfl):PE X (.ListComp elt [⟨tg,iter,ifs,0⟩] scope pos) (tComp own caps wi g tc te):=by
 intro pins s σ H Q I h
 rw [eval_ListComp]
 refine wpAny_comprehension_free (use:=none) rfl hs (closureFor_cells (S.cells I.ok)) S.kind S.loc ?_
 refine comp_core S hc hi hin I h fun D C s' H' m I' f hm q=>⟨m,hm,fun h' hs'=>?_⟩
 exact ⟨.ref D,H',I'.turned (t':=s'.toks) (it:=C) (fun b o hb e=>(hs'.2 b hb).trans e) f.1 f.2.1 f.2.2.2.1 f.2.2.2.2.1 f.2.2.2.2.2,rfl,q⟩
theorem ps_setComp {i:Nat} {y:Str} {py spos:Pos} (hN:X.N.Nodup) (hi':X.N[i]? = some y) (hx:Loc X.env.scope y) (S:CompScope X scope own capN caps) (hc:X.calm=true) (hi:PI X tg iter wi)
  (hin:∀ C fp s₂ H₂ pl,PG (compCx X scope (own ++ capN) C fp s₂ H₂ pl) tg g/\PTs (compCx X scope (own ++ capN) C fp s₂ H₂ pl) ifs tc/\PE (compCx X scope (own ++ capN) C fp s₂ H₂ pl) elt te)
  (hsw:swapsWith (.ListComp elt [⟨tg,iter,ifs,0⟩] scope pos) (some (.Name y py)) spos.line X.env=pure true:=by rfl)
  (hs:∀ x,foldedSetIterable iter X.env x=pure x:=by intro _; rfl) (hf:X.fn y=true\/X.env.scope.names.lookup y=some .local:=by first | exact .inl rfl | exact .inr rfl | assumption) :
  PS X (.Assign [.Name y py] (.ListComp elt [⟨tg,iter,ifs,0⟩] scope pos) spos) (tAsg (tComp own caps wi g tc te) (gName i)):=by
 intro pins s σ H D I h
 rw [exec_Assign_Name_used _ _ _ _ hsw]
 refine wpAny_bind (wpAny_standAt (wpAny_bind ?_))
 show wpAny _ X.A (do let _ <-comprehension (.ListComp elt [⟨tg,iter,ifs,0⟩] scope pos) scope X.env _ (newList []) false (eval iter X.env) (some (assign (.Name y py) X.env))) _ _ s
 refine wpAny_bind (wpAny_mono (wpAny_comprehension_free (use:=some (assign (.Name y py) X.env)) (Q:=fun _ s'=>SP X pins D .next s') rfl hs (closureFor_cells (S.cells I.ok)) S.kind S.loc ?_) (fun _ s' hq=>wpAny_pure (wpAny_pure hq)) fun _ _ e=>e)
 refine comp_core S hc hi hin I h fun Da C s' H' m I' f hm q=>?_
 show wpAny _ X.A (assign (.Name y py) X.env (.ref Da)) _ _ _
 refine wpAny_assign_Name (store_ok2 I' hN hi' hx (v:=.ref Da) rfl (fun s2 I2 ⟨a,sb,ha⟩=>⟨m,?_,fun h' hs'=>?_⟩) hf)
 ·refine hm.sameBut sb ?_
  rcases ha with z | z
  ·rw [z]; exact f.2.1
  ·exact Ne.symm (f.2.2.2.2.1 y a z)
 ·exact ⟨_,H',I2.turned (t':=s2.toks) (it:=C) (fun b o hb e=>(hs'.2 b hb).trans e) f.1 f.2.1 f.2.2.2.1 f.2.2.2.2.1 f.2.2.2.2.2,q⟩
end
end L2
namespace L2
open PySem
namespace F3
end F3
end L2
namespace L2
open PySem PySem.Spec PyProof.Rows
noncomputable def keyless:List PyData->Bool
 | []=>true
 | .tuple _ :: _=>true
 | _ :: ds=>!ds.isEmpty && keyless ds
noncomputable def RdT (H:Hp) (a:Addr) (xs:List V) (ds:List PyData):Prop:=H a=some (.tup xs)\/(∃ o,H a=some (.frz o (.tup xs)))/\keyless ds=true
theorem RdT.mono {H H':Hp} {a:Addr} {xs:List V} {ds:List PyData} (s:Same H H') (h:RdT H a xs ds):RdT H' a xs ds:=h.imp (fun e=>s _ _ e) fun ⟨⟨o,e⟩,k⟩=>⟨⟨o,s _ _ e⟩,k⟩
theorem RdT.rd {H:Hp} {a:Addr} {xs:List V} {ds:List PyData} (h:RdT H a xs ds):Rd H a (.tup xs):=h.imp id fun z=>z.1
mutual
inductive DV (H:Hp):V->PyData->Prop where
 | non:DV H .non .none
 | bl (b:Bool):DV H (.bl b) (.bool b)
 | int (i:Int):DV H (.int i) (.int i)
 | str (x:Str):DV H (.str x) (.str x)
 | lst {a:Addr} {xs:List V} {ds:List PyData}:H a=some (.lst xs)->DVs H xs ds->DV H (.ref a) (.list ds)
 | tup {a:Addr} {xs:List V} {ds:List PyData}:RdT H a xs ds->DVs H xs ds->DV H (.ref a) (.tuple ds)
inductive DVs (H:Hp):List V->List PyData->Prop where
 | nil:DVs H [] []
 | cons {x:V} {xs:List V} {d:PyData} {ds:List PyData}:DV H x d->DVs H xs ds->DVs H (x :: xs) (d :: ds)
end
section
variable {H H':Hp}
mutual
theorem DV.mono (s:Same H H'):∀ {v:V} {d:PyData},DV H v d->DV H' v d
 | _,_,.non=>.non
 | _,_,.bl b=>.bl b
 | _,_,.int i=>.int i
 | _,_,.str x=>.str x
 | _,_,.lst h r=>.lst (s _ _ h) (DVs.mono s r)
 | _,_,.tup h r=>.tup (h.mono s) (DVs.mono s r)
theorem DVs.mono (s:Same H H'):∀ {vs:List V} {ds:List PyData},DVs H vs ds->DVs H' vs ds
 | _,_,.nil=>.nil
 | _,_,.cons h r=>.cons (DV.mono s h) (DVs.mono s r)
end
theorem DVs.length:∀ {vs:List V} {ds:List PyData},DVs H vs ds->vs.length=ds.length
 | _,_,.nil=>rfl
 | _,_,.cons _ r=>congrArg (· + 1) r.length
theorem DVs.append:∀ {vs ws:List V} {ds es:List PyData},DVs H vs ds->DVs H ws es->DVs H (vs ++ ws) (ds ++ es)
 | _,_,_,_,.nil,s=>s
 | _,_,_,_,.cons h r,s=>.cons h (r.append s)
theorem DVs.get:∀ {vs:List V} {ds:List PyData} {i:Nat} {d:PyData},DVs H vs ds->ds[i]? = some d->∃ v,vs[i]? = some v/\DV H v d
 | _,_,_,_,.nil,e=>by simp at e
 | _,_,0,_,.cons h _,e=>by simp at e; subst e; exact ⟨_,rfl,h⟩
 | _,_,i + 1,d,.cons _ r,e=>by
  obtain ⟨v,h1,h2⟩:=r.get (i:=i) (d:=d) (by simpa using e)
  exact ⟨v,by simpa using h1,h2⟩
theorem DVs.drop:∀ {vs:List V} {ds:List PyData} (n:Nat),DVs H vs ds->DVs H (vs.drop n) (ds.drop n)
 | _,_,0,r=>r
 | _,_,_ + 1,.nil=>.nil
 | _,_,n + 1,.cons _ r=>r.drop n
theorem same_upd {a:Addr} {o:HO} (h:H a=none):Same H (upd H a o):=fun b u e=>by rw [upd_ne (ne_of_none e h)]; exact e
theorem DV.tup_inv {v:V} {ds:List PyData} (h:DV H v (.tuple ds)):∃ a xs,v=.ref a/\Rd H a (.tup xs)/\DVs H xs ds:=by
 cases h with | tup h r=>exact ⟨_,_,rfl,h.rd,r⟩
theorem DV.tup_invK {v:V} {ds:List PyData} (h:DV H v (.tuple ds)) (hk:keyless ds=false):∃ a xs,v=.ref a/\H a=some (.tup xs)/\DVs H xs ds:=by
 cases h with | tup h r=>exact ⟨_,_,rfl,h.elim id (fun z=>by rw [hk] at z; cases z.2),r⟩
theorem DV.lst_inv {v:V} {ds:List PyData} (h:DV H v (.list ds)):∃ a xs,v=.ref a/\H a=some (.lst xs)/\DVs H xs ds:=by
 cases h with | lst h r=>exact ⟨_,_,rfl,h,r⟩
theorem DV.int_inv {v:V} {i:Int} (h:DV H v (.int i)):v=.int i:=by cases h; rfl
theorem DV.str_inv {v:V} {x:Str} (h:DV H v (.str x)):v=.str x:=by cases h; rfl
theorem DV.bl_inv {v:V} {b:Bool} (h:DV H v (.bool b)):v=.bl b:=by cases h; rfl
theorem DV.non_inv {v:V} (h:DV H v .none):v=.non:=by cases h; rfl
end
section
variable {X:Cx} {pins:List (Addr × Obj)} {σ:St} {H:Hp} {s:Shared}
mutual
theorem Inv.reads (I:Inv X pins σ H s):∀ {v:V} {d:PyData} {u:Value},DV H v d->RelV v u->∃ as,Reads s.heap u d as
 | _,_,_,.non,r=>by cases r; exact ⟨_,.none⟩
 | _,_,_,.bl b,r=>by cases r; exact ⟨_,.bool b⟩
 | _,_,_,.int i,r=>by obtain ⟨t,rfl⟩:=r; exact ⟨_,.int i t⟩
 | _,_,_,.str x,r=>by obtain ⟨t,rfl⟩:=r; exact ⟨_,.str x t⟩
 | _,_,_,.lst h q,r=>by
  cases r
  obtain ⟨_,its,n,rv,e⟩:=I.hok _ _ h
  obtain ⟨as,z⟩:=I.readsAll q rv
  exact ⟨_,reads_list_at e rfl rfl (by simpa using z)⟩
 | _,_,_,.tup h q,r=>by
  cases r
  obtain ⟨_,its,rv,o,e,c,n,d⟩:=h.rd.ok I.hok
  obtain ⟨as,z⟩:=I.readsAll q rv
  exact ⟨_,reads_tuple_at e c d (by simpa using z)⟩
theorem Inv.readsAll (I:Inv X pins σ H s):∀ {vs:List V} {ds:List PyData} {us:List Value},DVs H vs ds->Vals vs us->∃ as,ReadsAll s.heap us ds as
 | _,_,_,.nil,.nil=>⟨_,.nil⟩
 | _,_,_,.cons h q,.cons r rr=>by
  obtain ⟨as,z⟩:=I.reads h r
  obtain ⟨bs,z'⟩:=I.readsAll q rr
  exact ⟨_,.cons z z'⟩
end
end
section
variable {X:Cx}
noncomputable def rEqD (neg:Bool):R2:=fun x y H Q=>∃ d e,DV H x d/\DV H y e/\SeqAt.shaped d=true/\SeqAt.shaped e=true/\Q (.bl (PyData.eqv d e != neg)) H
theorem op_eqD (hu:X.A.units + 64 < cLine):OpR X (compareOp .Eq) (rEqD false):=by
 intro pins s σ H x y v u Q I rx ry h
 obtain ⟨d,e,h1,h2,h3,h4,q⟩:=h
 obtain ⟨as,z1⟩:=I.reads h1 rx
 obtain ⟨bs,z2⟩:=I.reads h2 ry
 exact eq_dataH z1 z2 h3 h4 hu ⟨_,H,I,by show Value.bool (PyData.eqv d e)=Value.bool (PyData.eqv d e != false); rw [Bool.bne_false],q⟩
theorem op_neD (hu:X.A.units + 64 < cLine):OpR X (compareOp .NotEq) (rEqD true):=by
 intro pins s σ H x y v u Q I rx ry h
 obtain ⟨d,e,h1,h2,h3,h4,q⟩:=h
 obtain ⟨as,z1⟩:=I.reads h1 rx
 obtain ⟨bs,z2⟩:=I.reads h2 ry
 exact ne_dataH z1 z2 h3 h4 hu ⟨_,H,I,by show Value.bool (!PyData.eqv d e)=Value.bool (PyData.eqv d e != true); rw [Bool.bne_true],q⟩
@[simp] noncomputable def tyOfD:PyData->String
 | .none=>"NoneType"
 | .bool _=>"bool"
 | .int _=>"int"
 | .str _=>"str"
 | .list _=>"list"
 | .tuple _=>"tuple"
 | .dict _=>"dict"
noncomputable def rIsI:List V->Hp->VK->Prop:=fun xs H Q=>∃ x d n b,xs=[x,.ty n]/\DV H x d/\(∀ K:PySem.W.Frag,PySem.W.kitOne K (.type (tyOfD d)) (.type n)=some b)/\Q (.bl b) H
theorem call_isinst:CallR X (.builtin "isinstance") rIsI:=by
 intro pins s σ H xs us Q I r h
 obtain ⟨x,d,n,b,rfl,hd,e,q⟩:=h
 obtain ⟨u,w,rfl,r1,r2⟩:=vals2 r
 cases r2
 have fin:∀ tk,EP X pins σ Q (.bool b) { s with toks:=tk }:=fun tk=>⟨.bl b,H,I.tok tk,rfl,q⟩
 cases hd with
 | non=>exact isinst_ok I r1 .non (e _) fin
 | bl c=>exact isinst_ok I r1 (.bl c) (e _) fin
 | int i=>exact isinst_ok I r1 (.int i) (e _) fin
 | str z=>exact isinst_ok I r1 (.str z) (e _) fin
 | lst h r=>exact isinst_ok I r1 (.lst h) (e _) fin
 | @tup a xs ds h r=>
  cases (show u=Value.ref a from r1)
  obtain ⟨_,_,_,p⟩:=h.rd.ok I.hok
  obtain ⟨o,h1,h2,_⟩:=p
  exact PySem.W.kia_one PySem.W.kitx_tuple I.kIn ⟨o,h1,h2⟩ (e _) (fun z=>nomatch z) fin
end
end L2
namespace L2.L3
open PySem PySem.Spec PyProof.Rows
noncomputable def hide (O:List Addr) (H:Hp):Hp:=fun b=>if b ∈ O then none else H b
section
variable {O O':List Addr} {H H' H1 H2:Hp}
theorem hide_of {b:Addr} {o:HO} (h:H b=some o) (n:b ∉ O):hide O H b=some o:=by unfold hide; rw [if_neg n]; exact h
theorem of_hide {b:Addr} {o:HO} (h:hide O H b=some o):H b=some o/\b ∉ O:=by
 unfold hide at h
 by_cases e:b ∈ O
 ·rw [if_pos e] at h; cases h
 ·rw [if_neg e] at h; exact ⟨h,e⟩
theorem of_hideR {a:Addr} {u:HO} (h:Rd (hide O H) a u):Rd H a u/\a ∉ O:=by
 rcases h with h | ⟨o,h⟩
 ·obtain ⟨e,n⟩:=of_hide h; exact ⟨.inl e,n⟩
 ·obtain ⟨e,n⟩:=of_hide h; exact ⟨.inr ⟨o,e⟩,n⟩
theorem hide_le:Same (hide O H) H:=fun b o h=>(of_hide h).1
structure Stp (O:List Addr) (H:Hp) (O':List Addr) (H':Hp):Prop where
 keep:∀ b o,b ∉ O->H b=some o->H' b=some o
 new:∀ a ∈ O',a ∈ O\/H a=none
theorem Stp.refl:Stp O H O H:=⟨fun _ _ _ h=>h,fun _ h=>.inl h⟩
theorem Stp.trans {O1 O2 O3:List Addr} {H3:Hp} (a:Stp O1 H1 O2 H2) (b:Stp O2 H2 O3 H3):Stp O1 H1 O3 H3:=by
 have nw:∀ c o,c ∉ O1->H1 c=some o->c ∉ O2:=fun c o hc e z=>(a.new c z).elim hc fun n=>by rw [n] at e; cases e
 refine ⟨fun c o hc e=>b.keep c o (nw c o hc e) (a.keep c o hc e),fun c h=>?_⟩
 by_cases hc:c ∈ O1
 ·exact .inl hc
 ·refine .inr ?_
  cases e:H1 c with
  | none=>rfl
  | some o=>
   rcases b.new c h with z | z
   ·exact absurd z (nw c o hc e)
   ·rw [a.keep c o hc e] at z; cases z
theorem Stp.same (s:Same H H'):Stp O H O H':=⟨fun b o _ e=>s b o e,fun _ h=>.inl h⟩
theorem Stp.hid (s:Stp O H O' H'):Same (hide O H) (hide O' H'):=fun b o e=>by
 obtain ⟨e1,n⟩:=of_hide e
 refine hide_of (s.keep b o n e1) fun z=>?_
 rcases s.new b z with q | q
 ·exact n q
 ·rw [q] at e1; cases e1
theorem hide_same (s:Same H H'):Same (hide O H) (hide O H'):=(Stp.same s).hid
theorem hide_more (s:∀ a ∈ O',a ∈ O):Same (hide O H) (hide O' H):=fun b o e=>by
 obtain ⟨e1,n⟩:=of_hide e
 exact hide_of e1 fun z=>n (s b z)
end
inductive Fl where
 | d (x:PyData) | l (ds:List PyData) | m (tk:Bool) (kvs:List (PyData × PyData))
inductive Bx where
 | l (ds:List PyData) | m (tk:Bool) (kvs:List (PyData × PyData)) | o (C:Addr) (fs:List (Str × Fl)) | sd (fs:List (Str × Fl)) | ll (xs:List (List PyData)) | pr (C:Addr) (fs:List (Str × Fl)) (d:PyData)
inductive Cell where
 | dat (d:PyData)
 | own (io:Bool) (b:Bx)
 | scr (ns:List Int)
 | exc (c:Str)
 | vw (b:Bx)
noncomputable abbrev DEnv:=List (Option Cell)
structure Fx where
 H₀:Hp
 A₀:List Addr
 O₀:List Addr
 I₀:Nat->Addr
noncomputable def Scr (K:PySem.W.Frag) (H:Hp) (a:Addr) (ns:List Int):Prop:=ns.length<=63/\((∃ o,H a=some (.frz o (.lst (ns.map V.int))))\/
 ∃ (o:Obj) (its:Array Value) (n:Nat),K.lookup a=some o/\o.cls=.type "list"/\o.dict=none/\o.data=.seq its n/\its.size<=sizeLine/\Vals (ns.map V.int) its.toList)
theorem Scr.sq {K:PySem.W.Frag} {H:Hp} {a:Addr} {ns:List Int} (h:Scr K H a ns):SqL K H a (ns.map V.int):=h.2.elim (fun ⟨o,e⟩=>.inl (.inr ⟨o,e⟩)) .inr
theorem Scr.mono {K:PySem.W.Frag} {H H':Hp} {a:Addr} {ns:List Int} (h:Scr K H a ns) (k:∀ o u,H a=some (.frz o u)->H' a=some (.frz o u)):Scr K H' a ns:=⟨h.1,h.2.imp (fun ⟨o,e⟩=>⟨o,k _ _ e⟩) id⟩
noncomputable def ExcObj (K:PySem.W.Frag) (a:Addr) (c:Str) (h:Heap):Prop:=∃ C o,PySem.W.nsIn K mainGlobals c=some (some (.ref C))/\h.get? a=some o/\o.cls=.ref C
noncomputable def keyD:Key->PyData
 | .inl i=>.int i
 | .inr x=>.str x
noncomputable def tupD (ks:List Key):PyData:=.tuple (ks.map keyD)
noncomputable def DicAt (G H:Hp) (a:Addr):Bool->List (PyData × PyData)->Prop
 | false,kvs=>∃ ks:List (Key × V),H a=some (.dK ks)/\Paired (fun (p:Key × V) (q:PyData × PyData)=>keyD p.1=q.1/\DV G p.2 q.2) ks kvs
 | true,kvs=>∃ ks:List (List Key × V),H a=some (.dT ks)/\Paired (fun (p:List Key × V) (q:PyData × PyData)=>tupD p.1=q.1/\DV G p.2 q.2) ks kvs
noncomputable def FlAt (G H:Hp) (v:V):Fl->List Addr->Prop
 | .d x,fp=>fp=[]/\DV G v x
 | .l ds,fp=>∃ a xs,v=.ref a/\fp=[a]/\H a=some (.lst xs)/\DVs G xs ds
 | .m tk kvs,fp=>∃ a,v=.ref a/\fp=[a]/\DicAt G H a tk kvs
inductive FlsAt (G H:Hp):List (Str × V)->List (Str × Fl)->List (List Addr)->Prop where
 | nil:FlsAt G H [] [] []
 | cons {n:Str} {v:V} {f:Fl} {fp:List Addr} {gs:List (Str × V)} {fs:List (Str × Fl)} {fps:List (List Addr)}:FlAt G H v f fp->FlsAt G H gs fs fps->FlsAt G H ((n,v) :: gs) ((n,f) :: fs) (fp :: fps)
noncomputable def LlAt (G H:Hp) (b:Addr) (ds:List PyData):Prop:=∃ vs,H b=some (.lst vs)/\DVs G vs ds
noncomputable def BoxAt (G H:Hp) (a:Addr):Bx->List Addr->Prop
 | .l ds,fp=>fp=[a]/\∃ xs,H a=some (.lst xs)/\DVs G xs ds
 | .m tk kvs,fp=>fp=[a]/\DicAt G H a tk kvs
 | .o C fs,fp=>∃ dx gs fps,fp=a :: dx :: fps.flatten/\H a=some (.ins C dx gs)/\H dx=some (.own a)/\FlsAt G H gs fs fps
 | .sd fs,fp=>∃ gs fps,fp=a :: fps.flatten/\H a=some (.dK (gs.map fun p=>(Sum.inr p.1,p.2)))/\FlsAt G H gs fs fps
 | .ll xs,fp=>∃ bs:List Addr,fp=a :: bs/\H a=some (.lst (bs.map V.ref))/\Paired (LlAt G H) bs xs
 | .pr C fs d,fp=>∃ h v dx gs fps,G a=some (.tup [.ref h,v])/\fp=h :: dx :: fps.flatten/\H h=some (.ins C dx gs)/\H dx=some (.own h)/\FlsAt G H gs fs fps/\DV G v d
noncomputable def Mv:HO->Prop
 | .lst _=>True
 | .dK _=>True
 | .dT _=>True
 | .ins _ _ _=>True
 | .own _=>True
 | _=>False
noncomputable def CellAt (K:PySem.W.Frag) (H:Hp) (O:List Addr) (v:V):Cell->List Addr->Prop
 | .dat d,_=>DV (hide O H) v d
 | .own _ b,fp=>∃ a,v=.ref a/\BoxAt (hide O H) H a b fp
 | .scr ns,_=>∃ a,v=.ref a/\Scr K H a ns
 | .exc c,_=>∃ a φ,v=.ref a/\hide O H a=some (.ext φ)/\∀ h,φ h->ExcObj K a c h
 | .vw b,_=>∃ a fp,v=.ref a/\BoxAt (hide O H) (hide O H) a b fp
section
variable {G G' H H':Hp} {a:Addr} {v:V} {fp:List Addr}
theorem DicAt.keep {tk:Bool} {kvs:List (PyData × PyData)} (h:DicAt G H a tk kvs) (k:H' a=H a) (g:Same G G'):DicAt G' H' a tk kvs:=by
 cases tk with
 | false=>obtain ⟨ks,e,p⟩:=h; exact ⟨ks,k.trans e,Paired.mapP p fun _ _ z=>⟨z.1,DV.mono g z.2⟩⟩
 | true=>obtain ⟨ks,e,p⟩:=h; exact ⟨ks,k.trans e,Paired.mapP p fun _ _ z=>⟨z.1,DV.mono g z.2⟩⟩
theorem DicAt.live {tk:Bool} {kvs:List (PyData × PyData)} (h:DicAt G H a tk kvs):∃ o,H a=some o/\Mv o:=by
 cases tk with
 | false=>obtain ⟨ks,e,p⟩:=h; exact ⟨_,e,trivial⟩
 | true=>obtain ⟨ks,e,p⟩:=h; exact ⟨_,e,trivial⟩
theorem FlAt.keep {f:Fl} (h:FlAt G H v f fp) (k:∀ c ∈ fp,H' c=H c) (g:Same G G'):FlAt G' H' v f fp:=by
 cases f with
 | d x=>exact ⟨h.1,DV.mono g h.2⟩
 | l ds=>obtain ⟨a,xs,e1,e2,e3,e4⟩:=h; exact ⟨a,xs,e1,e2,(k a (by simp [e2])).trans e3,DVs.mono g e4⟩
 | m tk kvs=>obtain ⟨a,e1,e2,e3⟩:=h; exact ⟨a,e1,e2,e3.keep (k a (by simp [e2])) g⟩
theorem FlAt.live {f:Fl} (h:FlAt G H v f fp):∀ c ∈ fp,∃ o,H c=some o/\Mv o:=by
 cases f with
 | d x=>obtain ⟨rfl,_⟩:=h; intro c hc; cases hc
 | l ds=>obtain ⟨a,xs,e1,rfl,e3,e4⟩:=h; intro c hc; obtain rfl:=List.mem_singleton.mp hc; exact ⟨_,e3,trivial⟩
 | m tk kvs=>obtain ⟨a,e1,rfl,e3⟩:=h; intro c hc; obtain rfl:=List.mem_singleton.mp hc; exact e3.live
theorem FlsAt.keep {gs:List (Str × V)} {fs:List (Str × Fl)} {fps:List (List Addr)} (h:FlsAt G H gs fs fps) (k:∀ c ∈ fps.flatten,H' c=H c) (g:Same G G'):FlsAt G' H' gs fs fps:=by
 induction h with
 | nil=>exact .nil
 | cons a b ih=>exact .cons (a.keep (fun c hc=>k c (by simp [hc])) g) (ih fun c hc=>k c (by rw [List.flatten_cons]; exact List.mem_append_right _ hc))
theorem FlsAt.live {gs:List (Str × V)} {fs:List (Str × Fl)} {fps:List (List Addr)} (h:FlsAt G H gs fs fps):∀ c ∈ fps.flatten,∃ o,H c=some o/\Mv o:=by
 induction h with
 | nil=>intro c hc; cases hc
 | cons a b ih=>
  intro c hc
  rw [List.flatten_cons] at hc
  rcases List.mem_append.mp hc with hc | hc
  ·exact a.live c hc
  ·exact ih c hc
theorem Lls.keep {bs:List Addr} {xs:List (List PyData)} (h:Paired (LlAt G H) bs xs) (k:∀ c ∈ bs,H' c=H c) (g:Same G G'):Paired (LlAt G' H') bs xs:=by
 induction h with
 | nil=>exact .nil
 | cons a b ih=>obtain ⟨vs,e,d⟩:=a; exact .cons ⟨vs,(k _ List.mem_cons_self).trans e,DVs.mono g d⟩ (ih fun c hc=>k c (List.mem_cons_of_mem _ hc))
theorem Lls.live {bs:List Addr} {xs:List (List PyData)} (h:Paired (LlAt G H) bs xs):∀ c ∈ bs,∃ o,H c=some o/\Mv o:=by
 induction h with
 | nil=>intro c hc; cases hc
 | cons a b ih=>
  intro c hc
  obtain ⟨vs,e,d⟩:=a
  rcases List.mem_cons.mp hc with rfl | hc
  ·exact ⟨_,e,trivial⟩
  ·exact ih c hc
theorem BoxAt.keep {b:Bx} (h:BoxAt G H a b fp) (k:∀ c ∈ fp,H' c=H c) (g:Same G G'):BoxAt G' H' a b fp:=by
 cases b with
 | l ds=>obtain ⟨rfl,xs,e,d⟩:=h; exact ⟨rfl,xs,(k a (by simp)).trans e,DVs.mono g d⟩
 | m tk kvs=>obtain ⟨rfl,d⟩:=h; exact ⟨rfl,d.keep (k a (by simp)) g⟩
 | o C fs=>obtain ⟨dx,gs,fps,rfl,e1,e2,f⟩:=h; exact ⟨dx,gs,fps,rfl,(k a (by simp)).trans e1,(k dx (by simp)).trans e2,f.keep (fun c hc=>k c (by simp [hc])) g⟩
 | sd fs=>obtain ⟨gs,fps,rfl,e1,f⟩:=h; exact ⟨gs,fps,rfl,(k a (by simp)).trans e1,f.keep (fun c hc=>k c (by simp [hc])) g⟩
 | ll xs=>obtain ⟨bs,rfl,e1,f⟩:=h; exact ⟨bs,rfl,(k a (by simp)).trans e1,Lls.keep f (fun c hc=>k c (by simp [hc])) g⟩
 | pr C fs d=>obtain ⟨h0,v,dx,gs,fps,e0,rfl,e1,e2,f,dv⟩:=h; exact ⟨h0,v,dx,gs,fps,g _ _ e0,rfl,(k h0 (by simp)).trans e1,(k dx (by simp)).trans e2,f.keep (fun c hc=>k c (by simp [hc])) g,DV.mono g dv⟩
theorem BoxAt.live {b:Bx} (h:BoxAt G H a b fp):∀ c ∈ fp,∃ o,H c=some o/\Mv o:=by
 cases b with
 | l ds=>obtain ⟨rfl,xs,e,d⟩:=h; intro c hc; obtain rfl:=List.mem_singleton.mp hc; exact ⟨_,e,trivial⟩
 | m tk kvs=>obtain ⟨rfl,d⟩:=h; intro c hc; obtain rfl:=List.mem_singleton.mp hc; exact d.live
 | o C fs=>
  obtain ⟨dx,gs,fps,rfl,e1,e2,f⟩:=h
  intro c hc
  rcases List.mem_cons.mp hc with rfl | hc
  ·exact ⟨_,e1,trivial⟩
  ·rcases List.mem_cons.mp hc with rfl | hc
   ·exact ⟨_,e2,trivial⟩
   ·exact f.live c hc
 | sd fs=>
  obtain ⟨gs,fps,rfl,e1,f⟩:=h
  intro c hc
  rcases List.mem_cons.mp hc with rfl | hc
  ·exact ⟨_,e1,trivial⟩
  ·exact f.live c hc
 | ll xs=>
  obtain ⟨bs,rfl,e1,f⟩:=h
  intro c hc
  rcases List.mem_cons.mp hc with rfl | hc
  ·exact ⟨_,e1,trivial⟩
  ·exact Lls.live f c hc
 | pr C fs d=>
  obtain ⟨h0,v,dx,gs,fps,e0,rfl,e1,e2,f,dv⟩:=h
  intro c hc
  rcases List.mem_cons.mp hc with rfl | hc
  ·exact ⟨_,e1,trivial⟩
  ·rcases List.mem_cons.mp hc with rfl | hc
   ·exact ⟨_,e2,trivial⟩
   ·exact f.live c hc
end
theorem CellAt.keep {K:PySem.W.Frag} {H H':Hp} {O O':List Addr} {v:V} {c:Cell} {fp:List Addr} (h:CellAt K H O v c fp) (s:Stp O H O' H') (k:∀ b ∈ fp,H' b=H b) (z:∀ b o u,H b=some (.frz o u)->H' b=some (.frz o u)):CellAt K H' O' v c fp:=by
 cases c with
 | dat d=>exact DV.mono s.hid h
 | own io b=>obtain ⟨a,e,q⟩:=h; exact ⟨a,e,q.keep k s.hid⟩
 | scr ns=>obtain ⟨a,e1,q⟩:=h; exact ⟨a,e1,q.mono fun o u w=>z _ _ _ w⟩
 | exc c=>obtain ⟨a,φ,e1,e2,q⟩:=h; exact ⟨a,φ,e1,s.hid _ _ e2,q⟩
 | vw b=>obtain ⟨a,fp',e1,q⟩:=h; exact ⟨a,fp',e1,q.keep (fun c hc=>by obtain ⟨o,e2,_⟩:=q.live c hc; rw [e2]; exact s.hid _ _ e2) s.hid⟩
structure DStW (K:PySem.W.Frag) (F:Fx) (H:Hp) (σ:St) (ρ:DEnv) (W:List (List Addr)):Prop where
 at_:∀ (i:Nat) (c:Cell),ρ[i]? = some (some c)->∃ v fp,σ[i]? = some (some v)/\W[i]? = some fp/\CellAt K H (W.flatten ++ F.O₀) v c fp
 nd:(W.flatten ++ F.O₀).Nodup
 kept:∀ b o,b ∉ F.A₀->F.H₀ b=some o->H b=some o
 new:∀ a ∈ W.flatten,a ∈ F.A₀\/F.H₀ a=none
 live:∀ a ∈ W.flatten ++ F.O₀,∃ o,H a=some o/\Mv o
 len:ρ.length=σ.length
 lw:W.length=ρ.length
 io:∀ (i:Nat) (b:Bx),ρ[i]? = some (some (.own true b))->σ[i]? = some (some (.ref (F.I₀ i)))
noncomputable def DSt (K:PySem.W.Frag) (F:Fx) (H:Hp) (σ:St) (ρ:DEnv) (O:List Addr):Prop:=∃ W,DStW K F H σ ρ W/\O=W.flatten ++ F.O₀
theorem get_set {α:Type} {l:List α} {i j:Nat} {x y:α} (e:(l.set i x)[j]? = some y):(j=i/\y=x/\i < l.length)\/(j ≠ i/\l[j]? = some y):=by
 by_cases hj:j=i
 ·subst hj
  have hlt:j < l.length:=by
   have:=(List.getElem?_eq_some_iff.mp e).1
   rwa [List.length_set] at this
  rw [List.getElem?_set_self hlt] at e
  exact .inl ⟨rfl,(Option.some.inj e).symm,hlt⟩
 ·rw [List.getElem?_set_ne (Ne.symm hj)] at e
  exact .inr ⟨hj,e⟩
theorem mem_flat_set {α:Type} {W:List (List α)} {i:Nat} {fp:List α} {a:α} (h:a ∈ (W.set i fp).flatten):a ∈ fp\/∃ j l,j ≠ i/\W[j]? = some l/\a ∈ l:=by
 obtain ⟨l,hl,ha⟩:=List.mem_flatten.mp h
 obtain ⟨j,hj⟩:=List.getElem?_of_mem hl
 rcases get_set hj with ⟨_,rfl,_⟩ | ⟨hj',e⟩
 ·exact .inl ha
 ·exact .inr ⟨j,l,hj',e,ha⟩
theorem mem_flat_of {α:Type} {W:List (List α)} {j:Nat} {l:List α} {a:α} (h:W[j]? = some l) (ha:a ∈ l):a ∈ W.flatten:=List.mem_flatten.mpr ⟨l,List.mem_of_getElem? h,ha⟩
theorem flat_set_mem {α:Type} {W:List (List α)} {i j:Nat} {fp l:List α} {a:α} (hj:j ≠ i) (h:W[j]? = some l) (ha:a ∈ l):a ∈ (W.set i fp).flatten:=mem_flat_of (j:=j) (by rw [List.getElem?_set_ne (Ne.symm hj)]; exact h) ha
theorem flat_set_self {α:Type} {W:List (List α)} {i:Nat} {fp:List α} {a:α} (hi:i < W.length) (ha:a ∈ fp):a ∈ (W.set i fp).flatten:=mem_flat_of (j:=i) (List.getElem?_set_self hi) ha
theorem flat_disj {α:Type}:∀ {W:List (List α)} {i j:Nat} {l m:List α} {a:α},W.flatten.Nodup->W[i]? = some l->W[j]? = some m->i ≠ j->a ∈ l->a ∉ m
 | [],_,_,_,_,_,_,h,_,_,_=>by simp at h
 | w :: W,0,0,_,_,_,_,_,_,hn,_=>absurd rfl hn
 | w :: W,0,j + 1,l,m,a,nd,h1,h2,_,ha=>fun hm=>by
  have e:w=l:=by simpa using h1
  subst e
  rw [List.flatten_cons] at nd
  exact (List.nodup_append.mp nd).2.2 a ha a (mem_flat_of (j:=j) (by simpa using h2) hm) rfl
 | w :: W,i + 1,0,l,m,a,nd,h1,h2,_,ha=>fun hm=>by
  have e:w=m:=by simpa using h2
  subst e
  rw [List.flatten_cons] at nd
  exact (List.nodup_append.mp nd).2.2 a hm a (mem_flat_of (j:=i) (by simpa using h1) ha) rfl
 | w :: W,i + 1,j + 1,l,m,a,nd,h1,h2,hn,ha=>flat_disj (W:=W) (i:=i) (j:=j) (by rw [List.flatten_cons] at nd; exact (List.nodup_append.mp nd).2.1) (by simpa using h1) (by simpa using h2) (by omega) ha
theorem nodup_set {α:Type} [DecidableEq α]:∀ {W:List (List α)} {i:Nat} {fp O:List α},(W.flatten ++ O).Nodup->fp.Nodup->(∀ a ∈ fp,(∀ j l,j ≠ i->W[j]? = some l->a ∉ l)/\a ∉ O)->((W.set i fp).flatten ++ O).Nodup
 | [],i,fp,O,h,_,_=>by simpa using h
 | w :: W,0,fp,O,h,hf,hd=>by
  rw [List.set_cons_zero,List.flatten_cons,List.append_assoc]
  rw [List.flatten_cons,List.append_assoc] at h
  refine List.nodup_append.mpr ⟨hf,(List.nodup_append.mp h).2.1,fun a ha b hb e=>?_⟩
  subst e
  rcases List.mem_append.mp hb with hb | hb
  ·obtain ⟨l,hl,hal⟩:=List.mem_flatten.mp hb
   obtain ⟨j,hj⟩:=List.getElem?_of_mem hl
   exact (hd a ha).1 (j + 1) l (by omega) (by simpa using hj) hal
  ·exact (hd a ha).2 hb
 | w :: W,i + 1,fp,O,h,hf,hd=>by
  rw [List.set_cons_succ,List.flatten_cons,List.append_assoc]
  rw [List.flatten_cons,List.append_assoc] at h
  obtain ⟨h1,h2,h3⟩:=List.nodup_append.mp h
  have ih:=nodup_set (W:=W) (i:=i) (fp:=fp) (O:=O) h2 hf fun a ha=>⟨fun j l hj e=>(hd a ha).1 (j + 1) l (by omega) (by simpa using e),(hd a ha).2⟩
  refine List.nodup_append.mpr ⟨h1,ih,fun a ha b hb e=>?_⟩
  subst e
  rcases List.mem_append.mp hb with hb | hb
  ·rcases mem_flat_set hb with hb | ⟨j,l,hj,e,hl⟩
   ·exact (hd a hb).1 0 w (by omega) (by simp) ha
   ·exact h3 a ha a (List.mem_append_left _ (mem_flat_of e hl)) rfl
  ·exact h3 a ha a (List.mem_append_right _ hb) rfl
section
variable {K:PySem.W.Frag} {F:Fx} {H H':Hp} {σ:St} {ρ:DEnv} {O O':List Addr} {W:List (List Addr)}
theorem DStW.nofrz (st:DStW K F H σ ρ W) {b:Addr} (h:b ∈ W.flatten ++ F.O₀) {o:Obj} {u:HO}:H b ≠ some (.frz o u):=fun z=>by
 obtain ⟨o',e,m⟩:=st.live b h
 rw [z] at e; cases e; exact m
theorem DStW.put (st:DStW K F H σ ρ W) {i:Nat} {v:V} {c:Cell} {fp:List Addr} (hi:i < ρ.length)
  (keep:∀ j l b,j ≠ i->W[j]? = some l->b ∈ l->H' b=H b) (keepO:∀ b ∈ F.O₀,H' b=H b) (frz:∀ b o,b ∉ W.flatten ++ F.O₀->H b=some o->H' b=some o)
  (nd:fp.Nodup) (ap:∀ a ∈ fp,(∀ j l,j ≠ i->W[j]? = some l->a ∉ l)/\a ∉ F.O₀) (new:∀ a ∈ fp,a ∈ W.flatten\/H a=none) (liv:∀ a ∈ fp,∃ o,H' a=some o/\Mv o)
  (hc:Stp (W.flatten ++ F.O₀) H ((W.set i fp).flatten ++ F.O₀) H'->CellAt K H' ((W.set i fp).flatten ++ F.O₀) v c fp) (hio:∀ b,c=.own true b->v=.ref (F.I₀ i)) :
  DStW K F H' (σ.set i (some v)) (ρ.set i (some c)) (W.set i fp)/\Stp (W.flatten ++ F.O₀) H ((W.set i fp).flatten ++ F.O₀) H':=by
 have stp:Stp (W.flatten ++ F.O₀) H ((W.set i fp).flatten ++ F.O₀) H':=⟨frz,fun a h=>by
  rcases List.mem_append.mp h with h | h
  ·rcases mem_flat_set h with h | ⟨j,l,_,e,hl⟩
   ·exact (new a h).imp (List.mem_append_left _) id
   ·exact .inl (List.mem_append_left _ (mem_flat_of e hl))
  ·exact .inl (List.mem_append_right _ h)⟩
 have zf:∀ b o u,H b=some (.frz o u)->H' b=some (.frz o u):=fun b o u e=>frz b _ (fun z=>st.nofrz z e) e
 have hiW:i < W.length:=by rw [st.lw]; exact hi
 refine ⟨⟨fun j d e=>?_,nodup_set st.nd nd ap,fun b o hA e=>?_,fun a h=>?_,fun a h=>?_,by rw [List.length_set,List.length_set,st.len],by rw [List.length_set,List.length_set,st.lw],fun j b e=>?_⟩,stp⟩
 ·rcases get_set e with ⟨rfl,e1,_⟩ | ⟨hj,e1⟩
  ·cases e1
   exact ⟨v,fp,List.getElem?_set_self (by rw [<-st.len]; exact hi),List.getElem?_set_self hiW,hc stp⟩
  ·obtain ⟨w,l,h1,h2,h3⟩:=st.at_ j d e1
   exact ⟨w,l,by rw [List.getElem?_set_ne (Ne.symm hj)]; exact h1,by rw [List.getElem?_set_ne (Ne.symm hj)]; exact h2,h3.keep stp (fun b hb=>keep j l b hj h2 hb) zf⟩
 ·have e1:=st.kept b o hA e
  by_cases hO:b ∈ F.O₀
  ·rw [keepO b hO]; exact e1
  ·refine frz b o (fun z=>?_) e1
   rcases List.mem_append.mp z with z | z
   ·rcases st.new b z with q | q
    ·exact hA q
    ·rw [q] at e; cases e
   ·exact hO z
 ·rcases mem_flat_set h with h | ⟨j,l,_,e,hl⟩
  ·rcases new a h with q | q
   ·exact st.new a q
   ·by_cases hA:a ∈ F.A₀
    ·exact .inl hA
    ·refine .inr ?_
     cases e:F.H₀ a with
     | none=>rfl
     | some o=>rw [st.kept a o hA e] at q; cases q
  ·exact st.new a (mem_flat_of e hl)
 ·rcases List.mem_append.mp h with h | h
  ·rcases mem_flat_set h with h | ⟨j,l,hj,e,hl⟩
   ·exact liv a h
   ·obtain ⟨o,h1,h2⟩:=st.live a (List.mem_append_left _ (mem_flat_of e hl))
    exact ⟨o,by rw [keep j l a hj e hl]; exact h1,h2⟩
  ·obtain ⟨o,h1,h2⟩:=st.live a (List.mem_append_right _ h)
   exact ⟨o,by rw [keepO a h]; exact h1,h2⟩
 ·rcases get_set e with ⟨rfl,e1,_⟩ | ⟨hj,e1⟩
  ·rw [List.getElem?_set_self (by rw [<-st.len]; exact hi),hio b (Option.some.inj e1).symm]
  ·rw [List.getElem?_set_ne (Ne.symm hj)]; exact st.io j b e1
theorem DStW.grow (st:DStW K F H σ ρ W) (s:Same H H'):DStW K F H' σ ρ W where
 at_:=fun i c e=>let ⟨v,fp,h1,h2,h3⟩:=st.at_ i c e; ⟨v,fp,h1,h2,h3.keep (.same s) (fun b hb=>by
  obtain ⟨o,e1,_⟩:=st.live b (List.mem_append_left _ (mem_flat_of h2 hb))
  rw [e1]; exact s _ _ e1) fun b o u e=>s _ _ e⟩
 nd:=st.nd
 kept:=fun b o n e=>s b o (st.kept b o n e)
 new:=st.new
 live:=fun a h=>let ⟨o,e,m⟩:=st.live a h; ⟨o,s _ _ e,m⟩
 len:=st.len
 lw:=st.lw
 io:=st.io
theorem DSt.grow (st:DSt K F H σ ρ O) (s:Same H H'):DSt K F H' σ ρ O:=let ⟨W,h,e⟩:=st; ⟨W,h.grow s,e⟩
theorem DSt.nofree (st:DSt K F H σ ρ O):∀ p,H p=none->p ∉ O:=fun p hp z=>by
 obtain ⟨W,h,rfl⟩:=st
 obtain ⟨o,e,_⟩:=h.live p z
 rw [hp] at e; cases e
theorem DSt.lenE (st:DSt K F H σ ρ O):ρ.length=σ.length:=let ⟨_,h,_⟩:=st; h.len
theorem DSt.dat (st:DSt K F H σ ρ O) {i:Nat} {d:PyData} (e:ρ[i]? = some (some (.dat d))):∃ v,σ[i]? = some (some v)/\DV (hide O H) v d:=by
 obtain ⟨W,h,rfl⟩:=st
 obtain ⟨v,fp,h1,h2,h3⟩:=h.at_ i _ e
 exact ⟨v,h1,h3⟩
theorem DSt.scr (st:DSt K F H σ ρ O) {i:Nat} {ns:List Int} (e:ρ[i]? = some (some (.scr ns))):∃ a,σ[i]? = some (some (.ref a))/\Scr K H a ns:=by
 obtain ⟨W,h,rfl⟩:=st
 obtain ⟨v,fp,h1,h2,a,rfl,h3⟩:=h.at_ i _ e
 exact ⟨a,h1,h3⟩
theorem DSt.set (st:DSt K F H σ ρ O) {i:Nat} {v:V} {d:PyData} (h:DV (hide O H) v d):DSt K F H (σ.set i (some v)) (ρ.set i (some (.dat d))) O:=by
 obtain ⟨W,st,rfl⟩:=st
 refine ⟨W,⟨fun j c e=>?_,st.nd,st.kept,st.new,st.live,by rw [List.length_set,List.length_set,st.len],by rw [List.length_set,st.lw],fun j b e=>?_⟩,rfl⟩
 rotate_left
 ·rcases get_set e with ⟨rfl,e1,_⟩ | ⟨hj,e1⟩
  ·cases e1
  ·rw [List.getElem?_set_ne (Ne.symm hj)]; exact st.io j b e1
 rcases get_set e with ⟨rfl,e1,hlt⟩ | ⟨hj,e1⟩
 ·cases e1
  obtain ⟨fp,hfp⟩:∃ fp,W[j]? = some fp:=⟨W[j]'(by rw [st.lw]; exact hlt),List.getElem?_eq_getElem _⟩
  exact ⟨v,fp,List.getElem?_set_self (by rw [<-st.len]; exact hlt),hfp,h⟩
 ·obtain ⟨w,l,h1,h2,h3⟩:=st.at_ j c e1
  exact ⟨w,l,by rw [List.getElem?_set_ne (Ne.symm hj)]; exact h1,h2,h3⟩
theorem DSt.box (st:DSt K F H σ ρ O) {i:Nat} {io:Bool} {b:Bx} (e:ρ[i]? = some (some (.own io b))):∃ a fp,σ[i]? = some (some (.ref a))/\BoxAt (hide O H) H a b fp/\(∀ c ∈ fp,c ∈ O)/\
  ∀ (H':Hp) (b':Bx) (fp':List Addr),(∀ c o,c ∉ fp->H c=some o->H' c=some o)->fp'.Nodup->(∀ c ∈ fp',c ∈ fp\/H c=none)->(∀ G,(∀ O',Stp O H O' H'->G=hide O' H'->(∀ c ∈ fp',c ∈ O')->Same (hide O H) G/\BoxAt G H' a b' fp'))->
   ∃ O',DSt K F H' σ (ρ.set i (some (.own io b'))) O'/\Stp O H O' H'/\(∀ c ∈ O',c ∈ fp'\/c ∈ O):=by
 obtain ⟨W,st,rfl⟩:=st
 obtain ⟨v,fp,h1,h2,a,rfl,h3⟩:=st.at_ i _ e
 have hi:i < ρ.length:=(List.getElem?_eq_some_iff.mp e).1
 have hiW:i < W.length:=by rw [st.lw]; exact hi
 refine ⟨a,fp,h1,h3,fun c hc=>List.mem_append_left _ (mem_flat_of h2 hc),fun H' b' fp' keep nd fr hb=>?_⟩
 have ndW:W.flatten.Nodup:=(List.nodup_append.mp st.nd).1
 have nO:∀ c ∈ fp,c ∉ F.O₀:=fun c hc z=>(List.nodup_append.mp st.nd).2.2 c (mem_flat_of h2 hc) c z rfl
 have kj:∀ j l c,j ≠ i->W[j]? = some l->c ∈ l->H' c=H c:=fun j l c hj ej hc=>by
  obtain ⟨o,eo,_⟩:=st.live c (List.mem_append_left _ (mem_flat_of ej hc))
  rw [eo]
  exact keep c o (fun z=>flat_disj ndW ej h2 hj hc z) eo
 have kO:∀ c ∈ F.O₀,H' c=H c:=fun c hc=>by
  obtain ⟨o,eo,_⟩:=st.live c (List.mem_append_right _ hc)
  rw [eo]
  exact keep c o (fun z=>nO c z hc) eo
 have ap:∀ c ∈ fp',(∀ j l,j ≠ i->W[j]? = some l->c ∉ l)/\c ∉ F.O₀:=fun c hc=>by
  rcases fr c hc with q | q
  ·exact ⟨fun j l hj ej z=>flat_disj ndW h2 ej (Ne.symm hj) q z,nO c q⟩
  ·refine ⟨fun j l _ ej z=>?_,fun z=>?_⟩
   ·obtain ⟨o,eo,_⟩:=st.live c (List.mem_append_left _ (mem_flat_of ej z)); rw [q] at eo; cases eo
   ·obtain ⟨o,eo,_⟩:=st.live c (List.mem_append_right _ z); rw [q] at eo; cases eo
 have frz:∀ c o,c ∉ W.flatten ++ F.O₀->H c=some o->H' c=some o:=fun c o hc ec=>keep c o (fun z=>hc (List.mem_append_left _ (mem_flat_of h2 z))) ec
 have stp:Stp (W.flatten ++ F.O₀) H ((W.set i fp').flatten ++ F.O₀) H':=⟨frz,fun c h=>by
  rcases List.mem_append.mp h with h | h
  ·rcases mem_flat_set h with h | ⟨j,l,_,ej,hl⟩
   ·exact (fr c h).imp (fun z=>List.mem_append_left _ (mem_flat_of h2 z)) id
   ·exact .inl (List.mem_append_left _ (mem_flat_of ej hl))
  ·exact .inl (List.mem_append_right _ h)⟩
 have inO':∀ c ∈ fp',c ∈ (W.set i fp').flatten ++ F.O₀:=fun c hc=>List.mem_append_left _ (flat_set_self hiW hc)
 have hbx:=(hb _ _ stp rfl inO').2
 obtain ⟨s1,s2⟩:=st.put (H':=H') (i:=i) (v:=.ref a) (c:=.own io b') (fp:=fp') hi kj kO frz nd ap (fun c hc=>(fr c hc).imp (fun z=>mem_flat_of h2 z) id) (fun c hc=>hbx.live c hc) (fun _=>⟨a,rfl,hbx⟩) (fun b2 z=>by cases z; have:=st.io i b e; rw [h1] at this; exact (Option.some.inj (Option.some.inj this)))
 have eσ:σ.set i (some (.ref a))=σ:=by
  apply List.ext_getElem?
  intro j
  by_cases hj:j=i
  ·subst hj; rw [List.getElem?_set_self (List.getElem?_eq_some_iff.mp h1).1,h1]
  ·rw [List.getElem?_set_ne (Ne.symm hj)]
 rw [eσ] at s1
 refine ⟨_,⟨_,s1,rfl⟩,s2,fun c hc=>?_⟩
 rcases List.mem_append.mp hc with hc | hc
 ·rcases mem_flat_set hc with hc | ⟨j,l,_,ej,hl⟩
  ·exact .inl hc
  ·exact .inr (List.mem_append_left _ (mem_flat_of ej hl))
 ·exact .inr (List.mem_append_right _ hc)
theorem DSt.freeze (st:DSt K F H σ ρ O) {i:Nat} {ds:List PyData} (e:ρ[i]? = some (some (.own false (.l ds)))) :
  ∃ v O',σ[i]? = some (some v)/\DSt K F H σ (ρ.set i (some (.dat (.list ds)))) O'/\Stp O H O' H/\DV (hide O' H) v (.list ds):=by
 obtain ⟨W,st,rfl⟩:=st
 obtain ⟨v,fp,h1,h2,a,rfl,rfl,xs,h3,h4⟩:=st.at_ i _ e
 have hi:i < ρ.length:=(List.getElem?_eq_some_iff.mp e).1
 have ndW:W.flatten.Nodup:=(List.nodup_append.mp st.nd).1
 have nin:a ∉ (W.set i []).flatten ++ F.O₀:=fun z=>by
  rcases List.mem_append.mp z with z | z
  ·rcases mem_flat_set z with z | ⟨j,l,hj,ej,hl⟩
   ·cases z
   ·exact flat_disj ndW h2 ej (Ne.symm hj) List.mem_cons_self hl
  ·exact (List.nodup_append.mp st.nd).2.2 a (mem_flat_of h2 List.mem_cons_self) a z rfl
 have dv:Stp (W.flatten ++ F.O₀) H ((W.set i []).flatten ++ F.O₀) H->DV (hide ((W.set i []).flatten ++ F.O₀) H) (.ref a) (.list ds):=fun s=>.lst (hide_of h3 nin) (DVs.mono s.hid h4)
 obtain ⟨s1,s2⟩:=st.put (H':=H) (i:=i) (v:=.ref a) (c:=.dat (.list ds)) (fp:=[]) hi (fun _ _ _ _ _ _=>rfl) (fun _ _=>rfl) (fun _ _ _ e=>e) List.nodup_nil (fun a h=>by cases h) (fun a h=>by cases h) (fun a h=>by cases h) (fun s=>dv s) (fun _ z=>by cases z)
 have eσ:σ.set i (some (.ref a))=σ:=by
  apply List.ext_getElem?
  intro j
  by_cases hj:j=i
  ·subst hj; rw [List.getElem?_set_self (List.getElem?_eq_some_iff.mp h1).1,h1]
  ·rw [List.getElem?_set_ne (Ne.symm hj)]
 rw [eσ] at s1
 exact ⟨_,_,h1,⟨_,s1,rfl⟩,s2,dv s2⟩
end
end L2.L3
namespace L2.L3
open PySem PySem.Spec PyProof.Rows
noncomputable abbrev DT:=DEnv->(PyData->DEnv->Prop)->Prop
noncomputable def Mn (t:DT):Prop:=∀ ρ Q Q',(∀ d ρ',Q d ρ'->Q' d ρ')->t ρ Q->t ρ Q'
noncomputable def rdE (K:PySem.W.Frag) (F:Fx) (t:DT):TE:=fun σ H Q=>∃ ρ O,DSt K F H σ ρ O/\t ρ fun d ρ'=>∀ v H' O',DSt K F H' σ ρ' O'->Stp O H O' H'->DV (hide O' H') v d->Q v H'
structure DE (X:Cx) (F:Fx) (e:Expr) (t:DT):Prop where
 mn:Mn t
 pe:PE X e (rdE X.K F t)
theorem _root_.L2.PE.imp {X:Cx} {e:Expr} {t t':TE} (h:PE X e t) (k:∀ σ H Q,t' σ H Q->t σ H Q):PE X e t':=fun pins s σ H Q I q=>h pins s σ H Q I (k σ H Q q)
theorem _root_.L2.PT.imp {X:Cx} {e:Expr} {t t':TT} (h:PT X e t) (k:∀ σ H Q,t' σ H Q->t σ H Q):PT X e t':=fun pins s σ H Q I q=>h pins s σ H Q I (k σ H Q q)
theorem _root_.L2.PS.imp {X:Cx} {e:Stmt} {t t':TS} (h:PS X e t) (k:∀ D σ H,t' D σ H->t D σ H):PS X e t':=fun pins s σ H D I q=>h pins s σ H D I (k D σ H q)
theorem _root_.L2.PSs.imp {X:Cx} {e:List Stmt} {t t':TS} (h:PSs X e t) (k:∀ D σ H,t' D σ H->t D σ H):PSs X e t':=fun pins s σ H D I q=>h pins s σ H D I (k D σ H q)
section
variable {X:Cx} {F:Fx} {a b e:Expr} {ta tb:DT} {pos:Pos}
noncomputable def dC (d:PyData):DT:=fun ρ Q=>Q d ρ
noncomputable def dV (i:Nat):DT:=fun ρ Q=>(∃ d,ρ[i]? = some (some (.dat d))/\Q d ρ)\/∃ ds,ρ[i]? = some (some (.own false (.l ds)))/\Q (.list ds) (ρ.set i (some (.dat (.list ds))))
theorem mn_C {d:PyData}:Mn (dC d):=fun _ _ _ h q=>h _ _ q
theorem de_const {d:PyData} {v:V} (h:PE X e (tC v)) (hd:∀ H,DV H v d):DE X F e (dC d):=
 ⟨mn_C,h.imp fun σ H Q ⟨ρ,O,st,q⟩=>q v H O st .refl (hd _)⟩
theorem de_int {i j}:DE X F (.Constant (.int i) j pos) (dC (.int i)):=de_const pe_int fun _=>.int i
theorem de_bl {i j}:DE X F (.Constant (.bool i) j pos) (dC (.bool i)):=de_const pe_bl fun _=>.bl i
theorem de_non {j}:DE X F (.Constant .none j pos) (dC .none):=de_const pe_non fun _=>.non
theorem de_str {x j}:DE X F (.Constant (.str x) j pos) (dC (.str x)):=de_const pe_str fun _=>.str x
theorem de_var (i:Nat) {x:Str} (h:PE X (.Name x pos) (tVar i)):DE X F (.Name x pos) (dV i):=
 ⟨fun _ _ _ k q=>q.imp (fun ⟨d,e,q⟩=>⟨d,e,k _ _ q⟩) fun ⟨d,e,q⟩=>⟨d,e,k _ _ q⟩,h.imp fun σ H Q ⟨ρ,O,st,q⟩=>by
  rcases q with ⟨d,e,q⟩ | ⟨ds,e,q⟩
  ·obtain ⟨v,h1,h2⟩:=st.dat e
   exact ⟨v,h1,q v H O st .refl h2⟩
  ·obtain ⟨v,O',h1,h2,h3,h4⟩:=st.freeze e
   exact ⟨v,h1,q v H O' h2 h3 h4⟩⟩
noncomputable abbrev D2:=PyData->PyData->(PyData->Prop)->Prop
noncomputable def dOp (f:D2) (ta tb:DT):DT:=fun ρ Q=>ta ρ fun x ρ1=>tb ρ1 fun y ρ2=>f x y fun d=>Q d ρ2
structure Op2 (r:R2) (f:D2):Prop where
 mn:∀ x y Q Q',(∀ d,Q d->Q' d)->f x y Q->f x y Q'
 ok:∀ (O:List Addr) (H:Hp) (u v:V) (x y:PyData) (Q:VK),(∀ p,H p=none->p ∉ O)->DV (hide O H) u x->DV (hide O H) v y->f x y (fun d=>∀ w H',Same H H'->DV (hide O H') w d->Q w H')->r u v H Q
theorem rd2 {r:R2} {f:D2} {ta tb:DT} (o:Op2 r f) (ha:Mn ta) (hb:Mn tb) {K:PySem.W.Frag}:∀ σ H Q,rdE K F (dOp f ta tb) σ H Q->tOp r (rdE K F ta) (rdE K F tb) σ H Q:=fun σ H Q ⟨ρ,O,st,q⟩=>by
 refine ⟨ρ,O,st,ha _ _ _ (fun x ρ1 q1 v1 H1 O1 st1 s1 d1=>?_) q⟩
 refine ⟨ρ1,O1,st1,hb _ _ _ (fun y ρ2 q2 v2 H2 O2 st2 s2 d2=>?_) q1⟩
 refine o.ok O2 H2 v1 v2 x y Q st2.nofree (DV.mono s2.hid d1) d2 (o.mn _ _ _ _ (fun d q3 w H3 s3 d3=>?_) q2)
 exact q3 w H3 O2 (st2.grow s3) (s1.trans (s2.trans (.same s3))) d3
theorem mn2 {r:R2} {f:D2} (o:Op2 r f) (ha:Mn ta) (hb:Mn tb):Mn (dOp f ta tb):=fun _ _ _ k q=>ha _ _ _ (fun _ _ q1=>hb _ _ _ (fun _ _ q2=>o.mn _ _ _ _ (fun _ q3=>k _ _ q3) q2) q1) q
theorem de_op {op:Operator} {r:R2} {f:D2} (ho:OpR X (binaryOp op) r) (o:Op2 r f) (ha:DE X F a ta) (hb:DE X F b tb):DE X F (.BinOp a op b pos) (dOp f ta tb):=
 ⟨mn2 o ha.mn hb.mn,(pe_op ho ha.pe hb.pe).imp (rd2 o ha.mn hb.mn)⟩
theorem de_cmp {op:CmpOp} {r:R2} {f:D2} (ho:OpR X (compareOp op) r) (o:Op2 r f) (ha:DE X F a ta) (hb:DE X F b tb) (hm:behindInMarks op b=false):DE X F (.Compare a [op] [b] pos) (dOp f ta tb):=
 ⟨mn2 o ha.mn hb.mn,(pe_cmpR ho ha.pe hb.pe hm).imp (rd2 o ha.mn hb.mn)⟩
theorem de_ix {r:R2} {f:D2} (hr:IxR X r) (o:Op2 r f) (ha:DE X F a ta) (hb:DE X F b tb) (hs:PlainIx b):DE X F (.Subscript a b pos) (dOp f ta tb):=
 ⟨mn2 o ha.mn hb.mn,(pe_ix hr ha.pe hb.pe hs).imp (rd2 o ha.mn hb.mn)⟩
noncomputable def fI (C:Int->Int->Prop) (g:Int->Int->PyData):D2:=fun x y Q=>∃ i j,x=.int i/\y=.int j/\C i j/\Q (g i j)
theorem o_int {C:Int->Int->Prop} {g:Int->Int->V} {g':Int->Int->PyData} (hg:∀ i j H,DV H (g i j) (g' i j)):Op2 (rI C g) (fI C g') where
 mn:=fun _ _ _ _ k ⟨i,j,e1,e2,c,q⟩=>⟨i,j,e1,e2,c,k _ q⟩
 ok:=fun O H u v x y Q hO h1 h2 ⟨i,j,e1,e2,c,q⟩=>by
  subst e1 e2
  exact ⟨i,j,h1.int_inv,h2.int_inv,c,q _ H (fun _ _ h=>h) (hg i j _)⟩
theorem o_int0 {g:Int->Int->V} {g':Int->Int->PyData} (hg:∀ i j H,DV H (g i j) (g' i j)):Op2 (rI0 g) (fI (fun _ _=>True) g') where
 mn:=fun _ _ _ _ k ⟨i,j,e1,e2,c,q⟩=>⟨i,j,e1,e2,c,k _ q⟩
 ok:=fun O H u v x y Q hO h1 h2 ⟨i,j,e1,e2,_,q⟩=>by
  subst e1 e2
  exact ⟨i,j,h1.int_inv,h2.int_inv,q _ H (fun _ _ h=>h) (hg i j _)⟩
noncomputable def fEq (neg:Bool):D2:=fun x y Q=>SeqAt.shaped x=true/\SeqAt.shaped y=true/\Q (.bool (PyData.eqv x y != neg))
theorem o_eq {neg:Bool}:Op2 (rEqD neg) (fEq neg) where
 mn:=fun _ _ _ _ k ⟨e1,e2,q⟩=>⟨e1,e2,k _ q⟩
 ok:=fun O H u v x y Q hO h1 h2 ⟨e1,e2,q⟩=>⟨x,y,DV.mono hide_le h1,DV.mono hide_le h2,e1,e2,q _ H (fun _ _ h=>h) (.bl _)⟩
@[simp] noncomputable def isNone:PyData->Bool
 | .none=>true
 | _=>false
noncomputable def fIsNot:D2:=fun x y Q=>y=.none/\Q (.bool (!isNone x))
theorem dv_non {H:Hp} {v:V} {d:PyData} (h:DV H v d):decide (v=.non)=isNone d:=by
 cases h <;> first | rfl | (exact decide_eq_false (fun z=>by cases z))
theorem o_isnot:Op2 (fun x y H Q=>y=.non/\Q (.bl (!decide (x=.non))) H) fIsNot where
 mn:=fun _ _ _ _ k ⟨e,q⟩=>⟨e,k _ q⟩
 ok:=fun O H u v x y Q hO h1 h2 ⟨e,q⟩=>by
  subst e
  exact ⟨h2.non_inv,by rw [dv_non h1]; exact q _ H (fun _ _ h=>h) (.bl _)⟩
noncomputable def fIxT:D2:=fun x y Q=>∃ ds i d,x=.tuple ds/\y=.int i/\atI ds i=some d/\Q d
noncomputable def fIxL:D2:=fun x y Q=>∃ ds i d,x=.list ds/\y=.int i/\atI ds i=some d/\Q d
theorem atI_dv {H:Hp} {vs:List V} {ds:List PyData} {i:Int} {d:PyData} (h:DVs H vs ds) (e:atI ds i=some d):∃ v,atI vs i=some v/\DV H v d:=by
 unfold atI at e ⊢
 rw [h.length]
 cases q:ixN ds.length i with
 | none=>rw [q] at e; cases e
 | some j=>
  rw [q] at e
  exact h.get e
theorem o_ixT {K:PySem.W.Frag}:Op2 (rIxT K) fIxT where
 mn:=fun _ _ _ _ k ⟨ds,i,d,e1,e2,e3,q⟩=>⟨ds,i,d,e1,e2,e3,k _ q⟩
 ok:=fun O H u v x y Q hO h1 h2 ⟨ds,i,d,e1,e2,e3,q⟩=>by
  subst e1 e2
  obtain ⟨a,xs,rfl,ha,hd⟩:=h1.tup_inv
  obtain ⟨w,ew,hw⟩:=atI_dv hd e3
  exact ⟨a,xs,i,w,rfl,h2.int_inv,.inl (of_hideR ha).1,ew,q w H (fun _ _ h=>h) hw⟩
theorem o_ixL {K:PySem.W.Frag}:Op2 (rIxL K) fIxL where
 mn:=fun _ _ _ _ k ⟨ds,i,d,e1,e2,e3,q⟩=>⟨ds,i,d,e1,e2,e3,k _ q⟩
 ok:=fun O H u v x y Q hO h1 h2 ⟨ds,i,d,e1,e2,e3,q⟩=>by
  subst e1 e2
  obtain ⟨a,xs,rfl,ha,hd⟩:=h1.lst_inv
  obtain ⟨w,ew,hw⟩:=atI_dv hd e3
  exact ⟨a,xs,i,w,rfl,h2.int_inv,.of (of_hide ha).1,ew,q w H (fun _ _ h=>h) hw⟩
theorem dv_new_lst {O:List Addr} {H:Hp} {p:Addr} {xs:List V} {ds:List PyData} (hp:H p=none) (hO:p ∉ O) (h:DVs (hide O H) xs ds):DV (hide O (upd H p (.lst xs))) (.ref p) (.list ds):=
 .lst (hide_of upd_same hO) (DVs.mono (hide_same (same_upd hp)) h)
theorem dv_new_tup {O:List Addr} {H:Hp} {p:Addr} {xs:List V} {ds:List PyData} (hp:H p=none) (hO:p ∉ O) (h:DVs (hide O H) xs ds):DV (hide O (upd H p (.tup xs))) (.ref p) (.tuple ds):=
 .tup (.inl (hide_of upd_same hO)) (DVs.mono (hide_same (same_upd hp)) h)
noncomputable def fCatL:D2:=fun x y Q=>∃ ds es,x=.list ds/\y=.list es/\ds.length + es.length<=sizeLine/\Q (.list (ds ++ es))
theorem o_catL:Op2 rCat fCatL where
 mn:=fun _ _ _ _ k ⟨ds,es,e1,e2,e3,q⟩=>⟨ds,es,e1,e2,e3,k _ q⟩
 ok:=fun O H u v x y Q hO h1 h2 ⟨ds,es,e1,e2,e3,q⟩=>by
  subst e1 e2
  obtain ⟨a,xs,rfl,ha,hd⟩:=h1.lst_inv
  obtain ⟨b,ys,rfl,hb,he⟩:=h2.lst_inv
  refine ⟨a,b,xs,ys,rfl,rfl,(of_hide ha).1,(of_hide hb).1,by rw [hd.length,he.length]; exact e3,fun p hp=>q _ _ (same_upd hp) (dv_new_lst hp (hO p hp) (hd.append he))⟩
noncomputable def fCatT:D2:=fun x y Q=>∃ ds es,x=.tuple ds/\y=.tuple es/\ds.length + es.length<=sizeLine/\Q (.tuple (ds ++ es))
end
theorem ofT {A B:Prop} (h:if true=true then A else B):A:=by rw [if_pos rfl] at h; exact h
theorem ofF {A B:Prop} (h:if false=true then A else B):B:=by rw [if_neg Bool.false_ne_true] at h; exact h
noncomputable abbrev DTA:=DEnv->(List PyData->DEnv->Prop)->Prop
noncomputable def MnA (t:DTA):Prop:=∀ ρ Q Q',(∀ d ρ',Q d ρ'->Q' d ρ')->t ρ Q->t ρ Q'
noncomputable def rdA (K:PySem.W.Frag) (F:Fx) (t:DTA):TA:=fun σ H Q=>∃ ρ O,DSt K F H σ ρ O/\t ρ fun ds ρ'=>∀ vs H' O',DSt K F H' σ ρ' O'->Stp O H O' H'->DVs (hide O' H') vs ds->Q vs H'
structure DA (X:Cx) (F:Fx) (es:List Expr) (t:DTA):Prop where
 mn:MnA t
 pa:PA X es (rdA X.K F t)
theorem _root_.L2.PA.imp {X:Cx} {e:List Expr} {t t':TA} (h:PA X e t) (k:∀ σ H Q,t' σ H Q->t σ H Q):PA X e t':=fun pos pins s σ H Q I q=>h pos pins s σ H Q I (k σ H Q q)
section
variable {X:Cx} {F:Fx} {a b e c:Expr} {es:List Expr} {ta tb tc:DT} {tA:DTA} {pos:Pos}
noncomputable def dNil:DTA:=fun ρ Q=>Q [] ρ
noncomputable def dCons (ta:DT) (tr:DTA):DTA:=fun ρ Q=>ta ρ fun d ρ1=>tr ρ1 fun ds ρ2=>Q (d :: ds) ρ2
theorem da_nil:DA X F [] dNil:=⟨fun _ _ _ k q=>k _ _ q,pa_nil.imp fun σ H Q ⟨ρ,O,st,q⟩=>q [] H O st .refl .nil⟩
theorem da_cons (ha:DE X F e ta) (hr:DA X F es tA) (hs:starEach (e :: es) X.env=(false,eval e X.env) :: starEach es X.env:=by rfl):DA X F (e :: es) (dCons ta tA):=
 ⟨fun _ _ _ k q=>ha.mn _ _ _ (fun _ _ q1=>hr.mn _ _ _ (fun _ _ q2=>k _ _ q2) q1) q,(pa_cons ha.pe hr.pa hs).imp fun σ H Q ⟨ρ,O,st,q⟩=>
  ⟨ρ,O,st,ha.mn _ _ _ (fun d ρ1 q1 v H1 O1 st1 s1 d1=>⟨ρ1,O1,st1,hr.mn _ _ _ (fun ds ρ2 q2 vs H2 O2 st2 s2 d2=>q2 (v :: vs) H2 O2 st2 (s1.trans s2) (.cons (DV.mono s2.hid d1) d2)) q1⟩) q⟩⟩
noncomputable def dTup (t:DTA):DT:=fun ρ Q=>t ρ fun ds ρ'=>ds.length<=sizeLine/\Q (.tuple ds) ρ'
noncomputable def dLst (t:DTA):DT:=fun ρ Q=>t ρ fun ds ρ'=>ds.length<=sizeLine/\Q (.list ds) ρ'
theorem de_tup {x1} (h:DA X F es tA):DE X F (.Tuple es x1 pos) (dTup tA):=
 ⟨fun _ _ _ k q=>h.mn _ _ _ (fun _ _ q1=>⟨q1.1,k _ _ q1.2⟩) q,(pe_tup h.pa).imp fun σ H Q ⟨ρ,O,st,q⟩=>
  ⟨ρ,O,st,h.mn _ _ _ (fun ds ρ1 q1 vs H1 O1 st1 s1 d1=>⟨by rw [d1.length]; exact q1.1,fun p hp=>q1.2 _ _ O1 (st1.grow (same_upd hp)) (s1.trans (.same (same_upd hp))) (dv_new_tup hp (st1.nofree p hp) d1)⟩) q⟩⟩
theorem de_lst (h:DA X F es tA):DE X F (.List es pos) (dLst tA):=
 ⟨fun _ _ _ k q=>h.mn _ _ _ (fun _ _ q1=>⟨q1.1,k _ _ q1.2⟩) q,(pe_lst h.pa).imp fun σ H Q ⟨ρ,O,st,q⟩=>
  ⟨ρ,O,st,h.mn _ _ _ (fun ds ρ1 q1 vs H1 O1 st1 s1 d1=>⟨by rw [d1.length]; exact q1.1,fun p hp=>q1.2 _ _ O1 (st1.grow (same_upd hp)) (s1.trans (.same (same_upd hp))) (dv_new_lst hp (st1.nofree p hp) d1)⟩) q⟩⟩
noncomputable def dNeg (ta:DT):DT:=fun ρ Q=>ta ρ fun d ρ'=>∃ i,d=.int i/\Q (.int (-i)) ρ'
theorem de_neg (ha:DE X F a ta):DE X F (.UnaryOp .USub a pos) (dNeg ta):=
 ⟨fun _ _ _ k q=>ha.mn _ _ _ (fun _ _ ⟨i,e,q⟩=>⟨i,e,k _ _ q⟩) q,(pe_un un_neg ha.pe).imp fun σ H Q ⟨ρ,O,st,q⟩=>
  ⟨ρ,O,st,ha.mn _ _ _ (fun d ρ1 ⟨i,e,q1⟩ v H1 O1 st1 s1 d1=>by subst e; exact ⟨i,d1.int_inv,q1 _ H1 O1 st1 s1 (.int _)⟩) q⟩⟩
noncomputable def dNot (ta:DT):DT:=fun ρ Q=>ta ρ fun d ρ'=>∃ b,d=.bool b/\Q (.bool (!b)) ρ'
theorem de_not (ha:DE X F a ta):DE X F (.UnaryOp .Not a pos) (dNot ta):=
 ⟨fun _ _ _ k q=>ha.mn _ _ _ (fun _ _ ⟨i,e,q⟩=>⟨i,e,k _ _ q⟩) q,(pe_not ha.pe).imp fun σ H Q ⟨ρ,O,st,q⟩=>
  ⟨ρ,O,st,ha.mn _ _ _ (fun d ρ1 ⟨i,e,q1⟩ v H1 O1 st1 s1 d1=>by subst e; exact ⟨i,d1.bl_inv,q1 _ H1 O1 st1 s1 (.bl _)⟩) q⟩⟩
noncomputable def dAnd (ta tb:DT):DT:=fun ρ Q=>ta ρ fun d ρ1=>∃ b,d=.bool b/\if b=true then tb ρ1 Q else Q (.bool false) ρ1
theorem de_one {op} (h:DE X F a ta):DE X F (.BoolOp op [a] pos) ta:=⟨h.mn,pe_one h.pe⟩
theorem de_and {rest:List Expr} (ha:DE X F a ta) (hb:DE X F (.BoolOp .And (b :: rest) pos) tb):DE X F (.BoolOp .And (a :: b :: rest) pos) (dAnd ta tb):=
 ⟨fun _ _ _ k q=>ha.mn _ _ _ (fun _ _ ⟨i,e,q⟩=>⟨i,e,by cases i <;> first | exact k _ _ q | exact hb.mn _ _ _ k q⟩) q,(pe_and ha.pe hb.pe).imp fun σ H Q ⟨ρ,O,st,q⟩=>
  ⟨ρ,O,st,ha.mn _ _ _ (fun d ρ1 ⟨i,e,q1⟩ v H1 O1 st1 s1 d1=>by
   subst e
   refine ⟨i,d1.bl_inv,?_⟩
   cases i with
   | true=>exact iteT ⟨ρ1,O1,st1,hb.mn _ _ _ (fun d ρ2 q2 w H2 O2 st2 s2 d2=>q2 w H2 O2 st2 (s1.trans s2) d2) (ofT q1)⟩
   | false=>exact iteF (ofF q1 _ H1 O1 st1 s1 (.bl _))) q⟩⟩
noncomputable def dChain (p p':Int->Int->Bool) (ta tb tc:DT):DT:=fun ρ Q=>ta ρ fun x ρ1=>tb ρ1 fun y ρ2=>∃ i j,x=.int i/\y=.int j/\if p i j=true then tc ρ2 (fun z ρ3=>∃ k,z=.int k/\Q (.bool (p' j k)) ρ3) else Q (.bool false) ρ2
theorem de_chain {op op':CmpOp} {p p':Int->Int->Bool} (ho:OpR X (compareOp op) (rI0 fun i j=>.bl (p i j))) (ho':OpR X (compareOp op') (rI0 fun i j=>.bl (p' i j))) (ha:DE X F a ta) (hb:DE X F b tb) (hc:DE X F c tc)
  (hm:lastMarks [op,op'] [b,c]=false:=by with_unfolding_all rfl):DE X F (.Compare a [op,op'] [b,c] pos) (dChain p p' ta tb tc):=
 ⟨fun _ _ _ k q=>ha.mn _ _ _ (fun _ _ q1=>hb.mn _ _ _ (fun _ _ ⟨i,j,e1,e2,q2⟩=>⟨i,j,e1,e2,by
   by_cases h:p i j=true
   ·rw [if_pos h] at q2 ⊢; exact hc.mn _ _ _ (fun _ _ ⟨l,e,q3⟩=>⟨l,e,k _ _ q3⟩) q2
   ·rw [if_neg h] at q2 ⊢; exact k _ _ q2⟩) q1) q,
  (pe_chain ho ho' ha.pe hb.pe hc.pe hm).imp fun σ H Q ⟨ρ,O,st,q⟩=>
  ⟨ρ,O,st,ha.mn _ _ _ (fun x ρ1 q1 v H1 O1 st1 s1 d1=>⟨ρ1,O1,st1,hb.mn _ _ _ (fun y ρ2 ⟨i,j,e1,e2,q2⟩ w H2 O2 st2 s2 d2=>by
   subst e1 e2
   refine ⟨i,j,(DV.mono s2.hid d1).int_inv,d2.int_inv,p i j,rfl,?_⟩
   by_cases h:p i j=true
   ·rw [if_pos h] at q2 ⊢
    exact ⟨ρ2,O2,st2,hc.mn _ _ _ (fun z ρ3 ⟨l,e,q3⟩ u H3 O3 st3 s3 d3=>by subst e; exact ⟨j,l,(DV.mono s3.hid d2).int_inv,d3.int_inv,q3 _ H3 O3 st3 (s1.trans (s2.trans s3)) (.bl _)⟩) q2⟩
   ·rw [if_neg h] at q2 ⊢
    exact q2 _ H2 O2 st2 (s1.trans s2) (.bl _)) q1⟩) q⟩⟩
end
noncomputable abbrev DTT:=DEnv->(Bool->DEnv->Prop)->Prop
noncomputable def MnT (t:DTT):Prop:=∀ ρ Q Q',(∀ d ρ',Q d ρ'->Q' d ρ')->t ρ Q->t ρ Q'
noncomputable def rdT (K:PySem.W.Frag) (F:Fx) (t:DTT):TT:=fun σ H Q=>∃ ρ O,DSt K F H σ ρ O/\t ρ fun b ρ'=>∀ H' O',DSt K F H' σ ρ' O'->Stp O H O' H'->Q b H'
structure DB (X:Cx) (F:Fx) (e:Expr) (t:DTT):Prop where
 mn:MnT t
 pt:PT X e (rdT X.K F t)
section
variable {X:Cx} {F:Fx} {a b e c:Expr} {ta tb tc:DT} {tA tB:DTT} {pos:Pos}
noncomputable def dTst (ta:DT):DTT:=fun ρ Q=>ta ρ fun d ρ'=>∃ b,d=.bool b/\Q b ρ'
theorem mn_tst (h:Mn ta):MnT (dTst ta):=fun _ _ _ k q=>h _ _ _ (fun _ _ ⟨b,e,q1⟩=>⟨b,e,k _ _ q1⟩) q
theorem rd_tst {K:PySem.W.Frag} (h:Mn ta):∀ σ H Q,rdT K F (dTst ta) σ H Q->rdE K F ta σ H fun x H'=>∃ k,x=.bl k/\Q k H':=fun σ H Q ⟨ρ,O,st,q⟩=>
 ⟨ρ,O,st,h _ _ _ (fun d ρ1 ⟨b,e,q1⟩ v H1 O1 st1 s1 d1=>by subst e; exact ⟨b,d1.bl_inv,q1 H1 O1 st1 s1⟩) q⟩
theorem db_val (h:DE X F e ta) (he:∀ whole,isTrue e X.env whole=(do let v <-whole; standAt e.pos; holding [v] (truthy v)):=by intro _; rfl):DB X F e (dTst ta):=⟨mn_tst h.mn,(pt_val h.pe he).imp (rd_tst h.mn)⟩
theorem db_cmp {op:CmpOp} {r:R2} {f:D2} (ho:OpR X (compareOp op) r) (o:Op2 r f) (ha:DE X F a ta) (hb:DE X F b tb) (hm:behindInMarks op b=false):DB X F (.Compare a [op] [b] pos) (dTst (dOp f ta tb)):=
 ⟨mn_tst (mn2 o ha.mn hb.mn),(pt_cmpR ho ha.pe hb.pe hm).imp fun σ H Q q=>rd2 o ha.mn hb.mn σ H _ (rd_tst (mn2 o ha.mn hb.mn) σ H Q q)⟩
noncomputable def bNot (t:DTT):DTT:=fun ρ Q=>t ρ fun b ρ'=>Q (!b) ρ'
theorem db_not (h:DB X F a tA):DB X F (.UnaryOp .Not a pos) (bNot tA):=⟨fun _ _ _ k q=>h.mn _ _ _ (fun _ _ q=>k _ _ q) q,(pt_not h.pt).imp fun σ H Q ⟨ρ,O,st,q⟩=>⟨ρ,O,st,h.mn _ _ _ (fun b ρ1 q1 H1 O1 st1 s1=>q1 H1 O1 st1 s1) q⟩⟩
structure DW (X:Cx) (F:Fx) (e:Expr) (t:DTT):Prop where
 mn:MnT t
 pw:PW X e (rdT X.K F t)
theorem _root_.L2.PW.imp {X:Cx} {e:Expr} {t t':TT} (h:PW X e t) (k:∀ σ H Q,t' σ H Q->t σ H Q):PW X e t':=fun wh pins s σ H Q I q=>h wh pins s σ H Q I (k σ H Q q)
theorem DW.db {t:DTT} (h:DW X F e t):DB X F e t:=⟨h.mn,h.pw.pt⟩
noncomputable def bAnd (t u:DTT):DTT:=fun ρ Q=>t ρ fun b ρ1=>if b=true then u ρ1 Q else Q false ρ1
noncomputable def bOr (t u:DTT):DTT:=fun ρ Q=>t ρ fun b ρ1=>if b=true then Q true ρ1 else u ρ1 Q
theorem dw_and1 (h:DB X F a tA):DW X F (.BoolOp .And [a] pos) tA:=⟨h.mn,pw_and1 h.pt⟩
theorem dw_or1 (h:DB X F a tA):DW X F (.BoolOp .Or [a] pos) tA:=⟨h.mn,pw_or1 h.pt⟩
theorem dw_and {rest:List Expr} (ha:DB X F a tA) (hb:DW X F (.BoolOp .And (b :: rest) pos) tB):DW X F (.BoolOp .And (a :: b :: rest) pos) (bAnd tA tB):=
 ⟨fun _ _ _ k q=>ha.mn _ _ _ (fun b _ q=>by cases b <;> first | exact k _ _ q | exact hb.mn _ _ _ k q) q,(pw_and ha.pt hb.pw).imp fun σ H Q ⟨ρ,O,st,q⟩=>
  ⟨ρ,O,st,ha.mn _ _ _ (fun b ρ1 q1 H1 O1 st1 s1=>by
   cases b with
   | true=>exact iteT ⟨ρ1,O1,st1,hb.mn _ _ _ (fun b ρ2 q2 H2 O2 st2 s2=>q2 H2 O2 st2 (s1.trans s2)) (ofT q1)⟩
   | false=>exact iteF (ofF q1 H1 O1 st1 s1)) q⟩⟩
theorem dw_or {rest:List Expr} (ha:DB X F a tA) (hb:DW X F (.BoolOp .Or (b :: rest) pos) tB):DW X F (.BoolOp .Or (a :: b :: rest) pos) (bOr tA tB):=
 ⟨fun _ _ _ k q=>ha.mn _ _ _ (fun b _ q=>by cases b <;> first | exact k _ _ q | exact hb.mn _ _ _ k q) q,(pw_or ha.pt hb.pw).imp fun σ H Q ⟨ρ,O,st,q⟩=>
  ⟨ρ,O,st,ha.mn _ _ _ (fun b ρ1 q1 H1 O1 st1 s1=>by
   cases b with
   | false=>exact iteF ⟨ρ1,O1,st1,hb.mn _ _ _ (fun b ρ2 q2 H2 O2 st2 s2=>q2 H2 O2 st2 (s1.trans s2)) (ofF q1)⟩
   | true=>exact iteT (ofT q1 H1 O1 st1 s1)) q⟩⟩
noncomputable def dIf (t:DTT) (ta tb:DT):DT:=fun ρ Q=>t ρ fun b ρ1=>if b=true then ta ρ1 Q else tb ρ1 Q
theorem de_if (hc:DB X F c tA) (ha:DE X F a ta) (hb:DE X F b tb):DE X F (.IfExp c a b pos) (dIf tA ta tb):=
 ⟨fun _ _ _ k q=>hc.mn _ _ _ (fun b _ q=>by cases b <;> first | exact ha.mn _ _ _ k q | exact hb.mn _ _ _ k q) q,(pe_ifExp hc.pt ha.pe hb.pe).imp fun σ H Q ⟨ρ,O,st,q⟩=>
  ⟨ρ,O,st,hc.mn _ _ _ (fun b ρ1 q1 H1 O1 st1 s1=>by
   cases b with
   | true=>exact iteT ⟨ρ1,O1,st1,ha.mn _ _ _ (fun d ρ2 q2 v H2 O2 st2 s2 d2=>q2 v H2 O2 st2 (s1.trans s2) d2) (ofT q1)⟩
   | false=>exact iteF ⟨ρ1,O1,st1,hb.mn _ _ _ (fun d ρ2 q2 v H2 O2 st2 s2 d2=>q2 v H2 O2 st2 (s1.trans s2) d2) (ofF q1)⟩) q⟩⟩
end
noncomputable abbrev DN:=List PyData->(PyData->Prop)->Prop
structure OpN (r:List V->Hp->VK->Prop) (f:DN):Prop where
 mn:∀ xs Q Q',(∀ d,Q d->Q' d)->f xs Q->f xs Q'
 ok:∀ (O:List Addr) (H:Hp) (vs:List V) (xs:List PyData) (Q:VK),(∀ p,H p=none->p ∉ O)->DVs (hide O H) vs xs->f xs (fun d=>∀ w H',Same H H'->DV (hide O H') w d->Q w H')->r vs H Q
noncomputable def dCB (f:DN) (t:DTA):DT:=fun ρ Q=>t ρ fun ds ρ'=>f ds fun d=>Q d ρ'
section
variable {X:Cx} {F:Fx} {e:Expr} {es:List Expr} {tA:DTA} {pos p:Pos} {x:Str} {id T:String} {r:List V->Hp->VK->Prop} {f:DN}
theorem rdN {K:PySem.W.Frag} (o:OpN r f) (h:MnA tA):∀ σ H Q,rdE K F (dCB f tA) σ H Q->tCB r (rdA K F tA) σ H Q:=fun σ H Q ⟨ρ,O,st,q⟩=>
 ⟨ρ,O,st,h _ _ _ (fun ds ρ1 q1 vs H1 O1 st1 s1 d1=>o.ok O1 H1 vs ds Q st1.nofree d1 (o.mn _ _ _ (fun d q2 w H2 s2 d2=>q2 w H2 O1 (st1.grow s2) (s1.trans (.same s2)) d2) q1)) q⟩
theorem mnN (o:OpN r f) (h:MnA tA):Mn (dCB f tA):=fun _ _ _ k q=>h _ _ _ (fun _ _ q1=>o.mn _ _ _ (fun _ q2=>k _ _ q2) q1) q
theorem de_callB (hc:CallR X (.builtin id) r) (o:OpN r f) (hg:Gl X x) (hm:X.mg x=none) (hv:bootBuiltins x=some (.builtin id)) (ha:DA X F (e :: es) tA) (hn:x ≠ "__name__":=by decide) (hdb:(x == ("__debug__":Str))=false:=by decide)
  (he:starEach (e :: es) X.env=(false,eval e X.env) :: starEach es X.env:=by rfl) (hpl:(backTo pos (starEach es X.env)).any (·.1)=false:=by rfl):DE X F (.Call (.Name x p) (e :: es) [] pos) (dCB f tA):=
 ⟨mnN o ha.mn,(pe_callB hc hg hm hv ha.pa hn hdb he hpl).imp (rdN o ha.mn)⟩
theorem de_callTy (hc:CallR X (.type T) r) (o:OpN r f) (hg:Gl X x) (hm:X.mg x=none) (hv:bootBuiltins x=some (.type T)) (ha:DA X F (e :: es) tA) (hn:x ≠ "__name__":=by decide) (hdb:(x == ("__debug__":Str))=false:=by decide)
  (he:starEach (e :: es) X.env=(false,eval e X.env) :: starEach es X.env:=by rfl) (hpl:(backTo pos (starEach es X.env)).any (·.1)=false:=by rfl):DE X F (.Call (.Name x p) (e :: es) [] pos) (dCB f tA):=
 ⟨mnN o ha.mn,(pe_callTy hc hg hm hv ha.pa hn hdb he hpl).imp (rdN o ha.mn)⟩
end
noncomputable def dIsI (n:String) (ta:DT):DT:=fun ρ Q=>ta ρ fun d ρ'=>∃ b,(∀ K:PySem.W.Frag,PySem.W.kitOne K (.type (tyOfD d)) (.type n)=some b)/\Q (.bool b) ρ'
section
variable {X:Cx} {F:Fx} {e:Expr} {ta:DT} {pos p p2:Pos} {T:String} {x:Str}
theorem de_isinst (hg:Gl X "isinstance") (hm:X.mg "isinstance" = none) (h:DE X F e ta) (ht:PE X (.Name x p2) (tC (.ty T)))
  (he:starEach [e,.Name x p2] X.env=(false,eval e X.env) :: starEach [.Name x p2] X.env:=by rfl) (he2:starEach [.Name x p2] X.env=(false,eval (.Name x p2) X.env) :: starEach [] X.env:=by rfl) (hpl:(backTo pos (starEach [.Name x p2] X.env)).any (·.1)=false:=by rfl) :
  DE X F (.Call (.Name "isinstance" p) [e,.Name x p2] [] pos) (dIsI T ta):=
 ⟨fun _ _ _ k q=>h.mn _ _ _ (fun _ _ ⟨b,e,q⟩=>⟨b,e,k _ _ q⟩) q,
  (pe_callB call_isinst hg hm (show bootBuiltins "isinstance" = some (.builtin "isinstance") by decide +kernel) (pa_cons h.pe (pa_cons ht pa_nil he2) he) (by decide) (by decide) he hpl).imp fun σ H Q ⟨ρ,O,st,q⟩=>
  ⟨ρ,O,st,h.mn _ _ _ (fun d ρ1 ⟨b,e,q1⟩ v H1 O1 st1 s1 d1=>⟨v,d,T,b,rfl,DV.mono hide_le d1,e,q1 _ H1 O1 st1 s1 (.bl b)⟩) q⟩⟩
end
end L2.L3
namespace L2.L3
open PySem PySem.Spec PyProof.Rows
structure ExS (g:Heap) (H:Hp) (h:Heap) (a:Addr) (C:Value) (fl:Option Value):Prop where
 gh:∀ b o,g.get? b=some o->∃ o',h.get? b=some o'
 lo:g.get? a=none
 un:H a=none
 ob:∃ oe vs a0,h.get? a=some oe/\oe.cls=C/\oe.data=.fields vs/\vs[0]? = some a0/\
  ((fl=none/\vs[1]? = some .none)\/∃ T oT ts f,fl=some f/\vs[1]? = some (.ref T)/\g.get? T=none/\H T=none/\T ≠ a/\h.get? T=some oT/\oT.data=.fields ts/\ts[3]? = some f)
structure Ch (g:Heap) (H:Hp) (fs:List Addr) (h h':Heap):Prop where
 keep:∀ b o,h.get? b=some o->((∃ o',g.get? b=some o')\/H b ≠ none)->b ∉ fs->h'.get? b=some o
 slot:∀ b o,b ∈ fs->h.get? b=some o->∃ sl,h'.get? b=some { o with slots:=sl }
 there:∀ b o,h.get? b=some o->∃ o',h'.get? b=some o'
theorem Ch.refl {g:Heap} {H:Hp} {fs:List Addr} {h:Heap}:Ch g H fs h h:=⟨fun _ _ e _ _=>e,fun b o _ e=>⟨o.slots,e⟩,fun b o e=>⟨o,e⟩⟩
theorem Ch.trans {g:Heap} {H:Hp} {fs:List Addr} {h h1 h2:Heap} (x:Ch g H fs h h1) (y:Ch g H fs h1 h2):Ch g H fs h h2 where
 keep:=fun b o e q n=>y.keep b o (x.keep b o e q n) q n
 slot:=fun b o m e=>let ⟨_,e1⟩:=x.slot b o m e; let ⟨sl,e2⟩:=y.slot b _ m e1; ⟨sl,e2⟩
 there:=fun b o e=>let ⟨o1,e1⟩:=x.there b o e; y.there b o1 e1
theorem HOk.some_of {P:Program} {w:World} {H:Hp} {h:Heap} (k:HOk P w H h) {b:Addr} (e:h.get? b=none):H b=none:=by
 cases q:H b with
 | none=>rfl
 | some u=>
  exfalso
  have x:=k b u q
  have:∀ (u:HO),ObjOk P w H h b u->∃ o,h.get? b=some o:=by
   intro u
   induction u with
   | lst xs=>exact fun ⟨_,_,_,_,e⟩=>⟨_,e⟩
   | tup xs=>exact fun ⟨_,_,_,o,e,_⟩=>⟨_,e⟩
   | dK kvs=>exact fun ⟨_,_,_,_,o,_,_,e,_⟩=>⟨_,e⟩
   | dT kvs=>exact fun ⟨_,_,_,_,o,_,_,e,_⟩=>⟨_,e⟩
   | set S n=>exact fun ⟨o,_,_,_,e,_⟩=>⟨_,e⟩
   | ins C dx fs=>exact fun ⟨_,_,_,e,_⟩=>⟨_,e⟩
   | own y=>exact fun ⟨_,e⟩=>⟨_,e⟩
   | xd fs=>exact fun ⟨_,⟨_,_,_,e,_⟩,_⟩=>⟨_,e⟩
   | rng lo hi=>exact fun ⟨_,_,_,e⟩=>⟨_,e⟩
   | frz ob u _=>exact fun ⟨e,_⟩=>⟨_,e⟩
   | tbl ps=>exact fun e=>⟨_,e⟩
   | met f y=>exact fun e=>⟨_,e⟩
   | ext φ=>exact fun ⟨_,⟨_,e⟩,_⟩=>⟨_,e⟩
  obtain ⟨o,eo⟩:=this u x
  rw [e] at eo; cases eo
theorem frames_rebase {h base base':Heap}:∀ {l:List Env},(∀ b ∈ frs l,base'.get? b=none)->h.FunFrames base l->h.FunFrames base' l
 | [],_,_=>trivial
 | env :: r,hb,⟨hk,⟨L,o,hf,_,ho,hd⟩,hr⟩=>by
  have e:frs (env :: r)=L :: frs r:=by unfold frs; rw [List.filterMap_cons,hf]
  exact ⟨hk,⟨L,o,hf,hb L (by rw [e]; exact List.mem_cons_self),ho,hd⟩,frames_rebase (fun b h=>hb b (by rw [e]; exact List.mem_cons_of_mem _ h)) hr⟩
section
variable {P:Program} {w:World} {M:Model} {A:Around} {E:Value->Shared->Prop} {s:Shared} {g base:Heap} {H:Hp} {env:Env} {outer:List Env} {L a:Addr} {C fv:Value} {fl:Option Value}
theorem entry_any {oe:Obj} {vs:Array Value} {head a0:Value} {hadNext:Bool} {Q:Unit->Shared->Prop} (hfr:A.frames=some (env :: outer)) (hl:s.heap.FunFrames base (env :: outer)) (hf:env.frame=some L) (hk:∀ b,s.heap.get? b=none->H b=none)
  (gh:∀ b o,g.get? b=some o->∃ o',s.heap.get? b=some o') (lo:g.get? a=none) (un:H a=none) (he:s.heap.get? a=some oe) (hc:oe.cls=C) (hd:oe.data=.fields vs) (hsz:1 < vs.size) (h0:vs[0]? = some a0)
  (h:∀ h',Ch g H (frs (env :: outer)) s.heap h'->ExS g H h' a C (some (rawInt L))->Q () { s with heap:=h' }) :
  wpAny M A (do let x <-frameOf env; let pl <-entryPlaceOf L hadNext; let b <-EntryCells.newEntry head x .none (rawInt L) .none pl; setField (.ref a) 1 b) Q E s:=by
 refine wpAny_entryW (base:=PySem.W.hideAll s.heap (a :: frs (env :: outer))) hfr (frames_rebase (fun b hb=>PySem.W.hideAll_none _ (List.mem_cons_of_mem _ hb)) hl) hf he (fun b o e=>PySem.W.of_hideAll _ e) (PySem.W.hideAll_none _ List.mem_cons_self) hd hsz h0 fun h' ⟨k1,k2,k3,k4⟩=>?_
 obtain ⟨oe',vs',T,oT,ts,e1,⟨e2,e20⟩,e3,e4,e5,e6,e7,e8,e9⟩:=k3
 have sl:∀ b o,b ∈ frs (env :: outer)->s.heap.get? b=some o->∃ sl,h'.get? b=some { o with slots:=sl }:=fun b o hb e=>by
  obtain ⟨_,o',e',nf⟩:=hl.mem hb
  rw [e] at e'; cases e'
  exact k4 b o e nf
 have kp:∀ b o,s.heap.get? b=some o->b ≠ a->b ∉ frs (env :: outer)->h'.get? b=some o:=fun b o e n1 n2=>k1 b o (PySem.W.hideAll_get _ e fun z=>(List.mem_cons.mp z).elim n1 n2)
 have hT:g.get? T=none/\H T=none:=by
  cases q:s.heap.get? T with
  | some o=>
   exfalso
   by_cases hfT:T ∈ frs (env :: outer)
   ·obtain ⟨_,o',e',nf⟩:=hl.mem hfT
    rw [q] at e'; cases e'
    obtain ⟨sl',e''⟩:=sl T o hfT q
    rw [e7] at e''; cases e''
    exact nf ts e8
   ·rw [PySem.W.hideAll_get _ q (fun z=>(List.mem_cons.mp z).elim e6 hfT)] at e5; cases e5
  | none=>
   refine ⟨?_,hk T q⟩
   cases q2:g.get? T with
   | none=>rfl
   | some o=>obtain ⟨o',e'⟩:=gh T o q2; rw [q] at e'; cases e'
 have ch:Ch g H (frs (env :: outer)) s.heap h':=⟨fun b o e q n=>kp b o e (fun z=>?_) n,fun b o hb e=>sl b o hb e,fun b o e=>?_⟩
 ·refine h h' ch ⟨fun b o e=>?_,lo,un,oe',vs',a0,e1,e2.trans hc,e3,e20,.inr ⟨T,oT,ts,_,rfl,e4,hT.1,hT.2,e6,e7,e8,e9⟩⟩
  obtain ⟨o',e'⟩:=gh b o e
  exact ch.there b o' e'
 ·subst z
  rcases q with ⟨o',q⟩ | q
  ·rw [lo] at q; cases q
  ·exact q un
 ·by_cases n2:b ∈ frs (env :: outer)
  ·obtain ⟨sl',e'⟩:=sl b o n2 e; exact ⟨_,e'⟩
  ·by_cases n1:b=a
   ·subst n1; exact ⟨_,e1⟩
   ·exact ⟨o,kp b o e n1 n2⟩
theorem frames_update {h:Heap} {l:List Env} {T:Addr} {oT:Obj} {ts:Array Value} {f:Obj->Obj} (hl:h.FunFrames base l) (hT:h.get? T=some oT) (hd:oT.data=.fields ts):(h.update T f).FunFrames base l:=
 hl.of_keeps fun b o hb nf=>⟨o,by rw [Heap.get?_update_other _ _ (fun z=>nf ts (by subst z; rw [hT] at hb; cases hb; exact hd))]; exact hb,rfl⟩
theorem ch_update {h:Heap} {fs:List Addr} {T:Addr} {oT:Obj} {ts:Array Value} {f:Array Value->Array Value} (hT:h.get? T=some oT) (hd:oT.data=.fields ts) (hg:g.get? T=none) (hH:H T=none) (hfs:T ∉ fs):Ch g H fs h (h.update T (Obj.mapFields f)):=by
 have self:(h.update T (Obj.mapFields f)).get? T=some (oT.mapFields f):=Heap.get?_update_self _ hT (Obj.isFreed_of_fields (Obj.data_mapFields hd f))
 refine ⟨fun b o e q n=>?_,fun b o m e=>⟨o.slots,?_⟩,fun b o e=>?_⟩
 ·rw [Heap.get?_update_other _ _ (fun z=>?_)]
  ·exact e
  ·subst z
   rcases q with ⟨o',q⟩ | q
   ·rw [hg] at q; cases q
   ·exact q hH
 ·rw [Heap.get?_update_other _ _ (fun z=>hfs (by rw [z]; exact m))]; exact e
 ·by_cases z:b=T
  ·subst z; exact ⟨_,self⟩
  ·exact ⟨o,by rw [Heap.get?_update_other _ _ (Ne.symm z)]; exact e⟩
theorem note_any {Q:Unit->Shared->Prop} (hfr:A.frames=some (env :: outer)) (hl:s.heap.FunFrames base (env :: outer)) (hf:env.frame=some L) (hk:∀ b,s.heap.get? b=none->H b=none) (x:ExS g H s.heap a C fl)
  (h:∀ h',Ch g H (frs (env :: outer)) s.heap h'->ExS g H h' a C (some (rawInt L))->Q () { s with heap:=h' }):wpAny M A (noteFrame (.ref a) env) Q E s:=by
 obtain ⟨gh,lo,un,oe,vs,a0,he,hc,hd,h0,hx⟩:=x
 unfold noteFrame
 simp only [hf]
 rcases hx with ⟨_,h1⟩ | ⟨T,oT,ts,f,_,h1,hgT,hHT,hTa,hT,hdT,h3⟩
 ·refine wpAny_bind (wpAny_field he hd h1 ?_)
  rw [if_neg (by decide)]
  exact entry_any hfr hl hf hk gh lo un he hc hd (Array.getElem?_eq_some_iff.mp h1).1 h0 h
 ·refine wpAny_bind (wpAny_field he hd h1 ?_)
  rw [if_pos (show (Value.ref T != Value.none)=true from by simp)]
  refine wpAny_bind (wpAny_field hT hdT h3 ?_)
  by_cases hfl:(f == rawInt L)=true
  ·rw [if_pos hfl]
   have e:f=rawInt L:=by simpa using hfl
   subst e
   exact wpAny_pure (h s.heap .refl ⟨gh,lo,un,oe,vs,a0,he,hc,hd,h0,.inr ⟨T,oT,ts,_,rfl,h1,hgT,hHT,hTa,hT,hdT,h3⟩⟩)
  ·rw [if_neg hfl]
   refine wpAny_bind (wpAny_setField hT hdT (Array.getElem?_eq_some_iff.mp h3).1 ?_)
   have hTf:T ∉ frs (env :: outer):=fun z=>by
    obtain ⟨_,o',e',nf⟩:=hl.mem z
    rw [hT] at e'; cases e'; exact nf ts hdT
   have c1:=ch_update (g:=g) (H:=H) (f:=(·.setIfInBounds 3 Value.none)) hT hdT hgT hHT hTf
   refine entry_any (s:={ s with heap:=s.heap.update T (Obj.mapFields (·.setIfInBounds 3 Value.none)) }) hfr (frames_update hl hT hdT) hf (fun b e=>?_) (fun b o e=>?_) lo un ?_ hc hd (Array.getElem?_eq_some_iff.mp h1).1 h0 fun h' ch ex=>h h' (c1.trans ch) ex
   ·refine hk b ?_
    cases q:s.heap.get? b with
    | none=>rfl
    | some o=>obtain ⟨o',e'⟩:=c1.there b o q; rw [show ({ s with heap:=s.heap.update T (Obj.mapFields (·.setIfInBounds 3 Value.none)) }:Shared).heap=s.heap.update T (Obj.mapFields (·.setIfInBounds 3 Value.none)) from rfl] at e; rw [e] at e'; cases e'
   ·obtain ⟨o',e'⟩:=gh b o e
    exact c1.there b o' e'
   ·show (s.heap.update T _).get? a=some oe
    rw [Heap.get?_update_other _ _ hTa]; exact he
theorem flight_any {Q:Unit->Shared->Prop} {fs:List Addr} (fr:Option Addr) (hfs:∀ b ∈ fs,∃ o,s.heap.get? b=some o/\∀ vs,o.data ≠ .fields vs) (x:ExS g H s.heap a C (some fv))
  (h:∀ h',Ch g H fs s.heap h'->ExS g H h' a C (some (fr.elim Value.none fun f=>rawInt f))->Q () { s with heap:=h' }):wpAny M A (setFlight (.ref a) fr) Q E s:=by
 obtain ⟨gh,lo,un,oe,vs,a0,he,hc,hd,h0,hx⟩:=x
 rcases hx with ⟨z,_⟩ | ⟨T,oT,ts,f,_,h1,hgT,hHT,hTa,hT,hdT,h3⟩
 ·cases z
 ·unfold setFlight
  refine wpAny_bind (wpAny_field he hd h1 ?_)
  rw [if_pos (show (Value.ref T != Value.none)=true from by simp)]
  have hTf:T ∉ fs:=fun z=>by obtain ⟨o,e1,e2⟩:=hfs T z; rw [hT] at e1; cases e1; exact e2 ts hdT
  have hsz:=(Array.getElem?_eq_some_iff.mp h3).1
  have c1:=ch_update (g:=g) (H:=H) (f:=(·.setIfInBounds 3 (fr.elim Value.none fun f=>rawInt f))) hT hdT hgT hHT hTf
  refine wpAny_setField hT hdT hsz (h _ c1 ⟨fun b o e=>?_,lo,un,oe,vs,a0,?_,hc,hd,h0,.inr ⟨T,_,_,_,rfl,h1,hgT,hHT,hTa,Heap.get?_update_self _ hT (Obj.isFreed_of_fields (Obj.data_mapFields hdT _)),Obj.data_mapFields hdT _,?_⟩⟩)
  ·obtain ⟨o',e'⟩:=gh b o e
   exact c1.there b o' e'
  ·rw [Heap.get?_update_other _ _ hTa]; exact he
  ·simp [hsz]
theorem frames_some {h:Heap} {l:List Env} (hl:h.FunFrames base l):∀ b ∈ frs l,∃ o,h.get? b=some o/\∀ vs,o.data ≠ .fields vs:=fun b hb=>let ⟨_,o,e,n⟩:=hl.mem hb; ⟨o,e,n⟩
theorem Ch.frames {fs:List Addr} {h h':Heap} {l:List Env} (c:Ch g H fs h h') (hs:∀ b ∈ frs l,b ∈ fs) (hl:h.FunFrames base l):h'.FunFrames base l:=by
 induction l with
 | nil=>trivial
 | cons env r ih=>
  obtain ⟨hk,⟨L,o,hf,hn,ho,hd⟩,hr⟩:=hl
  have e:frs (env :: r)=L :: frs r:=by unfold frs; rw [List.filterMap_cons,hf]
  obtain ⟨sl,e'⟩:=c.slot L o (hs L (by rw [e]; exact List.mem_cons_self)) ho
  exact ⟨hk,⟨L,_,hf,hn,e',hd⟩,ih (fun b hb=>hs b (by rw [e]; exact List.mem_cons_of_mem _ hb)) hr⟩
theorem leave_any {Q:Unit->Shared->Prop} (hfr:A.frames=some (env :: outer)) (hl:s.heap.FunFrames base (env :: outer)) (hf:env.frame=some L) (hk:∀ b,s.heap.get? b=none->H b=none) (x:ExS g H s.heap a C fl)
  (h:∀ h',Ch g H (frs (env :: outer)) s.heap h'->ExS g H h' a C (some .none)->Q () { s with heap:=h' }):wpAny M A (leaving env (.ref a)) Q E s:=by
 unfold leaving
 refine wpAny_bind (note_any hfr hl hf hk x fun h1 c1 x1=>?_)
 refine flight_any (s:={ s with heap:=h1 }) (fs:=frs (env :: outer)) none (frames_some (c1.frames (fun _ h=>h) hl)) x1 fun h2 c2 x2=>h h2 (c1.trans c2) x2
end
end L2.L3
namespace L2.L3
open PySem PySem.Spec PyProof.Rows
structure Cov (X:Cx) (pins:List (Addr × Obj)) (g:Heap):Prop where
 s0:∀ b o,X.s₀.heap.get? b=some o->b ∉ X.ex->∃ o',g.get? b=some o'
 loc:∃ o,g.get? X.env.locals=some o
 cell:∀ x c,X.env.cells.lookup x=some c->∃ o,g.get? c=some o
 pin:∀ p ∈ X.pn ++ pins,∃ o,g.get? p.1=some o
section
variable {X:Cx} {pins:List (Addr × Obj)} {σ:St} {H:Hp} {s:Shared} {g h':Heap}
theorem _root_.L2.Inv.cov (I:Inv X pins σ H s):Cov X pins s.heap:=by
 refine ⟨fun b o e n=>I.base.there b o e n,?_,fun x c e=>?_,fun p hp=>⟨_,(I.pin p hp).1⟩⟩
 ·obtain ⟨m,⟨o,es,ep,ho,_⟩,_⟩:=I.loc; exact ⟨o,ho⟩
 ·obtain ⟨v,o,ho,_⟩:=I.cell x c e; exact ⟨o,ho⟩
theorem _root_.L2.Inv.stkIn (I:Inv X pins σ H s) {b:Addr} (h:b ∉ frs X.stack):b ∉ X.fs:=by
 rcases I.ok.stk with e | ⟨e,hf⟩
 ·rw [e] at h; exact h
 ·rw [e] at h; unfold frs at h; rw [List.filterMap_cons,hf] at h; exact fun z=>h (List.mem_cons_of_mem _ z)
theorem _root_.L2.Inv.stkOut (I:Inv X pins σ H s) {b:Addr} (h:b ∉ X.fs) (h2:b ≠ X.env.locals):b ∉ frs X.stack:=fun z=>(List.mem_cons.mp (I.stkSub b z)).elim h2 h
theorem ns_slots {h h':Heap} {a:Addr} {m:Str->Option Value} (k:∀ o,h.get? a=some o->∃ sl,h'.get? a=some { o with slots:=sl }) (hn:h.Ns a m):h'.Ns a m:=by
 obtain ⟨o,es,ep,ho,hd,r⟩:=hn
 obtain ⟨sl,hs⟩:=k o ho
 exact ⟨_,es,ep,hs,hd,r⟩
theorem _root_.L2.Inv.ch (I:Inv X pins σ H s) (cv:Cov X pins g) (c:Ch g H (frs X.stack) s.heap h'):Inv X pins σ H { s with heap:=h' }:=by
 have ht:∀ b o,s.heap.get? b=some o->H b ≠ none->h'.get? b=some o:=fun b o e n=>c.keep b o e (.inr n) fun z=>n (I.stkFree b z)
 have ck:∀ x cc,X.env.cells.lookup x=some cc->∀ o,s.heap.get? cc=some o->∃ o',h'.get? cc=some o'/\o'.data=o.data:=fun x cc e o ho=>by
  by_cases hs:cc ∈ frs X.stack
  ·obtain ⟨sl,e1⟩:=c.slot cc o hs ho; exact ⟨_,e1,rfl⟩
  ·exact ⟨o,c.keep cc o ho (.inl (cv.cell x cc e)) hs,rfl⟩
 refine ⟨I.ok,I.os,I.bare,⟨fun b o e n hf hx=>?_,fun b o e n hf hx=>?_,fun b o e n hx=>I.base.free b o e n hx,fun b o e hx=>?_,I.base.tups,I.base.frzs,I.base.tbls⟩,?_,fun x cc e=>?_,I.free,I.freeC,fun p hp=>?_,fun b u e=>?_,I.len⟩
 ·have e1:=I.base.keep b o e n hf hx
  refine c.keep b o e1 (.inl (cv.s0 b o e hx)) (I.stkOut hf fun z=>?_)
  have h1:=I.ok.above
  have h2:b < X.s₀.heap.objs.size:=Heap.lt_size e
  rw [z] at h2
  exact Nat.lt_irrefl _ (Nat.lt_of_lt_of_le h2 h1)
 ·obtain ⟨sl,e1⟩:=I.base.slot b o e n hf hx
  by_cases hs:b ∈ frs X.stack
  ·obtain ⟨sl',e2⟩:=c.slot b _ hs e1; exact ⟨sl',e2⟩
  ·exact absurd hf (I.stkIn hs)
 ·obtain ⟨o1,e1⟩:=I.base.there b o e hx
  exact c.there b o1 e1
 ·obtain ⟨m,hn,hl⟩:=I.loc
  refine ⟨m,ns_slots (fun o ho=>?_) hn,fun i x v h1 h2 h3=>?_⟩
  ·by_cases hs:X.env.locals ∈ frs X.stack
   ·exact c.slot _ o hs ho
   ·exact ⟨o.slots,c.keep _ o ho (.inl cv.loc) hs⟩
  ·obtain ⟨u,r,l⟩:=hl i x v h1 h2 h3
   refine ⟨u,r,?_⟩
   rcases l with l | ⟨k,cc,e,o,ho,hd⟩
   ·exact .inl l
   ·obtain ⟨o',h1,h2⟩:=ck x cc e o ho
    exact .inr ⟨k,cc,e,o',h1,h2.trans hd⟩
 ·obtain ⟨v,o,ho,hd⟩:=I.cell x cc e
  obtain ⟨o',h1,h2⟩:=ck x cc e o ho
  exact ⟨v,o',h1,h2.trans hd⟩
 ·obtain ⟨h1,h2,h3,h4,h5⟩:=I.pin p hp
  exact ⟨c.keep _ _ h1 (.inl (cv.pin p hp)) (I.stkOut h4 h3),h2,h3,h4,h5⟩
 ·refine (I.hok b u e).stay (fun d v hd q=>ht d v q ?_) (fun _ q=>q) fun _ _ q=>q
  rcases hd with rfl | hd
  ·rw [e]; exact fun z=>by cases z
  ·rw [hd]; exact fun z=>by cases z
noncomputable def CXM (P:Program) (w:World):CXT:=fun outer H s E e s'=>∃ a C H',e=.ref a/\s'.os=s.os/\AllBare s'.gens/\Un (frs outer) [] H H' s.heap s'.heap/\HOk P w H' s'.heap/\ExS s.heap H' s'.heap a C (some .none)/\E C none H'
structure Fly (X:Cx) (pins:List (Addr × Obj)) (σ:St) (H:Hp) (s:Shared) (e:Value) (c:Str):Prop where
 inv:Inv X pins σ H s
 ex:∃ a C g fl,e=.ref a/\Cov X pins g/\ExS g H s.heap a C fl/\X.mg c=some C
noncomputable def glob (x:Str):Option PyData:=if x = "ANY_ZONE" then some (.tuple [.int 0,.tuple []]) else if x = "NO_DEEDS" then some (.tuple []) else none
noncomputable def isT:HO->Bool
 | .tup _=>true
 | .frz _ (.tup _)=>true
 | _=>false
theorem isT_nm {u:HO} (h:isT u=true):¬ Mv u:=fun m=>by
 cases u with
 | tup _=>exact m
 | frz _ _=>exact m
 | _=>cases h
noncomputable def tupH (H:Hp):Hp:=fun b=>match H b with
 | some u=>if isT u=true then some u else none
 | none=>none
theorem tup_at {H:Hp} {b:Addr} {o:HO} (h:tupH H b=some o):isT o=true/\H b=some o:=by
 unfold tupH at h
 split at h
 ·rename_i u e
  split at h
  ·rename_i t; cases h; exact ⟨t,e⟩
  ·cases h
 ·cases h
theorem at_tup {H:Hp} {b:Addr} {u:HO} (t:isT u=true) (h:H b=some u):tupH H b=some u:=by unfold tupH; rw [h]; exact if_pos t
noncomputable def GH (mg:Str->Option Value) (H:Hp):Prop:=∀ x d u,glob x=some d->mg x=some u->∃ v,RelV v u/\DV (tupH H) v d
noncomputable def GF (mg:Str->Option Value) (F:Fx):Prop:=GH mg fun b=>if b ∈ F.A₀ then none else F.H₀ b
theorem GH.mono {mg:Str->Option Value} {H H':Hp} (g:GH mg H) (k:∀ b u,isT u=true->H b=some u->H' b=some u):GH mg H':=fun x d u h1 h2=>by
 obtain ⟨v,r,dv⟩:=g x d u h1 h2
 exact ⟨v,r,DV.mono (fun b o e=>by obtain ⟨t,e1⟩:=tup_at e; exact at_tup t (k b o t e1)) dv⟩
theorem GF.at {mg:Str->Option Value} {K:PySem.W.Frag} {F:Fx} {H:Hp} {σ:St} {ρ:DEnv} {O:List Addr} (g:GF mg F) (st:DSt K F H σ ρ O):GH mg H:=GH.mono g fun b xs t e=>by
 obtain ⟨W,st,rfl⟩:=st
 split at e
 ·cases e
 ·rename_i hn; exact st.kept b _ hn e
theorem GH.frame {mg:Str->Option Value} {H:Hp} {A O:List Addr} {io:Nat->Addr} (g:GH mg H) (h:∀ a ∈ A,∃ o,H a=some o/\Mv o):GF mg ⟨H,A,O,io⟩:=GH.mono g fun b xs t e=>by
 show (if b ∈ A then none else H b)=_
 rw [if_neg,e]
 intro z
 obtain ⟨o,e1,m⟩:=h b z
 rw [e] at e1
 cases e1
 exact isT_nm t m
theorem GF.into {mg:Str->Option Value} {K:PySem.W.Frag} {F:Fx} {H:Hp} {σ:St} {ρ:DEnv} {O O':List Addr} {io:Nat->Addr} (g:GF mg F) (st:DSt K F H σ ρ O):GF mg ⟨H,[],O',io⟩:=(g.at st).frame fun a h=>by cases h
noncomputable def XOk (X:Cx) (F:Fx) (E:Str->DEnv->Prop):Prop:=GF X.mg F/\∀ (pins:List (Addr × Obj)) (σ:St) (H:Hp) (s:Shared) (e:Value) (c:Str) (ρ:DEnv) (O:List Addr),Fly X pins σ H s e c->DSt X.K F H σ ρ O->E c ρ->X.xe e s
theorem ExS.weak {g g':Heap} {H:Hp} {h:Heap} {a:Addr} {C:Value} {fl:Option Value} (x:ExS g H h a C fl) (k:∀ b o,g'.get? b=some o->∃ o',g.get? b=some o'):ExS g' H h a C fl:=by
 have nn:∀ b,g.get? b=none->g'.get? b=none:=fun b e=>by
  cases q:g'.get? b with
  | none=>rfl
  | some o=>obtain ⟨o',e'⟩:=k b o q; rw [e] at e'; cases e'
 obtain ⟨gh,lo,un,oe,vs,a0,he,hc,hd,h0,hx⟩:=x
 refine ⟨fun b o e=>let ⟨o',e'⟩:=k b o e; gh b o' e',nn a lo,un,oe,vs,a0,he,hc,hd,h0,hx.imp id ?_⟩
 rintro ⟨T,oT,ts,f,h1,h2,h3,h4⟩
 exact ⟨T,oT,ts,f,h1,h2,nn T h3,h4⟩
theorem _root_.L2.Inv.flies {E:XK} {e:Value} {s':Shared} (I:Inv X pins σ H s) (h:CXM X.prog X.w X.stack H s E e s'):∃ a C H',e=.ref a/\Inv X pins σ H' s'/\Cov X pins s.heap/\ExS s.heap H' s'.heap a C (some .none)/\E C none H':=by
 obtain ⟨a,C,H',e1,os,bare,un,hok,ex,q⟩:=h
 obtain ⟨hh,g,d,t,os'⟩:=s'
 obtain rfl:os' = s.os:=os
 exact ⟨a,C,H',e1,I.call (h':=hh) (g':=g) (d':=d) (t':=t) (ch:=[]) un hok bare (fun b z=>absurd z (by simp)),I.cov,ex,q⟩
end
theorem xok_fn {P:Program} {w:World} {K:PySem.W.Frag} {mg:Str->Option Value} {base:Heap} {N:List Str} {qual:Str} {scope:Scope} {f:Addr} {cd:Value} {A:Around} {outer:List Env} {s:Shared} {H:Hp} {E:XK} {F:Fx} {E':Str->DEnv->Prop}
  (hG:GF mg F) (hE:∀ c C ρ' σ' H' O',mg c=some C->DSt K F H' σ' ρ' O'->E' c ρ'->E C none H'):XOk (cxOf (CXM P w) P w K mg base N qual scope f cd A outer s H E) F E':=by
 refine ⟨hG,?_⟩
 intro pins σ H1 s1 e c ρ O ⟨I,a,C,g,fl,e1,cv,ex,hm⟩ st q
 subst e1
 have fr:(A.deeper (envOfC qual scope s.heap.objs.size f cd)).frames=some (envOfC qual scope s.heap.objs.size f cd :: outer):=I.ok.frames
 have hb:∀ b,s1.heap.get? b=none->H1 b=none:=fun b z=>HOk.some_of I.hok z
 have stk:frs (envOfC qual scope s.heap.objs.size f cd :: outer)=s.heap.objs.size :: frs outer:=rfl
 refine leave_any (base:=base) fr I.stack rfl hb ex fun h' ch ex'=>?_
 have J:=I.ch cv ch
 refine ⟨a,C,H1,rfl,J.os,J.bare,J.base,J.hok,ex'.weak fun b o eb=>cv.s0 b o eb (by intro z; cases z),hE c C ρ σ H1 O hm st q⟩
end L2.L3
namespace L2.L3
open PySem PySem.Spec PyProof.Rows
noncomputable def Fx.plus (F:Fx) (fp:List Addr):Fx:={ F with O₀:=fp ++ F.O₀ }
theorem Fx.plus_plus {F:Fx} {l m:List Addr}:(F.plus l).plus m=F.plus (m ++ l):=by unfold Fx.plus; simp
section
variable {K:PySem.W.Frag} {F:Fx} {H H':Hp} {σ:St} {ρ:DEnv} {O O':List Addr} {W:List (List Addr)} {fp:List Addr} {v:V} {c:Cell}
structure Res (K:PySem.W.Frag) (F:Fx) (H:Hp) (σ:St) (ρ:DEnv) (O:List Addr) (v:V) (c:Cell) (fp:List Addr):Prop where
 st:DSt K (F.plus fp) H σ ρ O
 at_:CellAt K H O v c fp
 new:∀ a ∈ fp,a ∈ F.A₀\/F.H₀ a=none
theorem stp_less (h:∀ a ∈ O',a ∈ O):Stp O H O' H:=⟨fun _ _ _ e=>e,fun a z=>.inl (h a z)⟩
theorem DStW.less {F':Fx} (st:DStW K F H σ ρ W) (h1:F'.H₀=F.H₀) (h2:F'.A₀=F.A₀) (h4:F'.I₀=F.I₀) (h3:F'.O₀.Sublist F.O₀):DStW K F' H σ ρ W:=by
 have sub:(W.flatten ++ F'.O₀).Sublist (W.flatten ++ F.O₀):=List.Sublist.append (List.Sublist.refl _) h3
 have mem:∀ a ∈ W.flatten ++ F'.O₀,a ∈ W.flatten ++ F.O₀:=fun a h=>sub.subset h
 refine ⟨fun i c e=>?_,st.nd.sublist sub,by rw [h1,h2]; exact st.kept,by rw [h1,h2]; exact st.new,fun a h=>st.live a (mem a h),st.len,st.lw,by rw [h4]; exact st.io⟩
 obtain ⟨v,fp,e1,e2,e3⟩:=st.at_ i c e
 exact ⟨v,fp,e1,e2,e3.keep (stp_less mem) (fun _ _=>rfl) (fun _ _ _ e=>e)⟩
theorem DSt.unplus (st:DSt K (F.plus fp) H σ ρ O):∃ O',DSt K F H σ ρ O'/\Stp O H O' H/\(∀ a ∈ fp,a ∉ O'):=by
 obtain ⟨W,st,rfl⟩:=st
 have st':DStW K F H σ ρ W:=st.less rfl rfl rfl (List.sublist_append_right _ _)
 refine ⟨_,⟨W,st',rfl⟩,stp_less fun a h=>?_,fun a ha z=>?_⟩
 ·rcases List.mem_append.mp h with h | h
  ·exact List.mem_append_left _ h
  ·exact List.mem_append_right _ (List.mem_append_right _ h)
 ·have nd:(W.flatten ++ (fp ++ F.O₀)).Nodup:=st.nd
  obtain ⟨_,n2,n3⟩:=List.nodup_append.mp nd
  rcases List.mem_append.mp z with z | z
  ·exact n3 a z a (List.mem_append_left _ ha) rfl
  ·exact (List.nodup_append.mp n2).2.2 a ha a z rfl
theorem Res.drop (r:Res K F H σ ρ O v c fp):∃ O',DSt K F H σ ρ O'/\Stp O H O' H:=let ⟨O',h1,h2,_⟩:=r.st.unplus; ⟨O',h1,h2⟩
@[simp] noncomputable def frz:Cell->Option PyData
 | .dat d=>some d
 | .own _ (.l ds)=>some (.list ds)
 | _=>none
theorem Res.frz {d:PyData} (r:Res K F H σ ρ O v c fp) (e:frz c=some d):∃ O',DSt K F H σ ρ O'/\Stp O H O' H/\DV (hide O' H) v d:=by
 obtain ⟨O',h1,h2,h3⟩:=r.st.unplus
 refine ⟨O',h1,h2,?_⟩
 have ra:=r.at_
 cases c with
 | dat x=>cases e; exact DV.mono h2.hid ra
 | scr ns=>cases e
 | exc c=>cases e
 | vw c=>cases e
 | own io b=>
  cases b with
  | l ds=>
   cases e
   obtain ⟨a,rfl,rfl,xs,e1,e2⟩:=ra
   exact .lst (hide_of e1 (h3 a (by simp))) (DVs.mono h2.hid e2)
  | m _ _=>cases e
  | o _ _=>cases e
  | sd _=>cases e
  | ll _=>cases e
  | pr _ _ _=>cases e
theorem res_dat (st:DSt K F H σ ρ O) {d:PyData} (h:DV (hide O H) v d):Res K F H σ ρ O v (.dat d) []:=⟨st,h,fun a h=>by cases h⟩
theorem DSt.put1 {io:Bool} (st:DSt K (F.plus fp) H σ ρ O) (hc:CellAt K H O v c fp) (new:∀ a ∈ fp,a ∈ F.A₀\/F.H₀ a=none) {i:Nat} (hi:i < ρ.length) (hio:∀ b,c=.own true b->v=.ref (F.I₀ i)) :
  ∃ O',DSt K F H (σ.set i (some v)) (ρ.set i (some c)) O'/\Stp O H O' H:=by
 obtain ⟨W,st,rfl⟩:=st
 have nd:(W.flatten ++ (fp ++ F.O₀)).Nodup:=st.nd
 obtain ⟨n1,n2,n3⟩:=List.nodup_append.mp nd
 obtain ⟨n4,n5,n6⟩:=List.nodup_append.mp n2
 have hiW:i < W.length:=by rw [st.lw]; exact hi
 have sub:∀ a ∈ (W.set i fp).flatten ++ F.O₀,a ∈ W.flatten ++ (fp ++ F.O₀):=fun a h=>by
  rcases List.mem_append.mp h with h | h
  ·rcases mem_flat_set h with h | ⟨j,l,_,e,hl⟩
   ·exact List.mem_append_right _ (List.mem_append_left _ h)
   ·exact List.mem_append_left _ (mem_flat_of e hl)
  ·exact List.mem_append_right _ (List.mem_append_right _ h)
 have stp:=stp_less (H:=H) sub
 refine ⟨_,⟨W.set i fp,⟨fun j d e=>?_,nodup_set (List.nodup_append.mpr ⟨n1,n5,fun a ha b hb=>n3 a ha b (List.mem_append_right _ hb)⟩) n4 fun a ha=>⟨fun j l _ e z=>n3 a (mem_flat_of e z) a (List.mem_append_left _ ha) rfl,fun z=>n6 a ha a z rfl⟩,st.kept,fun a h=>?_,fun a h=>st.live a (sub a h),by rw [List.length_set,List.length_set,st.len],by rw [List.length_set,List.length_set,st.lw],fun j b e=>?_⟩,rfl⟩,stp⟩
 ·rcases get_set e with ⟨rfl,e1,_⟩ | ⟨hj,e1⟩
  ·cases e1
   exact ⟨v,fp,List.getElem?_set_self (by rw [<-st.len]; exact hi),List.getElem?_set_self hiW,hc.keep stp (fun _ _=>rfl) (fun _ _ _ e=>e)⟩
  ·obtain ⟨w,l,h1,h2,h3⟩:=st.at_ j d e1
   exact ⟨w,l,by rw [List.getElem?_set_ne (Ne.symm hj)]; exact h1,by rw [List.getElem?_set_ne (Ne.symm hj)]; exact h2,h3.keep stp (fun _ _=>rfl) (fun _ _ _ e=>e)⟩
 ·rcases mem_flat_set h with h | ⟨j,l,_,e,hl⟩
  ·exact new a h
  ·exact st.new a (mem_flat_of e hl)
 ·rcases get_set e with ⟨rfl,e1,_⟩ | ⟨hj,e1⟩
  ·rw [List.getElem?_set_self (by rw [<-st.len]; exact hi),hio b (Option.some.inj e1).symm]
  ·rw [List.getElem?_set_ne (Ne.symm hj)]; exact st.io j b e1
theorem DSt.take (st:DSt K F H σ ρ O) {i:Nat} {io:Bool} {b:Bx} (e:ρ[i]? = some (some (.own io b))):∃ a fp O',σ[i]? = some (some (.ref a))/\DSt K (F.plus fp) H σ (ρ.set i none) O'/\BoxAt (hide O' H) H a b fp/\Stp O H O' H/\Stp O' H O H/\(∀ a ∈ fp,a ∈ F.A₀\/F.H₀ a=none)/\(io=true->a=F.I₀ i):=by
 obtain ⟨W,st,rfl⟩:=st
 obtain ⟨v,fp,h1,h2,a,rfl,h3⟩:=st.at_ i _ e
 have hi:i < ρ.length:=(List.getElem?_eq_some_iff.mp e).1
 have hiW:i < W.length:=by rw [st.lw]; exact hi
 obtain ⟨n1,n2,n3⟩:=List.nodup_append.mp st.nd
 have s1:∀ x ∈ (W.set i []).flatten ++ (fp ++ F.O₀),x ∈ W.flatten ++ F.O₀:=fun x h=>by
  rcases List.mem_append.mp h with h | h
  ·rcases mem_flat_set h with h | ⟨j,l,_,ej,hl⟩
   ·cases h
   ·exact List.mem_append_left _ (mem_flat_of ej hl)
  ·rcases List.mem_append.mp h with h | h
   ·exact List.mem_append_left _ (mem_flat_of h2 h)
   ·exact List.mem_append_right _ h
 have s2:∀ x ∈ W.flatten ++ F.O₀,x ∈ (W.set i []).flatten ++ (fp ++ F.O₀):=fun x h=>by
  rcases List.mem_append.mp h with h | h
  ·obtain ⟨l,hl,hx⟩:=List.mem_flatten.mp h
   obtain ⟨j,hj⟩:=List.getElem?_of_mem hl
   by_cases hji:j=i
   ·subst hji; rw [h2] at hj; cases hj; exact List.mem_append_right _ (List.mem_append_left _ hx)
   ·exact List.mem_append_left _ (flat_set_mem hji hj hx)
  ·exact List.mem_append_right _ (List.mem_append_right _ h)
 have nfp:fp.Nodup:=by
  have:∀ {W:List (List Addr)} {i:Nat} {l:List Addr},W.flatten.Nodup->W[i]? = some l->l.Nodup:=fun {W i l} nd hl=>nd.sublist (by
   have:=List.mem_of_getElem? hl
   exact List.sublist_flatten_of_mem this)
  exact this n1 h2
 have nd':((W.set i []).flatten ++ (fp ++ F.O₀)).Nodup:=by
  have q:((W.set i []).flatten ++ ([] ++ F.O₀)).Nodup:=nodup_set (fp:=[]) (O:=F.O₀) st.nd List.nodup_nil (fun a h=>by cases h)
  obtain ⟨q1,_,q3⟩:=List.nodup_append.mp q
  refine List.nodup_append.mpr ⟨q1,List.nodup_append.mpr ⟨nfp,n2,fun x hx y hy z=>n3 x (mem_flat_of h2 hx) y hy z⟩,fun x hx y hy z=>?_⟩
  subst z
  rcases List.mem_append.mp hy with hy | hy
  ·rcases mem_flat_set hx with hx | ⟨j,l,hj,ej,hl⟩
   ·cases hx
   ·exact flat_disj n1 h2 ej (Ne.symm hj) hy hl
  ·exact q3 x hx x hy rfl
 have stp:=stp_less (H:=H) s1
 have k:=stp_less (H:=H) s2
 refine ⟨a,fp,_,h1,⟨W.set i [],⟨fun j d ej=>?_,nd',st.kept,fun x h=>?_,fun x h=>st.live x (s1 x h),by rw [List.length_set,st.len],by rw [List.length_set,List.length_set,st.lw],fun j b' ej=>?_⟩,rfl⟩,h3.keep (fun _ _=>rfl) stp.hid,stp,k,fun x hx=>st.new x (mem_flat_of h2 hx),fun hio=>?_⟩
 ·rcases get_set ej with ⟨rfl,e1,_⟩ | ⟨hj,e1⟩
  ·cases e1
  ·obtain ⟨w,l,q1,q2,q3⟩:=st.at_ j d e1
   exact ⟨w,l,q1,by rw [List.getElem?_set_ne (Ne.symm hj)]; exact q2,q3.keep stp (fun _ _=>rfl) (fun _ _ _ e=>e)⟩
 ·rcases mem_flat_set h with h | ⟨j,l,_,ej,hl⟩
  ·cases h
  ·exact st.new x (mem_flat_of ej hl)
 ·rcases get_set ej with ⟨rfl,e1,_⟩ | ⟨hj,e1⟩
  ·cases e1
  ·exact st.io j b' e1
 ·subst hio
  have:=st.io i b e
  rw [h1] at this
  cases this; rfl
theorem DSt.swap {L L':List Addr} (st:DSt K (F.plus L) H σ ρ O) (keep:∀ b o,b ∉ L->H b=some o->H' b=some o) (nd:L'.Nodup) (new:∀ a ∈ L',a ∈ L\/H a=none) (hA:∀ a ∈ L,a ∈ F.A₀\/F.H₀ a=none) (liv:∀ a ∈ L',∃ o,H' a=some o/\Mv o) :
  ∃ O',DSt K (F.plus L') H' σ ρ O'/\Stp O H O' H'/\(∀ a ∈ L',a ∈ O')/\(∀ a ∈ O',a ∈ L'\/a ∈ O/\a ∉ L)/\∀ a ∈ O,a ∉ L->a ∈ O':=by
 obtain ⟨W,st,rfl⟩:=st
 have ndO:(W.flatten ++ (L ++ F.O₀)).Nodup:=st.nd
 obtain ⟨n1,n2,n3⟩:=List.nodup_append.mp ndO
 obtain ⟨n4,n5,n6⟩:=List.nodup_append.mp n2
 have wl:∀ a ∈ W.flatten,a ∉ L:=fun a h z=>n3 a h a (List.mem_append_left _ z) rfl
 have ol:∀ a ∈ F.O₀,a ∉ L:=fun a h z=>n6 a z a h rfl
 have lv:∀ a ∈ W.flatten ++ F.O₀,∃ o,H a=some o/\Mv o:=fun a h=>st.live a (by
  rcases List.mem_append.mp h with h | h
  ·exact List.mem_append_left _ h
  ·exact List.mem_append_right _ (List.mem_append_right _ h))
 have kp:∀ a ∈ W.flatten ++ F.O₀,H' a=H a:=fun a h=>by
  obtain ⟨o,e,_⟩:=lv a h
  rw [e]
  exact keep a o ((List.mem_append.mp h).elim (wl a) (ol a)) e
 have ap:∀ a ∈ L',a ∉ W.flatten ++ F.O₀:=fun a h z=>by
  rcases new a h with q | q
  ·rcases List.mem_append.mp z with z | z
   ·exact wl a z q
   ·exact ol a z q
  ·obtain ⟨o,e,_⟩:=lv a z; rw [q] at e; cases e
 have stp:Stp (W.flatten ++ (L ++ F.O₀)) H (W.flatten ++ (L' ++ F.O₀)) H':=⟨fun b o hb e=>keep b o (fun z=>hb (List.mem_append_right _ (List.mem_append_left _ z))) e,fun a h=>by
  rcases List.mem_append.mp h with h | h
  ·exact .inl (List.mem_append_left _ h)
  ·rcases List.mem_append.mp h with h | h
   ·exact (new a h).imp (fun z=>List.mem_append_right _ (List.mem_append_left _ z)) id
   ·exact .inl (List.mem_append_right _ (List.mem_append_right _ h))⟩
 have zf:∀ b o u,H b=some (.frz o u)->H' b=some (.frz o u):=fun b o u e=>keep b _ (fun z=>st.nofrz (List.mem_append_right _ (List.mem_append_left _ z)) e) e
 refine ⟨_,⟨W,⟨fun i c e=>?_,?_,fun b o hb e=>?_,st.new,fun a h=>?_,st.len,st.lw,st.io⟩,rfl⟩,stp,fun a h=>List.mem_append_right _ (List.mem_append_left _ h),fun a h=>?_,fun a h hn=>?_⟩
 ·obtain ⟨v,fp,h1,h2,h3⟩:=st.at_ i c e
  exact ⟨v,fp,h1,h2,h3.keep stp (fun b hb=>kp b (List.mem_append_left _ (mem_flat_of h2 hb))) zf⟩
 ·refine List.nodup_append.mpr ⟨n1,List.nodup_append.mpr ⟨nd,n5,fun a ha b hb z=>?_⟩,fun a ha b hb z=>?_⟩
  ·subst z; exact ap a ha (List.mem_append_right _ hb)
  ·subst z
   rcases List.mem_append.mp hb with hb | hb
   ·exact ap a hb (List.mem_append_left _ ha)
   ·exact n3 a ha a (List.mem_append_right _ hb) rfl
 ·have e1:=st.kept b o hb e
  by_cases hL:b ∈ L
  ·rcases hA b hL with q | q
   ·exact absurd q hb
   ·have e':F.H₀ b=some o:=e
    rw [q] at e'; cases e'
  ·exact keep b o hL e1
 ·rcases List.mem_append.mp h with h | h
  ·obtain ⟨o,e1,e2⟩:=lv a (List.mem_append_left _ h)
   exact ⟨o,by rw [kp a (List.mem_append_left _ h)]; exact e1,e2⟩
  ·rcases List.mem_append.mp h with h | h
   ·exact liv a h
   ·obtain ⟨o,e1,e2⟩:=lv a (List.mem_append_right _ h)
    exact ⟨o,by rw [kp a (List.mem_append_right _ h)]; exact e1,e2⟩
 ·rcases List.mem_append.mp h with h | h
  ·exact .inr ⟨List.mem_append_left _ h,wl a h⟩
  ·rcases List.mem_append.mp h with h | h
   ·exact .inl h
   ·exact .inr ⟨List.mem_append_right _ (List.mem_append_right _ h),ol a h⟩
 ·rcases List.mem_append.mp h with h | h
  ·exact List.mem_append_left _ h
  ·rcases List.mem_append.mp h with h | h
   ·exact absurd h hn
   ·exact List.mem_append_right _ (List.mem_append_right _ h)
end
noncomputable abbrev DTO:=DEnv->(Cell->DEnv->Prop)->Prop
noncomputable def MnO (t:DTO):Prop:=∀ ρ Q Q',(∀ c ρ',Q c ρ'->Q' c ρ')->t ρ Q->t ρ Q'
noncomputable def rdO (K:PySem.W.Frag) (F:Fx) (t:DTO):TE:=fun σ H Q=>∃ ρ O,DSt K F H σ ρ O/\t ρ fun c ρ'=>∀ v H' O' fp,Res K F H' σ ρ' O' v c fp->Stp O H O' H'->Q v H'
structure DO (X:Cx) (F:Fx) (e:Expr) (t:DTO):Prop where
 mn:MnO t
 pe:PE X e (rdO X.K F t)
section
variable {X:Cx} {F:Fx} {e:Expr} {te:DT} {to:DTO}
noncomputable def dFrz (t:DTO):DT:=fun ρ Q=>t ρ fun c ρ'=>∃ d,frz c=some d/\Q d ρ'
theorem DO.de (h:DO X F e to):DE X F e (dFrz to):=
 ⟨fun _ _ _ k q=>h.mn _ _ _ (fun _ _ ⟨d,e,q⟩=>⟨d,e,k _ _ q⟩) q,h.pe.imp fun σ H Q ⟨ρ,O,st,q⟩=>⟨ρ,O,st,h.mn _ _ _ (fun c ρ' ⟨d,e,q⟩ v H' O' fp r s=>by
  obtain ⟨O2,st2,s2,dv⟩:=r.frz e
  exact q v H' O2 st2 (s.trans s2) dv) q⟩⟩
end
end L2.L3
namespace L2.L3
open PySem PySem.Spec PyProof.Rows
noncomputable abbrev DTG:=PyData->DEnv->(DEnv->Prop)->Prop
noncomputable def rdG (K:PySem.W.Frag) (F:Fx) (t:DTG):TG:=fun v σ H Q=>∃ ρ O d,DSt K F H σ ρ O/\DV (hide O H) v d/\t d ρ fun ρ'=>∀ σ' H' O',DSt K F H' σ' ρ' O'->Stp O H O' H'->Q σ' H'
structure DG (X:Cx) (F:Fx) (tg:Expr) (t:DTG):Prop where
 mn:∀ d ρ Q Q',(∀ ρ',Q ρ'->Q' ρ')->t d ρ Q->t d ρ Q'
 pg:PG X tg (rdG X.K F t)
noncomputable abbrev DTGs:=List PyData->DEnv->(DEnv->Prop)->Prop
noncomputable def rdGs (K:PySem.W.Frag) (F:Fx) (t:DTGs):TGs:=fun vs σ H Q=>∃ ρ O ds,DSt K F H σ ρ O/\DVs (hide O H) vs ds/\t ds ρ fun ρ'=>∀ σ' H' O',DSt K F H' σ' ρ' O'->Stp O H O' H'->Q σ' H'
structure DGs (X:Cx) (F:Fx) (tg:List Expr) (t:DTGs):Prop where
 mn:∀ d ρ Q Q',(∀ ρ',Q ρ'->Q' ρ')->t d ρ Q->t d ρ Q'
 pg:PGs X tg (rdGs X.K F t)
theorem _root_.L2.PG.imp {X:Cx} {e:Expr} {t t':TG} (h:PG X e t) (k:∀ v σ H Q,t' v σ H Q->t v σ H Q):PG X e t':=fun pins s σ H v u Q I r q=>h pins s σ H v u Q I r (k v σ H Q q)
theorem _root_.L2.PGs.imp {X:Cx} {e:List Expr} {t t':TGs} (h:PGs X e t) (k:∀ v σ H Q,t' v σ H Q->t v σ H Q):PGs X e t':=fun pins s σ H v u Q I r q=>h pins s σ H v u Q I r (k v σ H Q q)
section
variable {X:Cx} {F:Fx} {e:Expr} {es:List Expr} {pos:Pos} {x:Str} {t:DTG} {ts:DTGs}
noncomputable def gN (i:Nat):DTG:=fun d ρ Q=>Q (ρ.set i (some (.dat d)))
theorem dg_name {i:Nat} (h:PG X (.Name x pos) (gName i)):DG X F (.Name x pos) (gN i):=⟨fun _ _ _ _ k q=>k _ q,h.imp fun v σ H Q ⟨ρ,O,d,st,hd,q⟩=>q _ H O (st.set hd) .refl⟩
noncomputable def gNl:DTGs:=fun ds ρ Q=>ds=[]/\Q ρ
noncomputable def gCs (t:DTG) (u:DTGs):DTGs:=fun ds ρ Q=>∃ d r,ds=d :: r/\t d ρ fun ρ'=>u r ρ' Q
theorem dgs_nil:DGs X F [] gNl:=⟨fun _ _ _ _ k q=>⟨q.1,k _ q.2⟩,pgs_nil.imp fun vs σ H Q ⟨ρ,O,ds,st,hd,e,q⟩=>by
 subst e
 cases hd
 exact ⟨rfl,q _ H O st .refl⟩⟩
theorem dgs_cons (h1:DG X F e t) (h2:DGs X F es ts) (hs:(assignEach (e :: es) X.env).map (·.2)=assign e X.env :: (assignEach es X.env).map (·.2):=by rfl):DGs X F (e :: es) (gCs t ts):=
 ⟨fun _ _ _ _ k ⟨d,r,e,q⟩=>⟨d,r,e,h1.mn _ _ _ _ (fun _ q1=>h2.mn _ _ _ _ k q1) q⟩,(pgs_cons h1.pg h2.pg hs).imp fun vs σ H Q ⟨ρ,O,ds,st,hd,d,r,e,q⟩=>by
  subst e
  cases hd with
  | cons hd hr=>
   exact ⟨_,_,rfl,ρ,O,d,st,hd,h1.mn _ _ _ _ (fun ρ1 q1 σ1 H1 O1 st1 s1=>⟨ρ1,O1,r,st1,DVs.mono s1.hid hr,h2.mn _ _ _ _ (fun ρ2 q2 σ2 H2 O2 st2 s2=>q2 σ2 H2 O2 st2 (s1.trans s2)) q1⟩) q⟩⟩
noncomputable def gTp (n:Nat) (t:DTGs):DTG:=fun d ρ Q=>∃ ds,d=.tuple ds/\ds.length=n/\t ds ρ Q
theorem dg_tup {k n:Nat} (hc:X.calm=true) (h:DGs X F es ts) (hn:(assignEach es X.env).length=n:=by rfl) (hst:(assignEach es X.env).findIdx? (·.1)=none:=by rfl):DG X F (.Tuple es k pos) (gTp n ts):=
 ⟨fun _ _ _ _ k ⟨ds,e,l,q⟩=>⟨ds,e,l,h.mn _ _ _ _ k q⟩,(pg_tup hc h.pg hn hst).imp fun v σ H Q ⟨ρ,O,d,st,hd,ds,e,l,q⟩=>by
  subst e
  obtain ⟨a,xs,rfl,ha,hx⟩:=hd.tup_inv
  exact ⟨a,xs,rfl,.inl (of_hideR ha).1,by rw [hx.length]; exact l,ρ,O,ds,st,hx,q⟩⟩
end
structure DEnds where
 nx:DEnv->Prop
 rt:Cell->DEnv->Prop
 bk:DEnv->Prop:=fun _=>False
 ct:DEnv->Prop:=fun _=>False
noncomputable abbrev DTS:=DEnds->DEnv->Prop
structure Fits (K:PySem.W.Frag) (F:Fx) (O:List Addr) (H:Hp) (D:Ends) (DD:DEnds):Prop where
 nx:∀ σ' H' ρ' O',DSt K F H' σ' ρ' O'->Stp O H O' H'->DD.nx ρ'->D.nx σ' H'
 rt:∀ v σ' H' c ρ' O' fp,Res K F H' σ' ρ' O' v c fp->Stp O H O' H'->DD.rt c ρ'->D.rt v H'
 bk:∀ σ' H' ρ' O',DSt K F H' σ' ρ' O'->Stp O H O' H'->DD.bk ρ'->D.bk σ' H'
 ct:∀ σ' H' ρ' O',DSt K F H' σ' ρ' O'->Stp O H O' H'->DD.ct ρ'->D.ct σ' H'
theorem Fits.later {K:PySem.W.Frag} {F:Fx} {O O':List Addr} {H H':Hp} {D:Ends} {DD:DEnds} (f:Fits K F O H D DD) (s:Stp O H O' H'):Fits K F O' H' D DD:=
 ⟨fun σ H ρ O st s' q=>f.nx σ H ρ O st (s.trans s') q,fun v σ H c ρ O fp r s' q=>f.rt v σ H c ρ O fp r (s.trans s') q,fun σ H ρ O st s' q=>f.bk σ H ρ O st (s.trans s') q,fun σ H ρ O st s' q=>f.ct σ H ρ O st (s.trans s') q⟩
noncomputable def rdS (K:PySem.W.Frag) (F:Fx) (t:DTS):TS:=fun D σ H=>∃ ρ O DD,DSt K F H σ ρ O/\t DD ρ/\Fits K F O H D DD
noncomputable def DS (X:Cx) (F:Fx) (s:Stmt) (t:DTS):Prop:=PS X s (rdS X.K F t)
noncomputable def DSs (X:Cx) (F:Fx) (s:List Stmt) (t:DTS):Prop:=PSs X s (rdS X.K F t)
section
variable {X:Cx} {F:Fx} {e:Expr} {es:List Expr} {st:Stmt} {rest:List Stmt} {t u:DTS} {te:DT} {to:DTO} {tA:DTA} {tc:DTT} {tg:DTG} {pos:Pos} {x:Str}
noncomputable def sNext:DTS:=fun D ρ=>D.nx ρ
noncomputable def sSeq (t u:DTS):DTS:=fun D ρ=>t { D with nx:=fun ρ'=>u D ρ' } ρ
theorem dss_nil:DSs X F [] sNext:=pss_nil.imp fun D σ H ⟨ρ,O,DD,st,q,f⟩=>f.nx σ H ρ O st .refl q
theorem dss_cons (h1:DS X F st t) (h2:DSs X F rest u):DSs X F (st :: rest) (sSeq t u):=
 (pss_cons h1 h2).imp fun D σ H ⟨ρ,O,DD,s,q,f⟩=>⟨ρ,O,_,s,q,⟨fun σ' H' ρ' O' st' s' q'=>⟨ρ',O',DD,st',q',f.later s'⟩,f.rt,f.bk,f.ct⟩⟩
theorem dss_one (h:DS X F st t):DSs X F [st] t:=pss_one h
noncomputable def sSet (te:DT) (tg:DTG):DTS:=fun D ρ=>te ρ fun d ρ'=>tg d ρ' D.nx
theorem ds_asg {tgt:Expr} (he:DE X F e te) (hg:DG X F tgt tg) (hs:swapsWithSole [tgt] e pos.line X.env=pure false:=by rfl) (hw:swappedStores [tgt] e X.env=pure none:=by rfl)
  (h1:(assignEach [tgt] X.env).map (·.2)=[assign tgt X.env]:=by rfl):DS X F (.Assign [tgt] e pos) (sSet te tg):=
 (ps_asg he.pe hg.pg hs hw h1).imp fun D σ H ⟨ρ,O,DD,st,q,f⟩=>⟨ρ,O,st,he.mn _ _ _ (fun d ρ1 q1 v H1 O1 st1 s1 d1=>⟨ρ1,O1,d,st1,d1,hg.mn _ _ _ _ (fun ρ2 q2 σ2 H2 O2 st2 s2=>f.nx σ2 H2 ρ2 O2 st2 (s1.trans s2) q2) q1⟩) q⟩
theorem ds_set {i:Nat} {pos':Pos} (hN:X.N.Nodup) (hi:X.N[i]? = some x) (hx:Loc X.env.scope x) (he:DE X F e te) (hs:swapsWith e (some (.Name x pos')) pos.line X.env=pure false:=by rfl)
  (hf:X.fn x=true\/X.env.scope.names.lookup x=some .local:=by first | exact .inl rfl | exact .inr rfl | assumption):DS X F (.Assign [.Name x pos'] e pos) (sSet te (gN i)):=
 (ps_set hN hi hx he.pe hs hf).imp fun D σ H ⟨ρ,O,DD,st,q,f⟩=>⟨ρ,O,st,he.mn _ _ _ (fun d ρ1 q1 v H1 O1 st1 s1 d1=>f.nx _ H1 _ O1 (st1.set d1) s1 q1) q⟩
noncomputable def sRet (te:DT):DTS:=fun D ρ=>te ρ fun d ρ'=>D.rt (.dat d) ρ'
theorem ds_ret (he:DE X F e te):DS X F (.Return (some e) pos) (sRet te):=
 (ps_ret he.pe).imp fun D σ H ⟨ρ,O,DD,st,q,f⟩=>⟨ρ,O,st,he.mn _ _ _ (fun d ρ1 q1 v H1 O1 st1 s1 d1=>f.rt v σ H1 (.dat d) ρ1 O1 [] (res_dat st1 d1) s1 q1) q⟩
noncomputable def sRetO (to:DTO):DTS:=fun D ρ=>to ρ fun c ρ'=>D.rt c ρ'
theorem ds_retO (he:DO X F e to):DS X F (.Return (some e) pos) (sRetO to):=
 (ps_ret he.pe).imp fun D σ H ⟨ρ,O,DD,st,q,f⟩=>⟨ρ,O,st,he.mn _ _ _ (fun c ρ1 q1 v H1 O1 fp r s1=>f.rt v σ H1 c ρ1 O1 fp r s1 q1) q⟩
noncomputable def sSetO (i:Nat) (to:DTO):DTS:=fun D ρ=>to ρ fun c ρ'=>i < ρ'.length/\(∀ b,c ≠ .own true b)/\D.nx (ρ'.set i (some c))
theorem ds_setO {i:Nat} {pos':Pos} (hN:X.N.Nodup) (hi:X.N[i]? = some x) (hx:Loc X.env.scope x) (he:DO X F e to) (hs:swapsWith e (some (.Name x pos')) pos.line X.env=pure false:=by rfl)
  (hf:X.fn x=true\/X.env.scope.names.lookup x=some .local:=by first | exact .inl rfl | exact .inr rfl | assumption):DS X F (.Assign [.Name x pos'] e pos) (sSetO i to):=
 (ps_set hN hi hx he.pe hs hf).imp fun D σ H ⟨ρ,O,DD,st,q,f⟩=>⟨ρ,O,st,he.mn _ _ _ (fun c ρ1 ⟨hl,hn,q1⟩ v H1 O1 fp r s1=>by
  obtain ⟨O2,st2,s2⟩:=DSt.put1 (io:=true) r.st r.at_ r.new hl (fun b z=>absurd z (hn b))
  exact f.nx _ H1 _ O2 st2 (s1.trans s2) q1) q⟩
noncomputable def sDropO (to:DTO):DTS:=fun D ρ=>to ρ fun _ ρ'=>D.nx ρ'
theorem ds_exprO (he:DO X F e to) (hs:swapsWith e none pos.line X.env=pure false:=by rfl):DS X F (.Expr e pos) (sDropO to):=
 (ps_expr he.pe hs).imp fun D σ H ⟨ρ,O,DD,st,q,f⟩=>⟨ρ,O,st,he.mn _ _ _ (fun c ρ1 q1 v H1 O1 fp r s1=>by
  obtain ⟨O2,st2,s2⟩:=r.drop
  exact f.nx _ _ _ _ st2 (s1.trans s2) q1) q⟩
noncomputable def sIf (tc:DTT) (t u:DTS):DTS:=fun D ρ=>tc ρ fun b ρ'=>if b=true then t D ρ' else u D ρ'
theorem ds_if {c:Expr} {a b:List Stmt} (hc:DB X F c tc) (ha:DSs X F a t) (hb:DSs X F b u):DS X F (.If c a b pos) (sIf tc t u):=
 (ps_if hc.pt ha hb).imp fun D σ H ⟨ρ,O,DD,st,q,f⟩=>⟨ρ,O,st,hc.mn _ _ _ (fun b ρ1 q1 H1 O1 st1 s1=>by
  cases b with
  | true=>exact iteT ⟨ρ1,O1,DD,st1,ofT q1,f.later s1⟩
  | false=>exact iteF ⟨ρ1,O1,DD,st1,ofF q1,f.later s1⟩) q⟩
end
end L2.L3
namespace L2.L3
open PySem PySem.Spec PyProof.Rows
inductive OutF where
 | rt (c:Cell) (outs:List Bx) | ex (c:Str) (outs:List Bx) | bad
noncomputable abbrev FM:=List Cell->OutF
inductive ArgsAt (K:PySem.W.Frag) (H:Hp) (O:List Addr):List V->List Cell->List (List Addr)->Prop where
 | nil:ArgsAt K H O [] [] []
 | dat {v:V} {d:PyData} {vs:List V} {cs:List Cell} {fps:List (List Addr)}:DV (hide O H) v d->ArgsAt K H O vs cs fps->ArgsAt K H O (v :: vs) (.dat d :: cs) ([] :: fps)
 | oth {v:V} {c:Cell} {vs:List V} {cs:List Cell} {fps:List (List Addr)}:(∀ d,c ≠ .dat d)->(∀ io b,c ≠ .own io b)->CellAt K H O v c []->ArgsAt K H O vs cs fps->ArgsAt K H O (v :: vs) (c :: cs) ([] :: fps)
 | own {a:Addr} {b:Bx} {fp:List Addr} {vs:List V} {cs:List Cell} {fps:List (List Addr)}:BoxAt (hide O H) H a b fp->ArgsAt K H O vs cs fps->ArgsAt K H O (.ref a :: vs) (.own true b :: cs) (fp :: fps)
inductive OutsAt (H:Hp) (O:List Addr):List V->List Cell->List Bx->List (List Addr)->Prop where
 | nil:OutsAt H O [] [] [] []
 | skip {v:V} {c:Cell} {vs:List V} {cs:List Cell} {bs:List Bx} {fps:List (List Addr)}:(∀ io b,c ≠ .own io b)->OutsAt H O vs cs bs fps->OutsAt H O (v :: vs) (c :: cs) bs fps
 | own {a:Addr} {io:Bool} {b b':Bx} {fp:List Addr} {vs:List V} {cs:List Cell} {bs:List Bx} {fps:List (List Addr)}:BoxAt (hide O H) H a b' fp->OutsAt H O vs cs bs fps->OutsAt H O (.ref a :: vs) (.own io b :: cs) (b' :: bs) (fp :: fps)
structure Beh (H H':Hp) (L L' O₀:List Addr):Prop where
 nd:(L' ++ O₀).Nodup
 live:∀ a ∈ L',∃ o,H' a=some o/\Mv o
 keep:∀ b o,b ∉ L->H b=some o->H' b=some o
 new:∀ a ∈ L',a ∈ L\/H a=none
noncomputable def spF (K:PySem.W.Frag) (mg:Str->Option Value) (f:FM):Sp:=fun vs H Q E=>GH mg H/\∃ (cs:List Cell) (fps:List (List Addr)) (O₀:List Addr),ArgsAt K H (fps.flatten ++ O₀) vs cs fps/\(fps.flatten ++ O₀).Nodup/\(∀ a ∈ fps.flatten ++ O₀,∃ o,H a=some o/\Mv o)/\
 match f cs with
 | .rt c outs=>∀ v H' fp fps',CellAt K H' (fps'.flatten ++ fp ++ O₀) v c fp->OutsAt H' (fps'.flatten ++ fp ++ O₀) vs cs outs fps'->Beh H H' fps.flatten (fps'.flatten ++ fp) O₀->Q v H'
 | .ex c outs=>∀ C H' fps',mg c=some C->OutsAt H' (fps'.flatten ++ O₀) vs cs outs fps'->Beh H H' fps.flatten fps'.flatten O₀->E C none H'
 | .bad=>False
theorem ArgsAt.len {K:PySem.W.Frag} {H:Hp} {O:List Addr} {vs:List V} {cs:List Cell} {fps:List (List Addr)} (h:ArgsAt K H O vs cs fps):vs.length=cs.length/\fps.length=cs.length:=by
 induction h with
 | nil=>exact ⟨rfl,rfl⟩
 | dat _ _ ih=>exact ⟨congrArg Nat.succ ih.1,congrArg Nat.succ ih.2⟩
 | oth _ _ _ _ ih=>exact ⟨congrArg Nat.succ ih.1,congrArg Nat.succ ih.2⟩
 | own _ _ ih=>exact ⟨congrArg Nat.succ ih.1,congrArg Nat.succ ih.2⟩
theorem ArgsAt.get {K:PySem.W.Frag} {H:Hp} {O:List Addr} {vs:List V} {cs:List Cell} {fps:List (List Addr)} (h:ArgsAt K H O vs cs fps):∀ (i:Nat) (c:Cell),cs[i]? = some c->∃ v fp,vs[i]? = some v/\fps[i]? = some fp/\CellAt K H O v c fp:=by
 induction h with
 | nil=>intro i c e; simp at e
 | dat h _ ih=>
  intro i c e
  cases i with
  | zero=>simp at e; subst e; exact ⟨_,_,rfl,rfl,h⟩
  | succ i=>exact ih i c (by simpa using e)
 | oth _ _ h _ ih=>
  intro i c e
  cases i with
  | zero=>simp at e; subst e; exact ⟨_,_,rfl,rfl,h⟩
  | succ i=>exact ih i c (by simpa using e)
 | own h _ ih=>
  intro i c e
  cases i with
  | zero=>simp at e; subst e; exact ⟨_,_,rfl,rfl,⟨_,rfl,h⟩⟩
  | succ i=>exact ih i c (by simpa using e)
theorem ArgsAt.mono {K:PySem.W.Frag} {H:Hp} {O O':List Addr} {vs:List V} {cs:List Cell} {fps:List (List Addr)} (h:ArgsAt K H O vs cs fps) (s:Stp O H O' H):ArgsAt K H O' vs cs fps:=by
 induction h with
 | nil=>exact .nil
 | dat h _ ih=>exact .dat (DV.mono s.hid h) ih
 | oth h1 h2 h _ ih=>exact .oth h1 h2 (h.keep s (fun _ _=>rfl) (fun _ _ _ e=>e)) ih
 | own h _ ih=>exact .own (h.keep (fun _ _=>rfl) s.hid) ih
theorem OutsAt.mono {H:Hp} {O O':List Addr} {vs:List V} {cs:List Cell} {bs:List Bx} {fps:List (List Addr)} (h:OutsAt H O vs cs bs fps) (s:Stp O H O' H):OutsAt H O' vs cs bs fps:=by
 induction h with
 | nil=>exact .nil
 | skip h1 _ ih=>exact .skip h1 ih
 | own h _ ih=>exact .own (h.keep (fun _ _=>rfl) s.hid) ih
inductive OutS where
 | nx (ρ:DEnv) | rt (c:Cell) (ρ:DEnv) | bk (ρ:DEnv) | ct (ρ:DEnv) | ex (c:Str) (ρ:DEnv) | bad
noncomputable abbrev SM:=DEnv->OutS
noncomputable def wpS (E:Str->DEnv->Prop) (m:SM):DTS:=fun D ρ=>match m ρ with
 | .nx ρ'=>D.nx ρ'
 | .rt c ρ'=>D.rt c ρ'
 | .bk ρ'=>D.bk ρ'
 | .ct ρ'=>D.ct ρ'
 | .ex c ρ'=>E c ρ'
 | .bad=>False
@[simp] noncomputable def outsOf:List Cell->DEnv->Option (List Bx)
 | [],_=>some []
 | .own _ _ :: cs,some (.own true b) :: ρ=>(outsOf cs ρ).map (b :: ·)
 | .own _ _ :: _,_=>none
 | _ :: cs,_ :: ρ=>outsOf cs ρ
 | _ :: _,[]=>none
@[simp] noncomputable def fnM (n N:Nat) (m:SM):FM:=fun cs=>if cs.length=n then (match m (cs.map some ++ List.replicate (N - n) none) with
 | .nx ρ=>(match outsOf cs ρ with | some o=>.rt (.dat .none) o | none=>.bad)
 | .rt c ρ=>(match outsOf cs ρ with | some o=>.rt c o | none=>.bad)
 | .ex c ρ=>(match outsOf cs ρ with | some o=>.ex c o | none=>.bad)
 | _=>.bad) else .bad
section
variable {K:PySem.W.Frag} {F:Fx} {H:Hp} {σ:St} {ρ:DEnv} {W:List (List Addr)}
theorem drop_cons {α:Type} {l:List α} {k:Nat} {x:α} {r:List α} (h:l.drop k=x :: r):l[k]? = some x/\l.drop (k + 1)=r:=by
 constructor
 ·rw [<-List.head?_drop,h]; rfl
 ·rw [<-List.drop_drop,h]; rfl
theorem exit_go (st:DStW K F H σ ρ W):∀ (cs:List Cell) (vs:List V) (k:Nat) (outs:List Bx),vs.length=cs.length->(∀ (i:Nat) io b,cs[i]? = some (.own io b)->vs[i]? = some (.ref (F.I₀ (k + i))))->outsOf cs (ρ.drop k)=some outs->
  ∃ fps,OutsAt H (W.flatten ++ F.O₀) vs cs outs fps/\fps.flatten.Sublist (W.drop k).flatten
 | [],[],k,outs,_,_,e=>by cases e; exact ⟨[],.nil,by simp⟩
 | [],_ :: _,_,_,hl,_,_=>by cases hl
 | _ :: _,[],_,_,hl,_,_=>by cases hl
 | c :: cs,v :: vs,k,outs,hl,hI,e=>by
  have hl':vs.length=cs.length:=Nat.succ.inj hl
  have hI':∀ (i:Nat) io b,cs[i]? = some (.own io b)->vs[i]? = some (.ref (F.I₀ (k + 1 + i))):=fun i io b h=>by
   have:=hI (i + 1) io b (by simpa using h)
   rw [show k + 1 + i=k + (i + 1) by omega]
   simpa using this
  have sub1:(W.drop (k + 1)).flatten.Sublist (W.drop k).flatten:=by
   cases hw:W.drop k with
   | nil=>rw [show W.drop (k + 1)=[] from by rw [<-List.drop_drop,hw]; rfl]; exact List.Sublist.refl _
   | cons w r=>rw [(drop_cons hw).2,List.flatten_cons]; exact List.sublist_append_right _ _
  cases hd:ρ.drop k with
  | nil=>
   rw [hd] at e
   cases c with
   | own io b=>cases e
   | dat d=>cases e
   | scr n=>cases e
   | exc n=>cases e
   | vw n=>cases e
  | cons x r=>
   obtain ⟨h1,h2⟩:=drop_cons hd
   rw [hd] at e
   have nonown:(∀ io b,c ≠ .own io b)->outsOf cs r=some outs->∃ fps,OutsAt H (W.flatten ++ F.O₀) (v :: vs) (c :: cs) outs fps/\fps.flatten.Sublist (W.drop k).flatten:=fun hn he=>by
    obtain ⟨fps,o,s⟩:=exit_go st cs vs (k + 1) outs hl' hI' (by rw [h2]; exact he)
    exact ⟨fps,.skip hn o,s.trans sub1⟩
   cases c with
   | dat d=>exact nonown (fun _ _ z=>by cases z) e
   | scr n=>exact nonown (fun _ _ z=>by cases z) e
   | exc n=>exact nonown (fun _ _ z=>by cases z) e
   | vw n=>exact nonown (fun _ _ z=>by cases z) e
   | own io b=>
    cases x with
    | none=>cases e
    | some x=>
     cases x with
     | dat d=>cases e
     | scr n=>cases e
     | exc n=>cases e
     | vw n=>cases e
     | own io' b'=>
      cases io' with
      | false=>cases e
      | true=>
       cases q:outsOf cs r with
       | none=>simp [outsOf,q] at e
       | some o'=>
        simp [outsOf,q] at e
        subst e
        obtain ⟨fps,o,s⟩:=exit_go st cs vs (k + 1) o' hl' hI' (by rw [h2]; exact q)
        obtain ⟨u,fp,e1,e2,a,rfl,bx⟩:=st.at_ k _ h1
        have e3:=st.io k b' h1
        rw [e1] at e3
        have ea:a=F.I₀ k:=by cases e3; rfl
        have hv:=hI 0 io b rfl
        have hv':v=.ref a:=by rw [ea]; simpa using hv
        subst hv'
        refine ⟨fp :: fps,.own bx o,?_⟩
        cases hw:W.drop k with
        | nil=>rw [<-List.head?_drop,hw] at e2; cases e2
        | cons w wr=>
         obtain ⟨w1,w2⟩:=drop_cons hw
         rw [e2] at w1
         cases w1
         rw [List.flatten_cons,List.flatten_cons]
         rw [w2] at s
         exact List.Sublist.append (List.Sublist.refl _) s
end
theorem flat_rep {α:Type} (n:Nat):(List.replicate n ([]:List α)).flatten=[]:=by induction n with | zero=>rfl | succ n ih=>rw [List.replicate_succ,List.flatten_cons,ih]; rfl
noncomputable def startD (N n:Nat) (cs:List Cell):DEnv:=cs.map some ++ List.replicate (N - n) none
section
variable {P:Program} {w:World} {K:PySem.W.Frag} {mg:Str->Option Value} {base:Heap} {x qual:Str} {st:Stmt} {f:Addr} {fd:FuncData} {N ps:List Str} {k:Nat} {m:SM}
noncomputable def ioAt (vs:List V) (i:Nat):Addr:=match vs[i]? with
 | some (.ref a)=>a
 | _=>0
theorem dst_start {H:Hp} {vs:List V} {cs:List Cell} {fps:List (List Addr)} {O₀:List Addr} (ha:ArgsAt K H (fps.flatten ++ O₀) vs cs fps) (nd:(fps.flatten ++ O₀).Nodup) (live:∀ a ∈ fps.flatten ++ O₀,∃ o,H a=some o/\Mv o) (hl:cs.length<=N.length) :
  DStW K ⟨H,fps.flatten,O₀,ioAt vs⟩ H (start N vs) (startD N.length cs.length cs) (fps ++ List.replicate (N.length - cs.length) []):=by
 have fl:(fps ++ List.replicate (N.length - cs.length) ([]:List Addr)).flatten=fps.flatten:=by rw [List.flatten_append,flat_rep,List.append_nil]
 obtain ⟨l1,l2⟩:=ha.len
 have get:∀ (i:Nat) c,(startD N.length cs.length cs)[i]? = some (some c)->cs[i]? = some c:=fun i c e=>by
  unfold startD at e
  by_cases h:i < cs.length
  ·rw [List.getElem?_append_left (by simpa using h),List.getElem?_map] at e
   obtain ⟨d,h1,h2⟩:=Option.map_eq_some_iff.mp e
   cases h2
   exact h1
  ·rw [List.getElem?_append_right (by simpa using Nat.le_of_not_lt h),List.getElem?_replicate] at e
   split at e <;> cases e
 have put:∀ (i:Nat) v,vs[i]? = some v->(start N vs)[i]? = some (some v):=fun i v e=>by
  unfold start
  rw [List.getElem?_append_left (by simpa using (List.getElem?_eq_some_iff.mp e).1),List.getElem?_map,e]
  rfl
 refine ⟨fun i c e=>?_,by rw [fl]; exact nd,fun _ _ _ h=>h,fun a h=>.inl (by rw [fl] at h; exact h),by rw [fl]; exact live,?_,?_,fun i b e=>?_⟩
 ·obtain ⟨v,fp,h1,h2,h3⟩:=ha.get i c (get i c e)
  exact ⟨v,fp,put i v h1,by rw [List.getElem?_append_left (List.getElem?_eq_some_iff.mp h2).1]; exact h2,by rw [fl]; exact h3⟩
 ·unfold startD start
  rw [List.length_append,List.length_append,List.length_map,List.length_map,List.length_replicate,List.length_replicate,l1]
 ·unfold startD
  rw [List.length_append,List.length_append,List.length_map,List.length_replicate,List.length_replicate,l2]
 ·obtain ⟨v,fp,h1,h2,a,rfl,h3⟩:=ha.get i _ (get i _ e)
  rw [put i _ h1]
  show _=some (some (V.ref (ioAt vs i)))
  unfold ioAt
  rw [h1]
theorem ArgsAt.ios {H:Hp} {O:List Addr} {vs:List V} {cs:List Cell} {fps:List (List Addr)} (h:ArgsAt K H O vs cs fps):∀ (i:Nat) io b,cs[i]? = some (.own io b)->vs[i]? = some (.ref (ioAt vs (0 + i))):=fun i io b e=>by
 obtain ⟨v,fp,h1,_,a,rfl,_⟩:=h.get i _ e
 rw [Nat.zero_add]
 unfold ioAt
 rw [h1]
theorem fn_F (Fn:Fun K x qual st f fd) (S:FnScope N ps (defScope st)) (hN:ps.length<=N.length)
  (der:∀ (cdv:Value) (A:Around) (outer:List Env) (s:Shared) (H:Hp) (E:XK) (F:Fx) (E':Str->DEnv->Prop),Room k (A.deeper (envOfC qual (defScope st) s.heap.objs.size f cdv))->XOk (cxOf (CXM P w) P w K mg base N qual (defScope st) f cdv A outer s H E) F E'->
   DSs (cxOf (CXM P w) P w K mg base N qual (defScope st) f cdv A outer s H E) F (defBody st) (wpS E' m)):FnOk P w K mg base (CXM P w) (k + 1) f fd ps (spF K mg (fnM ps.length N.length m)):=by
 obtain ⟨oc,od,kV,doc,pm,an,cdv,ct,osl,rfl,lk,hcd⟩:=Fn.ex
 have hlen:∀ vs H Q E,spF K mg (fnM ps.length N.length m) vs H Q E->vs.length=ps.length:=fun vs H Q E ⟨_,cs,fps,O₀,ha,_,_,q⟩=>by
  rw [ha.len.1]
  unfold fnM at q
  by_cases h:cs.length=ps.length
  ·exact h
  ·rw [if_neg h] at q; exact q.elim
 refine fn_of lk hcd S hlen fun A outer s H vs Q E hr hsp=>?_
 have hlv:=hlen vs H Q E hsp
 obtain ⟨gh,cs,fps,O₀,ha,nd,live,q⟩:=hsp
 obtain ⟨l1,l2⟩:=ha.len
 have hlc:cs.length=ps.length:=by omega
 let F:Fx:=⟨H,fps.flatten,O₀,ioAt vs⟩
 have st0:=dst_start (N:=N) ha nd live (by omega)
 have fin:∀ {σ':St} {H':Hp} {ρ':DEnv} {O':List Addr} {fp:List Addr} {outs:List Bx},DSt K (F.plus fp) H' σ' ρ' O'->(∀ a ∈ fp,a ∈ F.A₀\/F.H₀ a=none)->outsOf cs ρ' = some outs->∃ fps',OutsAt H' (fps'.flatten ++ fp ++ O₀) vs cs outs fps'/\Beh H H' fps.flatten (fps'.flatten ++ fp) O₀/\Stp O' H' (fps'.flatten ++ fp ++ O₀) H':=by
  rintro σ' H' ρ' O' fp outs ⟨W,st',rfl⟩ hfp ho
  obtain ⟨fps',o,sb⟩:=exit_go st' cs vs 0 outs l1 (fun i io b e=>ha.ios i io b e) ho
  have sb':fps'.flatten.Sublist W.flatten:=sb
  have sub:(fps'.flatten ++ fp ++ O₀).Sublist (W.flatten ++ (fp ++ O₀)):=by rw [List.append_assoc]; exact List.Sublist.append sb' (List.Sublist.refl _)
  have stp:Stp (W.flatten ++ (fp ++ O₀)) H' (fps'.flatten ++ fp ++ O₀) H':=stp_less fun a h=>sub.subset h
  refine ⟨fps',o.mono stp,⟨st'.nd.sublist sub,fun a h=>st'.live a (sub.subset (List.mem_append_left _ h)),fun b o hb e=>st'.kept b o hb e,fun a h=>?_⟩,stp⟩
  rcases List.mem_append.mp h with h | h
  ·exact st'.new a (sb'.subset h)
  ·exact hfp a h
 have hfn:fnM ps.length N.length m cs=(match m (startD N.length ps.length cs) with
  | .nx ρ=>(match outsOf cs ρ with | some o=>.rt (.dat .none) o | none=>.bad)
  | .rt c ρ=>(match outsOf cs ρ with | some o=>.rt c o | none=>.bad)
  | .ex c ρ=>(match outsOf cs ρ with | some o=>.ex c o | none=>.bad)
  | _=>.bad):=by unfold fnM startD; rw [if_pos hlc]
 rw [hfn] at q
 rw [hlc] at st0
 let E':Str->DEnv->Prop:=fun c ρ'=>∃ outs,outsOf cs ρ' = some outs/\∀ C H' fps',mg c=some C->OutsAt H' (fps'.flatten ++ O₀) vs cs outs fps'->Beh H H' fps.flatten fps'.flatten O₀->E C none H'
 refine ⟨_,der cdv A outer s H E F E' hr (xok_fn (gh.frame fun a h=>live a (List.mem_append_left _ h)) fun c C ρ' σ' H' O' hm st' ⟨outs,ho,k⟩=>?_),?_⟩
 ·obtain ⟨fps',o,b,_⟩:=fin (fp:=[]) st' (fun a h=>by cases h) ho
  rw [List.append_nil] at o b
  exact k C H' fps' hm o b
 ·refine ⟨startD N.length ps.length cs,_,⟨fun ρ'=>∃ outs,outsOf cs ρ' = some outs/\∀ H' fps',OutsAt H' (fps'.flatten ++ [] ++ O₀) vs cs outs fps'->Beh H H' fps.flatten (fps'.flatten ++ []) O₀->Q .non H',fun c ρ'=>∃ outs,outsOf cs ρ' = some outs/\∀ v H' fp fps',CellAt K H' (fps'.flatten ++ fp ++ O₀) v c fp->OutsAt H' (fps'.flatten ++ fp ++ O₀) vs cs outs fps'->Beh H H' fps.flatten (fps'.flatten ++ fp) O₀->Q v H',fun _=>False,fun _=>False⟩,⟨_,st0,rfl⟩,?_,?_⟩
  ·unfold wpS
   cases hm:m (startD N.length ps.length cs) with
   | nx ρ'=>
    rw [hm] at q
    cases ho:outsOf cs ρ' with
    | none=>simp [ho] at q
    | some outs=>
     simp only [ho] at q
     exact ⟨outs,ho,fun H' fps' o b=>q .non H' [] fps' .non o b⟩
   | rt c ρ'=>
    rw [hm] at q
    cases ho:outsOf cs ρ' with
    | none=>simp [ho] at q
    | some outs=>
     simp only [ho] at q
     exact ⟨outs,ho,q⟩
   | ex c ρ'=>
    rw [hm] at q
    cases ho:outsOf cs ρ' with
    | none=>simp [ho] at q
    | some outs=>
     simp only [ho] at q
     exact ⟨outs,ho,q⟩
   | bk ρ'=>rw [hm] at q; exact q
   | ct ρ'=>rw [hm] at q; exact q
   | bad=>rw [hm] at q; exact q
  ·refine ⟨fun σ' H' ρ' O' st' s' ⟨outs,ho,k⟩=>?_,fun v σ' H' c ρ' O' fp r s' ⟨outs,ho,k⟩=>?_,fun _ _ _ _ _ _ z=>z.elim,fun _ _ _ _ _ _ z=>z.elim⟩
   ·obtain ⟨fps',o,b,_⟩:=fin (fp:=[]) st' (fun a h=>by cases h) ho
    exact k H' fps' o b
   ·obtain ⟨fps',o,b,stp⟩:=fin r.st r.new ho
    exact k v H' fp fps' (r.at_.keep stp (fun _ _=>rfl) (fun _ _ _ e=>e)) o b
end
end L2.L3
namespace L2.L3
open PySem PySem.Spec PyProof.Rows
inductive AX where
 | d (x:PyData) | s (j:Nat)
inductive AxAt (σ:St) (G:Hp):List V->List AX->Prop where
 | nil:AxAt σ G [] []
 | d {v:V} {x:PyData} {vs:List V} {as:List AX}:DV G v x->AxAt σ G vs as->AxAt σ G (v :: vs) (.d x :: as)
 | s {v:V} {j:Nat} {vs:List V} {as:List AX}:σ[j]? = some (some v)->AxAt σ G vs as->AxAt σ G (v :: vs) (.s j :: as)
noncomputable abbrev DTX:=DEnv->(List AX->DEnv->Prop)->Prop
noncomputable def MnX (t:DTX):Prop:=∀ ρ Q Q',(∀ d ρ',Q d ρ'->Q' d ρ')->t ρ Q->t ρ Q'
noncomputable def rdX (K:PySem.W.Frag) (F:Fx) (t:DTX):TA:=fun σ H Q=>∃ ρ O,DSt K F H σ ρ O/\t ρ fun as ρ'=>∀ vs H' O',DSt K F H' σ ρ' O'->Stp O H O' H'->AxAt σ (hide O' H') vs as->Q vs H'
structure DX (X:Cx) (F:Fx) (es:List Expr) (t:DTX):Prop where
 mn:MnX t
 pa:PA X es (rdX X.K F t)
section
variable {X:Cx} {F:Fx} {e:Expr} {es:List Expr} {te:DT} {tX:DTX} {x:Str} {p:Pos} {j:Nat}
noncomputable def xNil:DTX:=fun ρ Q=>Q [] ρ
noncomputable def xVal (te:DT) (t:DTX):DTX:=fun ρ Q=>te ρ fun d ρ1=>t ρ1 fun as ρ2=>Q (.d d :: as) ρ2
noncomputable def xSlot (j:Nat) (t:DTX):DTX:=fun ρ Q=>(∃ c,ρ[j]? = some (some c))/\t ρ fun as ρ2=>Q (.s j :: as) ρ2
theorem dx_nil:DX X F [] xNil:=⟨fun _ _ _ k q=>k _ _ q,pa_nil.imp fun σ H Q ⟨ρ,O,st,q⟩=>q [] H O st .refl .nil⟩
theorem dx_val (ha:DE X F e te) (hr:DX X F es tX) (hs:starEach (e :: es) X.env=(false,eval e X.env) :: starEach es X.env:=by rfl):DX X F (e :: es) (xVal te tX):=
 ⟨fun _ _ _ k q=>ha.mn _ _ _ (fun _ _ q1=>hr.mn _ _ _ (fun _ _ q2=>k _ _ q2) q1) q,(pa_cons ha.pe hr.pa hs).imp fun σ H Q ⟨ρ,O,st,q⟩=>
  ⟨ρ,O,st,ha.mn _ _ _ (fun d ρ1 q1 v H1 O1 st1 s1 d1=>⟨ρ1,O1,st1,hr.mn _ _ _ (fun as ρ2 q2 vs H2 O2 st2 s2 d2=>q2 (v :: vs) H2 O2 st2 (s1.trans s2) (.d (DV.mono s2.hid d1) d2)) q1⟩) q⟩⟩
theorem dx_slot (hv:PE X (.Name x p) (tVar j)) (hr:DX X F es tX) (hs:starEach (.Name x p :: es) X.env=(false,eval (.Name x p) X.env) :: starEach es X.env:=by rfl):DX X F (.Name x p :: es) (xSlot j tX):=
 ⟨fun _ _ _ k ⟨h,q⟩=>⟨h,hr.mn _ _ _ (fun _ _ q2=>k _ _ q2) q⟩,(pa_cons hv hr.pa hs).imp fun σ H Q ⟨ρ,O,st,⟨c,hc⟩,q⟩=>by
  obtain ⟨W,h,rfl⟩:=id st
  obtain ⟨v,fp,h1,h2,h3⟩:=h.at_ j c hc
  exact ⟨v,h1,ρ,_,st,hr.mn _ _ _ (fun as ρ2 q2 vs H2 O2 st2 s2 d2=>q2 (v :: vs) H2 O2 st2 s2 (.s h1 d2)) q⟩⟩
end
@[simp] noncomputable def argCells (ρ:DEnv):List AX->Option (List Cell × List (Nat × Bool))
 | []=>some ([],[])
 | .d x :: as=>(match argCells ρ as with | some (cs,js)=>some (.dat x :: cs,js) | none=>none)
 | .s j :: as=>(match argCells ρ as with
  | some (cs,js)=>(match ρ[j]? with
   | some (some (.own io b))=>if js.any (fun p=>p.1 == j) then none else some (.own true b :: cs,(j,io) :: js)
   | some (some c)=>some (c :: cs,js)
   | _=>none)
  | none=>none)
@[simp] noncomputable def clr:List (Nat × Bool)->DEnv->DEnv
 | [],ρ=>ρ
 | (j,_) :: r,ρ=>(clr r ρ).set j none
@[simp] noncomputable def back:List (Nat × Bool)->List Bx->DEnv->DEnv
 | (j,io) :: r,b :: bs,ρ=>back r bs (ρ.set j (some (.own io b)))
 | _,_,ρ=>ρ
theorem clr_len {js:List (Nat × Bool)} {ρ:DEnv}:(clr js ρ).length=ρ.length:=by
 induction js with
 | nil=>rfl
 | cons p r ih=>obtain ⟨j,io⟩:=p; rw [clr,List.length_set,ih]
theorem clr_get {js:List (Nat × Bool)} {ρ:DEnv} {i:Nat} (h:∀ p ∈ js,p.1 ≠ i):(clr js ρ)[i]? = ρ[i]?:=by
 induction js with
 | nil=>rfl
 | cons p r ih=>
  obtain ⟨j,io⟩:=p
  rw [clr,List.getElem?_set_ne (h (j,io) List.mem_cons_self),ih fun q hq=>h q (List.mem_cons_of_mem _ hq)]
inductive JsAt (σ:St) (F:Fx) (n:Nat):List V->List Cell->List (Nat × Bool)->Prop where
 | nil:JsAt σ F n [] [] []
 | skip {v:V} {c:Cell} {vs:List V} {cs:List Cell} {js:List (Nat × Bool)}:(∀ io b,c ≠ .own io b)->JsAt σ F n vs cs js->JsAt σ F n (v :: vs) (c :: cs) js
 | own {a:Addr} {io:Bool} {b:Bx} {j:Nat} {vs:List V} {cs:List Cell} {js:List (Nat × Bool)}:σ[j]? = some (some (.ref a))->(io=true->a=F.I₀ j)->j < n->JsAt σ F n vs cs js->JsAt σ F n (.ref a :: vs) (.own true b :: cs) ((j,io) :: js)
section
variable {K:PySem.W.Frag} {F:Fx} {H H':Hp} {σ:St} {ρ:DEnv} {O O':List Addr}
theorem take_all (st:DSt K F H σ ρ O):∀ (as:List AX) (vs:List V) (cs:List Cell) (js:List (Nat × Bool)),argCells ρ as=some (cs,js)->AxAt σ (hide O H) vs as->
  ∃ fps O',DSt K (F.plus fps.flatten) H σ (clr js ρ) O'/\ArgsAt K H O' vs cs fps/\Stp O H O' H/\Stp O' H O H/\(∀ a ∈ fps.flatten,a ∈ F.A₀\/F.H₀ a=none)/\JsAt σ F ρ.length vs cs js
 | [],vs,cs,js,e,h=>by
  cases e
  cases h
  refine ⟨[],O,st,.nil,.refl,.refl,?_,.nil⟩
  intro a h
  cases h
 | .d x :: as,vs,cs,js,e,h=>by
  cases h with
  | d hv hr=>
   unfold argCells at e
   cases q:argCells ρ as with
   | none=>rw [q] at e; cases e
   | some p=>
    obtain ⟨cs',js'⟩:=p
    rw [q] at e
    simp only [Option.some.injEq,Prod.mk.injEq] at e
    obtain ⟨e1,e2⟩:=e
    obtain ⟨fps,O',st',ar,s1,s2,nw,ja⟩:=take_all st as _ cs' js' q hr
    subst e1 e2
    exact ⟨[] :: fps,O',st',.dat (DV.mono s1.hid hv) ar,s1,s2,nw,.skip (fun _ _ z=>by cases z) ja⟩
 | .s j :: as,vs,cs,js,e,h=>by
  cases h with
  | @s v _ vs _ hv hr=>
   unfold argCells at e
   cases q:argCells ρ as with
   | none=>rw [q] at e; cases e
   | some p=>
    obtain ⟨cs',js'⟩:=p
    rw [q] at e
    obtain ⟨fps,O',st',ar,s1,s2,nw,ja⟩:=take_all st as _ cs' js' q hr
    cases hc:ρ[j]? with
    | none=>rw [hc] at e; cases e
    | some oc=>
     cases oc with
     | none=>rw [hc] at e; cases e
     | some c=>
      rw [hc] at e
      obtain ⟨W,stw,hOW⟩:=id st
      obtain ⟨v',fp',h1,h2,h3⟩:=stw.at_ j c hc
      rw [hv] at h1
      have ev:v' = v:=by cases h1; rfl
      subst ev
      rw [<-hOW] at h3
      have other:(∀ io b,c ≠ .own io b)->∃ fps O',DSt K (F.plus fps.flatten) H σ (clr js' ρ) O'/\ArgsAt K H O' (v' :: vs) (c :: cs') fps/\Stp O H O' H/\Stp O' H O H/\(∀ a ∈ fps.flatten,a ∈ F.A₀\/F.H₀ a=none)/\JsAt σ F ρ.length (v' :: vs) (c :: cs') js':=fun hn=>by
       refine ⟨[] :: fps,O',st',?_,s1,s2,nw,.skip hn ja⟩
       cases c with
       | dat d=>exact .dat (DV.mono s1.hid h3) ar
       | own io b=>exact absurd rfl (hn io b)
       | scr ns=>exact .oth (fun _ z=>by cases z) (fun _ _ z=>by cases z) (CellAt.keep (c:=.scr ns) (fp:=[]) h3 s1 (fun _ _=>rfl) (fun _ _ _ e=>e)) ar
       | exc n=>exact .oth (fun _ z=>by cases z) (fun _ _ z=>by cases z) (CellAt.keep (c:=.exc n) (fp:=[]) h3 s1 (fun _ _=>rfl) (fun _ _ _ e=>e)) ar
       | vw n=>exact .oth (fun _ z=>by cases z) (fun _ _ z=>by cases z) (CellAt.keep (c:=.vw n) (fp:=[]) h3 s1 (fun _ _=>rfl) (fun _ _ _ e=>e)) ar
      cases c with
      | dat d=>
       simp only [Option.some.injEq,Prod.mk.injEq] at e
       rw [<-e.1,<-e.2]; exact other (fun _ _ z=>by cases z)
      | scr ns=>
       simp only [Option.some.injEq,Prod.mk.injEq] at e
       rw [<-e.1,<-e.2]; exact other (fun _ _ z=>by cases z)
      | exc n=>
       simp only [Option.some.injEq,Prod.mk.injEq] at e
       rw [<-e.1,<-e.2]; exact other (fun _ _ z=>by cases z)
      | vw n=>
       simp only [Option.some.injEq,Prod.mk.injEq] at e
       rw [<-e.1,<-e.2]; exact other (fun _ _ z=>by cases z)
      | own io b=>
       by_cases hj:js'.any (fun p=>p.1 == j)=true
       ·simp only [if_pos hj] at e; cases e
       ·simp only [if_neg hj,Option.some.injEq,Prod.mk.injEq] at e
        rw [<-e.1,<-e.2]
        have hjs:∀ p ∈ js',p.1 ≠ j:=fun p hp z=>hj (List.any_eq_true.mpr ⟨p,hp,by simp [z]⟩)
        obtain ⟨a,fp,O2,t1,t2,t3,t4,t5,t6,t7⟩:=st'.take (i:=j) (io:=io) (b:=b) (by rw [clr_get hjs]; exact hc)
        rw [hv] at t1
        have ev:v' = .ref a:=by cases t1; rfl
        subst ev
        rw [Fx.plus_plus] at t2
        refine ⟨fp :: fps,O2,t2,.own t3 (ar.mono t4),s1.trans t4,t5.trans s2,fun x hx=>?_,.own hv t7 (List.getElem?_eq_some_iff.mp hc).1 ja⟩
        rcases List.mem_append.mp hx with hx | hx
        ·exact t6 x hx
        ·exact nw x hx
theorem give_all {fp:List Addr} {n:Nat} {vs:List V} {cs:List Cell} {js:List (Nat × Bool)} (ja:JsAt σ F n vs cs js):∀ {outs:List Bx} {fps:List (List Addr)} {ρ:DEnv} {O:List Addr},ρ.length=n->DSt K (F.plus (fps.flatten ++ fp)) H σ ρ O->OutsAt H O vs cs outs fps->(∀ a ∈ fps.flatten,a ∈ F.A₀\/F.H₀ a=none)->
  ∃ O',DSt K (F.plus fp) H σ (back js outs ρ) O'/\Stp O H O' H:=by
 induction ja with
 | nil=>
  intro outs fps ρ O hn st oa nw
  cases oa
  exact ⟨O,st,.refl⟩
 | skip hn' _ ih=>
  intro outs fps ρ O hn st oa nw
  cases oa with
  | skip _ oa=>exact ih hn st oa nw
  | own _ _=>exact absurd rfl (hn' _ _)
 | @own a io b j vs cs js h1 h2 h3 ja ih=>
  intro outs fps ρ O hn st oa nw
  cases oa with
  | skip hn' _=>exact absurd rfl (hn' _ _)
  | @own _ _ _ b' f1 _ _ bs fr hb oa=>
   have st':DSt K ((F.plus (fr.flatten ++ fp)).plus f1) H σ ρ O:=by rw [Fx.plus_plus,<-List.append_assoc]; exact st
   obtain ⟨O1,st1,s1⟩:=DSt.put1 (io:=true) (c:=.own io b') (v:=.ref a) (i:=j) st' ⟨a,rfl,hb⟩ (fun x hx=>nw x (by rw [List.flatten_cons]; exact List.mem_append_left _ hx)) (by rw [hn]; exact h3) (fun b z=>by cases z; rw [h2 rfl]; rfl)
   have eσ:σ.set j (some (.ref a))=σ:=by
    apply List.ext_getElem?
    intro i
    by_cases hj:i=j
    ·subst hj; rw [List.getElem?_set_self (List.getElem?_eq_some_iff.mp h1).1,h1]
    ·rw [List.getElem?_set_ne (Ne.symm hj)]
   rw [eσ] at st1
   obtain ⟨O2,st2,s2⟩:=ih (by rw [List.length_set]; exact hn) st1 (oa.mono s1) (fun x hx=>nw x (by rw [List.flatten_cons]; exact List.mem_append_right _ hx))
   exact ⟨O2,st2,s1.trans s2⟩
end
noncomputable def callOn (f:FM) (E:Str->DEnv->Prop) (Q:Cell->DEnv->Prop) (as:List AX) (ρ:DEnv):Prop:=match argCells ρ as with
 | some (cs,js)=>(match f cs with
  | .rt c outs=>Q c (back js outs (clr js ρ))
  | .ex c outs=>E c (back js outs (clr js ρ))
  | .bad=>False)
 | none=>False
noncomputable def dCall (f:FM) (E:Str->DEnv->Prop) (t:DTX):DTO:=fun ρ Q=>t ρ fun as ρ1=>callOn f E Q as ρ1
section
variable {X:Cx} {F:Fx} {e:Expr} {es:List Expr} {tX:DTX} {E:Str->DEnv->Prop} {pos p:Pos} {x:Str} {f:FM} {k:Nat} {g:Addr} {fd:FuncData} {ps:List Str}
theorem callOn_mn {Q Q':Cell->DEnv->Prop} {as:List AX} {ρ:DEnv} (h:∀ c ρ',Q c ρ'->Q' c ρ') (q:callOn f E Q as ρ):callOn f E Q' as ρ:=by
 unfold callOn at q ⊢
 split
 ·rename_i cs js e
  rw [e] at q
  simp only at q
  split
  ·rename_i e2; rw [e2] at q; exact h _ _ q
  ·rename_i e2; rw [e2] at q; exact q
  ·rename_i e2; rw [e2] at q; exact q
 ·rename_i e; rw [e] at q; exact q
theorem call_on {pins:List (Addr × Obj)} {σ:St} {H:Hp} {s:Shared} {Q:VK} {us:List Value} {vs:List V} {as:List AX} {ρ:DEnv} {O:List Addr} {QC:Cell->DEnv->Prop} (hx:XOk X F E) (G:FnOk X.prog X.w X.K X.mg X.base (CXM X.prog X.w) k g fd ps (spF X.K X.mg f)) (hr:Room k X.A) (hb:Binds X.K fd ps [])
  (I:Inv X pins σ H s) (r:Vals vs us) (st:DSt X.K F H σ ρ O) (ax:AxAt σ (hide O H) vs as) (q:callOn f E QC as ρ) (hQ:∀ c ρ',QC c ρ'->∀ v H' O' fp,Res X.K F H' σ ρ' O' v c fp->Stp O H O' H'->Q v H') :
  wpAny (model X.prog X.w) X.A (call (.ref g) us) (EP X pins σ Q) X.xe s:=by
 unfold callOn at q
 cases hc:argCells ρ as with
 | none=>rw [hc] at q; exact q.elim
 | some p=>
  obtain ⟨cs,js⟩:=p
  rw [hc] at q
  simp only at q
  obtain ⟨fps,O2,st2,ar,s1,s1',nw,ja⟩:=take_all st as vs cs js hc ax
  obtain ⟨W,stw,hO2⟩:=id st2
  have ndO:(W.flatten ++ (fps.flatten ++ F.O₀)).Nodup:=stw.nd
  have memO:∀ a,a ∈ O2 ↔ a ∈ fps.flatten ++ (W.flatten ++ F.O₀):=fun a=>by
   rw [hO2]
   show a ∈ W.flatten ++ (fps.flatten ++ F.O₀) ↔ _
   simp only [List.mem_append]
   constructor
   ·rintro (h | h | h) <;> simp [h]
   ·rintro (h | h | h) <;> simp [h]
  have perm:(fps.flatten ++ (W.flatten ++ F.O₀)).Perm (W.flatten ++ (fps.flatten ++ F.O₀)):=by
   rw [<-List.append_assoc,<-List.append_assoc]
   exact List.Perm.append_right _ List.perm_append_comm
  have nd1:(fps.flatten ++ (W.flatten ++ F.O₀)).Nodup:=perm.nodup_iff.mpr ndO
  have stE:Stp O2 H (fps.flatten ++ (W.flatten ++ F.O₀)) H:=stp_less fun a h=>(memO a).mpr h
  have back2:∀ (H':Hp) (L':List Addr) (a:Addr),(a ∈ L' ++ (W.flatten ++ F.O₀))->a ∈ L'\/(a ∈ O2/\a ∉ fps.flatten):=fun H' L' a h=>by
   rcases List.mem_append.mp h with h | h
   ·exact .inl h
   ·refine .inr ⟨(memO a).mpr (List.mem_append_right _ h),fun z=>?_⟩
    exact (List.nodup_append.mp nd1).2.2 a z a h rfl
  have swapped:∀ (H':Hp) (L':List Addr),Beh H H' fps.flatten L' (W.flatten ++ F.O₀)->∃ O3,DSt X.K (F.plus L') H' σ (clr js ρ) O3/\Stp O2 H O3 H'/\∀ a,a ∈ O3 ↔ a ∈ L' ++ (W.flatten ++ F.O₀):=fun H' L' bh=>by
   obtain ⟨O3,t1,t2,t3,t4,t5⟩:=st2.swap (H':=H') (L':=L') bh.keep (List.nodup_append.mp bh.nd).1 bh.new nw bh.live
   refine ⟨O3,t1,t2,fun a=>⟨fun h=>?_,fun h=>?_⟩⟩
   ·rcases t4 a h with z | ⟨z1,z2⟩
    ·exact List.mem_append_left _ z
    ·rcases List.mem_append.mp ((memO a).mp z1) with z | z
     ·exact absurd z z2
     ·exact List.mem_append_right _ z
   ·rcases back2 H' L' a h with z | ⟨z1,z2⟩
    ·exact t3 a z
    ·exact t5 a z1 z2
  have r2:Vals (vs ++ []) (us ++ []):=by rw [List.append_nil,List.append_nil]; exact r
  let EX:XK:=fun C _ H'=>∃ c ρ' O',X.mg c=some C/\DSt X.K F H' σ ρ' O'/\E c ρ'
  have sp:spF X.K X.mg f vs H Q EX:=by
   refine ⟨hx.1.at st,cs,fps,W.flatten ++ F.O₀,ar.mono stE,nd1,fun a h=>?_,?_⟩
   ·exact stw.live a (by have:=(memO a).mpr h; rw [hO2] at this; exact this)
   ·cases hf:f cs with
    | bad=>rw [hf] at q; exact q
    | rt c outs=>
     rw [hf] at q
     simp only at q ⊢
     intro v H' fp fps' hca hou bh
     obtain ⟨O3,t1,t2,t3⟩:=swapped H' (fps'.flatten ++ fp) bh
     have eq3:Stp (fps'.flatten ++ fp ++ (W.flatten ++ F.O₀)) H' O3 H':=stp_less fun a h=>(t3 a).mp h
     have nwo:∀ a ∈ fps'.flatten ++ fp,a ∈ F.A₀\/F.H₀ a=none:=fun a h=>by
      rcases bh.new a h with z | z
      ·exact nw a z
      ·by_cases hA:a ∈ F.A₀
       ·exact .inl hA
       ·refine .inr ?_
        cases e:F.H₀ a with
        | none=>rfl
        | some o=>have:=stw.kept a o hA e; rw [z] at this; cases this
     have lj:(clr js ρ).length=ρ.length:=clr_len
     obtain ⟨O4,u1,u2⟩:=give_all (fp:=fp) ja lj t1 (hou.mono eq3) fun a h=>nwo a (List.mem_append_left _ h)
     exact hQ c _ q v H' O4 fp ⟨u1,hca.keep (eq3.trans u2) (fun _ _=>rfl) (fun _ _ _ e=>e),fun a h=>nwo a (List.mem_append_right _ h)⟩ (s1.trans (t2.trans u2))
    | ex c outs=>
     rw [hf] at q
     simp only at q ⊢
     intro C H' fps' hm hou bh
     obtain ⟨O3,t1,t2,t3⟩:=swapped H' fps'.flatten bh
     have eq3:Stp (fps'.flatten ++ (W.flatten ++ F.O₀)) H' O3 H':=stp_less fun a h=>(t3 a).mp h
     have nwo:∀ a ∈ fps'.flatten,a ∈ F.A₀\/F.H₀ a=none:=fun a h=>by
      rcases bh.new a h with z | z
      ·exact nw a z
      ·by_cases hA:a ∈ F.A₀
       ·exact .inl hA
       ·refine .inr ?_
        cases e:F.H₀ a with
        | none=>rfl
        | some o=>have:=stw.kept a o hA e; rw [z] at this; cases this
     have lj:(clr js ρ).length=ρ.length:=clr_len
     obtain ⟨O4,u1,u2⟩:=give_all (fp:=[]) ja lj (by rw [List.append_nil]; exact t1) (hou.mono eq3) nwo
     exact ⟨c,_,O4,hm,u1,q⟩
  have hl:(us ++ []).length=ps.length:=by rw [List.append_nil,<-r.length]; exact G.len _ _ _ _ sp
  refine wpAny_call (codeAny_mono (G.run X.A X.stack s H ⟨us,[]⟩ us vs Q EX hr I.env0 (by have:=hb s us I.kIn hl; rw [List.append_nil] at this; exact this) r sp) fun r s' hq=>?_)
  cases r with
  | error e=>
   obtain ⟨a,C,H',e1,I',cv,ex,c,ρ',O',hm,st',hE⟩:=I.flies hq
   exact hx.2 pins σ H' s' e c ρ' O' ⟨I',a,C,s.heap,_,e1,cv,ex,hm⟩ st' hE
  | ok fl=>
   cases fl with
   | ret u=>exact I.after hq
   | next=>exact False.elim hq
   | brk=>exact False.elim hq
   | cont=>exact False.elim hq
theorem do_call (hx:XOk X F E) (G:FnOk X.prog X.w X.K X.mg X.base (CXM X.prog X.w) k g fd ps (spF X.K X.mg f)) (hr:Room k X.A) (hg:Gl X x) (hm:X.mg x=some (.ref g)) (hk:PySem.W.keepIn X.K (.ref g)=true) (hb:Binds X.K fd ps [])
  (ha:DX X F (e :: es) tX) (hdb:(x == ("__debug__":Str))=false:=by decide) (he:starEach (e :: es) X.env=(false,eval e X.env) :: starEach es X.env:=by rfl) (hpl:(backTo pos (starEach es X.env)).any (·.1)=false:=by rfl) :
  DO X F (.Call (.Name x p) (e :: es) [] pos) (dCall f E tX):=by
 refine ⟨fun ρ Q Q' k q=>ha.mn _ _ _ (fun as ρ1 q1=>callOn_mn k q1) q,fun pins s σ H Q I ⟨ρ,O,st,q⟩=>?_⟩
 refine wpAny_Call_Name_kw (ld_glob I hg hm ?_ hdb)
 refine PySem.W.callWith_K (h₀:=X.base) I.ok.mod.kin hk (thn (ha.pa pos pins s σ H (fun vs H1=>∃ as ρ1 O1,DSt X.K F H1 σ ρ1 O1/\Stp O H O1 H1/\AxAt σ (hide O1 H1) vs as/\callOn f E (fun c ρ'=>∀ v H' O' fp,Res X.K F H' σ ρ' O' v c fp->Stp O H O' H'->Q v H') as ρ1) I ⟨ρ,O,st,ha.mn _ _ _ (fun as ρ1 q1 vs H1 O1 st1 s1 ax=>⟨as,ρ1,O1,st1,s1,ax,q1⟩) q⟩) fun us s1 ⟨vs,H1,I1,r,as,ρ1,O1,st1,s01,ax,q1⟩=>⟨I1.kIn,?_⟩) he hpl
 exact call_on hx G hr hb I1 r st1 ax q1 fun c ρ' h v H' O' fp res s2=>h v H' O' fp res (s01.trans s2)
end
end L2.L3
namespace L2.L3
open PySem PySem.Spec PyProof.Rows
noncomputable def OOk (H:Hp) (O:List Addr):Prop:=∀ a ∈ O,∃ o,H a=some o/\Mv o
theorem DSt.live {K:PySem.W.Frag} {F:Fx} {H:Hp} {σ:St} {ρ:DEnv} {O:List Addr} (st:DSt K F H σ ρ O):OOk H O:=by
 obtain ⟨W,h,rfl⟩:=st
 exact h.live
noncomputable abbrev DTI:=DEnv->(List PyData->DEnv->Prop)->Prop
noncomputable def Wk (O:List Addr) (H:Hp) (J:It) (its:List PyData):Prop:=∀ O' H',Stp O H O' H'->OOk H' O'->
 (∀ i d,its[i]? = some d->J.go i H'/\∀ x H'',J.yld i H' x H''->Same H' H''/\DV (hide O' H'') x d)/\J.stop its.length H'
noncomputable def rdI (K:PySem.W.Frag) (F:Fx) (s:DTI):TI:=fun σ H R=>∃ ρ O,DSt K F H σ ρ O/\s ρ fun its ρ'=>∀ J H' O',DSt K F H' σ ρ' O'->Stp O H O' H'->Wk O' H' J its->R J H'
structure DI (X:Cx) (F:Fx) (tg iter:Expr) (s:DTI):Prop where
 mn:∀ ρ Q Q',(∀ d ρ',Q d ρ'->Q' d ρ')->s ρ Q->s ρ Q'
 pi:PI X tg iter (rdI X.K F s)
theorem _root_.L2.PI.imp {X:Cx} {tg e:Expr} {t t':TI} (h:PI X tg e t) (k:∀ σ H Q,t' σ H Q->t σ H Q):PI X tg e t':=fun pins s σ H Q I q=>h pins s σ H Q I (k σ H Q q)
section
variable {X:Cx} {F:Fx} {tg e a b:Expr} {te:DT} {tA:DTA} {pos p:Pos}
noncomputable def iL (te:DT):DTI:=fun ρ Q=>te ρ fun d ρ'=>∃ ds,d=.list ds/\Q ds ρ'
noncomputable def iT (te:DT):DTI:=fun ρ Q=>te ρ fun d ρ'=>∃ ds,d=.tuple ds/\Q ds ρ'
theorem wk_list {K:PySem.W.Frag} {O:List Addr} {H:Hp} {a:Addr} {xs:List V} {ds:List PyData} (ha:hide O H a=some (.lst xs)) (hd:DVs (hide O H) xs ds):Wk O H (Itl K a) ds:=fun O' H' s ok=>by
 obtain ⟨h1,n1⟩:=of_hide ha
 have h2:=s.keep a _ n1 h1
 have hd':=DVs.mono s.hid hd
 refine ⟨fun i d e=>?_,⟨xs,.of h2,by rw [hd.length]; exact Nat.le_refl _⟩⟩
 obtain ⟨v,hv,dv⟩:=hd'.get e
 refine ⟨⟨xs,v,.of h2,hv⟩,fun x H'' ⟨e1,e2⟩=>?_⟩
 subst e1
 have:=e2 xs (.of h2)
 rw [hv] at this
 cases this
 exact ⟨fun _ _ h=>h,dv⟩
theorem wk_tup {K:PySem.W.Frag} {O:List Addr} {H:Hp} {a:Addr} {xs:List V} {ds:List PyData} (ha:Rd (hide O H) a (.tup xs)) (hd:DVs (hide O H) xs ds):Wk O H (Itt K a) ds:=fun O' H' s ok=>by
 obtain ⟨h1,n1⟩:=of_hideR ha
 have h2:Rd H' a (.tup xs):=h1.imp (fun e=>s.keep a _ n1 e) fun ⟨o,e⟩=>⟨o,s.keep a _ n1 e⟩
 have hd':=DVs.mono s.hid hd
 refine ⟨fun i d e=>?_,⟨xs,.inl h2,by rw [hd.length]; exact Nat.le_refl _⟩⟩
 obtain ⟨v,hv,dv⟩:=hd'.get e
 refine ⟨⟨xs,v,.inl h2,hv⟩,fun x H'' ⟨e1,e2⟩=>?_⟩
 subst e1
 have:=e2 xs (.inl h2)
 rw [hv] at this
 cases this
 exact ⟨fun _ _ h=>h,dv⟩
theorem di_list (h:DE X F e te):DI X F tg e (iL te):=
 ⟨fun _ _ _ k q=>h.mn _ _ _ (fun _ _ ⟨ds,e,q⟩=>⟨ds,e,k _ _ q⟩) q,(pi_list h.pe).imp fun σ H R ⟨ρ,O,st,q⟩=>
  ⟨ρ,O,st,h.mn _ _ _ (fun d ρ1 ⟨ds,e,q1⟩ v H1 O1 st1 s1 d1=>by
   subst e
   obtain ⟨a,xs,rfl,ha,hd⟩:=d1.lst_inv
   exact ⟨a,rfl,⟨xs,.of (of_hide ha).1⟩,q1 _ H1 O1 st1 s1 (wk_list ha hd)⟩) q⟩⟩
theorem di_tup (h:DE X F e te):DI X F tg e (iT te):=
 ⟨fun _ _ _ k q=>h.mn _ _ _ (fun _ _ ⟨ds,e,q⟩=>⟨ds,e,k _ _ q⟩) q,(pi_tup h.pe).imp fun σ H R ⟨ρ,O,st,q⟩=>
  ⟨ρ,O,st,h.mn _ _ _ (fun d ρ1 ⟨ds,e,q1⟩ v H1 O1 st1 s1 d1=>by
   subst e
   obtain ⟨a,xs,rfl,ha,hd⟩:=d1.tup_inv
   exact ⟨a,rfl,⟨xs,.inl (of_hideR ha).1⟩,q1 _ H1 O1 st1 s1 (wk_tup ha hd)⟩) q⟩⟩
noncomputable def intsFrom (lo:Int) (n:Nat):List PyData:=(List.range n).map fun (i:Nat)=>PyData.int (lo + i)
theorem intsFrom_length (lo:Int) (n:Nat):(intsFrom lo n).length=n:=by unfold intsFrom; rw [List.length_map,List.length_range]
theorem wk_range {O:List Addr} {H:Hp} {lo:Int} {n:Nat}:Wk O H (Itr lo n) (intsFrom lo n):=fun O' H' s ok=>by
 refine ⟨fun i d e=>?_,by show n<=(intsFrom lo n).length; rw [intsFrom_length]; exact Nat.le_refl _⟩
 unfold intsFrom at e
 rw [List.getElem?_map] at e
 obtain ⟨j,e1,e2⟩:=Option.map_eq_some_iff.mp e
 obtain ⟨hlt,e3⟩:=List.getElem?_eq_some_iff.mp e1
 rw [List.length_range] at hlt
 rw [List.getElem_range] at e3
 subst e3 e2
 exact ⟨hlt,fun x H'' ⟨q1,q2⟩=>by subst q1 q2; exact ⟨fun _ _ h=>h,.int _⟩⟩
noncomputable def iR1 (t:DTA):DTI:=fun ρ Q=>t ρ fun ds ρ'=>∃ j:Int,ds=[.int j]/\-(2 ^ 62)<=j/\j < 2 ^ 62/\Q (intsFrom 0 j.toNat) ρ'
theorem di_range1 (hg:Gl X "range") (hm:X.mg "range" = none) (ha:DA X F [a] tA) (hs:starEach [a] X.env=[(false,eval a X.env)]:=by rfl):DI X F tg (.Call (.Name "range" p) [a] [] pos) (iR1 tA):=
 ⟨fun _ _ _ k q=>ha.mn _ _ _ (fun _ _ ⟨j,e,h1,h2,q⟩=>⟨j,e,h1,h2,k _ _ q⟩) q,(pi_range1 hg hm ha.pa hs).imp fun σ H R ⟨ρ,O,st,q⟩=>
  ⟨ρ,O,st,ha.mn _ _ _ (fun ds ρ1 ⟨j,e,h1,h2,q1⟩ vs H1 O1 st1 s1 d1=>by
   subst e
   cases d1 with
   | cons d r=>
    cases r
    obtain rfl:=d.int_inv
    exact ⟨j,rfl,h1,h2,q1 _ H1 O1 st1 s1 wk_range⟩) q⟩⟩
end
noncomputable def sFor (s:DTI) (g:DTG) (tb:DTS):DTS:=fun D ρ=>s ρ fun its ρ1=>∃ Iv:Nat->DEnv->Prop,Iv 0 ρ1/\(∀ i d ρ,its[i]? = some d->Iv i ρ->g d ρ fun ρ2=>tb { D with nx:=Iv (i + 1),ct:=Iv (i + 1),bk:=D.nx } ρ2)/\∀ ρ,Iv its.length ρ->D.nx ρ
section
variable {X:Cx} {F:Fx} {tg iter:Expr} {body:List Stmt} {s:DTI} {g:DTG} {tb:DTS} {pos:Pos}
theorem ds_for (hp:PassesOwn (model X.prog X.w) X.A X.env X.xe) (hc:X.calm=true) (hi:DI X F tg iter s) (hg:DG X F tg g) (hb:DSs X F body tb) (hs:∀ x,foldedSetIterable iter X.env x=pure x:=by intro _; rfl):DS X F (.For tg iter body [] pos) (sFor s g tb):=
 (ps_for hp hc hi.pi hg.pg hb hs).imp fun D σ H ⟨ρ,O,DD,st,q,f⟩=>by
  refine ⟨ρ,O,st,hi.mn _ _ _ (fun its ρ1 ⟨Iv,i0,step,fin⟩ J H1 O1 st1 s1 wk=>?_) q⟩
  refine ⟨fun i m σ' H'=>∃ ρ' O',DSt X.K F H' σ' ρ' O'/\Stp O1 H1 O' H'/\Iv i ρ'/\i<=its.length/\m=its.length - i,⟨its.length,ρ1,O1,st1,.refl,i0,Nat.zero_le _,rfl⟩,?_⟩
  rintro i m σ' H' ⟨ρ',O',st',s',iv,hi',rfl⟩
  obtain ⟨w1,w2⟩:=wk O' H' s' st'.live
  by_cases hlt:i < its.length
  ·obtain ⟨go,yld⟩:=w1 i its[i] (List.getElem?_eq_getElem hlt)
   refine .inr ⟨go,fun σ2 H2=>∃ ρ2 O2,DSt X.K F H2 σ2 ρ2 O2/\Stp O1 H1 O2 H2/\Iv (i + 1) ρ2,fun σ2 H2 ⟨ρ2,O2,st2,s2,iv2⟩=>⟨its.length - (i + 1),by omega,ρ2,O2,st2,s2,iv2,hlt,rfl⟩,fun x H2 hy=>?_⟩
   obtain ⟨sm,dv⟩:=yld x H2 hy
   refine ⟨ρ',O',its[i],st'.grow sm,dv,hg.mn _ _ _ _ (fun ρ2 q2 σ3 H3 O3 st3 s3=>?_) (step i its[i] ρ' (List.getElem?_eq_getElem hlt) iv)⟩
   have s13:Stp O1 H1 O3 H3:=s'.trans ((Stp.same sm).trans s3)
   have nxt:∀ σ4 H4 ρ4 O4,DSt X.K F H4 σ4 ρ4 O4->Stp O3 H3 O4 H4->Iv (i + 1) ρ4->∃ ρ2 O2,DSt X.K F H4 σ4 ρ2 O2/\Stp O1 H1 O2 H4/\Iv (i + 1) ρ2:=fun σ4 H4 ρ4 O4 st4 s4 q4=>⟨ρ4,O4,st4,s13.trans s4,q4⟩
   exact ⟨ρ2,O3,_,st3,q2,⟨nxt,fun v σ4 H4 d ρ4 O4 fp4 st4 s4 q4=>f.rt v σ4 H4 d ρ4 O4 fp4 st4 (s1.trans (s13.trans s4)) q4,fun σ4 H4 ρ4 O4 st4 s4 q4=>f.nx σ4 H4 ρ4 O4 st4 (s1.trans (s13.trans s4)) q4,nxt⟩⟩
  ·have e:i=its.length:=by omega
   subst e
   exact .inl ⟨w2,f.nx σ' H' ρ' O' st' (s1.trans s') (fin ρ' iv)⟩
end
end L2.L3
namespace L2.L3
open PySem PySem.Spec PyProof.Rows
@[simp] noncomputable def capC:Option (Option Cell)->Option Cell
 | some (some (.dat d))=>some (.dat d)
 | some (some (.scr ns))=>some (.scr ns)
 | some (some (.vw b))=>some (.vw b)
 | _=>none
noncomputable def liftD (own:List Str) (caps:List Nat) (ρ:DEnv):DEnv:=own.map (fun _=>none) ++ caps.map fun j=>capC ρ[j]?
noncomputable def dCmp (own:List Str) (caps:List Nat) (s:DTI) (g:DTG) (tc:DTT) (te:DT):DT:=fun ρ Q=>s ρ fun its ρ1=>∃ Iv:Nat->List PyData->DEnv->Prop,Iv 0 [] (liftD own caps ρ1)/\
 (∀ i d ys ρ',its[i]? = some d->Iv i ys ρ'->g d ρ' fun ρ2=>tc ρ2 fun b ρ3=>if b=true then te ρ3 fun y ρ4=>ys.length < sizeLine/\Iv (i + 1) (ys ++ [y]) ρ4 else Iv (i + 1) ys ρ3)/\
 ∀ ys ρ',Iv its.length ys ρ'->ys.length<=sizeLine/\Q (.list ys) ρ1
noncomputable def MnI (s:DTI):Prop:=∀ ρ Q Q',(∀ d ρ',Q d ρ'->Q' d ρ')->s ρ Q->s ρ Q'
section
variable {K:PySem.W.Frag} {F:Fx} {own:List Str} {caps:List Nat} {s:DTI} {g:DTG} {tc:DTT} {te:DT}
theorem mn_cmp (hs:MnI s):Mn (dCmp own caps s g tc te):=fun _ _ _ k q=>hs _ _ _ (fun _ _ ⟨Iv,h0,h1,h2⟩=>⟨Iv,h0,h1,fun ys ρ' h=>⟨(h2 ys ρ' h).1,k _ _ (h2 ys ρ' h).2⟩⟩) q
theorem rd_cmp {PF:Fx->Prop} (hP:∀ H1 σ ρ1 O1 O2,DSt K F H1 σ ρ1 O1->PF ⟨H1,[],O2,fun _=>0⟩) (hs:MnI s) (hg:∀ d ρ Q Q',(∀ ρ',Q ρ'->Q' ρ')->g d ρ Q->g d ρ Q') (ht:MnT tc) (he:Mn te):∀ σ H Q,rdE K F (dCmp own caps s g tc te) σ H Q->
  tComp own caps (rdI K F s) (fun v σ H Q=>∃ F',PF F'/\rdG K F' g v σ H Q) (fun σ H Q=>∃ F',PF F'/\rdT K F' tc σ H Q) (fun σ H Q=>∃ F',PF F'/\rdE K F' te σ H Q) σ H Q:=fun σ H Q ⟨ρ,O,st,q⟩=>by
 refine ⟨ρ,O,st,hs _ _ _ (fun its ρ1 ⟨Iv,i0,step,fin⟩ J H1 O1 st1 s1 wk=>?_) q⟩
 refine ⟨fun i m ys σ' H'=>∃ ρ' O' ds,DSt K ⟨H1,[],O1,fun _=>0⟩ H' σ' ρ' O'/\Iv i ds ρ'/\DVs (hide O' H') ys ds/\i<=its.length/\m=its.length - i,⟨its.length,liftD own caps ρ1,O1,[],?_,i0,.nil,Nat.zero_le _,rfl⟩,?_⟩
 ·have cell:∀ (i:Nat) (c:Cell),(liftD own caps ρ1)[i]? = some (some c)->(∀ io b,c ≠ .own io b)/\∃ v,(liftC own caps σ)[i]? = some (some v)/\CellAt K H1 O1 v c []:=fun i c e=>by
   unfold liftD at e
   unfold liftC
   by_cases hi:i < own.length
   ·rw [List.getElem?_append_left (by simpa using hi),List.getElem?_map] at e
    cases h:own[i]? with
    | none=>rw [h] at e; cases e
    | some y=>rw [h] at e; cases e
   ·rw [List.getElem?_append_right (by simpa using Nat.le_of_not_lt hi),List.length_map,List.getElem?_map] at e
    rw [List.getElem?_append_right (by simpa using Nat.le_of_not_lt hi),List.length_map,List.getElem?_map]
    obtain ⟨j,h1,h2⟩:=Option.map_eq_some_iff.mp e
    rw [h1]
    show _/\∃ v,some ((σ[j]?).getD none)=some (some v)/\_
    cases h3:ρ1[j]? with
    | none=>rw [h3] at h2; cases h2
    | some o=>
     cases o with
     | none=>rw [h3] at h2; cases h2
     | some c'=>
      rw [h3] at h2
      obtain ⟨W,stw,rfl⟩:=id st1
      obtain ⟨v,fp,e1,_,e2⟩:=stw.at_ j c' h3
      rw [e1]
      cases c' with
      | dat d=>cases h2; exact ⟨(fun _ _ z=>by cases z),v,rfl,e2⟩
      | scr ns=>cases h2; exact ⟨(fun _ _ z=>by cases z),v,rfl,e2⟩
      | own _ _=>cases h2
      | exc _=>cases h2
      | vw b=>cases h2; exact ⟨(fun _ _ z=>by cases z),v,rfl,e2⟩
  obtain ⟨W,stw,hO1⟩:=id st1
  have ln:(liftD own caps ρ1).length=(liftC own caps σ).length:=by unfold liftD liftC; simp
  have fl:(List.replicate (liftD own caps ρ1).length ([]:List Addr)).flatten ++ O1=O1:=by rw [flat_rep]; rfl
  refine ⟨List.replicate (liftD own caps ρ1).length [],⟨fun i c e=>?_,by show (_ ++ O1).Nodup; rw [fl,hO1]; exact stw.nd,fun _ _ _ h=>h,fun a h=>?_,by show OOk H1 (_ ++ O1); rw [fl]; exact st1.live,ln,by simp,fun i b e=>absurd rfl ((cell i _ e).1 true b)⟩,fl.symm⟩
  ·obtain ⟨_,v,e1,e2⟩:=cell i c e
   refine ⟨v,[],e1,?_,by show CellAt K H1 (_ ++ O1) v c []; rw [fl]; exact e2⟩
   rw [List.getElem?_replicate,if_pos (List.getElem?_eq_some_iff.mp e).1]
  ·rw [flat_rep] at h; cases h
 ·rintro i m ys σ' H' ⟨ρ',O',ds,st',iv,dv,hi,rfl⟩
  have sm:Same H1 H':=fun b o e=>by obtain ⟨W',h',_⟩:=id st'; exact h'.kept b o (by simp) e
  have stp:Stp O1 H1 O' H':=⟨fun b o _ e=>sm b o e,fun a h=>by
   obtain ⟨W',h',rfl⟩:=id st'
   rcases List.mem_append.mp h with h | h
   ·exact (h'.new a h).elim (fun z=>absurd z (by simp)) .inr
   ·exact .inl h⟩
  have sub1:∀ a ∈ O1,a ∈ O':=fun a h=>by obtain ⟨W',h',rfl⟩:=id st'; exact List.mem_append_right _ h
  obtain ⟨w1,w2⟩:=wk O' H' stp st'.live
  by_cases hlt:i < its.length
  ·obtain ⟨go,yld⟩:=w1 i its[i] (List.getElem?_eq_getElem hlt)
   refine .inr ⟨go,fun x H2 hy=>?_⟩
   obtain ⟨sm2,dx⟩:=yld x H2 hy
   refine ⟨⟨H1,[],O1,fun _=>0⟩,hP _ _ _ _ _ st1,ρ',O',its[i],st'.grow sm2,dx,hg _ _ _ _ (fun ρ2 q2 σ3 H3 O3 st3 s3=>?_) (step i its[i] ds ρ' (List.getElem?_eq_getElem hlt) iv)⟩
   refine ⟨⟨H1,[],O1,fun _=>0⟩,hP _ _ _ _ _ st1,ρ2,O3,st3,ht _ _ _ (fun b ρ3 q3 H4 O4 st4 s4=>?_) q2⟩
   have d4:DVs (hide O4 H4) ys ds:=DVs.mono s4.hid (DVs.mono s3.hid (DVs.mono (hide_same sm2) dv))
   cases b with
   | false=>exact iteF ⟨its.length - (i + 1),by omega,ρ3,O4,ds,st4,ofF q3,d4,hlt,rfl⟩
   | true=>
    refine iteT ⟨⟨H1,[],O1,fun _=>0⟩,hP _ _ _ _ _ st1,ρ3,O4,st4,he _ _ _ (fun y ρ4 q4 v H5 O5 st5 s5 dy=>?_) (ofT q3)⟩
    refine ⟨by rw [d4.length]; exact q4.1,its.length - (i + 1),by omega,ρ4,O5,ds ++ [y],st5,q4.2,(DVs.mono s5.hid d4).append (.cons dy .nil),hlt,rfl⟩
  ·have e:i=its.length:=by omega
   subst e
   obtain ⟨hz,q⟩:=fin ds ρ' iv
   refine .inl ⟨w2,by rw [dv.length]; exact hz,fun p hp=>?_⟩
   have pO':=st'.nofree p hp
   exact q _ _ O1 (st1.grow fun b o e=>same_upd hp _ _ (sm b o e)) (s1.trans (.same fun b o e=>same_upd hp _ _ (sm b o e))) (dv_new_lst hp (fun z=>pO' (sub1 p z)) (DVs.mono (hide_more sub1) dv))
end
noncomputable def DBs (X:Cx) (F:Fx) (ifs:List Expr) (t:DTT):Prop:=MnT t/\PTs X ifs (rdT X.K F t)
noncomputable def bYes:DTT:=fun ρ Q=>Q true ρ
theorem dbs_nil {X:Cx} {F:Fx}:DBs X F [] bYes:=⟨fun _ _ _ k q=>k _ _ q,fun pins s σ H Q I ⟨ρ,O,st,q⟩=>pts_nil pins s σ H Q I (q H O st .refl)⟩
theorem dbs_one {X:Cx} {F:Fx} {c:Expr} {t:DTT} (h:DB X F c t):DBs X F [c] t:=⟨h.mn,pts_one h.pt⟩
section
variable {X:Cx} {F:Fx} {scope:Scope} {own capN:List Str} {caps:List Nat} {tg iter elt:Expr} {ifs:List Expr} {s:DTI} {g:DTG} {tc:DTT} {te:DT} {pos:Pos}
theorem de_comp (hG:GF X.mg F) (S:CompScope X scope own capN caps) (hc:X.calm=true) (hi:DI X F tg iter s)
  (hin:∀ C fp s₂ H₂ pl F',GF X.mg F'->DG (compCx X scope (own ++ capN) C fp s₂ H₂ pl) F' tg g/\DBs (compCx X scope (own ++ capN) C fp s₂ H₂ pl) F' ifs tc/\DE (compCx X scope (own ++ capN) C fp s₂ H₂ pl) F' elt te)
  (hs:∀ x,foldedSetIterable iter X.env x=pure x:=by intro _; rfl):DE X F (.ListComp elt [⟨tg,iter,ifs,0⟩] scope pos) (dCmp own caps s g tc te):=by
 have F0:Fx:=F
 obtain ⟨hg,ht,he⟩:=hin 0 [] (PySem.start X.prog).1 (fun _=>none) [] F hG
 refine ⟨mn_cmp hi.mn,(pe_comp S hc hi.pi (fun C fp s₂ H₂ pl=>⟨fun pins s σ H v u Q I r ⟨F',g',q⟩=>(hin C fp s₂ H₂ pl F' g').1.pg pins s σ H v u Q I r q,fun pins s σ H Q I ⟨F',g',q⟩=>(hin C fp s₂ H₂ pl F' g').2.1.2 pins s σ H Q I q,fun pins s σ H Q I ⟨F',g',q⟩=>(hin C fp s₂ H₂ pl F' g').2.2.pe pins s σ H Q I q⟩) hs).imp (rd_cmp (fun _ _ _ _ _ st=>hG.into st) hi.mn hg.mn ht.1 he.mn)⟩
theorem ds_setComp {i:Nat} {y:Str} {py spos:Pos} (hN:X.N.Nodup) (hi':X.N[i]? = some y) (hx:Loc X.env.scope y) (hG:GF X.mg F) (S:CompScope X scope own capN caps) (hc:X.calm=true) (hi:DI X F tg iter s)
  (hin:∀ C fp s₂ H₂ pl F',GF X.mg F'->DG (compCx X scope (own ++ capN) C fp s₂ H₂ pl) F' tg g/\DBs (compCx X scope (own ++ capN) C fp s₂ H₂ pl) F' ifs tc/\DE (compCx X scope (own ++ capN) C fp s₂ H₂ pl) F' elt te)
  (hsw:swapsWith (.ListComp elt [⟨tg,iter,ifs,0⟩] scope pos) (some (.Name y py)) spos.line X.env=pure true:=by rfl)
  (hs:∀ x,foldedSetIterable iter X.env x=pure x:=by intro _; rfl) (hf:X.fn y=true\/X.env.scope.names.lookup y=some .local:=by first | exact .inl rfl | exact .inr rfl | assumption) :
  DS X F (.Assign [.Name y py] (.ListComp elt [⟨tg,iter,ifs,0⟩] scope pos) spos) (sSet (dCmp own caps s g tc te) (gN i)):=by
 obtain ⟨hg,ht,he⟩:=hin 0 [] (PySem.start X.prog).1 (fun _=>none) [] F hG
 refine (ps_setComp hN hi' hx S hc hi.pi (fun C fp s₂ H₂ pl=>⟨fun pins s σ H v u Q I r ⟨F',g',q⟩=>(hin C fp s₂ H₂ pl F' g').1.pg pins s σ H v u Q I r q,fun pins s σ H Q I ⟨F',g',q⟩=>(hin C fp s₂ H₂ pl F' g').2.1.2 pins s σ H Q I q,fun pins s σ H Q I ⟨F',g',q⟩=>(hin C fp s₂ H₂ pl F' g').2.2.pe pins s σ H Q I q⟩) hsw hs hf).imp
  fun D σ H ⟨ρ,O,DD,st,q,f⟩=>rd_cmp (fun _ _ _ _ _ st=>hG.into st) hi.mn hg.mn ht.1 he.mn σ H _ ⟨ρ,O,st,mn_cmp hi.mn _ _ _ (fun d ρ1 q1 v H1 O1 st1 s1 d1=>f.nx _ H1 _ O1 (st1.set d1) s1 q1) q⟩
end
end L2.L3
namespace L2
open PySem PySem.Spec PyProof.Rows
section
variable {X:Cx} {a b c:Expr} {t:TA} {pos p1 p2 pos2:Pos}
theorem call_allB (hc:X.calm=true):CallR X (.builtin "all") (fun xs H Q=>∃ (l:Addr) (bs:List Bool),xs=[.ref l]/\H l=some (.lst (bs.map V.bl))/\Q (.bl (bs.all id)) H):=by
 intro pins s σ H xs us Q I r h
 obtain ⟨l,bs,rfl,hl,q⟩:=h
 obtain ⟨u,rfl,ru⟩:=vals1 r
 cases ru
 obtain ⟨z,its,n,rv,e⟩:=I.hok _ _ hl
 have L:s.heap.IsList l its.toArray:=⟨_,e,rfl,_,rfl⟩
 have hlt:l < s.heap.objs.size:=Heap.lt_size e
 have len:=rv.length
 rw [List.length_map] at len
 refine call_all_walk (wpAny_pyIter_list L ?_)
 refine ⟨s.heap.objs.size,_,_,_,_,_,fun i=>bs.getD i true,rfl,Walks.list (A:=X.A.in1) (show X.A.in1.handled=none from I.ok.hd hc) s.heap.objs.size l (Nat.ne_of_lt hlt) its.toArray,⟨⟨_,Heap.get?_push_size _ rfl,rfl,rfl⟩,L.push _⟩,?_,fun h' tk hk=>?_⟩
 ·intro i v s' Q' E' hv hq
  have hi:its[i]? = some v:=by simpa using hv
  have hlt:i < bs.length:=by rw [len]; exact (List.getElem?_eq_some_iff.mp hi).1
  obtain ⟨w,hw,rw'⟩:=rv.get (i:=i) (x:=.bl bs[i]) (by rw [List.getElem?_map,List.getElem?_eq_getElem hlt]; rfl)
  rw [hi] at hw
  cases hw
  cases rw'
  refine wpAny_truthy_bool ?_
  have:bs.getD i true=bs[i]:=by simp [List.getD,hlt]
  have hq:Q' (bs.getD i true) s':=hq
  rw [this] at hq
  exact hq
 ·have e1:(List.range its.toArray.size).all (fun i=>bs.getD i true)=bs.all id:=by
   rw [List.size_toArray,<-len]
   rw [Bool.eq_iff_iff,List.all_eq_true,List.all_eq_true]
   constructor
   ·intro h b hb
    obtain ⟨i,hi,rfl⟩:=List.getElem_of_mem hb
    have:=h i (List.mem_range.mpr hi)
    simpa [List.getD,hi] using this
   ·intro h i hi
    have hi':=List.mem_range.mp hi
    have:=h bs[i] (List.getElem_mem hi')
    simpa [List.getD,hi'] using this
  rw [e1]
  exact ⟨.bl (bs.all id),H,I.kept fun b o eb=>hk b o (fun zz=>absurd (Heap.lt_size eb) (by rw [List.mem_singleton.mp zz]; exact Nat.lt_irrefl _)) (Heap.get?_push_of_some _ eb),rfl,q⟩
end
end L2
namespace L2.L3
open PySem PySem.Spec PyProof.Rows
noncomputable def fLen:DN:=fun xs Q=>∃ ds,(xs=[.list ds]\/xs=[.tuple ds])/\Q (.int ds.length)
theorem n_len {K:PySem.W.Frag}:OpN (fun xs H Q=>∃ p ys,xs=[.ref p]/\(SqL K H p ys\/SqT K H p ys)/\Q (.int ys.length) H) fLen where
 mn:=fun _ _ _ k ⟨ds,e,q⟩=>⟨ds,e,k _ q⟩
 ok:=fun O H vs xs Q hO hd ⟨ds,e,q⟩=>by
  rcases e with rfl | rfl
  ·cases hd with
   | cons d r=>
    cases r
    obtain ⟨a,ys,rfl,ha,hy⟩:=d.lst_inv
    exact ⟨a,ys,rfl,.inl (.of (of_hide ha).1),by rw [hy.length]; exact q _ H (fun _ _ h=>h) (.int _)⟩
  ·cases hd with
   | cons d r=>
    cases r
    obtain ⟨a,ys,rfl,ha,hy⟩:=d.tup_inv
    exact ⟨a,ys,rfl,.inr (.inl (of_hideR ha).1),by rw [hy.length]; exact q _ H (fun _ _ h=>h) (.int _)⟩
theorem dvs2 {H:Hp} {vs:List V} {a b:PyData} (h:DVs H vs [a,b]):∃ x y,vs=[x,y]/\DV H x a/\DV H y b:=by
 cases h with | cons d r=>cases r with | cons d' r=>cases r; exact ⟨_,_,rfl,d,d'⟩
theorem dvs1 {H:Hp} {vs:List V} {a:PyData} (h:DVs H vs [a]):∃ x,vs=[x]/\DV H x a:=by
 cases h with | cons d r=>cases r; exact ⟨_,rfl,d⟩
noncomputable def fMax:DN:=fun xs Q=>∃ i j:Int,xs=[.int i,.int j]/\Q (.int (max i j))
theorem n_max:OpN (fun xs H Q=>∃ i j,xs=[.int i,.int j]/\Q (.int (if j > i then j else i)) H) fMax where
 mn:=fun _ _ _ k ⟨i,j,e,q⟩=>⟨i,j,e,k _ q⟩
 ok:=fun O H vs xs Q hO hd ⟨i,j,e,q⟩=>by
  subst e
  obtain ⟨x,y,rfl,h1,h2⟩:=dvs2 hd
  have e:(if j > i then j else i)=max i j:=by split <;> omega
  exact ⟨i,j,by rw [h1.int_inv,h2.int_inv],by rw [e]; exact q _ H (fun _ _ h=>h) (.int _)⟩
noncomputable def fTuple:DN:=fun xs Q=>(∃ ds,xs=[.list ds]/\Q (.tuple ds))\/∃ ds,xs=[.tuple ds]/\Q (.tuple ds)
theorem n_tuple {K:PySem.W.Frag}:OpN (fun xs H Q=>∃ p ys,xs=[.ref p]/\((SqL K H p ys/\∀ l,H l=none->Q (.ref l) (upd H l (.tup ys)))\/(SqT K H p ys/\Q (.ref p) H))) fTuple where
 mn:=fun _ _ _ k q=>q.imp (fun ⟨i,e,q⟩=>⟨i,e,k _ q⟩) fun ⟨i,e,q⟩=>⟨i,e,k _ q⟩
 ok:=fun O H vs xs Q hO hd q=>by
  rcases q with ⟨ds,e,q⟩ | ⟨ds,e,q⟩
  ·subst e
   obtain ⟨x,rfl,h1⟩:=dvs1 hd
   obtain ⟨a,ys,rfl,ha,hy⟩:=h1.lst_inv
   exact ⟨a,ys,rfl,.inl ⟨.of (of_hide ha).1,fun p hp=>q _ _ (same_upd hp) (dv_new_tup hp (hO p hp) hy)⟩⟩
  ·subst e
   obtain ⟨x,rfl,h1⟩:=dvs1 hd
   obtain ⟨a,ys,e,ha,hy⟩:=h1.tup_inv
   subst e
   exact ⟨a,ys,rfl,.inr ⟨.inl (of_hideR ha).1,q _ H (fun _ _ h=>h) h1⟩⟩
noncomputable def fAll:DN:=fun xs Q=>∃ bs:List Bool,xs=[.list (bs.map .bool)]/\Q (.bool (bs.all id))
theorem dvs_bools {H:Hp}:∀ {bs:List Bool} {vs:List V},DVs H vs (bs.map PyData.bool)->vs=bs.map V.bl
 | [],_,h=>by cases h; rfl
 | b :: r,_,h=>by
  cases h with
  | cons d q=>rw [d.bl_inv,dvs_bools q]; rfl
theorem n_all:OpN (fun xs H Q=>∃ (l:Addr) (bs:List Bool),xs=[.ref l]/\H l=some (.lst (bs.map V.bl))/\Q (.bl (bs.all id)) H) fAll where
 mn:=fun _ _ _ k ⟨bs,e,q⟩=>⟨bs,e,k _ q⟩
 ok:=fun O H vs xs Q hO hd ⟨bs,e,q⟩=>by
  subst e
  obtain ⟨x,rfl,h1⟩:=dvs1 hd
  obtain ⟨a,ys,rfl,ha,hy⟩:=h1.lst_inv
  exact ⟨a,bs,rfl,by rw [(of_hide ha).1,dvs_bools hy],q _ H (fun _ _ h=>h) (.bl _)⟩
section
variable {X:Cx} {F:Fx} {a b c e:Expr} {te:DT} {tA:DTA} {pos p1 p2 pos2:Pos}
noncomputable def dTail (te:DT) (k:Nat):DT:=fun ρ Q=>te ρ fun d ρ'=>∃ ds,d=.list ds/\Q (.list (ds.drop k)) ρ'
theorem de_tail {k j:Nat} {kp sp:Pos} (he:DE X F e te):DE X F (.Subscript e (.Slice (some (.Constant (.int (k:Int)) j kp)) none none sp) pos) (dTail te k):=
 ⟨fun _ _ _ k q=>he.mn _ _ _ (fun _ _ ⟨ds,e,q⟩=>⟨ds,e,k _ _ q⟩) q,(pe_slice sl_list he.pe (po_some pe_int) po_none).imp fun σ H Q ⟨ρ,O,st,q⟩=>
  ⟨ρ,O,st,he.mn _ _ _ (fun d ρ1 ⟨ds,e,q1⟩ v H1 O1 st1 s1 d1=>by
   subst e
   obtain ⟨a,xs,rfl,ha,hx⟩:=d1.lst_inv
   refine ⟨(k:Int),rfl,a,xs,rfl,.of (of_hide ha).1,fun p hp=>q1 _ _ O1 (st1.grow (same_upd hp)) (s1.trans (.same (same_upd hp))) (dv_new_lst hp (st1.nofree p hp) ?_)⟩
   have:cutV xs (some (k:Int)) none=xs.drop k:=by
    unfold cutV
    rw [HT.sIx_none,HT.sIx_nat]
    by_cases h:k<=xs.length
    ·rw [Nat.min_eq_left h,List.take_of_length_le (by rw [List.length_drop]; exact Nat.le_refl _)]
    ·rw [Nat.min_eq_right (by omega),List.drop_of_length_le (Nat.le_refl _),List.drop_of_length_le (by omega)]
     simp
   rw [this]
   exact hx.drop k) q⟩⟩
end
section
variable {X:Cx} {F:Fx} {a b c e:Expr} {te:DT} {tA:DTA} {pos p p1 p2 pos2:Pos} {x:Str} {i:Nat}
noncomputable def dLenS (i:Nat):DT:=fun ρ Q=>∃ ns,ρ[i]? = some (some (.scr ns))/\(ns.length<=63->Q (.int ns.length) ρ)
theorem de_lenS (hg:Gl X "len") (hm:X.mg "len" = none) (h:PE X (.Name x p1) (tVar i)) (he:starEach [.Name x p1] X.env=(false,eval (.Name x p1) X.env) :: starEach [] X.env:=by rfl) (hpl:(backTo pos (starEach [] X.env)).any (·.1)=false:=by rfl) :
  DE X F (.Call (.Name "len" p) [.Name x p1] [] pos) (dLenS i):=
 ⟨fun _ _ _ k ⟨ns,e,q⟩=>⟨ns,e,fun h=>k _ _ (q h)⟩,(pe_callB call_len_seq hg hm PySem.boot_len (pa_cons h pa_nil he) (by decide) (by decide) he hpl).imp fun σ H Q ⟨ρ,O,st,ns,e,q⟩=>by
  obtain ⟨sa,hv,hs⟩:=st.scr e
  refine ⟨_,hv,sa,ns.map V.int,rfl,.inl hs.sq,?_⟩
  rw [List.length_map]
  exact q hs.1 _ H O st .refl (.int _)⟩
noncomputable def dIxS (i:Nat) (te:DT):DT:=fun ρ Q=>∃ ns,ρ[i]? = some (some (.scr ns))/\te ρ fun d ρ'=>∃ k n,d=.int k/\atI ns k=some n/\Q (.int n) ρ'
theorem atI_map {α β:Type} {g:α->β} {l:List α} {k:Int} {n:α} (h:atI l k=some n):atI (l.map g) k=some (g n):=by
 unfold atI at h ⊢
 rw [List.length_map]
 cases q:ixN l.length k with
 | none=>rw [q] at h; cases h
 | some j=>
  rw [q] at h
  show (l.map g)[j]? = some (g n)
  rw [List.getElem?_map]
  have h:l[j]? = some n:=h
  rw [h]
  rfl
theorem de_ixS (h:PE X (.Name x p1) (tVar i)) (he:DE X F e te) (hs:PlainIx e):DE X F (.Subscript (.Name x p1) e pos) (dIxS i te):=
 ⟨fun _ _ _ k ⟨ns,e,q⟩=>⟨ns,e,he.mn _ _ _ (fun _ _ ⟨k',n,e1,e2,q⟩=>⟨k',n,e1,e2,k _ _ q⟩) q⟩,(pe_ix ix_list h he.pe hs).imp fun σ H Q ⟨ρ,O,st,ns,e,q⟩=>by
  obtain ⟨sa,hv,hs⟩:=st.scr e
  refine ⟨_,hv,ρ,O,st,he.mn _ _ _ (fun d ρ1 ⟨k,n,e1,e2,q1⟩ w H1 O1 st1 s1 d1=>?_) q⟩
  subst e1
  have hs1:Scr X.K H1 sa ns:=hs.mono fun o u q=>s1.keep _ _ (fun z=>by obtain ⟨xs,e,m⟩:=st.live _ z; rw [q] at e; cases e; exact m) q
  exact ⟨sa,ns.map V.int,k,.int n,rfl,d1.int_inv,hs1.sq,atI_map e2,q1 _ H1 O1 st1 s1 (.int _)⟩⟩
noncomputable def rEqS (K:PySem.W.Frag):R2:=fun x y H Q=>∃ a b ns,x=.ref a/\y=.ref b/\SqL K H a (ns.map V.int)/\H b=some (.lst [])/\Q (.bl (decide (ns=[]))) H
theorem reads_ints {h:Heap}:∀ {ns:List Int} {us:List Value},Vals (ns.map V.int) us->∃ as,ReadsAll h us (ns.map PyData.int) as
 | [],_,r=>by cases r; exact ⟨_,.nil⟩
 | n :: ns,_,r=>by
  cases r with
  | cons r1 r=>
   obtain ⟨t,rfl⟩:=r1
   obtain ⟨as,q⟩:=reads_ints r
   exact ⟨_,.cons (.int n t) q⟩
theorem op_eqS (hu:X.A.units + 64 < cLine):OpR X (compareOp .Eq) (rEqS X.K):=by
 intro pins s σ H x y v u Q I rx ry h
 obtain ⟨a,b,ns,rfl,rfl,h1,h2,q⟩:=h
 cases rx; cases ry
 obtain ⟨its,rv,⟨o,n,e,c1,_,d1⟩,hz⟩:=I.list h1
 obtain ⟨_,its2,n2,rv2,e2⟩:=I.hok _ _ h2
 cases rv2
 obtain ⟨as,ra⟩:=reads_ints (h:=s.heap) rv
 have e3:PyData.eqv (.list (ns.map .int)) (.list [])=decide (ns=[]):=by cases ns <;> rfl
 refine eq_dataH (reads_list_at e c1 d1 (by simpa using ra)) (reads_list_at (xs:=[]) e2 rfl rfl .nil) ?_ (by decide) hu (by rw [e3]; exact ⟨.bl _,H,I,rfl,q⟩)
 unfold SeqAt.shaped
 have c0:PyData.canLay0 (.list (ns.map .int))=true:=by
  have:∀ ns:List Int,PyData.canLayAll0 (ns.map .int)=true:=fun ns=>by
   induction ns with
   | nil=>rfl
   | cons n r ih=>rw [List.map_cons]; simp only [PyData.canLayAll0,PyData.canLay0,ih,Bool.and_self]
  simp only [PyData.canLay0,this]
 have dp:PyData.depth (.list (ns.map .int))<=64:=by
  have:∀ ns:List Int,PyData.depthAll (ns.map .int)<=1:=fun ns=>by
   induction ns with
   | nil=>simp [PyData.depthAll]
   | cons n r ih=>rw [List.map_cons]; simp only [PyData.depthAll,PyData.depth]; omega
  have:=this ns
  simp only [PyData.depth]
  omega
 rw [c0,Bool.true_and]
 exact decide_eq_true dp
noncomputable def dEqS (i:Nat):DTT:=fun ρ Q=>∃ ns,ρ[i]? = some (some (.scr ns))/\Q (decide (ns=[])) ρ
theorem db_eqS {lp:Pos} (hu:X.A.units + 64 < cLine) (h:PE X (.Name x p1) (tVar i)):DB X F (.Compare (.Name x p1) [.Eq] [.List [] lp] pos) (dEqS i):=
 ⟨fun _ _ _ k ⟨ns,e,q⟩=>⟨ns,e,k _ _ q⟩,(pt_cmpR (op_eqS hu) h (pe_lst pa_nil) (nomark _)).imp fun σ H Q ⟨ρ,O,st,ns,e,q⟩=>by
  obtain ⟨sa,hv,hs⟩:=st.scr e
  refine ⟨_,hv,Nat.zero_le _,fun p hp=>⟨sa,p,ns,rfl,rfl,(same_upd hp).seq hs.sq,upd_same,_,rfl,q _ O (st.grow (same_upd hp)) (.same (same_upd hp))⟩⟩⟩
end
end L2.L3
namespace L2.L3
open PySem PySem.Spec PyProof.Rows
structure FD (K:PySem.W.Frag) (mg:Str->Option Value) (x:Str) (st:Stmt) (ps:List Str) (g:Addr) (fd:FuncData):Prop where
 fn:Fun K x x st g fd
 mgf:mg x=some (.ref g)
 b:Binds K fd ps []
section
variable {X:Cx} {scope:Scope} {own capN:List Str} {caps:List Nat}
theorem CompScope.of (h1:scope.kind=.function:=by rfl) (h2:(scope.names.all fun y=>scope.names.lookup y.1 == some y.2)=true:=by rfl)
  (h3:(scope.names.all fun y=>y.2 != .free || (X.env.kindOf y.1 == some .cell || X.env.kindOf y.1 == some .free))=true:=by rfl)
  (h4:(scope.names.all fun y=>y.2 != .local || scope.names.lookup y.1 == some .local)=true:=by rfl) (h5:caps.map (fun j=>X.N[j]?)=capN.map some:=by rfl)
  (h6:(capN.all fun x=>scope.names.lookup x == some .free)=true:=by rfl):CompScope X scope own capN caps where
 kind:=h1
 one:=fun y hy=>eq_of_beq (List.all_eq_true.mp h2 y hy)
 free:=fun y hy e=>by
  have:=List.all_eq_true.mp h3 y hy
  rw [e] at this
  rw [Bool.or_eq_true] at this
  rcases this with z | z
  ·exact absurd z (by decide)
  ·rw [Bool.or_eq_true] at z
   exact z.imp (fun z=>eq_of_beq z) fun z=>eq_of_beq z
 loc:=fun y hy e=>by
  have:=List.all_eq_true.mp h4 y hy
  rw [e] at this
  rw [Bool.or_eq_true] at this
  rcases this with z | z
  ·exact absurd z (by decide)
  ·exact eq_of_beq z
 caps:=h5
 capf:=fun x hx=>eq_of_beq (List.all_eq_true.mp h6 x hx)
end
section
variable {X:Cx} {F:Fx} {a b c e:Expr} {ta tb tc:DT} {pos:Pos}
noncomputable abbrev qI (g:Int->Int->Int):D2:=fI (fun _ _=>True) fun i j=>.int (g i j)
noncomputable abbrev qB (g:Int->Int->Bool):D2:=fI (fun _ _=>True) fun i j=>.bool (g i j)
theorem de_add (ha:DE X F a ta) (hb:DE X F b tb):DE X F (.BinOp a .Add b pos) (dOp (qI fun i j=>i + j) ta tb):=de_op op_add (o_int0 fun _ _ _=>.int _) ha hb
theorem de_mul (ha:DE X F a ta) (hb:DE X F b tb):DE X F (.BinOp a .Mult b pos) (dOp (fI CMul fun i j=>.int (i * j)) ta tb):=de_op op_mul (o_int fun _ _ _=>.int _) ha hb
theorem de_mod (ha:DE X F a ta) (hb:DE X F b tb):DE X F (.BinOp a .Mod b pos) (dOp (fI (fun _ j=>0 < j) fun i j=>.int (i % j)) ta tb):=de_op op_mod (o_int fun _ _ _=>.int _) ha hb
theorem de_cat (ha:DE X F a ta) (hb:DE X F b tb):DE X F (.BinOp a .Add b pos) (dOp fCatL ta tb):=de_op op_cat o_catL ha hb
theorem db_lt (ha:DE X F a ta) (hb:DE X F b tb):DB X F (.Compare a [.Lt] [b] pos) (dTst (dOp (qB fun i j=>decide (i < j)) ta tb)):=db_cmp op_lt (o_int0 fun _ _ _=>.bl _) ha hb (nomark _)
theorem db_le (ha:DE X F a ta) (hb:DE X F b tb):DB X F (.Compare a [.LtE] [b] pos) (dTst (dOp (qB fun i j=>decide (i<=j)) ta tb)):=db_cmp op_le (o_int0 fun _ _ _=>.bl _) ha hb (nomark _)
theorem db_gt (ha:DE X F a ta) (hb:DE X F b tb):DB X F (.Compare a [.Gt] [b] pos) (dTst (dOp (qB fun i j=>decide (j < i)) ta tb)):=db_cmp op_gt (o_int0 fun _ _ _=>.bl _) ha hb (nomark _)
theorem de_eq (hu:X.A.units + 64 < cLine) (ha:DE X F a ta) (hb:DE X F b tb):DE X F (.Compare a [.Eq] [b] pos) (dOp (fEq false) ta tb):=de_cmp (op_eqD hu) o_eq ha hb (nomark _)
theorem db_eq (hu:X.A.units + 64 < cLine) (ha:DE X F a ta) (hb:DE X F b tb):DB X F (.Compare a [.Eq] [b] pos) (dTst (dOp (fEq false) ta tb)):=db_cmp (op_eqD hu) o_eq ha hb (nomark _)
theorem db_ne (hu:X.A.units + 64 < cLine) (ha:DE X F a ta) (hb:DE X F b tb):DB X F (.Compare a [.NotEq] [b] pos) (dTst (dOp (fEq true) ta tb)):=db_cmp (op_neD hu) o_eq ha hb (nomark _)
theorem db_notN (ha:DE X F a ta) (hb:DE X F b tb):DB X F (.Compare a [.IsNot] [b] pos) (dTst (dOp fIsNot ta tb)):=db_cmp op_notN o_isnot ha hb (nomark _)
theorem de_lele (ha:DE X F a ta) (hb:DE X F b tb) (hc:DE X F c tc) (hm:lastMarks [.LtE,.LtE] [b,c]=false:=by with_unfolding_all rfl):DE X F (.Compare a [.LtE,.LtE] [b,c] pos) (dChain (fun i j=>decide (i<=j)) (fun i j=>decide (i<=j)) ta tb tc):=de_chain op_le op_le ha hb hc hm
theorem de_gint {x:Str} {i:Int} {t:Tok} (hg:Gl X x) (hm:X.mg x=some (.int i t)) (hd:(x == ("__debug__":Str))=false:=by decide):DE X F (.Name x pos) (dC (.int i)):=de_const (v:=.int i) (pe_glob hg hm ⟨t,rfl⟩ hd) fun _=>.int i
mutual
theorem eqv_refl:∀ (d:PyData),d.canLay0=true->PyData.eqv d d=true
 | .none,_=>rfl
 | .bool b,_=>by simp [PyData.eqv]
 | .int i,_=>by simp [PyData.eqv]
 | .str s,_=>by simp [PyData.eqv]
 | .list xs,h=>by rw [PyData.eqv]; exact eqvAll_refl xs (by simpa [PyData.canLay0] using h)
 | .tuple xs,h=>by rw [PyData.eqv]; exact eqvAll_refl xs (by simpa [PyData.canLay0] using h)
 | .dict kvs,h=>by simp [PyData.canLay0] at h
theorem eqvAll_refl:∀ (ds:List PyData),PyData.canLayAll0 ds=true->PyData.eqvAll ds ds=true
 | [],_=>rfl
 | x :: xs,h=>by
  simp only [PyData.canLayAll0,Bool.and_eq_true] at h
  rw [PyData.eqvAll,eqv_refl x h.1,eqvAll_refl xs h.2]
  rfl
end
theorem eqv_shaped {d:PyData} (h:SeqAt.shaped d=true):PyData.eqv d d=true:=eqv_refl d (SeqAt.canLay_of_shaped h)
end
end L2.L3
namespace L2.L3
open PySem PySem.Spec PyProof.Rows
end L2.L3
namespace L2
open PySem PySem.Spec PyProof.Rows
section
variable {X:Cx}
noncomputable def rCatT0 (K:PySem.W.Frag):R2:=fun x y H Q=>∃ a b xs ys,x=.ref a/\y=.ref b/\SqT K H a xs/\SqT K H b ys/\xs.length + ys.length<=sizeLine/\
 (xs=[]->Q (.ref b) H)/\(xs ≠ []->ys=[]->Q (.ref a) H)/\(xs ≠ []->ys ≠ []->∀ p,H p=none->Q (.ref p) (upd H p (.tup (xs ++ ys))))
theorem op_catT0:OpR X (binaryOp .Add) (rCatT0 X.K):=by
 intro pins s σ H x y v u Q I rx ry h
 obtain ⟨a,b,xs,ys,rfl,rfl,ha,hb,hz,q0,q1,q2⟩:=h
 by_cases hx:xs=[]
 ·subst hx
  cases rx
  cases ry
  obtain ⟨its,r1,p1,_⟩:=I.tuple ha
  obtain ⟨its2,r2,p2,_⟩:=I.tuple hb
  have e1:its=[]:=r1.nil_iff.mpr rfl
  subst e1
  obtain ⟨⟨cls,dd,data,sl⟩,ho,hc,n,hd⟩:=id p1
  obtain ⟨⟨cls2,dd2,data2,sl2⟩,ho2,hc2,n2,hd2⟩:=id p2
  simp only at hc hd hc2 hd2
  subst hc hd hc2 hd2
  exact concat_meets ⟨_,ho,rfl⟩ ⟨_,ho2,rfl⟩ noFill_tuple_add seq_tuple_add PySem.F.slot_tuple_add PySem.F.entry_tuple_add (PySem.F.args_tuple_add_2 _ _)
   (tuple_addW0 a b [].toArray its2.toArray n n2 dd dd2 sl sl2 rfl) ⟨ho,ho2,.ref b,H,I,rfl,q0 rfl⟩
 ·exact op_catT pins s σ H _ _ v u Q I rx ry ⟨a,b,xs,ys,rfl,rfl,ha,hb,hx,hz,q1 hx,q2 hx⟩
end
end L2
namespace L2.L3
open PySem PySem.Spec PyProof.Rows
section
variable {X:Cx} {F:Fx} {a b:Expr} {ta tb:DT} {pos:Pos}
theorem o_catT {K:PySem.W.Frag}:Op2 (rCatT0 K) fCatT where
 mn:=fun _ _ _ _ k ⟨ds,es,e1,e2,e3,q⟩=>⟨ds,es,e1,e2,e3,k _ q⟩
 ok:=fun O H u v x y Q hO h1 h2 ⟨ds,es,e1,e2,e3,q⟩=>by
  subst e1 e2
  obtain ⟨a,xs,rfl,ha,hd⟩:=id h1.tup_inv
  obtain ⟨b,ys,rfl,hb,he⟩:=id h2.tup_inv
  refine ⟨a,b,xs,ys,rfl,rfl,.inl (of_hideR ha).1,.inl (of_hideR hb).1,by rw [hd.length,he.length]; exact e3,fun z=>?_,fun _ z=>?_,fun _ _ p hp=>q _ _ (same_upd hp) (dv_new_tup hp (hO p hp) (hd.append he))⟩
  ·subst z
   cases hd
   exact q _ H (fun _ _ h=>h) h2
  ·subst z
   cases he
   rw [List.append_nil] at q
   exact q _ H (fun _ _ h=>h) h1
theorem de_catT (ha:DE X F a ta) (hb:DE X F b tb):DE X F (.BinOp a .Add b pos) (dOp fCatT ta tb):=de_op op_catT0 o_catT ha hb
end
end L2.L3
namespace L2
open PySem PySem.Spec PyProof.Rows
end L2
namespace L2.L3
open PySem PySem.Spec PyProof.Rows
section
variable {X:Cx} {F:Fx} {a b:Expr} {ta tb:DT} {pos:Pos} {q:PyData->Prop}
theorem de_pow (ha:DE X F a ta) (hb:DE X F b tb):DE X F (.BinOp a .Pow b pos) (dOp (fI CPow fun i j=>.int (i ^ j.toNat)) ta tb):=de_op op_pow (o_int fun _ _ _=>.int _) ha hb
end
end L2.L3
namespace L2
open PySem PySem.Spec PyProof.Rows
end L2
namespace L2.L3
open PySem PySem.Spec PyProof.Rows
end L2.L3
namespace L2.L3
open PySem PySem.Spec PyProof.Rows
end L2.L3
namespace L2
open PySem PySem.Spec PyProof.Rows
end L2
namespace L2.L3
open PySem PySem.Spec PyProof.Rows
end L2.L3
namespace L2.L3
open PySem PySem.Spec PyProof.Rows
end L2.L3
namespace L2.L3
open PySem PySem.Spec PyProof.Rows
inductive Out (α:Type) where
 | ok (a:α) (ρ:DEnv) | ex (c:Str) (ρ:DEnv) | bad
@[simp] noncomputable def Out.bind {α β:Type} (o:Out α) (k:α->DEnv->Out β):Out β:=match o with
 | .ok a ρ=>k a ρ
 | .ex c ρ=>.ex c ρ
 | .bad=>.bad
@[simp] noncomputable def lift {α:Type} (o:Option α) (ρ:DEnv):Out α:=match o with
 | some a=>.ok a ρ
 | none=>.bad
noncomputable abbrev XM (α:Type):=DEnv->Out α
noncomputable def wp {α:Type} (E:Str->DEnv->Prop) (m:XM α):DEnv->(α->DEnv->Prop)->Prop:=fun ρ Q=>match m ρ with
 | .ok a ρ'=>Q a ρ'
 | .ex c ρ'=>E c ρ'
 | .bad=>False
section
variable {α β:Type} {E:Str->DEnv->Prop}
theorem mn_wp {m:XM α}:∀ ρ (Q Q':α->DEnv->Prop),(∀ d ρ',Q d ρ'->Q' d ρ')->wp E m ρ Q->wp E m ρ Q':=fun ρ Q Q' k q=>by
 unfold wp at q ⊢
 generalize m ρ=o at q ⊢
 cases o with
 | ok a ρ'=>exact k _ _ q
 | ex c ρ'=>exact q
 | bad=>exact q
theorem wp_bind {m:XM α} {k:α->XM β} {ρ:DEnv} {Q:β->DEnv->Prop} (h:wp E (fun ρ=>(m ρ).bind k) ρ Q):wp E m ρ fun a ρ'=>wp E (k a) ρ' Q:=by
 unfold wp at h ⊢
 unfold Out.bind at h
 simp only at h
 generalize m ρ=o at h ⊢
 cases o with
 | ok a ρ'=>exact h
 | ex c ρ'=>exact h
 | bad=>exact h
theorem wp_lift {o:Option α} {ρ:DEnv} {Q:α->DEnv->Prop} (h:wp E (lift o) ρ Q):∃ a,o=some a/\Q a ρ:=by
 unfold wp lift at h
 cases o with
 | some a=>exact ⟨a,rfl,h⟩
 | none=>exact h.elim
end
section
variable {X:Cx} {F:Fx} {E:Str->DEnv->Prop} {e a b c:Expr} {es:List Expr} {pos:Pos}
theorem DE.imp {t t':DT} (h:DE X F e t) (mn:Mn t') (k:∀ ρ Q,t' ρ Q->t ρ Q):DE X F e t':=⟨mn,h.pe.imp fun σ H Q ⟨ρ,O,st,q⟩=>⟨ρ,O,st,k ρ _ q⟩⟩
theorem DO.imp {t t':DTO} (h:DO X F e t) (mn:MnO t') (k:∀ ρ Q,t' ρ Q->t ρ Q):DO X F e t':=⟨mn,h.pe.imp fun σ H Q ⟨ρ,O,st,q⟩=>⟨ρ,O,st,k ρ _ q⟩⟩
theorem DA.imp {t t':DTA} (h:DA X F es t) (mn:MnA t') (k:∀ ρ Q,t' ρ Q->t ρ Q):DA X F es t':=⟨mn,h.pa.imp fun σ H Q ⟨ρ,O,st,q⟩=>⟨ρ,O,st,k ρ _ q⟩⟩
theorem DX.imp {t t':DTX} (h:DX X F es t) (mn:MnX t') (k:∀ ρ Q,t' ρ Q->t ρ Q):DX X F es t':=⟨mn,h.pa.imp fun σ H Q ⟨ρ,O,st,q⟩=>⟨ρ,O,st,k ρ _ q⟩⟩
theorem DB.imp {t t':DTT} (h:DB X F e t) (mn:MnT t') (k:∀ ρ Q,t' ρ Q->t ρ Q):DB X F e t':=⟨mn,h.pt.imp fun σ H Q ⟨ρ,O,st,q⟩=>⟨ρ,O,st,k ρ _ q⟩⟩
theorem DW.imp {t t':DTT} (h:DW X F e t) (mn:MnT t') (k:∀ ρ Q,t' ρ Q->t ρ Q):DW X F e t':=⟨mn,h.pw.imp fun σ H Q ⟨ρ,O,st,q⟩=>⟨ρ,O,st,k ρ _ q⟩⟩
theorem DSs.imp {sts:List Stmt} {t t':DTS} (h:DSs X F sts t) (k:∀ D ρ,t' D ρ->t D ρ):DSs X F sts t':=PSs.imp h fun D σ H ⟨ρ,O,DD,st,q,f⟩=>⟨ρ,O,DD,st,k DD ρ q,f⟩
theorem DS.imp {s:Stmt} {t t':DTS} (h:DS X F s t) (k:∀ D ρ,t' D ρ->t D ρ):DS X F s t':=PS.imp h fun D σ H ⟨ρ,O,DD,st,q,f⟩=>⟨ρ,O,DD,st,k DD ρ q,f⟩
noncomputable abbrev FE (X:Cx) (F:Fx) (E:Str->DEnv->Prop) (e:Expr) (m:XM PyData):Prop:=DE X F e (wp E m)
noncomputable abbrev FO (X:Cx) (F:Fx) (E:Str->DEnv->Prop) (e:Expr) (m:XM Cell):Prop:=DO X F e (wp E m)
noncomputable abbrev FB (X:Cx) (F:Fx) (E:Str->DEnv->Prop) (e:Expr) (m:XM Bool):Prop:=DB X F e (wp E m)
noncomputable abbrev FW (X:Cx) (F:Fx) (E:Str->DEnv->Prop) (e:Expr) (m:XM Bool):Prop:=DW X F e (wp E m)
noncomputable abbrev FA (X:Cx) (F:Fx) (E:Str->DEnv->Prop) (es:List Expr) (m:XM (List PyData)):Prop:=DA X F es (wp E m)
noncomputable abbrev FX (X:Cx) (F:Fx) (E:Str->DEnv->Prop) (es:List Expr) (m:XM (List AX)):Prop:=DX X F es (wp E m)
noncomputable abbrev FI (X:Cx) (F:Fx) (E:Str->DEnv->Prop) (tg iter:Expr) (m:XM (List PyData)):Prop:=DI X F tg iter (wp E m)
noncomputable abbrev GM:=PyData->DEnv->Option DEnv
noncomputable def wpG (g:GM):DTG:=fun d ρ Q=>match g d ρ with
 | some ρ'=>Q ρ'
 | none=>False
noncomputable abbrev FG (X:Cx) (F:Fx) (tg:Expr) (g:GM):Prop:=DG X F tg (wpG g)
noncomputable abbrev FS (X:Cx) (F:Fx) (E:Str->DEnv->Prop) (s:Stmt) (m:SM):Prop:=DS X F s (wpS E m)
noncomputable abbrev FSs (X:Cx) (F:Fx) (E:Str->DEnv->Prop) (s:List Stmt) (m:SM):Prop:=DSs X F s (wpS E m)
@[simp] noncomputable def xC (d:PyData):XM PyData:=fun ρ=>.ok d ρ
@[simp] noncomputable def xV (i:Nat):XM PyData:=fun ρ=>match ρ[i]? with
 | some (some (.dat d))=>.ok d ρ
 | some (some (.own false (.l ds)))=>.ok (.list ds) (ρ.set i (some (.dat (.list ds))))
 | _=>.bad
theorem fe_c {d:PyData} (h:DE X F e (dC d)):FE X F E e (xC d):=h.imp mn_wp fun _ _ q=>q
theorem fe_v {i:Nat} (h:DE X F e (dV i)):FE X F E e (xV i):=h.imp mn_wp fun ρ Q q=>by
 unfold wp xV at q
 unfold dV
 cases h:ρ[i]? with
 | none=>rw [h] at q; exact q.elim
 | some o=>
  rw [h] at q
  cases o with
  | none=>exact q.elim
  | some c=>
   cases c with
   | dat d=>exact .inl ⟨d,rfl,q⟩
   | scr n=>exact q.elim
   | exc n=>exact q.elim
   | vw n=>exact q.elim
   | own io bx=>
    cases io with
    | true=>exact q.elim
    | false=>
     cases bx with
     | l ds=>exact .inr ⟨ds,rfl,q⟩
     | m _ _=>exact q.elim
     | o _ _=>exact q.elim
     | sd _=>exact q.elim
     | ll _=>exact q.elim
     | pr _ _ _=>exact q.elim
@[simp] noncomputable def xOp (g:PyData->PyData->Option PyData) (a b:XM PyData):XM PyData:=fun ρ=>(a ρ).bind fun x ρ1=>(b ρ1).bind fun y=>lift (g x y)
noncomputable def F2 (f:D2) (g:PyData->PyData->Option PyData):Prop:=∀ x y d Q,g x y=some d->Q d->f x y Q
theorem fe_op {f:D2} {g:PyData->PyData->Option PyData} {ma mb:XM PyData} (hg:F2 f g) (h:DE X F e (dOp f (wp E ma) (wp E mb))):FE X F E e (xOp g ma mb):=h.imp mn_wp fun ρ Q q=>by
 refine mn_wp _ _ _ (fun x ρ1 q1=>?_) (wp_bind q)
 refine mn_wp _ _ _ (fun y ρ2 q2=>?_) (wp_bind q1)
 obtain ⟨d,e1,q3⟩:=wp_lift q2
 exact hg x y d _ e1 q3
@[simp] noncomputable def xTst (m:XM PyData):XM Bool:=fun ρ=>(m ρ).bind fun d=>lift (match d with | .bool b=>some b | _=>none)
theorem tst_of {ρ:DEnv} {Q:Bool->DEnv->Prop} {m:XM PyData} (q:wp E (xTst m) ρ Q):dTst (wp E m) ρ Q:=mn_wp _ _ _ (fun d ρ1 q1=>by
 obtain ⟨b,e1,q2⟩:=wp_lift q1
 cases d with
 | bool b'=>cases e1; exact ⟨_,rfl,q2⟩
 | _=>cases e1) (wp_bind q)
theorem fb_op {f:D2} {g:PyData->PyData->Option PyData} {ma mb:XM PyData} (hg:F2 f g) (h:DB X F e (dTst (dOp f (wp E ma) (wp E mb)))):FB X F E e (xTst (xOp g ma mb)):=h.imp mn_wp fun ρ Q q=>by
 have q':=tst_of q
 refine mn_wp _ _ _ (fun x ρ1 q1=>?_) (wp_bind q')
 refine mn_wp _ _ _ (fun y ρ2 q2=>?_) (wp_bind q1)
 obtain ⟨d,e1,q3⟩:=wp_lift q2
 exact hg x y d _ e1 q3
theorem fb_val {m:XM PyData} (h:DB X F e (dTst (wp E m))):FB X F E e (xTst m):=h.imp mn_wp fun ρ Q q=>tst_of q
@[simp] noncomputable def gI (g:Int->Int->PyData):PyData->PyData->Option PyData:=fun x y=>match x,y with
 | .int i,.int j=>some (g i j)
 | _,_=>none
@[simp] noncomputable def gIC (C:Int->Int->Bool) (g:Int->Int->PyData):PyData->PyData->Option PyData:=fun x y=>match x,y with
 | .int i,.int j=>if C i j=true then some (g i j) else none
 | _,_=>none
theorem f2_I {g:Int->Int->PyData}:F2 (fI (fun _ _=>True) g) (gI g):=fun x y d Q e q=>by
 unfold gI at e
 split at e
 ·cases e; exact ⟨_,_,rfl,rfl,trivial,q⟩
 ·cases e
theorem f2_IC {C:Int->Int->Bool} {P:Int->Int->Prop} {g:Int->Int->PyData} (h:∀ i j,C i j=true->P i j):F2 (fI P g) (gIC C g):=fun x y d Q e q=>by
 unfold gIC at e
 split at e
 ·split at e
  ·rename_i hc; cases e; exact ⟨_,_,rfl,rfl,h _ _ hc,q⟩
  ·cases e
 ·cases e
noncomputable def cMul (i j:Int):Bool:=(decide (-(2 ^ 64) < i) && decide (i < 2 ^ 64)) || (decide (-(2 ^ 64) < j) && decide (j < 2 ^ 64))
noncomputable def cMod (_ j:Int):Bool:=decide (0 < j)
noncomputable def cPow (i j:Int):Bool:=decide (0<=j) && decide (j<=1000000) && decide (i.natAbs < 2 ^ 64)
theorem cMul_ok (i j:Int) (h:cMul i j=true):CMul i j:=by
 unfold cMul at h
 simp only [Bool.or_eq_true,Bool.and_eq_true,decide_eq_true_eq] at h
 exact h
theorem cMod_ok (i j:Int) (h:cMod i j=true):0 < j:=by
 unfold cMod at h
 simpa using h
theorem cPow_ok (i j:Int) (h:cPow i j=true):CPow i j:=by
 unfold cPow at h
 simp only [Bool.and_eq_true,decide_eq_true_eq] at h
 exact ⟨h.1.1,h.1.2,h.2⟩
noncomputable def gEq (neg:Bool):PyData->PyData->Option PyData:=fun x y=>if (SeqAt.shaped x && SeqAt.shaped y)=true then some (.bool (PyData.eqv x y != neg)) else none
theorem f2_eq {neg:Bool}:F2 (fEq neg) (gEq neg):=fun x y d Q e q=>by
 unfold gEq at e
 split at e
 ·rename_i h
  cases e
  exact ⟨(Bool.and_eq_true_iff.mp h).1,(Bool.and_eq_true_iff.mp h).2,q⟩
 ·cases e
@[simp] noncomputable def gIsNot:PyData->PyData->Option PyData:=fun x y=>match y with | .none=>some (.bool (!isNone x)) | _=>none
theorem f2_isnot:F2 fIsNot gIsNot:=fun x y d Q e q=>by
 unfold gIsNot at e
 split at e
 ·cases e; exact ⟨rfl,q⟩
 ·cases e
@[simp] noncomputable def gCatL:PyData->PyData->Option PyData:=fun x y=>match x,y with
 | .list ds,.list es=>if ds.length + es.length<=sizeLine then some (.list (ds ++ es)) else none
 | _,_=>none
@[simp] noncomputable def gCatT:PyData->PyData->Option PyData:=fun x y=>match x,y with
 | .tuple ds,.tuple es=>if ds.length + es.length<=sizeLine then some (.tuple (ds ++ es)) else none
 | _,_=>none
theorem f2_catL:F2 fCatL gCatL:=fun x y d Q e q=>by
 unfold gCatL at e
 split at e
 ·split at e
  ·rename_i h; cases e; exact ⟨_,_,rfl,rfl,h,q⟩
  ·cases e
 ·cases e
theorem f2_catT:F2 fCatT gCatT:=fun x y d Q e q=>by
 unfold gCatT at e
 split at e
 ·split at e
  ·rename_i h; cases e; exact ⟨_,_,rfl,rfl,h,q⟩
  ·cases e
 ·cases e
@[simp] noncomputable def xNeg (a:XM PyData):XM PyData:=fun ρ=>(a ρ).bind fun d=>lift (match d with | .int i=>some (.int (-i)) | _=>none)
theorem fe_neg {ma:XM PyData} (ha:FE X F E a ma):FE X F E (.UnaryOp .USub a pos) (xNeg ma):=(de_neg ha).imp mn_wp fun ρ Q q=>mn_wp _ _ _ (fun d ρ1 q1=>by
 obtain ⟨y,e1,q2⟩:=wp_lift q1
 cases d with
 | int i=>cases e1; exact ⟨i,rfl,q2⟩
 | _=>cases e1) (wp_bind q)
@[simp] noncomputable def xNot (a:XM PyData):XM PyData:=fun ρ=>(a ρ).bind fun d=>lift (match d with | .bool b=>some (.bool (!b)) | _=>none)
theorem fe_not {ma:XM PyData} (ha:FE X F E a ma):FE X F E (.UnaryOp .Not a pos) (xNot ma):=(de_not ha).imp mn_wp fun ρ Q q=>mn_wp _ _ _ (fun d ρ1 q1=>by
 obtain ⟨y,e1,q2⟩:=wp_lift q1
 cases d with
 | bool b=>cases e1; exact ⟨b,rfl,q2⟩
 | _=>cases e1) (wp_bind q)
@[simp] noncomputable def andK (b:XM PyData) (d:PyData):XM PyData:=fun ρ1=>match d with
 | .bool true=>b ρ1
 | .bool false=>.ok (.bool false) ρ1
 | _=>.bad
@[simp] noncomputable def xAnd (a b:XM PyData):XM PyData:=fun ρ=>(a ρ).bind (andK b)
theorem fe_and {rest:List Expr} {ma mb:XM PyData} (ha:FE X F E a ma) (hb:FE X F E (.BoolOp .And (b :: rest) pos) mb):FE X F E (.BoolOp .And (a :: b :: rest) pos) (xAnd ma mb):=(de_and ha hb).imp mn_wp fun ρ Q q=>mn_wp _ _ _ (fun d ρ1 q1=>by
 cases d with
 | bool b=>cases b with
  | true=>exact ⟨true,rfl,iteT q1⟩
  | false=>exact ⟨false,rfl,iteF q1⟩
 | _=>exact q1.elim) (wp_bind (k:=andK mb) q)
theorem fe_one {op} {ma:XM PyData} (h:FE X F E a ma):FE X F E (.BoolOp op [a] pos) ma:=de_one h
@[simp] noncomputable def xChain (p p':Int->Int->Bool) (a b c:XM PyData):XM PyData:=fun ρ=>(a ρ).bind fun x ρ1=>(b ρ1).bind fun y ρ2=>match x,y with
 | .int i,.int j=>if p i j=true then (c ρ2).bind (fun z=>lift (match z with | .int k=>some (.bool (p' j k)) | _=>none)) else .ok (.bool false) ρ2
 | _,_=>.bad
theorem fe_chain {p p':Int->Int->Bool} {ma mb mc:XM PyData} (h:DE X F e (dChain p p' (wp E ma) (wp E mb) (wp E mc))):FE X F E e (xChain p p' ma mb mc):=h.imp mn_wp fun ρ Q q=>by
 refine mn_wp _ _ _ (fun x ρ1 q1=>?_) (wp_bind q)
 refine mn_wp _ _ _ (fun y ρ2 q2=>?_) (wp_bind q1)
 unfold wp at q2
 cases x with
 | int i=>cases y with
  | int j=>
   refine ⟨i,j,rfl,rfl,?_⟩
   by_cases hp:p i j=true
   ·simp only [if_pos hp] at q2
    rw [if_pos hp]
    refine mn_wp _ _ _ (fun z ρ3 q3=>?_) (wp_bind (m:=mc) (k:=fun z=>lift (match z with | .int k=>some (PyData.bool (p' j k)) | _=>none)) q2)
    obtain ⟨d,e1,q4⟩:=wp_lift q3
    cases z with
    | int k=>cases e1; exact ⟨k,rfl,q4⟩
    | _=>cases e1
   ·simp only [if_neg hp] at q2
    rw [if_neg hp]
    exact q2
  | _=>exact q2.elim
 | _=>exact q2.elim
@[simp] noncomputable def bNotF (a:XM Bool):XM Bool:=fun ρ=>(a ρ).bind fun b ρ1=>.ok (!b) ρ1
theorem fb_not {ma:XM Bool} (h:FB X F E a ma):FB X F E (.UnaryOp .Not a pos) (bNotF ma):=(db_not h).imp mn_wp fun ρ Q q=>mn_wp _ _ _ (fun d ρ1 q1=>q1) (wp_bind (k:=fun b ρ1=>.ok (!b) ρ1) q)
@[simp] noncomputable def bAndF (a b:XM Bool):XM Bool:=fun ρ=>(a ρ).bind fun x ρ1=>if x=true then b ρ1 else .ok false ρ1
@[simp] noncomputable def bOrF (a b:XM Bool):XM Bool:=fun ρ=>(a ρ).bind fun x ρ1=>if x=true then .ok true ρ1 else b ρ1
theorem fw_and1 {ma:XM Bool} (h:FB X F E a ma):FW X F E (.BoolOp .And [a] pos) ma:=dw_and1 h
theorem fw_or1 {ma:XM Bool} (h:FB X F E a ma):FW X F E (.BoolOp .Or [a] pos) ma:=dw_or1 h
theorem fw_and {rest:List Expr} {ma mb:XM Bool} (ha:FB X F E a ma) (hb:FW X F E (.BoolOp .And (b :: rest) pos) mb):FW X F E (.BoolOp .And (a :: b :: rest) pos) (bAndF ma mb):=(dw_and ha hb).imp mn_wp fun ρ Q q=>mn_wp _ _ _ (fun d ρ1 q1=>by
 cases d with
 | true=>exact iteT q1
 | false=>exact iteF q1) (wp_bind (k:=fun x ρ1=>if x=true then mb ρ1 else .ok false ρ1) q)
theorem fw_or {rest:List Expr} {ma mb:XM Bool} (ha:FB X F E a ma) (hb:FW X F E (.BoolOp .Or (b :: rest) pos) mb):FW X F E (.BoolOp .Or (a :: b :: rest) pos) (bOrF ma mb):=(dw_or ha hb).imp mn_wp fun ρ Q q=>mn_wp _ _ _ (fun d ρ1 q1=>by
 cases d with
 | true=>exact iteT q1
 | false=>exact iteF q1) (wp_bind (k:=fun x ρ1=>if x=true then .ok true ρ1 else mb ρ1) q)
theorem fb_w {ma:XM Bool} (h:FW X F E e ma):FB X F E e ma:=h.db
@[simp] noncomputable def xIf {α:Type} (t:XM Bool) (a b:XM α):XM α:=fun ρ=>(t ρ).bind fun x ρ1=>if x=true then a ρ1 else b ρ1
theorem fe_if {mt:XM Bool} {ma mb:XM PyData} (hc:FB X F E c mt) (ha:FE X F E a ma) (hb:FE X F E b mb):FE X F E (.IfExp c a b pos) (xIf mt ma mb):=(de_if hc ha hb).imp mn_wp fun ρ Q q=>mn_wp _ _ _ (fun d ρ1 q1=>by
 cases d with
 | true=>exact iteT q1
 | false=>exact iteF q1) (wp_bind (k:=fun x ρ1=>if x=true then ma ρ1 else mb ρ1) q)
@[simp] noncomputable def aNil:XM (List PyData):=fun ρ=>.ok [] ρ
@[simp] noncomputable def aCons (a:XM PyData) (r:XM (List PyData)):XM (List PyData):=fun ρ=>(a ρ).bind fun d ρ1=>(r ρ1).bind fun ds ρ2=>.ok (d :: ds) ρ2
theorem fa_nil:FA X F E [] aNil:=da_nil.imp mn_wp fun _ _ q=>q
theorem fa_cons {ma:XM PyData} {mr:XM (List PyData)} (ha:FE X F E e ma) (hr:FA X F E es mr) (hs:starEach (e :: es) X.env=(false,eval e X.env) :: starEach es X.env:=by rfl):FA X F E (e :: es) (aCons ma mr):=(da_cons ha hr hs).imp mn_wp fun ρ Q q=>
 mn_wp _ _ _ (fun d ρ1 q1=>mn_wp _ _ _ (fun ds ρ2 q2=>q2) (wp_bind (k:=fun ds ρ2=>.ok (d :: ds) ρ2) q1)) (wp_bind (k:=fun d ρ1=>(mr ρ1).bind fun ds ρ2=>.ok (d :: ds) ρ2) q)
@[simp] noncomputable def xTup (a:XM (List PyData)):XM PyData:=fun ρ=>(a ρ).bind fun ds=>lift (if ds.length<=sizeLine then some (.tuple ds) else none)
@[simp] noncomputable def xLst (a:XM (List PyData)):XM PyData:=fun ρ=>(a ρ).bind fun ds=>lift (if ds.length<=sizeLine then some (.list ds) else none)
theorem fe_tup {x1} {ma:XM (List PyData)} (h:FA X F E es ma):FE X F E (.Tuple es x1 pos) (xTup ma):=(de_tup h).imp mn_wp fun ρ Q q=>mn_wp _ _ _ (fun ds ρ1 q1=>by
 obtain ⟨d,e1,q2⟩:=wp_lift q1
 split at e1
 ·rename_i h; cases e1; exact ⟨h,q2⟩
 ·cases e1) (wp_bind q)
theorem fe_lst {ma:XM (List PyData)} (h:FA X F E es ma):FE X F E (.List es pos) (xLst ma):=(de_lst h).imp mn_wp fun ρ Q q=>mn_wp _ _ _ (fun ds ρ1 q1=>by
 obtain ⟨d,e1,q2⟩:=wp_lift q1
 split at e1
 ·rename_i h; cases e1; exact ⟨h,q2⟩
 ·cases e1) (wp_bind q)
@[simp] noncomputable def xCB (g:List PyData->Option PyData) (a:XM (List PyData)):XM PyData:=fun ρ=>(a ρ).bind fun ds=>lift (g ds)
noncomputable def FN (f:DN) (g:List PyData->Option PyData):Prop:=∀ ds d Q,g ds=some d->Q d->f ds Q
theorem fe_cb {f:DN} {g:List PyData->Option PyData} {ma:XM (List PyData)} (hg:FN f g) (h:DE X F e (dCB f (wp E ma))):FE X F E e (xCB g ma):=h.imp mn_wp fun ρ Q q=>mn_wp _ _ _ (fun ds ρ1 q1=>by
 obtain ⟨d,e1,q2⟩:=wp_lift q1
 exact hg ds d _ e1 q2) (wp_bind q)
end
end L2.L3
namespace L2.L3
open PySem PySem.Spec PyProof.Rows
section
variable {X:Cx} {F:Fx} {E:Str->DEnv->Prop} {e a b c:Expr} {es:List Expr} {st:Stmt} {rest:List Stmt} {pos:Pos} {x:Str}
@[simp] noncomputable def nLen:List PyData->Option PyData:=fun xs=>match xs with
 | [.list ds]=>some (.int ds.length)
 | [.tuple ds]=>some (.int ds.length)
 | _=>none
theorem fn_len:FN fLen nLen:=fun xs d Q e q=>by
 unfold nLen at e
 split at e
 ·cases e; exact ⟨_,.inl rfl,q⟩
 ·cases e; exact ⟨_,.inr rfl,q⟩
 ·cases e
@[simp] noncomputable def nMax:List PyData->Option PyData:=fun xs=>match xs with
 | [.int i,.int j]=>some (.int (max i j))
 | _=>none
theorem fn_max:FN fMax nMax:=fun xs d Q e q=>by
 unfold nMax at e
 split at e
 ·cases e; exact ⟨_,_,rfl,q⟩
 ·cases e
@[simp] noncomputable def nTuple:List PyData->Option PyData:=fun xs=>match xs with
 | [.list ds]=>some (.tuple ds)
 | [.tuple ds]=>some (.tuple ds)
 | _=>none
theorem fn_tuple:FN fTuple nTuple:=fun xs d Q e q=>by
 unfold nTuple at e
 split at e
 ·cases e; exact .inl ⟨_,rfl,q⟩
 ·cases e; exact .inr ⟨_,rfl,q⟩
 ·cases e
noncomputable def bools?:List PyData->Option (List Bool)
 | []=>some []
 | .bool i :: r=>(bools? r).map (i :: ·)
 | _ :: _=>none
theorem bools_of:∀ {ds:List PyData} {ns:List Bool},bools? ds=some ns->ds=ns.map .bool
 | [],_,e=>by cases e; rfl
 | d :: r,ns,e=>by
  cases d with
  | bool i=>
   cases q:bools? r with
   | none=>simp [bools?,q] at e
   | some l=>simp [bools?,q] at e; subst e; rw [bools_of q]; rfl
  | _=>cases e
noncomputable def nAll:List PyData->Option PyData:=fun xs=>match xs with
 | [.list ds]=>(bools? ds).map fun bs=>.bool (bs.all id)
 | _=>none
theorem fn_all:FN fAll nAll:=fun xs d Q e q=>by
 unfold nAll at e
 split at e
 ·obtain ⟨bs,e1,e2⟩:=Option.map_eq_some_iff.mp e
  rw [bools_of e1]
  subst e2
  exact ⟨bs,rfl,q⟩
 ·cases e
@[simp] noncomputable def xLenS (i:Nat):XM PyData:=fun ρ=>match ρ[i]? with
 | some (some (.scr ns))=>if ns.length<=63 then .ok (.int ns.length) ρ else .bad
 | _=>.bad
@[simp] noncomputable def xIxS (i:Nat) (a:XM PyData):XM PyData:=fun ρ=>match ρ[i]? with
 | some (some (.scr ns))=>(a ρ).bind fun d=>lift (match d with | .int k=>(atI ns k).map .int | _=>none)
 | _=>.bad
@[simp] noncomputable def bEqS (i:Nat):XM Bool:=fun ρ=>match ρ[i]? with
 | some (some (.scr ns))=>.ok (decide (ns=[])) ρ
 | _=>.bad
theorem fe_lenS {i:Nat} (h:DE X F e (dLenS i)):FE X F E e (xLenS i):=h.imp mn_wp fun ρ Q q=>by
 unfold wp xLenS at q
 cases h:ρ[i]? with
 | none=>rw [h] at q; exact q.elim
 | some o=>
  rw [h] at q
  cases o with
  | none=>exact q.elim
  | some c=>
   cases c with
   | scr ns=>
    simp only at q
    by_cases hl:ns.length<=63
    ·rw [if_pos hl] at q; exact ⟨ns,h,fun _=>q⟩
    ·rw [if_neg hl] at q; exact q.elim
   | _=>exact q.elim
theorem fe_ixS {i:Nat} {ma:XM PyData} (h:DE X F e (dIxS i (wp E ma))):FE X F E e (xIxS i ma):=h.imp mn_wp fun ρ Q q=>by
 unfold wp xIxS at q
 cases h:ρ[i]? with
 | none=>rw [h] at q; exact q.elim
 | some o=>
  rw [h] at q
  cases o with
  | none=>exact q.elim
  | some c=>
   cases c with
   | scr ns=>
    refine ⟨ns,h,mn_wp _ _ _ (fun d ρ1 q1=>?_) (wp_bind (m:=ma) (k:=fun d=>lift (match d with | .int k=>(atI ns k).map PyData.int | _=>none)) q)⟩
    obtain ⟨y,e1,q2⟩:=wp_lift q1
    cases d with
    | int k=>
     obtain ⟨n,e2,e3⟩:=Option.map_eq_some_iff.mp e1
     subst e3
     exact ⟨k,n,rfl,e2,q2⟩
    | _=>cases e1
   | _=>exact q.elim
theorem fb_eqS {i:Nat} (h:DB X F e (dEqS i)):FB X F E e (bEqS i):=h.imp mn_wp fun ρ Q q=>by
 unfold wp bEqS at q
 cases h:ρ[i]? with
 | none=>rw [h] at q; exact q.elim
 | some o=>
  rw [h] at q
  cases o with
  | none=>exact q.elim
  | some c=>
   cases c with
   | scr ns=>exact ⟨ns,h,q⟩
   | _=>exact q.elim
@[simp] noncomputable def gNm (i:Nat):GM:=fun d ρ=>some (ρ.set i (some (.dat d)))
theorem fg_name {i:Nat} (h:DG X F e (gN i)):FG X F e (gNm i):=⟨fun d ρ Q Q' k q=>k _ q,h.pg.imp fun v σ H Q ⟨ρ,O,d,st,hd,q⟩=>⟨ρ,O,d,st,hd,q⟩⟩
noncomputable abbrev GMs:=List PyData->DEnv->Option DEnv
noncomputable def wpGs (g:GMs):DTGs:=fun d ρ Q=>match g d ρ with
 | some ρ'=>Q ρ'
 | none=>False
noncomputable abbrev FGs (X:Cx) (F:Fx) (tg:List Expr) (g:GMs):Prop:=DGs X F tg (wpGs g)
@[simp] noncomputable def gNil':GMs:=fun ds ρ=>match ds with | []=>some ρ | _=>none
@[simp] noncomputable def gCons' (t:GM) (u:GMs):GMs:=fun ds ρ=>match ds with | d :: r=>(t d ρ).bind fun ρ'=>u r ρ' | []=>none
theorem mn_wpG {g:GM}:∀ d ρ (Q Q':DEnv->Prop),(∀ ρ',Q ρ'->Q' ρ')->wpG g d ρ Q->wpG g d ρ Q':=fun d ρ Q Q' k q=>by
 unfold wpG at q ⊢
 generalize g d ρ=o at q ⊢
 cases o with
 | some ρ'=>exact k _ q
 | none=>exact q
theorem mn_wpGs {g:GMs}:∀ d ρ (Q Q':DEnv->Prop),(∀ ρ',Q ρ'->Q' ρ')->wpGs g d ρ Q->wpGs g d ρ Q':=fun d ρ Q Q' k q=>by
 unfold wpGs at q ⊢
 generalize g d ρ=o at q ⊢
 cases o with
 | some ρ'=>exact k _ q
 | none=>exact q
theorem fgs_nil:FGs X F [] gNil':=⟨mn_wpGs,dgs_nil.pg.imp fun v σ H Q ⟨ρ,O,d,st,hd,q⟩=>⟨ρ,O,d,st,hd,by
 unfold wpGs gNil' at q
 cases d with
 | nil=>exact ⟨rfl,q⟩
 | cons _ _=>exact q.elim⟩⟩
theorem fgs_cons {g:GM} {gs:GMs} (h1:FG X F e g) (h2:FGs X F es gs) (hs:(assignEach (e :: es) X.env).map (·.2)=assign e X.env :: (assignEach es X.env).map (·.2):=by rfl):FGs X F (e :: es) (gCons' g gs):=⟨mn_wpGs,(dgs_cons h1 h2 hs).pg.imp fun v σ H Q ⟨ρ,O,d,st,hd,q⟩=>⟨ρ,O,d,st,hd,by
 unfold wpGs gCons' at q
 cases d with
 | nil=>exact q.elim
 | cons d r=>
  refine ⟨d,r,rfl,?_⟩
  unfold wpG
  simp only at q
  cases hg:g d ρ with
  | none=>rw [hg] at q; exact q
  | some ρ'=>rw [hg] at q; exact q⟩⟩
@[simp] noncomputable def gTup' (n:Nat) (t:GMs):GM:=fun d ρ=>match d with | .tuple ds=>if ds.length=n then t ds ρ else none | _=>none
theorem fg_tup {k n:Nat} {gs:GMs} (hc:X.calm=true) (h:FGs X F es gs) (hn:(assignEach es X.env).length=n:=by rfl) (hst:(assignEach es X.env).findIdx? (·.1)=none:=by rfl):FG X F (.Tuple es k pos) (gTup' n gs):=⟨mn_wpG,(dg_tup hc h hn hst).pg.imp fun v σ H Q ⟨ρ,O,d,st,hd,q⟩=>⟨ρ,O,d,st,hd,by
 unfold wpG gTup' at q
 cases d with
 | tuple ds=>
  simp only at q
  by_cases hl:ds.length=n
  ·rw [if_pos hl] at q; exact ⟨ds,rfl,hl,q⟩
  ·rw [if_neg hl] at q; exact q.elim
 | _=>exact q.elim⟩⟩
@[simp] noncomputable def cNil:XM (List AX):=fun ρ=>.ok [] ρ
@[simp] noncomputable def cVal (a:XM PyData) (r:XM (List AX)):XM (List AX):=fun ρ=>(a ρ).bind fun d ρ1=>(r ρ1).bind fun as ρ2=>.ok (.d d :: as) ρ2
@[simp] noncomputable def cSlot (j:Nat) (r:XM (List AX)):XM (List AX):=fun ρ=>match ρ[j]? with
 | some (some _)=>(r ρ).bind fun as ρ2=>.ok (.s j :: as) ρ2
 | _=>.bad
theorem fx_nil:FX X F E [] cNil:=dx_nil.imp mn_wp fun _ _ q=>q
theorem fx_val {ma:XM PyData} {mr:XM (List AX)} (ha:FE X F E e ma) (hr:FX X F E es mr) (hs:starEach (e :: es) X.env=(false,eval e X.env) :: starEach es X.env:=by rfl):FX X F E (e :: es) (cVal ma mr):=(dx_val ha hr hs).imp mn_wp fun ρ Q q=>
 mn_wp _ _ _ (fun d ρ1 q1=>mn_wp _ _ _ (fun ds ρ2 q2=>q2) (wp_bind (k:=fun as ρ2=>Out.ok (AX.d d :: as) ρ2) q1)) (wp_bind (m:=ma) (k:=fun d ρ1=>(mr ρ1).bind fun as ρ2=>Out.ok (AX.d d :: as) ρ2) q)
theorem fx_slot {p:Pos} {j:Nat} {mr:XM (List AX)} (hv:PE X (.Name x p) (tVar j)) (hr:FX X F E es mr) (hs:starEach (.Name x p :: es) X.env=(false,eval (.Name x p) X.env) :: starEach es X.env:=by rfl):FX X F E (.Name x p :: es) (cSlot j mr):=(dx_slot hv hr hs).imp mn_wp fun ρ Q q=>by
 unfold wp cSlot at q
 cases h:ρ[j]? with
 | none=>rw [h] at q; exact q.elim
 | some o=>
  rw [h] at q
  cases o with
  | none=>exact q.elim
  | some c=>exact ⟨⟨c,h⟩,mn_wp _ _ _ (fun as ρ2 q2=>q2) (wp_bind (m:=mr) (k:=fun as ρ2=>Out.ok (AX.s j :: as) ρ2) (show wp E (fun ρ=>(mr ρ).bind fun as ρ2=>Out.ok (AX.s j :: as) ρ2) ρ Q from q))⟩
@[simp] noncomputable def callK (f:FM) (as:List AX):XM Cell:=fun ρ=>match argCells ρ as with
 | some (cs,js)=>(match f cs with
  | .rt c outs=>.ok c (back js outs (clr js ρ))
  | .ex c outs=>.ex c (back js outs (clr js ρ))
  | .bad=>.bad)
 | none=>.bad
@[simp] noncomputable def xCall (f:FM) (a:XM (List AX)):XM Cell:=fun ρ=>(a ρ).bind (callK f)
theorem fo_call {g:FM} {ma:XM (List AX)} (h:DO X F e (dCall g E (wp E ma))):FO X F E e (xCall g ma):=h.imp mn_wp fun ρ Q q=>mn_wp _ _ _ (fun as ρ1 q1=>by
 unfold wp callK at q1
 unfold callOn
 cases ha:argCells ρ1 as with
 | none=>rw [ha] at q1; exact q1
 | some p=>
  obtain ⟨cs,js⟩:=p
  rw [ha] at q1
  simp only at q1 ⊢
  cases hf:g cs with
  | rt c outs=>rw [hf] at q1; exact q1
  | ex c outs=>rw [hf] at q1; exact q1
  | bad=>rw [hf] at q1; exact q1) (wp_bind (k:=callK g) q)
@[simp] noncomputable def xFrz (a:XM Cell):XM PyData:=fun ρ=>(a ρ).bind fun c=>lift (frz c)
theorem fe_frz {ma:XM Cell} (h:FO X F E e ma):FE X F E e (xFrz ma):=h.de.imp mn_wp fun ρ Q q=>mn_wp _ _ _ (fun c ρ1 q1=>wp_lift q1) (wp_bind q)
@[simp] noncomputable def sNx:SM:=fun ρ=>.nx ρ
@[simp] noncomputable def sThen (m k:SM):SM:=fun ρ=>match m ρ with
 | .nx ρ'=>k ρ'
 | o=>o
theorem fss_nil:FSs X F E [] sNx:=dss_nil.imp fun _ _ q=>q
theorem fss_cons {m k:SM} (h1:FS X F E st m) (h2:FSs X F E rest k):FSs X F E (st :: rest) (sThen m k):=(dss_cons h1 h2).imp fun D ρ q=>by
 show wpS E m _ ρ
 unfold wpS sThen at q
 unfold wpS
 generalize m ρ=o at q ⊢
 cases o with
 | nx ρ'=>exact q
 | _=>exact q
theorem fss_one {m:SM} (h:FS X F E st m):FSs X F E [st] m:=dss_one h
@[simp] noncomputable def ofX {α:Type} (o:Out α) (k:α->DEnv->OutS):OutS:=match o with
 | .ok a ρ=>k a ρ
 | .ex c ρ=>.ex c ρ
 | .bad=>.bad
theorem wpS_ofX {α:Type} {m:XM α} {k:α->SM} {D:DEnds} {ρ:DEnv} (q:wpS E (fun ρ=>ofX (m ρ) k) D ρ):wp E m ρ fun a ρ'=>wpS E (k a) D ρ':=by
 unfold wpS ofX at q
 unfold wp
 simp only at q
 generalize m ρ=o at q ⊢
 cases o with
 | ok a ρ'=>exact q
 | ex c ρ'=>exact q
 | bad=>exact q
@[simp] noncomputable def optS (o:Option DEnv):OutS:=match o with
 | some ρ=>.nx ρ
 | none=>.bad
@[simp] noncomputable def sAsg (m:XM PyData) (g:GM):SM:=fun ρ=>ofX (m ρ) fun d ρ1=>optS (g d ρ1)
theorem asg_of {m:XM PyData} {g:GM} {D:DEnds} {ρ:DEnv} (q:wpS E (sAsg m g) D ρ):sSet (wp E m) (wpG g) D ρ:=mn_wp _ _ _ (fun d ρ1 q1=>by
 unfold wpS optS at q1
 unfold wpG
 simp only at q1
 generalize g d ρ1=o at q1 ⊢
 cases o with
 | some ρ'=>exact q1
 | none=>exact q1) (wpS_ofX (k:=fun d ρ1=>optS (g d ρ1)) q)
theorem fs_asg {tgt:Expr} {m:XM PyData} {g:GM} (he:FE X F E e m) (hg:FG X F tgt g) (hs:swapsWithSole [tgt] e pos.line X.env=pure false:=by rfl) (hw:swappedStores [tgt] e X.env=pure none:=by rfl)
  (h1:(assignEach [tgt] X.env).map (·.2)=[assign tgt X.env]:=by rfl):FS X F E (.Assign [tgt] e pos) (sAsg m g):=(ds_asg he hg hs hw h1).imp fun D ρ q=>asg_of q
theorem fs_set {i:Nat} {pos':Pos} {m:XM PyData} (hN:X.N.Nodup) (hi:X.N[i]? = some x) (hx:Loc X.env.scope x) (he:FE X F E e m) (hs:swapsWith e (some (.Name x pos')) pos.line X.env=pure false:=by rfl)
  (hf:X.fn x=true\/X.env.scope.names.lookup x=some .local:=by first | exact .inl rfl | exact .inr rfl | assumption):FS X F E (.Assign [.Name x pos'] e pos) (sAsg m (gNm i)):=(ds_set hN hi hx he hs hf).imp fun D ρ q=>asg_of q
@[simp] noncomputable def setK (i:Nat) (c:Cell):SM:=fun ρ1=>if i < ρ1.length then (match c with | .own true _=>.bad | c=>.nx (ρ1.set i (some c))) else .bad
@[simp] noncomputable def sSetC (i:Nat) (m:XM Cell):SM:=fun ρ=>ofX (m ρ) (setK i)
theorem fs_setO {i:Nat} {pos':Pos} {m:XM Cell} (hN:X.N.Nodup) (hi:X.N[i]? = some x) (hx:Loc X.env.scope x) (he:FO X F E e m) (hs:swapsWith e (some (.Name x pos')) pos.line X.env=pure false:=by rfl)
  (hf:X.fn x=true\/X.env.scope.names.lookup x=some .local:=by first | exact .inl rfl | exact .inr rfl | assumption):FS X F E (.Assign [.Name x pos'] e pos) (sSetC i m):=(ds_setO hN hi hx he hs hf).imp fun D ρ q=>mn_wp _ _ _ (fun c ρ1 q1=>by
 unfold wpS setK at q1
 by_cases hl:i < ρ1.length
 ·simp only [if_pos hl] at q1
  cases c with
  | own io b=>cases io with
   | true=>exact q1.elim
   | false=>exact ⟨hl,(fun _ z=>by cases z),q1⟩
  | dat d=>exact ⟨hl,(fun _ z=>by cases z),q1⟩
  | scr d=>exact ⟨hl,(fun _ z=>by cases z),q1⟩
  | exc d=>exact ⟨hl,(fun _ z=>by cases z),q1⟩
  | vw d=>exact ⟨hl,(fun _ z=>by cases z),q1⟩
 ·simp only [if_neg hl] at q1) (wpS_ofX (k:=setK i) q)
@[simp] noncomputable def sRetV (m:XM PyData):SM:=fun ρ=>ofX (m ρ) fun d ρ1=>.rt (.dat d) ρ1
@[simp] noncomputable def sRetC (m:XM Cell):SM:=fun ρ=>ofX (m ρ) fun c ρ1=>.rt c ρ1
@[simp] noncomputable def sDoC (m:XM Cell):SM:=fun ρ=>ofX (m ρ) fun _ ρ1=>.nx ρ1
theorem fs_ret {m:XM PyData} (he:FE X F E e m):FS X F E (.Return (some e) pos) (sRetV m):=(ds_ret he).imp fun D ρ q=>mn_wp _ _ _ (fun c ρ1 q1=>q1) (wpS_ofX (k:=fun d ρ1=>.rt (.dat d) ρ1) q)
theorem fs_retO {m:XM Cell} (he:FO X F E e m):FS X F E (.Return (some e) pos) (sRetC m):=(ds_retO he).imp fun D ρ q=>mn_wp _ _ _ (fun c ρ1 q1=>q1) (wpS_ofX (k:=fun d ρ1=>.rt d ρ1) q)
theorem fs_exprO {m:XM Cell} (he:FO X F E e m) (hs:swapsWith e none pos.line X.env=pure false:=by rfl):FS X F E (.Expr e pos) (sDoC m):=(ds_exprO he hs).imp fun D ρ q=>mn_wp _ _ _ (fun c ρ1 q1=>q1) (wpS_ofX (k:=fun _ ρ1=>.nx ρ1) q)
@[simp] noncomputable def sIfF (t:XM Bool) (a b:SM):SM:=fun ρ=>ofX (t ρ) fun x ρ1=>if x=true then a ρ1 else b ρ1
theorem fs_if {cnd:Expr} {sa sb:List Stmt} {mt:XM Bool} {ma mb:SM} (hc:FB X F E cnd mt) (ha:FSs X F E sa ma) (hb:FSs X F E sb mb):FS X F E (.If cnd sa sb pos) (sIfF mt ma mb):=(ds_if hc ha hb).imp fun D ρ q=>mn_wp _ _ _ (fun x ρ1 q1=>by
 cases x with
 | true=>exact iteT q1
 | false=>exact iteF q1) (wpS_ofX (k:=fun x ρ1=>if x=true then ma ρ1 else mb ρ1) q)
end
end L2.L3
namespace L2.L3
open PySem PySem.Spec PyProof.Rows
noncomputable def isTab (d n:String):Option Bool:=if d=n then some true else
 if d = "bool"/\n = "int" then some true else
 if (d = "int"\/d = "bool"\/d = "str"\/d = "list"\/d = "tuple"\/d = "NoneType")/\(n = "int"\/n = "bool"\/n = "str"\/n = "list"\/n = "tuple") then some false else none
theorem kit_tab {d n:String} {b:Bool} (h:isTab d n=some b) (K:PySem.W.Frag):PySem.W.kitOne K (.type d) (.type n)=some b:=by
 unfold isTab at h
 split at h
 ·rename_i e; cases h; subst e; unfold PySem.W.kitOne; rw [if_pos (by simp)]
 ·split at h
  ·rename_i e; cases h; obtain ⟨rfl,rfl⟩:=e; rfl
  ·rename_i n1 n2
   split at h
   ·rename_i e
    cases h
    obtain ⟨e1,e2⟩:=e
    rcases e1 with rfl | rfl | rfl | rfl | rfl | rfl <;> rcases e2 with rfl | rfl | rfl | rfl | rfl <;> first | rfl | (exact absurd rfl n1) | (exact absurd ⟨rfl,rfl⟩ n2)
   ·cases h
@[simp] noncomputable def xIs (n:String) (a:XM PyData):XM PyData:=fun ρ=>(a ρ).bind fun d=>lift ((isTab (tyOfD d) n).map .bool)
section
variable {X:Cx} {F:Fx} {E:Str->DEnv->Prop} {e a b c:Expr} {es:List Expr} {st:Stmt} {rest:List Stmt} {pos:Pos} {x:Str}
theorem fe_is {n:String} {ma:XM PyData} (h:DE X F e (dIsI n (wp E ma))):FE X F E e (xIs n ma):=h.imp mn_wp fun ρ Q q=>mn_wp _ _ _ (fun d ρ1 q1=>by
 obtain ⟨y,e1,q2⟩:=wp_lift q1
 obtain ⟨b,e2,e3⟩:=Option.map_eq_some_iff.mp e1
 subst e3
 exact ⟨b,kit_tab e2,q2⟩) (wp_bind q)
noncomputable def forGo (g:GM) (b:SM):List PyData->SM
 | [],ρ=>.nx ρ
 | d :: r,ρ=>(match g d ρ with
  | some ρ1=>(match b ρ1 with
   | .nx ρ2=>forGo g b r ρ2
   | .ct ρ2=>forGo g b r ρ2
   | .bk ρ2=>.nx ρ2
   | o=>o)
  | none=>.bad)
@[simp] noncomputable def sForF (s:XM (List PyData)) (g:GM) (b:SM):SM:=fun ρ=>ofX (s ρ) (forGo g b)
theorem fs_for {tg iter:Expr} {body:List Stmt} {s:XM (List PyData)} {g:GM} {mb:SM} (hp:PassesOwn (model X.prog X.w) X.A X.env X.xe) (hc:X.calm=true) (hi:FI X F E tg iter s) (hg:FG X F tg g) (hb:FSs X F E body mb) (hs:∀ x,foldedSetIterable iter X.env x=pure x:=by intro _; rfl):FS X F E (.For tg iter body [] pos) (sForF s g mb):=
 (ds_for hp hc hi hg hb hs).imp fun D ρ q=>mn_wp _ _ _ (fun its ρ1 q1=>by
  refine ⟨fun i ρ=>wpS E (forGo g mb (its.drop i)) D ρ,q1,fun i d ρ hd hi=>?_,fun ρ h=>?_⟩
  ·have e:its.drop i=d :: its.drop (i + 1):=by
    obtain ⟨hlt,he⟩:=List.getElem?_eq_some_iff.mp hd
    rw [<-he]
    exact List.drop_eq_getElem_cons hlt
   simp only [e] at hi
   unfold wpS forGo at hi
   unfold wpG
   generalize g d ρ=o at hi ⊢
   cases o with
   | none=>exact hi
   | some ρ1=>
    show wpS E mb _ ρ1
    simp only at hi
    unfold wpS
    generalize mb ρ1=o2 at hi ⊢
    cases o2 with
    | nx ρ2=>exact hi
    | ct ρ2=>exact hi
    | bk ρ2=>exact hi
    | rt c ρ2=>exact hi
    | ex c ρ2=>exact hi
    | bad=>exact hi
  ·simp only [List.drop_length] at h
   exact h) (wpS_ofX (k:=forGo g mb) q)
@[simp] noncomputable def iLs (a:XM PyData):XM (List PyData):=fun ρ=>(a ρ).bind fun d=>lift (match d with | .list ds=>some ds | _=>none)
@[simp] noncomputable def iTs (a:XM PyData):XM (List PyData):=fun ρ=>(a ρ).bind fun d=>lift (match d with | .tuple ds=>some ds | _=>none)
theorem DI.imp {tg iter:Expr} {t t':DTI} (h:DI X F tg iter t) (mn:∀ ρ Q Q',(∀ d ρ',Q d ρ'->Q' d ρ')->t' ρ Q->t' ρ Q') (k:∀ ρ Q,t' ρ Q->t ρ Q):DI X F tg iter t':=⟨mn,h.pi.imp fun σ H Q ⟨ρ,O,st,q⟩=>⟨ρ,O,st,k ρ _ q⟩⟩
theorem fi_list {tg:Expr} {ma:XM PyData} (h:FE X F E e ma):FI X F E tg e (iLs ma):=(di_list h).imp mn_wp fun ρ Q q=>mn_wp _ _ _ (fun d ρ1 q1=>by
 obtain ⟨y,e1,q2⟩:=wp_lift q1
 cases d with
 | list ds=>cases e1; exact ⟨_,rfl,q2⟩
 | _=>cases e1) (wp_bind q)
theorem fi_tup {tg:Expr} {ma:XM PyData} (h:FE X F E e ma):FI X F E tg e (iTs ma):=(di_tup h).imp mn_wp fun ρ Q q=>mn_wp _ _ _ (fun d ρ1 q1=>by
 obtain ⟨y,e1,q2⟩:=wp_lift q1
 cases d with
 | tuple ds=>cases e1; exact ⟨_,rfl,q2⟩
 | _=>cases e1) (wp_bind q)
@[simp] noncomputable def iLf (g:List PyData->Option (List PyData)) (a:XM (List PyData)):XM (List PyData):=fun ρ=>(a ρ).bind fun ds=>lift (g ds)
@[simp] noncomputable def rng1:List PyData->Option (List PyData):=fun xs=>match xs with
 | [.int j]=>if (decide (-(2 ^ 62)<=j) && decide (j < 2 ^ 62))=true then some (intsFrom 0 j.toNat) else none
 | _=>none
theorem fi_range1 {tg:Expr} {ma:XM (List PyData)} (h:DI X F tg e (iR1 (wp E ma))):FI X F E tg e (iLf rng1 ma):=h.imp mn_wp fun ρ Q q=>mn_wp _ _ _ (fun ds ρ1 q1=>by
 obtain ⟨y,e1,q2⟩:=wp_lift q1
 unfold rng1 at e1
 split at e1
 ·split at e1
  ·rename_i h; cases e1; simp only [Bool.and_eq_true,decide_eq_true_eq] at h; exact ⟨_,rfl,h.1,h.2,q2⟩
  ·cases e1
 ·cases e1) (wp_bind q)
noncomputable def compGo (g:GM) (t:XM Bool) (m:XM PyData):List PyData->List PyData->DEnv->Option (List PyData)
 | [],ys,_=>some ys
 | d :: r,ys,ρ=>(match g d ρ with
  | some ρ1=>(match t ρ1 with
   | .ok true ρ2=>(match m ρ2 with
    | .ok y ρ3=>if ys.length < sizeLine then compGo g t m r (ys ++ [y]) ρ3 else none
    | _=>none)
   | .ok false ρ2=>compGo g t m r ys ρ2
   | _=>none)
  | none=>none)
@[simp] noncomputable def liftE (own:Nat) (caps:List Nat) (ρ:DEnv):DEnv:=List.replicate own none ++ caps.map fun j=>capC ρ[j]?
@[simp] noncomputable def compK (own:Nat) (caps:List Nat) (g:GM) (t:XM Bool) (m:XM PyData) (its:List PyData):XM PyData:=fun ρ1=>lift ((compGo g t m its [] (liftE own caps ρ1)).bind fun ys=>if ys.length<=sizeLine then some (.list ys) else none) ρ1
@[simp] noncomputable def xComp (own:Nat) (caps:List Nat) (s:XM (List PyData)) (g:GM) (t:XM Bool) (m:XM PyData):XM PyData:=fun ρ=>(s ρ).bind (compK own caps g t m)
noncomputable abbrev E0':Str->DEnv->Prop:=fun _ _=>False
theorem comp_of {own:List Str} {caps:List Nat} {s:XM (List PyData)} {g:GM} {t:XM Bool} {m:XM PyData} {ρ:DEnv} {Q:PyData->DEnv->Prop} (q:wp E (xComp own.length caps s g t m) ρ Q):dCmp own caps (wp E s) (wpG g) (wp E0' t) (wp E0' m) ρ Q:=mn_wp _ _ _ (fun its ρ1 q1=>by
 obtain ⟨y,e1,q2⟩:=wp_lift (o:=(compGo g t m its [] (liftE own.length caps ρ1)).bind fun ys=>if ys.length<=sizeLine then some (PyData.list ys) else none) (ρ:=ρ1) (E:=E) (Q:=Q) q1
 obtain ⟨ys0,e2,e3⟩:=Option.bind_eq_some_iff.mp e1
 have hl:ys0.length<=sizeLine/\y=.list ys0:=by
  split at e3
  ·rename_i h; cases e3; exact ⟨h,rfl⟩
  ·cases e3
 have eL:liftD own caps ρ1=liftE own.length caps ρ1:=by
  unfold liftD liftE
  rw [List.map_const']
 refine ⟨fun i ys ρ=>compGo g t m (its.drop i) ys ρ=some ys0,by rw [eL]; exact e2,fun i d ys ρ hd hi=>?_,fun ys ρ h=>?_⟩
 ·have e:its.drop i=d :: its.drop (i + 1):=by
   obtain ⟨hlt,he⟩:=List.getElem?_eq_some_iff.mp hd
   rw [<-he]
   exact List.drop_eq_getElem_cons hlt
  simp only [e] at hi
  unfold compGo at hi
  unfold wpG
  cases hg:g d ρ with
  | none=>rw [hg] at hi; cases hi
  | some ρ2=>
   rw [hg] at hi
   simp only at hi ⊢
   unfold wp
   cases ht:t ρ2 with
   | ex c ρ3=>rw [ht] at hi; cases hi
   | bad=>rw [ht] at hi; cases hi
   | ok b ρ3=>
    rw [ht] at hi
    cases b with
    | false=>exact iteF hi
    | true=>
     refine iteT ?_
     simp only at hi ⊢
     cases hm:m ρ3 with
     | ex c ρ4=>rw [hm] at hi; cases hi
     | bad=>rw [hm] at hi; cases hi
     | ok y' ρ4=>
      rw [hm] at hi
      simp only at hi ⊢
      split at hi
      ·rename_i h; exact ⟨h,hi⟩
      ·cases hi
 ·simp only [List.drop_length] at h
  have:ys=ys0:=by unfold compGo at h; exact Option.some.inj h
  subst this
  rw [hl.2] at q2
  exact ⟨hl.1,q2⟩) (wp_bind (k:=compK own.length caps g t m) q)
noncomputable abbrev FBs (X:Cx) (F:Fx) (E:Str->DEnv->Prop) (ifs:List Expr) (m:XM Bool):Prop:=DBs X F ifs (wp E m)
noncomputable def bTrue:XM Bool:=fun ρ=>.ok true ρ
theorem fbs_nil:FBs X F E [] bTrue:=⟨mn_wp,fun pins s σ H Q I ⟨ρ,O,st,q⟩=>dbs_nil.2 pins s σ H Q I ⟨ρ,O,st,q⟩⟩
theorem fbs_one {ma:XM Bool} (h:FB X F E c ma):FBs X F E [c] ma:=dbs_one h
theorem fe_comp {scope:Scope} {own capN:List Str} {caps:List Nat} {tg iter elt:Expr} {ifs:List Expr} {s:XM (List PyData)} {g:GM} {t:XM Bool} {m:XM PyData} {n:Nat} (hG:GF X.mg F) (S:CompScope X scope own capN caps) (hc:X.calm=true) (hn:own.length=n) (hi:FI X F E tg iter s)
  (hin:∀ C fp s₂ H₂ pl F',GF X.mg F'->FG (compCx X scope (own ++ capN) C fp s₂ H₂ pl) F' tg g/\FBs (compCx X scope (own ++ capN) C fp s₂ H₂ pl) F' E0' ifs t/\FE (compCx X scope (own ++ capN) C fp s₂ H₂ pl) F' E0' elt m)
  (hs:∀ x,foldedSetIterable iter X.env x=pure x:=by intro _; rfl):FE X F E (.ListComp elt [⟨tg,iter,ifs,0⟩] scope pos) (xComp n caps s g t m):=by
 subst hn
 exact (de_comp hG S hc hi hin hs).imp mn_wp fun ρ Q q=>comp_of q
theorem fs_setComp {scope:Scope} {own capN:List Str} {caps:List Nat} {tg iter elt:Expr} {ifs:List Expr} {s:XM (List PyData)} {g:GM} {t:XM Bool} {m:XM PyData} {n i:Nat} {y:Str} {py spos:Pos} (hN:X.N.Nodup) (hi':X.N[i]? = some y) (hx:Loc X.env.scope y) (hG:GF X.mg F) (S:CompScope X scope own capN caps) (hc:X.calm=true) (hn:own.length=n) (hi:FI X F E tg iter s)
  (hin:∀ C fp s₂ H₂ pl F',GF X.mg F'->FG (compCx X scope (own ++ capN) C fp s₂ H₂ pl) F' tg g/\FBs (compCx X scope (own ++ capN) C fp s₂ H₂ pl) F' E0' ifs t/\FE (compCx X scope (own ++ capN) C fp s₂ H₂ pl) F' E0' elt m)
  (hsw:swapsWith (.ListComp elt [⟨tg,iter,ifs,0⟩] scope pos) (some (.Name y py)) spos.line X.env=pure true:=by rfl)
  (hs:∀ x,foldedSetIterable iter X.env x=pure x:=by intro _; rfl) (hf:X.fn y=true\/X.env.scope.names.lookup y=some .local:=by first | exact .inl rfl | exact .inr rfl | assumption) :
  FS X F E (.Assign [.Name y py] (.ListComp elt [⟨tg,iter,ifs,0⟩] scope pos) spos) (sAsg (xComp n caps s g t m) (gNm i)):=by
 subst hn
 exact (ds_setComp hN hi' hx hG S hc hi hin hsw hs hf).imp fun D ρ q=>by
  have q':=asg_of q
  exact mn_cmp (s:=wp E s) mn_wp ρ _ _ (fun d ρ' h=>h) (comp_of (Q:=fun d ρ'=>wpG (gNm i) d ρ' D.nx) q')
end
end L2.L3
namespace L2.L3
open PySem PySem.Spec PyProof.Rows
section
variable {K:PySem.W.Frag} {F:Fx} {H H':Hp} {σ:St} {ρ:DEnv} {O O':List Addr}
theorem DSt.fresh (st:DSt K F H σ ρ O) {p:Addr} {o:HO} (hp:H p=none) (ho:Mv o):∃ O',DSt K (F.plus [p]) (upd H p o) σ ρ O'/\Stp O H O' (upd H p o):=by
 obtain ⟨O',h1,h2,_⟩:=DSt.swap (L:=[]) (L':=[p]) (H':=upd H p o) (F:=F) st (fun b u _ e=>same_upd hp b u e) (by simp) (fun a h=>.inr (by obtain rfl:=List.mem_singleton.mp h; exact hp)) (fun a h=>by cases h) (fun a h=>by obtain rfl:=List.mem_singleton.mp h; exact ⟨o,upd_same,ho⟩)
 exact ⟨O',h1,h2⟩
theorem DSt.new1 (st:DSt K F H σ ρ O) {p:Addr} (hp:H p=none):∀ a ∈ [p],a ∈ F.A₀\/F.H₀ a=none:=fun a h=>by
 obtain rfl:=List.mem_singleton.mp h
 by_cases hA:a ∈ F.A₀
 ·exact .inl hA
 ·refine .inr ?_
  cases e:F.H₀ a with
  | none=>rfl
  | some o=>obtain ⟨W,h,_⟩:=st; have:=h.kept a o hA e; rw [hp] at this; cases this
end
section
variable {X:Cx} {F:Fx} {E:Str->DEnv->Prop} {e a b c:Expr} {es:List Expr} {st:Stmt} {rest:List Stmt} {pos:Pos} {x:Str}
noncomputable def dLstO (t:DTA):DTO:=fun ρ Q=>t ρ fun ds ρ'=>ds.length<=sizeLine/\Q (.own false (.l ds)) ρ'
theorem do_lst {tA:DTA} (h:DA X F es tA):DO X F (.List es pos) (dLstO tA):=
 ⟨fun _ _ _ k q=>h.mn _ _ _ (fun _ _ q1=>⟨q1.1,k _ _ q1.2⟩) q,(pe_lst h.pa).imp fun σ H Q ⟨ρ,O,st,q⟩=>
  ⟨ρ,O,st,h.mn _ _ _ (fun ds ρ1 q1 vs H1 O1 st1 s1 d1=>⟨by rw [d1.length]; exact q1.1,fun p hp=>by
   obtain ⟨O2,st2,s2⟩:=st1.fresh (o:=.lst vs) hp trivial
   exact q1.2 _ _ O2 [p] ⟨st2,⟨p,rfl,rfl,vs,upd_same,DVs.mono s2.hid d1⟩,st1.new1 hp⟩ (s1.trans s2)⟩) q⟩⟩
@[simp] noncomputable def xLstO (a:XM (List PyData)):XM Cell:=fun ρ=>(a ρ).bind fun ds=>lift (if ds.length<=sizeLine then some (.own false (.l ds)) else none)
theorem fo_lst {ma:XM (List PyData)} (h:FA X F E es ma):FO X F E (.List es pos) (xLstO ma):=(do_lst h).imp mn_wp fun ρ Q q=>mn_wp _ _ _ (fun ds ρ1 q1=>by
 obtain ⟨d,e1,q2⟩:=wp_lift q1
 split at e1
 ·rename_i h; cases e1; exact ⟨h,q2⟩
 ·cases e1) (wp_bind q)
@[simp] noncomputable def appK (i:Nat) (d:PyData):SM:=fun ρ1=>match ρ1[i]? with
 | some (some (.own io (.l ds)))=>if ds.length < sizeLine then .nx (ρ1.set i (some (.own io (.l (ds ++ [d]))))) else .bad
 | _=>.bad
@[simp] noncomputable def sApp (i:Nat) (m:XM PyData):SM:=fun ρ=>match ρ[i]? with
 | some (some (.own _ (.l _)))=>ofX (m ρ) (appK i)
 | _=>.bad
theorem fs_app {i:Nat} {m:XM PyData} {p1 apos cpos:Pos} (hv:PE X (.Name x p1) (tVar i)) (he:FE X F E e m) (hsw:swapsWith (.Call (.Attribute (.Name x p1) "append" apos) [e] [] cpos) none pos.line X.env=pure false:=by rfl)
  (hbase:attributeBase (.Name x p1) "append" X.env (eval (.Name x p1) X.env)=eval (.Name x p1) X.env:=by rfl)
  (hfew:((backTo cpos (starEach [e] X.env)).all (fun x=>!x.1) && (backToKw cpos (keywordEach [] X.env)).all (fun x=>x.1.isSome) && decide (([e]:List Expr).length + ([]:List Keyword).length + (if ([]:List Keyword).isEmpty then 0 else 1) < 30))=true:=by rfl)
  (hline:(apos.endLine == cpos.line)=true:=by rfl) (hs:starEach [e] X.env=(false,eval e X.env) :: starEach [] X.env:=by rfl) (hplain:(backTo cpos (starEach [] X.env)).any (·.1)=false:=by rfl) :
  FS X F E (.Expr (.Call (.Attribute (.Name x p1) "append" apos) [e] [] cpos) pos) (sApp i m):=
 (ps_expr (pe_bm PySem.F.plainAttrs_list PySem.F.slot_list_append PySem.F.type_list_append mt_append hv (pa_cons he.pe pa_nil hs) hbase hfew hline hs hplain) hsw).imp fun D σ H ⟨ρ,O,DD,st,q,f⟩=>by
  unfold wpS sApp at q
  cases h0:ρ[i]? with
  | none=>rw [h0] at q; exact q.elim
  | some o=>
   rw [h0] at q
   cases o with
   | none=>exact q.elim
   | some c0=>
    cases c0 with
    | dat d=>exact q.elim
    | scr d=>exact q.elim
    | exc d=>exact q.elim
    | vw d=>exact q.elim
    | own io0 b0=>
     cases b0 with
     | m _ _=>exact q.elim
     | o _ _=>exact q.elim
     | sd _=>exact q.elim
     | ll _=>exact q.elim
     | pr _ _ _=>exact q.elim
     | l ds0=>
      obtain ⟨a,fp,hv0,⟨_,xs,hH,_⟩,_,_⟩:=st.box h0
      refine ⟨_,hv0,.inl ⟨rfl,xs,.of hH⟩,ρ,O,st,mn_wp _ _ _ (fun d ρ1 q1 w H1 O1 st1 s1 d1=>?_) (wpS_ofX (m:=m) (k:=appK i) q)⟩
      unfold wpS appK at q1
      cases h1:ρ1[i]? with
      | none=>rw [h1] at q1; exact q1.elim
      | some o=>
       rw [h1] at q1
       cases o with
       | none=>exact q1.elim
       | some c1=>
        cases c1 with
        | dat d=>exact q1.elim
        | scr d=>exact q1.elim
        | exc d=>exact q1.elim
        | vw d=>exact q1.elim
        | own io1 b1=>
         cases b1 with
         | m _ _=>exact q1.elim
         | o _ _=>exact q1.elim
         | sd _=>exact q1.elim
         | ll _=>exact q1.elim
         | pr _ _ _=>exact q1.elim
         | l ds=>
          simp only at q1
          obtain ⟨a1,fp1,hv1,⟨e1,ys,hH1,hd⟩,hO,up⟩:=st1.box h1
          rw [hv0] at hv1; cases hv1
          subst e1
          by_cases hz:ds.length < sizeLine
          ·rw [if_pos hz] at q1
           refine ⟨a,ys,w,rfl,rfl,hH1,by rw [hd.length]; exact hz,?_⟩
           obtain ⟨O2,st2,s2,_⟩:=up (upd H1 a (.lst (ys ++ [w]))) (.l (ds ++ [d])) [a] (fun c o hc e=>by rw [upd_ne (by simpa using hc)]; exact e) (by simp) (fun c hc=>.inl hc) (fun G O' s hG _=>by
            subst hG
            exact ⟨s.hid,rfl,ys ++ [w],upd_same,(DVs.mono s.hid hd).append (.cons (DV.mono s.hid d1) .nil)⟩)
           exact f.nx _ _ _ _ st2 (s1.trans s2) q1
          ·rw [if_neg hz] at q1; exact q1.elim
@[simp] noncomputable def lenC:Cell->Option PyData
 | .dat (.list ds)=>some (.int ds.length)
 | .dat (.tuple ds)=>some (.int ds.length)
 | .own _ (.l ds)=>some (.int ds.length)
 | _=>none
@[simp] noncomputable def xLenN (i:Nat):XM PyData:=fun ρ=>match ρ[i]? with
 | some (some c)=>lift (lenC c) ρ
 | _=>.bad
theorem fe_lenN {i:Nat} {p p1:Pos} (hg:Gl X "len") (hm:X.mg "len" = none) (h:PE X (.Name x p1) (tVar i)) (he:starEach [.Name x p1] X.env=(false,eval (.Name x p1) X.env) :: starEach [] X.env:=by rfl) (hpl:(backTo pos (starEach [] X.env)).any (·.1)=false:=by rfl) :
  FE X F E (.Call (.Name "len" p) [.Name x p1] [] pos) (xLenN i):=
 ⟨mn_wp,(pe_callB call_len_seq hg hm PySem.boot_len (pa_cons h pa_nil he) (by decide) (by decide) he hpl).imp fun σ H Q ⟨ρ,O,st,q⟩=>by
  unfold wp xLenN at q
  cases h0:ρ[i]? with
  | none=>rw [h0] at q; exact q.elim
  | some o=>
   rw [h0] at q
   cases o with
   | none=>exact q.elim
   | some c0=>
    unfold lift at q
    cases c0 with
    | scr d=>exact q.elim
    | exc d=>exact q.elim
    | vw d=>exact q.elim
    | dat d=>
     obtain ⟨v,hv,hd⟩:=st.dat h0
     cases d with
     | list ds=>
      obtain ⟨a,xs,rfl,ha,hx⟩:=hd.lst_inv
      exact ⟨_,hv,a,xs,rfl,.inl (.of (of_hide ha).1),by rw [hx.length]; exact q _ H O st .refl (.int _)⟩
     | tuple ds=>
      obtain ⟨a,xs,rfl,ha,hx⟩:=hd.tup_inv
      exact ⟨_,hv,a,xs,rfl,.inr (.inl (of_hideR ha).1),by rw [hx.length]; exact q _ H O st .refl (.int _)⟩
     | _=>exact q.elim
    | own io b=>
     cases b with
     | l ds=>
      obtain ⟨a,fp,hv,⟨_,xs,hH,hx⟩,_,_⟩:=st.box h0
      exact ⟨_,hv,a,xs,rfl,.inl (.of hH),by rw [hx.length]; exact q _ H O st .refl (.int _)⟩
     | _=>exact q.elim⟩
end
end L2.L3
namespace L2.L3
open PySem PySem.Spec PyProof.Rows
noncomputable def keyOf:PyData->Option Key
 | .int i=>some (.inl i)
 | .str x=>some (.inr x)
 | _=>none
noncomputable def keysOf:List PyData->Option (List Key)
 | []=>some []
 | d :: r=>(match keyOf d,keysOf r with | some k,some l=>some (k :: l) | _,_=>none)
noncomputable def keyG:Bool->PyData->Option (List Key)
 | false,d=>(keyOf d).map fun k=>[k]
 | true,.tuple ds=>keysOf ds
 | true,_=>none
noncomputable abbrev KVs:=List (PyData × PyData)
noncomputable def dFind (tk:Bool):KVs->List Key->Option PyData
 | [],_=>none
 | p :: r,k=>if keyG tk p.1=some k then some p.2 else dFind tk r k
noncomputable def dRepl (tk:Bool) (k:List Key) (v:PyData):KVs->KVs
 | []=>[]
 | p :: r=>(if keyG tk p.1=some k then (p.1,v) else p) :: dRepl tk k v r
noncomputable def dStore (tk:Bool) (kvs:KVs) (d:PyData) (k:List Key) (v:PyData):KVs:=if (dFind tk kvs k).isSome=true then dRepl tk k v kvs else kvs ++ [(d,v)]
theorem key_v {G:Hp} {v:V} {d:PyData} {k:Key} (h:DV G v d) (e:keyOf d=some k):v=kV k:=by
 cases d with
 | int i=>cases e; exact h.int_inv
 | str x=>cases e; exact h.str_inv
 | _=>cases e
theorem key_d {k:Key}:keyOf (keyD k)=some k:=by cases k <;> rfl
theorem key_i {d:PyData} {k:Key} (e:keyOf d=some k):d=keyD k:=by
 cases d with
 | int i=>cases e; rfl
 | str x=>cases e; rfl
 | _=>cases e
theorem keys_d:∀ {ks:List Key},keysOf (ks.map keyD)=some ks
 | []=>rfl
 | k :: r=>by show (match keyOf (keyD k),keysOf (r.map keyD) with | some k,some l=>some (k :: l) | _,_=>none)=_; rw [key_d,keys_d]
theorem keys_i:∀ {ds:List PyData} {ks:List Key},keysOf ds=some ks->ds=ks.map keyD
 | [],ks,e=>by cases e; rfl
 | d :: r,ks,e=>by
  unfold keysOf at e
  cases h1:keyOf d with
  | none=>rw [h1] at e; cases e
  | some k=>
   cases h2:keysOf r with
   | none=>rw [h1,h2] at e; cases e
   | some l=>rw [h1,h2] at e; cases e; rw [key_i h1,keys_i h2]; rfl
theorem keys_v {G:Hp}:∀ {vs:List V} {ks:List Key},DVs G vs (ks.map keyD)->vs=ks.map kV
 | [],[],_=>rfl
 | _ :: _,k :: r,.cons h1 h2=>by rw [key_v h1 key_d,keys_v h2]; rfl
theorem valV_rel {κ:Type} [DecidableEq κ] {R:κ->PyData->Prop} {G:Hp} {tk:Bool} {inj:κ->List Key} (hk:∀ k d,R k d->keyG tk d=some (inj k)) (hi:∀ a b,inj a=inj b->a=b) :
  ∀ {ks:List (κ × V)} {kvs:KVs} (k:κ),Paired (fun (p:κ × V) (q:PyData × PyData)=>R p.1 q.1/\DV G p.2 q.2) ks kvs->(valV ks k=none/\dFind tk kvs (inj k)=none)\/∃ v d,valV ks k=some v/\dFind tk kvs (inj k)=some d/\DV G v d
 | [],[],k,_=>.inl ⟨rfl,rfl⟩
 | p :: r,q :: s,k,.cons h t=>by
  by_cases e:p.1=k
  ·refine .inr ⟨p.2,q.2,valV_pos e,?_,h.2⟩
   unfold dFind
   rw [if_pos (by rw [hk _ _ h.1,e])]
  ·rw [valV_neg e]
   unfold dFind
   rw [if_neg (by rw [hk _ _ h.1]; exact fun z=>e (hi _ _ (Option.some.inj z)))]
   exact valV_rel hk hi k t
theorem repl_rel {κ:Type} [DecidableEq κ] {R:κ->PyData->Prop} {G:Hp} {tk:Bool} {inj:κ->List Key} (hk:∀ k d,R k d->keyG tk d=some (inj k)) (hi:∀ a b,inj a=inj b->a=b) {v:V} {x:PyData} (hv:DV G v x) :
  ∀ {ks:List (κ × V)} {kvs:KVs} (k:κ),Paired (fun (p:κ × V) (q:PyData × PyData)=>R p.1 q.1/\DV G p.2 q.2) ks kvs->Paired (fun (p:κ × V) (q:PyData × PyData)=>R p.1 q.1/\DV G p.2 q.2) (ks.map fun kv=>if kv.1=k then (kv.1,v) else kv) (dRepl tk (inj k) x kvs)
 | [],[],k,_=>.nil
 | p :: r,q :: s,k,.cons h t=>by
  refine .cons ?_ (repl_rel hk hi hv k t)
  dsimp only
  by_cases e:p.1=k
  ·rw [if_pos e,if_pos (by rw [hk _ _ h.1,e])]; exact ⟨h.1,hv⟩
  ·rw [if_neg e,if_neg (by rw [hk _ _ h.1]; exact fun z=>e (hi _ _ (Option.some.inj z)))]; exact h
theorem pd_app {α β:Type} {R:α->β->Prop}:∀ {xs:List α} {ys:List β} {us:List α} {vs:List β},Paired R xs ys->Paired R us vs->Paired R (xs ++ us) (ys ++ vs)
 | _,_,_,_,.nil,h=>h
 | _,_,_,_,.cons h t,r=>.cons h (pd_app t r)
theorem put_rel {κ:Type} [DecidableEq κ] {R:κ->PyData->Prop} {G:Hp} {tk:Bool} {inj:κ->List Key} (hk:∀ k d,R k d->keyG tk d=some (inj k)) (hi:∀ a b,inj a=inj b->a=b) {v:V} {x d:PyData} (hv:DV G v x)
  {ks:List (κ × V)} {kvs:KVs} {k:κ} (hd:R k d) (h:Paired (fun (p:κ × V) (q:PyData × PyData)=>R p.1 q.1/\DV G p.2 q.2) ks kvs):Paired (fun (p:κ × V) (q:PyData × PyData)=>R p.1 q.1/\DV G p.2 q.2) (putK ks k v) (dStore tk kvs d (inj k) x):=by
 rcases valV_rel hk hi k h with ⟨e1,e2⟩ | ⟨v',d',e1,e2,_⟩
 ·rw [putK_new v e1]
  unfold dStore
  rw [e2,if_neg (by simp)]
  exact pd_app h (.cons ⟨hd,hv⟩ .nil)
 ·unfold dStore
  rw [e2,if_pos (by rfl)]
  unfold putK
  rw [if_pos (by rw [valV_any,e1]; rfl)]
  exact repl_rel hk hi hv k h
theorem hk1:∀ (k:Key) (d:PyData),keyD k=d->keyG false d=some [k]:=fun k d e=>by subst e; show (keyOf (keyD k)).map _=_; rw [key_d]; rfl
theorem hi1:∀ (a b:Key),[a]=[b]->a=b:=fun a b e=>by cases e; rfl
theorem hk2:∀ (k:List Key) (d:PyData),tupD k=d->keyG true d=some k:=fun k d e=>by subst e; exact keys_d
@[simp] noncomputable def keyQ (tk:Bool) (d:PyData):Option (List Key):=match d with
 | .tuple []=>none
 | d=>keyG tk d
theorem keyQ_of {tk:Bool} {d:PyData} {k:List Key} (e:keyQ tk d=some k):keyG tk d=some k/\d ≠ .tuple []:=by
 unfold keyQ at e
 split at e
 ·cases e
 ·rename_i h; exact ⟨e,h⟩
theorem keyless_of:∀ {ds:List PyData} {k:List Key},keysOf ds=some k->ds ≠ []->keyless ds=false
 | [],_,_,h=>absurd rfl h
 | [d],k,e,_=>by
  cases d <;> first | rfl | (simp [keysOf,keyOf] at e)
 | d :: f :: r,k,e,_=>by
  unfold keysOf at e
  split at e
  ·rename_i k1 l e1 e2
   have ih:=keyless_of (ds:=f :: r) e2 (by simp)
   cases d <;> first | (exact (by simpa [keyless] using ih)) | (exfalso; simp [keyOf] at e1)
  ·cases e
section
variable {G H:Hp} {a:Addr} {tk:Bool} {kvs:KVs}
theorem dic_get (h:DicAt G H a tk kvs) (hG:Same G H) {y:V} {d:PyData} {k:List Key} (hy:DV G y d) (e:keyQ tk d=some k):∃ o,DGet H a y o/\((o=none/\dFind tk kvs k=none)\/∃ v x,o=some v/\dFind tk kvs k=some x/\DV G v x):=by
 obtain ⟨e,hne⟩:=keyQ_of e
 cases tk with
 | false=>
  obtain ⟨ks,hH,pr⟩:=h
  obtain ⟨k',e1,e2⟩:=Option.map_eq_some_iff.mp e
  subst e2
  obtain rfl:=key_v hy e1
  exact ⟨_,.k hH,valV_rel hk1 hi1 k' pr⟩
 | true=>
  obtain ⟨ks,hH,pr⟩:=h
  cases d with
  | tuple ds=>
   obtain ⟨b,xs,rfl,hb,hx⟩:=hy.tup_invK (keyless_of e fun z=>hne (by rw [z]))
   rw [keys_i e] at hx
   rw [keys_v hx] at hb
   exact ⟨_,.t hH (hG _ _ hb),valV_rel (inj:=id) hk2 (fun _ _ z=>z) k pr⟩
  | _=>cases e
end
noncomputable def asM (ρ:DEnv) (i:Nat):Option (Bool × Bool × KVs):=match ρ[i]? with
 | some (some (.own io (.m tk kvs)))=>some (io,tk,kvs)
 | _=>none
theorem asM_at {ρ:DEnv} {i:Nat} {io tk:Bool} {kvs:KVs} (h:asM ρ i=some (io,tk,kvs)):ρ[i]? = some (some (.own io (.m tk kvs))):=by
 unfold asM at h
 split at h
 ·rename_i e; cases h; exact e
 ·cases h
section
variable {X:Cx} {F:Fx} {E:Str->DEnv->Prop} {e a b c:Expr} {es:List Expr} {st:Stmt} {rest:List Stmt} {pos:Pos} {x:Str}
noncomputable def dInK (neg:Bool) (i:Nat) (d:PyData):XM PyData:=fun ρ=>lift (match asM ρ i with
 | some (_,tk,kvs)=>(keyQ tk d).map fun k=>.bool ((dFind tk kvs k).isSome != neg)
 | none=>none) ρ
noncomputable def xDIn (neg:Bool) (i:Nat) (m:XM PyData):XM PyData:=fun ρ=>(m ρ).bind (dInK neg i)
theorem dInK_of {neg:Bool} {i:Nat} {d:PyData} {ρ:DEnv} {Q:PyData->DEnv->Prop} (q:wp E (dInK neg i d) ρ Q):∃ io tk kvs k,ρ[i]? = some (some (.own io (.m tk kvs)))/\keyQ tk d=some k/\Q (.bool ((dFind tk kvs k).isSome != neg)) ρ:=by
 obtain ⟨y,e1,q2⟩:=wp_lift (o:=match asM ρ i with | some (_,tk,kvs)=>(keyQ tk d).map fun k=>PyData.bool ((dFind tk kvs k).isSome != neg) | none=>none) (ρ:=ρ) (E:=E) (Q:=Q) q
 cases hm:asM ρ i with
 | none=>rw [hm] at e1; cases e1
 | some p=>
  obtain ⟨io,tk,kvs⟩:=p
  rw [hm] at e1
  obtain ⟨k,e2,e3⟩:=Option.map_eq_some_iff.mp e1
  subst e3
  exact ⟨io,tk,kvs,k,asM_at hm,e2,q2⟩
theorem din_core {neg:Bool} {i:Nat} {d:PyData} {ρ:DEnv} {σ:St} {H:Hp} {O:List Addr} {Q:PyData->DEnv->Prop} (st:DSt X.K F H σ ρ O) (q:wp E (dInK neg i d) ρ Q) {w:V} (hw:DV (hide O H) w d) :
  ∃ v,σ[i]? = some (some v)/\∃ a o,v=.ref a/\DGet H a w o/\Q (.bool (o.isSome != neg)) ρ:=by
 obtain ⟨io,tk,kvs,k,h1,h2,q2⟩:=dInK_of q
 obtain ⟨a,fp,hv,⟨_,hd⟩,_,_⟩:=st.box h1
 obtain ⟨o,g,r⟩:=dic_get hd hide_le hw h2
 refine ⟨_,hv,a,o,rfl,g,?_⟩
 rcases r with ⟨rfl,e⟩ | ⟨v,x,rfl,e,_⟩
 ·rw [e] at q2; exact q2
 ·rw [e] at q2; exact q2
noncomputable def dGetK (i:Nat) (d:PyData):XM PyData:=fun ρ=>lift (match asM ρ i with
 | some (_,tk,kvs)=>(keyQ tk d).bind fun k=>dFind tk kvs k
 | none=>none) ρ
noncomputable def xDGet (i:Nat) (m:XM PyData):XM PyData:=fun ρ=>match asM ρ i with
 | some _=>(m ρ).bind (dGetK i)
 | none=>.bad
theorem dget_core {i:Nat} {d:PyData} {ρ:DEnv} {σ:St} {H:Hp} {O:List Addr} {Q:PyData->DEnv->Prop} (st:DSt X.K F H σ ρ O) (q:wp E (dGetK i d) ρ Q) {w:V} (hw:DV (hide O H) w d) :
  ∃ v,σ[i]? = some (some v)/\∃ a u y,v=.ref a/\DGet H a w (some u)/\DV (hide O H) u y/\Q y ρ:=by
 obtain ⟨y,e1,q2⟩:=wp_lift (o:=match asM ρ i with | some (_,tk,kvs)=>(keyQ tk d).bind fun k=>dFind tk kvs k | none=>none) (ρ:=ρ) (E:=E) (Q:=Q) q
 cases hm:asM ρ i with
 | none=>rw [hm] at e1; cases e1
 | some p=>
  obtain ⟨io,tk,kvs⟩:=p
  rw [hm] at e1
  obtain ⟨k,e2,e3⟩:=Option.bind_eq_some_iff.mp e1
  obtain ⟨a,fp,hv,⟨_,hd⟩,_,_⟩:=st.box (asM_at hm)
  obtain ⟨o,g,r⟩:=dic_get hd hide_le hw e2
  rcases r with ⟨rfl,e⟩ | ⟨v,x,rfl,e,hx⟩
  ·rw [e] at e3; cases e3
  ·rw [e] at e3; cases e3; exact ⟨_,hv,a,v,_,rfl,g,hx,q2⟩
theorem fe_dget {i:Nat} {m:XM PyData} {p1:Pos} (hu:X.A.units + 1 < cLine) (hv:PE X (.Name x p1) (tVar i)) (he:FE X F E e m) (hs:NoSl e:=by intro _ _; rfl):FE X F E (.Subscript (.Name x p1) e pos) (xDGet i m):=
 ⟨mn_wp,(pe_dget hu hv he.pe hs).imp fun σ H Q ⟨ρ,O,st,q⟩=>by
  unfold wp xDGet at q
  cases hm:asM ρ i with
  | none=>rw [hm] at q; exact q.elim
  | some p=>
   rw [hm] at q
   obtain ⟨io,tk,kvs⟩:=p
   obtain ⟨a0,fp,hv0,_,_,_⟩:=st.box (asM_at hm)
   refine ⟨_,hv0,ρ,O,st,mn_wp _ _ _ (fun d ρ1 q1 w H1 O1 st1 s1 d1=>?_) (wp_bind (m:=m) (k:=dGetK i) q)⟩
   obtain ⟨v,h1,a,u,y,h2,h3,h4,h5⟩:=dget_core st1 q1 d1
   rw [hv0] at h1
   cases h1
   exact ⟨a,u,h2,h3,h5 u H1 O1 st1 s1 h4⟩⟩
end
end L2.L3
namespace L2.L3
open PySem PySem.Spec PyProof.Rows
section
variable {X:Cx} {F:Fx} {E:Str->DEnv->Prop} {e a b c:Expr} {es:List Expr} {st:Stmt} {rest:List Stmt} {pos:Pos} {x:Str}
@[simp] noncomputable def uTail (k:Nat):PyData->Option PyData:=fun d=>match d with | .list ds=>some (.list (ds.drop k)) | _=>none
@[simp] noncomputable def xU (g:PyData->Option PyData) (a:XM PyData):XM PyData:=fun ρ=>(a ρ).bind fun d=>lift (g d)
theorem fe_tail {k:Nat} {ma:XM PyData} (h:DE X F e (dTail (wp E ma) k)):FE X F E e (xU (uTail k) ma):=h.imp mn_wp fun ρ Q q=>mn_wp _ _ _ (fun d ρ1 q1=>by
 obtain ⟨y,e1,q2⟩:=wp_lift q1
 cases d with
 | list ds=>cases e1; exact ⟨_,rfl,q2⟩
 | _=>cases e1) (wp_bind q)
end
end L2.L3
namespace L2.L3
open PySem PySem.Spec PyProof.Rows
noncomputable abbrev bmV:List Value:=[.type "ValueError",.type "Exception",.type "BaseException",.type "object"]
noncomputable def OwnEx (h:Heap) (C:Addr):Prop:=∃ tl N nm q bs hdct sn sub ab col dd k0 k1 k2 k3 k5 mN,h.get? C=some (excClassObj nm q C N bs tl hdct sn sub ab col dd k0 k1 k2 k3 k5 "ValueError.__new__")/\h.Ns N mN/\mN "__init__" = none/\OwnTail h bmV tl
theorem ownEx_of {K:PySem.W.Frag} {h:Heap} {C:Addr} (X:K.In h) (e:PySem.W.excIn K C bmV "ValueError.__new__" = true):OwnEx h C:=by
 unfold PySem.W.excIn at e
 split at e
 ·rename_i o1 o2 o3 o4
  split at e
  ·rename_i a1 a2 a3 a4 a5 a6 a7 a8 a9 a10
   have e':=e
   simp only [Bool.and_eq_true,beq_iff_eq] at e'
   obtain ⟨⟨⟨⟨⟨r1,r2⟩,r3⟩,r4⟩,r5⟩,r6⟩:=e'
   obtain ⟨n1,n2,n3,n4,n5,n6,n7,n8,n9,n10,n11⟩:=o2
   obtain ⟨l⟩:=o3
   simp at r3 a9 a10 r5 r6
   subst r1 r2 r3 a9 a10
   exact ⟨a2,n4,n1,n5,n2,n6,n7,n8,n9,n10,o1,a3,a4,a5,a6,a8,_,X _ _ o4,.of_isNs (PySem.W.isNs_of_in X r5),PySem.W.nsMap_none_of_in X r5 r6,PySem.W.tail_of_in X r4⟩
  ·cases e
 ·cases e
structure EC (K:PySem.W.Frag) (mg:Str->Option Value) (c:Str) (C:Addr):Prop where
 mg:mg c=some (.ref C)
 ns:PySem.W.nsIn K mainGlobals c=some (some (.ref C))
 ex:PySem.W.excIn K C bmV "ValueError.__new__" = true
@[simp] noncomputable def sRaiseF (c:Str):SM:=fun ρ=>.ex c ρ
section
variable {X:Cx} {F:Fx} {E:Str->DEnv->Prop}
theorem _root_.L2.Inv.madeX {pins:List (Addr × Obj)} {σ:St} {H:Hp} {s:Shared} {h':Heap} {e:Addr} {C:Value} {us:List Value} (I:Inv X pins σ H s) (m:Heap.MadeExcOf s.heap h' e C us):Inv X pins σ H { s with heap:=h' }/\Cov X pins s.heap/\ExS s.heap H h' e C none:=by
 have hb:∀ b,s.heap.get? b=none->H b=none:=fun b z=>HOk.some_of I.hok z
 obtain ⟨t,h1,h2,h3⟩:=m.there
 refine ⟨I.ch I.cov ⟨fun b o q _ _=>m.keeps b o q,fun b o _ q=>⟨o.slots,m.keeps b o q⟩,fun b o q=>⟨o,m.keeps b o q⟩⟩,I.cov,⟨fun b o q=>⟨o,m.keeps b o q⟩,m.new,hb e m.new,_,_,_,h1,rfl,rfl,rfl,.inl ⟨rfl,rfl⟩⟩⟩
theorem fs_raise {c tx:Str} {C:Addr} {j:Nat} {np cpos pos kp:Pos} (hx:XOk X F E) (hh:X.A.handled=none) (hg:Gl X c) (ec:EC X.K X.mg c C) (hdb:(c == ("__debug__":Str))=false:=by decide)
  (he:starEach [.Constant (.str tx) j kp] X.env=(false,eval (.Constant (.str tx) j kp) X.env) :: starEach [] X.env:=by rfl) :
  FS X F E (.Raise (some (.Call (.Name c np) [.Constant (.str tx) j kp] [] cpos)) none pos) (sRaiseF c):=fun pins s σ H D I ⟨ρ,O,DD,st,q,f⟩=>by
 obtain ⟨tl,N,nm,qn,bs,hdct,sn,sub,ab,col,dd,k0,k1,k2,k3,k5,mN,hC,hN,hni,T⟩:=ownEx_of I.ok.mod.kin ec.ex
 refine wpAny_Raise_call_subU (C:=C) (nm:=nm) (q:=qn) (N:=N) (bs:=bs) (bm:=tl) (hdct:=hdct) (sn:=sn) (sub:=sub) (ab:=ab) (col:=col) (dd:=dd) (k0:=k0) (k1:=k1) (k2:=k2) (k3:=k3) (k5:=k5) (mN:=mN)
  PySem.F.excBase_ValueError (by decide) PySem.F.excBase_ValueError (T.hasType (by decide)) hh (by rw [he]; rfl) hni (ld_glob I hg ec.mg ⟨rfl,?_⟩ hdb)
 have pa:PA X [.Constant (.str tx) j kp] _:=pa_cons (pe_str (X:=X)) pa_nil he
 have w:=pa cpos pins s σ H (fun vs H1=>vs.length=1/\H1=H) I (by exact ⟨rfl,rfl⟩)
 rw [he] at w ⊢
 refine Calls.evalArgs_plain (thn w fun us s2 ⟨vs,H1,I1,r,h1,h2⟩=>?_)
 subst h2
 refine ⟨rfl,by show us.length<=_; rw [<-r.length,h1]; decide,I1.bk _ _ hC,hN.keeps I1.bk,T.keeps I1.bk,fun h' e m=>?_⟩
 obtain ⟨I2,cv,ex⟩:=I1.madeX m
 exact hx.2 pins σ _ _ _ c ρ O ⟨I2,e,.ref C,s2.heap,none,rfl,cv,ex,ec.mg⟩ st q
end
end L2.L3
namespace L2.L3
open PySem PySem.Spec PyProof.Rows
noncomputable def underIn (K:PySem.W.Frag) (C D:Addr):Bool:=match K.lookup C with
 | some ⟨_,_,.cls cd,_⟩=>cd.mro.contains (.ref D)
 | _=>false
noncomputable def attrOk (K:PySem.W.Frag) (C:Addr):Bool:=PySem.W.findIn K (.ref C) "__getattribute__" == some (some (.builtin "BaseException.__getattribute__")) && PySem.W.findIn K (.ref C) "__class__" == some (some (.builtin "object.__class__")) && PySem.W.findIn K (.ref C) "__getattr__" == some none &&
 PySem.W.mroIn K C (.type "BaseException") == some true && PySem.W.mroIn K C (.type "object") == some true
noncomputable def excTab (K:PySem.W.Frag) (D:Addr) (l:List Str):Bool:=l.all fun c=>match PySem.W.nsIn K mainGlobals c with
 | some (some (.ref C))=>PySem.W.excIn K C bmV "ValueError.__new__" && underIn K C D && attrOk K C && (PySem.W.kitOne K (.ref C) (.type "ValueError") == some true) && l.all fun d=>match PySem.W.nsIn K mainGlobals d with
  | some (some (.ref D'))=>PySem.W.kitOne K (.ref C) (.ref D') == some (c == d)
  | _=>false
 | _=>false
structure XT (K:PySem.W.Frag) (mg:Str->Option Value) (l:List Str) (D:Addr):Prop where
 top:EC K mg "DueError" D
 tab:excTab K D l=true
 mgs:∀ c C,PySem.W.nsIn K mainGlobals c=some (some (.ref C))->mg c=some (.ref C)
theorem XT.at_ {K:PySem.W.Frag} {mg:Str->Option Value} {l:List Str} {D:Addr} (x:XT K mg l D) {c:Str} (h:c ∈ l):∃ C,EC K mg c C/\underIn K C D=true/\attrOk K C=true/\PySem.W.kitOne K (.ref C) (.type "ValueError")=some true/\
  ∀ d ∈ l,∃ D',mg d=some (.ref D')/\PySem.W.nsIn K mainGlobals d=some (some (.ref D'))/\PySem.W.kitOne K (.ref C) (.ref D')=some (c == d):=by
 have t:=List.all_eq_true.mp x.tab c h
 split at t
 ·rename_i C e
  simp only [Bool.and_eq_true] at t
  obtain ⟨⟨⟨⟨t1,t2⟩,t0⟩,t3⟩,t4⟩:=t
  refine ⟨C,⟨x.mgs c C e,e,t1⟩,t2,t0,by simpa using t3,fun d hd=>?_⟩
  have u:=List.all_eq_true.mp t4 d hd
  split at u
  ·rename_i D' e'
   exact ⟨D',x.mgs d D' e',e',by simpa using u⟩
  ·cases u
 ·cases t
theorem under_of {K:PySem.W.Frag} {h:Heap} {C D N:Addr} {nm q:Str} {bs tl:List Value} {hdct:Bool} {sn:List Str} {sub:List Value} {ab:Bool} {col:Option Bool} {dd:Option Addr} {k0 k1 k2 k3 k5:Option Value} {newId:String}
  (X:K.In h) (e:underIn K C D=true) (hC:h.get? C=some (excClassObj nm q C N bs tl hdct sn sub ab col dd k0 k1 k2 k3 k5 newId)):(Value.ref C :: tl).contains (.ref D)=true:=by
 unfold underIn at e
 split at e
 ·rename_i o
  have:=X _ _ o
  rw [hC] at this
  cases this
  exact e
 ·cases e
theorem match_under {M:Model} {A:Around} {E:Value->Shared->Prop} {h:Heap} {g:Array GenState} {d:Drawn} {t:Nat} {os:OsState} {e C D:Addr} {oe:Obj} {Q:Bool->Shared->Prop}
  (xc:OwnEx h C) (xd:OwnEx h D) (hu:∀ {nm q N bs tl hdct sn sub ab col dd k0 k1 k2 k3 k5 newId},h.get? C=some (excClassObj nm q C N bs tl hdct sn sub ab col dd k0 k1 k2 k3 k5 newId)->(Value.ref C :: tl).contains (.ref D)=true)
  (he:h.get? e=some oe) (hcls:oe.cls=.ref C) (hq:Q true ⟨h,g,d,t,os⟩):wpAny M A (excMatches (.ref e) (.ref D)) Q E ⟨h,g,d,t,os⟩:=by
 obtain ⟨tl,N,nm,q,bs,hdct,sn,sub,ab,col,dd,k0,k1,k2,k3,k5,mN,hC,_,_,_⟩:=xc
 obtain ⟨tl',N',nm',q',bs',hdct',sn',sub',ab',col',dd',k0',k1',k2',k3',k5',mN',hD,_,_,T'⟩:=xd
 have cB:(Value.ref D :: tl').contains (.type "BaseException")=true:=by rw [List.contains_cons,T'.hasType (X:="BaseException") (b:=true) (by decide),Bool.or_true]
 have cC:=hu hC
 have f:=tc_notTuple
 unfold excMatches
 repeat (first | (with_reducible refine wpAny_loadPart_at he ?_; rw [hcls]) | with_reducible refine wpAny_loadPart_at hD ?_ | (with_reducible refine wpAny_isSubtype_exc hD ?_; rw [cB]) | (with_reducible refine wpAny_isSubtype_exc hC ?_; rw [cC]) | wp_step)
 exact hq
end L2.L3
namespace L2.L3
open PySem PySem.Spec PyProof.Rows
noncomputable abbrev reX (X:Cx) (A:Around) (b:Bool) (pn:List (Addr × Obj)) (xe:Value->Shared->Prop):Cx:={ X with A:=A,calm:=b,pn:=pn,xe:=xe }
section
variable {X:Cx} {F:Fx} {E:Str->DEnv->Prop} {pins pins':List (Addr × Obj)} {σ:St} {H:Hp} {s:Shared} {A:Around} {b:Bool} {xe:Value->Shared->Prop}
theorem _root_.L2.Inv.re (I:Inv X pins σ H s) (A:Around) (b:Bool) (xe:Value->Shared->Prop) (hA:A.frames=X.A.frames) (hb:b=true->A.handled=none):Inv (reX X A b (X.pn ++ pins) xe) [] σ H s:=
 ⟨⟨I.ok.mod,I.ok.kind,I.ok.glob,I.ok.blt,I.ok.above,I.ok.inj,I.ok.has,I.ok.cab,hb,hA.trans I.ok.frames,I.ok.stk,I.ok.exf,I.ok.bs,I.ok.bsz,I.ok.noex,I.ok.exfs,I.ok.funs,I.ok.frf⟩,I.os,I.bare,I.base,I.loc,I.cell,I.free,I.freeC,fun p hp=>I.pin p (by simpa using hp),I.hok,I.len⟩
theorem _root_.L2.Inv.unre (ok:X.Ok) (I:Inv (reX X A b (X.pn ++ pins) xe) pins' σ H s):Inv X pins σ H s:=
 ⟨ok,I.os,I.bare,I.base,I.loc,I.cell,I.free,I.freeC,fun p hp=>I.pin p (List.mem_append_left _ hp),I.hok,I.len⟩
theorem unreSP (ok:X.Ok) {D:Ends} {f:Flow} {s':Shared} (h:SP (reX X A b (X.pn ++ pins) xe) pins' D f s'):SP X pins D f s':=by
 cases f with
 | next=>obtain ⟨σ',H',I,q⟩:=h; exact ⟨σ',H',I.unre ok,q⟩
 | brk=>obtain ⟨σ',H',I,q⟩:=h; exact ⟨σ',H',I.unre ok,q⟩
 | cont=>obtain ⟨σ',H',I,q⟩:=h; exact ⟨σ',H',I.unre ok,q⟩
 | ret u=>obtain ⟨v,σ',H',I,r,q⟩:=h; exact ⟨v,σ',H',I.unre ok,r,q⟩
theorem _root_.L2.Inv.caught {g:Heap} {a:Addr} {C:Value} {fl:Option Value} (I:Inv X pins σ H s) (cv:Cov X pins g) (ex:ExS g H s.heap a C fl):Inv X pins σ (upd H a (.ext fun h=>∃ o,h.get? a=some o/\o.cls=C)) s:=by
 have ng:∀ b o,g.get? b=some o->b ≠ a:=fun b o e z=>by subst z; rw [ex.lo] at e; cases e
 obtain ⟨oe,vs,a0,he,hc,_⟩:=ex.ob
 have sm:Same H (upd H a (.ext fun h=>∃ o,h.get? a=some o/\o.cls=C)):=same_upd ex.un
 refine ⟨I.ok,I.os,I.bare,⟨I.base.keep,I.base.slot,fun b o e n hx=>?_,I.base.there,fun b xs e=>sm _ _ (I.base.tups b xs e),fun b o u e=>sm _ _ (I.base.frzs b o u e),fun b ps e=>let ⟨m,q⟩:=I.base.tbls b ps e; ⟨m,sm _ _ q⟩⟩,I.loc,I.cell,?_,fun x c e=>?_,fun p hp=>?_,fun b u e=>?_,I.len⟩
 ·obtain ⟨o',e'⟩:=cv.s0 b o e hx
  rw [upd_ne (ng _ _ e')]; exact I.base.free b o e n hx
 ·obtain ⟨o',e'⟩:=cv.loc
  rw [upd_ne (ng _ _ e')]; exact I.free
 ·obtain ⟨o',e'⟩:=cv.cell x c e
  rw [upd_ne (ng _ _ e')]; exact I.freeC x c e
 ·obtain ⟨o',e'⟩:=cv.pin p hp
  obtain ⟨h1,h2,h3⟩:=I.pin p hp
  exact ⟨h1,by rw [upd_ne (ng _ _ e')]; exact h2,h3⟩
 ·by_cases z:b=a
  ·subst z
   rw [upd_same] at e
   cases e
   refine ⟨⟨oe,he,hc⟩,⟨oe,he⟩,fun h1 h2 ⟨o,q1,q2⟩ k=>⟨o,k o q1,q2⟩⟩
  ·rw [upd_ne z] at e
   exact (I.hok b u e).stay (fun d v hd q=>q) (fun d q=>sm _ _ q) fun d xs q=>sm _ _ q
theorem goes_ok {M:Model} {A:Around} {E:Value->Shared->Prop} {i:Nat} {x:Str} {pos:Pos} {Q:Unit->Shared->Prop} (I:Inv X pins σ H s) (hN:X.N.Nodup) (hi:X.N[i]? = some x) (hx:X.env.scope.names.lookup x=some .local)
  (h:∀ s',Inv X pins (σ.set i none) H s'->Q () s'):wpAny M A (do bindName X.env x .none; unbindBehindTheSuite X.env x pos) Q E s:=by
 obtain ⟨m,hn,hl⟩:=id I.loc
 have hcls:(X.env.scope.kind == .class || (X.env.scope.kind == .module && X.env.locals != X.env.globals))=false:=by rw [I.ok.kind]; rfl
 have cne:=I.cne
 obtain ⟨oL,_,_,hoL,_⟩:=id hn
 refine wpAny_nameGoes_keeps hx hn hcls fun h' v hn' hs=>h _ ⟨I.ok,I.os,I.bare,⟨fun b o e n hb hx=>?_,fun b o e n hb hx=>?_,I.base.free,fun b o e hx=>?_,I.base.tups,I.base.frzs,I.base.tbls⟩,⟨_,hn',fun j y v' e1 e2 e3=>?_⟩,fun y c e=>?_,I.free,I.freeC,fun p hp=>?_,fun b ob e=>?_,?_⟩
 ·exact (hs.2 b (Nat.ne_of_lt (Nat.lt_of_lt_of_le (Heap.lt_size e) I.ok.above))).trans (I.base.keep b o e n hb hx)
 ·obtain ⟨sl,e1⟩:=I.base.slot b o e n hb hx
  exact ⟨sl,(hs.2 b (Nat.ne_of_lt (Nat.lt_of_lt_of_le (Heap.lt_size e) I.ok.above))).trans e1⟩
 ·obtain ⟨o',e1⟩:=I.base.there b o e hx
  exact ⟨o',(hs.2 b (Nat.ne_of_lt (Nat.lt_of_lt_of_le (Heap.lt_size e) I.ok.above))).trans e1⟩
 ·rcases get_set e2 with ⟨_,z,_⟩ | ⟨hj,e2'⟩
  ·cases z
  ·obtain ⟨u',r',q⟩:=hl j y v' e1 e2' e3
   refine ⟨u',r',?_⟩
   rcases q with ⟨k,e⟩ | ⟨k,c,e,z⟩
   ·refine .inl ⟨k,?_⟩
    have:y ≠ x:=fun e=>hj (nodup_ix hN e1 (e ▸ hi))
    simp [this,e]
   ·exact .inr ⟨k,c,e,z.sameBut hs (cne y c e)⟩
 ·obtain ⟨w',z⟩:=I.cell y c e
  exact ⟨w',z.sameBut hs (cne y c e)⟩
 ·obtain ⟨e,n,ne,nf,d⟩:=I.pin p hp
  exact ⟨(hs.2 p.1 ne).trans e,n,ne,nf,d⟩
 ·refine (I.hok b ob e).stay (fun c w' hc q=>(hs.2 c ?_).trans q) (fun _ q=>q) fun _ _ q=>q
  rintro rfl
  rcases hc with rfl | hc
  ·rw [I.free] at e; cases e
  ·rw [I.free] at hc; cases hc
 ·rw [List.length_set]; exact I.len
end
end L2.L3
namespace L2.L3
open PySem PySem.Spec PyProof.Rows
section
variable {K:PySem.W.Frag} {F:Fx} {H H':Hp} {σ σ':St} {ρ ρ':DEnv} {O O':List Addr} {W:List (List Addr)}
noncomputable def Fx.here (F:Fx) (H:Hp) (L:List Addr):Fx:=⟨H,L,F.O₀,F.I₀⟩
theorem DStW.here (st:DStW K F H σ ρ W):DStW K (F.here H W.flatten) H σ ρ W:=⟨st.at_,st.nd,fun _ _ _ e=>e,fun _ h=>.inl h,st.live,st.len,st.lw,st.io⟩
theorem here_new (st:DStW K F H σ ρ W) {a:Addr} (h:a ∈ W.flatten\/H a=none):a ∈ F.A₀\/F.H₀ a=none:=by
 rcases h with h | h
 ·exact st.new a h
 ·by_cases hA:a ∈ F.A₀
  ·exact .inl hA
  ·refine .inr ?_
   cases e:F.H₀ a with
   | none=>rfl
   | some o=>have:=st.kept a o hA e; rw [h] at this; cases this
theorem unhere {fp:List Addr} (st:DStW K F H σ ρ W) (st':DSt K ((F.here H W.flatten).plus fp) H' σ' ρ' O'):DSt K (F.plus fp) H' σ' ρ' O':=by
 obtain ⟨W',h,e⟩:=st'
 refine ⟨W',⟨h.at_,h.nd,fun b o hA e=>h.kept b o (fun z=>?_) (st.kept b o hA e),fun a ha=>here_new st (h.new a ha),h.live,h.len,h.lw,h.io⟩,e⟩
 rcases st.new b z with q | q
 ·exact hA q
 ·rw [show F.H₀ b=some o from e] at q; cases q
theorem here_stp (st':DSt K (F.here H W.flatten) H' σ' ρ' O'):Stp (W.flatten ++ F.O₀) H O' H':=by
 obtain ⟨W',h,rfl⟩:=st'
 refine ⟨fun b o hb e=>h.kept b o (fun z=>hb (List.mem_append_left _ z)) e,fun a ha=>?_⟩
 rcases List.mem_append.mp ha with z | z
 ·exact (h.new a z).imp (List.mem_append_left _) id
 ·exact .inl (List.mem_append_right _ z)
theorem Fits.here {D:Ends} {DD:DEnds} (st:DStW K F H σ ρ W) (f:Fits K F O H D DD):Fits K (F.here H W.flatten) O H D DD:=
 ⟨fun σ' H' ρ' O' s1 s2 q=>f.nx σ' H' ρ' O' (unhere (fp:=[]) st s1) s2 q,fun v σ' H' c ρ' O' fp r s2 q=>f.rt v σ' H' c ρ' O' fp ⟨unhere st r.st,r.at_,fun a h=>here_new st (r.new a h)⟩ s2 q,
  fun σ' H' ρ' O' s1 s2 q=>f.bk σ' H' ρ' O' (unhere (fp:=[]) st s1) s2 q,fun σ' H' ρ' O' s1 s2 q=>f.ct σ' H' ρ' O' (unhere (fp:=[]) st s1) s2 q⟩
theorem DSt.clear (st:DSt K F H σ ρ O) (i:Nat):∃ O',DSt K F H σ (ρ.set i none) O'/\Stp O H O' H:=by
 obtain ⟨W,h,rfl⟩:=st
 have sub:∀ a ∈ (W.set i []).flatten,a ∈ W.flatten:=fun a ha=>by
  rcases mem_flat_set ha with z | ⟨j,l,_,e,hl⟩
  ·cases z
  ·exact mem_flat_of e hl
 have stp:Stp (W.flatten ++ F.O₀) H ((W.set i []).flatten ++ F.O₀) H:=stp_less fun a ha=>by
  rcases List.mem_append.mp ha with z | z
  ·exact List.mem_append_left _ (sub a z)
  ·exact List.mem_append_right _ z
 refine ⟨_,⟨W.set i [],⟨fun j c e=>?_,nodup_set h.nd List.nodup_nil (fun a ha=>by cases ha),h.kept,fun a ha=>h.new a (sub a ha),fun a ha=>h.live a ?_,by rw [List.length_set]; exact h.len,by rw [List.length_set,List.length_set]; exact h.lw,fun j b e=>?_⟩,rfl⟩,stp⟩
 ·rcases get_set e with ⟨_,z,_⟩ | ⟨hj,e1⟩
  ·cases z
  ·obtain ⟨v,fp,h1,h2,h3⟩:=h.at_ j c e1
   exact ⟨v,fp,h1,by rw [List.getElem?_set_ne (Ne.symm hj)]; exact h2,h3.keep stp (fun _ _=>rfl) fun _ _ _ e=>e⟩
 ·rcases List.mem_append.mp ha with z | z
  ·exact List.mem_append_left _ (sub a z)
  ·exact List.mem_append_right _ z
 ·rcases get_set e with ⟨_,z,_⟩ | ⟨hj,e1⟩
  ·cases z
  ·exact h.io j b e1
end
noncomputable def sTryA (l:List Str) (i:Nat) (mb mh:SM):SM:=fun ρ=>match mb ρ with
 | .ex c ρ'=>if c ∈ l then (match mh (ρ'.set i (some (.exc c))) with | .rt d ρ''=>.rt d (ρ''.set i none) | _=>.bad) else .bad
 | o=>o
section
variable {X:Cx} {F:Fx} {E:Str->DEnv->Prop}
theorem to_suite {l:List Str} {D a:Addr} {c:Str} {C:Value} {g:Heap} {fl:Option Value} {np hpos:Pos} {nm:Option Str} {b₀:Stmt} {suite:List Stmt} {pins:List (Addr × Obj)} {σ:St} {H:Hp} {s:Shared} {Q:Flow->Shared->Prop} {E':Value->Shared->Prop}
  (xt:XT X.K X.mg l D) (hg:Gl X "DueError") (hst:X.stack=X.env :: X.outer) (hfr:X.env.frame=some X.env.locals) (hc:c ∈ l) (J:Inv X pins σ H s) (cv:Cov X pins g) (ex:ExS g H s.heap a C fl) (hm:X.mg c=some C)
  (h:∀ s',Inv X pins σ H s'->ExS g H s'.heap a C (some .none)->codeAny (model X.prog X.w) (X.A.mark (some (.ref a))) (.handlers (.ref a) [.ExceptHandler none nm (b₀ :: suite) hpos] X.env) (fun r s₂=>match r with
     | .ok f=>(match nm with
      | none=>Q f s₂
      | some n=>wpAny (model X.prog X.w) X.A (do bindName X.env n .none; unbindBehindTheSuite X.env n hpos) (fun _ s₃=>Q f s₃) E' s₂)
     | .error x=>cameBackBy (model X.prog X.w) X.A X.env E' x s₂) s') :
  wpAny (model X.prog X.w) X.A (noteFrame (.ref a) X.env) (fun _ s₂=>wpAny (model X.prog X.w) X.A (setFlight (.ref a) none) (fun _ s₃=>wpAny (model X.prog X.w) X.A (handleBy (.ref a) X.env [.ExceptHandler (some (.Name "DueError" np)) nm (b₀ :: suite) hpos]) Q E' s₃) E' s₂) E' s:=by
 have fr:X.A.frames=some (X.env :: X.outer):=by rw [J.ok.frames,hst]
 have stk:s.heap.FunFrames X.base (X.env :: X.outer):=by have:=J.stack; rw [hst] at this; exact this
 have hb:∀ b,s.heap.get? b=none->H b=none:=fun b z=>HOk.some_of J.hok z
 refine note_any (base:=X.base) fr stk hfr hb ex fun h1 c1 x1=>?_
 refine flight_any (s:={ s with heap:=h1 }) (fs:=frs (X.env :: X.outer)) none (frames_some (c1.frames (fun _ h=>h) stk)) x1 fun h2 c2 x2=>?_
 have J2:Inv X pins σ H { s with heap:=h2 }:=J.ch cv (by rw [hst]; exact c1.trans c2)
 refine wpAny_handleBy_cons (codeAny_handlers_test ?_) (by intro q; cases q)
 have J3:=J2.re (X.A.mark (some (.ref a))) false X.xe rfl (fun z=>by cases z)
 refine ld_glob (X:=reX X (X.A.mark (some (.ref a))) false (X.pn ++ pins) X.xe) J3 hg xt.top.mg ?_ (by decide)
 obtain ⟨C',ec,hu,_⟩:=xt.at_ hc
 have eC:C=.ref C':=Option.some.inj (hm.symm.trans ec.mg)
 obtain ⟨oe,vs,a0,he,hcl,_⟩:=x2.ob
 refine match_under (C:=C') (ownEx_of J2.kIn ec.ex) (ownEx_of J2.kIn xt.top.ex) (fun hC=>under_of J2.kIn hu hC) he (hcl.trans eC) ?_
 exact h _ J2 x2
theorem fs_tryA {l:List Str} {D:Addr} {i:Nat} {n:Str} {np hpos pos:Pos} {body suite:List Stmt} {b₀:Stmt} {mb mh:SM} (xt:XT X.K X.mg l D) (hg:Gl X "DueError") (hst:X.stack=X.env :: X.outer) (hfr:X.env.frame=some X.env.locals) (hN:X.N.Nodup) (hi:X.N[i]? = some n) (hn:X.env.scope.names.lookup n=some .local)
  (hG:GF X.mg F) (hb:∀ F' pn xe E1,XOk (reX X X.A X.calm pn xe) F' E1->PassesOwn (model X.prog X.w) X.A X.env xe->FSs (reX X X.A X.calm pn xe) F' E1 body mb)
  (hs:∀ F' e pn xe,GF X.mg F'->FSs (reX X (X.A.mark (some e)) false pn xe) F' E0' (b₀ :: suite) mh) :
  FS X F E (.Try body [.ExceptHandler (some (.Name "DueError" np)) (some n) (b₀ :: suite) hpos] [] [] pos) (sTryA l i mb mh):=fun pins s σ H D' I ⟨ρ,O,DD,st,q,f⟩=>by
 obtain ⟨W,stw,rfl⟩:=id st
 have hG1:GF X.mg (F.here H W.flatten):=(hG.at st).frame fun a h=>stw.live a (List.mem_append_left _ h)
 let E1:Str->DEnv->Prop:=fun c ρ'=>c ∈ l/\∃ d ρ'',mh (ρ'.set i (some (.exc c)))=.rt d ρ''/\DD.rt d (ρ''.set i none)
 have q1:wpS E1 mb DD ρ:=by
  unfold wpS sTryA at q
  unfold wpS
  generalize mb ρ=o at q ⊢
  cases o with
  | ex c ρ'=>
   simp only at q
   by_cases hc:c ∈ l
   ·rw [if_pos hc] at q
    refine ⟨hc,?_⟩
    generalize mh (ρ'.set i (some (.exc c)))=o2 at q ⊢
    cases o2 with
    | rt d ρ''=>exact ⟨d,ρ'',rfl,q⟩
    | _=>exact q.elim
   ·rw [if_neg hc] at q; exact q.elim
  | _=>exact q
 refine wpAny_Try_except ?_
 refine thn (hb (F.here H W.flatten) (X.pn ++ pins) _ E1 ?_ PassesOwn.looking [] s σ H D' (I.re X.A X.calm _ rfl I.ok.hd) ⟨ρ,_,DD,⟨W,stw.here,rfl⟩,q1,f.here stw⟩) fun fw s1 h=>?_
 ·refine ⟨hG1,?_⟩
  intro pins' σ' H' s' e c ρ' O' ⟨J1,a,C,g,fl,e1,cv,ex,hm⟩ st' ⟨hc,d,ρ'',hmh,hd⟩
  subst e1
  have J:Inv X pins σ' H' s':=J1.unre I.ok
  have cv':Cov X pins g:=⟨cv.s0,cv.loc,cv.cell,fun p hp=>cv.pin p (List.mem_append_left _ hp)⟩
  have hii:i < ρ'.length:=by rw [st'.lenE,J.len]; exact (List.getElem?_eq_some_iff.mp hi).1
  refine to_suite xt hg hst hfr hc J cv' ex hm fun s3 J3 x3=>codeAny_handlers_suite_as ?_
  have stk:s3.heap.FunFrames X.base (X.env :: X.outer):=by have:=J3.stack; rw [hst] at this; exact this
  refine flight_any (s:=s3) (fs:=frs (X.env :: X.outer)) none (frames_some stk) x3 fun h4 c4 x4=>?_
  have J4:Inv X pins σ' H' { s3 with heap:=h4 }:=J3.ch cv' (by rw [hst]; exact c4)
  have J5:=J4.caught cv' x4
  obtain ⟨C',ec,_⟩:=xt.at_ hc
  have eC:C=.ref C':=Option.some.inj (hm.symm.trans ec.mg)
  refine store_ok J5 hN hi (.inl hn) (v:=.ref a) rfl (fun s5 J6=>?_) (.inr hn)
  have sm:=same_upd (o:=.ext fun h=>∃ o,h.get? a=some o/\o.cls=C) ex.un
  have na:a ∉ O':=st'.nofree a ex.un
  have cell:CellAt X.K (upd H' a (.ext fun h=>∃ o,h.get? a=some o/\o.cls=C)) O' (.ref a) (.exc c) []:=⟨a,_,rfl,hide_of upd_same na,fun h ⟨o,z1,z2⟩=>⟨C',o,ec.ns,z1,z2.trans eC⟩⟩
  obtain ⟨O6,st6,s6⟩:=DSt.put1 (io:=false) (F:=F.here H W.flatten) (fp:=[]) (i:=i) (st'.grow sm) cell (fun _ z=>by cases z) hii (fun _ z=>by cases z)
  have step:Stp (W.flatten ++ F.O₀) H O6 _:=(here_stp st').trans ((Stp.same sm).trans s6)
  refine thn (hs (F.here H W.flatten) (.ref a) (X.pn ++ pins) _ hG1 [] s5 _ _ ⟨fun _ _=>False,D'.rt,fun _ _=>False,fun _ _=>False⟩ (J6.re (X.A.mark (some (.ref a))) false _ rfl (fun z=>by cases z)) ⟨_,O6,⟨fun _=>False,fun d ρ''=>DD.rt d (ρ''.set i none),fun _=>False,fun _=>False⟩,st6,?_,?_⟩) fun fw s6 h6=>?_
  ·unfold wpS; rw [hmh]; exact hd
  ·refine ⟨fun _ _ _ _ _ _ z=>z.elim,fun v σ2 H2 c2 ρ2 O2 fp r s2 qq=>?_,fun _ _ _ _ _ _ z=>z.elim,fun _ _ _ _ _ _ z=>z.elim⟩
   have r2:DSt X.K (F.plus fp) H2 σ2 ρ2 O2:=unhere stw r.st
   obtain ⟨O3,r3,s3⟩:=r2.clear i
   exact f.rt v σ2 H2 c2 _ O3 fp ⟨r3,r.at_.keep s3 (fun _ _=>rfl) (fun _ _ _ e=>e),fun x hx=>here_new stw (r.new x hx)⟩ (step.trans (s2.trans s3)) qq
  ·cases fw with
   | next=>obtain ⟨_,_,_,z⟩:=h6; exact z.elim
   | brk=>obtain ⟨_,_,_,z⟩:=h6; exact z.elim
   | cont=>obtain ⟨_,_,_,z⟩:=h6; exact z.elim
   | ret u=>
    obtain ⟨v,σ7,H7,J8,r8,q8⟩:=h6
    exact goes_ok (J8.unre I.ok) hN hi hn fun s9 J9=>⟨v,_,H7,J9,r8,q8⟩
 ·cases fw with
  | next=>exact wpAny_execs_nil (unreSP I.ok h)
  | brk=>exact unreSP I.ok h
  | cont=>exact unreSP I.ok h
  | ret u=>exact unreSP I.ok h
end
end L2.L3
namespace L2.L3
open PySem PySem.Spec PyProof.Rows
structure RoomH (k:Nat) (A:Around):Prop where
 dp:A.depth + 3 * k + 5 < recursionLimit
 un:A.units + 16 * k + 200 < cLine
theorem Room.h {k:Nat} {A:Around} (r:Room k A) (v:Option Value):RoomH k (A.mark v):=⟨r.dp,r.un⟩
theorem RoomH.deeper {k:Nat} {A:Around} (r:RoomH (k + 1) A) (env:Env):RoomH k (A.deeper env):=
 ⟨by have:=r.dp; show A.depth + 1 + 3 * k + 5 < _; omega,by have:=r.un; show A.units + 3 + 16 * k + 200 < _; omega⟩
structure FnOkH (P:Program) (w:World) (K:PySem.W.Frag) (mg:Str->Option Value) (base:Heap) (CX:CXT) (k:Nat) (f:Addr) (fd:FuncData) (ps:List Str) (sp:Sp):Prop where
 len:∀ vs H Q E,sp vs H Q E->vs.length=ps.length
 run:∀ (A:Around) (outer:List Env) (s:Shared) (H:Hp) (args:Args) (us:List Value) (vs:List V) (Q:VK) (E:XK),RoomH k A->Env0 P w K mg base A outer s H->BindsTo s fd args (ps.zip us)->Vals vs us->sp vs H Q E->
  codeAny (model P w) A (.call (.ref f) args) (CR CX outer P w H s Q E) s
noncomputable abbrev cxH (CX:CXT) (P:Program) (w:World) (K:PySem.W.Frag) (mg:Str->Option Value) (base:Heap) (N:List Str) (qual:Str) (scope:Scope) (f:Addr) (cd:Value) (A:Around) (outer:List Env) (s:Shared) (H:Hp) (E:XK):Cx:=
 { cxOf CX P w K mg base N qual scope f cd A outer s H E with calm:=false }
theorem inv_startH {CX:CXT} {P:Program} {w:World} {K:PySem.W.Frag} {mg:Str->Option Value} {base:Heap} {N ps:List Str} {qual:Str} {scope:Scope} {f:Addr} {cd:Value} {A:Around} {outer:List Env} {s s1:Shared} {H:Hp} {E:XK} {us:List Value} {vs:List V}
  (S:FnScope N ps scope) (e0:Env0 P w K mg base A outer s H) (hl:vs.length=ps.length) (r:Vals vs us)
  (x:InCallC s s.heap.objs.size (bindL (envOfC qual scope s.heap.objs.size f cd).kindOf (ps.zip us) fun _=>none) (cellsFrom (s.heap.objs.size + 1) scope.names []) (bindC (envOfC qual scope s.heap.objs.size f cd).kindOf (ps.zip us) fun _=>none) s1) :
  Inv (cxH CX P w K mg base N qual scope f cd A outer s H E) [] (start N vs) H s1:=by
 have e1:Env0 P w K mg base { A with handled:=none } outer s H:=⟨e0.frames,e0.mod,e0.bs,e0.bsz,e0.funs,e0.frf,e0.hok,e0.bare⟩
 have I:=inv_start (CX:=CX) (E:=E) (qual:=qual) (f:=f) (cd:=cd) S rfl e1 hl r x
 exact ⟨⟨I.ok.mod,I.ok.kind,I.ok.glob,I.ok.blt,I.ok.above,I.ok.inj,I.ok.has,I.ok.cab,(fun z=>by cases z),I.ok.frames,I.ok.stk,I.ok.exf,I.ok.bs,I.ok.bsz,I.ok.noex,I.ok.exfs,I.ok.funs,I.ok.frf⟩,I.os,I.bare,I.base,I.loc,I.cell,I.free,I.freeC,I.pin,I.hok,I.len⟩
theorem fn_ofH {CX:CXT} {P:Program} {w:World} {K:PySem.W.Frag} {mg:Str->Option Value} {base:Heap} {k:Nat} {f:Addr} {name qual:Str} {params:Arguments} {body:List Stmt} {scope:Scope} {dV kV doc pm cdv ct oc:Value} {an od:Option Addr}
  {osl:Array (Option Value)} {N ps:List Str} {sp:Sp} (lk:K.lookup f=some ⟨oc,od,.func (PySem.W.fnOf name qual params body scope dV kV doc pm an cdv ct),osl⟩) (hcd:PySem.W.codeIn K cdv qual=true) (S:FnScope N ps scope)
  (len:∀ vs H Q E,sp vs H Q E->vs.length=ps.length)
  (hbody:∀ (A:Around) (outer:List Env) (s:Shared) (H:Hp) (vs:List V) (Q:VK) (E:XK),RoomH k (A.deeper (envOfC qual scope s.heap.objs.size f cdv))->sp vs H Q E->
   ∃ t,PSs (cxH CX P w K mg base N qual scope f cdv A outer s H E) body t/\t { nx:=fun _ H'=>Q .non H',rt:=Q } (start N vs) H) :
  FnOkH P w K mg base CX (k + 1) f (PySem.W.fnOf name qual params body scope dV kV doc pm an cdv ct) ps sp:=by
 refine ⟨len,fun A outer s H args us vs Q E hr e0 hb r hsp=>?_⟩
 have hl:=len _ _ _ _ hsp
 have KX:K.In s.heap:=e0.mod.kin.keeps fun b o e=>(e0.bs b o e).1
 have lim:s.heap.NoLimit:=e0.mod.nolimit.keeps fun b o e=>(e0.bs b o e).1
 have hkind:∀ y ∈ ps.zip us,scope.names.lookup y.1=some .local\/(scope.names.lookup y.1=some .cell/\((cellsFrom (s.heap.objs.size + 1) scope.names []).lookup y.1).isSome=true):=fun ⟨n,v⟩ hy=>by
  rcases S.par n (List.of_mem_zip hy).1 with q | q
  ·exact .inl q
  ·exact .inr ⟨q,PySem.W.cellsFrom_some _ _ _ (.inl q)⟩
 refine codeAny_call_function (by have:=hr.dp; omega) (KX _ _ lk) rfl S.co S.gen rfl (PySem.W.codeRec_of KX hcd) (hb _ _ _ _ ?_)
 refine wpAny_newFunctionEnv_cells S.kind hkind fun env he s1 x=>?_
 subst he
 refine ⟨lim.keeps x.toInCall.keep,codeAny_func ?_⟩
 obtain ⟨t,ht,hq⟩:=hbody A outer s H vs Q E (hr.deeper _) hsp
 have I:Inv (cxH CX P w K mg base N qual scope f cdv A outer s H E) [] (start N vs) H s1:=inv_startH S e0 hl r x
 refine wpAny_mono (ht [] s1 (start N vs) H _ I hq) (fun fl s' hs=>?_) fun e s' hs=>hs
 have fin:∀ {σ':St} {H':Hp} {v:V} {u:Value},Inv (cxH CX P w K mg base N qual scope f cdv A outer s H E) [] σ' H' s'->RelV v u->Q v H'->CE outer P w H s Q u s':=
  fun {σ' H' v u} J rv q=>⟨v,H',J.os,J.bare,J.base,J.hok,rv,q⟩
 cases fl with
 | ret u=>
  obtain ⟨v,σ',H',J,rv,q⟩:=hs
  exact fin J rv q
 | next=>
  obtain ⟨σ',H',J,q⟩:=hs
  exact fin (v:=V.non) (u:=Value.none) J rfl q
 | brk=>
  obtain ⟨_,_,_,q⟩:=hs
  exact False.elim q
 | cont=>
  obtain ⟨_,_,_,q⟩:=hs
  exact False.elim q
end L2.L3
namespace L2.L3
open PySem PySem.Spec PyProof.Rows
theorem xok_fnH {P:Program} {w:World} {K:PySem.W.Frag} {mg:Str->Option Value} {base:Heap} {N:List Str} {qual:Str} {scope:Scope} {f:Addr} {cd:Value} {A:Around} {outer:List Env} {s:Shared} {H:Hp} {E:XK} {F:Fx} {E':Str->DEnv->Prop}
  (hG:GF mg F) (hE:∀ c C ρ' σ' H' O',mg c=some C->DSt K F H' σ' ρ' O'->E' c ρ'->E C none H'):XOk (cxH (CXM P w) P w K mg base N qual scope f cd A outer s H E) F E':=by
 refine ⟨hG,?_⟩
 intro pins σ H1 s1 e c ρ O ⟨I,a,C,g,fl,e1,cv,ex,hm⟩ st q
 subst e1
 have fr:(A.deeper (envOfC qual scope s.heap.objs.size f cd)).frames=some (envOfC qual scope s.heap.objs.size f cd :: outer):=I.ok.frames
 have hb:∀ b,s1.heap.get? b=none->H1 b=none:=fun b z=>HOk.some_of I.hok z
 have stk:frs (envOfC qual scope s.heap.objs.size f cd :: outer)=s.heap.objs.size :: frs outer:=rfl
 refine leave_any (base:=base) fr I.stack rfl hb ex fun h' ch ex'=>?_
 have J:=I.ch cv ch
 refine ⟨a,C,H1,rfl,J.os,J.bare,J.base,J.hok,ex'.weak fun b o eb=>cv.s0 b o eb (by intro z; cases z),hE c C ρ σ H1 O hm st q⟩
section
variable {P:Program} {w:World} {K:PySem.W.Frag} {mg:Str->Option Value} {base:Heap} {x qual:Str} {st:Stmt} {f:Addr} {fd:FuncData} {N ps:List Str} {k:Nat} {m:SM}
theorem fn_FH (Fn:Fun K x qual st f fd) (S:FnScope N ps (defScope st)) (hN:ps.length<=N.length)
  (der:∀ (cdv:Value) (A:Around) (outer:List Env) (s:Shared) (H:Hp) (E:XK) (F:Fx) (E':Str->DEnv->Prop),RoomH k (A.deeper (envOfC qual (defScope st) s.heap.objs.size f cdv))->XOk (cxH (CXM P w) P w K mg base N qual (defScope st) f cdv A outer s H E) F E'->
   DSs (cxH (CXM P w) P w K mg base N qual (defScope st) f cdv A outer s H E) F (defBody st) (wpS E' m)):FnOkH P w K mg base (CXM P w) (k + 1) f fd ps (spF K mg (fnM ps.length N.length m)):=by
 obtain ⟨oc,od,kV,doc,pm,an,cdv,ct,osl,rfl,lk,hcd⟩:=Fn.ex
 have hlen:∀ vs H Q E,spF K mg (fnM ps.length N.length m) vs H Q E->vs.length=ps.length:=fun vs H Q E ⟨_,cs,fps,O₀,ha,_,_,q⟩=>by
  rw [ha.len.1]
  unfold fnM at q
  by_cases h:cs.length=ps.length
  ·exact h
  ·rw [if_neg h] at q; exact q.elim
 refine fn_ofH lk hcd S hlen fun A outer s H vs Q E hr hsp=>?_
 have hlv:=hlen vs H Q E hsp
 obtain ⟨gh,cs,fps,O₀,ha,nd,live,q⟩:=hsp
 obtain ⟨l1,l2⟩:=ha.len
 have hlc:cs.length=ps.length:=by omega
 let F:Fx:=⟨H,fps.flatten,O₀,ioAt vs⟩
 have st0:=dst_start (N:=N) ha nd live (by omega)
 have fin:∀ {σ':St} {H':Hp} {ρ':DEnv} {O':List Addr} {fp:List Addr} {outs:List Bx},DSt K (F.plus fp) H' σ' ρ' O'->(∀ a ∈ fp,a ∈ F.A₀\/F.H₀ a=none)->outsOf cs ρ' = some outs->∃ fps',OutsAt H' (fps'.flatten ++ fp ++ O₀) vs cs outs fps'/\Beh H H' fps.flatten (fps'.flatten ++ fp) O₀/\Stp O' H' (fps'.flatten ++ fp ++ O₀) H':=by
  rintro σ' H' ρ' O' fp outs ⟨W,st',rfl⟩ hfp ho
  obtain ⟨fps',o,sb⟩:=exit_go st' cs vs 0 outs l1 (fun i io b e=>ha.ios i io b e) ho
  have sb':fps'.flatten.Sublist W.flatten:=sb
  have sub:(fps'.flatten ++ fp ++ O₀).Sublist (W.flatten ++ (fp ++ O₀)):=by rw [List.append_assoc]; exact List.Sublist.append sb' (List.Sublist.refl _)
  have stp:Stp (W.flatten ++ (fp ++ O₀)) H' (fps'.flatten ++ fp ++ O₀) H':=stp_less fun a h=>sub.subset h
  refine ⟨fps',o.mono stp,⟨st'.nd.sublist sub,fun a h=>st'.live a (sub.subset (List.mem_append_left _ h)),fun b o hb e=>st'.kept b o hb e,fun a h=>?_⟩,stp⟩
  rcases List.mem_append.mp h with h | h
  ·exact st'.new a (sb'.subset h)
  ·exact hfp a h
 have hfn:fnM ps.length N.length m cs=(match m (startD N.length ps.length cs) with
  | .nx ρ=>(match outsOf cs ρ with | some o=>.rt (.dat .none) o | none=>.bad)
  | .rt c ρ=>(match outsOf cs ρ with | some o=>.rt c o | none=>.bad)
  | .ex c ρ=>(match outsOf cs ρ with | some o=>.ex c o | none=>.bad)
  | _=>.bad):=by unfold fnM startD; rw [if_pos hlc] <;> rfl
 rw [hfn] at q
 rw [hlc] at st0
 let E':Str->DEnv->Prop:=fun c ρ'=>∃ outs,outsOf cs ρ' = some outs/\∀ C H' fps',mg c=some C->OutsAt H' (fps'.flatten ++ O₀) vs cs outs fps'->Beh H H' fps.flatten fps'.flatten O₀->E C none H'
 refine ⟨_,der cdv A outer s H E F E' hr (xok_fnH (gh.frame fun a h=>live a (List.mem_append_left _ h)) fun c C ρ' σ' H' O' hm st' ⟨outs,ho,k⟩=>?_),?_⟩
 ·obtain ⟨fps',o,b,_⟩:=fin (fp:=[]) st' (fun a h=>by cases h) ho
  rw [List.append_nil] at o b
  exact k C H' fps' hm o b
 ·refine ⟨startD N.length ps.length cs,_,⟨fun ρ'=>∃ outs,outsOf cs ρ' = some outs/\∀ H' fps',OutsAt H' (fps'.flatten ++ [] ++ O₀) vs cs outs fps'->Beh H H' fps.flatten (fps'.flatten ++ []) O₀->Q .non H',fun c ρ'=>∃ outs,outsOf cs ρ' = some outs/\∀ v H' fp fps',CellAt K H' (fps'.flatten ++ fp ++ O₀) v c fp->OutsAt H' (fps'.flatten ++ fp ++ O₀) vs cs outs fps'->Beh H H' fps.flatten (fps'.flatten ++ fp) O₀->Q v H',fun _=>False,fun _=>False⟩,⟨_,st0,rfl⟩,?_,?_⟩
  ·unfold wpS
   cases hm:m (startD N.length ps.length cs) with
   | nx ρ'=>
    rw [hm] at q
    cases ho:outsOf cs ρ' with
    | none=>simp [ho] at q
    | some outs=>
     simp only [ho] at q
     exact ⟨outs,ho,fun H' fps' o b=>q .non H' [] fps' .non o b⟩
   | rt c ρ'=>
    rw [hm] at q
    cases ho:outsOf cs ρ' with
    | none=>simp [ho] at q
    | some outs=>
     simp only [ho] at q
     exact ⟨outs,ho,q⟩
   | ex c ρ'=>
    rw [hm] at q
    cases ho:outsOf cs ρ' with
    | none=>simp [ho] at q
    | some outs=>
     simp only [ho] at q
     exact ⟨outs,ho,q⟩
   | bk ρ'=>rw [hm] at q; exact q
   | ct ρ'=>rw [hm] at q; exact q
   | bad=>rw [hm] at q; exact q
  ·refine ⟨fun σ' H' ρ' O' st' s' ⟨outs,ho,k⟩=>?_,fun v σ' H' c ρ' O' fp r s' ⟨outs,ho,k⟩=>?_,fun _ _ _ _ _ _ z=>z.elim,fun _ _ _ _ _ _ z=>z.elim⟩
   ·obtain ⟨fps',o,b,_⟩:=fin (fp:=[]) st' (fun a h=>by cases h) ho
    exact k H' fps' o b
   ·obtain ⟨fps',o,b,stp⟩:=fin r.st r.new ho
    exact k v H' fp fps' (r.at_.keep stp (fun _ _=>rfl) (fun _ _ _ e=>e)) o b
end
section
variable {X:Cx} {F:Fx} {e:Expr} {es:List Expr} {tX:DTX} {E:Str->DEnv->Prop} {pos p:Pos} {x:Str} {f:FM} {k:Nat} {g:Addr} {fd:FuncData} {ps:List Str}
theorem call_onH {pins:List (Addr × Obj)} {σ:St} {H:Hp} {s:Shared} {Q:VK} {us:List Value} {vs:List V} {as:List AX} {ρ:DEnv} {O:List Addr} {QC:Cell->DEnv->Prop} (hx:XOk X F E) (G:FnOkH X.prog X.w X.K X.mg X.base (CXM X.prog X.w) k g fd ps (spF X.K X.mg f)) (hr:RoomH k X.A) (hb:Binds X.K fd ps [])
  (I:Inv X pins σ H s) (r:Vals vs us) (st:DSt X.K F H σ ρ O) (ax:AxAt σ (hide O H) vs as) (q:callOn f E QC as ρ) (hQ:∀ c ρ',QC c ρ'->∀ v H' O' fp,Res X.K F H' σ ρ' O' v c fp->Stp O H O' H'->Q v H') :
  wpAny (model X.prog X.w) X.A (call (.ref g) us) (EP X pins σ Q) X.xe s:=by
 unfold callOn at q
 cases hc:argCells ρ as with
 | none=>rw [hc] at q; exact q.elim
 | some p=>
  obtain ⟨cs,js⟩:=p
  rw [hc] at q
  simp only at q
  obtain ⟨fps,O2,st2,ar,s1,s1',nw,ja⟩:=take_all st as vs cs js hc ax
  obtain ⟨W,stw,hO2⟩:=id st2
  have ndO:(W.flatten ++ (fps.flatten ++ F.O₀)).Nodup:=stw.nd
  have memO:∀ a,a ∈ O2 ↔ a ∈ fps.flatten ++ (W.flatten ++ F.O₀):=fun a=>by
   rw [hO2]
   show a ∈ W.flatten ++ (fps.flatten ++ F.O₀) ↔ _
   simp only [List.mem_append]
   constructor
   ·rintro (h | h | h) <;> simp [h]
   ·rintro (h | h | h) <;> simp [h]
  have perm:(fps.flatten ++ (W.flatten ++ F.O₀)).Perm (W.flatten ++ (fps.flatten ++ F.O₀)):=by
   rw [<-List.append_assoc,<-List.append_assoc]
   exact List.Perm.append_right _ List.perm_append_comm
  have nd1:(fps.flatten ++ (W.flatten ++ F.O₀)).Nodup:=perm.nodup_iff.mpr ndO
  have stE:Stp O2 H (fps.flatten ++ (W.flatten ++ F.O₀)) H:=stp_less fun a h=>(memO a).mpr h
  have back2:∀ (H':Hp) (L':List Addr) (a:Addr),(a ∈ L' ++ (W.flatten ++ F.O₀))->a ∈ L'\/(a ∈ O2/\a ∉ fps.flatten):=fun H' L' a h=>by
   rcases List.mem_append.mp h with h | h
   ·exact .inl h
   ·refine .inr ⟨(memO a).mpr (List.mem_append_right _ h),fun z=>?_⟩
    exact (List.nodup_append.mp nd1).2.2 a z a h rfl
  have swapped:∀ (H':Hp) (L':List Addr),Beh H H' fps.flatten L' (W.flatten ++ F.O₀)->∃ O3,DSt X.K (F.plus L') H' σ (clr js ρ) O3/\Stp O2 H O3 H'/\∀ a,a ∈ O3 ↔ a ∈ L' ++ (W.flatten ++ F.O₀):=fun H' L' bh=>by
   obtain ⟨O3,t1,t2,t3,t4,t5⟩:=st2.swap (H':=H') (L':=L') bh.keep (List.nodup_append.mp bh.nd).1 bh.new nw bh.live
   refine ⟨O3,t1,t2,fun a=>⟨fun h=>?_,fun h=>?_⟩⟩
   ·rcases t4 a h with z | ⟨z1,z2⟩
    ·exact List.mem_append_left _ z
    ·rcases List.mem_append.mp ((memO a).mp z1) with z | z
     ·exact absurd z z2
     ·exact List.mem_append_right _ z
   ·rcases back2 H' L' a h with z | ⟨z1,z2⟩
    ·exact t3 a z
    ·exact t5 a z1 z2
  have r2:Vals (vs ++ []) (us ++ []):=by rw [List.append_nil,List.append_nil]; exact r
  let EX:XK:=fun C _ H'=>∃ c ρ' O',X.mg c=some C/\DSt X.K F H' σ ρ' O'/\E c ρ'
  have sp:spF X.K X.mg f vs H Q EX:=by
   refine ⟨hx.1.at st,cs,fps,W.flatten ++ F.O₀,ar.mono stE,nd1,fun a h=>?_,?_⟩
   ·exact stw.live a (by have:=(memO a).mpr h; rw [hO2] at this; exact this)
   ·cases hf:f cs with
    | bad=>rw [hf] at q; exact q
    | rt c outs=>
     rw [hf] at q
     simp only at q ⊢
     intro v H' fp fps' hca hou bh
     obtain ⟨O3,t1,t2,t3⟩:=swapped H' (fps'.flatten ++ fp) bh
     have eq3:Stp (fps'.flatten ++ fp ++ (W.flatten ++ F.O₀)) H' O3 H':=stp_less fun a h=>(t3 a).mp h
     have nwo:∀ a ∈ fps'.flatten ++ fp,a ∈ F.A₀\/F.H₀ a=none:=fun a h=>by
      rcases bh.new a h with z | z
      ·exact nw a z
      ·by_cases hA:a ∈ F.A₀
       ·exact .inl hA
       ·refine .inr ?_
        cases e:F.H₀ a with
        | none=>rfl
        | some o=>have:=stw.kept a o hA e; rw [z] at this; cases this
     have lj:(clr js ρ).length=ρ.length:=clr_len
     obtain ⟨O4,u1,u2⟩:=give_all (fp:=fp) ja lj t1 (hou.mono eq3) fun a h=>nwo a (List.mem_append_left _ h)
     exact hQ c _ q v H' O4 fp ⟨u1,hca.keep (eq3.trans u2) (fun _ _=>rfl) (fun _ _ _ e=>e),fun a h=>nwo a (List.mem_append_right _ h)⟩ (s1.trans (t2.trans u2))
    | ex c outs=>
     rw [hf] at q
     simp only at q ⊢
     intro C H' fps' hm hou bh
     obtain ⟨O3,t1,t2,t3⟩:=swapped H' fps'.flatten bh
     have eq3:Stp (fps'.flatten ++ (W.flatten ++ F.O₀)) H' O3 H':=stp_less fun a h=>(t3 a).mp h
     have nwo:∀ a ∈ fps'.flatten,a ∈ F.A₀\/F.H₀ a=none:=fun a h=>by
      rcases bh.new a h with z | z
      ·exact nw a z
      ·by_cases hA:a ∈ F.A₀
       ·exact .inl hA
       ·refine .inr ?_
        cases e:F.H₀ a with
        | none=>rfl
        | some o=>have:=stw.kept a o hA e; rw [z] at this; cases this
     have lj:(clr js ρ).length=ρ.length:=clr_len
     obtain ⟨O4,u1,u2⟩:=give_all (fp:=[]) ja lj (by rw [List.append_nil]; exact t1) (hou.mono eq3) nwo
     exact ⟨c,_,O4,hm,u1,q⟩
  have hl:(us ++ []).length=ps.length:=by rw [List.append_nil,<-r.length]; exact G.len _ _ _ _ sp
  refine wpAny_call (codeAny_mono (G.run X.A X.stack s H ⟨us,[]⟩ us vs Q EX hr I.env0 (by have:=hb s us I.kIn hl; rw [List.append_nil] at this; exact this) r sp) fun r s' hq=>?_)
  cases r with
  | error e=>
   obtain ⟨a,C,H',e1,I',cv,ex,c,ρ',O',hm,st',hE⟩:=I.flies hq
   exact hx.2 pins σ H' s' e c ρ' O' ⟨I',a,C,s.heap,_,e1,cv,ex,hm⟩ st' hE
  | ok fl=>
   cases fl with
   | ret u=>exact I.after hq
   | next=>exact False.elim hq
   | brk=>exact False.elim hq
   | cont=>exact False.elim hq
theorem do_callH (hx:XOk X F E) (G:FnOkH X.prog X.w X.K X.mg X.base (CXM X.prog X.w) k g fd ps (spF X.K X.mg f)) (hr:RoomH k X.A) (hg:Gl X x) (hm:X.mg x=some (.ref g)) (hk:PySem.W.keepIn X.K (.ref g)=true) (hb:Binds X.K fd ps [])
  (ha:DX X F (e :: es) tX) (hdb:(x == ("__debug__":Str))=false:=by decide) (he:starEach (e :: es) X.env=(false,eval e X.env) :: starEach es X.env:=by rfl) (hpl:(backTo pos (starEach es X.env)).any (·.1)=false:=by rfl) :
  DO X F (.Call (.Name x p) (e :: es) [] pos) (dCall f E tX):=by
 refine ⟨fun ρ Q Q' k q=>ha.mn _ _ _ (fun as ρ1 q1=>callOn_mn k q1) q,fun pins s σ H Q I ⟨ρ,O,st,q⟩=>?_⟩
 refine wpAny_Call_Name_kw (ld_glob I hg hm ?_ hdb)
 refine PySem.W.callWith_K (h₀:=X.base) I.ok.mod.kin hk (thn (ha.pa pos pins s σ H (fun vs H1=>∃ as ρ1 O1,DSt X.K F H1 σ ρ1 O1/\Stp O H O1 H1/\AxAt σ (hide O1 H1) vs as/\callOn f E (fun c ρ'=>∀ v H' O' fp,Res X.K F H' σ ρ' O' v c fp->Stp O H O' H'->Q v H') as ρ1) I ⟨ρ,O,st,ha.mn _ _ _ (fun as ρ1 q1 vs H1 O1 st1 s1 ax=>⟨as,ρ1,O1,st1,s1,ax,q1⟩) q⟩) fun us s1 ⟨vs,H1,I1,r,as,ρ1,O1,st1,s01,ax,q1⟩=>⟨I1.kIn,?_⟩) he hpl
 exact call_onH hx G hr hb I1 r st1 ax q1 fun c ρ' h v H' O' fp res s2=>h v H' O' fp res (s01.trans s2)
end
end L2.L3
namespace L2.L3
open PySem PySem.Spec PyProof.Rows Builtin Builtin.ObjectAttr Builtin.Getset_descriptor
section
variable {prog:Program} {w:World} {A:Around} {E:Value->Shared->Prop} {K:PySem.W.Frag} {h:Heap} {g:Array GenState} {d:Drawn} {t:Nat} {os:OsState} {a C:Addr} {o:Obj}
theorem exc_class {Q:Option Value->Shared->Prop} (X:K.In h) (hx:h.get? a=some o) (hc:o.cls=.ref C) (f1:PySem.W.findIn K (.ref C) "__getattribute__" = some (some (.builtin "BaseException.__getattribute__")))
  (f2:PySem.W.findIn K (.ref C) "__class__" = some (some (.builtin "object.__class__"))) (f3:PySem.W.findIn K (.ref C) "__getattr__" = some none) (f4:PySem.W.mroIn K C (.type "BaseException")=some true) (f5:PySem.W.mroIn K C (.type "object")=some true)
  (hq:Q (some (.ref C)) ⟨h,g,d,t + 1,os⟩):wpAny (model prog w) A (getAttr? (.ref a) "__class__") Q E ⟨h,g,d,t,os⟩:=by
 have L0:PySem.W.Looks (model prog w) h (typeOf (.ref a)) (.ref C):=hc ▸ (PySem.W.Looks.ld hx).andThen .now
 have L1:=PySem.W.looks_findIn (M:=model prog w) X f1
 have L2:=PySem.W.looks_findIn (M:=model prog w) X f3
 have L3:=PySem.W.looks_findIn (M:=model prog w) X f2
 have L4:=PySem.W.looks_mroIn (M:=model prog w) X f4
 have L5:=PySem.W.looks_mroIn (M:=model prog w) X f5
 have g3:=F.attrBase_ValueError.ga.bind (.ref a)
 unfold getAttr? getAttrBy? getAttrBy; refine wpAny_bind (wpAny_mkText (wpAny_bind (wpAny_attempt (wpAny_holding (wpAny_bind (L0.at (wpAny_bind (L1.at ?_))))))))
 show wpAny _ _ (getAttrByItsOwn _ _ _ _ _ _) _ _ _
 unfold getAttrByItsOwn
 repeat (any_goals (first | assumption | with_reducible refine L0.at ?_ | with_reducible refine L2.at ?_ | wp_step))
 refine codeAny_call_builtin F.attrBase_ValueError.ga.plain F.entry_bexc_ga ?_
 have k1:builtinKind "BaseException.__getattribute__" = some .slot:=by decide +kernel
 have k2:splitId "BaseException.__getattribute__" = some ("BaseException","__getattribute__"):=by decide +kernel
 have k3:=F.args_bexc_ga (.ref a) (.str "__class__" t)
 simp only [checkBuiltinCall,k1,k2]; refine wpAny_bind ?_
 unfold isInstance
 repeat (any_goals (first | assumption | with_reducible refine L0.at ?_ | with_reducible refine L4.at ?_ | wp_step))
 have k4:typeOf (.builtin "object.__class__")=pure (.type "getset_descriptor"):=PySem.W.KF.type_class
 have k6:=F.slot_gs_get.lookup
 have k7:=F.slot_gs_set.lookup
 repeat (any_goals (first | assumption | with_reducible refine L0.at ?_ | with_reducible refine L3.at ?_ | wp_step))
 refine codeAny_call_builtin PySem.W.KF.slot_gs.plain PySem.W.KF.entry_gs (PySem.W.KF.slot_gs.check _ _ _ _ _ _ _ _ PySem.W.KF.type_class (PySem.W.KF.args_gs _ _ _) ?_)
 unfold Builtin.«getset_descriptor.__get__» descrGet; rw [PySem.W.dga_obj]; refine wpAny_bind (wpAny_pure ?_)
 unfold descrGetter descrCheckInstance descrNameAndClass isInstance; simp only [PySem.W.KF.owner_class]
 repeat (any_goals (first | assumption | with_reducible refine L0.at ?_ | with_reducible refine L5.at ?_ | wp_step))
 refine ⟨Code.quiet_builtin _ (by decide +kernel),codeAny_builtin PySem.W.KF.entry_class ?_⟩
 unfold Builtin.«object.__class__» PySem.shownTypeOf
 repeat (any_goals (first | assumption | with_reducible refine L0.at ?_ | with_reducible refine L5.at ?_ | wp_step))
theorem kitx_exc (f:attrOk K C=true) (hc:(PySem.W.clsIn K C).isSome=true):PySem.W.KitX K (.ref a) (.ref C) (fun h=>∃ o,h.get? a=some o/\o.cls=.ref C):=by
 unfold attrOk at f
 simp only [Bool.and_eq_true,beq_iff_eq] at f
 obtain ⟨⟨⟨⟨f1,f2⟩,f3⟩,f4⟩,f5⟩:=f
 obtain ⟨cd,hcd⟩:=Option.isSome_iff_exists.mp hc
 unfold PySem.W.clsIn at hcd
 split at hcd
 ·rename_i o1 o2 o3 o4 ho
  refine ⟨fun M h X ⟨o,p1,p2⟩=>p2 ▸ (PySem.W.Looks.ld p1).andThen .now,fun M h X _=>?_,fun h tp dd its n sl X htp=>?_,fun {prog w A E Q s} X ⟨o,p1,p2⟩ k=>?_⟩
  ·intro A' Q' E' s' k q; unfold isType loadHead; exact wpAny_bind (wpAny_loadPart (k _ _ (X _ _ ho)) (wpAny_pure q))
  ·refine Bool.eq_false_iff.mpr fun q=>?_
   have e:C=tp:=Value.ref.inj (beq_iff_eq.mp q)
   subst e
   have zz:=(X _ _ ho).symm.trans htp
   cases zz
  ·obtain ⟨hh,g,d,t,os⟩:=s
   exact exc_class X p1 p2 f1 f2 f3 f4 f5 k
 ·cases hcd
end
end L2.L3
namespace L2.L3
open PySem PySem.Spec PyProof.Rows
noncomputable def vOf:Value->V
 | .bool b=>.bl b
 | .int i _=>.int i
 | .str x _=>.str x
 | _=>.non
theorem vOf_eq {v:V} {z:Value} (r:RelV v z) (f:flatV v=true):vOf z=v:=by
 cases v with
 | non=>cases r; rfl
 | bl b=>cases r; rfl
 | int i=>obtain ⟨t,rfl⟩:=r; rfl
 | str i=>obtain ⟨t,rfl⟩:=r; rfl
 | _=>cases f
theorem vals_eq {A:Around} {s:Shared} {y:V} {u:Value} (ry:RelV y u) (fy:flatV y=true):∀ {xs:List V} {its:List Value},Vals xs its->xs.all flatV=true->(∀ z ∈ its,SeqAt.EqAt A s z u (eqV (vOf z) y))/\its.map vOf=xs
 | _,_,.nil,_=>⟨(fun _ h=>nomatch h),rfl⟩
 | _,_,.cons h t,fl=>by
  rw [List.all_cons,Bool.and_eq_true] at fl
  obtain ⟨h1,h2⟩:=vals_eq (A:=A) (s:=s) ry fy t fl.2
  refine ⟨fun z hz=>?_,?_⟩
  ·rcases List.mem_cons.mp hz with rfl | hz
   ·rw [vOf_eq h fl.1]; exact eqAt_V h ry fl.1 fy
   ·exact h1 z hz
  ·rw [List.map_cons,h2,vOf_eq h fl.1]
section
variable {X:Cx} {F:Fx} {E:Str->DEnv->Prop} {e a b c:Expr} {es:List Expr} {st:Stmt} {rest:List Stmt} {pos:Pos} {x:Str}
noncomputable def rCount:V->List V->Hp->VK->Prop:=fun x vs H Q=>∃ l xs y,x=.ref l/\vs=[y]/\H l=some (.lst xs)/\xs.all flatV=true/\flatV y=true/\Q (.int (xs.countP fun z=>eqV z y:Nat)) H
theorem mt_count:MtR X "list.count" rCount:=by
 intro pins s σ H x vs v us Q I rx rv h
 obtain ⟨l,xs,y,rfl,rfl,hH,fl,fy,q⟩:=h
 cases rx
 obtain ⟨u,rfl,ru⟩:=rv.one
 obtain ⟨z,its,n,r,hl,e⟩:=I.lstM hH
 obtain ⟨h1,h2⟩:=vals_eq (A:=X.A.in1) (s:=s) ru fy r fl
 refine call_meets F.slot_list_count ⟨_,e,rfl⟩ F.entry_list_count (F.args_list_count_2 _ _) (SeqAt.list_countAt l its.toArray n none #[] u fun z=>eqV (vOf z) y) ⟨e,fun z hz=>h1 z (by simpa using hz),?_⟩
 refine ⟨.int _,H,I.tok _,⟨_,rfl⟩,?_⟩
 have:its.countP (fun z=>eqV (vOf z) y)=xs.countP fun z=>eqV z y:=by rw [<-h2,List.countP_map]; rfl
 rw [this]
 exact q
noncomputable def rIndex:V->List V->Hp->VK->Prop:=fun x vs H Q=>∃ l xs y,x=.ref l/\vs=[y]/\H l=some (.lst xs)/\xs.all flatV=true/\flatV y=true/\(xs.findIdx fun z=>eqV z y) < xs.length/\Q (.int (xs.findIdx fun z=>eqV z y:Nat)) H
theorem mt_index:MtR X "list.index" rIndex:=by
 intro pins s σ H x vs v us Q I rx rv h
 obtain ⟨l,xs,y,rfl,rfl,hH,fl,fy,hlt,q⟩:=h
 cases rx
 obtain ⟨u,rfl,ru⟩:=rv.one
 obtain ⟨z,its,n,r,hl,e⟩:=I.lstM hH
 obtain ⟨h1,h2⟩:=vals_eq (A:=X.A.in1) (s:=s) ru fy r fl
 have gt:∀ m (hm:m < its.length),eqV (vOf its[m]) y=eqV (xs[m]'(by omega)) y:=fun m hm=>by
  have:xs[m]'(by omega)=vOf its[m]:=by subst h2; simp
  rw [this]
 have big:((xs.findIdx fun z=>eqV z y:Nat):Int) < 2 ^ 63 - 1:=by
  have:sizeLine < 2 ^ 62:=by decide
  omega
 refine call_meets F.slot_list_index ⟨_,e,rfl⟩ F.entry_list_index (F.args_list_index_2 _ _) (SeqAt.list_indexAt l its.toArray n none #[] u (fun z=>eqV (vOf z) y) (xs.findIdx fun z=>eqV z y) (by rw [List.size_toArray]; omega) big ?_ ?_) ⟨e,fun z hz=>h1 z (by simpa using hz),?_⟩
 ·show eqV (vOf its[xs.findIdx fun z=>eqV z y]) y=true
  rw [gt _ (by omega)]
  exact List.findIdx_getElem (w:=hlt)
 ·intro m hm h
  have hm':m < its.length:=by simpa using hm
  show eqV (vOf its[m]) y=false
  rw [gt m hm']
  have:=List.not_of_lt_findIdx h
  simpa using this
 ·exact ⟨.int _,H,I.tok _,⟨_,rfl⟩,q⟩
@[simp] noncomputable def lstC:Cell->Option (List PyData)
 | .dat (.list ds)=>some ds
 | .own _ (.l ds)=>some ds
 | _=>none
@[simp] noncomputable def asL (ρ:DEnv) (i:Nat):Option (List PyData):=match ρ[i]? with
 | some (some c)=>lstC c
 | _=>none
theorem asL_at {K:PySem.W.Frag} {H:Hp} {σ:St} {ρ:DEnv} {O:List Addr} {i:Nat} {ds:List PyData} (st:DSt K F H σ ρ O) (h:asL ρ i=some ds):∃ p vs,σ[i]? = some (some (.ref p))/\H p=some (.lst vs)/\DVs (hide O H) vs ds:=by
 unfold asL at h
 split at h
 ·rename_i c e
  unfold lstC at h
  split at h
  ·cases h
   obtain ⟨v,hv,hd⟩:=st.dat e
   obtain ⟨p,xs,rfl,hp,hx⟩:=hd.lst_inv
   exact ⟨p,xs,hv,(of_hide hp).1,hx⟩
  ·cases h
   obtain ⟨p,fp,hv,⟨_,xs,hH,hx⟩,_⟩:=st.box e
   exact ⟨p,xs,hv,hH,hx⟩
  ·cases h
 ·cases h
@[simp] noncomputable def flatD:PyData->Option V
 | .none=>some .non
 | .bool b=>some (.bl b)
 | .int i=>some (.int i)
 | .str x=>some (.str x)
 | _=>none
@[simp] noncomputable def flatDs:List PyData->Option (List V)
 | []=>some []
 | d :: r=>(match flatD d,flatDs r with | some v,some l=>some (v :: l) | _,_=>none)
theorem flatD_v {G:Hp} {v w:V} {d:PyData} (h:DV G v d) (e:flatD d=some w):v=w/\flatV v=true:=by
 cases d with
 | none=>cases e; rw [h.non_inv]; exact ⟨rfl,rfl⟩
 | bool b=>cases e; rw [h.bl_inv]; exact ⟨rfl,rfl⟩
 | int b=>cases e; rw [h.int_inv]; exact ⟨rfl,rfl⟩
 | str b=>cases e; rw [h.str_inv]; exact ⟨rfl,rfl⟩
 | _=>cases e
theorem flatDs_v {G:Hp}:∀ {vs ws:List V} {ds:List PyData},DVs G vs ds->flatDs ds=some ws->vs=ws/\vs.all flatV=true
 | [],_,[],.nil,e=>by cases e; exact ⟨rfl,rfl⟩
 | v :: vs,_,d :: ds,.cons h t,e=>by
  unfold flatDs at e
  cases h1:flatD d with
  | none=>rw [h1] at e; cases e
  | some w=>
   cases h2:flatDs ds with
   | none=>rw [h1,h2] at e; cases e
   | some l=>
    rw [h1,h2] at e
    cases e
    obtain ⟨e1,f1⟩:=flatD_v h h1
    obtain ⟨e2,f2⟩:=flatDs_v t h2
    exact ⟨by rw [e1,e2],by rw [List.all_cons,f1,f2]; rfl⟩
@[simp] noncomputable def cntD (ds:List PyData) (y:PyData):Option PyData:=match flatDs ds,flatD y with
 | some ws,some w=>some (.int (ws.countP fun z=>eqV z w:Nat))
 | _,_=>none
@[simp] noncomputable def ixD (ds:List PyData) (y:PyData):Option PyData:=match flatDs ds,flatD y with
 | some ws,some w=>if (ws.findIdx fun z=>eqV z w) < ws.length then some (.int (ws.findIdx fun z=>eqV z w:Nat)) else none
 | _,_=>none
@[simp] noncomputable def mtK (g:List PyData->PyData->Option PyData) (i:Nat) (d:PyData):XM PyData:=fun ρ=>lift (match asL ρ i with
 | some ds=>g ds d
 | none=>none) ρ
@[simp] noncomputable def xMt (g:List PyData->PyData->Option PyData) (i:Nat) (m:XM PyData):XM PyData:=fun ρ=>match asL ρ i with
 | some _=>(m ρ).bind (mtK g i)
 | none=>.bad
theorem fe_mt {i:Nat} {m:XM PyData} {p1 apos cpos:Pos} {nm:Str} {id:String} {r:V->List V->Hp->VK->Prop} {g:List PyData->PyData->Option PyData} (slot:Slot "list" nm id) (hty:typeOf (.builtin id)=pure (.type "method_descriptor")) (hm:MtR X id r)
  (hg:∀ G l xs ds y d z H Q,H l=some (.lst xs)->DVs G xs ds->DV G y d->g ds d=some z->(∀ u,DV G u z->Q u H)->r (.ref l) [y] H Q)
  (hv:PE X (.Name x p1) (tVar i)) (he:FE X F E e m)
  (hbase:attributeBase (.Name x p1) nm X.env (eval (.Name x p1) X.env)=eval (.Name x p1) X.env:=by rfl)
  (hfew:((backTo cpos (starEach [e] X.env)).all (fun x=>!x.1) && (backToKw cpos (keywordEach [] X.env)).all (fun x=>x.1.isSome) && decide (([e]:List Expr).length + ([]:List Keyword).length + (if ([]:List Keyword).isEmpty then 0 else 1) < 30))=true:=by rfl)
  (hline:(apos.endLine == cpos.line)=true:=by rfl) (hs:starEach [e] X.env=(false,eval e X.env) :: starEach [] X.env:=by rfl) (hplain:(backTo cpos (starEach [] X.env)).any (·.1)=false:=by rfl) :
  FE X F E (.Call (.Attribute (.Name x p1) nm apos) [e] [] cpos) (xMt g i m):=
 ⟨mn_wp,(pe_bm PySem.F.plainAttrs_list slot hty hm hv (pa_cons he.pe pa_nil hs) hbase hfew hline hs hplain).imp fun σ H Q ⟨ρ,O,st,q⟩=>by
  unfold wp xMt at q
  cases h0:asL ρ i with
  | none=>rw [h0] at q; exact q.elim
  | some ds0=>
   rw [h0] at q
   obtain ⟨p,vs0,hv0,hH0,_⟩:=asL_at st h0
   refine ⟨_,hv0,.inl ⟨rfl,vs0,.of hH0⟩,ρ,O,st,mn_wp _ _ _ (fun d ρ1 q1 w H1 O1 st1 s1 d1=>?_) (wp_bind (m:=m) (k:=mtK g i) q)⟩
   obtain ⟨z,e1,q2⟩:=wp_lift (o:=match asL ρ1 i with | some ds=>g ds d | none=>none) (ρ:=ρ1) (E:=E) q1
   cases h1:asL ρ1 i with
   | none=>rw [h1] at e1; cases e1
   | some ds1=>
    rw [h1] at e1
    obtain ⟨p',vs1,hv1,hH1,hd1⟩:=asL_at st1 h1
    rw [hv0] at hv1
    cases hv1
    exact hg _ _ _ _ _ _ _ _ _ hH1 hd1 d1 e1 fun u hu=>q2 u H1 O1 st1 s1 hu⟩
theorem cnt_ok:∀ G l xs ds y d z H Q,H l=some (.lst xs)->DVs G xs ds->DV G y d->cntD ds d=some z->(∀ u,DV G u z->Q u H)->rCount (.ref l) [y] H Q:=fun G l xs ds y d z H Q hH hx hy e q=>by
 unfold cntD at e
 split at e
 ·rename_i ws w h1 h2
  cases e
  obtain ⟨rfl,f1⟩:=flatDs_v hx h1
  obtain ⟨rfl,f2⟩:=flatD_v hy h2
  exact ⟨l,xs,y,rfl,rfl,hH,f1,f2,q _ (.int _)⟩
 ·cases e
theorem ix_ok:∀ G l xs ds y d z H Q,H l=some (.lst xs)->DVs G xs ds->DV G y d->ixD ds d=some z->(∀ u,DV G u z->Q u H)->rIndex (.ref l) [y] H Q:=fun G l xs ds y d z H Q hH hx hy e q=>by
 unfold ixD at e
 split at e
 ·rename_i ws w h1 h2
  split at e
  ·rename_i hl
   cases e
   obtain ⟨rfl,f1⟩:=flatDs_v hx h1
   obtain ⟨rfl,f2⟩:=flatD_v hy h2
   exact ⟨l,xs,y,rfl,rfl,hH,f1,f2,hl,q _ (.int _)⟩
  ·cases e
 ·cases e
end
end L2.L3
namespace L2.L3
open PySem PySem.Spec PyProof.Rows
section
variable {X:Cx} {F:Fx} {E:Str->DEnv->Prop} {e a b c:Expr} {es:List Expr} {st:Stmt} {rest:List Stmt} {pos:Pos} {x:Str}
@[simp] noncomputable def asO (ρ:DEnv) (i:Nat):Option (Bool × List PyData):=match ρ[i]? with
 | some (some (.own io (.l ds)))=>some (io,ds)
 | _=>none
theorem asO_at {ρ:DEnv} {i:Nat} {io:Bool} {ds:List PyData} (h:asO ρ i=some (io,ds)):ρ[i]? = some (some (.own io (.l ds))):=by
 unfold asO at h
 split at h
 ·rename_i e; cases h; exact e
 ·cases h
@[simp] noncomputable def extK (i:Nat) (d:PyData):SM:=fun ρ1=>match asO ρ1 i,d with
 | some (io,ds),.list zs=>if ds.length + zs.length<=sizeLine then .nx (ρ1.set i (some (.own io (.l (ds ++ zs))))) else .bad
 | _,_=>.bad
@[simp] noncomputable def sExt (i:Nat) (m:XM PyData):SM:=fun ρ=>match asO ρ i with
 | some _=>ofX (m ρ) (extK i)
 | none=>.bad
theorem fs_ext {i:Nat} {m:XM PyData} {p1 apos cpos:Pos} (hv:PE X (.Name x p1) (tVar i)) (he:FE X F E e m) (hsw:swapsWith (.Call (.Attribute (.Name x p1) "extend" apos) [e] [] cpos) none pos.line X.env=pure false:=by rfl)
  (hbase:attributeBase (.Name x p1) "extend" X.env (eval (.Name x p1) X.env)=eval (.Name x p1) X.env:=by rfl)
  (hfew:((backTo cpos (starEach [e] X.env)).all (fun x=>!x.1) && (backToKw cpos (keywordEach [] X.env)).all (fun x=>x.1.isSome) && decide (([e]:List Expr).length + ([]:List Keyword).length + (if ([]:List Keyword).isEmpty then 0 else 1) < 30))=true:=by rfl)
  (hline:(apos.endLine == cpos.line)=true:=by rfl) (hs:starEach [e] X.env=(false,eval e X.env) :: starEach [] X.env:=by rfl) (hplain:(backTo cpos (starEach [] X.env)).any (·.1)=false:=by rfl) :
  FS X F E (.Expr (.Call (.Attribute (.Name x p1) "extend" apos) [e] [] cpos) pos) (sExt i m):=
 (ps_expr (pe_bm PySem.F.plainAttrs_list PySem.F.slot_list_extend PySem.F.type_list_extend mt_extend hv (pa_cons he.pe pa_nil hs) hbase hfew hline hs hplain) hsw).imp fun D σ H ⟨ρ,O,DD,st,q,f⟩=>by
  unfold wpS sExt at q
  cases h0:asO ρ i with
  | none=>rw [h0] at q; exact q.elim
  | some p0=>
   obtain ⟨io0,ds0⟩:=p0
   rw [h0] at q
   obtain ⟨p,fp,hv0,⟨_,xs,hH,_⟩,_,_⟩:=st.box (asO_at h0)
   refine ⟨_,hv0,.inl ⟨rfl,xs,.of hH⟩,ρ,O,st,mn_wp _ _ _ (fun d ρ1 q1 w H1 O1 st1 s1 d1=>?_) (wpS_ofX (m:=m) (k:=extK i) q)⟩
   unfold wpS extK at q1
   cases h1:asO ρ1 i with
   | none=>rw [h1] at q1; exact q1.elim
   | some p1=>
    obtain ⟨io1,ds1⟩:=p1
    rw [h1] at q1
    cases d with
    | list zs=>
     simp only at q1
     obtain ⟨p',fp',hv1,⟨e1,ys,hH1,hd⟩,hO,up⟩:=st1.box (asO_at h1)
     rw [hv0] at hv1; cases hv1
     subst e1
     obtain ⟨b,ws,rfl,hb,hws⟩:=d1.lst_inv
     by_cases hz:ds1.length + zs.length<=sizeLine
     ·rw [if_pos hz] at q1
      refine ⟨p,b,ys,ws,rfl,rfl,hH1,(of_hide hb).1,by rw [hd.length,hws.length]; exact hz,?_⟩
      obtain ⟨O2,st2,s2,_⟩:=up (upd H1 p (.lst (ys ++ ws))) (.l (ds1 ++ zs)) [p] (fun c o hc e=>by rw [upd_ne (by simpa using hc)]; exact e) (by simp) (fun c hc=>.inl hc) (fun G O' s hG _=>by
       subst hG
       exact ⟨s.hid,rfl,ys ++ ws,upd_same,(DVs.mono s.hid hd).append (DVs.mono s.hid hws)⟩)
      exact f.nx _ _ _ _ st2 (s1.trans s2) q1
     ·rw [if_neg hz] at q1; exact q1.elim
    | _=>exact q1.elim
noncomputable def rIsX (K:PySem.W.Frag):List V->Hp->VK->Prop:=fun xs H Q=>∃ a φ C w b,xs=[.ref a,w]/\H a=some (.ext φ)/\(∀ h,φ h->∃ o,h.get? a=some o/\o.cls=.ref C)/\attrOk K C=true/\(PySem.W.clsIn K C).isSome=true/\(∀ u,RelV w u->PySem.W.kitOne K (.ref C) u=some b)/\Q (.bl b) H
theorem call_isX:CallR X (.builtin "isinstance") (rIsX X.K):=by
 intro pins s σ H xs us Q I r h
 obtain ⟨a,φ,C,w,b,rfl,hH,hφ,at_,cl,e,q⟩:=h
 obtain ⟨u,w',rfl,r1,r2⟩:=vals2 r
 cases r1
 obtain ⟨p,_,_⟩:=(show ObjOk X.prog X.w H s.heap a (.ext φ) from I.hok a _ hH)
 exact PySem.W.kia_one (kitx_exc at_ cl) I.kIn (hφ _ p) (e _ r2) (fun z=>nomatch z) fun tk=>⟨.bl b,H,I.tok tk,rfl,q⟩
theorem cls_of_exc {K:PySem.W.Frag} {C:Addr} {l:List Value} {n:String} (h:PySem.W.excIn K C l n=true):(PySem.W.clsIn K C).isSome=true:=by
 unfold PySem.W.excIn at h
 unfold PySem.W.clsIn
 split at h
 ·rename_i e; rw [e]; rfl
 ·cases h
@[simp] noncomputable def asX (ρ:DEnv) (i:Nat):Option Str:=match ρ[i]? with
 | some (some (.exc c))=>some c
 | _=>none
theorem asX_at {ρ:DEnv} {i:Nat} {c:Str} (h:asX ρ i=some c):ρ[i]? = some (some (.exc c)):=by
 unfold asX at h
 split at h
 ·rename_i e; cases h; exact e
 ·cases h
@[simp] noncomputable def xIsX (i:Nat) (l:List Str) (cls:Str):XM PyData:=fun ρ=>match asX ρ i with
 | some c=>if c ∈ l/\cls ∈ l then .ok (.bool (c == cls)) ρ else .bad
 | none=>.bad
@[simp] noncomputable def xIsV (i:Nat) (l:List Str):XM PyData:=fun ρ=>match asX ρ i with
 | some c=>if c ∈ l then .ok (.bool true) ρ else .bad
 | none=>.bad
theorem st_exc {K:PySem.W.Frag} {mg:Str->Option Value} {H:Hp} {σ:St} {ρ:DEnv} {O:List Addr} {i:Nat} {c:Str} {C:Addr} (st:DSt K F H σ ρ O) (h:ρ[i]? = some (some (.exc c))) (ec:EC K mg c C):∃ a φ,σ[i]? = some (some (.ref a))/\H a=some (.ext φ)/\∀ h,φ h->∃ o,h.get? a=some o/\o.cls=.ref C:=by
 obtain ⟨W,h',rfl⟩:=st
 obtain ⟨v,fp,h1,h2,a,φ,rfl,h3,h4⟩:=h'.at_ i _ h
 refine ⟨a,φ,h1,(of_hide h3).1,fun h p=>?_⟩
 obtain ⟨C',o,e1,e2,e3⟩:=h4 h p
 rw [ec.ns] at e1
 cases e1
 exact ⟨o,e2,e3⟩
theorem fe_isX {l:List Str} {D:Addr} {i:Nat} {cls:Str} {p p1 p2:Pos} (xt:XT X.K X.mg l D) (hgi:Gl X "isinstance") (hmi:X.mg "isinstance" = none) (hv:PE X (.Name x p1) (tVar i)) (hgc:Gl X cls) (hcl:cls ∈ l) (hdb:(cls == ("__debug__":Str))=false:=by decide)
  (he:starEach [.Name x p1,.Name cls p2] X.env=(false,eval (.Name x p1) X.env) :: starEach [.Name cls p2] X.env:=by rfl) (he2:starEach [.Name cls p2] X.env=(false,eval (.Name cls p2) X.env) :: starEach [] X.env:=by rfl) (hpl:(backTo pos (starEach [.Name cls p2] X.env)).any (·.1)=false:=by rfl) :
  FE X F E (.Call (.Name "isinstance" p) [.Name x p1,.Name cls p2] [] pos) (xIsX i l cls):=by
 obtain ⟨D',ed,_⟩:=xt.at_ hcl
 refine ⟨mn_wp,(pe_callB call_isX hgi hmi (show bootBuiltins "isinstance" = some (.builtin "isinstance") by decide +kernel) (pa_cons hv (pa_cons (pe_glob (v:=.ref D') hgc ed.mg rfl hdb) pa_nil he2) he) (by decide) (by decide) he hpl).imp fun σ H Q ⟨ρ,O,st,q⟩=>?_⟩
 unfold wp xIsX at q
 cases h0:asX ρ i with
 | none=>rw [h0] at q; exact q.elim
 | some c=>
  rw [h0] at q
  by_cases hc:c ∈ l/\cls ∈ l
  ·simp only [if_pos hc] at q
   obtain ⟨C,ec,_,at_,_,tb⟩:=xt.at_ hc.1
   obtain ⟨D2,m2,n2,k2⟩:=tb cls hc.2
   have eD:D2=D':=by have:=ed.mg.symm.trans m2; cases this; rfl
   subst eD
   obtain ⟨a,φ,h1,h2,h3⟩:=st_exc st (asX_at h0) ec
   exact ⟨_,h1,a,φ,C,.ref D2,_,rfl,h2,h3,at_,cls_of_exc ec.ex,fun u ru=>by cases ru; exact k2,q _ H O st .refl (.bl _)⟩
  ·simp only [if_neg hc] at q
theorem fe_isV {l:List Str} {D:Addr} {i:Nat} {p p1 p2:Pos} (xt:XT X.K X.mg l D) (hgi:Gl X "isinstance") (hmi:X.mg "isinstance" = none) (hv:PE X (.Name x p1) (tVar i)) (hgc:Gl X "ValueError") (hmc:X.mg "ValueError" = none)
  (he:starEach [.Name x p1,.Name "ValueError" p2] X.env=(false,eval (.Name x p1) X.env) :: starEach [.Name "ValueError" p2] X.env:=by rfl) (he2:starEach [.Name "ValueError" p2] X.env=(false,eval (.Name "ValueError" p2) X.env) :: starEach [] X.env:=by rfl) (hpl:(backTo pos (starEach [.Name "ValueError" p2] X.env)).any (·.1)=false:=by rfl) :
  FE X F E (.Call (.Name "isinstance" p) [.Name x p1,.Name "ValueError" p2] [] pos) (xIsV i l):=by
 refine ⟨mn_wp,(pe_callB call_isX hgi hmi (show bootBuiltins "isinstance" = some (.builtin "isinstance") by decide +kernel) (pa_cons hv (pa_cons (pe_bltn (v:=.ty "ValueError") hgc hmc (show bootBuiltins "ValueError" = some (.type "ValueError") by decide +kernel) rfl) pa_nil he2) he) (by decide) (by decide) he hpl).imp fun σ H Q ⟨ρ,O,st,q⟩=>?_⟩
 unfold wp xIsV at q
 cases h0:asX ρ i with
 | none=>rw [h0] at q; exact q.elim
 | some c=>
  rw [h0] at q
  by_cases hc:c ∈ l
  ·simp only [if_pos hc] at q
   obtain ⟨C,ec,_,at_,k2,tb⟩:=xt.at_ hc
   obtain ⟨a,φ,h1,h2,h3⟩:=st_exc st (asX_at h0) ec
   exact ⟨_,h1,a,φ,C,.ty "ValueError",_,rfl,h2,h3,at_,cls_of_exc ec.ex,fun u ru=>by cases ru; exact k2,q _ H O st .refl (.bl _)⟩
  ·simp only [if_neg hc] at q
end
end L2.L3
namespace L2.L3
open PySem PySem.Spec PyProof.Rows
section
variable {X:Cx} {F:Fx} {E:Str->DEnv->Prop} {e a b c:Expr} {es:List Expr} {st:Stmt} {rest:List Stmt} {pos:Pos} {x:Str} {ma mb mc:XM PyData}
@[simp] noncomputable def gAdd:=gI fun i j=>.int (i + j)
@[simp] noncomputable def gMul:=gIC cMul fun i j=>.int (i * j)
@[simp] noncomputable def gMod:=gIC cMod fun i j=>.int (i % j)
@[simp] noncomputable def gLt:=gI fun i j=>.bool (decide (i < j))
@[simp] noncomputable def gLe:=gI fun i j=>.bool (decide (i<=j))
@[simp] noncomputable def gGt:=gI fun i j=>.bool (decide (j < i))
theorem fe_add (ha:FE X F E a ma) (hb:FE X F E b mb):FE X F E (.BinOp a .Add b pos) (xOp gAdd ma mb):=fe_op f2_I (de_add ha hb)
theorem fe_mul (ha:FE X F E a ma) (hb:FE X F E b mb):FE X F E (.BinOp a .Mult b pos) (xOp gMul ma mb):=fe_op (f2_IC cMul_ok) (de_mul ha hb)
theorem fe_mod (ha:FE X F E a ma) (hb:FE X F E b mb):FE X F E (.BinOp a .Mod b pos) (xOp gMod ma mb):=fe_op (f2_IC cMod_ok) (de_mod ha hb)
theorem fe_cat (ha:FE X F E a ma) (hb:FE X F E b mb):FE X F E (.BinOp a .Add b pos) (xOp gCatL ma mb):=fe_op f2_catL (de_cat ha hb)
theorem fe_catT (ha:FE X F E a ma) (hb:FE X F E b mb):FE X F E (.BinOp a .Add b pos) (xOp gCatT ma mb):=fe_op f2_catT (de_catT ha hb)
theorem fb_lt (ha:FE X F E a ma) (hb:FE X F E b mb):FB X F E (.Compare a [.Lt] [b] pos) (xTst (xOp gLt ma mb)):=fb_op f2_I (db_lt ha hb)
theorem fb_le (ha:FE X F E a ma) (hb:FE X F E b mb):FB X F E (.Compare a [.LtE] [b] pos) (xTst (xOp gLe ma mb)):=fb_op f2_I (db_le ha hb)
theorem fb_gt (ha:FE X F E a ma) (hb:FE X F E b mb):FB X F E (.Compare a [.Gt] [b] pos) (xTst (xOp gGt ma mb)):=fb_op f2_I (db_gt ha hb)
theorem fe_eq (hu:X.A.units + 64 < cLine) (ha:FE X F E a ma) (hb:FE X F E b mb):FE X F E (.Compare a [.Eq] [b] pos) (xOp (gEq false) ma mb):=fe_op f2_eq (de_eq hu ha hb)
theorem fb_eq (hu:X.A.units + 64 < cLine) (ha:FE X F E a ma) (hb:FE X F E b mb):FB X F E (.Compare a [.Eq] [b] pos) (xTst (xOp (gEq false) ma mb)):=fb_op f2_eq (db_eq hu ha hb)
theorem fb_ne (hu:X.A.units + 64 < cLine) (ha:FE X F E a ma) (hb:FE X F E b mb):FB X F E (.Compare a [.NotEq] [b] pos) (xTst (xOp (gEq true) ma mb)):=fb_op f2_eq (db_ne hu ha hb)
theorem fb_notN (ha:FE X F E a ma) (hb:FE X F E b mb):FB X F E (.Compare a [.IsNot] [b] pos) (xTst (xOp gIsNot ma mb)):=fb_op f2_isnot (db_notN ha hb)
theorem fe_lele (ha:FE X F E a ma) (hb:FE X F E b mb) (hc:FE X F E c mc) (hm:lastMarks [.LtE,.LtE] [b,c]=false:=by with_unfolding_all rfl):FE X F E (.Compare a [.LtE,.LtE] [b,c] pos) (xChain (fun i j=>decide (i<=j)) (fun i j=>decide (i<=j)) ma mb mc):=fe_chain (de_lele ha hb hc hm)
@[simp] noncomputable def gIxA:PyData->PyData->Option PyData:=fun x y=>match x,y with
 | .tuple ds,.int i=>atI ds i
 | .list ds,.int i=>atI ds i
 | _,_=>none
noncomputable def fIxA:D2:=fun x y Q=>fIxT x y Q\/fIxL x y Q
theorem o_ixA {K:PySem.W.Frag}:Op2 (fun x y H Q=>rIxT K x y H Q\/rIxL K x y H Q) fIxA where
 mn:=fun x y Q Q' k h=>h.imp (o_ixT (K:=K).mn x y Q Q' k) (o_ixL (K:=K).mn x y Q Q' k)
 ok:=fun O H u v x y Q hO h1 h2 h=>h.imp (o_ixT.ok O H u v x y Q hO h1 h2) (o_ixL.ok O H u v x y Q hO h1 h2)
theorem f2_ixA:F2 fIxA gIxA:=fun x y d Q e q=>by
 unfold gIxA at e
 split at e
 ·exact .inl ⟨_,_,_,rfl,rfl,e,q⟩
 ·exact .inr ⟨_,_,_,rfl,rfl,e,q⟩
 ·cases e
theorem fe_ix (ha:FE X F E a ma) (hb:FE X F E b mb) (hs:PlainIx b:=by intro _ _; rfl):FE X F E (.Subscript a b pos) (xOp gIxA ma mb):=fe_op f2_ixA (de_ix (IxR.or ix_tup ix_list) o_ixA ha hb hs)
end
end L2.L3
namespace L2.L3
open PySem PySem.Spec PyProof.Rows
noncomputable def isStar:Expr->Bool
 | .Starred ..=>true
 | _=>false
theorem star_of {e:Expr} {es:List Expr} {env:Env} (h:isStar e=false):starEach (e :: es) env=(false,eval e env) :: starEach es env:=by
 cases e <;> first | rfl | cases h
section
variable {X:Cx} {F:Fx} {E:Str->DEnv->Prop} {e a b c:Expr} {es:List Expr} {pos:Pos} {x:Str}
theorem fa_c {ma:XM PyData} {mr:XM (List PyData)} (ha:FE X F E e ma) (hr:FA X F E es mr) (hs:isStar e=false:=by rfl):FA X F E (e :: es) (aCons ma mr):=fa_cons ha hr (star_of hs)
theorem fx_v {ma:XM PyData} {mr:XM (List AX)} (ha:FE X F E e ma) (hr:FX X F E es mr) (hs:isStar e=false:=by rfl):FX X F E (e :: es) (cVal ma mr):=fx_val ha hr (star_of hs)
theorem fx_s {p:Pos} {j:Nat} {mr:XM (List AX)} (hv:PE X (.Name x p) (tVar j)) (hr:FX X F E es mr):FX X F E (.Name x p :: es) (cSlot j mr):=fx_slot hv hr (star_of rfl)
end
end L2.L3
namespace L2.L3
open PySem PySem.Spec PyProof.Rows
section
variable {X:Cx} {F:Fx} {E:Str->DEnv->Prop} {e a b c:Expr} {es:List Expr} {pos:Pos} {x:Str} {ma mb:XM PyData}
@[simp] noncomputable def gPow:=gIC cPow fun i j=>.int (i ^ j.toNat)
theorem fe_pow (ha:FE X F E a ma) (hb:FE X F E b mb):FE X F E (.BinOp a .Pow b pos) (xOp gPow ma mb):=fe_op (f2_IC cPow_ok) (de_pow ha hb)
noncomputable def iR2 (t:DTA):DTI:=fun ρ Q=>t ρ fun ds ρ'=>∃ i j:Int,ds=[.int i,.int j]/\(-(2 ^ 62)<=i/\i < 2 ^ 62/\-(2 ^ 62)<=j/\j < 2 ^ 62)/\Q (intsFrom i (j - i).toNat) ρ'
theorem di_range2 {tg:Expr} {tA:DTA} {p:Pos} (hg:Gl X "range") (hm:X.mg "range" = none) (ha:DA X F [a,b] tA) (hs:starEach [a,b] X.env=[(false,eval a X.env),(false,eval b X.env)]:=by rfl) (hs2:starEach [b] X.env=[(false,eval b X.env)]:=by rfl):DI X F tg (.Call (.Name "range" p) [a,b] [] pos) (iR2 tA):=
 ⟨fun _ _ _ k q=>ha.mn _ _ _ (fun _ _ ⟨i,j,e,h,q⟩=>⟨i,j,e,h,k _ _ q⟩) q,(pi_range2 hg hm ha.pa hs hs2).imp fun σ H R ⟨ρ,O,st,q⟩=>
  ⟨ρ,O,st,ha.mn _ _ _ (fun ds ρ1 ⟨i,j,e,h,q1⟩ vs H1 O1 st1 s1 d1=>by
   subst e
   obtain ⟨x,y,rfl,e1,e2⟩:=dvs2 d1
   obtain rfl:=e1.int_inv
   obtain rfl:=e2.int_inv
   exact ⟨i,j,rfl,h,q1 _ H1 O1 st1 s1 wk_range⟩) q⟩⟩
@[simp] noncomputable def rng2:List PyData->Option (List PyData):=fun xs=>match xs with
 | [.int i,.int j]=>if (decide (-(2 ^ 62)<=i) && decide (i < 2 ^ 62) && decide (-(2 ^ 62)<=j) && decide (j < 2 ^ 62))=true then some (intsFrom i (j - i).toNat) else none
 | _=>none
theorem fi_range2 {tg:Expr} {ma:XM (List PyData)} (h:DI X F tg e (iR2 (wp E ma))):FI X F E tg e (iLf rng2 ma):=h.imp mn_wp fun ρ Q q=>mn_wp _ _ _ (fun ds ρ1 q1=>by
 obtain ⟨y,e1,q2⟩:=wp_lift q1
 unfold rng2 at e1
 split at e1
 ·split at e1
  ·rename_i h; cases e1; simp only [Bool.and_eq_true,decide_eq_true_eq] at h; exact ⟨_,_,rfl,⟨h.1.1.1,h.1.1.2,h.1.2,h.2⟩,q2⟩
  ·cases e1
 ·cases e1) (wp_bind q)
theorem fb_dnotin {i:Nat} {m:XM PyData} {p1:Pos} (hu:X.A.units + 1 < cLine) (he:FE X F E e m) (hv:PE X (.Name x p1) (tVar i)) (hm:behindInMarks .NotIn (.Name x p1)=false:=by rfl):FB X F E (.Compare e [.NotIn] [.Name x p1] pos) (xTst (xDIn true i m)):=
 ⟨mn_wp,(pt_cmp (pc_dnotin hu he.pe hv) hm).imp fun σ H Q ⟨ρ,O,st,q⟩=>⟨ρ,O,st,mn_wp _ _ _ (fun d ρ1 q1 w H1 O1 st1 s1 d1=>by
  obtain ⟨v,h1,a,o,h2,h3,h4⟩:=din_core st1 q1 d1
  obtain ⟨b,hb,h5⟩:=h4
  cases hb
  exact ⟨v,h1,a,o,h2,h3,!o.isSome,rfl,by simpa using h5 H1 O1 st1 s1⟩) (wp_bind (k:=dInK true i) (tst_of q))⟩⟩
end
end L2.L3
namespace L2.L3
open PySem PySem.Spec PyProof.Rows
section
variable {X:Cx} {F:Fx} {E:Str->DEnv->Prop} {e a b c:Expr} {es:List Expr} {st:Stmt} {pos:Pos} {x:Str} {ma mb:XM PyData}
@[simp] noncomputable def xBad {α:Type}:XM α:=fun _=>.bad
theorem eval_callSub {a b:Expr} {p pos:Pos} {args:List Expr} {kw:List Keyword} {env:Env}:eval (.Call (.Subscript a b p) args kw pos) env=(do
  callWith pos (<-eval (.Subscript a b p) env) [] (backTo pos (starEach args env)) (backToKw pos (keywordEach kw env))):=rfl
theorem call_imp {g:FM} {ma:XM (List AX)} {ρ:DEnv} {Q:Cell->DEnv->Prop} (q:wp E (xCall g ma) ρ Q):dCall g E (wp E ma) ρ Q:=mn_wp _ _ _ (fun as ρ1 q1=>by
 unfold wp callK at q1
 unfold callOn
 cases ha:argCells ρ1 as with
 | none=>rw [ha] at q1; exact q1
 | some p=>
  obtain ⟨cs,js⟩:=p
  rw [ha] at q1
  simp only at q1 ⊢
  cases hf:g cs with
  | rt c outs=>rw [hf] at q1; exact q1
  | ex c outs=>rw [hf] at q1; exact q1
  | bad=>rw [hf] at q1; exact q1) (wp_bind (k:=callK g) q)
theorem pe_gref {g:Addr} {p:Pos} (hg:Gl X x) (hm:X.mg x=some (.ref g)) (hdb:(x == ("__debug__":Str))=false:=by decide):PE X (.Name x p) (fun σ H Q=>Q (.ref g) H):=
 fun pins s σ H Q I h=>ld_glob I hg hm ⟨.ref g,H,I,rfl,h⟩ hdb
@[simp] noncomputable def sel2 (f g:FM) (ma:XM (List AX)) (d:PyData):XM Cell:=match d with
 | .int 0=>xCall f ma
 | .int 1=>xCall g ma
 | _=>xBad
@[simp] noncomputable def xCall2 (f g:FM) (mi:XM PyData) (ma:XM (List AX)):XM Cell:=fun ρ=>(mi ρ).bind (sel2 f g ma)
variable {k:Nat} {g1 g2:Addr} {fd1 fd2:FuncData} {ps1 ps2:List Str} {f1 f2:FM} {x1 x2:Str} {p1 p2 lp sp:Pos} {mi:XM PyData} {mX:XM (List AX)} {i:Expr}
theorem call_ref {pins:List (Addr × Obj)} {σ:St} {H:Hp} {s:Shared} {Q:Cell->DEnv->Prop} {Q0:VK} {ρ:DEnv} {O:List Addr} (hx:XOk X F E) (G:FnOk X.prog X.w X.K X.mg X.base (CXM X.prog X.w) k g1 fd1 ps1 (spF X.K X.mg f1)) (hr:Room k X.A) (hk:PySem.W.keepIn X.K (.ref g1)=true) (hb:Binds X.K fd1 ps1 [])
  (ha:FX X F E (e :: es) mX) (he:starEach (e :: es) X.env=(false,eval e X.env) :: starEach es X.env) (hpl:(backTo pos (starEach es X.env)).any (·.1)=false)
  (I:Inv X pins σ H s) (st:DSt X.K F H σ ρ O) (q:wp E (xCall f1 mX) ρ Q) (hQ:∀ c ρ',Q c ρ'->∀ v H' O' fp,Res X.K F H' σ ρ' O' v c fp->Stp O H O' H'->Q0 v H') :
  wpAny (model X.prog X.w) X.A (callWith pos (.ref g1) [] (backTo pos (starEach (e :: es) X.env)) (backToKw pos (keywordEach [] X.env))) (EP X pins σ Q0) X.xe s:=by
 have q':=call_imp q
 refine PySem.W.callWith_K (h₀:=X.base) I.ok.mod.kin hk (thn (ha.pa pos pins s σ H (fun vs H1=>∃ as ρ1 O1,DSt X.K F H1 σ ρ1 O1/\Stp O H O1 H1/\AxAt σ (hide O1 H1) vs as/\callOn f1 E Q as ρ1) I ⟨ρ,O,st,ha.mn _ _ _ (fun as ρ1 q1 vs H1 O1 st1 s1 ax=>⟨as,ρ1,O1,st1,s1,ax,q1⟩) q'⟩) fun us s1 ⟨vs,H1,I1,r,as,ρ1,O1,st1,s01,ax,q1⟩=>⟨I1.kIn,?_⟩) he hpl
 exact call_on hx G hr hb I1 r st1 ax q1 fun c ρ' h v H' O' fp res s2=>hQ c ρ' h v H' O' fp res (s01.trans s2)
theorem fo_call2 {k':Nat} (hx:XOk X F E) (G1:FnOk X.prog X.w X.K X.mg X.base (CXM X.prog X.w) k g1 fd1 ps1 (spF X.K X.mg f1)) (hr1:Room k X.A) (hg1:Gl X x1) (hm1:X.mg x1=some (.ref g1)) (hk1:PySem.W.keepIn X.K (.ref g1)=true) (hb1:Binds X.K fd1 ps1 [])
  (G2:FnOk X.prog X.w X.K X.mg X.base (CXM X.prog X.w) k' g2 fd2 ps2 (spF X.K X.mg f2)) (hr2:Room k' X.A) (hg2:Gl X x2) (hm2:X.mg x2=some (.ref g2)) (hk2:PySem.W.keepIn X.K (.ref g2)=true) (hb2:Binds X.K fd2 ps2 [])
  (hi:FE X F E i mi) (ha:FX X F E (e :: es) mX) (hs:PlainIx i:=by intro _ _; rfl) (hd1:(x1 == ("__debug__":Str))=false:=by decide) (hd2:(x2 == ("__debug__":Str))=false:=by decide)
  (he:starEach (e :: es) X.env=(false,eval e X.env) :: starEach es X.env:=by rfl) (hpl:(backTo pos (starEach es X.env)).any (·.1)=false:=by rfl)
  (hl1:starEach [.Name x1 p1,.Name x2 p2] X.env=(false,eval (.Name x1 p1) X.env) :: starEach [.Name x2 p2] X.env:=by rfl) (hl2:starEach [.Name x2 p2] X.env=(false,eval (.Name x2 p2) X.env) :: starEach [] X.env:=by rfl) :
  FO X F E (.Call (.Subscript (.List [.Name x1 p1,.Name x2 p2] lp) i sp) (e :: es) [] pos) (xCall2 f1 f2 mi mX):=by
 refine ⟨mn_wp,fun pins s σ H Q I ⟨ρ,O,st,q⟩=>?_⟩
 rw [eval_callSub]
 refine wpAny_bind ?_
 have pl:=pe_lst (pos:=lp) (pa_cons (pe_gref (p:=p1) hg1 hm1 hd1) (pa_cons (pe_gref (p:=p2) hg2 hm2 hd2) pa_nil hl2) hl1)
 refine thn ((pe_ix (pos:=sp) ix_list pl hi.pe hs) pins s σ H (fun v H1=>∃ ρ1 O1,DSt X.K F H1 σ ρ1 O1/\Stp O H O1 H1/\((v=.ref g1/\wp E (xCall f1 mX) ρ1 (fun c ρ'=>∀ v H' O' fp,Res X.K F H' σ ρ' O' v c fp->Stp O H O' H'->Q v H'))\/(v=.ref g2/\wp E (xCall f2 mX) ρ1 (fun c ρ'=>∀ v H' O' fp,Res X.K F H' σ ρ' O' v c fp->Stp O H O' H'->Q v H')))) I ?_) fun u s1 ⟨v,H1,I1,r1,ρ1,O1,st1,s01,q1⟩=>?_
 ·refine ⟨show 2<=sizeLine by decide,fun p hp=>⟨ρ,O,st.grow (same_upd hp),mn_wp _ _ _ (fun d ρ1 q1 w H1 O1 st1 s1 d1=>?_) (wp_bind (k:=sel2 f1 f2 mX) q)⟩⟩
  have hp1:H1 p=some (.lst [.ref g1,.ref g2]):=by
   have h0:hide O (upd H p (.lst [.ref g1,.ref g2])) p=some (.lst [.ref g1,.ref g2]):=by
    unfold hide
    rw [if_neg (st.nofree p hp),upd_same]
   exact (of_hide (s1.hid _ _ h0)).1
  have s2:Stp O H O1 H1:=(Stp.same (same_upd hp)).trans s1
  cases d with
  | int j=>
   have:=d1.int_inv; subst this
   by_cases e0:j=0
   ·subst e0
    exact ⟨p,_,0,.ref g1,rfl,rfl,.of hp1,rfl,ρ1,O1,st1,s2,.inl ⟨rfl,q1⟩⟩
   ·by_cases e1:j=1
    ·subst e1
     exact ⟨p,_,1,.ref g2,rfl,rfl,.of hp1,rfl,ρ1,O1,st1,s2,.inr ⟨rfl,q1⟩⟩
    ·have eb:sel2 f1 f2 mX (.int j)=xBad:=by
      unfold sel2
      split
      ·rename_i h; cases h; exact absurd rfl e0
      ·rename_i h; cases h; exact absurd rfl e1
      ·rfl
     rw [eb] at q1
     exact q1.elim
  | _=>exact q1.elim
 ·rcases q1 with ⟨rfl,q1⟩ | ⟨rfl,q1⟩
  ·cases r1
   exact call_ref hx G1 hr1 hk1 hb1 ha he hpl I1 st1 q1 fun c ρ' h v H' O' fp res s2=>h v H' O' fp res (s01.trans s2)
  ·cases r1
   exact call_ref hx G2 hr2 hk2 hb2 ha he hpl I1 st1 q1 fun c ρ' h v H' O' fp res s2=>h v H' O' fp res (s01.trans s2)
end
end L2.L3
namespace L2
open PySem PySem.Spec PyProof.Rows
end L2
namespace L2.L3
open PySem PySem.Spec PyProof.Rows
end L2.L3
namespace L2
open PySem
namespace F3
end F3
end L2
namespace L2
open PySem PySem.Spec PyProof.Rows
end L2
namespace L2.L3
open PySem PySem.Spec PyProof.Rows
end L2.L3
namespace L2.L3
open PySem PySem.Spec PyProof.Rows
end L2.L3
namespace L2.L3
open PySem PySem.Spec PyProof.Rows
end L2.L3
namespace L2.L3
open PySem PySem.Spec PyProof.Rows
end L2.L3
namespace L2.L3
open PySem PySem.Spec PyProof.Rows
end L2.L3
namespace L2.L3
open PySem PySem.Spec PyProof.Rows
end L2.L3
namespace L2
open PySem
end L2
namespace L2.L3
open PySem PySem.Spec PyProof.Rows
end L2.L3
namespace L2
open PySem
end L2
namespace L2
open PySem PySem.Spec PyProof.Rows
end L2
namespace L2.L3
open PySem PySem.Spec PyProof.Rows
section
variable {X:Cx} {F:Fx} {E:Str->DEnv->Prop} {pos:Pos}
theorem DE.imp' {e:Expr} {t t':DT} (h:DE X F e t) (mn:Mn t') (k:∀ ρ Q,t' ρ Q->t ρ Q):DE X F e t':=⟨mn,h.pe.imp fun σ H Q ⟨ρ,O,st,q⟩=>⟨ρ,O,st,k ρ _ q⟩⟩
end
end L2.L3
namespace L2.L3
open PySem PySem.Spec PyProof.Rows
end L2.L3
namespace L2
open PySem PyProof.Rows
end L2
namespace L2.L3
open PySem PySem.Spec PyProof.Rows
end L2.L3
namespace L2.L3
open PySem PySem.Spec PyProof.Rows
theorem scm {N P:List Str} {sc:Scope} (h1:sc.kind=.function:=by rfl) (h2:sc.isCoroutine=false:=by rfl) (h3:sc.isGenerator=false:=by rfl) (h4:N.Nodup:=by decide +kernel) (h5:N.take P.length=P:=by rfl) (h6:∀ x ∈ P,sc.names.lookup x=some .local\/sc.names.lookup x=some .cell:=by decide +kernel) (h7:∀ y ∈ sc.names,y.2 ≠ .free:=by decide +kernel):FnScope N P sc:=⟨h1,h2,h3,h4,h5,h6,h7⟩
section
variable {X:Cx} {F:Fx} {E:Str->DEnv->Prop} {e:Expr} {es:List Expr} {pos p p1 apos:Pos} {x m q:Str} {C:Addr} {i k j:Nat} {g:Addr} {fd:FuncData} {ps:List Str} {f:FM} {st:Stmt} {mX:XM (List AX)}
theorem fv (i:Nat) (hN:X.N[i]? = some x:=by rfl) (hv:Vis X.env.scope x:=by first | exact Or.inl rfl | exact Or.inr (Or.inl rfl) | exact Or.inr (Or.inr rfl)) (hd:(x == ("__debug__":Str))=false:=by decide) (hcd:(x == ("__classdict__":Str))=false:=by decide):FE X F E (.Name x pos) (xV i):=fe_v (de_var i (pv i hN hv hd hcd))
theorem fgn (i:Nat) (hN:X.N.Nodup) (hi:X.N[i]? = some x:=by rfl) (hx:Loc X.env.scope x:=by first | exact Or.inl rfl | exact Or.inr rfl) (hf:X.fn x=true\/X.env.scope.names.lookup x=some .local:=by first | exact .inl rfl | exact .inr rfl | assumption):FG X F (.Name x pos) (gNm i):=fg_name (dg_name (pg_name hN hi hx hf))
theorem fcd (hx:XOk X F E) (G:FnOk X.prog X.w X.K X.mg X.base (CXM X.prog X.w) k g fd ps (spF X.K X.mg f)) (D:FD X.K X.mg x st ps g fd) (hr:Room j X.A) (ha:FX X F E (e :: es) mX) (hk:k<=j:=by decide) (hg:Gl X x:=by rfl) (hdb:(x == ("__debug__":Str))=false:=by decide)
  (he:starEach (e :: es) X.env=(false,eval e X.env) :: starEach es X.env:=by rfl) (hpl:(backTo pos (starEach es X.env)).any (·.1)=false:=by rfl):FO X F E (.Call (.Name x p) (e :: es) [] pos) (xCall f mX):=fo_call (do_call hx G (hr.mono hk) hg D.mgf D.fn.kp D.b ha hdb he hpl)
end
end L2.L3
namespace HT
open PySem PyProof.Rows
end HT
namespace L2
open PySem PySem.Spec PyProof.Rows
end L2
namespace L2.L3
open PySem PySem.Spec PyProof.Rows
noncomputable def rdP (K:PySem.W.Frag) (F:Fx) (t:DEnv->(Option Int->DEnv->Prop)->Prop):TO:=fun σ H Q=>∃ ρ O,DSt K F H σ ρ O/\t ρ fun o ρ'=>∀ H' O',DSt K F H' σ ρ' O'->Stp O H O' H'->Q o H'
section
variable {X:Cx} {F:Fx} {E:Str->DEnv->Prop} {e:Expr} {pos p2:Pos} {lo hi:Option Expr}
noncomputable def FP (X:Cx) (F:Fx) (E:Str->DEnv->Prop) (e:Option Expr) (m:XM (Option Int)):Prop:=PO X e (rdP X.K F (wp E m))
@[simp] noncomputable def pNo:XM (Option Int):=fun ρ=>.ok none ρ
@[simp] noncomputable def pIs (m:XM PyData):XM (Option Int):=fun ρ=>(m ρ).bind fun d=>lift (match d with | .int i=>some (some i) | _=>none)
theorem PO.imp {e:Option Expr} {t t':TO} (h:PO X e t) (k:∀ σ H Q,t' σ H Q->t σ H Q):PO X e t':=fun pins s σ H Q I q=>h pins s σ H Q I (k σ H Q q)
theorem fp_no:FP X F E none pNo:=PO.imp po_none fun σ H Q ⟨ρ,O,st,q⟩=>q H O st .refl
theorem fp_is {m:XM PyData} (h:FE X F E e m):FP X F E (some e) (pIs m):=PO.imp (po_some h.pe) fun σ H Q ⟨ρ,O,st,q⟩=>⟨ρ,O,st,mn_wp _ _ _ (fun d ρ1 q1 v H1 O1 st1 s1 dv=>by
 obtain ⟨y,e1,q2⟩:=wp_lift q1
 cases d with
 | int i=>cases e1; exact ⟨i,dv.int_inv,q2 H1 O1 st1 s1⟩
 | _=>cases e1) (wp_bind q)⟩
end
end L2.L3
namespace L2.L3
open PySem PySem.Spec PyProof.Rows
end L2.L3
namespace L2.L3
open PySem PySem.Spec PyProof.Rows
end L2.L3
namespace L2
open PySem PySem.Spec PyProof.Rows
end L2
namespace L2.L3
open PySem PySem.Spec PyProof.Rows
end L2.L3
namespace L2.TS
open PySem PyProof.Rows
end L2.TS
namespace L2.TS
open PySem PyProof.Rows
end L2.TS
namespace L2.TS
open PySem PyProof.Rows
end L2.TS
namespace L2.TS
open PySem PyProof.Rows
end L2.TS
namespace L2.TS
open PySem PyProof.Rows
end L2.TS
namespace L2.TS
open PySem PyProof.Rows
end L2.TS
namespace L2.TS
open PySem PyProof.Rows
end L2.TS
namespace L2.TS
open PySem PyProof.Rows
end L2.TS
namespace L2.TS
open PySem PyProof.Rows
end L2.TS
namespace L2.L3
open PySem PySem.Spec PyProof.Rows
end L2.L3
namespace L2
open PySem PySem.Spec PyProof.Rows
open AutoSeq1 (wpAny_loadPart')
end L2
namespace L2.L3
open PySem PySem.Spec PyProof.Rows
end L2.L3
namespace L2.L3
open PySem PySem.Spec PyProof.Rows
section
variable {X:Cx} {F:Fx} {E:Str->DEnv->Prop} {e a b c:Expr} {pos:Pos} {x:Str}
theorem db_chain {op op':CmpOp} {p p':Int->Int->Bool} {ta tb tc:DT} (ho:OpR X (compareOp op) (rI0 fun i j=>.bl (p i j))) (ho':OpR X (compareOp op') (rI0 fun i j=>.bl (p' i j))) (ha:DE X F a ta) (hb:DE X F b tb) (hc:DE X F c tc)
  (hm:lastMarks [op,op'] [b,c]=false:=by with_unfolding_all rfl):DB X F (.Compare a [op,op'] [b,c] pos) (dTst (dChain p p' ta tb tc)):=by
 have he:=de_chain (pos:=pos) ho ho' ha hb hc hm
 refine ⟨mn_tst he.mn,(pt_chain ho ho' ha.pe hb.pe hc.pe hm).imp fun σ H Q ⟨ρ,O,st,q⟩=>?_⟩
 refine ⟨ρ,O,st,ha.mn _ _ _ (fun x ρ1 q1 v H1 O1 st1 s1 d1=>⟨ρ1,O1,st1,hb.mn _ _ _ (fun y ρ2 ⟨i,j,e1,e2,q2⟩ w H2 O2 st2 s2 d2=>?_) q1⟩) q⟩
 subst e1 e2
 refine ⟨i,j,(DV.mono s2.hid d1).int_inv,d2.int_inv,p i j,rfl,?_⟩
 by_cases h:p i j=true
 ·rw [if_pos h] at q2 ⊢
  exact ⟨ρ2,O2,st2,hc.mn _ _ _ (fun z ρ3 ⟨l,e,b',eb,q3⟩ u H3 O3 st3 s3 d3=>by subst e; exact ⟨j,l,(DV.mono s3.hid d2).int_inv,d3.int_inv,p' j l,rfl,by cases eb; exact q3 H3 O3 st3 (s1.trans (s2.trans s3))⟩) q2⟩
 ·rw [if_neg h] at q2 ⊢
  obtain ⟨b',eb,q3⟩:=q2
  cases eb
  exact ⟨false,rfl,q3 H2 O2 st2 (s1.trans s2)⟩
end
end L2.L3
namespace L2.L3
open PySem PySem.Spec PyProof.Rows
section
variable {X:Cx} {F:Fx} {E:Str->DEnv->Prop} {e a b c:Expr} {pos:Pos} {x:Str} {ma mb mc:XM PyData}
theorem chain_of {p p':Int->Int->Bool} {ρ:DEnv} {Q:PyData->DEnv->Prop} (q:wp E (xChain p p' ma mb mc) ρ Q):dChain p p' (wp E ma) (wp E mb) (wp E mc) ρ Q:=by
 refine mn_wp _ _ _ (fun x ρ1 q1=>?_) (wp_bind q)
 refine mn_wp _ _ _ (fun y ρ2 q2=>?_) (wp_bind q1)
 unfold wp at q2
 cases x with
 | int i=>cases y with
  | int j=>
   refine ⟨i,j,rfl,rfl,?_⟩
   by_cases hp:p i j=true
   ·simp only [if_pos hp] at q2
    rw [if_pos hp]
    refine mn_wp _ _ _ (fun z ρ3 q3=>?_) (wp_bind (m:=mc) (k:=fun z=>lift (match z with | .int k=>some (PyData.bool (p' j k)) | _=>none)) q2)
    obtain ⟨d,e1,q4⟩:=wp_lift q3
    cases z with
    | int k=>cases e1; exact ⟨k,rfl,q4⟩
    | _=>cases e1
   ·simp only [if_neg hp] at q2
    rw [if_neg hp]
    exact q2
  | _=>exact q2.elim
 | _=>exact q2.elim
theorem fb_lele (ha:FE X F E a ma) (hb:FE X F E b mb) (hc:FE X F E c mc) (hm:lastMarks [.LtE,.LtE] [b,c]=false:=by with_unfolding_all rfl):FB X F E (.Compare a [.LtE,.LtE] [b,c] pos) (xTst (xChain (fun i j=>decide (i<=j)) (fun i j=>decide (i<=j)) ma mb mc)):=
 (db_chain op_le op_le ha hb hc hm).imp mn_wp fun ρ Q q=>chain_of (tst_of q)
end
end L2.L3
namespace L2.TS
open PySem PyProof.Rows PySem.W
end L2.TS
namespace L2.L3
open PySem PySem.Spec PyProof.Rows PySem.W
end L2.L3
namespace L2
open PySem PySem.Spec PyProof.Rows
end L2
namespace L2.L3
open PySem PySem.Spec PyProof.Rows
end L2.L3
namespace L2.L3
open PySem PySem.Spec PyProof.Rows
end L2.L3
namespace L2.L3
open PySem PySem.Spec PyProof.Rows
end L2.L3
namespace L2.L3
open PySem PySem.Spec PyProof.Rows
end L2.L3
namespace L2.L3
open PySem
end L2.L3
namespace L2.L3
open PySem
theorem gh_none {mg:Str->Option Value} (h1:mg "ANY_ZONE" = none) (h2:mg "NO_DEEDS" = none) (H:Hp):GH mg H:=fun x d u e1 e2=>by
 unfold glob at e1
 split at e1
 ·rename_i h; subst h; rw [h1] at e2; cases e2
 ·split at e1
  ·rename_i h; subst h; rw [h2] at e2; cases e2
  ·cases e1
end L2.L3
namespace L2.L3
open PySem PySem.Spec PyProof.Rows
end L2.L3
namespace L2.L3
open PySem PySem.Spec PyProof.Rows
end L2.L3
namespace L2.L3
open PySem PySem.Spec PyProof.Rows
end L2.L3
namespace L2
open PySem PySem.Spec PyProof.Rows
end L2
namespace L2.L3
open PySem PySem.Spec PyProof.Rows
end L2.L3
namespace L2.TS
open PySem PyProof.Rows PySem.W
end L2.TS
namespace L2
open PySem PySem.Spec PyProof.Rows
end L2
namespace L2
open PySem PySem.Spec PyProof.Rows
end L2
namespace L2.L3
open PySem PySem.Spec PyProof.Rows
end L2.L3
namespace L2.L3
open PySem PySem.Spec PyProof.Rows
end L2.L3
namespace L2.L3
open PySem PySem.Spec PyProof.Rows
end L2.L3
namespace L2.L3
open PySem PySem.Spec PyProof.Rows
end L2.L3
namespace L2.L3
open PySem PySem.Spec PyProof.Rows
end L2.L3
namespace L2.L3
open PySem PySem.Spec PyProof.Rows
end L2.L3
namespace L2.L3
open PySem PySem.Spec PyProof.Rows
end L2.L3
namespace L2.L3
open PySem PySem.Spec PyProof.Rows
end L2.L3
namespace L2.L3
open PySem PySem.Spec PyProof.Rows
end L2.L3
namespace L2.TS
open PySem PyProof.Rows
end L2.TS
namespace L2.TS
open PySem PyProof.Rows PySem.W
end L2.TS
namespace L2.L3
open PySem PySem.Spec PyProof.Rows PySem.W
end L2.L3
namespace L2.TS
open PySem PyProof.Rows
end L2.TS
namespace L2.TS
open PySem PyProof.Rows
end L2.TS
namespace L2.TS
open PySem PyProof.Rows
end L2.TS
namespace L2.TS
open PySem PyProof.Rows
end L2.TS
namespace L2.TS
open PySem PyProof.Rows
end L2.TS
namespace L2.TS
open PySem PyProof.Rows
end L2.TS
namespace L2
open PySem PySem.Spec PyProof.Rows
end L2
namespace L2.L3
open PySem PySem.Spec PyProof.Rows PySem.W
end L2.L3
namespace L2.L3
open PySem PySem.Spec PyProof.Rows
end L2.L3
namespace L2.L3
open PySem PySem.Spec PyProof.Rows
noncomputable def gS2 (g:Str->Str->Option PyData):PyData->PyData->Option PyData:=fun x y=>match x,y with
 | .str a,.str b=>g a b
 | _,_=>none
noncomputable def fS2 (g:Str->Str->Option PyData):D2:=fun x y Q=>∃ a b d,x=.str a/\y=.str b/\g a b=some d/\Q d
theorem f2_S2 {g:Str->Str->Option PyData}:F2 (fS2 g) (gS2 g):=fun x y d Q e q=>by
 unfold gS2 at e
 split at e
 ·exact ⟨_,_,d,rfl,rfl,e,q⟩
 ·cases e
theorem o_S2 {r:R2} {g:Str->Str->Option PyData} (ok:∀ (a b:Str) (d:PyData) (H:Hp) (Q:VK),g a b=some d->(∀ w,(∀ G,DV G w d)->Q w H)->r (.str a) (.str b) H Q):Op2 r (fS2 g) where
 mn:=fun _ _ _ _ k ⟨a,b,d,h1,h2,h3,q⟩=>⟨a,b,d,h1,h2,h3,k _ q⟩
 ok:=fun O H u v x y Q hO h1 h2 ⟨a,b,d,e1,e2,e3,q⟩=>by
  subst e1 e2
  rw [h1.str_inv,h2.str_inv]
  exact ok a b d H Q e3 fun w hw=>q w H (Same.refl H) (hw _)
noncomputable def catS:Str->Str->Option PyData:=fun a b=>if a.length + b.length<=sizeLine then some (.str (a ++ b)) else none
noncomputable def inS:Str->Str->Option PyData:=fun a b=>some (.bool (!(Builtin.Str.occurrences b a 0 b.length 1).isEmpty))
section
variable {X:Cx} {F:Fx} {E:Str->DEnv->Prop} {a b e o:Expr} {es:List Expr} {ma mb mo:XM PyData} {mA:XM (List PyData)} {pos:Pos}
theorem fe_addS (ha:FE X F E a ma) (hb:FE X F E b mb):FE X F E (.BinOp a .Add b pos) (xOp (gS2 catS) ma mb):=fe_op f2_S2 (de_op op_add_str (o_S2 fun a b d H Q e q=>by
 unfold catS at e
 split at e
 ·rename_i h
  cases e
  exact ⟨a,b,rfl,rfl,h,q _ fun _=>.str _⟩
 ·cases e) ha hb)
theorem fe_inS (ha:FE X F E a ma) (hb:FE X F E b mb) (hm:lastMarks [.In] [b]=false:=by with_unfolding_all rfl):FE X F E (.Compare a [.In] [b] pos) (xOp (gS2 inS) ma mb):=fe_op f2_S2 (de_cmp op_in_str (o_S2 fun a b d H Q e q=>by
 cases e
 exact ⟨a,b,rfl,rfl,q _ fun _=>.bl _⟩) ha hb hm)
noncomputable def nStr:List PyData->Option PyData:=fun xs=>match xs with
 | [.int i]=>if i.natAbs < 1000000 then some (.str (toString i)) else none
 | _=>none
noncomputable def fStr:DN:=fun xs Q=>∃ d,nStr xs=some d/\Q d
theorem fn_str:FN fStr nStr:=fun xs d Q e q=>⟨d,e,q⟩
theorem n_str:OpN (fun xs H Q=>∃ i:Int,xs=[.int i]/\i.natAbs.log2 < 1920/\Q (.str (toString i)) H) fStr where
 mn:=fun _ _ _ k ⟨d,e,q⟩=>⟨d,e,k _ q⟩
 ok:=fun O H vs xs Q hO hd q=>by
  obtain ⟨d,e,q⟩:=q
  unfold nStr at e
  split at e
  ·rename_i i
   split at e
   ·rename_i h
    cases e
    obtain ⟨x,rfl,h1⟩:=dvs1 hd
    refine ⟨i,by rw [h1.int_inv],?_,q _ _ (Same.refl H) (.str _)⟩
    rcases Nat.eq_zero_or_pos i.natAbs with z | z
    ·rw [z]; decide
    ·exact (Nat.log2_lt (by omega)).mpr (Nat.lt_trans h (by decide))
   ·cases e
  ·cases e
noncomputable def nLenT:List PyData->Option PyData:=fun xs=>match xs with
 | [.str z]=>if z.length<=sizeLine then some (.int z.length) else none
 | _=>none
noncomputable def fLenT:DN:=fun xs Q=>∃ d,nLenT xs=some d/\Q d
theorem fn_lenT:FN fLenT nLenT:=fun xs d Q e q=>⟨d,e,q⟩
theorem n_lenT:OpN (fun xs H Q=>∃ z:Str,xs=[.str z]/\z.length<=sizeLine/\Q (.int z.length) H) fLenT where
 mn:=fun _ _ _ k ⟨d,e,q⟩=>⟨d,e,k _ q⟩
 ok:=fun O H vs xs Q hO hd q=>by
  obtain ⟨d,e,q⟩:=q
  unfold nLenT at e
  split at e
  ·rename_i z
   split at e
   ·rename_i h
    cases e
    obtain ⟨x,rfl,h1⟩:=dvs1 hd
    exact ⟨z,by rw [h1.str_inv],h,q _ _ (Same.refl H) (.int _)⟩
   ·cases e
  ·cases e
theorem call_int_text:CallR X (.type "int") (fun xs H Q=>∃ (z:Str) (n:Int),xs=[.str z]/\PySem.intText? z=some n/\z.length<=640/\Q (.int n) H):=by
 intro pins s σ H xs us Q I r h
 obtain ⟨z,n,rfl,h1,h2,q⟩:=h
 obtain ⟨u,rfl,rx⟩:=vals1 r
 obtain ⟨t,rfl⟩:=rx
 exact PySem.W.KIN.call_text h1 h2 ⟨.int n,H,I.tok _,⟨_,rfl⟩,q⟩
noncomputable def nIntT:List PyData->Option PyData:=fun xs=>match xs with
 | [.str z]=>if z.length<=640 then (PySem.intText? z).map PyData.int else none
 | _=>none
noncomputable def fIntT:DN:=fun xs Q=>∃ d,nIntT xs=some d/\Q d
theorem fn_intT:FN fIntT nIntT:=fun xs d Q e q=>⟨d,e,q⟩
theorem n_intT:OpN (fun xs H Q=>∃ (z:Str) (n:Int),xs=[.str z]/\PySem.intText? z=some n/\z.length<=640/\Q (.int n) H) fIntT where
 mn:=fun _ _ _ k ⟨d,e,q⟩=>⟨d,e,k _ q⟩
 ok:=fun O H vs xs Q hO hd q=>by
  obtain ⟨d,e,q⟩:=q
  unfold nIntT at e
  split at e
  ·rename_i z
   split at e
   ·rename_i h
    obtain ⟨n,e1,rfl⟩:=Option.map_eq_some_iff.mp e
    obtain ⟨x,rfl,h1⟩:=dvs1 hd
    exact ⟨z,n,by rw [h1.str_inv],e1,h,q _ _ (Same.refl H) (.int _)⟩
   ·cases e
  ·cases e
structure OpS (r:V->List V->Hp->VK->Prop) (g:Str->List PyData->Option PyData):Prop where
 ok:∀ (O:List Addr) (H:Hp) (x:Str) (vs:List V) (ds:List PyData) (z:PyData) (Q:VK),(∀ p,H p=none->p ∉ O)->DVs (hide O H) vs ds->g x ds=some z->(∀ u H',Same H H'->DV (hide O H') u z->Q u H')->r (.str x) vs H Q
noncomputable def smK (g:Str->List PyData->Option PyData) (x:Str) (ds:List PyData):XM PyData:=lift (g x ds)
noncomputable def xSM (g:Str->List PyData->Option PyData) (mo:XM PyData) (mA:XM (List PyData)):XM PyData:=fun ρ=>(mo ρ).bind fun d ρ1=>match d with
 | .str x=>(mA ρ1).bind (smK g x)
 | _=>.bad
theorem fe_sm {nm:Str} {id:String} {r:V->List V->Hp->VK->Prop} {g:Str->List PyData->Option PyData} {apos cpos:Pos} (os:OpS r g) (slot:Slot "str" nm id) (hty:typeOf (.builtin id)=pure (.type "method_descriptor")) (hm:MtR X id r) (ho:FE X F E o mo) (ha:FA X F E (e :: es) mA)
  (hbase:attributeBase o nm X.env (eval o X.env)=eval o X.env:=by rfl)
  (hfew:((backTo cpos (starEach (e :: es) X.env)).all (fun x=>!x.1) && (backToKw cpos (keywordEach [] X.env)).all (fun x=>x.1.isSome) && decide ((e :: es).length + ([]:List Keyword).length + (if ([]:List Keyword).isEmpty then 0 else 1) < 30))=true:=by rfl)
  (hline:(apos.endLine == cpos.line)=true:=by rfl) (hs:starEach (e :: es) X.env=(false,eval e X.env) :: starEach es X.env:=by rfl) (hplain:(backTo cpos (starEach es X.env)).any (·.1)=false:=by rfl) :
  FE X F E (.Call (.Attribute o nm apos) (e :: es) [] cpos) (xSM g mo mA):=
 ⟨mn_wp,(pe_bm PySem.F.plainAttrs_str slot hty hm ho.pe ha.pa hbase hfew hline hs hplain).imp fun σ H Q ⟨ρ,O,st,q⟩=>by
  refine ⟨ρ,O,st,mn_wp _ _ _ (fun d ρ1 q1 v H1 O1 st1 s1 d1=>?_) (wp_bind q)⟩
  unfold wp at q1
  cases d with
  | str x=>
   rw [d1.str_inv]
   refine ⟨rfl,ρ1,O1,st1,mn_wp _ _ _ (fun ds ρ2 q2 vs H2 O2 st2 s2 d2=>?_) (wp_bind (m:=mA) (k:=smK g x) q1)⟩
   obtain ⟨z,e1,q3⟩:=wp_lift q2
   exact os.ok O2 H2 x vs ds z Q st2.nofree d2 e1 fun u H' sm du=>q3 u H' O2 (st2.grow sm) (s1.trans (s2.trans (.same sm))) du
  | _=>exact q1.elim⟩
noncomputable def rSw:V->List V->Hp->VK->Prop:=fun x xs H Q=>∃ a b,x=.str a/\xs=[.str b]/\Q (.bl (Txt.startswith a b)) H
noncomputable def rFind:V->List V->Hp->VK->Prop:=fun x xs H Q=>∃ a b,x=.str a/\xs=[.str b]/\Q (.int (Txt.find a b)) H
theorem mt_sw:MtR X "str.startswith" rSw:=by
 intro pins s σ H x xs v us Q I rx rs h
 obtain ⟨a,b,rfl,rfl,q⟩:=h
 obtain ⟨t,rfl⟩:=rx
 obtain ⟨u,rfl,ru⟩:=vals1 rs
 obtain ⟨t',rfl⟩:=ru
 exact SC.startswith ⟨.bl _,H,I,rfl,q⟩
theorem mt_find:MtR X "str.find" rFind:=by
 intro pins s σ H x xs v us Q I rx rs h
 obtain ⟨a,b,rfl,rfl,q⟩:=h
 obtain ⟨t,rfl⟩:=rx
 obtain ⟨u,rfl,ru⟩:=vals1 rs
 obtain ⟨t',rfl⟩:=ru
 exact SC.find ⟨.int _,H,I.tok _,⟨_,rfl⟩,q⟩
noncomputable def s1G (g:Str->Str->PyData):Str->List PyData->Option PyData:=fun x ds=>match ds with
 | [.str y]=>some (g x y)
 | _=>none
theorem os_1 {r:V->List V->Hp->VK->Prop} {g:Str->Str->PyData} {f:Str->Str->V} (hg:∀ G a b,DV G (f a b) (g a b)) (hr:∀ a b H Q,Q (f a b) H->r (.str a) [.str b] H Q):OpS r (s1G g):=
 ⟨fun O H x vs ds z Q hO hd e q=>by
  unfold s1G at e
  split at e
  ·rename_i y
   cases e
   obtain ⟨u,rfl,h1⟩:=dvs1 hd
   rw [h1.str_inv]
   exact hr x y H Q (q _ H (Same.refl H) (hg _ _ _))
  ·cases e⟩
noncomputable abbrev gSw:=s1G fun a b=>.bool (Txt.startswith a b)
noncomputable abbrev gFind:=s1G fun a b=>.int (Txt.find a b)
theorem os_sw:OpS rSw gSw:=os_1 (f:=fun a b=>.bl (Txt.startswith a b)) (fun _ _ _=>.bl _) fun a b H Q q=>⟨a,b,rfl,rfl,q⟩
theorem os_find:OpS rFind gFind:=os_1 (f:=fun a b=>.int (Txt.find a b)) (fun _ _ _=>.int _) fun a b H Q q=>⟨a,b,rfl,rfl,q⟩
end
end L2.L3
namespace L2
open PySem PySem.Spec PyProof.Rows
section
variable {prog:Program} {w:World} {A:Around} {R:Result->Shared->Prop} {s:Shared}
theorem compLoop_x {elt target iter:Expr} {scope:Scope} {pos:Pos} {it acc:Value} {env:Env} (I:Nat->Shared->Prop)
  (turn:∀ n s,I n s->wpAny (model prog w) A (pyNext it) (fun r s₁=>match r with
   | none=>R (.ok .next) s₁
   | some v=>wpAny (model prog w) A (letOwnedTupleGo target it v) (fun _ s₁'=>wpAny (model prog w) A (assign target env v) (fun _ s₂=>
     wpAny (model prog w) A (eval elt env) (fun x s₄=>
       wpAny (model prog w) A (call (.builtin "list.append") [acc,x]) (fun _ s₅=>∃ m,m < n/\I m s₅) (notedBy (model prog w) A env fun e s'=>R (.error e) s') s₄) (notedBy (model prog w) A env fun e s'=>R (.error e) s') s₂)
      (notedBy (model prog w) A env fun e s'=>R (.error e) s') s₁') (notedBy (model prog w) A env fun e s'=>R (.error e) s') s₁) (notedBy (model prog w) A env fun e s'=>R (.error e) s') s)
  (n:Nat) (h:I n s) :
  codeAny (model prog w) A (.compLoop (.ListComp elt [⟨target,iter,[],0⟩] scope pos) 0 it acc env) R s:=by
 refine codeAny_loop rfl I (fun n s hI=>?_) n h
 show wpAny _ A ((compTurn (.ListComp elt [⟨target,iter,[],0⟩] scope pos) 0 it acc env).onRaise (fun x=>do noteFrame x env; theTreesLotGoes x)) _ _ s
 refine wpAny_noted ?_
 rw [compTurn_list1]
 refine wpAny_bind (wpAny_standAt (wpAny_bind (thn (turn n s hI) (fun r s₁ h₁=>?_))))
 cases r with
 | none=>exact wpAny_pure h₁
 | some v=>
  exact wpAny_bind (thn h₁ fun _ s₁' h₁'=>wpAny_bind (thn h₁' fun _ s₂ h₂=>wpAny_bind (wpAny_bind (thn h₂ fun x s₄ h₄=>wpAny_bind (thn h₄ fun _ s₅ h₅=>wpAny_pure (wpAny_pure ⟨rfl,h₅⟩))))))
end
theorem note_env {e:Value} {env env':Env} (h:env.frame=env'.frame):noteFrame e env=noteFrame e env':=by
 unfold noteFrame PySem.frameOf
 rw [h]
noncomputable abbrev compCxX (X:Cx) (scope:Scope) (N':List Str) (C:Addr) (fp:List Addr) (s₂:Shared) (H₂:Hp) (pl:List (Addr × Obj)) (xe:Value->Shared->Prop):Cx:=(compCx X scope N' C fp s₂ H₂ pl).wish xe
noncomputable def tCompX (own:List Str) (caps:List Nat) (wi:TI) (g:TG) (te:(Str->St->Hp->Prop)->TE) (Z:Str->St->Hp->Prop):TE:=fun σ H Q=>wi σ H fun J H1=>∃ W:Nat->Nat->List V->St->Hp->Prop,(∃ m,W 0 m [] (liftC own caps σ) H1)/\∀ i m ys σ' H,W i m ys σ' H->
 (J.stop i H/\ys.length<=sizeLine/\∀ p,H p=none->Q (.ref p) (upd H p (.lst ys)))\/
 (J.go i H/\∀ x H',J.yld i H x H'->g x σ' H' fun σ2 H2=>te (fun c _ H'=>Z c σ H') σ2 H2 fun y H4=>ys.length < sizeLine/\∃ m',m' < m/\W (i + 1) m' (ys ++ [y]) σ2 H4)
section
variable {X:Cx} {scope:Scope} {own capN:List Str} {caps:List Nat} {tg iter elt:Expr} {wi:TI} {g:TG} {te:(Str->St->Hp->Prop)->TE} {Z:Str->St->Hp->Prop} {pos:Pos}
theorem comp_coreX {pins:List (Addr × Obj)} {σ:St} {H:Hp} {s:Shared} {Q:VK} {RR:Value->Addr->Result->Shared->Prop} (S:CompScope X scope own capN caps) (hc:X.calm=true) (hst:X.stack=X.env :: X.outer) (hfr:X.env.frame=some X.env.locals) (hi:PI X tg iter wi)
  (hin:∀ C fp s₂ H₂ pl xe Z,(∀ pins σ H s e c,L3.Fly (compCxX X scope (own ++ capN) C fp s₂ H₂ pl xe) pins σ H s e c->Z c σ H->xe e s)->PG (compCxX X scope (own ++ capN) C fp s₂ H₂ pl xe) tg g/\PE (compCxX X scope (own ++ capN) C fp s₂ H₂ pl xe) elt (te Z))
  (I:Inv X pins σ H s) (h:tCompX own caps wi g te Z σ H Q)
  (hRR:∀ (D C:Addr) (s':Shared) (H':Hp) (m:Str->Option Value),Inv X pins σ H' s'->FpOk X pins H' C->s'.heap.Ns C m->Q (.ref D) H'->RR (.ref D) C (.ok .next) s')
  (hRX:∀ (D C:Addr) (s':Shared) (H':Hp) (m:Str->Option Value) (a:Addr) (Cv f:Value) (gg:Heap) (c:Str),Inv X pins σ H' s'->FpOk X pins H' C->s'.heap.Ns C m->L3.Cov X pins gg->gg.get? C=none->L3.ExS gg H' s'.heap a Cv (some f)->X.mg c=some Cv->Z c σ H'->RR (.ref D) C (.error (.ref a)) s') :
  wpAny (model X.prog X.w) X.A (eval iter X.env) (fun x s₁=>wpAny (model X.prog X.w) X.A (pyIter x) (fun it s₂=>wpAny (model X.prog X.w) X.A (newList []) (fun acc s₃=>
   wpAny (model X.prog X.w) X.A (newFunctionEnv scope X.env.globals (closL X.env scope.names []) [] X.env.qual none .none (some X.env)) (fun cenv s₄=>
    codeAny (model X.prog X.w) X.A (.compStart (.ListComp elt [⟨tg,iter,[],0⟩] scope pos) 0 it acc { cenv with scope:=relabel scope X.env }) (RR acc cenv.locals) s₄) X.xe s₃) X.xe s₂) X.xe s₁) X.xe s:=by
 refine thn (hi pins s σ H _ I h) fun v s1 h1=>thn h1 fun itv s2 h2=>?_
 obtain ⟨it,fp,tn,J,H2,e,I2,T,st2,f2,W,⟨m0,w0⟩,turn⟩:=h2
 subst e
 have hfo:∀ b ∈ fp,b < s2.heap.objs.size:=fun b hb=>by obtain ⟨o,e,_⟩:=T.obj _ _ st2 b hb; exact Heap.lt_size e
 refine wpAny_newObj_type (wpAny_newCompEnv ?_)
 dsimp only
 generalize hH2:s2.heap.push { cls:=.type "list",dict:=none,data:=.seq ([]:List Value).toArray } = HH
 have hC:HH.objs.size=s2.heap.objs.size + 1:=by rw [<-hH2,Heap.size_push]
 have hCle:s2.heap.objs.size<=HH.objs.size:=by rw [hC]; exact Nat.le_succ _
 have hDC:s2.heap.objs.size ≠ HH.objs.size:=by rw [hC]; exact Nat.ne_of_lt (Nat.lt_succ_self _)
 have szp:(HH.push { cls:=.type "dict",data:=.dict #[] }).objs.size=HH.objs.size + 1:=Heap.size_push ..
 have hnew:∀ x c,(cellsFrom (HH.objs.size + 1) scope.names (closL X.env scope.names [])).lookup x=some c->(closL X.env scope.names []).lookup x=some c\/(HH.objs.size + 1<=c/\(pushCells (HH.push { cls:=.type "dict",data:=.dict #[] }) scope.names).IsCell c none):=fun x c e=>by
  rw [<-szp] at e ⊢
  exact (cf_new scope.names _ _ e).imp (fun z=>z) fun ⟨z1,_,z2⟩=>⟨z1,z2⟩
 have hns₁:(pushCells (HH.push { cls:=.type "dict",data:=.dict #[] }) scope.names).Ns HH.objs.size (fun _=>none):=(Heap.Ns.new HH (.type "dict")).keeps (pushCells_keeps _ _)
 have old:∀ b o,s2.heap.get? b=some o->(pushCells (HH.push { cls:=.type "dict",data:=.dict #[] }) scope.names).get? b=some o:=fun b o e=>pushCells_keeps _ _ b o (Heap.get?_push_of_some _ (hH2 ▸ Heap.get?_push_of_some _ e))
 have hacc:(pushCells (HH.push { cls:=.type "dict",data:=.dict #[] }) scope.names).get? s2.heap.objs.size=some { cls:=.type "list",dict:=none,data:=.seq ([]:List Value).toArray }:=pushCells_keeps _ _ _ _ (Heap.get?_push_of_some _ (hH2 ▸ Heap.get?_push_size _ rfl))
 generalize pushCells (HH.push { cls:=.type "dict",data:=.dict #[] }) scope.names=h₁ at hnew hns₁ old hacc ⊢
 generalize hCe:HH.objs.size=C at hns₁ hDC hCle hnew ⊢
 generalize hDe:s2.heap.objs.size=D at hacc hDC ⊢
 clear hH2 hC hCe szp HH
 have sC:s2.heap.objs.size<=C:=by rw [hDe]; rw [hDe] at hCle; exact hCle
 let xe:Value->Shared->Prop:=notedBy (model X.prog X.w) X.A (compEnvC scope (cellsFrom (C + 1) scope.names (closL X.env scope.names [])) C X.env) fun e s'=>RR (.ref D) C (.error e) s'
 have cov:L3.Cov X pins (PySem.W.hideAll s2.heap fp):=by
  have cv:=I2.cov
  refine ⟨fun b o e n=>?_,?_,fun x c e=>?_,fun p hp=>?_⟩
  ·obtain ⟨o',e'⟩:=cv.s0 b o e n
   refine ⟨o',PySem.W.hideAll_get _ e' fun z=>?_⟩
   rcases (f2 b z).2.2.2.1 with q | q
   ·exact n q
   ·exact absurd (Heap.lt_size e) (Nat.not_lt.mpr q)
  ·obtain ⟨o',e'⟩:=cv.loc
   exact ⟨o',PySem.W.hideAll_get _ e' fun z=>(f2 _ z).2.1 rfl⟩
  ·obtain ⟨o',e'⟩:=cv.cell x c e
   exact ⟨o',PySem.W.hideAll_get _ e' fun z=>(f2 _ z).2.2.2.2.1 x c e rfl⟩
  ·obtain ⟨o',e'⟩:=cv.pin p hp
   exact ⟨o',PySem.W.hideAll_get _ e' fun z=>(f2 _ z).2.2.2.2.2 p hp rfl⟩
 have gC:(PySem.W.hideAll s2.heap fp).get? C=none:=by
  cases q:(PySem.W.hideAll s2.heap fp).get? C with
  | none=>rfl
  | some o=>exact absurd (Heap.lt_size (PySem.W.of_hideAll _ q)) (Nat.not_lt.mpr sC)
 have hxe:∀ pins' σ' H' s' e c,L3.Fly (compCxX X scope (own ++ capN) C fp s2 H2 pins xe) pins' σ' H' s' e c->Z c σ H'->xe e s':=by
  rintro pins' σ' H' s' e c ⟨I',a,Cv,g',fl,rfl,cv,ex,hm⟩ z
  show wpAny _ X.A (noteFrame (.ref a) (compEnvC scope _ C X.env)) _ _ s'
  rw [note_env (env:=compEnvC scope _ C X.env) (env':=X.env) rfl]
  have fr:X.A.frames=some (X.env :: X.outer):=by rw [I2.ok.frames,hst]
  have I3:=I2.call' (ch:=fp) I'.os I'.base I'.hok I'.bare fun b hb=>⟨(f2 b hb).2.2.2.1,(f2 b hb).2.1,(f2 b hb).2.2.2.2.1,(f2 b hb).2.2.2.2.2⟩
  have stk:s'.heap.FunFrames X.base (X.env :: X.outer):=by have:=I3.stack; rw [hst] at this; exact this
  refine L3.note_any (base:=X.base) fr stk hfr (fun b z=>L3.HOk.some_of I'.hok z) ex fun h1 c1 x1=>?_
  have I1:=I'.ch cv (h':=h1) (by show L3.Ch g' H' (frs X.stack) _ _; rw [hst]; exact c1)
  obtain ⟨m,hm',_⟩:=I1.loc
  refine hRX D C _ H' m a Cv _ _ c (I2.call' (ch:=fp) I1.os I1.base I1.hok I1.bare fun b hb=>⟨(f2 b hb).2.2.2.1,(f2 b hb).2.1,(f2 b hb).2.2.2.2.1,(f2 b hb).2.2.2.2.2⟩) (I2.fpOk sC I1.free) hm' cov gC (x1.weak fun b o e=>cv.s0 b o (PySem.W.of_hideAll _ e) fun z=>?_) hm z
  rw [PySem.W.hideAll_none _ z] at e; cases e
 obtain ⟨hg,he⟩:=hin C fp s2 H2 pins xe (fun c _ H'=>Z c σ H') hxe
 have Ic:Inv (compCxX X scope (own ++ capN) C fp s2 H2 pins xe) [] (liftC own caps σ) H2 { s2 with heap:=h₁,toks:=s2.toks }:=(inv_comp S I2 f2 hfo sC old hns₁ hnew).wish xe
 have cellsD:∀ x c,(cellsFrom (C + 1) scope.names (closL X.env scope.names [])).lookup x=some c->c ≠ D:=fun x c e z=>by
  rcases hnew x c e with e | ⟨e,_⟩
  ·obtain ⟨v,q⟩:=I2.cell x c (S.cl I2.ok e)
   exact absurd q.lt (by rw [z,hDe]; exact Nat.lt_irrefl _)
  ·rw [hDe] at hCle; exact absurd (Nat.lt_of_le_of_lt hCle (Nat.lt_of_lt_of_le (Nat.lt_succ_self C) e)) (by rw [z]; exact Nat.lt_irrefl _)
 have DnotFs:D ∉ frs X.stack:=fun z=>by
  rcases List.mem_cons.mp (I2.stkSub D z) with q | q
  ·exact absurd I2.lt (by rw [<-q,hDe]; exact Nat.lt_irrefl _)
  ·exact I2.nofs (by rw [hDe]; exact Nat.le_refl _) q
 have DnotPin:∀ p ∈ X.pn ++ pins,p.1 ≠ D:=fun p hp z=>absurd (Heap.lt_size (I2.pin p hp).1) (by rw [z,hDe]; exact Nat.lt_irrefl _)
 have pinD:∀ {σ':St} {H':Hp} {s':Shared} {us:List Value} {k:Nat},Inv (compCxX X scope (own ++ capN) C fp s2 H2 pins xe) [] σ' H' s'->s'.heap.get? D=some { cls:=.type "list",data:=.seq us.toArray k }->H' D=none->
   Inv (compCxX X scope (own ++ capN) C fp s2 H2 pins xe) [(D,{ cls:=.type "list",data:=.seq us.toArray k })] σ' H' s':=fun J e n=>J.pins_of fun p hp=>by
  obtain rfl:=List.mem_singleton.mp hp
  exact ⟨e,n,hDC,DnotFs,fun v z=>by cases z⟩
 have fpc:∀ {H':Hp} {o:Obj},(∀ b ∈ fp,H' b=none)->∀ b ∈ fp,FpOk (compCxX X scope (own ++ capN) C fp s2 H2 pins xe) [(D,o)] H' b:=fun hn b hb=>by
  obtain ⟨f0,f1,f2',f3,f4,f5⟩:=f2 b hb
  refine ⟨hn b hb,Nat.ne_of_lt (Nat.lt_of_lt_of_le (hfo b hb) sC),fun z=>(List.mem_cons.mp (I2.stkSub b z)).elim f1 f2',.inl hb,fun x c e=>?cl,fun p hp=>?_⟩
  case cl=>
   rcases hnew x c e with e | ⟨e,_⟩
   ·exact f4 x c (S.cl I2.ok e)
   ·exact Ne.symm (Nat.ne_of_lt (Nat.lt_of_lt_of_le (hfo b hb) (Nat.le_trans sC (Nat.le_of_succ_le e))))
  rcases List.mem_append.mp hp with hp | hp
  ·exact f5 p hp
  ·obtain rfl:=List.mem_singleton.mp hp
   intro z
   have z':D=b:=z
   exact absurd (hfo b hb) (by rw [<-z',hDe]; exact Nat.lt_irrefl _)
 have loop:codeAny (model X.prog X.w) X.A (.compLoop (.ListComp elt [⟨tg,iter,[],0⟩] scope pos) 0 (.ref it) (.ref D) (compEnvC scope (cellsFrom (C + 1) scope.names (closL X.env scope.names [])) C X.env)) (RR (.ref D) C) { s2 with heap:=h₁,toks:=s2.toks }:=by
  refine compLoop_x (fun n s'=>∃ i ys us k σ' H',Inv (compCxX X scope (own ++ capN) C fp s2 H2 pins xe) [(D,{ cls:=.type "list",data:=.seq us.toArray k })] σ' H' s'/\tn i s'.heap/\(∀ b ∈ fp,H' b=none)/\Vals ys us/\W i n ys σ' H') ?_ m0
   ⟨0,[],[],0,_,H2,pinD Ic hacc (I2.hok.fresh (by rw [hDe]; exact Nat.le_refl _)),T.keep _ _ _ st2 fun b _ o e=>old b o e,fun b hb=>(f2 b hb).1,.nil,w0⟩
  rintro n s3 ⟨i,ys,us,k,σ3,H3,I3,st3,fr3,r3,w3⟩
  rcases turn i n ys σ3 H3 w3 with ⟨stop,hz,qn⟩ | ⟨go,step⟩
  ·refine thn (T.done (compCxX X scope (own ++ capN) C fp s2 H2 pins xe) rfl rfl rfl hc i _ s3 σ3 H3 _ I3 (fpc fr3) st3 stop) fun r s4 ⟨hr,I4⟩=>?_
   subst hr
   obtain ⟨eD,nD,_⟩:=I4.pin (D,_) (List.mem_append_right _ (List.mem_singleton.mpr rfl))
   have nD':H3 D=none:=nD
   have I5:Inv X pins σ (upd H3 D (.lst ys)) s4:=by
    refine I2.call' (ch:=fp) I4.os ⟨I4.base.keep,I4.base.slot,fun b o e n hx=>?_,I4.base.there,fun b xs e=>?_,fun b o u e=>?_,fun b ps e=>?_⟩ (fun b u e=>?_) I4.bare fun b hb=>⟨(f2 b hb).2.2.2.1,(f2 b hb).2.1,(f2 b hb).2.2.2.2.1,(f2 b hb).2.2.2.2.2⟩
    ·rw [upd_ne (by intro z; exact absurd (Heap.lt_size e) (by rw [z,hDe]; exact Nat.lt_irrefl _))]
     exact I4.base.free b o e n hx
    ·have q:=I4.base.tups b xs e
     rw [upd_ne (ne_of_none q nD')]; exact q
    ·have q:=I4.base.frzs b o u e
     rw [upd_ne (ne_of_none q nD')]; exact q
    ·obtain ⟨more,q⟩:=I4.base.tbls b ps e
     exact ⟨more,by rw [upd_ne (ne_of_none q nD')]; exact q⟩
    ·by_cases hb:b=D
     ·subst hb
      rw [upd_same] at e; cases e
      exact ⟨hz,us,k,r3,eD⟩
     ·rw [upd_ne hb] at e
      exact (I4.hok b u e).stay (fun _ _ _ q=>q) (fun c q=>by rw [upd_ne (ne_of_none q nD')]; exact q) fun c xs q=>by rw [upd_ne (ne_of_none q nD')]; exact q
   obtain ⟨m,hm,_⟩:=I4.loc
   exact hRR D C s4 _ m I5 (I2.fpOk sC (by rw [upd_ne (Ne.symm hDC)]; exact I4.free)) hm (qn D nD')
  ·refine thn (T.item (compCxX X scope (own ++ capN) C fp s2 H2 pins xe) rfl rfl rfl hc i _ s3 σ3 H3 _ I3 (fpc fr3) st3 go) fun r s4 ⟨u,hr,h4⟩=>?_
   subst hr
   refine thn h4 fun _ s5 ⟨x,H5,I5,r5,y5,st5,fr5⟩=>?_
   have I5':=I5.pinned (fpc fr5) (T.obj _ _ st5)
   refine thn (hg _ s5 σ3 H5 x u _ I5' r5 (step x H5 y5)) fun _ s6 ⟨σ6,H6,I6,q6⟩=>?_
   have back:∀ {σ8:St} {H8:Hp} {s8:Shared},Inv (compCxX X scope (own ++ capN) C fp s2 H2 pins xe) ([(D,{ cls:=.type "list",data:=.seq us.toArray k })] ++ pinsAt fp s5.heap) σ8 H8 s8->tn (i + 1) s8.heap/\(∀ b ∈ fp,H8 b=none):=fun {σ8 H8 s8} I8=>by
    refine ⟨T.keep _ _ _ st5 fun b hb o e=>(I8.pin (b,o) (List.mem_append_right _ (List.mem_append_right _ (mem_pinsAt hb e)))).1,fun b hb=>?_⟩
    obtain ⟨o,e,d⟩:=T.obj _ _ st5 b hb
    exact (I8.pin (b,o) (List.mem_append_right _ (List.mem_append_right _ (mem_pinsAt hb e)))).2.1
   refine thn (he _ s6 σ6 H6 _ I6 q6) fun u8 s8 ⟨y,H8,I8,r8,hz,m',hm,w8⟩=>?_
   obtain ⟨t8,n8⟩:=back I8
   have I9:=I8.unpinned
   obtain ⟨eD,nD,neD,nfD,_⟩:=I9.pin (D,_) (List.mem_append_right _ (List.mem_singleton.mpr rfl))
   have hl:=r3.length
   refine call_meets F.slot_list_append ⟨_,eD,rfl⟩ F.entry_list_append (F.args_list_append_2 _ _) (PySem.list_append D us.toArray k u8 (by rw [List.size_toArray]; omega)) ⟨eD,?_⟩
   have q:=PySem.IsL.update eD (fun a=>a.push u8)
   have e2:us.toArray.push u8=(us ++ [u8]).toArray:=by simp
   rw [e2] at q
   have keep:∀ b o,b ≠ D->s8.heap.get? b=some o->(s8.heap.update D (Obj.mapSeq fun a=>a.push u8)).get? b=some o:=fun b o hb e=>(Heap.get?_update_other s8.heap _ (Ne.symm hb)).trans e
   have I10:Inv (compCxX X scope (own ++ capN) C fp s2 H2 pins xe) [] σ6 H8 { s8 with heap:=s8.heap.update D (Obj.mapSeq fun a=>a.push u8) }:=by
    refine (I9.pins_of (pins':=[]) fun p hp=>absurd hp (by simp)).turned (t':=s8.toks) (it:=D) keep nD neD (.inr (by rw [hDe]; exact Nat.le_refl _)) cellsD fun p hp=>?_
    exact DnotPin p (by simpa using hp)
   exact ⟨m',hm,i + 1,ys ++ [y],us ++ [u8],_,σ6,H8,pinD I10 q nD,T.keep _ _ _ t8 fun b hb o e=>keep b o (by intro z; exact absurd (hfo b hb) (by rw [z,hDe]; exact Nat.lt_irrefl _)) e,n8,r3.append (.cons r8 .nil),w8⟩
 exact codeAny_compStart_list loop (wpAny_noRaise (T.self _ 0 _ _ _ (T.keep _ _ _ st2 fun b _ o e=>old b o e) loop))
theorem pe_compX (S:CompScope X scope own capN caps) (hc:X.calm=true) (hst:X.stack=X.env :: X.outer) (hfr:X.env.frame=some X.env.locals) (hZ:∀ pins σ H s e c,L3.Fly X pins σ H s e c->Z c σ H->X.xe e s) (hi:PI X tg iter wi)
  (hin:∀ C fp s₂ H₂ pl xe Z,(∀ pins σ H s e c,L3.Fly (compCxX X scope (own ++ capN) C fp s₂ H₂ pl xe) pins σ H s e c->Z c σ H->xe e s)->PG (compCxX X scope (own ++ capN) C fp s₂ H₂ pl xe) tg g/\PE (compCxX X scope (own ++ capN) C fp s₂ H₂ pl xe) elt (te Z))
  (hs:∀ x,foldedSetIterable iter X.env x=pure x:=by intro _; rfl):PE X (.ListComp elt [⟨tg,iter,[],0⟩] scope pos) (tCompX own caps wi g te Z):=by
 intro pins s σ H Q I h
 rw [eval_ListComp]
 refine wpAny_comprehension_free (use:=none) rfl hs (closureFor_cells (S.cells I.ok)) S.kind S.loc ?_
 refine comp_coreX S hc hst hfr hi hin I h (fun D C s' H' m I' f hm q=>⟨m,hm,fun h' hs'=>?_⟩) fun D C s' H' m a Cv fv gg c I' f hm cov gC ex hmg z=>⟨m,hm,fun h' hs' cenv _=>?_⟩
 ·exact ⟨.ref D,H',I'.turned (t':=s'.toks) (it:=C) (fun b o hb e=>(hs'.2 b hb).trans e) f.1 f.2.1 f.2.2.2.1 f.2.2.2.2.1 f.2.2.2.2.2,rfl,q⟩
 ·have I2:Inv X pins σ H' { s' with heap:=h' }:=I'.turned (t':=s'.toks) (it:=C) (fun b o hb e=>(hs'.2 b hb).trans e) f.1 f.2.1 f.2.2.2.1 f.2.2.2.2.1 f.2.2.2.2.2
  obtain ⟨oC,es,ep,eC,dC,_⟩:=hm
  have nC:∀ b o vs,s'.heap.get? b=some o->o.data=.fields vs->b ≠ C:=fun b o vs e d q=>by
   subst q; rw [eC] at e; cases e; rw [dC] at d; cases d
  obtain ⟨gh,lo,un,oe,vs,a0,he,hcl,hd,h0,hx⟩:=ex
  rcases hx with ⟨q,_⟩ | ⟨T,oT,ts,f',ef,h1,hgT,hHT,hTa,hT,hdT,h3⟩
  ·cases q
  have ha':=(hs'.2 a (nC a oe vs he hd)).trans he
  have ex':L3.ExS gg H' h' a Cv (some fv):=⟨fun b o e=>let ⟨o',e'⟩:=gh b o e; ⟨o',(hs'.2 b fun q=>by rw [q,gC] at e; cases e).trans e'⟩,lo,un,oe,vs,a0,ha',hcl,hd,h0,.inr ⟨T,oT,ts,f',ef,h1,hgT,hHT,hTa,(hs'.2 T (nC T oT ts hT hdT)).trans hT,hdT,h3⟩⟩
  unfold PySem.passOn
  refine wpAny_bind (wpAny_field ha' hd h1 ?_)
  rw [if_neg (show ¬ ((Value.ref T == Value.none)=true) from by simp)]
  have stk:=L3.frames_some I2.stack
  have go:wpAny (model X.prog X.w) X.A (setFlight (.ref a) cenv.frame >>= fun _=>(throw (.ref a):Sem Value)) (fun _ _=>False) X.xe { s' with heap:=h' }:=wpAny_bind (L3.flight_any (s:={ s' with heap:=h' }) (fs:=frs X.stack) cenv.frame stk ex' fun h2 c2 x2=>wpAny_throw (hZ pins σ H' _ _ c ⟨I2.ch cov c2,a,Cv,gg,_,rfl,cov,x2,hmg⟩ z))
  first
   | exact wpAny_bind (wpAny_pure go)
   | exact go
end
end L2
namespace L2.L3
open PySem PySem.Spec PyProof.Rows
section
variable {X:Cx} {F:Fx} {E:Str->DEnv->Prop} {pos:Pos}
noncomputable def compGoX (g:GM) (m:XM PyData):List PyData->List PyData->XM (List PyData)
 | [],ys,ρ=>.ok ys ρ
 | d :: r,ys,ρ=>(match g d ρ with
  | some ρ1=>(m ρ1).bind fun y ρ3=>if ys.length < sizeLine then compGoX g m r (ys ++ [y]) ρ3 else .bad
  | none=>.bad)
end
end L2.L3
namespace L2.L3
open PySem PySem.Spec PyProof.Rows
theorem vals_strs:∀ l:List (Str × Tok),Vals ((l.map (·.1)).map V.str) (strValues l)
 | []=>.nil
 | p :: r=>.cons ⟨p.2,rfl⟩ (vals_strs r)
section
variable {X:Cx} {F:Fx} {E:Str->DEnv->Prop} {e:Expr} {pos:Pos}
noncomputable def rSpl:V->List V->Hp->VK->Prop:=fun x xs H Q=>∃ a b,x=.str a/\xs=[.str b]/\(b.length == 0)=false/\a.length + 2<=sizeLine/\∀ p,H p=none->Q (.ref p) (upd H p (.lst ((Txt.split a b).map V.str)))
theorem mt_split:MtR X "str.split" rSpl:=by
 intro pins s σ H x xs v us Q I rx rs h
 obtain ⟨a,b,rfl,rfl,hy,hsz,q⟩:=h
 obtain ⟨t,rfl⟩:=rx
 obtain ⟨u',rfl,ru⟩:=vals1 rs
 obtain ⟨u,rfl⟩:=ru
 have fin:∀ (l:List (Str × Tok)) (tk:Nat),l.map (·.1)=Txt.split a b->l.length<=sizeLine->EP X pins σ Q (.ref s.heap.objs.size) { s with heap:=s.heap.push { cls:=.type "list",data:=.seq (strValues l).toArray },toks:=tk }:=fun l tk e hl=>by
  refine ⟨.ref s.heap.objs.size,_,I.laid (t':=tk) (o:=.lst ((Txt.split a b).map V.str)) (fun b ob q=>Heap.get?_push_of_some _ q) (Nat.le_refl _) ?_,rfl,q _ (I.hok.fresh (Nat.le_refl _))⟩
  rw [<-e]
  exact ⟨by simpa using hl,strValues l,_,vals_strs l,Heap.get?_push_size _ rfl⟩
 have hn:(Builtin.Str.partsBetween a (Builtin.Str.occurrences a b 0 a.length (a.length + 1)) b.length).length<=sizeLine:=by
  have e1:=StrLaws.occ_length_le a b 0 a.length (a.length + 1)
  rw [length_partsBetween]; omega
 have one:1<=sizeLine:=by decide
 cases h1:(decide (a.length < b.length) || decide (Builtin.Str.strKind a < Builtin.Str.strKind b))
 ·cases hf:(Builtin.Str.occurrences a b 0 a.length (a.length + 1)).isEmpty
  ·refine call_meets F.slot_str_split (typeIs_str _ _ _) F.entry_str_split (F.args_str_split_2 _ _) (meets_str_split_sep a b t u h1 hy hf (by omega) hn) ?_
   show wants (EP X pins σ Q) X.xe _ { s with toks:=_,heap:=s.heap.push { cls:=.type "list",data:=.seq (strsFrom s.toks (Builtin.Str.partsBetween a (Builtin.Str.occurrences a b 0 a.length (a.length + 1)) b.length)).toArray } }
   rw [strsFrom_eq]
   have e1:=numbered_texts s.toks (Builtin.Str.partsBetween a (Builtin.Str.occurrences a b 0 a.length (a.length + 1)) b.length)
   refine fin (PySem.numbered s.toks _) _ (e1.trans ((if_neg (ne_true_of_eq_false h1)).trans (if_neg (ne_true_of_eq_false hf))).symm) ?_
   have:=congrArg List.length e1
   simp only [List.length_map] at this
   omega
  ·exact call_meets F.slot_str_split (typeIs_str _ _ _) F.entry_str_split (F.args_str_split_2 _ _) (meets_str_split_not_found a b t u h1 hy hf)
    (fin [(a,t)] s.toks ((if_neg (ne_true_of_eq_false h1)).trans (if_pos hf)).symm one)
 ·exact call_meets F.slot_str_split (typeIs_str _ _ _) F.entry_str_split (F.args_str_split_2 _ _) (meets_str_split_cannot_occur a b t u h1)
   (fin [(a,t)] s.toks (if_pos h1).symm one)
noncomputable def gSpl:Str->List PyData->Option PyData:=fun x ds=>match ds with
 | [.str y]=>if (y.length == 0)=false/\x.length + 2<=sizeLine then some (.list ((Txt.split x y).map PyData.str)) else none
 | _=>none
theorem dvs_strs {G:Hp}:∀ l:List Str,DVs G (l.map V.str) (l.map PyData.str)
 | []=>.nil
 | x :: l=>.cons (.str x) (dvs_strs l)
theorem os_split:OpS rSpl gSpl:=⟨fun O H x vs ds z Q hO hd e q=>by
 unfold gSpl at e
 split at e
 ·rename_i y
  split at e
  ·rename_i h
   cases e
   obtain ⟨u,rfl,h1⟩:=dvs1 hd
   rw [h1.str_inv]
   exact ⟨x,y,rfl,rfl,h.1,h.2,fun p hp=>q _ _ (same_upd hp) (dv_new_lst hp (hO p hp) (dvs_strs _))⟩
  ·cases e
 ·cases e⟩
noncomputable def strs?:List PyData->Option (List Str)
 | []=>some []
 | .str x :: r=>(strs? r).map (x :: ·)
 | _ :: _=>none
theorem strs_inv {G:Hp}:∀ {vs:List V} {ds:List PyData} {l:List Str},DVs G vs ds->strs? ds=some l->vs=l.map V.str
 | _,_,_,.nil,e=>by cases e; rfl
 | _,_,_,.cons h r,e=>by
  cases h with
  | str x=>
   unfold strs? at e
   obtain ⟨l',e1,rfl⟩:=Option.map_eq_some_iff.mp e
   rw [strs_inv r e1]; rfl
  | _=>cases e
theorem strsAre_of:∀ {l:List Str} {us:List Value},Vals (l.map V.str) us->StrsAre us l
 | [],_,.nil=>.nil
 | _ :: _,_,.cons ⟨t,e⟩ r=>by subst e; exact .cons _ t (strsAre_of r)
noncomputable def rJoin:V->List V->Hp->VK->Prop:=fun x xs H Q=>∃ a D l,x=.str a/\xs=[.ref D]/\H D=some (.lst (l.map V.str))/\(l.map (·.length)).sum + l.length * a.length<=16777216/\Q (.str (Txt.join a l)) H
theorem mt_join:MtR X "str.join" rJoin:=by
 intro pins s σ H x xs v us Q I rx rs h
 obtain ⟨a,D,l,rfl,rfl,hD,hb,q⟩:=h
 obtain ⟨t,rfl⟩:=rx
 obtain ⟨u',rfl,ru⟩:=vals1 rs
 cases ru
 obtain ⟨its,rv,p,hz⟩:=I.list (.of hD)
 exact join_list p.isList (strsAre_of rv) hb fun t' k=>⟨.str _,H,I.tok _,⟨_,rfl⟩,q⟩
noncomputable def gJoin:Str->List PyData->Option PyData:=fun x ds=>match ds with
 | [.list ys]=>(match strs? ys with
  | some l=>if (l.map (·.length)).sum + l.length * x.length<=16777216 then some (.str (Txt.join x l)) else none
  | none=>none)
 | _=>none
theorem os_join:OpS rJoin gJoin:=⟨fun O H x vs ds z Q hO hd e q=>by
 unfold gJoin at e
 split at e
 ·rename_i ys
  split at e
  ·rename_i l hl
   split at e
   ·rename_i hb
    cases e
    obtain ⟨u,rfl,h1⟩:=dvs1 hd
    obtain ⟨a,xs,rfl,ha,hx⟩:=h1.lst_inv
    have:=strs_inv hx hl
    subst this
    exact ⟨x,a,l,rfl,rfl,(of_hide ha).1,hb,q _ _ (Same.refl H) (.str _)⟩
   ·cases e
  ·cases e
 ·cases e⟩
noncomputable def rSlS:V->Option Int->Option Int->Hp->VK->Prop:=fun x lo hi H Q=>∃ a,x=.str a/\a.length<=sizeLine/\Q (.str (Txt.slice a lo hi)) H
theorem part_of {v:Value} {o:Option Int} (h:IsPart v o):∃ l:Option (Int × Tok),v=partValue l/\l.map (·.1)=o:=by
 cases h with
 | none=>exact ⟨none,rfl,rfl⟩
 | int i t=>exact ⟨some (i,t),rfl,rfl⟩
theorem sl_str:SlR X rSlS:=by
 intro pins s σ H x v vl vu lo hi sl Q I rx hs pl pu h
 obtain ⟨a,rfl,hz,q⟩:=h
 obtain ⟨t,rfl⟩:=rx
 obtain ⟨l,rfl,rfl⟩:=part_of pl
 obtain ⟨u,rfl,rfl⟩:=part_of pu
 exact ⟨"str",_,F.slot_str_getitem.lookup,typeIs_str _ _ _,wpAny_getItem_str_slice (l:=l) (u:=u) (st:=none) hs rfl
  (post_val_or_str ⟨Nat.le_trans (Txt.slice_le a _ _) hz,fun t' k=>⟨.str _,H,I.tok _,⟨_,rfl⟩,q⟩⟩)⟩
noncomputable def slT (d:PyData) (l h:Option Int):Option PyData:=match d with
 | .str x=>if x.length<=sizeLine then some (.str (Txt.slice x l h)) else none
 | _=>none
noncomputable def xSlT (m:XM PyData) (lo hi:XM (Option Int)):XM PyData:=fun ρ=>(m ρ).bind fun d ρ1=>(lo ρ1).bind fun l ρ2=>(hi ρ2).bind fun h=>lift (slT d l h)
theorem fe_sliceT {p2:Pos} {lo hi:Option Expr} {m:XM PyData} {ml mh:XM (Option Int)} (he:FE X F E e m) (hl:FP X F E lo ml) (hh:FP X F E hi mh):FE X F E (.Subscript e (.Slice lo hi none p2) pos) (xSlT m ml mh):=
 ⟨mn_wp,(pe_slice sl_str he.pe hl hh).imp fun σ H Q ⟨ρ,O,st,q⟩=>
  ⟨ρ,O,st,mn_wp _ _ _ (fun d ρ1 q1 v H1 O1 st1 s1 dv=>⟨ρ1,O1,st1,mn_wp _ _ _ (fun l ρ2 q2 H2 O2 st2 s2=>⟨ρ2,O2,st2,mn_wp _ _ _ (fun h ρ3 q3 H3 O3 st3 s3=>by
   obtain ⟨y,e1,q4⟩:=wp_lift q3
   unfold slT at e1
   split at e1
   ·rename_i x
    split at e1
    ·rename_i hz
     cases e1
     exact ⟨x,dv.str_inv,hz,q4 _ H3 O3 st3 (s1.trans (s2.trans s3)) (.str _)⟩
    ·cases e1
   ·cases e1) (wp_bind (m:=mh) (k:=fun h=>lift (slT d l h)) q2)⟩) (wp_bind (m:=ml) (k:=fun l ρ2=>(mh ρ2).bind fun h=>lift (slT d l h)) q1)⟩) (wp_bind (m:=m) (k:=fun d ρ1=>(ml ρ1).bind fun l ρ2=>(mh ρ2).bind fun h=>lift (slT d l h)) q)⟩⟩
theorem de_gstr {x:Str} {z:Str} {t:Tok} (hg:Gl X x) (hm:X.mg x=some (.str z t)) (hd:(x == ("__debug__":Str))=false:=by decide):DE X F (.Name x pos) (dC (.str z)):=de_const (v:=.str z) (pe_glob hg hm ⟨t,rfl⟩ hd) fun _=>.str z
noncomputable def Itx (z:Str):It:=⟨fun i _=>i < z.cps.size,fun i H x H'=>(∃ c,z.cps[i]? = some c/\x=.str ⟨#[c]⟩)/\H' = H,fun i _=>z.cps.size<=i⟩
theorem turn_str {P:Program} {w:World} {K:PySem.W.Frag} {tg:Expr} {n:String} {it:Addr} {z:Str} {t:Tok} (hn:["enumerate","zip","dict_itemiterator","dict_reverseitemiterator","odict_iterator","itertools.zip_longest","itertools.pairwise"].contains n=false)
  (hit:∀ {A:Around} {E:Value->Shared->Prop} {s:Shared} {i c:Nat} {Q:Option Value->Shared->Prop},s.heap.IsStrIter it n z t i->z.cps[i]? = some c->(∀ h',h'.IsStrIter it n z t (i + 1)->Heap.SameBut it s.heap h'->Q (some (.str ⟨#[c]⟩ s.toks)) { s with heap:=h',toks:=s.toks + 1 })->wpAny (model P w) A (pyNext (.ref it)) Q E s)
  (hend:∀ {A:Around} {E:Value->Shared->Prop} {s:Shared} {i:Nat} {Q:Option Value->Shared->Prop},A.handled=none->s.heap.IsStrIter it n z t i->z.cps[i]? = none->(∀ h',Heap.ExtBut it s.heap h'->Q none { s with heap:=h' })->wpAny (model P w) A (pyNext (.ref it)) Q E s)
  (hself:∀ {A:Around} {E:Value->Shared->Prop} {s:Shared} {i:Nat} {Q:Value->Shared->Prop},s.heap.IsStrIter it n z t i->Q (.ref it) s->wpAny (model P w) A (pyIter (.ref it)) Q E s):Turn P w K tg (Itx z) [it] it (fun i h=>h.IsStrIter it n z t i) where
 mem:=by simp
 obj:=fun i h st b hb=>by
  have e:b=it:=by simpa using hb
  subst e
  obtain ⟨o,ho,_,hd⟩:=st
  exact ⟨o,ho,fun v z=>by rw [hd] at z; cases z⟩
 keep:=fun i h h' st k=>by
  obtain ⟨o,ho,r⟩:=st
  exact ⟨o,k it (by simp) _ ho,r⟩
 item:=by
  intro X hP hw hK hc i pins s σ H E I hf st hg
  subst hP hw hK
  obtain ⟨f0,f1,f2,f3,f4,f5⟩:=hf it (by simp)
  have hg:i < z.cps.size:=hg
  refine hit st (Array.getElem?_eq_getElem hg) fun h' st' sb=>?_
  have I1:Inv X pins σ H { s with heap:=h',toks:=s.toks + 1 }:=I.turned (fun b o hb e=>(sb.2 b hb).trans e) f0 f1 f3 f4 f5
  obtain ⟨o,ho,hcl,hd⟩:=id st'
  exact ⟨_,rfl,go_of (s:={ s with heap:=h',toks:=s.toks + 1 }) ho hcl hd hn ⟨.str ⟨#[z.cps[i]]⟩,H,I1,⟨_,rfl⟩,⟨⟨_,Array.getElem?_eq_getElem hg,rfl⟩,rfl⟩,st',fun b hb=>(hf b hb).1⟩⟩
 done:=by
  intro X hP hw hK hc i pins s σ H E I hf st hg
  subst hP hw hK
  obtain ⟨f0,f1,f2,f3,f4,f5⟩:=hf it (by simp)
  have hg:z.cps.size<=i:=hg
  exact hend (I.ok.hd hc) st (Array.getElem?_eq_none hg) fun h' eb=>⟨rfl,I.turned (t':=s.toks) (fun b o hb e=>eb b o hb e) f0 f1 f3 f4 f5⟩
 self:=fun _ _ _ _ _ st h=>hself st h
noncomputable def iStr (tl:TE):TI:=fun σ H R=>tl σ H fun x H1=>∃ z,x=.str z/\R (Itx z) H1
theorem pi_str {tg l:Expr} {tl:TE} (hl:PE X l tl):PI X tg l (iStr tl):=by
 intro pins s σ H R I h
 refine thn (hl pins s σ H _ I h) fun v s1 ⟨x,H1,I1,r1,q1⟩=>?_
 obtain ⟨z,e,q⟩:=q1
 subst e
 obtain ⟨t,rfl⟩:=r1
 have fin:∀ (n:String) (o:Obj),Turn X.prog X.w X.K tg (Itx z) [s1.heap.objs.size] s1.heap.objs.size (fun i h=>h.IsStrIter s1.heap.objs.size n z t i)->(s1.heap.push o).IsStrIter s1.heap.objs.size n z t 0->PIE X pins σ tg R (.ref s1.heap.objs.size) { s1 with heap:=s1.heap.push o }:=fun n o T st=>by
  refine ⟨s1.heap.objs.size,[s1.heap.objs.size],_,_,H1,rfl,I1.kept (t':=s1.toks) fun b o e=>Heap.get?_push_of_some _ e,T,st,fun b hb=>?_,q⟩
  have e:b=s1.heap.objs.size:=by simpa using hb
  subst e
  exact I1.fpOk (Nat.le_refl _) (I1.hok.fresh (Nat.le_refl _))
 cases ha:z.cps.all (· < 128)
 ·exact wpAny_pyIter_wide ha (fin "str_iterator" _ (turn_str (by decide) (fun st hx h=>wpAny_pyNext_wide_item st hx h) (fun hh st hx h=>wpAny_pyNext_wide_end hh st hx h) (fun st h=>wpAny_pyIter_striter_wide st h)) ⟨_,Heap.get?_push_size _ rfl,rfl,rfl⟩)
 ·exact wpAny_pyIter_ascii ha (fin "str_ascii_iterator" _ (turn_str (by decide) (fun st hx h=>wpAny_pyNext_ascii_item st hx h) (fun hh st hx h=>wpAny_pyNext_ascii_end hh st hx h) (fun st h=>wpAny_pyIter_striter_ascii st h)) ⟨_,Heap.get?_push_size _ rfl,rfl,rfl⟩)
noncomputable def signs (z:Str):List PyData:=z.cps.toList.map fun c=>.str ⟨#[c]⟩
noncomputable def iSt (m:XM PyData):XM (List PyData):=fun ρ=>(m ρ).bind fun d=>lift (match d with | .str z=>some (signs z) | _=>none)
theorem fi_str {tg:Expr} {m:XM PyData} (h:FE X F E e m):FI X F E tg e (iSt m):=
 ⟨mn_wp,(pi_str h.pe).imp fun σ H R ⟨ρ,O,st,q⟩=>⟨ρ,O,st,mn_wp _ _ _ (fun d ρ1 q1 v H1 O1 st1 s1 d1=>by
  obtain ⟨y,e1,q2⟩:=wp_lift q1
  cases d with
  | str z=>
   cases e1
   refine ⟨z,d1.str_inv,q2 (Itx z) H1 O1 st1 s1 fun O' H' sp ok=>⟨fun i d hd=>?_,?_⟩⟩
   ·unfold signs at hd
    rw [List.getElem?_map] at hd
    obtain ⟨c,hc,rfl⟩:=Option.map_eq_some_iff.mp hd
    have hc':z.cps[i]? = some c:=by rw [<-Array.getElem?_toList]; exact hc
    refine ⟨(Array.getElem?_eq_some_iff.mp hc').1,fun x H'' ⟨⟨c',h1,h2⟩,h3⟩=>?_⟩
    rw [hc'] at h1
    cases h1
    subst h2 h3
    exact ⟨Same.refl _,.str _⟩
   ·show z.cps.size<=(signs z).length
    unfold signs
    simp
  | _=>cases e1) (wp_bind q)⟩⟩
end
end L2.L3
namespace PySem
open Sem (wp)
namespace F
theorem lk_list_keys:typeLookup (.type "list") "keys" = pure none:=by rw [typeLookup_type,builtinLookup_eq_fast]; kernel_rfl
theorem lk_list_hook:typeLookup (.type "list") "__getattr__" = pure none:=by rw [typeLookup_type,builtinLookup_eq_fast]; kernel_rfl
theorem sub_attr_attr:isSubtype (.type "AttributeError") (.type "AttributeError")=pure true:=by rw [isSubtype_type]; kernel_rfl
theorem own_attr (args):ownMembersOf (.type "AttributeError") args = #[unsetMember,unsetMember]:=by rfl
theorem fst_attr:((Manifest.find? "AttributeError").elim false fun t=>t.mro.contains "StopIteration" || t.mro.contains "SystemExit")=false:=by decide +kernel
end F
section
variable {prog:Program} {w:World} {A:Around} {E:Value->Shared->Prop} {h:Heap} {g:Array GenState} {d:Drawn} {t:Nat} {os:OsState} {a:Addr} {o:Obj}
theorem attr_raise {α:Type} {s:Shared} {e:Addr} {x ob nm:Value} {Q:α->Shared->Prop} (hh:A.handled=none) (he:s.heap.get? e=some { cls:=.type "AttributeError",data:=.fields (#[x,.none,.none,.none,.bool false,.none] ++ #[unsetMember,unsetMember]) })
  (hq:∀ h' oe,Heap.SameBut e s.heap h'->h'.get? e=some oe->oe.cls=.type "AttributeError"->E (.ref e) { s with heap:=h' }):wpAny (model prog w) A (do noteAttr (.ref e) ob nm; raiseNew (.ref e):Sem α) Q E s:=by
 have hT:s.TypeIs (.ref e) "AttributeError":=⟨_,he,rfl⟩
 refine wpAny_bind ?_
 unfold noteAttr
 dsimp only
 refine wpAny_bind ?_
 unfold lacksNameAndObj
 refine wpAny_bind (wpAny_isInstance hT F.sub_attr_attr ?_)
 simp only [Bool.not_true,Bool.false_eq_true,if_false]
 refine wpAny_bind (wpAny_load he ?_)
 dsimp only
 refine wpAny_of_eq (a:=true) (by rfl) ?_
 ·simp only [if_true]
  refine wpAny_bind (wpAny_rule (wpAny_bind (wpAny_typeOf hT ?_)))
  refine wpAny_layMembers he rfl ?_
  unfold raiseNew
  refine wpAny_bind (wpAny_handled ?_)
  rw [hh]
  first
   | refine wpAny_throw ?_
   | refine wpAny_bind (wpAny_pure (wpAny_throw ?_))
  exact hq _ _ (Heap.SameBut.update s.heap e _) (Heap.get?_update_self _ he rfl) rfl
theorem keys_entry {tk:Tok} {Q:Fin->Shared->Prop} (hh:A.handled=none) (hx:h.get? a=some o) (hc:o.cls=.type "list") (hd:o.dict=none) {it n} (hdd:o.data=.seq it n) (hq:∀ h' t' e oe,(∀ b u,h.get? b=some u->h'.get? b=some u)->h'.get? e=some oe->oe.cls=.type "AttributeError"->E (.ref e) ⟨h',g,d,t',os⟩) :
  wpAny (model prog w) A (Builtin.«object.__getattribute__» ⟨[.ref a,.str "keys" tk],[]⟩) Q E ⟨h,g,d,t,os⟩:=by
 have hT:(⟨h,g,d,t,os⟩:Shared).TypeIs (.ref a) "list":=⟨_,hx,hc⟩
 have f1:=F.lk_list_keys
 obtain ⟨cls,dict,data,slots⟩:=o
 dsimp only at hc hd hdd
 subst hc hd hdd
 repeat (any_goals (first | assumption | wp_step))
 unfold raiseAttrError
 refine wpAny_bind (wpAny_mkStr (wpAny_bind ?_) (by decide +kernel))
 unfold newExc newTuple
 refine wpAny_bind (wpAny_newObj_type ?_)
 refine wpAny_bind (m:=firstArgMember _ _) (wpAny_of_eq (a:=Value.none) (by simp only [firstArgMember,F.fst_attr]; rfl) ?_)
 rw [F.own_attr]
 refine wpAny_newObj_type ?_
 refine wpAny_bind (wpAny_mkText ?_)
 refine attr_raise (e:=((h.push _).objs.size)) hh (Heap.get?_push_size _ rfl) fun h' oe sb ho hc=>?_
 refine hq h' _ _ oe (fun b u eb=>?_) ho hc
 rw [sb.2 b (Nat.ne_of_lt (Heap.lt_size (Heap.get?_push_of_some _ eb)))]
 exact Heap.get?_push_of_some _ (Heap.get?_push_of_some _ eb)
theorem keys_by {Q:Option Value->Shared->Prop} (hh:A.handled=none) (hx:h.get? a=some o) (hc:o.cls=.type "list") (hd:o.dict=none) {it n} (hdd:o.data=.seq it n) (hq:∀ h' t',(∀ b u,h.get? b=some u->h'.get? b=some u)->Q none ⟨h',g,d,t',os⟩) :
  wpAny (model prog w) A (getAttr? (.ref a) "keys") Q E ⟨h,g,d,t,os⟩:=by
 have hT:(⟨h,g,d,t,os⟩:Shared).TypeIs (.ref a) "list":=⟨_,hx,hc⟩
 have f2:=F.slot_list_getattribute.lookup
 have f3:=F.slot_list_getattribute.bind (.ref a)
 have f4:=F.lk_list_hook
 obtain ⟨cls,dict,data,slots⟩:=o
 dsimp only at hc hd hdd
 subst hc hd hdd
 unfold getAttr? getAttrBy?
 refine wpAny_bind (wpAny_mkText ?_)
 refine wpAny_bind (wpAny_attempt ?_)
 repeat (any_goals (first | assumption | wp_step))
 refine codeAny_call_builtin F.slot_list_getattribute.plain F.entry_list_ga (F.slot_list_getattribute.check _ _ _ _ _ _ _ _ (show (⟨h,g,d,t + 1,os⟩:Shared).TypeIs (.ref a) "list" from ⟨_,hx,rfl⟩) (F.args_list_getattribute_2 _ _) (keys_entry (t:=t + 1) hh hx rfl rfl rfl fun h' t' e oe kp ho hc=>?_))
 have hTe:(⟨h',g,d,t',os⟩:Shared).TypeIs (.ref e) "AttributeError":=⟨_,ho,hc⟩
 have f5:=F.sub_attr_attr
 dsimp only
 unfold getattributeRaised
 refine wpAny_bind (wpAny_isInstance hTe F.sub_attr_attr ?_)
 simp only [if_true]
 refine wpAny_bind ?_
 show wpAny _ _ (typeLookup (.type "list") "__getattr__") _ _ _
 refine wpAny_of_eq f4 ?_
 refine wpAny_throw ?_
 refine wpAny_bind (wpAny_isInstance hTe F.sub_attr_attr ?_)
 exact wpAny_pure (hq h' t' kp)
end
end PySem
namespace L2.L3
open PySem PySem.Spec PyProof.Rows
theorem quiet_upd (args:Args):(Code.builtin "dict.update.loop" args).quiet=true:=by kernel_rfl
theorem entry_upd:entryFor table "dict.update.loop" = some Builtin.«dict.update.loop»:=entryFor_of_tree (by kernel_rfl)
theorem plain_upd:plainId "dict.update.loop" = true:=by decide +kernel
section
variable {prog:Program} {w:World} {K:Type} [DecidableEq K] {knd:KeyKind prog w K} {A:Around} {E:Value->Shared->Prop} {s:Shared}
noncomputable def PairsAt (knd:KeyKind prog w K) (h:Heap) (its:List Value) (ps:List (K × Value)):Prop:=
 its.length=ps.length/\∀ (i:Nat) (x:Value) (p:K × Value),its[i]? = some x->ps[i]? = some p->∃ a key,x=.ref a/\h.IsTuple a #[key,p.2]/\knd.is p.1 key=true
theorem stored_len' {kv:List (K × Value)} {k:K} {v:Value}:(stored kv k v).length<=kv.length + 1:=by
 unfold stored
 split <;> simp
theorem fold_stored_len:∀ (ps kv:List (K × Value)),(ps.foldl (fun kv p=>stored kv p.1 p.2) kv).length<=kv.length + ps.length
 | [],kv=>by simp
 | p :: ps,kv=>by
  have h1:=fold_stored_len ps (stored kv p.1 p.2)
  have h2:=stored_len' (kv:=kv) (k:=p.1) (v:=p.2)
  rw [List.foldl_cons,List.length_cons]
  omega
theorem upd_loop {d it o:Addr} {h₀:Heap} {its:List Value} {ps:List (K × Value)} {Q:Shared->Prop} (hh:A.handled=none) (hl:h₀.IsList o its.toArray) (hp:PairsAt knd h₀ its ps) (h1:d ≠ it) (h2:∀ b ob,h₀.get? b=some ob->b ≠ d/\b ≠ it)
  (hs:ps.length<=sizeLine)
  {s0:Shared} (fin:∀ h' tk,Heap.DictOf knd h' d (ps.foldl (fun kv p=>stored kv p.1 p.2) [])->(∀ b ob,h₀.get? b=some ob->h'.get? b=some ob)->Q { s0 with heap:=h',toks:=tk }) :
  ∀ (n i:Nat) (s:Shared),(∃ h tk,s = { s0 with heap:=h,toks:=tk })->i + n=ps.length->s.heap.IsListIter it o i->s.heap.DictOf knd d ((ps.take i).foldl (fun kv p=>stored kv p.1 p.2) [])->(∀ b ob,h₀.get? b=some ob->s.heap.get? b=some ob)->
   codeAny (model prog w) A (.builtin "dict.update.loop" ⟨[.ref d,.ref it,rawInt i,.none],[]⟩) (wants (fun r s'=>r=.none/\Q s') E) s:=by
 intro n
 induction n with
 | zero=>
  intro i s hs0 hi ht hd hk
  obtain ⟨hp0,tk0,rfl⟩:=hs0
  refine codeAny_builtin entry_upd ?_
  rw [Around.under_plainId plain_upd _]
  have hl':hp0.IsList o its.toArray:=by
   obtain ⟨ob,e,r⟩:=hl
   exact ⟨ob,hk _ _ e,r⟩
  have e0:its.toArray[i]? = none:=by
   rw [List.getElem?_toArray]
   exact List.getElem?_eq_none (by have:=hp.1; omega)
  unfold Builtin.«dict.update.loop»
  refine wpAny_bind (wpAny_pyNext_list_end (by exact hh) ht hl' e0 fun h' eb=>?_)
  have ei:i=ps.length:=by omega
  subst ei
  rw [List.take_length] at hd
  show wpAny _ _ (Builtin.Dict.addKeywords d [] >>= fun _=>ret .none) _ _ _
  refine wpAny_bind (wpAny_pure (wpAny_pure ⟨rfl,fin _ _ ?_ fun b ob e=>eb b ob (h2 b ob e).2 (hk b ob e)⟩))
  obtain ⟨od,es,ep,hg,r⟩:=hd
  exact ⟨od,es,ep,eb d od h1 hg,r⟩
 | succ n ih=>
  intro i s hs0 hi ht hd hk
  obtain ⟨hp0,tk0,rfl⟩:=hs0
  refine codeAny_builtin entry_upd ?_
  rw [Around.under_plainId plain_upd _]
  have hl':hp0.IsList o its.toArray:=by
   obtain ⟨ob,e,r⟩:=hl
   exact ⟨ob,hk _ _ e,r⟩
  have li:i < its.length:=by have:=hp.1; omega
  have lp:i < ps.length:=by omega
  have e0:its.toArray[i]? = some its[i]:=by rw [List.getElem?_toArray]; exact List.getElem?_eq_getElem li
  obtain ⟨a,key,ea,⟨ta,hta,htc,tn,htd⟩,hkey⟩:=hp.2 i its[i] ps[i] (List.getElem?_eq_getElem li) (List.getElem?_eq_getElem lp)
  unfold Builtin.«dict.update.loop»
  refine wpAny_bind (wpAny_pyNext_list_item ht hl' e0 fun h' it' sb=>?_)
  rw [ea]
  have ta':h'.get? a=some ta:=(sb.2 a (h2 a ta hta).2).trans (hk a ta hta)
  refine wpAny_bind ?_
  refine wpAny_holding ?_
  refine wpAny_bind (wpAny_tryCatch ?_)
  unfold Builtin.Dict.pairItems
  refine wpAny_bind (wpAny_typeOf (T:="tuple") ⟨ta,ta',htc⟩ ?_)
  simp only [show ((Value.type "tuple" == Value.type "list") || (Value.type "tuple" == Value.type "tuple"))=true by decide,if_true]
  refine wpAny_bind (wpAny_seqItems ta' htd ?_)
  refine wpAny_pure ?_
  show wpAny _ _ (holding [key,ps[i].2] (dictSet d key ps[i].2)) _ _ _
  refine wpAny_holding ?_
  have hd':h'.DictOf knd d ((ps.take i).foldl (fun kv p=>stored kv p.1 p.2) []):=by
   obtain ⟨od,es,ep,hg,r⟩:=hd
   exact ⟨od,es,ep,(sb.2 d h1).trans hg,r⟩
  refine wpAny_dictSet_pairs (s:={ s0 with heap:=h',toks:=tk0 }) hkey hd' (fun h'' hd'' sb2=>?_) ?_
  ·refine wpAny_pure ⟨quiet_upd _,?_⟩
   have e:ps.take (i + 1)=ps.take i ++ [ps[i]]:=by rw [List.take_succ,List.getElem?_eq_getElem lp]; rfl
   refine ih (i + 1) _ ⟨_,_,rfl⟩ (by omega) ?_ ?_ fun b ob eb=>?_
   ·obtain ⟨oi,hg,r⟩:=it'
    exact ⟨oi,(sb2.2 it (Ne.symm h1)).trans hg,r⟩
   ·rw [e,List.foldl_append]
    exact hd''
   ·exact (sb2.2 b (h2 b ob eb).1).trans ((sb.2 b (h2 b ob eb).2).trans (hk b ob eb))
  ·exact Nat.le_trans (fold_stored_len _ _) (by simp; omega)
theorem call_dictP {o:Addr} {ob:Obj} {n0:Nat} {its:List Value} {ps:List (K × Value)} {Q:Value->Shared->Prop} (hh:A.handled=none) (hl:s.heap.get? o=some ob) (hc:ob.cls=.type "list") (hdn:ob.dict=none) (hdt:ob.data=.seq its.toArray n0) (hp:PairsAt knd s.heap its ps) (hs:ps.length<=sizeLine)
  (h:∀ h' tk,Heap.DictOf knd h' s.heap.objs.size (ps.foldl (fun kv p=>stored kv p.1 p.2) [])->(∀ b u,s.heap.get? b=some u->h'.get? b=some u)->Q (.ref s.heap.objs.size) { s with heap:=h',toks:=tk }) :
  wpAny (model prog w) A (call (.type "dict") [.ref o]) Q E s:=by
 refine callType_codes (Q₁:=fun obj s₁=>obj=.ref s.heap.objs.size/\s₁ = { s with heap:=s.heap.push { cls:=.type "dict",data:=.dict #[] } }) PySem.F.kt_called_dict (PySem.F.kt_typeCall_dict_1 _) PySem.F.entry_dict_init (kt_code_dict_new _ ⟨rfl,rfl⟩) ?_
 rintro obj s₁ ⟨rfl,rfl⟩
 have hnew:(s.heap.push { cls:=.type "dict",data:=.dict #[] }).DictOf knd s.heap.objs.size []:=Heap.DictOf.new s.heap
 have hl1:(s.heap.push { cls:=.type "dict",data:=.dict #[] }).get? o=some ob:=Heap.get?_push_of_some _ hl
 refine ⟨hnew.typeIs,PySem.F.args_dict_init_2 _ _,?_⟩
 unfold Builtin.«dict.__init__»
 refine wpAny_bind ?_
 unfold Builtin.Dict.selfAndRest
 refine wpAny_bind (wpAny_notOrdered_dict hnew.typeIs ?_)
 show wpAny _ _ (pure (s.heap.objs.size,[Value.ref o])) _ _ _
 refine wpAny_pure ?_
 show wpAny _ _ (Builtin.Dict.updateFrom "dict.__init__" s.heap.objs.size (.ref o) [] .none) _ _ _
 unfold Builtin.Dict.updateFrom
 refine wpAny_bind (wpAny_typeOf (T:="list") ⟨ob,hl1,hc⟩ ?_)
 rw [if_pos (by decide)]
 refine wpAny_bind (keys_by (h:=s.heap.push { cls:=.type "dict",data:=.dict #[] }) (t:=s.toks) (by simp [hh]) hl1 hc hdn hdt fun h2 t2 k2=>?_)
 simp only [Option.isNone_none,if_true]
 refine wpAny_bind (wpAny_rule ?_)
 have hl2:h2.IsList o its.toArray:=⟨ob,k2 _ _ hl1,hc,n0,hdt⟩
 refine wpAny_bind (wpAny_pyIter_list (s:={ s with heap:=h2,toks:=t2 }) hl2 ?_)
 refine wpAny_pure ⟨quiet_upd _,?_⟩
 have lt:∀ b ob,s.heap.get? b=some ob->b < s.heap.objs.size:=fun b ob e=>Heap.lt_size e
 obtain ⟨od,es,ep,hgd,rd⟩:=id hnew
 have hd2:h2.get? s.heap.objs.size=some od:=k2 _ _ hgd
 have ld:s.heap.objs.size < h2.objs.size:=Heap.lt_size hd2
 refine upd_loop (s0:={ s with heap:=h2,toks:=t2 }) (h₀:=s.heap) (o:=o) (by simp [hh]) ⟨ob,hl,hc,n0,hdt⟩ hp (Nat.ne_of_lt ld) (fun b ob e=>⟨Nat.ne_of_lt (lt b ob e),Nat.ne_of_lt (Nat.lt_trans (lt b ob e) ld)⟩) hs (fun h' tk hD kp=>h h' tk hD kp) ps.length 0 _ ⟨_,_,rfl⟩ (by omega) ⟨_,Heap.get?_push_size _ rfl,rfl,rfl⟩ ?_ fun b ob e=>?_
 ·exact ⟨od,es,ep,Heap.get?_push_of_some _ hd2,rd⟩
 ·exact Heap.get?_push_of_some _ (k2 _ _ (Heap.get?_push_of_some _ e))
end
end L2.L3
namespace L2.L3
open PySem PySem.Spec PyProof.Rows
noncomputable def mkK (ks:List (Key × V)):List (Key × V):=ks.foldl (fun kv p=>putK kv p.1 p.2) []
noncomputable def PrV (H:Hp) (y:V) (k:Key × V):Prop:=∃ b,y=.ref b/\H b=some (.tup [kV k.1,k.2])
noncomputable def rDictP:List V->Hp->VK->Prop:=fun xs H Q=>∃ p ys ks,xs=[.ref p]/\H p=some (.lst ys)/\Paired (PrV H) ys ks/\∀ l,H l=none->Q (.ref l) (upd H l (.dK (mkK ks)))
theorem kv_fold:∀ {ks:List (Key × V)} {ps:List (Key × Value)} {a:List (Key × V)} {b:List (Key × Value)},KV a b->KV ks ps->KV (ks.foldl (fun kv p=>putK kv p.1 p.2) a) (ps.foldl (fun kv p=>stored kv p.1 p.2) b)
 | [],[],_,_,h,_=>h
 | p :: ks,q :: ps,a,b,h,.cons hq t=>by
  rw [List.foldl_cons,List.foldl_cons,<-hq.1]
  exact kv_fold (h.put p.1 hq.2) t
theorem len_fold:∀ (ks a:List (Key × V)),(ks.foldl (fun kv p=>putK kv p.1 p.2) a).length<=a.length + ks.length
 | [],a=>by simp
 | p :: ks,a=>by
  have h1:=len_fold ks (putK a p.1 p.2)
  have h2:=length_putK a p.1 p.2
  rw [List.foldl_cons,List.length_cons]
  omega
theorem prs_of {P:Program} {w:World} {H:Hp} {h:Heap} (ok:HOk P w H h):∀ {ys:List V} {ks:List (Key × V)} {its:List Value},Paired (PrV H) ys ks->Vals ys its->∃ ps,KV ks ps/\PairsAt (mixKind P w) h its ps
 | [],[],[],_,_=>⟨[],.nil,rfl,fun i x p e=>by simp at e⟩
 | y :: ys,k :: ks,v :: its,.cons hq t,.cons hv tv=>by
  obtain ⟨ps,h1,h2,h3⟩:=prs_of ok t tv
  obtain ⟨b,rfl,hb⟩:=hq
  obtain ⟨_,jts,r,p⟩:=(show ObjOk P w H h b (.tup [kV k.1,k.2]) from ok b _ hb)
  obtain ⟨u,u',rfl,r1,r2⟩:=vals2 r
  refine ⟨(k.1,u') :: ps,.cons ⟨rfl,r2⟩ h1,by simp [h2],fun i x q ex eq=>?_⟩
  cases i with
  | zero=>
   cases ex
   cases eq
   exact ⟨b,u,hv,p,kV_is r1⟩
  | succ i=>exact h3 i x q (by simpa using ex) (by simpa using eq)
section
variable {X:Cx}
theorem call_dictR (hc:X.calm=true):CallR X (.type "dict") rDictP:=by
 intro pins s σ H xs us Q I r h
 obtain ⟨p,ys,ks,rfl,hp,hk,q⟩:=h
 obtain ⟨u,rfl,rx⟩:=vals1 r
 cases rx
 obtain ⟨z,its,n,rv,e⟩:=(show ObjOk X.prog X.w H s.heap p (.lst ys) from I.hok p _ hp)
 obtain ⟨ps,h1,h2⟩:=prs_of I.hok hk rv
 have hl:ks.length<=sizeLine:=by rw [<-Paired.length hk]; exact z
 have hm:(mkK ks).length<=sizeLine:=by have:=len_fold ks []; simp at this; exact Nat.le_trans this hl
 refine call_dictP (knd:=mixKind X.prog X.w) (I.ok.hd hc) e rfl rfl rfl h2 (by rw [<-h1.length]; exact hl) fun h' tk hD kp=>?_
 exact ⟨.ref s.heap.objs.size,_,I.laid (t':=tk) kp (Nat.le_refl _) (dk_new hm (beq_eq_false_iff_ne.mpr (Ne.symm (Nat.ne_of_lt I.big))) (kv_fold .nil h1) hD),rfl,q _ (I.hok.fresh (Nat.le_refl _))⟩
end
noncomputable def pairD:PyData->Option (PyData × PyData)
 | .tuple [k,x]=>(match keyOf k,keyOf x with | some _,some _=>some (k,x) | _,_=>none)
 | _=>none
noncomputable def pairsD:List PyData->Option KVs
 | []=>some []
 | d :: ds=>(match pairD d,pairsD ds with | some p,some l=>some (p :: l) | _,_=>none)
noncomputable def dAdd (kvs:KVs) (p:PyData × PyData):KVs:=dStore false kvs p.1 ((keyG false p.1).getD []) p.2
noncomputable def dictD (kvs:KVs):KVs:=kvs.foldl dAdd []
theorem pairD_v {G:Hp} {v:V} {d:PyData} {p:PyData × PyData} (h:DV G v d) (e:pairD d=some p):∃ (k:Key) (y:V),PrV G v (k,y)/\keyD k=p.1/\DV G y p.2:=by
 unfold pairD at e
 split at e
 ·rename_i k x
  split at e
  ·rename_i k' x' e1 e2
   cases e
   obtain ⟨b,xs,rfl,hb,hx⟩:=h.tup_invK (keyless_of (k:=[k',x']) (by simp [keysOf,e1,e2]) (by simp))
   obtain ⟨y1,y2,rfl,d1,d2⟩:=dvs2 hx
   obtain rfl:=key_v d1 e1
   exact ⟨k',y2,⟨b,rfl,hb⟩,(key_i e1).symm,d2⟩
  ·cases e
 ·cases e
theorem pairsD_v {G:Hp}:∀ {vs:List V} {ds:List PyData} {kvs:KVs},DVs G vs ds->pairsD ds=some kvs->∃ ks:List (Key × V),Paired (PrV G) vs ks/\Paired (fun (p:Key × V) (q:PyData × PyData)=>keyD p.1=q.1/\DV G p.2 q.2) ks kvs
 | _,[],kvs,h,e=>by cases e; cases h; exact ⟨[],.nil,.nil⟩
 | _,d :: ds,kvs,h,e=>by
  cases h with
  | cons h t=>
   unfold pairsD at e
   split at e
   ·rename_i p l e1 e2
    cases e
    obtain ⟨k,y,h1,h2,h3⟩:=pairD_v h e1
    obtain ⟨ks,h4,h5⟩:=pairsD_v t e2
    exact ⟨(k,y) :: ks,.cons h1 h4,.cons ⟨h2,h3⟩ h5⟩
   ·cases e
theorem dict_rel {G:Hp}:∀ {ks:List (Key × V)} {kvs:KVs} {a:List (Key × V)} {b:KVs},Paired (fun (p:Key × V) (q:PyData × PyData)=>keyD p.1=q.1/\DV G p.2 q.2) a b->Paired (fun (p:Key × V) (q:PyData × PyData)=>keyD p.1=q.1/\DV G p.2 q.2) ks kvs->
  Paired (fun (p:Key × V) (q:PyData × PyData)=>keyD p.1=q.1/\DV G p.2 q.2) (ks.foldl (fun kv p=>putK kv p.1 p.2) a) (kvs.foldl dAdd b)
 | [],[],_,_,h,_=>h
 | p :: ks,q :: kvs,a,b,h,.cons hq t=>by
  rw [List.foldl_cons,List.foldl_cons]
  refine dict_rel ?_ t
  unfold dAdd
  rw [hk1 p.1 q.1 hq.1]
  exact put_rel hk1 hi1 hq.2 hq.1 h
section
variable {X:Cx} {F:Fx} {E:Str->DEnv->Prop} {e:Expr} {pos p:Pos}
noncomputable def dictK (d:PyData):XM Cell:=fun ρ=>match d with
 | .list ds=>(match pairsD ds with
  | some kvs=>.ok (.own false (.m false (dictD kvs))) ρ
  | none=>.bad)
 | _=>.bad
noncomputable def xDictP (m:XM PyData):XM Cell:=fun ρ=>(m ρ).bind dictK
theorem bt_dict:bootBuiltins "dict" = some (.type "dict"):=by decide +kernel
theorem fo_dictP {m:XM PyData} (hc:X.calm=true) (hg:Gl X "dict") (hm:X.mg "dict" = none) (he:FE X F E e m) (hs:starEach [e] X.env=(false,eval e X.env) :: starEach [] X.env:=by rfl) (hpl:(backTo pos (starEach [] X.env)).any (·.1)=false:=by rfl):FO X F E (.Call (.Name "dict" p) [e] [] pos) (xDictP m):=by
 refine ⟨mn_wp,(pe_callTy (call_dictR hc) hg hm bt_dict (pa_cons he.pe pa_nil hs) (by decide) (by decide) hs hpl).imp ?_⟩
 rintro σ H Q ⟨ρ,O,st,q⟩
 refine ⟨ρ,O,st,mn_wp _ _ _ (fun d ρ1 q1 v H1 O1 st1 s1 d1=>?_) (wp_bind (m:=m) (k:=dictK) q)⟩
 unfold wp dictK at q1
 cases d with
 | list ds=>
  simp only at q1
  cases hk:pairsD ds with
  | none=>rw [hk] at q1; exact q1.elim
  | some kvs=>
   rw [hk] at q1
   obtain ⟨a,ys,rfl,ha,hy⟩:=d1.lst_inv
   obtain ⟨ks,h1,h2⟩:=pairsD_v hy hk
   refine ⟨a,ys,ks,rfl,(of_hide ha).1,Paired.mapP h1 fun y k ⟨b,e1,e2⟩=>⟨b,e1,(of_hide e2).1⟩,fun l hl=>?_⟩
   obtain ⟨O2,st2,s2⟩:=st1.fresh (o:=.dK (mkK ks)) hl trivial
   exact q1 _ _ O2 [l] ⟨st2,⟨l,rfl,rfl,_,upd_same,Paired.mapP (dict_rel .nil h2) fun _ _ z=>⟨z.1,DV.mono s2.hid z.2⟩⟩,st1.new1 hl⟩ (s1.trans s2)
 | _=>exact q1.elim
end
theorem dFind_app {tk:Bool} {k:List Key}:∀ {l:KVs} {q:PyData × PyData},dFind tk l k=none->keyG tk q.1 ≠ some k->dFind tk (l ++ [q]) k=none
 | [],q,_,h=>by simp [dFind,h]
 | p :: r,q,h1,h2=>by
  unfold dFind at h1
  split at h1
  ·cases h1
  ·rename_i h
   show dFind tk (p :: (r ++ [q])) k=none
   unfold dFind
   rw [if_neg h]
   exact dFind_app h1 h2
theorem dictD_nodup:∀ (kvs acc:KVs),(∀ p ∈ kvs,∃ k,keyG false p.1=some k/\dFind false acc k=none)->kvs.Pairwise (fun p q=>keyG false p.1 ≠ keyG false q.1)->kvs.foldl dAdd acc=acc ++ kvs
 | [],acc,_,_=>by simp
 | p :: r,acc,h,nd=>by
  obtain ⟨k,e1,e2⟩:=h p (by simp)
  have e:dAdd acc p=acc ++ [p]:=by
   unfold dAdd dStore
   rw [e1]
   simp [e2]
  rw [List.foldl_cons,e,dictD_nodup r (acc ++ [p]) (fun q hq=>?_) (List.pairwise_cons.mp nd).2]
  ·simp
  ·obtain ⟨k',e3,e4⟩:=h q (List.mem_cons_of_mem _ hq)
   refine ⟨k',e3,dFind_app e4 ?_⟩
   rw [<-e3]
   exact (List.pairwise_cons.mp nd).1 q hq
end L2.L3
namespace L2.L3
open PySem PySem.Spec PyProof.Rows
noncomputable def gIxS:PyData->PyData->Option PyData:=fun x y=>match x,y with
 | .str z,.int i=>if z.length<=sizeLine then (atI z.cps.toList i).map fun c=>.str ⟨#[c]⟩ else none
 | _,_=>none
noncomputable def fIxS:D2:=fun x y Q=>∃ d,gIxS x y=some d/\Q d
theorem f2_ixS:F2 fIxS gIxS:=fun x y d Q e q=>⟨d,e,q⟩
theorem o_ixS:Op2 rIxS fIxS where
 mn:=fun _ _ _ _ k ⟨d,e,q⟩=>⟨d,e,k _ q⟩
 ok:=fun O H u v x y Q hO h1 h2 ⟨d,e,q⟩=>by
  unfold gIxS at e
  split at e
  ·rename_i z i _
   split at e
   ·rename_i hz
    obtain ⟨c,e1,rfl⟩:=Option.map_eq_some_iff.mp e
    rw [h1.str_inv,h2.int_inv]
    exact ⟨z,i,c,rfl,rfl,hz,e1,q _ H (Same.refl H) (.str _)⟩
   ·cases e
  ·cases e
section
variable {X:Cx} {F:Fx} {E:Str->DEnv->Prop} {a b:Expr} {ma mb:XM PyData} {pos:Pos}
theorem fe_ixTx (ha:FE X F E a ma) (hb:FE X F E b mb) (hs:PlainIx b:=by intro _ _; rfl):FE X F E (.Subscript a b pos) (xOp gIxS ma mb):=fe_op f2_ixS (de_ix ix_str o_ixS ha hb hs)
theorem fb_inS (ha:FE X F E a ma) (hb:FE X F E b mb) (hm:lastMarks [.In] [b]=false:=by with_unfolding_all rfl):FB X F E (.Compare a [.In] [b] pos) (xTst (xOp (gS2 inS) ma mb)):=fb_op f2_S2 (db_cmp op_in_str (o_S2 fun a b d H Q e q=>by
 cases e
 exact ⟨a,b,rfl,rfl,q _ fun _=>.bl _⟩) ha hb hm)
end
end L2.L3
namespace L2.L3
open PySem PySem.Spec PyProof.Rows
noncomputable def dCmpE (E:Str->DEnv->Prop) (own:List Str) (caps:List Nat) (s:DTI) (g:DTG) (m:XM PyData):DT:=fun ρ Q=>s ρ fun its ρ1=>∃ Iv:Nat->List PyData->DEnv->Prop,Iv 0 [] (liftD own caps ρ1)/\
 (∀ i d ys ρ',its[i]? = some d->Iv i ys ρ'->g d ρ' fun ρ2=>wp (fun c _=>E c ρ1) m ρ2 fun y ρ4=>ys.length < sizeLine/\Iv (i + 1) (ys ++ [y]) ρ4)/\
 ∀ ys ρ',Iv its.length ys ρ'->ys.length<=sizeLine/\Q (.list ys) ρ1
section
variable {K:PySem.W.Frag} {F:Fx} {E:Str->DEnv->Prop} {own:List Str} {caps:List Nat} {s:DTI} {g:DTG} {m:XM PyData}
theorem mn_cmpE (hs:MnI s):Mn (dCmpE E own caps s g m):=fun _ _ _ k q=>hs _ _ _ (fun _ _ ⟨Iv,h0,h1,h2⟩=>⟨Iv,h0,h1,fun ys ρ' h=>⟨(h2 ys ρ' h).1,k _ _ (h2 ys ρ' h).2⟩⟩) q
theorem rd_cmpE {PF:Fx->Prop} (hP:∀ H1 σ ρ1 O1 O2,DSt K F H1 σ ρ1 O1->PF ⟨H1,[],O2,fun _=>0⟩) (hs:MnI s) (hg:∀ d ρ Q Q',(∀ ρ',Q ρ'->Q' ρ')->g d ρ Q->g d ρ Q'):∀ σ H Q,rdE K F (dCmpE E own caps s g m) σ H Q->
  tCompX own caps (rdI K F s) (fun v σ H Q=>∃ F',PF F'/\rdG K F' g v σ H Q) (fun Z σ H Q=>∃ F' E',PF F'/\(∀ c σ' H' ρ' O',DSt K F' H' σ' ρ' O'->E' c ρ'->Z c σ' H')/\rdE K F' (wp E' m) σ H Q) (fun c σ H=>∃ ρ O,DSt K F H σ ρ O/\E c ρ) σ H Q:=fun σ H Q ⟨ρ,O,st,q⟩=>by
 refine ⟨ρ,O,st,hs _ _ _ (fun its ρ1 ⟨Iv,i0,step,fin⟩ J H1 O1 st1 s1 wk=>?_) q⟩
 refine ⟨fun i m ys σ' H'=>∃ ρ' O' ds,DSt K ⟨H1,[],O1,fun _=>0⟩ H' σ' ρ' O'/\Iv i ds ρ'/\DVs (hide O' H') ys ds/\i<=its.length/\m=its.length - i,⟨its.length,liftD own caps ρ1,O1,[],?_,i0,.nil,Nat.zero_le _,rfl⟩,?_⟩
 ·have cell:∀ (i:Nat) (c:Cell),(liftD own caps ρ1)[i]? = some (some c)->(∀ io b,c ≠ .own io b)/\∃ v,(liftC own caps σ)[i]? = some (some v)/\CellAt K H1 O1 v c []:=fun i c e=>by
   unfold liftD at e
   unfold liftC
   by_cases hi:i < own.length
   ·rw [List.getElem?_append_left (by simpa using hi),List.getElem?_map] at e
    cases h:own[i]? with
    | none=>rw [h] at e; cases e
    | some y=>rw [h] at e; cases e
   ·rw [List.getElem?_append_right (by simpa using Nat.le_of_not_lt hi),List.length_map,List.getElem?_map] at e
    rw [List.getElem?_append_right (by simpa using Nat.le_of_not_lt hi),List.length_map,List.getElem?_map]
    obtain ⟨j,h1,h2⟩:=Option.map_eq_some_iff.mp e
    rw [h1]
    show _/\∃ v,some ((σ[j]?).getD none)=some (some v)/\_
    cases h3:ρ1[j]? with
    | none=>rw [h3] at h2; cases h2
    | some o=>
     cases o with
     | none=>rw [h3] at h2; cases h2
     | some c'=>
      rw [h3] at h2
      obtain ⟨W,stw,rfl⟩:=id st1
      obtain ⟨v,fp,e1,_,e2⟩:=stw.at_ j c' h3
      rw [e1]
      cases c' with
      | dat d=>cases h2; exact ⟨(fun _ _ z=>by cases z),v,rfl,e2⟩
      | scr ns=>cases h2; exact ⟨(fun _ _ z=>by cases z),v,rfl,e2⟩
      | own _ _=>cases h2
      | exc _=>cases h2
      | vw b=>cases h2; exact ⟨(fun _ _ z=>by cases z),v,rfl,e2⟩
  obtain ⟨W,stw,hO1⟩:=id st1
  have ln:(liftD own caps ρ1).length=(liftC own caps σ).length:=by unfold liftD liftC; simp
  have fl:(List.replicate (liftD own caps ρ1).length ([]:List Addr)).flatten ++ O1=O1:=by rw [flat_rep]; rfl
  refine ⟨List.replicate (liftD own caps ρ1).length [],⟨fun i c e=>?_,by show (_ ++ O1).Nodup; rw [fl,hO1]; exact stw.nd,fun _ _ _ h=>h,fun a h=>?_,by show OOk H1 (_ ++ O1); rw [fl]; exact st1.live,ln,by simp,fun i b e=>absurd rfl ((cell i _ e).1 true b)⟩,fl.symm⟩
  ·obtain ⟨_,v,e1,e2⟩:=cell i c e
   refine ⟨v,[],e1,?_,by show CellAt K H1 (_ ++ O1) v c []; rw [fl]; exact e2⟩
   rw [List.getElem?_replicate,if_pos (List.getElem?_eq_some_iff.mp e).1]
  ·rw [flat_rep] at h; cases h
 ·rintro i m' ys σ' H' ⟨ρ',O',ds,st',iv,dv,hi,rfl⟩
  have sm:Same H1 H':=fun b o e=>by obtain ⟨W',h',_⟩:=id st'; exact h'.kept b o (by simp) e
  have stp:Stp O1 H1 O' H':=⟨fun b o _ e=>sm b o e,fun a h=>by
   obtain ⟨W',h',rfl⟩:=id st'
   rcases List.mem_append.mp h with h | h
   ·exact (h'.new a h).elim (fun z=>absurd z (by simp)) .inr
   ·exact .inl h⟩
  have sub1:∀ a ∈ O1,a ∈ O':=fun a h=>by obtain ⟨W',h',rfl⟩:=id st'; exact List.mem_append_right _ h
  obtain ⟨w1,w2⟩:=wk O' H' stp st'.live
  by_cases hlt:i < its.length
  ·obtain ⟨go,yld⟩:=w1 i its[i] (List.getElem?_eq_getElem hlt)
   refine .inr ⟨go,fun x H2 hy=>?_⟩
   obtain ⟨sm2,dx⟩:=yld x H2 hy
   refine ⟨⟨H1,[],O1,fun _=>0⟩,hP _ _ _ _ _ st1,ρ',O',its[i],st'.grow sm2,dx,hg _ _ _ _ (fun ρ2 q2 σ3 H3 O3 st3 s3=>?_) (step i its[i] ds ρ' (List.getElem?_eq_getElem hlt) iv)⟩
   have d3:DVs (hide O3 H3) ys ds:=DVs.mono s3.hid (DVs.mono (hide_same sm2) dv)
   refine ⟨⟨H1,[],O1,fun _=>0⟩,fun c _=>E c ρ1,hP _ _ _ _ _ st1,fun c σ4 H4 ρ4 O4 st4 zz=>?_,ρ2,O3,st3,mn_wp _ _ _ (fun y ρ4 q4 v H5 O5 st5 s5 dy=>?_) q2⟩
   ·exact ⟨ρ1,O1,st1.grow fun b o e=>by obtain ⟨W',h',_⟩:=id st4; exact h'.kept b o (by simp) e,zz⟩
   ·exact ⟨by rw [d3.length]; exact q4.1,its.length - (i + 1),by omega,ρ4,O5,ds ++ [y],st5,q4.2,(DVs.mono s5.hid d3).append (.cons dy .nil),hlt,rfl⟩
  ·have e:i=its.length:=by omega
   subst e
   obtain ⟨hz,q⟩:=fin ds ρ' iv
   refine .inl ⟨w2,by rw [dv.length]; exact hz,fun p hp=>?_⟩
   have pO':=st'.nofree p hp
   exact q _ _ O1 (st1.grow fun b o e=>same_upd hp _ _ (sm b o e)) (s1.trans (.same fun b o e=>same_upd hp _ _ (sm b o e))) (dv_new_lst hp (fun z=>pO' (sub1 p z)) (DVs.mono (hide_more sub1) dv))
end
section
variable {X:Cx} {F:Fx} {E:Str->DEnv->Prop} {pos:Pos}
noncomputable def compKE (own:Nat) (caps:List Nat) (g:GM) (m:XM PyData) (its:List PyData):XM PyData:=fun ρ1=>match compGoX g m its [] (List.replicate own none ++ caps.map fun j=>capC ρ1[j]?) with
 | .ok ys _=>if ys.length<=sizeLine then .ok (.list ys) ρ1 else .bad
 | .ex c _=>.ex c ρ1
 | .bad=>.bad
noncomputable def xCompE (own:Nat) (caps:List Nat) (s:XM (List PyData)) (g:GM) (m:XM PyData):XM PyData:=fun ρ=>(s ρ).bind (compKE own caps g m)
theorem comp_ofE {own:List Str} {caps:List Nat} {s:XM (List PyData)} {g:GM} {m:XM PyData} {ρ:DEnv} {Q:PyData->DEnv->Prop} (q:wp E (xCompE own.length caps s g m) ρ Q):dCmpE E own caps (wp E s) (wpG g) m ρ Q:=mn_wp _ _ _ (fun its ρ1 q1=>by
 have eL:liftD own caps ρ1=List.replicate own.length none ++ caps.map fun j=>capC ρ1[j]?:=by
  unfold liftD
  rw [List.map_const']
 let QQ:List PyData->DEnv->Prop:=fun ys _=>ys.length<=sizeLine/\Q (.list ys) ρ1
 have h0:wp (fun c _=>E c ρ1) (compGoX g m its []) (List.replicate own.length none ++ caps.map fun j=>capC ρ1[j]?) QQ:=by
  unfold wp compKE at q1
  unfold wp
  generalize compGoX g m its [] _=o at q1 ⊢
  cases o with
  | bad=>exact q1
  | ok ys ρ'=>
   simp only at q1 ⊢
   by_cases hl:ys.length<=sizeLine
   ·rw [if_pos hl] at q1; exact ⟨hl,q1⟩
   ·rw [if_neg hl] at q1; exact q1.elim
  | ex c ρ'=>exact q1
 refine ⟨fun i ys ρ=>wp (fun c _=>E c ρ1) (compGoX g m (its.drop i) ys) ρ QQ,by rw [eL]; exact h0,fun i d ys ρ hd hi=>?_,fun ys ρ h=>?_⟩
 ·have e:its.drop i=d :: its.drop (i + 1):=by
   obtain ⟨hlt,he⟩:=List.getElem?_eq_some_iff.mp hd
   rw [<-he]
   exact List.drop_eq_getElem_cons hlt
  have hi:wp (fun c _=>E c ρ1) (compGoX g m (its.drop i) ys) ρ QQ:=hi
  rw [e] at hi
  unfold wp compGoX at hi
  unfold wpG
  cases hg:g d ρ with
  | none=>rw [hg] at hi; exact hi
  | some ρ2=>
   rw [hg] at hi
   simp only at hi ⊢
   unfold wp
   cases hm:m ρ2 with
   | ex c ρ4=>rw [hm] at hi; exact hi
   | bad=>rw [hm] at hi; exact hi
   | ok y' ρ4=>
    rw [hm] at hi
    simp only [Out.bind] at hi ⊢
    by_cases h:ys.length < sizeLine
    ·rw [if_pos h] at hi; exact ⟨h,hi⟩
    ·rw [if_neg h] at hi; exact hi.elim
 ·have h:wp (fun c _=>E c ρ1) (compGoX g m (its.drop its.length) ys) ρ QQ:=h
  rw [List.drop_length] at h
  exact h) (wp_bind (k:=compKE own.length caps g m) q)
theorem fe_compE {scope:Scope} {own capN:List Str} {caps:List Nat} {tg iter elt:Expr} {s:XM (List PyData)} {g:GM} {m:XM PyData} {n:Nat} (hx:XOk X F E) (S:CompScope X scope own capN caps) (hc:X.calm=true) (hn:own.length=n) (hst:X.stack=X.env :: X.outer) (hfr:X.env.frame=some X.env.locals) (hi:FI X F E tg iter s)
    (hin:∀ C fp s₂ H₂ pl xe F' E',XOk (compCxX X scope (own ++ capN) C fp s₂ H₂ pl xe) F' E'->FG (compCxX X scope (own ++ capN) C fp s₂ H₂ pl xe) F' tg g/\FE (compCxX X scope (own ++ capN) C fp s₂ H₂ pl xe) F' E' elt m)
    (hs:∀ x,foldedSetIterable iter X.env x=pure x:=by intro _; rfl):FE X F E (.ListComp elt [⟨tg,iter,[],0⟩] scope pos) (xCompE n caps s g m):=by
  subst hn
  have hg:=(hin 0 [] (PySem.start X.prog).1 (fun _=>none) [] (fun _ _=>False) F E0' ⟨hx.1,fun _ _ _ _ _ _ _ _ _ _ z=>z.elim⟩).1
  have A:=(pe_compX (Z:=fun c σ H=>∃ ρ O,DSt X.K F H σ ρ O/\E c ρ) (pos:=pos) S hc hst hfr (fun pins σ H s e c fl ⟨ρ,O,st,z⟩=>hx.2 pins σ H s e c ρ O fl st z) hi.pi (fun C fp s₂ H₂ pl xe Z hxe=>
    ⟨fun pins s σ H v u Q I r ⟨F',g',q⟩=>(hin C fp s₂ H₂ pl xe F' E0' ⟨g',fun _ _ _ _ _ _ _ _ _ _ z=>z.elim⟩).1.pg pins s σ H v u Q I r q,
     fun pins s σ H Q I ⟨F',E',g',hz,q⟩=>(hin C fp s₂ H₂ pl xe F' E' ⟨g',fun pins σ H s e c ρ O fl st z=>hxe pins σ H s e c fl (hz c σ H ρ O st z)⟩).2.pe pins s σ H Q I q⟩) hs).imp (rd_cmpE (E:=E) (PF:=GF X.mg) (fun _ _ _ _ _ st=>hx.1.into st) hi.mn hg.mn)
  exact DE.imp' ⟨mn_cmpE hi.mn,A⟩ mn_wp fun ρ Q q=>comp_ofE q
end
end L2.L3
namespace Due
noncomputable abbrev Sh:=List (Int × Int)
noncomputable def Rising:Int->Sh->Prop
 | _,[]=>True
 | lo,(b,_) :: r=>lo < b/\Rising b r
noncomputable def AheadOk (a:Int) (ss:Sh):Prop:=(-12<=a/\a<=14)/\∀ p ∈ ss,-12<=p.2/\p.2<=14
end Due
namespace Due
end Due
namespace Due
structure ZOk (a:Int) (ss:Sh):Prop where
 len:ss.length<=6
 rise:Rising 0 ss
 ah:AheadOk a ss
 top:∀ p ∈ ss,p.1<=9999
end Due
namespace K3
open PySem PySem.Spec L2 L2.L3 PyProof.Rows
noncomputable abbrev exL:List Str:=["NoZone","NoPlan","NoMoment","NoCount","NoDeeds","NoDeed","NoRunner","NoTerm","NotHolder","Nothing","NoCall","NoText","NoWidth","NoHolds"]
noncomputable def m_is_whole:SM:=(sRetV (xAnd (xIs "int" (xV 0)) (xAnd (xNot (xIs "bool" (xV 0))) (xChain (fun i j=>decide (i<=j)) (fun i j=>decide (i<=j)) (xV 1) (xV 0) (xV 2)))))
noncomputable def f_is_whole:FM:=fnM 3 3 m_is_whole
noncomputable def m_is_tuple_of:SM:=(sRetV (xAnd (xIs "tuple" (xV 0)) (xOp (gEq false) (xCB nLen (aCons (xV 0) aNil)) (xV 1))))
noncomputable def f_is_tuple_of:FM:=fnM 2 2 m_is_tuple_of
noncomputable def m_signed:SM:=(sRetV (xIf (xTst (xOp gLt (xV 0) (xC (.int 0)))) (xOp (gS2 catS) (xC (.str "-")) (xCB nStr (aCons (xNeg (xV 0)) aNil))) (xOp (gS2 catS) (xC (.str "+")) (xCB nStr (aCons (xV 0) aNil)))))
noncomputable def f_signed:FM:=fnM 1 1 m_signed
noncomputable def m_check_text:SM:=(sIfF (bNotF (xTst (xIs "str" (xV 0)))) (sRaiseF "NoText") sNx)
noncomputable def f_check_text:FM:=fnM 1 1 m_check_text
noncomputable def e_read_number_1:XM PyData:=(xOp (gS2 inS) (xV 0) (xC (.str "0123456789")))
noncomputable def m_read_number:SM:=(sThen (sIfF (bOrF (bNotF (xTst (xChain (fun i j=>decide (i<=j)) (fun i j=>decide (i<=j)) (xC (.int 1)) (xCB nLenT (aCons (xV 0) aNil)) (xC (.int (4)))))) (bNotF (xTst (xCB nAll (aCons (xComp 1 [] (iSt (xV 0)) (gNm 0) bTrue e_read_number_1) aNil))))) (sRaiseF "NoText") sNx)
  (sThen (sAsg (xCB nIntT (aCons (xV 0) aNil)) (gNm 1))
  (sThen (sIfF (xTst (xOp (gEq true) (xCB nStr (aCons (xV 1) aNil)) (xV 0))) (sRaiseF "NoText") sNx)
  (sRetV (xV 1)))))
noncomputable def f_read_number:FM:=fnM 1 2 m_read_number
noncomputable def m__law_cell_at:SM:=(sThen (sIfF (xTst (xOp gLt (xV 1) (xLenS 0))) (sRetV (xIxS 0 (xV 1))) sNx)
  (sThen (sIfF (bEqS 0) (sRetV (xC (.int 0))) sNx)
  (sRetV (xOp gAdd (xOp gMul (xIxS 0 (xOp gMod (xV 1) (xLenS 0))) (xC (.int 31))) (xV 1)))))
noncomputable def f__law_cell_at:FM:=fnM 2 2 m__law_cell_at
noncomputable def m__law_which:SM:=(sThen (sSetC 1 (xLstO (aCons (xIsX 0 exL "NoZone") (aCons (xIsX 0 exL "NoPlan") (aCons (xIsX 0 exL "NoMoment") (aCons (xIsX 0 exL "NoCount") aNil))))))
  (sThen (sExt 1 (xLst (aCons (xIsX 0 exL "NoDeeds") (aCons (xIsX 0 exL "NoDeed") (aCons (xIsX 0 exL "NoRunner") (aCons (xIsX 0 exL "NoTerm") aNil))))))
  (sThen (sExt 1 (xLst (aCons (xIsX 0 exL "NotHolder") (aCons (xIsX 0 exL "Nothing") (aCons (xIsX 0 exL "NoCall") (aCons (xIsX 0 exL "NoText") aNil))))))
  (sThen (sExt 1 (xLst (aCons (xIsX 0 exL "NoWidth") (aCons (xIsX 0 exL "NoHolds") aNil))))
  (sThen (sIfF (bOrF (xTst (xOp (gEq true) (xMt cntD 1 (xC (.bool true))) (xC (.int 1)))) (bNotF (xTst (xIsV 0 exL)))) (sRetV (xTup (aCons (xC (.str "refused")) (aCons (xNeg (xC (.int 1))) aNil)))) sNx)
  (sRetV (xTup (aCons (xC (.str "refused")) (aCons (xMt ixD 1 (xC (.bool true))) aNil)))))))))
noncomputable def f__law_which:FM:=fnM 1 2 m__law_which
noncomputable def m__law_ahead:SM:=(sRetV (xIf (xTst (xOp gLt (xV 0) (xC (.int 0)))) (xCB nStr (aCons (xV 0) aNil)) (xOp (gS2 catS) (xC (.str "+")) (xCB nStr (aCons (xV 0) aNil)))))
noncomputable def f__law_ahead:FM:=fnM 1 1 m__law_ahead
noncomputable def m_is_ahead:SM:=(sRetC (xCall f_is_whole (cVal (xV 0) (cVal (xC (.int (-12))) (cVal (xC (.int (14))) cNil)))))
noncomputable def f_is_ahead:FM:=fnM 1 1 m_is_ahead
noncomputable def m_read_ahead:SM:=(sThen (sAsg (xFrz (xCall f_read_number (cVal (xSlT (xV 0) (pIs (xC (.int 1))) pNo) cNil))) (gNm 1))
  (sThen (sIfF (xTst (xSM gSw (xV 0) (aCons (xC (.str "+")) aNil))) (sRetV (xV 1)) sNx)
  (sThen (sIfF (bAndF (xTst (xSM gSw (xV 0) (aCons (xC (.str "-")) aNil))) (xTst (xOp gGt (xV 1) (xC (.int 0))))) (sRetV (xNeg (xV 1))) sNx)
  (sRaiseF "NoText"))))
noncomputable def f_read_ahead:FM:=fnM 1 2 m_read_ahead
noncomputable def m__law_mixed:SM:=(sThen (sAsg (xOp gMod (xOp gAdd (xOp gAdd (xOp gMul (xFrz (xCall f__law_cell_at (cSlot 0 (cVal (xV 1) cNil)))) (xC (.int 1103515245))) (xOp gMul (xC (.int 7919)) (xV 1))) (xC (.int 12345))) (xC (.int 2147483647))) (gNm 3))
  (sRetV (xOp gMod (xOp gMod (xOp gMod (xOp gPow (xV 3) (xC (.int 5))) (xC (.int 2147483647))) (xC (.int 999983))) (xV 2))))
noncomputable def f__law_mixed:FM:=fnM 3 4 m__law_mixed
noncomputable def e__law_due_1:XM PyData:=(xTup (aCons (xFrz (xCall f__law_ahead (cVal (xV 0) cNil))) (aCons (xV 0) aNil)))
noncomputable def o__law_due_2:XM Cell:=(xDictP (xComp 1 [] (iLf rng2 (aCons (xNeg (xC (.int 12))) (aCons (xC (.int 15)) aNil))) (gNm 0) bTrue e__law_due_1))
noncomputable def e__law_due_3:XM PyData:=(xTup (aCons (xCB nStr (aCons (xV 0) aNil)) (aCons (xV 0) aNil)))
noncomputable def o__law_due_4:XM Cell:=(xDictP (xComp 1 [] (iLf rng2 (aCons (xC (.int 1)) (aCons (xC (.int 10000)) aNil))) (gNm 0) bTrue e__law_due_3))
noncomputable def t__law_due_5:XM Bool:=(xTst (xOp (gS2 inS) (xOp gIxS (xV 1) (xV 0)) (xC (.str "+-"))))
noncomputable def e__law_due_6:XM PyData:=(xV 0)
noncomputable def b__law_due_7:SM:=(sThen (sAsg (xComp 1 [6] (iLf rng1 (aCons (xCB nLenT (aCons (xV 6) aNil)) aNil)) (gNm 0) t__law_due_5 e__law_due_6) (gNm 7))
  (sThen (sIfF (bOrF (xTst (xOp (gEq false) (xV 7) (xLst aNil))) (bOrF (xTst (xDIn true 2 (xSlT (xV 6) pNo (pIs (xOp gIxA (xV 7) (xC (.int 0))))))) (bOrF (xTst (xDIn true 1 (xSlT (xV 6) (pIs (xOp gIxA (xV 7) (xC (.int 0)))) pNo))) (xTst (xOp gLe (xDGet 2 (xSlT (xV 6) pNo (pIs (xOp gIxA (xV 7) (xC (.int 0)))))) (xV 5)))))) (sRetV (xC .none)) sNx)
  (sThen (sAsg (xDGet 2 (xSlT (xV 6) pNo (pIs (xOp gIxA (xV 7) (xC (.int 0)))))) (gNm 5))
  (sAsg (xOp gCatT (xV 4) (xTup (aCons (xTup (aCons (xV 5) (aCons (xDGet 1 (xSlT (xV 6) (pIs (xOp gIxA (xV 7) (xC (.int 0)))) pNo)) aNil))) aNil))) (gNm 4)))))
noncomputable def m__law_due:SM:=(sThen (sSetC 1 o__law_due_2)
  (sThen (sSetC 2 o__law_due_4)
  (sThen (sAsg (xSM gSpl (xV 0) (aCons (xC (.str " ")) aNil)) (gNm 3))
  (sThen (sIfF (bOrF (xTst (xDIn true 1 (xOp gIxA (xV 3) (xC (.int 0))))) (xTst (xOp gGt (xCB nLen (aCons (xV 3) aNil)) (xC (.int 7))))) (sRetV (xC .none)) sNx)
  (sThen (sAsg (xTup (aCons (xTup aNil) (aCons (xC (.int 0)) aNil))) (gTup' 2 (gCons' (gNm 4) (gCons' (gNm 5) gNil'))))
  (sThen (sForF (iLs (xU (uTail 1) (xV 3))) (gNm 6) b__law_due_7)
  (sRetV (xTup (aCons (xDGet 1 (xOp gIxA (xV 3) (xC (.int 0)))) (aCons (xV 4) aNil))))))))))
noncomputable def f__law_due:FM:=fnM 1 8 m__law_due
noncomputable def b_are_shifts_1:SM:=(sThen (sIfF (bOrF (bNotF (xTst (xFrz (xCall f_is_tuple_of (cVal (xV 2) (cVal (xC (.int 2)) cNil)))))) (bNotF (xTst (xFrz (xCall f_is_ahead (cVal (xOp gIxA (xV 2) (xC (.int 1))) cNil)))))) (sRetV (xC (.bool false))) sNx)
  (sThen (sIfF (bNotF (xTst (xFrz (xCall f_is_whole (cVal (xOp gIxA (xV 2) (xC (.int 0))) (cVal (xV 1) (cVal (xC (.int (9999))) cNil))))))) (sRetV (xC (.bool false))) sNx)
  (sAsg (xOp gAdd (xOp gIxA (xV 2) (xC (.int 0))) (xC (.int 1))) (gNm 1))))
noncomputable def m_are_shifts:SM:=(sThen (sIfF (bOrF (bNotF (xTst (xIs "tuple" (xV 0)))) (xTst (xOp gGt (xCB nLen (aCons (xV 0) aNil)) (xC (.int (6)))))) (sRetV (xC (.bool false))) sNx)
  (sThen (sAsg (xC (.int 1)) (gNm 1))
  (sThen (sForF (iTs (xV 0)) (gNm 2) b_are_shifts_1)
  (sRetV (xC (.bool true))))))
noncomputable def f_are_shifts:FM:=fnM 1 3 m_are_shifts
noncomputable def m_read_shift:SM:=(sThen (sAsg (xCB nMax (aCons (xSM gFind (xV 0) (aCons (xC (.str "+")) aNil)) (aCons (xSM gFind (xV 0) (aCons (xC (.str "-")) aNil)) aNil))) (gNm 1))
  (sThen (sIfF (xTst (xOp gLt (xV 1) (xC (.int 0)))) (sRaiseF "NoText") sNx)
  (sRetV (xTup (aCons (xFrz (xCall f_read_number (cVal (xSlT (xV 0) pNo (pIs (xV 1))) cNil))) (aCons (xFrz (xCall f_read_ahead (cVal (xSlT (xV 0) (pIs (xV 1)) pNo) cNil))) aNil))))))
noncomputable def f_read_shift:FM:=fnM 1 2 m_read_shift
noncomputable def m__law_draw:SM:=(sThen (sApp 1 (xC (.int 0)))
  (sRetC (xCall f__law_mixed (cSlot 0 (cVal (xLenN 1) (cVal (xV 2) cNil))))))
noncomputable def f__law_draw:FM:=fnM 3 3 m__law_draw
noncomputable def m_is_zone:SM:=(sRetV (xAnd (xFrz (xCall f_is_tuple_of (cVal (xV 0) (cVal (xC (.int 2)) cNil)))) (xAnd (xFrz (xCall f_is_ahead (cVal (xOp gIxA (xV 0) (xC (.int 0))) cNil))) (xFrz (xCall f_are_shifts (cVal (xOp gIxA (xV 0) (xC (.int 1))) cNil))))))
noncomputable def f_is_zone:FM:=fnM 1 1 m_is_zone
noncomputable def m__law_pick:SM:=(sRetV (xOp gIxA (xV 2) (xFrz (xCall f__law_draw (cSlot 0 (cSlot 1 (cVal (xCB nLen (aCons (xV 2) aNil)) cNil)))))))
noncomputable def f__law_pick:FM:=fnM 3 3 m__law_pick
noncomputable def m_check_zone:SM:=(sIfF (bNotF (xTst (xFrz (xCall f_is_zone (cVal (xV 0) cNil))))) (sRaiseF "NoZone") sNx)
noncomputable def f_check_zone:FM:=fnM 1 1 m_check_zone
noncomputable def e_read_zone_1:XM PyData:=(xFrz (xCall f_read_shift (cVal (xV 0) cNil)))
noncomputable def m_read_zone:SM:=(sThen (sDoC (xCall f_check_text (cVal (xV 0) cNil)))
  (sThen (sAsg (xSM gSpl (xV 0) (aCons (xC (.str " ")) aNil)) (gNm 1))
  (sThen (sAsg (xTup (aCons (xFrz (xCall f_read_ahead (cVal (xOp gIxA (xV 1) (xC (.int 0))) cNil))) (aCons (xCB nTuple (aCons (xCompE 1 [] (iLs (xU (uTail 1) (xV 1))) (gNm 0) e_read_zone_1) aNil)) aNil))) (gNm 2))
  (sThen (sIfF (bNotF (xTst (xFrz (xCall f_is_zone (cVal (xV 2) cNil))))) (sRaiseF "NoText") sNx)
  (sRetV (xV 2))))))
noncomputable def f_read_zone:FM:=fnM 1 3 m_read_zone
noncomputable def b__law_zone_1:SM:=(sThen (sAsg (xOp gAdd (xOp gAdd (xV 4) (xC (.int 1))) (xFrz (xCall f__law_draw (cSlot 0 (cSlot 1 (cVal (xV 2) cNil)))))) (gNm 4))
  (sAsg (xOp gCatT (xV 3) (xTup (aCons (xTup (aCons (xV 4) (aCons (xFrz (xCall f__law_pick (cSlot 0 (cSlot 1 (cVal (xLst (aCons (xC (.int 0)) (aCons (xC (.int 1)) (aCons (xC (.int 2)) (aCons (xNeg (xC (.int 1))) (aCons (xC (.int 14)) (aCons (xNeg (xC (.int 12))) (aCons (xC (.int 3)) aNil)))))))) cNil))))) aNil))) aNil))) (gNm 3)))
noncomputable def m__law_zone:SM:=(sThen (sAsg (xTup (aCons (xTup aNil) (aCons (xC (.int 0)) aNil))) (gTup' 2 (gCons' (gNm 3) (gCons' (gNm 4) gNil'))))
  (sThen (sForF (iLf rng1 (aCons (xFrz (xCall f__law_draw (cSlot 0 (cSlot 1 (cVal (xC (.int 5)) cNil))))) aNil)) (gNm 5) b__law_zone_1)
  (sRetV (xTup (aCons (xFrz (xCall f__law_pick (cSlot 0 (cSlot 1 (cVal (xLst (aCons (xC (.int 0)) (aCons (xC (.int 1)) (aCons (xC (.int 2)) (aCons (xNeg (xC (.int 1))) (aCons (xC (.int 14)) (aCons (xNeg (xC (.int 12))) aNil))))))) cNil))))) (aCons (xV 3) aNil))))))
noncomputable def f__law_zone:FM:=fnM 3 6 m__law_zone
noncomputable def m__law_odd_zone:SM:=(sThen (sAsg (xLst (aCons (xC .none) (aCons (xC (.int 5)) (aCons (xTup aNil) (aCons (xTup (aCons (xC (.int 0)) aNil)) (aCons (xTup (aCons (xC (.int 15)) (aCons (xTup aNil) aNil))) (aCons (xTup (aCons (xNeg (xC (.int 13))) (aCons (xTup aNil) aNil))) (aCons (xTup (aCons (xC (.int 0)) (aCons (xTup (aCons (xTup (aCons (xC (.int 0)) (aCons (xC (.int 1)) aNil))) aNil)) aNil))) (aCons (xTup (aCons (xC (.int 0)) (aCons (xTup (aCons (xTup (aCons (xC (.int 5)) (aCons (xC (.int 15)) aNil))) aNil)) aNil))) (aCons (xTup (aCons (xC (.int 0)) (aCons (xTup (aCons (xTup (aCons (xC (.int 5)) (aCons (xC (.int 1)) aNil))) (aCons (xTup (aCons (xC (.int 5)) (aCons (xC (.int 2)) aNil))) aNil))) aNil))) aNil)))))))))) (gNm 2))
  (sThen (sAsg (xOp gCatL (xV 2) (xLst (aCons (xTup (aCons (xC (.int 0)) (aCons (xLst (aCons (xTup (aCons (xC (.int 5)) (aCons (xC (.int 1)) aNil))) aNil)) aNil))) (aCons (xLst (aCons (xC (.int 0)) (aCons (xTup aNil) aNil))) (aCons (xTup (aCons (xC (.bool true)) (aCons (xTup aNil) aNil))) (aCons (xTup (aCons (xC (.int 0)) (aCons (xTup (aCons (xTup (aCons (xC (.int 5)) aNil)) aNil)) aNil))) (aCons (xC (.str "+0")) (aCons (xTup (aCons (xC (.int 0)) (aCons (xTup (aCons (xTup (aCons (xC (.int 9)) (aCons (xC (.int 1)) aNil))) (aCons (xTup (aCons (xC (.int 5)) (aCons (xC (.int 2)) aNil))) aNil))) aNil))) aNil)))))))) (gNm 2))
  (sRetC (xCall f__law_pick (cSlot 0 (cSlot 1 (cVal (xV 2) cNil)))))))
noncomputable def f__law_odd_zone:FM:=fnM 2 3 m__law_odd_zone
noncomputable def e_zone_text_1:XM PyData:=(xOp (gS2 catS) (xCB nStr (aCons (xOp gIxA (xV 0) (xC (.int 0))) aNil)) (xFrz (xCall f_signed (cVal (xOp gIxA (xV 0) (xC (.int 1))) cNil))))
noncomputable def m_zone_text:SM:=(sThen (sDoC (xCall f_check_zone (cVal (xV 0) cNil)))
  (sRetV (xSM gJoin (xC (.str " ")) (aCons (xOp gCatL (xLst (aCons (xFrz (xCall f_signed (cVal (xOp gIxA (xV 0) (xC (.int 0))) cNil))) aNil)) (xComp 1 [] (iTs (xOp gIxA (xV 0) (xC (.int 1)))) (gNm 0) bTrue e_zone_text_1)) aNil))))
noncomputable def f_zone_text:FM:=fnM 1 1 m_zone_text
noncomputable def m__law_ask:SM:=(sTryA exL 2 (sRetC (xCall2 f_read_zone f_zone_text (xV 0) (cVal (xV 1) cNil))) (sRetC (xCall f__law_which (cSlot 2 cNil))))
noncomputable def f__law_ask:FM:=fnM 2 3 m__law_ask
noncomputable def c_law_1:SM:=(sSetC 1 (xLstO aNil))
noncomputable def c_law_2:SM:=(sAsg (xFrz (xCall f__law_draw (cSlot 0 (cSlot 1 (cVal (xC (.int 3)) cNil))))) (gNm 2))
noncomputable def c_law_3:SM:=(sAsg (xFrz (xCall f__law_zone (cSlot 0 (cSlot 1 (cVal (xFrz (xCall f__law_pick (cSlot 0 (cSlot 1 (cVal (xLst (aCons (xC (.int 3)) (aCons (xC (.int 90)) (aCons (xC (.int 1900)) aNil)))) cNil))))) cNil))))) (gNm 3))
noncomputable def e_law_4:XM PyData:=(xOp (gS2 catS) (xCB nStr (aCons (xV 0) aNil)) (xFrz (xCall f__law_ahead (cVal (xV 1) cNil))))
noncomputable def c_law_5:SM:=(sAsg (xSM gJoin (xC (.str " ")) (aCons (xOp gCatL (xLst (aCons (xFrz (xCall f__law_ahead (cVal (xOp gIxA (xV 3) (xC (.int 0))) cNil))) aNil)) (xComp 2 [] (iTs (xOp gIxA (xV 3) (xC (.int 1)))) (gTup' 2 (gCons' (gNm 0) (gCons' (gNm 1) gNil'))) bTrue e_law_4)) aNil)) (gNm 4))
noncomputable def c_law_6:SM:=(sIfF (bOrF (xTst (xOp (gEq true) (xFrz (xCall f_zone_text (cVal (xV 3) cNil))) (xV 4))) (xTst (xOp (gEq true) (xFrz (xCall f_read_zone (cVal (xV 4) cNil))) (xV 3)))) (sRetV (xC (.bool false))) sNx)
noncomputable def b_law_7:SM:=(sThen (sAsg (xFrz (xCall f__law_draw (cSlot 0 (cSlot 1 (cVal (xOp gAdd (xCB nLenT (aCons (xV 4) aNil)) (xC (.int 1))) cNil))))) (gNm 6))
  (sThen (sAsg (xFrz (xCall f__law_pick (cSlot 0 (cSlot 1 (cVal (xLst (aCons (xC (.str "")) (aCons (xC (.str "0")) (aCons (xC (.str "1")) (aCons (xC (.str "9")) (aCons (xC (.str "+")) (aCons (xC (.str "-")) (aCons (xC (.str " ")) (aCons (xC (.str " 9+1")) (aCons (xC (.str "a")) aNil)))))))))) cNil))))) (gNm 7))
  (sAsg (xOp (gS2 catS) (xOp (gS2 catS) (xSlT (xV 4) pNo (pIs (xV 6))) (xV 7)) (xSlT (xV 4) (pIs (xOp gAdd (xV 6) (xFrz (xCall f__law_draw (cSlot 0 (cSlot 1 (cVal (xC (.int 2)) cNil))))))) pNo)) (gNm 4))))
noncomputable def c_law_8:SM:=(sForF (iLf rng1 (aCons (xV 2) aNil)) (gNm 5) b_law_7)
noncomputable def c_law_9:SM:=(sAsg (xFrz (xCall f__law_due (cVal (xV 4) cNil))) (gNm 8))
noncomputable def c_law_10:SM:=(sIfF (xTst (xOp (gEq true) (xFrz (xCall f__law_ask (cVal (xC (.int 0)) (cVal (xV 4) cNil)))) (xIf (xTst (xOp gIsNot (xV 8) (xC .none))) (xV 8) (xTup (aCons (xC (.str "refused")) (aCons (xC (.int 11)) aNil)))))) (sRetV (xC (.bool false))) sNx)
noncomputable def c_law_11:SM:=(sAsg (xLst (aCons (xC .none) (aCons (xC (.int 5)) (aCons (xC (.str "")) (aCons (xC (.str "0")) (aCons (xC (.str "-0")) (aCons (xC (.str "+15")) (aCons (xC (.str "-13")) (aCons (xC (.str "+0 5")) (aCons (xC (.str "+0 0+1")) (aCons (xC (.str "+0 05+1")) (aCons (xC (.str "+0 5+1 5+2")) (aCons (xC (.str "+0  5+1")) (aCons (xC (.str "+0 ")) (aCons (xTup (aCons (xC (.str "+0")) aNil)) aNil))))))))))))))) (gNm 9))
noncomputable def c_law_12:SM:=(sIfF (xTst (xOp (gEq true) (xFrz (xCall f__law_ask (cVal (xC (.int 0)) (cVal (xFrz (xCall f__law_pick (cSlot 0 (cSlot 1 (cVal (xV 9) cNil))))) cNil)))) (xTup (aCons (xC (.str "refused")) (aCons (xC (.int 11)) aNil))))) (sRetV (xC (.bool false))) sNx)
noncomputable def c_law_13:SM:=(sRetV (xOp (gEq false) (xFrz (xCall f__law_ask (cVal (xC (.int 1)) (cVal (xFrz (xCall f__law_odd_zone (cSlot 0 (cSlot 1 cNil)))) cNil)))) (xTup (aCons (xC (.str "refused")) (aCons (xC (.int 0)) aNil)))))
noncomputable def m_law:SM:=(sThen c_law_1
  (sThen c_law_2
  (sThen c_law_3
  (sThen c_law_5
  (sThen c_law_6
  (sThen c_law_8
  (sThen c_law_9
  (sThen c_law_10
  (sThen c_law_11
  (sThen c_law_12
  c_law_13))))))))))
noncomputable def f_law:FM:=fnM 1 10 m_law
end K3
namespace K3
open PySem PySem.Spec L2 L2.L3 PyProof.Rows
noncomputable def top (i:Nat):Stmt:=PySem.Challenge.pw_duehall_k23_whole_zone_texts.main.body.getD i (.Pass ⟨0,0,0,0⟩)
noncomputable abbrev s_is_whole:Stmt:=top 21
noncomputable abbrev s_is_tuple_of:Stmt:=top 22
noncomputable abbrev s_is_ahead:Stmt:=top 23
noncomputable abbrev s_are_shifts:Stmt:=top 24
noncomputable abbrev s_is_zone:Stmt:=top 25
noncomputable abbrev s_check_zone:Stmt:=top 26
noncomputable abbrev s_signed:Stmt:=top 30
noncomputable abbrev s_zone_text:Stmt:=top 31
noncomputable abbrev s_check_text:Stmt:=top 32
noncomputable abbrev s_read_number:Stmt:=top 33
noncomputable abbrev s_read_ahead:Stmt:=top 34
noncomputable abbrev s_read_shift:Stmt:=top 35
noncomputable abbrev s_read_zone:Stmt:=top 36
noncomputable abbrev s__law_cell_at:Stmt:=top 38
noncomputable abbrev s__law_mixed:Stmt:=top 39
noncomputable abbrev s__law_draw:Stmt:=top 40
noncomputable abbrev s__law_pick:Stmt:=top 41
noncomputable abbrev s__law_zone:Stmt:=top 42
noncomputable abbrev s__law_odd_zone:Stmt:=top 46
noncomputable abbrev s__law_which:Stmt:=top 48
noncomputable abbrev s__law_ask:Stmt:=top 49
noncomputable abbrev s__law_ahead:Stmt:=top 50
noncomputable abbrev s__law_due:Stmt:=top 51
noncomputable abbrev s_law:Stmt:=top 52
theorem sc_is_whole:FnScope ["thing","least","most"] ["thing","least","most"] (defScope s_is_whole):=scm
theorem sc_is_tuple_of:FnScope ["thing","length"] ["thing","length"] (defScope s_is_tuple_of):=scm
theorem sc_is_ahead:FnScope ["thing"] ["thing"] (defScope s_is_ahead):=scm
theorem sc_are_shifts:FnScope ["thing","earliest","shift"] ["thing"] (defScope s_are_shifts):=scm
theorem sc_is_zone:FnScope ["thing"] ["thing"] (defScope s_is_zone):=scm
theorem sc_check_zone:FnScope ["thing"] ["thing"] (defScope s_check_zone):=scm
theorem sc_signed:FnScope ["ahead"] ["ahead"] (defScope s_signed):=scm
theorem sc_zone_text:FnScope ["zone"] ["zone"] (defScope s_zone_text):=scm
theorem sc_check_text:FnScope ["thing"] ["thing"] (defScope s_check_text):=scm
theorem sc_read_number:FnScope ["text","number"] ["text"] (defScope s_read_number):=scm
theorem sc_read_ahead:FnScope ["text","number"] ["text"] (defScope s_read_ahead):=scm
theorem sc_read_shift:FnScope ["text","place"] ["text"] (defScope s_read_shift):=scm
theorem sc_read_zone:FnScope ["text","parts","zone"] ["text"] (defScope s_read_zone):=scm
theorem sc__law_cell_at:FnScope ["_law_script","_law_k"] ["_law_script","_law_k"] (defScope s__law_cell_at):=scm
theorem sc__law_mixed:FnScope ["_law_script","_law_k","_law_many","_law_drawn"] ["_law_script","_law_k","_law_many"] (defScope s__law_mixed):=scm
theorem sc__law_draw:FnScope ["_law_script","_law_town","_law_many"] ["_law_script","_law_town","_law_many"] (defScope s__law_draw):=scm
theorem sc__law_pick:FnScope ["_law_script","_law_town","_law_some"] ["_law_script","_law_town","_law_some"] (defScope s__law_pick):=scm
theorem sc__law_zone:FnScope ["_law_script","_law_town","_law_wide","_law_made","_law_at","_law_k"] ["_law_script","_law_town","_law_wide"] (defScope s__law_zone):=scm
theorem sc__law_odd_zone:FnScope ["_law_script","_law_town","_law_some"] ["_law_script","_law_town"] (defScope s__law_odd_zone):=scm
theorem sc__law_which:FnScope ["_law_e","_law_own"] ["_law_e"] (defScope s__law_which):=scm
theorem sc__law_ask:FnScope ["_law_what","_law_thing","_law_e"] ["_law_what","_law_thing"] (defScope s__law_ask):=scm
theorem sc__law_ahead:FnScope ["_law_ahead_here"] ["_law_ahead_here"] (defScope s__law_ahead):=scm
theorem sc__law_due:FnScope ["_law_text","_law_book","_law_numbers","_law_words","_law_made","_law_last","_law_word","_law_some"] ["_law_text"] (defScope s__law_due):=scm
theorem sc_law:FnScope ["_law_script","_law_town","_law_often","_law_zone_here","_law_text","_law_k","_law_at","_law_more","_law_wanted","_law_odd"] ["_law_script"] (defScope s_law):=scm
structure Tx (K:PySem.W.Frag) (mg:Str->Option Value):Prop where
 d_is_whole:∃ g fd,FD K mg "is_whole" s_is_whole ["thing","least","most"] g fd
 d_is_tuple_of:∃ g fd,FD K mg "is_tuple_of" s_is_tuple_of ["thing","length"] g fd
 d_is_ahead:∃ g fd,FD K mg "is_ahead" s_is_ahead ["thing"] g fd
 d_are_shifts:∃ g fd,FD K mg "are_shifts" s_are_shifts ["thing"] g fd
 d_is_zone:∃ g fd,FD K mg "is_zone" s_is_zone ["thing"] g fd
 d_check_zone:∃ g fd,FD K mg "check_zone" s_check_zone ["thing"] g fd
 d_signed:∃ g fd,FD K mg "signed" s_signed ["ahead"] g fd
 d_zone_text:∃ g fd,FD K mg "zone_text" s_zone_text ["zone"] g fd
 d_check_text:∃ g fd,FD K mg "check_text" s_check_text ["thing"] g fd
 d_read_number:∃ g fd,FD K mg "read_number" s_read_number ["text"] g fd
 d_read_ahead:∃ g fd,FD K mg "read_ahead" s_read_ahead ["text"] g fd
 d_read_shift:∃ g fd,FD K mg "read_shift" s_read_shift ["text"] g fd
 d_read_zone:∃ g fd,FD K mg "read_zone" s_read_zone ["text"] g fd
 d__law_cell_at:∃ g fd,FD K mg "_law_cell_at" s__law_cell_at ["_law_script","_law_k"] g fd
 d__law_mixed:∃ g fd,FD K mg "_law_mixed" s__law_mixed ["_law_script","_law_k","_law_many"] g fd
 d__law_draw:∃ g fd,FD K mg "_law_draw" s__law_draw ["_law_script","_law_town","_law_many"] g fd
 d__law_pick:∃ g fd,FD K mg "_law_pick" s__law_pick ["_law_script","_law_town","_law_some"] g fd
 d__law_zone:∃ g fd,FD K mg "_law_zone" s__law_zone ["_law_script","_law_town","_law_wide"] g fd
 d__law_odd_zone:∃ g fd,FD K mg "_law_odd_zone" s__law_odd_zone ["_law_script","_law_town"] g fd
 d__law_which:∃ g fd,FD K mg "_law_which" s__law_which ["_law_e"] g fd
 d__law_ask:∃ g fd,FD K mg "_law_ask" s__law_ask ["_law_what","_law_thing"] g fd
 d__law_ahead:∃ g fd,FD K mg "_law_ahead" s__law_ahead ["_law_ahead_here"] g fd
 d__law_due:∃ g fd,FD K mg "_law_due" s__law_due ["_law_text"] g fd
 c_LAST_MOMENT:∃ t,mg "LAST_MOMENT" = some (.int (9999) t)
 c_LEAST_AHEAD:∃ t,mg "LEAST_AHEAD" = some (.int (-12) t)
 c_MOST_AHEAD:∃ t,mg "MOST_AHEAD" = some (.int (14) t)
 c_MOST_SHIFTS:∃ t,mg "MOST_SHIFTS" = some (.int (6) t)
 c_FIGURES:∃ t,mg "FIGURES" = some (.str "0123456789" t)
 c_MOST_FIGURES:∃ t,mg "MOST_FIGURES" = some (.int (4) t)
 b_ValueError:mg "ValueError" = none
 b_all:mg "all" = none
 b_bool:mg "bool" = none
 b_dict:mg "dict" = none
 b_int:mg "int" = none
 b_isinstance:mg "isinstance" = none
 b_len:mg "len" = none
 b_max:mg "max" = none
 b_range:mg "range" = none
 b_str:mg "str" = none
 b_tuple:mg "tuple" = none
 xt0:∃ D,XT K mg exL D
theorem bt_int:bootBuiltins "int" = some (.type "int"):=by decide +kernel
theorem bt_bool:bootBuiltins "bool" = some (.type "bool"):=by decide +kernel
theorem bt_str:bootBuiltins "str" = some (.type "str"):=by decide +kernel
theorem bt_tuple:bootBuiltins "tuple" = some (.type "tuple"):=by decide +kernel
theorem bt_list:bootBuiltins "list" = some (.type "list"):=by decide +kernel
theorem bt_max:bootBuiltins "max" = some (.builtin "max"):=by decide +kernel
theorem bt_divmod:bootBuiltins "divmod" = some (.builtin "divmod"):=by decide +kernel
theorem bt_all:bootBuiltins "all" = some (.builtin "all"):=by decide +kernel
theorem bt_any:bootBuiltins "any" = some (.builtin "any"):=by decide +kernel
theorem bt_sum:bootBuiltins "sum" = some (.builtin "sum"):=by decide +kernel
theorem bt_min:bootBuiltins "min" = some (.builtin "min"):=by decide +kernel
theorem bt_sorted:bootBuiltins "sorted" = some (.builtin "sorted"):=by decide +kernel
theorem roomH_units {k:Nat} {A:Around} (r:RoomH k A):A.units + 64 < cLine:=by have:=r.un; omega
theorem xok0 {X:Cx} {F:Fx} (hG:GF X.mg F):XOk X F E0':=⟨hG,fun _ _ _ _ _ _ _ _ _ _ z=>z.elim⟩
end K3
namespace K3
open PySem PySem.Spec L2 L2.L3 PyProof.Rows
section
variable (P:Program) (w:World) {K:PySem.W.Frag} {mg:Str->Option Value} (base:Heap)
theorem ok_is_whole {g:Addr} {fd:FuncData} (T:Tx K mg) (D:FD K mg "is_whole" s_is_whole ["thing","least","most"] g fd):FnOk P w K mg base (CXM P w) 1 g fd ["thing","least","most"] (spF K mg f_is_whole):=by
 refine fn_F D.fn sc_is_whole (by decide) ?_
 intro cdv A outer s H E F E' hr hx
 unfold m_is_whole
 refine fss_one ?_
 refine fs_ret ?_
 ·exact (fe_and (fe_is (de_isinst rfl T.b_isinstance (fv 0) (pe_bltn rfl T.b_int bt_int rfl))) (fe_and (fe_not (fe_is (de_isinst rfl T.b_isinstance (fv 0) (pe_bltn rfl T.b_bool bt_bool rfl)))) (fe_one (fe_lele (fv 1) (fv 0) (fv 2)))))
theorem ok_is_tuple_of {g:Addr} {fd:FuncData} (T:Tx K mg) (D:FD K mg "is_tuple_of" s_is_tuple_of ["thing","length"] g fd):FnOk P w K mg base (CXM P w) 1 g fd ["thing","length"] (spF K mg f_is_tuple_of):=by
 refine fn_F D.fn sc_is_tuple_of (by decide) ?_
 intro cdv A outer s H E F E' hr hx
 unfold m_is_tuple_of
 refine fss_one ?_
 refine fs_ret ?_
 ·exact (fe_and (fe_is (de_isinst rfl T.b_isinstance (fv 0) (pe_bltn rfl T.b_tuple bt_tuple rfl))) (fe_one (fe_eq hr.units (fe_cb fn_len (de_callB call_len_seq n_len rfl T.b_len PySem.boot_len (fa_c (fv 0) fa_nil))) (fv 1))))
theorem ok_signed {g:Addr} {fd:FuncData} (T:Tx K mg) (D:FD K mg "signed" s_signed ["ahead"] g fd):FnOk P w K mg base (CXM P w) 1 g fd ["ahead"] (spF K mg f_signed):=by
 refine fn_F D.fn sc_signed (by decide) ?_
 intro cdv A outer s H E F E' hr hx
 unfold m_signed
 refine fss_one ?_
 refine fs_ret ?_
 ·exact (fe_if (fb_lt (fv 0) (fe_c de_int)) (fe_addS (fe_c de_str) (fe_cb fn_str (de_callTy call_str_int n_str rfl T.b_str bt_str (fa_c (fe_neg (fv 0)) fa_nil)))) (fe_addS (fe_c de_str) (fe_cb fn_str (de_callTy call_str_int n_str rfl T.b_str bt_str (fa_c (fv 0) fa_nil)))))
theorem ok_check_text {g:Addr} {fd:FuncData} (T:Tx K mg) (D:FD K mg "check_text" s_check_text ["thing"] g fd):FnOk P w K mg base (CXM P w) 1 g fd ["thing"] (spF K mg f_check_text):=by
 obtain ⟨DE_,xt⟩:=T.xt0
 obtain ⟨C_NoText,E_NoText,_⟩:=xt.at_ (c:="NoText") (by decide +kernel)
 refine fn_F D.fn sc_check_text (by decide) ?_
 intro cdv A outer s H E F E' hr hx
 unfold m_check_text
 refine fss_one ?_
 refine fs_if ?_ ?_ ?_
 ·exact (fb_not (fb_val (db_val (fe_is (de_isinst rfl T.b_isinstance (fv 0) (pe_bltn rfl T.b_str bt_str rfl))))))
 ·refine fss_one ?_
  exact (fs_raise hx hr.hd rfl E_NoText)
 ·exact fss_nil
theorem ok_read_number {g:Addr} {fd:FuncData} (T:Tx K mg) (D:FD K mg "read_number" s_read_number ["text"] g fd):FnOk P w K mg base (CXM P w) 1 g fd ["text"] (spF K mg f_read_number):=by
 obtain ⟨t_FIGURES,g_FIGURES⟩:=T.c_FIGURES
 obtain ⟨t_MOST_FIGURES,g_MOST_FIGURES⟩:=T.c_MOST_FIGURES
 obtain ⟨DE_,xt⟩:=T.xt0
 obtain ⟨C_NoText,E_NoText,_⟩:=xt.at_ (c:="NoText") (by decide +kernel)
 refine fn_F D.fn sc_read_number (by decide) ?_
 intro cdv A outer s H E F E' hr hx
 unfold m_read_number
 refine fss_cons ?_ ?_
 ·refine fs_if ?_ ?_ ?_
  ·exact (fb_w (fw_or (fb_not (fb_lele (fe_c de_int) (fe_cb fn_lenT (de_callB call_len_str n_lenT rfl T.b_len PySem.boot_len (fa_c (fv 0) fa_nil))) (fe_c (de_gint rfl g_MOST_FIGURES)))) (fw_or1 (fb_not (fb_val (db_val (fe_cb fn_all (de_callB (call_allB rfl) n_all rfl T.b_all bt_all (fa_c (fe_comp hx.1 (CompScope.of (own:=["sign"]) (capN:=[]) (caps:=[])) rfl rfl (fi_str (fv 0)) (fun _ _ _ _ _ _ hg=>⟨(fgn 0 (show ((["sign"]:List Str) ++ ([]:List Str)).Nodup from by decide +kernel)),fbs_nil,(fe_inS (fv 0) (fe_c (de_gstr rfl g_FIGURES)))⟩)) fa_nil)))))))))
  ·refine fss_one ?_
   exact (fs_raise hx hr.hd rfl E_NoText)
  ·exact fss_nil
 refine fss_cons ?_ ?_
 ·refine fs_set (i:=1) ?_ ?_ ?_ ?_ ?_ ?_ <;> try first|rfl|exact .inl rfl|exact .inr rfl|assumption|exact fun _=>rfl
  ·exact sc_read_number.nd
  ·exact (fe_cb fn_intT (de_callTy call_int_text n_intT rfl T.b_int bt_int (fa_c (fv 0) fa_nil)))
 refine fss_cons ?_ ?_
 ·refine fs_if ?_ ?_ ?_
  ·exact (fb_ne hr.units (fe_cb fn_str (de_callTy call_str_int n_str rfl T.b_str bt_str (fa_c (fv 1) fa_nil))) (fv 0))
  ·refine fss_one ?_
   exact (fs_raise hx hr.hd rfl E_NoText)
  ·exact fss_nil
 refine fss_one ?_
 refine fs_ret ?_
 ·exact (fv 1)
theorem ok__law_cell_at {g:Addr} {fd:FuncData} (T:Tx K mg) (D:FD K mg "_law_cell_at" s__law_cell_at ["_law_script","_law_k"] g fd):FnOk P w K mg base (CXM P w) 1 g fd ["_law_script","_law_k"] (spF K mg f__law_cell_at):=by
 refine fn_F D.fn sc__law_cell_at (by decide) ?_
 intro cdv A outer s H E F E' hr hx
 unfold m__law_cell_at
 refine fss_cons ?_ ?_
 ·refine fs_if ?_ ?_ ?_
  ·exact (fb_lt (fv 1) (fe_lenS (de_lenS rfl T.b_len (pv 0))))
  ·refine fss_one ?_
   refine fs_ret ?_
   ·exact (fe_ixS (de_ixS (pv 0) (fv 1) (by intro _ _; rfl)))
  ·exact fss_nil
 refine fss_cons ?_ ?_
 ·refine fs_if ?_ ?_ ?_
  ·exact (fb_eqS (db_eqS hr.units (pv 0)))
  ·refine fss_one ?_
   refine fs_ret ?_
   ·exact (fe_c de_int)
  ·exact fss_nil
 refine fss_one ?_
 refine fs_ret ?_
 ·exact (fe_add (fe_mul (fe_ixS (de_ixS (pv 0) (fe_mod (fv 1) (fe_lenS (de_lenS rfl T.b_len (pv 0)))) (by intro _ _; rfl))) (fe_c de_int)) (fv 1))
theorem ok__law_which {g:Addr} {fd:FuncData} (T:Tx K mg) (D:FD K mg "_law_which" s__law_which ["_law_e"] g fd):FnOkH P w K mg base (CXM P w) 1 g fd ["_law_e"] (spF K mg f__law_which):=by
 obtain ⟨DE_,xt⟩:=T.xt0
 refine fn_FH D.fn sc__law_which (by decide) ?_
 intro cdv A outer s H E F E' hr hx
 unfold m__law_which
 refine fss_cons ?_ ?_
 ·refine fs_setO (i:=1) ?_ ?_ ?_ ?_ ?_ ?_ <;> try first|rfl|exact .inl rfl|exact .inr rfl|assumption|exact fun _=>rfl
  ·exact sc__law_which.nd
  ·exact (fo_lst (fa_c (fe_isX xt rfl T.b_isinstance (pv 0) rfl (by decide +kernel)) (fa_c (fe_isX xt rfl T.b_isinstance (pv 0) rfl (by decide +kernel)) (fa_c (fe_isX xt rfl T.b_isinstance (pv 0) rfl (by decide +kernel)) (fa_c (fe_isX xt rfl T.b_isinstance (pv 0) rfl (by decide +kernel)) fa_nil)))))
 refine fss_cons ?_ ?_
 ·refine fs_ext ?_ ?_ ?_ ?_ ?_ ?_ ?_ ?_ <;> try first|rfl|exact .inl rfl|exact .inr rfl|assumption|exact fun _=>rfl
  ·exact (pv 1)
  ·exact (fe_lst (fa_c (fe_isX xt rfl T.b_isinstance (pv 0) rfl (by decide +kernel)) (fa_c (fe_isX xt rfl T.b_isinstance (pv 0) rfl (by decide +kernel)) (fa_c (fe_isX xt rfl T.b_isinstance (pv 0) rfl (by decide +kernel)) (fa_c (fe_isX xt rfl T.b_isinstance (pv 0) rfl (by decide +kernel)) fa_nil)))))
 refine fss_cons ?_ ?_
 ·refine fs_ext ?_ ?_ ?_ ?_ ?_ ?_ ?_ ?_ <;> try first|rfl|exact .inl rfl|exact .inr rfl|assumption|exact fun _=>rfl
  ·exact (pv 1)
  ·exact (fe_lst (fa_c (fe_isX xt rfl T.b_isinstance (pv 0) rfl (by decide +kernel)) (fa_c (fe_isX xt rfl T.b_isinstance (pv 0) rfl (by decide +kernel)) (fa_c (fe_isX xt rfl T.b_isinstance (pv 0) rfl (by decide +kernel)) (fa_c (fe_isX xt rfl T.b_isinstance (pv 0) rfl (by decide +kernel)) fa_nil)))))
 refine fss_cons ?_ ?_
 ·refine fs_ext ?_ ?_ ?_ ?_ ?_ ?_ ?_ ?_ <;> try first|rfl|exact .inl rfl|exact .inr rfl|assumption|exact fun _=>rfl
  ·exact (pv 1)
  ·exact (fe_lst (fa_c (fe_isX xt rfl T.b_isinstance (pv 0) rfl (by decide +kernel)) (fa_c (fe_isX xt rfl T.b_isinstance (pv 0) rfl (by decide +kernel)) fa_nil)))
 refine fss_cons ?_ ?_
 ·refine fs_if ?_ ?_ ?_
  ·exact (fb_w (fw_or (fb_ne (roomH_units hr) (fe_mt (g:=cntD) PySem.F.slot_list_count PySem.F.type_list_count mt_count cnt_ok (pv 1) (fe_c de_bl)) (fe_c de_int)) (fw_or1 (fb_not (fb_val (db_val (fe_isV xt rfl T.b_isinstance (pv 0) rfl T.b_ValueError)))))))
  ·refine fss_one ?_
   refine fs_ret ?_
   ·exact (fe_tup (fa_c (fe_c de_str) (fa_c (fe_neg (fe_c de_int)) fa_nil)))
  ·exact fss_nil
 refine fss_one ?_
 refine fs_ret ?_
 ·exact (fe_tup (fa_c (fe_c de_str) (fa_c (fe_mt (g:=ixD) PySem.F.slot_list_index PySem.F.type_list_index mt_index ix_ok (pv 1) (fe_c de_bl)) fa_nil)))
theorem ok__law_ahead {g:Addr} {fd:FuncData} (T:Tx K mg) (D:FD K mg "_law_ahead" s__law_ahead ["_law_ahead_here"] g fd):FnOk P w K mg base (CXM P w) 1 g fd ["_law_ahead_here"] (spF K mg f__law_ahead):=by
 refine fn_F D.fn sc__law_ahead (by decide) ?_
 intro cdv A outer s H E F E' hr hx
 unfold m__law_ahead
 refine fss_one ?_
 refine fs_ret ?_
 ·exact (fe_if (fb_lt (fv 0) (fe_c de_int)) (fe_cb fn_str (de_callTy call_str_int n_str rfl T.b_str bt_str (fa_c (fv 0) fa_nil))) (fe_addS (fe_c de_str) (fe_cb fn_str (de_callTy call_str_int n_str rfl T.b_str bt_str (fa_c (fv 0) fa_nil)))))
theorem ok_is_ahead {g:Addr} {fd:FuncData} (T:Tx K mg) (D:FD K mg "is_ahead" s_is_ahead ["thing"] g fd):FnOk P w K mg base (CXM P w) 2 g fd ["thing"] (spF K mg f_is_ahead):=by
 obtain ⟨g_is_whole,fd_is_whole,D_is_whole⟩:=T.d_is_whole
 have G_is_whole:=ok_is_whole P w base T D_is_whole
 obtain ⟨t_LEAST_AHEAD,g_LEAST_AHEAD⟩:=T.c_LEAST_AHEAD
 obtain ⟨t_MOST_AHEAD,g_MOST_AHEAD⟩:=T.c_MOST_AHEAD
 refine fn_F D.fn sc_is_ahead (by decide) ?_
 intro cdv A outer s H E F E' hr hx
 unfold m_is_ahead
 refine fss_one ?_
 refine fs_retO ?_
 ·exact (fcd hx G_is_whole D_is_whole hr (fx_v (fv 0) (fx_v (fe_c (de_gint rfl g_LEAST_AHEAD)) (fx_v (fe_c (de_gint rfl g_MOST_AHEAD)) fx_nil))))
theorem ok_read_ahead {g:Addr} {fd:FuncData} (T:Tx K mg) (D:FD K mg "read_ahead" s_read_ahead ["text"] g fd):FnOk P w K mg base (CXM P w) 2 g fd ["text"] (spF K mg f_read_ahead):=by
 obtain ⟨g_read_number,fd_read_number,D_read_number⟩:=T.d_read_number
 have G_read_number:=ok_read_number P w base T D_read_number
 obtain ⟨DE_,xt⟩:=T.xt0
 obtain ⟨C_NoText,E_NoText,_⟩:=xt.at_ (c:="NoText") (by decide +kernel)
 refine fn_F D.fn sc_read_ahead (by decide) ?_
 intro cdv A outer s H E F E' hr hx
 unfold m_read_ahead
 refine fss_cons ?_ ?_
 ·refine fs_set (i:=1) ?_ ?_ ?_ ?_ ?_ ?_ <;> try first|rfl|exact .inl rfl|exact .inr rfl|assumption|exact fun _=>rfl
  ·exact sc_read_ahead.nd
  ·exact (fe_frz (fcd hx G_read_number D_read_number hr (fx_v (fe_sliceT (fv 0) (fp_is (fe_c de_int)) fp_no) fx_nil)))
 refine fss_cons ?_ ?_
 ·refine fs_if ?_ ?_ ?_
  ·exact (fb_val (db_val (fe_sm os_sw PySem.F.slot_str_startswith PySem.F.type_str_startswith mt_sw (fv 0) (fa_c (fe_c de_str) fa_nil))))
  ·refine fss_one ?_
   refine fs_ret ?_
   ·exact (fv 1)
  ·exact fss_nil
 refine fss_cons ?_ ?_
 ·refine fs_if ?_ ?_ ?_
  ·exact (fb_w (fw_and (fb_val (db_val (fe_sm os_sw PySem.F.slot_str_startswith PySem.F.type_str_startswith mt_sw (fv 0) (fa_c (fe_c de_str) fa_nil)))) (fw_and1 (fb_gt (fv 1) (fe_c de_int)))))
  ·refine fss_one ?_
   refine fs_ret ?_
   ·exact (fe_neg (fv 1))
  ·exact fss_nil
 refine fss_one ?_
 exact (fs_raise hx hr.hd rfl E_NoText)
theorem ok__law_mixed {g:Addr} {fd:FuncData} (T:Tx K mg) (D:FD K mg "_law_mixed" s__law_mixed ["_law_script","_law_k","_law_many"] g fd):FnOk P w K mg base (CXM P w) 2 g fd ["_law_script","_law_k","_law_many"] (spF K mg f__law_mixed):=by
 obtain ⟨g__law_cell_at,fd__law_cell_at,D__law_cell_at⟩:=T.d__law_cell_at
 have G__law_cell_at:=ok__law_cell_at P w base T D__law_cell_at
 refine fn_F D.fn sc__law_mixed (by decide) ?_
 intro cdv A outer s H E F E' hr hx
 unfold m__law_mixed
 refine fss_cons ?_ ?_
 ·refine fs_set (i:=3) ?_ ?_ ?_ ?_ ?_ ?_ <;> try first|rfl|exact .inl rfl|exact .inr rfl|assumption|exact fun _=>rfl
  ·exact sc__law_mixed.nd
  ·exact (fe_mod (fe_add (fe_add (fe_mul (fe_frz (fcd hx G__law_cell_at D__law_cell_at hr (fx_s (pv 0) (fx_v (fv 1) fx_nil)))) (fe_c de_int)) (fe_mul (fe_c de_int) (fv 1))) (fe_c de_int)) (fe_c de_int))
 refine fss_one ?_
 refine fs_ret ?_
 ·exact (fe_mod (fe_mod (fe_mod (fe_pow (fv 3) (fe_c de_int)) (fe_c de_int)) (fe_c de_int)) (fv 2))
theorem ok__law_due {g:Addr} {fd:FuncData} (T:Tx K mg) (D:FD K mg "_law_due" s__law_due ["_law_text"] g fd):FnOk P w K mg base (CXM P w) 2 g fd ["_law_text"] (spF K mg f__law_due):=by
 obtain ⟨g__law_ahead,fd__law_ahead,D__law_ahead⟩:=T.d__law_ahead
 have G__law_ahead:=ok__law_ahead P w base T D__law_ahead
 have q:=fn_F (P:=P) (w:=w) (k:=1) (base:=base) (mg:=mg) (m:=m__law_due) D.fn sc__law_due (by decide)
 refine q ?_
 clear q
 intro cdv A outer s H E F E' hr hx
 unfold m__law_due
 refine fss_cons ?_ ?_
 ·refine fs_setO (i:=1) ?_ ?_ ?_ ?_ ?_ ?_ <;> try first|rfl|exact .inl rfl|exact .inr rfl|assumption|exact fun _=>rfl
  ·exact sc__law_due.nd
  ·exact (fo_dictP rfl rfl T.b_dict (fe_comp hx.1 (CompScope.of (own:=["_law_ahead_here"]) (capN:=[]) (caps:=[])) rfl rfl (fi_range2 (di_range2 rfl T.b_range (fa_c (fe_neg (fe_c de_int)) (fa_c (fe_c de_int) fa_nil)))) (fun _ _ _ _ _ _ hg=>⟨(fgn 0 (show ((["_law_ahead_here"]:List Str) ++ ([]:List Str)).Nodup from by decide +kernel)),fbs_nil,(fe_tup (fa_c (fe_frz (fcd (xok0 hg) G__law_ahead D__law_ahead hr (fx_v (fv 0) fx_nil))) (fa_c (fv 0) fa_nil)))⟩)))
 refine fss_cons ?_ ?_
 ·refine fs_setO (i:=2) ?_ ?_ ?_ ?_ ?_ ?_ <;> try first|rfl|exact .inl rfl|exact .inr rfl|assumption|exact fun _=>rfl
  ·exact sc__law_due.nd
  ·exact (fo_dictP rfl rfl T.b_dict (fe_comp hx.1 (CompScope.of (own:=["_law_number"]) (capN:=[]) (caps:=[])) rfl rfl (fi_range2 (di_range2 rfl T.b_range (fa_c (fe_c de_int) (fa_c (fe_c de_int) fa_nil)))) (fun _ _ _ _ _ _ hg=>⟨(fgn 0 (show ((["_law_number"]:List Str) ++ ([]:List Str)).Nodup from by decide +kernel)),fbs_nil,(fe_tup (fa_c (fe_cb fn_str (de_callTy call_str_int n_str rfl T.b_str bt_str (fa_c (fv 0) fa_nil))) (fa_c (fv 0) fa_nil)))⟩)))
 refine fss_cons ?_ ?_
 ·refine fs_set (i:=3) ?_ ?_ ?_ ?_ ?_ ?_ <;> try first|rfl|exact .inl rfl|exact .inr rfl|assumption|exact fun _=>rfl
  ·exact sc__law_due.nd
  ·exact (fe_sm os_split PySem.F.slot_str_split PySem.F.type_str_split mt_split (fv 0) (fa_c (fe_c de_str) fa_nil))
 refine fss_cons ?_ ?_
 ·refine fs_if ?_ ?_ ?_
  ·exact (fb_w (fw_or (fb_dnotin (hu_of hr) (fe_ix (fv 3) (fe_c de_int)) (pv 1)) (fw_or1 (fb_gt (fe_cb fn_len (de_callB call_len_seq n_len rfl T.b_len PySem.boot_len (fa_c (fv 3) fa_nil))) (fe_c de_int)))))
  ·refine fss_one ?_
   refine fs_ret ?_
   ·exact (fe_c de_non)
  ·exact fss_nil
 refine fss_cons ?_ ?_
 ·refine fs_asg ?_ ?_ ?_ ?_ ?_ <;> try first|rfl|exact .inl rfl|exact .inr rfl|assumption|exact fun _=>rfl
  ·exact (fe_tup (fa_c (fe_tup fa_nil) (fa_c (fe_c de_int) fa_nil)))
  ·exact (fg_tup (n:=2) rfl (fgs_cons (fgn 4 sc__law_due.nd) (fgs_cons (fgn 5 sc__law_due.nd) fgs_nil)))
 refine fss_cons ?_ ?_
 ·refine fs_for ?_ ?_ ?_ ?_ ?_ ?_ <;> try first|rfl|exact .inl rfl|exact .inr rfl|assumption|exact fun _=>rfl
  ·exact PassesOwn.leaving
  ·exact (fi_list (fe_tail (de_tail (k:=1) (fv 3))))
  ·exact (fgn 6 sc__law_due.nd)
  ·unfold b__law_due_7
   refine fss_cons ?_ ?_
   ·refine fs_setComp (i:=7) (own:=["_law_at"]) (capN:=["_law_word"]) (caps:=[6]) ?_ ?_ ?_ ?_ ?_ ?_ ?_ ?_ ?_ ?_ ?_ ?_ <;> try first|rfl|exact .inl rfl|exact .inr rfl|assumption|exact fun _=>rfl
    ·exact sc__law_due.nd
    ·exact hx.1
    ·exact (CompScope.of (own:=["_law_at"]) (capN:=["_law_word"]) (caps:=[6]))
    ·exact (fi_range1 (di_range1 rfl T.b_range (fa_c (fe_cb fn_lenT (de_callB call_len_str n_lenT rfl T.b_len PySem.boot_len (fa_c (fv 6) fa_nil))) fa_nil)))
    ·exact (fun _ _ _ _ _ _ hg=>⟨(fgn 0 (show ((["_law_at"]:List Str) ++ (["_law_word"]:List Str)).Nodup from by decide +kernel)),(fbs_one (fb_inS (fe_ixTx (fv 1) (fv 0)) (fe_c de_str))),(fv 0)⟩)
   refine fss_cons ?_ ?_
   ·refine fs_if ?_ ?_ ?_
    ·exact (fb_w (fw_or (fb_eq hr.units (fv 7) (fe_lst fa_nil)) (fw_or (fb_dnotin (hu_of hr) (fe_sliceT (fv 6) fp_no (fp_is (fe_ix (fv 7) (fe_c de_int)))) (pv 2)) (fw_or (fb_dnotin (hu_of hr) (fe_sliceT (fv 6) (fp_is (fe_ix (fv 7) (fe_c de_int))) fp_no) (pv 1)) (fw_or1 (fb_le (fe_dget (hu_of hr) (pv 2) (fe_sliceT (fv 6) fp_no (fp_is (fe_ix (fv 7) (fe_c de_int))))) (fv 5)))))))
    ·refine fss_one ?_
     refine fs_ret ?_
     ·exact (fe_c de_non)
    ·exact fss_nil
   refine fss_cons ?_ ?_
   ·refine fs_set (i:=5) ?_ ?_ ?_ ?_ ?_ ?_ <;> try first|rfl|exact .inl rfl|exact .inr rfl|assumption|exact fun _=>rfl
    ·exact sc__law_due.nd
    ·exact (fe_dget (hu_of hr) (pv 2) (fe_sliceT (fv 6) fp_no (fp_is (fe_ix (fv 7) (fe_c de_int)))))
   refine fss_one ?_
   refine fs_set (i:=4) ?_ ?_ ?_ ?_ ?_ ?_ <;> try first|rfl|exact .inl rfl|exact .inr rfl|assumption|exact fun _=>rfl
   ·exact sc__law_due.nd
   ·exact (fe_catT (fv 4) (fe_tup (fa_c (fe_tup (fa_c (fv 5) (fa_c (fe_dget (hu_of hr) (pv 1) (fe_sliceT (fv 6) (fp_is (fe_ix (fv 7) (fe_c de_int))) fp_no)) fa_nil))) fa_nil)))
 refine fss_one ?_
 refine fs_ret ?_
 ·exact (fe_tup (fa_c (fe_dget (hu_of hr) (pv 1) (fe_ix (fv 3) (fe_c de_int))) (fa_c (fv 4) fa_nil)))
theorem ok_are_shifts {g:Addr} {fd:FuncData} (T:Tx K mg) (D:FD K mg "are_shifts" s_are_shifts ["thing"] g fd):FnOk P w K mg base (CXM P w) 3 g fd ["thing"] (spF K mg f_are_shifts):=by
 obtain ⟨g_is_whole,fd_is_whole,D_is_whole⟩:=T.d_is_whole
 have G_is_whole:=ok_is_whole P w base T D_is_whole
 obtain ⟨g_is_tuple_of,fd_is_tuple_of,D_is_tuple_of⟩:=T.d_is_tuple_of
 have G_is_tuple_of:=ok_is_tuple_of P w base T D_is_tuple_of
 obtain ⟨g_is_ahead,fd_is_ahead,D_is_ahead⟩:=T.d_is_ahead
 have G_is_ahead:=ok_is_ahead P w base T D_is_ahead
 obtain ⟨t_LAST_MOMENT,g_LAST_MOMENT⟩:=T.c_LAST_MOMENT
 obtain ⟨t_MOST_SHIFTS,g_MOST_SHIFTS⟩:=T.c_MOST_SHIFTS
 refine fn_F D.fn sc_are_shifts (by decide) ?_
 intro cdv A outer s H E F E' hr hx
 unfold m_are_shifts
 refine fss_cons ?_ ?_
 ·refine fs_if ?_ ?_ ?_
  ·exact (fb_w (fw_or (fb_not (fb_val (db_val (fe_is (de_isinst rfl T.b_isinstance (fv 0) (pe_bltn rfl T.b_tuple bt_tuple rfl)))))) (fw_or1 (fb_gt (fe_cb fn_len (de_callB call_len_seq n_len rfl T.b_len PySem.boot_len (fa_c (fv 0) fa_nil))) (fe_c (de_gint rfl g_MOST_SHIFTS))))))
  ·refine fss_one ?_
   refine fs_ret ?_
   ·exact (fe_c de_bl)
  ·exact fss_nil
 refine fss_cons ?_ ?_
 ·refine fs_set (i:=1) ?_ ?_ ?_ ?_ ?_ ?_ <;> try first|rfl|exact .inl rfl|exact .inr rfl|assumption|exact fun _=>rfl
  ·exact sc_are_shifts.nd
  ·exact (fe_c de_int)
 refine fss_cons ?_ ?_
 ·refine fs_for ?_ ?_ ?_ ?_ ?_ ?_ <;> try first|rfl|exact .inl rfl|exact .inr rfl|assumption|exact fun _=>rfl
  ·exact PassesOwn.leaving
  ·exact (fi_tup (fv 0))
  ·exact (fgn 2 sc_are_shifts.nd)
  ·unfold b_are_shifts_1
   refine fss_cons ?_ ?_
   ·refine fs_if ?_ ?_ ?_
    ·exact (fb_w (fw_or (fb_not (fb_val (db_val (fe_frz (fcd hx G_is_tuple_of D_is_tuple_of hr (fx_v (fv 2) (fx_v (fe_c de_int) fx_nil))))))) (fw_or1 (fb_not (fb_val (db_val (fe_frz (fcd hx G_is_ahead D_is_ahead hr (fx_v (fe_ix (fv 2) (fe_c de_int)) fx_nil)))))))))
    ·refine fss_one ?_
     refine fs_ret ?_
     ·exact (fe_c de_bl)
    ·exact fss_nil
   refine fss_cons ?_ ?_
   ·refine fs_if ?_ ?_ ?_
    ·exact (fb_not (fb_val (db_val (fe_frz (fcd hx G_is_whole D_is_whole hr (fx_v (fe_ix (fv 2) (fe_c de_int)) (fx_v (fv 1) (fx_v (fe_c (de_gint rfl g_LAST_MOMENT)) fx_nil))))))))
    ·refine fss_one ?_
     refine fs_ret ?_
     ·exact (fe_c de_bl)
    ·exact fss_nil
   refine fss_one ?_
   refine fs_set (i:=1) ?_ ?_ ?_ ?_ ?_ ?_ <;> try first|rfl|exact .inl rfl|exact .inr rfl|assumption|exact fun _=>rfl
   ·exact sc_are_shifts.nd
   ·exact (fe_add (fe_ix (fv 2) (fe_c de_int)) (fe_c de_int))
 refine fss_one ?_
 refine fs_ret ?_
 ·exact (fe_c de_bl)
theorem ok_read_shift {g:Addr} {fd:FuncData} (T:Tx K mg) (D:FD K mg "read_shift" s_read_shift ["text"] g fd):FnOk P w K mg base (CXM P w) 3 g fd ["text"] (spF K mg f_read_shift):=by
 obtain ⟨g_read_number,fd_read_number,D_read_number⟩:=T.d_read_number
 have G_read_number:=ok_read_number P w base T D_read_number
 obtain ⟨g_read_ahead,fd_read_ahead,D_read_ahead⟩:=T.d_read_ahead
 have G_read_ahead:=ok_read_ahead P w base T D_read_ahead
 obtain ⟨DE_,xt⟩:=T.xt0
 obtain ⟨C_NoText,E_NoText,_⟩:=xt.at_ (c:="NoText") (by decide +kernel)
 refine fn_F D.fn sc_read_shift (by decide) ?_
 intro cdv A outer s H E F E' hr hx
 unfold m_read_shift
 refine fss_cons ?_ ?_
 ·refine fs_set (i:=1) ?_ ?_ ?_ ?_ ?_ ?_ <;> try first|rfl|exact .inl rfl|exact .inr rfl|assumption|exact fun _=>rfl
  ·exact sc_read_shift.nd
  ·exact (fe_cb fn_max (de_callB (call_max2 rfl) n_max rfl T.b_max bt_max (fa_c (fe_sm os_find PySem.F.slot_str_find PySem.F.type_str_find mt_find (fv 0) (fa_c (fe_c de_str) fa_nil)) (fa_c (fe_sm os_find PySem.F.slot_str_find PySem.F.type_str_find mt_find (fv 0) (fa_c (fe_c de_str) fa_nil)) fa_nil))))
 refine fss_cons ?_ ?_
 ·refine fs_if ?_ ?_ ?_
  ·exact (fb_lt (fv 1) (fe_c de_int))
  ·refine fss_one ?_
   exact (fs_raise hx hr.hd rfl E_NoText)
  ·exact fss_nil
 refine fss_one ?_
 refine fs_ret ?_
 ·exact (fe_tup (fa_c (fe_frz (fcd hx G_read_number D_read_number hr (fx_v (fe_sliceT (fv 0) fp_no (fp_is (fv 1))) fx_nil))) (fa_c (fe_frz (fcd hx G_read_ahead D_read_ahead hr (fx_v (fe_sliceT (fv 0) (fp_is (fv 1)) fp_no) fx_nil))) fa_nil)))
theorem ok__law_draw {g:Addr} {fd:FuncData} (T:Tx K mg) (D:FD K mg "_law_draw" s__law_draw ["_law_script","_law_town","_law_many"] g fd):FnOk P w K mg base (CXM P w) 3 g fd ["_law_script","_law_town","_law_many"] (spF K mg f__law_draw):=by
 obtain ⟨g__law_mixed,fd__law_mixed,D__law_mixed⟩:=T.d__law_mixed
 have G__law_mixed:=ok__law_mixed P w base T D__law_mixed
 refine fn_F D.fn sc__law_draw (by decide) ?_
 intro cdv A outer s H E F E' hr hx
 unfold m__law_draw
 refine fss_cons ?_ ?_
 ·refine fs_app ?_ ?_ ?_ ?_ ?_ ?_ ?_ ?_ <;> try first|rfl|exact .inl rfl|exact .inr rfl|assumption|exact fun _=>rfl
  ·exact (pv 1)
  ·exact (fe_c de_int)
 refine fss_one ?_
 refine fs_retO ?_
 ·exact (fcd hx G__law_mixed D__law_mixed hr (fx_s (pv 0) (fx_v (fe_lenN rfl T.b_len (pv 1)) (fx_v (fv 2) fx_nil))))
theorem ok_is_zone {g:Addr} {fd:FuncData} (T:Tx K mg) (D:FD K mg "is_zone" s_is_zone ["thing"] g fd):FnOk P w K mg base (CXM P w) 4 g fd ["thing"] (spF K mg f_is_zone):=by
 obtain ⟨g_is_tuple_of,fd_is_tuple_of,D_is_tuple_of⟩:=T.d_is_tuple_of
 have G_is_tuple_of:=ok_is_tuple_of P w base T D_is_tuple_of
 obtain ⟨g_is_ahead,fd_is_ahead,D_is_ahead⟩:=T.d_is_ahead
 have G_is_ahead:=ok_is_ahead P w base T D_is_ahead
 obtain ⟨g_are_shifts,fd_are_shifts,D_are_shifts⟩:=T.d_are_shifts
 have G_are_shifts:=ok_are_shifts P w base T D_are_shifts
 refine fn_F D.fn sc_is_zone (by decide) ?_
 intro cdv A outer s H E F E' hr hx
 unfold m_is_zone
 refine fss_one ?_
 refine fs_ret ?_
 ·exact (fe_and (fe_frz (fcd hx G_is_tuple_of D_is_tuple_of hr (fx_v (fv 0) (fx_v (fe_c de_int) fx_nil)))) (fe_and (fe_frz (fcd hx G_is_ahead D_is_ahead hr (fx_v (fe_ix (fv 0) (fe_c de_int)) fx_nil))) (fe_one (fe_frz (fcd hx G_are_shifts D_are_shifts hr (fx_v (fe_ix (fv 0) (fe_c de_int)) fx_nil))))))
theorem ok__law_pick {g:Addr} {fd:FuncData} (T:Tx K mg) (D:FD K mg "_law_pick" s__law_pick ["_law_script","_law_town","_law_some"] g fd):FnOk P w K mg base (CXM P w) 4 g fd ["_law_script","_law_town","_law_some"] (spF K mg f__law_pick):=by
 obtain ⟨g__law_draw,fd__law_draw,D__law_draw⟩:=T.d__law_draw
 have G__law_draw:=ok__law_draw P w base T D__law_draw
 refine fn_F D.fn sc__law_pick (by decide) ?_
 intro cdv A outer s H E F E' hr hx
 unfold m__law_pick
 refine fss_one ?_
 refine fs_ret ?_
 ·exact (fe_ix (fv 2) (fe_frz (fcd hx G__law_draw D__law_draw hr (fx_s (pv 0) (fx_s (pv 1) (fx_v (fe_cb fn_len (de_callB call_len_seq n_len rfl T.b_len PySem.boot_len (fa_c (fv 2) fa_nil))) fx_nil))))))
theorem ok_check_zone {g:Addr} {fd:FuncData} (T:Tx K mg) (D:FD K mg "check_zone" s_check_zone ["thing"] g fd):FnOk P w K mg base (CXM P w) 5 g fd ["thing"] (spF K mg f_check_zone):=by
 obtain ⟨g_is_zone,fd_is_zone,D_is_zone⟩:=T.d_is_zone
 have G_is_zone:=ok_is_zone P w base T D_is_zone
 obtain ⟨DE_,xt⟩:=T.xt0
 obtain ⟨C_NoZone,E_NoZone,_⟩:=xt.at_ (c:="NoZone") (by decide +kernel)
 refine fn_F D.fn sc_check_zone (by decide) ?_
 intro cdv A outer s H E F E' hr hx
 unfold m_check_zone
 refine fss_one ?_
 refine fs_if ?_ ?_ ?_
 ·exact (fb_not (fb_val (db_val (fe_frz (fcd hx G_is_zone D_is_zone hr (fx_v (fv 0) fx_nil))))))
 ·refine fss_one ?_
  exact (fs_raise hx hr.hd rfl E_NoZone)
 ·exact fss_nil
theorem ok_read_zone {g:Addr} {fd:FuncData} (T:Tx K mg) (D:FD K mg "read_zone" s_read_zone ["text"] g fd):FnOk P w K mg base (CXM P w) 5 g fd ["text"] (spF K mg f_read_zone):=by
 obtain ⟨g_check_text,fd_check_text,D_check_text⟩:=T.d_check_text
 have G_check_text:=ok_check_text P w base T D_check_text
 obtain ⟨g_read_ahead,fd_read_ahead,D_read_ahead⟩:=T.d_read_ahead
 have G_read_ahead:=ok_read_ahead P w base T D_read_ahead
 obtain ⟨g_is_zone,fd_is_zone,D_is_zone⟩:=T.d_is_zone
 have G_is_zone:=ok_is_zone P w base T D_is_zone
 obtain ⟨g_read_shift,fd_read_shift,D_read_shift⟩:=T.d_read_shift
 have G_read_shift:=ok_read_shift P w base T D_read_shift
 obtain ⟨DE_,xt⟩:=T.xt0
 obtain ⟨C_NoText,E_NoText,_⟩:=xt.at_ (c:="NoText") (by decide +kernel)
 refine fn_F D.fn sc_read_zone (by decide) ?_
 intro cdv A outer s H E F E' hr hx
 unfold m_read_zone
 refine fss_cons ?_ ?_
 ·refine fs_exprO ?_ ?_
  ·exact (fcd hx G_check_text D_check_text hr (fx_v (fv 0) fx_nil))
  ·rfl
 refine fss_cons ?_ ?_
 ·refine fs_set (i:=1) ?_ ?_ ?_ ?_ ?_ ?_ <;> try first|rfl|exact .inl rfl|exact .inr rfl|assumption|exact fun _=>rfl
  ·exact sc_read_zone.nd
  ·exact (fe_sm os_split PySem.F.slot_str_split PySem.F.type_str_split mt_split (fv 0) (fa_c (fe_c de_str) fa_nil))
 refine fss_cons ?_ ?_
 ·refine fs_set (i:=2) ?_ ?_ ?_ ?_ ?_ ?_ <;> try first|rfl|exact .inl rfl|exact .inr rfl|assumption|exact fun _=>rfl
  ·exact sc_read_zone.nd
  ·exact (fe_tup (fa_c (fe_frz (fcd hx G_read_ahead D_read_ahead hr (fx_v (fe_ix (fv 1) (fe_c de_int)) fx_nil))) (fa_c (fe_cb fn_tuple (de_callTy call_tuple_of n_tuple rfl T.b_tuple bt_tuple (fa_c (fe_compE hx (CompScope.of (own:=["part"]) (capN:=[]) (caps:=[])) rfl rfl rfl rfl (fi_list (fe_tail (de_tail (k:=1) (fv 1)))) (fun _ _ _ _ _ _ _ _ hxc=>⟨(fgn 0 (show ((["part"]:List Str) ++ ([]:List Str)).Nodup from by decide +kernel)),(fe_frz (fcd hxc G_read_shift D_read_shift hr (fx_v (fv 0) fx_nil)))⟩)) fa_nil))) fa_nil)))
 refine fss_cons ?_ ?_
 ·refine fs_if ?_ ?_ ?_
  ·exact (fb_not (fb_val (db_val (fe_frz (fcd hx G_is_zone D_is_zone hr (fx_v (fv 2) fx_nil))))))
  ·refine fss_one ?_
   exact (fs_raise hx hr.hd rfl E_NoText)
  ·exact fss_nil
 refine fss_one ?_
 refine fs_ret ?_
 ·exact (fv 2)
theorem ok__law_zone {g:Addr} {fd:FuncData} (T:Tx K mg) (D:FD K mg "_law_zone" s__law_zone ["_law_script","_law_town","_law_wide"] g fd):FnOk P w K mg base (CXM P w) 5 g fd ["_law_script","_law_town","_law_wide"] (spF K mg f__law_zone):=by
 obtain ⟨g__law_draw,fd__law_draw,D__law_draw⟩:=T.d__law_draw
 have G__law_draw:=ok__law_draw P w base T D__law_draw
 obtain ⟨g__law_pick,fd__law_pick,D__law_pick⟩:=T.d__law_pick
 have G__law_pick:=ok__law_pick P w base T D__law_pick
 refine fn_F D.fn sc__law_zone (by decide) ?_
 intro cdv A outer s H E F E' hr hx
 unfold m__law_zone
 refine fss_cons ?_ ?_
 ·refine fs_asg ?_ ?_ ?_ ?_ ?_ <;> try first|rfl|exact .inl rfl|exact .inr rfl|assumption|exact fun _=>rfl
  ·exact (fe_tup (fa_c (fe_tup fa_nil) (fa_c (fe_c de_int) fa_nil)))
  ·exact (fg_tup (n:=2) rfl (fgs_cons (fgn 3 sc__law_zone.nd) (fgs_cons (fgn 4 sc__law_zone.nd) fgs_nil)))
 refine fss_cons ?_ ?_
 ·refine fs_for ?_ ?_ ?_ ?_ ?_ ?_ <;> try first|rfl|exact .inl rfl|exact .inr rfl|assumption|exact fun _=>rfl
  ·exact PassesOwn.leaving
  ·exact (fi_range1 (di_range1 rfl T.b_range (fa_c (fe_frz (fcd hx G__law_draw D__law_draw hr (fx_s (pv 0) (fx_s (pv 1) (fx_v (fe_c de_int) fx_nil))))) fa_nil)))
  ·exact (fgn 5 sc__law_zone.nd)
  ·unfold b__law_zone_1
   refine fss_cons ?_ ?_
   ·refine fs_set (i:=4) ?_ ?_ ?_ ?_ ?_ ?_ <;> try first|rfl|exact .inl rfl|exact .inr rfl|assumption|exact fun _=>rfl
    ·exact sc__law_zone.nd
    ·exact (fe_add (fe_add (fv 4) (fe_c de_int)) (fe_frz (fcd hx G__law_draw D__law_draw hr (fx_s (pv 0) (fx_s (pv 1) (fx_v (fv 2) fx_nil))))))
   refine fss_one ?_
   refine fs_set (i:=3) ?_ ?_ ?_ ?_ ?_ ?_ <;> try first|rfl|exact .inl rfl|exact .inr rfl|assumption|exact fun _=>rfl
   ·exact sc__law_zone.nd
   ·exact (fe_catT (fv 3) (fe_tup (fa_c (fe_tup (fa_c (fv 4) (fa_c (fe_frz (fcd hx G__law_pick D__law_pick hr (fx_s (pv 0) (fx_s (pv 1) (fx_v (fe_lst (fa_c (fe_c de_int) (fa_c (fe_c de_int) (fa_c (fe_c de_int) (fa_c (fe_neg (fe_c de_int)) (fa_c (fe_c de_int) (fa_c (fe_neg (fe_c de_int)) (fa_c (fe_c de_int) fa_nil)))))))) fx_nil))))) fa_nil))) fa_nil)))
 refine fss_one ?_
 refine fs_ret ?_
 ·exact (fe_tup (fa_c (fe_frz (fcd hx G__law_pick D__law_pick hr (fx_s (pv 0) (fx_s (pv 1) (fx_v (fe_lst (fa_c (fe_c de_int) (fa_c (fe_c de_int) (fa_c (fe_c de_int) (fa_c (fe_neg (fe_c de_int)) (fa_c (fe_c de_int) (fa_c (fe_neg (fe_c de_int)) fa_nil))))))) fx_nil))))) (fa_c (fv 3) fa_nil)))
theorem ok__law_odd_zone {g:Addr} {fd:FuncData} (T:Tx K mg) (D:FD K mg "_law_odd_zone" s__law_odd_zone ["_law_script","_law_town"] g fd):FnOk P w K mg base (CXM P w) 5 g fd ["_law_script","_law_town"] (spF K mg f__law_odd_zone):=by
 obtain ⟨g__law_pick,fd__law_pick,D__law_pick⟩:=T.d__law_pick
 have G__law_pick:=ok__law_pick P w base T D__law_pick
 refine fn_F D.fn sc__law_odd_zone (by decide) ?_
 intro cdv A outer s H E F E' hr hx
 unfold m__law_odd_zone
 refine fss_cons ?_ ?_
 ·refine fs_set (i:=2) ?_ ?_ ?_ ?_ ?_ ?_ <;> try first|rfl|exact .inl rfl|exact .inr rfl|assumption|exact fun _=>rfl
  ·exact sc__law_odd_zone.nd
  ·exact (fe_lst (fa_c (fe_c de_non) (fa_c (fe_c de_int) (fa_c (fe_tup fa_nil) (fa_c (fe_tup (fa_c (fe_c de_int) fa_nil)) (fa_c (fe_tup (fa_c (fe_c de_int) (fa_c (fe_tup fa_nil) fa_nil))) (fa_c (fe_tup (fa_c (fe_neg (fe_c de_int)) (fa_c (fe_tup fa_nil) fa_nil))) (fa_c (fe_tup (fa_c (fe_c de_int) (fa_c (fe_tup (fa_c (fe_tup (fa_c (fe_c de_int) (fa_c (fe_c de_int) fa_nil))) fa_nil)) fa_nil))) (fa_c (fe_tup (fa_c (fe_c de_int) (fa_c (fe_tup (fa_c (fe_tup (fa_c (fe_c de_int) (fa_c (fe_c de_int) fa_nil))) fa_nil)) fa_nil))) (fa_c (fe_tup (fa_c (fe_c de_int) (fa_c (fe_tup (fa_c (fe_tup (fa_c (fe_c de_int) (fa_c (fe_c de_int) fa_nil))) (fa_c (fe_tup (fa_c (fe_c de_int) (fa_c (fe_c de_int) fa_nil))) fa_nil))) fa_nil))) fa_nil))))))))))
 refine fss_cons ?_ ?_
 ·refine fs_set (i:=2) ?_ ?_ ?_ ?_ ?_ ?_ <;> try first|rfl|exact .inl rfl|exact .inr rfl|assumption|exact fun _=>rfl
  ·exact sc__law_odd_zone.nd
  ·exact (fe_cat (fv 2) (fe_lst (fa_c (fe_tup (fa_c (fe_c de_int) (fa_c (fe_lst (fa_c (fe_tup (fa_c (fe_c de_int) (fa_c (fe_c de_int) fa_nil))) fa_nil)) fa_nil))) (fa_c (fe_lst (fa_c (fe_c de_int) (fa_c (fe_tup fa_nil) fa_nil))) (fa_c (fe_tup (fa_c (fe_c de_bl) (fa_c (fe_tup fa_nil) fa_nil))) (fa_c (fe_tup (fa_c (fe_c de_int) (fa_c (fe_tup (fa_c (fe_tup (fa_c (fe_c de_int) fa_nil)) fa_nil)) fa_nil))) (fa_c (fe_c de_str) (fa_c (fe_tup (fa_c (fe_c de_int) (fa_c (fe_tup (fa_c (fe_tup (fa_c (fe_c de_int) (fa_c (fe_c de_int) fa_nil))) (fa_c (fe_tup (fa_c (fe_c de_int) (fa_c (fe_c de_int) fa_nil))) fa_nil))) fa_nil))) fa_nil))))))))
 refine fss_one ?_
 refine fs_retO ?_
 ·exact (fcd hx G__law_pick D__law_pick hr (fx_s (pv 0) (fx_s (pv 1) (fx_v (fv 2) fx_nil))))
theorem ok_zone_text {g:Addr} {fd:FuncData} (T:Tx K mg) (D:FD K mg "zone_text" s_zone_text ["zone"] g fd):FnOk P w K mg base (CXM P w) 6 g fd ["zone"] (spF K mg f_zone_text):=by
 obtain ⟨g_check_zone,fd_check_zone,D_check_zone⟩:=T.d_check_zone
 have G_check_zone:=ok_check_zone P w base T D_check_zone
 obtain ⟨g_signed,fd_signed,D_signed⟩:=T.d_signed
 have G_signed:=ok_signed P w base T D_signed
 refine fn_F D.fn sc_zone_text (by decide) ?_
 intro cdv A outer s H E F E' hr hx
 unfold m_zone_text
 refine fss_cons ?_ ?_
 ·refine fs_exprO ?_ ?_
  ·exact (fcd hx G_check_zone D_check_zone hr (fx_v (fv 0) fx_nil))
  ·rfl
 refine fss_one ?_
 refine fs_ret ?_
 ·exact (fe_sm os_join PySem.F.slot_str_join PySem.F.type_str_join mt_join (fe_c de_str) (fa_c (fe_cat (fe_lst (fa_c (fe_frz (fcd hx G_signed D_signed hr (fx_v (fe_ix (fv 0) (fe_c de_int)) fx_nil))) fa_nil)) (fe_comp hx.1 (CompScope.of (own:=["shift"]) (capN:=[]) (caps:=[])) rfl rfl (fi_tup (fe_ix (fv 0) (fe_c de_int))) (fun _ _ _ _ _ _ hg=>⟨(fgn 0 (show ((["shift"]:List Str) ++ ([]:List Str)).Nodup from by decide +kernel)),fbs_nil,(fe_addS (fe_cb fn_str (de_callTy call_str_int n_str rfl T.b_str bt_str (fa_c (fe_ix (fv 0) (fe_c de_int)) fa_nil))) (fe_frz (fcd (xok0 hg) G_signed D_signed hr (fx_v (fe_ix (fv 0) (fe_c de_int)) fx_nil))))⟩))) fa_nil))
theorem ok__law_ask {g:Addr} {fd:FuncData} (T:Tx K mg) (D:FD K mg "_law_ask" s__law_ask ["_law_what","_law_thing"] g fd):FnOk P w K mg base (CXM P w) 7 g fd ["_law_what","_law_thing"] (spF K mg f__law_ask):=by
 obtain ⟨g__law_which,fd__law_which,D__law_which⟩:=T.d__law_which
 have G__law_which:=ok__law_which P w base T D__law_which
 obtain ⟨g_read_zone,fd_read_zone,D_read_zone⟩:=T.d_read_zone
 have G_read_zone:=ok_read_zone P w base T D_read_zone
 obtain ⟨g_zone_text,fd_zone_text,D_zone_text⟩:=T.d_zone_text
 have G_zone_text:=ok_zone_text P w base T D_zone_text
 obtain ⟨DE_,xt⟩:=T.xt0
 refine fn_F D.fn sc__law_ask (by decide) ?_
 intro cdv A outer s H E F E' hr hx
 unfold m__law_ask
 refine fss_one ?_
 refine fs_tryA (D:=DE_) (i:=2) ?_ ?_ ?_ ?_ ?_ ?_ ?_ ?_ ?_ ?_ <;> try first|rfl|exact .inl rfl|exact .inr rfl|assumption|exact fun _=>rfl
 ·exact sc__law_ask.nd
 ·exact hx.1
 ·intro F1 pn1 xe1 E1 hx1 hp1
  refine fss_one ?_
  refine fs_retO ?_
  ·exact (fo_call2 hx1 G_read_zone (hr.mono (by decide)) rfl D_read_zone.mgf D_read_zone.fn.kp D_read_zone.b G_zone_text (hr.mono (by decide)) rfl D_zone_text.mgf D_zone_text.fn.kp D_zone_text.b (fv 0) (fx_v (fv 1) fx_nil))
 ·intro F1 e1 pn1 xe1 hg1
  refine fss_one ?_
  refine fs_retO ?_
  ·exact (fo_call (do_callH (xok0 hg1) G__law_which (Room.h (hr.mono (j:=1) (by decide)) _) rfl D__law_which.mgf D__law_which.fn.kp D__law_which.b (fx_s (pv 2) fx_nil)))
theorem ok_law {g:Addr} {fd:FuncData} (T:Tx K mg) (D:FD K mg "law" s_law ["_law_script"] g fd):FnOk P w K mg base (CXM P w) 8 g fd ["_law_script"] (spF K mg f_law):=by
 obtain ⟨g__law_draw,fd__law_draw,D__law_draw⟩:=T.d__law_draw
 have G__law_draw:=ok__law_draw P w base T D__law_draw
 obtain ⟨g__law_zone,fd__law_zone,D__law_zone⟩:=T.d__law_zone
 have G__law_zone:=ok__law_zone P w base T D__law_zone
 obtain ⟨g__law_due,fd__law_due,D__law_due⟩:=T.d__law_due
 have G__law_due:=ok__law_due P w base T D__law_due
 obtain ⟨g__law_pick,fd__law_pick,D__law_pick⟩:=T.d__law_pick
 have G__law_pick:=ok__law_pick P w base T D__law_pick
 obtain ⟨g__law_ask,fd__law_ask,D__law_ask⟩:=T.d__law_ask
 have G__law_ask:=ok__law_ask P w base T D__law_ask
 obtain ⟨g_zone_text,fd_zone_text,D_zone_text⟩:=T.d_zone_text
 have G_zone_text:=ok_zone_text P w base T D_zone_text
 obtain ⟨g_read_zone,fd_read_zone,D_read_zone⟩:=T.d_read_zone
 have G_read_zone:=ok_read_zone P w base T D_read_zone
 obtain ⟨g__law_odd_zone,fd__law_odd_zone,D__law_odd_zone⟩:=T.d__law_odd_zone
 have G__law_odd_zone:=ok__law_odd_zone P w base T D__law_odd_zone
 obtain ⟨g__law_ahead,fd__law_ahead,D__law_ahead⟩:=T.d__law_ahead
 have G__law_ahead:=ok__law_ahead P w base T D__law_ahead
 obtain ⟨DE_,xt⟩:=T.xt0
 refine fn_F D.fn sc_law (by decide) ?_
 intro cdv A outer s H E F E' hr hx
 unfold m_law
 refine fss_cons ?_ ?_
 ·unfold c_law_1
  refine fs_setO (i:=1) ?_ ?_ ?_ ?_ ?_ ?_ <;> try first|rfl|exact .inl rfl|exact .inr rfl|assumption|exact fun _=>rfl
  ·exact sc_law.nd
  ·exact (fo_lst fa_nil)
 refine fss_cons ?_ ?_
 ·unfold c_law_2
  refine fs_set (i:=2) ?_ ?_ ?_ ?_ ?_ ?_ <;> try first|rfl|exact .inl rfl|exact .inr rfl|assumption|exact fun _=>rfl
  ·exact sc_law.nd
  ·exact (fe_frz (fcd hx G__law_draw D__law_draw hr (fx_s (pv 0) (fx_s (pv 1) (fx_v (fe_c de_int) fx_nil)))))
 refine fss_cons ?_ ?_
 ·unfold c_law_3
  refine fs_set (i:=3) ?_ ?_ ?_ ?_ ?_ ?_ <;> try first|rfl|exact .inl rfl|exact .inr rfl|assumption|exact fun _=>rfl
  ·exact sc_law.nd
  ·exact (fe_frz (fcd hx G__law_zone D__law_zone hr (fx_s (pv 0) (fx_s (pv 1) (fx_v (fe_frz (fcd hx G__law_pick D__law_pick hr (fx_s (pv 0) (fx_s (pv 1) (fx_v (fe_lst (fa_c (fe_c de_int) (fa_c (fe_c de_int) (fa_c (fe_c de_int) fa_nil)))) fx_nil))))) fx_nil)))))
 refine fss_cons ?_ ?_
 ·unfold c_law_5
  refine fs_set (i:=4) ?_ ?_ ?_ ?_ ?_ ?_ <;> try first|rfl|exact .inl rfl|exact .inr rfl|assumption|exact fun _=>rfl
  ·exact sc_law.nd
  ·exact (fe_sm os_join PySem.F.slot_str_join PySem.F.type_str_join mt_join (fe_c de_str) (fa_c (fe_cat (fe_lst (fa_c (fe_frz (fcd hx G__law_ahead D__law_ahead hr (fx_v (fe_ix (fv 3) (fe_c de_int)) fx_nil))) fa_nil)) (fe_comp hx.1 (CompScope.of (own:=["_law_moment","_law_more"]) (capN:=[]) (caps:=[])) rfl rfl (fi_tup (fe_ix (fv 3) (fe_c de_int))) (fun _ _ _ _ _ _ hg=>⟨(fg_tup (n:=2) rfl (fgs_cons (fgn 0 (show ((["_law_moment","_law_more"]:List Str) ++ ([]:List Str)).Nodup from by decide +kernel)) (fgs_cons (fgn 1 (show ((["_law_moment","_law_more"]:List Str) ++ ([]:List Str)).Nodup from by decide +kernel)) fgs_nil))),fbs_nil,(fe_addS (fe_cb fn_str (de_callTy call_str_int n_str rfl T.b_str bt_str (fa_c (fv 0) fa_nil))) (fe_frz (fcd (xok0 hg) G__law_ahead D__law_ahead hr (fx_v (fv 1) fx_nil))))⟩))) fa_nil))
 refine fss_cons ?_ ?_
 ·unfold c_law_6
  refine fs_if ?_ ?_ ?_
  ·exact (fb_w (fw_or (fb_ne hr.units (fe_frz (fcd hx G_zone_text D_zone_text hr (fx_v (fv 3) fx_nil))) (fv 4)) (fw_or1 (fb_ne hr.units (fe_frz (fcd hx G_read_zone D_read_zone hr (fx_v (fv 4) fx_nil))) (fv 3)))))
  ·refine fss_one ?_
   refine fs_ret ?_
   ·exact (fe_c de_bl)
  ·exact fss_nil
 refine fss_cons ?_ ?_
 ·unfold c_law_8
  refine fs_for ?_ ?_ ?_ ?_ ?_ ?_ <;> try first|rfl|exact .inl rfl|exact .inr rfl|assumption|exact fun _=>rfl
  ·exact PassesOwn.leaving
  ·exact (fi_range1 (di_range1 rfl T.b_range (fa_c (fv 2) fa_nil)))
  ·exact (fgn 5 sc_law.nd)
  ·unfold b_law_7
   refine fss_cons ?_ ?_
   ·refine fs_set (i:=6) ?_ ?_ ?_ ?_ ?_ ?_ <;> try first|rfl|exact .inl rfl|exact .inr rfl|assumption|exact fun _=>rfl
    ·exact sc_law.nd
    ·exact (fe_frz (fcd hx G__law_draw D__law_draw hr (fx_s (pv 0) (fx_s (pv 1) (fx_v (fe_add (fe_cb fn_lenT (de_callB call_len_str n_lenT rfl T.b_len PySem.boot_len (fa_c (fv 4) fa_nil))) (fe_c de_int)) fx_nil)))))
   refine fss_cons ?_ ?_
   ·refine fs_set (i:=7) ?_ ?_ ?_ ?_ ?_ ?_ <;> try first|rfl|exact .inl rfl|exact .inr rfl|assumption|exact fun _=>rfl
    ·exact sc_law.nd
    ·exact (fe_frz (fcd hx G__law_pick D__law_pick hr (fx_s (pv 0) (fx_s (pv 1) (fx_v (fe_lst (fa_c (fe_c de_str) (fa_c (fe_c de_str) (fa_c (fe_c de_str) (fa_c (fe_c de_str) (fa_c (fe_c de_str) (fa_c (fe_c de_str) (fa_c (fe_c de_str) (fa_c (fe_c de_str) (fa_c (fe_c de_str) fa_nil)))))))))) fx_nil)))))
   refine fss_one ?_
   refine fs_set (i:=4) ?_ ?_ ?_ ?_ ?_ ?_ <;> try first|rfl|exact .inl rfl|exact .inr rfl|assumption|exact fun _=>rfl
   ·exact sc_law.nd
   ·exact (fe_addS (fe_addS (fe_sliceT (fv 4) fp_no (fp_is (fv 6))) (fv 7)) (fe_sliceT (fv 4) (fp_is (fe_add (fv 6) (fe_frz (fcd hx G__law_draw D__law_draw hr (fx_s (pv 0) (fx_s (pv 1) (fx_v (fe_c de_int) fx_nil))))))) fp_no))
 refine fss_cons ?_ ?_
 ·unfold c_law_9
  refine fs_set (i:=8) ?_ ?_ ?_ ?_ ?_ ?_ <;> try first|rfl|exact .inl rfl|exact .inr rfl|assumption|exact fun _=>rfl
  ·exact sc_law.nd
  ·exact (fe_frz (fcd hx G__law_due D__law_due hr (fx_v (fv 4) fx_nil)))
 refine fss_cons ?_ ?_
 ·unfold c_law_10
  refine fs_if ?_ ?_ ?_
  ·exact (fb_ne hr.units (fe_frz (fcd hx G__law_ask D__law_ask hr (fx_v (fe_c de_int) (fx_v (fv 4) fx_nil)))) (fe_if (fb_notN (fv 8) (fe_c de_non)) (fv 8) (fe_tup (fa_c (fe_c de_str) (fa_c (fe_c de_int) fa_nil)))))
  ·refine fss_one ?_
   refine fs_ret ?_
   ·exact (fe_c de_bl)
  ·exact fss_nil
 refine fss_cons ?_ ?_
 ·unfold c_law_11
  refine fs_set (i:=9) ?_ ?_ ?_ ?_ ?_ ?_ <;> try first|rfl|exact .inl rfl|exact .inr rfl|assumption|exact fun _=>rfl
  ·exact sc_law.nd
  ·exact (fe_lst (fa_c (fe_c de_non) (fa_c (fe_c de_int) (fa_c (fe_c de_str) (fa_c (fe_c de_str) (fa_c (fe_c de_str) (fa_c (fe_c de_str) (fa_c (fe_c de_str) (fa_c (fe_c de_str) (fa_c (fe_c de_str) (fa_c (fe_c de_str) (fa_c (fe_c de_str) (fa_c (fe_c de_str) (fa_c (fe_c de_str) (fa_c (fe_tup (fa_c (fe_c de_str) fa_nil)) fa_nil)))))))))))))))
 refine fss_cons ?_ ?_
 ·unfold c_law_12
  refine fs_if ?_ ?_ ?_
  ·exact (fb_ne hr.units (fe_frz (fcd hx G__law_ask D__law_ask hr (fx_v (fe_c de_int) (fx_v (fe_frz (fcd hx G__law_pick D__law_pick hr (fx_s (pv 0) (fx_s (pv 1) (fx_v (fv 9) fx_nil))))) fx_nil)))) (fe_tup (fa_c (fe_c de_str) (fa_c (fe_c de_int) fa_nil))))
  ·refine fss_one ?_
   refine fs_ret ?_
   ·exact (fe_c de_bl)
  ·exact fss_nil
 refine fss_one ?_
 unfold c_law_13
 refine fs_ret ?_
 ·exact (fe_eq hr.units (fe_frz (fcd hx G__law_ask D__law_ask hr (fx_v (fe_c de_int) (fx_v (fe_frz (fcd hx G__law_odd_zone D__law_odd_zone hr (fx_s (pv 0) (fx_s (pv 1) fx_nil)))) fx_nil)))) (fe_tup (fa_c (fe_c de_str) (fa_c (fe_c de_int) fa_nil))))
end
end K3
namespace K3
open PySem L2 L2.L3 Due
noncomputable def isW (d:PyData) (lo hi:Int):Bool:=match d with
 | .int i=>decide (lo<=i) && decide (i<=hi)
 | _=>false
noncomputable def noD:PyData->Bool
 | .dict _=>false
 | _=>true
@[simp] theorem tab_ii:isTab "int" "int" = some true:=by decide
@[simp] theorem tab_ib:isTab "int" "bool" = some false:=by decide
@[simp] theorem tab_bi:isTab "bool" "int" = some true:=by decide
@[simp] theorem tab_bb:isTab "bool" "bool" = some true:=by decide
@[simp] theorem tab_ni:isTab "NoneType" "int" = some false:=by decide
@[simp] theorem tab_si:isTab "str" "int" = some false:=by decide
@[simp] theorem tab_li:isTab "list" "int" = some false:=by decide
@[simp] theorem tab_ti:isTab "tuple" "int" = some false:=by decide
@[simp] theorem tab_it:isTab "int" "tuple" = some false:=by decide
@[simp] theorem tab_bt:isTab "bool" "tuple" = some false:=by decide
@[simp] theorem tab_nt:isTab "NoneType" "tuple" = some false:=by decide
@[simp] theorem tab_st:isTab "str" "tuple" = some false:=by decide
@[simp] theorem tab_lt:isTab "list" "tuple" = some false:=by decide
@[simp] theorem tab_tt:isTab "tuple" "tuple" = some true:=by decide
theorem eqv_int (i j:Int):PyData.eqv (.int i) (.int j)=(i == j):=by rw [PyData.eqv]
theorem shaped_int (i:Int):SeqAt.shaped (.int i)=true:=by rfl
theorem r_is_whole {d:PyData} {lo hi:Int} (h:noD d=true):f_is_whole [.dat d,.dat (.int lo),.dat (.int hi)]=.rt (.dat (.bool (isW d lo hi))) []:=by
 cases d with
 | dict _=>cases h
 | int i=>
  by_cases h1:lo<=i
  ·simp [gEq,f_is_whole,m_is_whole,isW,h1]
  ·simp [gEq,f_is_whole,m_is_whole,isW,h1]
 | _=>simp [gEq,f_is_whole,m_is_whole,isW]
noncomputable def isT (d:PyData) (n:Int):Bool:=match d with
 | .tuple ds=>decide ((ds.length:Int)=n)
 | _=>false
theorem r_is_tuple_of {d:PyData} {n:Int} (h:noD d=true):f_is_tuple_of [.dat d,.dat (.int n)]=.rt (.dat (.bool (isT d n))) []:=by
 cases d with
 | dict _=>cases h
 | tuple ds=>simp [gEq,f_is_tuple_of,m_is_tuple_of,isT,shaped_int,eqv_int]; rfl
 | _=>simp [gEq,f_is_tuple_of,m_is_tuple_of,isT]
theorem r_is_ahead {d:PyData} (h:noD d=true):f_is_ahead [.dat d]=.rt (.dat (.bool (isW d (-12) 14))) []:=by simp [gEq,f_is_ahead,m_is_ahead,r_is_whole h]
end K3
namespace K3
open PySem L2 L2.L3 Due
noncomputable abbrev shD (p:Int × Int):PyData:=.tuple [.int p.1,.int p.2]
noncomputable abbrev zoneD (a:Int) (ss:Sh):PyData:=.tuple [.int a,.tuple (ss.map shD)]
@[simp] theorem at0 {x:PyData} {l:List PyData}:atI (x :: l) 0=some x:=by
 unfold atI ixN
 rw [if_pos (by omega),if_pos (by simp <;> omega)]
 rfl
@[simp] theorem at1 {x y:PyData} {l:List PyData}:atI (x :: y :: l) 1=some y:=by
 unfold atI ixN
 rw [if_pos (by omega),if_pos (by simp <;> omega)]
 rfl
@[simp] theorem atL {x:PyData} {l:List PyData}:atI (l ++ [x]) (-1)=some x:=by
 unfold atI ixN
 rw [if_neg (by omega),if_pos (by simp; omega)]
 simp
 rw [show (-1 + ((l.length:Int) + 1)).toNat=l.length by omega]
 simp
theorem shifts_go {c:Option Cell}:∀ {ss:Sh} {lo:Int} {x:Option Cell},Rising lo ss->(∀ p ∈ ss,p.1<=9999/\-12<=p.2/\p.2<=14)->∃ e y,forGo (gNm 2) b_are_shifts_1 (ss.map shD) [c,some (.dat (.int (lo + 1))),x]=.nx [c,e,y]
 | [],_,_,_,_=>⟨_,_,rfl⟩
 | (b,k) :: r,lo,x,⟨h1,h2⟩,ho=>by
  obtain ⟨e,y,ih⟩:=shifts_go (lo:=b) (c:=c) (x:=some (.dat (shD (b,k)))) h2 fun p hp=>ho p (List.mem_cons_of_mem _ hp)
  have hb:=ho (b,k) List.mem_cons_self
  refine ⟨e,y,?_⟩
  rw [List.map_cons,forGo,<-ih]
  have:b_are_shifts_1 [c,some (.dat (.int (lo + 1))),some (.dat (shD (b,k)))]=.nx [c,some (.dat (.int (b + 1))),some (.dat (shD (b,k)))]:=by
   simp [gEq,b_are_shifts_1,r_is_tuple_of (d:=.tuple [.int b,.int k]) rfl,isT,r_is_ahead (d:=.int k) rfl,r_is_whole (d:=.int b) rfl,isW,hb.2.1,hb.2.2,hb.1,show lo + 1<=b by omega]
  simp [gEq,this]
theorem r_are_shifts {ss:Sh} (hl:ss.length<=6) (hr:Rising 0 ss) (ho:∀ p ∈ ss,p.1<=9999/\-12<=p.2/\p.2<=14):f_are_shifts [.dat (.tuple (ss.map shD))]=.rt (.dat (.bool true)) []:=by
 obtain ⟨e,y,h⟩:=shifts_go (lo:=0) (c:=some (.dat (.tuple (ss.map shD)))) (x:=none) hr ho
 simp [gEq,f_are_shifts,m_are_shifts,show ¬ (6:Int) < ss.length by omega] at h ⊢
 rw [h]
 simp
theorem r_is_zone {a:Int} {ss:Sh} (z:ZOk a ss):f_is_zone [.dat (zoneD a ss)]=.rt (.dat (.bool true)) []:=by
 have h1:=z.ah.1
 simp [gEq,f_is_zone,m_is_zone,r_is_tuple_of (d:=zoneD a ss) rfl,isT,r_is_ahead (d:=.int a) rfl,isW,h1.1,h1.2,r_are_shifts z.len z.rise fun p hp=>⟨z.top p hp,z.ah.2 p hp⟩]
theorem r_check_zone {a:Int} {ss:Sh} (z:ZOk a ss):f_check_zone [.dat (zoneD a ss)]=.rt (.dat .none) []:=by
 simp [gEq,f_check_zone,m_check_zone,r_is_zone z]
theorem comp_map {e:XM PyData} {g:GM} {f:PyData->PyData} {P:DEnv->Prop}:∀ {its ys:List PyData} {ρ:DEnv},P ρ->(∀ d ∈ its,∀ ρ,P ρ->∃ ρ1 ρ2,g d ρ=some ρ1/\e ρ1=.ok (f d) ρ2/\P ρ2)->ys.length + its.length<=sizeLine->compGo g bTrue e its ys ρ=some (ys ++ its.map f)
 | [],ys,ρ,_,_,_=>by simp [gEq,compGo]
 | d :: r,ys,ρ,hP,h,hl=>by
  obtain ⟨ρ1,ρ2,h1,h2,h3⟩:=h d List.mem_cons_self ρ hP
  simp only [List.length_cons] at hl
  unfold compGo
  rw [h1]
  simp only [bTrue,h2]
  rw [if_pos (by omega),comp_map h3 (fun d hd=>h d (List.mem_cons_of_mem _ hd)) (by simp; omega)]
  simp
theorem comp_filter {t:XM Bool} {e:XM PyData} {g:GM} {p:PyData->Bool} {f:PyData->PyData} {P:DEnv->Prop}:∀ {its ys:List PyData} {ρ:DEnv},P ρ->(∀ d ∈ its,∀ ρ,P ρ->∃ ρ1 ρ2 ρ3,g d ρ=some ρ1/\t ρ1=.ok (p d) ρ2/\P ρ2/\(p d=true->e ρ2=.ok (f d) ρ3/\P ρ3))->ys.length + its.length<=sizeLine->compGo g t e its ys ρ=some (ys ++ (its.filter p).map f)
 | [],ys,ρ,_,_,_=>by simp [gEq,compGo]
 | d :: r,ys,ρ,hP,h,hl=>by
  obtain ⟨ρ1,ρ2,ρ3,h1,h2,h3,h4⟩:=h d List.mem_cons_self ρ hP
  simp only [List.length_cons] at hl
  unfold compGo
  rw [h1]
  simp only [h2]
  cases hp:p d with
  | true=>
   obtain ⟨h5,h6⟩:=h4 hp
   simp only [h5]
   rw [if_pos (by omega),comp_filter h6 (fun d hd=>h d (List.mem_cons_of_mem _ hd)) (by simp; omega)]
   simp [gEq,hp]
  | false=>
   simp only
   rw [comp_filter h3 (fun d hd=>h d (List.mem_cons_of_mem _ hd)) (by omega)]
   simp [gEq,hp]
end K3
namespace K3
open PySem L2 L2.L3 Due
@[simp] theorem sz0:(0:Nat)<=sizeLine:=by decide
@[simp] theorem sz1:(1:Nat)<=sizeLine:=by decide
@[simp] theorem sz2:(2:Nat)<=sizeLine:=by decide
@[simp] theorem sz3:(3:Nat)<=sizeLine:=by decide
@[simp] theorem sz4:(4:Nat)<=sizeLine:=by decide
@[simp] theorem sz5:(5:Nat)<=sizeLine:=by decide
@[simp] theorem sz6:(6:Nat)<=sizeLine:=by decide
@[simp] theorem sz7:(7:Nat)<=sizeLine:=by decide
@[simp] theorem sz8:(8:Nat)<=sizeLine:=by decide
@[simp] theorem sz9:(9:Nat)<=sizeLine:=by decide
@[simp] theorem sz10:(10:Nat)<=sizeLine:=by decide
@[simp] theorem sz11:(11:Nat)<=sizeLine:=by decide
@[simp] theorem sz12:(12:Nat)<=sizeLine:=by decide
@[simp] theorem sz13:(13:Nat)<=sizeLine:=by decide
@[simp] theorem sz14:(14:Nat)<=sizeLine:=by decide
end K3
namespace K3
open PySem L2 L2.L3 Due
theorem r_cell {ns:List Int} {k:Int} (hn:ns.length<=63) (hk:0<=k):∃ v,f__law_cell_at [.scr ns,.dat (.int k)]=.rt (.dat (.int v)) []:=by
 by_cases h:k < ns.length
 ·have:∃ v,atI ns k=some v:=by
   unfold atI ixN
   rw [if_pos hk,if_pos h]
   exact ⟨ns[k.toNat]'(by omega),by simp⟩
  obtain ⟨v,hv⟩:=this
  exact ⟨v,by simp [gEq,f__law_cell_at,m__law_cell_at,hn,h,hv]⟩
 ·by_cases h0:ns=[]
  ·subst h0
   exact ⟨0,by simp [gEq,f__law_cell_at,m__law_cell_at] at h ⊢; simp [gEq,show ¬ k < 0 by omega]⟩
  ·have hp:0 < (ns.length:Int):=by
    have:=List.length_pos_iff.mpr h0
    omega
   have:∃ v,atI ns (k % ns.length)=some v:=by
    have h1:=Int.emod_nonneg k (show (ns.length:Int) ≠ 0 by omega)
    have h2:=Int.emod_lt_of_pos k hp
    unfold atI ixN
    rw [if_pos h1,if_pos h2]
    exact ⟨ns[(k % ns.length).toNat]'(by omega),by simp⟩
   obtain ⟨v,hv⟩:=this
   exact ⟨v * 31 + k,by simp [gEq,f__law_cell_at,m__law_cell_at,hn,h,h0,hv,cMod,cMul,List.length_pos_iff.mpr h0]⟩
theorem r_mixed {ns:List Int} {k many:Int} (hn:ns.length<=63) (hk:0<=k) (hm:0 < many):∃ v,0<=v/\v < many/\f__law_mixed [.scr ns,.dat (.int k),.dat (.int many)]=.rt (.dat (.int v)) []:=by
 obtain ⟨v,hv⟩:=r_cell (k:=k) hn hk
 generalize hd:(v * 1103515245 + 7919 * k + 12345) % 2147483647=dr
 have d1:0<=dr:=by omega
 have d2:dr < 2147483647:=by omega
 refine ⟨dr ^ 5 % 2147483647 % 999983 % many,Int.emod_nonneg _ (by omega),Int.emod_lt_of_pos _ hm,?_⟩
 simp [gEq,f__law_mixed,m__law_mixed,hv,cMul,cMod,cPow,hd,hm,show dr.natAbs < 18446744073709551616 by omega]
theorem r_draw {ns:List Int} {many:Int} {t:List PyData} (hn:ns.length<=63) (ht:t.length < 1000) (hm:0 < many):∃ v,0<=v/\v < many/\f__law_draw [.scr ns,.own true (.l t),.dat (.int many)]=.rt (.dat (.int v)) [.l (t ++ [.int 0])]:=by
 have sz:1000 < sizeLine:=by decide
 obtain ⟨v,h1,h2,h3⟩:=r_mixed (k:=((t ++ [PyData.int 0]).length:Int)) hn (by omega) hm
 refine ⟨v,h1,h2,?_⟩
 simp at h3
 simp [gEq,f__law_draw,m__law_draw,show t.length < sizeLine by omega,h3]
theorem r_pick {ns:List Int} {ds t:List PyData} (hn:ns.length<=63) (ht:t.length < 1000) (hd:ds ≠ []) (hl:ds.length<=1000):∃ d ∈ ds,f__law_pick [.scr ns,.own true (.l t),.dat (.list ds)]=.rt (.dat d) [.l (t ++ [.int 0])]:=by
 have hp:=List.length_pos_iff.mpr hd
 obtain ⟨v,h1,h2,h3⟩:=r_draw (many:=ds.length) hn ht (by omega)
 have:atI ds v=some (ds[v.toNat]'(by omega)):=by
  unfold atI ixN
  rw [if_pos h1,if_pos h2]
  simp
 refine ⟨ds[v.toNat]'(by omega),List.getElem_mem _,?_⟩
 simp [gEq,f__law_pick,m__law_pick,h3,this]
end K3
namespace K3
open PySem L2 L2.L3 Due
theorem zone_step {ns:List Int} {t:List PyData} {ss:Sh} {m wd:Int} {k:Option Cell} (hn:ns.length<=63) (ht:t.length < 900) (hs:ss.length<=100) (hw:0 < wd):∃ d c,0<=d/\d < wd/\-12<=c/\c<=14/\
  b__law_zone_1 [some (.scr ns),some (.own true (.l t)),some (.dat (.int wd)),some (.dat (.tuple (ss.map shD))),some (.dat (.int m)),k]=.nx [some (.scr ns),some (.own true (.l (t ++ [.int 0] ++ [.int 0]))),some (.dat (.int wd)),some (.dat (.tuple ((ss ++ [(m + 1 + d,c)]).map shD))),some (.dat (.int (m + 1 + d))),k]:=by
 have sz:1000 < sizeLine:=by decide
 obtain ⟨d,d1,d2,h2⟩:=r_draw (ns:=ns) (t:=t) (many:=wd) hn (by omega) hw
 obtain ⟨w,hw,h1⟩:=r_pick (ns:=ns) (t:=t ++ [.int 0]) (ds:=[.int 0,.int 1,.int 2,.int (-1),.int 14,.int (-12),.int 3]) hn (by simp; omega) (by simp) (by simp)
 have:∃ i:Int,w=.int i/\-12<=i/\i<=14:=by
  simp only [List.mem_cons,List.not_mem_nil,or_false] at hw
  rcases hw with rfl | rfl | rfl | rfl | rfl | rfl | rfl <;> exact ⟨_,rfl,by omega,by omega⟩
 obtain ⟨i,rfl,i1,i2⟩:=this
 refine ⟨d,i,d1,by omega,i1,i2,?_⟩
 simp only [List.append_assoc,List.cons_append,List.nil_append] at h1 h2
 simp [gEq,b__law_zone_1,h1,h2,show ss.length + 1<=sizeLine by omega]
theorem zone_go {ns:List Int} {wd:Int} (hn:ns.length<=63) (hw:0 < wd):∀ {its t:List PyData} {ss:Sh} {m:Int} {k:Option Cell},t.length + 2 * its.length < 900->ss.length + its.length<=100->∃ new t' m' k',forGo (gNm 5) b__law_zone_1 its [some (.scr ns),some (.own true (.l t)),some (.dat (.int wd)),some (.dat (.tuple (ss.map shD))),some (.dat (.int m)),k]=.nx [some (.scr ns),some (.own true (.l t')),some (.dat (.int wd)),some (.dat (.tuple ((ss ++ new).map shD))),some (.dat (.int m')),k']/\
  Rising m new/\(∀ p ∈ new,p.1<=m + wd * its.length/\-12<=p.2/\p.2<=14)/\new.length=its.length/\t'.length=t.length + 2 * its.length
 | [],t,ss,m,k,_,_=>⟨[],t,m,k,by simp [gEq,forGo],trivial,fun p hp=>(by cases hp),rfl,rfl⟩
 | x :: r,t,ss,m,k,h1,h2=>by
  simp only [List.length_cons] at h1 h2
  obtain ⟨d,c,d1,d2,c1,c2,e⟩:=zone_step (ns:=ns) (t:=t) (ss:=ss) (m:=m) (wd:=wd) (k:=some (.dat x)) hn (by omega) (by omega) hw
  obtain ⟨new,t',m',k',g1,g2,g3,g4,g5⟩:=zone_go hn hw (its:=r) (t:=t ++ [.int 0] ++ [.int 0]) (ss:=ss ++ [(m + 1 + d,c)]) (m:=m + 1 + d) (k:=some (.dat x)) (by simp; omega) (by simp; omega)
  have e3:wd * ((r.length + 1:Nat):Int)=wd * r.length + wd:=by rw [Int.natCast_add,Int.mul_add]; simp
  have e4:0<=wd * (r.length:Int):=Int.mul_nonneg (by omega) (by omega)
  refine ⟨(m + 1 + d,c) :: new,t',m',k',?_,⟨by omega,g2⟩,fun p hp=>?_,by simp [gEq,g4],by rw [g5]; simp; omega⟩
  ·rw [forGo]
   simp only [gNm,List.set_cons_succ,List.set_cons_zero,e]
   rw [g1]
   simp
  ·rw [List.length_cons,e3]
   rcases List.mem_cons.mp hp with rfl | hp
   ·exact ⟨by simp; omega,c1,c2⟩
   ·have:=g3 p hp
    exact ⟨by omega,this.2⟩
theorem r_zone {ns:List Int} {t:List PyData} {wd:Int} (hn:ns.length<=63) (ht:t.length<=100) (hw:0 < wd):∃ a ss t',f__law_zone [.scr ns,.own true (.l t),.dat (.int wd)]=.rt (.dat (zoneD a ss)) [.l t']/\ss.length<=4/\Rising 0 ss/\AheadOk a ss/\(∀ p ∈ ss,p.1<=4 * wd)/\t'.length<=t.length + 12:=by
 have sz:1000 < sizeLine:=by decide
 obtain ⟨n,n1,n2,h1⟩:=r_draw (ns:=ns) (t:=t) (many:=5) hn (by omega) (by omega)
 obtain ⟨new,t1,m1,k1,g1,g2,g3,g4,g5⟩:=zone_go (ns:=ns) (wd:=wd) hn hw (its:=intsFrom 0 n.toNat) (t:=t ++ [.int 0]) (ss:=[]) (m:=0) (k:=none) (by simp [gEq,intsFrom_length]; omega) (by simp [gEq,intsFrom_length]; omega)
 rw [intsFrom_length] at g3 g4 g5
 simp only [List.length_append,List.length_cons,List.length_nil] at g5
 obtain ⟨w,hw',h2⟩:=r_pick (ns:=ns) (t:=t1) (ds:=[.int 0,.int 1,.int 2,.int (-1),.int 14,.int (-12)]) hn (by omega) (by simp) (by simp)
 have:∃ i:Int,w=.int i/\-12<=i/\i<=14:=by
  simp only [List.mem_cons,List.not_mem_nil,or_false] at hw'
  rcases hw' with rfl | rfl | rfl | rfl | rfl | rfl <;> exact ⟨_,rfl,by omega,by omega⟩
 obtain ⟨i,rfl,i1,i2⟩:=this
 simp only [List.map_nil,List.nil_append] at g1
 have e3:wd * ((n.toNat:Nat):Int)<=4 * wd:=by
  rw [Int.mul_comm 4]
  exact Int.mul_le_mul_of_nonneg_left (by omega) (by omega)
 refine ⟨i,new,t1 ++ [.int 0],?_,by omega,g2,⟨⟨i1,i2⟩,fun p hp=>(g3 p hp).2⟩,fun p hp=>by have:=(g3 p hp).1; omega,by simp; omega⟩
 simp [gEq,f__law_zone,m__law_zone,h1,n1,show n < 4611686018427387904 by omega,show -4611686018427387904<=n by omega,g1,h2]
end K3
namespace K3
open PySem L2 L2.L3 Due
theorem shaped_ints (l:List Int):SeqAt.shaped (.list (l.map PyData.int))=true:=by
 have h1:∀ l:List Int,PyData.canLayAll0 (l.map PyData.int)=true:=fun l=>by induction l with | nil=>rfl | cons x r ih=>simpa [PyData.canLayAll0,PyData.canLay0] using ih
 have h2:∀ l:List Int,PyData.depthAll (l.map PyData.int)=0:=fun l=>by induction l with | nil=>rfl | cons x r ih=>simpa [PyData.depthAll,PyData.depth] using ih
 unfold SeqAt.shaped
 simp [PyData.canLay0,PyData.depth,h1,h2]
theorem strOk_ref:PyData.strOk "refused" = true:=by decide +kernel
theorem shaped_ref (a:Int):SeqAt.shaped (.tuple [.str "refused",.int a])=true:=by
 unfold SeqAt.shaped
 simp [PyData.canLay0,PyData.canLayAll0,PyData.depth,PyData.depthAll,strOk_ref]
theorem eq_self {d:PyData} (h:SeqAt.shaped d=true):gEq false d d=some (.bool true):=by simp [gEq,h,eqv_shaped h]
theorem ne_self {d:PyData} (h:SeqAt.shaped d=true):gEq true d d=some (.bool false):=by simp [gEq,h,eqv_shaped h]
theorem w_zone:f__law_which [.exc "NoZone"]=.rt (.dat (.tuple [.str "refused",.int 0])) []:=by kernel_rfl
end K3
namespace K3
open PySem L2 L2.L3 Due
theorem then_nx {m k:SM} {ρ ρ':DEnv} (h:m ρ=.nx ρ'):sThen m k ρ=k ρ':=by simp [h]
theorem eqv_str (i j:Str):PyData.eqv (.str i) (.str j)=(i == j):=by rw [PyData.eqv]
theorem shaped_str {x:Str} (h:PyData.strOk x=true):SeqAt.shaped (.str x)=true:=by
 unfold SeqAt.shaped
 simp [PyData.canLay0,PyData.depth,h]
@[simp] theorem tab_ss:isTab "str" "str" = some true:=by decide
@[simp] theorem at2 {x y w:PyData} {l:List PyData}:atI (x :: y :: w :: l) 2=some w:=by
 unfold atI ixN
 rw [if_pos (by omega),if_pos (by simp <;> omega)]
 rfl
end K3
namespace K3
open PySem L2 L2.L3 Due
noncomputable def IsT (o:OutS):Prop:=∃ x r,o=.rt (.dat (.bool true)) (x :: r)
theorem law_step {m k:SM} {ρ ρ':DEnv} (h:m ρ=.nx ρ') (q:IsT (k ρ')):IsT (sThen m k ρ):=by rw [then_nx h]; exact q
theorem law_end {m:SM} {n:Nat} {ns:List Int} (h:IsT (m (some (.scr ns) :: List.replicate n none))):fnM 1 (n + 1) m [.scr ns]=.rt (.dat (.bool true)) []:=by
 obtain ⟨x,r,e⟩:=h
 simp [e]
end K3
namespace K3
open PySem L2 L2.L3 Due
@[simp] theorem noD0:noD .none=true:=by simp only [noD]
@[simp] theorem noD1 (i:Int):noD (.int i)=true:=by simp only [noD]
@[simp] theorem noD2 (b:Bool):noD (.bool b)=true:=by simp only [noD]
@[simp] theorem noD3 (x:Str):noD (.str x)=true:=by simp only [noD]
@[simp] theorem noD4 (l:List PyData):noD (.tuple l)=true:=by simp only [noD]
@[simp] theorem noD5 (l:List PyData):noD (.list l)=true:=by simp only [noD]
noncomputable def oddZ:List PyData:=[.none,.int 5,.tuple [],.tuple [.int 0],.tuple [.int 15,.tuple []],.tuple [.int (-13),.tuple []],.tuple [.int 0,.tuple [.tuple [.int 0,.int 1]]],.tuple [.int 0,.tuple [.tuple [.int 5,.int 15]]],.tuple [.int 0,.tuple [.tuple [.int 5,.int 1],.tuple [.int 5,.int 2]]],.tuple [.int 0,.list [.tuple [.int 5,.int 1]]],.list [.int 0,.tuple []],.tuple [.bool true,.tuple []],.tuple [.int 0,.tuple [.tuple [.int 5]]],.str "+0",.tuple [.int 0,.tuple [.tuple [.int 9,.int 1],.tuple [.int 5,.int 2]]]]
theorem zone_bad:∀ d ∈ oddZ,noD d=true/\f_check_zone [.dat d]=.ex "NoZone" []:=by
 intro d hd
 unfold oddZ at hd
 simp only [List.mem_cons,List.not_mem_nil,or_false] at hd
 rcases hd with rfl | rfl | rfl | rfl | rfl | rfl | rfl | rfl | rfl | rfl | rfl | rfl | rfl | rfl | rfl
 all_goals refine ⟨rfl,?_⟩
 all_goals simp [isT,isW,f_check_zone,m_check_zone,f_is_zone,m_is_zone,r_is_tuple_of,r_is_ahead,r_is_whole,f_are_shifts,m_are_shifts,forGo,b_are_shifts_1]
theorem r_odd_zone {ns:List Int} {t:List PyData} (hn:ns.length<=63) (ht:t.length < 900):∃ d ∈ oddZ,f__law_odd_zone [.scr ns,.own true (.l t)]=.rt (.dat d) [.l (t ++ [.int 0])]:=by
 obtain ⟨d,hd,h⟩:=r_pick (ns:=ns) (t:=t) (ds:=oddZ) hn (by omega) (by simp [oddZ]) (by simp [oddZ])
 unfold oddZ at h
 exact ⟨d,hd,by simp [f__law_odd_zone,m__law_odd_zone,h,show (15:Nat)<=sizeLine from by decide]⟩
noncomputable abbrev refD (k:Int):PyData:=.tuple [.str "refused",.int k]
end K3
namespace K3
open PySem L2 L2.L3 Due
theorem sap (x y:Str):(x ++ y).cps.toList=x.cps.toList ++ y.cps.toList:=by
 show (x.cps ++ y.cps).toList=_
 simp
theorem sext {x y:Str} (h:x.cps.toList=y.cps.toList):x=y:=by
 cases x; cases y
 congr 1
 exact Array.toList_inj.mp h
theorem sln (x:Str):x.length=x.cps.toList.length:=by simp [Str.length]
noncomputable abbrev num (n:Int):Str:=Str.ofString (toString n)
theorem num_dig {n:Int} (h:0<=n):∀ c ∈ (num n).cps.toList,48<=c/\c<=57:=by
 intro c hc
 by_cases z:48<=c/\c<=57
 ·exact z
 ·exfalso
  by_cases m:c=45
  ·subst m
   obtain ⟨k,rfl⟩:=Int.eq_ofNat_of_zero_le h
   rw [PySem.W.KIN.signs_num] at hc
   obtain ⟨ch,hch,e⟩:=List.mem_map.mp hc
   have:=Nat.isDigit_of_mem_toDigits (by decide) (by decide) hch
   have r:=PyProof.Rows.digit_range this
   omega
  ·exact PyProof.Rows.int_text_free' c ⟨m,by omega⟩ n hc
theorem num_len {n:Int} (h:0<=n) (h1:n < 10000):1<=(num n).length/\(num n).length<=4:=
 ⟨PySem.W.KLn.one_le h,PyProof.Rows.toString_length_le h (by decide) h1⟩
theorem num_ok {n:Int} (h:0<=n):PyData.strOk (num n)=true:=by
 unfold PyData.strOk
 rw [<-Array.all_toList]
 exact List.all_eq_true.mpr fun c hc=>decide_eq_true (by have:=num_dig h c hc; omega)
theorem sl_from (x:Str) {k:Int} (h:0<=k) (h1:k<=x.cps.toList.length):Txt.slice x (some k) none=⟨(x.cps.toList.drop k.toNat).toArray⟩:=by
 have e:=StrLaws.sliceText_from (x:=x) (i:=k) ⟨h,h1⟩
 refine Eq.trans ?_ (e.trans ?_)
 ·rfl
 ·congr 2
  apply List.take_of_length_le
  simp
  omega
theorem sl_to (x:Str) {k:Int} (h:0<=k) (h1:k<=x.cps.toList.length):Txt.slice x none (some k)=⟨(x.cps.toList.take k.toNat).toArray⟩:=by
 have e:=StrLaws.sliceText_to (x:=x) (j:=k) ⟨h,h1⟩
 refine Eq.trans ?_ (e.trans ?_)
 ·rfl
 ·simp
theorem fig_in {c:Nat} (h:48<=c/\c<=57):inS ⟨#[c]⟩ "0123456789" = some (.bool true):=by
 have m:c ∈ (Str.ofString "0123456789").cps.toList:=by
  have:c=48\/c=49\/c=50\/c=51\/c=52\/c=53\/c=54\/c=55\/c=56\/c=57:=by omega
  rcases this with rfl | rfl | rfl | rfl | rfl | rfl | rfl | rfl | rfl | rfl <;> decide +kernel
 unfold inS
 rw [StrLaws.found_one]
 simp only [m,decide_true]
theorem figs_go:∀ (l:List Nat) (ys:List PyData) (ρ:DEnv),(∃ x,ρ=[x])->(∀ c ∈ l,48<=c/\c<=57)->ys.length + l.length<=1000->compGo (gNm 0) bTrue e_read_number_1 (l.map fun c=>.str ⟨#[c]⟩) ys ρ=some (ys ++ List.replicate l.length (.bool true))
 | [],ys,ρ,_,_,_=>by simp [compGo]
 | c :: l,ys,ρ,⟨x,hx⟩,h,hl=>by
  have sz:1000 < sizeLine:=by decide
  subst hx
  simp only [List.length_cons] at hl
  have ih:=figs_go l (ys ++ [.bool true]) [some (.dat (.str ⟨#[c]⟩))] ⟨_,rfl⟩ (fun d hd=>h d (List.mem_cons_of_mem _ hd)) (by simp; omega)
  have he:e_read_number_1 [some (.dat (.str ⟨#[c]⟩))]=.ok (.bool true) [some (.dat (.str ⟨#[c]⟩))]:=by
   simp [e_read_number_1,gS2,fig_in (h c List.mem_cons_self)]
  rw [List.map_cons,compGo]
  simp [bTrue,he,show ys.length < sizeLine by omega,ih,List.replicate_succ]
theorem num_small {n:Int} (h:0<=n) (h1:n < 10000):n.natAbs < 1000000:=by omega
theorem str_num {n:Int} (h:0<=n) (h1:n < 10000):nStr [.int n]=some (.str (num n)):=by
 show (if n.natAbs < 1000000 then some (PyData.str (num n)) else none)=_
 rw [if_pos (num_small h h1)]
theorem int_num {n:Int} (h:0<=n) (h1:n < 10000):nIntT [.str (num n)]=some (.int n):=by
 have l:=(num_len h h1).2
 show (if (num n).length<=640 then (PySem.intText? (num n)).map PyData.int else none)=_
 rw [if_pos (by omega),PySem.W.KIN.num_reads h (by omega)]
 rfl
theorem bools_rep:∀ n:Nat,bools? (List.replicate n (PyData.bool true))=some (List.replicate n true)
 | 0=>rfl
 | n + 1=>by rw [List.replicate_succ,bools?,bools_rep n]; rfl
theorem r_number {n:Int} (h:0<=n) (h1:n < 10000):f_read_number [.dat (.str (num n))]=.rt (.dat (.int n)) []:=by
 have sz:1000 < sizeLine:=by decide
 have l:=num_len h h1
 have g:=figs_go (num n).cps.toList [] [none] ⟨_,rfl⟩ (num_dig h) (by rw [<-sln]; simp; omega)
 have hl:nLenT [.str (num n)]=some (.int (num n).length):=by show (if (num n).length<=sizeLine then some (PyData.int (num n).length) else none)=_; rw [if_pos (by omega)]
 have b:=bools_rep (num n).cps.toList.length
 have ok:=num_ok h
 have e1:=str_num h h1
 have e2:=int_num h h1
 have cl:(num n).cps.size<=sizeLine:=by have:(num n).length=(num n).cps.size:=rfl; omega
 have sg:signs (num n)=(num n).cps.toList.map fun c=>.str ⟨#[c]⟩:=rfl
 have i1:(1:Int)<=(num n).length:=by omega
 have i2:((num n).length:Int)<=4:=by omega
 have sf:=ne_self (shaped_str ok)
 rw [List.nil_append] at g
 rw [<-sg] at g
 rw [Array.length_toList] at g b
 generalize num n=z at *
 simp [f_read_number,m_read_number,hl,i1,i2,iSt,xComp,compK,g,cl,nAll,b,e1,e2,sf]
noncomputable def sgn (i:Int):Str:=if i < 0 then "-" ++ num (-i) else "+" ++ num i
theorem cat_ok {a b:Str} (h:a.length + b.length<=1000):catS a b=some (.str (a ++ b)):=by
 have sz:1000 < sizeLine:=by decide
 unfold catS
 rw [if_pos (by omega)]
theorem len_1:(Str.ofString "-").length=1/\(Str.ofString "+").length=1:=by decide +kernel
theorem r_signed {i:Int} (h:-10000 < i) (h1:i < 10000):f_signed [.dat (.int i)]=.rt (.dat (.str (sgn i))) []:=by
 have l:=len_1
 by_cases hi:i < 0
 ·have e:=str_num (n:=-i) (by omega) (by omega)
  have ln:=num_len (n:=-i) (by omega) (by omega)
  have c:=cat_ok (a:="-") (b:=num (-i)) (by omega)
  unfold sgn
  rw [if_pos hi]
  generalize num (-i)=z at *
  simp [f_signed,m_signed,hi,e,gS2,c]
 ·have e:=str_num (n:=i) (by omega) (by omega)
  have ln:=num_len (n:=i) (by omega) (by omega)
  have c:=cat_ok (a:="+") (b:=num i) (by omega)
  unfold sgn
  rw [if_neg hi]
  generalize num i=z at *
  simp [f_signed,m_signed,hi,e,gS2,c]
theorem sub_one (x:Str) (c i:Nat):Builtin.Str.subAt x ⟨#[c]⟩ i=true ↔ x.cps.toList[i]? = some c:=by
 unfold Builtin.Str.subAt
 have e1:(⟨#[c]⟩:Str).length=1:=rfl
 rw [e1,beq_iff_eq,<-Array.toList_inj,Array.toList_extract]
 show (x.cps.toList.drop i).take (i + 1 - i)=[c] ↔ _
 rw [show i + 1 - i=1 by omega]
 constructor
 ·intro h
  have:=congrArg (fun l=>l[0]?) h
  simpa using this
 ·intro h
  obtain ⟨hl,he⟩:=List.getElem?_eq_some_iff.mp h
  rw [List.drop_eq_getElem_cons hl,he]
  rfl
theorem at_one (x:Str) (c i:Nat):StrLaws.At x ⟨#[c]⟩ x.length i ↔ x.cps.toList[i]? = some c:=by
 unfold StrLaws.At
 rw [sub_one]
 constructor
 ·exact fun h=>h.2
 ·intro h
  refine ⟨?_,h⟩
  have hl:=(List.getElem?_eq_some_iff.mp h).1
  have e:=sln x
  show i + 1<=_
  omega
theorem find_at {x:Str} {c:Nat} {a b:List Nat} (h:x.cps.toList=a ++ c :: b) (ha:c ∉ a):Txt.find x ⟨#[c]⟩=a.length:=by
 rcases PyProof.Rows.find_whole x ⟨#[c]⟩ with ⟨_,n⟩ | ⟨i,e,hi,lo⟩
 ·exact absurd ((at_one x c a.length).mpr (by rw [h]; simp)) (n _)
 ·rw [e]
  rw [at_one,h] at hi
  have l1:¬ a.length < i:=fun z=>lo _ z ((at_one x c a.length).mpr (by rw [h]; simp))
  have l2:¬ i < a.length:=fun z=>by
   rw [List.getElem?_append_left z] at hi
   exact ha (List.mem_of_getElem? hi)
  omega
theorem find_no {x:Str} {c:Nat} (h:c ∉ x.cps.toList):Txt.find x ⟨#[c]⟩ = -1:=by
 rcases PyProof.Rows.find_whole x ⟨#[c]⟩ with ⟨e,_⟩ | ⟨i,_,hi,_⟩
 ·exact e
 ·exact absurd (List.mem_of_getElem? ((at_one x c i).mp hi)) h
theorem sw_one {x:Str} {c d:Nat} {a:List Nat} (h:x.cps.toList=d :: a):Txt.startswith x ⟨#[c]⟩=(d == c):=by
 unfold Txt.startswith
 have e:Builtin.Str.subAt x ⟨#[c]⟩ 0=(d == c):=by
  rw [Bool.eq_iff_iff,sub_one,h]
  simp
 rw [e]
 have:0 + (⟨#[c]⟩:Str).length<=x.length:=by
  have e:=sln x
  rw [h,List.length_cons] at e
  show 0 + 1<=x.length
  omega
 rw [decide_eq_true this,Bool.true_and]
theorem plus_is:Str.ofString "+" = ⟨#[43]⟩:=by decide +kernel
theorem minus_is:Str.ofString "-" = ⟨#[45]⟩:=by decide +kernel
theorem blank_is:Str.ofString " " = ⟨#[32]⟩:=by decide +kernel
theorem sgn_neg {i:Int} (h:i < 0):(sgn i).cps.toList=45 :: (num (-i)).cps.toList:=by
 unfold sgn
 rw [if_pos h,sap,minus_is]
 rfl
theorem sgn_pos {i:Int} (h:¬ i < 0):(sgn i).cps.toList=43 :: (num i).cps.toList:=by
 unfold sgn
 rw [if_neg h,sap,plus_is]
 rfl
theorem r_ahead {i:Int} (h:-10000 < i) (h1:i < 10000):f_read_ahead [.dat (.str (sgn i))]=.rt (.dat (.int i)) []:=by
 have sz:1000 < sizeLine:=by decide
 by_cases hi:i < 0
 ·have e:=sgn_neg hi
  have ln:=num_len (n:=-i) (by omega) (by omega)
  have lz:(sgn i).length<=sizeLine:=by rw [sln,e,List.length_cons,<-sln]; omega
  have s1:Txt.slice (sgn i) (some 1) none=num (-i):=by
   rw [sl_from _ (by omega) (by rw [e,List.length_cons]; omega)]
   apply sext
   rw [e]
   rfl
  have s2:slT (.str (sgn i)) (some 1) none=some (.str (num (-i))):=by
   show (if (sgn i).length<=sizeLine then some (PyData.str (Txt.slice (sgn i) (some 1) none)) else none)=_
   rw [if_pos lz,s1]
  have w1:gSw (sgn i) [.str "+"]=some (.bool false):=by show some (PyData.bool (Txt.startswith (sgn i) "+"))=_; rw [plus_is,sw_one e]; rfl
  have w2:gSw (sgn i) [.str "-"]=some (.bool true):=by show some (PyData.bool (Txt.startswith (sgn i) "-"))=_; rw [minus_is,sw_one e]; rfl
  have rn:=r_number (n:=-i) (by omega) (by omega)
  have p:0 < -i:=by omega
  generalize sgn i=z at *
  simp [f_read_ahead,m_read_ahead,xSlT,s2,rn,xSM,smK,w1,w2,hi]
 ·have e:=sgn_pos hi
  have ln:=num_len (n:=i) (by omega) (by omega)
  have lz:(sgn i).length<=sizeLine:=by rw [sln,e,List.length_cons,<-sln]; omega
  have s1:Txt.slice (sgn i) (some 1) none=num i:=by
   rw [sl_from _ (by omega) (by rw [e,List.length_cons]; omega)]
   apply sext
   rw [e]
   rfl
  have s2:slT (.str (sgn i)) (some 1) none=some (.str (num i)):=by
   show (if (sgn i).length<=sizeLine then some (PyData.str (Txt.slice (sgn i) (some 1) none)) else none)=_
   rw [if_pos lz,s1]
  have w1:gSw (sgn i) [.str "+"]=some (.bool true):=by show some (PyData.bool (Txt.startswith (sgn i) "+"))=_; rw [plus_is,sw_one e]; rfl
  have rn:=r_number (n:=i) (by omega) (by omega)
  generalize sgn i=z at *
  simp [f_read_ahead,m_read_ahead,xSlT,s2,rn,xSM,smK,w1]
noncomputable def shT (p:Int × Int):Str:=num p.1 ++ sgn p.2
theorem sgn_len {i:Int} (h:-10000 < i) (h1:i < 10000):(sgn i).length<=5:=by
 by_cases hi:i < 0
 ·have e:=sgn_neg hi
  have ln:=num_len (n:=-i) (by omega) (by omega)
  rw [sln,e,List.length_cons,<-sln]; omega
 ·have e:=sgn_pos hi
  have ln:=num_len (n:=i) (by omega) (by omega)
  rw [sln,e,List.length_cons,<-sln]; omega
theorem max_is (a b:Int):nMax [.int a,.int b]=some (.int (max a b)):=by simp [nMax]
theorem r_shift {m i:Int} (hm:0<=m) (hm1:m < 10000) (h:-10000 < i) (h1:i < 10000):f_read_shift [.dat (.str (shT (m,i)))]=.rt (.dat (.tuple [.int m,.int i])) []:=by
 have sz:1000 < sizeLine:=by decide
 have ln:=num_len hm hm1
 have ls:=sgn_len h h1
 have e:(shT (m,i)).cps.toList=(num m).cps.toList ++ (sgn i).cps.toList:=sap _ _
 have lx:(shT (m,i)).length=(num m).length + (sgn i).length:=by rw [sln,e,List.length_append,<-sln,<-sln]
 have le:((num m).length:Int)<=(shT (m,i)).cps.toList.length:=by rw [<-sln]; omega
 have s1:slT (.str (shT (m,i))) none (some ((num m).length:Int))=some (.str (num m)):=by
  show (if (shT (m,i)).length<=sizeLine then some (PyData.str (Txt.slice (shT (m,i)) none (some ((num m).length:Int)))) else none)=_
  rw [if_pos (by omega),sl_to _ (by omega) le]
  congr 2
  apply sext
  rw [e]
  show ((num m).cps.toList ++ (sgn i).cps.toList).take ((num m).length:Int).toNat=_
  rw [Int.toNat_natCast,sln,List.take_left]
 have s2:slT (.str (shT (m,i))) (some ((num m).length:Int)) none=some (.str (sgn i)):=by
  show (if (shT (m,i)).length<=sizeLine then some (PyData.str (Txt.slice (shT (m,i)) (some ((num m).length:Int)) none)) else none)=_
  rw [if_pos (by omega),sl_from _ (by omega) le]
  congr 2
  apply sext
  rw [e]
  show ((num m).cps.toList ++ (sgn i).cps.toList).drop ((num m).length:Int).toNat=_
  rw [Int.toNat_natCast,sln,List.drop_left]
 have d43:(43:Nat) ∉ (num m).cps.toList:=fun z=>by have:=num_dig hm _ z; omega
 have d45:(45:Nat) ∉ (num m).cps.toList:=fun z=>by have:=num_dig hm _ z; omega
 have f:∃ a b:Int,gFind (shT (m,i)) [.str "+"]=some (.int a)/\gFind (shT (m,i)) [.str "-"]=some (.int b)/\max a b=((num m).length:Int):=by
  by_cases hi:i < 0
  ·have e2:=sgn_neg hi
   refine ⟨-1,(num m).length,?_,?_,by omega⟩
   ·show some (PyData.int (Txt.find (shT (m,i)) "+"))=_
    rw [plus_is,find_no]
    rw [e,e2]
    intro z
    rcases List.mem_append.mp z with z | z
    ·exact d43 z
    ·rcases List.mem_cons.mp z with z | z
     ·omega
     ·have:=num_dig (n:=-i) (by omega) _ z; omega
   ·show some (PyData.int (Txt.find (shT (m,i)) "-"))=_
    rw [minus_is,find_at (by rw [e,e2]) d45,<-sln]
  ·have e2:=sgn_pos hi
   refine ⟨(num m).length,-1,?_,?_,by omega⟩
   ·show some (PyData.int (Txt.find (shT (m,i)) "+"))=_
    rw [plus_is,find_at (by rw [e,e2]) d43,<-sln]
   ·show some (PyData.int (Txt.find (shT (m,i)) "-"))=_
    rw [minus_is,find_no]
    rw [e,e2]
    intro z
    rcases List.mem_append.mp z with z | z
    ·exact d45 z
    ·rcases List.mem_cons.mp z with z | z
     ·omega
     ·have:=num_dig (n:=i) (by omega) _ z; omega
 obtain ⟨a,b,f1,f2,mx⟩:=f
 have rn:=r_number hm hm1
 have ra:=r_ahead h h1
 have mx':=max_is a b
 rw [mx] at mx'
 have nn:¬ ((num m).length:Int) < 0:=by omega
 generalize shT (m,i)=z at *
 generalize sgn i=y at *
 generalize ((num m).length:Int)=L at *
 simp [-nMax,f_read_shift,m_read_shift,xSM,smK,f1,f2,mx',nn,xSlT,s1,s2,rn,ra,show (2:Nat)<=sizeLine by omega]
theorem free_app {c:Nat}:∀ {a b r q:List Nat},c ∉ a->c ∉ b->a ++ c :: r=b ++ c :: q->a=b/\r=q
 | [],[],_,_,_,_,h=>by simp at h; exact ⟨rfl,h⟩
 | [],y :: b,_,_,_,hb,h=>by simp at h; exact absurd h.1 (fun e=>hb (by rw [e]; exact List.mem_cons_self))
 | x :: a,[],_,_,ha,_,h=>by simp at h; exact absurd h.1 (fun e=>ha (by rw [<-e]; exact List.mem_cons_self))
 | x :: a,y :: b,_,_,ha,hb,h=>by
  simp only [List.cons_append,List.cons.injEq] at h
  obtain ⟨h1,h2⟩:=free_app (fun z=>ha (List.mem_cons_of_mem _ z)) (fun z=>hb (List.mem_cons_of_mem _ z)) h.2
  exact ⟨by rw [h.1,h1],h2⟩
theorem join_cons {c:Nat} {x y:Str} {r:List Str}:(Str.join ⟨#[c]⟩ (x :: y :: r)).cps.toList=x.cps.toList ++ c :: (Str.join ⟨#[c]⟩ (y :: r)).cps.toList:=by
 show (x ++ ⟨#[c]⟩ ++ Str.join ⟨#[c]⟩ (y :: r)).cps.toList=_
 rw [sap,sap]
 simp
theorem join_inj {c:Nat}:∀ {ps qs:List Str},ps ≠ []->qs ≠ []->(∀ p ∈ ps,c ∉ p.cps.toList)->(∀ q ∈ qs,c ∉ q.cps.toList)->(Str.join ⟨#[c]⟩ ps).cps.toList=(Str.join ⟨#[c]⟩ qs).cps.toList->ps=qs
 | [],_,h,_,_,_,_=>absurd rfl h
 | _ :: _,[],_,h,_,_,_=>absurd rfl h
 | [x],[y],_,_,_,_,e=>by rw [sext (show x.cps.toList=y.cps.toList from e)]
 | [x],y :: z :: r,_,_,hp,_,e=>by
  rw [join_cons] at e
  have e':x.cps.toList=y.cps.toList ++ c :: _:=e
  exact absurd (by rw [e']; simp) (hp x List.mem_cons_self)
 | x :: y :: r,[z],_,_,_,hq,e=>by
  rw [join_cons] at e
  have e':x.cps.toList ++ c :: _=z.cps.toList:=e
  exact absurd (by rw [<-e']; simp) (hq z List.mem_cons_self)
 | x :: y :: r,z :: w :: q,_,_,hp,hq,e=>by
  rw [join_cons,join_cons] at e
  obtain ⟨h1,h2⟩:=free_app (hp x List.mem_cons_self) (hq z List.mem_cons_self) e
  have:=join_inj (by simp) (by simp) (fun p hh=>hp p (List.mem_cons_of_mem _ hh)) (fun p hh=>hq p (List.mem_cons_of_mem _ hh)) h2
  rw [sext h1,this]
theorem split_ne (x y:Str):Txt.split x y ≠ []:=by
 unfold Txt.split
 split
 ·simp
 ·split
  ·simp
  ·intro z
   have:=congrArg List.length z
   rw [length_partsBetween] at this
   simp at this
theorem split_join {c:Nat} {ps:List Str} (h:ps ≠ []) (hf:∀ p ∈ ps,c ∉ p.cps.toList):Txt.split (Str.join ⟨#[c]⟩ ps) ⟨#[c]⟩=ps:=
 join_inj (split_ne _ _) h (StrLaws.split_free _ c) hf (by rw [StrLaws.join_split])
theorem tjoin (x:Str) (ps:List Str):Txt.join x ps=Str.join x ps:=StrLaws.glued_eq_join x ps
noncomputable def zT (a:Int) (ss:Sh):List Str:=sgn a :: ss.map shT
theorem sgn_free {i:Int} (h:-10000 < i) (h1:i < 10000):(32:Nat) ∉ (sgn i).cps.toList:=fun z=>by
 by_cases hi:i < 0
 ·rw [sgn_neg hi] at z
  rcases List.mem_cons.mp z with z | z
  ·omega
  ·have:=num_dig (n:=-i) (by omega) _ z; omega
 ·rw [sgn_pos hi] at z
  rcases List.mem_cons.mp z with z | z
  ·omega
  ·have:=num_dig (n:=i) (by omega) _ z; omega
structure NOk (a:Int) (ss:Sh):Prop where
 a0:-10000 < a/\a < 10000
 p:∀ p ∈ ss,(0<=p.1/\p.1 < 10000)/\-10000 < p.2/\p.2 < 10000
 l:ss.length<=6
theorem NOk.of {a:Int} {ss:Sh} (z:ZOk a ss) (h:∀ p ∈ ss,0<=p.1/\p.1 < 10000):NOk a ss:=
 ⟨by have:=z.ah.1; omega,fun p hp=>⟨h p hp,by have:=z.ah.2 p hp; omega⟩,z.len⟩
theorem sh_free {p:Int × Int} (h:(0<=p.1/\p.1 < 10000)/\-10000 < p.2/\p.2 < 10000):(32:Nat) ∉ (shT p).cps.toList:=fun z=>by
 have e:(shT p).cps.toList=(num p.1).cps.toList ++ (sgn p.2).cps.toList:=sap _ _
 rw [e] at z
 rcases List.mem_append.mp z with z | z
 ·have:=num_dig h.1.1 _ z; omega
 ·exact sgn_free h.2.1 h.2.2 z
theorem zT_free {a:Int} {ss:Sh} (k:NOk a ss):∀ p ∈ zT a ss,(32:Nat) ∉ p.cps.toList:=fun p hp=>by
 rcases List.mem_cons.mp hp with rfl | hp
 ·exact sgn_free k.a0.1 k.a0.2
 ·obtain ⟨q,hq,rfl⟩:=List.mem_map.mp hp
  exact sh_free (k.p q hq)
theorem sh_len {p:Int × Int} (h:(0<=p.1/\p.1 < 10000)/\-10000 < p.2/\p.2 < 10000):(shT p).length<=9:=by
 have e:(shT p).cps.toList=(num p.1).cps.toList ++ (sgn p.2).cps.toList:=sap _ _
 have l1:=num_len h.1.1 h.1.2
 have l2:=sgn_len h.2.1 h.2.2
 rw [sln,e,List.length_append,<-sln,<-sln]; omega
theorem zT_len {a:Int} {ss:Sh} (k:NOk a ss):∀ p ∈ zT a ss,p.length<=9:=fun p hp=>by
 rcases List.mem_cons.mp hp with rfl | hp
 ·have:=sgn_len k.a0.1 k.a0.2; omega
 ·obtain ⟨q,hq,rfl⟩:=List.mem_map.mp hp
  exact sh_len (k.p q hq)
theorem strs_map:∀ l:List Str,strs? (l.map PyData.str)=some l
 | []=>rfl
 | x :: l=>by simp [strs?,strs_map l]
theorem sum_le {B:Nat}:∀ {l:List Str},(∀ p ∈ l,p.length<=B)->(l.map (·.length)).sum<=l.length * B
 | [],_=>by simp
 | x :: l,h=>by
  have h1:=h x List.mem_cons_self
  have h2:=sum_le fun p hp=>h p (List.mem_cons_of_mem _ hp)
  simp only [List.map_cons,List.sum_cons,List.length_cons,Nat.add_mul]
  omega
theorem join_ok {l:List Str} (h:∀ p ∈ l,p.length<=100) (hl:l.length<=100):gJoin " " [.list (l.map PyData.str)]=some (.str (Str.join ⟨#[32]⟩ l)):=by
 have s:=sum_le h
 have e:(Str.ofString " ").length=1:=by decide +kernel
 unfold gJoin
 simp only [strs_map]
 show (if (l.map (fun x:Str=>x.length)).sum + l.length * (Str.ofString " ").length<=16777216 then some (PyData.str (Txt.join " " l)) else none)=_
 have:l.length * 100<=100 * 100:=Nat.mul_le_mul_right _ hl
 rw [if_pos (by rw [e]; omega),tjoin,blank_is]
theorem join_len {c:Nat}:∀ {l:List Str},(Str.join ⟨#[c]⟩ l).length<=(l.map (·.length)).sum + l.length
 | []=>Nat.zero_le _
 | [x]=>by show x.length<=_; simp
 | x :: y :: r=>by
  have ih:=join_len (c:=c) (l:=y :: r)
  rw [sln,join_cons,List.length_append,List.length_cons,<-sln,<-sln]
  simp only [List.map_cons,List.sum_cons,List.length_cons] at ih ⊢
  omega
theorem split_ok {l:List Str} (hn:l ≠ []) (hf:∀ p ∈ l,(32:Nat) ∉ p.cps.toList) (h:∀ p ∈ l,p.length<=100) (hl:l.length<=100):gSpl (Str.join ⟨#[32]⟩ l) [.str " "]=some (.list (l.map PyData.str)):=by
 have sz:1000000 < sizeLine:=by decide
 have s:=sum_le h
 have j:=join_len (c:=32) (l:=l)
 have:l.length * 100<=100 * 100:=Nat.mul_le_mul_right _ hl
 show (if ((Str.ofString " ").length == 0)=false/\(Str.join ⟨#[32]⟩ l).length + 2<=sizeLine then some (PyData.list ((Txt.split (Str.join ⟨#[32]⟩ l) " ").map PyData.str)) else none)=_
 rw [if_pos ⟨by decide +kernel,by omega⟩,blank_is,split_join hn hf]
theorem zt_go:∀ (ss:Sh) (ys:List PyData) (ρ:DEnv),(∃ x,ρ=[x])->(∀ p ∈ ss,(0<=p.1/\p.1 < 10000)/\-10000 < p.2/\p.2 < 10000)->ys.length + ss.length<=1000->compGo (gNm 0) bTrue e_zone_text_1 (ss.map shD) ys ρ=some (ys ++ (ss.map shT).map PyData.str)
 | [],ys,ρ,_,_,_=>by simp [compGo]
 | p :: ss,ys,ρ,⟨x,hx⟩,h,hl=>by
  have sz:1000 < sizeLine:=by decide
  subst hx
  simp only [List.length_cons] at hl
  have hp:=h p List.mem_cons_self
  have ih:=zt_go ss (ys ++ [.str (shT p)]) [some (.dat (shD p))] ⟨_,rfl⟩ (fun d hd=>h d (List.mem_cons_of_mem _ hd)) (by simp; omega)
  have he:e_zone_text_1 [some (.dat (shD p))]=.ok (.str (shT p)) [some (.dat (shD p))]:=by
   have e1:=str_num hp.1.1 hp.1.2
   have e2:=r_signed hp.2.1 hp.2.2
   have l1:=num_len hp.1.1 hp.1.2
   have l2:=sgn_len hp.2.1 hp.2.2
   have c:=cat_ok (a:=num p.1) (b:=sgn p.2) (by omega)
   unfold shT
   generalize num p.1=u at *
   generalize sgn p.2=v at *
   simp [e_zone_text_1,e1,e2,gS2,c]
  rw [List.map_cons,compGo]
  simp only [gNm,List.length_cons,List.length_nil,List.set_cons_zero,bTrue,he]
  rw [if_pos (by omega),ih]
  simp
theorem r_zone_text {a:Int} {ss:Sh} (z:ZOk a ss) (k:NOk a ss):f_zone_text [.dat (zoneD a ss)]=.rt (.dat (.str (Str.join ⟨#[32]⟩ (zT a ss)))) []:=by
 have sz:1000 < sizeLine:=by decide
 have hl:=k.l
 have g:=zt_go ss [] [none] ⟨_,rfl⟩ k.p (by simp; omega)
 rw [List.nil_append] at g
 have cz:=r_check_zone z
 have rs:=r_signed k.a0.1 k.a0.2
 have j:=join_ok (l:=zT a ss) (fun p hp=>by have:=zT_len k p hp; omega) (by simp [zT]; omega)
 have e:(zT a ss).map PyData.str=[PyData.str (sgn a)] ++ (ss.map shT).map PyData.str:=rfl
 rw [e] at j
 have i0:gIxA (zoneD a ss) (.int 0)=some (.int a):=rfl
 have i1:gIxA (zoneD a ss) (.int 1)=some (.tuple (ss.map shD)):=rfl
 have lr:((ss.map shT).map PyData.str).length<=6:=by simpa using hl
 generalize zoneD a ss=Z at *
 generalize Str.join ⟨#[32]⟩ (zT a ss)=T at *
 generalize (ss.map shT).map PyData.str=R at *
 generalize ss.map shD=D at *
 generalize sgn a=s at *
 have gc:gCatL (.list [.str s]) (.list R)=some (.list ([.str s] ++ R)):=by
  simp [gCatL]
  omega
 simp only [List.cons_append,List.nil_append] at j gc
 simp [-gIxA,-gCatL,f_zone_text,m_zone_text,cz,rs,i0,i1,compK,g,show R.length<=sizeLine by omega,show (1:Nat)<=sizeLine by omega,gc,xSM,smK,j]
theorem j1 {x:Str} {c:Nat}:(Str.join ⟨#[c]⟩ [x]).cps.toList=x.cps.toList:=rfl
theorem alen (x y:Str):(x ++ y).length=x.length + y.length:=Str.length_append x y
end K3
namespace K3
open PySem L2 L2.L3 Due
noncomputable def digB (c:Nat):Bool:=decide (48<=c/\c<=57)
theorem fig_any (c:Nat):inS ⟨#[c]⟩ "0123456789" = some (.bool (digB c)):=by
 unfold inS
 rw [StrLaws.found_one]
 have e:(Str.ofString "0123456789").cps.toList=[48,49,50,51,52,53,54,55,56,57]:=by decide +kernel
 rw [e]
 congr 2
 unfold digB
 rw [decide_eq_decide]
 simp only [List.mem_cons,List.not_mem_nil,or_false]
 omega
theorem figs_all:∀ (l:List Nat) (ys:List PyData) (ρ:DEnv),(∃ x,ρ=[x])->ys.length + l.length<=1000->compGo (gNm 0) bTrue e_read_number_1 (l.map fun c=>.str ⟨#[c]⟩) ys ρ=some (ys ++ (l.map digB).map PyData.bool)
 | [],ys,ρ,_,_=>by simp [compGo]
 | c :: l,ys,ρ,⟨x,hx⟩,hl=>by
  have sz:1000 < sizeLine:=by decide
  subst hx
  simp only [List.length_cons] at hl
  have ih:=figs_all l (ys ++ [.bool (digB c)]) [some (.dat (.str ⟨#[c]⟩))] ⟨_,rfl⟩ (by simp; omega)
  have he:e_read_number_1 [some (.dat (.str ⟨#[c]⟩))]=.ok (.bool (digB c)) [some (.dat (.str ⟨#[c]⟩))]:=by
   simp [e_read_number_1,gS2,fig_any c]
  rw [List.map_cons,compGo]
  simp only [gNm,List.length_cons,List.length_nil,List.set_cons_zero,bTrue,he]
  rw [if_pos (by omega),ih]
  simp
theorem bools_any:∀ l:List Bool,bools? (l.map PyData.bool)=some l
 | []=>rfl
 | b :: l=>by rw [List.map_cons,bools?,bools_any l]; rfl
theorem fold_lt:∀ (l:List Nat) (a:Nat),(∀ c ∈ l,48<=c/\c<=57)->l.foldl (fun acc c=>acc * 10 + (c - 48)) a < (a + 1) * 10 ^ l.length
 | [],a,_=>by simp
 | c :: l,a,h=>by
  have hc:=h c List.mem_cons_self
  have ih:=fold_lt l (a * 10 + (c - 48)) fun d hd=>h d (List.mem_cons_of_mem _ hd)
  rw [List.foldl_cons,List.length_cons,Nat.pow_succ]
  have:(a * 10 + (c - 48) + 1) * 10 ^ l.length<=((a + 1) * 10) * 10 ^ l.length:=Nat.mul_le_mul_right _ (by omega)
  have e:(a + 1) * (10 ^ l.length * 10)=((a + 1) * 10) * 10 ^ l.length:=by rw [Nat.mul_comm (10 ^ l.length) 10,Nat.mul_assoc]
  rw [e]
  exact Nat.lt_of_lt_of_le ih this
theorem val_lt (l:List Nat) (h:∀ c ∈ l,48<=c/\c<=57):NumText.digitsVal l < 10 ^ l.length:=by
 have:=fold_lt l 0 h
 rw [Nat.zero_add,Nat.one_mul] at this
 exact this
theorem number_len {z:Str} (hz:z.length<=100000) (h:z.length=0\/4 < z.length):f_read_number [.dat (.str z)]=.ex "NoText" []:=by
 have sz:100000 < sizeLine:=by decide
 have hl:nLenT [.str z]=some (.int z.length):=by show (if z.length<=sizeLine then some (PyData.int z.length) else none)=_; rw [if_pos (by omega)]
 by_cases i1:(1:Int)<=z.length
 ·have i2:¬ ((z.length:Int)<=4):=by omega
  simp [f_read_number,m_read_number,hl,i1,i2]
 ·simp [f_read_number,m_read_number,hl,i1]
theorem number_any {z:Str} (h1:1<=z.length) (h2:z.length<=4) (ok:PyData.strOk z=true):(∃ n:Int,0<=n/\n < 10000/\z=num n/\f_read_number [.dat (.str z)]=.rt (.dat (.int n)) [])\/((¬ ∃ n:Int,0<=n/\z=num n)/\f_read_number [.dat (.str z)]=.ex "NoText" []):=by
 have sz:1000 < sizeLine:=by decide
 by_cases hd:∀ c ∈ z.cps.toList,48<=c/\c<=57
 ·have ne:z.cps.toList ≠ []:=fun e=>by have:=sln z; rw [e] at this; simp at this; omega
  have it:=intText_digits (x:=z) (fun c hc=>hd c hc) ne (by omega)
  have vl:=val_lt z.cps.toList hd
  rw [<-sln] at vl
  have p4:10 ^ z.length<=10 ^ 4:=Nat.pow_le_pow_right (by decide) h2
  have un:∀ n:Int,0<=n->z=num n->n=(NumText.digitsVal z.cps.toList:Nat):=fun n hn en=>by
   obtain ⟨m,rfl⟩:=Int.eq_ofNat_of_zero_le hn
   have s:=PySem.W.KIN.signs_num m
   have vb:=PySem.W.KIN.val_back m
   rw [<-s,show Str.ofString (toString ((m:Nat):Int))=z from en.symm] at vb
   rw [vb]
  generalize NumText.digitsVal z.cps.toList=v at *
  have b:(v:Int) < 10000:=by omega
  by_cases e:z=num (v:Int)
  ·refine .inl ⟨v,by omega,b,e,?_⟩
   have:=r_number (n:=(v:Int)) (by omega) b
   rw [<-e] at this
   exact this
  ·refine .inr ⟨fun ⟨n,hn,en⟩=>e (by rw [<-un n hn en]; exact en),?_⟩
   have g:=figs_all z.cps.toList [] [none] ⟨_,rfl⟩ (by rw [<-sln]; simp; omega)
   have hl:nLenT [.str z]=some (.int z.length):=by show (if z.length<=sizeLine then some (PyData.int z.length) else none)=_; rw [if_pos (by omega)]
   have al:(z.cps.toList.map digB).all id=true:=by
    rw [List.all_eq_true]
    intro x hx
    obtain ⟨c,hc,rfl⟩:=List.mem_map.mp hx
    exact decide_eq_true (hd c hc)
   have ba:=bools_any (z.cps.toList.map digB)
   have e1:=str_num (n:=(v:Int)) (by omega) b
   have e2:nIntT [.str z]=some (.int v):=by
    show (if z.length<=640 then (PySem.intText? z).map PyData.int else none)=_
    rw [if_pos (by omega),it]
    rfl
   have ne2:gEq true (.str (num (v:Int))) (.str z)=some (.bool true):=by
    have q:(num (v:Int) == z)=false:=by
     cases h:(num (v:Int) == z) with
     | false=>rfl
     | true=>exact absurd (eq_of_beq h).symm e
    simp [gEq,shaped_str (num_ok (n:=(v:Int)) (by omega)),shaped_str ok,eqv_str,q]
   have i1:(1:Int)<=z.length:=by omega
   have i2:(z.length:Int)<=4:=by omega
   have cl:((z.cps.toList.map digB).map PyData.bool).length<=sizeLine:=by rw [List.length_map,List.length_map,<-sln]; omega
   have sg:signs z=z.cps.toList.map fun c=>.str ⟨#[c]⟩:=rfl
   rw [List.nil_append,<-sg] at g
   generalize (z.cps.toList.map digB).map PyData.bool=BB at *
   generalize z.cps.toList.map digB=B at *
   generalize num (v:Int)=y at *
   simp [f_read_number,m_read_number,hl,i1,i2,iSt,g,cl,nAll,ba,al,e2,e1,ne2]
 ·refine .inr ⟨fun ⟨n,hn,en⟩=>hd (by rw [en]; exact num_dig hn),?_⟩
  have g:=figs_all z.cps.toList [] [none] ⟨_,rfl⟩ (by rw [<-sln]; simp; omega)
  have hl:nLenT [.str z]=some (.int z.length):=by show (if z.length<=sizeLine then some (PyData.int z.length) else none)=_; rw [if_pos (by omega)]
  have al:(z.cps.toList.map digB).all id=false:=by
   rw [<-Bool.not_eq_true,List.all_eq_true]
   intro h
   exact hd fun c hc=>of_decide_eq_true (h _ (List.mem_map_of_mem hc))
  have ba:=bools_any (z.cps.toList.map digB)
  have i1:(1:Int)<=z.length:=by omega
  have i2:(z.length:Int)<=4:=by omega
  have cl:((z.cps.toList.map digB).map PyData.bool).length<=sizeLine:=by rw [List.length_map,List.length_map,<-sln]; omega
  have sg:signs z=z.cps.toList.map fun c=>.str ⟨#[c]⟩:=rfl
  rw [List.nil_append,<-sg] at g
  generalize (z.cps.toList.map digB).map PyData.bool=BB at *
  generalize z.cps.toList.map digB=B at *
  simp [f_read_number,m_read_number,hl,i1,i2,iSt,g,cl,nAll,ba,al]
end K3
namespace K3
open PySem L2 L2.L3 Due
noncomputable def sD (l:List (Str × Int)):KVs:=l.map fun p=>(.str p.1,.int p.2)
theorem pairs_sD:∀ l:List (Str × Int),pairsD (l.map fun p=>.tuple [.str p.1,.int p.2])=some (sD l)
 | []=>rfl
 | p :: l=>by
  rw [List.map_cons,pairsD,pairs_sD l]
  rfl
theorem dict_sD {l:List (Str × Int)} (nd:(l.map (·.1)).Nodup):dictD (sD l)=sD l:=by
 have h:=dictD_nodup (sD l) [] (fun p hp=>by
  obtain ⟨q,hq,rfl⟩:=List.mem_map.mp hp
  exact ⟨[.inr q.1],rfl,rfl⟩) ?_
 ·exact h.trans (List.nil_append _)
 ·unfold sD
  rw [List.pairwise_map]
  have nd':=List.pairwise_map.mp nd
  exact nd'.imp fun {p q} h e=>h (by
   have e':(some [Sum.inr p.1]:Option (List Key))=some [Sum.inr q.1]:=e
   injection e' with e1
   injection e1 with e2
   injection e2)
noncomputable def look (l:List (Str × Int)) (w:Str):Option Int:=match l with
 | []=>none
 | p :: r=>if p.1=w then some p.2 else look r w
theorem look_cons (p:Str × Int) (r:List (Str × Int)) (w:Str):look (p :: r) w=if p.1=w then some p.2 else look r w:=rfl
theorem find_sD:∀ (l:List (Str × Int)) (w:Str),dFind false (sD l) [.inr w]=(look l w).map PyData.int
 | [],w=>rfl
 | p :: l,w=>by
  show (if keyG false (.str p.1)=some [.inr w] then some (PyData.int p.2) else dFind false (sD l) [.inr w])=_
  rw [find_sD l w]
  have e:(keyG false (.str p.1)=some [.inr w]) ↔ p.1=w:=⟨fun h=>by
   have h':(some [Sum.inr p.1]:Option (List Key))=some [Sum.inr w]:=h
   injection h' with e1
   injection e1 with e2
   injection e2,fun h=>by rw [h]; rfl⟩
  rw [look_cons]
  by_cases h:p.1=w
  ·rw [if_pos (e.mpr h),if_pos h]; rfl
  ·rw [if_neg (fun z=>h (e.mp z)),if_neg h]
theorem look_mem {l:List (Str × Int)} {w:Str} {n:Int} (h:look l w=some n):(w,n) ∈ l:=by
 induction l with
 | nil=>cases h
 | cons p l ih=>
  rw [look_cons] at h
  by_cases e:p.1=w
  ·rw [if_pos e] at h
   cases h
   subst e
   exact List.mem_cons_self
  ·rw [if_neg e] at h
   exact List.mem_cons_of_mem _ (ih h)
theorem look_of {l:List (Str × Int)} (nd:(l.map (·.1)).Nodup) {w:Str} {n:Int} (h:(w,n) ∈ l):look l w=some n:=by
 induction l with
 | nil=>cases h
 | cons p l ih=>
  rw [List.map_cons,List.nodup_cons] at nd
  rw [look_cons]
  rcases List.mem_cons.mp h with rfl | h
  ·rw [if_pos rfl]
  ·rw [if_neg (fun e=>nd.1 (by rw [e]; exact List.mem_map.mpr ⟨_,h,rfl⟩)),ih nd.2 h]
theorem num_inj {m n:Int} (hm:0<=m) (hn:0<=n) (e:num m=num n):m=n:=by
 obtain ⟨a,rfl⟩:=Int.eq_ofNat_of_zero_le hm
 obtain ⟨b,rfl⟩:=Int.eq_ofNat_of_zero_le hn
 have v1:=PySem.W.KIN.val_back a
 have v2:=PySem.W.KIN.val_back b
 rw [<-PySem.W.KIN.signs_num] at v1 v2
 rw [show Str.ofString (toString ((a:Nat):Int))=Str.ofString (toString ((b:Nat):Int)) from e] at v1
 rw [<-v1,v2]
noncomputable def numsL (lo n:Nat):List (Str × Int):=(List.range n).map fun i=>(num ((lo + i:Nat):Int),((lo + i:Nat):Int))
theorem nums_nodup {lo n:Nat}:((numsL lo n).map (·.1)).Nodup:=by
 unfold numsL
 rw [List.map_map]
 refine List.pairwise_map.mpr (List.nodup_range.imp fun {a b} h e=>h ?_)
 have:=num_inj (m:=((lo + a:Nat):Int)) (n:=((lo + b:Nat):Int)) (by omega) (by omega) e
 omega
theorem nums_of {lo n:Nat} {k:Int} (h1:(lo:Int)<=k) (h2:k < lo + n):look (numsL lo n) (num k)=some k:=by
 refine look_of nums_nodup (List.mem_map.mpr ⟨(k - lo).toNat,List.mem_range.mpr (by omega),?_⟩)
 have:((lo + (k - lo).toNat:Nat):Int)=k:=by omega
 rw [this]
theorem nums_is {lo n:Nat} {w:Str} {k:Int} (h:look (numsL lo n) w=some k):(lo:Int)<=k/\k < lo + n/\w=num k:=by
 obtain ⟨i,hi,e⟩:=List.mem_map.mp (look_mem h)
 have:=List.mem_range.mp hi
 injection e with e1 e2
 refine ⟨by omega,by omega,?_⟩
 rw [<-e1,e2]
end K3
namespace K3
open PySem L2 L2.L3 Due
theorem gS2_is {g:Str->Str->Option PyData} {x y:Str}:gS2 g (.str x) (.str y)=g x y:=rfl
theorem ok_iff {x:Str}:PyData.strOk x=true ↔ ∀ c ∈ x.cps.toList,c < 0x110000:=by
 unfold PyData.strOk
 rw [<-Array.all_toList,List.all_eq_true]
 simp
theorem ok_join:∀ {l:List Str},(∀ x ∈ l,PyData.strOk x=true)->PyData.strOk (Str.join ⟨#[32]⟩ l)=true
 | [],_=>by decide +kernel
 | [x],h=>by
  rw [ok_iff,j1,<-ok_iff]
  exact h x (by simp)
 | x :: y :: r,h=>by
  have ih:=ok_iff.mp (ok_join (l:=y :: r) fun u hu=>h u (List.mem_cons_of_mem _ hu))
  have hx:=ok_iff.mp (h x (by simp))
  rw [ok_iff,join_cons]
  intro c hc
  rcases List.mem_append.mp hc with hc | hc
  ·exact hx c hc
  ·rcases List.mem_cons.mp hc with rfl | hc
   ·decide
   ·exact ih c hc
theorem len_join:∀ l:List Str,l.length<=(Str.join ⟨#[32]⟩ l).length + 1
 | []=>by simp
 | [x]=>by simp
 | x :: y :: r=>by
  have ih:=len_join (y :: r)
  rw [sln] at ih ⊢
  rw [join_cons]
  simp only [List.length_cons,List.length_append] at ih ⊢
  omega
noncomputable abbrev wsOf (z:Str):List Str:=Txt.split z ⟨#[32]⟩
theorem ws_len (z:Str):(wsOf z).length<=z.length + 1:=by
 have h:=len_join (wsOf z)
 rw [StrLaws.join_split] at h
 exact h
theorem spl_any {z:Str} (hz:z.length<=100000):gSpl z [.str " "]=some (.list ((wsOf z).map PyData.str)):=by
 have sz:1000000 < sizeLine:=by decide
 show (if ((Str.ofString " ").length == 0)=false/\z.length + 2<=sizeLine then some (PyData.list ((Txt.split z (Str.ofString " ")).map PyData.str)) else none)=_
 rw [if_pos ⟨by decide +kernel,by omega⟩,blank_is]
noncomputable def IsR (c:Cell) (o:OutS):Prop:=∃ x r,o=.rt c (some (.dat x) :: r)
theorem th {m k:SM} {ρ ρ':DEnv} {c:Cell} (h:m ρ=.nx ρ') (q:IsR c (k ρ')):IsR c (sThen m k ρ):=by rw [then_nx h]; exact q
theorem setC_ok {i:Nat} {m:XM Cell} {ρ ρ' ρ'':DEnv} {c:Cell} (h:m ρ=.ok c ρ') (q:setK i c ρ' = .nx ρ''):sSetC i m ρ=.nx ρ'':=by simp only [sSetC,h,ofX]; exact q
theorem part_in:∀ {l:List Str} {x:Str},x ∈ l->(∀ c ∈ x.cps.toList,c ∈ (Str.join ⟨#[32]⟩ l).cps.toList)/\x.length<=(Str.join ⟨#[32]⟩ l).length
 | [y],x,h=>by
  obtain rfl:=List.mem_singleton.mp h
  rw [sln,sln,j1]
  exact ⟨fun c hc=>hc,Nat.le_refl _⟩
 | y :: w :: r,x,h=>by
  rw [sln,sln,join_cons]
  rcases List.mem_cons.mp h with rfl | h
  ·exact ⟨fun c hc=>List.mem_append_left _ hc,by rw [List.length_append]; omega⟩
  ·have ih:=part_in (l:=w :: r) h
   rw [sln,sln] at ih
   refine ⟨fun c hc=>List.mem_append_right _ (List.mem_cons_of_mem _ (ih.1 c hc)),?_⟩
   rw [List.length_append,List.length_cons]
   omega
theorem word_ok {z:Str} (oz:PyData.strOk z=true) {x:Str} (h:x ∈ wsOf z):PyData.strOk x=true/\x.length<=z.length:=by
 have q:=part_in h
 rw [StrLaws.join_split] at q
 exact ⟨ok_iff.mpr fun c hc=>ok_iff.mp oz c (q.1 c hc),q.2⟩
theorem rnum {x:Str} (ok:PyData.strOk x=true) (hl:x.length<=1000):(∃ n:Int,0<=n/\n < 10000/\x=num n/\f_read_number [.dat (.str x)]=.rt (.dat (.int n)) [])\/f_read_number [.dat (.str x)]=.ex "NoText" []:=by
 by_cases h1:1<=x.length/\x.length<=4
 ·rcases number_any h1.1 h1.2 ok with h | h
  ·exact .inl h
  ·exact .inr h.2
 ·exact .inr (number_len (by omega) (by omega))
theorem slice_ok {x:Str} (ok:PyData.strOk x=true) (l u:Option Int):PyData.strOk (Txt.slice x l u)=true:=by
 rw [ok_iff] at ok ⊢
 unfold Txt.slice
 split
 ·exact ok
 ·intro c hc
  simp only [List.mem_filterMap] at hc
  obtain ⟨i,_,e⟩:=hc
  exact ok c (by rw [Array.mem_toList_iff]; exact Array.mem_of_getElem? e)
theorem cat_sok {x y:Str} (hx:PyData.strOk x=true) (hy:PyData.strOk y=true):PyData.strOk (x ++ y)=true:=by
 rw [ok_iff] at hx hy ⊢
 rw [sap]
 intro c hc
 rcases List.mem_append.mp hc with h | h
 ·exact hx c h
 ·exact hy c h
theorem sl_is {z:Str} {l u:Option Int} (h:z.length<=1000):slT (.str z) l u=some (.str (Txt.slice z l u)):=by
 have sz:1000000 < sizeLine:=by decide
 show (if z.length<=sizeLine then _ else _)=_
 rw [if_pos (by omega)]
theorem lenT_is {z:Str} (h:z.length<=1000):nLenT [.str z]=some (.int z.length):=by
 have sz:1000000 < sizeLine:=by decide
 show (if z.length<=sizeLine then _ else _)=_
 rw [if_pos (by omega)]
theorem sl_t {x:Str} {k:Nat} (hk:k<=x.length) (hx:x.length<=1000):slT (.str x) none (some (k:Int))=some (.str ⟨(x.cps.toList.take k).toArray⟩):=by
 rw [sl_is hx,sl_to _ (by omega) (by rw [<-sln]; omega),Int.toNat_natCast]
theorem sl_f {x:Str} {k:Nat} (hk:k<=x.length) (hx:x.length<=1000):slT (.str x) (some (k:Int)) none=some (.str ⟨(x.cps.toList.drop k).toArray⟩):=by
 rw [sl_is hx,sl_from _ (by omega) (by rw [<-sln]; omega),Int.toNat_natCast]
theorem sub_ok {x:Str} (ok:PyData.strOk x=true) {l:List Nat} (h:∀ c ∈ l,c ∈ x.cps.toList):PyData.strOk ⟨l.toArray⟩=true:=ok_iff.mpr fun c hc=>ok_iff.mp ok c (h c (by simpa using hc))
theorem rahead {x:Str} (ok:PyData.strOk x=true) (hl:x.length<=1000):(∃ i:Int,-10000 < i/\i < 10000/\x=sgn i/\f_read_ahead [.dat (.str x)]=.rt (.dat (.int i)) [])\/f_read_ahead [.dat (.str x)]=.ex "NoText" []:=by
 by_cases h0:x.length=0
 ·have s:slT (.str x) (some 1) none=some (.str ⟨#[]⟩):=by
   rw [sl_is hl]
   congr 2
   have:=Txt.slice_le x (some 1) none
   have e:(Txt.slice x (some 1) none).cps.toList=[]:=List.length_eq_zero_iff.mp (by rw [<-sln]; omega)
   exact sext e
  have rn:=number_len (z:=⟨#[]⟩) (by decide) (.inl (by decide))
  exact .inr (by simp [f_read_ahead,m_read_ahead,xSlT,s,rn])
 ·obtain ⟨c,r,e⟩:∃ c r,x.cps.toList=c :: r:=by
   cases h:x.cps.toList with
   | nil=>rw [sln,h] at h0; exact absurd rfl h0
   | cons c r=>exact ⟨c,r,rfl⟩
  have s:slT (.str x) (some 1) none=some (.str ⟨r.toArray⟩):=by
   have:=sl_f (x:=x) (k:=1) (by omega) hl
   rw [e] at this
   exact this
  have okr:PyData.strOk ⟨r.toArray⟩=true:=sub_ok ok fun d hd=>by rw [e]; exact List.mem_cons_of_mem _ hd
  have lr:(⟨r.toArray⟩:Str).length<=1000:=by
   rw [sln] at hl ⊢
   rw [e] at hl
   simpa using Nat.le_of_succ_le hl
  have w1:gSw x [.str "+"]=some (.bool (c == 43)):=by show some (PyData.bool (Txt.startswith x "+"))=_; rw [plus_is,sw_one e]
  have w2:gSw x [.str "-"]=some (.bool (c == 45)):=by show some (PyData.bool (Txt.startswith x "-"))=_; rw [minus_is,sw_one e]
  rcases rnum okr lr with ⟨n,n1,n2,en,rn⟩ | rn
  ·have er:r=(num n).cps.toList:=by rw [<-en]
   by_cases c1:c=43
   ·subst c1
    refine .inl ⟨n,by omega,n2,sext ?_,?_⟩
    ·rw [e,sgn_pos (by omega),er]
    ·rw [show ((43:Nat) == 43)=true from rfl] at w1
     simp [f_read_ahead,m_read_ahead,xSlT,s,rn,xSM,smK,w1]
   ·rw [show (c == 43)=false from beq_eq_false_iff_ne.mpr c1] at w1
    by_cases c2:c=45
    ·subst c2
     rw [show ((45:Nat) == 45)=true from rfl] at w2
     by_cases hn:0 < n
     ·refine .inl ⟨-n,by omega,by omega,sext ?_,?_⟩
      ·rw [e,sgn_neg (by omega),er,Int.neg_neg]
      ·simp [f_read_ahead,m_read_ahead,xSlT,s,rn,xSM,smK,w1,w2,hn]
     ·exact .inr (by simp [f_read_ahead,m_read_ahead,xSlT,s,rn,xSM,smK,w1,w2,hn])
    ·rw [show (c == 45)=false from beq_eq_false_iff_ne.mpr c2] at w2
     exact .inr (by simp [f_read_ahead,m_read_ahead,xSlT,s,rn,xSM,smK,w1,w2])
  ·exact .inr (by simp [f_read_ahead,m_read_ahead,xSlT,s,rn])
theorem find_any (x:Str) (c:Nat):Txt.find x ⟨#[c]⟩ = -1\/∃ k:Nat,Txt.find x ⟨#[c]⟩=k/\k < x.length:=by
 by_cases h:c ∈ x.cps.toList
 ·obtain ⟨a,b,e,hn⟩:=List.eq_append_cons_of_mem h
  exact .inr ⟨a.length,find_at e hn,by rw [sln,e]; simp⟩
 ·exact .inl (find_no h)
theorem rshift {x:Str} (ok:PyData.strOk x=true) (hl:x.length<=1000):(∃ p:Int × Int,((0<=p.1/\p.1 < 10000)/\-10000 < p.2/\p.2 < 10000)/\x=shT p/\f_read_shift [.dat (.str x)]=.rt (.dat (shD p)) [])\/f_read_shift [.dat (.str x)]=.ex "NoText" []:=by
 have sz:1000 < sizeLine:=by decide
 have f1:gFind x [.str "+"]=some (.int (Txt.find x ⟨#[43]⟩)):=by rw [<-plus_is]; rfl
 have f2:gFind x [.str "-"]=some (.int (Txt.find x ⟨#[45]⟩)):=by rw [<-minus_is]; rfl
 have h:max (Txt.find x ⟨#[43]⟩) (Txt.find x ⟨#[45]⟩) = -1\/∃ k:Nat,max (Txt.find x ⟨#[43]⟩) (Txt.find x ⟨#[45]⟩)=k/\k < x.length:=by
  rcases find_any x 43 with a | ⟨k,a,ka⟩ <;> rcases find_any x 45 with b | ⟨l,b,lb⟩
  ·exact .inl (by rw [a,b]; rfl)
  ·exact .inr ⟨l,by rw [a,b]; omega,lb⟩
  ·exact .inr ⟨k,by rw [a,b]; omega,ka⟩
  ·rw [a,b]
   by_cases h:k<=l
   ·exact .inr ⟨l,by omega,lb⟩
   ·exact .inr ⟨k,by omega,ka⟩
 have mx:=max_is (Txt.find x ⟨#[43]⟩) (Txt.find x ⟨#[45]⟩)
 generalize Txt.find x ⟨#[43]⟩=a at *
 generalize Txt.find x ⟨#[45]⟩=b at *
 generalize max a b=M at *
 rcases h with rfl | ⟨k,rfl,kl⟩
 ·exact .inr (by simp [-nMax,f_read_shift,m_read_shift,xSM,smK,f1,f2,mx])
 ·have s1:=sl_t (x:=x) (k:=k) (by omega) hl
  have s2:=sl_f (x:=x) (k:=k) (by omega) hl
  have o1:PyData.strOk ⟨(x.cps.toList.take k).toArray⟩=true:=sub_ok ok fun d hd=>List.mem_of_mem_take hd
  have o2:PyData.strOk ⟨(x.cps.toList.drop k).toArray⟩=true:=sub_ok ok fun d hd=>List.mem_of_mem_drop hd
  have l1:(⟨(x.cps.toList.take k).toArray⟩:Str).length<=1000:=by
   rw [sln]
   show (x.cps.toList.take k).length<=1000
   rw [List.length_take]
   omega
  have l2:(⟨(x.cps.toList.drop k).toArray⟩:Str).length<=1000:=by
   rw [sln] at hl ⊢
   show (x.cps.toList.drop k).length<=1000
   rw [List.length_drop]
   omega
  have nn:¬ ((k:Int) < 0):=by omega
  have ex:x=⟨(x.cps.toList.take k).toArray⟩ ++ ⟨(x.cps.toList.drop k).toArray⟩:=sext (by rw [sap]; simp)
  generalize (⟨(x.cps.toList.take k).toArray⟩:Str)=u at *
  generalize (⟨(x.cps.toList.drop k).toArray⟩:Str)=v at *
  generalize (k:Int)=K at *
  rcases rnum o1 l1 with ⟨m,m1,m2,rfl,rm⟩ | rm
  ·rcases rahead o2 l2 with ⟨i,i1,i2,rfl,ri⟩ | ri
   ·refine .inl ⟨(m,i),⟨⟨m1,m2⟩,i1,i2⟩,ex,?_⟩
    simp [-nMax,f_read_shift,m_read_shift,xSM,smK,f1,f2,mx,nn,xSlT,s1,s2,rm,ri,show (2:Nat)<=sizeLine by omega]
   ·exact .inr (by simp [-nMax,f_read_shift,m_read_shift,xSM,smK,f1,f2,mx,nn,xSlT,s1,s2,rm,ri])
  ·exact .inr (by simp [-nMax,f_read_shift,m_read_shift,xSM,smK,f1,f2,mx,nn,xSlT,s1,rm])
theorem rshifts:∀ (ws:List Str) (ys:List PyData) (ρ:DEnv),(∃ x,ρ=[x])->(∀ w ∈ ws,PyData.strOk w=true/\w.length<=1000)->ys.length + ws.length<=100000->
  (∃ ss:Sh,ws=ss.map shT/\(∀ p ∈ ss,(0<=p.1/\p.1 < 10000)/\-10000 < p.2/\p.2 < 10000)/\∃ ρ',compGoX (gNm 0) e_read_zone_1 (ws.map PyData.str) ys ρ=.ok (ys ++ ss.map shD) ρ')\/∃ ρ',compGoX (gNm 0) e_read_zone_1 (ws.map PyData.str) ys ρ=.ex "NoText" ρ'
 | [],ys,ρ,_,_,_=>.inl ⟨[],rfl,(fun _ h=>by cases h),ρ,by simp [compGoX]⟩
 | w :: ws,ys,ρ,⟨x,hx⟩,hw,hl=>by
  have sz:1000000 < sizeLine:=by decide
  subst hx
  simp only [List.length_cons] at hl
  have h0:=hw w List.mem_cons_self
  rw [List.map_cons,compGoX]
  simp only [gNm,List.length_cons,List.length_nil,List.set_cons_zero]
  rcases rshift h0.1 h0.2 with ⟨p,hp,ep,rp⟩ | rp
  ·have he:e_read_zone_1 [some (.dat (.str w))]=.ok (shD p) [some (.dat (.str w))]:=by
    generalize shD p=D at *
    simp [e_read_zone_1,rp]
   simp only [he,Out.bind]
   rw [if_pos (by omega)]
   rcases rshifts ws (ys ++ [shD p]) [some (.dat (.str w))] ⟨_,rfl⟩ (fun u hu=>hw u (List.mem_cons_of_mem _ hu)) (by simp; omega) with ⟨ss,e1,e2,ρ',e3⟩ | ⟨ρ',e3⟩
   ·refine .inl ⟨p :: ss,by rw [List.map_cons,<-ep,<-e1],fun q hq=>?_,ρ',by rw [e3]; simp⟩
    rcases List.mem_cons.mp hq with rfl | hq
    ·exact hp
    ·exact e2 q hq
   ·exact .inr ⟨ρ',e3⟩
  ·have he:e_read_zone_1 [some (.dat (.str w))]=.ex "NoText" [some (.dat (.str w))]:=by
    simp [e_read_zone_1,rp]
   simp only [he,Out.bind]
   exact .inr ⟨_,rfl⟩
theorem shifts_any {c:Option Cell}:∀ {ss:Sh} {lo:Int} {x:Option Cell},(Rising lo ss/\∀ p ∈ ss,p.1<=9999/\-12<=p.2/\p.2<=14)\/∃ ρ',forGo (gNm 2) b_are_shifts_1 (ss.map shD) [c,some (.dat (.int (lo + 1))),x]=.rt (.dat (.bool false)) (c :: ρ')
 | [],lo,x=>.inl ⟨trivial,fun _ h=>by cases h⟩
 | (b,k) :: r,lo,x=>by
  rw [List.map_cons,forGo]
  simp only [gNm,List.length_cons,List.length_nil,List.set_cons_zero,List.set_cons_succ]
  by_cases hk:-12<=k/\k<=14
  ·by_cases hb:lo + 1<=b/\b<=9999
   ·have:b_are_shifts_1 [c,some (.dat (.int (lo + 1))),some (.dat (shD (b,k)))]=.nx [c,some (.dat (.int (b + 1))),some (.dat (shD (b,k)))]:=by
     simp [gEq,b_are_shifts_1,r_is_tuple_of (d:=.tuple [.int b,.int k]) rfl,isT,r_is_ahead (d:=.int k) rfl,r_is_whole (d:=.int b) rfl,isW,hk.1,hk.2,hb.1,hb.2]
    rcases shifts_any (c:=c) (ss:=r) (lo:=b) (x:=some (.dat (shD (b,k)))) with h | ⟨ρ',h⟩
    ·refine .inl ⟨⟨by omega,h.1⟩,fun p hp=>?_⟩
     rcases List.mem_cons.mp hp with rfl | hp
     ·exact ⟨hb.2,hk⟩
     ·exact h.2 p hp
    ·exact .inr ⟨ρ',by simp only [this]; exact h⟩
   ·refine .inr ⟨[some (.dat (.int (lo + 1))),some (.dat (shD (b,k)))],?_⟩
    have e:isW (.int b) (lo + 1) 9999=false:=by
     show (decide (lo + 1<=b) && decide (b<=9999))=false
     rw [Bool.and_eq_false_iff]
     by_cases h1:lo + 1<=b
     ·exact .inr (decide_eq_false fun h2=>hb ⟨h1,h2⟩)
     ·exact .inl (decide_eq_false h1)
    have:b_are_shifts_1 [c,some (.dat (.int (lo + 1))),some (.dat (shD (b,k)))]=.rt (.dat (.bool false)) [c,some (.dat (.int (lo + 1))),some (.dat (shD (b,k)))]:=by
     have w:=r_is_whole (d:=.int b) (lo:=lo + 1) (hi:=9999) rfl
     rw [e] at w
     simp [gEq,b_are_shifts_1,r_is_tuple_of (d:=.tuple [.int b,.int k]) rfl,isT,r_is_ahead (d:=.int k) rfl,isW,hk.1,hk.2,w]
    simp only [this]
  ·refine .inr ⟨[some (.dat (.int (lo + 1))),some (.dat (shD (b,k)))],?_⟩
   have e:isW (.int k) (-12) 14=false:=by
    show (decide (-12<=k) && decide (k<=14))=false
    rw [Bool.and_eq_false_iff]
    by_cases h1:-12<=k
    ·exact .inr (decide_eq_false fun h2=>hk ⟨h1,h2⟩)
    ·exact .inl (decide_eq_false h1)
   have:b_are_shifts_1 [c,some (.dat (.int (lo + 1))),some (.dat (shD (b,k)))]=.rt (.dat (.bool false)) [c,some (.dat (.int (lo + 1))),some (.dat (shD (b,k)))]:=by
    have w:=r_is_ahead (d:=.int k) rfl
    rw [e] at w
    simp [gEq,b_are_shifts_1,r_is_tuple_of (d:=.tuple [.int b,.int k]) rfl,isT,w]
   simp only [this]
theorem zone_any (a:Int) (ss:Sh) (hs:ss.length<=1000):ZOk a ss\/f_is_zone [.dat (zoneD a ss)]=.rt (.dat (.bool false)) []:=by
 have e1:=r_is_ahead (d:=.int a) rfl
 by_cases ha:-12<=a/\a<=14
 ·by_cases hl:ss.length<=6
  ·rcases shifts_any (ss:=ss) (lo:=0) (c:=some (.dat (.tuple (ss.map shD)))) (x:=none) with h | ⟨ρ',h⟩
   ·exact .inl ⟨hl,h.1,⟨ha,fun p hp=>(h.2 p hp).2⟩,fun p hp=>(h.2 p hp).1⟩
   ·refine .inr ?_
    have e2:f_are_shifts [.dat (.tuple (ss.map shD))]=.rt (.dat (.bool false)) []:=by
     simp [gEq,f_are_shifts,m_are_shifts,show ¬ (6:Int) < ss.length by omega] at h ⊢
     rw [h]
     simp
    simp [gEq,f_is_zone,m_is_zone,r_is_tuple_of (d:=zoneD a ss) rfl,isT,e1,isW,ha.1,ha.2,e2]
  ·refine .inr ?_
   have e2:f_are_shifts [.dat (.tuple (ss.map shD))]=.rt (.dat (.bool false)) []:=by
    have hg:(6:Int) < ss.length:=by omega
    simp [gEq,f_are_shifts,m_are_shifts,hg]
   simp [gEq,f_is_zone,m_is_zone,r_is_tuple_of (d:=zoneD a ss) rfl,isT,e1,isW,ha.1,ha.2,e2]
 ·refine .inr ?_
  have e:isW (.int a) (-12) 14=false:=by
   show (decide (-12<=a) && decide (a<=14))=false
   rw [Bool.and_eq_false_iff]
   by_cases h1:-12<=a
   ·exact .inr (decide_eq_false fun h2=>ha ⟨h1,h2⟩)
   ·exact .inl (decide_eq_false h1)
  rw [e] at e1
  simp [gEq,f_is_zone,m_is_zone,r_is_tuple_of (d:=zoneD a ss) rfl,isT,e1]
theorem rzX:∀ (ss:Sh) (ys:List PyData) (ρ:DEnv),(∃ x,ρ=[x])->(∀ p ∈ ss,(0<=p.1/\p.1 < 10000)/\-10000 < p.2/\p.2 < 10000)->ys.length + ss.length<=1000->∃ ρ',compGoX (gNm 0) e_read_zone_1 ((ss.map shT).map PyData.str) ys ρ=.ok (ys ++ ss.map shD) ρ'
 | [],ys,ρ,_,_,_=>⟨ρ,by simp [compGoX]⟩
 | p :: ss,ys,ρ,⟨x,hx⟩,h,hl=>by
  have sz:1000 < sizeLine:=by decide
  subst hx
  simp only [List.length_cons] at hl
  have hp:=h p List.mem_cons_self
  obtain ⟨ρ',ih⟩:=rzX ss (ys ++ [shD p]) [some (.dat (.str (shT p)))] ⟨_,rfl⟩ (fun d hd=>h d (List.mem_cons_of_mem _ hd)) (by simp; omega)
  have he:e_read_zone_1 [some (.dat (.str (shT p)))]=.ok (shD p) [some (.dat (.str (shT p)))]:=by
   have e1:=r_shift hp.1.1 hp.1.2 hp.2.1 hp.2.2
   generalize shT (p.1,p.2)=u at *
   simp [e_read_zone_1,e1]
  refine ⟨ρ',?_⟩
  rw [List.map_cons,List.map_cons,compGoX]
  simp only [gNm,List.length_cons,List.length_nil,List.set_cons_zero,he,Out.bind]
  rw [if_pos (by omega),ih]
  simp
section
variable {z w0:Str} {R D:List PyData} {a:Int} {ρ':DEnv}
theorem zr_a (sp:gSpl z [.str " "]=some (.list (PyData.str w0 :: R))) (ha:f_read_ahead [.dat (.str w0)]=.ex "NoText" []):f_read_zone [.dat (.str z)]=.ex "NoText" []:=by
 simp [f_read_zone,m_read_zone,f_check_text,m_check_text,xSM,smK,sp,ha]
theorem zr_c (sp:gSpl z [.str " "]=some (.list (PyData.str w0 :: R))) (ha:f_read_ahead [.dat (.str w0)]=.rt (.dat (.int a)) []) (hc:compGoX (gNm 0) e_read_zone_1 R [] [none]=.ex "NoText" ρ'):f_read_zone [.dat (.str z)]=.ex "NoText" []:=by
 simp [f_read_zone,m_read_zone,f_check_text,m_check_text,xSM,smK,sp,ha,xCompE,compKE,hc]
theorem zr_z (b:Bool) (sp:gSpl z [.str " "]=some (.list (PyData.str w0 :: R))) (ha:f_read_ahead [.dat (.str w0)]=.rt (.dat (.int a)) []) (hc:compGoX (gNm 0) e_read_zone_1 R [] [none]=.ok D ρ') (hl:D.length<=sizeLine) (hz:f_is_zone [.dat (.tuple [.int a,.tuple D])]=.rt (.dat (.bool b)) []) :
  f_read_zone [.dat (.str z)]=if b=true then .rt (.dat (.tuple [.int a,.tuple D])) [] else .ex "NoText" []:=by
 have sz:1000 < sizeLine:=by decide
 cases b
 ·simp [f_read_zone,m_read_zone,f_check_text,m_check_text,xSM,smK,sp,ha,xCompE,compKE,hc,hl,nTuple,hz,show (2:Nat)<=sizeLine by omega]
 ·simp [f_read_zone,m_read_zone,f_check_text,m_check_text,xSM,smK,sp,ha,xCompE,compKE,hc,hl,nTuple,hz,show (2:Nat)<=sizeLine by omega]
end
noncomputable abbrev zTx (a:Int) (ss:Sh):Str:=Str.join ⟨#[32]⟩ (zT a ss)
theorem rising_lt:∀ {ss:Sh} {lo:Int},Rising lo ss->∀ p ∈ ss,lo < p.1
 | (b,k) :: r,lo,⟨h1,h2⟩,p,hp=>by
  rcases List.mem_cons.mp hp with rfl | hp
  ·exact h1
  ·have:=rising_lt h2 p hp; omega
theorem NOk.ok {a:Int} {ss:Sh} (z:ZOk a ss):NOk a ss:=NOk.of z fun p hp=>by
 have h1:=z.top p hp
 have h2:=rising_lt z.rise p hp
 omega
theorem read_yes {a:Int} {ss:Sh} (z:ZOk a ss):f_read_zone [.dat (.str (zTx a ss))]=.rt (.dat (zoneD a ss)) []:=by
 have k:=NOk.ok z
 have sz:1000 < sizeLine:=by decide
 have hl:=k.l
 obtain ⟨ρ',g⟩:=rzX ss [] [none] ⟨_,rfl⟩ k.p (by simp; omega)
 rw [List.nil_append] at g
 have sp:=split_ok (l:=zT a ss) (by simp [zT]) (zT_free k) (fun p hp=>by have:=zT_len k p hp; omega) (by simp [zT]; omega)
 have:=zr_z true sp (r_ahead k.a0.1 k.a0.2) g (by rw [List.length_map]; omega) (r_is_zone z)
 rw [if_pos rfl] at this
 exact this
theorem read_no {z:Str} (oz:PyData.strOk z=true) (hz:z.length<=1000) (h:∀ a ss,ZOk a ss->zTx a ss ≠ z):f_read_zone [.dat (.str z)]=.ex "NoText" []:=by
 have sz:1000000 < sizeLine:=by decide
 have sp:=spl_any (z:=z) (by omega)
 have ej:Str.join ⟨#[32]⟩ (wsOf z)=z:=StrLaws.join_split z ⟨#[32]⟩
 have hw:∀ x ∈ wsOf z,PyData.strOk x=true/\x.length<=1000:=fun x hx=>⟨(word_ok oz hx).1,by have:=(word_ok oz hx).2; omega⟩
 have ln:=ws_len z
 have ne:wsOf z ≠ []:=split_ne z ⟨#[32]⟩
 generalize wsOf z=ws at *
 cases ws with
 | nil=>exact absurd rfl ne
 | cons w0 r=>
  have h0:=hw w0 List.mem_cons_self
  simp only [List.length_cons] at ln
  rw [List.map_cons] at sp
  rcases rahead h0.1 h0.2 with ⟨a,a1,a2,ea,ra⟩ | ra
  ·rcases rshifts r [] [none] ⟨_,rfl⟩ (fun w hw'=>hw w (List.mem_cons_of_mem _ hw')) (by simp; omega) with ⟨ss,e1,e2,ρ',e3⟩ | ⟨ρ',e3⟩
   ·rw [List.nil_append] at e3
    have ls:ss.length<=1000:=by
     have:r.length=ss.length:=by rw [e1,List.length_map]
     omega
    rcases zone_any a ss ls with zk | zf
    ·refine absurd ?_ (h a ss zk)
     rw [<-ej,ea,e1]
     rfl
    ·have:=zr_z false sp ra e3 (by rw [List.length_map]; omega) zf
     rw [if_neg (by decide)] at this
     exact this
   ·exact zr_c sp ra e3
  ·exact zr_a sp ra
end K3
namespace K3
open PySem L2 L2.L3 Due
theorem ah_is:∀ i:Int,-12<=i->i < 0->Str.ofString (toString i)=sgn i:=by
 intro i h1 h2
 obtain rfl | rfl | rfl | rfl | rfl | rfl | rfl | rfl | rfl | rfl | rfl | rfl:i = -12\/i = -11\/i = -10\/i = -9\/i = -8\/i = -7\/i = -6\/i = -5\/i = -4\/i = -3\/i = -2\/i = -1:=by omega
 all_goals decide +kernel
theorem r_lahead {i:Int} (h:-12<=i) (h1:i<=14):f__law_ahead [.dat (.int i)]=.rt (.dat (.str (sgn i))) []:=by
 by_cases hi:i < 0
 ·have e:nStr [.int i]=some (.str (sgn i)):=by
   rw [<-ah_is i h hi]
   show (if i.natAbs < 1000000 then some (PyData.str (toString i)) else none)=_
   rw [if_pos (by omega)]
  simp [f__law_ahead,m__law_ahead,hi,e]
 ·have e:=str_num (n:=i) (by omega) (by omega)
  have l:=num_len (n:=i) (by omega) (by omega)
  have c:catS "+" (num i)=some (.str ("+" ++ num i)):=cat_ok (by rw [len_1.2]; omega)
  have s:sgn i = "+" ++ num i:=by unfold sgn; rw [if_neg hi]
  rw [<-s] at c
  simp [f__law_ahead,m__law_ahead,hi,e,gS2_is,c]
theorem ints_go {e:XM PyData} {T:Int->Str} {lo:Int} {n:Nat} (he:∀ i:Int,lo<=i->i < lo + n->e [some (.dat (.int i))]=.ok (.tuple [.str (T i),.int i]) [some (.dat (.int i))]) (hn:n<=100000) :
  compGo (gNm 0) bTrue e (L3.intsFrom lo n) [] [none]=some (((List.range n).map fun i:Nat=>(T (lo + i),lo + i)).map fun p:Str × Int=>PyData.tuple [.str p.1,.int p.2]):=by
 have sz:1000000 < sizeLine:=by decide
 have ee:((List.range n).map fun i:Nat=>(T (lo + i),lo + (i:Int))).map (fun p:Str × Int=>PyData.tuple [.str p.1,.int p.2])=(L3.intsFrom lo n).map (fun d=>match d with | .int i=>.tuple [.str (T i),.int i] | _=>.none):=by
  unfold L3.intsFrom
  rw [List.map_map,List.map_map]
  refine List.map_congr_left fun i _=>?_
  simp
 rw [ee]
 have hl:(L3.intsFrom lo n).length=n:=by unfold L3.intsFrom; rw [List.length_map,List.length_range]
 have h:=comp_map (g:=gNm 0) (e:=e) (f:=fun d=>match d with | .int i=>.tuple [.str (T i),.int i] | _=>.none) (P:=fun ρ=>∃ x,ρ=[x]) (its:=L3.intsFrom lo n) (ys:=[]) (ρ:=[none]) ⟨_,rfl⟩ (fun d hd ρ hρ=>?_) (by rw [hl,List.length_nil]; omega)
 ·rw [h,List.nil_append]
 ·obtain ⟨x,rfl⟩:=hρ
  unfold L3.intsFrom at hd
  obtain ⟨i,hi,rfl⟩:=List.mem_map.mp hd
  have hi:=List.mem_range.mp hi
  exact ⟨[some (.dat (.int (lo + i)))],[some (.dat (.int (lo + i)))],by simp [gNm],he (lo + i) (by omega) (by omega),_,rfl⟩
theorem dict_ints {e:XM PyData} {s:XM (List PyData)} {T:Int->Str} {lo:Int} {n:Nat} {ρ:DEnv} (hs:s ρ=.ok (L3.intsFrom lo n) ρ) (he:∀ i:Int,lo<=i->i < lo + n->e [some (.dat (.int i))]=.ok (.tuple [.str (T i),.int i]) [some (.dat (.int i))]) (hn:n<=100000) (nd:(((List.range n).map fun i:Nat=>(T (lo + i),lo + (i:Int))).map (·.1)).Nodup) :
  xDictP (xComp 1 [] s (gNm 0) bTrue e) ρ=.ok (.own false (.m false (sD ((List.range n).map fun i:Nat=>(T (lo + i),lo + (i:Int)))))) ρ:=by
 have sz:1000000 < sizeLine:=by decide
 have g:=ints_go he hn
 have p:=pairs_sD ((List.range n).map fun i:Nat=>(T (lo + i),lo + (i:Int)))
 have d:=dict_sD nd
 have l:(((List.range n).map fun i:Nat=>(T (lo + i),lo + (i:Int))).map fun p:Str × Int=>PyData.tuple [.str p.1,.int p.2]).length<=sizeLine:=by rw [List.length_map,List.length_map,List.length_range]; omega
 clear nd he hn sz
 generalize (List.range n).map (fun i:Nat=>(T (lo + i),lo + (i:Int)))=L at *
 generalize (L.map fun p:Str × Int=>PyData.tuple [.str p.1,.int p.2])=TT at *
 generalize L3.intsFrom lo n=I at *
 simp [xDictP,hs,g,l,dictK,p,d]
noncomputable def bookL:List (Str × Int):=(List.range 27).map fun i:Nat=>(sgn (-12 + i),-12 + (i:Int))
theorem book_nodup:(bookL.map (·.1)).Nodup:=by decide +kernel
theorem book_of {i:Int} (h1:-12<=i) (h2:i<=14):look bookL (sgn i)=some i:=by
 refine look_of book_nodup (List.mem_map.mpr ⟨(i + 12).toNat,List.mem_range.mpr (by omega),?_⟩)
 rw [show (-12:Int) + ((i + 12).toNat:Int)=i by omega]
theorem book_is {w:Str} {i:Int} (h:look bookL w=some i):-12<=i/\i<=14/\w=sgn i:=by
 obtain ⟨k,hk,e⟩:=List.mem_map.mp (look_mem h)
 have:=List.mem_range.mp hk
 injection e with e1 e2
 refine ⟨by omega,by omega,?_⟩
 rw [<-e1,e2]
theorem rng2_is {lo hi:Int} {n:Nat} (h:hi=lo + n) (h1:-1000000<=lo) (h2:hi<=1000000):rng2 [.int lo,.int hi]=some (L3.intsFrom lo n):=by
 simp only [rng2]
 rw [if_pos (by simp; omega),show hi - lo=(n:Int) by omega,Int.toNat_natCast]
theorem dict_book (ρ:DEnv):o__law_due_2 ρ=.ok (.own false (.m false (sD bookL))) ρ:=by
 have r:=rng2_is (lo:=-12) (hi:=15) (n:=27) (by omega) (by omega) (by omega)
 refine dict_ints (T:=sgn) (lo:=-12) (n:=27) ?_ (fun i h1 h2=>?_) (by omega) book_nodup
 ·simp [-rng2,r]
 ·have e:=r_lahead (i:=i) h1 (by omega)
  generalize sgn i=z at *
  simp [e__law_due_1,e,show (2:Nat)<=sizeLine by decide]
theorem dict_gen {hi:Int} {n:Nat} (hn:n<=9999) (hh:hi=1 + n) (ρ:DEnv):xDictP (xComp 1 [] (iLf rng2 (aCons (xC (.int 1)) (aCons (xC (.int hi)) aNil))) (gNm 0) bTrue e__law_due_3) ρ=.ok (.own false (.m false (sD (numsL 1 n)))) ρ:=by
 have r:=rng2_is (lo:=1) (hi:=hi) (n:=n) (by omega) (by omega) (by omega)
 have eL:numsL 1 n=(List.range n).map fun i:Nat=>(num (1 + i),(1:Int) + (i:Int)):=by
  unfold numsL
  refine List.map_congr_left fun i _=>?_
  rw [show ((1 + i:Nat):Int)=1 + (i:Int) by omega]
 have nd:=nums_nodup (lo:=1) (n:=n)
 rw [eL] at nd ⊢
 refine dict_ints (T:=num) (lo:=1) (n:=n) ?_ (fun i h1 h2=>?_) (by omega) nd
 ·generalize L3.intsFrom 1 n=I at *
  simp [-rng2,r]
 ·have e:=str_num (n:=i) (by omega) (by omega)
  generalize num i=z at *
  simp [e__law_due_3,e,show (2:Nat)<=sizeLine by decide]
theorem dict_nums (ρ:DEnv):o__law_due_4 ρ=.ok (.own false (.m false (sD (numsL 1 9999)))) ρ:=dict_gen (Nat.le_refl _) rfl ρ
noncomputable def sgB (c:Nat):Bool:=decide (c=43\/c=45)
theorem sg_any (c:Nat):inS ⟨#[c]⟩ "+-" = some (.bool (sgB c)):=by
 unfold inS
 rw [StrLaws.found_one]
 have e:(Str.ofString "+-").cps.toList=[43,45]:=by decide +kernel
 rw [e]
 congr 2
 unfold sgB
 rw [decide_eq_decide]
 simp only [List.mem_cons,List.not_mem_nil,or_false]
noncomputable def poss (l:List Nat):List Nat:=(List.range l.length).filter fun i=>sgB (l.getD i 0)
theorem ix_at {w:Str} (hw:w.length<=1000) {i:Nat} (hi:i < w.length):gIxS (.str w) (.int i)=some (.str ⟨#[w.cps.toList.getD i 0]⟩):=by
 have sz:1000 < sizeLine:=by decide
 show (if w.length<=sizeLine then (atI w.cps.toList (i:Int)).map fun c=>PyData.str ⟨#[c]⟩ else none)=_
 rw [if_pos (by omega)]
 have hl:i < w.cps.toList.length:=by rw [<-sln]; exact hi
 have e:atI w.cps.toList (i:Int)=some (w.cps.toList.getD i 0):=by
  unfold atI ixN
  rw [if_pos (by omega),if_pos (by omega)]
  simp only [Int.toNat_natCast]
  rw [List.getD_eq_getElem?_getD,List.getElem?_eq_getElem hl]
  simp
 rw [e]
 rfl
theorem poss_go {w:Str} (hw:w.length<=1000):compGo (gNm 0) t__law_due_5 e__law_due_6 (L3.intsFrom 0 w.length) [] [none,some (.dat (.str w))]=some ((poss w.cps.toList).map fun i:Nat=>PyData.int i):=by
 have sz:1000 < sizeLine:=by decide
 have hl:(L3.intsFrom 0 w.length).length=w.length:=by unfold L3.intsFrom; rw [List.length_map,List.length_range]
 have h:=comp_filter (g:=gNm 0) (t:=t__law_due_5) (e:=e__law_due_6) (p:=fun d=>match d with | .int i=>sgB (w.cps.toList.getD i.toNat 0) | _=>false) (f:=id) (P:=fun ρ=>∃ x,ρ=[x,some (.dat (.str w))]) (its:=L3.intsFrom 0 w.length) (ys:=[]) (ρ:=[none,some (.dat (.str w))]) ⟨_,rfl⟩ (fun d hd ρ hρ=>?_) (by rw [hl,List.length_nil]; omega)
 ·rw [h,List.nil_append]
  congr 1
  unfold L3.intsFrom poss
  rw [List.filter_map,List.map_map,<-sln]
  have e2:(List.range w.length).filter ((fun d=>match d with | PyData.int i=>sgB (w.cps.toList.getD i.toNat 0) | _=>false) ∘ fun i:Nat=>PyData.int (0 + (i:Int)))=(List.range w.length).filter fun i=>sgB (w.cps.toList.getD i 0):=by
   refine List.filter_congr fun i _=>?_
   simp
  rw [e2]
  refine List.map_congr_left fun i _=>?_
  simp
 ·obtain ⟨x,rfl⟩:=hρ
  unfold L3.intsFrom at hd
  obtain ⟨i,hi,rfl⟩:=List.mem_map.mp hd
  have hi:=List.mem_range.mp hi
  rw [show (0:Int) + (i:Int)=(i:Int) by omega]
  have ix:=ix_at hw hi
  have sg:=sg_any (w.cps.toList.getD i 0)
  refine ⟨[some (.dat (.int i)),some (.dat (.str w))],[some (.dat (.int i)),some (.dat (.str w))],[some (.dat (.int i)),some (.dat (.str w))],by simp [gNm],?_,⟨_,rfl⟩,fun _=>⟨by simp [e__law_due_6],_,rfl⟩⟩
  show _=Out.ok (sgB (w.cps.toList.getD (i:Int).toNat 0)) _
  rw [Int.toNat_natCast]
  generalize w.cps.toList.getD i 0=c at *
  generalize (i:Int)=j at *
  simp [t__law_due_5,ix,gS2_is,sg]
theorem poss_cases (l:List Nat):(poss l=[]/\∀ c ∈ l,sgB c=false)\/∃ k r,poss l=k :: r/\k < l.length/\sgB (l.getD k 0)=true/\∀ c ∈ l.take k,sgB c=false:=by
 cases h:poss l with
 | nil=>
  refine .inl ⟨rfl,fun c hc=>?_⟩
  obtain ⟨i,hi,rfl⟩:=List.getElem_of_mem hc
  have:=List.filter_eq_nil_iff.mp h i (List.mem_range.mpr hi)
  rw [List.getD_eq_getElem?_getD,List.getElem?_eq_getElem hi] at this
  simpa using this
 | cons k r=>
  have e:(List.range l.length).find? (fun i=>sgB (l.getD i 0))=some k:=by
   rw [<-List.head?_filter]
   show (poss l).head? = _
   rw [h]
   rfl
  rw [List.find?_range_eq_some] at e
  obtain ⟨e1,e2,e3⟩:=e
  have hk:=List.mem_range.mp e2
  refine .inr ⟨k,r,rfl,hk,e1,fun c hc=>?_⟩
  obtain ⟨j,hj,rfl⟩:=List.getElem_of_mem hc
  rw [List.length_take] at hj
  have:=e3 j (by omega)
  rw [List.getD_eq_getElem?_getD,List.getElem?_eq_getElem (by omega:j < l.length)] at this
  simpa using this
noncomputable def shW (B N:List (Str × Int)) (w:Str):Option (Int × Int):=match poss w.cps.toList with
 | []=>none
 | k :: _=>match look N ⟨(w.cps.toList.take k).toArray⟩,look B ⟨(w.cps.toList.drop k).toArray⟩ with
  | some m,some i=>some (m,i)
  | _,_=>none
theorem eq_nil:gEq false (.list []) (.list [])=some (.bool true):=by kernel_rfl
theorem eq_cons (x:Int) (l:List Int):gEq false (.list (.int x :: l.map PyData.int)) (.list [])=some (.bool false):=by
 have h:=shaped_ints (x :: l)
 rw [List.map_cons] at h
 unfold gEq
 rw [h,show SeqAt.shaped (.list [])=true from rfl]
 simp [PyData.eqv,PyData.eqvAll]
theorem rng1_is {n:Nat} (hn:n<=1000000):rng1 [.int n]=some (L3.intsFrom 0 n):=by
 simp only [rng1]
 rw [if_pos (by simp; omega),Int.toNat_natCast]
theorem nidx (l:List Nat):(l.map fun i:Nat=>PyData.int i)=(l.map fun i:Nat=>(i:Int)).map PyData.int:=by rw [List.map_map]; rfl
theorem asg_cmp {g:List PyData->Option (List PyData)} {n:List PyData->Option PyData} {t:XM Bool} {e:XM PyData} {w:Str} {L:Int} {I P:List PyData} {x0 x1 x2 x3 x4 x5 x7:Option Cell} (hl:n [.str w]=some (.int L)) (r1:g [.int L]=some I) (pg:compGo (gNm 0) t e I [] [none,some (.dat (.str w))]=some P) (pl:P.length<=sizeLine) :
  (sAsg (xComp 1 [6] (iLf g (aCons (xCB n (aCons (xV 6) aNil)) aNil)) (gNm 0) t e) (gNm 7)) [x0,x1,x2,x3,x4,x5,some (.dat (.str w)),x7]=.nx [x0,x1,x2,x3,x4,x5,some (.dat (.str w)),some (.dat (.list P))]:=by
 simp [hl,r1,pg,pl]
theorem st1 {w:Str} {x0 x1 x2 x3 x4 x5 x7:Option Cell} (hw:w.length<=1000):(sAsg (xComp 1 [6] (iLf rng1 (aCons (xCB nLenT (aCons (xV 6) aNil)) aNil)) (gNm 0) t__law_due_5 e__law_due_6) (gNm 7)) [x0,x1,x2,x3,x4,x5,some (.dat (.str w)),x7]=.nx [x0,x1,x2,x3,x4,x5,some (.dat (.str w)),some (.dat (.list ((poss w.cps.toList).map fun i:Nat=>PyData.int i)))]:=by
 have sz:1000 < sizeLine:=by decide
 have pg:=poss_go hw
 have hl:=lenT_is (z:=w) hw
 have r1:=rng1_is (n:=w.length) (by omega)
 have pl:((poss w.cps.toList).map fun i:Nat=>PyData.int i).length<=sizeLine:=by
  rw [List.length_map]
  unfold poss
  refine Nat.le_trans (List.length_filter_le _ _) ?_
  rw [List.length_range,<-sln]
  omega
 exact asg_cmp hl r1 pg pl
section
variable {B N:List (Str × Int)} {z:Str} {x3 x7:Option Cell} {made:List PyData} {last:Int} {w u v:Str} {K:Int} {R:List PyData}
noncomputable abbrev tst2:SM:=(sIfF (bOrF (xTst (xOp (gEq false) (xV 7) (xLst aNil))) (bOrF (xTst (xDIn true 2 (xSlT (xV 6) pNo (pIs (xOp gIxA (xV 7) (xC (.int 0))))))) (bOrF (xTst (xDIn true 1 (xSlT (xV 6) (pIs (xOp gIxA (xV 7) (xC (.int 0)))) pNo))) (xTst (xOp gLe (xDGet 2 (xSlT (xV 6) pNo (pIs (xOp gIxA (xV 7) (xC (.int 0)))))) (xV 5)))))) (sRetV (xC .none)) sNx)
noncomputable abbrev env2 (B N:List (Str × Int)) (z:Str) (x3:Option Cell) (made:List PyData) (last:Int) (w:Str) (P:List PyData):DEnv:=[some (.dat (.str z)),some (.own false (.m false (sD B))),some (.own false (.m false (sD N))),x3,some (.dat (.tuple made)),some (.dat (.int last)),some (.dat (.str w)),some (.dat (.list P))]
theorem st2_nil:tst2 (env2 B N z x3 made last w [])=.rt (.dat .none) (env2 B N z x3 made last w []):=by
 simp [eq_nil]
theorem st2_u (ec:gEq false (.list (.int K :: R)) (.list [])=some (.bool false)) (s1:slT (.str w) none (some K)=some (.str u)) (f1:dFind false (sD N) [.inr u]=none):tst2 (env2 B N z x3 made last w (.int K :: R))=.rt (.dat .none) (env2 B N z x3 made last w (.int K :: R)):=by
 simp [ec,xSlT,s1,xDIn,dInK,asM,keyG,keyOf,f1]
theorem st2_v {m:Int} (ec:gEq false (.list (.int K :: R)) (.list [])=some (.bool false)) (s1:slT (.str w) none (some K)=some (.str u)) (s2:slT (.str w) (some K) none=some (.str v)) (f1:dFind false (sD N) [.inr u]=some (.int m)) (f2:dFind false (sD B) [.inr v]=none):tst2 (env2 B N z x3 made last w (.int K :: R))=.rt (.dat .none) (env2 B N z x3 made last w (.int K :: R)):=by
 simp [ec,xSlT,s1,s2,xDIn,dInK,asM,keyG,keyOf,f1,f2]
theorem st2_m {m i:Int} (ec:gEq false (.list (.int K :: R)) (.list [])=some (.bool false)) (s1:slT (.str w) none (some K)=some (.str u)) (s2:slT (.str w) (some K) none=some (.str v)) (f1:dFind false (sD N) [.inr u]=some (.int m)) (f2:dFind false (sD B) [.inr v]=some (.int i)) :
  tst2 (env2 B N z x3 made last w (.int K :: R))=if m<=last then .rt (.dat .none) (env2 B N z x3 made last w (.int K :: R)) else .nx (env2 B N z x3 made last w (.int K :: R)):=by
 by_cases h:m<=last <;> simp [ec,xSlT,s1,s2,xDIn,dInK,xDGet,dGetK,asM,keyG,keyOf,f1,f2,h]
noncomputable abbrev st34:SM:=(sThen (sAsg (xDGet 2 (xSlT (xV 6) pNo (pIs (xOp gIxA (xV 7) (xC (.int 0)))))) (gNm 5))
  (sAsg (xOp gCatT (xV 4) (xTup (aCons (xTup (aCons (xV 5) (aCons (xDGet 1 (xSlT (xV 6) (pIs (xOp gIxA (xV 7) (xC (.int 0)))) pNo)) aNil))) aNil))) (gNm 4)))
theorem st34_is {m i:Int} (hM:made.length<=1000) (s1:slT (.str w) none (some K)=some (.str u)) (s2:slT (.str w) (some K) none=some (.str v)) (f1:dFind false (sD N) [.inr u]=some (.int m)) (f2:dFind false (sD B) [.inr v]=some (.int i)) :
  st34 (env2 B N z x3 made last w (.int K :: R))=.nx (env2 B N z x3 (made ++ [.tuple [.int m,.int i]]) m w (.int K :: R)):=by
 have sz:1001 < sizeLine:=by decide
 have l1:made.length + 1<=sizeLine:=by omega
 have l2:(2:Nat)<=sizeLine:=by omega
 have l3:(1:Nat)<=sizeLine:=by omega
 clear sz hM
 simp [xSlT,s1,s2,xDGet,dGetK,asM,keyG,keyOf,f1,f2,l1,l2,l3]
theorem IsR.th {m k:SM} {ρ ρ':DEnv} {c:Cell} (h:m ρ=.rt c ρ') {x:PyData} {r:DEnv} (e:ρ' = some (.dat x) :: r):IsR c (sThen m k ρ):=⟨x,r,by simp [h,e]⟩
theorem body_is (hw:w.length<=1000) (hM:made.length<=1000):(IsR (.dat .none) (b__law_due_7 [some (.dat (.str z)),some (.own false (.m false (sD B))),some (.own false (.m false (sD N))),x3,some (.dat (.tuple made)),some (.dat (.int last)),some (.dat (.str w)),x7])/\∀ m i,shW B N w=some (m,i)->m<=last)\/
  ∃ m i y,shW B N w=some (m,i)/\last < m/\b__law_due_7 [some (.dat (.str z)),some (.own false (.m false (sD B))),some (.own false (.m false (sD N))),x3,some (.dat (.tuple made)),some (.dat (.int last)),some (.dat (.str w)),x7]=.nx [some (.dat (.str z)),some (.own false (.m false (sD B))),some (.own false (.m false (sD N))),x3,some (.dat (.tuple (made ++ [shD (m,i)]))),some (.dat (.int m)),some (.dat (.str w)),y]:=by
 have h1:=st1 (x0:=some (.dat (.str z))) (x1:=some (.own false (.m false (sD B)))) (x2:=some (.own false (.m false (sD N)))) (x3:=x3) (x4:=some (.dat (.tuple made))) (x5:=some (.dat (.int last))) (x7:=x7) hw
 unfold shW
 unfold b__law_due_7
 rw [then_nx h1]
 rcases poss_cases w.cps.toList with ⟨e,_⟩ | ⟨k,r,e,kl,_,_⟩
 ·rw [e]
  exact .inl ⟨IsR.th st2_nil rfl,fun m i h=>by cases h⟩
 ·rw [e]
  simp only
  rw [nidx,List.map_cons,List.map_cons]
  have ec:=eq_cons (k:Int) (r.map fun i:Nat=>(i:Int))
  rw [<-sln] at kl
  have s1:=sl_t (x:=w) (k:=k) (by omega) hw
  have s2:=sl_f (x:=w) (k:=k) (by omega) hw
  have f1:=find_sD N ⟨(w.cps.toList.take k).toArray⟩
  have f2:=find_sD B ⟨(w.cps.toList.drop k).toArray⟩
  generalize (⟨(w.cps.toList.take k).toArray⟩:Str)=u at *
  generalize (⟨(w.cps.toList.drop k).toArray⟩:Str)=v at *
  cases hu:look N u with
  | none=>
   rw [hu] at f1
   exact .inl ⟨IsR.th (st2_u ec s1 f1) rfl,fun m i h=>by cases h⟩
  | some m=>
   rw [hu] at f1
   cases hv:look B v with
   | none=>
    rw [hv] at f2
    exact .inl ⟨IsR.th (st2_v ec s1 s2 f1 f2) rfl,fun m i h=>by cases h⟩
   | some i=>
    rw [hv] at f2
    have t:=st2_m (z:=z) (x3:=x3) (made:=made) (last:=last) ec s1 s2 f1 f2
    by_cases hm:m<=last
    ·rw [if_pos hm] at t
     exact .inl ⟨IsR.th t rfl,fun m' i' h=>by cases h; exact hm⟩
    ·rw [if_neg hm] at t
     refine .inr ⟨m,i,some (.dat (.list (.int k :: List.map PyData.int (List.map (fun i:Nat=>(i:Int)) r)))),rfl,by omega,?_⟩
     exact (then_nx t).trans (st34_is hM s1 s2 f1 f2)
end
structure HBN (B N:List (Str × Int)):Prop where
 n1:∀ u m,look N u=some m->1<=m/\m<=9999/\u=num m
 n2:∀ m,1<=m->m<=9999->look N (num m)=some m
 b1:∀ u i,look B u=some i->-12<=i/\i<=14/\u=sgn i
 b2:∀ i,-12<=i->i<=14->look B (sgn i)=some i
theorem hbn:HBN bookL (numsL 1 9999):=⟨fun u m h=>by
  obtain ⟨h1,h2,h3⟩:=nums_is h
  exact ⟨by omega,by omega,h3⟩,fun m h1 h2=>nums_of (by omega) (by omega),fun u i h=>book_is h,fun i h1 h2=>book_of h1 h2⟩
section
variable {B N:List (Str × Int)} (H:HBN B N)
include H
theorem sh_of {w:Str} {m i:Int} (h:shW B N w=some (m,i)):(1<=m/\m<=9999)/\(-12<=i/\i<=14)/\w=shT (m,i):=by
 unfold shW at h
 cases hp:poss w.cps.toList with
 | nil=>rw [hp] at h; cases h
 | cons k r=>
  rw [hp] at h
  simp only at h
  cases hu:look N ⟨(w.cps.toList.take k).toArray⟩ with
  | none=>rw [hu] at h; cases h
  | some m'=>
   rw [hu] at h
   cases hv:look B ⟨(w.cps.toList.drop k).toArray⟩ with
   | none=>rw [hv] at h; cases h
   | some i'=>
    rw [hv] at h
    cases h
    obtain ⟨a1,a2,a3⟩:=H.n1 _ _ hu
    obtain ⟨b1,b2,b3⟩:=H.b1 _ _ hv
    refine ⟨⟨a1,a2⟩,⟨b1,b2⟩,sext ?_⟩
    show w.cps.toList=(num m ++ sgn i).cps.toList
    rw [sap,<-a3,<-b3]
    simp
theorem sgn_head {i:Int}:∃ c r,(sgn i).cps.toList=c :: r/\sgB c=true:=by
 by_cases h:i < 0
 ·exact ⟨45,_,sgn_neg h,rfl⟩
 ·exact ⟨43,_,sgn_pos h,rfl⟩
theorem sh_to {m i:Int} (hm:1<=m/\m<=9999) (hi:-12<=i/\i<=14):shW B N (shT (m,i))=some (m,i):=by
 obtain ⟨c,r,ec,hc⟩:=sgn_head (i:=i) H
 have e:(shT (m,i)).cps.toList=(num m).cps.toList ++ c :: r:=by
  show (num m ++ sgn i).cps.toList=_
  rw [sap,ec]
 have dg:∀ d ∈ (num m).cps.toList,sgB d=false:=fun d hd=>by
  have:=num_dig (n:=m) (by omega) d hd
  exact decide_eq_false (by omega)
 unfold shW
 rcases poss_cases (shT (m,i)).cps.toList with ⟨_,hn⟩ | ⟨k,q,hp,kl,k1,k2⟩
 ·have:=hn c (by rw [e]; simp)
  rw [hc] at this; cases this
 ·have hk:k=(num m).cps.toList.length:=by
   rcases Nat.lt_trichotomy k (num m).cps.toList.length with h | h | h
   ·rw [e,List.getD_eq_getElem?_getD,List.getElem?_append_left h,List.getElem?_eq_getElem h] at k1
    have:=dg _ (List.getElem_mem h)
    rw [Option.getD_some,this] at k1
    cases k1
   ·exact h
   ·have:c ∈ (shT (m,i)).cps.toList.take k:=by
     rw [e,List.take_append,List.take_of_length_le (by omega)]
     refine List.mem_append_right _ ?_
     obtain ⟨j,hj⟩:∃ j,k - (num m).cps.toList.length=j + 1:=⟨k - (num m).cps.toList.length - 1,by omega⟩
     rw [hj]
     exact List.mem_cons_self
    have:=k2 c this
    rw [hc] at this; cases this
  rw [hp]
  simp only
  have t1:(⟨((shT (m,i)).cps.toList.take k).toArray⟩:Str)=num m:=sext (by
   show (shT (m,i)).cps.toList.take k=_
   rw [e,hk,List.take_left])
  have t2:(⟨((shT (m,i)).cps.toList.drop k).toArray⟩:Str)=sgn i:=sext (by
   show (shT (m,i)).cps.toList.drop k=_
   rw [e,hk,List.drop_left,ec])
  rw [t1,t2,H.n2 m hm.1 hm.2,H.b2 i hi.1 hi.2]
end
noncomputable def goM (B N:List (Str × Int)):List Str->Int->Sh->Option Sh
 | [],_,acc=>some acc
 | w :: r,last,acc=>match shW B N w with
  | none=>none
  | some p=>if p.1<=last then none else goM B N r p.1 (acc ++ [p])
theorem goM_of {B N:List (Str × Int)} (H:HBN B N):∀ {ws:List Str} {last:Int} {acc ss:Sh},goM B N ws last acc=some ss->∃ ss',ss=acc ++ ss'/\Rising last ss'/\ws=ss'.map shT/\∀ p ∈ ss',p.1<=9999/\-12<=p.2/\p.2<=14
 | [],last,acc,ss,h=>by cases h; exact ⟨[],by simp,trivial,rfl,fun _ h=>by cases h⟩
 | w :: r,last,acc,ss,h=>by
  unfold goM at h
  cases e:shW B N w with
  | none=>rw [e] at h; cases h
  | some p=>
   rw [e] at h
   simp only at h
   by_cases hp:p.1<=last
   ·rw [if_pos hp] at h; cases h
   ·rw [if_neg hp] at h
    obtain ⟨ss',e1,e2,e3,e4⟩:=goM_of H h
    obtain ⟨q1,q2,q3⟩:=sh_of H (m:=p.1) (i:=p.2) e
    refine ⟨p :: ss',by rw [e1]; simp,⟨by omega,e2⟩,by rw [List.map_cons,<-e3,<-q3],fun q hq=>?_⟩
    rcases List.mem_cons.mp hq with rfl | hq
    ·exact ⟨q1.2,q2⟩
    ·exact e4 q hq
theorem goM_to {B N:List (Str × Int)} (H:HBN B N):∀ {ss acc:Sh} {last:Int},0<=last->Rising last ss->(∀ p ∈ ss,p.1<=9999/\-12<=p.2/\p.2<=14)->goM B N (ss.map shT) last acc=some (acc ++ ss)
 | [],acc,last,_,_,_=>by simp [goM]
 | (b,k) :: r,acc,last,h0,⟨h1,h2⟩,h=>by
  have hb:=h (b,k) List.mem_cons_self
  rw [List.map_cons,goM,sh_to H (m:=b) (i:=k) ⟨by omega,hb.1⟩ hb.2]
  simp only
  rw [if_neg (by omega),goM_to H (by omega) h2 fun p hp=>h p (List.mem_cons_of_mem _ hp)]
  simp
theorem due_go {B N:List (Str × Int)} {z:Str} {x3:Option Cell}:∀ (ws:List Str) (last:Int) (acc:Sh) (x6 x7:Option Cell),(∀ w ∈ ws,w.length<=1000)->acc.length + ws.length<=900->
  (goM B N ws last acc=none/\IsR (.dat .none) (forGo (gNm 6) b__law_due_7 (ws.map PyData.str) [some (.dat (.str z)),some (.own false (.m false (sD B))),some (.own false (.m false (sD N))),x3,some (.dat (.tuple (acc.map shD))),some (.dat (.int last)),x6,x7]))\/
  ∃ ss l y6 y7,goM B N ws last acc=some ss/\forGo (gNm 6) b__law_due_7 (ws.map PyData.str) [some (.dat (.str z)),some (.own false (.m false (sD B))),some (.own false (.m false (sD N))),x3,some (.dat (.tuple (acc.map shD))),some (.dat (.int last)),x6,x7]=.nx [some (.dat (.str z)),some (.own false (.m false (sD B))),some (.own false (.m false (sD N))),x3,some (.dat (.tuple (ss.map shD))),some (.dat (.int l)),y6,y7]
 | [],last,acc,x6,x7,_,_=>.inr ⟨acc,last,x6,x7,rfl,by simp [forGo]⟩
 | w :: ws,last,acc,x6,x7,hw,hl=>by
  simp only [List.length_cons] at hl
  have b:=body_is (B:=B) (N:=N) (z:=z) (x3:=x3) (x7:=x7) (last:=last) (made:=acc.map shD) (hw w List.mem_cons_self) (by rw [List.length_map]; omega)
  rw [List.map_cons,forGo]
  simp only [gNm,List.length_cons,List.length_nil,List.set_cons_succ,List.set_cons_zero]
  unfold goM
  rcases b with ⟨⟨y,r,e⟩,hm⟩ | ⟨m,i,y,e1,e2,e3⟩
  ·refine .inl ⟨?_,y,r,?_⟩
   ·cases e':shW B N w with
    | none=>rfl
    | some p=>simp only; rw [if_pos (hm p.1 p.2 e')]
   ·rw [e]
  ·rw [e1]
   simp only
   rw [if_neg (by omega),e3]
   have ih:=due_go (B:=B) (N:=N) (z:=z) (x3:=x3) ws m (acc ++ [(m,i)]) (some (.dat (.str w))) y (fun u hu=>hw u (List.mem_cons_of_mem _ hu)) (by simp; omega)
   rw [List.map_append] at ih
   exact ih
noncomputable def dueM (B N:List (Str × Int)):List Str->Option (Int × Sh)
 | []=>none
 | w0 :: r=>match look B w0 with
  | none=>none
  | some a=>if 6 < r.length then none else (goM B N r 0 []).map fun ss=>(a,ss)
noncomputable def wishZ:Option (Int × Sh)->PyData
 | some p=>zoneD p.1 p.2
 | none=>.none
section
variable {B N:List (Str × Int)} {z w0:Str} {x3 x4 x5 x6 x7:Option Cell} {R:List PyData}
noncomputable abbrev tstA:SM:=(sIfF (bOrF (xTst (xDIn true 1 (xOp gIxA (xV 3) (xC (.int 0))))) (xTst (xOp gGt (xCB nLen (aCons (xV 3) aNil)) (xC (.int 7))))) (sRetV (xC .none)) sNx)
noncomputable abbrev envA (B N:List (Str × Int)) (z:Str) (W:List PyData):DEnv:=[some (.dat (.str z)),some (.own false (.m false (sD B))),some (.own false (.m false (sD N))),some (.dat (.list W)),none,none,none,none]
theorem tA_no (f:dFind false (sD B) [.inr w0]=none):tstA (envA B N z (.str w0 :: R))=.rt (.dat .none) (envA B N z (.str w0 :: R)):=by
 simp [xDIn,dInK,asM,keyG,keyOf,f]
theorem tA_yes {n:List PyData->Option PyData} {a L:Int} (f:dFind false (sD B) [.inr w0]=some (.int a)) (hn:n [.list (.str w0 :: R)]=some (.int L)):(sIfF (bOrF (xTst (xDIn true 1 (xOp gIxA (xV 3) (xC (.int 0))))) (xTst (xOp gGt (xCB n (aCons (xV 3) aNil)) (xC (.int 7))))) (sRetV (xC .none)) sNx) (envA B N z (.str w0 :: R))=if L > 7 then .rt (.dat .none) (envA B N z (.str w0 :: R)) else .nx (envA B N z (.str w0 :: R)):=by
 by_cases h:L > 7
 ·have h':7 < L:=h
  simp [xDIn,dInK,asM,keyG,keyOf,f,hn,h']
 ·have h':¬ 7 < L:=h
  simp [xDIn,dInK,asM,keyG,keyOf,f,hn,h']
theorem ret_is {a:Int} {D:List PyData} (f:dFind false (sD B) [.inr w0]=some (.int a)):(sRetV (xTup (aCons (xDGet 1 (xOp gIxA (xV 3) (xC (.int 0)))) (aCons (xV 4) aNil)))) [some (.dat (.str z)),some (.own false (.m false (sD B))),some (.own false (.m false (sD N))),some (.dat (.list (.str w0 :: R))),some (.dat (.tuple D)),x5,x6,x7]=.rt (.dat (.tuple [.int a,.tuple D])) [some (.dat (.str z)),some (.own false (.m false (sD B))),some (.own false (.m false (sD N))),some (.dat (.list (.str w0 :: R))),some (.dat (.tuple D)),x5,x6,x7]:=by
 have sz:1001 < sizeLine:=by decide
 simp [xDGet,dGetK,asM,keyG,keyOf,f,show (2:Nat)<=sizeLine by omega]
end
theorem due_core {z:Str} {ws:List Str} {B N:List (Str × Int)} (sp:gSpl z [.str " "]=some (.list (ws.map PyData.str))) (d1:∀ ρ,o__law_due_2 ρ=.ok (.own false (.m false (sD B))) ρ) (d2:∀ ρ,o__law_due_4 ρ=.ok (.own false (.m false (sD N))) ρ) (ne:ws ≠ []) (hw:∀ w ∈ ws,w.length<=1000) :
  f__law_due [.dat (.str z)]=.rt (.dat (wishZ (dueM B N ws))) []:=by
 have sz:1000000 < sizeLine:=by decide
 have fin:IsR (.dat (wishZ (dueM B N ws))) (m__law_due [some (.dat (.str z)),none,none,none,none,none,none,none]):=by
  unfold m__law_due
  refine th (setC_ok (d1 _) (by simp <;> rfl)) ?_
  refine th (setC_ok (d2 _) (by simp <;> rfl)) ?_
  refine th (by simp [xSM,smK,sp] <;> rfl) ?_
  cases ws with
  | nil=>exact absurd rfl ne
  | cons w0 r=>
   have f:=find_sD B w0
   rw [List.map_cons]
   cases e:look B w0 with
   | none=>
    rw [e] at f
    have e0:dueM B N (w0 :: r)=none:=by simp [dueM,e]
    rw [e0]
    exact IsR.th (tA_no f) rfl
   | some a=>
    rw [e] at f
    have hn:nLen [.list (.str w0 :: r.map PyData.str)]=some (.int ((r.length:Int) + 1)):=by simp [nLen]
    have tA:=tA_yes (N:=N) (z:=z) f hn
    by_cases hl:6 < r.length
    ·rw [if_pos (by omega)] at tA
     have e0:dueM B N (w0 :: r)=none:=by simp [dueM,e,hl]
     rw [e0]
     exact IsR.th tA rfl
    ·rw [if_neg (by omega)] at tA
     have e0:dueM B N (w0 :: r)=(goM B N r 0 []).map fun ss=>(a,ss):=by simp [dueM,e,hl]
     rw [e0]
     refine th tA ?_
     refine th (by simp [show (2:Nat)<=sizeLine by omega] <;> rfl) ?_
     rcases due_go (B:=B) (N:=N) (z:=z) (x3:=some (.dat (.list (.str w0 :: r.map PyData.str)))) r 0 [] none none (fun w hw'=>hw w (List.mem_cons_of_mem _ hw')) (by simp; omega) with ⟨e1,y,q,e2⟩ | ⟨ss,l,y6,y7,e1,e2⟩
     ·rw [e1]
      rw [List.map_nil] at e2
      refine IsR.th (x:=y) (r:=q) (ρ':=some (.dat y) :: q) ?_ rfl
      simp only [sForF,iLs,xU,uTail,xV,List.getElem?_cons_succ,List.getElem?_cons_zero,Out.bind,lift,List.drop_succ_cons,List.drop_zero]
      exact e2
     ·rw [e1]
      rw [List.map_nil] at e2
      refine th (ρ':=[some (.dat (.str z)),some (.own false (.m false (sD B))),some (.own false (.m false (sD N))),some (.dat (.list (.str w0 :: r.map PyData.str))),some (.dat (.tuple (ss.map shD))),some (.dat (.int l)),y6,y7]) ?_ ?_
      ·simp only [sForF,iLs,xU,uTail,xV,List.getElem?_cons_succ,List.getElem?_cons_zero,Out.bind,lift,List.drop_succ_cons,List.drop_zero]
       exact e2
      ·exact ⟨_,_,ret_is f⟩
 obtain ⟨x,ρ',e⟩:=fin
 simp [f__law_due,e]
@[irreducible] noncomputable def dueZ (z:Str):PyData:=wishZ (dueM bookL (numsL 1 9999) (wsOf z))
theorem r_due {z:Str} (oz:PyData.strOk z=true) (hz:z.length<=1000):f__law_due [.dat (.str z)]=.rt (.dat (dueZ z)) []:=by
 unfold dueZ
 exact due_core (spl_any (by omega)) dict_book dict_nums (split_ne z ⟨#[32]⟩) fun w hw=>by have:=(word_ok oz hw).2; omega
theorem dueM_cons (B N:List (Str × Int)) (w0:Str) (r:List Str):dueM B N (w0 :: r)=match look B w0 with | none=>none | some a=>if 6 < r.length then none else (goM B N r 0 []).map fun ss=>(a,ss):=rfl
theorem due_of {B N:List (Str × Int)} (H:HBN B N) {ws:List Str} {a:Int} {ss:Sh} (h:dueM B N ws=some (a,ss)):ZOk a ss/\ws=zT a ss:=by
 cases ws with
 | nil=>cases h
 | cons w0 r=>
  rw [dueM_cons] at h
  cases e:look B w0 with
  | none=>rw [e] at h; cases h
  | some a'=>
   rw [e] at h
   simp only at h
   by_cases hl:6 < r.length
   ·rw [if_pos hl] at h; cases h
   ·rw [if_neg hl] at h
    obtain ⟨s2,e1,e2⟩:=Option.map_eq_some_iff.mp h
    cases e2
    obtain ⟨ss',q1,q2,q3,q4⟩:=goM_of H e1
    rw [List.nil_append] at q1
    subst q1
    obtain ⟨b1,b2,b3⟩:=H.b1 _ _ e
    have:r.length=ss.length:=by rw [q3,List.length_map]
    refine ⟨⟨by omega,q2,⟨⟨b1,b2⟩,fun p hp=>(q4 p hp).2⟩,fun p hp=>(q4 p hp).1⟩,?_⟩
    rw [b3,q3]
    rfl
theorem due_to {B N:List (Str × Int)} (H:HBN B N) {a:Int} {ss:Sh} (z:ZOk a ss):dueM B N (zT a ss)=some (a,ss):=by
 show dueM B N (sgn a :: ss.map shT)=_
 rw [dueM_cons,H.b2 a z.ah.1.1 z.ah.1.2]
 simp only
 have:=z.len
 rw [if_neg (by rw [List.length_map]; omega),goM_to H (by omega) z.rise fun p hp=>⟨z.top p hp,z.ah.2 p hp⟩]
 rfl
theorem wish_zone {a:Int} {ss:Sh} (z:ZOk a ss):dueZ (zTx a ss)=zoneD a ss:=by
 unfold dueZ
 have e:wsOf (zTx a ss)=zT a ss:=split_join (by simp [zT]) (zT_free (NOk.ok z))
 rw [e,due_to hbn z]
 rfl
theorem wish_no {z:Str} (h:∀ a ss,ZOk a ss->zTx a ss ≠ z):dueZ z=.none:=by
 unfold dueZ
 cases e:dueM bookL (numsL 1 9999) (wsOf z) with
 | none=>rfl
 | some p=>
  obtain ⟨h1,h2⟩:=due_of hbn (a:=p.1) (ss:=p.2) e
  refine absurd ?_ (h p.1 p.2 h1)
  show Str.join ⟨#[32]⟩ (zT p.1 p.2)=z
  rw [<-h2]
  exact StrLaws.join_split z ⟨#[32]⟩
theorem more_ok:∀ d ∈ ([.str "",.str "0",.str "1",.str "9",.str "+",.str "-",.str " ",.str " 9+1",.str "a"]:List PyData),∃ y:Str,d=.str y/\PyData.strOk y=true/\y.length<=5:=by
 intro d hd
 simp only [List.mem_cons,List.not_mem_nil,or_false] at hd
 rcases hd with rfl | rfl | rfl | rfl | rfl | rfl | rfl | rfl | rfl <;> exact ⟨_,rfl,by decide +kernel,by decide +kernel⟩
theorem bend {ns:List Int} {t:List PyData} {x2 x3 x5 x6 x7 x8 x9:Option Cell} {z:Str} (hn:ns.length<=63) (ht:t.length<=900) (oz:PyData.strOk z=true) (hz:z.length<=400) :
  ∃ z' t' y6 y7,b_law_7 [some (.scr ns),some (.own false (.l t)),x2,x3,some (.dat (.str z)),x5,x6,x7,x8,x9]=.nx [some (.scr ns),some (.own false (.l t')),x2,x3,some (.dat (.str z')),x5,y6,y7,x8,x9]/\PyData.strOk z' = true/\z'.length<=2 * z.length + 5/\t'.length<=t.length + 3:=by
 obtain ⟨a,a1,a2,h1⟩:=r_draw (ns:=ns) (t:=t) (many:=(z.length:Int) + 1) hn (by omega) (by omega)
 obtain ⟨d,hd,h2⟩:=r_pick (ns:=ns) (t:=t ++ [.int 0]) (ds:=[.str "",.str "0",.str "1",.str "9",.str "+",.str "-",.str " ",.str " 9+1",.str "a"]) hn (by simp; omega) (by simp) (by simp)
 obtain ⟨y,rfl,oy,ly⟩:=more_ok d hd
 obtain ⟨b,b1,b2,h3⟩:=r_draw (ns:=ns) (t:=t ++ [.int 0] ++ [.int 0]) (many:=2) hn (by simp; omega) (by omega)
 have s1:slT (.str z) none (some a)=_:=sl_is (by omega)
 have s2:slT (.str z) (some (a + b)) none=_:=sl_is (by omega)
 have l1:=Txt.slice_le z none (some a)
 have l2:=Txt.slice_le z (some (a + b)) none
 have o1:=slice_ok oz none (some a)
 have o2:=slice_ok oz (some (a + b)) none
 generalize Txt.slice z none (some a)=u at *
 generalize Txt.slice z (some (a + b)) none=v at *
 have c1:catS u y=some (.str (u ++ y)):=cat_ok (by omega)
 have c2:catS (u ++ y) v=some (.str (u ++ y ++ v)):=cat_ok (by rw [alen]; omega)
 have hl:=lenT_is (z:=z) (by omega)
 refine ⟨u ++ y ++ v,t ++ [.int 0] ++ [.int 0] ++ [.int 0],some (.dat (.int a)),some (.dat (.str y)),?_,cat_sok (cat_sok o1 oy) o2,by rw [alen,alen]; omega,by simp⟩
 simp only [List.append_assoc,List.cons_append,List.nil_append] at h1 h2 h3
 generalize (z.length:Int)=L at *
 generalize u ++ y ++ v=uyv at *
 generalize u ++ y=uy at *
 simp [b_law_7,hl,h1,h2,h3,xSlT,s1,s2,gS2_is,c1,c2]
theorem bend_go {ns:List Int} {x2 x3 x8 x9:Option Cell} (hn:ns.length<=63):∀ (l:List PyData) (t:List PyData) (z:Str) (x5 x6 x7:Option Cell),l.length<=2->t.length<=100 + 3 * (2 - l.length)->PyData.strOk z=true->(l.length=2->z.length<=90)->(l.length=1->z.length<=185)->z.length<=375->
  ∃ z' t' y5 y6 y7,forGo (gNm 5) b_law_7 l [some (.scr ns),some (.own false (.l t)),x2,x3,some (.dat (.str z)),x5,x6,x7,x8,x9]=.nx [some (.scr ns),some (.own false (.l t')),x2,x3,some (.dat (.str z')),y5,y6,y7,x8,x9]/\PyData.strOk z' = true/\z'.length<=375/\t'.length<=106
 | [],t,z,x5,x6,x7,hl,ht,oz,_,_,hz=>⟨z,t,x5,x6,x7,by simp [forGo],oz,hz,by simp at ht; omega⟩
 | d :: l,t,z,x5,x6,x7,hl,ht,oz,h2,h1,hz=>by
  simp only [List.length_cons] at hl ht h2 h1
  obtain ⟨z',t',y6,y7,e,oz',lz,lt⟩:=bend (x2:=x2) (x3:=x3) (x5:=some (.dat d)) (x6:=x6) (x7:=x7) (x8:=x8) (x9:=x9) hn (by omega:t.length<=900) oz (by omega)
  obtain ⟨z2,t2,w5,w6,w7,e2,oz2,lz2,lt2⟩:=bend_go (x2:=x2) (x3:=x3) (x8:=x8) (x9:=x9) hn l t' z' (some (.dat d)) y6 y7 (by omega) (by omega) oz' (by omega) (by omega) (by omega)
  refine ⟨z2,t2,w5,w6,w7,?_,oz2,lz2,lt2⟩
  rw [forGo]
  simp only [gNm,List.length_cons,List.length_nil,List.set_cons_succ,List.set_cons_zero]
  rw [e]
  exact e2
theorem rng_small {k:Int} (h0:0<=k) (h1:k < 3):∃ l:List PyData,rng1 [.int k]=some l/\l.length<=2:=by
 obtain rfl | rfl | rfl:k=0\/k=1\/k=2:=by omega
 ·exact ⟨[],rfl,by simp⟩
 ·exact ⟨[.int 0],rfl,by simp⟩
 ·exact ⟨[.int 0,.int 1],rfl,by simp⟩
theorem a0_ok {d p:PyData} (h:f_read_zone [.dat d]=.rt (.dat p) []):f__law_ask [.dat (.int 0),.dat d]=.rt (.dat p) []:=by
 simp [f__law_ask,m__law_ask,sTryA,h]
theorem a0_ex {d:PyData} (h:f_read_zone [.dat d]=.ex "NoText" []):f__law_ask [.dat (.int 0),.dat d]=.rt (.dat (refD 11)) []:=by
 have w:f__law_which [.exc "NoText"]=.rt (.dat (refD 11)) []:=by kernel_rfl
 simp [f__law_ask,m__law_ask,sTryA,h,w]
theorem a1_ex {d:PyData} (h:f_check_zone [.dat d]=.ex "NoZone" []):f__law_ask [.dat (.int 1),.dat d]=.rt (.dat (refD 0)) []:=by
 have e:f_zone_text [.dat d]=.ex "NoZone" []:=by simp [f_zone_text,m_zone_text,h]
 simp [f__law_ask,m__law_ask,sTryA,e,w_zone]
noncomputable def oddT:List PyData:=[.none,.int 5,.str "",.str "0",.str "-0",.str "+15",.str "-13",.str "+0 5",.str "+0 0+1",.str "+0 05+1",.str "+0 5+1 5+2",.str "+0  5+1",.str "+0 ",.tuple [.str "+0"]]
theorem odd_no:∀ d ∈ oddT,f_read_zone [.dat d]=.ex "NoText" []:=by
 intro d hd
 simp only [oddT,List.mem_cons,List.not_mem_nil,or_false] at hd
 rcases hd with rfl | rfl | rfl | rfl | rfl | rfl | rfl | rfl | rfl | rfl | rfl | rfl | rfl | rfl <;> kernel_rfl
theorem lt_go:∀ (ss:Sh) (ys:List PyData) (ρ:DEnv),(∃ x y,ρ=[x,y])->(∀ p ∈ ss,(0<=p.1/\p.1 < 10000)/\-12<=p.2/\p.2<=14)->ys.length + ss.length<=1000->compGo (gTup' 2 (gCons' (gNm 0) (gCons' (gNm 1) gNil'))) bTrue e_law_4 (ss.map shD) ys ρ=some (ys ++ (ss.map shT).map PyData.str)
 | [],ys,ρ,_,_,_=>by simp [compGo]
 | p :: ss,ys,ρ,⟨x,y,hx⟩,h,hl=>by
  have sz:1000 < sizeLine:=by decide
  subst hx
  simp only [List.length_cons] at hl
  have hp:=h p List.mem_cons_self
  have ih:=lt_go ss (ys ++ [.str (shT p)]) [some (.dat (.int p.1)),some (.dat (.int p.2))] ⟨_,_,rfl⟩ (fun d hd=>h d (List.mem_cons_of_mem _ hd)) (by simp; omega)
  have he:e_law_4 [some (.dat (.int p.1)),some (.dat (.int p.2))]=.ok (.str (shT p)) [some (.dat (.int p.1)),some (.dat (.int p.2))]:=by
   have e1:=str_num hp.1.1 hp.1.2
   have e2:=r_lahead hp.2.1 hp.2.2
   have l1:=num_len hp.1.1 hp.1.2
   have l2:=sgn_len (i:=p.2) (by omega) (by omega)
   have c:=cat_ok (a:=num p.1) (b:=sgn p.2) (by omega)
   unfold shT
   generalize num p.1=u at *
   generalize sgn p.2=v at *
   simp [e_law_4,e1,e2,gS2,c]
  rw [List.map_cons,compGo]
  have hg:(gTup' 2 (gCons' (gNm 0) (gCons' (gNm 1) gNil'))) (shD p) [x,y]=some [some (.dat (.int p.1)),some (.dat (.int p.2))]:=by simp
  simp only [hg,bTrue,he]
  rw [if_pos (by omega),ih]
  simp
theorem shaped_zone (a:Int) (ss:Sh):SeqAt.shaped (zoneD a ss)=true:=by
 unfold SeqAt.shaped
 have:∀ ss:Sh,PyData.canLayAll0 (ss.map shD)=true/\PyData.depthAll (ss.map shD)<=1:=by
  intro ss
  induction ss with
  | nil=>exact ⟨rfl,Nat.zero_le _⟩
  | cons p r ih=>
   refine ⟨by simp [PyData.canLayAll0,PyData.canLay0,ih.1],?_⟩
   have:=ih.2
   simp only [List.map_cons,PyData.depthAll,PyData.depth]
   omega
 obtain ⟨h1,h2⟩:=this ss
 simp only [PyData.canLay0,PyData.canLayAll0,PyData.depth,PyData.depthAll,h1,Bool.and_self,Bool.true_and]
 exact decide_eq_true (by omega)
theorem ok_sgn {i:Int}:PyData.strOk (sgn i)=true:=by
 rw [ok_iff]
 intro c hc
 by_cases h:i < 0
 ·rw [sgn_neg h] at hc
  rcases List.mem_cons.mp hc with rfl | hc
  ·decide
  ·have:=num_dig (n:=-i) (by omega) c hc; omega
 ·rw [sgn_pos h] at hc
  rcases List.mem_cons.mp hc with rfl | hc
  ·decide
  ·have:=num_dig (n:=i) (by omega) c hc; omega
theorem ok_zone {a:Int} {ss:Sh} (z:ZOk a ss):PyData.strOk (zTx a ss)=true:=by
 refine ok_join fun x hx=>?_
 rcases List.mem_cons.mp hx with rfl | hx
 ·exact ok_sgn
 ·obtain ⟨p,hp,rfl⟩:=List.mem_map.mp hx
  have:=rising_lt z.rise p hp
  exact cat_sok (num_ok (by omega)) ok_sgn
theorem len_zone {a:Int} {ss:Sh} (z:ZOk a ss):(zTx a ss).length<=90:=by
 have hj:=join_len (c:=32) (l:=zT a ss)
 have hs:=sum_le (B:=9) (l:=zT a ss) (zT_len (NOk.ok z))
 have hl:(zT a ss).length<=7:=by
  have:=z.len
  show (ss.map shT).length + 1<=7
  rw [List.length_map]
  omega
 unfold zTx
 omega
theorem law_text {a:Int} {ss:Sh} (z:ZOk a ss) {x0 x1 x2 x4 x5 x6 x7 x8 x9:Option Cell}:c_law_5 [x0,x1,x2,some (.dat (zoneD a ss)),x4,x5,x6,x7,x8,x9]=.nx [x0,x1,x2,some (.dat (zoneD a ss)),some (.dat (.str (zTx a ss))),x5,x6,x7,x8,x9]:=by
 have sz:1000 < sizeLine:=by decide
 have k:=NOk.ok z
 have hl:=k.l
 have g:=lt_go ss [] [none,none] ⟨_,_,rfl⟩ (fun p hp=>⟨(k.p p hp).1,z.ah.2 p hp⟩) (by simp; omega)
 rw [List.nil_append] at g
 have rs:=r_lahead z.ah.1.1 z.ah.1.2
 have j:=join_ok (l:=zT a ss) (fun p hp=>by have:=zT_len k p hp; omega) (by simp [zT]; omega)
 have e:(zT a ss).map PyData.str=[PyData.str (sgn a)] ++ (ss.map shT).map PyData.str:=rfl
 rw [e] at j
 have i0:gIxA (zoneD a ss) (.int 0)=some (.int a):=rfl
 have i1:gIxA (zoneD a ss) (.int 1)=some (.tuple (ss.map shD)):=rfl
 have lr:((ss.map shT).map PyData.str).length<=6:=by simpa using hl
 generalize zoneD a ss=Z at *
 unfold zTx
 generalize Str.join ⟨#[32]⟩ (zT a ss)=T at *
 generalize (ss.map shT).map PyData.str=R at *
 generalize ss.map shD=D at *
 generalize sgn a=s at *
 have gc:gCatL (.list [.str s]) (.list R)=some (.list ([.str s] ++ R)):=by
  simp [gCatL]
  omega
 simp only [List.cons_append,List.nil_append] at j gc
 simp [-gIxA,-gCatL,-gTup',c_law_5,rs,i0,i1,compK,g,show R.length<=sizeLine by omega,show (1:Nat)<=sizeLine by omega,gc,xSM,smK,j]
theorem asg_call {f:FM} {z W:PyData} {x0 x1 x2 x3 x5 x6 x7 x8 x9:Option Cell} (h:f [.dat z]=.rt (.dat W) []):(sAsg (xFrz (xCall f (cVal (xV 4) cNil))) (gNm 8)) [x0,x1,x2,x3,some (.dat z),x5,x6,x7,x8,x9]=.nx [x0,x1,x2,x3,some (.dat z),x5,x6,x7,some (.dat W),x9]:=by
 simp [h]
theorem law_true {ns:List Int} (hn:ns.length<=63):f_law [.scr ns]=.rt (.dat (.bool true)) []:=by
 have sz:1000000 < sizeLine:=by decide
 obtain ⟨k,k1,k2,h1⟩:=r_draw (ns:=ns) (t:=[]) (many:=3) hn (by simp) (by omega)
 obtain ⟨w,hw,h2⟩:=r_pick (ns:=ns) (t:=[.int 0]) (ds:=[.int 3,.int 90,.int 1900]) hn (by simp) (by simp) (by simp)
 have hw':∃ i:Int,w=.int i/\0 < i/\i<=1900:=by
  simp only [List.mem_cons,List.not_mem_nil,or_false] at hw
  rcases hw with rfl | rfl | rfl <;> exact ⟨_,rfl,by omega,by omega⟩
 obtain ⟨i,rfl,i1,i2⟩:=hw'
 simp only [List.nil_append,List.cons_append] at h1 h2
 obtain ⟨a,ss,t1,h3,zl,zr,zo,zt,l1⟩:=r_zone (ns:=ns) (t:=[.int 0,.int 0]) (wd:=i) hn (by simp) i1
 have zk:ZOk a ss:=⟨by omega,zr,zo,fun p hp=>by have:=zt p hp; omega⟩
 have st5:=@law_text a ss zk
 have pt:f_zone_text [.dat (zoneD a ss)]=.rt (.dat (.str (zTx a ss))) []:=r_zone_text zk (NOk.ok zk)
 have rp:=read_yes zk
 have n1:=ne_self (shaped_str (ok_zone zk))
 have n2:=ne_self (shaped_zone a ss)
 obtain ⟨R,hr,hR⟩:=rng_small k1 k2
 simp only [List.length_cons,List.length_nil] at l1
 have tl:=len_zone zk
 obtain ⟨z,t2,y5,y6,y7,lg,oz,lz,l2⟩:=bend_go (x2:=some (.dat (.int k))) (x3:=some (.dat (zoneD a ss))) (x8:=none) (x9:=none) hn R t1 (zTx a ss) none none none hR (by omega) (ok_zone zk) (fun _=>tl) (fun _=>by omega) (by omega)
 have du:=r_due oz (by omega)
 obtain ⟨o,ho,h5⟩:=r_pick (ns:=ns) (t:=t2) (ds:=oddT) hn (by omega) (by simp [oddT]) (by simp [oddT])
 have ao:=a0_ex (odd_no o ho)
 obtain ⟨bz,hbz,h6⟩:=r_odd_zone (ns:=ns) (t:=t2 ++ [.int 0]) hn (by simp; omega)
 have ap:=a1_ex (zone_bad bz hbz).2
 simp only [List.append_assoc,List.cons_append,List.nil_append] at h5 h6
 have nr:=ne_self (shaped_ref 11)
 have er:=eq_self (shaped_ref 0)
 have main:∃ W,dueZ z=W/\c_law_10 [some (.scr ns),some (.own false (.l t2)),some (.dat (.int k)),some (.dat (zoneD a ss)),some (.dat (.str z)),y5,y6,y7,some (.dat W),none]=.nx [some (.scr ns),some (.own false (.l t2)),some (.dat (.int k)),some (.dat (zoneD a ss)),some (.dat (.str z)),y5,y6,y7,some (.dat W),none]:=by
  by_cases hp:∃ a' ss',ZOk a' ss'/\zTx a' ss' = z
  ·obtain ⟨a',ss',okq,rfl⟩:=hp
   refine ⟨_,wish_zone okq,?_⟩
   have hz:=a0_ok (read_yes okq)
   have hs:=ne_self (shaped_zone a' ss')
   have nn:gIsNot (zoneD a' ss') .none=some (.bool true):=rfl
   generalize zTx a' ss' = Y at *
   generalize zoneD a' ss' = D at *
   generalize zoneD a ss=D' at *
   simp [-gIsNot,c_law_10,hz,hs,nn]
  ·have hp':∀ a' ss',ZOk a' ss'->zTx a' ss' ≠ z:=fun a' ss' h e=>hp ⟨a',ss',h,e⟩
   refine ⟨_,wish_no hp',?_⟩
   have hz:=a0_ex (read_no oz (by omega) hp')
   generalize zoneD a ss=D' at *
   simp [c_law_10,hz,nr,isNone,show (2:Nat)<=sizeLine by omega]
 obtain ⟨W,hW,st10⟩:=main
 rw [hW] at du
 generalize zTx a ss=T at *
 generalize zoneD a ss=D at *
 refine law_end (n:=9) ?_
 unfold m_law
 simp only [List.replicate]
 refine law_step (by simp [c_law_1] <;> rfl) ?_
 refine law_step (by simp [c_law_2,h1] <;> rfl) ?_
 refine law_step (by simp [c_law_3,h2,h3] <;> rfl) ?_
 refine law_step st5 ?_
 refine law_step (by simp [c_law_6,pt,rp,n1,n2] <;> rfl) ?_
 refine law_step (by simp [-rng1,c_law_8,hr,lg] <;> rfl) ?_
 refine law_step (asg_call du) ?_
 refine law_step st10 ?_
 refine law_step (by simp [c_law_11,show (14:Nat)<=sizeLine by omega,show (1:Nat)<=sizeLine by omega] <;> rfl) ?_
 unfold oddT at h5
 refine law_step (by simp [c_law_12,h5,ao,nr] <;> rfl) ?_
 exact ⟨_,_,by simp [c_law_13,h6,ap,er] <;> exact ⟨rfl,rfl⟩⟩
end K3
namespace K3
open PySem PySem.Spec L2 L2.L3 PyProof.Rows
theorem scr_ok {K:PySem.W.Frag} {mg:Str->Option Value} {f:FM} {vs:List V} {H:Hp} {Q:VK} {E:XK} (hG:GH mg H) (hf:∀ ns:List Int,ns.length<=63->f [.scr ns]=.rt (.dat (.bool true)) []) (h:∃ a ns,vs=[.ref a]/\Scr K H a ns/\∀ H',Q (.bl true) H'):spF K mg f vs H Q E:=by
 obtain ⟨a,ns,rfl,hs,q⟩:=h
 refine ⟨hG,[.scr ns],[[]],[],.oth (fun _ z=>by cases z) (fun _ _ z=>by cases z) ⟨a,rfl,hs⟩ .nil,List.nodup_nil,fun b hb=>by simp at hb,?_⟩
 rw [hf ns hs.1]
 intro v H' fp fps' hv _ _
 rw [show v=.bl true from DV.bl_inv hv]
 exact q H'
noncomputable def spL (K:PySem.W.Frag):Sp:=fun vs H Q _=>∃ a ns,vs=[.ref a]/\Scr K H a ns/\∀ H',Q (.bl true) H'
theorem all_mk {l:PySem.W.OpenLaw} {w:World} {K:PySem.W.Frag} {h:Heap} {mg:Str->Option Value} {fa:Addr} (X:K.In h) (G:h.Ns mainGlobals mg) (hfa:mg "law" = some (.ref fa))
  {f_is_whole_:Addr} {od_is_whole an_is_whole:Option Addr} {sl_is_whole:Array (Option Value)} {oc_is_whole kV_is_whole dc_is_whole pm_is_whole cd_is_whole ct_is_whole:Value}
  {f_is_tuple_of_:Addr} {od_is_tuple_of an_is_tuple_of:Option Addr} {sl_is_tuple_of:Array (Option Value)} {oc_is_tuple_of kV_is_tuple_of dc_is_tuple_of pm_is_tuple_of cd_is_tuple_of ct_is_tuple_of:Value}
  {f_is_ahead_:Addr} {od_is_ahead an_is_ahead:Option Addr} {sl_is_ahead:Array (Option Value)} {oc_is_ahead kV_is_ahead dc_is_ahead pm_is_ahead cd_is_ahead ct_is_ahead:Value}
  {f_are_shifts_:Addr} {od_are_shifts an_are_shifts:Option Addr} {sl_are_shifts:Array (Option Value)} {oc_are_shifts kV_are_shifts dc_are_shifts pm_are_shifts cd_are_shifts ct_are_shifts:Value}
  {f_is_zone_:Addr} {od_is_zone an_is_zone:Option Addr} {sl_is_zone:Array (Option Value)} {oc_is_zone kV_is_zone dc_is_zone pm_is_zone cd_is_zone ct_is_zone:Value}
  {f_check_zone_:Addr} {od_check_zone an_check_zone:Option Addr} {sl_check_zone:Array (Option Value)} {oc_check_zone kV_check_zone dc_check_zone pm_check_zone cd_check_zone ct_check_zone:Value}
  {f_signed_:Addr} {od_signed an_signed:Option Addr} {sl_signed:Array (Option Value)} {oc_signed kV_signed dc_signed pm_signed cd_signed ct_signed:Value}
  {f_zone_text_:Addr} {od_zone_text an_zone_text:Option Addr} {sl_zone_text:Array (Option Value)} {oc_zone_text kV_zone_text dc_zone_text pm_zone_text cd_zone_text ct_zone_text:Value}
  {f_check_text_:Addr} {od_check_text an_check_text:Option Addr} {sl_check_text:Array (Option Value)} {oc_check_text kV_check_text dc_check_text pm_check_text cd_check_text ct_check_text:Value}
  {f_read_number_:Addr} {od_read_number an_read_number:Option Addr} {sl_read_number:Array (Option Value)} {oc_read_number kV_read_number dc_read_number pm_read_number cd_read_number ct_read_number:Value}
  {f_read_ahead_:Addr} {od_read_ahead an_read_ahead:Option Addr} {sl_read_ahead:Array (Option Value)} {oc_read_ahead kV_read_ahead dc_read_ahead pm_read_ahead cd_read_ahead ct_read_ahead:Value}
  {f_read_shift_:Addr} {od_read_shift an_read_shift:Option Addr} {sl_read_shift:Array (Option Value)} {oc_read_shift kV_read_shift dc_read_shift pm_read_shift cd_read_shift ct_read_shift:Value}
  {f_read_zone_:Addr} {od_read_zone an_read_zone:Option Addr} {sl_read_zone:Array (Option Value)} {oc_read_zone kV_read_zone dc_read_zone pm_read_zone cd_read_zone ct_read_zone:Value}
  {f__law_cell_at_:Addr} {od__law_cell_at an__law_cell_at:Option Addr} {sl__law_cell_at:Array (Option Value)} {oc__law_cell_at kV__law_cell_at dc__law_cell_at pm__law_cell_at cd__law_cell_at ct__law_cell_at:Value}
  {f__law_mixed_:Addr} {od__law_mixed an__law_mixed:Option Addr} {sl__law_mixed:Array (Option Value)} {oc__law_mixed kV__law_mixed dc__law_mixed pm__law_mixed cd__law_mixed ct__law_mixed:Value}
  {f__law_draw_:Addr} {od__law_draw an__law_draw:Option Addr} {sl__law_draw:Array (Option Value)} {oc__law_draw kV__law_draw dc__law_draw pm__law_draw cd__law_draw ct__law_draw:Value}
  {f__law_pick_:Addr} {od__law_pick an__law_pick:Option Addr} {sl__law_pick:Array (Option Value)} {oc__law_pick kV__law_pick dc__law_pick pm__law_pick cd__law_pick ct__law_pick:Value}
  {f__law_zone_:Addr} {od__law_zone an__law_zone:Option Addr} {sl__law_zone:Array (Option Value)} {oc__law_zone kV__law_zone dc__law_zone pm__law_zone cd__law_zone ct__law_zone:Value}
  {f__law_odd_zone_:Addr} {od__law_odd_zone an__law_odd_zone:Option Addr} {sl__law_odd_zone:Array (Option Value)} {oc__law_odd_zone kV__law_odd_zone dc__law_odd_zone pm__law_odd_zone cd__law_odd_zone ct__law_odd_zone:Value}
  {f__law_which_:Addr} {od__law_which an__law_which:Option Addr} {sl__law_which:Array (Option Value)} {oc__law_which kV__law_which dc__law_which pm__law_which cd__law_which ct__law_which:Value}
  {f__law_ask_:Addr} {od__law_ask an__law_ask:Option Addr} {sl__law_ask:Array (Option Value)} {oc__law_ask kV__law_ask dc__law_ask pm__law_ask cd__law_ask ct__law_ask:Value}
  {f__law_ahead_:Addr} {od__law_ahead an__law_ahead:Option Addr} {sl__law_ahead:Array (Option Value)} {oc__law_ahead kV__law_ahead dc__law_ahead pm__law_ahead cd__law_ahead ct__law_ahead:Value}
  {f__law_due_:Addr} {od__law_due an__law_due:Option Addr} {sl__law_due:Array (Option Value)} {oc__law_due kV__law_due dc__law_due pm__law_due cd__law_due ct__law_due:Value}
  {f_law_:Addr} {od_law an_law:Option Addr} {sl_law:Array (Option Value)} {oc_law kV_law dc_law pm_law cd_law ct_law:Value}
  {t_LAST_MOMENT:Tok}
  {t_LEAST_AHEAD:Tok}
  {t_MOST_AHEAD:Tok}
  {t_MOST_SHIFTS:Tok}
  {t_FIGURES:Tok}
  {t_MOST_FIGURES:Tok}
  {D_:Addr}
  (a_is_whole:PySem.W.nsIn K mainGlobals "is_whole" = some (some (.ref f_is_whole_)))
  (l_is_whole:K.lookup f_is_whole_=some ⟨oc_is_whole,od_is_whole,.func (PySem.W.fnOf "is_whole" "is_whole" (defArgs s_is_whole) (defBody s_is_whole) (defScope s_is_whole) .none kV_is_whole dc_is_whole pm_is_whole an_is_whole cd_is_whole ct_is_whole),sl_is_whole⟩)
  (c_is_whole:PySem.W.codeIn K cd_is_whole "is_whole" = true)
  (k_is_whole:PySem.W.keepIn K (.ref f_is_whole_)=true)
  (a_is_tuple_of:PySem.W.nsIn K mainGlobals "is_tuple_of" = some (some (.ref f_is_tuple_of_)))
  (l_is_tuple_of:K.lookup f_is_tuple_of_=some ⟨oc_is_tuple_of,od_is_tuple_of,.func (PySem.W.fnOf "is_tuple_of" "is_tuple_of" (defArgs s_is_tuple_of) (defBody s_is_tuple_of) (defScope s_is_tuple_of) .none kV_is_tuple_of dc_is_tuple_of pm_is_tuple_of an_is_tuple_of cd_is_tuple_of ct_is_tuple_of),sl_is_tuple_of⟩)
  (c_is_tuple_of:PySem.W.codeIn K cd_is_tuple_of "is_tuple_of" = true)
  (k_is_tuple_of:PySem.W.keepIn K (.ref f_is_tuple_of_)=true)
  (a_is_ahead:PySem.W.nsIn K mainGlobals "is_ahead" = some (some (.ref f_is_ahead_)))
  (l_is_ahead:K.lookup f_is_ahead_=some ⟨oc_is_ahead,od_is_ahead,.func (PySem.W.fnOf "is_ahead" "is_ahead" (defArgs s_is_ahead) (defBody s_is_ahead) (defScope s_is_ahead) .none kV_is_ahead dc_is_ahead pm_is_ahead an_is_ahead cd_is_ahead ct_is_ahead),sl_is_ahead⟩)
  (c_is_ahead:PySem.W.codeIn K cd_is_ahead "is_ahead" = true)
  (k_is_ahead:PySem.W.keepIn K (.ref f_is_ahead_)=true)
  (a_are_shifts:PySem.W.nsIn K mainGlobals "are_shifts" = some (some (.ref f_are_shifts_)))
  (l_are_shifts:K.lookup f_are_shifts_=some ⟨oc_are_shifts,od_are_shifts,.func (PySem.W.fnOf "are_shifts" "are_shifts" (defArgs s_are_shifts) (defBody s_are_shifts) (defScope s_are_shifts) .none kV_are_shifts dc_are_shifts pm_are_shifts an_are_shifts cd_are_shifts ct_are_shifts),sl_are_shifts⟩)
  (c_are_shifts:PySem.W.codeIn K cd_are_shifts "are_shifts" = true)
  (k_are_shifts:PySem.W.keepIn K (.ref f_are_shifts_)=true)
  (a_is_zone:PySem.W.nsIn K mainGlobals "is_zone" = some (some (.ref f_is_zone_)))
  (l_is_zone:K.lookup f_is_zone_=some ⟨oc_is_zone,od_is_zone,.func (PySem.W.fnOf "is_zone" "is_zone" (defArgs s_is_zone) (defBody s_is_zone) (defScope s_is_zone) .none kV_is_zone dc_is_zone pm_is_zone an_is_zone cd_is_zone ct_is_zone),sl_is_zone⟩)
  (c_is_zone:PySem.W.codeIn K cd_is_zone "is_zone" = true)
  (k_is_zone:PySem.W.keepIn K (.ref f_is_zone_)=true)
  (a_check_zone:PySem.W.nsIn K mainGlobals "check_zone" = some (some (.ref f_check_zone_)))
  (l_check_zone:K.lookup f_check_zone_=some ⟨oc_check_zone,od_check_zone,.func (PySem.W.fnOf "check_zone" "check_zone" (defArgs s_check_zone) (defBody s_check_zone) (defScope s_check_zone) .none kV_check_zone dc_check_zone pm_check_zone an_check_zone cd_check_zone ct_check_zone),sl_check_zone⟩)
  (c_check_zone:PySem.W.codeIn K cd_check_zone "check_zone" = true)
  (k_check_zone:PySem.W.keepIn K (.ref f_check_zone_)=true)
  (a_signed:PySem.W.nsIn K mainGlobals "signed" = some (some (.ref f_signed_)))
  (l_signed:K.lookup f_signed_=some ⟨oc_signed,od_signed,.func (PySem.W.fnOf "signed" "signed" (defArgs s_signed) (defBody s_signed) (defScope s_signed) .none kV_signed dc_signed pm_signed an_signed cd_signed ct_signed),sl_signed⟩)
  (c_signed:PySem.W.codeIn K cd_signed "signed" = true)
  (k_signed:PySem.W.keepIn K (.ref f_signed_)=true)
  (a_zone_text:PySem.W.nsIn K mainGlobals "zone_text" = some (some (.ref f_zone_text_)))
  (l_zone_text:K.lookup f_zone_text_=some ⟨oc_zone_text,od_zone_text,.func (PySem.W.fnOf "zone_text" "zone_text" (defArgs s_zone_text) (defBody s_zone_text) (defScope s_zone_text) .none kV_zone_text dc_zone_text pm_zone_text an_zone_text cd_zone_text ct_zone_text),sl_zone_text⟩)
  (c_zone_text:PySem.W.codeIn K cd_zone_text "zone_text" = true)
  (k_zone_text:PySem.W.keepIn K (.ref f_zone_text_)=true)
  (a_check_text:PySem.W.nsIn K mainGlobals "check_text" = some (some (.ref f_check_text_)))
  (l_check_text:K.lookup f_check_text_=some ⟨oc_check_text,od_check_text,.func (PySem.W.fnOf "check_text" "check_text" (defArgs s_check_text) (defBody s_check_text) (defScope s_check_text) .none kV_check_text dc_check_text pm_check_text an_check_text cd_check_text ct_check_text),sl_check_text⟩)
  (c_check_text:PySem.W.codeIn K cd_check_text "check_text" = true)
  (k_check_text:PySem.W.keepIn K (.ref f_check_text_)=true)
  (a_read_number:PySem.W.nsIn K mainGlobals "read_number" = some (some (.ref f_read_number_)))
  (l_read_number:K.lookup f_read_number_=some ⟨oc_read_number,od_read_number,.func (PySem.W.fnOf "read_number" "read_number" (defArgs s_read_number) (defBody s_read_number) (defScope s_read_number) .none kV_read_number dc_read_number pm_read_number an_read_number cd_read_number ct_read_number),sl_read_number⟩)
  (c_read_number:PySem.W.codeIn K cd_read_number "read_number" = true)
  (k_read_number:PySem.W.keepIn K (.ref f_read_number_)=true)
  (a_read_ahead:PySem.W.nsIn K mainGlobals "read_ahead" = some (some (.ref f_read_ahead_)))
  (l_read_ahead:K.lookup f_read_ahead_=some ⟨oc_read_ahead,od_read_ahead,.func (PySem.W.fnOf "read_ahead" "read_ahead" (defArgs s_read_ahead) (defBody s_read_ahead) (defScope s_read_ahead) .none kV_read_ahead dc_read_ahead pm_read_ahead an_read_ahead cd_read_ahead ct_read_ahead),sl_read_ahead⟩)
  (c_read_ahead:PySem.W.codeIn K cd_read_ahead "read_ahead" = true)
  (k_read_ahead:PySem.W.keepIn K (.ref f_read_ahead_)=true)
  (a_read_shift:PySem.W.nsIn K mainGlobals "read_shift" = some (some (.ref f_read_shift_)))
  (l_read_shift:K.lookup f_read_shift_=some ⟨oc_read_shift,od_read_shift,.func (PySem.W.fnOf "read_shift" "read_shift" (defArgs s_read_shift) (defBody s_read_shift) (defScope s_read_shift) .none kV_read_shift dc_read_shift pm_read_shift an_read_shift cd_read_shift ct_read_shift),sl_read_shift⟩)
  (c_read_shift:PySem.W.codeIn K cd_read_shift "read_shift" = true)
  (k_read_shift:PySem.W.keepIn K (.ref f_read_shift_)=true)
  (a_read_zone:PySem.W.nsIn K mainGlobals "read_zone" = some (some (.ref f_read_zone_)))
  (l_read_zone:K.lookup f_read_zone_=some ⟨oc_read_zone,od_read_zone,.func (PySem.W.fnOf "read_zone" "read_zone" (defArgs s_read_zone) (defBody s_read_zone) (defScope s_read_zone) .none kV_read_zone dc_read_zone pm_read_zone an_read_zone cd_read_zone ct_read_zone),sl_read_zone⟩)
  (c_read_zone:PySem.W.codeIn K cd_read_zone "read_zone" = true)
  (k_read_zone:PySem.W.keepIn K (.ref f_read_zone_)=true)
  (a__law_cell_at:PySem.W.nsIn K mainGlobals "_law_cell_at" = some (some (.ref f__law_cell_at_)))
  (l__law_cell_at:K.lookup f__law_cell_at_=some ⟨oc__law_cell_at,od__law_cell_at,.func (PySem.W.fnOf "_law_cell_at" "_law_cell_at" (defArgs s__law_cell_at) (defBody s__law_cell_at) (defScope s__law_cell_at) .none kV__law_cell_at dc__law_cell_at pm__law_cell_at an__law_cell_at cd__law_cell_at ct__law_cell_at),sl__law_cell_at⟩)
  (c__law_cell_at:PySem.W.codeIn K cd__law_cell_at "_law_cell_at" = true)
  (k__law_cell_at:PySem.W.keepIn K (.ref f__law_cell_at_)=true)
  (a__law_mixed:PySem.W.nsIn K mainGlobals "_law_mixed" = some (some (.ref f__law_mixed_)))
  (l__law_mixed:K.lookup f__law_mixed_=some ⟨oc__law_mixed,od__law_mixed,.func (PySem.W.fnOf "_law_mixed" "_law_mixed" (defArgs s__law_mixed) (defBody s__law_mixed) (defScope s__law_mixed) .none kV__law_mixed dc__law_mixed pm__law_mixed an__law_mixed cd__law_mixed ct__law_mixed),sl__law_mixed⟩)
  (c__law_mixed:PySem.W.codeIn K cd__law_mixed "_law_mixed" = true)
  (k__law_mixed:PySem.W.keepIn K (.ref f__law_mixed_)=true)
  (a__law_draw:PySem.W.nsIn K mainGlobals "_law_draw" = some (some (.ref f__law_draw_)))
  (l__law_draw:K.lookup f__law_draw_=some ⟨oc__law_draw,od__law_draw,.func (PySem.W.fnOf "_law_draw" "_law_draw" (defArgs s__law_draw) (defBody s__law_draw) (defScope s__law_draw) .none kV__law_draw dc__law_draw pm__law_draw an__law_draw cd__law_draw ct__law_draw),sl__law_draw⟩)
  (c__law_draw:PySem.W.codeIn K cd__law_draw "_law_draw" = true)
  (k__law_draw:PySem.W.keepIn K (.ref f__law_draw_)=true)
  (a__law_pick:PySem.W.nsIn K mainGlobals "_law_pick" = some (some (.ref f__law_pick_)))
  (l__law_pick:K.lookup f__law_pick_=some ⟨oc__law_pick,od__law_pick,.func (PySem.W.fnOf "_law_pick" "_law_pick" (defArgs s__law_pick) (defBody s__law_pick) (defScope s__law_pick) .none kV__law_pick dc__law_pick pm__law_pick an__law_pick cd__law_pick ct__law_pick),sl__law_pick⟩)
  (c__law_pick:PySem.W.codeIn K cd__law_pick "_law_pick" = true)
  (k__law_pick:PySem.W.keepIn K (.ref f__law_pick_)=true)
  (a__law_zone:PySem.W.nsIn K mainGlobals "_law_zone" = some (some (.ref f__law_zone_)))
  (l__law_zone:K.lookup f__law_zone_=some ⟨oc__law_zone,od__law_zone,.func (PySem.W.fnOf "_law_zone" "_law_zone" (defArgs s__law_zone) (defBody s__law_zone) (defScope s__law_zone) .none kV__law_zone dc__law_zone pm__law_zone an__law_zone cd__law_zone ct__law_zone),sl__law_zone⟩)
  (c__law_zone:PySem.W.codeIn K cd__law_zone "_law_zone" = true)
  (k__law_zone:PySem.W.keepIn K (.ref f__law_zone_)=true)
  (a__law_odd_zone:PySem.W.nsIn K mainGlobals "_law_odd_zone" = some (some (.ref f__law_odd_zone_)))
  (l__law_odd_zone:K.lookup f__law_odd_zone_=some ⟨oc__law_odd_zone,od__law_odd_zone,.func (PySem.W.fnOf "_law_odd_zone" "_law_odd_zone" (defArgs s__law_odd_zone) (defBody s__law_odd_zone) (defScope s__law_odd_zone) .none kV__law_odd_zone dc__law_odd_zone pm__law_odd_zone an__law_odd_zone cd__law_odd_zone ct__law_odd_zone),sl__law_odd_zone⟩)
  (c__law_odd_zone:PySem.W.codeIn K cd__law_odd_zone "_law_odd_zone" = true)
  (k__law_odd_zone:PySem.W.keepIn K (.ref f__law_odd_zone_)=true)
  (a__law_which:PySem.W.nsIn K mainGlobals "_law_which" = some (some (.ref f__law_which_)))
  (l__law_which:K.lookup f__law_which_=some ⟨oc__law_which,od__law_which,.func (PySem.W.fnOf "_law_which" "_law_which" (defArgs s__law_which) (defBody s__law_which) (defScope s__law_which) .none kV__law_which dc__law_which pm__law_which an__law_which cd__law_which ct__law_which),sl__law_which⟩)
  (c__law_which:PySem.W.codeIn K cd__law_which "_law_which" = true)
  (k__law_which:PySem.W.keepIn K (.ref f__law_which_)=true)
  (a__law_ask:PySem.W.nsIn K mainGlobals "_law_ask" = some (some (.ref f__law_ask_)))
  (l__law_ask:K.lookup f__law_ask_=some ⟨oc__law_ask,od__law_ask,.func (PySem.W.fnOf "_law_ask" "_law_ask" (defArgs s__law_ask) (defBody s__law_ask) (defScope s__law_ask) .none kV__law_ask dc__law_ask pm__law_ask an__law_ask cd__law_ask ct__law_ask),sl__law_ask⟩)
  (c__law_ask:PySem.W.codeIn K cd__law_ask "_law_ask" = true)
  (k__law_ask:PySem.W.keepIn K (.ref f__law_ask_)=true)
  (a__law_ahead:PySem.W.nsIn K mainGlobals "_law_ahead" = some (some (.ref f__law_ahead_)))
  (l__law_ahead:K.lookup f__law_ahead_=some ⟨oc__law_ahead,od__law_ahead,.func (PySem.W.fnOf "_law_ahead" "_law_ahead" (defArgs s__law_ahead) (defBody s__law_ahead) (defScope s__law_ahead) .none kV__law_ahead dc__law_ahead pm__law_ahead an__law_ahead cd__law_ahead ct__law_ahead),sl__law_ahead⟩)
  (c__law_ahead:PySem.W.codeIn K cd__law_ahead "_law_ahead" = true)
  (k__law_ahead:PySem.W.keepIn K (.ref f__law_ahead_)=true)
  (a__law_due:PySem.W.nsIn K mainGlobals "_law_due" = some (some (.ref f__law_due_)))
  (l__law_due:K.lookup f__law_due_=some ⟨oc__law_due,od__law_due,.func (PySem.W.fnOf "_law_due" "_law_due" (defArgs s__law_due) (defBody s__law_due) (defScope s__law_due) .none kV__law_due dc__law_due pm__law_due an__law_due cd__law_due ct__law_due),sl__law_due⟩)
  (c__law_due:PySem.W.codeIn K cd__law_due "_law_due" = true)
  (k__law_due:PySem.W.keepIn K (.ref f__law_due_)=true)
  (a_law:PySem.W.nsIn K mainGlobals "law" = some (some (.ref f_law_)))
  (l_law:K.lookup f_law_=some ⟨oc_law,od_law,.func (PySem.W.fnOf "law" "law" (defArgs s_law) (defBody s_law) (defScope s_law) .none kV_law dc_law pm_law an_law cd_law ct_law),sl_law⟩)
  (c_law:PySem.W.codeIn K cd_law "law" = true)
  (k_law:PySem.W.keepIn K (.ref f_law_)=true)
  (v_LAST_MOMENT:PySem.W.nsIn K mainGlobals "LAST_MOMENT" = some (some (.int (9999) t_LAST_MOMENT)))
  (v_LEAST_AHEAD:PySem.W.nsIn K mainGlobals "LEAST_AHEAD" = some (some (.int (-12) t_LEAST_AHEAD)))
  (v_MOST_AHEAD:PySem.W.nsIn K mainGlobals "MOST_AHEAD" = some (some (.int (14) t_MOST_AHEAD)))
  (v_MOST_SHIFTS:PySem.W.nsIn K mainGlobals "MOST_SHIFTS" = some (some (.int (6) t_MOST_SHIFTS)))
  (v_FIGURES:PySem.W.nsIn K mainGlobals "FIGURES" = some (some (.str "0123456789" t_FIGURES)))
  (v_MOST_FIGURES:PySem.W.nsIn K mainGlobals "MOST_FIGURES" = some (some (.int (4) t_MOST_FIGURES)))
  (z_ANY_ZONE:PySem.W.nsIn K mainGlobals "ANY_ZONE" = some none)
  (z_NO_DEEDS:PySem.W.nsIn K mainGlobals "NO_DEEDS" = some none)
  (z_ValueError:PySem.W.nsIn K mainGlobals "ValueError" = some none)
  (z_all:PySem.W.nsIn K mainGlobals "all" = some none)
  (z_bool:PySem.W.nsIn K mainGlobals "bool" = some none)
  (z_dict:PySem.W.nsIn K mainGlobals "dict" = some none)
  (z_int:PySem.W.nsIn K mainGlobals "int" = some none)
  (z_isinstance:PySem.W.nsIn K mainGlobals "isinstance" = some none)
  (z_len:PySem.W.nsIn K mainGlobals "len" = some none)
  (z_max:PySem.W.nsIn K mainGlobals "max" = some none)
  (z_range:PySem.W.nsIn K mainGlobals "range" = some none)
  (z_str:PySem.W.nsIn K mainGlobals "str" = some none)
  (z_tuple:PySem.W.nsIn K mainGlobals "tuple" = some none)
  (a_Due:PySem.W.nsIn K mainGlobals "DueError" = some (some (.ref D_)))
  (x_Due:PySem.W.excIn K D_ bmV "ValueError.__new__" = true)
  (x_tab:excTab K D_ exL=true) :
  ∃ fd:FuncData,(∀ (s:Shared) (v:Value),BindsTo s fd ⟨[v],[]⟩ [("_law_script",v)])/\∀ base:Heap,K.In base->base.Ns mainGlobals mg->FnOk l.prog w K mg base (CXM l.prog w) 8 fa fd ["_law_script"] (spL K):=by
 have e:=hfa.symm.trans (PySem.W.mg_of X G a_law)
 cases e
 have F_is_whole:=fun_mk (st:=s_is_whole) l_is_whole c_is_whole k_is_whole
 have D_is_whole:FD K mg "is_whole" s_is_whole ["thing","least","most"] _ _:=⟨F_is_whole,PySem.W.mg_of X G a_is_whole,F_is_whole.binds fun _ _ _ _ _ _ us hl=>match us,hl with | [_,_,_],_=>rfl⟩
 have F_is_tuple_of:=fun_mk (st:=s_is_tuple_of) l_is_tuple_of c_is_tuple_of k_is_tuple_of
 have D_is_tuple_of:FD K mg "is_tuple_of" s_is_tuple_of ["thing","length"] _ _:=⟨F_is_tuple_of,PySem.W.mg_of X G a_is_tuple_of,F_is_tuple_of.binds fun _ _ _ _ _ _ us hl=>match us,hl with | [_,_],_=>rfl⟩
 have F_is_ahead:=fun_mk (st:=s_is_ahead) l_is_ahead c_is_ahead k_is_ahead
 have D_is_ahead:FD K mg "is_ahead" s_is_ahead ["thing"] _ _:=⟨F_is_ahead,PySem.W.mg_of X G a_is_ahead,F_is_ahead.binds fun _ _ _ _ _ _ us hl=>match us,hl with | [_],_=>rfl⟩
 have F_are_shifts:=fun_mk (st:=s_are_shifts) l_are_shifts c_are_shifts k_are_shifts
 have D_are_shifts:FD K mg "are_shifts" s_are_shifts ["thing"] _ _:=⟨F_are_shifts,PySem.W.mg_of X G a_are_shifts,F_are_shifts.binds fun _ _ _ _ _ _ us hl=>match us,hl with | [_],_=>rfl⟩
 have F_is_zone:=fun_mk (st:=s_is_zone) l_is_zone c_is_zone k_is_zone
 have D_is_zone:FD K mg "is_zone" s_is_zone ["thing"] _ _:=⟨F_is_zone,PySem.W.mg_of X G a_is_zone,F_is_zone.binds fun _ _ _ _ _ _ us hl=>match us,hl with | [_],_=>rfl⟩
 have F_check_zone:=fun_mk (st:=s_check_zone) l_check_zone c_check_zone k_check_zone
 have D_check_zone:FD K mg "check_zone" s_check_zone ["thing"] _ _:=⟨F_check_zone,PySem.W.mg_of X G a_check_zone,F_check_zone.binds fun _ _ _ _ _ _ us hl=>match us,hl with | [_],_=>rfl⟩
 have F_signed:=fun_mk (st:=s_signed) l_signed c_signed k_signed
 have D_signed:FD K mg "signed" s_signed ["ahead"] _ _:=⟨F_signed,PySem.W.mg_of X G a_signed,F_signed.binds fun _ _ _ _ _ _ us hl=>match us,hl with | [_],_=>rfl⟩
 have F_zone_text:=fun_mk (st:=s_zone_text) l_zone_text c_zone_text k_zone_text
 have D_zone_text:FD K mg "zone_text" s_zone_text ["zone"] _ _:=⟨F_zone_text,PySem.W.mg_of X G a_zone_text,F_zone_text.binds fun _ _ _ _ _ _ us hl=>match us,hl with | [_],_=>rfl⟩
 have F_check_text:=fun_mk (st:=s_check_text) l_check_text c_check_text k_check_text
 have D_check_text:FD K mg "check_text" s_check_text ["thing"] _ _:=⟨F_check_text,PySem.W.mg_of X G a_check_text,F_check_text.binds fun _ _ _ _ _ _ us hl=>match us,hl with | [_],_=>rfl⟩
 have F_read_number:=fun_mk (st:=s_read_number) l_read_number c_read_number k_read_number
 have D_read_number:FD K mg "read_number" s_read_number ["text"] _ _:=⟨F_read_number,PySem.W.mg_of X G a_read_number,F_read_number.binds fun _ _ _ _ _ _ us hl=>match us,hl with | [_],_=>rfl⟩
 have F_read_ahead:=fun_mk (st:=s_read_ahead) l_read_ahead c_read_ahead k_read_ahead
 have D_read_ahead:FD K mg "read_ahead" s_read_ahead ["text"] _ _:=⟨F_read_ahead,PySem.W.mg_of X G a_read_ahead,F_read_ahead.binds fun _ _ _ _ _ _ us hl=>match us,hl with | [_],_=>rfl⟩
 have F_read_shift:=fun_mk (st:=s_read_shift) l_read_shift c_read_shift k_read_shift
 have D_read_shift:FD K mg "read_shift" s_read_shift ["text"] _ _:=⟨F_read_shift,PySem.W.mg_of X G a_read_shift,F_read_shift.binds fun _ _ _ _ _ _ us hl=>match us,hl with | [_],_=>rfl⟩
 have F_read_zone:=fun_mk (st:=s_read_zone) l_read_zone c_read_zone k_read_zone
 have D_read_zone:FD K mg "read_zone" s_read_zone ["text"] _ _:=⟨F_read_zone,PySem.W.mg_of X G a_read_zone,F_read_zone.binds fun _ _ _ _ _ _ us hl=>match us,hl with | [_],_=>rfl⟩
 have F__law_cell_at:=fun_mk (st:=s__law_cell_at) l__law_cell_at c__law_cell_at k__law_cell_at
 have D__law_cell_at:FD K mg "_law_cell_at" s__law_cell_at ["_law_script","_law_k"] _ _:=⟨F__law_cell_at,PySem.W.mg_of X G a__law_cell_at,F__law_cell_at.binds fun _ _ _ _ _ _ us hl=>match us,hl with | [_,_],_=>rfl⟩
 have F__law_mixed:=fun_mk (st:=s__law_mixed) l__law_mixed c__law_mixed k__law_mixed
 have D__law_mixed:FD K mg "_law_mixed" s__law_mixed ["_law_script","_law_k","_law_many"] _ _:=⟨F__law_mixed,PySem.W.mg_of X G a__law_mixed,F__law_mixed.binds fun _ _ _ _ _ _ us hl=>match us,hl with | [_,_,_],_=>rfl⟩
 have F__law_draw:=fun_mk (st:=s__law_draw) l__law_draw c__law_draw k__law_draw
 have D__law_draw:FD K mg "_law_draw" s__law_draw ["_law_script","_law_town","_law_many"] _ _:=⟨F__law_draw,PySem.W.mg_of X G a__law_draw,F__law_draw.binds fun _ _ _ _ _ _ us hl=>match us,hl with | [_,_,_],_=>rfl⟩
 have F__law_pick:=fun_mk (st:=s__law_pick) l__law_pick c__law_pick k__law_pick
 have D__law_pick:FD K mg "_law_pick" s__law_pick ["_law_script","_law_town","_law_some"] _ _:=⟨F__law_pick,PySem.W.mg_of X G a__law_pick,F__law_pick.binds fun _ _ _ _ _ _ us hl=>match us,hl with | [_,_,_],_=>rfl⟩
 have F__law_zone:=fun_mk (st:=s__law_zone) l__law_zone c__law_zone k__law_zone
 have D__law_zone:FD K mg "_law_zone" s__law_zone ["_law_script","_law_town","_law_wide"] _ _:=⟨F__law_zone,PySem.W.mg_of X G a__law_zone,F__law_zone.binds fun _ _ _ _ _ _ us hl=>match us,hl with | [_,_,_],_=>rfl⟩
 have F__law_odd_zone:=fun_mk (st:=s__law_odd_zone) l__law_odd_zone c__law_odd_zone k__law_odd_zone
 have D__law_odd_zone:FD K mg "_law_odd_zone" s__law_odd_zone ["_law_script","_law_town"] _ _:=⟨F__law_odd_zone,PySem.W.mg_of X G a__law_odd_zone,F__law_odd_zone.binds fun _ _ _ _ _ _ us hl=>match us,hl with | [_,_],_=>rfl⟩
 have F__law_which:=fun_mk (st:=s__law_which) l__law_which c__law_which k__law_which
 have D__law_which:FD K mg "_law_which" s__law_which ["_law_e"] _ _:=⟨F__law_which,PySem.W.mg_of X G a__law_which,F__law_which.binds fun _ _ _ _ _ _ us hl=>match us,hl with | [_],_=>rfl⟩
 have F__law_ask:=fun_mk (st:=s__law_ask) l__law_ask c__law_ask k__law_ask
 have D__law_ask:FD K mg "_law_ask" s__law_ask ["_law_what","_law_thing"] _ _:=⟨F__law_ask,PySem.W.mg_of X G a__law_ask,F__law_ask.binds fun _ _ _ _ _ _ us hl=>match us,hl with | [_,_],_=>rfl⟩
 have F__law_ahead:=fun_mk (st:=s__law_ahead) l__law_ahead c__law_ahead k__law_ahead
 have D__law_ahead:FD K mg "_law_ahead" s__law_ahead ["_law_ahead_here"] _ _:=⟨F__law_ahead,PySem.W.mg_of X G a__law_ahead,F__law_ahead.binds fun _ _ _ _ _ _ us hl=>match us,hl with | [_],_=>rfl⟩
 have F__law_due:=fun_mk (st:=s__law_due) l__law_due c__law_due k__law_due
 have D__law_due:FD K mg "_law_due" s__law_due ["_law_text"] _ _:=⟨F__law_due,PySem.W.mg_of X G a__law_due,F__law_due.binds fun _ _ _ _ _ _ us hl=>match us,hl with | [_],_=>rfl⟩
 have F_law:=fun_mk (st:=s_law) l_law c_law k_law
 have D_law:FD K mg "law" s_law ["_law_script"] _ _:=⟨F_law,PySem.W.mg_of X G a_law,F_law.binds fun _ _ _ _ _ _ us hl=>match us,hl with | [_],_=>rfl⟩
 have T:Tx K mg:={
  d_is_whole:=⟨_,_,D_is_whole⟩
  d_is_tuple_of:=⟨_,_,D_is_tuple_of⟩
  d_is_ahead:=⟨_,_,D_is_ahead⟩
  d_are_shifts:=⟨_,_,D_are_shifts⟩
  d_is_zone:=⟨_,_,D_is_zone⟩
  d_check_zone:=⟨_,_,D_check_zone⟩
  d_signed:=⟨_,_,D_signed⟩
  d_zone_text:=⟨_,_,D_zone_text⟩
  d_check_text:=⟨_,_,D_check_text⟩
  d_read_number:=⟨_,_,D_read_number⟩
  d_read_ahead:=⟨_,_,D_read_ahead⟩
  d_read_shift:=⟨_,_,D_read_shift⟩
  d_read_zone:=⟨_,_,D_read_zone⟩
  d__law_cell_at:=⟨_,_,D__law_cell_at⟩
  d__law_mixed:=⟨_,_,D__law_mixed⟩
  d__law_draw:=⟨_,_,D__law_draw⟩
  d__law_pick:=⟨_,_,D__law_pick⟩
  d__law_zone:=⟨_,_,D__law_zone⟩
  d__law_odd_zone:=⟨_,_,D__law_odd_zone⟩
  d__law_which:=⟨_,_,D__law_which⟩
  d__law_ask:=⟨_,_,D__law_ask⟩
  d__law_ahead:=⟨_,_,D__law_ahead⟩
  d__law_due:=⟨_,_,D__law_due⟩
  c_LAST_MOMENT:=⟨_,PySem.W.mg_of X G v_LAST_MOMENT⟩
  c_LEAST_AHEAD:=⟨_,PySem.W.mg_of X G v_LEAST_AHEAD⟩
  c_MOST_AHEAD:=⟨_,PySem.W.mg_of X G v_MOST_AHEAD⟩
  c_MOST_SHIFTS:=⟨_,PySem.W.mg_of X G v_MOST_SHIFTS⟩
  c_FIGURES:=⟨_,PySem.W.mg_of X G v_FIGURES⟩
  c_MOST_FIGURES:=⟨_,PySem.W.mg_of X G v_MOST_FIGURES⟩
  b_ValueError:=PySem.W.mg_none_of X G z_ValueError
  b_all:=PySem.W.mg_none_of X G z_all
  b_bool:=PySem.W.mg_none_of X G z_bool
  b_dict:=PySem.W.mg_none_of X G z_dict
  b_int:=PySem.W.mg_none_of X G z_int
  b_isinstance:=PySem.W.mg_none_of X G z_isinstance
  b_len:=PySem.W.mg_none_of X G z_len
  b_max:=PySem.W.mg_none_of X G z_max
  b_range:=PySem.W.mg_none_of X G z_range
  b_str:=PySem.W.mg_none_of X G z_str
  b_tuple:=PySem.W.mg_none_of X G z_tuple
  xt0:=⟨D_,⟨⟨PySem.W.mg_of X G a_Due,a_Due,x_Due⟩,x_tab,fun c C e=>PySem.W.mg_of X G e⟩⟩
 }
 exact ⟨PySem.W.fnOf "law" "law" (defArgs s_law) (defBody s_law) (defScope s_law) .none kV_law dc_law pm_law an_law cd_law ct_law,fun s v=>.of_eq rfl,fun base _ _=>(ok_law _ _ _ T D_law).imp fun vs H Q E h=>scr_ok (gh_none (PySem.W.mg_none_of X G z_ANY_ZONE) (PySem.W.mg_none_of X G z_NO_DEEDS) H) (fun ns hn=>law_true hn) h⟩
theorem law_walk {l:PySem.W.OpenLaw} {q:Program} {loose:List Str} {XP:(Str->Option Value)->Heap->Prop} {YP:World->Heap->Prop} {d:DefRec} {K:Params->PySem.W.Frag} (hn:l.most=some 63) (hdf:d.params.defaults=[])
  (hY:∀ (w:World) (h:Heap),YP w h->(K w.params).In h)
  (F:∀ (w:World) (mg:Str->Option Value) (fa:Addr) (h:Heap),(K w.params).In h->h.Ns mainGlobals mg->mg d.name=some (.ref fa)->
   ∃ fd:FuncData,(∀ (s:Shared) (u:Value),BindsTo s fd ⟨[u],[]⟩ [("_law_script",u)])/\∀ base:Heap,(K w.params).In base->base.Ns mainGlobals mg->FnOk l.prog w (K w.params) mg base (CXM l.prog w) 8 fa fd ["_law_script"] (spL (K w.params))) :
  PySem.W.WalkO q loose XP YP l.row.toRowW d [] (fun f vs=>PySem.call f vs):=by
 refine L2.walk_of (n:=63) (k:=8) (x:="_law_script") (CX:=fun w=>CXM l.prog w) (sp:=fun w=>spL (K w.params)) hn (by decide) hdf ⟨rfl,by decide,by decide⟩ hY F (fun w H a ns hl hO hS=>?hsp) fun _ _ _ _ _ ⟨_,_,_,_,_,_,_,_,_,z⟩=>z
 refine ⟨a,ns,rfl,⟨hl,?_⟩,fun _=>rfl⟩
 rcases hS with (h1 | h1) | h1
 ·rcases hO a with h2 | ⟨o,xs,h2⟩
  ·rw [h2] at h1; cases h1
  ·rw [h2] at h1; cases h1
 ·exact .inl h1
 ·exact .inr h1
end K3
def PySem.W.Fast.tw11498603175488758734 : Unit := ()
def PySem.W.Fast.tw11709636838537917223 : Unit := ()
def PySem.W.Fast.tw12024868893373364335 : Unit := ()
def PySem.W.Fast.tw13211817858785770804 : Unit := ()
def PySem.W.Fast.tw13800105680668625729 : Unit := ()
def PySem.W.Fast.tw1382729617268680958 : Unit := ()
def PySem.W.Fast.tw13927095602745293220 : Unit := ()
def PySem.W.Fast.tw1399817048301923860 : Unit := ()
def PySem.W.Fast.tw14115152232057990969 : Unit := ()
def PySem.W.Fast.tw1436355371075219144 : Unit := ()
def PySem.W.Fast.tw14707161111543542111 : Unit := ()
def PySem.W.Fast.tw15073484507222897838 : Unit := ()
def PySem.W.Fast.tw15394129223739363760 : Unit := ()
def PySem.W.Fast.tw1553510616781678788 : Unit := ()
def PySem.W.Fast.tw15717063380812882297 : Unit := ()
def PySem.W.Fast.tw15946480257671518858 : Unit := ()
def PySem.W.Fast.tw16305113084988192661 : Unit := ()
def PySem.W.Fast.tw16766668067080231589 : Unit := ()
def PySem.W.Fast.tw1693924246496172896 : Unit := ()
def PySem.W.Fast.tw17078895413033615401 : Unit := ()
def PySem.W.Fast.tw17813541756963756068 : Unit := ()
def PySem.W.Fast.tw178969751853527573 : Unit := ()
def PySem.W.Fast.tw1827026153097956278 : Unit := ()
def PySem.W.Fast.tw1828755887165021100 : Unit := ()
def PySem.W.Fast.tw2643856499709523493 : Unit := ()
def PySem.W.Fast.tw3309277732458938279 : Unit := ()
def PySem.W.Fast.tw3728266155080291926 : Unit := ()
def PySem.W.Fast.tw4410868469049469507 : Unit := ()
def PySem.W.Fast.tw4595236962786888754 : Unit := ()
def PySem.W.Fast.tw4975728274639384186 : Unit := ()
def PySem.W.Fast.tw5265495424898490240 : Unit := ()
def PySem.W.Fast.tw5842364797206766064 : Unit := ()
def PySem.W.Fast.tw5987448700973139708 : Unit := ()
def PySem.W.Fast.tw628413727372211665 : Unit := ()
def PySem.W.Fast.tw6919318680365582423 : Unit := ()
def PySem.W.Fast.tw7002681392190385961 : Unit := ()
def PySem.W.Fast.tw7174826254784604218 : Unit := ()
def PySem.W.Fast.tw7176279306490832884 : Unit := ()
def PySem.W.Fast.tw7380741061464922812 : Unit := ()
def PySem.W.Fast.tw7448953810010076308 : Unit := ()
def PySem.W.Fast.tw7517508179401396745 : Unit := ()
def PySem.W.Fast.tw7841845950347096136 : Unit := ()
def PySem.W.Fast.tw815863803939727066 : Unit := ()
def PySem.W.Fast.tw9073029450630453252 : Unit := ()
def PySem.W.Fast.tw9098976455386252249 : Unit := ()
def PySem.W.Fast.tw9125580942016556963 : Unit := ()
open PySem PySem.W PyProof.Rows
set_option maxRecDepth 100000 in
set_option maxHeartbeats 0 in
theorem PySem.Challenge.cw_duehall_k23_whole_zone_texts_holds : PySem.Challenge.rw_duehall_k23_whole_zone_texts.Holds := by
  w_on; o_law; k_head; (case hw => w_witness2)
  k_fill
  refine K3.law_walk (l := PySem.Challenge.rw_duehall_k23_whole_zone_texts) rfl rfl (fun w h Y => PySem.W.kIn_of Y) ?F
  case F =>
    intro w mg fa h KX G hmg
    refine' K3.all_mk KX G hmg ?a_is_whole ?l_is_whole ?c_is_whole ?k_is_whole ?a_is_tuple_of ?l_is_tuple_of ?c_is_tuple_of ?k_is_tuple_of ?a_is_ahead ?l_is_ahead ?c_is_ahead ?k_is_ahead ?a_are_shifts ?l_are_shifts ?c_are_shifts ?k_are_shifts ?a_is_zone ?l_is_zone ?c_is_zone ?k_is_zone ?a_check_zone ?l_check_zone ?c_check_zone ?k_check_zone ?a_signed ?l_signed ?c_signed ?k_signed ?a_zone_text ?l_zone_text ?c_zone_text ?k_zone_text ?a_check_text ?l_check_text ?c_check_text ?k_check_text ?a_read_number ?l_read_number ?c_read_number ?k_read_number ?a_read_ahead ?l_read_ahead ?c_read_ahead ?k_read_ahead ?a_read_shift ?l_read_shift ?c_read_shift ?k_read_shift ?a_read_zone ?l_read_zone ?c_read_zone ?k_read_zone ?a__law_cell_at ?l__law_cell_at ?c__law_cell_at ?k__law_cell_at ?a__law_mixed ?l__law_mixed ?c__law_mixed ?k__law_mixed ?a__law_draw ?l__law_draw ?c__law_draw ?k__law_draw ?a__law_pick ?l__law_pick ?c__law_pick ?k__law_pick ?a__law_zone ?l__law_zone ?c__law_zone ?k__law_zone ?a__law_odd_zone ?l__law_odd_zone ?c__law_odd_zone ?k__law_odd_zone ?a__law_which ?l__law_which ?c__law_which ?k__law_which ?a__law_ask ?l__law_ask ?c__law_ask ?k__law_ask ?a__law_ahead ?l__law_ahead ?c__law_ahead ?k__law_ahead ?a__law_due ?l__law_due ?c__law_due ?k__law_due ?a_law ?l_law ?c_law ?k_law ?v_LAST_MOMENT ?v_LEAST_AHEAD ?v_MOST_AHEAD ?v_MOST_SHIFTS ?v_FIGURES ?v_MOST_FIGURES ?z_ANY_ZONE ?z_NO_DEEDS ?z_ValueError ?z_all ?z_bool ?z_dict ?z_int ?z_isinstance ?z_len ?z_max ?z_range ?z_str ?z_tuple ?a_Due ?x_Due ?x_tab
    (case a_is_whole => k_is)
    (case l_is_whole => k_is)
    (case c_is_whole => k_is)
    (case k_is_whole => k_is)
    (case a_is_tuple_of => k_is)
    (case l_is_tuple_of => k_is)
    (case c_is_tuple_of => k_is)
    (case k_is_tuple_of => k_is)
    (case a_is_ahead => k_is)
    (case l_is_ahead => k_is)
    (case c_is_ahead => k_is)
    (case k_is_ahead => k_is)
    (case a_are_shifts => k_is)
    (case l_are_shifts => k_is)
    (case c_are_shifts => k_is)
    (case k_are_shifts => k_is)
    (case a_is_zone => k_is)
    (case l_is_zone => k_is)
    (case c_is_zone => k_is)
    (case k_is_zone => k_is)
    (case a_check_zone => k_is)
    (case l_check_zone => k_is)
    (case c_check_zone => k_is)
    (case k_check_zone => k_is)
    (case a_signed => k_is)
    (case l_signed => k_is)
    (case c_signed => k_is)
    (case k_signed => k_is)
    (case a_zone_text => k_is)
    (case l_zone_text => k_is)
    (case c_zone_text => k_is)
    (case k_zone_text => k_is)
    (case a_check_text => k_is)
    (case l_check_text => k_is)
    (case c_check_text => k_is)
    (case k_check_text => k_is)
    (case a_read_number => k_is)
    (case l_read_number => k_is)
    (case c_read_number => k_is)
    (case k_read_number => k_is)
    (case a_read_ahead => k_is)
    (case l_read_ahead => k_is)
    (case c_read_ahead => k_is)
    (case k_read_ahead => k_is)
    (case a_read_shift => k_is)
    (case l_read_shift => k_is)
    (case c_read_shift => k_is)
    (case k_read_shift => k_is)
    (case a_read_zone => k_is)
    (case l_read_zone => k_is)
    (case c_read_zone => k_is)
    (case k_read_zone => k_is)
    (case a__law_cell_at => k_is)
    (case l__law_cell_at => k_is)
    (case c__law_cell_at => k_is)
    (case k__law_cell_at => k_is)
    (case a__law_mixed => k_is)
    (case l__law_mixed => k_is)
    (case c__law_mixed => k_is)
    (case k__law_mixed => k_is)
    (case a__law_draw => k_is)
    (case l__law_draw => k_is)
    (case c__law_draw => k_is)
    (case k__law_draw => k_is)
    (case a__law_pick => k_is)
    (case l__law_pick => k_is)
    (case c__law_pick => k_is)
    (case k__law_pick => k_is)
    (case a__law_zone => k_is)
    (case l__law_zone => k_is)
    (case c__law_zone => k_is)
    (case k__law_zone => k_is)
    (case a__law_odd_zone => k_is)
    (case l__law_odd_zone => k_is)
    (case c__law_odd_zone => k_is)
    (case k__law_odd_zone => k_is)
    (case a__law_which => k_is)
    (case l__law_which => k_is)
    (case c__law_which => k_is)
    (case k__law_which => k_is)
    (case a__law_ask => k_is)
    (case l__law_ask => k_is)
    (case c__law_ask => k_is)
    (case k__law_ask => k_is)
    (case a__law_ahead => k_is)
    (case l__law_ahead => k_is)
    (case c__law_ahead => k_is)
    (case k__law_ahead => k_is)
    (case a__law_due => k_is)
    (case l__law_due => k_is)
    (case c__law_due => k_is)
    (case k__law_due => k_is)
    (case a_law => k_is)
    (case l_law => k_is)
    (case c_law => k_is)
    (case k_law => k_is)
    (case v_LAST_MOMENT => k_is)
    (case v_LEAST_AHEAD => k_is)
    (case v_MOST_AHEAD => k_is)
    (case v_MOST_SHIFTS => k_is)
    (case v_FIGURES => k_is)
    (case v_MOST_FIGURES => k_is)
    (case z_ANY_ZONE => k_is)
    (case z_NO_DEEDS => k_is)
    (case z_ValueError => k_is)
    (case z_all => k_is)
    (case z_bool => k_is)
    (case z_dict => k_is)
    (case z_int => k_is)
    (case z_isinstance => k_is)
    (case z_len => k_is)
    (case z_max => k_is)
    (case z_range => k_is)
    (case z_str => k_is)
    (case z_tuple => k_is)
    (case a_Due => k_is)
    (case x_Due => first | kernel_rfl | rfl)
    (case x_tab => first | kernel_rfl | rfl)
