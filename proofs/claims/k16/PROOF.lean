import PyProof.Rows.All
import Wide.All
import OpenK.AllK
import Wide.FinOn
import Lean
import PyProof.EqAt
import PyProof.EqKinds
import PyProof.TupleCall
import PySem.Challenge.RW_duehall_k16_whole_never_and_often
set_option Elab.async false
set_option linter.all false
set_option maxRecDepth 100000
namespace L2
open PySem PySem.Spec PyProof.Rows
noncomputable abbrev Key:=Sum Int Str
noncomputable def keyIs:Key->Value->Bool
 | .inl k,v=>Value.isInt k v
 | .inr x,v=>Value.isStrOf x v
noncomputable def keyH (w:World):Key->Int
 | .inl k=>hashInt k
 | .inr x=>hashStr w x
theorem keyIs_shape:∀ {k:Key} {v:Value},keyIs k v=true->(∃ i t,k=Sum.inl i/\v=Value.int i t)\/(∃ x t,k=Sum.inr x/\v=Value.str x t)
 | .inl i,v,h=>by
  obtain ⟨t,e⟩:=Value.isInt_shape (k:=i) (v:=v) h
  exact .inl ⟨i,t,rfl,e⟩
 | .inr x,v,h=>by
  obtain ⟨t,e⟩:=Value.isStrOf_shape (x:=x) (v:=v) h
  exact .inr ⟨x,t,rfl,e⟩
theorem keyIs_int (i:Int) (t:Tok):keyIs (.inl i) (.int i t)=true:=by simp [keyIs,Value.isInt]
theorem keyIs_str (x:Str) (t:Tok):keyIs (.inr x) (.str x t)=true:=by simp [keyIs,Value.isStrOf]
theorem key_ll (a b:Int):decide ((Sum.inl a:Key)=Sum.inl b)=(a == b):=by
 by_cases e:a=b
 ·subst e; simp
 ·have h:¬ (Sum.inl a:Key)=Sum.inl b:=fun q=>e (Sum.inl.inj q)
  rw [decide_eq_false h]
  exact (beq_eq_false_iff_ne.mpr e).symm
theorem key_rr (a b:Str):decide ((Sum.inr a:Key)=Sum.inr b)=decide (a=b):=by
 by_cases e:a=b
 ·subst e; simp
 ·have h:¬ (Sum.inr a:Key)=Sum.inr b:=fun q=>e (Sum.inr.inj q)
  rw [decide_eq_false h,decide_eq_false e]
theorem key_lr (a:Int) (b:Str):decide ((Sum.inl a:Key)=Sum.inr b)=false:=decide_eq_false (fun q=>nomatch q)
theorem key_rl (a:Str) (b:Int):decide ((Sum.inr a:Key)=Sum.inl b)=false:=decide_eq_false (fun q=>nomatch q)
noncomputable def mixKind (prog:Program) (w:World):PySem.KeyKind prog w Key where
 is:=keyIs
 hash:=keyH w
 inj:=fun v a b ha hb=>by
  rcases keyIs_shape ha with ⟨i,t,rfl,rfl⟩ | ⟨x,t,rfl,rfl⟩
  ·rcases keyIs_shape hb with ⟨j,u,rfl,e⟩ | ⟨y,u,rfl,e⟩
   ·injection e with e1 _; rw [e1]
   ·exact nomatch e
  ·rcases keyIs_shape hb with ⟨j,u,rfl,e⟩ | ⟨y,u,rfl,e⟩
   ·exact nomatch e
   ·injection e with e1 _; rw [e1]
 byValue:=fun k v h=>by
  rcases keyIs_shape h with ⟨i,t,rfl,rfl⟩ | ⟨x,t,rfl,rfl⟩ <;> rfl
 pyHash:=fun hv h=>by
  rcases keyIs_shape hv with ⟨i,t,rfl,rfl⟩ | ⟨x,t,rfl,rfl⟩
  ·exact wpAny_pyHash_int h
  ·exact wpAny_pyHash_str h
 eqBool:=fun hu hv h=>by
  rcases keyIs_shape hu with ⟨i,t,rfl,rfl⟩ | ⟨x,t,rfl,rfl⟩
  ·rcases keyIs_shape hv with ⟨j,u,rfl,rfl⟩ | ⟨y,u,rfl,rfl⟩
   ·rw [key_ll] at h; exact wpAny_eqBool_int h
   ·rw [key_lr] at h; exact SeqAt.EqAt.int_str i t y u _ _ _ _ h
  ·rcases keyIs_shape hv with ⟨j,u,rfl,rfl⟩ | ⟨y,u,rfl,rfl⟩
   ·rw [key_rl] at h; exact SeqAt.EqAt.str_int x t j u _ _ _ _ h
   ·rw [key_rr] at h; exact wpAny_eqBool_str h
 «strs»:=fun k x t v h=>by
  rcases keyIs_shape h with ⟨i,u,rfl,e⟩ | ⟨y,u,rfl,e⟩
  ·exact nomatch e
  ·injection e with e1 _
   subst e1
   cases v <;> rfl
theorem mixKind_int (prog:Program) (w:World) (i:Int) (t:Tok):(mixKind prog w).is (.inl i) (.int i t)=true:=keyIs_int i t
theorem mixKind_str (prog:Program) (w:World) (x:Str) (t:Tok):(mixKind prog w).is (.inr x) (.str x t)=true:=keyIs_str x t
end L2
namespace L2
open PySem PySem.Spec PyProof.Rows
inductive V where
 | non | bl (b:Bool) | int (i:Int) | str (x:Str) | byt (b:Array UInt8) | flt (b:UInt64) | ref (a:Addr) | ty (n:String)
 deriving DecidableEq
noncomputable def RelV:V->Value->Prop
 | .non,u=>u=Value.none
 | .bl b,u=>u=Value.bool b
 | .int i,u=>∃ t,u=Value.int i t
 | .str x,u=>∃ t,u=Value.str x t
 | .byt b,u=>∃ t,u=Value.bytes b t
 | .flt b,u=>∃ t,u=Value.float b t
 | .ref a,u=>u=Value.ref a
 | .ty n,u=>u=Value.type n
noncomputable abbrev Vals:List V->List Value->Prop:=Paired RelV
theorem Vals.length {xs:List V} {us:List Value} (r:Vals xs us):xs.length=us.length:=Paired.length r
theorem Vals.get:∀ {xs:List V} {us:List Value} {i:Nat} {x:V},Vals xs us->xs[i]? = some x->∃ u,us[i]? = some u/\RelV x u
 | _,_,_,_,.nil,e=>by simp at e
 | _,_,0,_,.cons r _,e=>by simp at e; subst e; exact ⟨_,rfl,r⟩
 | _,_,i + 1,x,.cons _ t,e=>by
  obtain ⟨u,h1,h2⟩:=Vals.get (i:=i) (x:=x) t (by simpa using e)
  exact ⟨u,by simpa using h1,h2⟩
theorem Vals.append:∀ {xs ys:List V} {us ws:List Value},Vals xs us->Vals ys ws->Vals (xs ++ ys) (us ++ ws)
 | _,_,_,_,.nil,s=>s
 | _,_,_,_,.cons r t,s=>.cons r (Vals.append t s)
noncomputable def RelO:Option V->Option Value->Prop
 | some v,some u=>RelV v u
 | none,none=>True
 | _,_=>False
noncomputable def KV {κ:Type}:List (κ × V)->List (κ × Value)->Prop:=Paired fun (p:κ × V) (q:κ × Value)=>p.1=q.1/\RelV p.2 q.2
noncomputable def kV:Key->V
 | .inl i=>.int i
 | .inr x=>.str x
inductive HO where
 | lst (xs:List V)
 | tup (xs:List V)
 | dK (kvs:List (Key × V)) | dT (kvs:List (List Key × V))
 | set (S:Int->Bool) (n:Nat)
 | ins (C dx:Addr) (fs:List (Str × V))
 | own (x:Addr)
 | xd (fs:List (Str × V))
 | met (f x:Addr)
 | rng (lo hi:Int)
 | frz (o:Obj) (u:HO)
 | tbl (ps:Array Value)
 | ext (φ:Heap->Prop)
noncomputable abbrev Hp:=Addr->Option HO
noncomputable def upd (H:Hp) (a:Addr) (o:HO):Hp:=fun b=>if b=a then some o else H b
theorem upd_same {H:Hp} {a:Addr} {o:HO}:upd H a o a=some o:=by unfold upd; rw [if_pos rfl]
theorem upd_ne {H:Hp} {a b:Addr} {o:HO} (h:b ≠ a):upd H a o b=H b:=by unfold upd; rw [if_neg h]
theorem ne_of {H:Hp} {a b:Addr} {o u:HO} (h:H a=some o) (h':H b=some u) (d:o ≠ u):a ≠ b:=by
 intro e; subst e; rw [h] at h'; exact d (Option.some.inj h')
theorem ne_of_none {H:Hp} {a b:Addr} {o:HO} (h:H a=some o) (h':H b=none):a ≠ b:=by
 intro e; subst e; rw [h] at h'; cases h'
section
variable (P:Program) (w:World)
noncomputable def ObjOk (H:Hp) (h:Heap) (a:Addr):HO->Prop
 | .lst xs=>xs.length<=sizeLine/\∃ (its:List Value) (n:Nat),Vals xs its/\h.get? a=some { cls:=.type "list",data:=.seq its.toArray n }
 | .tup xs=>xs.length<=sizeLine/\∃ its:List Value,Vals xs its/\IsTup h a its.toArray
 | .dK kvs=>kvs.length<=sizeLine/\(a == sysModules)=false/\∃ vs,KV kvs vs/\h.DictOf (mixKind P w) a vs
 | .dT kvs=>kvs.length<=sizeLine/\(a == sysModules)=false/\∃ xs:List (List Key × Addr × Value),
   Paired (fun (p:List Key × V) (q:List Key × Addr × Value)=>p.1=q.1/\H q.2.1=some (.tup (p.1.map kV))/\RelV p.2 q.2.2) kvs xs/\
   ∃ o es ep,h.get? a=some o/\o.ExactDict/\o.data=.dict es ep/\es.toList=xs.map (entryOfKey (tupleKind (mixKind P w)))/\(xs.map (·.1)).Nodup
 | .set S n=>h.SetOf (intKind P w) a S n
 | .ins C dx fs=>H dx=some (.own a)/\fs.length<=1000/\dx ≠ a/\h.get? a=some (PySem.W.instObj C dx)/\
   ∃ mA,h.Ns1 dx mA/\(∀ f,RelO (fs.lookup f) (mA f))/\PySem.Within mA (fs.map (·.1))
 | .own _=>∃ o,h.get? a=some o
 | .xd fs=>∃ mA,h.Ns1 a mA/\∀ f,RelO (fs.lookup f) (mA f)
 | .rng lo hi=>∃ t u v,h.get? a=some { cls:=.type "range",data:=.fields #[.int lo t,.int hi u,.int 1 v] }
 | .frz o u=>h.get? a=some o/\ObjOk H h a u
 | .tbl ps=>h.get? a=some { cls:=.none,data:=.fields ps }
 | .met f x=>h.get? a=some (PySem.W.methodObj (.ref f) (.ref x))
 | .ext φ=>φ h/\(∃ o,h.get? a=some o)/\∀ h1 h2:Heap,φ h1->(∀ o,h1.get? a=some o->h2.get? a=some o)->φ h2
noncomputable def HOk (H:Hp) (h:Heap):Prop:=∀ a o,H a=some o->ObjOk P w H h a o
end
section
variable {P:Program} {w:World} {H H':Hp} {h h':Heap} {a:Addr} {o:HO}
theorem ObjOk.lt (x:ObjOk P w H h a o):a < h.objs.size:=by
 cases o with
 | lst xs=>obtain ⟨_,_,_,_,e⟩:=x; exact Heap.lt_size e
 | tup xs=>obtain ⟨_,_,_,p⟩:=x; exact p.lt
 | dK kvs=>obtain ⟨_,_,_,_,o,_,_,e,_⟩:=x; exact Heap.lt_size e
 | dT kvs=>obtain ⟨_,_,_,_,o,_,_,e,_⟩:=x; exact Heap.lt_size e
 | set S n=>obtain ⟨o,_,_,_,e,_⟩:=x; exact Heap.lt_size e
 | ins C dx fs=>obtain ⟨_,_,_,e,_⟩:=x; exact Heap.lt_size e
 | own y=>obtain ⟨_,e⟩:=x; exact Heap.lt_size e
 | xd fs=>obtain ⟨_,⟨_,_,_,e,_⟩,_⟩:=x; exact Heap.lt_size e
 | rng lo hi=>obtain ⟨_,_,_,e⟩:=x; exact Heap.lt_size e
 | frz ob u=>obtain ⟨e,_⟩:=x; exact Heap.lt_size e
 | tbl ps=>exact Heap.lt_size (show h.get? a=some _ from x)
 | met f y=>exact Heap.lt_size (show h.get? a=some _ from x)
 | ext φ=>obtain ⟨_,⟨_,e⟩,_⟩:=x; exact Heap.lt_size e
theorem Paired.mapP {α β:Type} {F G:α->β->Prop}:∀ {l₁:List α} {l₂:List β},Paired F l₁ l₂->(∀ a b,F a b->G a b)->Paired G l₁ l₂
 | _,_,.nil,_=>.nil
 | _,_,.cons r t,f=>.cons (f _ _ r) (Paired.mapP t f)
theorem ObjOk.stay (x:ObjOk P w H h a o) (k:∀ b u,(b=a\/H b=some (.own a))->h.get? b=some u->h'.get? b=some u)
  (ho:∀ b,H b=some (.own a)->H' b=some (.own a)) (ht:∀ b xs,H b=some (.tup xs)->H' b=some (.tup xs)):ObjOk P w H' h' a o:=by
 induction o with
 | lst xs=>obtain ⟨z,its,n,r,e⟩:=x; exact ⟨z,its,n,r,k _ _ (.inl rfl) e⟩
 | tup xs=>obtain ⟨z,its,r,ob,e,c⟩:=x; exact ⟨z,its,r,ob,k _ _ (.inl rfl) e,c⟩
 | dK kvs=>obtain ⟨z,y,vs,r,ob,es,ep,e,c⟩:=x; exact ⟨z,y,vs,r,ob,es,ep,k _ _ (.inl rfl) e,c⟩
 | dT kvs=>
  obtain ⟨z,y,xs,r,ob,es,ep,e,c⟩:=x
  exact ⟨z,y,xs,Paired.mapP r fun p q z=>⟨z.1,ht _ _ z.2.1,z.2.2⟩,ob,es,ep,k _ _ (.inl rfl) e,c⟩
 | set S n=>obtain ⟨ob,es,ep,t,e,c⟩:=x; exact ⟨ob,es,ep,t,k _ _ (.inl rfl) e,c⟩
 | ins C dx fs=>
  obtain ⟨d,z,ne,e,mA,⟨od,es,ep,e2,c⟩,r⟩:=x
  exact ⟨ho _ d,z,ne,k _ _ (.inl rfl) e,mA,⟨od,es,ep,k _ _ (.inr d) e2,c⟩,r⟩
 | own y=>obtain ⟨ob,e⟩:=x; exact ⟨ob,k _ _ (.inl rfl) e⟩
 | xd fs=>obtain ⟨mA,⟨od,es,ep,e,c⟩,r⟩:=x; exact ⟨mA,⟨od,es,ep,k _ _ (.inl rfl) e,c⟩,r⟩
 | rng lo hi=>obtain ⟨t,u,v,e⟩:=x; exact ⟨t,u,v,k _ _ (.inl rfl) e⟩
 | frz ob u ih=>obtain ⟨e,q⟩:=x; exact ⟨k _ _ (.inl rfl) e,ih q⟩
 | tbl ps=>
  have e:h.get? a=some { cls:=.none,data:=.fields ps }:=x
  show h'.get? a=some { cls:=.none,data:=.fields ps }
  exact k a _ (.inl rfl) e
 | met f y=>
  have e:h.get? a=some (PySem.W.methodObj (.ref f) (.ref y)):=x
  show h'.get? a=some (PySem.W.methodObj (.ref f) (.ref y))
  exact k a _ (.inl rfl) e
 | ext φ=>obtain ⟨p,⟨o,e⟩,st⟩:=x; exact ⟨st _ _ p fun o q=>k _ _ (.inl rfl) q,⟨o,k _ _ (.inl rfl) e⟩,st⟩
theorem HOk.lt (x:HOk P w H h) (e:H a=some o):a < h.objs.size:=(x a o e).lt
theorem HOk.fresh (x:HOk P w H h) (e:h.objs.size<=a):H a=none:=by
 cases q:H a with
 | none=>rfl
 | some u=>exact absurd (Nat.lt_of_lt_of_le (x.lt q) e) (Nat.lt_irrefl _)
theorem HOk.kept (x:HOk P w H h) (k:∀ b u,h.get? b=some u->h'.get? b=some u):HOk P w H h':=fun a o e=>
 (x a o e).stay (fun b u _ q=>k b u q) (fun _ q=>q) fun _ _ q=>q
theorem HOk.laid (x:HOk P w H h) (k:∀ b u,h.get? b=some u->h'.get? b=some u) (hp:h.objs.size<=a) (new:ObjOk P w (upd H a o) h' a o):HOk P w (upd H a o) h':=fun b u e=>by
 have hn:=x.fresh hp
 by_cases hb:b=a
 ·subst hb; rw [upd_same] at e; cases e; exact new
 ·rw [upd_ne hb] at e
  exact (x b u e).stay (fun c v _ q=>k c v q) (fun c q=>by rw [upd_ne (ne_of_none q hn)]; exact q) fun c xs q=>by rw [upd_ne (ne_of_none q hn)]; exact q
end
noncomputable def Rd (H:Hp) (a:Addr) (u:HO):Prop:=H a=some u\/∃ o,H a=some (.frz o u)
theorem Rd.of {H:Hp} {a:Addr} {u:HO} (h:H a=some u):Rd H a u:=.inl h
theorem Rd.ok {P:Program} {w:World} {H:Hp} {h:Heap} {a:Addr} {u:HO} (r:Rd H a u) (x:HOk P w H h):ObjOk P w H h a u:=by
 rcases r with r | ⟨o,r⟩
 ·exact x a u r
 ·obtain ⟨_,q⟩:=x a _ r
  exact q
noncomputable def Mut:Option HO->Prop
 | some (.lst _)=>True
 | some (.dK _)=>True
 | some (.dT _)=>True
 | some (.set _ _)=>True
 | some (.ins _ _ _)=>True
 | some (.ext _)=>True
 | _=>False
section
variable {P:Program} {w:World} {H:Hp} {h h':Heap} {x e:Addr} {o':HO}
theorem HOk.write (ok:HOk P w H h) (mu:Mut (H x)) (he:e=x\/H e=some (.own x)) (k:∀ b u,b ≠ e->h.get? b=some u->h'.get? b=some u) (heo:∃ u,h'.get? e=some u)
  (new:ObjOk P w (upd H x o') h' x o'):HOk P w (upd H x o') h':=fun b u q=>by
 have nown:∀ c y,H c=some (.own y)->c ≠ x:=fun c y r z=>by subst z; rw [r] at mu; exact mu
 have ntup:∀ c xs,H c=some (.tup xs)->c ≠ x:=fun c xs r z=>by subst z; rw [r] at mu; exact mu
 by_cases hb:b=x
 ·subst hb; rw [upd_same] at q; cases q; exact new
 ·rw [upd_ne hb] at q
  by_cases hbe:b=e
  ·have q':H b=some (.own x):=by
    rcases he with z | z
    ·exact absurd (hbe.trans z) hb
    ·rw [hbe]; exact z
   rw [q] at q'; cases q'
   obtain ⟨v,hv⟩:=heo
   exact ⟨v,by rw [hbe]; exact hv⟩
  ·refine (ok b u q).stay (fun c v hc r=>k c v ?_ r) (fun c r=>by rw [upd_ne (nown c b r)]; exact r) fun c xs r=>by rw [upd_ne (ntup c xs r)]; exact r
   rcases hc with rfl | hc
   ·exact hbe
   ·rintro rfl
    rcases he with z | z
    ·exact nown c b hc z
    ·rw [hc] at z; cases z; exact hb rfl
end
structure Un (fs ex:List Addr) (H H':Hp) (h h':Heap):Prop where
 keep:∀ b o,h.get? b=some o->H b=none->b ∉ fs->b ∉ ex->h'.get? b=some o
 slot:∀ b o,h.get? b=some o->H b=none->b ∈ fs->b ∉ ex->∃ sl,h'.get? b=some { o with slots:=sl }
 free:∀ b o,h.get? b=some o->H b=none->b ∉ ex->H' b=none
 there:∀ b o,h.get? b=some o->b ∉ ex->∃ o',h'.get? b=some o'
 tups:∀ b xs,H b=some (.tup xs)->H' b=some (.tup xs)
 frzs:∀ b o u,H b=some (.frz o u)->H' b=some (.frz o u)
 tbls:∀ b ps,H b=some (.tbl ps)->∃ more,H' b=some (.tbl (ps ++ more))
section
variable {fs fs' ex ex':List Addr} {H H1 H2:Hp} {h h1 h2 h':Heap} {a x e:Addr} {o:HO}
theorem Un.any (u:Un fs ex H H1 h h1) {b:Addr} {ob:Obj} (q:h.get? b=some ob) (n:H b=none) (hx:b ∉ ex):∃ sl,h1.get? b=some { ob with slots:=sl }:=by
 by_cases hb:b ∈ fs
 ·exact u.slot b ob q n hb hx
 ·exact ⟨ob.slots,u.keep b ob q n hb hx⟩
theorem Un.kept (k:∀ b u,h.get? b=some u->h'.get? b=some u):Un fs ex H H h h':=
 ⟨fun b ob q _ _ _=>k b ob q,fun b ob q _ _ _=>⟨ob.slots,k b ob q⟩,fun _ _ _ n _=>n,fun b ob q _=>⟨ob,k b ob q⟩,fun _ _ q=>q,fun _ _ _ q=>q,fun _ ps q=>⟨#[],by rw [q]; simp⟩⟩
theorem Un.refl:Un fs ex H H h h:=Un.kept fun _ _ q=>q
theorem Un.laid (k:∀ b u,h.get? b=some u->h'.get? b=some u) (hp:h.objs.size<=a) (hn:H a=none):Un fs ex H (upd H a o) h h' where
 keep:=fun b u q _ _ _=>k b u q
 slot:=fun b u q _ _ _=>⟨u.slots,k b u q⟩
 free:=fun b u q n _=>by rw [upd_ne (Nat.ne_of_lt (Nat.lt_of_lt_of_le (Heap.lt_size q) hp))]; exact n
 there:=fun b u q _=>⟨u,k b u q⟩
 tups:=fun b xs q=>by rw [upd_ne (ne_of_none q hn)]; exact q
 frzs:=fun b u xs q=>by rw [upd_ne (ne_of_none q hn)]; exact q
 tbls:=fun b ps q=>⟨#[],by rw [upd_ne (ne_of_none q hn),q]; simp⟩
theorem Un.write (mu:Mut (H x)) (he:e=x\/H e=some (.own x)) (k:∀ b u,b ≠ e->h.get? b=some u->h'.get? b=some u) (heo:∃ u,h'.get? e=some u):Un fs ex H (upd H x o) h h':=by
 have hx:∀ b,H b=none->b ≠ x:=fun b n z=>by subst z; rw [n] at mu; exact mu
 have hb:∀ b,H b=none->b ≠ e:=fun b n z=>by
  subst z
  rcases he with r | r
  ·exact hx b n r
  ·rw [n] at r; cases r
 have hm:∀ b u,H b=some u->¬ Mut (some u)->b ≠ x:=fun b u q nm z=>by subst z; rw [q] at mu; exact nm mu
 refine ⟨fun b u q n _ _=>k b u (hb b n) q,fun b u q n _ _=>⟨u.slots,k b u (hb b n) q⟩,fun b u q n _=>by rw [upd_ne (hx b n)]; exact n,fun b u q _=>?_,
  fun b xs q=>by rw [upd_ne (hm b _ q fun z=>z)]; exact q,fun b u xs q=>by rw [upd_ne (hm b _ q fun z=>z)]; exact q,fun b ps q=>⟨#[],by rw [upd_ne (hm b _ q fun z=>z),q]; simp⟩⟩
 by_cases hbe:b=e
 ·subst hbe; exact heo
 ·exact ⟨u,k b u hbe q⟩
end
noncomputable def trk (h:Heap) (H:Hp):List Addr:=(List.range h.objs.size).filter fun a=>(H a).isSome
noncomputable def hidT (h:Heap) (H:Hp):Heap:=PySem.W.hideAll h (trk h H)
theorem hidT_size (h:Heap) (H:Hp):(hidT h H).objs.size=h.objs.size:=PySem.W.hideAll_size _ _
theorem hidT_get {h:Heap} {H:Hp} {b:Addr} {o:Obj} (e:h.get? b=some o) (n:H b=none):(hidT h H).get? b=some o:=
 PySem.W.hideAll_get _ e fun hm=>by
  have q:(H b).isSome=true:=(List.mem_filter.mp hm).2
  rw [n] at q; simp at q
theorem of_hidT {h:Heap} {H:Hp} {b:Addr} {o:Obj} (e:(hidT h H).get? b=some o):h.get? b=some o/\H b=none:=by
 have e':h.get? b=some o:=PySem.W.of_hideAll (trk h H) e
 refine ⟨e',?_⟩
 cases q:H b with
 | none=>rfl
 | some x=>
  have hm:b ∈ trk h H:=List.mem_filter.mpr ⟨List.mem_range.mpr (Heap.lt_size e'),by simp [q]⟩
  have z:(hidT h H).get? b=none:=PySem.W.hideAll_none (trk h H) hm
  rw [z] at e; cases e
end L2
namespace L2
open PySem PySem.Spec PyProof.Rows
structure Mod (K:PySem.W.Frag) (mg:Str->Option Value) (base:Heap):Prop where
 kin:K.In base
 glob:base.Ns mainGlobals mg
 blt:∃ mb,base.Ns builtinsNs mb/\∀ x:Str,x ≠ "__name__"->mb x=bootBuiltins x
 nolimit:base.NoLimit
structure Cx where
 prog:Program
 w:World
 K:PySem.W.Frag
 mg:Str->Option Value
 base:Heap
 A:Around
 N:List Str
 s₀:Shared
 H₀:Hp
 env:Env
 outer:List Env
 stack:List Env
 ex:List Addr
 fn:Str->Bool
 calm:Bool
 pn:List (Addr × Obj)
 xe:Value->Shared->Prop
noncomputable def frs (l:List Env):List Addr:=l.filterMap (·.frame)
noncomputable abbrev Cx.fs (X:Cx):List Addr:=frs X.outer
noncomputable def Vis (sc:Scope) (x:Str):Prop:=sc.names.lookup x=some .local\/sc.names.lookup x=some .cell\/sc.names.lookup x=some .free
noncomputable def Loc (sc:Scope) (x:Str):Prop:=sc.names.lookup x=some .local\/sc.names.lookup x=some .cell
noncomputable def Look (env:Env) (h:Heap) (m:Str->Option Value) (x:Str) (u:Value):Prop:=
 (env.kindOf x=some .local/\m x=some u)\/((env.kindOf x=some .cell\/env.kindOf x=some .free)/\∃ c,env.cells.lookup x=some c/\h.IsCell c (some u))
structure Cx.Ok (X:Cx):Prop where
 mod:Mod X.K X.mg X.base
 kind:X.env.scope.kind=.function
 glob:X.env.globals=mainGlobals
 blt:X.env.builtins=builtinsNs
 above:X.s₀.heap.objs.size<=X.env.locals
 inj:∀ x y c,X.env.cells.lookup x=some c->X.env.cells.lookup y=some c->x=y
 has:∀ x,(X.env.kindOf x=some .cell\/X.env.kindOf x=some .free)->∃ c,X.env.cells.lookup x=some c
 cab:∀ x c,X.fn x=true->X.env.cells.lookup x=some c->X.s₀.heap.objs.size<=c
 hd:X.calm=true->X.A.handled=none
 frames:X.A.frames=some X.stack
 stk:X.stack=X.outer\/(X.stack=X.env :: X.outer/\X.env.frame=some X.env.locals)
 exf:∀ b ∈ X.ex,b ≠ X.env.locals/\∀ x c,X.env.cells.lookup x=some c->c ≠ b
 bs:∀ b o,X.base.get? b=some o->X.s₀.heap.get? b=some o/\X.H₀ b=none
 bsz:X.base.objs.size<=X.s₀.heap.objs.size
 noex:∀ b o,X.base.get? b=some o->b ∉ X.ex
 exfs:∀ b ∈ X.ex,b ∉ X.fs
 funs:X.s₀.heap.FunFrames X.base X.outer
 frf:∀ b ∈ X.fs,X.H₀ b=none
structure Inv (X:Cx) (pins:List (Addr × Obj)) (σ:List (Option V)) (H:Hp) (s:Shared):Prop where
 ok:X.Ok
 os:s.os=X.s₀.os
 bare:AllBare s.gens
 base:Un X.fs X.ex X.H₀ H X.s₀.heap s.heap
 loc:∃ m,s.heap.Ns X.env.locals m/\∀ (i:Nat) (x:Str) (v:V),X.N[i]? = some x->σ[i]? = some (some v)->Vis X.env.scope x->∃ u,RelV v u/\Look X.env s.heap m x u
 cell:∀ x c,X.env.cells.lookup x=some c->∃ v,s.heap.IsCell c v
 free:H X.env.locals=none
 freeC:∀ x c,X.env.cells.lookup x=some c->H c=none
 pin:∀ p ∈ X.pn ++ pins,s.heap.get? p.1=some p.2/\H p.1=none/\p.1 ≠ X.env.locals/\p.1 ∉ X.fs/\∀ v,p.2.data ≠ .cell v
 hok:HOk X.prog X.w H s.heap
 len:σ.length=X.N.length
section
variable {X:Cx} {pins:List (Addr × Obj)} {σ:List (Option V)} {H H':Hp} {s:Shared} {h':Heap}
theorem Cx.Ok.nofr (ok:X.Ok) {b:Addr} {o:Obj} (e:X.base.get? b=some o):b ∉ X.fs:=fun hb=>by
 have:=(ok.funs.mem hb).1
 rw [e] at this; cases this
theorem Inv.bs (I:Inv X pins σ H s):∀ b o,X.base.get? b=some o->s.heap.get? b=some o/\H b=none:=fun b o e=>
 ⟨I.base.keep b o (I.ok.bs b o e).1 (I.ok.bs b o e).2 (I.ok.nofr e) (I.ok.noex b o e),I.base.free b o (I.ok.bs b o e).1 (I.ok.bs b o e).2 (I.ok.noex b o e)⟩
theorem Inv.bk (I:Inv X pins σ H s):∀ b o,X.base.get? b=some o->s.heap.get? b=some o:=fun b o e=>(I.bs b o e).1
theorem Inv.mod (I:Inv X pins σ H s):Mod X.K X.mg X.base:=I.ok.mod
theorem Inv.kIn (I:Inv X pins σ H s):X.K.In s.heap:=I.ok.mod.kin.keeps I.bk
theorem Inv.lt (I:Inv X pins σ H s):X.env.locals < s.heap.objs.size:=let ⟨_,hn,_⟩:=I.loc; hn.lt
theorem Inv.sz (I:Inv X pins σ H s):X.s₀.heap.objs.size<=s.heap.objs.size:=Nat.le_trans I.ok.above (Nat.le_of_lt I.lt)
theorem Inv.nofs (I:Inv X pins σ H s) {a:Addr} (h:s.heap.objs.size<=a):a ∉ X.fs:=fun hb=>by
 obtain ⟨_,o,ho,_⟩:=I.ok.funs.mem hb
 exact absurd (Nat.lt_of_lt_of_le (Heap.lt_size ho) (Nat.le_trans I.sz h)) (Nat.lt_irrefl _)
theorem Inv.cne (I:Inv X pins σ H s):∀ x c,X.env.cells.lookup x=some c->c ≠ X.env.locals:=fun x c e z=>by
 obtain ⟨v,o,ho,hd⟩:=I.cell x c e
 obtain ⟨m,⟨o',es,ep,ho',hd',_⟩,_⟩:=I.loc
 rw [z,ho'] at ho; cases ho; rw [hd'] at hd; cases hd
theorem Inv.funs (I:Inv X pins σ H s):s.heap.FunFrames X.base X.outer:=by
 have all:∀ (l:List Env),(∀ b ∈ frs l,b ∈ X.fs)->X.s₀.heap.FunFrames X.base l->s.heap.FunFrames X.base l:=by
  intro l
  induction l with
  | nil=>intro _ _; trivial
  | cons env r ih=>
   intro hs hl
   obtain ⟨hk,⟨L,o,hf,hn,ho,hd⟩,hr⟩:=hl
   have hL:L ∈ X.fs:=hs L (by unfold frs; rw [List.filterMap_cons,hf]; exact List.mem_cons_self)
   obtain ⟨sl,e⟩:=I.base.slot L o ho (I.ok.frf L hL) hL fun z=>I.ok.exfs L z hL
   exact ⟨hk,⟨L,_,hf,hn,e,hd⟩,ih (fun b hb=>hs b (by unfold frs; rw [List.filterMap_cons,hf]; exact List.mem_cons_of_mem _ hb)) hr⟩
 exact all X.outer (fun _ hb=>hb) I.ok.funs
theorem Inv.stack (I:Inv X pins σ H s):s.heap.FunFrames X.base X.stack:=by
 rcases I.ok.stk with e | ⟨e,hf⟩
 ·rw [e]; exact I.funs
 ·rw [e]
  obtain ⟨m,hn,_⟩:=I.loc
  refine .cons (by rw [I.ok.kind]; decide) hf hn ?_ I.funs
  exact Heap.get?_none_of_le (Nat.le_trans I.ok.bsz I.ok.above)
theorem Inv.stkSub (I:Inv X pins σ H s):∀ b ∈ frs X.stack,b ∈ X.env.locals :: X.fs:=fun b hb=>by
 rcases I.ok.stk with e | ⟨e,hf⟩
 ·rw [e] at hb; exact List.mem_cons_of_mem _ hb
 ·rw [e] at hb
  unfold frs at hb
  rw [List.filterMap_cons,hf] at hb
  exact hb
theorem Inv.stkFree (I:Inv X pins σ H s):∀ b ∈ frs X.stack,H b=none:=fun b hb=>by
 rcases List.mem_cons.mp (I.stkSub b hb) with e | hb
 ·rw [e]; exact I.free
 ·obtain ⟨_,o,ho,_⟩:=I.ok.funs.mem hb
  exact I.base.free b o ho (I.ok.frf b hb) fun z=>I.ok.exfs b z hb
theorem Inv.step {g':Array GenState} {t':Nat} {d':Drawn} {ch:List Addr} (I:Inv X pins σ H s)
  (hch:∀ b ∈ ch,(b ∈ X.ex\/X.s₀.heap.objs.size<=b)/\b ≠ X.env.locals/\(∀ x c,X.env.cells.lookup x=some c->c ≠ b)/\∀ p ∈ X.pn ++ pins,p.1 ≠ b)
  (keep:∀ b o,b ≠ X.env.locals->b ∉ X.fs->b ∉ ch->s.heap.get? b=some o->H b=none->h'.get? b=some o)
  (slot:∀ b o,b ≠ X.env.locals->b ∈ X.fs->b ∉ ch->s.heap.get? b=some o->H b=none->∃ sl,h'.get? b=some { o with slots:=sl }) (free:∀ b o,b ∉ ch->s.heap.get? b=some o->H b=none->H' b=none)
  (there:∀ b o,b ∉ ch->s.heap.get? b=some o->∃ o',h'.get? b=some o')
  (tups:∀ b xs,H b=some (.tup xs)->H' b=some (.tup xs)) (frzs:∀ b o u,H b=some (.frz o u)->H' b=some (.frz o u)) (tbls:∀ b ps,H b=some (.tbl ps)->∃ more,H' b=some (.tbl (ps ++ more)))
  (ns:∀ m,s.heap.Ns X.env.locals m->h'.Ns X.env.locals m) (hok:HOk X.prog X.w H' h') (hg:AllBare g') :
  Inv X pins σ H' { s with heap:=h',gens:=g',drawn:=d',toks:=t' }:=by
 have neL:∀ b o,X.s₀.heap.get? b=some o->b ≠ X.env.locals:=fun b o e=>Nat.ne_of_lt (Nat.lt_of_lt_of_le (Heap.lt_size e) I.ok.above)
 have neC:∀ b o,X.s₀.heap.get? b=some o->b ∉ X.ex->b ∉ ch:=fun b o e hx hb=>by
  rcases (hch b hb).1 with z | z
  ·exact hx z
  ·exact absurd (Nat.lt_of_lt_of_le (Heap.lt_size e) z) (Nat.lt_irrefl _)
 have cellK:∀ x c,X.env.cells.lookup x=some c->∀ v,s.heap.IsCell c v->h'.IsCell c v:=fun x c e v ⟨o,ho,hd⟩=>by
  have nch:c ∉ ch:=fun z=>(hch c z).2.2.1 x c e rfl
  by_cases hc:c ∈ X.fs
  ·obtain ⟨sl,q⟩:=slot c o (I.cne x c e) hc nch ho (I.freeC x c e)
   exact ⟨_,q,hd⟩
  ·exact ⟨o,keep c o (I.cne x c e) hc nch ho (I.freeC x c e),hd⟩
 refine ⟨I.ok,I.os,hg,⟨fun b o e n hb hx=>?_,fun b o e n hb hx=>?_,fun b o e n hx=>?_,fun b o e hx=>?_,fun b xs e=>tups b xs (I.base.tups b xs e),fun b o xs e=>frzs b o xs (I.base.frzs b o xs e),fun b ps e=>?_⟩,?_,fun x c e=>?_,?_,fun x c e=>?_,fun p hp=>?_,hok,I.len⟩
 ·exact keep b o (neL b o e) hb (neC b o e hx) (I.base.keep b o e n hb hx) (I.base.free b o e n hx)
 ·obtain ⟨sl,e1⟩:=I.base.slot b o e n hb hx
  obtain ⟨sl',e2⟩:=slot b _ (neL b o e) hb (neC b o e hx) e1 (I.base.free b o e n hx)
  exact ⟨sl',e2⟩
 ·obtain ⟨o',e1⟩:=I.base.there b o e hx
  exact free b o' (neC b o e hx) e1 (I.base.free b o e n hx)
 ·obtain ⟨o',e1⟩:=I.base.there b o e hx
  exact there b o' (neC b o e hx) e1
 ·obtain ⟨m1,e1⟩:=I.base.tbls b ps e
  obtain ⟨m2,e2⟩:=tbls b _ e1
  exact ⟨m1 ++ m2,by rw [e2,Array.append_assoc]⟩
 ·obtain ⟨m,hn,hl⟩:=I.loc
  refine ⟨m,ns m hn,fun i x v e1 e2 e3=>?_⟩
  obtain ⟨u,r,l⟩:=hl i x v e1 e2 e3
  refine ⟨u,r,?_⟩
  rcases l with l | ⟨k,c,e,z⟩
  ·exact .inl l
  ·exact .inr ⟨k,c,e,cellK x c e _ z⟩
 ·obtain ⟨v,z⟩:=I.cell x c e
  exact ⟨v,cellK x c e v z⟩
 ·obtain ⟨m,⟨o,_,_,ho,_⟩,_⟩:=I.loc
  exact free _ o (fun z=>(hch _ z).2.1 rfl) ho I.free
 ·obtain ⟨v,o,ho,hd⟩:=I.cell x c e
  exact free c o (fun z=>(hch c z).2.2.1 x c e rfl) ho (I.freeC x c e)
 ·obtain ⟨e,n,ne,nf,d⟩:=I.pin p hp
  have nch:p.1 ∉ ch:=fun z=>(hch p.1 z).2.2.2 p hp rfl
  exact ⟨keep p.1 p.2 ne nf nch e n,free p.1 p.2 nch e n,ne,nf,d⟩
theorem Inv.un {t':Nat} (I:Inv X pins σ H s) (u:Un X.fs [] H H' s.heap h') (hok:HOk X.prog X.w H' h'):Inv X pins σ H' { s with heap:=h',toks:=t' }:=by
 obtain ⟨m,⟨o,es,ep,ho,r⟩,_⟩:=id I.loc
 obtain ⟨sl,hL⟩:=u.any ho I.free (by simp)
 exact I.step (g':=s.gens) (d':=s.drawn) (ch:=[]) (fun _ z=>nomatch z) (fun b o _ hb _ e n=>u.keep b o e n hb (by simp)) (fun b o _ hb _ e n=>u.slot b o e n hb (by simp)) (fun b o _ e n=>u.free b o e n (by simp)) (fun b o _ e=>u.there b o e (by simp)) u.tups u.frzs u.tbls (fun m' hm=>by
  obtain ⟨o',es',ep',ho',r'⟩:=hm
  rw [ho] at ho'; cases ho'
  exact ⟨_,es',ep',hL,r'⟩) hok I.bare
theorem Inv.call {g':Array GenState} {t':Nat} {d':Drawn} {ch:List Addr} (I:Inv X pins σ H s) (u:Un (frs X.stack) ch H H' s.heap h') (hok:HOk X.prog X.w H' h') (hg:AllBare g')
  (hch:∀ b ∈ ch,(b ∈ X.ex\/X.s₀.heap.objs.size<=b)/\b ≠ X.env.locals/\(∀ x c,X.env.cells.lookup x=some c->c ≠ b)/\∀ p ∈ X.pn ++ pins,p.1 ≠ b) :
  Inv X pins σ H' { s with heap:=h',gens:=g',drawn:=d',toks:=t' }:=by
 obtain ⟨m,⟨o,es,ep,ho,r⟩,_⟩:=id I.loc
 obtain ⟨sl,hL⟩:=u.any ho I.free fun z=>(hch _ z).2.1 rfl
 exact I.step (ch:=ch) hch (fun b o hL hb hc e n=>u.keep b o e n (fun z=>(List.mem_cons.mp (I.stkSub b z)).elim hL hb) hc) (fun b o _ _ hc e n=>u.any e n hc) (fun b o hc e n=>u.free b o e n hc) (fun b o hc e=>u.there b o e hc) u.tups u.frzs u.tbls (fun m' hm=>by
  obtain ⟨o',es',ep',ho',r'⟩:=hm
  rw [ho] at ho'; cases ho'
  exact ⟨_,es',ep',hL,r'⟩) hok hg
theorem Inv.turned {t':Nat} {it:Addr} (I:Inv X pins σ H s) (k:∀ b o,b ≠ it->s.heap.get? b=some o->h'.get? b=some o) (hn:H it=none) (hL:it ≠ X.env.locals)
  (h1:it ∈ X.ex\/X.s₀.heap.objs.size<=it) (h2:∀ x c,X.env.cells.lookup x=some c->c ≠ it) (h3:∀ p ∈ X.pn ++ pins,p.1 ≠ it):Inv X pins σ H { s with heap:=h',toks:=t' }:=by
 have nit:∀ b u,H b=some u->b ≠ it:=fun b u e z=>by rw [z,hn] at e; cases e
 refine I.step (g':=s.gens) (d':=s.drawn) (ch:=[it]) (fun b hb=>?_) (fun b o _ _ hc e _=>k b o (fun z=>hc (by simp [z])) e) (fun b o _ _ hc e _=>⟨o.slots,k b o (fun z=>hc (by simp [z])) e⟩) (fun _ _ _ _ n=>n)
  (fun b o hc e=>⟨o,k b o (fun z=>hc (by simp [z])) e⟩) (fun _ _ e=>e) (fun _ _ _ e=>e) (fun b ps e=>⟨#[],by rw [e]; simp⟩) (fun m hm=>?_) (fun b u e=>?_) I.bare
 ·have e:b=it:=by simpa using hb
  subst e
  exact ⟨h1,hL,h2,h3⟩
 ·obtain ⟨o,es,ep,ho,r⟩:=hm
  exact ⟨o,es,ep,k _ o (Ne.symm hL) ho,r⟩
 ·refine (I.hok b u e).stay (fun c v hc q=>k c v ?_ q) (fun _ q=>q) fun _ _ q=>q
  rcases hc with z | z
  ·rw [z]; exact nit b u e
  ·exact nit c _ z
theorem Inv.tok (I:Inv X pins σ H s) (t:Nat):Inv X pins σ H { s with toks:=t }:=I.un (h':=s.heap) (t':=t) Un.refl I.hok
theorem Inv.kept {t':Nat} (I:Inv X pins σ H s) (k:∀ b u,s.heap.get? b=some u->h'.get? b=some u):Inv X pins σ H { s with heap:=h',toks:=t' }:=I.un (Un.kept k) (I.hok.kept k)
theorem Inv.laid {a:Addr} {o:HO} {t':Nat} (I:Inv X pins σ H s) (k:∀ b u,s.heap.get? b=some u->h'.get? b=some u) (hp:s.heap.objs.size<=a) (new:ObjOk X.prog X.w (upd H a o) h' a o) :
  Inv X pins σ (upd H a o) { s with heap:=h',toks:=t' }:=I.un (Un.laid k hp (I.hok.fresh hp)) (I.hok.laid k hp new)
theorem Inv.write {x e:Addr} {o:HO} {t':Nat} (I:Inv X pins σ H s) (mu:Mut (H x)) (he:e=x\/H e=some (.own x)) (k:∀ b u,b ≠ e->s.heap.get? b=some u->h'.get? b=some u) (heo:∃ u,h'.get? e=some u)
  (new:ObjOk X.prog X.w (upd H x o) h' x o):Inv X pins σ (upd H x o) { s with heap:=h',toks:=t' }:=I.un (Un.write mu he k heo) (I.hok.write mu he k heo new)
theorem Inv.pins_of {pins':List (Addr × Obj)} (I:Inv X pins σ H s) (h:∀ p ∈ pins',s.heap.get? p.1=some p.2/\H p.1=none/\p.1 ≠ X.env.locals/\p.1 ∉ X.fs/\∀ v,p.2.data ≠ .cell v):Inv X pins' σ H s:=
 ⟨I.ok,I.os,I.bare,I.base,I.loc,I.cell,I.free,I.freeC,fun p hp=>(List.mem_append.mp hp).elim (fun z=>I.pin p (List.mem_append_left _ z)) (h p),I.hok,I.len⟩
theorem nodup_ix {N:List Str} (hN:N.Nodup) {i j:Nat} {x:Str} (a:N[i]? = some x) (b:N[j]? = some x):i=j:=by
 obtain ⟨h1,e1⟩:=List.getElem?_eq_some_iff.mp a
 obtain ⟨h2,e2⟩:=List.getElem?_eq_some_iff.mp b
 exact (List.getElem_inj hN).mp (e1.trans e2.symm)
theorem store_ok2 {M:Model} {A:Around} {E:Value->Shared->Prop} {i:Nat} {x:Str} {v:V} {u:Value} {Q:Unit->Shared->Prop} (I:Inv X pins σ H s) (hN:X.N.Nodup) (hi:X.N[i]? = some x) (hx:Loc X.env.scope x) (r:RelV v u)
  (h:∀ s',Inv X pins (σ.set i (some v)) H s'->(∃ a,Heap.SameBut a s.heap s'.heap/\(a=X.env.locals\/X.env.cells.lookup x=some a))->Q () s') (hf:X.fn x=true\/X.env.scope.names.lookup x=some .local:=by first | exact .inl rfl | exact .inr rfl | assumption):wpAny M A (storeName X.env x u) Q E s:=by
 obtain ⟨m,hn,hl⟩:=id I.loc
 have hcls:(X.env.scope.kind == .class || (X.env.scope.kind == .module && X.env.locals != X.env.globals))=false:=by rw [I.ok.kind]; rfl
 have hiσ:i < σ.length:=by rw [I.len]; exact (List.getElem?_eq_some_iff.mp hi).1
 have cne:=I.cne
 have tracked:∀ {a:Addr} {h':Heap},(∃ o,s.heap.get? a=some o/\H a=none)->Heap.SameBut a s.heap h'->HOk X.prog X.w H h':=fun {a h'} ha hs b ob e=>by
  obtain ⟨_,_,hfree⟩:=ha
  refine (I.hok b ob e).stay (fun c w' hc q=>(hs.2 c ?_).trans q) (fun _ q=>q) fun _ _ q=>q
  rintro rfl
  rcases hc with rfl | hc
  ·rw [hfree] at e; cases e
  ·rw [hfree] at hc; cases hc
 rcases hx with hk | hk
 ·refine wpAny_storeName_local hk hn (fun h' hn' hs=>?_) hcls
  obtain ⟨oL,_,_,hoL,_⟩:=id hn
  refine h _ ⟨I.ok,I.os,I.bare,⟨fun b o e n hb hx=>?_,fun b o e n hb hx=>?_,I.base.free,fun b o e hx=>?_,I.base.tups,I.base.frzs,I.base.tbls⟩,⟨_,hn',fun j y v' e1 e2 e3=>?_⟩,fun y c e=>?_,I.free,I.freeC,fun p hp=>?_,tracked ⟨oL,hoL,I.free⟩ hs,by simpa using I.len⟩ ⟨_,hs,.inl rfl⟩
  ·exact (hs.2 b (Nat.ne_of_lt (Nat.lt_of_lt_of_le (Heap.lt_size e) I.ok.above))).trans (I.base.keep b o e n hb hx)
  ·obtain ⟨sl,e1⟩:=I.base.slot b o e n hb hx
   exact ⟨sl,(hs.2 b (Nat.ne_of_lt (Nat.lt_of_lt_of_le (Heap.lt_size e) I.ok.above))).trans e1⟩
  ·obtain ⟨o',e1⟩:=I.base.there b o e hx
   exact ⟨o',(hs.2 b (Nat.ne_of_lt (Nat.lt_of_lt_of_le (Heap.lt_size e) I.ok.above))).trans e1⟩
  ·by_cases hj:j=i
   ·subst hj
    rw [hi] at e1; cases e1
    rw [List.getElem?_set_self hiσ] at e2
    cases e2
    exact ⟨u,r,.inl ⟨hk,by simp⟩⟩
   ·rw [List.getElem?_set_ne (Ne.symm hj)] at e2
    obtain ⟨u',r',q⟩:=hl j y v' e1 e2 e3
    refine ⟨u',r',?_⟩
    rcases q with ⟨k,e⟩ | ⟨k,c,e,z⟩
    ·refine .inl ⟨k,?_⟩
     have:y ≠ x:=fun e=>hj (nodup_ix hN e1 (e ▸ hi))
     simp [this,e]
    ·exact .inr ⟨k,c,e,z.sameBut hs (cne y c e)⟩
  ·obtain ⟨w',z⟩:=I.cell y c e
   exact ⟨w',z.sameBut hs (cne y c e)⟩
  ·obtain ⟨e,n,ne,nf,d⟩:=I.pin p hp
   exact ⟨(hs.2 p.1 ne).trans e,n,ne,nf,d⟩
 ·have hfn:X.fn x=true:=by
   rcases hf with z | z
   ·exact z
   ·rw [z] at hk; cases hk
  obtain ⟨c,hc⟩:=I.ok.has x (.inl hk)
  obtain ⟨w',z⟩:=I.cell x c hc
  refine wpAny_storeName_cell I.ok.kind hk hc z (fun h' hc' hs=>?_)
  obtain ⟨oc,hoc,hocd⟩:=id z
  refine h { s with heap:=h' } ⟨I.ok,I.os,I.bare,⟨fun b o e n hb hx=>?_,fun b o e n hb hx=>?_,I.base.free,fun b o e hx=>?_,I.base.tups,I.base.frzs,I.base.tbls⟩,⟨m,hn.sameBut hs (Ne.symm (cne x c hc)),fun j y v' e1 e2 e3=>?_⟩,fun y c' e=>?_,I.free,I.freeC,fun p hp=>?_,tracked ⟨oc,hoc,I.freeC x c hc⟩ hs,by simpa using I.len⟩ ⟨c,hs,.inr hc⟩
  ·exact (hs.2 b (Nat.ne_of_lt (Nat.lt_of_lt_of_le (Heap.lt_size e) (I.ok.cab x c hfn hc)))).trans (I.base.keep b o e n hb hx)
  ·obtain ⟨sl,e1⟩:=I.base.slot b o e n hb hx
   exact ⟨sl,(hs.2 b (Nat.ne_of_lt (Nat.lt_of_lt_of_le (Heap.lt_size e) (I.ok.cab x c hfn hc)))).trans e1⟩
  ·obtain ⟨o',e1⟩:=I.base.there b o e hx
   exact ⟨o',(hs.2 b (Nat.ne_of_lt (Nat.lt_of_lt_of_le (Heap.lt_size e) (I.ok.cab x c hfn hc)))).trans e1⟩
  ·by_cases hj:j=i
   ·subst hj
    rw [hi] at e1; cases e1
    rw [List.getElem?_set_self hiσ] at e2
    cases e2
    exact ⟨u,r,.inr ⟨.inl hk,c,hc,hc'⟩⟩
   ·rw [List.getElem?_set_ne (Ne.symm hj)] at e2
    obtain ⟨u',r',q⟩:=hl j y v' e1 e2 e3
    refine ⟨u',r',?_⟩
    rcases q with q | ⟨k,c',e,z'⟩
    ·exact .inl q
    ·refine .inr ⟨k,c',e,z'.sameBut hs ?_⟩
     rintro rfl
     exact hj (nodup_ix hN e1 (I.ok.inj _ _ _ e hc ▸ hi))
  ·by_cases hcc:c' = c
   ·subst hcc; exact ⟨_,hc'⟩
   ·obtain ⟨w2,z2⟩:=I.cell y c' e
    exact ⟨w2,z2.sameBut hs hcc⟩
  ·obtain ⟨e,n,ne,nf,d⟩:=I.pin p hp
   refine ⟨(hs.2 p.1 ?_).trans e,n,ne,nf,d⟩
   intro q
   rw [q,hoc] at e
   have q':oc=p.2:=Option.some.inj e
   exact d w' (by rw [<-q']; exact hocd)
theorem store_ok {M:Model} {A:Around} {E:Value->Shared->Prop} {i:Nat} {x:Str} {v:V} {u:Value} {Q:Unit->Shared->Prop} (I:Inv X pins σ H s) (hN:X.N.Nodup) (hi:X.N[i]? = some x) (hx:Loc X.env.scope x) (r:RelV v u)
  (h:∀ s',Inv X pins (σ.set i (some v)) H s'->Q () s') (hf:X.fn x=true\/X.env.scope.names.lookup x=some .local:=by first | exact .inl rfl | exact .inr rfl | assumption):wpAny M A (storeName X.env x u) Q E s:=
 store_ok2 I hN hi hx r (fun s' I' _=>h s' I') hf
theorem Inv.call' {s':Shared} {ch:List Addr} (I:Inv X pins σ H s) (ho:s'.os=s.os) (u:Un (frs X.stack) ch H H' s.heap s'.heap) (hok:HOk X.prog X.w H' s'.heap) (hg:AllBare s'.gens)
  (hch:∀ b ∈ ch,(b ∈ X.ex\/X.s₀.heap.objs.size<=b)/\b ≠ X.env.locals/\(∀ x c,X.env.cells.lookup x=some c->c ≠ b)/\∀ p ∈ X.pn ++ pins,p.1 ≠ b):Inv X pins σ H' s':=by
 obtain ⟨h',g',d',t',o'⟩:=s'
 have e:o' = s.os:=ho
 subst e
 exact I.call (g':=g') (t':=t') (d':=d') u hok hg hch
end
noncomputable abbrev XK:=Value->Option Addr->Hp->Prop
noncomputable abbrev St:=List (Option V)
noncomputable abbrev VK:=V->Hp->Prop
noncomputable abbrev TE:=St->Hp->VK->Prop
noncomputable abbrev TT:=St->Hp->(Bool->Hp->Prop)->Prop
noncomputable abbrev TA:=St->Hp->(List V->Hp->Prop)->Prop
structure Ends where
 nx:St->Hp->Prop
 rt:VK
 bk:St->Hp->Prop:=fun _ _=>False
 ct:St->Hp->Prop:=fun _ _=>False
noncomputable abbrev TS:=Ends->St->Hp->Prop
noncomputable def EP (X:Cx) (pins:List (Addr × Obj)) (σ:St) (Q:VK) (u:Value) (s':Shared):Prop:=∃ v H',Inv X pins σ H' s'/\RelV v u/\Q v H'
noncomputable def TP (X:Cx) (pins:List (Addr × Obj)) (σ:St) (Q:Bool->Hp->Prop) (b:Bool) (s':Shared):Prop:=∃ H',Inv X pins σ H' s'/\Q b H'
noncomputable def AP (X:Cx) (pins:List (Addr × Obj)) (σ:St) (Q:List V->Hp->Prop) (us:List Value) (s':Shared):Prop:=∃ vs H',Inv X pins σ H' s'/\Vals vs us/\Q vs H'
noncomputable def SP (X:Cx) (pins:List (Addr × Obj)) (D:Ends) (f:Flow) (s':Shared):Prop:=
 match f with
 | .next=>∃ σ' H',Inv X pins σ' H' s'/\D.nx σ' H'
 | .brk=>∃ σ' H',Inv X pins σ' H' s'/\D.bk σ' H'
 | .cont=>∃ σ' H',Inv X pins σ' H' s'/\D.ct σ' H'
 | .ret u=>∃ v σ' H',Inv X pins σ' H' s'/\RelV v u/\D.rt v H'
noncomputable def PE (X:Cx) (e:Expr) (t:TE):Prop:=
 ∀ (pins:List (Addr × Obj)) (s:Shared) (σ:St) (H:Hp) (Q:VK),Inv X pins σ H s->t σ H Q->wpAny (model X.prog X.w) X.A (eval e X.env) (EP X pins σ Q) X.xe s
noncomputable def PT (X:Cx) (e:Expr) (t:TT):Prop:=
 ∀ (pins:List (Addr × Obj)) (s:Shared) (σ:St) (H:Hp) (Q:Bool->Hp->Prop),Inv X pins σ H s->t σ H Q->wpAny (model X.prog X.w) X.A (isTrue e X.env (eval e X.env)) (TP X pins σ Q) X.xe s
noncomputable def PW (X:Cx) (e:Expr) (t:TT):Prop:=
 ∀ (whole:Sem Value) (pins:List (Addr × Obj)) (s:Shared) (σ:St) (H:Hp) (Q:Bool->Hp->Prop),Inv X pins σ H s->t σ H Q->wpAny (model X.prog X.w) X.A (isTrue e X.env whole) (TP X pins σ Q) X.xe s
theorem PW.pt {X:Cx} {e:Expr} {t:TT} (h:PW X e t):PT X e t:=h _
noncomputable def PA (X:Cx) (es:List Expr) (t:TA):Prop:=
 ∀ (pos:Pos) (pins:List (Addr × Obj)) (s:Shared) (σ:St) (H:Hp) (Q:List V->Hp->Prop),Inv X pins σ H s->t σ H Q->wpAny (model X.prog X.w) X.A (spliced (backTo pos (starEach es X.env))) (AP X pins σ Q) X.xe s
noncomputable def PS (X:Cx) (st:Stmt) (t:TS):Prop:=
 ∀ (pins:List (Addr × Obj)) (s:Shared) (σ:St) (H:Hp) (D:Ends),Inv X pins σ H s->t D σ H->wpAny (model X.prog X.w) X.A (exec st X.env) (SP X pins D) X.xe s
noncomputable def PSs (X:Cx) (st:List Stmt) (t:TS):Prop:=
 ∀ (pins:List (Addr × Obj)) (s:Shared) (σ:St) (H:Hp) (D:Ends),Inv X pins σ H s->t D σ H->wpAny (model X.prog X.w) X.A (execs st X.env) (SP X pins D) X.xe s
theorem thn {α:Type} {t:Sem α} {Q Q':α->Shared->Prop} {M:Model} {A:Around} {E:Value->Shared->Prop} {s:Shared} (h:wpAny M A t Q E s) (hQ:∀ a s,Q a s->Q' a s):wpAny M A t Q' E s:=wpAny_mono h hQ fun _ _ x=>x
end L2
namespace L2
open PySem PySem.Spec PyProof.Rows
section
variable {X:Cx}
noncomputable def tVar (i:Nat):TE:=fun σ H Q=>∃ v,σ[i]? = some (some v)/\Q v H
noncomputable def tC (v:V):TE:=fun _ H Q=>Q v H
theorem pe_var {i:Nat} {x:Str} {pos:Pos} (hN:X.N[i]? = some x) (hv:Vis X.env.scope x) (hd:(x == ("__debug__":Str))=false:=by decide) (hcd:(x == ("__classdict__":Str))=false:=by decide):PE X (.Name x pos) (tVar i):=by
 intro pins s σ H Q I h
 obtain ⟨v,e,h⟩:=h
 obtain ⟨m,hn,hl⟩:=I.loc
 obtain ⟨u,r,l⟩:=hl i x v hN e hv
 have fin:EP X pins σ Q u s:=⟨v,H,I,r,h⟩
 rcases l with ⟨hk,hm⟩ | ⟨hk,c,hc,hcell⟩
 ·exact wpAny_Name (wpAny_loadName_local I.ok.kind hk hn hm fin) hd
 ·rcases hk with hk | hk
  ·exact wpAny_Name (wpAny_loadName_cell I.ok.kind hk hc hcell fin) hd
  ·exact wpAny_Name (wpAny_loadName_free I.ok.kind hk hc hcell fin hcd) hd
theorem pe_int {i j pos}:PE X (.Constant (.int i) j pos) (tC (.int i)):=fun _ _ _ H _ I h=>wpAny_Constant_int ⟨.int i,H,I.tok _,⟨_,rfl⟩,h⟩
theorem pe_bl {b j pos}:PE X (.Constant (.bool b) j pos) (tC (.bl b)):=fun _ _ _ H _ I h=>Constant_bool ⟨.bl b,H,I,rfl,h⟩
theorem pe_str {x j pos}:PE X (.Constant (.str x) j pos) (tC (.str x)):=fun _ _ _ H _ I h=>Calls.Constant_str ⟨.str x,H,I.tok _,⟨_,rfl⟩,h⟩
noncomputable def Gl (X:Cx) (x:Str):Prop:=X.env.kindOf x=some .globalImplicit
theorem ld_glob {E:Value->Shared->Prop} {pins:List (Addr × Obj)} {s:Shared} {σ:St} {H:Hp} {x:Str} {u:Value} {pos:Pos} {Q:Value->Shared->Prop} (I:Inv X pins σ H s) (hg:Gl X x) (hm:X.mg x=some u) (h:Q u s)
  (hd:(x == ("__debug__":Str))=false:=by decide):wpAny (model X.prog X.w) X.A (eval (.Name x pos) X.env) Q E s:=
 Calls.Name_function_global I.ok.kind hg (Calls.loadGlobal_global (by rw [I.ok.glob]; exact I.mod.glob.keeps I.bk) hm h) hd
theorem ld_blt {E:Value->Shared->Prop} {pins:List (Addr × Obj)} {s:Shared} {σ:St} {H:Hp} {x:Str} {u:Value} {pos:Pos} {Q:Value->Shared->Prop} (I:Inv X pins σ H s) (hg:Gl X x) (hm:X.mg x=none) (hv:bootBuiltins x=some u) (h:Q u s)
  (hn:x ≠ "__name__":=by decide) (hd:(x == ("__debug__":Str))=false:=by decide):wpAny (model X.prog X.w) X.A (eval (.Name x pos) X.env) Q E s:=by
 obtain ⟨mb,h1,h2⟩:=I.mod.blt
 exact Calls.Name_function_global I.ok.kind hg (Calls.loadGlobal_builtin (by rw [I.ok.glob]; exact I.mod.glob.keeps I.bk) hm (by rw [I.ok.blt]; exact h1.keeps I.bk) ((h2 x hn).trans hv) h) hd
theorem pe_glob {x:Str} {v:V} {u:Value} {pos:Pos} (hg:Gl X x) (hm:X.mg x=some u) (r:RelV v u) (hd:(x == ("__debug__":Str))=false:=by decide):PE X (.Name x pos) (tC v):=
 fun _ _ _ H _ I h=>ld_glob I hg hm ⟨v,H,I,r,h⟩ hd
theorem pe_bltn {x:Str} {v:V} {u:Value} {pos:Pos} (hg:Gl X x) (hm:X.mg x=none) (hv:bootBuiltins x=some u) (r:RelV v u) (hn:x ≠ "__name__":=by decide) (hd:(x == ("__debug__":Str))=false:=by decide):PE X (.Name x pos) (tC v):=
 fun _ _ _ H _ I h=>ld_blt I hg hm hv ⟨v,H,I,r,h⟩ hn hd
variable {a b:Expr} {ta tb:TE} {pos:Pos}
noncomputable def PC (X:Cx) (op:CmpOp) (a b:Expr) (t:TE):Prop:=
 ∀ (pins:List (Addr × Obj)) (s:Shared) (σ:St) (H:Hp) (Q:VK),Inv X pins σ H s->t σ H Q->
  wpAny (model X.prog X.w) X.A (eval a X.env) (fun v s₁=>wpAny (model X.prog X.w) X.A (eval b X.env) (fun u s₂=>wpAny (model X.prog X.w) X.A (compareOp op v u) (EP X pins σ Q) X.xe s₂) X.xe s₁) X.xe s
noncomputable def tB (t:TE):TT:=fun σ H Q=>t σ H fun x H1=>∃ c,x=.bl c/\Q c H1
theorem pt_cmp {op:CmpOp} {t:TE} (h:PC X op a b t) (h1:behindInMarks op b=false:=by first | exact nobehind _ (by decide) (by decide) | rfl):PT X (.Compare a [op] [b] pos) (tB t):=by
 intro pins s σ H Q I hw
 refine wpAny_isTrue_Compare1 (thn (h pins s σ H _ I hw) fun v s1 h1=>thn h1 fun u s2 h2=>thn h2 fun c s3 ⟨x,H1,I1,r1,q1⟩=>?_) h1
 obtain ⟨d,rfl,q⟩:=q1
 cases r1
 exact wpAny_truthy_bool ⟨H1,I1,q⟩
theorem pt_val {e:Expr} {t:TE} (h:PE X e t) (he:∀ whole,isTrue e X.env whole=(do let v <-whole; standAt e.pos; holding [v] (truthy v)):=by intro _; rfl):PT X e (tB t):=by
 intro pins s σ H Q I hw
 refine isTrue_plain (thn (h pins s σ H _ I hw) fun v s1 ⟨x,H1,I1,r1,q1⟩=>?_) (he _)
 obtain ⟨d,rfl,q⟩:=q1
 cases r1
 exact wpAny_truthy_bool ⟨H1,I1,q⟩
variable {tA tB':TT} {rest:List Expr}
noncomputable def tOr (t u:TT):TT:=fun σ H Q=>t σ H fun c H1=>if c=true then Q true H1 else u σ H1 Q
noncomputable def tNot (t:TT):TT:=fun σ H Q=>t σ H fun c H1=>Q (!c) H1
theorem pw_or1 (ha:PT X a tA):PW X (.BoolOp .Or [a] pos) tA:=by
 intro wh pins s σ H Q I h
 refine isTrue_or (thn (ha pins s σ H Q I h) fun c s1 e=>?_)
 cases c with
 | false=>exact isTrue_or_nil e
 | true=>exact e
theorem pw_or (ha:PT X a tA) (hb:PW X (.BoolOp .Or (b :: rest) pos) tB'):PW X (.BoolOp .Or (a :: b :: rest) pos) (tOr tA tB'):=by
 intro wh pins s σ H Q I h
 refine isTrue_or (thn (ha pins s σ H _ I h) fun c s1 ⟨H1,I1,q1⟩=>?_)
 cases c with
 | true=>exact ⟨H1,I1,q1⟩
 | false=>exact hb wh pins s1 σ H1 Q I1 q1
theorem pt_not (ha:PT X a tA):PT X (.UnaryOp .Not a pos) (tNot tA):=by
 intro pins s σ H Q I h
 exact isTrue_not (ha pins s σ H (fun c H1=>Q (!c) H1) I h)
noncomputable def tAndV (ta tb:TE):TE:=fun σ H Q=>ta σ H fun x H1=>∃ c,x=.bl c/\if c=true then tb σ H1 Q else Q (.bl false) H1
noncomputable def tNotV (ta:TE):TE:=fun σ H Q=>ta σ H fun x H1=>∃ c,x=.bl c/\Q (.bl (!c)) H1
theorem pe_one {op} {t:TE} (h:PE X a t):PE X (.BoolOp op [a] pos) t:=fun pins s σ H Q I hw=>BoolOp_one (h pins s σ H Q I hw)
theorem pe_and (ha:PE X a ta) (hb:PE X (.BoolOp .And (b :: rest) pos) tb):PE X (.BoolOp .And (a :: b :: rest) pos) (tAndV ta tb):=by
 intro pins s σ H Q I h
 refine BoolOp_and (thn (ha pins s σ H _ I h) fun v s1 ⟨x,H1,I1,r1,q1⟩=>?_)
 obtain ⟨c,rfl,q1⟩:=q1
 cases r1
 refine wpAny_truthy_bool ?_
 cases c with
 | true=>exact hb pins s1 σ H1 Q I1 q1
 | false=>exact ⟨.bl false,H1,I1,rfl,q1⟩
theorem pe_not (ha:PE X a ta):PE X (.UnaryOp .Not a pos) (tNotV ta):=by
 intro pins s σ H Q I h
 refine UnaryOp_ (thn (ha pins s σ H _ I h) fun v s1 ⟨x,H1,I1,r1,q1⟩=>?_)
 obtain ⟨c,rfl,q1⟩:=q1
 cases r1
 exact not_of (wpAny_truthy_bool ⟨.bl (!c),H1,I1,rfl,q1⟩)
noncomputable def tIf (t:TT) (ta tb:TE):TE:=fun σ H Q=>t σ H fun c H1=>if c=true then ta σ H1 Q else tb σ H1 Q
theorem pe_ifExp {c:Expr} (hc:PT X c tA) (ha:PE X a ta) (hb:PE X b tb):PE X (.IfExp c a b pos) (tIf tA ta tb):=by
 intro pins s σ H Q I h
 refine wpAny_IfExp (thn (hc pins s σ H _ I h) fun d s1 ⟨H1,I1,q1⟩=>?_)
 cases d with
 | true=>exact ha pins s1 σ H1 Q I1 q1
 | false=>exact hb pins s1 σ H1 Q I1 q1
end
end L2
namespace L2
open PySem PySem.Spec PyProof.Rows
noncomputable def SqL (K:PySem.W.Frag) (H:Hp) (a:Addr) (xs:List V):Prop:=
 Rd H a (.lst xs)\/
  ∃ (o:Obj) (its:Array Value) (n:Nat),K.lookup a=some o/\o.cls=.type "list"/\o.dict=none/\o.data=.seq its n/\its.size<=sizeLine/\Vals xs its.toList
noncomputable def SqT (K:PySem.W.Frag) (H:Hp) (a:Addr) (xs:List V):Prop:=
 Rd H a (.tup xs)\/
  ∃ (o:Obj) (its:Array Value) (n:Nat),K.lookup a=some o/\o.cls=.type "tuple"/\o.data=.seq its n/\its.size<=sizeLine/\Vals xs its.toList
noncomputable def absV:Value->Option V
 | .none=>some .non
 | .bool b=>some (.bl b)
 | .int i _=>some (.int i)
 | .str x _=>some (.str x)
 | .bytes b _=>some (.byt b)
 | .float b _=>some (.flt b)
 | .ref a=>some (.ref a)
 | .type n=>some (.ty n)
 | _=>none
theorem RelV.abs {x:V} {u:Value} (r:RelV x u):absV u=some x:=by
 cases x with
 | non=>cases r; rfl
 | bl _=>cases r; rfl
 | int _=>obtain ⟨t,rfl⟩:=r; rfl
 | str _=>obtain ⟨t,rfl⟩:=r; rfl
 | byt _=>obtain ⟨t,rfl⟩:=r; rfl
 | flt _=>obtain ⟨t,rfl⟩:=r; rfl
 | ref _=>cases r; rfl
 | ty _=>cases r; rfl
theorem RelV.inj {x y:V} {u:Value} (r:RelV x u) (q:RelV y u):x=y:=Option.some.inj (r.abs.symm.trans q.abs)
theorem Vals.inj:∀ {xs ys:List V} {us:List Value},Vals xs us->Vals ys us->xs=ys
 | _,_,_,.nil,.nil=>rfl
 | _,_,_,.cons r t,.cons r' t'=>by rw [r.inj r',Vals.inj t t']
section
variable {X:Cx} {pins:List (Addr × Obj)} {σ:St} {H:Hp} {s:Shared} {a:Addr} {xs ys:List V}
theorem SqL.of {K:PySem.W.Frag} (h:H a=some (.lst xs)):SqL K H a xs:=.inl (.inl h)
theorem Inv.list (I:Inv X pins σ H s) (h:SqL X.K H a xs):∃ its:List Value,Vals xs its/\PlainL s.heap a its.toArray/\xs.length<=sizeLine:=by
 rcases h with h | ⟨o,its,n,hk,hc,hd,hs,hz,r⟩
 ·obtain ⟨z,its,n,r,e⟩:=h.ok I.hok
  exact ⟨its,r,⟨_,n,e,rfl,rfl,rfl⟩,z⟩
 ·refine ⟨its.toList,r,⟨o,n,I.kIn a o hk,hc,hd,by simpa using hs⟩,?_⟩
  have e:=r.length
  simp only [Array.length_toList] at e
  omega
theorem Inv.tuple (I:Inv X pins σ H s) (h:SqT X.K H a xs):∃ its:List Value,Vals xs its/\IsTup s.heap a its.toArray/\xs.length<=sizeLine:=by
 rcases h with h | ⟨o,its,n,hk,hc,hs,hz,r⟩
 ·obtain ⟨z,its,r,p⟩:=h.ok I.hok
  exact ⟨its,r,p,z⟩
 ·refine ⟨its.toList,r,⟨o,I.kIn a o hk,hc,n,by simpa using hs⟩,?_⟩
  have e:=r.length
  simp only [Array.length_toList] at e
  omega
theorem Inv.list_inj (I:Inv X pins σ H s) (h:SqL X.K H a xs) (h':SqL X.K H a ys):xs=ys:=by
 obtain ⟨its,r,⟨o,n,e,_,_,d⟩,_⟩:=I.list h
 obtain ⟨its',r',⟨o',n',e',_,_,d'⟩,_⟩:=I.list h'
 rw [e] at e'; cases e'
 rw [d] at d'
 injection d' with d1 _
 have:its=its':=by simpa using congrArg Array.toList d1
 subst this
 exact r.inj r'
theorem Inv.tuple_inj (I:Inv X pins σ H s) (h:SqT X.K H a xs) (h':SqT X.K H a ys):xs=ys:=by
 obtain ⟨its,r,⟨o,e,_,n,d⟩,_⟩:=I.tuple h
 obtain ⟨its',r',⟨o',e',_,n',d'⟩,_⟩:=I.tuple h'
 rw [e] at e'; cases e'
 rw [d] at d'
 injection d' with d1 _
 have:its=its':=by simpa using congrArg Array.toList d1
 subst this
 exact r.inj r'
end
section
variable {X:Cx} {st:Stmt} {rest:List Stmt} {t u:TS} {e:Expr} {te:TE} {pos:Pos}
noncomputable def tNext:TS:=fun D σ H=>D.nx σ H
noncomputable def tSeq (t u:TS):TS:=fun D σ H=>t { D with nx:=u D } σ H
theorem pss_nil:PSs X [] tNext:=fun _ _ σ H _ I h=>wpAny_execs_nil ⟨σ,H,I,h⟩
theorem pss_cons (h1:PS X st t) (h2:PSs X rest u):PSs X (st :: rest) (tSeq t u):=by
 intro pins s σ H D I h
 refine wpAny_execs_cons (thn (h1 pins s σ H { D with nx:=u D } I h) fun f s1 q=>?_)
 cases f with
 | next=>
  obtain ⟨σ',H',I',q⟩:=q
  exact h2 pins s1 σ' H' D I' q
 | ret v=>exact q
 | brk=>exact q
 | cont=>exact q
theorem pss_one (h1:PS X st t):PSs X [st] t:=by
 intro pins s σ H D I h
 refine wpAny_execs_cons (thn (h1 pins s σ H D I h) fun f s1 q=>?_)
 cases f with
 | next=>exact wpAny_execs_nil q
 | ret v=>exact q
 | brk=>exact q
 | cont=>exact q
theorem Inv.quiet {pins:List (Addr × Obj)} {σ:St} {H:Hp} {s:Shared} (I:Inv X pins σ H s):interactive X.env=false:=by simp [interactive,I.ok.kind]
noncomputable def tDrop (te:TE):TS:=fun D σ H=>te σ H fun _ H1=>D.nx σ H1
theorem ps_expr (he:PE X e te) (hs:swapsWith e none pos.line X.env=pure false:=by rfl):PS X (.Expr e pos) (tDrop te):=by
 intro pins s σ H D I h
 exact wpAny_Expr_any (thn (he pins s σ H _ I h) fun v s1 ⟨x,H1,I1,r1,q1⟩=>⟨σ,H1,I1,q1⟩) I.quiet hs
noncomputable def tRet (te:TE):TS:=fun D σ H=>te σ H D.rt
theorem ps_ret (he:PE X e te):PS X (.Return (some e) pos) (tRet te):=by
 intro pins s σ H D I h
 exact wpAny_Return_some (thn (he pins s σ H _ I h) fun v s1 ⟨x,H1,I1,r1,q1⟩=>⟨x,σ,H1,I1,r1,q1⟩)
noncomputable def tIfS (c:TT) (t u:TS):TS:=fun D σ H=>c σ H fun b H1=>if b=true then t D σ H1 else u D σ H1
theorem ps_if {c:Expr} {a b:List Stmt} {tc:TT} (hc:PT X c tc) (ha:PSs X a t) (hb:PSs X b u):PS X (.If c a b pos) (tIfS tc t u):=by
 intro pins s σ H D I h
 refine wpAny_If (thn (hc pins s σ H _ I h) fun d s1 ⟨H1,I1,q1⟩=>?_)
 cases d with
 | true=>exact ha pins s1 σ H1 D I1 q1
 | false=>exact hb pins s1 σ H1 D I1 q1
end
noncomputable abbrev TG:=V->St->Hp->(St->Hp->Prop)->Prop
noncomputable abbrev TGs:=List V->St->Hp->(St->Hp->Prop)->Prop
noncomputable def PG (X:Cx) (target:Expr) (t:TG):Prop:=
 ∀ (pins:List (Addr × Obj)) (s:Shared) (σ:St) (H:Hp) (v:V) (u:Value) (Q:St->Hp->Prop),Inv X pins σ H s->RelV v u->t v σ H Q->
  wpAny (model X.prog X.w) X.A (assign target X.env u) (fun _ s'=>∃ σ' H',Inv X pins σ' H' s'/\Q σ' H') X.xe s
noncomputable def PGs (X:Cx) (ts:List Expr) (t:TGs):Prop:=
 ∀ (pins:List (Addr × Obj)) (s:Shared) (σ:St) (H:Hp) (vs:List V) (us:List Value) (Q:St->Hp->Prop),Inv X pins σ H s->Vals vs us->t vs σ H Q->
  wpAny (model X.prog X.w) X.A (assignInOrder ((assignEach ts X.env).map (·.2)) us) (fun _ s'=>∃ σ' H',Inv X pins σ' H' s'/\Q σ' H') X.xe s
section
variable {X:Cx} {pos:Pos}
noncomputable def gName (i:Nat):TG:=fun v σ H Q=>Q (σ.set i (some v)) H
theorem pg_name {i:Nat} {x:Str} (hN:X.N.Nodup) (hi:X.N[i]? = some x) (hx:Loc X.env.scope x) (hf:X.fn x=true\/X.env.scope.names.lookup x=some .local:=by first | exact .inl rfl | exact .inr rfl | assumption):PG X (.Name x pos) (gName i):=by
 intro pins s σ H v u Q I r h
 exact wpAny_assign_Name (store_ok I hN hi hx r (fun s' I'=>⟨_,H,I',h⟩) hf)
noncomputable def gNil:TGs:=fun vs σ H Q=>vs=[]/\Q σ H
noncomputable def gCons (t:TG) (u:TGs):TGs:=fun vs σ H Q=>∃ v r,vs=v :: r/\t v σ H fun σ' H'=>u r σ' H' Q
theorem pgs_nil:PGs X [] gNil:=by
 intro pins s σ H vs us Q I r h
 obtain ⟨e,h⟩:=h
 subst e
 cases r
 exact assignInOrder_nil ⟨σ,H,I,h⟩
theorem pgs_cons {e:Expr} {es:List Expr} {t:TG} {u:TGs} (h1:PG X e t) (h2:PGs X es u)
  (hs:(assignEach (e :: es) X.env).map (·.2)=assign e X.env :: (assignEach es X.env).map (·.2):=by rfl):PGs X (e :: es) (gCons t u):=by
 intro pins s σ H vs us Q I r h
 obtain ⟨v,vr,e1,h⟩:=h
 subst e1
 cases r with
 | cons r rr=>
  rw [hs]
  refine assignInOrder_cons (thn (h1 pins s σ H _ _ _ I r h) fun _ s1 ⟨σ1,H1,I1,q1⟩=>?_)
  exact h2 pins s1 σ1 H1 _ _ Q I1 rr q1
noncomputable def gTup (K:PySem.W.Frag) (n:Nat) (t:TGs):TG:=fun v σ H Q=>∃ a xs,v=.ref a/\SqT K H a xs/\xs.length=n/\t xs σ H Q
theorem pg_tup {es:List Expr} {k:Nat} {t:TGs} {n:Nat} (hc:X.calm=true) (h:PGs X es t)
  (hn:(assignEach es X.env).length=n:=by rfl) (hst:(assignEach es X.env).findIdx? (·.1)=none:=by rfl):PG X (.Tuple es k pos) (gTup X.K n t):=by
 intro pins s σ H v u Q I r hw
 obtain ⟨a,xs,e1,hq,hl,hw⟩:=hw
 subst e1
 cases r
 obtain ⟨its,rv,ht,hz⟩:=I.tuple hq
 refine assign_Tuple_tuple (I.ok.hd hc) ht (by simp [hn,<-hl,rv.length]) hst fun h' hx=>?_
 have I1:Inv X pins σ H { s with heap:=h' }:=I.kept (t':=s.toks) fun b o e=>hx b o (Nat.ne_of_lt (Heap.lt_size e)) e
 exact h pins _ σ H xs _ Q I1 (by simpa using rv) hw
noncomputable def tAsg (te:TE) (g:TG):TS:=fun D σ H=>te σ H fun x H1=>g x σ H1 D.nx
theorem ps_asg {tg e:Expr} {te:TE} {g:TG} (he:PE X e te) (hg:PG X tg g) (hs:swapsWithSole [tg] e pos.line X.env=pure false:=by rfl) (hw:swappedStores [tg] e X.env=pure none:=by rfl)
  (h1:(assignEach [tg] X.env).map (·.2)=[assign tg X.env]:=by rfl):PS X (.Assign [tg] e pos) (tAsg te g):=by
 intro pins s σ H D I h
 refine wpAny_Assign_stores (thn (he pins s σ H _ I h) fun v s1 ⟨x,H1,I1,r1,q1⟩=>?_) hs hw
 rw [h1]
 exact thn (hg pins s1 σ H1 x v _ I1 r1 q1) fun _ s2 q=>q
theorem ps_set {i:Nat} {x:Str} {e:Expr} {te:TE} {pos':Pos} (hN:X.N.Nodup) (hi:X.N[i]? = some x) (hx:Loc X.env.scope x) (he:PE X e te) (hs:swapsWith e (some (.Name x pos')) pos.line X.env=pure false:=by rfl) (hf:X.fn x=true\/X.env.scope.names.lookup x=some .local:=by first | exact .inl rfl | exact .inr rfl | assumption) :
  PS X (.Assign [.Name x pos'] e pos) (tAsg te (gName i)):=by
 intro pins s σ H D I h
 refine wpAny_Assign_Name (thn (he pins s σ H _ I h) fun v s1 ⟨y,H1,I1,r1,q1⟩=>?_) hs
 exact store_ok I1 hN hi hx r1 (fun s2 I2=>⟨_,H1,I2,q1⟩) hf
end
structure It where
 go:Nat->Hp->Prop
 yld:Nat->Hp->V->Hp->Prop
 stop:Nat->Hp->Prop
noncomputable def FpOk (X:Cx) (pins:List (Addr × Obj)) (H:Hp) (b:Addr):Prop:=
 H b=none/\b ≠ X.env.locals/\b ∉ X.fs/\(b ∈ X.ex\/X.s₀.heap.objs.size<=b)/\(∀ x c,X.env.cells.lookup x=some c->c ≠ b)/\∀ p ∈ X.pn ++ pins,p.1 ≠ b
theorem Inv.fpOk {X:Cx} {pins:List (Addr × Obj)} {σ:St} {H H':Hp} {s:Shared} {b:Addr} (I:Inv X pins σ H s) (hb:s.heap.objs.size<=b) (hn:H' b=none):FpOk X pins H' b:=by
 refine ⟨hn,Nat.ne_of_gt (Nat.lt_of_lt_of_le I.lt hb),I.nofs hb,.inr (Nat.le_trans I.sz hb),fun x c e z=>?_,fun p hp z=>?_⟩
 ·obtain ⟨v,q⟩:=I.cell x c e
  exact absurd (Nat.lt_of_lt_of_le q.lt (by rw [z]; exact hb)) (Nat.lt_irrefl _)
 ·exact absurd (Nat.lt_of_lt_of_le (Heap.lt_size (I.pin p hp).1) (by rw [z]; exact hb)) (Nat.lt_irrefl _)
structure Turn (P:Program) (w:World) (K:PySem.W.Frag) (tg:Expr) (J:It) (fp:List Addr) (it:Addr) (tn:Nat->Heap->Prop):Prop where
 mem:it ∈ fp
 obj:∀ i h,tn i h->∀ b ∈ fp,∃ o,h.get? b=some o/\∀ v,o.data ≠ .cell v
 keep:∀ i h h',tn i h->(∀ b ∈ fp,∀ o,h.get? b=some o->h'.get? b=some o)->tn i h'
 item:∀ (X:Cx),X.prog=P->X.w=w->X.K=K->X.calm=true->∀ (i:Nat) (pins:List (Addr × Obj)) (s:Shared) (σ:St) (H:Hp) (E:Value->Shared->Prop),Inv X pins σ H s->(∀ b ∈ fp,FpOk X pins H b)->tn i s.heap->J.go i H->
  wpAny (model P w) X.A (pyNext (.ref it)) (fun r s1=>∃ u,r=some u/\
   wpAny (model P w) X.A (letOwnedTupleGo tg (.ref it) u) (fun _ s2=>∃ x H',Inv X pins σ H' s2/\RelV x u/\J.yld i H x H'/\tn (i + 1) s2.heap/\∀ b ∈ fp,H' b=none) E s1) E s
 done:∀ (X:Cx),X.prog=P->X.w=w->X.K=K->X.calm=true->∀ (i:Nat) (pins:List (Addr × Obj)) (s:Shared) (σ:St) (H:Hp) (E:Value->Shared->Prop),Inv X pins σ H s->(∀ b ∈ fp,FpOk X pins H b)->tn i s.heap->J.stop i H->
  wpAny (model P w) X.A (pyNext (.ref it)) (fun r s1=>r=none/\Inv X pins σ H s1) E s
 self:∀ (A:Around) (i:Nat) (s:Shared) (Q:Value->Shared->Prop) (E:Value->Shared->Prop),tn i s.heap->Q (.ref it) s->wpAny (model P w) A (pyIter (.ref it)) Q E s
noncomputable abbrev TI:=St->Hp->(It->Hp->Prop)->Prop
noncomputable def PIE (X:Cx) (pins:List (Addr × Obj)) (σ:St) (tg:Expr) (R:It->Hp->Prop) (itv:Value) (s2:Shared):Prop:=
 ∃ (it:Addr) (fp:List Addr) (tn:Nat->Heap->Prop) (J:It) (H':Hp),itv=.ref it/\Inv X pins σ H' s2/\Turn X.prog X.w X.K tg J fp it tn/\tn 0 s2.heap/\(∀ b ∈ fp,FpOk X pins H' b)/\R J H'
noncomputable def PI (X:Cx) (tg iter:Expr) (wi:TI):Prop:=
 ∀ (pins:List (Addr × Obj)) (s:Shared) (σ:St) (H:Hp) (R:It->Hp->Prop),Inv X pins σ H s->wi σ H R->
  wpAny (model X.prog X.w) X.A (eval iter X.env) (fun v s1=>wpAny (model X.prog X.w) X.A (pyIter v) (PIE X pins σ tg R) X.xe s1) X.xe s
theorem go_of {M:Model} {A:Around} {E:Value->Shared->Prop} {s:Shared} {tg:Expr} {it:Addr} {u:Value} {o:Obj} {n:String} {vs:Array Value} {Q:Unit->Shared->Prop} (ho:s.heap.get? it=some o) (hc:o.cls=.type n) (hd:o.data=.fields vs)
    (hn:["enumerate","zip","dict_itemiterator","dict_reverseitemiterator","odict_iterator","itertools.zip_longest","itertools.pairwise"].contains n=false) (hQ:Q () s):wpAny M A (letOwnedTupleGo tg (.ref it) u) Q E s:=by
  unfold letOwnedTupleGo
  cases tg <;> first
    | exact wpAny_pure hQ
    | (cases u <;> first
        | exact wpAny_pure hQ
        | (refine wpAny_bind (wpAny_load ho ?_)
           rw [hc,hd]
           show wpAny M A (if (["enumerate","zip","dict_itemiterator","dict_reverseitemiterator","odict_iterator","itertools.zip_longest","itertools.pairwise"].contains n && vs[0]? == some (rawInt _))=true then _ else _) Q E s
           rw [if_neg (by intro h; rw [hn,Bool.false_and] at h; cases h)]
           exact wpAny_pure hQ))
noncomputable def Itl (K:PySem.W.Frag) (a:Addr):It:=
 ⟨fun i H=>∃ xs x,SqL K H a xs/\xs[i]? = some x,fun i H x H'=>H' = H/\∀ xs,SqL K H a xs->xs[i]? = some x,fun i H=>∃ xs,SqL K H a xs/\xs.length<=i⟩
noncomputable def Itt (K:PySem.W.Frag) (a:Addr):It:=
 ⟨fun i H=>∃ xs x,SqT K H a xs/\xs[i]? = some x,fun i H x H'=>H' = H/\∀ xs,SqT K H a xs->xs[i]? = some x,fun i H=>∃ xs,SqT K H a xs/\xs.length<=i⟩
noncomputable def Itr (lo:Int) (n:Nat):It:=⟨fun i _=>i < n,fun i H x H'=>H' = H/\x=.int (lo + i),fun i _=>n<=i⟩
theorem turn_list {P:Program} {w:World} {K:PySem.W.Frag} {tg:Expr} (a it:Addr):Turn P w K tg (Itl K a) [it] it (fun i h=>h.IsListIter it a i) where
 mem:=by simp
 obj:=fun i h st b hb=>by
  have e:b=it:=by simpa using hb
  subst e
  obtain ⟨o,e,c,d⟩:=st
  exact ⟨o,e,fun v z=>by rw [d] at z; cases z⟩
 keep:=fun i h h' st k=>st.at fun o e=>k it (by simp) o e
 item:=by
  intro X hP hw hK hc i pins s σ H E I hf st hg
  subst hP hw hK
  obtain ⟨xs,x,hq,hx⟩:=hg
  obtain ⟨its,rv,p,hz⟩:=I.list hq
  obtain ⟨u,hu,ru⟩:=rv.get hx
  obtain ⟨f0,f1,f2,f3,f4,f5⟩:=hf it (by simp)
  refine wpAny_pyNext_list_item st p.isList (x:=u) (by simpa using hu) fun h' st' sb=>?_
  have I1:Inv X pins σ H { s with heap:=h' }:=I.turned (t':=s.toks) (fun b o hb e=>(sb.2 b hb).trans e) f0 f1 f3 f4 f5
  obtain ⟨o,e,c,d⟩:=id st'
  exact ⟨u,rfl,go_of (s:={ s with heap:=h' }) e c d (by decide) ⟨x,H,I1,ru,⟨rfl,fun ys hy=>by rw [I.list_inj hy hq]; exact hx⟩,st',fun b hb=>(hf b hb).1⟩⟩
 done:=by
  intro X hP hw hK hc i pins s σ H E I hf st hg
  subst hP hw hK
  obtain ⟨xs,hq,hx⟩:=hg
  obtain ⟨its,rv,p,hz⟩:=I.list hq
  obtain ⟨f0,f1,f2,f3,f4,f5⟩:=hf it (by simp)
  have hl:=rv.length
  exact wpAny_pyNext_list_end (I.ok.hd hc) st p.isList (by simp; omega) fun h' eb=>⟨rfl,I.turned (t':=s.toks) (fun b o hb e=>eb b o hb e) f0 f1 f3 f4 f5⟩
 self:=fun _ _ _ _ _ st h=>wpAny_pyIter_listiter st h
theorem turn_tuple {P:Program} {w:World} {K:PySem.W.Frag} {tg:Expr} (a it:Addr):Turn P w K tg (Itt K a) [it] it (fun i h=>h.IsTupleIter it a i) where
 mem:=by simp
 obj:=fun i h st b hb=>by
  have e:b=it:=by simpa using hb
  subst e
  obtain ⟨o,e,c,d⟩:=st
  exact ⟨o,e,fun v z=>by rw [d] at z; cases z⟩
 keep:=fun i h h' st k=>st.at fun o e=>k it (by simp) o e
 item:=by
  intro X hP hw hK hc i pins s σ H E I hf st hg
  subst hP hw hK
  obtain ⟨xs,x,hq,hx⟩:=hg
  obtain ⟨its,rv,p,hz⟩:=I.tuple hq
  obtain ⟨u,hu,ru⟩:=rv.get hx
  obtain ⟨f0,f1,f2,f3,f4,f5⟩:=hf it (by simp)
  refine wpAny_pyNext_tuple_item st (show s.heap.IsTuple a its.toArray from p) (x:=u) (by simpa using hu) fun h' st' sb=>?_
  have I1:Inv X pins σ H { s with heap:=h' }:=I.turned (t':=s.toks) (fun b o hb e=>(sb.2 b hb).trans e) f0 f1 f3 f4 f5
  obtain ⟨o,e,c,d⟩:=id st'
  exact ⟨u,rfl,go_of (s:={ s with heap:=h' }) e c d (by decide) ⟨x,H,I1,ru,⟨rfl,fun ys hy=>by rw [I.tuple_inj hy hq]; exact hx⟩,st',fun b hb=>(hf b hb).1⟩⟩
 done:=by
  intro X hP hw hK hc i pins s σ H E I hf st hg
  subst hP hw hK
  obtain ⟨xs,hq,hx⟩:=hg
  obtain ⟨its,rv,p,hz⟩:=I.tuple hq
  obtain ⟨f0,f1,f2,f3,f4,f5⟩:=hf it (by simp)
  have hl:=rv.length
  exact wpAny_pyNext_tuple_end (I.ok.hd hc) st (show s.heap.IsTuple a its.toArray from p) (by simp; omega) fun h' eb=>⟨rfl,I.turned (t':=s.toks) (fun b o hb e=>eb b o hb e) f0 f1 f3 f4 f5⟩
 self:=fun _ _ _ _ _ st h=>wpAny_pyIter_tupleiter st h
theorem turn_range {P:Program} {w:World} {K:PySem.W.Frag} {tg:Expr} (it:Addr) (lo:Int) (n:Nat):Turn P w K tg (Itr lo n) [it] it (fun i h=>IsRangeIter h it (lo + (i:Nat) * 1) ((n:Int) - (i:Nat)) 1) where
 mem:=by simp
 obj:=fun i h st b hb=>by
  have e:b=it:=by simpa using hb
  subst e
  exact ⟨_,st,fun v z=>by
   have z':Data.fields _=Data.cell v:=z
   cases z'⟩
 keep:=fun i h h' st k=>k it (by simp) _ st
 item:=by
  intro X hP hw hK hc i pins s σ H E I hf st hg
  subst hP hw hK
  obtain ⟨f0,f1,f2,f3,f4,f5⟩:=hf it (by simp)
  have W:=Walks.range (prog:=X.prog) (w:=X.w) (I.ok.hd hc) it lo 1 n
  refine W.item i s _ _ hg st fun v h' tk hv st' kk=>?_
  obtain ⟨t,rfl⟩:=hv
  have I1:Inv X pins σ H { s with heap:=h',toks:=tk }:=I.turned (fun b o hb e=>kk b o (by simpa using hb) e) f0 f1 f3 f4 f5
  refine ⟨_,rfl,go_of (s:={ s with heap:=h',toks:=tk }) (n:="range_iterator") st' rfl rfl (by decide) ⟨.int (lo + i),H,I1,⟨t,?_⟩,⟨rfl,rfl⟩,st',fun b hb=>(hf b hb).1⟩⟩
  rw [Int.mul_one]
 done:=by
  intro X hP hw hK hc i pins s σ H E I hf st hg
  subst hP hw hK
  obtain ⟨f0,f1,f2,f3,f4,f5⟩:=hf it (by simp)
  exact wpAny_pyNext_range_end (I.ok.hd hc) st (by have:n<=i:=hg; omega) fun h' eb=>⟨rfl,I.turned (t':=s.toks) (fun b o hb e=>eb b o hb e) f0 f1 f3 f4 f5⟩
 self:=fun _ _ _ _ _ st h=>wpAny_pyIter_rangeiter st h
end L2
namespace L2
open PySem PySem.Spec PyProof.Rows
section
variable {X:Cx} {tg:Expr}
noncomputable def iList (K:PySem.W.Frag) (tl:TE):TI:=fun σ H R=>tl σ H fun x H1=>∃ a,x=.ref a/\(∃ xs,SqL K H1 a xs)/\R (Itl K a) H1
noncomputable def iTup (K:PySem.W.Frag) (tl:TE):TI:=fun σ H R=>tl σ H fun x H1=>∃ a,x=.ref a/\(∃ xs,SqT K H1 a xs)/\R (Itt K a) H1
theorem pi_list {l:Expr} {tl:TE} (hl:PE X l tl):PI X tg l (iList X.K tl):=by
 intro pins s σ H R I h
 refine thn (hl pins s σ H _ I h) fun v s1 ⟨x,H1,I1,r1,q1⟩=>?_
 obtain ⟨a,e,⟨xs,hq⟩,q⟩:=q1
 subst e
 cases r1
 obtain ⟨its,rv,p,hz⟩:=I1.list hq
 refine wpAny_pyIter_list p.isList ?_
 refine ⟨s1.heap.objs.size,[s1.heap.objs.size],_,_,H1,rfl,I1.kept (t':=s1.toks) fun b o e=>Heap.get?_push_of_some _ e,turn_list a _,⟨_,Heap.get?_push_size _ rfl,rfl,rfl⟩,fun b hb=>?_,q⟩
 have e:b=s1.heap.objs.size:=by simpa using hb
 subst e
 exact I1.fpOk (Nat.le_refl _) (I1.hok.fresh (Nat.le_refl _))
theorem pi_tup {l:Expr} {tl:TE} (hl:PE X l tl):PI X tg l (iTup X.K tl):=by
 intro pins s σ H R I h
 refine thn (hl pins s σ H _ I h) fun v s1 ⟨x,H1,I1,r1,q1⟩=>?_
 obtain ⟨a,e,⟨xs,hq⟩,q⟩:=q1
 subst e
 cases r1
 obtain ⟨its,rv,p,hz⟩:=I1.tuple hq
 refine wpAny_pyIter_tuple (show s1.heap.IsTuple a its.toArray from p) ?_
 refine ⟨s1.heap.objs.size,[s1.heap.objs.size],_,_,H1,rfl,I1.kept (t':=s1.toks) fun b o e=>Heap.get?_push_of_some _ e,turn_tuple a _,⟨_,Heap.get?_push_size _ rfl,rfl,rfl⟩,fun b hb=>?_,q⟩
 have e:b=s1.heap.objs.size:=by simpa using hb
 subst e
 exact I1.fpOk (Nat.le_refl _) (I1.hok.fresh (Nat.le_refl _))
theorem range_it {pins:List (Addr × Obj)} {σ:St} {H:Hp} {s:Shared} {R:It->Hp->Prop} {E:Value->Shared->Prop} {lo hi:Int} {t u v:Tok} {tk:Nat} (I:Inv X pins σ H s) (h1:-(2 ^ 62)<=lo) (h2:lo < 2 ^ 62) (h3:-(2 ^ 62)<=hi) (h4:hi < 2 ^ 62)
  (q:R (Itr lo (hi - lo).toNat) H):wpAny (model X.prog X.w) X.A (pyIter (.ref s.heap.objs.size)) (PIE X pins σ tg R) E { s with heap:=s.heap.push { cls:=.type "range",data:=.fields #[.int lo t,.int hi u,.int 1 v] },toks:=tk }:=by
 refine wpAny_pyIter_range (IsRange.new ..) (small_one h1 h2 h3 h4) ?_
 have I1:Inv X pins σ H { s with heap:=s.heap.push { cls:=.type "range",data:=.fields #[.int lo t,.int hi u,.int 1 v] },toks:=tk }:=I.kept fun b o e=>Heap.get?_push_of_some _ e
 refine ⟨(s.heap.push { cls:=.type "range",data:=.fields #[.int lo t,.int hi u,.int 1 v] }).objs.size,[(s.heap.push { cls:=.type "range",data:=.fields #[.int lo t,.int hi u,.int 1 v] }).objs.size],_,_,H,rfl,
  I1.kept (t':=tk) fun b o e=>Heap.get?_push_of_some _ e,turn_range _ lo (hi - lo).toNat,?_,fun b hb=>?_,q⟩
 ·have e1:lo + ((0:Nat):Int) * 1=lo:=by simp
  have e2:(((hi - lo).toNat:Nat):Int) - ((0:Nat):Int)=Builtin.Range.rangeSize lo hi 1:=by rw [rangeSize_one]; split <;> omega
  show IsRangeIter _ _ (lo + ((0:Nat):Int) * 1) ((((hi - lo).toNat:Nat):Int) - ((0:Nat):Int)) 1
  rw [e1,e2]
  exact Heap.get?_push_size _ rfl
 ·have e:b=(s.heap.push { cls:=.type "range",data:=.fields #[.int lo t,.int hi u,.int 1 v] }).objs.size:=by simpa using hb
  subst e
  exact I1.fpOk (Nat.le_refl _) (I1.hok.fresh (Nat.le_refl _))
noncomputable def iRng1 (ta:TA):TI:=fun σ H R=>ta σ H fun vs H1=>∃ j:Int,vs=[.int j]/\-(2 ^ 62)<=j/\j < 2 ^ 62/\R (Itr 0 j.toNat) H1
noncomputable def iRng2 (ta:TA):TI:=fun σ H R=>ta σ H fun vs H1=>∃ i j:Int,vs=[.int i,.int j]/\(-(2 ^ 62)<=i/\i < 2 ^ 62/\-(2 ^ 62)<=j/\j < 2 ^ 62)/\R (Itr i (j - i).toNat) H1
theorem pi_range1 {a:Expr} {ta:TA} {p pos:Pos} (hg:Gl X "range") (hm:X.mg "range" = none) (ha:PA X [a] ta) (hs:starEach [a] X.env=[(false,eval a X.env)]:=by rfl):PI X tg (.Call (.Name "range" p) [a] [] pos) (iRng1 ta):=by
 intro pins s σ H R I h
 refine Call_ (ld_blt I hg hm boot_range (PyProof.Rows.callWith_type1 (thn (ha pos pins s σ H _ I h) fun us s1 ⟨vs,H1,I1,r1,q1⟩=>?_) hs rfl))
 obtain ⟨j,e,q1,q2,q⟩:=q1
 subst e
 cases r1 with
 | cons r rr=>
  cases rr
  obtain ⟨t,rfl⟩:=r
  exact call_range_1 (range_it I1 (by omega) (by omega) q1 q2 (by simpa using q))
theorem pi_range2 {a b:Expr} {ta:TA} {p pos:Pos} (hg:Gl X "range") (hm:X.mg "range" = none) (ha:PA X [a,b] ta) (hs:starEach [a,b] X.env=[(false,eval a X.env),(false,eval b X.env)]:=by rfl) (hs2:starEach [b] X.env=[(false,eval b X.env)]:=by rfl) :
  PI X tg (.Call (.Name "range" p) [a,b] [] pos) (iRng2 ta):=by
 intro pins s σ H R I h
 refine Call_ (ld_blt I hg hm boot_range (PyProof.Rows.callWith_type1 (thn (ha pos pins s σ H _ I h) fun us s1 ⟨vs,H1,I1,r1,q1⟩=>?_) (by rw [hs,hs2]) (by rw [hs2]; rfl)))
 obtain ⟨i,j,e,⟨q1,q2,q3,q4⟩,q⟩:=q1
 subst e
 cases r1 with
 | cons r rr=>
  cases rr with
  | cons r' rr=>
   cases rr
   obtain ⟨t,rfl⟩:=r
   obtain ⟨t',rfl⟩:=r'
   exact call_range_2 (range_it I1 q1 q2 q3 q4 q)
noncomputable def tFor (wi:TI) (g:TG) (tb:TS):TS:=fun D σ H=>wi σ H fun J H1=>∃ W:Nat->Nat->St->Hp->Prop,(∃ m,W 0 m σ H1)/\∀ i m σ H,W i m σ H->
 (J.stop i H/\D.nx σ H)\/(J.go i H/\∃ N:St->Hp->Prop,(∀ σ' H',N σ' H'->∃ m',m' < m/\W (i + 1) m' σ' H')/\∀ x H',J.yld i H x H'->g x σ H' fun σ2 H2=>tb { D with nx:=N,ct:=N,bk:=D.nx } σ2 H2)
noncomputable def pinsAt (fp:List Addr) (h:Heap):List (Addr × Obj):=fp.filterMap fun b=>(h.get? b).map fun o=>(b,o)
theorem mem_pinsAt {fp:List Addr} {h:Heap} {b:Addr} {o:Obj} (hb:b ∈ fp) (e:h.get? b=some o):(b,o) ∈ pinsAt fp h:=List.mem_filterMap.mpr ⟨b,hb,by rw [e]; rfl⟩
theorem of_pinsAt {fp:List Addr} {h:Heap} {p:Addr × Obj} (hp:p ∈ pinsAt fp h):p.1 ∈ fp/\h.get? p.1=some p.2:=by
 obtain ⟨b,hb,e⟩:=List.mem_filterMap.mp hp
 cases q:h.get? b with
 | none=>rw [q] at e; cases e
 | some o=>
  rw [q] at e
  have e':(b,o)=p:=Option.some.inj e
  subst e'
  exact ⟨hb,q⟩
theorem Inv.pinned {pins:List (Addr × Obj)} {σ:St} {H:Hp} {s:Shared} {fp:List Addr} (I:Inv X pins σ H s) (hf:∀ b ∈ fp,FpOk X pins H b) (ho:∀ b ∈ fp,∃ o,s.heap.get? b=some o/\∀ v,o.data ≠ .cell v):Inv X (pins ++ pinsAt fp s.heap) σ H s:=
 I.pins_of fun p hp=>(List.mem_append.mp hp).elim (fun z=>I.pin p (List.mem_append_right _ z)) fun z=>by
  obtain ⟨hb,e⟩:=of_pinsAt z
  obtain ⟨f0,f1,f2,_⟩:=hf p.1 hb
  obtain ⟨o,e',d⟩:=ho p.1 hb
  rw [e] at e'; cases e'
  exact ⟨e,f0,f1,f2,d⟩
theorem Inv.unpinned {pins pl:List (Addr × Obj)} {σ:St} {H:Hp} {s:Shared} (I:Inv X (pins ++ pl) σ H s):Inv X pins σ H s:=I.pins_of fun p hp=>I.pin p (List.mem_append_right _ (List.mem_append_left _ hp))
theorem ps_for {iter:Expr} {body:List Stmt} {wi:TI} {g:TG} {tb:TS} {pos:Pos} (hp:PassesOwn (model X.prog X.w) X.A X.env X.xe) (hc:X.calm=true) (hi:PI X tg iter wi) (hg:PG X tg g) (hb:PSs X body tb)
  (hs:∀ x,foldedSetIterable iter X.env x=pure x:=by intro _; rfl):PS X (.For tg iter body [] pos) (tFor wi g tb):=by
 intro pins s σ H D I h
 refine wpAny_For (thn (hi pins s σ H _ I h) fun v s1 h1=>thn h1 fun itv s2 h2=>?_) hs
 obtain ⟨it,fp,tn,J,H2,e,I2,T,st2,f2,W,⟨m0,w0⟩,turn⟩:=h2
 subst e
 have stat:∀ {H':Hp},(∀ b ∈ fp,H' b=none)->∀ b ∈ fp,FpOk X pins H' b:=fun hn b hb=>⟨hn b hb,(f2 b hb).2⟩
 refine codeAny_forLoop_any (fun n s'=>∃ i σ' H',Inv X pins σ' H' s'/\tn i s'.heap/\(∀ b ∈ fp,H' b=none)/\W i n σ' H') ?_ m0 ⟨0,σ,H2,I2,st2,fun b hb=>(f2 b hb).1,w0⟩
 rintro n s3 ⟨i,σ3,H3,I3,st3,fr3,w3⟩
 rcases turn i n σ3 H3 w3 with ⟨stop,qn⟩ | ⟨go,N,hN,step⟩
 ·refine wpAny_passesOwn hp (thn (T.done X rfl rfl rfl hc i pins s3 σ3 H3 X.xe I3 (stat fr3) st3 stop) fun r s4 ⟨hr,I4⟩=>?_)
  subst hr
  exact wpAny_execs_nil ⟨σ3,H3,I4,qn⟩
 ·refine wpAny_passesOwn hp (thn (T.item X rfl rfl rfl hc i pins s3 σ3 H3 X.xe I3 (stat fr3) st3 go) fun r s4 ⟨u,hr,h4⟩=>?_)
  subst hr
  refine wpAny_passesOwn hp (thn h4 fun _ s5 ⟨x,H5,I5,r5,y5,st5,fr5⟩=>?_)
  have I5':=I5.pinned (stat fr5) (T.obj _ _ st5)
  refine wpAny_passesOwn hp (thn (hg _ s5 σ3 H5 x u _ I5' r5 (step x H5 y5)) fun _ s6 ⟨σ6,H6,I6,q6⟩=>?_)
  refine wpAny_passesOwn hp (thn (hb _ s6 σ6 H6 _ I6 q6) fun f s7 q7=>?_)
  have again:∀ {σ7:St} {H7:Hp},Inv X (pins ++ pinsAt fp s5.heap) σ7 H7 s7->N σ7 H7->∃ m,m < n/\∃ i σ' H',Inv X pins σ' H' s7/\tn i s7.heap/\(∀ b ∈ fp,H' b=none)/\W i m σ' H':=fun {σ7 H7} I7 n7=>by
   obtain ⟨m',hm,w7⟩:=hN σ7 H7 n7
   refine ⟨m',hm,i + 1,σ7,H7,I7.unpinned,T.keep _ _ _ st5 fun b hb o e=>(I7.pin (b,o) (List.mem_append_right _ (List.mem_append_right _ (mem_pinsAt hb e)))).1,fun b hb=>?_,w7⟩
   obtain ⟨o,e,d⟩:=T.obj _ _ st5 b hb
   exact (I7.pin (b,o) (List.mem_append_right _ (List.mem_append_right _ (mem_pinsAt hb e)))).2.1
  cases f with
  | next=>obtain ⟨σ7,H7,I7,n7⟩:=q7; exact again I7 n7
  | cont=>obtain ⟨σ7,H7,I7,n7⟩:=q7; exact again I7 n7
  | brk=>obtain ⟨σ7,H7,I7,q7⟩:=q7; exact ⟨σ7,H7,I7.unpinned,q7⟩
  | ret v=>obtain ⟨x7,σ7,H7,I7,r7,q7⟩:=q7; exact ⟨x7,σ7,H7,I7.unpinned,r7,q7⟩
end
end L2
namespace L2
open PySem PySem.Spec PyProof.Rows
noncomputable abbrev R2:=V->V->Hp->VK->Prop
noncomputable def OpR (X:Cx) (f:Value->Value->Sem Value) (r:R2):Prop:=
 ∀ (pins:List (Addr × Obj)) (s:Shared) (σ:St) (H:Hp) (x y:V) (v u:Value) (Q:VK),Inv X pins σ H s->RelV x v->RelV y u->r x y H Q->
  wpAny (model X.prog X.w) X.A (f v u) (EP X pins σ Q) X.xe s
noncomputable def UnR (X:Cx) (f:Value->Sem Value) (r:V->Hp->VK->Prop):Prop:=
 ∀ (pins:List (Addr × Obj)) (s:Shared) (σ:St) (H:Hp) (x:V) (v:Value) (Q:VK),Inv X pins σ H s->RelV x v->r x H Q->
  wpAny (model X.prog X.w) X.A (f v) (EP X pins σ Q) X.xe s
noncomputable def CallR (X:Cx) (f:Value) (r:List V->Hp->VK->Prop):Prop:=
 ∀ (pins:List (Addr × Obj)) (s:Shared) (σ:St) (H:Hp) (xs:List V) (us:List Value) (Q:VK),Inv X pins σ H s->Vals xs us->r xs H Q->
  wpAny (model X.prog X.w) X.A (call f us) (EP X pins σ Q) X.xe s
noncomputable def tOp (r:R2) (ta tb:TE):TE:=fun σ H Q=>ta σ H fun x H1=>tb σ H1 fun y H2=>r x y H2 Q
noncomputable def tUn (r:V->Hp->VK->Prop) (ta:TE):TE:=fun σ H Q=>ta σ H fun x H1=>r x H1 Q
noncomputable def rI (C:Int->Int->Prop) (g:Int->Int->V):R2:=fun x y H Q=>∃ i j,x=.int i/\y=.int j/\C i j/\Q (g i j) H
noncomputable def rI0 (g:Int->Int->V):R2:=fun x y H Q=>∃ i j,x=.int i/\y=.int j/\Q (g i j) H
noncomputable def rU (g:Int->V):V->Hp->VK->Prop:=fun x H Q=>∃ i,x=.int i/\Q (g i) H
section
variable {X:Cx} {a b c:Expr} {ta tb tc:TE} {pos:Pos}
theorem binT (ha:PE X a ta) (hb:PE X b tb) {pins:List (Addr × Obj)} {s:Shared} {σ:St} {H:Hp} {R:V->V->Hp->Prop} (I:Inv X pins σ H s)
  (h:ta σ H fun x H1=>tb σ H1 fun y H2=>R x y H2) {Q:Value->Shared->Prop} {f:Value->Value->Sem Value}
  (hf:∀ v u s2 x y H2,Inv X pins σ H2 s2->RelV x v->RelV y u->R x y H2->wpAny (model X.prog X.w) X.A (f v u) Q X.xe s2) :
  wpAny (model X.prog X.w) X.A (eval a X.env) (fun v s₁=>wpAny (model X.prog X.w) X.A (eval b X.env) (fun u s₂=>wpAny (model X.prog X.w) X.A (f v u) Q X.xe s₂) X.xe s₁) X.xe s:=by
 refine thn (ha pins s σ H _ I h) fun v s1 ⟨x,H1,I1,r1,q1⟩=>?_
 refine thn (hb pins s1 σ H1 _ I1 q1) fun u s2 ⟨y,H2,I2,r2,q2⟩=>?_
 exact hf v u s2 x y H2 I2 r1 r2 q2
theorem pe_op {op:Operator} {r:R2} (ho:OpR X (binaryOp op) r) (ha:PE X a ta) (hb:PE X b tb):PE X (.BinOp a op b pos) (tOp r ta tb):=by
 intro pins s σ H Q I h
 exact wpAny_BinOp (binT ha hb I h fun v u s2 x y H2 I2 rx ry q=>ho pins s2 σ H2 x y v u Q I2 rx ry q)
theorem pe_un {op:UnaryOp} {r:V->Hp->VK->Prop} (ho:UnR X (unaryOp op) r) (ha:PE X a ta):PE X (.UnaryOp op a pos) (tUn r ta):=by
 intro pins s σ H Q I h
 exact UnaryOp_ (thn (ha pins s σ H _ I h) fun v s1 ⟨x,H1,I1,r1,q1⟩=>ho pins s1 σ H1 x v Q I1 r1 q1)
theorem opI {f:Value->Value->Sem Value} {C:Int->Int->Prop} {g:Int->Int->Int}
  (rule:∀ (i j:Int) (t u:Tok) (s:Shared) (Q:Value->Shared->Prop) (E:Value->Shared->Prop),C i j->Q (.int (g i j) s.toks) { s with toks:=s.toks + 1 }->wpAny (model X.prog X.w) X.A (f (.int i t) (.int j u)) Q E s) :
  OpR X f (rI C fun i j=>.int (g i j)):=by
 intro pins s σ H x y v u Q I rx ry h
 obtain ⟨i,j,rfl,rfl,hc,q⟩:=h
 obtain ⟨t,rfl⟩:=rx
 obtain ⟨t',rfl⟩:=ry
 exact rule i j t t' s _ _ hc ⟨.int (g i j),H,I.tok _,⟨_,rfl⟩,q⟩
theorem opI0 {f:Value->Value->Sem Value} {g:Int->Int->Int}
  (rule:∀ (i j:Int) (t u:Tok) (s:Shared) (Q:Value->Shared->Prop) (E:Value->Shared->Prop),Q (.int (g i j) s.toks) { s with toks:=s.toks + 1 }->wpAny (model X.prog X.w) X.A (f (.int i t) (.int j u)) Q E s) :
  OpR X f (rI0 fun i j=>.int (g i j)):=by
 intro pins s σ H x y v u Q I rx ry h
 obtain ⟨i,j,rfl,rfl,q⟩:=h
 obtain ⟨t,rfl⟩:=rx
 obtain ⟨t',rfl⟩:=ry
 exact rule i j t t' s _ _ ⟨.int (g i j),H,I.tok _,⟨_,rfl⟩,q⟩
theorem opB0 {f:Value->Value->Sem Value} {g:Int->Int->Bool}
  (rule:∀ (i j:Int) (t u:Tok) (s:Shared) (Q:Value->Shared->Prop) (E:Value->Shared->Prop),Q (.bool (g i j)) s->wpAny (model X.prog X.w) X.A (f (.int i t) (.int j u)) Q E s) :
  OpR X f (rI0 fun i j=>.bl (g i j)):=by
 intro pins s σ H x y v u Q I rx ry h
 obtain ⟨i,j,rfl,rfl,q⟩:=h
 obtain ⟨t,rfl⟩:=rx
 obtain ⟨t',rfl⟩:=ry
 exact rule i j t t' s _ _ ⟨.bl (g i j),H,I,rfl,q⟩
noncomputable def CDiv (i j:Int):Prop:=0 < j/\j < 1073741824
noncomputable def CPow (i j:Int):Prop:=0<=j/\j<=1000000/\i.natAbs < 2 ^ 64
noncomputable def CMul (i j:Int):Prop:=(-(2 ^ 64) < i/\i < 2 ^ 64)\/(-(2 ^ 64) < j/\j < 2 ^ 64)
theorem CMul.ok {i j:Int} (h:CMul i j):IntMulOk i j:=by
 rcases h with ⟨h1,h2⟩ | ⟨h1,h2⟩
 ·exact .of_left (intBits_le_64 h1 h2)
 ·exact .of_right (intBits_le_64 h1 h2)
theorem op_add:OpR X (binaryOp .Add) (rI0 fun i j=>.int (i + j)):=opI0 fun _ _ _ _ _ _ _ q=>add_int q
theorem op_sub:OpR X (binaryOp .Sub) (rI0 fun i j=>.int (i - j)):=opI0 fun _ _ _ _ _ _ _ q=>sub_int q
theorem op_mul:OpR X (binaryOp .Mult) (rI CMul fun i j=>.int (i * j)):=opI fun _ _ _ _ _ _ _ hc q=>mul_int q hc.ok
theorem op_fdiv:OpR X (binaryOp .FloorDiv) (rI CDiv fun i j=>.int (i / j)):=opI fun i j _ _ _ _ _ hc q=>by
 have h1:(0:Int) < j:=hc.1
 have h2:j < 1073741824:=hc.2
 exact floordiv_int (by omega) (by rw [Int.fdiv_eq_ediv_of_nonneg i (by omega)]; exact q) (.inl (PyProof.noPylong_small (by omega)))
theorem op_mod:OpR X (binaryOp .Mod) (rI (fun _ j=>0 < j) fun i j=>.int (i % j)):=opI fun i j _ _ _ _ _ hc q=>by
 have h1:(0:Int) < j:=hc
 exact mod_int' (by omega) (by rw [Int.fmod_eq_emod_of_nonneg i (by omega)]; exact q)
theorem op_pow:OpR X (binaryOp .Pow) (rI CPow fun i j=>.int (i ^ j.toNat)):=opI fun _ _ _ _ _ _ _ hc q=>pow_int_small hc.1 hc.2.1 hc.2.2 q
theorem unI {f:Value->Sem Value} {g:Int->Int}
  (rule:∀ (i:Int) (t:Tok) (s:Shared) (Q:Value->Shared->Prop) (E:Value->Shared->Prop),Q (.int (g i) s.toks) { s with toks:=s.toks + 1 }->wpAny (model X.prog X.w) X.A (f (.int i t)) Q E s) :
  UnR X f (rU fun i=>.int (g i)):=by
 intro pins s σ H x v Q I rx h
 obtain ⟨i,rfl,q⟩:=h
 obtain ⟨t,rfl⟩:=rx
 exact rule i t s _ _ ⟨.int (g i),H,I.tok _,⟨_,rfl⟩,q⟩
theorem un_neg:UnR X (unaryOp .USub) (rU fun i=>.int (-i)):=unI fun _ _ _ _ _ q=>neg_int q
end
section
variable {X:Cx} {a b c:Expr} {ta tb tc:TE} {pos:Pos}
theorem op_lt:OpR X (compareOp .Lt) (rI0 fun i j=>.bl (decide (i < j))):=opB0 fun _ _ _ _ _ _ _ q=>lt_int q
theorem op_le:OpR X (compareOp .LtE) (rI0 fun i j=>.bl (decide (i<=j))):=opB0 fun _ _ _ _ _ _ _ q=>le_int q
theorem op_gt:OpR X (compareOp .Gt) (rI0 fun i j=>.bl (decide (j < i))):=opB0 fun _ _ _ _ _ _ _ q=>gt_int q
theorem nomark (b:Expr) {op:CmpOp} (h:op ≠ .In:=by decide) (h2:op ≠ .NotIn:=by decide):behindInMarks op b=false:=by
 have e1:(op == CmpOp.In)=false:=by cases op <;> first | rfl | exact absurd rfl h
 have e2:(op == CmpOp.NotIn)=false:=by cases op <;> first | rfl | exact absurd rfl h2
 cases b <;> simp [behindInMarks,e1,e2]
theorem pe_cmpR {op:CmpOp} {r:R2} (ho:OpR X (compareOp op) r) (ha:PE X a ta) (hb:PE X b tb) (hm:behindInMarks op b=false):PE X (.Compare a [op] [b] pos) (tOp r ta tb):=by
 intro pins s σ H Q I h
 exact wpAny_Compare1 (binT ha hb I h fun v u s2 x y H2 I2 rx ry q=>ho pins s2 σ H2 x y v u Q I2 rx ry q) hm
noncomputable def tTest (t:TE):TT:=fun σ H Q=>t σ H fun x H'=>∃ k,x=.bl k/\Q k H'
theorem pt_cmpR {op:CmpOp} {r:R2} (ho:OpR X (compareOp op) r) (ha:PE X a ta) (hb:PE X b tb) (hm:behindInMarks op b=false):PT X (.Compare a [op] [b] pos) (tTest (tOp r ta tb)):=by
 intro pins s σ H Q I h
 refine wpAny_isTrue_Compare1 (thn (ha pins s σ H _ I h) fun v s1 ⟨x,H1,I1,r1,q1⟩=>thn (hb pins s1 σ H1 _ I1 q1) fun u s2 ⟨y,H2,I2,r2,q2⟩=>
  thn (ho pins s2 σ H2 x y v u _ I2 r1 r2 q2) fun c s3 ⟨z,H3,I3,r3,k,e,q3⟩=>?_) hm
 subst e
 cases r3
 exact wpAny_truthy_bool ⟨H3,I3,q3⟩
noncomputable def tChain (r r':R2) (ta tb tc:TE):TE:=fun σ H Q=>ta σ H fun x H1=>tb σ H1 fun y H2=>r x y H2 fun z H3=>∃ k,z=.bl k/\
 (if k=true then tc σ H3 fun w' H4=>r' y w' H4 Q else Q (.bl false) H3)
theorem pe_chain {op op':CmpOp} {r r':R2} (ho:OpR X (compareOp op) r) (ho':OpR X (compareOp op') r') (ha:PE X a ta) (hb:PE X b tb) (hc:PE X c tc)
  (hm:lastMarks [op,op'] [b,c]=false:=by with_unfolding_all rfl):PE X (.Compare a [op,op'] [b,c] pos) (tChain r r' ta tb tc):=by
 intro pins s σ H Q I h
 refine Compare_chain (thn (ha pins s σ H _ I h) fun v s1 ⟨x,H1,I1,r1,q1⟩=>chain_link (thn (hb pins s1 σ H1 _ I1 q1) fun u s2 ⟨y,H2,I2,r2,q2⟩=>
  thn (ho pins s2 σ H2 x y v u _ I2 r1 r2 q2) fun d s3 ⟨z,H3,I3,r3,k,e,q3⟩=>?_)) hm
 subst e
 cases r3
 refine wpAny_truthy_bool ?_
 cases k with
 | false=>exact ite_ff ⟨.bl false,H3,I3,rfl,q3⟩
 | true=>exact ite_tt (chain_last (thn (hc pins s3 σ H3 _ I3 q3) fun w' s4 ⟨z',H4,I4,r4,q4⟩=>ho' pins s4 σ H4 y z' u w' Q I4 r2 r4 q4))
theorem line63:(sizeLine:Nat) < 2 ^ 63:=by rw [sizeLine_eq]; decide
theorem vals1 {x:V} {us:List Value} (r:Vals [x] us):∃ u,us=[u]/\RelV x u:=by
 cases r with
 | cons r1 r2=>cases r2; exact ⟨_,rfl,r1⟩
theorem vals2 {x y:V} {us:List Value} (r:Vals [x,y] us):∃ u w',us=[u,w']/\RelV x u/\RelV y w':=by
 cases r with
 | cons r1 r2=>
  cases r2 with
  | cons r3 r4=>cases r4; exact ⟨_,_,rfl,r1,r3⟩
theorem call_int1:CallR X (.type "int") (fun xs H Q=>(∃ i,xs=[.int i]/\Q (.int i) H)\/∃ k,xs=[.bl k]/\Q (.int (if k then 1 else 0)) H):=by
 intro pins s σ H xs us Q I r h
 rcases h with ⟨i,rfl,q⟩ | ⟨k,rfl,q⟩
 ·obtain ⟨u,rfl,t,rfl⟩:=vals1 r
  exact call_int_int ⟨.int i,H,I,⟨_,rfl⟩,q⟩
 ·obtain ⟨u,rfl,r1⟩:=vals1 r
  cases r1
  exact call_int_bool ⟨.int (if k then 1 else 0),H,I.tok _,⟨_,rfl⟩,q⟩
theorem call_divmod:CallR X (.builtin "divmod") (fun xs H Q=>∃ i j,xs=[.int i,.int j]/\CDiv i j/\∀ p,H p=none->Q (.ref p) (upd H p (.tup [.int (i / j),.int (i % j)]))):=by
 intro pins s σ H xs us Q I r h
 obtain ⟨i,j,rfl,⟨h1,h2⟩,q⟩:=h
 obtain ⟨u,w',rfl,⟨t,rfl⟩,⟨t',rfl⟩⟩:=vals2 r
 refine divmod_int (by omega) ?_ (.inl (PyProof.noPylong_small (by omega)))
 rw [Int.fdiv_eq_ediv_of_nonneg i (by omega),Int.fmod_eq_emod_of_nonneg i (by omega)]
 have hn:H s.heap.objs.size=none:=I.hok.fresh (Nat.le_refl _)
 refine ⟨.ref s.heap.objs.size,_,?_,rfl,q _ hn⟩
 refine I.laid (fun b o e=>Heap.get?_push_of_some _ e) (Nat.le_refl _) ⟨by simp only [List.length_cons,List.length_nil]; rw [sizeLine_eq]; decide,[.int (i / j) s.toks,.int (i % j) (s.toks + 1)],.cons ⟨_,rfl⟩ (.cons ⟨_,rfl⟩ .nil),?_⟩
 exact ⟨_,Heap.get?_push_size s.heap rfl,rfl,0,rfl⟩
end
end L2
namespace L2
open PySem PySem.Spec PyProof.Rows
structure ObjM (h:Heap) (x dx C:Addr) (mA:Str->Option Value):Prop where
 obj:h.get? x=some (PySem.W.instObj C dx)
 ns:h.Ns1 dx mA
 ne:dx ≠ x
theorem lookIn_ns {h:Heap} {dx:Addr} {mA:Str->Option Value} (n:h.Ns1 dx mA):∃ od,h.get? dx=some od/\∀ name,PySem.W.lookIn name od=some (mA name):=by
 obtain ⟨o,es,ep,ho,hd,hk,_,hm⟩:=n
 refine ⟨o,ho,fun name=>?_⟩
 have e:=hm name
 unfold nsFind findBy at e
 rw [<-Array.find?_toList] at e
 unfold PySem.W.lookIn
 rw [hd]
 dsimp only
 split
 ·rename_i y q
  rw [q] at e
  exact congrArg some e
 ·rename_i q
  rw [q] at e
  have a:es.toList.any (·.refKey)=false:=by
   rw [List.any_eq_false]
   intro y hy
   obtain ⟨z,t,hkey⟩:=hk y (Array.mem_toList_iff.mp hy)
   simp [DictEntry.refKey,hkey]
  have a':¬ es.toList.any (·.refKey)=true:=by rw [a]; exact Bool.false_ne_true
  rw [if_neg a']
  exact congrArg some e
theorem ObjM.look {h:Heap} {x dx C:Addr} {mA:Str->Option Value} (I:ObjM h x dx C mA):∃ od,PySem.W.InstAt h x (PySem.W.instObj C dx) C (some od)/\∀ name,PySem.W.lookIn name od=some (mA name):=
 let ⟨od,ho,hl⟩:=lookIn_ns I.ns
 ⟨od,⟨I.obj,rfl,rfl,ho⟩,hl⟩
theorem RelO.some_of {v:V} {o:Option Value} (r:RelO (some v) o):∃ u,o=some u/\RelV v u:=by
 cases o with
 | none=>exact (show False from r).elim
 | some u=>exact ⟨u,rfl,r⟩
section
variable {P:Program} {w:World} {H H':Hp} {h h':Heap} {a C dx:Addr} {fs fs':List (Str × V)}
theorem ins_get (hok:HOk P w H h) (e:H a=some (.ins C dx fs)):∃ mA,ObjM h a dx C mA/\(∀ f,RelO (fs.lookup f) (mA f))/\PySem.Within mA (fs.map (·.1))/\fs.length<=1000/\H dx=some (.own a):=by
 obtain ⟨d,z,ne,ob,mA,n,r,q⟩:=(show ObjOk P w H h a (.ins C dx fs) from hok a _ e)
 exact ⟨mA,⟨ob,n,ne⟩,r,q,z,d⟩
end
structure Cls (K:PySem.W.Frag) (C:Addr):Prop where
 pg:PySem.W.plainGet K C Str.empty=true
 hd:PySem.W.hasDictIn K C=true
 po:PySem.W.plainOver K C=true
 sa:PySem.W.findIn K (.ref C) "__setattr__" = some (some (.builtin "object.__setattr__"))
theorem Cls.get {K:PySem.W.Frag} {C:Addr} (c:Cls K C) (f:Str):PySem.W.plainGet K C f=true:=c.pg
section
variable {X:Cx} {pins:List (Addr × Obj)} {σ:St} {H:Hp} {s:Shared} {A:Around} {E:Value->Shared->Prop} {Q:Value->Shared->Prop} {c:Value} {b:Bool}
inductive TyOf (K:PySem.W.Frag) (H:Hp):V->Value->Prop where
 | non:TyOf K H .non (.type "NoneType")
 | bl (x:Bool):TyOf K H (.bl x) (.type "bool")
 | int (i:Int):TyOf K H (.int i) (.type "int")
 | str (x:Str):TyOf K H (.str x) (.type "str")
 | flt (x:UInt64):TyOf K H (.flt x) (.type "float")
 | lst {a:Addr} {xs:List V} (e:H a=some (.lst xs)):TyOf K H (.ref a) (.type "list")
 | frz {a:Addr} {o:Obj} {xs:List V} (e:H a=some (.frz o (.lst xs))):TyOf K H (.ref a) (.type "list")
 | tup {a:Addr} {xs:List V} (e:H a=some (.tup xs)):TyOf K H (.ref a) (.type "tuple")
 | dK {a:Addr} {kvs:List (Key × V)} (e:H a=some (.dK kvs)):TyOf K H (.ref a) (.type "dict")
 | dT {a:Addr} {kvs:List (List Key × V)} (e:H a=some (.dT kvs)):TyOf K H (.ref a) (.type "dict")
 | ins {a C dx:Addr} {fs:List (Str × V)} (e:H a=some (.ins C dx fs)) (cl:Cls K C) (ha:PySem.W.findIn K (.ref C) "__class__" = some (some (.builtin "object.__class__")))
   (hn:PySem.W.specialIn K (.builtin "object.__class__") "__get__" = some (some (.builtin "getset_descriptor.__get__"))) (htk:PySem.W.takesIn K (.builtin "object.__class__")=some true)
   (hm:PySem.W.mroIn K C (.type "object")=some true):TyOf K H (.ref a) (.ref C)
theorem isinst_ok {x:V} {u t:Value} (I:Inv X pins σ H s) (rx:RelV x u) (ty:TyOf X.K H x t) (e:PySem.W.kitOne X.K t c=some b) (h:∀ tk,Q (.bool b) { s with toks:=tk }) :
  wpAny (model X.prog X.w) A (call (.builtin "isinstance") [u,c]) Q E s:=by
 cases ty with
 | non=>cases (show u=Value.none from rx); exact PySem.W.kia_one PySem.W.kitx_none I.kIn True.intro e (fun z=>nomatch z) h
 | bl y=>cases (show u=Value.bool y from rx); exact PySem.W.kia_one PySem.W.kitx_bool I.kIn True.intro e (fun z=>nomatch z) h
 | int i=>obtain ⟨t,q⟩:=(show ∃ t,u=Value.int i t from rx); cases q; exact PySem.W.kia_one PySem.W.kitx_int I.kIn True.intro e (fun z=>nomatch z) h
 | str y=>obtain ⟨t,q⟩:=(show ∃ t,u=Value.str y t from rx); cases q; exact PySem.W.kia_one PySem.W.kitx_str I.kIn True.intro e (fun z=>nomatch z) h
 | flt y=>obtain ⟨t,q⟩:=(show ∃ t,u=Value.float y t from rx); cases q; exact PySem.W.kia_one PySem.W.kitx_float I.kIn True.intro e (fun z=>nomatch z) h
 | @lst a xs ea=>
  cases (show u=Value.ref a from rx)
  obtain ⟨_,_,n,_,h1⟩:=(show ObjOk X.prog X.w H s.heap a (.lst xs) from I.hok a _ ea)
  exact PySem.W.kia_one PySem.W.kitx_list I.kIn ⟨_,h1,rfl⟩ e (fun z=>nomatch z) h
 | @frz a ob xs ea=>
  cases (show u=Value.ref a from rx)
  obtain ⟨_,_,_,n,_,h1⟩:=(show ObjOk X.prog X.w H s.heap a (.frz ob (.lst xs)) from I.hok a _ ea)
  exact PySem.W.kia_one PySem.W.kitx_list I.kIn ⟨_,h1,rfl⟩ e (fun z=>nomatch z) h
 | @tup a xs ea=>
  cases (show u=Value.ref a from rx)
  obtain ⟨_,_,_,p⟩:=(show ObjOk X.prog X.w H s.heap a (.tup xs) from I.hok a _ ea)
  obtain ⟨o,h1,h2,_⟩:=p
  exact PySem.W.kia_one PySem.W.kitx_tuple I.kIn ⟨o,h1,h2⟩ e (fun z=>nomatch z) h
 | @dK a kvs ea=>
  cases (show u=Value.ref a from rx)
  obtain ⟨_,_,vs,_,p⟩:=(show ObjOk X.prog X.w H s.heap a (.dK kvs) from I.hok a _ ea)
  obtain ⟨o,es,ep,h1,h2,_⟩:=p
  exact PySem.W.kia_one PySem.W.kitx_dict I.kIn ⟨o,h1,h2.1⟩ e (fun z=>nomatch z) h
 | @dT a kvs ea=>
  cases (show u=Value.ref a from rx)
  obtain ⟨_,_,xs,_,o,es,ep,h1,h2,_⟩:=(show ObjOk X.prog X.w H s.heap a (.dT kvs) from I.hok a _ ea)
  exact PySem.W.kia_one PySem.W.kitx_dict I.kIn ⟨o,h1,h2.1⟩ e (fun z=>nomatch z) h
 | @ins a C dx fs ea cl ha hn htk hm=>
  cases (show u=Value.ref a from rx)
  obtain ⟨mA,O,_⟩:=ins_get I.hok ea
  obtain ⟨od,J,_⟩:=O.look
  exact PySem.W.kia_one (PySem.W.kitx_own (cl.get _) cl.hd ha hn htk hm) I.kIn J e (fun z=>nomatch z) h
end
end L2
namespace L2
open PySem PySem.Spec PyProof.Rows
structure Room (k:Nat) (A:Around):Prop where
 hd:A.handled=none
 dp:A.depth + 3 * k + 5 < recursionLimit
 un:A.units + 16 * k + 200 < cLine
theorem Room.mono {j k:Nat} {A:Around} (r:Room k A) (h:j<=k):Room j A:=⟨r.hd,by have:=r.dp; omega,by have:=r.un; omega⟩
theorem Room.deeper {k:Nat} {A:Around} (r:Room (k + 1) A) (env:Env):Room k (A.deeper env):=
 ⟨r.hd,by have:=r.dp; show A.depth + 1 + 3 * k + 5 < _; omega,by have:=r.un; show A.units + 3 + 16 * k + 200 < _; omega⟩
theorem Room.depth {k:Nat} {A:Around} (r:Room k A):A.depth < recursionLimit:=by have:=r.dp; omega
theorem Room.units {k:Nat} {A:Around} (r:Room k A):A.units + 64 < cLine:=by have:=r.un; omega
noncomputable def tNil:TA:=fun _ H Q=>Q [] H
noncomputable def tCons (ta:TE) (tr:TA):TA:=fun σ H Q=>ta σ H fun x H1=>tr σ H1 fun xs H2=>Q (x :: xs) H2
section
variable {X:Cx} {e:Expr} {es:List Expr} {te:TE} {t:TA} {pos:Pos}
theorem pa_nil:PA X [] tNil:=fun _ _ _ _ H Q I h=>Calls.spliced_nil ⟨[],H,I,.nil,h⟩
theorem pa_cons (ha:PE X e te) (hr:PA X es t) (hs:starEach (e :: es) X.env=(false,eval e X.env) :: starEach es X.env:=by rfl):PA X (e :: es) (tCons te t):=by
 intro pos pins s σ H Q I h
 rw [hs]
 show wpAny _ _ (spliced ((false,eval e X.env) :: backTo pos (starEach es X.env))) _ _ s
 refine Calls.spliced_cons (thn (ha pins s σ H _ I h) fun u s1 ⟨x,H1,I1,r1,q1⟩=>?_)
 exact thn (hr pos pins s1 σ H1 _ I1 q1) fun us s2 ⟨xs,H2,I2,r2,q2⟩=>⟨x :: xs,H2,I2,.cons r1 r2,q2⟩
noncomputable def tTup (t:TA):TE:=fun σ H Q=>t σ H fun xs H1=>xs.length<=sizeLine/\∀ p,H1 p=none->Q (.ref p) (upd H1 p (.tup xs))
noncomputable def tLst (t:TA):TE:=fun σ H Q=>t σ H fun xs H1=>xs.length<=sizeLine/\∀ p,H1 p=none->Q (.ref p) (upd H1 p (.lst xs))
theorem pe_tup {x1} (h:PA X es t):PE X (.Tuple es x1 pos) (tTup t):=by
 intro pins s σ H Q I hq
 refine wpAny_Tuple_spliced (thn (h pos pins s σ H _ I hq) fun us s1 ⟨xs,H1,I1,r,z,q⟩=>⟨by rw [<-r.length]; exact z,?_⟩)
 have hf:H1 s1.heap.objs.size=none:=I1.hok.fresh (Nat.le_refl _)
 refine ⟨.ref s1.heap.objs.size,upd H1 s1.heap.objs.size (.tup xs),I1.laid (t':=s1.toks) (fun b u e=>Heap.get?_push_of_some _ e) (Nat.le_refl _) ?_,rfl,q _ hf⟩
 exact ⟨z,us,r,⟨_,Heap.get?_push_size _ rfl,rfl,_,rfl⟩⟩
theorem pe_lst (h:PA X es t):PE X (.List es pos) (tLst t):=by
 intro pins s σ H Q I hq
 refine wpAny_List_spliced (thn (h pos pins s σ H _ I hq) fun us s1 ⟨xs,H1,I1,r,z,q⟩=>⟨by rw [<-r.length]; exact z,?_⟩)
 have hf:H1 s1.heap.objs.size=none:=I1.hok.fresh (Nat.le_refl _)
 refine ⟨.ref s1.heap.objs.size,upd H1 s1.heap.objs.size (.lst xs),I1.laid (t':=s1.toks) (fun b u e=>Heap.get?_push_of_some _ e) (Nat.le_refl _) ?_,rfl,q _ hf⟩
 exact ⟨z,us,0,r,Heap.get?_push_size _ rfl⟩
end
noncomputable abbrev Sp:=List V->Hp->VK->XK->Prop
noncomputable abbrev CXT:=List Env->Hp->Shared->XK->Value->Shared->Prop
structure Env0 (P:Program) (w:World) (K:PySem.W.Frag) (mg:Str->Option Value) (base:Heap) (A:Around) (outer:List Env) (s:Shared) (H:Hp):Prop where
 frames:A.frames=some outer
 mod:Mod K mg base
 bs:∀ b o,base.get? b=some o->s.heap.get? b=some o/\H b=none
 bsz:base.objs.size<=s.heap.objs.size
 funs:s.heap.FunFrames base outer
 frf:∀ b ∈ frs outer,H b=none
 hok:HOk P w H s.heap
 bare:AllBare s.gens
noncomputable def CE (outer:List Env) (P:Program) (w:World) (H:Hp) (s:Shared) (Q:VK) (u:Value) (s':Shared):Prop:=
 ∃ v H',s'.os=s.os/\AllBare s'.gens/\Un (frs outer) [] H H' s.heap s'.heap/\HOk P w H' s'.heap/\RelV v u/\Q v H'
noncomputable def CR (CX:CXT) (outer:List Env) (P:Program) (w:World) (H:Hp) (s:Shared) (Q:VK) (E:XK) (r:Result) (s':Shared):Prop:=
 match r with
 | .ok (.ret u)=>CE outer P w H s Q u s'
 | .ok _=>False
 | .error e=>CX outer H s E e s'
structure FnOk (P:Program) (w:World) (K:PySem.W.Frag) (mg:Str->Option Value) (base:Heap) (CX:CXT) (k:Nat) (f:Addr) (fd:FuncData) (ps:List Str) (sp:Sp):Prop where
 len:∀ vs H Q E,sp vs H Q E->vs.length=ps.length
 run:∀ (A:Around) (outer:List Env) (s:Shared) (H:Hp) (args:Args) (us:List Value) (vs:List V) (Q:VK) (E:XK),Room k A->Env0 P w K mg base A outer s H->BindsTo s fd args (ps.zip us)->Vals vs us->sp vs H Q E->
  codeAny (model P w) A (.call (.ref f) args) (CR CX outer P w H s Q E) s
theorem FnOk.imp {P:Program} {w:World} {K:PySem.W.Frag} {mg:Str->Option Value} {base:Heap} {CX:CXT} {k:Nat} {f:Addr} {fd:FuncData} {ps:List Str} {sp sp':Sp} (F:FnOk P w K mg base CX k f fd ps sp)
  (h:∀ vs H Q E,sp' vs H Q E->sp vs H Q E):FnOk P w K mg base CX k f fd ps sp':=
 ⟨fun vs H Q E q=>F.len vs H Q E (h _ _ _ _ q),fun A outer s H args us vs Q E hr he hb hv hs=>F.run A outer s H args us vs Q E hr he hb hv (h _ _ _ _ hs)⟩
section
variable {X:Cx} {pins:List (Addr × Obj)} {σ:St} {H:Hp} {s s':Shared}
theorem Inv.env0 (I:Inv X pins σ H s):Env0 X.prog X.w X.K X.mg X.base X.A X.stack s H:=
 ⟨I.ok.frames,I.ok.mod,I.bs,Nat.le_trans I.ok.bsz I.sz,I.stack,I.stkFree,I.hok,I.bare⟩
theorem Inv.after {Q:VK} {u:Value} (I:Inv X pins σ H s) (h:CE X.stack X.prog X.w H s Q u s'):EP X pins σ Q u s':=by
 obtain ⟨v,H',os,bare,un,hok,r,q⟩:=h
 obtain ⟨hh,g,d,t,os'⟩:=s'
 obtain rfl:os' = s.os:=os
 exact ⟨v,H',I.call (h':=hh) (g':=g) (d':=d) (t':=t) (ch:=[]) un hok bare (fun b z=>absurd z (by simp)),r,q⟩
end
noncomputable def Binds (K:PySem.W.Frag) (fd:FuncData) (ps:List Str) (ds:List Value):Prop:=
 ∀ (s:Shared) (us:List Value),K.In s.heap->(us ++ ds).length=ps.length->BindsTo s fd ⟨us,[]⟩ (ps.zip (us ++ ds))
theorem Binds.all {K:PySem.W.Frag} {fd:FuncData} {ps:List Str} (h:∀ us:List Value,us.length=ps.length->bindArgs fd ⟨us,[]⟩=pure (ps.zip us)):Binds K fd ps []:=fun s us _ hl=>by
 rw [List.append_nil] at hl ⊢
 exact .of_eq (h us hl)
structure FnScope (N P:List Str) (sc:Scope):Prop where
 kind:sc.kind=.function
 co:sc.isCoroutine=false
 gen:sc.isGenerator=false
 nd:N.Nodup
 pre:N.take P.length=P
 par:∀ x ∈ P,sc.names.lookup x=some .local\/sc.names.lookup x=some .cell
 nofree:∀ y ∈ sc.names,y.2 ≠ .free
theorem bindL_out {kindOf:Str->Option NameKind} {x:Str}:∀ {binds:List (Str × Value)} {m:Str->Option Value},(∀ v,(x,v) ∉ binds)->bindL kindOf binds m x=m x
 | [],_,_=>rfl
 | (n,v) :: r,m,h=>by
  unfold bindL
  rw [bindL_out fun w hw=>h w (List.mem_cons_of_mem _ hw)]
  split
  ·have:x ≠ n:=by rintro rfl; exact h v List.mem_cons_self
   simp [this]
  ·rfl
theorem bindC_out {kindOf:Str->Option NameKind} {x:Str}:∀ {binds:List (Str × Value)} {m:Str->Option Value},(∀ v,(x,v) ∉ binds)->bindC kindOf binds m x=m x
 | [],_,_=>rfl
 | (n,v) :: r,m,h=>by
  unfold bindC
  rw [bindC_out fun w hw=>h w (List.mem_cons_of_mem _ hw)]
  split
  ·rfl
  ·have:x ≠ n:=by rintro rfl; exact h v List.mem_cons_self
   simp [this]
theorem bindL_get {kindOf:Str->Option NameKind} {x:Str} {v:Value}:∀ {P:List Str} {vs:List Value} {i:Nat} {m:Str->Option Value},P.Nodup->P[i]? = some x->vs[i]? = some v->kindOf x=some .local->
  bindL kindOf (P.zip vs) m x=some v
 | [],_,_,_,_,h,_,_=>by simp at h
 | _ :: _,[],_,_,_,_,h,_=>by simp at h
 | p :: P,w :: vs,0,m,nd,h1,h2,hk=>by
  simp at h1 h2; subst h1; subst h2
  show bindL kindOf ((p,w) :: P.zip vs) m p=_
  unfold bindL
  rw [bindL_out fun v hv=>(List.nodup_cons.mp nd).1 (List.of_mem_zip hv).1,if_pos hk]
  simp
 | p :: P,w :: vs,i + 1,m,nd,h1,h2,hk=>by
  show bindL kindOf ((p,w) :: P.zip vs) m x=_
  unfold bindL
  exact bindL_get (i:=i) (List.nodup_cons.mp nd).2 (by simpa using h1) (by simpa using h2) hk
theorem bindC_get {kindOf:Str->Option NameKind} {x:Str} {v:Value}:∀ {P:List Str} {vs:List Value} {i:Nat} {m:Str->Option Value},P.Nodup->P[i]? = some x->vs[i]? = some v->kindOf x ≠ some .local->
  bindC kindOf (P.zip vs) m x=some v
 | [],_,_,_,_,h,_,_=>by simp at h
 | _ :: _,[],_,_,_,_,h,_=>by simp at h
 | p :: P,w :: vs,0,m,nd,h1,h2,hk=>by
  simp at h1 h2; subst h1; subst h2
  show bindC kindOf ((p,w) :: P.zip vs) m p=_
  unfold bindC
  rw [bindC_out fun v hv=>(List.nodup_cons.mp nd).1 (List.of_mem_zip hv).1,if_neg hk]
  simp
 | p :: P,w :: vs,i + 1,m,nd,h1,h2,hk=>by
  show bindC kindOf ((p,w) :: P.zip vs) m x=_
  unfold bindC
  exact bindC_get (i:=i) (List.nodup_cons.mp nd).2 (by simpa using h1) (by simpa using h2) hk
noncomputable def start (N:List Str) (vs:List V):St:=vs.map some ++ List.replicate (N.length - vs.length) none
noncomputable def cxOf (CX:CXT) (P:Program) (w:World) (K:PySem.W.Frag) (mg:Str->Option Value) (base:Heap) (N:List Str) (qual:Str) (scope:Scope) (f:Addr) (cd:Value) (A:Around) (outer:List Env) (s:Shared) (H:Hp) (E:XK):Cx where
 prog:=P
 w:=w
 K:=K
 mg:=mg
 base:=base
 A:=A.deeper (envOfC qual scope s.heap.objs.size f cd)
 N:=N
 s₀:=s
 H₀:=H
 env:=envOfC qual scope s.heap.objs.size f cd
 outer:=outer
 stack:=envOfC qual scope s.heap.objs.size f cd :: outer
 ex:=[]
 calm:=true
 fn:=fun _=>true
 pn:=[]
 xe:=fun e s'=>wpAny (model P w) (A.deeper (envOfC qual scope s.heap.objs.size f cd)) (leaving (envOfC qual scope s.heap.objs.size f cd) e) (fun _ s''=>CX outer H s E e s'') (fun e' s''=>CX outer H s E e' s'') s'
theorem cell_has {sc:Scope} {n:Nat} {x:Str} (h:sc.names.lookup x=some .cell):∃ c,(cellsFrom n sc.names []).lookup x=some c:=by
 have q:=PySem.W.cellsFrom_some sc.names n [] (.inl h)
 exact Option.isSome_iff_exists.mp q
theorem inv_start {CX:CXT} {P:Program} {w:World} {K:PySem.W.Frag} {mg:Str->Option Value} {base:Heap} {N ps:List Str} {qual:Str} {scope:Scope} {f:Addr} {cd:Value} {A:Around} {outer:List Env} {s s1:Shared} {H:Hp} {E:XK} {us:List Value} {vs:List V}
  (S:FnScope N ps scope) (hd:A.handled=none) (e0:Env0 P w K mg base A outer s H) (hl:vs.length=ps.length) (r:Vals vs us)
  (x:InCallC s s.heap.objs.size (bindL (envOfC qual scope s.heap.objs.size f cd).kindOf (ps.zip us) fun _=>none) (cellsFrom (s.heap.objs.size + 1) scope.names []) (bindC (envOfC qual scope s.heap.objs.size f cd).kindOf (ps.zip us) fun _=>none) s1) :
  Inv (cxOf CX P w K mg base N qual scope f cd A outer s H E) [] (start N vs) H s1:=by
 have hpl:ps.length<=N.length:=by have:=congrArg List.length S.pre; rw [List.length_take] at this; omega
 obtain ⟨h1,tk,rfl,hk⟩:=x.done
 have noA:∀ b:Addr,b ∉ (cxOf CX P w K mg base N qual scope f cd A outer s H E).ex:=fun b z=>absurd (show b ∈ ([]:List Addr) from z) (by simp)
 refine ⟨⟨e0.mod,S.kind,rfl,rfl,Nat.le_refl _,fun y z c h1 h2=>?_,fun y hy=>?_,fun y c _ h=>?_,fun _=>hd,Around.frames_deeper e0.frames,.inr ⟨rfl,rfl⟩,fun b z=>absurd z (noA b),e0.bs,e0.bsz,fun b _ _=>noA b,fun b z=>absurd z (noA b),e0.funs,e0.frf⟩,
  rfl,e0.bare,Un.kept hk,⟨_,x.toInCall.ns,fun i y v h1 h2 h3=>?_⟩,fun y c h=>⟨_,x.cell y c h⟩,e0.hok.fresh (Nat.le_refl _),fun y c h=>?_,fun p hp=>absurd (show p ∈ ([]:List (Addr × Obj)) from hp) (by simp),e0.hok.kept hk,?_⟩
 ·exact name_of_addr x.apart (PySem.mem_of_lookup h1) (PySem.mem_of_lookup h2)
 ·have hy:scope.names.lookup y=some .cell\/scope.names.lookup y=some .free:=hy
  rcases hy with hy | hy
  ·exact cell_has hy
  ·exact absurd rfl (S.nofree _ (PySem.mem_of_lookup hy))
 ·exact Nat.le_of_lt (x.above y c (PySem.mem_of_lookup h))
 ·have hi:i < vs.length:=by
   unfold start at h2
   by_cases hi:i < vs.length
   ·exact hi
   ·rw [List.getElem?_append_right (by simpa using hi)] at h2
    rw [List.getElem?_replicate] at h2
    split at h2 <;> cases h2
  have ha:vs[i]? = some v:=by
   unfold start at h2
   rw [List.getElem?_append_left (by simpa using hi),List.getElem?_map] at h2
   cases e:vs[i]? with
   | none=>rw [e] at h2; cases h2
   | some a=>rw [e] at h2; cases h2; rfl
  obtain ⟨u,hu,rv⟩:=r.get ha
  have hp:ps[i]? = some y:=by
   rw [<-S.pre,List.getElem?_take_of_lt (by omega)]; exact h1
  have ndP:ps.Nodup:=by rw [<-S.pre]; exact S.nd.sublist (List.take_sublist _ _)
  refine ⟨u,rv,?_⟩
  rcases S.par y (List.mem_of_getElem? hp) with k | k
  ·exact .inl ⟨k,bindL_get ndP hp hu k⟩
  ·obtain ⟨c,e⟩:=cell_has (n:=s.heap.objs.size + 1) k
   refine .inr ⟨.inl k,c,e,?_⟩
   have q:=x.cell y c e
   rw [bindC_get ndP hp hu (by show scope.names.lookup y ≠ _; rw [k]; decide)] at q
   exact q
 ·exact e0.hok.fresh (Nat.le_of_lt (x.above y c (PySem.mem_of_lookup h)))
 ·unfold start
  show _=N.length
  rw [List.length_append,List.length_map,List.length_replicate]
  omega
theorem fn_of {CX:CXT} {P:Program} {w:World} {K:PySem.W.Frag} {mg:Str->Option Value} {base:Heap} {k:Nat} {f:Addr} {name qual:Str} {params:Arguments} {body:List Stmt} {scope:Scope} {dV kV doc pm cdv ct oc:Value} {an od:Option Addr}
  {osl:Array (Option Value)} {N ps:List Str} {sp:Sp} (lk:K.lookup f=some ⟨oc,od,.func (PySem.W.fnOf name qual params body scope dV kV doc pm an cdv ct),osl⟩) (hcd:PySem.W.codeIn K cdv qual=true) (S:FnScope N ps scope)
  (len:∀ vs H Q E,sp vs H Q E->vs.length=ps.length)
  (hbody:∀ (A:Around) (outer:List Env) (s:Shared) (H:Hp) (vs:List V) (Q:VK) (E:XK),Room k (A.deeper (envOfC qual scope s.heap.objs.size f cdv))->sp vs H Q E->
   ∃ t,PSs (cxOf CX P w K mg base N qual scope f cdv A outer s H E) body t/\t { nx:=fun _ H'=>Q .non H',rt:=Q } (start N vs) H) :
  FnOk P w K mg base CX (k + 1) f (PySem.W.fnOf name qual params body scope dV kV doc pm an cdv ct) ps sp:=by
 refine ⟨len,fun A outer s H args us vs Q E hr e0 hb r hsp=>?_⟩
 have hl:=len _ _ _ _ hsp
 have KX:K.In s.heap:=e0.mod.kin.keeps fun b o e=>(e0.bs b o e).1
 have lim:s.heap.NoLimit:=e0.mod.nolimit.keeps fun b o e=>(e0.bs b o e).1
 have hkind:∀ y ∈ ps.zip us,scope.names.lookup y.1=some .local\/(scope.names.lookup y.1=some .cell/\((cellsFrom (s.heap.objs.size + 1) scope.names []).lookup y.1).isSome=true):=fun ⟨n,v⟩ hy=>by
  rcases S.par n (List.of_mem_zip hy).1 with q | q
  ·exact .inl q
  ·exact .inr ⟨q,PySem.W.cellsFrom_some _ _ _ (.inl q)⟩
 refine codeAny_call_function hr.depth (KX _ _ lk) rfl S.co S.gen rfl (PySem.W.codeRec_of KX hcd) (hb _ _ _ _ ?_)
 refine wpAny_newFunctionEnv_cells S.kind hkind fun env he s1 x=>?_
 subst he
 refine ⟨lim.keeps x.toInCall.keep,codeAny_func ?_⟩
 obtain ⟨t,ht,hq⟩:=hbody A outer s H vs Q E (hr.deeper _) hsp
 have I:Inv (cxOf CX P w K mg base N qual scope f cdv A outer s H E) [] (start N vs) H s1:=inv_start S hr.hd e0 hl r x
 refine wpAny_mono (ht [] s1 (start N vs) H _ I hq) (fun fl s' hs=>?_) fun e s' hs=>hs
 have fin:∀ {σ':St} {H':Hp} {v:V} {u:Value},Inv (cxOf CX P w K mg base N qual scope f cdv A outer s H E) [] σ' H' s'->RelV v u->Q v H'->CE outer P w H s Q u s':=
  fun {σ' H' v u} J rv q=>⟨v,H',J.os,J.bare,J.base,J.hok,rv,q⟩
 cases fl with
 | ret u=>
  obtain ⟨v,σ',H',J,rv,q⟩:=hs
  exact fin J rv q
 | next=>
  obtain ⟨σ',H',J,q⟩:=hs
  exact fin (v:=V.non) (u:=Value.none) J rfl q
 | brk=>
  obtain ⟨_,_,_,q⟩:=hs
  exact False.elim q
 | cont=>
  obtain ⟨_,_,_,q⟩:=hs
  exact False.elim q
end L2
namespace L2
open PySem PySem.Spec PyProof.Rows
section
variable {X:Cx} {x:Str} {p pos:Pos} {e:Expr} {es:List Expr} {t:TA} {id T:String} {r:List V->Hp->VK->Prop}
noncomputable def tCB (r:List V->Hp->VK->Prop) (t:TA):TE:=fun σ H Q=>t σ H fun vs H1=>r vs H1 Q
theorem pe_callB (hc:CallR X (.builtin id) r) (hg:Gl X x) (hm:X.mg x=none) (hv:bootBuiltins x=some (.builtin id)) (ha:PA X (e :: es) t) (hn:x ≠ "__name__":=by decide) (hdb:(x == ("__debug__":Str))=false:=by decide)
  (he:starEach (e :: es) X.env=(false,eval e X.env) :: starEach es X.env:=by rfl) (hpl:(backTo pos (starEach es X.env)).any (·.1)=false:=by rfl):PE X (.Call (.Name x p) (e :: es) [] pos) (tCB r t):=by
 intro pins s σ H Q I h
 refine wpAny_Call_Name_kw (ld_blt I hg hm hv ?_ hn hdb)
 exact PyProof.Rows.callWith_builtin1 (thn (ha pos pins s σ H _ I h) fun us s1 ⟨vs,H1,I1,r1,q1⟩=>hc pins s1 σ H1 vs us Q I1 r1 q1) he hpl
theorem pe_callTy (hc:CallR X (.type T) r) (hg:Gl X x) (hm:X.mg x=none) (hv:bootBuiltins x=some (.type T)) (ha:PA X (e :: es) t) (hn:x ≠ "__name__":=by decide) (hdb:(x == ("__debug__":Str))=false:=by decide)
  (he:starEach (e :: es) X.env=(false,eval e X.env) :: starEach es X.env:=by rfl) (hpl:(backTo pos (starEach es X.env)).any (·.1)=false:=by rfl):PE X (.Call (.Name x p) (e :: es) [] pos) (tCB r t):=by
 intro pins s σ H Q I h
 refine wpAny_Call_Name_kw (ld_blt I hg hm hv ?_ hn hdb)
 exact PyProof.Rows.callWith_type1 (thn (ha pos pins s σ H _ I h) fun us s1 ⟨vs,H1,I1,r1,q1⟩=>hc pins s1 σ H1 vs us Q I1 r1 q1) he hpl
end
end L2
namespace HT
open PySem PyProof.Rows
noncomputable def lexLt:List Int->List Int->Bool
 | [],[]=>false
 | [],_ :: _=>true
 | _ :: _,[]=>false
 | x :: xs,y :: ys=>if x=y then lexLt xs ys else decide (x < y)
theorem lexLt_cons (x y:Int) (xs ys:List Int):lexLt (x :: xs) (y :: ys)=if x=y then lexLt xs ys else decide (x < y):=rfl
theorem lexLt_nil_nil:lexLt [] []=false:=rfl
section
variable {prog:Program} {w:World} {A:Around} {E:Value->Shared->Prop} {s:Shared}
theorem cat_tup {t b:Addr} {vs ws:List Value} {Q:Value->Shared->Prop} (ht:IsTup s.heap t vs.toArray) (hb:IsTup s.heap b ws.toArray) (hv:vs ≠ [])
  (h1:ws=[]->Q (.ref t) s) (h2:ws ≠ []->Q (.ref s.heap.objs.size) { s with heap:=s.heap.push { cls:=.type "tuple",data:=.seq (vs ++ ws).toArray } })
  (hsz:vs.length + ws.length<=sizeLine):wpAny (model prog w) A (binaryOp .Add (.ref t) (.ref b)) Q E s:=by
 obtain ⟨⟨cls,dd,data,sl⟩,ho,hc,n,hd⟩:=id ht
 obtain ⟨⟨cls2,dd2,data2,sl2⟩,ho2,hc2,n2,hd2⟩:=id hb
 simp only at hc hd hc2 hd2
 subst hc hd hc2 hd2
 have e:vs.toArray ++ ws.toArray=(vs ++ ws).toArray:=by simp
 by_cases hw:ws=[]
 ·exact concat_meets ⟨_,ho,rfl⟩ ⟨_,ho2,rfl⟩ noFill_tuple_add seq_tuple_add PySem.F.slot_tuple_add PySem.F.entry_tuple_add (PySem.F.args_tuple_add_2 _ _)
   (tuple_addW1 t b vs.toArray ws.toArray n n2 dd dd2 sl sl2 (by simpa using hv) (by simp [hw])) ⟨ho,ho2,h1 hw⟩
 ·refine concat_meets ⟨_,ho,rfl⟩ ⟨_,ho2,rfl⟩ noFill_tuple_add seq_tuple_add PySem.F.slot_tuple_add PySem.F.entry_tuple_add (PySem.F.args_tuple_add_2 _ _)
   (tuple_addW2 t b vs.toArray ws.toArray n n2 dd dd2 sl sl2 (by simpa using hv) (by simpa using hw) (by rw [List.size_toArray,List.size_toArray]; exact hsz)) ⟨ho,ho2,?_⟩
  rw [e]
  exact h2 hw
end
end HT
namespace L2
open PySem PySem.Spec PyProof.Rows
section
variable {X:Cx} {e:Expr} {te:TE} {lo hi:Option Expr} {tl th:TO} {pos p2:Pos}
noncomputable def rCatT (K:PySem.W.Frag):R2:=fun x y H Q=>∃ a b xs ys,x=.ref a/\y=.ref b/\SqT K H a xs/\SqT K H b ys/\xs ≠ []/\xs.length + ys.length<=sizeLine/\
 (ys=[]->Q (.ref a) H)/\(ys ≠ []->∀ p,H p=none->Q (.ref p) (upd H p (.tup (xs ++ ys))))
theorem Vals.nil_iff {xs:List V} {us:List Value} (r:Vals xs us):us=[] ↔ xs=[]:=by
 cases r with
 | nil=>simp
 | cons _ _=>simp
theorem op_catT:OpR X (binaryOp .Add) (rCatT X.K):=by
 intro pins s σ H x y v u Q I rx ry h
 obtain ⟨a,b,xs,ys,rfl,rfl,ha,hb,hx,hz,q1,q2⟩:=h
 cases rx
 cases ry
 obtain ⟨its,r1,p1,_⟩:=I.tuple ha
 obtain ⟨its2,r2,p2,_⟩:=I.tuple hb
 refine HT.cat_tup p1 p2 (fun z=>hx (r1.nil_iff.mp z)) (fun z=>⟨.ref a,H,I,rfl,q1 (r2.nil_iff.mp z)⟩) (fun z=>?_) (by rw [<-r1.length,<-r2.length]; exact hz)
 refine ⟨.ref s.heap.objs.size,_,I.laid (t':=s.toks) (o:=.tup (xs ++ ys)) (fun b ob q=>Heap.get?_push_of_some _ q) (Nat.le_refl _) ?_,rfl,q2 (fun w=>z (r2.nil_iff.mpr w)) _ (I.hok.fresh (Nat.le_refl _))⟩
 exact ⟨by rw [List.length_append]; exact hz,_,r1.append r2,IsTup.new _ _⟩
end
end L2
namespace L2
open PySem PySem.Spec PyProof.Rows
noncomputable def ixN (n:Nat) (i:Int):Option Nat:=if 0<=i then (if i < n then some i.toNat else none) else if -(n:Int)<=i then some (i + n).toNat else none
noncomputable def atI {α:Type} (xs:List α) (i:Int):Option α:=(ixN xs.length i).bind fun j=>xs[j]?
theorem ixN_seq {n:Nat} {i:Int} {j:Nat} (h:ixN n i=some j):seqIndex? i n=some j/\j < n/\-(n:Int)<=i/\i < n:=by
 unfold ixN at h
 by_cases h0:0<=i
 ·rw [if_pos h0] at h
  by_cases h1:i < n
  ·rw [if_pos h1] at h
   have e:i.toNat=j:=Option.some.inj h
   exact ⟨by rw [seqIndex_of h0 h1,e],by omega,by omega,h1⟩
  ·rw [if_neg h1] at h; cases h
 ·rw [if_neg h0] at h
  by_cases h1:-(n:Int)<=i
  ·rw [if_pos h1] at h
   have e:(i + n).toNat=j:=Option.some.inj h
   exact ⟨by rw [seqIndex_neg (by omega) h1,e],by omega,h1,by omega⟩
  ·rw [if_neg h1] at h; cases h
theorem atI_get {α:Type} {xs:List α} {i:Int} {v:α} (h:atI xs i=some v):∃ j,seqIndex? i xs.length=some j/\xs[j]? = some v/\j < xs.length/\-(xs.length:Int)<=i/\i < xs.length:=by
 unfold atI at h
 cases e:ixN xs.length i with
 | none=>rw [e] at h; cases h
 | some j=>
  rw [e] at h
  obtain ⟨h1,h2,h3,h4⟩:=ixN_seq e
  exact ⟨j,h1,h,h2,h3,h4⟩
noncomputable def PlainIx (b:Expr):Prop:=∀ o i,subscripted b false o i=operate [o,i] (getItem o i)
noncomputable def IxR (X:Cx) (r:R2):Prop:=
 ∀ (value slice:Expr) (pins:List (Addr × Obj)) (s:Shared) (σ:St) (H:Hp) (x y:V) (v u:Value) (Q:VK),Inv X pins σ H s->RelV x v->RelV y u->r x y H Q->
  subscripted slice false v u=operate [v,u] (getItem v u)->wpAny (model X.prog X.w) X.A (subscriptTail value slice v u) (EP X pins σ Q) X.xe s
noncomputable def MtR (X:Cx) (id:String) (r:V->List V->Hp->VK->Prop):Prop:=
 ∀ (pins:List (Addr × Obj)) (s:Shared) (σ:St) (H:Hp) (x:V) (xs:List V) (v:Value) (us:List Value) (Q:VK),Inv X pins σ H s->RelV x v->Vals xs us->r x xs H Q->
  wpAny (model X.prog X.w) X.A (call (.builtin id) (v :: us)) (EP X pins σ Q) X.xe s
section
variable {X:Cx} {a b:Expr} {ta tb:TE} {pos:Pos}
theorem IxR.or {r r':R2} (h:IxR X r) (h':IxR X r'):IxR X (fun x y H Q=>r x y H Q\/r' x y H Q):=by
 intro value slice pins s σ H x y v u Q I rx ry q hs
 rcases q with q | q
 ·exact h value slice pins s σ H x y v u Q I rx ry q hs
 ·exact h' value slice pins s σ H x y v u Q I rx ry q hs
theorem pe_ix {r:R2} (hr:IxR X r) (ha:PE X a ta) (hb:PE X b tb) (hs:PlainIx b):PE X (.Subscript a b pos) (tOp r ta tb):=by
 intro pins s σ H Q I h
 exact Subscript_ (binT ha hb I h fun v u s2 x y H2 I2 rx ry q=>hr a b pins s2 σ H2 x y v u Q I2 rx ry q (hs _ _))
noncomputable def rIxL (K:PySem.W.Frag):R2:=fun x y H Q=>∃ p xs i v,x=.ref p/\y=.int i/\SqL K H p xs/\atI xs i=some v/\Q v H
noncomputable def rIxT (K:PySem.W.Frag):R2:=fun x y H Q=>∃ p xs i v,x=.ref p/\y=.int i/\SqT K H p xs/\atI xs i=some v/\Q v H
theorem ix_list:IxR X (rIxL X.K):=by
 intro value slice pins s σ H x y v u Q I rx ry h hs
 obtain ⟨p,xs,i,z,rfl,rfl,hq,he,q⟩:=h
 cases rx
 obtain ⟨t,rfl⟩:=ry
 obtain ⟨its,r,pl,hz⟩:=I.list hq
 obtain ⟨j,h1,h2,h3,h4,h5⟩:=atI_get he
 obtain ⟨w,ew,rw'⟩:=r.get h2
 have hl:=r.length
 have hn:=line63
 have fin:EP X pins σ Q w s:=⟨z,H,I,rw',q⟩
 by_cases h0:0<=i
 ·have hj:i.toNat=j:=by
   rw [seqIndex_of h0 h5] at h1
   exact Option.some.inj h1
  exact item_listR pl.isList h0 (by omega) (by rw [hj]; simpa using ew) fin hs
 ·have hj:(i + (its.toArray.size:Int)).toNat=j:=by
   rw [seqIndex_neg (by omega) h4] at h1
   rw [List.size_toArray,<-hl]
   exact Option.some.inj h1
  exact subscriptTail_builtinR (x:=w) pl.isList.typeIs slot_list_getitem.lookup
   (wpAny_getItem_list_neg (Q:=fun r s'=>r=w/\EP X pins σ Q r s') pl.isList (by omega) (by rw [List.size_toArray] <;> omega) (by omega) (by rw [hj]; simpa using ew) ⟨rfl,fin⟩) hs
theorem ix_tup:IxR X (rIxT X.K):=by
 intro value slice pins s σ H x y v u Q I rx ry h hs
 obtain ⟨p,xs,i,z,rfl,rfl,hq,he,q⟩:=h
 cases rx
 obtain ⟨t,rfl⟩:=ry
 obtain ⟨its,r,pl,hz⟩:=I.tuple hq
 obtain ⟨j,h1,h2,h3,h4,h5⟩:=atI_get he
 obtain ⟨w,ew,rw'⟩:=r.get h2
 have hl:=r.length
 have hn:=line63
 have fin:EP X pins σ Q w s:=⟨z,H,I,rw',q⟩
 exact subscriptTail_builtinR (x:=w) pl.typeIs slot_tuple_getitem.lookup
  (getItem_tuple (j:=j) (Q:=fun r s'=>r=w/\EP X pins σ Q r s') pl (by omega) (by omega) (by rw [List.size_toArray,<-hl]; exact h1) (by simpa using ew) ⟨rfl,fin⟩) hs
noncomputable def flatV:V->Bool
 | .non=>true
 | .bl _=>true
 | .int _=>true
 | .str _=>true
 | _=>false
noncomputable def eqV:V->V->Bool
 | .non,.non=>true
 | .bl a,.bl b=>a == b
 | .bl a,.int b=>(if a then 1 else 0) == b
 | .int a,.bl b=>a == (if b then 1 else 0)
 | .int a,.int b=>a == b
 | .str a,.str b=>a == b
 | _,_=>false
theorem eqAt_V {A:Around} {s:Shared} {y x:V} {u v:Value} (ry:RelV y u) (rx:RelV x v) (fy:flatV y=true) (fx:flatV x=true):SeqAt.EqAt A s u v (eqV y x):=by
 cases y with
 | non=>
  cases ry
  cases x with
  | non=>cases rx; exact SeqAt.EqAt.same _
  | bl b=>cases rx; exact SeqAt.EqAt.none_bool b
  | int b=>obtain ⟨t,rfl⟩:=rx; exact SeqAt.EqAt.none_int b t
  | str b=>obtain ⟨t,rfl⟩:=rx; exact SeqAt.EqAt.none_str b t
  | _=>exact absurd (show false=true from fx) Bool.false_ne_true
 | bl a=>
  cases ry
  cases x with
  | non=>cases rx; exact SeqAt.EqAt.bool_none a
  | bl b=>cases rx; exact SeqAt.EqAt.bool_bool a b
  | int b=>obtain ⟨t,rfl⟩:=rx; exact SeqAt.EqAt.bool_int a b t
  | str b=>obtain ⟨t,rfl⟩:=rx; exact SeqAt.EqAt.bool_str a b t
  | _=>exact absurd (show false=true from fx) Bool.false_ne_true
 | int a=>
  obtain ⟨t',rfl⟩:=ry
  cases x with
  | non=>cases rx; exact SeqAt.EqAt.int_none a t'
  | bl b=>cases rx; exact SeqAt.EqAt.int_bool a t' b
  | int b=>obtain ⟨t,rfl⟩:=rx; exact SeqAt.EqAt.int_int a t' b t
  | str b=>obtain ⟨t,rfl⟩:=rx; exact SeqAt.EqAt.int_str a t' b t
  | _=>exact absurd (show false=true from fx) Bool.false_ne_true
 | str a=>
  obtain ⟨t',rfl⟩:=ry
  cases x with
  | non=>cases rx; exact SeqAt.EqAt.str_none a t'
  | bl b=>cases rx; exact SeqAt.EqAt.str_bool a t' b
  | int b=>obtain ⟨t,rfl⟩:=rx; exact SeqAt.EqAt.str_int a t' b t
  | str b=>obtain ⟨t,rfl⟩:=rx; exact SeqAt.EqAt.str_str a t' b t
  | _=>exact absurd (show false=true from fx) Bool.false_ne_true
 | _=>exact absurd (show false=true from fy) Bool.false_ne_true
noncomputable def eqU (x:V) (u:Value):Bool:=match u with
 | .none=>eqV .non x
 | .bool b=>eqV (.bl b) x
 | .int i _=>eqV (.int i) x
 | .str z _=>eqV (.str z) x
 | _=>false
theorem eqU_of {x y:V} {u:Value} (r:RelV y u) (f:flatV y=true):eqU x u=eqV y x:=by
 cases y with
 | non=>cases r; rfl
 | bl b=>cases r; rfl
 | int i=>obtain ⟨t,rfl⟩:=r; rfl
 | str z=>obtain ⟨t,rfl⟩:=r; rfl
 | _=>exact absurd (show false=true from f) Bool.false_ne_true
theorem any_eqU {x:V}:∀ {xs:List V} {us:List Value},Vals xs us->xs.all flatV=true->us.any (eqU x)=xs.any fun y=>eqV y x
 | _,_,.nil,_=>rfl
 | y :: xs,u :: us,.cons r t,f=>by
  rw [List.all_cons,Bool.and_eq_true] at f
  rw [List.any_cons,List.any_cons,eqU_of r f.1,any_eqU t f.2]
theorem mem_eqAt {A:Around} {s:Shared} {x:V} {v:Value} (rx:RelV x v) (fx:flatV x=true):∀ {xs:List V} {us:List Value},Vals xs us->xs.all flatV=true->∀ u ∈ us,SeqAt.EqAt A s u v (eqU x u)
 | _,_,.nil,_=>fun u hu=>by cases hu
 | y :: xs,u :: us,.cons r t,f=>fun u' hu=>by
  rw [List.all_cons,Bool.and_eq_true] at f
  rcases List.mem_cons.mp hu with rfl | hu
  ·rw [eqU_of r f.1]; exact eqAt_V r rx f.1 fx
  ·exact mem_eqAt rx fx t f.2 u' hu
noncomputable def inV (x:V) (xs:List V):Bool:=xs.any fun y=>eqV y x
noncomputable def rIn (K:PySem.W.Frag) (neg:Bool):R2:=fun x y H Q=>∃ p xs,y=.ref p/\(SqL K H p xs\/SqT K H p xs)/\flatV x=true/\xs.all flatV=true/\Q (.bl (if neg then !inV x xs else inV x xs)) H
theorem op_notIn_seq:OpR X (compareOp .NotIn) (rIn X.K true):=by
 intro pins s σ H x y v u Q I rx ry h
 obtain ⟨p,xs,rfl,hq,fx,fs,q⟩:=h
 cases ry
 rcases hq with hq | hq
 ·obtain ⟨its,r,pl,hz⟩:=I.list hq
  refine SeqAt.notIn_listAt (eqU x) pl.isList (fun w hw=>mem_eqAt rx fx r fs w (by simpa using hw)) ⟨.bl _,H,I,rfl,?_⟩
  rw [show its.toArray.any (eqU x)=its.any (eqU x) by simp,any_eqU r fs]
  exact q
 ·obtain ⟨its,r,pl,hz⟩:=I.tuple hq
  refine SeqAt.notIn_tupleAt (eqU x) pl (fun w hw=>mem_eqAt rx fx r fs w (by simpa using hw)) ⟨.bl _,H,I,rfl,?_⟩
  rw [show its.toArray.any (eqU x)=its.any (eqU x) by simp,any_eqU r fs]
  exact q
theorem call_len_seq:CallR X (.builtin "len") (fun xs H Q=>∃ p ys,xs=[.ref p]/\(SqL X.K H p ys\/SqT X.K H p ys)/\Q (.int ys.length) H):=by
 intro pins s σ H xs us Q I r h
 obtain ⟨p,ys,rfl,hq,q⟩:=h
 obtain ⟨u,rfl,rx⟩:=vals1 r
 cases rx
 have hn:=line63
 rcases hq with hq | hq
 ·obtain ⟨its,r',pl,hz⟩:=I.list hq
  have hlen:=r'.length
  exact Calls.call_len_list pl.isList (by simp only [List.size_toArray] <;> omega) ⟨.int ys.length,H,I.tok _,⟨s.toks + 1,by rw [List.size_toArray,hlen]⟩,q⟩
 ·obtain ⟨its,r',pl,hz⟩:=I.tuple hq
  have hlen:=r'.length
  exact len_tuple pl (by simp only [List.size_toArray] <;> omega) ⟨.int ys.length,H,I.tok _,⟨s.toks + 1,by rw [List.size_toArray,hlen]⟩,q⟩
noncomputable def tyV (K:PySem.W.Frag) (T:String) (x:V) (H:Hp):Prop:=match x with
 | .str _=>T = "str"
 | .int _=>T = "int"
 | .ref p=>(T = "list"/\∃ xs,SqL K H p xs)\/(T = "tuple"/\∃ o,K.lookup p=some o/\o.cls=.type "tuple"/\o.dict=none)\/
   (T = "dict"/\((∃ kvs,H p=some (.dK kvs))\/∃ kvs,H p=some (.dT kvs)))\/(T = "set"/\∃ S n,H p=some (.set S n))
 | _=>False
theorem tyV_is {pins:List (Addr × Obj)} {σ:St} {H:Hp} {s:Shared} {T:String} {x:V} {v:Value} (I:Inv X pins σ H s) (r:RelV x v) (ty:tyV X.K T x H) :
  s.TypeIs v T/\∀ a,v=.ref a->∃ ob,s.heap.get? a=some ob/\ob.dict=none:=by
 cases x with
 | str z=>
  obtain ⟨t,rfl⟩:=r
  cases (show T = "str" from ty)
  exact ⟨typeIs_str s z t,fun _ e=>nomatch e⟩
 | int i=>
  obtain ⟨t,rfl⟩:=r
  cases (show T = "int" from ty)
  exact ⟨typeIs_int s i t,fun _ e=>nomatch e⟩
 | ref p=>
  cases r
  rcases ty with ⟨rfl,xs,hq⟩ | ⟨rfl,o,hk,hc,hd⟩ | ⟨rfl,hk⟩ | ⟨rfl,S,n,hk⟩
  ·obtain ⟨its,_,pl,_⟩:=I.list hq
   refine ⟨pl.isList.typeIs,fun a e=>?_⟩
   cases e
   obtain ⟨o,n,e,c,hd,_⟩:=pl
   exact ⟨o,e,hd⟩
  ·refine ⟨⟨o,I.kIn p o hk,hc⟩,fun a e=>?_⟩
   cases e
   exact ⟨o,I.kIn _ o hk,hd⟩
  ·have z:∃ o,s.heap.get? p=some o/\o.ExactDict:=by
    rcases hk with ⟨kvs,hk⟩ | ⟨kvs,hk⟩
    ·obtain ⟨_,_,_,_,o,_,_,e,ex,_⟩:=I.hok p _ hk
     exact ⟨o,e,ex⟩
    ·obtain ⟨_,_,_,_,o,_,_,e,ex,_⟩:=I.hok p _ hk
     exact ⟨o,e,ex⟩
   obtain ⟨o,e,ex⟩:=z
   refine ⟨⟨o,e,ex.1⟩,fun a e2=>?_⟩
   cases e2
   exact ⟨o,e,ex.2.1⟩
  ·obtain ⟨o,_,_,_,e,ex,_⟩:=I.hok p _ hk
   refine ⟨⟨o,e,ex.1⟩,fun a e2=>?_⟩
   cases e2
   exact ⟨o,e,ex.2.1⟩
 | _=>exact False.elim ty
noncomputable def tBM (K:PySem.W.Frag) (T:String) (r:V->List V->Hp->VK->Prop) (to:TE) (t:TA):TE:=fun σ H Q=>to σ H fun x H1=>tyV K T x H1/\t σ H1 fun xs H2=>r x xs H2 Q
variable {o e:Expr} {es:List Expr} {to:TE} {t:TA} {name:Str} {apos cpos:Pos} {T id:String} {r:V->List V->Hp->VK->Prop}
theorem pe_bm (pa:PlainAttrs T) (slot:Slot T name id) (hty:typeOf (.builtin id)=pure (.type "method_descriptor")) (hm:MtR X id r) (ho:PE X o to) (ha:PA X (e :: es) t)
  (hbase:attributeBase o name X.env (eval o X.env)=eval o X.env:=by rfl)
  (hfew:((backTo cpos (starEach (e :: es) X.env)).all (fun x=>!x.1) && (backToKw cpos (keywordEach [] X.env)).all (fun x=>x.1.isSome)
   && decide ((e :: es).length + ([]:List Keyword).length + (if ([]:List Keyword).isEmpty then 0 else 1) < 30))=true:=by rfl)
  (hline:(apos.endLine == cpos.line)=true:=by rfl) (hs:starEach (e :: es) X.env=(false,eval e X.env) :: starEach es X.env:=by rfl) (hplain:(backTo cpos (starEach es X.env)).any (·.1)=false:=by rfl) :
  PE X (.Call (.Attribute o name apos) (e :: es) [] cpos) (tBM X.K T r to t):=by
 intro pins s σ H Q I h
 refine wpAny_Call_method_late hbase hfew hline rfl (thn (ho pins s σ H _ I h) fun v s1 ⟨x,H1,I1,r1,ty,q1⟩=>?_)
 obtain ⟨h1,h2⟩:=tyV_is I1 r1 ty
 refine ⟨T,id,pa,slot,hty,h1,h2,?_⟩
 have hA:=ha cpos pins s1 σ H1 _ I1 q1
 rw [hs] at hA ⊢
 refine Calls.callWith_builtin (by show (false || (backTo cpos (starEach es X.env)).any (·.1))=false; rw [hplain] <;> rfl) (Calls.evalArgs_plain ?_)
 exact thn hA fun us s2 ⟨vs,H2,I2,r2,q2⟩=>hm pins s2 σ H2 x vs v us Q I2 r1 r2 q2
end
end L2
namespace L2
open PySem PySem.Spec PyProof.Rows
noncomputable def MtM (X:Cx) (id:String) (r:V->List V->Hp->VK->Prop):Prop:=
 ∀ (pins:List (Addr × Obj)) (s:Shared) (σ:St) (H:Hp) (x:V) (xs:List V) (v:Value) (us:List Value) (Q:VK),Inv X pins σ H s->RelV x v->Vals xs us->r x xs H Q->
  wpAny (model X.prog X.w) X.A (call (.builtin id) (v :: us)) (EP X pins σ Q) X.xe s
theorem Vals.one:∀ {x:V} {us:List Value},Vals [x] us->∃ u,us=[u]/\RelV x u
 | _,_,.cons r .nil=>⟨_,rfl,r⟩
theorem Vals.rep {xs:List V} {us:List Value} (h:Vals xs us):∀ k:Nat,Vals (List.replicate k xs).flatten (List.replicate k us).flatten
 | 0=>.nil
 | k + 1=>by
  rw [List.replicate_succ,List.replicate_succ,List.flatten_cons,List.flatten_cons]
  exact Vals.append h (Vals.rep h k)
theorem foldl_rep (its:List Value):∀ (k:Nat) (acc:List Value),
  List.foldl (fun x1 x2=>x1 ++ x2) acc.toArray (List.replicate k its.toArray)=(acc ++ (List.replicate k its).flatten).toArray
 | 0,acc=>by simp
 | k + 1,acc=>by
  have e:acc.toArray ++ its.toArray=(acc ++ its).toArray:=by simp
  have e2:(acc ++ its) ++ (List.replicate k its).flatten=acc ++ (List.replicate (k + 1) its).flatten:=by
   rw [List.replicate_succ,List.flatten_cons,List.append_assoc]
  rw [<-e2,<-foldl_rep its k (acc ++ its),<-e,List.replicate_succ,List.foldl_cons]
section
variable {X:Cx} {pins:List (Addr × Obj)} {σ:St} {H:Hp} {s:Shared} {l b:Addr} {xs ys zs:List V}
theorem Inv.lset {its its':List Value} {n:Nat} {f:Array Value->Array Value} {t':Nat} (I:Inv X pins σ H s) (hH:H l=some (.lst xs))
  (e:s.heap.get? l=some { cls:=.type "list",data:=.seq its.toArray n }) (hf:f its.toArray=its'.toArray) (hv:Vals ys its') (hz:ys.length<=sizeLine) :
  Inv X pins σ (upd H l (.lst ys)) { s with heap:=s.heap.update l (Obj.mapSeq f),toks:=t' }:=by
 have q:=PySem.IsL.update e f
 rw [hf] at q
 refine I.write (x:=l) (e:=l) (by rw [hH]; exact trivial) (.inl rfl) (fun b' u hb hu=>(Heap.get?_update_other s.heap (Obj.mapSeq f) (Ne.symm hb)).trans hu) ⟨_,q⟩ ?_
 exact ⟨hz,its',_,hv,q⟩
theorem Inv.lnew {its:List Value} {t':Nat} (I:Inv X pins σ H s) (hv:Vals ys its) (hz:ys.length<=sizeLine) :
  Inv X pins σ (upd H s.heap.objs.size (.lst ys)) { s with heap:=s.heap.push { cls:=.type "list",data:=.seq its.toArray },toks:=t' }:=
 I.laid (fun _ _ q=>Heap.get?_push_of_some _ q) (Nat.le_refl _) ⟨hz,its,0,hv,Heap.get?_push_size _ rfl⟩
theorem Inv.fresh (I:Inv X pins σ H s):H s.heap.objs.size=none:=I.hok.fresh (Nat.le_refl _)
theorem Inv.lstM (I:Inv X pins σ H s) (hH:H l=some (.lst xs)):xs.length<=sizeLine/\∃ (its:List Value) (n:Nat),Vals xs its/\xs.length=its.length/\s.heap.get? l=some { cls:=.type "list",data:=.seq its.toArray n }:=by
 obtain ⟨z,its,n,r,e⟩:=I.hok l _ hH
 exact ⟨z,its,n,r,r.length,e⟩
theorem notLongL {n:Nat} (h:n<=sizeLine):Builtin.List.listTooLong n=false:=by
 unfold Builtin.List.listTooLong
 exact decide_eq_false (by omega)
end
section
variable {X:Cx}
noncomputable def rAppend:V->List V->Hp->VK->Prop:=fun x vs H Q=>∃ l xs y,x=.ref l/\vs=[y]/\H l=some (.lst xs)/\xs.length < sizeLine/\Q .non (upd H l (.lst (xs ++ [y])))
theorem mt_append:MtM X "list.append" rAppend:=by
 intro pins s σ H x vs v us Q I rx rv h
 obtain ⟨l,xs,y,rfl,rfl,hH,hz,q⟩:=h
 cases rx
 obtain ⟨u,rfl,ru⟩:=rv.one
 obtain ⟨z,its,n,r,hl,e⟩:=I.lstM hH
 refine call_meets F.slot_list_append ⟨_,e,rfl⟩ F.entry_list_append (F.args_list_append_2 _ _) (PySem.list_append l its.toArray n u (by rw [List.size_toArray]; omega)) ⟨e,?_⟩
 refine ⟨.non,_,I.lset (its':=its ++ [u]) hH e (by simp) (r.append (.cons ru .nil)) ?_,rfl,q⟩
 rw [List.length_append,List.length_singleton]
 omega
noncomputable def rCat:R2:=fun x y H Q=>∃ l b xs zs,x=.ref l/\y=.ref b/\H l=some (.lst xs)/\H b=some (.lst zs)/\xs.length + zs.length<=sizeLine/\∀ p,H p=none->Q (.ref p) (upd H p (.lst (xs ++ zs)))
theorem op_cat:OpR X (binaryOp .Add) rCat:=by
 intro pins s σ H x y v u Q I rx ry h
 obtain ⟨l,b,xs,zs,rfl,rfl,hH,hB,hz,q⟩:=h
 cases rx
 cases ry
 obtain ⟨z,its,n,r,hl,e⟩:=I.lstM hH
 obtain ⟨z2,its2,n2,r2,hl2,e2⟩:=I.lstM hB
 refine PySem.P.add_list e e2 ?_ (by rw [List.size_toArray,List.size_toArray]; omega)
 have ea:its.toArray ++ its2.toArray=(its ++ its2).toArray:=by simp
 rw [ea]
 exact ⟨.ref _,_,I.lnew (t':=s.toks) (r.append r2) (by rw [List.length_append]; omega),rfl,q _ I.fresh⟩
noncomputable def rRep:R2:=fun x y H Q=>∃ l k xs,x=.ref l/\y=.int k/\H l=some (.lst xs)/\-(2 ^ 63)<=k/\k < 2 ^ 63/\xs.length * k.toNat<=sizeLine/\
 ∀ p,H p=none->Q (.ref p) (upd H p (.lst (List.replicate k.toNat xs).flatten))
theorem len_rep {α:Type} (xs:List α) (k:Nat):(List.replicate k xs).flatten.length=k * xs.length:=by
 induction k with
 | zero=>simp
 | succ k ih=>rw [List.replicate_succ,List.flatten_cons,List.length_append,ih,Nat.succ_mul,Nat.add_comm]
theorem op_rep:OpR X (binaryOp .Mult) rRep:=by
 intro pins s σ H x y v u Q I rx ry h
 obtain ⟨l,k,xs,rfl,rfl,hH,h1,h2,hz,q⟩:=h
 cases rx
 obtain ⟨t,rfl⟩:=ry
 obtain ⟨z,its,n,r,hl,e⟩:=I.lstM hH
 have hlen:its.toArray.size * k.toNat<=sizeLine:=by rw [List.size_toArray,<-hl]; exact hz
 have hcap:¬ its.toArray.size * k.toNat > (2 ^ 63 - 1) / 8:=by
  have:(sizeLine:Nat)<=(2 ^ 63 - 1) / 8:=by decide
  omega
 have hfit:¬ (!Builtin.List.listFitsIndex k)=true:=by
  rw [fitsIndex_both h1 h2]
  exact Bool.false_ne_true
 have hlong:¬ Builtin.List.listTooLong (its.toArray.size * k.toNat)=true:=by
  rw [notLongL hlen]
  exact Bool.false_ne_true
 have hnew:List.foldl (fun x1 x2=>x1 ++ x2) #[] (List.replicate (if its.toArray.isEmpty=true then 0 else k.toNat) its.toArray)=(List.replicate k.toNat its).flatten.toArray:=by
  have f0:∀ m:Nat,List.foldl (fun x1 x2=>x1 ++ x2) #[] (List.replicate m its.toArray)=(List.replicate m its).flatten.toArray:=fun m=>by
   have:=foldl_rep its m []
   rw [List.nil_append] at this
   exact this
  rw [f0]
  cases its with
  | nil=>simp
  | cons a r'=>rw [if_neg (by simp)]
 refine wpAny_binaryOp_repeat_ref (T:="list") (U:="int") (by decide) ⟨_,e,rfl⟩ (fun s'=>typeIs_int s' k t) noFill_list_mul F.fills_int_mul F.slot_int_rmul repeat_list F.slot_int_index.lookup
  (call_meets F.slot_int_rmul (typeIs_int s k t) F.entry_int_rmul (F.args_int_rmul_2 _ _) (int___rmul___int_list k t l its.toArray n)
   ⟨e,rfl,⟨_,e,rfl⟩,call_meets F.slot_list_mul ⟨_,e,rfl⟩ F.entry_list_mul (F.args_list_mul_2 _ _) (AutoListH.list___mul___list_int_3 l its.toArray n k t hfit hcap hlong) ⟨e,?_⟩⟩)
 rw [hnew]
 exact ⟨.ref _,_,I.lnew (t':=s.toks) (r.rep k.toNat) (by rw [len_rep,Nat.mul_comm]; exact hz),rfl,q _ I.fresh⟩
end
end L2
namespace Att
open PySem PySem.W PySem.Calls PyProof.Rows
theorem ints_of_wellAll {P:Params} {h:Heap}:∀ (ns:List Int) (vs:List Value),WellAll P h vs (ns.map WData.int)->IntsAre vs ns:=by
 intro ns
 induction ns with
 | nil=>
  intro vs w
  rw [List.map_nil] at w
  cases w
  exact .nil
 | cons n ns ih=>
  intro vs w
  rw [List.map_cons] at w
  cases w with
  | cons a b=>
   cases a
   exact .cons _ _ (ih _ b)
theorem script_of {l:OpenLaw} {n:Nat} (hn:l.most=some n) {P:Params} {h:Heap} {args:List WData} {vals:List Value}
  (hpre:l.row.toRowW.claim.pre args=true) (hwl:WellAll P h vals args) :
  ∃ a vs ns,vals=[Value.ref a]/\args=[WData.list (ns.map WData.int)]/\h.get? a=some { cls:=.type "list",data:=.seq vs.toArray }/\IntsAre vs ns/\ns.length<=n:=by
 have hsh:WShape.hasAll [] args [.list .int]=true:=(pre_splitW hpre).1
 have hc:l.pre.holds [] { args:=args } = true:=(pre_splitW hpre).2
 obtain ⟨d,r,rfl,h1,h2⟩:=hasAllW_cons hsh
 obtain rfl:=hasAllW_nil h2
 obtain ⟨xs,rfl,h3⟩:=hasW_list h1
 obtain ⟨ns,rfl⟩:=items_int h3
 have hlen:ns.length<=n:=by
  unfold OpenLaw.pre at hc
  have h4:(WTm.not (.lt (.lit (.int (n:Int))) (.len (.arg 0)))).holds [] { args:=[.list (ns.map .int)] } = true:=by
   have h4:=(holds_andW hc).1
   rw [hn] at h4
   exact h4
  have h5:=condW_of h4 (w_not (w_lt w_lit (w_len_list (w_arg rfl))))
  rw [List.length_map] at h5
  refine Nat.le_of_not_lt fun q=>?_
  have q':(n:Int) < ((ns.length:Nat):Int):=by omega
  first
   | (rw [decide_eq_true q'] at h5; exact absurd h5 (by decide))
   | (simp at h5; omega)
 cases hwl with
 | cons w1 w2=>
  cases w2
  cases w1 with
  | list ho hall=>exact ⟨_,_,ns,rfl,rfl,ho,ints_of_wellAll ns _ hall,hlen⟩
theorem post_true (l:OpenLaw) (args:List WData):l.row.toRowW.claim.post args (.bool true) args=true:=
 postW_of (r:=l.row.toRowW) (X:=(true == true))
  (show WShape.has [] (.bool true) .bool=true by first | rfl | decide | simp [WShape.has,WShape.arms,WShape.armsAll])
  (show (WTm.eq .res (.lit (.bool true))).value [] { args:=args,res:=some (.bool true),after:=args } = some (.bool (true == true)) from w_eq_bool (w_res rfl) w_lit) rfl
theorem attach_call {l:OpenLaw} {n:Nat} {q:Program} {loose:List Str} {XP:(Str->Option Value)->Heap->Prop} {YP:World->Heap->Prop} {d:DefRec}
  (hn:l.most=some n) (hdf:d.params.defaults=[])
  (call:∀ (w:World) (s₀ s₁:Shared) (mg mb:Str->Option Value) (fa:Addr) (o:Obj) (pm cd doc:Value) (a:Addr) (vs:List Value) (ns:List Int),
   Ground q loose [] XP w s₀ mg mb s₁.heap->YP w s₁.heap->
   s₁.heap.get? fa=some o->o.data=.func (docDef d.name d.params d.body d.scope pm cd doc)->s₁.heap.CodeRec cd d.name->mg d.name=some (.ref fa)->
   s₁.heap.get? a=some { cls:=.type "list",data:=.seq vs.toArray }->IntsAre vs ns->ns.length<=n->s₁.gens = #[]->
   codeAny (model l.prog w) callerA (.call (.ref fa) ⟨[.ref a],[]⟩) (fun r s'=>r=.ok (.ret (.bool true))/\OldK s₁.heap s'.heap/\s'.os=s₁.os/\AllBare s'.gens) s₁) :
  WalkO q loose XP YP l.row.toRowW d [] (fun f vs=>PySem.call f vs):=by
 intro w s₀ s₁ mg mb G Y fa o pm cd doc dV kV ho hd hcd hD hmg hg args vals as hpre hlay hrd hwl hlo
 obtain rfl:dV=.none:=Dflts.none hD hdf
 obtain rfl:kV=.none:=Dflts.noKw hD
 obtain ⟨a,vs,ns,rfl,rfl,hobj,hints,hlen⟩:=script_of hn hpre hwl
 refine enter_call (codeAny_mono (call w s₀ s₁ mg mb fa o pm cd doc a vs ns G Y ho (fd_plain hd) hcd hmg hobj hints hlen hg) fun r s' hq=>?_)
 obtain ⟨rfl,h2,h3,h4⟩:=hq
 exact ⟨.inl ⟨.bool true,.bool true,[],rfl,fun _=>rfl,.bool true,post_true l _,fun _=>⟨List.Pairwise.nil,fun _ hm=>(nomatch hm)⟩⟩,h2,h3,h4⟩
end Att
namespace L2
open PySem PySem.Spec PyProof.Rows
theorem vals_ints:∀ {vs:List Value} {ns:List Int},IntsAre vs ns->Vals (ns.map V.int) vs
 | _,_,.nil=>.nil
 | _,_,.cons n t h=>.cons ⟨t,rfl⟩ (vals_ints h)
noncomputable def Only (H:Hp):Prop:=∀ b,H b=none\/∃ o xs,H b=some (.frz o (.lst xs))
theorem law_call {P:Program} {w:World} {K:PySem.W.Frag} {mg mb:Str->Option Value} {CX:CXT} {k:Nat} {fa a:Addr} {fd:FuncData} {x:Str} {sp:Sp} {s₁:Shared} {vs:List Value} {ns:List Int}
  (KX:K.In s₁.heap) (hns:s₁.heap.Ns mainGlobals mg) (hb:s₁.heap.Ns builtinsNs mb) (hbb:∀ x:Str,x ≠ "__name__"->mb x=bootBuiltins x) (hlim:s₁.heap.NoLimit) (hg:s₁.gens = #[])
  (ha:s₁.heap.get? a=some { cls:=.type "list",data:=.seq vs.toArray }) (hi:IntsAre vs ns) (hl:ns.length<=sizeLine) (hr:Room k callerA)
  (F:∀ base:Heap,K.In base->base.Ns mainGlobals mg->FnOk P w K mg base CX k fa fd [x] sp) (hbind:∀ (s:Shared) (u:Value),BindsTo s fd ⟨[u],[]⟩ [(x,u)])
  (hsp:∀ H:Hp,Only H->SqL K H a (ns.map V.int)->sp [.ref a] H (fun v _=>v=.bl true) fun _ _ _=>False)
  (hCX:∀ H e s',CX [] H s₁ (fun _ _ _=>False) e s'->False) :
  codeAny (model P w) callerA (.call (.ref fa) ⟨[.ref a],[]⟩) (fun r s'=>r=.ok (.ret (.bool true))/\OldK s₁.heap s'.heap/\s'.os=s₁.os/\AllBare s'.gens) s₁:=by
 have rv:=vals_ints hi
 have lenV:=hi.length
 have core:∀ H:Hp,Only H->SqL K H a (ns.map V.int)->HOk P w H s₁.heap->(∀ b,H b ≠ none->b=a)->(H a ≠ none->K.lookup a=none)->
   codeAny (model P w) callerA (.call (.ref fa) ⟨[.ref a],[]⟩) (fun r s'=>r=.ok (.ret (.bool true))/\OldK s₁.heap s'.heap/\s'.os=s₁.os/\AllBare s'.gens) s₁:=by
  intro H hO hS hok hA hK
  have base_of:∀ {b:Addr} {o:Obj},s₁.heap.get? b=some o->H b=none->(hidT s₁.heap H).get? b=some o:=fun e n=>hidT_get e n
  have noA:∀ {b:Addr} {o:Obj} {es:Array DictEntry} {ep:Nat},s₁.heap.get? b=some o->o.data=.dict es ep->H b=none:=fun {b o es ep} e d=>by
   cases q:H b with
   | none=>rfl
   | some u=>
    have e':b=a:=hA b (by rw [q]; simp)
    subst e'
    rw [ha] at e; cases e
    have d':Data.seq vs.toArray _=Data.dict es ep:=d
    cases d'
  have nsK:∀ {b:Addr} {m:Str->Option Value},s₁.heap.Ns b m->(hidT s₁.heap H).Ns b m:=fun {b m} ⟨o,es,ep,e,d,r⟩=>⟨o,es,ep,base_of e (noA e d),d,r⟩
  have hKb:K.In (hidT s₁.heap H):=fun b o e=>base_of (KX b o e) (by
   cases q:H b with
   | none=>rfl
   | some u=>
    have e':b=a:=hA b (by rw [q]; simp)
    subst e'
    rw [hK (by rw [q]; simp)] at e; cases e)
  have hM:Mod K mg (hidT s₁.heap H):=⟨hKb,nsK hns,⟨mb,nsK hb,hbb⟩,let ⟨mc,h1,h2⟩:=hlim; ⟨mc,nsK h1,h2⟩⟩
  have e0:Env0 P w K mg (hidT s₁.heap H) callerA [] s₁ H:=⟨rfl,hM,fun b o e=>of_hidT e,Nat.le_of_eq (hidT_size _ _),trivial,fun b hb=>absurd (show b ∈ ([]:List Addr) from hb) (by simp),hok,.of_eq hg⟩
  refine codeAny_mono ((F _ hKb (nsK hns)).run callerA [] s₁ H ⟨[.ref a],[]⟩ [.ref a] [.ref a] _ _ hr e0 (hbind s₁ (.ref a)) (.cons rfl .nil) (hsp H hO hS)) fun r s' h=>?_
  cases r with
  | error e=>exact (hCX H e s' h).elim
  | ok fl=>
   cases fl with
   | next=>exact False.elim h
   | brk=>exact False.elim h
   | cont=>exact False.elim h
   | ret u=>
    obtain ⟨v,H',os,bare,un,hok',r',q⟩:=h
    have q':v=.bl true:=q
    subst q'
    obtain rfl:u=Value.bool true:=r'
    refine ⟨rfl,OldK.of_keep fun b o e=>?_,os,bare⟩
    cases q:H b with
    | none=>exact un.keep b o e q (by intro z; exact absurd (show b ∈ ([]:List Addr) from z) (by simp)) (by simp)
    | some u=>
     rcases hO b with z | ⟨ob,xs,z⟩
     ·rw [q] at z; cases z
     ·have z2:=un.frzs b ob _ z
      obtain ⟨e1,_⟩:=hok b _ z
      obtain ⟨e2,_⟩:=hok' b _ z2
      rw [e] at e1; cases e1
      exact e2
 cases hk:K.lookup a with
 | some o=>
  have e:=KX a o hk
  rw [ha] at e
  cases e
  refine core (fun _=>none) (fun _=>.inl rfl) (.inr ⟨_,vs.toArray,_,hk,rfl,rfl,rfl,by rw [List.size_toArray,lenV]; exact hl,by simpa using rv⟩) (fun b u z=>by have z':(none:Option HO)=some u:=z; cases z') (fun b z=>absurd rfl z) fun z=>absurd rfl z
 | none=>
  refine core (fun b=>if b=a then some (.frz { cls:=.type "list",data:=.seq vs.toArray } (.lst (ns.map V.int))) else none) (fun b=>?_) (.inl (.inr ⟨{ cls:=.type "list",data:=.seq vs.toArray },if_pos rfl⟩)) (fun b u z=>?_) (fun b z=>?_) fun _=>hk
  ·by_cases hb:b=a
   ·exact .inr ⟨_,_,if_pos hb⟩
   ·exact .inl (if_neg hb)
  ·by_cases hb:b=a
   ·have z':=(if_pos hb).symm.trans z
    cases z'
    subst hb
    exact ⟨ha,by rw [List.length_map]; exact hl,vs,_,rv,ha⟩
   ·have z':=(if_neg hb).symm.trans z
    cases z'
  ·by_cases hb:b=a
   ·exact hb
   ·exact absurd (if_neg hb) z
end L2
namespace L2
open PySem PySem.Spec PyProof.Rows
theorem walk_of {l:PySem.W.OpenLaw} {n k:Nat} {q:Program} {loose:List Str} {XP:(Str->Option Value)->Heap->Prop} {YP:World->Heap->Prop} {d:DefRec} {K:Params->PySem.W.Frag} {CX:World->CXT} {sp:World->Sp} {x:Str}
  (hn:l.most=some n) (hn2:n<=sizeLine) (hdf:d.params.defaults=[]) (hr:Room k callerA)
  (hY:∀ (w:World) (h:Heap),YP w h->(K w.params).In h)
  (F:∀ (w:World) (mg:Str->Option Value) (fa:Addr) (h:Heap),(K w.params).In h->h.Ns mainGlobals mg->mg d.name=some (.ref fa)->
   ∃ fd:FuncData,(∀ (s:Shared) (u:Value),BindsTo s fd ⟨[u],[]⟩ [(x,u)])/\
    ∀ base:Heap,(K w.params).In base->base.Ns mainGlobals mg->FnOk l.prog w (K w.params) mg base (CX w) k fa fd [x] (sp w))
  (hsp:∀ (w:World) (H:Hp) (a:Addr) (ns:List Int),ns.length<=n->Only H->SqL (K w.params) H a (ns.map V.int)->sp w [.ref a] H (fun v _=>v=.bl true) fun _ _ _=>False)
  (hCX:∀ (w:World) (H:Hp) (s:Shared) (e:Value) (s':Shared),CX w [] H s (fun _ _ _=>False) e s'->False) :
  PySem.W.WalkO q loose XP YP l.row.toRowW d [] (fun f vs=>PySem.call f vs):=by
 refine Att.attach_call hn hdf fun w s₀ s₁ mg mb fa o pm cd doc a vs ns G Y ho hd hcd hmg hobj hints hlen hg=>?_
 have KX:=hY w _ Y
 obtain ⟨fd,hb,hF⟩:=F w mg fa _ KX G.T.g hmg
 exact law_call KX G.T.g G.T.b G.T.builtins G.T.nolimit hg hobj hints (Nat.le_trans hlen hn2) hr hF hb (fun H hO hS=>hsp w H a ns hlen hO hS) fun H e s'=>hCX w H s₁ e s'
end L2
namespace L2
open PySem PySem.Spec PyProof.Rows
noncomputable def defArgs (s:Stmt):Arguments:=match s with
 | .FunctionDef _ a _ _ _ _ _ _ _ _=>a
 | _=>{ posonlyargs:=[],args:=[],vararg:=none,kwonlyargs:=[],kw_defaults:=[],kwarg:=none,defaults:=[] }
noncomputable def defBody (s:Stmt):List Stmt:=match s with
 | .FunctionDef _ _ b _ _ _ _ _ _ _=>b
 | _=>[]
noncomputable def defScope (s:Stmt):Scope:=match s with
 | .FunctionDef _ _ _ _ _ _ sc _ _ _=>sc
 | _=>{ kind:=.function,names:=[],isGenerator:=false,isCoroutine:=false }
structure Fun (K:PySem.W.Frag) (x qual:Str) (st:Stmt) (f:Addr) (fd:FuncData):Prop where
 ex:∃ (oc:Value) (od:Option Addr) (kV doc pm:Value) (an:Option Addr) (cdv ct:Value) (osl:Array (Option Value)),
  fd=PySem.W.fnOf x qual (defArgs st) (defBody st) (defScope st) .none kV doc pm an cdv ct/\K.lookup f=some ⟨oc,od,.func fd,osl⟩/\PySem.W.codeIn K cdv qual=true
 kp:PySem.W.keepIn K (.ref f)=true
section
variable {P:Program} {w:World} {K:PySem.W.Frag} {mg:Str->Option Value} {base:Heap}
theorem Fun.binds {x qual:Str} {st:Stmt} {f:Addr} {fd:FuncData} {ps:List Str} (F:Fun K x qual st f fd)
  (h:∀ (kV doc pm:Value) (an:Option Addr) (cdv ct:Value) (us:List Value),us.length=ps.length->bindArgs (PySem.W.fnOf x qual (defArgs st) (defBody st) (defScope st) .none kV doc pm an cdv ct) ⟨us,[]⟩=pure (ps.zip us)):Binds K fd ps []:=by
 obtain ⟨oc,od,kV,doc,pm,an,cdv,ct,osl,rfl,lk,hcd⟩:=F.ex
 exact .all (h kV doc pm an cdv ct)
theorem fun_mk {x qual:Str} {st:Stmt} {f:Addr} {oc:Value} {od an:Option Addr} {osl:Array (Option Value)} {kV doc pm cdv ct:Value} (l:K.lookup f=some ⟨oc,od,.func (PySem.W.fnOf x qual (defArgs st) (defBody st) (defScope st) .none kV doc pm an cdv ct),osl⟩)
  (c:PySem.W.codeIn K cdv qual=true) (k:PySem.W.keepIn K (.ref f)=true):Fun K x qual st f (PySem.W.fnOf x qual (defArgs st) (defBody st) (defScope st) .none kV doc pm an cdv ct):=⟨⟨oc,od,kV,doc,pm,an,cdv,ct,osl,rfl,l,c⟩,k⟩
end
theorem hu_of {A:Around} {k:Nat} (hr:Room k A):A.units + 1 < cLine:=Nat.lt_of_le_of_lt (Nat.add_le_add_left (by decide:1<=64) _) hr.units
section
variable {X:Cx}
theorem pv (i:Nat) {x:Str} {pos:Pos} (hN:X.N[i]? = some x:=by rfl) (hv:Vis X.env.scope x:=by first | exact Or.inl rfl | exact Or.inr (Or.inl rfl) | exact Or.inr (Or.inr rfl)) (hd:(x == ("__debug__":Str))=false:=by decide)
  (hcd:(x == ("__classdict__":Str))=false:=by decide):PE X (.Name x pos) (tVar i):=pe_var hN hv hd hcd
end
theorem iteF {A B:Prop} (h:B):if false=true then A else B:=by
 rw [if_neg Bool.false_ne_true]
 exact h
theorem iteT {A B:Prop} (h:A):if true=true then A else B:=by
 rw [if_pos rfl]
 exact h
noncomputable def Same (H H':Hp):Prop:=∀ b o,H b=some o->H' b=some o
theorem Same.trans {H H1 H2:Hp} (a:Same H H1) (b:Same H1 H2):Same H H2:=fun c o h=>b c o (a c o h)
theorem Same.free {H H':Hp} (e:Same H H') {l:Addr} (h:H' l=Option.none):H l=Option.none:=by
 cases q:H l with
 | none=>rfl
 | some o=>
  rw [e l o q] at h
  cases h
theorem Same.seq {K:PySem.W.Frag} {H H':Hp} {a:Addr} {xs:List V} (e:Same H H') (h:SqL K H a xs):SqL K H' a xs:=by
 rcases h with (h | ⟨o,h⟩) | h
 ·exact .inl (.inl (e _ _ h))
 ·exact .inl (.inr ⟨o,e _ _ h⟩)
 ·exact .inr h
end L2
set_option maxHeartbeats 4000000
namespace L2
open PySem PySem.Spec PyProof.Rows
section
variable {κ:Type} [DecidableEq κ]
noncomputable def valV (kvs:List (κ × V)) (k:κ):Option V:=(kvs.find? fun kv=>decide (kv.1=k)).map (·.2)
noncomputable def putK (kvs:List (κ × V)) (k:κ) (v:V):List (κ × V):=
 if (kvs.any fun kv=>decide (kv.1=k))=true then kvs.map (fun kv=>if kv.1=k then (kv.1,v) else kv) else kvs ++ [(k,v)]
theorem valV_pos {p:κ × V} {r:List (κ × V)} {k:κ} (e:p.1=k):valV (p :: r) k=some p.2:=by simp [valV,List.find?_cons,e]
theorem valV_neg {p:κ × V} {r:List (κ × V)} {k:κ} (e:¬ p.1=k):valV (p :: r) k=valV r k:=by simp [valV,List.find?_cons,e]
theorem valV_any (k:κ):∀ kvs:List (κ × V),(kvs.any fun kv=>decide (kv.1=k))=(valV kvs k).isSome
 | []=>rfl
 | p :: r=>by
  rw [List.any_cons]
  by_cases e:p.1=k
  ·simp only [valV_pos e,decide_eq_true e,Bool.true_or,Option.isSome_some]
  ·rw [valV_neg e,decide_eq_false e,Bool.false_or]; exact valV_any k r
theorem length_putK (kvs:List (κ × V)) (k:κ) (v:V):(putK kvs k v).length<=kvs.length + 1:=by
 unfold putK
 split
 ·rw [List.length_map]; omega
 ·rw [List.length_append,List.length_cons,List.length_nil]; omega
theorem putK_new {kvs:List (κ × V)} {k:κ} (v:V) (h:valV kvs k=none):putK kvs k v=kvs ++ [(k,v)]:=by
 unfold putK
 rw [valV_any,h]
 exact if_neg (by decide)
theorem RelO.isSome_eq {o:Option V} {u:Option Value} (r:RelO o u):o.isSome=u.isSome:=by
 cases o with
 | none=>cases u with
  | none=>rfl
  | some _=>exact (show False from r).elim
 | some _=>cases u with
  | none=>exact (show False from r).elim
  | some _=>rfl
theorem RelO.getD {o:Option V} {u:Option Value} {d:V} {d':Value} (r:RelO o u) (rd:RelV d d'):RelV (o.getD d) (u.getD d'):=by
 cases o with
 | none=>cases u with
  | none=>exact rd
  | some _=>exact (show False from r).elim
 | some _=>cases u with
  | none=>exact (show False from r).elim
  | some _=>exact r
theorem KV.val {kvs:List (κ × V)} {vs:List (κ × Value)} (r:KV kvs vs) (k:κ):RelO (valV kvs k) (valueAt vs k):=by
 unfold KV at r
 induction r with
 | nil=>exact True.intro
 | @cons p q ps qs h t ih=>
  obtain ⟨h1,h2⟩:=h
  by_cases e:p.1=k
  ·have e':q.1=k:=h1.symm.trans e
   have b:valueAt (q :: qs) k=some q.2:=by simp [valueAt,List.find?_cons,e']
   rw [valV_pos e,b]; exact h2
  ·have e':¬ q.1=k:=fun z=>e (h1.trans z)
   have b:valueAt (q :: qs) k=valueAt qs k:=by simp [valueAt,List.find?_cons,e']
   rw [valV_neg e,b]; exact ih
theorem KV.any {kvs:List (κ × V)} {vs:List (κ × Value)} (r:KV kvs vs) (k:κ):(kvs.any fun kv=>decide (kv.1=k))=vs.any fun kv=>decide (kv.1=k):=by
 unfold KV at r
 induction r with
 | nil=>rfl
 | cons h t ih=>rw [List.any_cons,List.any_cons,ih,h.1]
theorem KV.repl {kvs:List (κ × V)} {vs:List (κ × Value)} (r:KV kvs vs) (k:κ) {y:V} {u:Value} (ry:RelV y u) :
  KV (kvs.map fun kv=>if kv.1=k then (kv.1,y) else kv) (vs.map fun kv=>if kv.1=k then (kv.1,u) else kv):=by
 unfold KV at r ⊢
 induction r with
 | nil=>exact .nil
 | @cons p q ps qs h t ih=>
  rw [List.map_cons,List.map_cons]
  refine .cons ?_ ih
  obtain ⟨h1,h2⟩:=h
  by_cases e:p.1=k
  ·rw [if_pos e,if_pos (h1.symm.trans e)]; exact ⟨h1,ry⟩
  ·rw [if_neg e,if_neg (fun z=>e (h1.trans z))]; exact ⟨h1,h2⟩
theorem KV.put {kvs:List (κ × V)} {vs:List (κ × Value)} (r:KV kvs vs) (k:κ) {y:V} {u:Value} (ry:RelV y u):KV (putK kvs k y) (stored vs k u):=by
 unfold putK stored
 rw [r.any k]
 by_cases e:(vs.any fun kv=>decide (kv.1=k))=true
 ·rw [if_pos e,if_pos e]; exact r.repl k ry
 ·rw [if_neg e,if_neg e]; exact Paired.snoc r ⟨rfl,ry⟩
theorem KV.length {kvs:List (κ × V)} {vs:List (κ × Value)} (r:KV kvs vs):kvs.length=vs.length:=Paired.length r
end
theorem kV_is {P:Program} {w:World} {k:Key} {u:Value} (r:RelV (kV k) u):(mixKind P w).is k u=true:=by
 cases k with
 | inl i=>obtain ⟨t,e⟩:=(show ∃ t,u=Value.int i t from r); subst e; exact mixKind_int P w i t
 | inr x=>obtain ⟨t,e⟩:=(show ∃ t,u=Value.str x t from r); subst e; exact mixKind_str P w x t
theorem items_are {P:Program} {w:World}:∀ {ks:List Key} {us:List Value},Vals (ks.map kV) us->ItemsAre (mixKind P w) ks us
 | [],_,r=>by rw [List.map_nil] at r; cases r; exact .nil
 | k :: ks,_,r=>by
  rw [List.map_cons] at r
  cases r with
  | cons h t=>exact .cons (kV_is h) (items_are t)
noncomputable abbrev KT (H:Hp):List (List Key × V)->List (List Key × Addr × Value)->Prop:=Paired fun p q=>p.1=q.1/\H q.2.1=some (.tup (p.1.map kV))/\RelV p.2 q.2.2
theorem KT.val {H:Hp} {kvs:List (List Key × V)} {xs:List (List Key × Addr × Value)} (r:KT H kvs xs) (k:List Key):RelO (valV kvs k) ((atKey xs k).map (·.2)):=by
 induction r with
 | nil=>exact True.intro
 | @cons p q ps qs h t ih=>
  obtain ⟨h1,_,h2⟩:=h
  by_cases e:p.1=k
  ·have e':q.1=k:=h1.symm.trans e
   have b:atKey (q :: qs) k=some q.2:=by simp [atKey,List.find?_cons,e']
   rw [valV_pos e,b]; exact h2
  ·have e':¬ q.1=k:=fun z=>e (h1.trans z)
   have b:atKey (q :: qs) k=atKey qs k:=by simp [atKey,List.find?_cons,e']
   rw [valV_neg e,b]; exact ih
theorem KT.repl {H:Hp} {kvs:List (List Key × V)} {xs:List (List Key × Addr × Value)} (r:KT H kvs xs) (k:List Key) {y:V} {u:Value} (ry:RelV y u) :
  KT H (kvs.map fun kv=>if kv.1=k then (kv.1,y) else kv) (xs.map (putAt k u)):=by
 induction r with
 | nil=>exact .nil
 | @cons p q ps qs h t ih=>
  rw [List.map_cons,List.map_cons]
  refine .cons ?_ ih
  obtain ⟨h1,h2,h3⟩:=h
  unfold putAt
  by_cases e:p.1=k
  ·rw [if_pos e,if_pos (h1.symm.trans e)]; exact ⟨h1,h2,ry⟩
  ·rw [if_neg e,if_neg (fun z=>e (h1.trans z))]; exact ⟨h1,h2,h3⟩
theorem KT.put {H:Hp} {kvs:List (List Key × V)} {xs:List (List Key × Addr × Value)} (r:KT H kvs xs) (k:List Key) {b:Addr} {y:V} {u:Value} (hb:H b=some (.tup (k.map kV))) (ry:RelV y u) :
  KT H (putK kvs k y) (storedH xs k b u):=by
 have e:(kvs.any fun kv=>decide (kv.1=k))=(atKey xs k).isSome:=by
  rw [valV_any,(r.val k).isSome_eq,Option.isSome_map]
 unfold putK storedH
 rw [e]
 by_cases q:(atKey xs k).isSome=true
 ·rw [if_pos q,if_pos q]; exact r.repl k ry
 ·rw [if_neg q,if_neg q]; exact Paired.snoc r ⟨rfl,hb,ry⟩
theorem KT.keeps {H H':Hp} {kvs:List (List Key × V)} {xs:List (List Key × Addr × Value)} (r:KT H kvs xs) (ht:∀ b ys,H b=some (.tup ys)->H' b=some (.tup ys)):KT H' kvs xs:=
 Paired.mapP r fun _ _ z=>⟨z.1,ht _ _ z.2.1,z.2.2⟩
section
variable {P:Program} {w:World} {H:Hp} {h:Heap} {a:Addr}
theorem rd_of {u:HO} (ok:HOk P w H h) (e:Rd H a u):ObjOk P w H h a u:=e.ok ok
theorem dk_rd {kvs:List (Key × V)} (ok:HOk P w H h) (e:Rd H a (.dK kvs)):kvs.length<=sizeLine/\(a == sysModules)=false/\∃ vs,KV kvs vs/\h.DictOf (mixKind P w) a vs:=
 show ObjOk P w H h a (.dK kvs) from rd_of ok e
theorem dk_of {kvs:List (Key × V)} (ok:HOk P w H h) (e:H a=some (.dK kvs)):kvs.length<=sizeLine/\(a == sysModules)=false/\∃ vs,KV kvs vs/\h.DictOf (mixKind P w) a vs:=dk_rd ok (.inl e)
theorem key_of {ks:List Key} (ok:HOk P w H h) (e:H a=some (.tup (ks.map kV))):(tupleKind (mixKind P w)).is h ks a:=by
 obtain ⟨_,its,r,o,h1,h2,n,h3⟩:=(show ObjOk P w H h a (.tup (ks.map kV)) from ok a _ e)
 exact ⟨o,its.toArray,n,h1,h2,h3,by simpa using items_are r⟩
theorem dt_rd {kvs:List (List Key × V)} (ok:HOk P w H h) (e:Rd H a (.dT kvs)):kvs.length<=sizeLine/\(a == sysModules)=false/\
  ∃ xs,KT H kvs xs/\h.DictOfH (tupleKind (mixKind P w)) a xs:=by
 obtain ⟨z,y,xs,r,o,es,ep,h1,h2,h3,h4,h5⟩:=(show ObjOk P w H h a (.dT kvs) from rd_of ok e)
 refine ⟨z,y,xs,r,o,es,ep,h1,h2,h3,h4,fun x hx=>?_,h5⟩
 have all:∀ {l:List (List Key × V)} {m:List (List Key × Addr × Value)},KT H l m->∀ x ∈ m,(tupleKind (mixKind P w)).is h x.1 x.2.1:=by
  intro l m q
  induction q with
  | nil=>intro x hx; exact nomatch hx
  | @cons p q ps qs hq t ih=>
   intro x hx
   rcases List.mem_cons.mp hx with e | hx
   ·subst e
    exact key_of ok (by rw [<-hq.1]; exact hq.2.1)
   ·exact ih x hx
 exact all r x hx
theorem dt_of {kvs:List (List Key × V)} (ok:HOk P w H h) (e:H a=some (.dT kvs)):kvs.length<=sizeLine/\(a == sysModules)=false/\
  ∃ xs,KT H kvs xs/\h.DictOfH (tupleKind (mixKind P w)) a xs:=dt_rd ok (.inl e)
end
noncomputable def DGet (H:Hp) (a:Addr) (y:V) (r:Option V):Prop:=
 (∃ kvs k,Rd H a (.dK kvs)/\y=kV k/\r=valV kvs k)\/∃ kvs k b,Rd H a (.dT kvs)/\y=.ref b/\H b=some (.tup (k.map kV))/\r=valV kvs k
noncomputable def DPut (H:Hp) (a:Addr) (y v:V) (H':Hp):Prop:=
 (∃ kvs k,H a=some (.dK kvs)/\y=kV k/\kvs.length < sizeLine/\H' = upd H a (.dK (putK kvs k v)))\/
 ∃ kvs k b,H a=some (.dT kvs)/\y=.ref b/\H b=some (.tup (k.map kV))/\kvs.length < sizeLine/\H' = upd H a (.dT (putK kvs k v))
theorem DGet.k {H:Hp} {a:Addr} {kvs:List (Key × V)} {k:Key} (e:H a=some (.dK kvs)):DGet H a (kV k) (valV kvs k):=.inl ⟨kvs,k,.inl e,rfl,rfl⟩
theorem DGet.t {H:Hp} {a b:Addr} {kvs:List (List Key × V)} {k:List Key} (e:H a=some (.dT kvs)) (eb:H b=some (.tup (k.map kV))):DGet H a (.ref b) (valV kvs k):=.inr ⟨kvs,k,b,.inl e,rfl,eb,rfl⟩
theorem DPut.k {H:Hp} {a:Addr} {kvs:List (Key × V)} {k:Key} {v:V} (e:H a=some (.dK kvs)) (hl:kvs.length < sizeLine):DPut H a (kV k) v (upd H a (.dK (putK kvs k v))):=.inl ⟨kvs,k,e,rfl,hl,rfl⟩
theorem DPut.t {H:Hp} {a b:Addr} {kvs:List (List Key × V)} {k:List Key} {v:V} (e:H a=some (.dT kvs)) (eb:H b=some (.tup (k.map kV))) (hl:kvs.length < sizeLine) :
  DPut H a (.ref b) v (upd H a (.dT (putK kvs k v))):=.inr ⟨kvs,k,b,e,rfl,eb,hl,rfl⟩
section
variable {X:Cx} {pins:List (Addr × Obj)} {σ:St} {H:Hp} {s:Shared} {a:Addr} {y v:V} {u r:Value} {o:Option V} {A:Around} {E:Value->Shared->Prop}
theorem Inv.big (I:Inv X pins σ H s):sysModules < s.heap.objs.size:=by
 have h:mainGlobals < s.heap.objs.size:=(I.mod.glob.keeps I.bk).lt
 exact Nat.lt_trans (by decide) h
theorem d_getItem {Q:Value->Shared->Prop} (hu:A.units + 1 < cLine) (I:Inv X pins σ H s) (g:DGet H a y (some v)) (ry:RelV y u) (h:∀ w' s',Inv X pins σ H s'->RelV v w'->Q w' s') :
  wpAny (model X.prog X.w) A (getItem (.ref a) u) Q E s:=by
 rcases g with ⟨kvs,k,e,ey,l⟩ | ⟨kvs,k,b,e,ey,eb,l⟩
 ·subst ey
  obtain ⟨z,hd,vs,rel,dd⟩:=dk_rd I.hok e
  obtain ⟨w',hw,rw'⟩:=RelO.some_of (v:=v) (o:=valueAt vs k) (by rw [l]; exact rel.val k)
  exact wpAny_getItem_of (kV_is ry) dd.mapOf hw (h w' _ (I.tok _) rw')
 ·subst ey
  cases (show u=Value.ref b from ry)
  obtain ⟨z,hd,xs,rel,dd⟩:=dt_rd I.hok e
  obtain ⟨w',hw,rw'⟩:=RelO.some_of (v:=v) (o:=(atKey xs k).map (·.2)) (by rw [l]; exact rel.val k)
  obtain ⟨p,hp,hp2⟩:=Option.map_eq_some_iff.mp hw
  refine wpAny_getItem_heap (tupleKind_room_in1 hu) (key_of I.hok eb) dd hp ?_
  rw [hp2]
  exact h w' _ (I.tok _) rw'
theorem d_notIn {Q:Value->Shared->Prop} (hu:A.units + 1 < cLine) (I:Inv X pins σ H s) (g:DGet H a y o) (ry:RelV y u) (h:∀ s',Inv X pins σ H s'->Q (.bool (!o.isSome)) s') :
  wpAny (model X.prog X.w) A (compareOp .NotIn u (.ref a)) Q E s:=by
 rcases g with ⟨kvs,k,e,ey,l⟩ | ⟨kvs,k,b,e,ey,eb,l⟩
 ·subst ey
  obtain ⟨z,hd,vs,rel,dd⟩:=dk_rd I.hok e
  refine wpAny_notIn_of (kV_is ry) hd dd.mapOf ?_
  rw [<-(rel.val k).isSome_eq,<-l]
  exact h _ (I.tok _)
 ·subst ey
  cases (show u=Value.ref b from ry)
  obtain ⟨z,hd,xs,rel,dd⟩:=dt_rd I.hok e
  refine wpAny_notIn_heap (tupleKind_room_in1 hu) (key_of I.hok eb) hd dd ?_
  have q:=(rel.val k).isSome_eq
  rw [Option.isSome_map] at q
  rw [<-q,<-l]
  exact h _ (I.tok _)
theorem d_write {h':Heap} {t':Nat} {ob:HO} (I:Inv X pins σ H s) (mu:Mut (H a)) (hs:Heap.SameBut a s.heap h') (he:∃ q,h'.get? a=some q) (new:ObjOk X.prog X.w (upd H a ob) h' a ob) :
  Inv X pins σ (upd H a ob) { s with heap:=h',toks:=t' }:=
 I.write (x:=a) (e:=a) mu (.inl rfl) (fun b q hb z=>(hs.2 b hb).trans z) he new
theorem dk_new {P:Program} {w:World} {H':Hp} {h':Heap} {kvs:List (Key × V)} {vs:List (Key × Value)} (z:kvs.length<=sizeLine) (hd:(a == sysModules)=false) (rel:KV kvs vs) (dd:h'.DictOf (mixKind P w) a vs) :
  ObjOk P w H' h' a (.dK kvs):=⟨z,hd,vs,rel,dd⟩
theorem d_setItem {H':Hp} {Q:Unit->Shared->Prop} (hu:A.units + 1 < cLine) (I:Inv X pins σ H s) (g:DPut H a y v H') (ry:RelV y u) (rv:RelV v r) (h:∀ s',Inv X pins σ H' s'->Q () s') :
  wpAny (model X.prog X.w) A (setItem (.ref a) u r) Q E s:=by
 rcases g with ⟨kvs,k,e,ey,l,eH⟩ | ⟨kvs,k,b,e,ey,eb,l,eH⟩
 ·subst ey eH
  obtain ⟨z,hd,vs,rel,dd⟩:=dk_of I.hok e
  have hz:vs.length<=sizeLine:=by rw [<-rel.length]; exact z
  have hl:(putK kvs k v).length<=sizeLine:=by have:=length_putK kvs k v; omega
  refine wpAny_setItem_pairs (hsz:=hz) (kV_is ry) dd fun h' dd' hs=>h _ ?_
  have he:∃ q,h'.get? a=some q:=let ⟨q,_,_,hq,_⟩:=dd'; ⟨q,hq⟩
  exact d_write I (by rw [e]; exact True.intro) hs he (dk_new hl hd (rel.put k rv) dd')
 ·subst ey eH
  cases (show u=Value.ref b from ry)
  obtain ⟨z,hd,xs,rel,dd⟩:=dt_of I.hok e
  have hz:xs.length<=sizeLine:=by rw [<-Paired.length rel]; exact z
  have hl:(putK kvs k v).length<=sizeLine:=by have:=length_putK kvs k v; omega
  refine wpAny_setItem_heap (hsz:=hz) (tupleKind_room_in1 hu) (key_of I.hok eb) dd fun h' dd' hs=>h _ ?_
  obtain ⟨q,es,ep,hq,h2,h3,h4,_,h5⟩:=dd'
  refine d_write I (by rw [e]; exact True.intro) hs ⟨q,hq⟩ ⟨hl,hd,_,(rel.put k eb rv).keeps fun c ys ec=>?_,q,es,ep,hq,h2,h3,h4,h5⟩
  rw [upd_ne (ne_of ec e (fun z=>nomatch z))]
  exact ec
end
noncomputable def NoSl (i:Expr):Prop:=∀ ov iv,subscripted i false ov iv=operate [ov,iv] (getItem ov iv)
theorem subD_of {prog:Program} {w:World} {A:Around} {E:Value->Shared->Prop} {s:Shared} {env:Env} {value slice:Expr} {pos:Pos} {T id:String} {Q:Value->Shared->Prop}
  (hl:typeLookup (.type T) "__getitem__" = pure (some (.builtin id))) (hs:NoSl slice)
  (h:wpAny (model prog w) A (eval value env) (fun o s₁=>wpAny (model prog w) A (eval slice env) (fun i s₂=>s₂.TypeIs o T/\wpAny (model prog w) A (getItem o i) Q E s₂) E s₁) E s) :
  wpAny (model prog w) A (eval (.Subscript value slice pos) env) Q E s:=by
 refine Subscript_ (wpAny_mono h (fun o s₁ h₁=>wpAny_mono h₁ (fun i s₂ h₂=>?_) fun _ _ x=>x) fun _ _ x=>x)
 obtain ⟨hT,h₂⟩:=h₂
 unfold subscriptTail
 refine wpAny_bind ?_
 rw [getitemInPython_of_ne hT.not_modules]
 refine wpAny_bind (wpAny_specialOf hT hl ?_)
 have fin:wpAny (model prog w) A (subscripted slice false o i) (fun r s₃=>wpAny (model prog w) A (letTemporaryGo value o r >>= fun _=>pure r) Q E s₃) E s₂:=by
  rw [hs o i]
  exact wpAny_operating (wpAny_mono h₂ (fun r s₃ h₃=>wpAny_bind (wpAny_letTemporaryGo (wpAny_pure h₃))) fun _ _ x=>x)
 first
  | exact wpAny_pure (wpAny_bind fin)
  | exact wpAny_bind (wpAny_pure (wpAny_bind fin))
  | exact wpAny_bind fin
theorem dict_typeIs {X:Cx} {pins:List (Addr × Obj)} {σ:St} {H:Hp} {s:Shared} {a:Addr} {y:V} {o:Option V} (I:Inv X pins σ H s) (g:DGet H a y o):s.TypeIs (.ref a) "dict":=by
 rcases g with ⟨kvs,k,e,_,_⟩ | ⟨kvs,k,b,e,_,_,_⟩
 ·obtain ⟨_,_,vs,_,dd⟩:=dk_rd I.hok e
  exact dd.typeIs
 ·obtain ⟨_,_,xs,_,dd⟩:=dt_rd I.hok e
  exact dd.typeIs
noncomputable def tDGet (td ty:TE):TE:=fun σ H Q=>td σ H fun x H1=>ty σ H1 fun y H2=>∃ a v,x=.ref a/\DGet H2 a y (some v)/\Q v H2
noncomputable def tDNotIn (ty td:TE):TE:=fun σ H Q=>ty σ H fun y H1=>td σ H1 fun x H2=>∃ a o,x=.ref a/\DGet H2 a y o/\Q (.bl (!o.isSome)) H2
noncomputable def sDPut (td ty tv:TE):TS:=fun D σ H=>tv σ H fun v H1=>td σ H1 fun x H2=>ty σ H2 fun y H3=>∃ a H4,x=.ref a/\DPut H3 a y v H4/\D.nx σ H4
section
variable {X:Cx} {o i e value:Expr} {pos pos' tpos:Pos} {td ty tv:TE}
theorem pe_dget (hu:X.A.units + 1 < cLine) (ho:PE X o td) (hi:PE X i ty) (hs:NoSl i):PE X (.Subscript o i pos) (tDGet td ty):=by
 intro pins s σ H Q I h
 refine subD_of PySem.F.slot_dict_getitem.lookup hs (thn (ho pins s σ H _ I h) fun u s1 ⟨x,H1,I1,rx,q1⟩=>thn (hi pins s1 σ H1 _ I1 q1) fun iv s2 ⟨y,H2,I2,ry,a,v,ex,g,q2⟩=>?_)
 subst ex
 obtain rfl:u=Value.ref a:=rx
 exact ⟨dict_typeIs I2 g,d_getItem hu I2 g ry fun w' s3 I3 rw'=>⟨v,H2,I3,rw',q2⟩⟩
theorem pc_dnotin (hu:X.A.units + 1 < cLine) (hi:PE X i ty) (ho:PE X o td):PC X .NotIn i o (tDNotIn ty td):=by
 intro pins s σ H Q I h
 refine thn (hi pins s σ H _ I h) fun iv s1 ⟨y,H1,I1,ry,q1⟩=>thn (ho pins s1 σ H1 _ I1 q1) fun u s2 ⟨x,H2,I2,rx,a,ov,ex,g,q2⟩=>?_
 subst ex
 obtain rfl:u=Value.ref a:=rx
 exact d_notIn hu I2 g ry fun s3 I3=>⟨.bl (!ov.isSome),H2,I3,rfl,q2⟩
theorem ps_dput (hu:X.A.units + 1 < cLine) (ho:PE X o td) (hi:PE X i ty) (hv:PE X value tv) (hs:swapsWith value (some (.Subscript o i pos')) pos.line X.env=pure false) :
  PS X (.Assign [.Subscript o i pos'] value pos) (sDPut td ty tv):=by
 intro pins s σ H D I h
 refine wpAny_Assign_Subscript (thn (hv pins s σ H _ I h) fun r s1 ⟨v,H1,I1,rv,q1⟩=>thn (ho pins s1 σ H1 _ I1 q1) fun u s2 ⟨x,H2,I2,rx,q2⟩=>thn (hi pins s2 σ H2 _ I2 q2) fun iv s3 ⟨y,H3,I3,ry,a,H4,ex,g,q3⟩=>?_) hs
 subst ex
 obtain rfl:u=Value.ref a:=rx
 exact d_setItem hu I3 g ry rv fun s4 I4=>⟨σ,H4,I4,q3⟩
end
theorem dk_empty {P:Program} {w:World} {H:Hp} (h:Heap) (hb:sysModules < h.objs.size):ObjOk P w H (h.push { cls:=.type "dict",data:=.dict #[] }) h.objs.size (.dK []):=
 ⟨Nat.zero_le _,beq_eq_false_iff_ne.mpr (Ne.symm (Nat.ne_of_lt hb)),[],.nil,Heap.DictOf.new h⟩
theorem dt_empty {P:Program} {w:World} {H:Hp} (h:Heap) (hb:sysModules < h.objs.size):ObjOk P w H (h.push { cls:=.type "dict",data:=.dict #[] }) h.objs.size (.dT []):=
 ⟨Nat.zero_le _,beq_eq_false_iff_ne.mpr (Ne.symm (Nat.ne_of_lt hb)),[],.nil,_,#[],0,Heap.get?_push_size _ rfl,⟨rfl,rfl,rfl⟩,rfl,rfl,List.nodup_nil⟩
noncomputable def tDNewK:TE:=fun _ H Q=>∀ p,H p=none->Q (.ref p) (upd H p (.dK []))
noncomputable def tDNewT:TE:=fun _ H Q=>∀ p,H p=none->Q (.ref p) (upd H p (.dT []))
section
variable {X:Cx} {pos:Pos}
theorem pe_dnewK:PE X (.Dict [] [] pos) tDNewK:=fun pins s σ H Q I h=>
 wpAny_Dict_empty ⟨.ref s.heap.objs.size,_,I.laid (a:=s.heap.objs.size) (o:=.dK []) (t':=s.toks) (fun _ _ q=>Heap.get?_push_of_some _ q) (Nat.le_refl _) (dk_empty s.heap I.big),rfl,h _ (I.hok.fresh (Nat.le_refl _))⟩
theorem pe_dnewT:PE X (.Dict [] [] pos) tDNewT:=fun pins s σ H Q I h=>
 wpAny_Dict_empty ⟨.ref s.heap.objs.size,_,I.laid (a:=s.heap.objs.size) (o:=.dT []) (t':=s.toks) (fun _ _ q=>Heap.get?_push_of_some _ q) (Nat.le_refl _) (dt_empty s.heap I.big),rfl,h _ (I.hok.fresh (Nat.le_refl _))⟩
end
structure M2 (X:Cx) (o:Expr) (m:Str) (apos:Pos) (e f:Expr) (cpos:Pos):Prop where
 base:attributeBase o m X.env (eval o X.env)=eval o X.env
 few:((backTo cpos (starEach [e,f] X.env)).all (fun x=>!x.1) && (backToKw cpos (keywordEach [] X.env)).all (fun x=>x.1.isSome)
  && decide (([e,f]:List Expr).length + ([]:List Keyword).length + (if ([]:List Keyword).isEmpty then 0 else 1) < 30))=true
 line:(apos.endLine == cpos.line)=true
 trees:backTo cpos (starEach [e,f] X.env)=[(false,eval e X.env),(false,eval f X.env)]
noncomputable def IsD (H:Hp) (a:Addr):Prop:=(∃ kvs,Rd H a (.dK kvs))\/∃ kvs,Rd H a (.dT kvs)
theorem isD_at {X:Cx} {pins:List (Addr × Obj)} {σ:St} {H:Hp} {s:Shared} {a:Addr} (I:Inv X pins σ H s) (d:IsD H a) :
  s.TypeIs (.ref a) "dict"/\(∀ b,Value.ref a=.ref b->∃ ob,s.heap.get? b=some ob/\ob.dict=none)/\(a == sysModules)=false:=by
 rcases d with ⟨kvs,e⟩ | ⟨kvs,e⟩
 ·obtain ⟨_,hd,vs,_,dd⟩:=dk_rd I.hok e
  refine ⟨dd.typeIs,fun b q=>?_,hd⟩
  cases q
  obtain ⟨ob,_,_,h1,h2,_⟩:=dd
  exact ⟨ob,h1,h2.2.1⟩
 ·obtain ⟨_,hd,xs,_,dd⟩:=dt_rd I.hok e
  refine ⟨dd.typeIs,fun b q=>?_,hd⟩
  cases q
  obtain ⟨ob,_,_,h1,h2,_⟩:=dd
  exact ⟨ob,h1,h2.2.1⟩
section
variable {X:Cx} {pins:List (Addr × Obj)} {σ:St} {H:Hp} {s:Shared} {a:Addr} {y d:V} {u r:Value} {o:Option V} {A:Around} {E:Value->Shared->Prop}
theorem d_get2 {Q:Value->Shared->Prop} (hu:A.units + 1 < cLine) (I:Inv X pins σ H s) (g:DGet H a y o) (ry:RelV y u) (rd:RelV d r) (h:∀ w' s',Inv X pins σ H s'->RelV (o.getD d) w'->Q w' s') :
  wpAny (model X.prog X.w) A (call (.builtin "dict.get") [.ref a,u,r]) Q E s:=by
 rcases g with ⟨kvs,k,e,ey,l⟩ | ⟨kvs,k,b,e,ey,eb,l⟩
 ·subst ey
  obtain ⟨z,hd,vs,rel,dd⟩:=dk_rd I.hok e
  refine call_meetsIn PySem.F.slot_dict_get dd.typeIs PySem.F.entry_dict_get (PySem.F.args_dict_get_3 _ _ _) (meets_dict_get_default (mixKind X.prog X.w) a (kV_is ry) hd r) ⟨_,dd.mapOf,h _ _ (I.tok _) ?_⟩
  rw [l]
  exact (rel.val k).getD rd
 ·subst ey
  cases (show u=Value.ref b from ry)
  obtain ⟨z,hd,xs,rel,dd⟩:=dt_rd I.hok e
  refine call_meetsIn PySem.F.slot_dict_get dd.typeIs PySem.F.entry_dict_get (PySem.F.args_dict_get_3 _ _ _) (meetsH_dict_get_default (tupleKind (mixKind X.prog X.w)) a b hd r) ⟨tupleKind_room_in1 hu,k,xs,key_of I.hok eb,dd,h _ _ (I.tok _) ?_⟩
  rw [l]
  exact (rel.val k).getD rd
end
noncomputable def tDGet2 (td ty tx:TE):TE:=fun σ H Q=>td σ H fun x H1=>∃ a,x=.ref a/\IsD H1 a/\ty σ H1 fun y H2=>tx σ H2 fun z H3=>∃ o,DGet H3 a y o/\Q (o.getD z) H3
section
variable {X:Cx} {o e f:Expr} {apos cpos:Pos} {td ty tx:TE}
theorem pe_dget2 (hu:X.A.units + 1 < cLine) (ho:PE X o td) (he:PE X e ty) (hf:PE X f tx) (m:M2 X o "get" apos e f cpos):PE X (.Call (.Attribute o "get" apos) [e,f] [] cpos) (tDGet2 td ty tx):=by
 intro pins s σ H Q I h
 refine wpAny_Call_method m.base m.few m.line PySem.F.plainAttrs_dict PySem.F.slot_dict_get PySem.F.type_dict_get (thn (ho pins s σ H _ I h) fun u s1 ⟨x,H1,I1,rx,a,ex,d,q1⟩=>?_)
 subst ex
 obtain rfl:u=Value.ref a:=rx
 obtain ⟨t1,t2,_⟩:=isD_at I1 d
 refine ⟨t1,t2,?_⟩
 rw [m.trees]
 refine Calls.callWith_builtin rfl (Calls.evalArgs_plain (Calls.spliced_cons (thn (he pins s1 σ H1 _ I1 q1) fun iv s2 ⟨y,H2,I2,ry,q2⟩=>
  Calls.spliced_cons (thn (hf pins s2 σ H2 _ I2 q2) fun fv s3 ⟨z,H3,I3,rz,ov,g,q3⟩=>Calls.spliced_nil ?_))))
 exact d_get2 hu I3 g ry rz fun w' s4 I4 rw'=>⟨_,H3,I4,rw',q3⟩
end
end L2
namespace L2
open PySem PySem.Spec PyProof.Rows
end L2
namespace L2
open PySem PySem.Spec PyProof.Rows
noncomputable def closL (env:Env):List (Str × NameKind)->List (Str × Addr)->List (Str × Addr)
 | [],acc=>acc
 | (n,k) :: r,acc=>if k == .free then closL env r ((n,(env.cells.lookup n).getD 0) :: acc) else closL env r acc
theorem closure_loop (env:Env):∀ (names:List (Str × NameKind)) (acc:List (Str × Addr)),(∀ y ∈ names,y.2=.free->(env.cells.lookup y.1).isSome=true)->
  (forIn names acc fun (x:Str × NameKind) (cs:List (Str × Addr))=>if (x.2 == NameKind.free)=true then (do let c <-cellOf env x.1; pure (ForInStep.yield ((x.1,c) :: cs))) else (pure (ForInStep.yield cs):Sem (ForInStep (List (Str × Addr)))))=pure (closL env names acc)
 | [],acc,_=>rfl
 | (n,k) :: r,acc,h=>by
  have ih:=fun a=>closure_loop env r a fun y hy=>h y (List.mem_cons_of_mem _ hy)
  rw [List.forIn_cons]
  unfold closL
  by_cases hk:(k == NameKind.free)=true
  ·obtain ⟨c,hc⟩:=Option.isSome_iff_exists.mp (h (n,k) List.mem_cons_self (by simpa using hk))
   simp only [hk,if_true]
   have:cellOf env n=pure c:=by unfold cellOf; rw [hc]
   rw [this,hc]
   exact ih _
  ·simp only [hk]
   exact ih _
theorem closureFor_cells {scope:Scope} {env:Env} (h:∀ y ∈ scope.names,y.2=.free->(env.cells.lookup y.1).isSome=true):closureFor scope env=pure (closL env scope.names []):=by
 have e:=closure_loop env scope.names [] h
 unfold closureFor
 exact congrArg (fun m=>m >>= pure) e
theorem closL_keep {env:Env} {x:Str}:∀ {names:List (Str × NameKind)} {acc:List (Str × Addr)} {c:Addr},(∀ y ∈ names,y.2=.free->(env.cells.lookup y.1).isSome=true)->
  (∀ c,acc.lookup x=some c->env.cells.lookup x=some c)->(closL env names acc).lookup x=some c->env.cells.lookup x=some c
 | [],_,_,_,ha,h=>ha _ h
 | (n,k) :: r,acc,c,hn,ha,h=>by
  unfold closL at h
  by_cases hk:(k == NameKind.free)=true
  ·rw [if_pos hk] at h
   refine closL_keep (fun y hy=>hn y (List.mem_cons_of_mem _ hy)) (fun c' e=>?_) h
   rw [List.lookup_cons] at e
   cases hx:x == n with
   | true=>
    rw [hx] at e
    have:x=n:=by simpa using hx
    subst this
    obtain ⟨d,hd⟩:=Option.isSome_iff_exists.mp (hn (x,k) List.mem_cons_self (by simpa using hk))
    rw [hd] at e ⊢
    exact e
   | false=>
    rw [hx] at e
    exact ha _ e
  ·rw [if_neg hk] at h
   exact closL_keep (fun y hy=>hn y (List.mem_cons_of_mem _ hy)) ha h
theorem closL_has {env:Env} {x:Str}:∀ {names:List (Str × NameKind)} {acc:List (Str × Addr)},((x,NameKind.free) ∈ names\/(acc.lookup x).isSome=true)->((closL env names acc).lookup x).isSome=true
 | [],_,h=>by rcases h with h | h; cases h; exact h
 | (n,k) :: r,acc,h=>by
  unfold closL
  by_cases hk:(k == NameKind.free)=true
  ·rw [if_pos hk]
   refine closL_has ?_
   rw [List.lookup_cons]
   cases hx:x == n with
   | true=>exact .inr rfl
   | false=>
    rcases h with h | h
    ·rcases List.mem_cons.mp h with e | h
     ·cases e; simp at hx
     ·exact .inl h
    ·exact .inr h
  ·rw [if_neg hk]
   refine closL_has ?_
   rcases h with h | h
   ·rcases List.mem_cons.mp h with e | h
    ·cases e; simp at hk
    ·exact .inl h
   ·exact .inr h
noncomputable abbrev rlab (env:Env):Str × NameKind->Str × NameKind:=fun (n,k)=>if (k == NameKind.free && env.scope.kind == .function && env.kindOf n == some .cell) then (n,NameKind.cell) else (n,k)
theorem relabel_of {env:Env}:∀ {names:List (Str × NameKind)} {x:Str} {k:NameKind},names.lookup x=some k->
  (names.map (rlab env)).lookup x=some k\/(k=.free/\(names.map (rlab env)).lookup x=some .cell)
 | [],_,_,h=>by simp at h
 | (n,k) :: r,x,k',h=>by
  have ih:=@relabel_of env r x k'
  rw [List.map_cons]
  have e:rlab env (n,k)=(n,k)\/(k=.free/\rlab env (n,k)=(n,.cell)):=by
   by_cases hc:(k == NameKind.free && env.scope.kind == .function && env.kindOf n == some .cell)=true
   ·refine .inr ⟨?_,if_pos hc⟩
    cases k <;> first | rfl | (simp at hc)
   ·exact .inl (if_neg hc)
  cases hx:x == n with
  | true=>
   simp only [List.lookup_cons,hx] at h
   cases h
   rcases e with e | ⟨e1,e⟩
   ·rw [e]; exact .inl (by simp only [List.lookup_cons,hx])
   ·rw [e]; exact .inr ⟨e1,by simp only [List.lookup_cons,hx]⟩
  | false=>
   simp only [List.lookup_cons,hx] at h
   rcases e with e | ⟨e1,e⟩ <;> (rw [e]; simp only [List.lookup_cons,hx]; exact ih h)
theorem relabel_none {env:Env}:∀ {names:List (Str × NameKind)} {x:Str},names.lookup x=none->(names.map (rlab env)).lookup x=none
 | [],_,_=>rfl
 | (n,k) :: r,x,h=>by
  have ih:=@relabel_none env r x
  rw [List.map_cons]
  have e:rlab env (n,k)=(n,k)\/rlab env (n,k)=(n,.cell):=by
   by_cases hc:(k == NameKind.free && env.scope.kind == .function && env.kindOf n == some .cell)=true
   ·exact .inr (if_pos hc)
   ·exact .inl (if_neg hc)
  cases hx:x == n with
  | true=>simp only [List.lookup_cons,hx] at h; cases h
  | false=>
   simp only [List.lookup_cons,hx] at h
   rcases e with e | e <;> (rw [e]; simp only [List.lookup_cons,hx]; exact ih h)
section
variable {prog:Program} {w:World} {A:Around} {E:Value->Shared->Prop} {R:Result->Shared->Prop} {s:Shared}
theorem compLoop_any {elt target iter:Expr} {ifs:List Expr} {scope:Scope} {pos:Pos} {it acc:Value} {env:Env} (I:Nat->Shared->Prop)
  (turn:∀ n s,I n s->wpAny (model prog w) A (pyNext it) (fun r s₁=>match r with
   | none=>R (.ok .next) s₁
   | some v=>wpAny (model prog w) A (letOwnedTupleGo target it v) (fun _ s₁'=>wpAny (model prog w) A (assign target env v) (fun _ s₂=>
     wpAny (model prog w) A (forIn ifs true fun c r=>if r=true then do let ok <-isTrue c env (eval c env); pure (ForInStep.yield ok) else pure (ForInStep.yield r)) (fun ok s₃=>
      if ok=true then wpAny (model prog w) A (eval elt env) (fun x s₄=>
       wpAny (model prog w) A (call (.builtin "list.append") [acc,x]) (fun _ s₅=>∃ m,m < n/\I m s₅) (fun _ _=>False) s₄) (fun _ _=>False) s₃
      else ∃ m,m < n/\I m s₃) (fun _ _=>False) s₂) (fun _ _=>False) s₁') (fun _ _=>False) s₁) (fun _ _=>False) s)
  (n:Nat) (h:I n s) :
  codeAny (model prog w) A (.compLoop (.ListComp elt [⟨target,iter,ifs,0⟩] scope pos) 0 it acc env) R s:=by
 refine codeAny_loop rfl I (fun n s hI=>?_) n h
 show wpAny _ A ((compTurn (.ListComp elt [⟨target,iter,ifs,0⟩] scope pos) 0 it acc env).onRaise (fun x=>do noteFrame x env; theTreesLotGoes x)) _ _ s
 refine wpAny_noted (wpAny_noRaise ?_)
 rw [compTurn_list]
 refine wpAny_bind (wpAny_standAt (wpAny_bind (wpAny_mono (turn n s hI) (fun r s₁ h₁=>?_) fun _ _ h'=>h')))
 cases r with
 | none=>exact wpAny_pure h₁
 | some v=>
  refine wpAny_bind (wpAny_mono h₁ (fun _ s₁' h₁'=>?_) fun _ _ h'=>h')
  refine wpAny_bind (wpAny_mono h₁' (fun _ s₂ h₂=>wpAny_bind (wpAny_mono h₂ (fun ok s₃ h₃=>?_) fun _ _ h'=>h')) fun _ _ h'=>h')
  cases ok with
  | false=>exact wpAny_pure ⟨rfl,h₃⟩
  | true=>
   exact wpAny_bind (wpAny_bind (wpAny_mono h₃ (fun x s₄ h₄=>wpAny_bind (wpAny_mono h₄ (fun _ s₅ h₅=>wpAny_pure (wpAny_pure ⟨rfl,h₅⟩)) fun _ _ h'=>h')) fun _ _ h'=>h'))
end
theorem cf_keep {x:Str}:∀ (names:List (Str × NameKind)) (n:Nat) (acc:List (Str × Addr)),((x,NameKind.cell) ∉ names)->(cellsFrom n names acc).lookup x=acc.lookup x
 | [],_,_,_=>rfl
 | (y,k) :: r,n,acc,h=>by
  unfold cellsFrom
  have hr:(x,NameKind.cell) ∉ r:=fun z=>h (List.mem_cons_of_mem _ z)
  split
  ·rename_i hk
   rw [cf_keep r _ _ hr,List.lookup_cons]
   have:(x == y)=false:=by
    cases e:x == y with
    | false=>rfl
    | true=>exact absurd (by rw [eq_of_beq e,<-eq_of_beq hk]; exact List.mem_cons_self) h
   rw [this]
  ·exact cf_keep r _ _ hr
theorem cf_new {x:Str} {c:Addr}:∀ (names:List (Str × NameKind)) (h:Heap) (acc:List (Str × Addr)),(cellsFrom h.objs.size names acc).lookup x=some c->acc.lookup x=some c\/(h.objs.size<=c/\(x,NameKind.cell) ∈ names/\(pushCells h names).IsCell c none)
 | [],_,_,e=>.inl e
 | (y,k) :: r,h,acc,e=>by
  unfold cellsFrom at e
  unfold pushCells
  split at e
  ·rename_i hk
   rw [if_pos hk]
   have sz:(h.push { cls:=.type "cell",data:=.cell none }).objs.size=h.objs.size + 1:=Heap.size_push ..
   rw [<-sz] at e
   rcases cf_new r _ _ e with z | ⟨z1,z2,z3⟩
   ·rw [List.lookup_cons] at z
    split at z
    ·rename_i hx
     cases z
     refine .inr ⟨Nat.le_refl _,?_,⟨_,pushCells_keeps r _ _ _ (Heap.get?_push_size _ rfl),rfl⟩⟩
     rw [eq_of_beq hx,<-eq_of_beq hk]; exact List.mem_cons_self
    ·exact .inl z
   ·exact .inr ⟨by rw [sz] at z1; omega,List.mem_cons_of_mem _ z2,z3⟩
  ·rename_i hk
   rw [if_neg hk]
   rcases cf_new r _ _ e with z | ⟨z1,z2,z3⟩
   ·exact .inl z
   ·exact .inr ⟨z1,List.mem_cons_of_mem _ z2,z3⟩
theorem cf_ge {x:Str} {c:Addr}:∀ (names:List (Str × NameKind)) (n:Nat) (acc:List (Str × Addr)),(x,NameKind.cell) ∈ names->(cellsFrom n names acc).lookup x=some c->n<=c
 | (y,k) :: r,n,acc,hm,e=>by
  unfold cellsFrom at e
  by_cases hr:(x,NameKind.cell) ∈ r
  ·split at e
   ·have:=cf_ge r _ _ hr e; omega
   ·exact cf_ge r _ _ hr e
  ·rcases List.mem_cons.mp hm with z | z
   ·cases z
    rw [if_pos (by rfl),cf_keep r _ _ hr,List.lookup_cons,beq_self_eq_true] at e
    cases e
    exact Nat.le_refl _
   ·exact absurd z hr
theorem cf_has {x:Str}:∀ (names:List (Str × NameKind)) (n:Nat) (acc:List (Str × Addr)),((x,NameKind.cell) ∈ names\/(acc.lookup x).isSome=true)->((cellsFrom n names acc).lookup x).isSome=true
 | [],_,_,h=>by rcases h with h | h; cases h; exact h
 | (y,k) :: r,n,acc,h=>by
  unfold cellsFrom
  split
  ·rename_i hk
   refine cf_has r _ _ ?_
   rcases h with h | h
   ·rcases List.mem_cons.mp h with z | z
    ·cases z; right; rw [List.lookup_cons,beq_self_eq_true]; rfl
    ·exact .inl z
   ·right
    rw [List.lookup_cons]
    split
    ·rfl
    ·exact h
  ·rename_i hk
   refine cf_has r _ _ ?_
   rcases h with h | h
   ·rcases List.mem_cons.mp h with z | z
    ·cases z; exact absurd rfl hk
    ·exact .inl z
   ·exact .inr h
theorem cf_inj {x y:Str} {c:Addr} {lo:Nat}:∀ (names:List (Str × NameKind)) (n:Nat) (acc:List (Str × Addr)),(∀ x y c,lo<=c->acc.lookup x=some c->acc.lookup y=some c->x=y)->(∀ x c,acc.lookup x=some c->c < n)->lo<=c->(cellsFrom n names acc).lookup x=some c->(cellsFrom n names acc).lookup y=some c->x=y
 | [],_,_,h,_,l,e1,e2=>h _ _ _ l e1 e2
 | (z,k) :: r,n,acc,h,hb,l,e1,e2=>by
  unfold cellsFrom at e1 e2
  split at e1
  ·rename_i hk
   rw [if_pos hk] at e2
   refine cf_inj r (n + 1) ((z,n) :: acc) (fun x y c l e1 e2=>?_) (fun x c e=>?_) l e1 e2
   ·rw [List.lookup_cons] at e1 e2
    split at e1 <;> split at e2
    ·rename_i a _ b; rw [eq_of_beq a,eq_of_beq b]
    ·cases e1; exact absurd (hb _ _ e2) (Nat.lt_irrefl _)
    ·cases e2; exact absurd (hb _ _ e1) (Nat.lt_irrefl _)
    ·exact h _ _ _ l e1 e2
   ·rw [List.lookup_cons] at e
    split at e
    ·cases e; exact Nat.lt_succ_self _
    ·exact Nat.lt_succ_of_lt (hb _ _ e)
  ·rename_i hk
   rw [if_neg hk] at e2
   exact cf_inj r n acc h hb l e1 e2
theorem wpAny_newCompEnv {M:Model} {A:Around} {E:Value->Shared->Prop} {s:Shared} {scope:Scope} {globals:Addr} {cl:List (Str × Addr)} {qual:Str} {env:Env} {Q:Env->Shared->Prop}
  (h:Q { scope,locals:=s.heap.objs.size,globals,cells:=cellsFrom (s.heap.objs.size + 1) scope.names cl,qual,func:=none,code:=env.code,frame:=env.frame,builtins:=env.builtins } { s with heap:=pushCells (s.heap.push { cls:=.type "dict",data:=.dict #[] }) scope.names }) :
  wpAny M A (newFunctionEnv scope globals cl [] qual none .none (some env)) Q E s:=by
 simp only [newFunctionEnv,Option.isSome_some,if_true]
 refine wpAny_bind (wpAny_alloc ?_)
 refine wpAny_bind (wpAny_layCells _ (fun name kind cells=>by cases hkc:kind == NameKind.cell <;> simp [hkc]) _ _ _ _ ?_)
 rw [show ({ s with heap:=s.heap.push { cls:=.type "dict",data:=.dict #[] } }:Shared).heap.objs.size=s.heap.objs.size + 1 from Heap.size_push ..]
 exact wpAny_bind (wpAny_pure (wpAny_pure h))
noncomputable abbrev compCx (X:Cx) (scope:Scope) (N':List Str) (C:Addr) (fp:List Addr) (s₂:Shared) (H₂:Hp) (pl:List (Addr × Obj)):Cx where
 prog:=X.prog
 w:=X.w
 K:=X.K
 mg:=X.mg
 base:=X.base
 A:=X.A
 N:=N'
 s₀:=s₂
 H₀:=H₂
 env:=compEnvC scope (cellsFrom (C + 1) scope.names (closL X.env scope.names [])) C X.env
 outer:=X.stack
 stack:=X.stack
 ex:=fp
 fn:=fun y=>scope.names.lookup y == some .cell
 calm:=X.calm
 pn:=X.pn ++ pl
 xe:=fun _ _=>False
structure CompScope (X:Cx) (scope:Scope) (own capN:List Str) (caps:List Nat):Prop where
 kind:scope.kind=.function
 one:∀ y ∈ scope.names,scope.names.lookup y.1=some y.2
 free:∀ y ∈ scope.names,y.2=.free->X.env.kindOf y.1=some .cell\/X.env.kindOf y.1=some .free
 loc:∀ y ∈ scope.names,y.2=.local->scope.names.lookup y.1=some .local
 caps:caps.map (fun j=>X.N[j]?)=capN.map some
 capf:∀ x ∈ capN,scope.names.lookup x=some .free
noncomputable def liftC (own:List Str) (caps:List Nat) (σ:St):St:=own.map (fun _=>none) ++ caps.map (fun j=>(σ[j]?).getD none)
section
variable {X:Cx} {scope:Scope} {own capN:List Str} {caps:List Nat}
theorem CompScope.cells (S:CompScope X scope own capN caps) (ok:X.Ok):∀ y ∈ scope.names,y.2=.free->(X.env.cells.lookup y.1).isSome=true:=fun y hy hf=>by
 obtain ⟨c,hc⟩:=ok.has y.1 (S.free y hy hf)
 rw [hc]; rfl
theorem CompScope.cl (S:CompScope X scope own capN caps) (ok:X.Ok) {x:Str} {c:Addr} (h:(closL X.env scope.names []).lookup x=some c):X.env.cells.lookup x=some c:=
 closL_keep (S.cells ok) (fun _ e=>by simp at e) h
theorem inv_comp {pins:List (Addr × Obj)} {σ:St} {H₂:Hp} {s₂:Shared} {h₁:Heap} {C:Addr} {fp:List Addr} {tk:Nat} {m:Str->Option Value} (S:CompScope X scope own capN caps) (I:Inv X pins σ H₂ s₂)
  (hf:∀ b ∈ fp,FpOk X pins H₂ b) (hfo:∀ b ∈ fp,b < s₂.heap.objs.size) (hC:s₂.heap.objs.size<=C) (hk:∀ b o,s₂.heap.get? b=some o->h₁.get? b=some o) (hn:h₁.Ns C m) (hnew:∀ x c,(cellsFrom (C + 1) scope.names (closL X.env scope.names [])).lookup x=some c->(closL X.env scope.names []).lookup x=some c\/(C + 1<=c/\h₁.IsCell c none)) :
  Inv (compCx X scope (own ++ capN) C fp s₂ H₂ pins) [] (liftC own caps σ) H₂ { s₂ with heap:=h₁,toks:=tk }:=by
 have cl:=fun {x:Str} {c:Addr}=>S.cl (x:=x) (c:=c) I.ok
 have lt:∀ {x:Str} {c:Addr},X.env.cells.lookup x=some c->c < s₂.heap.objs.size:=fun e=>by obtain ⟨v,q⟩:=I.cell _ _ e; exact q.lt
 have far:∀ {x:Str} {c:Addr},X.env.cells.lookup x=some c->C + 1<=c->False:=fun e z=>absurd (Nat.lt_of_lt_of_le (lt e) (Nat.le_trans hC (Nat.le_of_succ_le z))) (Nat.lt_irrefl _)
 have dich:∀ {x:Str} {c:Addr},(cellsFrom (C + 1) scope.names (closL X.env scope.names [])).lookup x=some c->X.env.cells.lookup x=some c\/(C + 1<=c/\h₁.IsCell c none):=fun {x c} e=>(hnew x c e).imp (fun z=>cl z) fun z=>z
 have kindRel:∀ x,((relabel scope X.env).names.lookup x=some .cell\/(relabel scope X.env).names.lookup x=some .free)->scope.names.lookup x=some .free\/scope.names.lookup x=some .cell:=fun x hx=>by
  cases e:scope.names.lookup x with
  | none=>
   have z:(relabel scope X.env).names.lookup x=none:=relabel_none (env:=X.env) e
   rw [z] at hx
   rcases hx with q | q <;> cases q
  | some k=>
   rcases relabel_of (env:=X.env) e with z | ⟨z,_⟩
   ·have z':(relabel scope X.env).names.lookup x=some k:=z
    rw [z'] at hx
    rcases hx with q | q
    ·cases q; exact .inr rfl
    ·cases q; exact .inl rfl
   ·rw [z]; exact .inl rfl
 have stk:∀ b,b ≠ X.env.locals->b ∉ X.fs->b ∉ frs X.stack:=fun b h1 h2 z=>(List.mem_cons.mp (I.stkSub b z)).elim h1 h2
 refine ⟨⟨I.ok.mod,S.kind,I.ok.glob,I.ok.blt,hC,fun x y c h1 h2=>?inj,fun x hx=>?_,fun x c h e=>?cab,I.ok.hd,I.ok.frames,.inl rfl,fun b hb=>⟨?_,fun x c h=>?exf⟩,
   I.bs,Nat.le_trans I.ok.bsz I.sz,fun b o e hb=>?_,fun b hb=>stk b (hf b hb).2.1 (hf b hb).2.2.1,I.stack,I.stkFree⟩,
  rfl,I.bare,Un.kept hk,⟨m,hn,fun i x v h1 h2 h3=>?_⟩,fun x c h=>?_,I.hok.fresh hC,fun x c h=>?frc,fun p hp=>?_,I.hok.kept hk,?_⟩
 case inj=>
  rcases dich h1 with z1 | ⟨z1,_⟩ <;> rcases dich h2 with z2 | ⟨z2,_⟩
  ·exact I.ok.inj x y c z1 z2
  ·exact (far z1 z2).elim
  ·exact (far z2 z1).elim
  ·exact cf_inj (lo:=C + 1) scope.names (C + 1) (closL X.env scope.names []) (fun x y c l e _=>(far (cl e) l).elim) (fun x c e=>Nat.lt_succ_of_le (Nat.le_trans (Nat.le_of_lt (lt (cl e))) hC)) z1 h1 h2
 case cab=>
  have e1:=eq_of_beq (show (scope.names.lookup x == some NameKind.cell)=true from h)
  have:=cf_ge scope.names (C + 1) (closL X.env scope.names []) (PySem.mem_of_lookup e1) e
  exact Nat.le_trans hC (Nat.le_of_succ_le this)
 case exf=>
  rcases dich h with z | ⟨z,_⟩
  ·exact (hf b hb).2.2.2.2.1 x c z
  ·exact Ne.symm (Nat.ne_of_lt (Nat.lt_of_lt_of_le (hfo b hb) (Nat.le_trans hC (Nat.le_of_succ_le z))))
 case frc=>
  rcases dich h with z | ⟨z,_⟩
  ·exact I.freeC x c z
  ·exact I.hok.fresh (Nat.le_trans hC (Nat.le_of_succ_le z))
 ·refine Option.isSome_iff_exists.mp (cf_has scope.names (C + 1) (closL X.env scope.names []) ?_)
  rcases kindRel x hx with q | q
  ·exact .inr (closL_has (env:=X.env) (.inl (PySem.mem_of_lookup q)))
  ·exact .inl (PySem.mem_of_lookup q)
 ·exact Nat.ne_of_lt (Nat.lt_of_lt_of_le (hfo b hb) hC)
 ·rcases (hf b hb).2.2.2.1 with z | z
  ·exact I.ok.noex b o e z
  ·exact absurd (Nat.lt_of_lt_of_le (Heap.lt_size (I.ok.bs b o e).1) z) (Nat.lt_irrefl _)
 ·
  have hi:own.length<=i:=by
   refine Nat.le_of_not_lt fun hlt=>?_
   unfold liftC at h2
   rw [List.getElem?_append_left (by simpa using hlt),List.getElem?_map] at h2
   cases q:own[i]? with
   | none=>rw [q] at h2; cases h2
   | some y=>rw [q] at h2; cases h2
  have h1':capN[i - own.length]? = some x:=by
   have:(own ++ capN)[i]? = some x:=h1
   rwa [List.getElem?_append_right hi] at this
  have h2':(caps.map (fun j=>(σ[j]?).getD none))[i - own.length]? = some (some v):=by
   unfold liftC at h2
   rwa [List.getElem?_append_right (by simpa using hi),List.length_map] at h2
  rw [List.getElem?_map] at h2'
  obtain ⟨j,hj,hj2⟩:=Option.map_eq_some_iff.mp h2'
  have hX:X.N[j]? = some x:=by
   have q:=congrArg (fun l=>l[i - own.length]?) S.caps
   simp only [List.getElem?_map,hj,h1',Option.map_some] at q
   exact Option.some.inj q
  have hσ:σ[j]? = some (some v):=by
   cases q:σ[j]? with
   | none=>rw [q] at hj2; cases hj2
   | some z=>rw [q] at hj2; simp at hj2; rw [hj2]
  have hfr:=S.capf x (List.mem_of_getElem? h1')
  have hmem:(x,NameKind.free) ∈ scope.names:=PySem.mem_of_lookup hfr
  have hkX:=S.free _ hmem rfl
  obtain ⟨m',hm',hl⟩:=I.loc
  obtain ⟨u,ru,l⟩:=hl j x v hX hσ (hkX.elim (fun q=>.inr (.inl q)) fun q=>.inr (.inr q))
  refine ⟨u,ru,.inr ⟨?_,?_⟩⟩
  ·rcases relabel_of (env:=X.env) hfr with z | ⟨_,z⟩
   ·exact .inr z
   ·exact .inl z
  ·rcases l with ⟨l,_⟩ | ⟨_,c,hc,hcell⟩
   ·have l':X.env.kindOf x=some .local:=l
    rcases hkX with q | q <;> (rw [l'] at q; cases q)
   ·obtain ⟨c',hc'⟩:=Option.isSome_iff_exists.mp (closL_has (env:=X.env) (acc:=[]) (.inl hmem))
    have:=cl hc'
    rw [hc] at this
    cases this
    obtain ⟨o,ho,hd⟩:=hcell
    have nc:(x,NameKind.cell) ∉ scope.names:=fun z=>by
     have:=S.one _ z
     rw [hfr] at this
     cases this
    exact ⟨c,(cf_keep scope.names (C + 1) (closL X.env scope.names []) nc).trans hc',o,hk c o ho,hd⟩
 ·rcases dich h with z | ⟨_,z⟩
  ·obtain ⟨v,o,ho,hd⟩:=I.cell x c z
   exact ⟨v,o,hk c o ho,hd⟩
  ·exact ⟨_,z⟩
 ·have hp':p ∈ X.pn ++ pins:=by simpa using hp
  obtain ⟨e,n,ne,nf,d⟩:=I.pin p hp'
  exact ⟨hk _ _ e,n,Nat.ne_of_lt (Nat.lt_of_lt_of_le (Heap.lt_size e) hC),stk p.1 ne nf,d⟩
 ·unfold liftC
  have hl:=congrArg List.length S.caps
  simp only [List.length_map] at hl
  show (own.map (fun _=>(none:Option V)) ++ caps.map (fun j=>(σ[j]?).getD none)).length=(own ++ capN).length
  rw [List.length_append,List.length_append,List.length_map,List.length_map,hl]
end
noncomputable def PTs (X:Cx) (ifs:List Expr) (t:TT):Prop:=
 ∀ (pins:List (Addr × Obj)) (s:Shared) (σ:St) (H:Hp) (Q:Bool->Hp->Prop),Inv X pins σ H s->t σ H Q->
  wpAny (model X.prog X.w) X.A (forIn ifs true fun c r=>if r=true then do let ok <-isTrue c X.env (eval c X.env); pure (ForInStep.yield ok) else pure (ForInStep.yield r)) (TP X pins σ Q) X.xe s
noncomputable def tYes:TT:=fun _ H Q=>Q true H
theorem pts_nil {X:Cx}:PTs X [] tYes:=fun _ _ _ H _ I h=>wpAny_tests_nil ⟨H,I,h⟩
theorem pts_one {X:Cx} {c:Expr} {t:TT} (h:PT X c t):PTs X [c] t:=fun pins s σ H Q I q=>wpAny_tests_one (h pins s σ H Q I q)
noncomputable def tComp (own:List Str) (caps:List Nat) (wi:TI) (g:TG) (tc:TT) (te:TE):TE:=fun σ H Q=>wi σ H fun J H1=>∃ W:Nat->Nat->List V->St->Hp->Prop,(∃ m,W 0 m [] (liftC own caps σ) H1)/\∀ i m ys σ' H,W i m ys σ' H->
 (J.stop i H/\ys.length<=sizeLine/\∀ p,H p=none->Q (.ref p) (upd H p (.lst ys)))\/
 (J.go i H/\∀ x H',J.yld i H x H'->g x σ' H' fun σ2 H2=>tc σ2 H2 fun b H3=>if b=true then te σ2 H3 fun y H4=>ys.length < sizeLine/\∃ m',m' < m/\W (i + 1) m' (ys ++ [y]) σ2 H4 else ∃ m',m' < m/\W (i + 1) m' ys σ2 H3)
section
variable {X:Cx} {scope:Scope} {own capN:List Str} {caps:List Nat} {tg iter elt:Expr} {ifs:List Expr} {wi:TI} {g:TG} {tc:TT} {te:TE} {pos:Pos}
theorem comp_core {pins:List (Addr × Obj)} {σ:St} {H:Hp} {s:Shared} {Q:VK} {RR:Value->Addr->Result->Shared->Prop} (S:CompScope X scope own capN caps) (hc:X.calm=true) (hi:PI X tg iter wi)
  (hin:∀ C fp s₂ H₂ pl,PG (compCx X scope (own ++ capN) C fp s₂ H₂ pl) tg g/\PTs (compCx X scope (own ++ capN) C fp s₂ H₂ pl) ifs tc/\PE (compCx X scope (own ++ capN) C fp s₂ H₂ pl) elt te)
  (I:Inv X pins σ H s) (h:tComp own caps wi g tc te σ H Q)
  (hRR:∀ (D C:Addr) (s':Shared) (H':Hp) (m:Str->Option Value),Inv X pins σ H' s'->FpOk X pins H' C->s'.heap.Ns C m->Q (.ref D) H'->RR (.ref D) C (.ok .next) s') :
  wpAny (model X.prog X.w) X.A (eval iter X.env) (fun x s₁=>wpAny (model X.prog X.w) X.A (pyIter x) (fun it s₂=>wpAny (model X.prog X.w) X.A (newList []) (fun acc s₃=>
   wpAny (model X.prog X.w) X.A (newFunctionEnv scope X.env.globals (closL X.env scope.names []) [] X.env.qual none .none (some X.env)) (fun cenv s₄=>
    codeAny (model X.prog X.w) X.A (.compStart (.ListComp elt [⟨tg,iter,ifs,0⟩] scope pos) 0 it acc { cenv with scope:=relabel scope X.env }) (RR acc cenv.locals) s₄) X.xe s₃) X.xe s₂) X.xe s₁) X.xe s:=by
 refine thn (hi pins s σ H _ I h) fun v s1 h1=>thn h1 fun itv s2 h2=>?_
 obtain ⟨it,fp,tn,J,H2,e,I2,T,st2,f2,W,⟨m0,w0⟩,turn⟩:=h2
 subst e
 have hfo:∀ b ∈ fp,b < s2.heap.objs.size:=fun b hb=>by obtain ⟨o,e,_⟩:=T.obj _ _ st2 b hb; exact Heap.lt_size e
 refine wpAny_newObj_type (wpAny_newCompEnv ?_)
 dsimp only
 generalize hH2:s2.heap.push { cls:=.type "list",dict:=none,data:=.seq ([]:List Value).toArray } = HH
 have hC:HH.objs.size=s2.heap.objs.size + 1:=by rw [<-hH2,Heap.size_push]
 have hCle:s2.heap.objs.size<=HH.objs.size:=by rw [hC]; exact Nat.le_succ _
 have hDC:s2.heap.objs.size ≠ HH.objs.size:=by rw [hC]; exact Nat.ne_of_lt (Nat.lt_succ_self _)
 have below:∀ b,b < s2.heap.objs.size->b ≠ HH.objs.size:=fun b hb=>by rw [hC]; exact Nat.ne_of_lt (Nat.lt_succ_of_lt hb)
 have szp:(HH.push { cls:=.type "dict",data:=.dict #[] }).objs.size=HH.objs.size + 1:=Heap.size_push ..
 have hnew:∀ x c,(cellsFrom (HH.objs.size + 1) scope.names (closL X.env scope.names [])).lookup x=some c->(closL X.env scope.names []).lookup x=some c\/(HH.objs.size + 1<=c/\(pushCells (HH.push { cls:=.type "dict",data:=.dict #[] }) scope.names).IsCell c none):=fun x c e=>by
  rw [<-szp] at e ⊢
  exact (cf_new scope.names _ _ e).imp (fun z=>z) fun ⟨z1,_,z2⟩=>⟨z1,z2⟩
 have hns₁:(pushCells (HH.push { cls:=.type "dict",data:=.dict #[] }) scope.names).Ns HH.objs.size (fun _=>none):=(Heap.Ns.new HH (.type "dict")).keeps (pushCells_keeps _ _)
 have old:∀ b o,s2.heap.get? b=some o->(pushCells (HH.push { cls:=.type "dict",data:=.dict #[] }) scope.names).get? b=some o:=fun b o e=>pushCells_keeps _ _ b o (Heap.get?_push_of_some _ (hH2 ▸ Heap.get?_push_of_some _ e))
 have hacc:(pushCells (HH.push { cls:=.type "dict",data:=.dict #[] }) scope.names).get? s2.heap.objs.size=some { cls:=.type "list",dict:=none,data:=.seq ([]:List Value).toArray }:=pushCells_keeps _ _ _ _ (Heap.get?_push_of_some _ (hH2 ▸ Heap.get?_push_size _ rfl))
 generalize pushCells (HH.push { cls:=.type "dict",data:=.dict #[] }) scope.names=h₁ at hnew hns₁ old hacc ⊢
 generalize hCe:HH.objs.size=C at hns₁ hDC hCle below hnew ⊢
 generalize hDe:s2.heap.objs.size=D at hacc hDC ⊢
 clear hH2 hC hCe szp HH
 obtain ⟨hg,ht,he⟩:=hin C fp s2 H2 pins
 have Ic:Inv (compCx X scope (own ++ capN) C fp s2 H2 pins) [] (liftC own caps σ) H2 { s2 with heap:=h₁,toks:=s2.toks }:=inv_comp S I2 f2 hfo (by rw [hDe]; rw [hDe] at hCle; exact hCle) old hns₁ hnew
 have cellsD:∀ x c,(cellsFrom (C + 1) scope.names (closL X.env scope.names [])).lookup x=some c->c ≠ D:=fun x c e z=>by
  rcases hnew x c e with e | ⟨e,_⟩
  ·obtain ⟨v,q⟩:=I2.cell x c (S.cl I2.ok e)
   exact absurd q.lt (by rw [z,hDe]; exact Nat.lt_irrefl _)
  ·rw [hDe] at hCle; exact absurd (Nat.lt_of_le_of_lt hCle (Nat.lt_of_lt_of_le (Nat.lt_succ_self C) e)) (by rw [z]; exact Nat.lt_irrefl _)
 have DnotFs:D ∉ frs X.stack:=fun z=>by
  rcases List.mem_cons.mp (I2.stkSub D z) with q | q
  ·exact absurd I2.lt (by rw [<-q,hDe]; exact Nat.lt_irrefl _)
  ·exact I2.nofs (by rw [hDe]; exact Nat.le_refl _) q
 have DnotPin:∀ p ∈ X.pn ++ pins,p.1 ≠ D:=fun p hp z=>absurd (Heap.lt_size (I2.pin p hp).1) (by rw [z,hDe]; exact Nat.lt_irrefl _)
 have pinD:∀ {σ':St} {H':Hp} {s':Shared} {us:List Value} {k:Nat},Inv (compCx X scope (own ++ capN) C fp s2 H2 pins) [] σ' H' s'->s'.heap.get? D=some { cls:=.type "list",data:=.seq us.toArray k }->H' D=none->
   Inv (compCx X scope (own ++ capN) C fp s2 H2 pins) [(D,{ cls:=.type "list",data:=.seq us.toArray k })] σ' H' s':=fun J e n=>J.pins_of fun p hp=>by
  obtain rfl:=List.mem_singleton.mp hp
  exact ⟨e,n,hDC,DnotFs,fun v z=>by cases z⟩
 have fpc:∀ {H':Hp} {o:Obj},(∀ b ∈ fp,H' b=none)->∀ b ∈ fp,FpOk (compCx X scope (own ++ capN) C fp s2 H2 pins) [(D,o)] H' b:=fun hn b hb=>by
  obtain ⟨f0,f1,f2',f3,f4,f5⟩:=f2 b hb
  refine ⟨hn b hb,Nat.ne_of_lt (Nat.lt_of_lt_of_le (hfo b hb) (by rw [hDe]; rw [hDe] at hCle; exact hCle)),fun z=>(List.mem_cons.mp (I2.stkSub b z)).elim f1 f2',.inl hb,fun x c e=>?cl,fun p hp=>?_⟩
  case cl=>
   rcases hnew x c e with e | ⟨e,_⟩
   ·exact f4 x c (S.cl I2.ok e)
   ·exact Ne.symm (Nat.ne_of_lt (Nat.lt_of_lt_of_le (hfo b hb) (Nat.le_trans (by rw [hDe]; rw [hDe] at hCle; exact hCle) (Nat.le_of_succ_le e))))
  rcases List.mem_append.mp hp with hp | hp
  ·exact f5 p hp
  ·obtain rfl:=List.mem_singleton.mp hp
   intro z
   have z':D=b:=z
   exact absurd (hfo b hb) (by rw [<-z',hDe]; exact Nat.lt_irrefl _)
 have loop:codeAny (model X.prog X.w) X.A (.compLoop (.ListComp elt [⟨tg,iter,ifs,0⟩] scope pos) 0 (.ref it) (.ref D) (compEnvC scope (cellsFrom (C + 1) scope.names (closL X.env scope.names [])) C X.env)) (RR (.ref D) C) { s2 with heap:=h₁,toks:=s2.toks }:=by
  refine compLoop_any (fun n s'=>∃ i ys us k σ' H',Inv (compCx X scope (own ++ capN) C fp s2 H2 pins) [(D,{ cls:=.type "list",data:=.seq us.toArray k })] σ' H' s'/\tn i s'.heap/\(∀ b ∈ fp,H' b=none)/\Vals ys us/\W i n ys σ' H') ?_ m0
   ⟨0,[],[],0,_,H2,pinD Ic hacc (I2.hok.fresh (by rw [hDe]; exact Nat.le_refl _)),T.keep _ _ _ st2 fun b _ o e=>old b o e,fun b hb=>(f2 b hb).1,.nil,w0⟩
  rintro n s3 ⟨i,ys,us,k,σ3,H3,I3,st3,fr3,r3,w3⟩
  rcases turn i n ys σ3 H3 w3 with ⟨stop,hz,qn⟩ | ⟨go,step⟩
  ·refine thn (T.done (compCx X scope (own ++ capN) C fp s2 H2 pins) rfl rfl rfl hc i _ s3 σ3 H3 _ I3 (fpc fr3) st3 stop) fun r s4 ⟨hr,I4⟩=>?_
   subst hr
   obtain ⟨eD,nD,_⟩:=I4.pin (D,_) (List.mem_append_right _ (List.mem_singleton.mpr rfl))
   have nD':H3 D=none:=nD
   have I5:Inv X pins σ (upd H3 D (.lst ys)) s4:=by
    refine I2.call' (ch:=fp) I4.os ⟨I4.base.keep,I4.base.slot,fun b o e n hx=>?_,I4.base.there,fun b xs e=>?_,fun b o u e=>?_,fun b ps e=>?_⟩ (fun b u e=>?_) I4.bare fun b hb=>⟨(f2 b hb).2.2.2.1,(f2 b hb).2.1,(f2 b hb).2.2.2.2.1,(f2 b hb).2.2.2.2.2⟩
    ·rw [upd_ne (by intro z; exact absurd (Heap.lt_size e) (by rw [z,hDe]; exact Nat.lt_irrefl _))]
     exact I4.base.free b o e n hx
    ·have q:=I4.base.tups b xs e
     rw [upd_ne (ne_of_none q nD')]; exact q
    ·have q:=I4.base.frzs b o u e
     rw [upd_ne (ne_of_none q nD')]; exact q
    ·obtain ⟨more,q⟩:=I4.base.tbls b ps e
     exact ⟨more,by rw [upd_ne (ne_of_none q nD')]; exact q⟩
    ·by_cases hb:b=D
     ·subst hb
      rw [upd_same] at e; cases e
      exact ⟨hz,us,k,r3,eD⟩
     ·rw [upd_ne hb] at e
      exact (I4.hok b u e).stay (fun _ _ _ q=>q) (fun c q=>by rw [upd_ne (ne_of_none q nD')]; exact q) fun c xs q=>by rw [upd_ne (ne_of_none q nD')]; exact q
   obtain ⟨m,hm,_⟩:=I4.loc
   exact hRR D C s4 _ m I5 (I2.fpOk (by rw [hDe]; rw [hDe] at hCle; exact hCle) (by rw [upd_ne (Ne.symm hDC)]; exact I4.free)) hm (qn D nD')
  ·refine thn (T.item (compCx X scope (own ++ capN) C fp s2 H2 pins) rfl rfl rfl hc i _ s3 σ3 H3 _ I3 (fpc fr3) st3 go) fun r s4 ⟨u,hr,h4⟩=>?_
   subst hr
   refine thn h4 fun _ s5 ⟨x,H5,I5,r5,y5,st5,fr5⟩=>?_
   have I5':=I5.pinned (fpc fr5) (T.obj _ _ st5)
   refine thn (hg _ s5 σ3 H5 x u _ I5' r5 (step x H5 y5)) fun _ s6 ⟨σ6,H6,I6,q6⟩=>?_
   refine thn (ht _ s6 σ6 H6 _ I6 q6) fun ok s7 ⟨H7,I7,q7⟩=>?_
   have back:∀ {σ8:St} {H8:Hp} {s8:Shared},Inv (compCx X scope (own ++ capN) C fp s2 H2 pins) ([(D,{ cls:=.type "list",data:=.seq us.toArray k })] ++ pinsAt fp s5.heap) σ8 H8 s8->tn (i + 1) s8.heap/\(∀ b ∈ fp,H8 b=none):=fun {σ8 H8 s8} I8=>by
    refine ⟨T.keep _ _ _ st5 fun b hb o e=>(I8.pin (b,o) (List.mem_append_right _ (List.mem_append_right _ (mem_pinsAt hb e)))).1,fun b hb=>?_⟩
    obtain ⟨o,e,d⟩:=T.obj _ _ st5 b hb
    exact (I8.pin (b,o) (List.mem_append_right _ (List.mem_append_right _ (mem_pinsAt hb e)))).2.1
   cases ok with
   | false=>
    obtain ⟨m',hm,w7⟩:=q7
    obtain ⟨t7,n7⟩:=back I7
    exact ⟨m',hm,i + 1,ys,us,k,σ6,H7,I7.unpinned,t7,n7,r3,w7⟩
   | true=>
    refine thn (he _ s7 σ6 H7 _ I7 q7) fun u8 s8 ⟨y,H8,I8,r8,hz,m',hm,w8⟩=>?_
    obtain ⟨t8,n8⟩:=back I8
    have I9:=I8.unpinned
    obtain ⟨eD,nD,neD,nfD,_⟩:=I9.pin (D,_) (List.mem_append_right _ (List.mem_singleton.mpr rfl))
    have hl:=r3.length
    refine call_meets F.slot_list_append ⟨_,eD,rfl⟩ F.entry_list_append (F.args_list_append_2 _ _) (PySem.list_append D us.toArray k u8 (by rw [List.size_toArray]; omega)) ⟨eD,?_⟩
    have q:=PySem.IsL.update eD (fun a=>a.push u8)
    have e2:us.toArray.push u8=(us ++ [u8]).toArray:=by simp
    rw [e2] at q
    have keep:∀ b o,b ≠ D->s8.heap.get? b=some o->(s8.heap.update D (Obj.mapSeq fun a=>a.push u8)).get? b=some o:=fun b o hb e=>(Heap.get?_update_other s8.heap _ (Ne.symm hb)).trans e
    have I10:Inv (compCx X scope (own ++ capN) C fp s2 H2 pins) [] σ6 H8 { s8 with heap:=s8.heap.update D (Obj.mapSeq fun a=>a.push u8) }:=by
     refine (I9.pins_of (pins':=[]) fun p hp=>absurd hp (by simp)).turned (t':=s8.toks) (it:=D) keep nD neD (.inr (by rw [hDe]; exact Nat.le_refl _)) cellsD fun p hp=>?_
     exact DnotPin p (by simpa using hp)
    exact ⟨m',hm,i + 1,ys ++ [y],us ++ [u8],_,σ6,H8,pinD I10 q nD,T.keep _ _ _ t8 fun b hb o e=>keep b o (by intro z; exact absurd (hfo b hb) (by rw [z,hDe]; exact Nat.lt_irrefl _)) e,n8,r3.append (.cons r8 .nil),w8⟩
 exact codeAny_compStart_list loop (wpAny_noRaise (T.self _ 0 _ _ _ (T.keep _ _ _ st2 fun b _ o e=>old b o e) loop))
theorem pe_comp (S:CompScope X scope own capN caps) (hc:X.calm=true) (hi:PI X tg iter wi)
  (hin:∀ C fp s₂ H₂ pl,PG (compCx X scope (own ++ capN) C fp s₂ H₂ pl) tg g/\PTs (compCx X scope (own ++ capN) C fp s₂ H₂ pl) ifs tc/\PE (compCx X scope (own ++ capN) C fp s₂ H₂ pl) elt te)
  (hs:∀ x,foldedSetIterable iter X.env x=pure x:=by intro _; rfl):PE X (.ListComp elt [⟨tg,iter,ifs,0⟩] scope pos) (tComp own caps wi g tc te):=by
 intro pins s σ H Q I h
 rw [eval_ListComp]
 refine wpAny_comprehension_free (use:=none) rfl hs (closureFor_cells (S.cells I.ok)) S.kind S.loc ?_
 refine comp_core S hc hi hin I h fun D C s' H' m I' f hm q=>⟨m,hm,fun h' hs'=>?_⟩
 exact ⟨.ref D,H',I'.turned (t':=s'.toks) (it:=C) (fun b o hb e=>(hs'.2 b hb).trans e) f.1 f.2.1 f.2.2.2.1 f.2.2.2.2.1 f.2.2.2.2.2,rfl,q⟩
theorem ps_setComp {i:Nat} {y:Str} {py spos:Pos} (hN:X.N.Nodup) (hi':X.N[i]? = some y) (hx:Loc X.env.scope y) (S:CompScope X scope own capN caps) (hc:X.calm=true) (hi:PI X tg iter wi)
  (hin:∀ C fp s₂ H₂ pl,PG (compCx X scope (own ++ capN) C fp s₂ H₂ pl) tg g/\PTs (compCx X scope (own ++ capN) C fp s₂ H₂ pl) ifs tc/\PE (compCx X scope (own ++ capN) C fp s₂ H₂ pl) elt te)
  (hsw:swapsWith (.ListComp elt [⟨tg,iter,ifs,0⟩] scope pos) (some (.Name y py)) spos.line X.env=pure true:=by rfl)
  (hs:∀ x,foldedSetIterable iter X.env x=pure x:=by intro _; rfl) (hf:X.fn y=true\/X.env.scope.names.lookup y=some .local:=by first | exact .inl rfl | exact .inr rfl | assumption) :
  PS X (.Assign [.Name y py] (.ListComp elt [⟨tg,iter,ifs,0⟩] scope pos) spos) (tAsg (tComp own caps wi g tc te) (gName i)):=by
 intro pins s σ H D I h
 rw [exec_Assign_Name_used _ _ _ _ hsw]
 refine wpAny_bind (wpAny_standAt (wpAny_bind ?_))
 show wpAny _ X.A (do let _ <-comprehension (.ListComp elt [⟨tg,iter,ifs,0⟩] scope pos) scope X.env _ (newList []) false (eval iter X.env) (some (assign (.Name y py) X.env))) _ _ s
 refine wpAny_bind (wpAny_mono (wpAny_comprehension_free (use:=some (assign (.Name y py) X.env)) (Q:=fun _ s'=>SP X pins D .next s') rfl hs (closureFor_cells (S.cells I.ok)) S.kind S.loc ?_) (fun _ s' hq=>wpAny_pure (wpAny_pure hq)) fun _ _ e=>e)
 refine comp_core S hc hi hin I h fun Da C s' H' m I' f hm q=>?_
 show wpAny _ X.A (assign (.Name y py) X.env (.ref Da)) _ _ _
 refine wpAny_assign_Name (store_ok2 I' hN hi' hx (v:=.ref Da) rfl (fun s2 I2 ⟨a,sb,ha⟩=>⟨m,?_,fun h' hs'=>?_⟩) hf)
 ·refine hm.sameBut sb ?_
  rcases ha with z | z
  ·rw [z]; exact f.2.1
  ·exact Ne.symm (f.2.2.2.2.1 y a z)
 ·exact ⟨_,H',I2.turned (t':=s2.toks) (it:=C) (fun b o hb e=>(hs'.2 b hb).trans e) f.1 f.2.1 f.2.2.2.1 f.2.2.2.2.1 f.2.2.2.2.2,q⟩
end
end L2
namespace L2
open PySem
namespace F3
end F3
end L2
namespace L2
open PySem PySem.Spec PyProof.Rows
noncomputable def keyless:List PyData->Bool
 | []=>true
 | .tuple _ :: _=>true
 | _ :: ds=>!ds.isEmpty && keyless ds
noncomputable def RdT (H:Hp) (a:Addr) (xs:List V) (ds:List PyData):Prop:=H a=some (.tup xs)\/(∃ o,H a=some (.frz o (.tup xs)))/\keyless ds=true
theorem RdT.mono {H H':Hp} {a:Addr} {xs:List V} {ds:List PyData} (s:Same H H') (h:RdT H a xs ds):RdT H' a xs ds:=h.imp (fun e=>s _ _ e) fun ⟨⟨o,e⟩,k⟩=>⟨⟨o,s _ _ e⟩,k⟩
theorem RdT.rd {H:Hp} {a:Addr} {xs:List V} {ds:List PyData} (h:RdT H a xs ds):Rd H a (.tup xs):=h.imp id fun z=>z.1
mutual
inductive DV (H:Hp):V->PyData->Prop where
 | non:DV H .non .none
 | bl (b:Bool):DV H (.bl b) (.bool b)
 | int (i:Int):DV H (.int i) (.int i)
 | str (x:Str):DV H (.str x) (.str x)
 | lst {a:Addr} {xs:List V} {ds:List PyData}:H a=some (.lst xs)->DVs H xs ds->DV H (.ref a) (.list ds)
 | tup {a:Addr} {xs:List V} {ds:List PyData}:RdT H a xs ds->DVs H xs ds->DV H (.ref a) (.tuple ds)
inductive DVs (H:Hp):List V->List PyData->Prop where
 | nil:DVs H [] []
 | cons {x:V} {xs:List V} {d:PyData} {ds:List PyData}:DV H x d->DVs H xs ds->DVs H (x :: xs) (d :: ds)
end
section
variable {H H':Hp}
mutual
theorem DV.mono (s:Same H H'):∀ {v:V} {d:PyData},DV H v d->DV H' v d
 | _,_,.non=>.non
 | _,_,.bl b=>.bl b
 | _,_,.int i=>.int i
 | _,_,.str x=>.str x
 | _,_,.lst h r=>.lst (s _ _ h) (DVs.mono s r)
 | _,_,.tup h r=>.tup (h.mono s) (DVs.mono s r)
theorem DVs.mono (s:Same H H'):∀ {vs:List V} {ds:List PyData},DVs H vs ds->DVs H' vs ds
 | _,_,.nil=>.nil
 | _,_,.cons h r=>.cons (DV.mono s h) (DVs.mono s r)
end
theorem DVs.length:∀ {vs:List V} {ds:List PyData},DVs H vs ds->vs.length=ds.length
 | _,_,.nil=>rfl
 | _,_,.cons _ r=>congrArg (· + 1) r.length
theorem DVs.append:∀ {vs ws:List V} {ds es:List PyData},DVs H vs ds->DVs H ws es->DVs H (vs ++ ws) (ds ++ es)
 | _,_,_,_,.nil,s=>s
 | _,_,_,_,.cons h r,s=>.cons h (r.append s)
theorem DVs.get:∀ {vs:List V} {ds:List PyData} {i:Nat} {d:PyData},DVs H vs ds->ds[i]? = some d->∃ v,vs[i]? = some v/\DV H v d
 | _,_,_,_,.nil,e=>by simp at e
 | _,_,0,_,.cons h _,e=>by simp at e; subst e; exact ⟨_,rfl,h⟩
 | _,_,i + 1,d,.cons _ r,e=>by
  obtain ⟨v,h1,h2⟩:=r.get (i:=i) (d:=d) (by simpa using e)
  exact ⟨v,by simpa using h1,h2⟩
theorem same_upd {a:Addr} {o:HO} (h:H a=none):Same H (upd H a o):=fun b u e=>by rw [upd_ne (ne_of_none e h)]; exact e
theorem DV.tup_inv {v:V} {ds:List PyData} (h:DV H v (.tuple ds)):∃ a xs,v=.ref a/\Rd H a (.tup xs)/\DVs H xs ds:=by
 cases h with | tup h r=>exact ⟨_,_,rfl,h.rd,r⟩
theorem DV.tup_invK {v:V} {ds:List PyData} (h:DV H v (.tuple ds)) (hk:keyless ds=false):∃ a xs,v=.ref a/\H a=some (.tup xs)/\DVs H xs ds:=by
 cases h with | tup h r=>exact ⟨_,_,rfl,h.elim id (fun z=>by rw [hk] at z; cases z.2),r⟩
theorem DV.lst_inv {v:V} {ds:List PyData} (h:DV H v (.list ds)):∃ a xs,v=.ref a/\H a=some (.lst xs)/\DVs H xs ds:=by
 cases h with | lst h r=>exact ⟨_,_,rfl,h,r⟩
theorem DV.int_inv {v:V} {i:Int} (h:DV H v (.int i)):v=.int i:=by cases h; rfl
theorem DV.str_inv {v:V} {x:Str} (h:DV H v (.str x)):v=.str x:=by cases h; rfl
theorem DV.bl_inv {v:V} {b:Bool} (h:DV H v (.bool b)):v=.bl b:=by cases h; rfl
theorem DV.non_inv {v:V} (h:DV H v .none):v=.non:=by cases h; rfl
end
section
variable {X:Cx} {pins:List (Addr × Obj)} {σ:St} {H:Hp} {s:Shared}
mutual
theorem Inv.reads (I:Inv X pins σ H s):∀ {v:V} {d:PyData} {u:Value},DV H v d->RelV v u->∃ as,Reads s.heap u d as
 | _,_,_,.non,r=>by cases r; exact ⟨_,.none⟩
 | _,_,_,.bl b,r=>by cases r; exact ⟨_,.bool b⟩
 | _,_,_,.int i,r=>by obtain ⟨t,rfl⟩:=r; exact ⟨_,.int i t⟩
 | _,_,_,.str x,r=>by obtain ⟨t,rfl⟩:=r; exact ⟨_,.str x t⟩
 | _,_,_,.lst h q,r=>by
  cases r
  obtain ⟨_,its,n,rv,e⟩:=I.hok _ _ h
  obtain ⟨as,z⟩:=I.readsAll q rv
  exact ⟨_,reads_list_at e rfl rfl (by simpa using z)⟩
 | _,_,_,.tup h q,r=>by
  cases r
  obtain ⟨_,its,rv,o,e,c,n,d⟩:=h.rd.ok I.hok
  obtain ⟨as,z⟩:=I.readsAll q rv
  exact ⟨_,reads_tuple_at e c d (by simpa using z)⟩
theorem Inv.readsAll (I:Inv X pins σ H s):∀ {vs:List V} {ds:List PyData} {us:List Value},DVs H vs ds->Vals vs us->∃ as,ReadsAll s.heap us ds as
 | _,_,_,.nil,.nil=>⟨_,.nil⟩
 | _,_,_,.cons h q,.cons r rr=>by
  obtain ⟨as,z⟩:=I.reads h r
  obtain ⟨bs,z'⟩:=I.readsAll q rr
  exact ⟨_,.cons z z'⟩
end
end
section
variable {X:Cx}
noncomputable def rEqD (neg:Bool):R2:=fun x y H Q=>∃ d e,DV H x d/\DV H y e/\SeqAt.shaped d=true/\SeqAt.shaped e=true/\Q (.bl (PyData.eqv d e != neg)) H
theorem op_eqD (hu:X.A.units + 64 < cLine):OpR X (compareOp .Eq) (rEqD false):=by
 intro pins s σ H x y v u Q I rx ry h
 obtain ⟨d,e,h1,h2,h3,h4,q⟩:=h
 obtain ⟨as,z1⟩:=I.reads h1 rx
 obtain ⟨bs,z2⟩:=I.reads h2 ry
 exact eq_dataH z1 z2 h3 h4 hu ⟨_,H,I,by show Value.bool (PyData.eqv d e)=Value.bool (PyData.eqv d e != false); rw [Bool.bne_false],q⟩
theorem op_neD (hu:X.A.units + 64 < cLine):OpR X (compareOp .NotEq) (rEqD true):=by
 intro pins s σ H x y v u Q I rx ry h
 obtain ⟨d,e,h1,h2,h3,h4,q⟩:=h
 obtain ⟨as,z1⟩:=I.reads h1 rx
 obtain ⟨bs,z2⟩:=I.reads h2 ry
 exact ne_dataH z1 z2 h3 h4 hu ⟨_,H,I,by show Value.bool (!PyData.eqv d e)=Value.bool (PyData.eqv d e != true); rw [Bool.bne_true],q⟩
@[simp] noncomputable def tyOfD:PyData->String
 | .none=>"NoneType"
 | .bool _=>"bool"
 | .int _=>"int"
 | .str _=>"str"
 | .list _=>"list"
 | .tuple _=>"tuple"
 | .dict _=>"dict"
noncomputable def rIsI:List V->Hp->VK->Prop:=fun xs H Q=>∃ x d n b,xs=[x,.ty n]/\DV H x d/\(∀ K:PySem.W.Frag,PySem.W.kitOne K (.type (tyOfD d)) (.type n)=some b)/\Q (.bl b) H
theorem call_isinst:CallR X (.builtin "isinstance") rIsI:=by
 intro pins s σ H xs us Q I r h
 obtain ⟨x,d,n,b,rfl,hd,e,q⟩:=h
 obtain ⟨u,w,rfl,r1,r2⟩:=vals2 r
 cases r2
 have fin:∀ tk,EP X pins σ Q (.bool b) { s with toks:=tk }:=fun tk=>⟨.bl b,H,I.tok tk,rfl,q⟩
 cases hd with
 | non=>exact isinst_ok I r1 .non (e _) fin
 | bl c=>exact isinst_ok I r1 (.bl c) (e _) fin
 | int i=>exact isinst_ok I r1 (.int i) (e _) fin
 | str z=>exact isinst_ok I r1 (.str z) (e _) fin
 | lst h r=>exact isinst_ok I r1 (.lst h) (e _) fin
 | @tup a xs ds h r=>
  cases (show u=Value.ref a from r1)
  obtain ⟨_,_,_,p⟩:=h.rd.ok I.hok
  obtain ⟨o,h1,h2,_⟩:=p
  exact PySem.W.kia_one PySem.W.kitx_tuple I.kIn ⟨o,h1,h2⟩ (e _) (fun z=>nomatch z) fin
end
end L2
namespace L2.L3
open PySem PySem.Spec PyProof.Rows
noncomputable def hide (O:List Addr) (H:Hp):Hp:=fun b=>if b ∈ O then none else H b
section
variable {O O':List Addr} {H H' H1 H2:Hp}
theorem hide_of {b:Addr} {o:HO} (h:H b=some o) (n:b ∉ O):hide O H b=some o:=by unfold hide; rw [if_neg n]; exact h
theorem of_hide {b:Addr} {o:HO} (h:hide O H b=some o):H b=some o/\b ∉ O:=by
 unfold hide at h
 by_cases e:b ∈ O
 ·rw [if_pos e] at h; cases h
 ·rw [if_neg e] at h; exact ⟨h,e⟩
theorem of_hideR {a:Addr} {u:HO} (h:Rd (hide O H) a u):Rd H a u/\a ∉ O:=by
 rcases h with h | ⟨o,h⟩
 ·obtain ⟨e,n⟩:=of_hide h; exact ⟨.inl e,n⟩
 ·obtain ⟨e,n⟩:=of_hide h; exact ⟨.inr ⟨o,e⟩,n⟩
theorem hide_le:Same (hide O H) H:=fun b o h=>(of_hide h).1
structure Stp (O:List Addr) (H:Hp) (O':List Addr) (H':Hp):Prop where
 keep:∀ b o,b ∉ O->H b=some o->H' b=some o
 new:∀ a ∈ O',a ∈ O\/H a=none
theorem Stp.refl:Stp O H O H:=⟨fun _ _ _ h=>h,fun _ h=>.inl h⟩
theorem Stp.trans {O1 O2 O3:List Addr} {H3:Hp} (a:Stp O1 H1 O2 H2) (b:Stp O2 H2 O3 H3):Stp O1 H1 O3 H3:=by
 have nw:∀ c o,c ∉ O1->H1 c=some o->c ∉ O2:=fun c o hc e z=>(a.new c z).elim hc fun n=>by rw [n] at e; cases e
 refine ⟨fun c o hc e=>b.keep c o (nw c o hc e) (a.keep c o hc e),fun c h=>?_⟩
 by_cases hc:c ∈ O1
 ·exact .inl hc
 ·refine .inr ?_
  cases e:H1 c with
  | none=>rfl
  | some o=>
   rcases b.new c h with z | z
   ·exact absurd z (nw c o hc e)
   ·rw [a.keep c o hc e] at z; cases z
theorem Stp.same (s:Same H H'):Stp O H O H':=⟨fun b o _ e=>s b o e,fun _ h=>.inl h⟩
theorem Stp.hid (s:Stp O H O' H'):Same (hide O H) (hide O' H'):=fun b o e=>by
 obtain ⟨e1,n⟩:=of_hide e
 refine hide_of (s.keep b o n e1) fun z=>?_
 rcases s.new b z with q | q
 ·exact n q
 ·rw [q] at e1; cases e1
theorem hide_same (s:Same H H'):Same (hide O H) (hide O H'):=(Stp.same s).hid
theorem hide_more (s:∀ a ∈ O',a ∈ O):Same (hide O H) (hide O' H):=fun b o e=>by
 obtain ⟨e1,n⟩:=of_hide e
 exact hide_of e1 fun z=>n (s b z)
end
inductive Fl where
 | d (x:PyData) | l (ds:List PyData) | m (tk:Bool) (kvs:List (PyData × PyData))
inductive Bx where
 | l (ds:List PyData) | m (tk:Bool) (kvs:List (PyData × PyData)) | o (C:Addr) (fs:List (Str × Fl)) | sd (fs:List (Str × Fl)) | ll (xs:List (List PyData)) | pr (C:Addr) (fs:List (Str × Fl)) (d:PyData)
inductive Cell where
 | dat (d:PyData)
 | own (io:Bool) (b:Bx)
 | scr (ns:List Int)
 | exc (c:Str)
 | vw (b:Bx)
noncomputable abbrev DEnv:=List (Option Cell)
structure Fx where
 H₀:Hp
 A₀:List Addr
 O₀:List Addr
 I₀:Nat->Addr
noncomputable def Scr (K:PySem.W.Frag) (H:Hp) (a:Addr) (ns:List Int):Prop:=ns.length<=63/\((∃ o,H a=some (.frz o (.lst (ns.map V.int))))\/
 ∃ (o:Obj) (its:Array Value) (n:Nat),K.lookup a=some o/\o.cls=.type "list"/\o.dict=none/\o.data=.seq its n/\its.size<=sizeLine/\Vals (ns.map V.int) its.toList)
theorem Scr.sq {K:PySem.W.Frag} {H:Hp} {a:Addr} {ns:List Int} (h:Scr K H a ns):SqL K H a (ns.map V.int):=h.2.elim (fun ⟨o,e⟩=>.inl (.inr ⟨o,e⟩)) .inr
theorem Scr.mono {K:PySem.W.Frag} {H H':Hp} {a:Addr} {ns:List Int} (h:Scr K H a ns) (k:∀ o u,H a=some (.frz o u)->H' a=some (.frz o u)):Scr K H' a ns:=⟨h.1,h.2.imp (fun ⟨o,e⟩=>⟨o,k _ _ e⟩) id⟩
noncomputable def ExcObj (K:PySem.W.Frag) (a:Addr) (c:Str) (h:Heap):Prop:=∃ C o,PySem.W.nsIn K mainGlobals c=some (some (.ref C))/\h.get? a=some o/\o.cls=.ref C
noncomputable def keyD:Key->PyData
 | .inl i=>.int i
 | .inr x=>.str x
noncomputable def tupD (ks:List Key):PyData:=.tuple (ks.map keyD)
noncomputable def DicAt (G H:Hp) (a:Addr):Bool->List (PyData × PyData)->Prop
 | false,kvs=>∃ ks:List (Key × V),H a=some (.dK ks)/\Paired (fun (p:Key × V) (q:PyData × PyData)=>keyD p.1=q.1/\DV G p.2 q.2) ks kvs
 | true,kvs=>∃ ks:List (List Key × V),H a=some (.dT ks)/\Paired (fun (p:List Key × V) (q:PyData × PyData)=>tupD p.1=q.1/\DV G p.2 q.2) ks kvs
noncomputable def FlAt (G H:Hp) (v:V):Fl->List Addr->Prop
 | .d x,fp=>fp=[]/\DV G v x
 | .l ds,fp=>∃ a xs,v=.ref a/\fp=[a]/\H a=some (.lst xs)/\DVs G xs ds
 | .m tk kvs,fp=>∃ a,v=.ref a/\fp=[a]/\DicAt G H a tk kvs
inductive FlsAt (G H:Hp):List (Str × V)->List (Str × Fl)->List (List Addr)->Prop where
 | nil:FlsAt G H [] [] []
 | cons {n:Str} {v:V} {f:Fl} {fp:List Addr} {gs:List (Str × V)} {fs:List (Str × Fl)} {fps:List (List Addr)}:FlAt G H v f fp->FlsAt G H gs fs fps->FlsAt G H ((n,v) :: gs) ((n,f) :: fs) (fp :: fps)
noncomputable def LlAt (G H:Hp) (b:Addr) (ds:List PyData):Prop:=∃ vs,H b=some (.lst vs)/\DVs G vs ds
noncomputable def BoxAt (G H:Hp) (a:Addr):Bx->List Addr->Prop
 | .l ds,fp=>fp=[a]/\∃ xs,H a=some (.lst xs)/\DVs G xs ds
 | .m tk kvs,fp=>fp=[a]/\DicAt G H a tk kvs
 | .o C fs,fp=>∃ dx gs fps,fp=a :: dx :: fps.flatten/\H a=some (.ins C dx gs)/\H dx=some (.own a)/\FlsAt G H gs fs fps
 | .sd fs,fp=>∃ gs fps,fp=a :: fps.flatten/\H a=some (.dK (gs.map fun p=>(Sum.inr p.1,p.2)))/\FlsAt G H gs fs fps
 | .ll xs,fp=>∃ bs:List Addr,fp=a :: bs/\H a=some (.lst (bs.map V.ref))/\Paired (LlAt G H) bs xs
 | .pr C fs d,fp=>∃ h v dx gs fps,G a=some (.tup [.ref h,v])/\fp=h :: dx :: fps.flatten/\H h=some (.ins C dx gs)/\H dx=some (.own h)/\FlsAt G H gs fs fps/\DV G v d
noncomputable def Mv:HO->Prop
 | .lst _=>True
 | .dK _=>True
 | .dT _=>True
 | .ins _ _ _=>True
 | .own _=>True
 | _=>False
noncomputable def CellAt (K:PySem.W.Frag) (H:Hp) (O:List Addr) (v:V):Cell->List Addr->Prop
 | .dat d,_=>DV (hide O H) v d
 | .own _ b,fp=>∃ a,v=.ref a/\BoxAt (hide O H) H a b fp
 | .scr ns,_=>∃ a,v=.ref a/\Scr K H a ns
 | .exc c,_=>∃ a φ,v=.ref a/\hide O H a=some (.ext φ)/\∀ h,φ h->ExcObj K a c h
 | .vw b,_=>∃ a fp,v=.ref a/\BoxAt (hide O H) (hide O H) a b fp
section
variable {G G' H H':Hp} {a:Addr} {v:V} {fp:List Addr}
theorem DicAt.keep {tk:Bool} {kvs:List (PyData × PyData)} (h:DicAt G H a tk kvs) (k:H' a=H a) (g:Same G G'):DicAt G' H' a tk kvs:=by
 cases tk with
 | false=>obtain ⟨ks,e,p⟩:=h; exact ⟨ks,k.trans e,Paired.mapP p fun _ _ z=>⟨z.1,DV.mono g z.2⟩⟩
 | true=>obtain ⟨ks,e,p⟩:=h; exact ⟨ks,k.trans e,Paired.mapP p fun _ _ z=>⟨z.1,DV.mono g z.2⟩⟩
theorem DicAt.live {tk:Bool} {kvs:List (PyData × PyData)} (h:DicAt G H a tk kvs):∃ o,H a=some o/\Mv o:=by
 cases tk with
 | false=>obtain ⟨ks,e,p⟩:=h; exact ⟨_,e,trivial⟩
 | true=>obtain ⟨ks,e,p⟩:=h; exact ⟨_,e,trivial⟩
theorem FlAt.keep {f:Fl} (h:FlAt G H v f fp) (k:∀ c ∈ fp,H' c=H c) (g:Same G G'):FlAt G' H' v f fp:=by
 cases f with
 | d x=>exact ⟨h.1,DV.mono g h.2⟩
 | l ds=>obtain ⟨a,xs,e1,e2,e3,e4⟩:=h; exact ⟨a,xs,e1,e2,(k a (by simp [e2])).trans e3,DVs.mono g e4⟩
 | m tk kvs=>obtain ⟨a,e1,e2,e3⟩:=h; exact ⟨a,e1,e2,e3.keep (k a (by simp [e2])) g⟩
theorem FlAt.live {f:Fl} (h:FlAt G H v f fp):∀ c ∈ fp,∃ o,H c=some o/\Mv o:=by
 cases f with
 | d x=>obtain ⟨rfl,_⟩:=h; intro c hc; cases hc
 | l ds=>obtain ⟨a,xs,e1,rfl,e3,e4⟩:=h; intro c hc; obtain rfl:=List.mem_singleton.mp hc; exact ⟨_,e3,trivial⟩
 | m tk kvs=>obtain ⟨a,e1,rfl,e3⟩:=h; intro c hc; obtain rfl:=List.mem_singleton.mp hc; exact e3.live
theorem FlsAt.keep {gs:List (Str × V)} {fs:List (Str × Fl)} {fps:List (List Addr)} (h:FlsAt G H gs fs fps) (k:∀ c ∈ fps.flatten,H' c=H c) (g:Same G G'):FlsAt G' H' gs fs fps:=by
 induction h with
 | nil=>exact .nil
 | cons a b ih=>exact .cons (a.keep (fun c hc=>k c (by simp [hc])) g) (ih fun c hc=>k c (by rw [List.flatten_cons]; exact List.mem_append_right _ hc))
theorem FlsAt.live {gs:List (Str × V)} {fs:List (Str × Fl)} {fps:List (List Addr)} (h:FlsAt G H gs fs fps):∀ c ∈ fps.flatten,∃ o,H c=some o/\Mv o:=by
 induction h with
 | nil=>intro c hc; cases hc
 | cons a b ih=>
  intro c hc
  rw [List.flatten_cons] at hc
  rcases List.mem_append.mp hc with hc | hc
  ·exact a.live c hc
  ·exact ih c hc
theorem Lls.keep {bs:List Addr} {xs:List (List PyData)} (h:Paired (LlAt G H) bs xs) (k:∀ c ∈ bs,H' c=H c) (g:Same G G'):Paired (LlAt G' H') bs xs:=by
 induction h with
 | nil=>exact .nil
 | cons a b ih=>obtain ⟨vs,e,d⟩:=a; exact .cons ⟨vs,(k _ List.mem_cons_self).trans e,DVs.mono g d⟩ (ih fun c hc=>k c (List.mem_cons_of_mem _ hc))
theorem Lls.live {bs:List Addr} {xs:List (List PyData)} (h:Paired (LlAt G H) bs xs):∀ c ∈ bs,∃ o,H c=some o/\Mv o:=by
 induction h with
 | nil=>intro c hc; cases hc
 | cons a b ih=>
  intro c hc
  obtain ⟨vs,e,d⟩:=a
  rcases List.mem_cons.mp hc with rfl | hc
  ·exact ⟨_,e,trivial⟩
  ·exact ih c hc
theorem BoxAt.keep {b:Bx} (h:BoxAt G H a b fp) (k:∀ c ∈ fp,H' c=H c) (g:Same G G'):BoxAt G' H' a b fp:=by
 cases b with
 | l ds=>obtain ⟨rfl,xs,e,d⟩:=h; exact ⟨rfl,xs,(k a (by simp)).trans e,DVs.mono g d⟩
 | m tk kvs=>obtain ⟨rfl,d⟩:=h; exact ⟨rfl,d.keep (k a (by simp)) g⟩
 | o C fs=>obtain ⟨dx,gs,fps,rfl,e1,e2,f⟩:=h; exact ⟨dx,gs,fps,rfl,(k a (by simp)).trans e1,(k dx (by simp)).trans e2,f.keep (fun c hc=>k c (by simp [hc])) g⟩
 | sd fs=>obtain ⟨gs,fps,rfl,e1,f⟩:=h; exact ⟨gs,fps,rfl,(k a (by simp)).trans e1,f.keep (fun c hc=>k c (by simp [hc])) g⟩
 | ll xs=>obtain ⟨bs,rfl,e1,f⟩:=h; exact ⟨bs,rfl,(k a (by simp)).trans e1,Lls.keep f (fun c hc=>k c (by simp [hc])) g⟩
 | pr C fs d=>obtain ⟨h0,v,dx,gs,fps,e0,rfl,e1,e2,f,dv⟩:=h; exact ⟨h0,v,dx,gs,fps,g _ _ e0,rfl,(k h0 (by simp)).trans e1,(k dx (by simp)).trans e2,f.keep (fun c hc=>k c (by simp [hc])) g,DV.mono g dv⟩
theorem BoxAt.live {b:Bx} (h:BoxAt G H a b fp):∀ c ∈ fp,∃ o,H c=some o/\Mv o:=by
 cases b with
 | l ds=>obtain ⟨rfl,xs,e,d⟩:=h; intro c hc; obtain rfl:=List.mem_singleton.mp hc; exact ⟨_,e,trivial⟩
 | m tk kvs=>obtain ⟨rfl,d⟩:=h; intro c hc; obtain rfl:=List.mem_singleton.mp hc; exact d.live
 | o C fs=>
  obtain ⟨dx,gs,fps,rfl,e1,e2,f⟩:=h
  intro c hc
  rcases List.mem_cons.mp hc with rfl | hc
  ·exact ⟨_,e1,trivial⟩
  ·rcases List.mem_cons.mp hc with rfl | hc
   ·exact ⟨_,e2,trivial⟩
   ·exact f.live c hc
 | sd fs=>
  obtain ⟨gs,fps,rfl,e1,f⟩:=h
  intro c hc
  rcases List.mem_cons.mp hc with rfl | hc
  ·exact ⟨_,e1,trivial⟩
  ·exact f.live c hc
 | ll xs=>
  obtain ⟨bs,rfl,e1,f⟩:=h
  intro c hc
  rcases List.mem_cons.mp hc with rfl | hc
  ·exact ⟨_,e1,trivial⟩
  ·exact Lls.live f c hc
 | pr C fs d=>
  obtain ⟨h0,v,dx,gs,fps,e0,rfl,e1,e2,f,dv⟩:=h
  intro c hc
  rcases List.mem_cons.mp hc with rfl | hc
  ·exact ⟨_,e1,trivial⟩
  ·rcases List.mem_cons.mp hc with rfl | hc
   ·exact ⟨_,e2,trivial⟩
   ·exact f.live c hc
end
theorem CellAt.keep {K:PySem.W.Frag} {H H':Hp} {O O':List Addr} {v:V} {c:Cell} {fp:List Addr} (h:CellAt K H O v c fp) (s:Stp O H O' H') (k:∀ b ∈ fp,H' b=H b) (z:∀ b o u,H b=some (.frz o u)->H' b=some (.frz o u)):CellAt K H' O' v c fp:=by
 cases c with
 | dat d=>exact DV.mono s.hid h
 | own io b=>obtain ⟨a,e,q⟩:=h; exact ⟨a,e,q.keep k s.hid⟩
 | scr ns=>obtain ⟨a,e1,q⟩:=h; exact ⟨a,e1,q.mono fun o u w=>z _ _ _ w⟩
 | exc c=>obtain ⟨a,φ,e1,e2,q⟩:=h; exact ⟨a,φ,e1,s.hid _ _ e2,q⟩
 | vw b=>obtain ⟨a,fp',e1,q⟩:=h; exact ⟨a,fp',e1,q.keep (fun c hc=>by obtain ⟨o,e2,_⟩:=q.live c hc; rw [e2]; exact s.hid _ _ e2) s.hid⟩
structure DStW (K:PySem.W.Frag) (F:Fx) (H:Hp) (σ:St) (ρ:DEnv) (W:List (List Addr)):Prop where
 at_:∀ (i:Nat) (c:Cell),ρ[i]? = some (some c)->∃ v fp,σ[i]? = some (some v)/\W[i]? = some fp/\CellAt K H (W.flatten ++ F.O₀) v c fp
 nd:(W.flatten ++ F.O₀).Nodup
 kept:∀ b o,b ∉ F.A₀->F.H₀ b=some o->H b=some o
 new:∀ a ∈ W.flatten,a ∈ F.A₀\/F.H₀ a=none
 live:∀ a ∈ W.flatten ++ F.O₀,∃ o,H a=some o/\Mv o
 len:ρ.length=σ.length
 lw:W.length=ρ.length
 io:∀ (i:Nat) (b:Bx),ρ[i]? = some (some (.own true b))->σ[i]? = some (some (.ref (F.I₀ i)))
noncomputable def DSt (K:PySem.W.Frag) (F:Fx) (H:Hp) (σ:St) (ρ:DEnv) (O:List Addr):Prop:=∃ W,DStW K F H σ ρ W/\O=W.flatten ++ F.O₀
theorem get_set {α:Type} {l:List α} {i j:Nat} {x y:α} (e:(l.set i x)[j]? = some y):(j=i/\y=x/\i < l.length)\/(j ≠ i/\l[j]? = some y):=by
 by_cases hj:j=i
 ·subst hj
  have hlt:j < l.length:=by
   have:=(List.getElem?_eq_some_iff.mp e).1
   rwa [List.length_set] at this
  rw [List.getElem?_set_self hlt] at e
  exact .inl ⟨rfl,(Option.some.inj e).symm,hlt⟩
 ·rw [List.getElem?_set_ne (Ne.symm hj)] at e
  exact .inr ⟨hj,e⟩
theorem mem_flat_set {α:Type} {W:List (List α)} {i:Nat} {fp:List α} {a:α} (h:a ∈ (W.set i fp).flatten):a ∈ fp\/∃ j l,j ≠ i/\W[j]? = some l/\a ∈ l:=by
 obtain ⟨l,hl,ha⟩:=List.mem_flatten.mp h
 obtain ⟨j,hj⟩:=List.getElem?_of_mem hl
 rcases get_set hj with ⟨_,rfl,_⟩ | ⟨hj',e⟩
 ·exact .inl ha
 ·exact .inr ⟨j,l,hj',e,ha⟩
theorem mem_flat_of {α:Type} {W:List (List α)} {j:Nat} {l:List α} {a:α} (h:W[j]? = some l) (ha:a ∈ l):a ∈ W.flatten:=List.mem_flatten.mpr ⟨l,List.mem_of_getElem? h,ha⟩
theorem flat_set_mem {α:Type} {W:List (List α)} {i j:Nat} {fp l:List α} {a:α} (hj:j ≠ i) (h:W[j]? = some l) (ha:a ∈ l):a ∈ (W.set i fp).flatten:=mem_flat_of (j:=j) (by rw [List.getElem?_set_ne (Ne.symm hj)]; exact h) ha
theorem flat_set_self {α:Type} {W:List (List α)} {i:Nat} {fp:List α} {a:α} (hi:i < W.length) (ha:a ∈ fp):a ∈ (W.set i fp).flatten:=mem_flat_of (j:=i) (List.getElem?_set_self hi) ha
theorem flat_disj {α:Type}:∀ {W:List (List α)} {i j:Nat} {l m:List α} {a:α},W.flatten.Nodup->W[i]? = some l->W[j]? = some m->i ≠ j->a ∈ l->a ∉ m
 | [],_,_,_,_,_,_,h,_,_,_=>by simp at h
 | w :: W,0,0,_,_,_,_,_,_,hn,_=>absurd rfl hn
 | w :: W,0,j + 1,l,m,a,nd,h1,h2,_,ha=>fun hm=>by
  have e:w=l:=by simpa using h1
  subst e
  rw [List.flatten_cons] at nd
  exact (List.nodup_append.mp nd).2.2 a ha a (mem_flat_of (j:=j) (by simpa using h2) hm) rfl
 | w :: W,i + 1,0,l,m,a,nd,h1,h2,_,ha=>fun hm=>by
  have e:w=m:=by simpa using h2
  subst e
  rw [List.flatten_cons] at nd
  exact (List.nodup_append.mp nd).2.2 a hm a (mem_flat_of (j:=i) (by simpa using h1) ha) rfl
 | w :: W,i + 1,j + 1,l,m,a,nd,h1,h2,hn,ha=>flat_disj (W:=W) (i:=i) (j:=j) (by rw [List.flatten_cons] at nd; exact (List.nodup_append.mp nd).2.1) (by simpa using h1) (by simpa using h2) (by omega) ha
theorem nodup_set {α:Type} [DecidableEq α]:∀ {W:List (List α)} {i:Nat} {fp O:List α},(W.flatten ++ O).Nodup->fp.Nodup->(∀ a ∈ fp,(∀ j l,j ≠ i->W[j]? = some l->a ∉ l)/\a ∉ O)->((W.set i fp).flatten ++ O).Nodup
 | [],i,fp,O,h,_,_=>by simpa using h
 | w :: W,0,fp,O,h,hf,hd=>by
  rw [List.set_cons_zero,List.flatten_cons,List.append_assoc]
  rw [List.flatten_cons,List.append_assoc] at h
  refine List.nodup_append.mpr ⟨hf,(List.nodup_append.mp h).2.1,fun a ha b hb e=>?_⟩
  subst e
  rcases List.mem_append.mp hb with hb | hb
  ·obtain ⟨l,hl,hal⟩:=List.mem_flatten.mp hb
   obtain ⟨j,hj⟩:=List.getElem?_of_mem hl
   exact (hd a ha).1 (j + 1) l (by omega) (by simpa using hj) hal
  ·exact (hd a ha).2 hb
 | w :: W,i + 1,fp,O,h,hf,hd=>by
  rw [List.set_cons_succ,List.flatten_cons,List.append_assoc]
  rw [List.flatten_cons,List.append_assoc] at h
  obtain ⟨h1,h2,h3⟩:=List.nodup_append.mp h
  have ih:=nodup_set (W:=W) (i:=i) (fp:=fp) (O:=O) h2 hf fun a ha=>⟨fun j l hj e=>(hd a ha).1 (j + 1) l (by omega) (by simpa using e),(hd a ha).2⟩
  refine List.nodup_append.mpr ⟨h1,ih,fun a ha b hb e=>?_⟩
  subst e
  rcases List.mem_append.mp hb with hb | hb
  ·rcases mem_flat_set hb with hb | ⟨j,l,hj,e,hl⟩
   ·exact (hd a hb).1 0 w (by omega) (by simp) ha
   ·exact h3 a ha a (List.mem_append_left _ (mem_flat_of e hl)) rfl
  ·exact h3 a ha a (List.mem_append_right _ hb) rfl
section
variable {K:PySem.W.Frag} {F:Fx} {H H':Hp} {σ:St} {ρ:DEnv} {O O':List Addr} {W:List (List Addr)}
theorem DStW.nofrz (st:DStW K F H σ ρ W) {b:Addr} (h:b ∈ W.flatten ++ F.O₀) {o:Obj} {u:HO}:H b ≠ some (.frz o u):=fun z=>by
 obtain ⟨o',e,m⟩:=st.live b h
 rw [z] at e; cases e; exact m
theorem DStW.put (st:DStW K F H σ ρ W) {i:Nat} {v:V} {c:Cell} {fp:List Addr} (hi:i < ρ.length)
  (keep:∀ j l b,j ≠ i->W[j]? = some l->b ∈ l->H' b=H b) (keepO:∀ b ∈ F.O₀,H' b=H b) (frz:∀ b o,b ∉ W.flatten ++ F.O₀->H b=some o->H' b=some o)
  (nd:fp.Nodup) (ap:∀ a ∈ fp,(∀ j l,j ≠ i->W[j]? = some l->a ∉ l)/\a ∉ F.O₀) (new:∀ a ∈ fp,a ∈ W.flatten\/H a=none) (liv:∀ a ∈ fp,∃ o,H' a=some o/\Mv o)
  (hc:Stp (W.flatten ++ F.O₀) H ((W.set i fp).flatten ++ F.O₀) H'->CellAt K H' ((W.set i fp).flatten ++ F.O₀) v c fp) (hio:∀ b,c=.own true b->v=.ref (F.I₀ i)) :
  DStW K F H' (σ.set i (some v)) (ρ.set i (some c)) (W.set i fp)/\Stp (W.flatten ++ F.O₀) H ((W.set i fp).flatten ++ F.O₀) H':=by
 have stp:Stp (W.flatten ++ F.O₀) H ((W.set i fp).flatten ++ F.O₀) H':=⟨frz,fun a h=>by
  rcases List.mem_append.mp h with h | h
  ·rcases mem_flat_set h with h | ⟨j,l,_,e,hl⟩
   ·exact (new a h).imp (List.mem_append_left _) id
   ·exact .inl (List.mem_append_left _ (mem_flat_of e hl))
  ·exact .inl (List.mem_append_right _ h)⟩
 have zf:∀ b o u,H b=some (.frz o u)->H' b=some (.frz o u):=fun b o u e=>frz b _ (fun z=>st.nofrz z e) e
 have hiW:i < W.length:=by rw [st.lw]; exact hi
 refine ⟨⟨fun j d e=>?_,nodup_set st.nd nd ap,fun b o hA e=>?_,fun a h=>?_,fun a h=>?_,by rw [List.length_set,List.length_set,st.len],by rw [List.length_set,List.length_set,st.lw],fun j b e=>?_⟩,stp⟩
 ·rcases get_set e with ⟨rfl,e1,_⟩ | ⟨hj,e1⟩
  ·cases e1
   exact ⟨v,fp,List.getElem?_set_self (by rw [<-st.len]; exact hi),List.getElem?_set_self hiW,hc stp⟩
  ·obtain ⟨w,l,h1,h2,h3⟩:=st.at_ j d e1
   exact ⟨w,l,by rw [List.getElem?_set_ne (Ne.symm hj)]; exact h1,by rw [List.getElem?_set_ne (Ne.symm hj)]; exact h2,h3.keep stp (fun b hb=>keep j l b hj h2 hb) zf⟩
 ·have e1:=st.kept b o hA e
  by_cases hO:b ∈ F.O₀
  ·rw [keepO b hO]; exact e1
  ·refine frz b o (fun z=>?_) e1
   rcases List.mem_append.mp z with z | z
   ·rcases st.new b z with q | q
    ·exact hA q
    ·rw [q] at e; cases e
   ·exact hO z
 ·rcases mem_flat_set h with h | ⟨j,l,_,e,hl⟩
  ·rcases new a h with q | q
   ·exact st.new a q
   ·by_cases hA:a ∈ F.A₀
    ·exact .inl hA
    ·refine .inr ?_
     cases e:F.H₀ a with
     | none=>rfl
     | some o=>rw [st.kept a o hA e] at q; cases q
  ·exact st.new a (mem_flat_of e hl)
 ·rcases List.mem_append.mp h with h | h
  ·rcases mem_flat_set h with h | ⟨j,l,hj,e,hl⟩
   ·exact liv a h
   ·obtain ⟨o,h1,h2⟩:=st.live a (List.mem_append_left _ (mem_flat_of e hl))
    exact ⟨o,by rw [keep j l a hj e hl]; exact h1,h2⟩
  ·obtain ⟨o,h1,h2⟩:=st.live a (List.mem_append_right _ h)
   exact ⟨o,by rw [keepO a h]; exact h1,h2⟩
 ·rcases get_set e with ⟨rfl,e1,_⟩ | ⟨hj,e1⟩
  ·rw [List.getElem?_set_self (by rw [<-st.len]; exact hi),hio b (Option.some.inj e1).symm]
  ·rw [List.getElem?_set_ne (Ne.symm hj)]; exact st.io j b e1
theorem DStW.grow (st:DStW K F H σ ρ W) (s:Same H H'):DStW K F H' σ ρ W where
 at_:=fun i c e=>let ⟨v,fp,h1,h2,h3⟩:=st.at_ i c e; ⟨v,fp,h1,h2,h3.keep (.same s) (fun b hb=>by
  obtain ⟨o,e1,_⟩:=st.live b (List.mem_append_left _ (mem_flat_of h2 hb))
  rw [e1]; exact s _ _ e1) fun b o u e=>s _ _ e⟩
 nd:=st.nd
 kept:=fun b o n e=>s b o (st.kept b o n e)
 new:=st.new
 live:=fun a h=>let ⟨o,e,m⟩:=st.live a h; ⟨o,s _ _ e,m⟩
 len:=st.len
 lw:=st.lw
 io:=st.io
theorem DSt.grow (st:DSt K F H σ ρ O) (s:Same H H'):DSt K F H' σ ρ O:=let ⟨W,h,e⟩:=st; ⟨W,h.grow s,e⟩
theorem DSt.nofree (st:DSt K F H σ ρ O):∀ p,H p=none->p ∉ O:=fun p hp z=>by
 obtain ⟨W,h,rfl⟩:=st
 obtain ⟨o,e,_⟩:=h.live p z
 rw [hp] at e; cases e
theorem DSt.dat (st:DSt K F H σ ρ O) {i:Nat} {d:PyData} (e:ρ[i]? = some (some (.dat d))):∃ v,σ[i]? = some (some v)/\DV (hide O H) v d:=by
 obtain ⟨W,h,rfl⟩:=st
 obtain ⟨v,fp,h1,h2,h3⟩:=h.at_ i _ e
 exact ⟨v,h1,h3⟩
theorem DSt.scr (st:DSt K F H σ ρ O) {i:Nat} {ns:List Int} (e:ρ[i]? = some (some (.scr ns))):∃ a,σ[i]? = some (some (.ref a))/\Scr K H a ns:=by
 obtain ⟨W,h,rfl⟩:=st
 obtain ⟨v,fp,h1,h2,a,rfl,h3⟩:=h.at_ i _ e
 exact ⟨a,h1,h3⟩
theorem DSt.set (st:DSt K F H σ ρ O) {i:Nat} {v:V} {d:PyData} (h:DV (hide O H) v d):DSt K F H (σ.set i (some v)) (ρ.set i (some (.dat d))) O:=by
 obtain ⟨W,st,rfl⟩:=st
 refine ⟨W,⟨fun j c e=>?_,st.nd,st.kept,st.new,st.live,by rw [List.length_set,List.length_set,st.len],by rw [List.length_set,st.lw],fun j b e=>?_⟩,rfl⟩
 rotate_left
 ·rcases get_set e with ⟨rfl,e1,_⟩ | ⟨hj,e1⟩
  ·cases e1
  ·rw [List.getElem?_set_ne (Ne.symm hj)]; exact st.io j b e1
 rcases get_set e with ⟨rfl,e1,hlt⟩ | ⟨hj,e1⟩
 ·cases e1
  obtain ⟨fp,hfp⟩:∃ fp,W[j]? = some fp:=⟨W[j]'(by rw [st.lw]; exact hlt),List.getElem?_eq_getElem _⟩
  exact ⟨v,fp,List.getElem?_set_self (by rw [<-st.len]; exact hlt),hfp,h⟩
 ·obtain ⟨w,l,h1,h2,h3⟩:=st.at_ j c e1
  exact ⟨w,l,by rw [List.getElem?_set_ne (Ne.symm hj)]; exact h1,h2,h3⟩
theorem DSt.box (st:DSt K F H σ ρ O) {i:Nat} {io:Bool} {b:Bx} (e:ρ[i]? = some (some (.own io b))):∃ a fp,σ[i]? = some (some (.ref a))/\BoxAt (hide O H) H a b fp/\(∀ c ∈ fp,c ∈ O)/\
  ∀ (H':Hp) (b':Bx) (fp':List Addr),(∀ c o,c ∉ fp->H c=some o->H' c=some o)->fp'.Nodup->(∀ c ∈ fp',c ∈ fp\/H c=none)->(∀ G,(∀ O',Stp O H O' H'->G=hide O' H'->(∀ c ∈ fp',c ∈ O')->Same (hide O H) G/\BoxAt G H' a b' fp'))->
   ∃ O',DSt K F H' σ (ρ.set i (some (.own io b'))) O'/\Stp O H O' H'/\(∀ c ∈ O',c ∈ fp'\/c ∈ O):=by
 obtain ⟨W,st,rfl⟩:=st
 obtain ⟨v,fp,h1,h2,a,rfl,h3⟩:=st.at_ i _ e
 have hi:i < ρ.length:=(List.getElem?_eq_some_iff.mp e).1
 have hiW:i < W.length:=by rw [st.lw]; exact hi
 refine ⟨a,fp,h1,h3,fun c hc=>List.mem_append_left _ (mem_flat_of h2 hc),fun H' b' fp' keep nd fr hb=>?_⟩
 have ndW:W.flatten.Nodup:=(List.nodup_append.mp st.nd).1
 have nO:∀ c ∈ fp,c ∉ F.O₀:=fun c hc z=>(List.nodup_append.mp st.nd).2.2 c (mem_flat_of h2 hc) c z rfl
 have kj:∀ j l c,j ≠ i->W[j]? = some l->c ∈ l->H' c=H c:=fun j l c hj ej hc=>by
  obtain ⟨o,eo,_⟩:=st.live c (List.mem_append_left _ (mem_flat_of ej hc))
  rw [eo]
  exact keep c o (fun z=>flat_disj ndW ej h2 hj hc z) eo
 have kO:∀ c ∈ F.O₀,H' c=H c:=fun c hc=>by
  obtain ⟨o,eo,_⟩:=st.live c (List.mem_append_right _ hc)
  rw [eo]
  exact keep c o (fun z=>nO c z hc) eo
 have ap:∀ c ∈ fp',(∀ j l,j ≠ i->W[j]? = some l->c ∉ l)/\c ∉ F.O₀:=fun c hc=>by
  rcases fr c hc with q | q
  ·exact ⟨fun j l hj ej z=>flat_disj ndW h2 ej (Ne.symm hj) q z,nO c q⟩
  ·refine ⟨fun j l _ ej z=>?_,fun z=>?_⟩
   ·obtain ⟨o,eo,_⟩:=st.live c (List.mem_append_left _ (mem_flat_of ej z)); rw [q] at eo; cases eo
   ·obtain ⟨o,eo,_⟩:=st.live c (List.mem_append_right _ z); rw [q] at eo; cases eo
 have frz:∀ c o,c ∉ W.flatten ++ F.O₀->H c=some o->H' c=some o:=fun c o hc ec=>keep c o (fun z=>hc (List.mem_append_left _ (mem_flat_of h2 z))) ec
 have stp:Stp (W.flatten ++ F.O₀) H ((W.set i fp').flatten ++ F.O₀) H':=⟨frz,fun c h=>by
  rcases List.mem_append.mp h with h | h
  ·rcases mem_flat_set h with h | ⟨j,l,_,ej,hl⟩
   ·exact (fr c h).imp (fun z=>List.mem_append_left _ (mem_flat_of h2 z)) id
   ·exact .inl (List.mem_append_left _ (mem_flat_of ej hl))
  ·exact .inl (List.mem_append_right _ h)⟩
 have inO':∀ c ∈ fp',c ∈ (W.set i fp').flatten ++ F.O₀:=fun c hc=>List.mem_append_left _ (flat_set_self hiW hc)
 have hbx:=(hb _ _ stp rfl inO').2
 obtain ⟨s1,s2⟩:=st.put (H':=H') (i:=i) (v:=.ref a) (c:=.own io b') (fp:=fp') hi kj kO frz nd ap (fun c hc=>(fr c hc).imp (fun z=>mem_flat_of h2 z) id) (fun c hc=>hbx.live c hc) (fun _=>⟨a,rfl,hbx⟩) (fun b2 z=>by cases z; have:=st.io i b e; rw [h1] at this; exact (Option.some.inj (Option.some.inj this)))
 have eσ:σ.set i (some (.ref a))=σ:=by
  apply List.ext_getElem?
  intro j
  by_cases hj:j=i
  ·subst hj; rw [List.getElem?_set_self (List.getElem?_eq_some_iff.mp h1).1,h1]
  ·rw [List.getElem?_set_ne (Ne.symm hj)]
 rw [eσ] at s1
 refine ⟨_,⟨_,s1,rfl⟩,s2,fun c hc=>?_⟩
 rcases List.mem_append.mp hc with hc | hc
 ·rcases mem_flat_set hc with hc | ⟨j,l,_,ej,hl⟩
  ·exact .inl hc
  ·exact .inr (List.mem_append_left _ (mem_flat_of ej hl))
 ·exact .inr (List.mem_append_right _ hc)
theorem DSt.freeze (st:DSt K F H σ ρ O) {i:Nat} {ds:List PyData} (e:ρ[i]? = some (some (.own false (.l ds)))) :
  ∃ v O',σ[i]? = some (some v)/\DSt K F H σ (ρ.set i (some (.dat (.list ds)))) O'/\Stp O H O' H/\DV (hide O' H) v (.list ds):=by
 obtain ⟨W,st,rfl⟩:=st
 obtain ⟨v,fp,h1,h2,a,rfl,rfl,xs,h3,h4⟩:=st.at_ i _ e
 have hi:i < ρ.length:=(List.getElem?_eq_some_iff.mp e).1
 have ndW:W.flatten.Nodup:=(List.nodup_append.mp st.nd).1
 have nin:a ∉ (W.set i []).flatten ++ F.O₀:=fun z=>by
  rcases List.mem_append.mp z with z | z
  ·rcases mem_flat_set z with z | ⟨j,l,hj,ej,hl⟩
   ·cases z
   ·exact flat_disj ndW h2 ej (Ne.symm hj) List.mem_cons_self hl
  ·exact (List.nodup_append.mp st.nd).2.2 a (mem_flat_of h2 List.mem_cons_self) a z rfl
 have dv:Stp (W.flatten ++ F.O₀) H ((W.set i []).flatten ++ F.O₀) H->DV (hide ((W.set i []).flatten ++ F.O₀) H) (.ref a) (.list ds):=fun s=>.lst (hide_of h3 nin) (DVs.mono s.hid h4)
 obtain ⟨s1,s2⟩:=st.put (H':=H) (i:=i) (v:=.ref a) (c:=.dat (.list ds)) (fp:=[]) hi (fun _ _ _ _ _ _=>rfl) (fun _ _=>rfl) (fun _ _ _ e=>e) List.nodup_nil (fun a h=>by cases h) (fun a h=>by cases h) (fun a h=>by cases h) (fun s=>dv s) (fun _ z=>by cases z)
 have eσ:σ.set i (some (.ref a))=σ:=by
  apply List.ext_getElem?
  intro j
  by_cases hj:j=i
  ·subst hj; rw [List.getElem?_set_self (List.getElem?_eq_some_iff.mp h1).1,h1]
  ·rw [List.getElem?_set_ne (Ne.symm hj)]
 rw [eσ] at s1
 exact ⟨_,_,h1,⟨_,s1,rfl⟩,s2,dv s2⟩
end
end L2.L3
namespace L2.L3
open PySem PySem.Spec PyProof.Rows
noncomputable abbrev DT:=DEnv->(PyData->DEnv->Prop)->Prop
noncomputable def Mn (t:DT):Prop:=∀ ρ Q Q',(∀ d ρ',Q d ρ'->Q' d ρ')->t ρ Q->t ρ Q'
noncomputable def rdE (K:PySem.W.Frag) (F:Fx) (t:DT):TE:=fun σ H Q=>∃ ρ O,DSt K F H σ ρ O/\t ρ fun d ρ'=>∀ v H' O',DSt K F H' σ ρ' O'->Stp O H O' H'->DV (hide O' H') v d->Q v H'
structure DE (X:Cx) (F:Fx) (e:Expr) (t:DT):Prop where
 mn:Mn t
 pe:PE X e (rdE X.K F t)
theorem _root_.L2.PE.imp {X:Cx} {e:Expr} {t t':TE} (h:PE X e t) (k:∀ σ H Q,t' σ H Q->t σ H Q):PE X e t':=fun pins s σ H Q I q=>h pins s σ H Q I (k σ H Q q)
theorem _root_.L2.PT.imp {X:Cx} {e:Expr} {t t':TT} (h:PT X e t) (k:∀ σ H Q,t' σ H Q->t σ H Q):PT X e t':=fun pins s σ H Q I q=>h pins s σ H Q I (k σ H Q q)
theorem _root_.L2.PS.imp {X:Cx} {e:Stmt} {t t':TS} (h:PS X e t) (k:∀ D σ H,t' D σ H->t D σ H):PS X e t':=fun pins s σ H D I q=>h pins s σ H D I (k D σ H q)
theorem _root_.L2.PSs.imp {X:Cx} {e:List Stmt} {t t':TS} (h:PSs X e t) (k:∀ D σ H,t' D σ H->t D σ H):PSs X e t':=fun pins s σ H D I q=>h pins s σ H D I (k D σ H q)
section
variable {X:Cx} {F:Fx} {a b e:Expr} {ta tb:DT} {pos:Pos}
noncomputable def dC (d:PyData):DT:=fun ρ Q=>Q d ρ
noncomputable def dV (i:Nat):DT:=fun ρ Q=>(∃ d,ρ[i]? = some (some (.dat d))/\Q d ρ)\/∃ ds,ρ[i]? = some (some (.own false (.l ds)))/\Q (.list ds) (ρ.set i (some (.dat (.list ds))))
theorem mn_C {d:PyData}:Mn (dC d):=fun _ _ _ h q=>h _ _ q
theorem de_const {d:PyData} {v:V} (h:PE X e (tC v)) (hd:∀ H,DV H v d):DE X F e (dC d):=
 ⟨mn_C,h.imp fun σ H Q ⟨ρ,O,st,q⟩=>q v H O st .refl (hd _)⟩
theorem de_int {i j}:DE X F (.Constant (.int i) j pos) (dC (.int i)):=de_const pe_int fun _=>.int i
theorem de_bl {i j}:DE X F (.Constant (.bool i) j pos) (dC (.bool i)):=de_const pe_bl fun _=>.bl i
theorem de_var (i:Nat) {x:Str} (h:PE X (.Name x pos) (tVar i)):DE X F (.Name x pos) (dV i):=
 ⟨fun _ _ _ k q=>q.imp (fun ⟨d,e,q⟩=>⟨d,e,k _ _ q⟩) fun ⟨d,e,q⟩=>⟨d,e,k _ _ q⟩,h.imp fun σ H Q ⟨ρ,O,st,q⟩=>by
  rcases q with ⟨d,e,q⟩ | ⟨ds,e,q⟩
  ·obtain ⟨v,h1,h2⟩:=st.dat e
   exact ⟨v,h1,q v H O st .refl h2⟩
  ·obtain ⟨v,O',h1,h2,h3,h4⟩:=st.freeze e
   exact ⟨v,h1,q v H O' h2 h3 h4⟩⟩
noncomputable abbrev D2:=PyData->PyData->(PyData->Prop)->Prop
noncomputable def dOp (f:D2) (ta tb:DT):DT:=fun ρ Q=>ta ρ fun x ρ1=>tb ρ1 fun y ρ2=>f x y fun d=>Q d ρ2
structure Op2 (r:R2) (f:D2):Prop where
 mn:∀ x y Q Q',(∀ d,Q d->Q' d)->f x y Q->f x y Q'
 ok:∀ (O:List Addr) (H:Hp) (u v:V) (x y:PyData) (Q:VK),(∀ p,H p=none->p ∉ O)->DV (hide O H) u x->DV (hide O H) v y->f x y (fun d=>∀ w H',Same H H'->DV (hide O H') w d->Q w H')->r u v H Q
theorem rd2 {r:R2} {f:D2} {ta tb:DT} (o:Op2 r f) (ha:Mn ta) (hb:Mn tb) {K:PySem.W.Frag}:∀ σ H Q,rdE K F (dOp f ta tb) σ H Q->tOp r (rdE K F ta) (rdE K F tb) σ H Q:=fun σ H Q ⟨ρ,O,st,q⟩=>by
 refine ⟨ρ,O,st,ha _ _ _ (fun x ρ1 q1 v1 H1 O1 st1 s1 d1=>?_) q⟩
 refine ⟨ρ1,O1,st1,hb _ _ _ (fun y ρ2 q2 v2 H2 O2 st2 s2 d2=>?_) q1⟩
 refine o.ok O2 H2 v1 v2 x y Q st2.nofree (DV.mono s2.hid d1) d2 (o.mn _ _ _ _ (fun d q3 w H3 s3 d3=>?_) q2)
 exact q3 w H3 O2 (st2.grow s3) (s1.trans (s2.trans (.same s3))) d3
theorem mn2 {r:R2} {f:D2} (o:Op2 r f) (ha:Mn ta) (hb:Mn tb):Mn (dOp f ta tb):=fun _ _ _ k q=>ha _ _ _ (fun _ _ q1=>hb _ _ _ (fun _ _ q2=>o.mn _ _ _ _ (fun _ q3=>k _ _ q3) q2) q1) q
theorem de_op {op:Operator} {r:R2} {f:D2} (ho:OpR X (binaryOp op) r) (o:Op2 r f) (ha:DE X F a ta) (hb:DE X F b tb):DE X F (.BinOp a op b pos) (dOp f ta tb):=
 ⟨mn2 o ha.mn hb.mn,(pe_op ho ha.pe hb.pe).imp (rd2 o ha.mn hb.mn)⟩
theorem de_cmp {op:CmpOp} {r:R2} {f:D2} (ho:OpR X (compareOp op) r) (o:Op2 r f) (ha:DE X F a ta) (hb:DE X F b tb) (hm:behindInMarks op b=false):DE X F (.Compare a [op] [b] pos) (dOp f ta tb):=
 ⟨mn2 o ha.mn hb.mn,(pe_cmpR ho ha.pe hb.pe hm).imp (rd2 o ha.mn hb.mn)⟩
theorem de_ix {r:R2} {f:D2} (hr:IxR X r) (o:Op2 r f) (ha:DE X F a ta) (hb:DE X F b tb) (hs:PlainIx b):DE X F (.Subscript a b pos) (dOp f ta tb):=
 ⟨mn2 o ha.mn hb.mn,(pe_ix hr ha.pe hb.pe hs).imp (rd2 o ha.mn hb.mn)⟩
noncomputable def fI (C:Int->Int->Prop) (g:Int->Int->PyData):D2:=fun x y Q=>∃ i j,x=.int i/\y=.int j/\C i j/\Q (g i j)
theorem o_int {C:Int->Int->Prop} {g:Int->Int->V} {g':Int->Int->PyData} (hg:∀ i j H,DV H (g i j) (g' i j)):Op2 (rI C g) (fI C g') where
 mn:=fun _ _ _ _ k ⟨i,j,e1,e2,c,q⟩=>⟨i,j,e1,e2,c,k _ q⟩
 ok:=fun O H u v x y Q hO h1 h2 ⟨i,j,e1,e2,c,q⟩=>by
  subst e1 e2
  exact ⟨i,j,h1.int_inv,h2.int_inv,c,q _ H (fun _ _ h=>h) (hg i j _)⟩
theorem o_int0 {g:Int->Int->V} {g':Int->Int->PyData} (hg:∀ i j H,DV H (g i j) (g' i j)):Op2 (rI0 g) (fI (fun _ _=>True) g') where
 mn:=fun _ _ _ _ k ⟨i,j,e1,e2,c,q⟩=>⟨i,j,e1,e2,c,k _ q⟩
 ok:=fun O H u v x y Q hO h1 h2 ⟨i,j,e1,e2,_,q⟩=>by
  subst e1 e2
  exact ⟨i,j,h1.int_inv,h2.int_inv,q _ H (fun _ _ h=>h) (hg i j _)⟩
noncomputable def fEq (neg:Bool):D2:=fun x y Q=>SeqAt.shaped x=true/\SeqAt.shaped y=true/\Q (.bool (PyData.eqv x y != neg))
theorem o_eq {neg:Bool}:Op2 (rEqD neg) (fEq neg) where
 mn:=fun _ _ _ _ k ⟨e1,e2,q⟩=>⟨e1,e2,k _ q⟩
 ok:=fun O H u v x y Q hO h1 h2 ⟨e1,e2,q⟩=>⟨x,y,DV.mono hide_le h1,DV.mono hide_le h2,e1,e2,q _ H (fun _ _ h=>h) (.bl _)⟩
noncomputable def fIxT:D2:=fun x y Q=>∃ ds i d,x=.tuple ds/\y=.int i/\atI ds i=some d/\Q d
noncomputable def fIxL:D2:=fun x y Q=>∃ ds i d,x=.list ds/\y=.int i/\atI ds i=some d/\Q d
theorem atI_dv {H:Hp} {vs:List V} {ds:List PyData} {i:Int} {d:PyData} (h:DVs H vs ds) (e:atI ds i=some d):∃ v,atI vs i=some v/\DV H v d:=by
 unfold atI at e ⊢
 rw [h.length]
 cases q:ixN ds.length i with
 | none=>rw [q] at e; cases e
 | some j=>
  rw [q] at e
  exact h.get e
theorem o_ixT {K:PySem.W.Frag}:Op2 (rIxT K) fIxT where
 mn:=fun _ _ _ _ k ⟨ds,i,d,e1,e2,e3,q⟩=>⟨ds,i,d,e1,e2,e3,k _ q⟩
 ok:=fun O H u v x y Q hO h1 h2 ⟨ds,i,d,e1,e2,e3,q⟩=>by
  subst e1 e2
  obtain ⟨a,xs,rfl,ha,hd⟩:=h1.tup_inv
  obtain ⟨w,ew,hw⟩:=atI_dv hd e3
  exact ⟨a,xs,i,w,rfl,h2.int_inv,.inl (of_hideR ha).1,ew,q w H (fun _ _ h=>h) hw⟩
theorem o_ixL {K:PySem.W.Frag}:Op2 (rIxL K) fIxL where
 mn:=fun _ _ _ _ k ⟨ds,i,d,e1,e2,e3,q⟩=>⟨ds,i,d,e1,e2,e3,k _ q⟩
 ok:=fun O H u v x y Q hO h1 h2 ⟨ds,i,d,e1,e2,e3,q⟩=>by
  subst e1 e2
  obtain ⟨a,xs,rfl,ha,hd⟩:=h1.lst_inv
  obtain ⟨w,ew,hw⟩:=atI_dv hd e3
  exact ⟨a,xs,i,w,rfl,h2.int_inv,.of (of_hide ha).1,ew,q w H (fun _ _ h=>h) hw⟩
theorem dv_new_lst {O:List Addr} {H:Hp} {p:Addr} {xs:List V} {ds:List PyData} (hp:H p=none) (hO:p ∉ O) (h:DVs (hide O H) xs ds):DV (hide O (upd H p (.lst xs))) (.ref p) (.list ds):=
 .lst (hide_of upd_same hO) (DVs.mono (hide_same (same_upd hp)) h)
theorem dv_new_tup {O:List Addr} {H:Hp} {p:Addr} {xs:List V} {ds:List PyData} (hp:H p=none) (hO:p ∉ O) (h:DVs (hide O H) xs ds):DV (hide O (upd H p (.tup xs))) (.ref p) (.tuple ds):=
 .tup (.inl (hide_of upd_same hO)) (DVs.mono (hide_same (same_upd hp)) h)
noncomputable def fCatL:D2:=fun x y Q=>∃ ds es,x=.list ds/\y=.list es/\ds.length + es.length<=sizeLine/\Q (.list (ds ++ es))
theorem o_catL:Op2 rCat fCatL where
 mn:=fun _ _ _ _ k ⟨ds,es,e1,e2,e3,q⟩=>⟨ds,es,e1,e2,e3,k _ q⟩
 ok:=fun O H u v x y Q hO h1 h2 ⟨ds,es,e1,e2,e3,q⟩=>by
  subst e1 e2
  obtain ⟨a,xs,rfl,ha,hd⟩:=h1.lst_inv
  obtain ⟨b,ys,rfl,hb,he⟩:=h2.lst_inv
  refine ⟨a,b,xs,ys,rfl,rfl,(of_hide ha).1,(of_hide hb).1,by rw [hd.length,he.length]; exact e3,fun p hp=>q _ _ (same_upd hp) (dv_new_lst hp (hO p hp) (hd.append he))⟩
noncomputable def fCatT:D2:=fun x y Q=>∃ ds es,x=.tuple ds/\y=.tuple es/\ds.length + es.length<=sizeLine/\Q (.tuple (ds ++ es))
end
theorem ofT {A B:Prop} (h:if true=true then A else B):A:=by rw [if_pos rfl] at h; exact h
theorem ofF {A B:Prop} (h:if false=true then A else B):B:=by rw [if_neg Bool.false_ne_true] at h; exact h
noncomputable abbrev DTA:=DEnv->(List PyData->DEnv->Prop)->Prop
noncomputable def MnA (t:DTA):Prop:=∀ ρ Q Q',(∀ d ρ',Q d ρ'->Q' d ρ')->t ρ Q->t ρ Q'
noncomputable def rdA (K:PySem.W.Frag) (F:Fx) (t:DTA):TA:=fun σ H Q=>∃ ρ O,DSt K F H σ ρ O/\t ρ fun ds ρ'=>∀ vs H' O',DSt K F H' σ ρ' O'->Stp O H O' H'->DVs (hide O' H') vs ds->Q vs H'
structure DA (X:Cx) (F:Fx) (es:List Expr) (t:DTA):Prop where
 mn:MnA t
 pa:PA X es (rdA X.K F t)
theorem _root_.L2.PA.imp {X:Cx} {e:List Expr} {t t':TA} (h:PA X e t) (k:∀ σ H Q,t' σ H Q->t σ H Q):PA X e t':=fun pos pins s σ H Q I q=>h pos pins s σ H Q I (k σ H Q q)
section
variable {X:Cx} {F:Fx} {a b e c:Expr} {es:List Expr} {ta tb tc:DT} {tA:DTA} {pos:Pos}
noncomputable def dNil:DTA:=fun ρ Q=>Q [] ρ
noncomputable def dCons (ta:DT) (tr:DTA):DTA:=fun ρ Q=>ta ρ fun d ρ1=>tr ρ1 fun ds ρ2=>Q (d :: ds) ρ2
theorem da_nil:DA X F [] dNil:=⟨fun _ _ _ k q=>k _ _ q,pa_nil.imp fun σ H Q ⟨ρ,O,st,q⟩=>q [] H O st .refl .nil⟩
theorem da_cons (ha:DE X F e ta) (hr:DA X F es tA) (hs:starEach (e :: es) X.env=(false,eval e X.env) :: starEach es X.env:=by rfl):DA X F (e :: es) (dCons ta tA):=
 ⟨fun _ _ _ k q=>ha.mn _ _ _ (fun _ _ q1=>hr.mn _ _ _ (fun _ _ q2=>k _ _ q2) q1) q,(pa_cons ha.pe hr.pa hs).imp fun σ H Q ⟨ρ,O,st,q⟩=>
  ⟨ρ,O,st,ha.mn _ _ _ (fun d ρ1 q1 v H1 O1 st1 s1 d1=>⟨ρ1,O1,st1,hr.mn _ _ _ (fun ds ρ2 q2 vs H2 O2 st2 s2 d2=>q2 (v :: vs) H2 O2 st2 (s1.trans s2) (.cons (DV.mono s2.hid d1) d2)) q1⟩) q⟩⟩
noncomputable def dTup (t:DTA):DT:=fun ρ Q=>t ρ fun ds ρ'=>ds.length<=sizeLine/\Q (.tuple ds) ρ'
noncomputable def dLst (t:DTA):DT:=fun ρ Q=>t ρ fun ds ρ'=>ds.length<=sizeLine/\Q (.list ds) ρ'
theorem de_tup {x1} (h:DA X F es tA):DE X F (.Tuple es x1 pos) (dTup tA):=
 ⟨fun _ _ _ k q=>h.mn _ _ _ (fun _ _ q1=>⟨q1.1,k _ _ q1.2⟩) q,(pe_tup h.pa).imp fun σ H Q ⟨ρ,O,st,q⟩=>
  ⟨ρ,O,st,h.mn _ _ _ (fun ds ρ1 q1 vs H1 O1 st1 s1 d1=>⟨by rw [d1.length]; exact q1.1,fun p hp=>q1.2 _ _ O1 (st1.grow (same_upd hp)) (s1.trans (.same (same_upd hp))) (dv_new_tup hp (st1.nofree p hp) d1)⟩) q⟩⟩
theorem de_lst (h:DA X F es tA):DE X F (.List es pos) (dLst tA):=
 ⟨fun _ _ _ k q=>h.mn _ _ _ (fun _ _ q1=>⟨q1.1,k _ _ q1.2⟩) q,(pe_lst h.pa).imp fun σ H Q ⟨ρ,O,st,q⟩=>
  ⟨ρ,O,st,h.mn _ _ _ (fun ds ρ1 q1 vs H1 O1 st1 s1 d1=>⟨by rw [d1.length]; exact q1.1,fun p hp=>q1.2 _ _ O1 (st1.grow (same_upd hp)) (s1.trans (.same (same_upd hp))) (dv_new_lst hp (st1.nofree p hp) d1)⟩) q⟩⟩
noncomputable def dNeg (ta:DT):DT:=fun ρ Q=>ta ρ fun d ρ'=>∃ i,d=.int i/\Q (.int (-i)) ρ'
theorem de_neg (ha:DE X F a ta):DE X F (.UnaryOp .USub a pos) (dNeg ta):=
 ⟨fun _ _ _ k q=>ha.mn _ _ _ (fun _ _ ⟨i,e,q⟩=>⟨i,e,k _ _ q⟩) q,(pe_un un_neg ha.pe).imp fun σ H Q ⟨ρ,O,st,q⟩=>
  ⟨ρ,O,st,ha.mn _ _ _ (fun d ρ1 ⟨i,e,q1⟩ v H1 O1 st1 s1 d1=>by subst e; exact ⟨i,d1.int_inv,q1 _ H1 O1 st1 s1 (.int _)⟩) q⟩⟩
noncomputable def dNot (ta:DT):DT:=fun ρ Q=>ta ρ fun d ρ'=>∃ b,d=.bool b/\Q (.bool (!b)) ρ'
theorem de_not (ha:DE X F a ta):DE X F (.UnaryOp .Not a pos) (dNot ta):=
 ⟨fun _ _ _ k q=>ha.mn _ _ _ (fun _ _ ⟨i,e,q⟩=>⟨i,e,k _ _ q⟩) q,(pe_not ha.pe).imp fun σ H Q ⟨ρ,O,st,q⟩=>
  ⟨ρ,O,st,ha.mn _ _ _ (fun d ρ1 ⟨i,e,q1⟩ v H1 O1 st1 s1 d1=>by subst e; exact ⟨i,d1.bl_inv,q1 _ H1 O1 st1 s1 (.bl _)⟩) q⟩⟩
noncomputable def dAnd (ta tb:DT):DT:=fun ρ Q=>ta ρ fun d ρ1=>∃ b,d=.bool b/\if b=true then tb ρ1 Q else Q (.bool false) ρ1
theorem de_one {op} (h:DE X F a ta):DE X F (.BoolOp op [a] pos) ta:=⟨h.mn,pe_one h.pe⟩
theorem de_and {rest:List Expr} (ha:DE X F a ta) (hb:DE X F (.BoolOp .And (b :: rest) pos) tb):DE X F (.BoolOp .And (a :: b :: rest) pos) (dAnd ta tb):=
 ⟨fun _ _ _ k q=>ha.mn _ _ _ (fun _ _ ⟨i,e,q⟩=>⟨i,e,by cases i <;> first | exact k _ _ q | exact hb.mn _ _ _ k q⟩) q,(pe_and ha.pe hb.pe).imp fun σ H Q ⟨ρ,O,st,q⟩=>
  ⟨ρ,O,st,ha.mn _ _ _ (fun d ρ1 ⟨i,e,q1⟩ v H1 O1 st1 s1 d1=>by
   subst e
   refine ⟨i,d1.bl_inv,?_⟩
   cases i with
   | true=>exact iteT ⟨ρ1,O1,st1,hb.mn _ _ _ (fun d ρ2 q2 w H2 O2 st2 s2 d2=>q2 w H2 O2 st2 (s1.trans s2) d2) (ofT q1)⟩
   | false=>exact iteF (ofF q1 _ H1 O1 st1 s1 (.bl _))) q⟩⟩
noncomputable def dChain (p p':Int->Int->Bool) (ta tb tc:DT):DT:=fun ρ Q=>ta ρ fun x ρ1=>tb ρ1 fun y ρ2=>∃ i j,x=.int i/\y=.int j/\if p i j=true then tc ρ2 (fun z ρ3=>∃ k,z=.int k/\Q (.bool (p' j k)) ρ3) else Q (.bool false) ρ2
theorem de_chain {op op':CmpOp} {p p':Int->Int->Bool} (ho:OpR X (compareOp op) (rI0 fun i j=>.bl (p i j))) (ho':OpR X (compareOp op') (rI0 fun i j=>.bl (p' i j))) (ha:DE X F a ta) (hb:DE X F b tb) (hc:DE X F c tc)
  (hm:lastMarks [op,op'] [b,c]=false:=by with_unfolding_all rfl):DE X F (.Compare a [op,op'] [b,c] pos) (dChain p p' ta tb tc):=
 ⟨fun _ _ _ k q=>ha.mn _ _ _ (fun _ _ q1=>hb.mn _ _ _ (fun _ _ ⟨i,j,e1,e2,q2⟩=>⟨i,j,e1,e2,by
   by_cases h:p i j=true
   ·rw [if_pos h] at q2 ⊢; exact hc.mn _ _ _ (fun _ _ ⟨l,e,q3⟩=>⟨l,e,k _ _ q3⟩) q2
   ·rw [if_neg h] at q2 ⊢; exact k _ _ q2⟩) q1) q,
  (pe_chain ho ho' ha.pe hb.pe hc.pe hm).imp fun σ H Q ⟨ρ,O,st,q⟩=>
  ⟨ρ,O,st,ha.mn _ _ _ (fun x ρ1 q1 v H1 O1 st1 s1 d1=>⟨ρ1,O1,st1,hb.mn _ _ _ (fun y ρ2 ⟨i,j,e1,e2,q2⟩ w H2 O2 st2 s2 d2=>by
   subst e1 e2
   refine ⟨i,j,(DV.mono s2.hid d1).int_inv,d2.int_inv,p i j,rfl,?_⟩
   by_cases h:p i j=true
   ·rw [if_pos h] at q2 ⊢
    exact ⟨ρ2,O2,st2,hc.mn _ _ _ (fun z ρ3 ⟨l,e,q3⟩ u H3 O3 st3 s3 d3=>by subst e; exact ⟨j,l,(DV.mono s3.hid d2).int_inv,d3.int_inv,q3 _ H3 O3 st3 (s1.trans (s2.trans s3)) (.bl _)⟩) q2⟩
   ·rw [if_neg h] at q2 ⊢
    exact q2 _ H2 O2 st2 (s1.trans s2) (.bl _)) q1⟩) q⟩⟩
end
noncomputable abbrev DTT:=DEnv->(Bool->DEnv->Prop)->Prop
noncomputable def MnT (t:DTT):Prop:=∀ ρ Q Q',(∀ d ρ',Q d ρ'->Q' d ρ')->t ρ Q->t ρ Q'
noncomputable def rdT (K:PySem.W.Frag) (F:Fx) (t:DTT):TT:=fun σ H Q=>∃ ρ O,DSt K F H σ ρ O/\t ρ fun b ρ'=>∀ H' O',DSt K F H' σ ρ' O'->Stp O H O' H'->Q b H'
structure DB (X:Cx) (F:Fx) (e:Expr) (t:DTT):Prop where
 mn:MnT t
 pt:PT X e (rdT X.K F t)
section
variable {X:Cx} {F:Fx} {a b e c:Expr} {ta tb tc:DT} {tA tB:DTT} {pos:Pos}
noncomputable def dTst (ta:DT):DTT:=fun ρ Q=>ta ρ fun d ρ'=>∃ b,d=.bool b/\Q b ρ'
theorem mn_tst (h:Mn ta):MnT (dTst ta):=fun _ _ _ k q=>h _ _ _ (fun _ _ ⟨b,e,q1⟩=>⟨b,e,k _ _ q1⟩) q
theorem rd_tst {K:PySem.W.Frag} (h:Mn ta):∀ σ H Q,rdT K F (dTst ta) σ H Q->rdE K F ta σ H fun x H'=>∃ k,x=.bl k/\Q k H':=fun σ H Q ⟨ρ,O,st,q⟩=>
 ⟨ρ,O,st,h _ _ _ (fun d ρ1 ⟨b,e,q1⟩ v H1 O1 st1 s1 d1=>by subst e; exact ⟨b,d1.bl_inv,q1 H1 O1 st1 s1⟩) q⟩
theorem db_val (h:DE X F e ta) (he:∀ whole,isTrue e X.env whole=(do let v <-whole; standAt e.pos; holding [v] (truthy v)):=by intro _; rfl):DB X F e (dTst ta):=⟨mn_tst h.mn,(pt_val h.pe he).imp (rd_tst h.mn)⟩
theorem db_cmp {op:CmpOp} {r:R2} {f:D2} (ho:OpR X (compareOp op) r) (o:Op2 r f) (ha:DE X F a ta) (hb:DE X F b tb) (hm:behindInMarks op b=false):DB X F (.Compare a [op] [b] pos) (dTst (dOp f ta tb)):=
 ⟨mn_tst (mn2 o ha.mn hb.mn),(pt_cmpR ho ha.pe hb.pe hm).imp fun σ H Q q=>rd2 o ha.mn hb.mn σ H _ (rd_tst (mn2 o ha.mn hb.mn) σ H Q q)⟩
noncomputable def bNot (t:DTT):DTT:=fun ρ Q=>t ρ fun b ρ'=>Q (!b) ρ'
theorem db_not (h:DB X F a tA):DB X F (.UnaryOp .Not a pos) (bNot tA):=⟨fun _ _ _ k q=>h.mn _ _ _ (fun _ _ q=>k _ _ q) q,(pt_not h.pt).imp fun σ H Q ⟨ρ,O,st,q⟩=>⟨ρ,O,st,h.mn _ _ _ (fun b ρ1 q1 H1 O1 st1 s1=>q1 H1 O1 st1 s1) q⟩⟩
structure DW (X:Cx) (F:Fx) (e:Expr) (t:DTT):Prop where
 mn:MnT t
 pw:PW X e (rdT X.K F t)
theorem _root_.L2.PW.imp {X:Cx} {e:Expr} {t t':TT} (h:PW X e t) (k:∀ σ H Q,t' σ H Q->t σ H Q):PW X e t':=fun wh pins s σ H Q I q=>h wh pins s σ H Q I (k σ H Q q)
theorem DW.db {t:DTT} (h:DW X F e t):DB X F e t:=⟨h.mn,h.pw.pt⟩
noncomputable def bOr (t u:DTT):DTT:=fun ρ Q=>t ρ fun b ρ1=>if b=true then Q true ρ1 else u ρ1 Q
theorem dw_or1 (h:DB X F a tA):DW X F (.BoolOp .Or [a] pos) tA:=⟨h.mn,pw_or1 h.pt⟩
theorem dw_or {rest:List Expr} (ha:DB X F a tA) (hb:DW X F (.BoolOp .Or (b :: rest) pos) tB):DW X F (.BoolOp .Or (a :: b :: rest) pos) (bOr tA tB):=
 ⟨fun _ _ _ k q=>ha.mn _ _ _ (fun b _ q=>by cases b <;> first | exact k _ _ q | exact hb.mn _ _ _ k q) q,(pw_or ha.pt hb.pw).imp fun σ H Q ⟨ρ,O,st,q⟩=>
  ⟨ρ,O,st,ha.mn _ _ _ (fun b ρ1 q1 H1 O1 st1 s1=>by
   cases b with
   | false=>exact iteF ⟨ρ1,O1,st1,hb.mn _ _ _ (fun b ρ2 q2 H2 O2 st2 s2=>q2 H2 O2 st2 (s1.trans s2)) (ofF q1)⟩
   | true=>exact iteT (ofT q1 H1 O1 st1 s1)) q⟩⟩
noncomputable def dIf (t:DTT) (ta tb:DT):DT:=fun ρ Q=>t ρ fun b ρ1=>if b=true then ta ρ1 Q else tb ρ1 Q
theorem de_if (hc:DB X F c tA) (ha:DE X F a ta) (hb:DE X F b tb):DE X F (.IfExp c a b pos) (dIf tA ta tb):=
 ⟨fun _ _ _ k q=>hc.mn _ _ _ (fun b _ q=>by cases b <;> first | exact ha.mn _ _ _ k q | exact hb.mn _ _ _ k q) q,(pe_ifExp hc.pt ha.pe hb.pe).imp fun σ H Q ⟨ρ,O,st,q⟩=>
  ⟨ρ,O,st,hc.mn _ _ _ (fun b ρ1 q1 H1 O1 st1 s1=>by
   cases b with
   | true=>exact iteT ⟨ρ1,O1,st1,ha.mn _ _ _ (fun d ρ2 q2 v H2 O2 st2 s2 d2=>q2 v H2 O2 st2 (s1.trans s2) d2) (ofT q1)⟩
   | false=>exact iteF ⟨ρ1,O1,st1,hb.mn _ _ _ (fun d ρ2 q2 v H2 O2 st2 s2 d2=>q2 v H2 O2 st2 (s1.trans s2) d2) (ofF q1)⟩) q⟩⟩
end
noncomputable abbrev DN:=List PyData->(PyData->Prop)->Prop
structure OpN (r:List V->Hp->VK->Prop) (f:DN):Prop where
 mn:∀ xs Q Q',(∀ d,Q d->Q' d)->f xs Q->f xs Q'
 ok:∀ (O:List Addr) (H:Hp) (vs:List V) (xs:List PyData) (Q:VK),(∀ p,H p=none->p ∉ O)->DVs (hide O H) vs xs->f xs (fun d=>∀ w H',Same H H'->DV (hide O H') w d->Q w H')->r vs H Q
noncomputable def dCB (f:DN) (t:DTA):DT:=fun ρ Q=>t ρ fun ds ρ'=>f ds fun d=>Q d ρ'
section
variable {X:Cx} {F:Fx} {e:Expr} {es:List Expr} {tA:DTA} {pos p:Pos} {x:Str} {id T:String} {r:List V->Hp->VK->Prop} {f:DN}
theorem rdN {K:PySem.W.Frag} (o:OpN r f) (h:MnA tA):∀ σ H Q,rdE K F (dCB f tA) σ H Q->tCB r (rdA K F tA) σ H Q:=fun σ H Q ⟨ρ,O,st,q⟩=>
 ⟨ρ,O,st,h _ _ _ (fun ds ρ1 q1 vs H1 O1 st1 s1 d1=>o.ok O1 H1 vs ds Q st1.nofree d1 (o.mn _ _ _ (fun d q2 w H2 s2 d2=>q2 w H2 O1 (st1.grow s2) (s1.trans (.same s2)) d2) q1)) q⟩
theorem mnN (o:OpN r f) (h:MnA tA):Mn (dCB f tA):=fun _ _ _ k q=>h _ _ _ (fun _ _ q1=>o.mn _ _ _ (fun _ q2=>k _ _ q2) q1) q
theorem de_callB (hc:CallR X (.builtin id) r) (o:OpN r f) (hg:Gl X x) (hm:X.mg x=none) (hv:bootBuiltins x=some (.builtin id)) (ha:DA X F (e :: es) tA) (hn:x ≠ "__name__":=by decide) (hdb:(x == ("__debug__":Str))=false:=by decide)
  (he:starEach (e :: es) X.env=(false,eval e X.env) :: starEach es X.env:=by rfl) (hpl:(backTo pos (starEach es X.env)).any (·.1)=false:=by rfl):DE X F (.Call (.Name x p) (e :: es) [] pos) (dCB f tA):=
 ⟨mnN o ha.mn,(pe_callB hc hg hm hv ha.pa hn hdb he hpl).imp (rdN o ha.mn)⟩
theorem de_callTy (hc:CallR X (.type T) r) (o:OpN r f) (hg:Gl X x) (hm:X.mg x=none) (hv:bootBuiltins x=some (.type T)) (ha:DA X F (e :: es) tA) (hn:x ≠ "__name__":=by decide) (hdb:(x == ("__debug__":Str))=false:=by decide)
  (he:starEach (e :: es) X.env=(false,eval e X.env) :: starEach es X.env:=by rfl) (hpl:(backTo pos (starEach es X.env)).any (·.1)=false:=by rfl):DE X F (.Call (.Name x p) (e :: es) [] pos) (dCB f tA):=
 ⟨mnN o ha.mn,(pe_callTy hc hg hm hv ha.pa hn hdb he hpl).imp (rdN o ha.mn)⟩
end
noncomputable def dIsI (n:String) (ta:DT):DT:=fun ρ Q=>ta ρ fun d ρ'=>∃ b,(∀ K:PySem.W.Frag,PySem.W.kitOne K (.type (tyOfD d)) (.type n)=some b)/\Q (.bool b) ρ'
section
variable {X:Cx} {F:Fx} {e:Expr} {ta:DT} {pos p p2:Pos} {T:String} {x:Str}
theorem de_isinst (hg:Gl X "isinstance") (hm:X.mg "isinstance" = none) (h:DE X F e ta) (ht:PE X (.Name x p2) (tC (.ty T)))
  (he:starEach [e,.Name x p2] X.env=(false,eval e X.env) :: starEach [.Name x p2] X.env:=by rfl) (he2:starEach [.Name x p2] X.env=(false,eval (.Name x p2) X.env) :: starEach [] X.env:=by rfl) (hpl:(backTo pos (starEach [.Name x p2] X.env)).any (·.1)=false:=by rfl) :
  DE X F (.Call (.Name "isinstance" p) [e,.Name x p2] [] pos) (dIsI T ta):=
 ⟨fun _ _ _ k q=>h.mn _ _ _ (fun _ _ ⟨b,e,q⟩=>⟨b,e,k _ _ q⟩) q,
  (pe_callB call_isinst hg hm (show bootBuiltins "isinstance" = some (.builtin "isinstance") by decide +kernel) (pa_cons h.pe (pa_cons ht pa_nil he2) he) (by decide) (by decide) he hpl).imp fun σ H Q ⟨ρ,O,st,q⟩=>
  ⟨ρ,O,st,h.mn _ _ _ (fun d ρ1 ⟨b,e,q1⟩ v H1 O1 st1 s1 d1=>⟨v,d,T,b,rfl,DV.mono hide_le d1,e,q1 _ H1 O1 st1 s1 (.bl b)⟩) q⟩⟩
end
end L2.L3
namespace L2.L3
open PySem PySem.Spec PyProof.Rows
structure ExS (g:Heap) (H:Hp) (h:Heap) (a:Addr) (C:Value) (fl:Option Value):Prop where
 gh:∀ b o,g.get? b=some o->∃ o',h.get? b=some o'
 lo:g.get? a=none
 un:H a=none
 ob:∃ oe vs a0,h.get? a=some oe/\oe.cls=C/\oe.data=.fields vs/\vs[0]? = some a0/\
  ((fl=none/\vs[1]? = some .none)\/∃ T oT ts f,fl=some f/\vs[1]? = some (.ref T)/\g.get? T=none/\H T=none/\T ≠ a/\h.get? T=some oT/\oT.data=.fields ts/\ts[3]? = some f)
structure Ch (g:Heap) (H:Hp) (fs:List Addr) (h h':Heap):Prop where
 keep:∀ b o,h.get? b=some o->((∃ o',g.get? b=some o')\/H b ≠ none)->b ∉ fs->h'.get? b=some o
 slot:∀ b o,b ∈ fs->h.get? b=some o->∃ sl,h'.get? b=some { o with slots:=sl }
 there:∀ b o,h.get? b=some o->∃ o',h'.get? b=some o'
theorem Ch.refl {g:Heap} {H:Hp} {fs:List Addr} {h:Heap}:Ch g H fs h h:=⟨fun _ _ e _ _=>e,fun b o _ e=>⟨o.slots,e⟩,fun b o e=>⟨o,e⟩⟩
theorem Ch.trans {g:Heap} {H:Hp} {fs:List Addr} {h h1 h2:Heap} (x:Ch g H fs h h1) (y:Ch g H fs h1 h2):Ch g H fs h h2 where
 keep:=fun b o e q n=>y.keep b o (x.keep b o e q n) q n
 slot:=fun b o m e=>let ⟨_,e1⟩:=x.slot b o m e; let ⟨sl,e2⟩:=y.slot b _ m e1; ⟨sl,e2⟩
 there:=fun b o e=>let ⟨o1,e1⟩:=x.there b o e; y.there b o1 e1
theorem HOk.some_of {P:Program} {w:World} {H:Hp} {h:Heap} (k:HOk P w H h) {b:Addr} (e:h.get? b=none):H b=none:=by
 cases q:H b with
 | none=>rfl
 | some u=>
  exfalso
  have x:=k b u q
  have:∀ (u:HO),ObjOk P w H h b u->∃ o,h.get? b=some o:=by
   intro u
   induction u with
   | lst xs=>exact fun ⟨_,_,_,_,e⟩=>⟨_,e⟩
   | tup xs=>exact fun ⟨_,_,_,o,e,_⟩=>⟨_,e⟩
   | dK kvs=>exact fun ⟨_,_,_,_,o,_,_,e,_⟩=>⟨_,e⟩
   | dT kvs=>exact fun ⟨_,_,_,_,o,_,_,e,_⟩=>⟨_,e⟩
   | set S n=>exact fun ⟨o,_,_,_,e,_⟩=>⟨_,e⟩
   | ins C dx fs=>exact fun ⟨_,_,_,e,_⟩=>⟨_,e⟩
   | own y=>exact fun ⟨_,e⟩=>⟨_,e⟩
   | xd fs=>exact fun ⟨_,⟨_,_,_,e,_⟩,_⟩=>⟨_,e⟩
   | rng lo hi=>exact fun ⟨_,_,_,e⟩=>⟨_,e⟩
   | frz ob u _=>exact fun ⟨e,_⟩=>⟨_,e⟩
   | tbl ps=>exact fun e=>⟨_,e⟩
   | met f y=>exact fun e=>⟨_,e⟩
   | ext φ=>exact fun ⟨_,⟨_,e⟩,_⟩=>⟨_,e⟩
  obtain ⟨o,eo⟩:=this u x
  rw [e] at eo; cases eo
theorem frames_rebase {h base base':Heap}:∀ {l:List Env},(∀ b ∈ frs l,base'.get? b=none)->h.FunFrames base l->h.FunFrames base' l
 | [],_,_=>trivial
 | env :: r,hb,⟨hk,⟨L,o,hf,_,ho,hd⟩,hr⟩=>by
  have e:frs (env :: r)=L :: frs r:=by unfold frs; rw [List.filterMap_cons,hf]
  exact ⟨hk,⟨L,o,hf,hb L (by rw [e]; exact List.mem_cons_self),ho,hd⟩,frames_rebase (fun b h=>hb b (by rw [e]; exact List.mem_cons_of_mem _ h)) hr⟩
section
variable {P:Program} {w:World} {M:Model} {A:Around} {E:Value->Shared->Prop} {s:Shared} {g base:Heap} {H:Hp} {env:Env} {outer:List Env} {L a:Addr} {C fv:Value} {fl:Option Value}
theorem entry_any {oe:Obj} {vs:Array Value} {head a0:Value} {hadNext:Bool} {Q:Unit->Shared->Prop} (hfr:A.frames=some (env :: outer)) (hl:s.heap.FunFrames base (env :: outer)) (hf:env.frame=some L) (hk:∀ b,s.heap.get? b=none->H b=none)
  (gh:∀ b o,g.get? b=some o->∃ o',s.heap.get? b=some o') (lo:g.get? a=none) (un:H a=none) (he:s.heap.get? a=some oe) (hc:oe.cls=C) (hd:oe.data=.fields vs) (hsz:1 < vs.size) (h0:vs[0]? = some a0)
  (h:∀ h',Ch g H (frs (env :: outer)) s.heap h'->ExS g H h' a C (some (rawInt L))->Q () { s with heap:=h' }) :
  wpAny M A (do let x <-frameOf env; let pl <-entryPlaceOf L hadNext; let b <-EntryCells.newEntry head x .none (rawInt L) .none pl; setField (.ref a) 1 b) Q E s:=by
 refine wpAny_entryW (base:=PySem.W.hideAll s.heap (a :: frs (env :: outer))) hfr (frames_rebase (fun b hb=>PySem.W.hideAll_none _ (List.mem_cons_of_mem _ hb)) hl) hf he (fun b o e=>PySem.W.of_hideAll _ e) (PySem.W.hideAll_none _ List.mem_cons_self) hd hsz h0 fun h' ⟨k1,k2,k3,k4⟩=>?_
 obtain ⟨oe',vs',T,oT,ts,e1,⟨e2,e20⟩,e3,e4,e5,e6,e7,e8,e9⟩:=k3
 have sl:∀ b o,b ∈ frs (env :: outer)->s.heap.get? b=some o->∃ sl,h'.get? b=some { o with slots:=sl }:=fun b o hb e=>by
  obtain ⟨_,o',e',nf⟩:=hl.mem hb
  rw [e] at e'; cases e'
  exact k4 b o e nf
 have kp:∀ b o,s.heap.get? b=some o->b ≠ a->b ∉ frs (env :: outer)->h'.get? b=some o:=fun b o e n1 n2=>k1 b o (PySem.W.hideAll_get _ e fun z=>(List.mem_cons.mp z).elim n1 n2)
 have hT:g.get? T=none/\H T=none:=by
  cases q:s.heap.get? T with
  | some o=>
   exfalso
   by_cases hfT:T ∈ frs (env :: outer)
   ·obtain ⟨_,o',e',nf⟩:=hl.mem hfT
    rw [q] at e'; cases e'
    obtain ⟨sl',e''⟩:=sl T o hfT q
    rw [e7] at e''; cases e''
    exact nf ts e8
   ·rw [PySem.W.hideAll_get _ q (fun z=>(List.mem_cons.mp z).elim e6 hfT)] at e5; cases e5
  | none=>
   refine ⟨?_,hk T q⟩
   cases q2:g.get? T with
   | none=>rfl
   | some o=>obtain ⟨o',e'⟩:=gh T o q2; rw [q] at e'; cases e'
 have ch:Ch g H (frs (env :: outer)) s.heap h':=⟨fun b o e q n=>kp b o e (fun z=>?_) n,fun b o hb e=>sl b o hb e,fun b o e=>?_⟩
 ·refine h h' ch ⟨fun b o e=>?_,lo,un,oe',vs',a0,e1,e2.trans hc,e3,e20,.inr ⟨T,oT,ts,_,rfl,e4,hT.1,hT.2,e6,e7,e8,e9⟩⟩
  obtain ⟨o',e'⟩:=gh b o e
  exact ch.there b o' e'
 ·subst z
  rcases q with ⟨o',q⟩ | q
  ·rw [lo] at q; cases q
  ·exact q un
 ·by_cases n2:b ∈ frs (env :: outer)
  ·obtain ⟨sl',e'⟩:=sl b o n2 e; exact ⟨_,e'⟩
  ·by_cases n1:b=a
   ·subst n1; exact ⟨_,e1⟩
   ·exact ⟨o,kp b o e n1 n2⟩
theorem frames_update {h:Heap} {l:List Env} {T:Addr} {oT:Obj} {ts:Array Value} {f:Obj->Obj} (hl:h.FunFrames base l) (hT:h.get? T=some oT) (hd:oT.data=.fields ts):(h.update T f).FunFrames base l:=
 hl.of_keeps fun b o hb nf=>⟨o,by rw [Heap.get?_update_other _ _ (fun z=>nf ts (by subst z; rw [hT] at hb; cases hb; exact hd))]; exact hb,rfl⟩
theorem ch_update {h:Heap} {fs:List Addr} {T:Addr} {oT:Obj} {ts:Array Value} {f:Array Value->Array Value} (hT:h.get? T=some oT) (hd:oT.data=.fields ts) (hg:g.get? T=none) (hH:H T=none) (hfs:T ∉ fs):Ch g H fs h (h.update T (Obj.mapFields f)):=by
 have self:(h.update T (Obj.mapFields f)).get? T=some (oT.mapFields f):=Heap.get?_update_self _ hT (Obj.isFreed_of_fields (Obj.data_mapFields hd f))
 refine ⟨fun b o e q n=>?_,fun b o m e=>⟨o.slots,?_⟩,fun b o e=>?_⟩
 ·rw [Heap.get?_update_other _ _ (fun z=>?_)]
  ·exact e
  ·subst z
   rcases q with ⟨o',q⟩ | q
   ·rw [hg] at q; cases q
   ·exact q hH
 ·rw [Heap.get?_update_other _ _ (fun z=>hfs (by rw [z]; exact m))]; exact e
 ·by_cases z:b=T
  ·subst z; exact ⟨_,self⟩
  ·exact ⟨o,by rw [Heap.get?_update_other _ _ (Ne.symm z)]; exact e⟩
theorem note_any {Q:Unit->Shared->Prop} (hfr:A.frames=some (env :: outer)) (hl:s.heap.FunFrames base (env :: outer)) (hf:env.frame=some L) (hk:∀ b,s.heap.get? b=none->H b=none) (x:ExS g H s.heap a C fl)
  (h:∀ h',Ch g H (frs (env :: outer)) s.heap h'->ExS g H h' a C (some (rawInt L))->Q () { s with heap:=h' }):wpAny M A (noteFrame (.ref a) env) Q E s:=by
 obtain ⟨gh,lo,un,oe,vs,a0,he,hc,hd,h0,hx⟩:=x
 unfold noteFrame
 simp only [hf]
 rcases hx with ⟨_,h1⟩ | ⟨T,oT,ts,f,_,h1,hgT,hHT,hTa,hT,hdT,h3⟩
 ·refine wpAny_bind (wpAny_field he hd h1 ?_)
  rw [if_neg (by decide)]
  exact entry_any hfr hl hf hk gh lo un he hc hd (Array.getElem?_eq_some_iff.mp h1).1 h0 h
 ·refine wpAny_bind (wpAny_field he hd h1 ?_)
  rw [if_pos (show (Value.ref T != Value.none)=true from by simp)]
  refine wpAny_bind (wpAny_field hT hdT h3 ?_)
  by_cases hfl:(f == rawInt L)=true
  ·rw [if_pos hfl]
   have e:f=rawInt L:=by simpa using hfl
   subst e
   exact wpAny_pure (h s.heap .refl ⟨gh,lo,un,oe,vs,a0,he,hc,hd,h0,.inr ⟨T,oT,ts,_,rfl,h1,hgT,hHT,hTa,hT,hdT,h3⟩⟩)
  ·rw [if_neg hfl]
   refine wpAny_bind (wpAny_setField hT hdT (Array.getElem?_eq_some_iff.mp h3).1 ?_)
   have hTf:T ∉ frs (env :: outer):=fun z=>by
    obtain ⟨_,o',e',nf⟩:=hl.mem z
    rw [hT] at e'; cases e'; exact nf ts hdT
   have c1:=ch_update (g:=g) (H:=H) (f:=(·.setIfInBounds 3 Value.none)) hT hdT hgT hHT hTf
   refine entry_any (s:={ s with heap:=s.heap.update T (Obj.mapFields (·.setIfInBounds 3 Value.none)) }) hfr (frames_update hl hT hdT) hf (fun b e=>?_) (fun b o e=>?_) lo un ?_ hc hd (Array.getElem?_eq_some_iff.mp h1).1 h0 fun h' ch ex=>h h' (c1.trans ch) ex
   ·refine hk b ?_
    cases q:s.heap.get? b with
    | none=>rfl
    | some o=>obtain ⟨o',e'⟩:=c1.there b o q; rw [show ({ s with heap:=s.heap.update T (Obj.mapFields (·.setIfInBounds 3 Value.none)) }:Shared).heap=s.heap.update T (Obj.mapFields (·.setIfInBounds 3 Value.none)) from rfl] at e; rw [e] at e'; cases e'
   ·obtain ⟨o',e'⟩:=gh b o e
    exact c1.there b o' e'
   ·show (s.heap.update T _).get? a=some oe
    rw [Heap.get?_update_other _ _ hTa]; exact he
theorem flight_any {Q:Unit->Shared->Prop} {fs:List Addr} (fr:Option Addr) (hfs:∀ b ∈ fs,∃ o,s.heap.get? b=some o/\∀ vs,o.data ≠ .fields vs) (x:ExS g H s.heap a C (some fv))
  (h:∀ h',Ch g H fs s.heap h'->ExS g H h' a C (some (fr.elim Value.none fun f=>rawInt f))->Q () { s with heap:=h' }):wpAny M A (setFlight (.ref a) fr) Q E s:=by
 obtain ⟨gh,lo,un,oe,vs,a0,he,hc,hd,h0,hx⟩:=x
 rcases hx with ⟨z,_⟩ | ⟨T,oT,ts,f,_,h1,hgT,hHT,hTa,hT,hdT,h3⟩
 ·cases z
 ·unfold setFlight
  refine wpAny_bind (wpAny_field he hd h1 ?_)
  rw [if_pos (show (Value.ref T != Value.none)=true from by simp)]
  have hTf:T ∉ fs:=fun z=>by obtain ⟨o,e1,e2⟩:=hfs T z; rw [hT] at e1; cases e1; exact e2 ts hdT
  have hsz:=(Array.getElem?_eq_some_iff.mp h3).1
  have c1:=ch_update (g:=g) (H:=H) (f:=(·.setIfInBounds 3 (fr.elim Value.none fun f=>rawInt f))) hT hdT hgT hHT hTf
  refine wpAny_setField hT hdT hsz (h _ c1 ⟨fun b o e=>?_,lo,un,oe,vs,a0,?_,hc,hd,h0,.inr ⟨T,_,_,_,rfl,h1,hgT,hHT,hTa,Heap.get?_update_self _ hT (Obj.isFreed_of_fields (Obj.data_mapFields hdT _)),Obj.data_mapFields hdT _,?_⟩⟩)
  ·obtain ⟨o',e'⟩:=gh b o e
   exact c1.there b o' e'
  ·rw [Heap.get?_update_other _ _ hTa]; exact he
  ·simp [hsz]
theorem frames_some {h:Heap} {l:List Env} (hl:h.FunFrames base l):∀ b ∈ frs l,∃ o,h.get? b=some o/\∀ vs,o.data ≠ .fields vs:=fun b hb=>let ⟨_,o,e,n⟩:=hl.mem hb; ⟨o,e,n⟩
theorem Ch.frames {fs:List Addr} {h h':Heap} {l:List Env} (c:Ch g H fs h h') (hs:∀ b ∈ frs l,b ∈ fs) (hl:h.FunFrames base l):h'.FunFrames base l:=by
 induction l with
 | nil=>trivial
 | cons env r ih=>
  obtain ⟨hk,⟨L,o,hf,hn,ho,hd⟩,hr⟩:=hl
  have e:frs (env :: r)=L :: frs r:=by unfold frs; rw [List.filterMap_cons,hf]
  obtain ⟨sl,e'⟩:=c.slot L o (hs L (by rw [e]; exact List.mem_cons_self)) ho
  exact ⟨hk,⟨L,_,hf,hn,e',hd⟩,ih (fun b hb=>hs b (by rw [e]; exact List.mem_cons_of_mem _ hb)) hr⟩
theorem leave_any {Q:Unit->Shared->Prop} (hfr:A.frames=some (env :: outer)) (hl:s.heap.FunFrames base (env :: outer)) (hf:env.frame=some L) (hk:∀ b,s.heap.get? b=none->H b=none) (x:ExS g H s.heap a C fl)
  (h:∀ h',Ch g H (frs (env :: outer)) s.heap h'->ExS g H h' a C (some .none)->Q () { s with heap:=h' }):wpAny M A (leaving env (.ref a)) Q E s:=by
 unfold leaving
 refine wpAny_bind (note_any hfr hl hf hk x fun h1 c1 x1=>?_)
 refine flight_any (s:={ s with heap:=h1 }) (fs:=frs (env :: outer)) none (frames_some (c1.frames (fun _ h=>h) hl)) x1 fun h2 c2 x2=>h h2 (c1.trans c2) x2
end
end L2.L3
namespace L2.L3
open PySem PySem.Spec PyProof.Rows
structure Cov (X:Cx) (pins:List (Addr × Obj)) (g:Heap):Prop where
 s0:∀ b o,X.s₀.heap.get? b=some o->b ∉ X.ex->∃ o',g.get? b=some o'
 loc:∃ o,g.get? X.env.locals=some o
 cell:∀ x c,X.env.cells.lookup x=some c->∃ o,g.get? c=some o
 pin:∀ p ∈ X.pn ++ pins,∃ o,g.get? p.1=some o
section
variable {X:Cx} {pins:List (Addr × Obj)} {σ:St} {H:Hp} {s:Shared} {g h':Heap}
theorem _root_.L2.Inv.cov (I:Inv X pins σ H s):Cov X pins s.heap:=by
 refine ⟨fun b o e n=>I.base.there b o e n,?_,fun x c e=>?_,fun p hp=>⟨_,(I.pin p hp).1⟩⟩
 ·obtain ⟨m,⟨o,es,ep,ho,_⟩,_⟩:=I.loc; exact ⟨o,ho⟩
 ·obtain ⟨v,o,ho,_⟩:=I.cell x c e; exact ⟨o,ho⟩
theorem _root_.L2.Inv.stkIn (I:Inv X pins σ H s) {b:Addr} (h:b ∉ frs X.stack):b ∉ X.fs:=by
 rcases I.ok.stk with e | ⟨e,hf⟩
 ·rw [e] at h; exact h
 ·rw [e] at h; unfold frs at h; rw [List.filterMap_cons,hf] at h; exact fun z=>h (List.mem_cons_of_mem _ z)
theorem _root_.L2.Inv.stkOut (I:Inv X pins σ H s) {b:Addr} (h:b ∉ X.fs) (h2:b ≠ X.env.locals):b ∉ frs X.stack:=fun z=>(List.mem_cons.mp (I.stkSub b z)).elim h2 h
theorem ns_slots {h h':Heap} {a:Addr} {m:Str->Option Value} (k:∀ o,h.get? a=some o->∃ sl,h'.get? a=some { o with slots:=sl }) (hn:h.Ns a m):h'.Ns a m:=by
 obtain ⟨o,es,ep,ho,hd,r⟩:=hn
 obtain ⟨sl,hs⟩:=k o ho
 exact ⟨_,es,ep,hs,hd,r⟩
theorem _root_.L2.Inv.ch (I:Inv X pins σ H s) (cv:Cov X pins g) (c:Ch g H (frs X.stack) s.heap h'):Inv X pins σ H { s with heap:=h' }:=by
 have ht:∀ b o,s.heap.get? b=some o->H b ≠ none->h'.get? b=some o:=fun b o e n=>c.keep b o e (.inr n) fun z=>n (I.stkFree b z)
 have ck:∀ x cc,X.env.cells.lookup x=some cc->∀ o,s.heap.get? cc=some o->∃ o',h'.get? cc=some o'/\o'.data=o.data:=fun x cc e o ho=>by
  by_cases hs:cc ∈ frs X.stack
  ·obtain ⟨sl,e1⟩:=c.slot cc o hs ho; exact ⟨_,e1,rfl⟩
  ·exact ⟨o,c.keep cc o ho (.inl (cv.cell x cc e)) hs,rfl⟩
 refine ⟨I.ok,I.os,I.bare,⟨fun b o e n hf hx=>?_,fun b o e n hf hx=>?_,fun b o e n hx=>I.base.free b o e n hx,fun b o e hx=>?_,I.base.tups,I.base.frzs,I.base.tbls⟩,?_,fun x cc e=>?_,I.free,I.freeC,fun p hp=>?_,fun b u e=>?_,I.len⟩
 ·have e1:=I.base.keep b o e n hf hx
  refine c.keep b o e1 (.inl (cv.s0 b o e hx)) (I.stkOut hf fun z=>?_)
  have h1:=I.ok.above
  have h2:b < X.s₀.heap.objs.size:=Heap.lt_size e
  rw [z] at h2
  exact Nat.lt_irrefl _ (Nat.lt_of_lt_of_le h2 h1)
 ·obtain ⟨sl,e1⟩:=I.base.slot b o e n hf hx
  by_cases hs:b ∈ frs X.stack
  ·obtain ⟨sl',e2⟩:=c.slot b _ hs e1; exact ⟨sl',e2⟩
  ·exact absurd hf (I.stkIn hs)
 ·obtain ⟨o1,e1⟩:=I.base.there b o e hx
  exact c.there b o1 e1
 ·obtain ⟨m,hn,hl⟩:=I.loc
  refine ⟨m,ns_slots (fun o ho=>?_) hn,fun i x v h1 h2 h3=>?_⟩
  ·by_cases hs:X.env.locals ∈ frs X.stack
   ·exact c.slot _ o hs ho
   ·exact ⟨o.slots,c.keep _ o ho (.inl cv.loc) hs⟩
  ·obtain ⟨u,r,l⟩:=hl i x v h1 h2 h3
   refine ⟨u,r,?_⟩
   rcases l with l | ⟨k,cc,e,o,ho,hd⟩
   ·exact .inl l
   ·obtain ⟨o',h1,h2⟩:=ck x cc e o ho
    exact .inr ⟨k,cc,e,o',h1,h2.trans hd⟩
 ·obtain ⟨v,o,ho,hd⟩:=I.cell x cc e
  obtain ⟨o',h1,h2⟩:=ck x cc e o ho
  exact ⟨v,o',h1,h2.trans hd⟩
 ·obtain ⟨h1,h2,h3,h4,h5⟩:=I.pin p hp
  exact ⟨c.keep _ _ h1 (.inl (cv.pin p hp)) (I.stkOut h4 h3),h2,h3,h4,h5⟩
 ·refine (I.hok b u e).stay (fun d v hd q=>ht d v q ?_) (fun _ q=>q) fun _ _ q=>q
  rcases hd with rfl | hd
  ·rw [e]; exact fun z=>by cases z
  ·rw [hd]; exact fun z=>by cases z
noncomputable def CXM (P:Program) (w:World):CXT:=fun outer H s E e s'=>∃ a C H',e=.ref a/\s'.os=s.os/\AllBare s'.gens/\Un (frs outer) [] H H' s.heap s'.heap/\HOk P w H' s'.heap/\ExS s.heap H' s'.heap a C (some .none)/\E C none H'
structure Fly (X:Cx) (pins:List (Addr × Obj)) (σ:St) (H:Hp) (s:Shared) (e:Value) (c:Str):Prop where
 inv:Inv X pins σ H s
 ex:∃ a C g fl,e=.ref a/\Cov X pins g/\ExS g H s.heap a C fl/\X.mg c=some C
noncomputable def glob (x:Str):Option PyData:=if x = "ANY_ZONE" then some (.tuple [.int 0,.tuple []]) else if x = "NO_DEEDS" then some (.tuple []) else none
noncomputable def isT:HO->Bool
 | .tup _=>true
 | .frz _ (.tup _)=>true
 | _=>false
theorem isT_nm {u:HO} (h:isT u=true):¬ Mv u:=fun m=>by
 cases u with
 | tup _=>exact m
 | frz _ _=>exact m
 | _=>cases h
noncomputable def tupH (H:Hp):Hp:=fun b=>match H b with
 | some u=>if isT u=true then some u else none
 | none=>none
theorem tup_at {H:Hp} {b:Addr} {o:HO} (h:tupH H b=some o):isT o=true/\H b=some o:=by
 unfold tupH at h
 split at h
 ·rename_i u e
  split at h
  ·rename_i t; cases h; exact ⟨t,e⟩
  ·cases h
 ·cases h
theorem at_tup {H:Hp} {b:Addr} {u:HO} (t:isT u=true) (h:H b=some u):tupH H b=some u:=by unfold tupH; rw [h]; exact if_pos t
noncomputable def GH (mg:Str->Option Value) (H:Hp):Prop:=∀ x d u,glob x=some d->mg x=some u->∃ v,RelV v u/\DV (tupH H) v d
noncomputable def GF (mg:Str->Option Value) (F:Fx):Prop:=GH mg fun b=>if b ∈ F.A₀ then none else F.H₀ b
theorem GH.mono {mg:Str->Option Value} {H H':Hp} (g:GH mg H) (k:∀ b u,isT u=true->H b=some u->H' b=some u):GH mg H':=fun x d u h1 h2=>by
 obtain ⟨v,r,dv⟩:=g x d u h1 h2
 exact ⟨v,r,DV.mono (fun b o e=>by obtain ⟨t,e1⟩:=tup_at e; exact at_tup t (k b o t e1)) dv⟩
theorem GF.at {mg:Str->Option Value} {K:PySem.W.Frag} {F:Fx} {H:Hp} {σ:St} {ρ:DEnv} {O:List Addr} (g:GF mg F) (st:DSt K F H σ ρ O):GH mg H:=GH.mono g fun b xs t e=>by
 obtain ⟨W,st,rfl⟩:=st
 split at e
 ·cases e
 ·rename_i hn; exact st.kept b _ hn e
theorem GH.frame {mg:Str->Option Value} {H:Hp} {A O:List Addr} {io:Nat->Addr} (g:GH mg H) (h:∀ a ∈ A,∃ o,H a=some o/\Mv o):GF mg ⟨H,A,O,io⟩:=GH.mono g fun b xs t e=>by
 show (if b ∈ A then none else H b)=_
 rw [if_neg,e]
 intro z
 obtain ⟨o,e1,m⟩:=h b z
 rw [e] at e1
 cases e1
 exact isT_nm t m
theorem GF.into {mg:Str->Option Value} {K:PySem.W.Frag} {F:Fx} {H:Hp} {σ:St} {ρ:DEnv} {O O':List Addr} {io:Nat->Addr} (g:GF mg F) (st:DSt K F H σ ρ O):GF mg ⟨H,[],O',io⟩:=(g.at st).frame fun a h=>by cases h
noncomputable def XOk (X:Cx) (F:Fx) (E:Str->DEnv->Prop):Prop:=GF X.mg F/\∀ (pins:List (Addr × Obj)) (σ:St) (H:Hp) (s:Shared) (e:Value) (c:Str) (ρ:DEnv) (O:List Addr),Fly X pins σ H s e c->DSt X.K F H σ ρ O->E c ρ->X.xe e s
theorem ExS.weak {g g':Heap} {H:Hp} {h:Heap} {a:Addr} {C:Value} {fl:Option Value} (x:ExS g H h a C fl) (k:∀ b o,g'.get? b=some o->∃ o',g.get? b=some o'):ExS g' H h a C fl:=by
 have nn:∀ b,g.get? b=none->g'.get? b=none:=fun b e=>by
  cases q:g'.get? b with
  | none=>rfl
  | some o=>obtain ⟨o',e'⟩:=k b o q; rw [e] at e'; cases e'
 obtain ⟨gh,lo,un,oe,vs,a0,he,hc,hd,h0,hx⟩:=x
 refine ⟨fun b o e=>let ⟨o',e'⟩:=k b o e; gh b o' e',nn a lo,un,oe,vs,a0,he,hc,hd,h0,hx.imp id ?_⟩
 rintro ⟨T,oT,ts,f,h1,h2,h3,h4⟩
 exact ⟨T,oT,ts,f,h1,h2,nn T h3,h4⟩
theorem _root_.L2.Inv.flies {E:XK} {e:Value} {s':Shared} (I:Inv X pins σ H s) (h:CXM X.prog X.w X.stack H s E e s'):∃ a C H',e=.ref a/\Inv X pins σ H' s'/\Cov X pins s.heap/\ExS s.heap H' s'.heap a C (some .none)/\E C none H':=by
 obtain ⟨a,C,H',e1,os,bare,un,hok,ex,q⟩:=h
 obtain ⟨hh,g,d,t,os'⟩:=s'
 obtain rfl:os' = s.os:=os
 exact ⟨a,C,H',e1,I.call (h':=hh) (g':=g) (d':=d) (t':=t) (ch:=[]) un hok bare (fun b z=>absurd z (by simp)),I.cov,ex,q⟩
end
theorem xok_fn {P:Program} {w:World} {K:PySem.W.Frag} {mg:Str->Option Value} {base:Heap} {N:List Str} {qual:Str} {scope:Scope} {f:Addr} {cd:Value} {A:Around} {outer:List Env} {s:Shared} {H:Hp} {E:XK} {F:Fx} {E':Str->DEnv->Prop}
  (hG:GF mg F) (hE:∀ c C ρ' σ' H' O',mg c=some C->DSt K F H' σ' ρ' O'->E' c ρ'->E C none H'):XOk (cxOf (CXM P w) P w K mg base N qual scope f cd A outer s H E) F E':=by
 refine ⟨hG,?_⟩
 intro pins σ H1 s1 e c ρ O ⟨I,a,C,g,fl,e1,cv,ex,hm⟩ st q
 subst e1
 have fr:(A.deeper (envOfC qual scope s.heap.objs.size f cd)).frames=some (envOfC qual scope s.heap.objs.size f cd :: outer):=I.ok.frames
 have hb:∀ b,s1.heap.get? b=none->H1 b=none:=fun b z=>HOk.some_of I.hok z
 have stk:frs (envOfC qual scope s.heap.objs.size f cd :: outer)=s.heap.objs.size :: frs outer:=rfl
 refine leave_any (base:=base) fr I.stack rfl hb ex fun h' ch ex'=>?_
 have J:=I.ch cv ch
 refine ⟨a,C,H1,rfl,J.os,J.bare,J.base,J.hok,ex'.weak fun b o eb=>cv.s0 b o eb (by intro z; cases z),hE c C ρ σ H1 O hm st q⟩
end L2.L3
namespace L2.L3
open PySem PySem.Spec PyProof.Rows
noncomputable def Fx.plus (F:Fx) (fp:List Addr):Fx:={ F with O₀:=fp ++ F.O₀ }
theorem Fx.plus_plus {F:Fx} {l m:List Addr}:(F.plus l).plus m=F.plus (m ++ l):=by unfold Fx.plus; simp
section
variable {K:PySem.W.Frag} {F:Fx} {H H':Hp} {σ:St} {ρ:DEnv} {O O':List Addr} {W:List (List Addr)} {fp:List Addr} {v:V} {c:Cell}
structure Res (K:PySem.W.Frag) (F:Fx) (H:Hp) (σ:St) (ρ:DEnv) (O:List Addr) (v:V) (c:Cell) (fp:List Addr):Prop where
 st:DSt K (F.plus fp) H σ ρ O
 at_:CellAt K H O v c fp
 new:∀ a ∈ fp,a ∈ F.A₀\/F.H₀ a=none
theorem stp_less (h:∀ a ∈ O',a ∈ O):Stp O H O' H:=⟨fun _ _ _ e=>e,fun a z=>.inl (h a z)⟩
theorem DStW.less {F':Fx} (st:DStW K F H σ ρ W) (h1:F'.H₀=F.H₀) (h2:F'.A₀=F.A₀) (h4:F'.I₀=F.I₀) (h3:F'.O₀.Sublist F.O₀):DStW K F' H σ ρ W:=by
 have sub:(W.flatten ++ F'.O₀).Sublist (W.flatten ++ F.O₀):=List.Sublist.append (List.Sublist.refl _) h3
 have mem:∀ a ∈ W.flatten ++ F'.O₀,a ∈ W.flatten ++ F.O₀:=fun a h=>sub.subset h
 refine ⟨fun i c e=>?_,st.nd.sublist sub,by rw [h1,h2]; exact st.kept,by rw [h1,h2]; exact st.new,fun a h=>st.live a (mem a h),st.len,st.lw,by rw [h4]; exact st.io⟩
 obtain ⟨v,fp,e1,e2,e3⟩:=st.at_ i c e
 exact ⟨v,fp,e1,e2,e3.keep (stp_less mem) (fun _ _=>rfl) (fun _ _ _ e=>e)⟩
theorem DSt.unplus (st:DSt K (F.plus fp) H σ ρ O):∃ O',DSt K F H σ ρ O'/\Stp O H O' H/\(∀ a ∈ fp,a ∉ O'):=by
 obtain ⟨W,st,rfl⟩:=st
 have st':DStW K F H σ ρ W:=st.less rfl rfl rfl (List.sublist_append_right _ _)
 refine ⟨_,⟨W,st',rfl⟩,stp_less fun a h=>?_,fun a ha z=>?_⟩
 ·rcases List.mem_append.mp h with h | h
  ·exact List.mem_append_left _ h
  ·exact List.mem_append_right _ (List.mem_append_right _ h)
 ·have nd:(W.flatten ++ (fp ++ F.O₀)).Nodup:=st.nd
  obtain ⟨_,n2,n3⟩:=List.nodup_append.mp nd
  rcases List.mem_append.mp z with z | z
  ·exact n3 a z a (List.mem_append_left _ ha) rfl
  ·exact (List.nodup_append.mp n2).2.2 a ha a z rfl
theorem Res.drop (r:Res K F H σ ρ O v c fp):∃ O',DSt K F H σ ρ O'/\Stp O H O' H:=let ⟨O',h1,h2,_⟩:=r.st.unplus; ⟨O',h1,h2⟩
@[simp] noncomputable def frz:Cell->Option PyData
 | .dat d=>some d
 | .own _ (.l ds)=>some (.list ds)
 | _=>none
theorem Res.frz {d:PyData} (r:Res K F H σ ρ O v c fp) (e:frz c=some d):∃ O',DSt K F H σ ρ O'/\Stp O H O' H/\DV (hide O' H) v d:=by
 obtain ⟨O',h1,h2,h3⟩:=r.st.unplus
 refine ⟨O',h1,h2,?_⟩
 have ra:=r.at_
 cases c with
 | dat x=>cases e; exact DV.mono h2.hid ra
 | scr ns=>cases e
 | exc c=>cases e
 | vw c=>cases e
 | own io b=>
  cases b with
  | l ds=>
   cases e
   obtain ⟨a,rfl,rfl,xs,e1,e2⟩:=ra
   exact .lst (hide_of e1 (h3 a (by simp))) (DVs.mono h2.hid e2)
  | m _ _=>cases e
  | o _ _=>cases e
  | sd _=>cases e
  | ll _=>cases e
  | pr _ _ _=>cases e
theorem res_dat (st:DSt K F H σ ρ O) {d:PyData} (h:DV (hide O H) v d):Res K F H σ ρ O v (.dat d) []:=⟨st,h,fun a h=>by cases h⟩
theorem DSt.put1 {io:Bool} (st:DSt K (F.plus fp) H σ ρ O) (hc:CellAt K H O v c fp) (new:∀ a ∈ fp,a ∈ F.A₀\/F.H₀ a=none) {i:Nat} (hi:i < ρ.length) (hio:∀ b,c=.own true b->v=.ref (F.I₀ i)) :
  ∃ O',DSt K F H (σ.set i (some v)) (ρ.set i (some c)) O'/\Stp O H O' H:=by
 obtain ⟨W,st,rfl⟩:=st
 have nd:(W.flatten ++ (fp ++ F.O₀)).Nodup:=st.nd
 obtain ⟨n1,n2,n3⟩:=List.nodup_append.mp nd
 obtain ⟨n4,n5,n6⟩:=List.nodup_append.mp n2
 have hiW:i < W.length:=by rw [st.lw]; exact hi
 have sub:∀ a ∈ (W.set i fp).flatten ++ F.O₀,a ∈ W.flatten ++ (fp ++ F.O₀):=fun a h=>by
  rcases List.mem_append.mp h with h | h
  ·rcases mem_flat_set h with h | ⟨j,l,_,e,hl⟩
   ·exact List.mem_append_right _ (List.mem_append_left _ h)
   ·exact List.mem_append_left _ (mem_flat_of e hl)
  ·exact List.mem_append_right _ (List.mem_append_right _ h)
 have stp:=stp_less (H:=H) sub
 refine ⟨_,⟨W.set i fp,⟨fun j d e=>?_,nodup_set (List.nodup_append.mpr ⟨n1,n5,fun a ha b hb=>n3 a ha b (List.mem_append_right _ hb)⟩) n4 fun a ha=>⟨fun j l _ e z=>n3 a (mem_flat_of e z) a (List.mem_append_left _ ha) rfl,fun z=>n6 a ha a z rfl⟩,st.kept,fun a h=>?_,fun a h=>st.live a (sub a h),by rw [List.length_set,List.length_set,st.len],by rw [List.length_set,List.length_set,st.lw],fun j b e=>?_⟩,rfl⟩,stp⟩
 ·rcases get_set e with ⟨rfl,e1,_⟩ | ⟨hj,e1⟩
  ·cases e1
   exact ⟨v,fp,List.getElem?_set_self (by rw [<-st.len]; exact hi),List.getElem?_set_self hiW,hc.keep stp (fun _ _=>rfl) (fun _ _ _ e=>e)⟩
  ·obtain ⟨w,l,h1,h2,h3⟩:=st.at_ j d e1
   exact ⟨w,l,by rw [List.getElem?_set_ne (Ne.symm hj)]; exact h1,by rw [List.getElem?_set_ne (Ne.symm hj)]; exact h2,h3.keep stp (fun _ _=>rfl) (fun _ _ _ e=>e)⟩
 ·rcases mem_flat_set h with h | ⟨j,l,_,e,hl⟩
  ·exact new a h
  ·exact st.new a (mem_flat_of e hl)
 ·rcases get_set e with ⟨rfl,e1,_⟩ | ⟨hj,e1⟩
  ·rw [List.getElem?_set_self (by rw [<-st.len]; exact hi),hio b (Option.some.inj e1).symm]
  ·rw [List.getElem?_set_ne (Ne.symm hj)]; exact st.io j b e1
theorem DSt.take (st:DSt K F H σ ρ O) {i:Nat} {io:Bool} {b:Bx} (e:ρ[i]? = some (some (.own io b))):∃ a fp O',σ[i]? = some (some (.ref a))/\DSt K (F.plus fp) H σ (ρ.set i none) O'/\BoxAt (hide O' H) H a b fp/\Stp O H O' H/\Stp O' H O H/\(∀ a ∈ fp,a ∈ F.A₀\/F.H₀ a=none)/\(io=true->a=F.I₀ i):=by
 obtain ⟨W,st,rfl⟩:=st
 obtain ⟨v,fp,h1,h2,a,rfl,h3⟩:=st.at_ i _ e
 have hi:i < ρ.length:=(List.getElem?_eq_some_iff.mp e).1
 have hiW:i < W.length:=by rw [st.lw]; exact hi
 obtain ⟨n1,n2,n3⟩:=List.nodup_append.mp st.nd
 have s1:∀ x ∈ (W.set i []).flatten ++ (fp ++ F.O₀),x ∈ W.flatten ++ F.O₀:=fun x h=>by
  rcases List.mem_append.mp h with h | h
  ·rcases mem_flat_set h with h | ⟨j,l,_,ej,hl⟩
   ·cases h
   ·exact List.mem_append_left _ (mem_flat_of ej hl)
  ·rcases List.mem_append.mp h with h | h
   ·exact List.mem_append_left _ (mem_flat_of h2 h)
   ·exact List.mem_append_right _ h
 have s2:∀ x ∈ W.flatten ++ F.O₀,x ∈ (W.set i []).flatten ++ (fp ++ F.O₀):=fun x h=>by
  rcases List.mem_append.mp h with h | h
  ·obtain ⟨l,hl,hx⟩:=List.mem_flatten.mp h
   obtain ⟨j,hj⟩:=List.getElem?_of_mem hl
   by_cases hji:j=i
   ·subst hji; rw [h2] at hj; cases hj; exact List.mem_append_right _ (List.mem_append_left _ hx)
   ·exact List.mem_append_left _ (flat_set_mem hji hj hx)
  ·exact List.mem_append_right _ (List.mem_append_right _ h)
 have nfp:fp.Nodup:=by
  have:∀ {W:List (List Addr)} {i:Nat} {l:List Addr},W.flatten.Nodup->W[i]? = some l->l.Nodup:=fun {W i l} nd hl=>nd.sublist (by
   have:=List.mem_of_getElem? hl
   exact List.sublist_flatten_of_mem this)
  exact this n1 h2
 have nd':((W.set i []).flatten ++ (fp ++ F.O₀)).Nodup:=by
  have q:((W.set i []).flatten ++ ([] ++ F.O₀)).Nodup:=nodup_set (fp:=[]) (O:=F.O₀) st.nd List.nodup_nil (fun a h=>by cases h)
  obtain ⟨q1,_,q3⟩:=List.nodup_append.mp q
  refine List.nodup_append.mpr ⟨q1,List.nodup_append.mpr ⟨nfp,n2,fun x hx y hy z=>n3 x (mem_flat_of h2 hx) y hy z⟩,fun x hx y hy z=>?_⟩
  subst z
  rcases List.mem_append.mp hy with hy | hy
  ·rcases mem_flat_set hx with hx | ⟨j,l,hj,ej,hl⟩
   ·cases hx
   ·exact flat_disj n1 h2 ej (Ne.symm hj) hy hl
  ·exact q3 x hx x hy rfl
 have stp:=stp_less (H:=H) s1
 have k:=stp_less (H:=H) s2
 refine ⟨a,fp,_,h1,⟨W.set i [],⟨fun j d ej=>?_,nd',st.kept,fun x h=>?_,fun x h=>st.live x (s1 x h),by rw [List.length_set,st.len],by rw [List.length_set,List.length_set,st.lw],fun j b' ej=>?_⟩,rfl⟩,h3.keep (fun _ _=>rfl) stp.hid,stp,k,fun x hx=>st.new x (mem_flat_of h2 hx),fun hio=>?_⟩
 ·rcases get_set ej with ⟨rfl,e1,_⟩ | ⟨hj,e1⟩
  ·cases e1
  ·obtain ⟨w,l,q1,q2,q3⟩:=st.at_ j d e1
   exact ⟨w,l,q1,by rw [List.getElem?_set_ne (Ne.symm hj)]; exact q2,q3.keep stp (fun _ _=>rfl) (fun _ _ _ e=>e)⟩
 ·rcases mem_flat_set h with h | ⟨j,l,_,ej,hl⟩
  ·cases h
  ·exact st.new x (mem_flat_of ej hl)
 ·rcases get_set ej with ⟨rfl,e1,_⟩ | ⟨hj,e1⟩
  ·cases e1
  ·exact st.io j b' e1
 ·subst hio
  have:=st.io i b e
  rw [h1] at this
  cases this; rfl
theorem DSt.swap {L L':List Addr} (st:DSt K (F.plus L) H σ ρ O) (keep:∀ b o,b ∉ L->H b=some o->H' b=some o) (nd:L'.Nodup) (new:∀ a ∈ L',a ∈ L\/H a=none) (hA:∀ a ∈ L,a ∈ F.A₀\/F.H₀ a=none) (liv:∀ a ∈ L',∃ o,H' a=some o/\Mv o) :
  ∃ O',DSt K (F.plus L') H' σ ρ O'/\Stp O H O' H'/\(∀ a ∈ L',a ∈ O')/\(∀ a ∈ O',a ∈ L'\/a ∈ O/\a ∉ L)/\∀ a ∈ O,a ∉ L->a ∈ O':=by
 obtain ⟨W,st,rfl⟩:=st
 have ndO:(W.flatten ++ (L ++ F.O₀)).Nodup:=st.nd
 obtain ⟨n1,n2,n3⟩:=List.nodup_append.mp ndO
 obtain ⟨n4,n5,n6⟩:=List.nodup_append.mp n2
 have wl:∀ a ∈ W.flatten,a ∉ L:=fun a h z=>n3 a h a (List.mem_append_left _ z) rfl
 have ol:∀ a ∈ F.O₀,a ∉ L:=fun a h z=>n6 a z a h rfl
 have lv:∀ a ∈ W.flatten ++ F.O₀,∃ o,H a=some o/\Mv o:=fun a h=>st.live a (by
  rcases List.mem_append.mp h with h | h
  ·exact List.mem_append_left _ h
  ·exact List.mem_append_right _ (List.mem_append_right _ h))
 have kp:∀ a ∈ W.flatten ++ F.O₀,H' a=H a:=fun a h=>by
  obtain ⟨o,e,_⟩:=lv a h
  rw [e]
  exact keep a o ((List.mem_append.mp h).elim (wl a) (ol a)) e
 have ap:∀ a ∈ L',a ∉ W.flatten ++ F.O₀:=fun a h z=>by
  rcases new a h with q | q
  ·rcases List.mem_append.mp z with z | z
   ·exact wl a z q
   ·exact ol a z q
  ·obtain ⟨o,e,_⟩:=lv a z; rw [q] at e; cases e
 have stp:Stp (W.flatten ++ (L ++ F.O₀)) H (W.flatten ++ (L' ++ F.O₀)) H':=⟨fun b o hb e=>keep b o (fun z=>hb (List.mem_append_right _ (List.mem_append_left _ z))) e,fun a h=>by
  rcases List.mem_append.mp h with h | h
  ·exact .inl (List.mem_append_left _ h)
  ·rcases List.mem_append.mp h with h | h
   ·exact (new a h).imp (fun z=>List.mem_append_right _ (List.mem_append_left _ z)) id
   ·exact .inl (List.mem_append_right _ (List.mem_append_right _ h))⟩
 have zf:∀ b o u,H b=some (.frz o u)->H' b=some (.frz o u):=fun b o u e=>keep b _ (fun z=>st.nofrz (List.mem_append_right _ (List.mem_append_left _ z)) e) e
 refine ⟨_,⟨W,⟨fun i c e=>?_,?_,fun b o hb e=>?_,st.new,fun a h=>?_,st.len,st.lw,st.io⟩,rfl⟩,stp,fun a h=>List.mem_append_right _ (List.mem_append_left _ h),fun a h=>?_,fun a h hn=>?_⟩
 ·obtain ⟨v,fp,h1,h2,h3⟩:=st.at_ i c e
  exact ⟨v,fp,h1,h2,h3.keep stp (fun b hb=>kp b (List.mem_append_left _ (mem_flat_of h2 hb))) zf⟩
 ·refine List.nodup_append.mpr ⟨n1,List.nodup_append.mpr ⟨nd,n5,fun a ha b hb z=>?_⟩,fun a ha b hb z=>?_⟩
  ·subst z; exact ap a ha (List.mem_append_right _ hb)
  ·subst z
   rcases List.mem_append.mp hb with hb | hb
   ·exact ap a hb (List.mem_append_left _ ha)
   ·exact n3 a ha a (List.mem_append_right _ hb) rfl
 ·have e1:=st.kept b o hb e
  by_cases hL:b ∈ L
  ·rcases hA b hL with q | q
   ·exact absurd q hb
   ·have e':F.H₀ b=some o:=e
    rw [q] at e'; cases e'
  ·exact keep b o hL e1
 ·rcases List.mem_append.mp h with h | h
  ·obtain ⟨o,e1,e2⟩:=lv a (List.mem_append_left _ h)
   exact ⟨o,by rw [kp a (List.mem_append_left _ h)]; exact e1,e2⟩
  ·rcases List.mem_append.mp h with h | h
   ·exact liv a h
   ·obtain ⟨o,e1,e2⟩:=lv a (List.mem_append_right _ h)
    exact ⟨o,by rw [kp a (List.mem_append_right _ h)]; exact e1,e2⟩
 ·rcases List.mem_append.mp h with h | h
  ·exact .inr ⟨List.mem_append_left _ h,wl a h⟩
  ·rcases List.mem_append.mp h with h | h
   ·exact .inl h
   ·exact .inr ⟨List.mem_append_right _ (List.mem_append_right _ h),ol a h⟩
 ·rcases List.mem_append.mp h with h | h
  ·exact List.mem_append_left _ h
  ·rcases List.mem_append.mp h with h | h
   ·exact absurd h hn
   ·exact List.mem_append_right _ (List.mem_append_right _ h)
end
noncomputable abbrev DTO:=DEnv->(Cell->DEnv->Prop)->Prop
noncomputable def MnO (t:DTO):Prop:=∀ ρ Q Q',(∀ c ρ',Q c ρ'->Q' c ρ')->t ρ Q->t ρ Q'
noncomputable def rdO (K:PySem.W.Frag) (F:Fx) (t:DTO):TE:=fun σ H Q=>∃ ρ O,DSt K F H σ ρ O/\t ρ fun c ρ'=>∀ v H' O' fp,Res K F H' σ ρ' O' v c fp->Stp O H O' H'->Q v H'
structure DO (X:Cx) (F:Fx) (e:Expr) (t:DTO):Prop where
 mn:MnO t
 pe:PE X e (rdO X.K F t)
section
variable {X:Cx} {F:Fx} {e:Expr} {te:DT} {to:DTO}
noncomputable def dFrz (t:DTO):DT:=fun ρ Q=>t ρ fun c ρ'=>∃ d,frz c=some d/\Q d ρ'
theorem DO.de (h:DO X F e to):DE X F e (dFrz to):=
 ⟨fun _ _ _ k q=>h.mn _ _ _ (fun _ _ ⟨d,e,q⟩=>⟨d,e,k _ _ q⟩) q,h.pe.imp fun σ H Q ⟨ρ,O,st,q⟩=>⟨ρ,O,st,h.mn _ _ _ (fun c ρ' ⟨d,e,q⟩ v H' O' fp r s=>by
  obtain ⟨O2,st2,s2,dv⟩:=r.frz e
  exact q v H' O2 st2 (s.trans s2) dv) q⟩⟩
end
end L2.L3
namespace L2.L3
open PySem PySem.Spec PyProof.Rows
noncomputable abbrev DTG:=PyData->DEnv->(DEnv->Prop)->Prop
noncomputable def rdG (K:PySem.W.Frag) (F:Fx) (t:DTG):TG:=fun v σ H Q=>∃ ρ O d,DSt K F H σ ρ O/\DV (hide O H) v d/\t d ρ fun ρ'=>∀ σ' H' O',DSt K F H' σ' ρ' O'->Stp O H O' H'->Q σ' H'
structure DG (X:Cx) (F:Fx) (tg:Expr) (t:DTG):Prop where
 mn:∀ d ρ Q Q',(∀ ρ',Q ρ'->Q' ρ')->t d ρ Q->t d ρ Q'
 pg:PG X tg (rdG X.K F t)
noncomputable abbrev DTGs:=List PyData->DEnv->(DEnv->Prop)->Prop
noncomputable def rdGs (K:PySem.W.Frag) (F:Fx) (t:DTGs):TGs:=fun vs σ H Q=>∃ ρ O ds,DSt K F H σ ρ O/\DVs (hide O H) vs ds/\t ds ρ fun ρ'=>∀ σ' H' O',DSt K F H' σ' ρ' O'->Stp O H O' H'->Q σ' H'
structure DGs (X:Cx) (F:Fx) (tg:List Expr) (t:DTGs):Prop where
 mn:∀ d ρ Q Q',(∀ ρ',Q ρ'->Q' ρ')->t d ρ Q->t d ρ Q'
 pg:PGs X tg (rdGs X.K F t)
theorem _root_.L2.PG.imp {X:Cx} {e:Expr} {t t':TG} (h:PG X e t) (k:∀ v σ H Q,t' v σ H Q->t v σ H Q):PG X e t':=fun pins s σ H v u Q I r q=>h pins s σ H v u Q I r (k v σ H Q q)
theorem _root_.L2.PGs.imp {X:Cx} {e:List Expr} {t t':TGs} (h:PGs X e t) (k:∀ v σ H Q,t' v σ H Q->t v σ H Q):PGs X e t':=fun pins s σ H v u Q I r q=>h pins s σ H v u Q I r (k v σ H Q q)
section
variable {X:Cx} {F:Fx} {e:Expr} {es:List Expr} {pos:Pos} {x:Str} {t:DTG} {ts:DTGs}
noncomputable def gN (i:Nat):DTG:=fun d ρ Q=>Q (ρ.set i (some (.dat d)))
theorem dg_name {i:Nat} (h:PG X (.Name x pos) (gName i)):DG X F (.Name x pos) (gN i):=⟨fun _ _ _ _ k q=>k _ q,h.imp fun v σ H Q ⟨ρ,O,d,st,hd,q⟩=>q _ H O (st.set hd) .refl⟩
noncomputable def gNl:DTGs:=fun ds ρ Q=>ds=[]/\Q ρ
noncomputable def gCs (t:DTG) (u:DTGs):DTGs:=fun ds ρ Q=>∃ d r,ds=d :: r/\t d ρ fun ρ'=>u r ρ' Q
theorem dgs_nil:DGs X F [] gNl:=⟨fun _ _ _ _ k q=>⟨q.1,k _ q.2⟩,pgs_nil.imp fun vs σ H Q ⟨ρ,O,ds,st,hd,e,q⟩=>by
 subst e
 cases hd
 exact ⟨rfl,q _ H O st .refl⟩⟩
theorem dgs_cons (h1:DG X F e t) (h2:DGs X F es ts) (hs:(assignEach (e :: es) X.env).map (·.2)=assign e X.env :: (assignEach es X.env).map (·.2):=by rfl):DGs X F (e :: es) (gCs t ts):=
 ⟨fun _ _ _ _ k ⟨d,r,e,q⟩=>⟨d,r,e,h1.mn _ _ _ _ (fun _ q1=>h2.mn _ _ _ _ k q1) q⟩,(pgs_cons h1.pg h2.pg hs).imp fun vs σ H Q ⟨ρ,O,ds,st,hd,d,r,e,q⟩=>by
  subst e
  cases hd with
  | cons hd hr=>
   exact ⟨_,_,rfl,ρ,O,d,st,hd,h1.mn _ _ _ _ (fun ρ1 q1 σ1 H1 O1 st1 s1=>⟨ρ1,O1,r,st1,DVs.mono s1.hid hr,h2.mn _ _ _ _ (fun ρ2 q2 σ2 H2 O2 st2 s2=>q2 σ2 H2 O2 st2 (s1.trans s2)) q1⟩) q⟩⟩
noncomputable def gTp (n:Nat) (t:DTGs):DTG:=fun d ρ Q=>∃ ds,d=.tuple ds/\ds.length=n/\t ds ρ Q
theorem dg_tup {k n:Nat} (hc:X.calm=true) (h:DGs X F es ts) (hn:(assignEach es X.env).length=n:=by rfl) (hst:(assignEach es X.env).findIdx? (·.1)=none:=by rfl):DG X F (.Tuple es k pos) (gTp n ts):=
 ⟨fun _ _ _ _ k ⟨ds,e,l,q⟩=>⟨ds,e,l,h.mn _ _ _ _ k q⟩,(pg_tup hc h.pg hn hst).imp fun v σ H Q ⟨ρ,O,d,st,hd,ds,e,l,q⟩=>by
  subst e
  obtain ⟨a,xs,rfl,ha,hx⟩:=hd.tup_inv
  exact ⟨a,xs,rfl,.inl (of_hideR ha).1,by rw [hx.length]; exact l,ρ,O,ds,st,hx,q⟩⟩
end
structure DEnds where
 nx:DEnv->Prop
 rt:Cell->DEnv->Prop
 bk:DEnv->Prop:=fun _=>False
 ct:DEnv->Prop:=fun _=>False
noncomputable abbrev DTS:=DEnds->DEnv->Prop
structure Fits (K:PySem.W.Frag) (F:Fx) (O:List Addr) (H:Hp) (D:Ends) (DD:DEnds):Prop where
 nx:∀ σ' H' ρ' O',DSt K F H' σ' ρ' O'->Stp O H O' H'->DD.nx ρ'->D.nx σ' H'
 rt:∀ v σ' H' c ρ' O' fp,Res K F H' σ' ρ' O' v c fp->Stp O H O' H'->DD.rt c ρ'->D.rt v H'
 bk:∀ σ' H' ρ' O',DSt K F H' σ' ρ' O'->Stp O H O' H'->DD.bk ρ'->D.bk σ' H'
 ct:∀ σ' H' ρ' O',DSt K F H' σ' ρ' O'->Stp O H O' H'->DD.ct ρ'->D.ct σ' H'
theorem Fits.later {K:PySem.W.Frag} {F:Fx} {O O':List Addr} {H H':Hp} {D:Ends} {DD:DEnds} (f:Fits K F O H D DD) (s:Stp O H O' H'):Fits K F O' H' D DD:=
 ⟨fun σ H ρ O st s' q=>f.nx σ H ρ O st (s.trans s') q,fun v σ H c ρ O fp r s' q=>f.rt v σ H c ρ O fp r (s.trans s') q,fun σ H ρ O st s' q=>f.bk σ H ρ O st (s.trans s') q,fun σ H ρ O st s' q=>f.ct σ H ρ O st (s.trans s') q⟩
noncomputable def rdS (K:PySem.W.Frag) (F:Fx) (t:DTS):TS:=fun D σ H=>∃ ρ O DD,DSt K F H σ ρ O/\t DD ρ/\Fits K F O H D DD
noncomputable def DS (X:Cx) (F:Fx) (s:Stmt) (t:DTS):Prop:=PS X s (rdS X.K F t)
noncomputable def DSs (X:Cx) (F:Fx) (s:List Stmt) (t:DTS):Prop:=PSs X s (rdS X.K F t)
section
variable {X:Cx} {F:Fx} {e:Expr} {es:List Expr} {st:Stmt} {rest:List Stmt} {t u:DTS} {te:DT} {to:DTO} {tA:DTA} {tc:DTT} {tg:DTG} {pos:Pos} {x:Str}
noncomputable def sNext:DTS:=fun D ρ=>D.nx ρ
noncomputable def sSeq (t u:DTS):DTS:=fun D ρ=>t { D with nx:=fun ρ'=>u D ρ' } ρ
theorem dss_nil:DSs X F [] sNext:=pss_nil.imp fun D σ H ⟨ρ,O,DD,st,q,f⟩=>f.nx σ H ρ O st .refl q
theorem dss_cons (h1:DS X F st t) (h2:DSs X F rest u):DSs X F (st :: rest) (sSeq t u):=
 (pss_cons h1 h2).imp fun D σ H ⟨ρ,O,DD,s,q,f⟩=>⟨ρ,O,_,s,q,⟨fun σ' H' ρ' O' st' s' q'=>⟨ρ',O',DD,st',q',f.later s'⟩,f.rt,f.bk,f.ct⟩⟩
theorem dss_one (h:DS X F st t):DSs X F [st] t:=pss_one h
noncomputable def sSet (te:DT) (tg:DTG):DTS:=fun D ρ=>te ρ fun d ρ'=>tg d ρ' D.nx
theorem ds_asg {tgt:Expr} (he:DE X F e te) (hg:DG X F tgt tg) (hs:swapsWithSole [tgt] e pos.line X.env=pure false:=by rfl) (hw:swappedStores [tgt] e X.env=pure none:=by rfl)
  (h1:(assignEach [tgt] X.env).map (·.2)=[assign tgt X.env]:=by rfl):DS X F (.Assign [tgt] e pos) (sSet te tg):=
 (ps_asg he.pe hg.pg hs hw h1).imp fun D σ H ⟨ρ,O,DD,st,q,f⟩=>⟨ρ,O,st,he.mn _ _ _ (fun d ρ1 q1 v H1 O1 st1 s1 d1=>⟨ρ1,O1,d,st1,d1,hg.mn _ _ _ _ (fun ρ2 q2 σ2 H2 O2 st2 s2=>f.nx σ2 H2 ρ2 O2 st2 (s1.trans s2) q2) q1⟩) q⟩
theorem ds_set {i:Nat} {pos':Pos} (hN:X.N.Nodup) (hi:X.N[i]? = some x) (hx:Loc X.env.scope x) (he:DE X F e te) (hs:swapsWith e (some (.Name x pos')) pos.line X.env=pure false:=by rfl)
  (hf:X.fn x=true\/X.env.scope.names.lookup x=some .local:=by first | exact .inl rfl | exact .inr rfl | assumption):DS X F (.Assign [.Name x pos'] e pos) (sSet te (gN i)):=
 (ps_set hN hi hx he.pe hs hf).imp fun D σ H ⟨ρ,O,DD,st,q,f⟩=>⟨ρ,O,st,he.mn _ _ _ (fun d ρ1 q1 v H1 O1 st1 s1 d1=>f.nx _ H1 _ O1 (st1.set d1) s1 q1) q⟩
noncomputable def sRet (te:DT):DTS:=fun D ρ=>te ρ fun d ρ'=>D.rt (.dat d) ρ'
theorem ds_ret (he:DE X F e te):DS X F (.Return (some e) pos) (sRet te):=
 (ps_ret he.pe).imp fun D σ H ⟨ρ,O,DD,st,q,f⟩=>⟨ρ,O,st,he.mn _ _ _ (fun d ρ1 q1 v H1 O1 st1 s1 d1=>f.rt v σ H1 (.dat d) ρ1 O1 [] (res_dat st1 d1) s1 q1) q⟩
noncomputable def sRetO (to:DTO):DTS:=fun D ρ=>to ρ fun c ρ'=>D.rt c ρ'
theorem ds_retO (he:DO X F e to):DS X F (.Return (some e) pos) (sRetO to):=
 (ps_ret he.pe).imp fun D σ H ⟨ρ,O,DD,st,q,f⟩=>⟨ρ,O,st,he.mn _ _ _ (fun c ρ1 q1 v H1 O1 fp r s1=>f.rt v σ H1 c ρ1 O1 fp r s1 q1) q⟩
noncomputable def sRetMv (i:Nat):DTS:=fun D ρ=>∃ b,ρ[i]? = some (some (.own false b))/\D.rt (.own false b) (ρ.set i none)
theorem ds_retMv {i:Nat} {p1:Pos} (hv:PE X (.Name x p1) (tVar i)):DS X F (.Return (some (.Name x p1)) pos) (sRetMv i):=
 (ps_ret hv).imp fun D σ H ⟨ρ,O,DD,st,⟨b,e,q⟩,f⟩=>by
  obtain ⟨a,fp,O',h1,h2,h3,h4,h5,h6,_⟩:=st.take e
  exact ⟨_,h1,f.rt _ σ H (.own false b) _ O' fp ⟨h2,⟨a,rfl,h3⟩,h6⟩ h4 q⟩
noncomputable def sSetO (i:Nat) (to:DTO):DTS:=fun D ρ=>to ρ fun c ρ'=>i < ρ'.length/\(∀ b,c ≠ .own true b)/\D.nx (ρ'.set i (some c))
theorem ds_setO {i:Nat} {pos':Pos} (hN:X.N.Nodup) (hi:X.N[i]? = some x) (hx:Loc X.env.scope x) (he:DO X F e to) (hs:swapsWith e (some (.Name x pos')) pos.line X.env=pure false:=by rfl)
  (hf:X.fn x=true\/X.env.scope.names.lookup x=some .local:=by first | exact .inl rfl | exact .inr rfl | assumption):DS X F (.Assign [.Name x pos'] e pos) (sSetO i to):=
 (ps_set hN hi hx he.pe hs hf).imp fun D σ H ⟨ρ,O,DD,st,q,f⟩=>⟨ρ,O,st,he.mn _ _ _ (fun c ρ1 ⟨hl,hn,q1⟩ v H1 O1 fp r s1=>by
  obtain ⟨O2,st2,s2⟩:=DSt.put1 (io:=true) r.st r.at_ r.new hl (fun b z=>absurd z (hn b))
  exact f.nx _ H1 _ O2 st2 (s1.trans s2) q1) q⟩
noncomputable def sDropO (to:DTO):DTS:=fun D ρ=>to ρ fun _ ρ'=>D.nx ρ'
theorem ds_exprO (he:DO X F e to) (hs:swapsWith e none pos.line X.env=pure false:=by rfl):DS X F (.Expr e pos) (sDropO to):=
 (ps_expr he.pe hs).imp fun D σ H ⟨ρ,O,DD,st,q,f⟩=>⟨ρ,O,st,he.mn _ _ _ (fun c ρ1 q1 v H1 O1 fp r s1=>by
  obtain ⟨O2,st2,s2⟩:=r.drop
  exact f.nx _ _ _ _ st2 (s1.trans s2) q1) q⟩
noncomputable def sIf (tc:DTT) (t u:DTS):DTS:=fun D ρ=>tc ρ fun b ρ'=>if b=true then t D ρ' else u D ρ'
theorem ds_if {c:Expr} {a b:List Stmt} (hc:DB X F c tc) (ha:DSs X F a t) (hb:DSs X F b u):DS X F (.If c a b pos) (sIf tc t u):=
 (ps_if hc.pt ha hb).imp fun D σ H ⟨ρ,O,DD,st,q,f⟩=>⟨ρ,O,st,hc.mn _ _ _ (fun b ρ1 q1 H1 O1 st1 s1=>by
  cases b with
  | true=>exact iteT ⟨ρ1,O1,DD,st1,ofT q1,f.later s1⟩
  | false=>exact iteF ⟨ρ1,O1,DD,st1,ofF q1,f.later s1⟩) q⟩
end
end L2.L3
namespace L2.L3
open PySem PySem.Spec PyProof.Rows
inductive OutF where
 | rt (c:Cell) (outs:List Bx) | ex (c:Str) (outs:List Bx) | bad
noncomputable abbrev FM:=List Cell->OutF
inductive ArgsAt (K:PySem.W.Frag) (H:Hp) (O:List Addr):List V->List Cell->List (List Addr)->Prop where
 | nil:ArgsAt K H O [] [] []
 | dat {v:V} {d:PyData} {vs:List V} {cs:List Cell} {fps:List (List Addr)}:DV (hide O H) v d->ArgsAt K H O vs cs fps->ArgsAt K H O (v :: vs) (.dat d :: cs) ([] :: fps)
 | oth {v:V} {c:Cell} {vs:List V} {cs:List Cell} {fps:List (List Addr)}:(∀ d,c ≠ .dat d)->(∀ io b,c ≠ .own io b)->CellAt K H O v c []->ArgsAt K H O vs cs fps->ArgsAt K H O (v :: vs) (c :: cs) ([] :: fps)
 | own {a:Addr} {b:Bx} {fp:List Addr} {vs:List V} {cs:List Cell} {fps:List (List Addr)}:BoxAt (hide O H) H a b fp->ArgsAt K H O vs cs fps->ArgsAt K H O (.ref a :: vs) (.own true b :: cs) (fp :: fps)
inductive OutsAt (H:Hp) (O:List Addr):List V->List Cell->List Bx->List (List Addr)->Prop where
 | nil:OutsAt H O [] [] [] []
 | skip {v:V} {c:Cell} {vs:List V} {cs:List Cell} {bs:List Bx} {fps:List (List Addr)}:(∀ io b,c ≠ .own io b)->OutsAt H O vs cs bs fps->OutsAt H O (v :: vs) (c :: cs) bs fps
 | own {a:Addr} {io:Bool} {b b':Bx} {fp:List Addr} {vs:List V} {cs:List Cell} {bs:List Bx} {fps:List (List Addr)}:BoxAt (hide O H) H a b' fp->OutsAt H O vs cs bs fps->OutsAt H O (.ref a :: vs) (.own io b :: cs) (b' :: bs) (fp :: fps)
structure Beh (H H':Hp) (L L' O₀:List Addr):Prop where
 nd:(L' ++ O₀).Nodup
 live:∀ a ∈ L',∃ o,H' a=some o/\Mv o
 keep:∀ b o,b ∉ L->H b=some o->H' b=some o
 new:∀ a ∈ L',a ∈ L\/H a=none
noncomputable def spF (K:PySem.W.Frag) (mg:Str->Option Value) (f:FM):Sp:=fun vs H Q E=>GH mg H/\∃ (cs:List Cell) (fps:List (List Addr)) (O₀:List Addr),ArgsAt K H (fps.flatten ++ O₀) vs cs fps/\(fps.flatten ++ O₀).Nodup/\(∀ a ∈ fps.flatten ++ O₀,∃ o,H a=some o/\Mv o)/\
 match f cs with
 | .rt c outs=>∀ v H' fp fps',CellAt K H' (fps'.flatten ++ fp ++ O₀) v c fp->OutsAt H' (fps'.flatten ++ fp ++ O₀) vs cs outs fps'->Beh H H' fps.flatten (fps'.flatten ++ fp) O₀->Q v H'
 | .ex c outs=>∀ C H' fps',mg c=some C->OutsAt H' (fps'.flatten ++ O₀) vs cs outs fps'->Beh H H' fps.flatten fps'.flatten O₀->E C none H'
 | .bad=>False
theorem ArgsAt.len {K:PySem.W.Frag} {H:Hp} {O:List Addr} {vs:List V} {cs:List Cell} {fps:List (List Addr)} (h:ArgsAt K H O vs cs fps):vs.length=cs.length/\fps.length=cs.length:=by
 induction h with
 | nil=>exact ⟨rfl,rfl⟩
 | dat _ _ ih=>exact ⟨congrArg Nat.succ ih.1,congrArg Nat.succ ih.2⟩
 | oth _ _ _ _ ih=>exact ⟨congrArg Nat.succ ih.1,congrArg Nat.succ ih.2⟩
 | own _ _ ih=>exact ⟨congrArg Nat.succ ih.1,congrArg Nat.succ ih.2⟩
theorem ArgsAt.get {K:PySem.W.Frag} {H:Hp} {O:List Addr} {vs:List V} {cs:List Cell} {fps:List (List Addr)} (h:ArgsAt K H O vs cs fps):∀ (i:Nat) (c:Cell),cs[i]? = some c->∃ v fp,vs[i]? = some v/\fps[i]? = some fp/\CellAt K H O v c fp:=by
 induction h with
 | nil=>intro i c e; simp at e
 | dat h _ ih=>
  intro i c e
  cases i with
  | zero=>simp at e; subst e; exact ⟨_,_,rfl,rfl,h⟩
  | succ i=>exact ih i c (by simpa using e)
 | oth _ _ h _ ih=>
  intro i c e
  cases i with
  | zero=>simp at e; subst e; exact ⟨_,_,rfl,rfl,h⟩
  | succ i=>exact ih i c (by simpa using e)
 | own h _ ih=>
  intro i c e
  cases i with
  | zero=>simp at e; subst e; exact ⟨_,_,rfl,rfl,⟨_,rfl,h⟩⟩
  | succ i=>exact ih i c (by simpa using e)
theorem ArgsAt.mono {K:PySem.W.Frag} {H:Hp} {O O':List Addr} {vs:List V} {cs:List Cell} {fps:List (List Addr)} (h:ArgsAt K H O vs cs fps) (s:Stp O H O' H):ArgsAt K H O' vs cs fps:=by
 induction h with
 | nil=>exact .nil
 | dat h _ ih=>exact .dat (DV.mono s.hid h) ih
 | oth h1 h2 h _ ih=>exact .oth h1 h2 (h.keep s (fun _ _=>rfl) (fun _ _ _ e=>e)) ih
 | own h _ ih=>exact .own (h.keep (fun _ _=>rfl) s.hid) ih
theorem OutsAt.mono {H:Hp} {O O':List Addr} {vs:List V} {cs:List Cell} {bs:List Bx} {fps:List (List Addr)} (h:OutsAt H O vs cs bs fps) (s:Stp O H O' H):OutsAt H O' vs cs bs fps:=by
 induction h with
 | nil=>exact .nil
 | skip h1 _ ih=>exact .skip h1 ih
 | own h _ ih=>exact .own (h.keep (fun _ _=>rfl) s.hid) ih
inductive OutS where
 | nx (ρ:DEnv) | rt (c:Cell) (ρ:DEnv) | bk (ρ:DEnv) | ct (ρ:DEnv) | ex (c:Str) (ρ:DEnv) | bad
noncomputable abbrev SM:=DEnv->OutS
noncomputable def wpS (E:Str->DEnv->Prop) (m:SM):DTS:=fun D ρ=>match m ρ with
 | .nx ρ'=>D.nx ρ'
 | .rt c ρ'=>D.rt c ρ'
 | .bk ρ'=>D.bk ρ'
 | .ct ρ'=>D.ct ρ'
 | .ex c ρ'=>E c ρ'
 | .bad=>False
@[simp] noncomputable def outsOf:List Cell->DEnv->Option (List Bx)
 | [],_=>some []
 | .own _ _ :: cs,some (.own true b) :: ρ=>(outsOf cs ρ).map (b :: ·)
 | .own _ _ :: _,_=>none
 | _ :: cs,_ :: ρ=>outsOf cs ρ
 | _ :: _,[]=>none
@[simp] noncomputable def fnM (n N:Nat) (m:SM):FM:=fun cs=>if cs.length=n then (match m (cs.map some ++ List.replicate (N - n) none) with
 | .nx ρ=>(match outsOf cs ρ with | some o=>.rt (.dat .none) o | none=>.bad)
 | .rt c ρ=>(match outsOf cs ρ with | some o=>.rt c o | none=>.bad)
 | .ex c ρ=>(match outsOf cs ρ with | some o=>.ex c o | none=>.bad)
 | _=>.bad) else .bad
section
variable {K:PySem.W.Frag} {F:Fx} {H:Hp} {σ:St} {ρ:DEnv} {W:List (List Addr)}
theorem drop_cons {α:Type} {l:List α} {k:Nat} {x:α} {r:List α} (h:l.drop k=x :: r):l[k]? = some x/\l.drop (k + 1)=r:=by
 constructor
 ·rw [<-List.head?_drop,h]; rfl
 ·rw [<-List.drop_drop,h]; rfl
theorem exit_go (st:DStW K F H σ ρ W):∀ (cs:List Cell) (vs:List V) (k:Nat) (outs:List Bx),vs.length=cs.length->(∀ (i:Nat) io b,cs[i]? = some (.own io b)->vs[i]? = some (.ref (F.I₀ (k + i))))->outsOf cs (ρ.drop k)=some outs->
  ∃ fps,OutsAt H (W.flatten ++ F.O₀) vs cs outs fps/\fps.flatten.Sublist (W.drop k).flatten
 | [],[],k,outs,_,_,e=>by cases e; exact ⟨[],.nil,by simp⟩
 | [],_ :: _,_,_,hl,_,_=>by cases hl
 | _ :: _,[],_,_,hl,_,_=>by cases hl
 | c :: cs,v :: vs,k,outs,hl,hI,e=>by
  have hl':vs.length=cs.length:=Nat.succ.inj hl
  have hI':∀ (i:Nat) io b,cs[i]? = some (.own io b)->vs[i]? = some (.ref (F.I₀ (k + 1 + i))):=fun i io b h=>by
   have:=hI (i + 1) io b (by simpa using h)
   rw [show k + 1 + i=k + (i + 1) by omega]
   simpa using this
  have sub1:(W.drop (k + 1)).flatten.Sublist (W.drop k).flatten:=by
   cases hw:W.drop k with
   | nil=>rw [show W.drop (k + 1)=[] from by rw [<-List.drop_drop,hw]; rfl]; exact List.Sublist.refl _
   | cons w r=>rw [(drop_cons hw).2,List.flatten_cons]; exact List.sublist_append_right _ _
  cases hd:ρ.drop k with
  | nil=>
   rw [hd] at e
   cases c with
   | own io b=>cases e
   | dat d=>cases e
   | scr n=>cases e
   | exc n=>cases e
   | vw n=>cases e
  | cons x r=>
   obtain ⟨h1,h2⟩:=drop_cons hd
   rw [hd] at e
   have nonown:(∀ io b,c ≠ .own io b)->outsOf cs r=some outs->∃ fps,OutsAt H (W.flatten ++ F.O₀) (v :: vs) (c :: cs) outs fps/\fps.flatten.Sublist (W.drop k).flatten:=fun hn he=>by
    obtain ⟨fps,o,s⟩:=exit_go st cs vs (k + 1) outs hl' hI' (by rw [h2]; exact he)
    exact ⟨fps,.skip hn o,s.trans sub1⟩
   cases c with
   | dat d=>exact nonown (fun _ _ z=>by cases z) e
   | scr n=>exact nonown (fun _ _ z=>by cases z) e
   | exc n=>exact nonown (fun _ _ z=>by cases z) e
   | vw n=>exact nonown (fun _ _ z=>by cases z) e
   | own io b=>
    cases x with
    | none=>cases e
    | some x=>
     cases x with
     | dat d=>cases e
     | scr n=>cases e
     | exc n=>cases e
     | vw n=>cases e
     | own io' b'=>
      cases io' with
      | false=>cases e
      | true=>
       cases q:outsOf cs r with
       | none=>simp [outsOf,q] at e
       | some o'=>
        simp [outsOf,q] at e
        subst e
        obtain ⟨fps,o,s⟩:=exit_go st cs vs (k + 1) o' hl' hI' (by rw [h2]; exact q)
        obtain ⟨u,fp,e1,e2,a,rfl,bx⟩:=st.at_ k _ h1
        have e3:=st.io k b' h1
        rw [e1] at e3
        have ea:a=F.I₀ k:=by cases e3; rfl
        have hv:=hI 0 io b rfl
        have hv':v=.ref a:=by rw [ea]; simpa using hv
        subst hv'
        refine ⟨fp :: fps,.own bx o,?_⟩
        cases hw:W.drop k with
        | nil=>rw [<-List.head?_drop,hw] at e2; cases e2
        | cons w wr=>
         obtain ⟨w1,w2⟩:=drop_cons hw
         rw [e2] at w1
         cases w1
         rw [List.flatten_cons,List.flatten_cons]
         rw [w2] at s
         exact List.Sublist.append (List.Sublist.refl _) s
end
theorem flat_rep {α:Type} (n:Nat):(List.replicate n ([]:List α)).flatten=[]:=by induction n with | zero=>rfl | succ n ih=>rw [List.replicate_succ,List.flatten_cons,ih]; rfl
noncomputable def startD (N n:Nat) (cs:List Cell):DEnv:=cs.map some ++ List.replicate (N - n) none
section
variable {P:Program} {w:World} {K:PySem.W.Frag} {mg:Str->Option Value} {base:Heap} {x qual:Str} {st:Stmt} {f:Addr} {fd:FuncData} {N ps:List Str} {k:Nat} {m:SM}
noncomputable def ioAt (vs:List V) (i:Nat):Addr:=match vs[i]? with
 | some (.ref a)=>a
 | _=>0
theorem dst_start {H:Hp} {vs:List V} {cs:List Cell} {fps:List (List Addr)} {O₀:List Addr} (ha:ArgsAt K H (fps.flatten ++ O₀) vs cs fps) (nd:(fps.flatten ++ O₀).Nodup) (live:∀ a ∈ fps.flatten ++ O₀,∃ o,H a=some o/\Mv o) (hl:cs.length<=N.length) :
  DStW K ⟨H,fps.flatten,O₀,ioAt vs⟩ H (start N vs) (startD N.length cs.length cs) (fps ++ List.replicate (N.length - cs.length) []):=by
 have fl:(fps ++ List.replicate (N.length - cs.length) ([]:List Addr)).flatten=fps.flatten:=by rw [List.flatten_append,flat_rep,List.append_nil]
 obtain ⟨l1,l2⟩:=ha.len
 have get:∀ (i:Nat) c,(startD N.length cs.length cs)[i]? = some (some c)->cs[i]? = some c:=fun i c e=>by
  unfold startD at e
  by_cases h:i < cs.length
  ·rw [List.getElem?_append_left (by simpa using h),List.getElem?_map] at e
   obtain ⟨d,h1,h2⟩:=Option.map_eq_some_iff.mp e
   cases h2
   exact h1
  ·rw [List.getElem?_append_right (by simpa using Nat.le_of_not_lt h),List.getElem?_replicate] at e
   split at e <;> cases e
 have put:∀ (i:Nat) v,vs[i]? = some v->(start N vs)[i]? = some (some v):=fun i v e=>by
  unfold start
  rw [List.getElem?_append_left (by simpa using (List.getElem?_eq_some_iff.mp e).1),List.getElem?_map,e]
  rfl
 refine ⟨fun i c e=>?_,by rw [fl]; exact nd,fun _ _ _ h=>h,fun a h=>.inl (by rw [fl] at h; exact h),by rw [fl]; exact live,?_,?_,fun i b e=>?_⟩
 ·obtain ⟨v,fp,h1,h2,h3⟩:=ha.get i c (get i c e)
  exact ⟨v,fp,put i v h1,by rw [List.getElem?_append_left (List.getElem?_eq_some_iff.mp h2).1]; exact h2,by rw [fl]; exact h3⟩
 ·unfold startD start
  rw [List.length_append,List.length_append,List.length_map,List.length_map,List.length_replicate,List.length_replicate,l1]
 ·unfold startD
  rw [List.length_append,List.length_append,List.length_map,List.length_replicate,List.length_replicate,l2]
 ·obtain ⟨v,fp,h1,h2,a,rfl,h3⟩:=ha.get i _ (get i _ e)
  rw [put i _ h1]
  show _=some (some (V.ref (ioAt vs i)))
  unfold ioAt
  rw [h1]
theorem ArgsAt.ios {H:Hp} {O:List Addr} {vs:List V} {cs:List Cell} {fps:List (List Addr)} (h:ArgsAt K H O vs cs fps):∀ (i:Nat) io b,cs[i]? = some (.own io b)->vs[i]? = some (.ref (ioAt vs (0 + i))):=fun i io b e=>by
 obtain ⟨v,fp,h1,_,a,rfl,_⟩:=h.get i _ e
 rw [Nat.zero_add]
 unfold ioAt
 rw [h1]
theorem fn_F (Fn:Fun K x qual st f fd) (S:FnScope N ps (defScope st)) (hN:ps.length<=N.length)
  (der:∀ (cdv:Value) (A:Around) (outer:List Env) (s:Shared) (H:Hp) (E:XK) (F:Fx) (E':Str->DEnv->Prop),Room k (A.deeper (envOfC qual (defScope st) s.heap.objs.size f cdv))->XOk (cxOf (CXM P w) P w K mg base N qual (defScope st) f cdv A outer s H E) F E'->
   DSs (cxOf (CXM P w) P w K mg base N qual (defScope st) f cdv A outer s H E) F (defBody st) (wpS E' m)):FnOk P w K mg base (CXM P w) (k + 1) f fd ps (spF K mg (fnM ps.length N.length m)):=by
 obtain ⟨oc,od,kV,doc,pm,an,cdv,ct,osl,rfl,lk,hcd⟩:=Fn.ex
 have hlen:∀ vs H Q E,spF K mg (fnM ps.length N.length m) vs H Q E->vs.length=ps.length:=fun vs H Q E ⟨_,cs,fps,O₀,ha,_,_,q⟩=>by
  rw [ha.len.1]
  unfold fnM at q
  by_cases h:cs.length=ps.length
  ·exact h
  ·rw [if_neg h] at q; exact q.elim
 refine fn_of lk hcd S hlen fun A outer s H vs Q E hr hsp=>?_
 have hlv:=hlen vs H Q E hsp
 obtain ⟨gh,cs,fps,O₀,ha,nd,live,q⟩:=hsp
 obtain ⟨l1,l2⟩:=ha.len
 have hlc:cs.length=ps.length:=by omega
 let F:Fx:=⟨H,fps.flatten,O₀,ioAt vs⟩
 have st0:=dst_start (N:=N) ha nd live (by omega)
 have fin:∀ {σ':St} {H':Hp} {ρ':DEnv} {O':List Addr} {fp:List Addr} {outs:List Bx},DSt K (F.plus fp) H' σ' ρ' O'->(∀ a ∈ fp,a ∈ F.A₀\/F.H₀ a=none)->outsOf cs ρ' = some outs->∃ fps',OutsAt H' (fps'.flatten ++ fp ++ O₀) vs cs outs fps'/\Beh H H' fps.flatten (fps'.flatten ++ fp) O₀/\Stp O' H' (fps'.flatten ++ fp ++ O₀) H':=by
  rintro σ' H' ρ' O' fp outs ⟨W,st',rfl⟩ hfp ho
  obtain ⟨fps',o,sb⟩:=exit_go st' cs vs 0 outs l1 (fun i io b e=>ha.ios i io b e) ho
  have sb':fps'.flatten.Sublist W.flatten:=sb
  have sub:(fps'.flatten ++ fp ++ O₀).Sublist (W.flatten ++ (fp ++ O₀)):=by rw [List.append_assoc]; exact List.Sublist.append sb' (List.Sublist.refl _)
  have stp:Stp (W.flatten ++ (fp ++ O₀)) H' (fps'.flatten ++ fp ++ O₀) H':=stp_less fun a h=>sub.subset h
  refine ⟨fps',o.mono stp,⟨st'.nd.sublist sub,fun a h=>st'.live a (sub.subset (List.mem_append_left _ h)),fun b o hb e=>st'.kept b o hb e,fun a h=>?_⟩,stp⟩
  rcases List.mem_append.mp h with h | h
  ·exact st'.new a (sb'.subset h)
  ·exact hfp a h
 have hfn:fnM ps.length N.length m cs=(match m (startD N.length ps.length cs) with
  | .nx ρ=>(match outsOf cs ρ with | some o=>.rt (.dat .none) o | none=>.bad)
  | .rt c ρ=>(match outsOf cs ρ with | some o=>.rt c o | none=>.bad)
  | .ex c ρ=>(match outsOf cs ρ with | some o=>.ex c o | none=>.bad)
  | _=>.bad):=by unfold fnM startD; rw [if_pos hlc]
 rw [hfn] at q
 rw [hlc] at st0
 let E':Str->DEnv->Prop:=fun c ρ'=>∃ outs,outsOf cs ρ' = some outs/\∀ C H' fps',mg c=some C->OutsAt H' (fps'.flatten ++ O₀) vs cs outs fps'->Beh H H' fps.flatten fps'.flatten O₀->E C none H'
 refine ⟨_,der cdv A outer s H E F E' hr (xok_fn (gh.frame fun a h=>live a (List.mem_append_left _ h)) fun c C ρ' σ' H' O' hm st' ⟨outs,ho,k⟩=>?_),?_⟩
 ·obtain ⟨fps',o,b,_⟩:=fin (fp:=[]) st' (fun a h=>by cases h) ho
  rw [List.append_nil] at o b
  exact k C H' fps' hm o b
 ·refine ⟨startD N.length ps.length cs,_,⟨fun ρ'=>∃ outs,outsOf cs ρ' = some outs/\∀ H' fps',OutsAt H' (fps'.flatten ++ [] ++ O₀) vs cs outs fps'->Beh H H' fps.flatten (fps'.flatten ++ []) O₀->Q .non H',fun c ρ'=>∃ outs,outsOf cs ρ' = some outs/\∀ v H' fp fps',CellAt K H' (fps'.flatten ++ fp ++ O₀) v c fp->OutsAt H' (fps'.flatten ++ fp ++ O₀) vs cs outs fps'->Beh H H' fps.flatten (fps'.flatten ++ fp) O₀->Q v H',fun _=>False,fun _=>False⟩,⟨_,st0,rfl⟩,?_,?_⟩
  ·unfold wpS
   cases hm:m (startD N.length ps.length cs) with
   | nx ρ'=>
    rw [hm] at q
    cases ho:outsOf cs ρ' with
    | none=>simp [ho] at q
    | some outs=>
     simp only [ho] at q
     exact ⟨outs,ho,fun H' fps' o b=>q .non H' [] fps' .non o b⟩
   | rt c ρ'=>
    rw [hm] at q
    cases ho:outsOf cs ρ' with
    | none=>simp [ho] at q
    | some outs=>
     simp only [ho] at q
     exact ⟨outs,ho,q⟩
   | ex c ρ'=>
    rw [hm] at q
    cases ho:outsOf cs ρ' with
    | none=>simp [ho] at q
    | some outs=>
     simp only [ho] at q
     exact ⟨outs,ho,q⟩
   | bk ρ'=>rw [hm] at q; exact q
   | ct ρ'=>rw [hm] at q; exact q
   | bad=>rw [hm] at q; exact q
  ·refine ⟨fun σ' H' ρ' O' st' s' ⟨outs,ho,k⟩=>?_,fun v σ' H' c ρ' O' fp r s' ⟨outs,ho,k⟩=>?_,fun _ _ _ _ _ _ z=>z.elim,fun _ _ _ _ _ _ z=>z.elim⟩
   ·obtain ⟨fps',o,b,_⟩:=fin (fp:=[]) st' (fun a h=>by cases h) ho
    exact k H' fps' o b
   ·obtain ⟨fps',o,b,stp⟩:=fin r.st r.new ho
    exact k v H' fp fps' (r.at_.keep stp (fun _ _=>rfl) (fun _ _ _ e=>e)) o b
end
end L2.L3
namespace L2.L3
open PySem PySem.Spec PyProof.Rows
inductive AX where
 | d (x:PyData) | s (j:Nat)
inductive AxAt (σ:St) (G:Hp):List V->List AX->Prop where
 | nil:AxAt σ G [] []
 | d {v:V} {x:PyData} {vs:List V} {as:List AX}:DV G v x->AxAt σ G vs as->AxAt σ G (v :: vs) (.d x :: as)
 | s {v:V} {j:Nat} {vs:List V} {as:List AX}:σ[j]? = some (some v)->AxAt σ G vs as->AxAt σ G (v :: vs) (.s j :: as)
noncomputable abbrev DTX:=DEnv->(List AX->DEnv->Prop)->Prop
noncomputable def MnX (t:DTX):Prop:=∀ ρ Q Q',(∀ d ρ',Q d ρ'->Q' d ρ')->t ρ Q->t ρ Q'
noncomputable def rdX (K:PySem.W.Frag) (F:Fx) (t:DTX):TA:=fun σ H Q=>∃ ρ O,DSt K F H σ ρ O/\t ρ fun as ρ'=>∀ vs H' O',DSt K F H' σ ρ' O'->Stp O H O' H'->AxAt σ (hide O' H') vs as->Q vs H'
structure DX (X:Cx) (F:Fx) (es:List Expr) (t:DTX):Prop where
 mn:MnX t
 pa:PA X es (rdX X.K F t)
section
variable {X:Cx} {F:Fx} {e:Expr} {es:List Expr} {te:DT} {tX:DTX} {x:Str} {p:Pos} {j:Nat}
noncomputable def xNil:DTX:=fun ρ Q=>Q [] ρ
noncomputable def xVal (te:DT) (t:DTX):DTX:=fun ρ Q=>te ρ fun d ρ1=>t ρ1 fun as ρ2=>Q (.d d :: as) ρ2
noncomputable def xSlot (j:Nat) (t:DTX):DTX:=fun ρ Q=>(∃ c,ρ[j]? = some (some c))/\t ρ fun as ρ2=>Q (.s j :: as) ρ2
theorem dx_nil:DX X F [] xNil:=⟨fun _ _ _ k q=>k _ _ q,pa_nil.imp fun σ H Q ⟨ρ,O,st,q⟩=>q [] H O st .refl .nil⟩
theorem dx_val (ha:DE X F e te) (hr:DX X F es tX) (hs:starEach (e :: es) X.env=(false,eval e X.env) :: starEach es X.env:=by rfl):DX X F (e :: es) (xVal te tX):=
 ⟨fun _ _ _ k q=>ha.mn _ _ _ (fun _ _ q1=>hr.mn _ _ _ (fun _ _ q2=>k _ _ q2) q1) q,(pa_cons ha.pe hr.pa hs).imp fun σ H Q ⟨ρ,O,st,q⟩=>
  ⟨ρ,O,st,ha.mn _ _ _ (fun d ρ1 q1 v H1 O1 st1 s1 d1=>⟨ρ1,O1,st1,hr.mn _ _ _ (fun as ρ2 q2 vs H2 O2 st2 s2 d2=>q2 (v :: vs) H2 O2 st2 (s1.trans s2) (.d (DV.mono s2.hid d1) d2)) q1⟩) q⟩⟩
theorem dx_slot (hv:PE X (.Name x p) (tVar j)) (hr:DX X F es tX) (hs:starEach (.Name x p :: es) X.env=(false,eval (.Name x p) X.env) :: starEach es X.env:=by rfl):DX X F (.Name x p :: es) (xSlot j tX):=
 ⟨fun _ _ _ k ⟨h,q⟩=>⟨h,hr.mn _ _ _ (fun _ _ q2=>k _ _ q2) q⟩,(pa_cons hv hr.pa hs).imp fun σ H Q ⟨ρ,O,st,⟨c,hc⟩,q⟩=>by
  obtain ⟨W,h,rfl⟩:=id st
  obtain ⟨v,fp,h1,h2,h3⟩:=h.at_ j c hc
  exact ⟨v,h1,ρ,_,st,hr.mn _ _ _ (fun as ρ2 q2 vs H2 O2 st2 s2 d2=>q2 (v :: vs) H2 O2 st2 s2 (.s h1 d2)) q⟩⟩
end
@[simp] noncomputable def argCells (ρ:DEnv):List AX->Option (List Cell × List (Nat × Bool))
 | []=>some ([],[])
 | .d x :: as=>(match argCells ρ as with | some (cs,js)=>some (.dat x :: cs,js) | none=>none)
 | .s j :: as=>(match argCells ρ as with
  | some (cs,js)=>(match ρ[j]? with
   | some (some (.own io b))=>if js.any (fun p=>p.1 == j) then none else some (.own true b :: cs,(j,io) :: js)
   | some (some c)=>some (c :: cs,js)
   | _=>none)
  | none=>none)
@[simp] noncomputable def clr:List (Nat × Bool)->DEnv->DEnv
 | [],ρ=>ρ
 | (j,_) :: r,ρ=>(clr r ρ).set j none
@[simp] noncomputable def back:List (Nat × Bool)->List Bx->DEnv->DEnv
 | (j,io) :: r,b :: bs,ρ=>back r bs (ρ.set j (some (.own io b)))
 | _,_,ρ=>ρ
theorem clr_len {js:List (Nat × Bool)} {ρ:DEnv}:(clr js ρ).length=ρ.length:=by
 induction js with
 | nil=>rfl
 | cons p r ih=>obtain ⟨j,io⟩:=p; rw [clr,List.length_set,ih]
theorem clr_get {js:List (Nat × Bool)} {ρ:DEnv} {i:Nat} (h:∀ p ∈ js,p.1 ≠ i):(clr js ρ)[i]? = ρ[i]?:=by
 induction js with
 | nil=>rfl
 | cons p r ih=>
  obtain ⟨j,io⟩:=p
  rw [clr,List.getElem?_set_ne (h (j,io) List.mem_cons_self),ih fun q hq=>h q (List.mem_cons_of_mem _ hq)]
inductive JsAt (σ:St) (F:Fx) (n:Nat):List V->List Cell->List (Nat × Bool)->Prop where
 | nil:JsAt σ F n [] [] []
 | skip {v:V} {c:Cell} {vs:List V} {cs:List Cell} {js:List (Nat × Bool)}:(∀ io b,c ≠ .own io b)->JsAt σ F n vs cs js->JsAt σ F n (v :: vs) (c :: cs) js
 | own {a:Addr} {io:Bool} {b:Bx} {j:Nat} {vs:List V} {cs:List Cell} {js:List (Nat × Bool)}:σ[j]? = some (some (.ref a))->(io=true->a=F.I₀ j)->j < n->JsAt σ F n vs cs js->JsAt σ F n (.ref a :: vs) (.own true b :: cs) ((j,io) :: js)
section
variable {K:PySem.W.Frag} {F:Fx} {H H':Hp} {σ:St} {ρ:DEnv} {O O':List Addr}
theorem take_all (st:DSt K F H σ ρ O):∀ (as:List AX) (vs:List V) (cs:List Cell) (js:List (Nat × Bool)),argCells ρ as=some (cs,js)->AxAt σ (hide O H) vs as->
  ∃ fps O',DSt K (F.plus fps.flatten) H σ (clr js ρ) O'/\ArgsAt K H O' vs cs fps/\Stp O H O' H/\Stp O' H O H/\(∀ a ∈ fps.flatten,a ∈ F.A₀\/F.H₀ a=none)/\JsAt σ F ρ.length vs cs js
 | [],vs,cs,js,e,h=>by
  cases e
  cases h
  refine ⟨[],O,st,.nil,.refl,.refl,?_,.nil⟩
  intro a h
  cases h
 | .d x :: as,vs,cs,js,e,h=>by
  cases h with
  | d hv hr=>
   unfold argCells at e
   cases q:argCells ρ as with
   | none=>rw [q] at e; cases e
   | some p=>
    obtain ⟨cs',js'⟩:=p
    rw [q] at e
    simp only [Option.some.injEq,Prod.mk.injEq] at e
    obtain ⟨e1,e2⟩:=e
    obtain ⟨fps,O',st',ar,s1,s2,nw,ja⟩:=take_all st as _ cs' js' q hr
    subst e1 e2
    exact ⟨[] :: fps,O',st',.dat (DV.mono s1.hid hv) ar,s1,s2,nw,.skip (fun _ _ z=>by cases z) ja⟩
 | .s j :: as,vs,cs,js,e,h=>by
  cases h with
  | @s v _ vs _ hv hr=>
   unfold argCells at e
   cases q:argCells ρ as with
   | none=>rw [q] at e; cases e
   | some p=>
    obtain ⟨cs',js'⟩:=p
    rw [q] at e
    obtain ⟨fps,O',st',ar,s1,s2,nw,ja⟩:=take_all st as _ cs' js' q hr
    cases hc:ρ[j]? with
    | none=>rw [hc] at e; cases e
    | some oc=>
     cases oc with
     | none=>rw [hc] at e; cases e
     | some c=>
      rw [hc] at e
      obtain ⟨W,stw,hOW⟩:=id st
      obtain ⟨v',fp',h1,h2,h3⟩:=stw.at_ j c hc
      rw [hv] at h1
      have ev:v' = v:=by cases h1; rfl
      subst ev
      rw [<-hOW] at h3
      have other:(∀ io b,c ≠ .own io b)->∃ fps O',DSt K (F.plus fps.flatten) H σ (clr js' ρ) O'/\ArgsAt K H O' (v' :: vs) (c :: cs') fps/\Stp O H O' H/\Stp O' H O H/\(∀ a ∈ fps.flatten,a ∈ F.A₀\/F.H₀ a=none)/\JsAt σ F ρ.length (v' :: vs) (c :: cs') js':=fun hn=>by
       refine ⟨[] :: fps,O',st',?_,s1,s2,nw,.skip hn ja⟩
       cases c with
       | dat d=>exact .dat (DV.mono s1.hid h3) ar
       | own io b=>exact absurd rfl (hn io b)
       | scr ns=>exact .oth (fun _ z=>by cases z) (fun _ _ z=>by cases z) (CellAt.keep (c:=.scr ns) (fp:=[]) h3 s1 (fun _ _=>rfl) (fun _ _ _ e=>e)) ar
       | exc n=>exact .oth (fun _ z=>by cases z) (fun _ _ z=>by cases z) (CellAt.keep (c:=.exc n) (fp:=[]) h3 s1 (fun _ _=>rfl) (fun _ _ _ e=>e)) ar
       | vw n=>exact .oth (fun _ z=>by cases z) (fun _ _ z=>by cases z) (CellAt.keep (c:=.vw n) (fp:=[]) h3 s1 (fun _ _=>rfl) (fun _ _ _ e=>e)) ar
      cases c with
      | dat d=>
       simp only [Option.some.injEq,Prod.mk.injEq] at e
       rw [<-e.1,<-e.2]; exact other (fun _ _ z=>by cases z)
      | scr ns=>
       simp only [Option.some.injEq,Prod.mk.injEq] at e
       rw [<-e.1,<-e.2]; exact other (fun _ _ z=>by cases z)
      | exc n=>
       simp only [Option.some.injEq,Prod.mk.injEq] at e
       rw [<-e.1,<-e.2]; exact other (fun _ _ z=>by cases z)
      | vw n=>
       simp only [Option.some.injEq,Prod.mk.injEq] at e
       rw [<-e.1,<-e.2]; exact other (fun _ _ z=>by cases z)
      | own io b=>
       by_cases hj:js'.any (fun p=>p.1 == j)=true
       ·simp only [if_pos hj] at e; cases e
       ·simp only [if_neg hj,Option.some.injEq,Prod.mk.injEq] at e
        rw [<-e.1,<-e.2]
        have hjs:∀ p ∈ js',p.1 ≠ j:=fun p hp z=>hj (List.any_eq_true.mpr ⟨p,hp,by simp [z]⟩)
        obtain ⟨a,fp,O2,t1,t2,t3,t4,t5,t6,t7⟩:=st'.take (i:=j) (io:=io) (b:=b) (by rw [clr_get hjs]; exact hc)
        rw [hv] at t1
        have ev:v' = .ref a:=by cases t1; rfl
        subst ev
        rw [Fx.plus_plus] at t2
        refine ⟨fp :: fps,O2,t2,.own t3 (ar.mono t4),s1.trans t4,t5.trans s2,fun x hx=>?_,.own hv t7 (List.getElem?_eq_some_iff.mp hc).1 ja⟩
        rcases List.mem_append.mp hx with hx | hx
        ·exact t6 x hx
        ·exact nw x hx
theorem give_all {fp:List Addr} {n:Nat} {vs:List V} {cs:List Cell} {js:List (Nat × Bool)} (ja:JsAt σ F n vs cs js):∀ {outs:List Bx} {fps:List (List Addr)} {ρ:DEnv} {O:List Addr},ρ.length=n->DSt K (F.plus (fps.flatten ++ fp)) H σ ρ O->OutsAt H O vs cs outs fps->(∀ a ∈ fps.flatten,a ∈ F.A₀\/F.H₀ a=none)->
  ∃ O',DSt K (F.plus fp) H σ (back js outs ρ) O'/\Stp O H O' H:=by
 induction ja with
 | nil=>
  intro outs fps ρ O hn st oa nw
  cases oa
  exact ⟨O,st,.refl⟩
 | skip hn' _ ih=>
  intro outs fps ρ O hn st oa nw
  cases oa with
  | skip _ oa=>exact ih hn st oa nw
  | own _ _=>exact absurd rfl (hn' _ _)
 | @own a io b j vs cs js h1 h2 h3 ja ih=>
  intro outs fps ρ O hn st oa nw
  cases oa with
  | skip hn' _=>exact absurd rfl (hn' _ _)
  | @own _ _ _ b' f1 _ _ bs fr hb oa=>
   have st':DSt K ((F.plus (fr.flatten ++ fp)).plus f1) H σ ρ O:=by rw [Fx.plus_plus,<-List.append_assoc]; exact st
   obtain ⟨O1,st1,s1⟩:=DSt.put1 (io:=true) (c:=.own io b') (v:=.ref a) (i:=j) st' ⟨a,rfl,hb⟩ (fun x hx=>nw x (by rw [List.flatten_cons]; exact List.mem_append_left _ hx)) (by rw [hn]; exact h3) (fun b z=>by cases z; rw [h2 rfl]; rfl)
   have eσ:σ.set j (some (.ref a))=σ:=by
    apply List.ext_getElem?
    intro i
    by_cases hj:i=j
    ·subst hj; rw [List.getElem?_set_self (List.getElem?_eq_some_iff.mp h1).1,h1]
    ·rw [List.getElem?_set_ne (Ne.symm hj)]
   rw [eσ] at st1
   obtain ⟨O2,st2,s2⟩:=ih (by rw [List.length_set]; exact hn) st1 (oa.mono s1) (fun x hx=>nw x (by rw [List.flatten_cons]; exact List.mem_append_right _ hx))
   exact ⟨O2,st2,s1.trans s2⟩
end
noncomputable def callOn (f:FM) (E:Str->DEnv->Prop) (Q:Cell->DEnv->Prop) (as:List AX) (ρ:DEnv):Prop:=match argCells ρ as with
 | some (cs,js)=>(match f cs with
  | .rt c outs=>Q c (back js outs (clr js ρ))
  | .ex c outs=>E c (back js outs (clr js ρ))
  | .bad=>False)
 | none=>False
noncomputable def dCall (f:FM) (E:Str->DEnv->Prop) (t:DTX):DTO:=fun ρ Q=>t ρ fun as ρ1=>callOn f E Q as ρ1
section
variable {X:Cx} {F:Fx} {e:Expr} {es:List Expr} {tX:DTX} {E:Str->DEnv->Prop} {pos p:Pos} {x:Str} {f:FM} {k:Nat} {g:Addr} {fd:FuncData} {ps:List Str}
theorem callOn_mn {Q Q':Cell->DEnv->Prop} {as:List AX} {ρ:DEnv} (h:∀ c ρ',Q c ρ'->Q' c ρ') (q:callOn f E Q as ρ):callOn f E Q' as ρ:=by
 unfold callOn at q ⊢
 split
 ·rename_i cs js e
  rw [e] at q
  simp only at q
  split
  ·rename_i e2; rw [e2] at q; exact h _ _ q
  ·rename_i e2; rw [e2] at q; exact q
  ·rename_i e2; rw [e2] at q; exact q
 ·rename_i e; rw [e] at q; exact q
theorem call_on {pins:List (Addr × Obj)} {σ:St} {H:Hp} {s:Shared} {Q:VK} {us:List Value} {vs:List V} {as:List AX} {ρ:DEnv} {O:List Addr} {QC:Cell->DEnv->Prop} (hx:XOk X F E) (G:FnOk X.prog X.w X.K X.mg X.base (CXM X.prog X.w) k g fd ps (spF X.K X.mg f)) (hr:Room k X.A) (hb:Binds X.K fd ps [])
  (I:Inv X pins σ H s) (r:Vals vs us) (st:DSt X.K F H σ ρ O) (ax:AxAt σ (hide O H) vs as) (q:callOn f E QC as ρ) (hQ:∀ c ρ',QC c ρ'->∀ v H' O' fp,Res X.K F H' σ ρ' O' v c fp->Stp O H O' H'->Q v H') :
  wpAny (model X.prog X.w) X.A (call (.ref g) us) (EP X pins σ Q) X.xe s:=by
 unfold callOn at q
 cases hc:argCells ρ as with
 | none=>rw [hc] at q; exact q.elim
 | some p=>
  obtain ⟨cs,js⟩:=p
  rw [hc] at q
  simp only at q
  obtain ⟨fps,O2,st2,ar,s1,s1',nw,ja⟩:=take_all st as vs cs js hc ax
  obtain ⟨W,stw,hO2⟩:=id st2
  have ndO:(W.flatten ++ (fps.flatten ++ F.O₀)).Nodup:=stw.nd
  have memO:∀ a,a ∈ O2 ↔ a ∈ fps.flatten ++ (W.flatten ++ F.O₀):=fun a=>by
   rw [hO2]
   show a ∈ W.flatten ++ (fps.flatten ++ F.O₀) ↔ _
   simp only [List.mem_append]
   constructor
   ·rintro (h | h | h) <;> simp [h]
   ·rintro (h | h | h) <;> simp [h]
  have perm:(fps.flatten ++ (W.flatten ++ F.O₀)).Perm (W.flatten ++ (fps.flatten ++ F.O₀)):=by
   rw [<-List.append_assoc,<-List.append_assoc]
   exact List.Perm.append_right _ List.perm_append_comm
  have nd1:(fps.flatten ++ (W.flatten ++ F.O₀)).Nodup:=perm.nodup_iff.mpr ndO
  have stE:Stp O2 H (fps.flatten ++ (W.flatten ++ F.O₀)) H:=stp_less fun a h=>(memO a).mpr h
  have back2:∀ (H':Hp) (L':List Addr) (a:Addr),(a ∈ L' ++ (W.flatten ++ F.O₀))->a ∈ L'\/(a ∈ O2/\a ∉ fps.flatten):=fun H' L' a h=>by
   rcases List.mem_append.mp h with h | h
   ·exact .inl h
   ·refine .inr ⟨(memO a).mpr (List.mem_append_right _ h),fun z=>?_⟩
    exact (List.nodup_append.mp nd1).2.2 a z a h rfl
  have swapped:∀ (H':Hp) (L':List Addr),Beh H H' fps.flatten L' (W.flatten ++ F.O₀)->∃ O3,DSt X.K (F.plus L') H' σ (clr js ρ) O3/\Stp O2 H O3 H'/\∀ a,a ∈ O3 ↔ a ∈ L' ++ (W.flatten ++ F.O₀):=fun H' L' bh=>by
   obtain ⟨O3,t1,t2,t3,t4,t5⟩:=st2.swap (H':=H') (L':=L') bh.keep (List.nodup_append.mp bh.nd).1 bh.new nw bh.live
   refine ⟨O3,t1,t2,fun a=>⟨fun h=>?_,fun h=>?_⟩⟩
   ·rcases t4 a h with z | ⟨z1,z2⟩
    ·exact List.mem_append_left _ z
    ·rcases List.mem_append.mp ((memO a).mp z1) with z | z
     ·exact absurd z z2
     ·exact List.mem_append_right _ z
   ·rcases back2 H' L' a h with z | ⟨z1,z2⟩
    ·exact t3 a z
    ·exact t5 a z1 z2
  have r2:Vals (vs ++ []) (us ++ []):=by rw [List.append_nil,List.append_nil]; exact r
  let EX:XK:=fun C _ H'=>∃ c ρ' O',X.mg c=some C/\DSt X.K F H' σ ρ' O'/\E c ρ'
  have sp:spF X.K X.mg f vs H Q EX:=by
   refine ⟨hx.1.at st,cs,fps,W.flatten ++ F.O₀,ar.mono stE,nd1,fun a h=>?_,?_⟩
   ·exact stw.live a (by have:=(memO a).mpr h; rw [hO2] at this; exact this)
   ·cases hf:f cs with
    | bad=>rw [hf] at q; exact q
    | rt c outs=>
     rw [hf] at q
     simp only at q ⊢
     intro v H' fp fps' hca hou bh
     obtain ⟨O3,t1,t2,t3⟩:=swapped H' (fps'.flatten ++ fp) bh
     have eq3:Stp (fps'.flatten ++ fp ++ (W.flatten ++ F.O₀)) H' O3 H':=stp_less fun a h=>(t3 a).mp h
     have nwo:∀ a ∈ fps'.flatten ++ fp,a ∈ F.A₀\/F.H₀ a=none:=fun a h=>by
      rcases bh.new a h with z | z
      ·exact nw a z
      ·by_cases hA:a ∈ F.A₀
       ·exact .inl hA
       ·refine .inr ?_
        cases e:F.H₀ a with
        | none=>rfl
        | some o=>have:=stw.kept a o hA e; rw [z] at this; cases this
     have lj:(clr js ρ).length=ρ.length:=clr_len
     obtain ⟨O4,u1,u2⟩:=give_all (fp:=fp) ja lj t1 (hou.mono eq3) fun a h=>nwo a (List.mem_append_left _ h)
     exact hQ c _ q v H' O4 fp ⟨u1,hca.keep (eq3.trans u2) (fun _ _=>rfl) (fun _ _ _ e=>e),fun a h=>nwo a (List.mem_append_right _ h)⟩ (s1.trans (t2.trans u2))
    | ex c outs=>
     rw [hf] at q
     simp only at q ⊢
     intro C H' fps' hm hou bh
     obtain ⟨O3,t1,t2,t3⟩:=swapped H' fps'.flatten bh
     have eq3:Stp (fps'.flatten ++ (W.flatten ++ F.O₀)) H' O3 H':=stp_less fun a h=>(t3 a).mp h
     have nwo:∀ a ∈ fps'.flatten,a ∈ F.A₀\/F.H₀ a=none:=fun a h=>by
      rcases bh.new a h with z | z
      ·exact nw a z
      ·by_cases hA:a ∈ F.A₀
       ·exact .inl hA
       ·refine .inr ?_
        cases e:F.H₀ a with
        | none=>rfl
        | some o=>have:=stw.kept a o hA e; rw [z] at this; cases this
     have lj:(clr js ρ).length=ρ.length:=clr_len
     obtain ⟨O4,u1,u2⟩:=give_all (fp:=[]) ja lj (by rw [List.append_nil]; exact t1) (hou.mono eq3) nwo
     exact ⟨c,_,O4,hm,u1,q⟩
  have hl:(us ++ []).length=ps.length:=by rw [List.append_nil,<-r.length]; exact G.len _ _ _ _ sp
  refine wpAny_call (codeAny_mono (G.run X.A X.stack s H ⟨us,[]⟩ us vs Q EX hr I.env0 (by have:=hb s us I.kIn hl; rw [List.append_nil] at this; exact this) r sp) fun r s' hq=>?_)
  cases r with
  | error e=>
   obtain ⟨a,C,H',e1,I',cv,ex,c,ρ',O',hm,st',hE⟩:=I.flies hq
   exact hx.2 pins σ H' s' e c ρ' O' ⟨I',a,C,s.heap,_,e1,cv,ex,hm⟩ st' hE
  | ok fl=>
   cases fl with
   | ret u=>exact I.after hq
   | next=>exact False.elim hq
   | brk=>exact False.elim hq
   | cont=>exact False.elim hq
theorem do_call (hx:XOk X F E) (G:FnOk X.prog X.w X.K X.mg X.base (CXM X.prog X.w) k g fd ps (spF X.K X.mg f)) (hr:Room k X.A) (hg:Gl X x) (hm:X.mg x=some (.ref g)) (hk:PySem.W.keepIn X.K (.ref g)=true) (hb:Binds X.K fd ps [])
  (ha:DX X F (e :: es) tX) (hdb:(x == ("__debug__":Str))=false:=by decide) (he:starEach (e :: es) X.env=(false,eval e X.env) :: starEach es X.env:=by rfl) (hpl:(backTo pos (starEach es X.env)).any (·.1)=false:=by rfl) :
  DO X F (.Call (.Name x p) (e :: es) [] pos) (dCall f E tX):=by
 refine ⟨fun ρ Q Q' k q=>ha.mn _ _ _ (fun as ρ1 q1=>callOn_mn k q1) q,fun pins s σ H Q I ⟨ρ,O,st,q⟩=>?_⟩
 refine wpAny_Call_Name_kw (ld_glob I hg hm ?_ hdb)
 refine PySem.W.callWith_K (h₀:=X.base) I.ok.mod.kin hk (thn (ha.pa pos pins s σ H (fun vs H1=>∃ as ρ1 O1,DSt X.K F H1 σ ρ1 O1/\Stp O H O1 H1/\AxAt σ (hide O1 H1) vs as/\callOn f E (fun c ρ'=>∀ v H' O' fp,Res X.K F H' σ ρ' O' v c fp->Stp O H O' H'->Q v H') as ρ1) I ⟨ρ,O,st,ha.mn _ _ _ (fun as ρ1 q1 vs H1 O1 st1 s1 ax=>⟨as,ρ1,O1,st1,s1,ax,q1⟩) q⟩) fun us s1 ⟨vs,H1,I1,r,as,ρ1,O1,st1,s01,ax,q1⟩=>⟨I1.kIn,?_⟩) he hpl
 exact call_on hx G hr hb I1 r st1 ax q1 fun c ρ' h v H' O' fp res s2=>h v H' O' fp res (s01.trans s2)
end
end L2.L3
namespace L2.L3
open PySem PySem.Spec PyProof.Rows
noncomputable def OOk (H:Hp) (O:List Addr):Prop:=∀ a ∈ O,∃ o,H a=some o/\Mv o
theorem DSt.live {K:PySem.W.Frag} {F:Fx} {H:Hp} {σ:St} {ρ:DEnv} {O:List Addr} (st:DSt K F H σ ρ O):OOk H O:=by
 obtain ⟨W,h,rfl⟩:=st
 exact h.live
noncomputable abbrev DTI:=DEnv->(List PyData->DEnv->Prop)->Prop
noncomputable def Wk (O:List Addr) (H:Hp) (J:It) (its:List PyData):Prop:=∀ O' H',Stp O H O' H'->OOk H' O'->
 (∀ i d,its[i]? = some d->J.go i H'/\∀ x H'',J.yld i H' x H''->Same H' H''/\DV (hide O' H'') x d)/\J.stop its.length H'
noncomputable def rdI (K:PySem.W.Frag) (F:Fx) (s:DTI):TI:=fun σ H R=>∃ ρ O,DSt K F H σ ρ O/\s ρ fun its ρ'=>∀ J H' O',DSt K F H' σ ρ' O'->Stp O H O' H'->Wk O' H' J its->R J H'
structure DI (X:Cx) (F:Fx) (tg iter:Expr) (s:DTI):Prop where
 mn:∀ ρ Q Q',(∀ d ρ',Q d ρ'->Q' d ρ')->s ρ Q->s ρ Q'
 pi:PI X tg iter (rdI X.K F s)
theorem _root_.L2.PI.imp {X:Cx} {tg e:Expr} {t t':TI} (h:PI X tg e t) (k:∀ σ H Q,t' σ H Q->t σ H Q):PI X tg e t':=fun pins s σ H Q I q=>h pins s σ H Q I (k σ H Q q)
section
variable {X:Cx} {F:Fx} {tg e a b:Expr} {te:DT} {tA:DTA} {pos p:Pos}
noncomputable def iL (te:DT):DTI:=fun ρ Q=>te ρ fun d ρ'=>∃ ds,d=.list ds/\Q ds ρ'
noncomputable def iT (te:DT):DTI:=fun ρ Q=>te ρ fun d ρ'=>∃ ds,d=.tuple ds/\Q ds ρ'
theorem wk_list {K:PySem.W.Frag} {O:List Addr} {H:Hp} {a:Addr} {xs:List V} {ds:List PyData} (ha:hide O H a=some (.lst xs)) (hd:DVs (hide O H) xs ds):Wk O H (Itl K a) ds:=fun O' H' s ok=>by
 obtain ⟨h1,n1⟩:=of_hide ha
 have h2:=s.keep a _ n1 h1
 have hd':=DVs.mono s.hid hd
 refine ⟨fun i d e=>?_,⟨xs,.of h2,by rw [hd.length]; exact Nat.le_refl _⟩⟩
 obtain ⟨v,hv,dv⟩:=hd'.get e
 refine ⟨⟨xs,v,.of h2,hv⟩,fun x H'' ⟨e1,e2⟩=>?_⟩
 subst e1
 have:=e2 xs (.of h2)
 rw [hv] at this
 cases this
 exact ⟨fun _ _ h=>h,dv⟩
theorem wk_tup {K:PySem.W.Frag} {O:List Addr} {H:Hp} {a:Addr} {xs:List V} {ds:List PyData} (ha:Rd (hide O H) a (.tup xs)) (hd:DVs (hide O H) xs ds):Wk O H (Itt K a) ds:=fun O' H' s ok=>by
 obtain ⟨h1,n1⟩:=of_hideR ha
 have h2:Rd H' a (.tup xs):=h1.imp (fun e=>s.keep a _ n1 e) fun ⟨o,e⟩=>⟨o,s.keep a _ n1 e⟩
 have hd':=DVs.mono s.hid hd
 refine ⟨fun i d e=>?_,⟨xs,.inl h2,by rw [hd.length]; exact Nat.le_refl _⟩⟩
 obtain ⟨v,hv,dv⟩:=hd'.get e
 refine ⟨⟨xs,v,.inl h2,hv⟩,fun x H'' ⟨e1,e2⟩=>?_⟩
 subst e1
 have:=e2 xs (.inl h2)
 rw [hv] at this
 cases this
 exact ⟨fun _ _ h=>h,dv⟩
theorem di_list (h:DE X F e te):DI X F tg e (iL te):=
 ⟨fun _ _ _ k q=>h.mn _ _ _ (fun _ _ ⟨ds,e,q⟩=>⟨ds,e,k _ _ q⟩) q,(pi_list h.pe).imp fun σ H R ⟨ρ,O,st,q⟩=>
  ⟨ρ,O,st,h.mn _ _ _ (fun d ρ1 ⟨ds,e,q1⟩ v H1 O1 st1 s1 d1=>by
   subst e
   obtain ⟨a,xs,rfl,ha,hd⟩:=d1.lst_inv
   exact ⟨a,rfl,⟨xs,.of (of_hide ha).1⟩,q1 _ H1 O1 st1 s1 (wk_list ha hd)⟩) q⟩⟩
theorem di_tup (h:DE X F e te):DI X F tg e (iT te):=
 ⟨fun _ _ _ k q=>h.mn _ _ _ (fun _ _ ⟨ds,e,q⟩=>⟨ds,e,k _ _ q⟩) q,(pi_tup h.pe).imp fun σ H R ⟨ρ,O,st,q⟩=>
  ⟨ρ,O,st,h.mn _ _ _ (fun d ρ1 ⟨ds,e,q1⟩ v H1 O1 st1 s1 d1=>by
   subst e
   obtain ⟨a,xs,rfl,ha,hd⟩:=d1.tup_inv
   exact ⟨a,rfl,⟨xs,.inl (of_hideR ha).1⟩,q1 _ H1 O1 st1 s1 (wk_tup ha hd)⟩) q⟩⟩
noncomputable def intsFrom (lo:Int) (n:Nat):List PyData:=(List.range n).map fun (i:Nat)=>PyData.int (lo + i)
theorem intsFrom_length (lo:Int) (n:Nat):(intsFrom lo n).length=n:=by unfold intsFrom; rw [List.length_map,List.length_range]
theorem wk_range {O:List Addr} {H:Hp} {lo:Int} {n:Nat}:Wk O H (Itr lo n) (intsFrom lo n):=fun O' H' s ok=>by
 refine ⟨fun i d e=>?_,by show n<=(intsFrom lo n).length; rw [intsFrom_length]; exact Nat.le_refl _⟩
 unfold intsFrom at e
 rw [List.getElem?_map] at e
 obtain ⟨j,e1,e2⟩:=Option.map_eq_some_iff.mp e
 obtain ⟨hlt,e3⟩:=List.getElem?_eq_some_iff.mp e1
 rw [List.length_range] at hlt
 rw [List.getElem_range] at e3
 subst e3 e2
 exact ⟨hlt,fun x H'' ⟨q1,q2⟩=>by subst q1 q2; exact ⟨fun _ _ h=>h,.int _⟩⟩
noncomputable def iR1 (t:DTA):DTI:=fun ρ Q=>t ρ fun ds ρ'=>∃ j:Int,ds=[.int j]/\-(2 ^ 62)<=j/\j < 2 ^ 62/\Q (intsFrom 0 j.toNat) ρ'
theorem di_range1 (hg:Gl X "range") (hm:X.mg "range" = none) (ha:DA X F [a] tA) (hs:starEach [a] X.env=[(false,eval a X.env)]:=by rfl):DI X F tg (.Call (.Name "range" p) [a] [] pos) (iR1 tA):=
 ⟨fun _ _ _ k q=>ha.mn _ _ _ (fun _ _ ⟨j,e,h1,h2,q⟩=>⟨j,e,h1,h2,k _ _ q⟩) q,(pi_range1 hg hm ha.pa hs).imp fun σ H R ⟨ρ,O,st,q⟩=>
  ⟨ρ,O,st,ha.mn _ _ _ (fun ds ρ1 ⟨j,e,h1,h2,q1⟩ vs H1 O1 st1 s1 d1=>by
   subst e
   cases d1 with
   | cons d r=>
    cases r
    obtain rfl:=d.int_inv
    exact ⟨j,rfl,h1,h2,q1 _ H1 O1 st1 s1 wk_range⟩) q⟩⟩
end
noncomputable def sFor (s:DTI) (g:DTG) (tb:DTS):DTS:=fun D ρ=>s ρ fun its ρ1=>∃ Iv:Nat->DEnv->Prop,Iv 0 ρ1/\(∀ i d ρ,its[i]? = some d->Iv i ρ->g d ρ fun ρ2=>tb { D with nx:=Iv (i + 1),ct:=Iv (i + 1),bk:=D.nx } ρ2)/\∀ ρ,Iv its.length ρ->D.nx ρ
section
variable {X:Cx} {F:Fx} {tg iter:Expr} {body:List Stmt} {s:DTI} {g:DTG} {tb:DTS} {pos:Pos}
theorem ds_for (hp:PassesOwn (model X.prog X.w) X.A X.env X.xe) (hc:X.calm=true) (hi:DI X F tg iter s) (hg:DG X F tg g) (hb:DSs X F body tb) (hs:∀ x,foldedSetIterable iter X.env x=pure x:=by intro _; rfl):DS X F (.For tg iter body [] pos) (sFor s g tb):=
 (ps_for hp hc hi.pi hg.pg hb hs).imp fun D σ H ⟨ρ,O,DD,st,q,f⟩=>by
  refine ⟨ρ,O,st,hi.mn _ _ _ (fun its ρ1 ⟨Iv,i0,step,fin⟩ J H1 O1 st1 s1 wk=>?_) q⟩
  refine ⟨fun i m σ' H'=>∃ ρ' O',DSt X.K F H' σ' ρ' O'/\Stp O1 H1 O' H'/\Iv i ρ'/\i<=its.length/\m=its.length - i,⟨its.length,ρ1,O1,st1,.refl,i0,Nat.zero_le _,rfl⟩,?_⟩
  rintro i m σ' H' ⟨ρ',O',st',s',iv,hi',rfl⟩
  obtain ⟨w1,w2⟩:=wk O' H' s' st'.live
  by_cases hlt:i < its.length
  ·obtain ⟨go,yld⟩:=w1 i its[i] (List.getElem?_eq_getElem hlt)
   refine .inr ⟨go,fun σ2 H2=>∃ ρ2 O2,DSt X.K F H2 σ2 ρ2 O2/\Stp O1 H1 O2 H2/\Iv (i + 1) ρ2,fun σ2 H2 ⟨ρ2,O2,st2,s2,iv2⟩=>⟨its.length - (i + 1),by omega,ρ2,O2,st2,s2,iv2,hlt,rfl⟩,fun x H2 hy=>?_⟩
   obtain ⟨sm,dv⟩:=yld x H2 hy
   refine ⟨ρ',O',its[i],st'.grow sm,dv,hg.mn _ _ _ _ (fun ρ2 q2 σ3 H3 O3 st3 s3=>?_) (step i its[i] ρ' (List.getElem?_eq_getElem hlt) iv)⟩
   have s13:Stp O1 H1 O3 H3:=s'.trans ((Stp.same sm).trans s3)
   have nxt:∀ σ4 H4 ρ4 O4,DSt X.K F H4 σ4 ρ4 O4->Stp O3 H3 O4 H4->Iv (i + 1) ρ4->∃ ρ2 O2,DSt X.K F H4 σ4 ρ2 O2/\Stp O1 H1 O2 H4/\Iv (i + 1) ρ2:=fun σ4 H4 ρ4 O4 st4 s4 q4=>⟨ρ4,O4,st4,s13.trans s4,q4⟩
   exact ⟨ρ2,O3,_,st3,q2,⟨nxt,fun v σ4 H4 d ρ4 O4 fp4 st4 s4 q4=>f.rt v σ4 H4 d ρ4 O4 fp4 st4 (s1.trans (s13.trans s4)) q4,fun σ4 H4 ρ4 O4 st4 s4 q4=>f.nx σ4 H4 ρ4 O4 st4 (s1.trans (s13.trans s4)) q4,nxt⟩⟩
  ·have e:i=its.length:=by omega
   subst e
   exact .inl ⟨w2,f.nx σ' H' ρ' O' st' (s1.trans s') (fin ρ' iv)⟩
end
end L2.L3
namespace L2.L3
open PySem PySem.Spec PyProof.Rows
@[simp] noncomputable def capC:Option (Option Cell)->Option Cell
 | some (some (.dat d))=>some (.dat d)
 | some (some (.scr ns))=>some (.scr ns)
 | some (some (.vw b))=>some (.vw b)
 | _=>none
noncomputable def liftD (own:List Str) (caps:List Nat) (ρ:DEnv):DEnv:=own.map (fun _=>none) ++ caps.map fun j=>capC ρ[j]?
noncomputable def dCmp (own:List Str) (caps:List Nat) (s:DTI) (g:DTG) (tc:DTT) (te:DT):DT:=fun ρ Q=>s ρ fun its ρ1=>∃ Iv:Nat->List PyData->DEnv->Prop,Iv 0 [] (liftD own caps ρ1)/\
 (∀ i d ys ρ',its[i]? = some d->Iv i ys ρ'->g d ρ' fun ρ2=>tc ρ2 fun b ρ3=>if b=true then te ρ3 fun y ρ4=>ys.length < sizeLine/\Iv (i + 1) (ys ++ [y]) ρ4 else Iv (i + 1) ys ρ3)/\
 ∀ ys ρ',Iv its.length ys ρ'->ys.length<=sizeLine/\Q (.list ys) ρ1
noncomputable def MnI (s:DTI):Prop:=∀ ρ Q Q',(∀ d ρ',Q d ρ'->Q' d ρ')->s ρ Q->s ρ Q'
section
variable {K:PySem.W.Frag} {F:Fx} {own:List Str} {caps:List Nat} {s:DTI} {g:DTG} {tc:DTT} {te:DT}
theorem mn_cmp (hs:MnI s):Mn (dCmp own caps s g tc te):=fun _ _ _ k q=>hs _ _ _ (fun _ _ ⟨Iv,h0,h1,h2⟩=>⟨Iv,h0,h1,fun ys ρ' h=>⟨(h2 ys ρ' h).1,k _ _ (h2 ys ρ' h).2⟩⟩) q
theorem rd_cmp {PF:Fx->Prop} (hP:∀ H1 σ ρ1 O1 O2,DSt K F H1 σ ρ1 O1->PF ⟨H1,[],O2,fun _=>0⟩) (hs:MnI s) (hg:∀ d ρ Q Q',(∀ ρ',Q ρ'->Q' ρ')->g d ρ Q->g d ρ Q') (ht:MnT tc) (he:Mn te):∀ σ H Q,rdE K F (dCmp own caps s g tc te) σ H Q->
  tComp own caps (rdI K F s) (fun v σ H Q=>∃ F',PF F'/\rdG K F' g v σ H Q) (fun σ H Q=>∃ F',PF F'/\rdT K F' tc σ H Q) (fun σ H Q=>∃ F',PF F'/\rdE K F' te σ H Q) σ H Q:=fun σ H Q ⟨ρ,O,st,q⟩=>by
 refine ⟨ρ,O,st,hs _ _ _ (fun its ρ1 ⟨Iv,i0,step,fin⟩ J H1 O1 st1 s1 wk=>?_) q⟩
 refine ⟨fun i m ys σ' H'=>∃ ρ' O' ds,DSt K ⟨H1,[],O1,fun _=>0⟩ H' σ' ρ' O'/\Iv i ds ρ'/\DVs (hide O' H') ys ds/\i<=its.length/\m=its.length - i,⟨its.length,liftD own caps ρ1,O1,[],?_,i0,.nil,Nat.zero_le _,rfl⟩,?_⟩
 ·have cell:∀ (i:Nat) (c:Cell),(liftD own caps ρ1)[i]? = some (some c)->(∀ io b,c ≠ .own io b)/\∃ v,(liftC own caps σ)[i]? = some (some v)/\CellAt K H1 O1 v c []:=fun i c e=>by
   unfold liftD at e
   unfold liftC
   by_cases hi:i < own.length
   ·rw [List.getElem?_append_left (by simpa using hi),List.getElem?_map] at e
    cases h:own[i]? with
    | none=>rw [h] at e; cases e
    | some y=>rw [h] at e; cases e
   ·rw [List.getElem?_append_right (by simpa using Nat.le_of_not_lt hi),List.length_map,List.getElem?_map] at e
    rw [List.getElem?_append_right (by simpa using Nat.le_of_not_lt hi),List.length_map,List.getElem?_map]
    obtain ⟨j,h1,h2⟩:=Option.map_eq_some_iff.mp e
    rw [h1]
    show _/\∃ v,some ((σ[j]?).getD none)=some (some v)/\_
    cases h3:ρ1[j]? with
    | none=>rw [h3] at h2; cases h2
    | some o=>
     cases o with
     | none=>rw [h3] at h2; cases h2
     | some c'=>
      rw [h3] at h2
      obtain ⟨W,stw,rfl⟩:=id st1
      obtain ⟨v,fp,e1,_,e2⟩:=stw.at_ j c' h3
      rw [e1]
      cases c' with
      | dat d=>cases h2; exact ⟨(fun _ _ z=>by cases z),v,rfl,e2⟩
      | scr ns=>cases h2; exact ⟨(fun _ _ z=>by cases z),v,rfl,e2⟩
      | own _ _=>cases h2
      | exc _=>cases h2
      | vw b=>cases h2; exact ⟨(fun _ _ z=>by cases z),v,rfl,e2⟩
  obtain ⟨W,stw,hO1⟩:=id st1
  have ln:(liftD own caps ρ1).length=(liftC own caps σ).length:=by unfold liftD liftC; simp
  have fl:(List.replicate (liftD own caps ρ1).length ([]:List Addr)).flatten ++ O1=O1:=by rw [flat_rep]; rfl
  refine ⟨List.replicate (liftD own caps ρ1).length [],⟨fun i c e=>?_,by show (_ ++ O1).Nodup; rw [fl,hO1]; exact stw.nd,fun _ _ _ h=>h,fun a h=>?_,by show OOk H1 (_ ++ O1); rw [fl]; exact st1.live,ln,by simp,fun i b e=>absurd rfl ((cell i _ e).1 true b)⟩,fl.symm⟩
  ·obtain ⟨_,v,e1,e2⟩:=cell i c e
   refine ⟨v,[],e1,?_,by show CellAt K H1 (_ ++ O1) v c []; rw [fl]; exact e2⟩
   rw [List.getElem?_replicate,if_pos (List.getElem?_eq_some_iff.mp e).1]
  ·rw [flat_rep] at h; cases h
 ·rintro i m ys σ' H' ⟨ρ',O',ds,st',iv,dv,hi,rfl⟩
  have sm:Same H1 H':=fun b o e=>by obtain ⟨W',h',_⟩:=id st'; exact h'.kept b o (by simp) e
  have stp:Stp O1 H1 O' H':=⟨fun b o _ e=>sm b o e,fun a h=>by
   obtain ⟨W',h',rfl⟩:=id st'
   rcases List.mem_append.mp h with h | h
   ·exact (h'.new a h).elim (fun z=>absurd z (by simp)) .inr
   ·exact .inl h⟩
  have sub1:∀ a ∈ O1,a ∈ O':=fun a h=>by obtain ⟨W',h',rfl⟩:=id st'; exact List.mem_append_right _ h
  obtain ⟨w1,w2⟩:=wk O' H' stp st'.live
  by_cases hlt:i < its.length
  ·obtain ⟨go,yld⟩:=w1 i its[i] (List.getElem?_eq_getElem hlt)
   refine .inr ⟨go,fun x H2 hy=>?_⟩
   obtain ⟨sm2,dx⟩:=yld x H2 hy
   refine ⟨⟨H1,[],O1,fun _=>0⟩,hP _ _ _ _ _ st1,ρ',O',its[i],st'.grow sm2,dx,hg _ _ _ _ (fun ρ2 q2 σ3 H3 O3 st3 s3=>?_) (step i its[i] ds ρ' (List.getElem?_eq_getElem hlt) iv)⟩
   refine ⟨⟨H1,[],O1,fun _=>0⟩,hP _ _ _ _ _ st1,ρ2,O3,st3,ht _ _ _ (fun b ρ3 q3 H4 O4 st4 s4=>?_) q2⟩
   have d4:DVs (hide O4 H4) ys ds:=DVs.mono s4.hid (DVs.mono s3.hid (DVs.mono (hide_same sm2) dv))
   cases b with
   | false=>exact iteF ⟨its.length - (i + 1),by omega,ρ3,O4,ds,st4,ofF q3,d4,hlt,rfl⟩
   | true=>
    refine iteT ⟨⟨H1,[],O1,fun _=>0⟩,hP _ _ _ _ _ st1,ρ3,O4,st4,he _ _ _ (fun y ρ4 q4 v H5 O5 st5 s5 dy=>?_) (ofT q3)⟩
    refine ⟨by rw [d4.length]; exact q4.1,its.length - (i + 1),by omega,ρ4,O5,ds ++ [y],st5,q4.2,(DVs.mono s5.hid d4).append (.cons dy .nil),hlt,rfl⟩
  ·have e:i=its.length:=by omega
   subst e
   obtain ⟨hz,q⟩:=fin ds ρ' iv
   refine .inl ⟨w2,by rw [dv.length]; exact hz,fun p hp=>?_⟩
   have pO':=st'.nofree p hp
   exact q _ _ O1 (st1.grow fun b o e=>same_upd hp _ _ (sm b o e)) (s1.trans (.same fun b o e=>same_upd hp _ _ (sm b o e))) (dv_new_lst hp (fun z=>pO' (sub1 p z)) (DVs.mono (hide_more sub1) dv))
end
noncomputable def DBs (X:Cx) (F:Fx) (ifs:List Expr) (t:DTT):Prop:=MnT t/\PTs X ifs (rdT X.K F t)
noncomputable def bYes:DTT:=fun ρ Q=>Q true ρ
theorem dbs_nil {X:Cx} {F:Fx}:DBs X F [] bYes:=⟨fun _ _ _ k q=>k _ _ q,fun pins s σ H Q I ⟨ρ,O,st,q⟩=>pts_nil pins s σ H Q I (q H O st .refl)⟩
theorem dbs_one {X:Cx} {F:Fx} {c:Expr} {t:DTT} (h:DB X F c t):DBs X F [c] t:=⟨h.mn,pts_one h.pt⟩
section
variable {X:Cx} {F:Fx} {scope:Scope} {own capN:List Str} {caps:List Nat} {tg iter elt:Expr} {ifs:List Expr} {s:DTI} {g:DTG} {tc:DTT} {te:DT} {pos:Pos}
theorem de_comp (hG:GF X.mg F) (S:CompScope X scope own capN caps) (hc:X.calm=true) (hi:DI X F tg iter s)
  (hin:∀ C fp s₂ H₂ pl F',GF X.mg F'->DG (compCx X scope (own ++ capN) C fp s₂ H₂ pl) F' tg g/\DBs (compCx X scope (own ++ capN) C fp s₂ H₂ pl) F' ifs tc/\DE (compCx X scope (own ++ capN) C fp s₂ H₂ pl) F' elt te)
  (hs:∀ x,foldedSetIterable iter X.env x=pure x:=by intro _; rfl):DE X F (.ListComp elt [⟨tg,iter,ifs,0⟩] scope pos) (dCmp own caps s g tc te):=by
 have F0:Fx:=F
 obtain ⟨hg,ht,he⟩:=hin 0 [] (PySem.start X.prog).1 (fun _=>none) [] F hG
 refine ⟨mn_cmp hi.mn,(pe_comp S hc hi.pi (fun C fp s₂ H₂ pl=>⟨fun pins s σ H v u Q I r ⟨F',g',q⟩=>(hin C fp s₂ H₂ pl F' g').1.pg pins s σ H v u Q I r q,fun pins s σ H Q I ⟨F',g',q⟩=>(hin C fp s₂ H₂ pl F' g').2.1.2 pins s σ H Q I q,fun pins s σ H Q I ⟨F',g',q⟩=>(hin C fp s₂ H₂ pl F' g').2.2.pe pins s σ H Q I q⟩) hs).imp (rd_cmp (fun _ _ _ _ _ st=>hG.into st) hi.mn hg.mn ht.1 he.mn)⟩
theorem ds_setComp {i:Nat} {y:Str} {py spos:Pos} (hN:X.N.Nodup) (hi':X.N[i]? = some y) (hx:Loc X.env.scope y) (hG:GF X.mg F) (S:CompScope X scope own capN caps) (hc:X.calm=true) (hi:DI X F tg iter s)
  (hin:∀ C fp s₂ H₂ pl F',GF X.mg F'->DG (compCx X scope (own ++ capN) C fp s₂ H₂ pl) F' tg g/\DBs (compCx X scope (own ++ capN) C fp s₂ H₂ pl) F' ifs tc/\DE (compCx X scope (own ++ capN) C fp s₂ H₂ pl) F' elt te)
  (hsw:swapsWith (.ListComp elt [⟨tg,iter,ifs,0⟩] scope pos) (some (.Name y py)) spos.line X.env=pure true:=by rfl)
  (hs:∀ x,foldedSetIterable iter X.env x=pure x:=by intro _; rfl) (hf:X.fn y=true\/X.env.scope.names.lookup y=some .local:=by first | exact .inl rfl | exact .inr rfl | assumption) :
  DS X F (.Assign [.Name y py] (.ListComp elt [⟨tg,iter,ifs,0⟩] scope pos) spos) (sSet (dCmp own caps s g tc te) (gN i)):=by
 obtain ⟨hg,ht,he⟩:=hin 0 [] (PySem.start X.prog).1 (fun _=>none) [] F hG
 refine (ps_setComp hN hi' hx S hc hi.pi (fun C fp s₂ H₂ pl=>⟨fun pins s σ H v u Q I r ⟨F',g',q⟩=>(hin C fp s₂ H₂ pl F' g').1.pg pins s σ H v u Q I r q,fun pins s σ H Q I ⟨F',g',q⟩=>(hin C fp s₂ H₂ pl F' g').2.1.2 pins s σ H Q I q,fun pins s σ H Q I ⟨F',g',q⟩=>(hin C fp s₂ H₂ pl F' g').2.2.pe pins s σ H Q I q⟩) hsw hs hf).imp
  fun D σ H ⟨ρ,O,DD,st,q,f⟩=>rd_cmp (fun _ _ _ _ _ st=>hG.into st) hi.mn hg.mn ht.1 he.mn σ H _ ⟨ρ,O,st,mn_cmp hi.mn _ _ _ (fun d ρ1 q1 v H1 O1 st1 s1 d1=>f.nx _ H1 _ O1 (st1.set d1) s1 q1) q⟩
end
end L2.L3
namespace L2
open PySem PySem.Spec PyProof.Rows
end L2
namespace L2.L3
open PySem PySem.Spec PyProof.Rows
noncomputable def fLen:DN:=fun xs Q=>∃ ds,(xs=[.list ds]\/xs=[.tuple ds])/\Q (.int ds.length)
theorem n_len {K:PySem.W.Frag}:OpN (fun xs H Q=>∃ p ys,xs=[.ref p]/\(SqL K H p ys\/SqT K H p ys)/\Q (.int ys.length) H) fLen where
 mn:=fun _ _ _ k ⟨ds,e,q⟩=>⟨ds,e,k _ q⟩
 ok:=fun O H vs xs Q hO hd ⟨ds,e,q⟩=>by
  rcases e with rfl | rfl
  ·cases hd with
   | cons d r=>
    cases r
    obtain ⟨a,ys,rfl,ha,hy⟩:=d.lst_inv
    exact ⟨a,ys,rfl,.inl (.of (of_hide ha).1),by rw [hy.length]; exact q _ H (fun _ _ h=>h) (.int _)⟩
  ·cases hd with
   | cons d r=>
    cases r
    obtain ⟨a,ys,rfl,ha,hy⟩:=d.tup_inv
    exact ⟨a,ys,rfl,.inr (.inl (of_hideR ha).1),by rw [hy.length]; exact q _ H (fun _ _ h=>h) (.int _)⟩
theorem dvs2 {H:Hp} {vs:List V} {a b:PyData} (h:DVs H vs [a,b]):∃ x y,vs=[x,y]/\DV H x a/\DV H y b:=by
 cases h with | cons d r=>cases r with | cons d' r=>cases r; exact ⟨_,_,rfl,d,d'⟩
theorem dvs1 {H:Hp} {vs:List V} {a:PyData} (h:DVs H vs [a]):∃ x,vs=[x]/\DV H x a:=by
 cases h with | cons d r=>cases r; exact ⟨_,rfl,d⟩
noncomputable def fInt:DN:=fun xs Q=>(∃ i,xs=[.int i]/\Q (.int i))\/∃ b:Bool,xs=[.bool b]/\Q (.int (if b then 1 else 0))
theorem n_int:OpN (fun xs H Q=>(∃ i,xs=[.int i]/\Q (.int i) H)\/∃ k,xs=[.bl k]/\Q (.int (if k then 1 else 0)) H) fInt where
 mn:=fun _ _ _ k q=>q.imp (fun ⟨i,e,q⟩=>⟨i,e,k _ q⟩) fun ⟨i,e,q⟩=>⟨i,e,k _ q⟩
 ok:=fun O H vs xs Q hO hd q=>by
  rcases q with ⟨i,e,q⟩ | ⟨i,e,q⟩
  ·subst e
   obtain ⟨x,rfl,h1⟩:=dvs1 hd
   exact .inl ⟨i,by rw [h1.int_inv],q _ H (fun _ _ h=>h) (.int _)⟩
  ·subst e
   obtain ⟨x,rfl,h1⟩:=dvs1 hd
   exact .inr ⟨i,by rw [h1.bl_inv],q _ H (fun _ _ h=>h) (.int _)⟩
noncomputable def fDivmod:DN:=fun xs Q=>∃ i j:Int,xs=[.int i,.int j]/\CDiv i j/\Q (.tuple [.int (i / j),.int (i % j)])
theorem n_divmod:OpN (fun xs H Q=>∃ i j,xs=[.int i,.int j]/\CDiv i j/\∀ p,H p=none->Q (.ref p) (upd H p (.tup [.int (i / j),.int (i % j)]))) fDivmod where
 mn:=fun _ _ _ k ⟨i,j,e,c,q⟩=>⟨i,j,e,c,k _ q⟩
 ok:=fun O H vs xs Q hO hd ⟨i,j,e,c,q⟩=>by
  subst e
  obtain ⟨x,y,rfl,h1,h2⟩:=dvs2 hd
  exact ⟨i,j,by rw [h1.int_inv,h2.int_inv],c,fun p hp=>q _ _ (same_upd hp) (dv_new_tup hp (hO p hp) (.cons (.int _) (.cons (.int _) .nil)))⟩
section
variable {X:Cx} {F:Fx} {a b c e:Expr} {te:DT} {tA:DTA} {pos p p1 p2 pos2:Pos} {x:Str} {i:Nat}
noncomputable def dLenS (i:Nat):DT:=fun ρ Q=>∃ ns,ρ[i]? = some (some (.scr ns))/\(ns.length<=63->Q (.int ns.length) ρ)
theorem de_lenS (hg:Gl X "len") (hm:X.mg "len" = none) (h:PE X (.Name x p1) (tVar i)) (he:starEach [.Name x p1] X.env=(false,eval (.Name x p1) X.env) :: starEach [] X.env:=by rfl) (hpl:(backTo pos (starEach [] X.env)).any (·.1)=false:=by rfl) :
  DE X F (.Call (.Name "len" p) [.Name x p1] [] pos) (dLenS i):=
 ⟨fun _ _ _ k ⟨ns,e,q⟩=>⟨ns,e,fun h=>k _ _ (q h)⟩,(pe_callB call_len_seq hg hm PySem.boot_len (pa_cons h pa_nil he) (by decide) (by decide) he hpl).imp fun σ H Q ⟨ρ,O,st,ns,e,q⟩=>by
  obtain ⟨sa,hv,hs⟩:=st.scr e
  refine ⟨_,hv,sa,ns.map V.int,rfl,.inl hs.sq,?_⟩
  rw [List.length_map]
  exact q hs.1 _ H O st .refl (.int _)⟩
noncomputable def dIxS (i:Nat) (te:DT):DT:=fun ρ Q=>∃ ns,ρ[i]? = some (some (.scr ns))/\te ρ fun d ρ'=>∃ k n,d=.int k/\atI ns k=some n/\Q (.int n) ρ'
theorem atI_map {α β:Type} {g:α->β} {l:List α} {k:Int} {n:α} (h:atI l k=some n):atI (l.map g) k=some (g n):=by
 unfold atI at h ⊢
 rw [List.length_map]
 cases q:ixN l.length k with
 | none=>rw [q] at h; cases h
 | some j=>
  rw [q] at h
  show (l.map g)[j]? = some (g n)
  rw [List.getElem?_map]
  have h:l[j]? = some n:=h
  rw [h]
  rfl
theorem de_ixS (h:PE X (.Name x p1) (tVar i)) (he:DE X F e te) (hs:PlainIx e):DE X F (.Subscript (.Name x p1) e pos) (dIxS i te):=
 ⟨fun _ _ _ k ⟨ns,e,q⟩=>⟨ns,e,he.mn _ _ _ (fun _ _ ⟨k',n,e1,e2,q⟩=>⟨k',n,e1,e2,k _ _ q⟩) q⟩,(pe_ix ix_list h he.pe hs).imp fun σ H Q ⟨ρ,O,st,ns,e,q⟩=>by
  obtain ⟨sa,hv,hs⟩:=st.scr e
  refine ⟨_,hv,ρ,O,st,he.mn _ _ _ (fun d ρ1 ⟨k,n,e1,e2,q1⟩ w H1 O1 st1 s1 d1=>?_) q⟩
  subst e1
  have hs1:Scr X.K H1 sa ns:=hs.mono fun o u q=>s1.keep _ _ (fun z=>by obtain ⟨xs,e,m⟩:=st.live _ z; rw [q] at e; cases e; exact m) q
  exact ⟨sa,ns.map V.int,k,.int n,rfl,d1.int_inv,hs1.sq,atI_map e2,q1 _ H1 O1 st1 s1 (.int _)⟩⟩
noncomputable def rEqS (K:PySem.W.Frag):R2:=fun x y H Q=>∃ a b ns,x=.ref a/\y=.ref b/\SqL K H a (ns.map V.int)/\H b=some (.lst [])/\Q (.bl (decide (ns=[]))) H
theorem reads_ints {h:Heap}:∀ {ns:List Int} {us:List Value},Vals (ns.map V.int) us->∃ as,ReadsAll h us (ns.map PyData.int) as
 | [],_,r=>by cases r; exact ⟨_,.nil⟩
 | n :: ns,_,r=>by
  cases r with
  | cons r1 r=>
   obtain ⟨t,rfl⟩:=r1
   obtain ⟨as,q⟩:=reads_ints r
   exact ⟨_,.cons (.int n t) q⟩
theorem op_eqS (hu:X.A.units + 64 < cLine):OpR X (compareOp .Eq) (rEqS X.K):=by
 intro pins s σ H x y v u Q I rx ry h
 obtain ⟨a,b,ns,rfl,rfl,h1,h2,q⟩:=h
 cases rx; cases ry
 obtain ⟨its,rv,⟨o,n,e,c1,_,d1⟩,hz⟩:=I.list h1
 obtain ⟨_,its2,n2,rv2,e2⟩:=I.hok _ _ h2
 cases rv2
 obtain ⟨as,ra⟩:=reads_ints (h:=s.heap) rv
 have e3:PyData.eqv (.list (ns.map .int)) (.list [])=decide (ns=[]):=by cases ns <;> rfl
 refine eq_dataH (reads_list_at e c1 d1 (by simpa using ra)) (reads_list_at (xs:=[]) e2 rfl rfl .nil) ?_ (by decide) hu (by rw [e3]; exact ⟨.bl _,H,I,rfl,q⟩)
 unfold SeqAt.shaped
 have c0:PyData.canLay0 (.list (ns.map .int))=true:=by
  have:∀ ns:List Int,PyData.canLayAll0 (ns.map .int)=true:=fun ns=>by
   induction ns with
   | nil=>rfl
   | cons n r ih=>rw [List.map_cons]; simp only [PyData.canLayAll0,PyData.canLay0,ih,Bool.and_self]
  simp only [PyData.canLay0,this]
 have dp:PyData.depth (.list (ns.map .int))<=64:=by
  have:∀ ns:List Int,PyData.depthAll (ns.map .int)<=1:=fun ns=>by
   induction ns with
   | nil=>simp [PyData.depthAll]
   | cons n r ih=>rw [List.map_cons]; simp only [PyData.depthAll,PyData.depth]; omega
  have:=this ns
  simp only [PyData.depth]
  omega
 rw [c0,Bool.true_and]
 exact decide_eq_true dp
noncomputable def dEqS (i:Nat):DTT:=fun ρ Q=>∃ ns,ρ[i]? = some (some (.scr ns))/\Q (decide (ns=[])) ρ
theorem db_eqS {lp:Pos} (hu:X.A.units + 64 < cLine) (h:PE X (.Name x p1) (tVar i)):DB X F (.Compare (.Name x p1) [.Eq] [.List [] lp] pos) (dEqS i):=
 ⟨fun _ _ _ k ⟨ns,e,q⟩=>⟨ns,e,k _ _ q⟩,(pt_cmpR (op_eqS hu) h (pe_lst pa_nil) (nomark _)).imp fun σ H Q ⟨ρ,O,st,ns,e,q⟩=>by
  obtain ⟨sa,hv,hs⟩:=st.scr e
  refine ⟨_,hv,Nat.zero_le _,fun p hp=>⟨sa,p,ns,rfl,rfl,(same_upd hp).seq hs.sq,upd_same,_,rfl,q _ O (st.grow (same_upd hp)) (.same (same_upd hp))⟩⟩⟩
end
end L2.L3
namespace L2.L3
open PySem PySem.Spec PyProof.Rows
structure FD (K:PySem.W.Frag) (mg:Str->Option Value) (x:Str) (st:Stmt) (ps:List Str) (g:Addr) (fd:FuncData):Prop where
 fn:Fun K x x st g fd
 mgf:mg x=some (.ref g)
 b:Binds K fd ps []
section
variable {X:Cx} {scope:Scope} {own capN:List Str} {caps:List Nat}
theorem CompScope.of (h1:scope.kind=.function:=by rfl) (h2:(scope.names.all fun y=>scope.names.lookup y.1 == some y.2)=true:=by rfl)
  (h3:(scope.names.all fun y=>y.2 != .free || (X.env.kindOf y.1 == some .cell || X.env.kindOf y.1 == some .free))=true:=by rfl)
  (h4:(scope.names.all fun y=>y.2 != .local || scope.names.lookup y.1 == some .local)=true:=by rfl) (h5:caps.map (fun j=>X.N[j]?)=capN.map some:=by rfl)
  (h6:(capN.all fun x=>scope.names.lookup x == some .free)=true:=by rfl):CompScope X scope own capN caps where
 kind:=h1
 one:=fun y hy=>eq_of_beq (List.all_eq_true.mp h2 y hy)
 free:=fun y hy e=>by
  have:=List.all_eq_true.mp h3 y hy
  rw [e] at this
  rw [Bool.or_eq_true] at this
  rcases this with z | z
  ·exact absurd z (by decide)
  ·rw [Bool.or_eq_true] at z
   exact z.imp (fun z=>eq_of_beq z) fun z=>eq_of_beq z
 loc:=fun y hy e=>by
  have:=List.all_eq_true.mp h4 y hy
  rw [e] at this
  rw [Bool.or_eq_true] at this
  rcases this with z | z
  ·exact absurd z (by decide)
  ·exact eq_of_beq z
 caps:=h5
 capf:=fun x hx=>eq_of_beq (List.all_eq_true.mp h6 x hx)
end
section
variable {X:Cx} {F:Fx} {a b c e:Expr} {ta tb tc:DT} {pos:Pos}
noncomputable abbrev qI (g:Int->Int->Int):D2:=fI (fun _ _=>True) fun i j=>.int (g i j)
noncomputable abbrev qB (g:Int->Int->Bool):D2:=fI (fun _ _=>True) fun i j=>.bool (g i j)
theorem de_add (ha:DE X F a ta) (hb:DE X F b tb):DE X F (.BinOp a .Add b pos) (dOp (qI fun i j=>i + j) ta tb):=de_op op_add (o_int0 fun _ _ _=>.int _) ha hb
theorem de_sub (ha:DE X F a ta) (hb:DE X F b tb):DE X F (.BinOp a .Sub b pos) (dOp (qI fun i j=>i - j) ta tb):=de_op op_sub (o_int0 fun _ _ _=>.int _) ha hb
theorem de_mul (ha:DE X F a ta) (hb:DE X F b tb):DE X F (.BinOp a .Mult b pos) (dOp (fI CMul fun i j=>.int (i * j)) ta tb):=de_op op_mul (o_int fun _ _ _=>.int _) ha hb
theorem de_div (ha:DE X F a ta) (hb:DE X F b tb):DE X F (.BinOp a .FloorDiv b pos) (dOp (fI CDiv fun i j=>.int (i / j)) ta tb):=de_op op_fdiv (o_int fun _ _ _=>.int _) ha hb
theorem de_mod (ha:DE X F a ta) (hb:DE X F b tb):DE X F (.BinOp a .Mod b pos) (dOp (fI (fun _ j=>0 < j) fun i j=>.int (i % j)) ta tb):=de_op op_mod (o_int fun _ _ _=>.int _) ha hb
theorem de_cat (ha:DE X F a ta) (hb:DE X F b tb):DE X F (.BinOp a .Add b pos) (dOp fCatL ta tb):=de_op op_cat o_catL ha hb
theorem db_lt (ha:DE X F a ta) (hb:DE X F b tb):DB X F (.Compare a [.Lt] [b] pos) (dTst (dOp (qB fun i j=>decide (i < j)) ta tb)):=db_cmp op_lt (o_int0 fun _ _ _=>.bl _) ha hb (nomark _)
theorem db_le (ha:DE X F a ta) (hb:DE X F b tb):DB X F (.Compare a [.LtE] [b] pos) (dTst (dOp (qB fun i j=>decide (i<=j)) ta tb)):=db_cmp op_le (o_int0 fun _ _ _=>.bl _) ha hb (nomark _)
theorem db_gt (ha:DE X F a ta) (hb:DE X F b tb):DB X F (.Compare a [.Gt] [b] pos) (dTst (dOp (qB fun i j=>decide (j < i)) ta tb)):=db_cmp op_gt (o_int0 fun _ _ _=>.bl _) ha hb (nomark _)
theorem de_eq (hu:X.A.units + 64 < cLine) (ha:DE X F a ta) (hb:DE X F b tb):DE X F (.Compare a [.Eq] [b] pos) (dOp (fEq false) ta tb):=de_cmp (op_eqD hu) o_eq ha hb (nomark _)
theorem de_ne (hu:X.A.units + 64 < cLine) (ha:DE X F a ta) (hb:DE X F b tb):DE X F (.Compare a [.NotEq] [b] pos) (dOp (fEq true) ta tb):=de_cmp (op_neD hu) o_eq ha hb (nomark _)
theorem db_ne (hu:X.A.units + 64 < cLine) (ha:DE X F a ta) (hb:DE X F b tb):DB X F (.Compare a [.NotEq] [b] pos) (dTst (dOp (fEq true) ta tb)):=db_cmp (op_neD hu) o_eq ha hb (nomark _)
theorem de_lele (ha:DE X F a ta) (hb:DE X F b tb) (hc:DE X F c tc) (hm:lastMarks [.LtE,.LtE] [b,c]=false:=by with_unfolding_all rfl):DE X F (.Compare a [.LtE,.LtE] [b,c] pos) (dChain (fun i j=>decide (i<=j)) (fun i j=>decide (i<=j)) ta tb tc):=de_chain op_le op_le ha hb hc hm
theorem de_gint {x:Str} {i:Int} {t:Tok} (hg:Gl X x) (hm:X.mg x=some (.int i t)) (hd:(x == ("__debug__":Str))=false:=by decide):DE X F (.Name x pos) (dC (.int i)):=de_const (v:=.int i) (pe_glob hg hm ⟨t,rfl⟩ hd) fun _=>.int i
mutual
theorem eqv_refl:∀ (d:PyData),d.canLay0=true->PyData.eqv d d=true
 | .none,_=>rfl
 | .bool b,_=>by simp [PyData.eqv]
 | .int i,_=>by simp [PyData.eqv]
 | .str s,_=>by simp [PyData.eqv]
 | .list xs,h=>by rw [PyData.eqv]; exact eqvAll_refl xs (by simpa [PyData.canLay0] using h)
 | .tuple xs,h=>by rw [PyData.eqv]; exact eqvAll_refl xs (by simpa [PyData.canLay0] using h)
 | .dict kvs,h=>by simp [PyData.canLay0] at h
theorem eqvAll_refl:∀ (ds:List PyData),PyData.canLayAll0 ds=true->PyData.eqvAll ds ds=true
 | [],_=>rfl
 | x :: xs,h=>by
  simp only [PyData.canLayAll0,Bool.and_eq_true] at h
  rw [PyData.eqvAll,eqv_refl x h.1,eqvAll_refl xs h.2]
  rfl
end
theorem eqv_shaped {d:PyData} (h:SeqAt.shaped d=true):PyData.eqv d d=true:=eqv_refl d (SeqAt.canLay_of_shaped h)
end
end L2.L3
namespace L2.L3
open PySem PySem.Spec PyProof.Rows
end L2.L3
namespace L2
open PySem PySem.Spec PyProof.Rows
section
variable {X:Cx}
noncomputable def rCatT0 (K:PySem.W.Frag):R2:=fun x y H Q=>∃ a b xs ys,x=.ref a/\y=.ref b/\SqT K H a xs/\SqT K H b ys/\xs.length + ys.length<=sizeLine/\
 (xs=[]->Q (.ref b) H)/\(xs ≠ []->ys=[]->Q (.ref a) H)/\(xs ≠ []->ys ≠ []->∀ p,H p=none->Q (.ref p) (upd H p (.tup (xs ++ ys))))
theorem op_catT0:OpR X (binaryOp .Add) (rCatT0 X.K):=by
 intro pins s σ H x y v u Q I rx ry h
 obtain ⟨a,b,xs,ys,rfl,rfl,ha,hb,hz,q0,q1,q2⟩:=h
 by_cases hx:xs=[]
 ·subst hx
  cases rx
  cases ry
  obtain ⟨its,r1,p1,_⟩:=I.tuple ha
  obtain ⟨its2,r2,p2,_⟩:=I.tuple hb
  have e1:its=[]:=r1.nil_iff.mpr rfl
  subst e1
  obtain ⟨⟨cls,dd,data,sl⟩,ho,hc,n,hd⟩:=id p1
  obtain ⟨⟨cls2,dd2,data2,sl2⟩,ho2,hc2,n2,hd2⟩:=id p2
  simp only at hc hd hc2 hd2
  subst hc hd hc2 hd2
  exact concat_meets ⟨_,ho,rfl⟩ ⟨_,ho2,rfl⟩ noFill_tuple_add seq_tuple_add PySem.F.slot_tuple_add PySem.F.entry_tuple_add (PySem.F.args_tuple_add_2 _ _)
   (tuple_addW0 a b [].toArray its2.toArray n n2 dd dd2 sl sl2 rfl) ⟨ho,ho2,.ref b,H,I,rfl,q0 rfl⟩
 ·exact op_catT pins s σ H _ _ v u Q I rx ry ⟨a,b,xs,ys,rfl,rfl,ha,hb,hx,hz,q1 hx,q2 hx⟩
end
end L2
namespace L2.L3
open PySem PySem.Spec PyProof.Rows
section
variable {X:Cx} {F:Fx} {a b:Expr} {ta tb:DT} {pos:Pos}
theorem o_catT {K:PySem.W.Frag}:Op2 (rCatT0 K) fCatT where
 mn:=fun _ _ _ _ k ⟨ds,es,e1,e2,e3,q⟩=>⟨ds,es,e1,e2,e3,k _ q⟩
 ok:=fun O H u v x y Q hO h1 h2 ⟨ds,es,e1,e2,e3,q⟩=>by
  subst e1 e2
  obtain ⟨a,xs,rfl,ha,hd⟩:=id h1.tup_inv
  obtain ⟨b,ys,rfl,hb,he⟩:=id h2.tup_inv
  refine ⟨a,b,xs,ys,rfl,rfl,.inl (of_hideR ha).1,.inl (of_hideR hb).1,by rw [hd.length,he.length]; exact e3,fun z=>?_,fun _ z=>?_,fun _ _ p hp=>q _ _ (same_upd hp) (dv_new_tup hp (hO p hp) (hd.append he))⟩
  ·subst z
   cases hd
   exact q _ H (fun _ _ h=>h) h2
  ·subst z
   cases he
   rw [List.append_nil] at q
   exact q _ H (fun _ _ h=>h) h1
theorem de_catT (ha:DE X F a ta) (hb:DE X F b tb):DE X F (.BinOp a .Add b pos) (dOp fCatT ta tb):=de_op op_catT0 o_catT ha hb
end
end L2.L3
namespace L2
open PySem PySem.Spec PyProof.Rows
end L2
namespace L2.L3
open PySem PySem.Spec PyProof.Rows
section
variable {X:Cx} {F:Fx} {a b:Expr} {ta tb:DT} {pos:Pos} {q:PyData->Prop}
theorem de_pow (ha:DE X F a ta) (hb:DE X F b tb):DE X F (.BinOp a .Pow b pos) (dOp (fI CPow fun i j=>.int (i ^ j.toNat)) ta tb):=de_op op_pow (o_int fun _ _ _=>.int _) ha hb
theorem dvs_intsq {H:Hp}:∀ {ns:List Int} {vs:List V},DVs H vs (ns.map PyData.int)->vs=ns.map V.int
 | [],_,h=>by cases h; rfl
 | b :: r,_,h=>by
  cases h with
  | cons d q=>rw [d.int_inv,dvs_intsq q]; rfl
end
end L2.L3
namespace L2
open PySem PySem.Spec PyProof.Rows
end L2
namespace L2.L3
open PySem PySem.Spec PyProof.Rows
end L2.L3
namespace L2.L3
open PySem PySem.Spec PyProof.Rows
section
variable {X:Cx} {F:Fx} {a b:Expr} {ta tb:DT} {pos:Pos} {q:PyData->Prop}
noncomputable def fRep:D2:=fun x y Q=>∃ ds k,x=.list ds/\y=.int k/\(-(2 ^ 63)<=k/\k < 2 ^ 63/\ds.length * k.toNat<=sizeLine)/\Q (.list (List.replicate k.toNat ds).flatten)
theorem dvs_rep {H:Hp} {vs:List V} {ds:List PyData} (r:DVs H vs ds):∀ k:Nat,DVs H (List.replicate k vs).flatten (List.replicate k ds).flatten
 | 0=>.nil
 | k + 1=>by
  rw [List.replicate_succ,List.replicate_succ,List.flatten_cons,List.flatten_cons]
  exact r.append (dvs_rep r k)
theorem o_rep:Op2 rRep fRep where
 mn:=fun _ _ _ _ k ⟨ds,n,e1,e2,e3,q⟩=>⟨ds,n,e1,e2,e3,k _ q⟩
 ok:=fun O H u v x y Q hO h1 h2 ⟨ds,k,e1,e2,⟨e3,e4,e5⟩,q⟩=>by
  subst e1 e2
  obtain ⟨a,xs,rfl,ha,hd⟩:=h1.lst_inv
  refine ⟨a,k,xs,rfl,h2.int_inv,(of_hide ha).1,e3,e4,by rw [hd.length]; exact e5,fun p hp=>q _ _ (same_upd hp) (dv_new_lst hp (hO p hp) (dvs_rep hd _))⟩
theorem de_rep (ha:DE X F a ta) (hb:DE X F b tb):DE X F (.BinOp a .Mult b pos) (dOp fRep ta tb):=de_op op_rep o_rep ha hb
noncomputable def fIn (neg:Bool):D2:=fun x y Q=>∃ (i:Int) (ns:List Int),x=.int i/\y=.list (ns.map .int)/\Q (.bool (if neg then !decide (i ∈ ns) else decide (i ∈ ns)))
theorem inV_ints (i:Int):∀ ns:List Int,inV (.int i) (ns.map V.int)=decide (i ∈ ns)
 | []=>by simp [inV]
 | n :: r=>by
  have ih:=inV_ints i r
  unfold inV at ih ⊢
  rw [List.map_cons,List.any_cons,ih]
  show ((n == i) || decide (i ∈ r))=decide (i ∈ n :: r)
  by_cases e:n=i
  ·subst e; simp
  ·have e':¬ i=n:=fun z=>e z.symm
   simp [e,e']
theorem flat_ints:∀ ns:List Int,(ns.map V.int).all flatV=true
 | []=>rfl
 | _ :: r=>by rw [List.map_cons,List.all_cons,flat_ints r]; rfl
theorem o_in {K:PySem.W.Frag} {neg:Bool}:Op2 (rIn K neg) (fIn neg) where
 mn:=fun _ _ _ _ k ⟨i,n,e1,e2,q⟩=>⟨i,n,e1,e2,k _ q⟩
 ok:=fun O H u v x y Q hO h1 h2 ⟨i,ns,e1,e2,q⟩=>by
  subst e1 e2
  obtain ⟨b,ys,rfl,hb,he⟩:=h2.lst_inv
  have ey:=dvs_intsq he
  subst ey
  rw [h1.int_inv]
  refine ⟨b,_,rfl,.inl (.of (of_hide hb).1),rfl,flat_ints ns,?_⟩
  rw [inV_ints]
  exact q _ H (fun _ _ h=>h) (.bl _)
theorem db_notin (ha:DE X F a ta) (hb:DE X F b tb) (hm:lastMarks [.NotIn] [b]=false:=by with_unfolding_all rfl):DB X F (.Compare a [.NotIn] [b] pos) (dTst (dOp (fIn true) ta tb)):=db_cmp op_notIn_seq o_in ha hb hm
end
end L2.L3
namespace L2
open PySem PySem.Spec PyProof.Rows
section
variable {X:Cx}
noncomputable def rmaxL:List V->Hp->VK->Prop:=fun xs H Q=>∃ (l:Addr) (ns:List Int),xs=[.ref l]/\H l=some (.lst (ns.map V.int))/\ns ≠ []/\∀ M,M ∈ ns->(∀ a,a ∈ ns->a<=M)->Q (.int M) H
theorem call_maxL (hc:X.calm=true):CallR X (.builtin "max") rmaxL:=by
 intro pins s σ H xs us Q I r h
 obtain ⟨l,ns,rfl,hl,hne,q⟩:=h
 obtain ⟨u,rfl,ru⟩:=vals1 r
 cases ru
 obtain ⟨z,its,n,rv,e⟩:=I.hok _ _ hl
 have L:s.heap.IsList l its.toArray:=⟨_,e,rfl,_,rfl⟩
 have hlt:l < s.heap.objs.size:=Heap.lt_size e
 have len:=rv.length
 rw [List.length_map] at len
 have hp:0 < ns.length:=List.length_pos_iff.mpr hne
 have at_:∀ (i:Nat) (v:Value),its.toArray[i]? = some v->∃ t,v=.int (ns.getD i 0) t:=by
  intro i v hv
  have hi:its[i]? = some v:=by simpa using hv
  have hlt:i < ns.length:=by rw [len]; exact (List.getElem?_eq_some_iff.mp hi).1
  obtain ⟨w,hw,rw'⟩:=rv.get (i:=i) (x:=.int ns[i]) (by rw [List.getElem?_map,List.getElem?_eq_getElem hlt]; rfl)
  rw [hi] at hw
  cases hw
  cases rw'
  rename_i tk0 etk
  refine ⟨tk0,etk.trans ?_⟩
  congr 1
  simp [List.getD,hlt]
 refine call_max_walk (wpAny_pyIter_list L ?_)
 refine ⟨s.heap.objs.size,_,_,_,_,_,_,rfl,Walks.list (A:=X.A.in1) (show X.A.in1.handled=none from I.ok.hd hc) s.heap.objs.size l (Nat.ne_of_lt hlt) its.toArray,⟨⟨_,Heap.get?_push_size _ rfl,rfl,rfl⟩,L.push _⟩,?_,?_,CmpOf.ints_gt (fun i=>ns.getD i 0) at_,fun v h' tk hP hk=>?_⟩
 ·intro b hb
  rcases List.mem_cons.mp hb with rfl | hb
  ·show _ < (s.heap.push _).objs.size
   rw [Heap.size_push]; exact Nat.lt_succ_self _
  ·rw [List.mem_singleton.mp hb]
   show _ < (s.heap.push _).objs.size
   rw [Heap.size_push]; exact Nat.lt_succ_of_lt hlt
 ·rw [List.size_toArray,<-len]; exact hp
 ·rw [List.size_toArray,<-len] at hP
  obtain ⟨t,rfl⟩:=at_ _ _ hP
  obtain ⟨h1,h2⟩:=argBest_gt (fun i=>ns.getD i 0) (ns.length - 1)
  refine ⟨.int _,H,I.kept fun b o eb=>hk b o (fun zz=>absurd (Heap.lt_size eb) (by rw [List.mem_singleton.mp zz]; exact Nat.lt_irrefl _)) (Heap.get?_push_of_some _ eb),⟨_,rfl⟩,q _ ?_ fun a ha=>?_⟩
  ·rw [PySem.getD_at (by omega)]; exact List.getElem_mem _
  ·obtain ⟨j,hj,rfl⟩:=List.getElem_of_mem ha
   have:=h2 j (by omega)
   simp only [PySem.getD_at hj] at this
   exact this
noncomputable def rminL:List V->Hp->VK->Prop:=fun xs H Q=>∃ (l:Addr) (ns:List Int),xs=[.ref l]/\H l=some (.lst (ns.map V.int))/\ns ≠ []/\∀ M,M ∈ ns->(∀ a,a ∈ ns->M<=a)->Q (.int M) H
theorem call_minL (hc:X.calm=true):CallR X (.builtin "min") rminL:=by
 intro pins s σ H xs us Q I r h
 obtain ⟨l,ns,rfl,hl,hne,q⟩:=h
 obtain ⟨u,rfl,ru⟩:=vals1 r
 cases ru
 obtain ⟨z,its,n,rv,e⟩:=I.hok _ _ hl
 have L:s.heap.IsList l its.toArray:=⟨_,e,rfl,_,rfl⟩
 have hlt:l < s.heap.objs.size:=Heap.lt_size e
 have len:=rv.length
 rw [List.length_map] at len
 have hp:0 < ns.length:=List.length_pos_iff.mpr hne
 have at_:∀ (i:Nat) (v:Value),its.toArray[i]? = some v->∃ t,v=.int (ns.getD i 0) t:=by
  intro i v hv
  have hi:its[i]? = some v:=by simpa using hv
  have hlt:i < ns.length:=by rw [len]; exact (List.getElem?_eq_some_iff.mp hi).1
  obtain ⟨w,hw,rw'⟩:=rv.get (i:=i) (x:=.int ns[i]) (by rw [List.getElem?_map,List.getElem?_eq_getElem hlt]; rfl)
  rw [hi] at hw
  cases hw
  cases rw'
  rename_i tk0 etk
  refine ⟨tk0,etk.trans ?_⟩
  congr 1
  simp [List.getD,hlt]
 refine call_min_walk (wpAny_pyIter_list L ?_)
 refine ⟨s.heap.objs.size,_,_,_,_,_,_,rfl,Walks.list (A:=X.A.in1) (show X.A.in1.handled=none from I.ok.hd hc) s.heap.objs.size l (Nat.ne_of_lt hlt) its.toArray,⟨⟨_,Heap.get?_push_size _ rfl,rfl,rfl⟩,L.push _⟩,?_,?_,CmpOf.ints_lt (fun i=>ns.getD i 0) at_,fun v h' tk hP hk=>?_⟩
 ·intro b hb
  rcases List.mem_cons.mp hb with rfl | hb
  ·show _ < (s.heap.push _).objs.size
   rw [Heap.size_push]; exact Nat.lt_succ_self _
  ·rw [List.mem_singleton.mp hb]
   show _ < (s.heap.push _).objs.size
   rw [Heap.size_push]; exact Nat.lt_succ_of_lt hlt
 ·rw [List.size_toArray,<-len]; exact hp
 ·rw [List.size_toArray,<-len] at hP
  obtain ⟨t,rfl⟩:=at_ _ _ hP
  obtain ⟨h1,h2⟩:=argBest_lt (fun i=>ns.getD i 0) (ns.length - 1)
  refine ⟨.int _,H,I.kept fun b o eb=>hk b o (fun zz=>absurd (Heap.lt_size eb) (by rw [List.mem_singleton.mp zz]; exact Nat.lt_irrefl _)) (Heap.get?_push_of_some _ eb),⟨_,rfl⟩,q _ ?_ fun a ha=>?_⟩
  ·rw [PySem.getD_at (by omega)]; exact List.getElem_mem _
  ·obtain ⟨j,hj,rfl⟩:=List.getElem_of_mem ha
   have:=h2 j (by omega)
   simp only [PySem.getD_at hj] at this
   exact this
end
end L2
namespace L2.L3
open PySem PySem.Spec PyProof.Rows
section
variable {q:PyData->Prop}
noncomputable def fMaxL:DN:=fun xs Q=>∃ ns:List Int,xs=[.list (ns.map .int)]/\ns ≠ []/\∀ M,M ∈ ns->(∀ a,a ∈ ns->a<=M)->Q (.int M)
theorem n_maxL:OpN rmaxL fMaxL where
 mn:=fun _ _ _ k ⟨bs,e,h,q⟩=>⟨bs,e,h,fun M h1 h2=>k _ (q M h1 h2)⟩
 ok:=fun O H vs xs Q hO hd ⟨ns,e,h,q⟩=>by
  subst e
  obtain ⟨x,rfl,h1⟩:=dvs1 hd
  obtain ⟨a,ys,rfl,ha,hy⟩:=h1.lst_inv
  exact ⟨a,ns,rfl,by rw [(of_hide ha).1,dvs_intsq hy],h,fun M h1 h2=>q M h1 h2 _ H (fun _ _ h=>h) (.int _)⟩
noncomputable def fMinL:DN:=fun xs Q=>∃ ns:List Int,xs=[.list (ns.map .int)]/\ns ≠ []/\∀ M,M ∈ ns->(∀ a,a ∈ ns->M<=a)->Q (.int M)
theorem n_minL:OpN rminL fMinL where
 mn:=fun _ _ _ k ⟨bs,e,h,q⟩=>⟨bs,e,h,fun M h1 h2=>k _ (q M h1 h2)⟩
 ok:=fun O H vs xs Q hO hd ⟨ns,e,h,q⟩=>by
  subst e
  obtain ⟨x,rfl,h1⟩:=dvs1 hd
  obtain ⟨a,ys,rfl,ha,hy⟩:=h1.lst_inv
  exact ⟨a,ns,rfl,by rw [(of_hide ha).1,dvs_intsq hy],h,fun M h1 h2=>q M h1 h2 _ H (fun _ _ h=>h) (.int _)⟩
end
end L2.L3
namespace L2.L3
open PySem PySem.Spec PyProof.Rows
end L2.L3
namespace L2.L3
open PySem PySem.Spec PyProof.Rows
inductive Out (α:Type) where
 | ok (a:α) (ρ:DEnv) | ex (c:Str) (ρ:DEnv) | bad
@[simp] noncomputable def Out.bind {α β:Type} (o:Out α) (k:α->DEnv->Out β):Out β:=match o with
 | .ok a ρ=>k a ρ
 | .ex c ρ=>.ex c ρ
 | .bad=>.bad
@[simp] noncomputable def lift {α:Type} (o:Option α) (ρ:DEnv):Out α:=match o with
 | some a=>.ok a ρ
 | none=>.bad
noncomputable abbrev XM (α:Type):=DEnv->Out α
noncomputable def wp {α:Type} (E:Str->DEnv->Prop) (m:XM α):DEnv->(α->DEnv->Prop)->Prop:=fun ρ Q=>match m ρ with
 | .ok a ρ'=>Q a ρ'
 | .ex c ρ'=>E c ρ'
 | .bad=>False
section
variable {α β:Type} {E:Str->DEnv->Prop}
theorem mn_wp {m:XM α}:∀ ρ (Q Q':α->DEnv->Prop),(∀ d ρ',Q d ρ'->Q' d ρ')->wp E m ρ Q->wp E m ρ Q':=fun ρ Q Q' k q=>by
 unfold wp at q ⊢
 generalize m ρ=o at q ⊢
 cases o with
 | ok a ρ'=>exact k _ _ q
 | ex c ρ'=>exact q
 | bad=>exact q
theorem wp_bind {m:XM α} {k:α->XM β} {ρ:DEnv} {Q:β->DEnv->Prop} (h:wp E (fun ρ=>(m ρ).bind k) ρ Q):wp E m ρ fun a ρ'=>wp E (k a) ρ' Q:=by
 unfold wp at h ⊢
 unfold Out.bind at h
 simp only at h
 generalize m ρ=o at h ⊢
 cases o with
 | ok a ρ'=>exact h
 | ex c ρ'=>exact h
 | bad=>exact h
theorem wp_lift {o:Option α} {ρ:DEnv} {Q:α->DEnv->Prop} (h:wp E (lift o) ρ Q):∃ a,o=some a/\Q a ρ:=by
 unfold wp lift at h
 cases o with
 | some a=>exact ⟨a,rfl,h⟩
 | none=>exact h.elim
end
section
variable {X:Cx} {F:Fx} {E:Str->DEnv->Prop} {e a b c:Expr} {es:List Expr} {pos:Pos}
theorem DE.imp {t t':DT} (h:DE X F e t) (mn:Mn t') (k:∀ ρ Q,t' ρ Q->t ρ Q):DE X F e t':=⟨mn,h.pe.imp fun σ H Q ⟨ρ,O,st,q⟩=>⟨ρ,O,st,k ρ _ q⟩⟩
theorem DO.imp {t t':DTO} (h:DO X F e t) (mn:MnO t') (k:∀ ρ Q,t' ρ Q->t ρ Q):DO X F e t':=⟨mn,h.pe.imp fun σ H Q ⟨ρ,O,st,q⟩=>⟨ρ,O,st,k ρ _ q⟩⟩
theorem DA.imp {t t':DTA} (h:DA X F es t) (mn:MnA t') (k:∀ ρ Q,t' ρ Q->t ρ Q):DA X F es t':=⟨mn,h.pa.imp fun σ H Q ⟨ρ,O,st,q⟩=>⟨ρ,O,st,k ρ _ q⟩⟩
theorem DX.imp {t t':DTX} (h:DX X F es t) (mn:MnX t') (k:∀ ρ Q,t' ρ Q->t ρ Q):DX X F es t':=⟨mn,h.pa.imp fun σ H Q ⟨ρ,O,st,q⟩=>⟨ρ,O,st,k ρ _ q⟩⟩
theorem DB.imp {t t':DTT} (h:DB X F e t) (mn:MnT t') (k:∀ ρ Q,t' ρ Q->t ρ Q):DB X F e t':=⟨mn,h.pt.imp fun σ H Q ⟨ρ,O,st,q⟩=>⟨ρ,O,st,k ρ _ q⟩⟩
theorem DW.imp {t t':DTT} (h:DW X F e t) (mn:MnT t') (k:∀ ρ Q,t' ρ Q->t ρ Q):DW X F e t':=⟨mn,h.pw.imp fun σ H Q ⟨ρ,O,st,q⟩=>⟨ρ,O,st,k ρ _ q⟩⟩
theorem DSs.imp {sts:List Stmt} {t t':DTS} (h:DSs X F sts t) (k:∀ D ρ,t' D ρ->t D ρ):DSs X F sts t':=PSs.imp h fun D σ H ⟨ρ,O,DD,st,q,f⟩=>⟨ρ,O,DD,st,k DD ρ q,f⟩
theorem DS.imp {s:Stmt} {t t':DTS} (h:DS X F s t) (k:∀ D ρ,t' D ρ->t D ρ):DS X F s t':=PS.imp h fun D σ H ⟨ρ,O,DD,st,q,f⟩=>⟨ρ,O,DD,st,k DD ρ q,f⟩
noncomputable abbrev FE (X:Cx) (F:Fx) (E:Str->DEnv->Prop) (e:Expr) (m:XM PyData):Prop:=DE X F e (wp E m)
noncomputable abbrev FO (X:Cx) (F:Fx) (E:Str->DEnv->Prop) (e:Expr) (m:XM Cell):Prop:=DO X F e (wp E m)
noncomputable abbrev FB (X:Cx) (F:Fx) (E:Str->DEnv->Prop) (e:Expr) (m:XM Bool):Prop:=DB X F e (wp E m)
noncomputable abbrev FW (X:Cx) (F:Fx) (E:Str->DEnv->Prop) (e:Expr) (m:XM Bool):Prop:=DW X F e (wp E m)
noncomputable abbrev FA (X:Cx) (F:Fx) (E:Str->DEnv->Prop) (es:List Expr) (m:XM (List PyData)):Prop:=DA X F es (wp E m)
noncomputable abbrev FX (X:Cx) (F:Fx) (E:Str->DEnv->Prop) (es:List Expr) (m:XM (List AX)):Prop:=DX X F es (wp E m)
noncomputable abbrev FI (X:Cx) (F:Fx) (E:Str->DEnv->Prop) (tg iter:Expr) (m:XM (List PyData)):Prop:=DI X F tg iter (wp E m)
noncomputable abbrev GM:=PyData->DEnv->Option DEnv
noncomputable def wpG (g:GM):DTG:=fun d ρ Q=>match g d ρ with
 | some ρ'=>Q ρ'
 | none=>False
noncomputable abbrev FG (X:Cx) (F:Fx) (tg:Expr) (g:GM):Prop:=DG X F tg (wpG g)
noncomputable abbrev FS (X:Cx) (F:Fx) (E:Str->DEnv->Prop) (s:Stmt) (m:SM):Prop:=DS X F s (wpS E m)
noncomputable abbrev FSs (X:Cx) (F:Fx) (E:Str->DEnv->Prop) (s:List Stmt) (m:SM):Prop:=DSs X F s (wpS E m)
@[simp] noncomputable def xC (d:PyData):XM PyData:=fun ρ=>.ok d ρ
@[simp] noncomputable def xV (i:Nat):XM PyData:=fun ρ=>match ρ[i]? with
 | some (some (.dat d))=>.ok d ρ
 | some (some (.own false (.l ds)))=>.ok (.list ds) (ρ.set i (some (.dat (.list ds))))
 | _=>.bad
theorem fe_c {d:PyData} (h:DE X F e (dC d)):FE X F E e (xC d):=h.imp mn_wp fun _ _ q=>q
theorem fe_v {i:Nat} (h:DE X F e (dV i)):FE X F E e (xV i):=h.imp mn_wp fun ρ Q q=>by
 unfold wp xV at q
 unfold dV
 cases h:ρ[i]? with
 | none=>rw [h] at q; exact q.elim
 | some o=>
  rw [h] at q
  cases o with
  | none=>exact q.elim
  | some c=>
   cases c with
   | dat d=>exact .inl ⟨d,rfl,q⟩
   | scr n=>exact q.elim
   | exc n=>exact q.elim
   | vw n=>exact q.elim
   | own io bx=>
    cases io with
    | true=>exact q.elim
    | false=>
     cases bx with
     | l ds=>exact .inr ⟨ds,rfl,q⟩
     | m _ _=>exact q.elim
     | o _ _=>exact q.elim
     | sd _=>exact q.elim
     | ll _=>exact q.elim
     | pr _ _ _=>exact q.elim
@[simp] noncomputable def xOp (g:PyData->PyData->Option PyData) (a b:XM PyData):XM PyData:=fun ρ=>(a ρ).bind fun x ρ1=>(b ρ1).bind fun y=>lift (g x y)
noncomputable def F2 (f:D2) (g:PyData->PyData->Option PyData):Prop:=∀ x y d Q,g x y=some d->Q d->f x y Q
theorem fe_op {f:D2} {g:PyData->PyData->Option PyData} {ma mb:XM PyData} (hg:F2 f g) (h:DE X F e (dOp f (wp E ma) (wp E mb))):FE X F E e (xOp g ma mb):=h.imp mn_wp fun ρ Q q=>by
 refine mn_wp _ _ _ (fun x ρ1 q1=>?_) (wp_bind q)
 refine mn_wp _ _ _ (fun y ρ2 q2=>?_) (wp_bind q1)
 obtain ⟨d,e1,q3⟩:=wp_lift q2
 exact hg x y d _ e1 q3
@[simp] noncomputable def xTst (m:XM PyData):XM Bool:=fun ρ=>(m ρ).bind fun d=>lift (match d with | .bool b=>some b | _=>none)
theorem tst_of {ρ:DEnv} {Q:Bool->DEnv->Prop} {m:XM PyData} (q:wp E (xTst m) ρ Q):dTst (wp E m) ρ Q:=mn_wp _ _ _ (fun d ρ1 q1=>by
 obtain ⟨b,e1,q2⟩:=wp_lift q1
 cases d with
 | bool b'=>cases e1; exact ⟨_,rfl,q2⟩
 | _=>cases e1) (wp_bind q)
theorem fb_op {f:D2} {g:PyData->PyData->Option PyData} {ma mb:XM PyData} (hg:F2 f g) (h:DB X F e (dTst (dOp f (wp E ma) (wp E mb)))):FB X F E e (xTst (xOp g ma mb)):=h.imp mn_wp fun ρ Q q=>by
 have q':=tst_of q
 refine mn_wp _ _ _ (fun x ρ1 q1=>?_) (wp_bind q')
 refine mn_wp _ _ _ (fun y ρ2 q2=>?_) (wp_bind q1)
 obtain ⟨d,e1,q3⟩:=wp_lift q2
 exact hg x y d _ e1 q3
theorem fb_val {m:XM PyData} (h:DB X F e (dTst (wp E m))):FB X F E e (xTst m):=h.imp mn_wp fun ρ Q q=>tst_of q
@[simp] noncomputable def gI (g:Int->Int->PyData):PyData->PyData->Option PyData:=fun x y=>match x,y with
 | .int i,.int j=>some (g i j)
 | _,_=>none
@[simp] noncomputable def gIC (C:Int->Int->Bool) (g:Int->Int->PyData):PyData->PyData->Option PyData:=fun x y=>match x,y with
 | .int i,.int j=>if C i j=true then some (g i j) else none
 | _,_=>none
theorem f2_I {g:Int->Int->PyData}:F2 (fI (fun _ _=>True) g) (gI g):=fun x y d Q e q=>by
 unfold gI at e
 split at e
 ·cases e; exact ⟨_,_,rfl,rfl,trivial,q⟩
 ·cases e
theorem f2_IC {C:Int->Int->Bool} {P:Int->Int->Prop} {g:Int->Int->PyData} (h:∀ i j,C i j=true->P i j):F2 (fI P g) (gIC C g):=fun x y d Q e q=>by
 unfold gIC at e
 split at e
 ·split at e
  ·rename_i hc; cases e; exact ⟨_,_,rfl,rfl,h _ _ hc,q⟩
  ·cases e
 ·cases e
noncomputable def cMul (i j:Int):Bool:=(decide (-(2 ^ 64) < i) && decide (i < 2 ^ 64)) || (decide (-(2 ^ 64) < j) && decide (j < 2 ^ 64))
noncomputable def cDiv (_ j:Int):Bool:=decide (0 < j) && decide (j < 1073741824)
noncomputable def cMod (_ j:Int):Bool:=decide (0 < j)
noncomputable def cPow (i j:Int):Bool:=decide (0<=j) && decide (j<=1000000) && decide (i.natAbs < 2 ^ 64)
theorem cMul_ok (i j:Int) (h:cMul i j=true):CMul i j:=by
 unfold cMul at h
 simp only [Bool.or_eq_true,Bool.and_eq_true,decide_eq_true_eq] at h
 exact h
theorem cDiv_ok (i j:Int) (h:cDiv i j=true):CDiv i j:=by
 unfold cDiv at h
 simp only [Bool.and_eq_true,decide_eq_true_eq] at h
 exact h
theorem cMod_ok (i j:Int) (h:cMod i j=true):0 < j:=by
 unfold cMod at h
 simpa using h
theorem cPow_ok (i j:Int) (h:cPow i j=true):CPow i j:=by
 unfold cPow at h
 simp only [Bool.and_eq_true,decide_eq_true_eq] at h
 exact ⟨h.1.1,h.1.2,h.2⟩
noncomputable def gEq (neg:Bool):PyData->PyData->Option PyData:=fun x y=>if (SeqAt.shaped x && SeqAt.shaped y)=true then some (.bool (PyData.eqv x y != neg)) else none
theorem f2_eq {neg:Bool}:F2 (fEq neg) (gEq neg):=fun x y d Q e q=>by
 unfold gEq at e
 split at e
 ·rename_i h
  cases e
  exact ⟨(Bool.and_eq_true_iff.mp h).1,(Bool.and_eq_true_iff.mp h).2,q⟩
 ·cases e
@[simp] noncomputable def gCatL:PyData->PyData->Option PyData:=fun x y=>match x,y with
 | .list ds,.list es=>if ds.length + es.length<=sizeLine then some (.list (ds ++ es)) else none
 | _,_=>none
@[simp] noncomputable def gCatT:PyData->PyData->Option PyData:=fun x y=>match x,y with
 | .tuple ds,.tuple es=>if ds.length + es.length<=sizeLine then some (.tuple (ds ++ es)) else none
 | _,_=>none
theorem f2_catL:F2 fCatL gCatL:=fun x y d Q e q=>by
 unfold gCatL at e
 split at e
 ·split at e
  ·rename_i h; cases e; exact ⟨_,_,rfl,rfl,h,q⟩
  ·cases e
 ·cases e
theorem f2_catT:F2 fCatT gCatT:=fun x y d Q e q=>by
 unfold gCatT at e
 split at e
 ·split at e
  ·rename_i h; cases e; exact ⟨_,_,rfl,rfl,h,q⟩
  ·cases e
 ·cases e
@[simp] noncomputable def gRep:PyData->PyData->Option PyData:=fun x y=>match x,y with
 | .list ds,.int k=>if (decide (-(2 ^ 63)<=k) && decide (k < 2 ^ 63) && decide (ds.length * k.toNat<=sizeLine))=true then some (.list (List.replicate k.toNat ds).flatten) else none
 | _,_=>none
theorem f2_rep:F2 fRep gRep:=fun x y d Q e q=>by
 unfold gRep at e
 split at e
 ·split at e
  ·rename_i h
   cases e
   simp only [Bool.and_eq_true,decide_eq_true_eq] at h
   exact ⟨_,_,rfl,rfl,⟨h.1.1,h.1.2,h.2⟩,q⟩
  ·cases e
 ·cases e
@[simp] noncomputable def xNeg (a:XM PyData):XM PyData:=fun ρ=>(a ρ).bind fun d=>lift (match d with | .int i=>some (.int (-i)) | _=>none)
theorem fe_neg {ma:XM PyData} (ha:FE X F E a ma):FE X F E (.UnaryOp .USub a pos) (xNeg ma):=(de_neg ha).imp mn_wp fun ρ Q q=>mn_wp _ _ _ (fun d ρ1 q1=>by
 obtain ⟨y,e1,q2⟩:=wp_lift q1
 cases d with
 | int i=>cases e1; exact ⟨i,rfl,q2⟩
 | _=>cases e1) (wp_bind q)
@[simp] noncomputable def xNot (a:XM PyData):XM PyData:=fun ρ=>(a ρ).bind fun d=>lift (match d with | .bool b=>some (.bool (!b)) | _=>none)
theorem fe_not {ma:XM PyData} (ha:FE X F E a ma):FE X F E (.UnaryOp .Not a pos) (xNot ma):=(de_not ha).imp mn_wp fun ρ Q q=>mn_wp _ _ _ (fun d ρ1 q1=>by
 obtain ⟨y,e1,q2⟩:=wp_lift q1
 cases d with
 | bool b=>cases e1; exact ⟨b,rfl,q2⟩
 | _=>cases e1) (wp_bind q)
@[simp] noncomputable def andK (b:XM PyData) (d:PyData):XM PyData:=fun ρ1=>match d with
 | .bool true=>b ρ1
 | .bool false=>.ok (.bool false) ρ1
 | _=>.bad
@[simp] noncomputable def xAnd (a b:XM PyData):XM PyData:=fun ρ=>(a ρ).bind (andK b)
theorem fe_and {rest:List Expr} {ma mb:XM PyData} (ha:FE X F E a ma) (hb:FE X F E (.BoolOp .And (b :: rest) pos) mb):FE X F E (.BoolOp .And (a :: b :: rest) pos) (xAnd ma mb):=(de_and ha hb).imp mn_wp fun ρ Q q=>mn_wp _ _ _ (fun d ρ1 q1=>by
 cases d with
 | bool b=>cases b with
  | true=>exact ⟨true,rfl,iteT q1⟩
  | false=>exact ⟨false,rfl,iteF q1⟩
 | _=>exact q1.elim) (wp_bind (k:=andK mb) q)
theorem fe_one {op} {ma:XM PyData} (h:FE X F E a ma):FE X F E (.BoolOp op [a] pos) ma:=de_one h
@[simp] noncomputable def xChain (p p':Int->Int->Bool) (a b c:XM PyData):XM PyData:=fun ρ=>(a ρ).bind fun x ρ1=>(b ρ1).bind fun y ρ2=>match x,y with
 | .int i,.int j=>if p i j=true then (c ρ2).bind (fun z=>lift (match z with | .int k=>some (.bool (p' j k)) | _=>none)) else .ok (.bool false) ρ2
 | _,_=>.bad
theorem fe_chain {p p':Int->Int->Bool} {ma mb mc:XM PyData} (h:DE X F e (dChain p p' (wp E ma) (wp E mb) (wp E mc))):FE X F E e (xChain p p' ma mb mc):=h.imp mn_wp fun ρ Q q=>by
 refine mn_wp _ _ _ (fun x ρ1 q1=>?_) (wp_bind q)
 refine mn_wp _ _ _ (fun y ρ2 q2=>?_) (wp_bind q1)
 unfold wp at q2
 cases x with
 | int i=>cases y with
  | int j=>
   refine ⟨i,j,rfl,rfl,?_⟩
   by_cases hp:p i j=true
   ·simp only [if_pos hp] at q2
    rw [if_pos hp]
    refine mn_wp _ _ _ (fun z ρ3 q3=>?_) (wp_bind (m:=mc) (k:=fun z=>lift (match z with | .int k=>some (PyData.bool (p' j k)) | _=>none)) q2)
    obtain ⟨d,e1,q4⟩:=wp_lift q3
    cases z with
    | int k=>cases e1; exact ⟨k,rfl,q4⟩
    | _=>cases e1
   ·simp only [if_neg hp] at q2
    rw [if_neg hp]
    exact q2
  | _=>exact q2.elim
 | _=>exact q2.elim
@[simp] noncomputable def bNotF (a:XM Bool):XM Bool:=fun ρ=>(a ρ).bind fun b ρ1=>.ok (!b) ρ1
theorem fb_not {ma:XM Bool} (h:FB X F E a ma):FB X F E (.UnaryOp .Not a pos) (bNotF ma):=(db_not h).imp mn_wp fun ρ Q q=>mn_wp _ _ _ (fun d ρ1 q1=>q1) (wp_bind (k:=fun b ρ1=>.ok (!b) ρ1) q)
@[simp] noncomputable def bOrF (a b:XM Bool):XM Bool:=fun ρ=>(a ρ).bind fun x ρ1=>if x=true then .ok true ρ1 else b ρ1
theorem fw_or1 {ma:XM Bool} (h:FB X F E a ma):FW X F E (.BoolOp .Or [a] pos) ma:=dw_or1 h
theorem fw_or {rest:List Expr} {ma mb:XM Bool} (ha:FB X F E a ma) (hb:FW X F E (.BoolOp .Or (b :: rest) pos) mb):FW X F E (.BoolOp .Or (a :: b :: rest) pos) (bOrF ma mb):=(dw_or ha hb).imp mn_wp fun ρ Q q=>mn_wp _ _ _ (fun d ρ1 q1=>by
 cases d with
 | true=>exact iteT q1
 | false=>exact iteF q1) (wp_bind (k:=fun x ρ1=>if x=true then .ok true ρ1 else mb ρ1) q)
theorem fb_w {ma:XM Bool} (h:FW X F E e ma):FB X F E e ma:=h.db
@[simp] noncomputable def xIf {α:Type} (t:XM Bool) (a b:XM α):XM α:=fun ρ=>(t ρ).bind fun x ρ1=>if x=true then a ρ1 else b ρ1
theorem fe_if {mt:XM Bool} {ma mb:XM PyData} (hc:FB X F E c mt) (ha:FE X F E a ma) (hb:FE X F E b mb):FE X F E (.IfExp c a b pos) (xIf mt ma mb):=(de_if hc ha hb).imp mn_wp fun ρ Q q=>mn_wp _ _ _ (fun d ρ1 q1=>by
 cases d with
 | true=>exact iteT q1
 | false=>exact iteF q1) (wp_bind (k:=fun x ρ1=>if x=true then ma ρ1 else mb ρ1) q)
@[simp] noncomputable def aNil:XM (List PyData):=fun ρ=>.ok [] ρ
@[simp] noncomputable def aCons (a:XM PyData) (r:XM (List PyData)):XM (List PyData):=fun ρ=>(a ρ).bind fun d ρ1=>(r ρ1).bind fun ds ρ2=>.ok (d :: ds) ρ2
theorem fa_nil:FA X F E [] aNil:=da_nil.imp mn_wp fun _ _ q=>q
theorem fa_cons {ma:XM PyData} {mr:XM (List PyData)} (ha:FE X F E e ma) (hr:FA X F E es mr) (hs:starEach (e :: es) X.env=(false,eval e X.env) :: starEach es X.env:=by rfl):FA X F E (e :: es) (aCons ma mr):=(da_cons ha hr hs).imp mn_wp fun ρ Q q=>
 mn_wp _ _ _ (fun d ρ1 q1=>mn_wp _ _ _ (fun ds ρ2 q2=>q2) (wp_bind (k:=fun ds ρ2=>.ok (d :: ds) ρ2) q1)) (wp_bind (k:=fun d ρ1=>(mr ρ1).bind fun ds ρ2=>.ok (d :: ds) ρ2) q)
@[simp] noncomputable def xTup (a:XM (List PyData)):XM PyData:=fun ρ=>(a ρ).bind fun ds=>lift (if ds.length<=sizeLine then some (.tuple ds) else none)
@[simp] noncomputable def xLst (a:XM (List PyData)):XM PyData:=fun ρ=>(a ρ).bind fun ds=>lift (if ds.length<=sizeLine then some (.list ds) else none)
theorem fe_tup {x1} {ma:XM (List PyData)} (h:FA X F E es ma):FE X F E (.Tuple es x1 pos) (xTup ma):=(de_tup h).imp mn_wp fun ρ Q q=>mn_wp _ _ _ (fun ds ρ1 q1=>by
 obtain ⟨d,e1,q2⟩:=wp_lift q1
 split at e1
 ·rename_i h; cases e1; exact ⟨h,q2⟩
 ·cases e1) (wp_bind q)
theorem fe_lst {ma:XM (List PyData)} (h:FA X F E es ma):FE X F E (.List es pos) (xLst ma):=(de_lst h).imp mn_wp fun ρ Q q=>mn_wp _ _ _ (fun ds ρ1 q1=>by
 obtain ⟨d,e1,q2⟩:=wp_lift q1
 split at e1
 ·rename_i h; cases e1; exact ⟨h,q2⟩
 ·cases e1) (wp_bind q)
@[simp] noncomputable def xCB (g:List PyData->Option PyData) (a:XM (List PyData)):XM PyData:=fun ρ=>(a ρ).bind fun ds=>lift (g ds)
noncomputable def FN (f:DN) (g:List PyData->Option PyData):Prop:=∀ ds d Q,g ds=some d->Q d->f ds Q
theorem fe_cb {f:DN} {g:List PyData->Option PyData} {ma:XM (List PyData)} (hg:FN f g) (h:DE X F e (dCB f (wp E ma))):FE X F E e (xCB g ma):=h.imp mn_wp fun ρ Q q=>mn_wp _ _ _ (fun ds ρ1 q1=>by
 obtain ⟨d,e1,q2⟩:=wp_lift q1
 exact hg ds d _ e1 q2) (wp_bind q)
end
end L2.L3
namespace L2.L3
open PySem PySem.Spec PyProof.Rows
section
variable {X:Cx} {F:Fx} {E:Str->DEnv->Prop} {e a b c:Expr} {es:List Expr} {st:Stmt} {rest:List Stmt} {pos:Pos} {x:Str}
@[simp] noncomputable def nLen:List PyData->Option PyData:=fun xs=>match xs with
 | [.list ds]=>some (.int ds.length)
 | [.tuple ds]=>some (.int ds.length)
 | _=>none
theorem fn_len:FN fLen nLen:=fun xs d Q e q=>by
 unfold nLen at e
 split at e
 ·cases e; exact ⟨_,.inl rfl,q⟩
 ·cases e; exact ⟨_,.inr rfl,q⟩
 ·cases e
@[simp] noncomputable def nInt:List PyData->Option PyData:=fun xs=>match xs with
 | [.int i]=>some (.int i)
 | [.bool b]=>some (.int (if b then 1 else 0))
 | _=>none
theorem fn_int:FN fInt nInt:=fun xs d Q e q=>by
 unfold nInt at e
 split at e
 ·cases e; exact .inl ⟨_,rfl,q⟩
 ·cases e; exact .inr ⟨_,rfl,q⟩
 ·cases e
@[simp] noncomputable def nDivmod:List PyData->Option PyData:=fun xs=>match xs with
 | [.int i,.int j]=>if cDiv i j=true then some (.tuple [.int (i / j),.int (i % j)]) else none
 | _=>none
theorem fn_divmod:FN fDivmod nDivmod:=fun xs d Q e q=>by
 unfold nDivmod at e
 split at e
 ·split at e
  ·rename_i h; cases e; exact ⟨_,_,rfl,cDiv_ok _ _ h,q⟩
  ·cases e
 ·cases e
noncomputable def ints?:List PyData->Option (List Int)
 | []=>some []
 | .int i :: r=>(ints? r).map (i :: ·)
 | _ :: _=>none
theorem ints_of:∀ {ds:List PyData} {ns:List Int},ints? ds=some ns->ds=ns.map .int
 | [],_,e=>by cases e; rfl
 | d :: r,ns,e=>by
  cases d with
  | int i=>
   cases q:ints? r with
   | none=>simp [ints?,q] at e
   | some l=>simp [ints?,q] at e; subst e; rw [ints_of q]; rfl
  | _=>cases e
theorem ints_map (ns:List Int):ints? (ns.map .int)=some ns:=by
 induction ns with
 | nil=>rfl
 | cons i r ih=>simp [ints?,ih]
noncomputable def lmax:List Int->Option Int
 | []=>none
 | i :: r=>some (r.foldl max i)
noncomputable def lmin:List Int->Option Int
 | []=>none
 | i :: r=>some (r.foldl min i)
theorem fmax_le (r:List Int):∀ i,i<=r.foldl max i/\(∀ a ∈ r,a<=r.foldl max i)/\(r.foldl max i=i\/r.foldl max i ∈ r):=by
 induction r with
 | nil=>intro i; exact ⟨Int.le_refl _,fun a h=>(by cases h),.inl rfl⟩
 | cons j r ih=>
  intro i
  obtain ⟨h1,h2,h3⟩:=ih (max i j)
  refine ⟨Int.le_trans (Int.le_max_left _ _) h1,fun a h=>?_,?_⟩
  ·rcases List.mem_cons.mp h with rfl | h
   ·exact Int.le_trans (Int.le_max_right _ _) h1
   ·exact h2 a h
  ·rcases h3 with h3 | h3
   ·rw [List.foldl_cons,h3]
    rcases Int.le_total i j with q | q
    ·exact .inr (by rw [Int.max_eq_right q]; exact List.mem_cons_self)
    ·exact .inl (Int.max_eq_left q)
   ·exact .inr (List.mem_cons_of_mem _ h3)
theorem fmin_le (r:List Int):∀ i,r.foldl min i<=i/\(∀ a ∈ r,r.foldl min i<=a)/\(r.foldl min i=i\/r.foldl min i ∈ r):=by
 induction r with
 | nil=>intro i; exact ⟨Int.le_refl _,fun a h=>(by cases h),.inl rfl⟩
 | cons j r ih=>
  intro i
  obtain ⟨h1,h2,h3⟩:=ih (min i j)
  refine ⟨Int.le_trans h1 (Int.min_le_left _ _),fun a h=>?_,?_⟩
  ·rcases List.mem_cons.mp h with rfl | h
   ·exact Int.le_trans h1 (Int.min_le_right _ _)
   ·exact h2 a h
  ·rcases h3 with h3 | h3
   ·rw [List.foldl_cons,h3]
    rcases Int.le_total i j with q | q
    ·exact .inl (Int.min_eq_left q)
    ·exact .inr (by rw [Int.min_eq_right q]; exact List.mem_cons_self)
   ·exact .inr (List.mem_cons_of_mem _ h3)
noncomputable def nMaxL:List PyData->Option PyData:=fun xs=>match xs with
 | [.list ds]=>((ints? ds).bind lmax).map .int
 | _=>none
noncomputable def nMinL:List PyData->Option PyData:=fun xs=>match xs with
 | [.list ds]=>((ints? ds).bind lmin).map .int
 | _=>none
theorem fn_maxL:∀ ds d (Q:PyData->Prop),nMaxL ds=some d->Q d->∃ ns:List Int,ds=[.list (ns.map .int)]/\ns ≠ []/\∃ M,d=.int M/\M ∈ ns/\(∀ a ∈ ns,a<=M):=fun xs d Q e q=>by
 unfold nMaxL at e
 split at e
 ·obtain ⟨M,e1,e2⟩:=Option.map_eq_some_iff.mp e
  obtain ⟨ns,e3,e4⟩:=Option.bind_eq_some_iff.mp e1
  cases ns with
  | nil=>cases e4
  | cons i r=>
   cases e4
   obtain ⟨h1,h2,h3⟩:=fmax_le r i
   refine ⟨i :: r,by rw [ints_of e3],by simp,_,e2.symm,?_,fun a h=>?_⟩
   ·rcases h3 with h3 | h3
    ·rw [h3]; exact List.mem_cons_self
    ·exact List.mem_cons_of_mem _ h3
   ·rcases List.mem_cons.mp h with rfl | h
    ·exact h1
    ·exact h2 a h
 ·cases e
theorem fn_minL:∀ ds d (Q:PyData->Prop),nMinL ds=some d->Q d->∃ ns:List Int,ds=[.list (ns.map .int)]/\ns ≠ []/\∃ M,d=.int M/\M ∈ ns/\(∀ a ∈ ns,M<=a):=fun xs d Q e q=>by
 unfold nMinL at e
 split at e
 ·obtain ⟨M,e1,e2⟩:=Option.map_eq_some_iff.mp e
  obtain ⟨ns,e3,e4⟩:=Option.bind_eq_some_iff.mp e1
  cases ns with
  | nil=>cases e4
  | cons i r=>
   cases e4
   obtain ⟨h1,h2,h3⟩:=fmin_le r i
   refine ⟨i :: r,by rw [ints_of e3],by simp,_,e2.symm,?_,fun a h=>?_⟩
   ·rcases h3 with h3 | h3
    ·rw [h3]; exact List.mem_cons_self
    ·exact List.mem_cons_of_mem _ h3
   ·rcases List.mem_cons.mp h with rfl | h
    ·exact h1
    ·exact h2 a h
 ·cases e
theorem fn_maxF:FN fMaxL nMaxL:=fun ds d Q e q=>by
 obtain ⟨ns,h1,h2,M,h3,h4,h5⟩:=fn_maxL ds d Q e q
 refine ⟨ns,h1,h2,fun M' m1 m2=>?_⟩
 have:M' = M:=Int.le_antisymm (h5 M' m1) (m2 M h4)
 rw [this,<-h3]; exact q
theorem fn_minF:FN fMinL nMinL:=fun ds d Q e q=>by
 obtain ⟨ns,h1,h2,M,h3,h4,h5⟩:=fn_minL ds d Q e q
 refine ⟨ns,h1,h2,fun M' m1 m2=>?_⟩
 have:M' = M:=Int.le_antisymm (m2 M h4) (h5 M' m1)
 rw [this,<-h3]; exact q
noncomputable def gIn (neg:Bool):PyData->PyData->Option PyData:=fun x y=>match x,y with
 | .int i,.list ds=>(ints? ds).map fun ns=>.bool (if neg then !decide (i ∈ ns) else decide (i ∈ ns))
 | _,_=>none
theorem f2_in {neg:Bool}:F2 (fIn neg) (gIn neg):=fun x y d Q e q=>by
 unfold gIn at e
 split at e
 ·obtain ⟨ns,e1,e2⟩:=Option.map_eq_some_iff.mp e
  rw [ints_of e1]
  subst e2
  exact ⟨_,ns,rfl,rfl,q⟩
 ·cases e
@[simp] noncomputable def xLenS (i:Nat):XM PyData:=fun ρ=>match ρ[i]? with
 | some (some (.scr ns))=>if ns.length<=63 then .ok (.int ns.length) ρ else .bad
 | _=>.bad
@[simp] noncomputable def xIxS (i:Nat) (a:XM PyData):XM PyData:=fun ρ=>match ρ[i]? with
 | some (some (.scr ns))=>(a ρ).bind fun d=>lift (match d with | .int k=>(atI ns k).map .int | _=>none)
 | _=>.bad
@[simp] noncomputable def bEqS (i:Nat):XM Bool:=fun ρ=>match ρ[i]? with
 | some (some (.scr ns))=>.ok (decide (ns=[])) ρ
 | _=>.bad
theorem fe_lenS {i:Nat} (h:DE X F e (dLenS i)):FE X F E e (xLenS i):=h.imp mn_wp fun ρ Q q=>by
 unfold wp xLenS at q
 cases h:ρ[i]? with
 | none=>rw [h] at q; exact q.elim
 | some o=>
  rw [h] at q
  cases o with
  | none=>exact q.elim
  | some c=>
   cases c with
   | scr ns=>
    simp only at q
    by_cases hl:ns.length<=63
    ·rw [if_pos hl] at q; exact ⟨ns,h,fun _=>q⟩
    ·rw [if_neg hl] at q; exact q.elim
   | _=>exact q.elim
theorem fe_ixS {i:Nat} {ma:XM PyData} (h:DE X F e (dIxS i (wp E ma))):FE X F E e (xIxS i ma):=h.imp mn_wp fun ρ Q q=>by
 unfold wp xIxS at q
 cases h:ρ[i]? with
 | none=>rw [h] at q; exact q.elim
 | some o=>
  rw [h] at q
  cases o with
  | none=>exact q.elim
  | some c=>
   cases c with
   | scr ns=>
    refine ⟨ns,h,mn_wp _ _ _ (fun d ρ1 q1=>?_) (wp_bind (m:=ma) (k:=fun d=>lift (match d with | .int k=>(atI ns k).map PyData.int | _=>none)) q)⟩
    obtain ⟨y,e1,q2⟩:=wp_lift q1
    cases d with
    | int k=>
     obtain ⟨n,e2,e3⟩:=Option.map_eq_some_iff.mp e1
     subst e3
     exact ⟨k,n,rfl,e2,q2⟩
    | _=>cases e1
   | _=>exact q.elim
theorem fb_eqS {i:Nat} (h:DB X F e (dEqS i)):FB X F E e (bEqS i):=h.imp mn_wp fun ρ Q q=>by
 unfold wp bEqS at q
 cases h:ρ[i]? with
 | none=>rw [h] at q; exact q.elim
 | some o=>
  rw [h] at q
  cases o with
  | none=>exact q.elim
  | some c=>
   cases c with
   | scr ns=>exact ⟨ns,h,q⟩
   | _=>exact q.elim
@[simp] noncomputable def gNm (i:Nat):GM:=fun d ρ=>some (ρ.set i (some (.dat d)))
theorem fg_name {i:Nat} (h:DG X F e (gN i)):FG X F e (gNm i):=⟨fun d ρ Q Q' k q=>k _ q,h.pg.imp fun v σ H Q ⟨ρ,O,d,st,hd,q⟩=>⟨ρ,O,d,st,hd,q⟩⟩
noncomputable abbrev GMs:=List PyData->DEnv->Option DEnv
noncomputable def wpGs (g:GMs):DTGs:=fun d ρ Q=>match g d ρ with
 | some ρ'=>Q ρ'
 | none=>False
noncomputable abbrev FGs (X:Cx) (F:Fx) (tg:List Expr) (g:GMs):Prop:=DGs X F tg (wpGs g)
@[simp] noncomputable def gNil':GMs:=fun ds ρ=>match ds with | []=>some ρ | _=>none
@[simp] noncomputable def gCons' (t:GM) (u:GMs):GMs:=fun ds ρ=>match ds with | d :: r=>(t d ρ).bind fun ρ'=>u r ρ' | []=>none
theorem mn_wpG {g:GM}:∀ d ρ (Q Q':DEnv->Prop),(∀ ρ',Q ρ'->Q' ρ')->wpG g d ρ Q->wpG g d ρ Q':=fun d ρ Q Q' k q=>by
 unfold wpG at q ⊢
 generalize g d ρ=o at q ⊢
 cases o with
 | some ρ'=>exact k _ q
 | none=>exact q
theorem mn_wpGs {g:GMs}:∀ d ρ (Q Q':DEnv->Prop),(∀ ρ',Q ρ'->Q' ρ')->wpGs g d ρ Q->wpGs g d ρ Q':=fun d ρ Q Q' k q=>by
 unfold wpGs at q ⊢
 generalize g d ρ=o at q ⊢
 cases o with
 | some ρ'=>exact k _ q
 | none=>exact q
theorem fgs_nil:FGs X F [] gNil':=⟨mn_wpGs,dgs_nil.pg.imp fun v σ H Q ⟨ρ,O,d,st,hd,q⟩=>⟨ρ,O,d,st,hd,by
 unfold wpGs gNil' at q
 cases d with
 | nil=>exact ⟨rfl,q⟩
 | cons _ _=>exact q.elim⟩⟩
theorem fgs_cons {g:GM} {gs:GMs} (h1:FG X F e g) (h2:FGs X F es gs) (hs:(assignEach (e :: es) X.env).map (·.2)=assign e X.env :: (assignEach es X.env).map (·.2):=by rfl):FGs X F (e :: es) (gCons' g gs):=⟨mn_wpGs,(dgs_cons h1 h2 hs).pg.imp fun v σ H Q ⟨ρ,O,d,st,hd,q⟩=>⟨ρ,O,d,st,hd,by
 unfold wpGs gCons' at q
 cases d with
 | nil=>exact q.elim
 | cons d r=>
  refine ⟨d,r,rfl,?_⟩
  unfold wpG
  simp only at q
  cases hg:g d ρ with
  | none=>rw [hg] at q; exact q
  | some ρ'=>rw [hg] at q; exact q⟩⟩
@[simp] noncomputable def gTup' (n:Nat) (t:GMs):GM:=fun d ρ=>match d with | .tuple ds=>if ds.length=n then t ds ρ else none | _=>none
theorem fg_tup {k n:Nat} {gs:GMs} (hc:X.calm=true) (h:FGs X F es gs) (hn:(assignEach es X.env).length=n:=by rfl) (hst:(assignEach es X.env).findIdx? (·.1)=none:=by rfl):FG X F (.Tuple es k pos) (gTup' n gs):=⟨mn_wpG,(dg_tup hc h hn hst).pg.imp fun v σ H Q ⟨ρ,O,d,st,hd,q⟩=>⟨ρ,O,d,st,hd,by
 unfold wpG gTup' at q
 cases d with
 | tuple ds=>
  simp only at q
  by_cases hl:ds.length=n
  ·rw [if_pos hl] at q; exact ⟨ds,rfl,hl,q⟩
  ·rw [if_neg hl] at q; exact q.elim
 | _=>exact q.elim⟩⟩
@[simp] noncomputable def cNil:XM (List AX):=fun ρ=>.ok [] ρ
@[simp] noncomputable def cVal (a:XM PyData) (r:XM (List AX)):XM (List AX):=fun ρ=>(a ρ).bind fun d ρ1=>(r ρ1).bind fun as ρ2=>.ok (.d d :: as) ρ2
@[simp] noncomputable def cSlot (j:Nat) (r:XM (List AX)):XM (List AX):=fun ρ=>match ρ[j]? with
 | some (some _)=>(r ρ).bind fun as ρ2=>.ok (.s j :: as) ρ2
 | _=>.bad
theorem fx_nil:FX X F E [] cNil:=dx_nil.imp mn_wp fun _ _ q=>q
theorem fx_val {ma:XM PyData} {mr:XM (List AX)} (ha:FE X F E e ma) (hr:FX X F E es mr) (hs:starEach (e :: es) X.env=(false,eval e X.env) :: starEach es X.env:=by rfl):FX X F E (e :: es) (cVal ma mr):=(dx_val ha hr hs).imp mn_wp fun ρ Q q=>
 mn_wp _ _ _ (fun d ρ1 q1=>mn_wp _ _ _ (fun ds ρ2 q2=>q2) (wp_bind (k:=fun as ρ2=>Out.ok (AX.d d :: as) ρ2) q1)) (wp_bind (m:=ma) (k:=fun d ρ1=>(mr ρ1).bind fun as ρ2=>Out.ok (AX.d d :: as) ρ2) q)
theorem fx_slot {p:Pos} {j:Nat} {mr:XM (List AX)} (hv:PE X (.Name x p) (tVar j)) (hr:FX X F E es mr) (hs:starEach (.Name x p :: es) X.env=(false,eval (.Name x p) X.env) :: starEach es X.env:=by rfl):FX X F E (.Name x p :: es) (cSlot j mr):=(dx_slot hv hr hs).imp mn_wp fun ρ Q q=>by
 unfold wp cSlot at q
 cases h:ρ[j]? with
 | none=>rw [h] at q; exact q.elim
 | some o=>
  rw [h] at q
  cases o with
  | none=>exact q.elim
  | some c=>exact ⟨⟨c,h⟩,mn_wp _ _ _ (fun as ρ2 q2=>q2) (wp_bind (m:=mr) (k:=fun as ρ2=>Out.ok (AX.s j :: as) ρ2) (show wp E (fun ρ=>(mr ρ).bind fun as ρ2=>Out.ok (AX.s j :: as) ρ2) ρ Q from q))⟩
@[simp] noncomputable def callK (f:FM) (as:List AX):XM Cell:=fun ρ=>match argCells ρ as with
 | some (cs,js)=>(match f cs with
  | .rt c outs=>.ok c (back js outs (clr js ρ))
  | .ex c outs=>.ex c (back js outs (clr js ρ))
  | .bad=>.bad)
 | none=>.bad
@[simp] noncomputable def xCall (f:FM) (a:XM (List AX)):XM Cell:=fun ρ=>(a ρ).bind (callK f)
theorem fo_call {g:FM} {ma:XM (List AX)} (h:DO X F e (dCall g E (wp E ma))):FO X F E e (xCall g ma):=h.imp mn_wp fun ρ Q q=>mn_wp _ _ _ (fun as ρ1 q1=>by
 unfold wp callK at q1
 unfold callOn
 cases ha:argCells ρ1 as with
 | none=>rw [ha] at q1; exact q1
 | some p=>
  obtain ⟨cs,js⟩:=p
  rw [ha] at q1
  simp only at q1 ⊢
  cases hf:g cs with
  | rt c outs=>rw [hf] at q1; exact q1
  | ex c outs=>rw [hf] at q1; exact q1
  | bad=>rw [hf] at q1; exact q1) (wp_bind (k:=callK g) q)
@[simp] noncomputable def xFrz (a:XM Cell):XM PyData:=fun ρ=>(a ρ).bind fun c=>lift (frz c)
theorem fe_frz {ma:XM Cell} (h:FO X F E e ma):FE X F E e (xFrz ma):=h.de.imp mn_wp fun ρ Q q=>mn_wp _ _ _ (fun c ρ1 q1=>wp_lift q1) (wp_bind q)
@[simp] noncomputable def sNx:SM:=fun ρ=>.nx ρ
@[simp] noncomputable def sThen (m k:SM):SM:=fun ρ=>match m ρ with
 | .nx ρ'=>k ρ'
 | o=>o
theorem fss_nil:FSs X F E [] sNx:=dss_nil.imp fun _ _ q=>q
theorem fss_cons {m k:SM} (h1:FS X F E st m) (h2:FSs X F E rest k):FSs X F E (st :: rest) (sThen m k):=(dss_cons h1 h2).imp fun D ρ q=>by
 show wpS E m _ ρ
 unfold wpS sThen at q
 unfold wpS
 generalize m ρ=o at q ⊢
 cases o with
 | nx ρ'=>exact q
 | _=>exact q
theorem fss_one {m:SM} (h:FS X F E st m):FSs X F E [st] m:=dss_one h
@[simp] noncomputable def ofX {α:Type} (o:Out α) (k:α->DEnv->OutS):OutS:=match o with
 | .ok a ρ=>k a ρ
 | .ex c ρ=>.ex c ρ
 | .bad=>.bad
theorem wpS_ofX {α:Type} {m:XM α} {k:α->SM} {D:DEnds} {ρ:DEnv} (q:wpS E (fun ρ=>ofX (m ρ) k) D ρ):wp E m ρ fun a ρ'=>wpS E (k a) D ρ':=by
 unfold wpS ofX at q
 unfold wp
 simp only at q
 generalize m ρ=o at q ⊢
 cases o with
 | ok a ρ'=>exact q
 | ex c ρ'=>exact q
 | bad=>exact q
@[simp] noncomputable def optS (o:Option DEnv):OutS:=match o with
 | some ρ=>.nx ρ
 | none=>.bad
@[simp] noncomputable def sAsg (m:XM PyData) (g:GM):SM:=fun ρ=>ofX (m ρ) fun d ρ1=>optS (g d ρ1)
theorem asg_of {m:XM PyData} {g:GM} {D:DEnds} {ρ:DEnv} (q:wpS E (sAsg m g) D ρ):sSet (wp E m) (wpG g) D ρ:=mn_wp _ _ _ (fun d ρ1 q1=>by
 unfold wpS optS at q1
 unfold wpG
 simp only at q1
 generalize g d ρ1=o at q1 ⊢
 cases o with
 | some ρ'=>exact q1
 | none=>exact q1) (wpS_ofX (k:=fun d ρ1=>optS (g d ρ1)) q)
theorem fs_asg {tgt:Expr} {m:XM PyData} {g:GM} (he:FE X F E e m) (hg:FG X F tgt g) (hs:swapsWithSole [tgt] e pos.line X.env=pure false:=by rfl) (hw:swappedStores [tgt] e X.env=pure none:=by rfl)
  (h1:(assignEach [tgt] X.env).map (·.2)=[assign tgt X.env]:=by rfl):FS X F E (.Assign [tgt] e pos) (sAsg m g):=(ds_asg he hg hs hw h1).imp fun D ρ q=>asg_of q
theorem fs_set {i:Nat} {pos':Pos} {m:XM PyData} (hN:X.N.Nodup) (hi:X.N[i]? = some x) (hx:Loc X.env.scope x) (he:FE X F E e m) (hs:swapsWith e (some (.Name x pos')) pos.line X.env=pure false:=by rfl)
  (hf:X.fn x=true\/X.env.scope.names.lookup x=some .local:=by first | exact .inl rfl | exact .inr rfl | assumption):FS X F E (.Assign [.Name x pos'] e pos) (sAsg m (gNm i)):=(ds_set hN hi hx he hs hf).imp fun D ρ q=>asg_of q
@[simp] noncomputable def setK (i:Nat) (c:Cell):SM:=fun ρ1=>if i < ρ1.length then (match c with | .own true _=>.bad | c=>.nx (ρ1.set i (some c))) else .bad
@[simp] noncomputable def sSetC (i:Nat) (m:XM Cell):SM:=fun ρ=>ofX (m ρ) (setK i)
theorem fs_setO {i:Nat} {pos':Pos} {m:XM Cell} (hN:X.N.Nodup) (hi:X.N[i]? = some x) (hx:Loc X.env.scope x) (he:FO X F E e m) (hs:swapsWith e (some (.Name x pos')) pos.line X.env=pure false:=by rfl)
  (hf:X.fn x=true\/X.env.scope.names.lookup x=some .local:=by first | exact .inl rfl | exact .inr rfl | assumption):FS X F E (.Assign [.Name x pos'] e pos) (sSetC i m):=(ds_setO hN hi hx he hs hf).imp fun D ρ q=>mn_wp _ _ _ (fun c ρ1 q1=>by
 unfold wpS setK at q1
 by_cases hl:i < ρ1.length
 ·simp only [if_pos hl] at q1
  cases c with
  | own io b=>cases io with
   | true=>exact q1.elim
   | false=>exact ⟨hl,(fun _ z=>by cases z),q1⟩
  | dat d=>exact ⟨hl,(fun _ z=>by cases z),q1⟩
  | scr d=>exact ⟨hl,(fun _ z=>by cases z),q1⟩
  | exc d=>exact ⟨hl,(fun _ z=>by cases z),q1⟩
  | vw d=>exact ⟨hl,(fun _ z=>by cases z),q1⟩
 ·simp only [if_neg hl] at q1) (wpS_ofX (k:=setK i) q)
@[simp] noncomputable def sRetV (m:XM PyData):SM:=fun ρ=>ofX (m ρ) fun d ρ1=>.rt (.dat d) ρ1
@[simp] noncomputable def sRetC (m:XM Cell):SM:=fun ρ=>ofX (m ρ) fun c ρ1=>.rt c ρ1
@[simp] noncomputable def sDoC (m:XM Cell):SM:=fun ρ=>ofX (m ρ) fun _ ρ1=>.nx ρ1
theorem fs_ret {m:XM PyData} (he:FE X F E e m):FS X F E (.Return (some e) pos) (sRetV m):=(ds_ret he).imp fun D ρ q=>mn_wp _ _ _ (fun c ρ1 q1=>q1) (wpS_ofX (k:=fun d ρ1=>.rt (.dat d) ρ1) q)
theorem fs_retO {m:XM Cell} (he:FO X F E e m):FS X F E (.Return (some e) pos) (sRetC m):=(ds_retO he).imp fun D ρ q=>mn_wp _ _ _ (fun c ρ1 q1=>q1) (wpS_ofX (k:=fun d ρ1=>.rt d ρ1) q)
theorem fs_exprO {m:XM Cell} (he:FO X F E e m) (hs:swapsWith e none pos.line X.env=pure false:=by rfl):FS X F E (.Expr e pos) (sDoC m):=(ds_exprO he hs).imp fun D ρ q=>mn_wp _ _ _ (fun c ρ1 q1=>q1) (wpS_ofX (k:=fun _ ρ1=>.nx ρ1) q)
@[simp] noncomputable def sMv (i:Nat):SM:=fun ρ=>match ρ[i]? with
 | some (some (.own false b))=>.rt (.own false b) (ρ.set i none)
 | some (some (.dat d))=>.rt (.dat d) ρ
 | _=>.bad
@[simp] noncomputable def sIfF (t:XM Bool) (a b:SM):SM:=fun ρ=>ofX (t ρ) fun x ρ1=>if x=true then a ρ1 else b ρ1
theorem fs_if {cnd:Expr} {sa sb:List Stmt} {mt:XM Bool} {ma mb:SM} (hc:FB X F E cnd mt) (ha:FSs X F E sa ma) (hb:FSs X F E sb mb):FS X F E (.If cnd sa sb pos) (sIfF mt ma mb):=(ds_if hc ha hb).imp fun D ρ q=>mn_wp _ _ _ (fun x ρ1 q1=>by
 cases x with
 | true=>exact iteT q1
 | false=>exact iteF q1) (wpS_ofX (k:=fun x ρ1=>if x=true then ma ρ1 else mb ρ1) q)
end
end L2.L3
namespace L2.L3
open PySem PySem.Spec PyProof.Rows
noncomputable def isTab (d n:String):Option Bool:=if d=n then some true else
 if d = "bool"/\n = "int" then some true else
 if (d = "int"\/d = "bool"\/d = "str"\/d = "list"\/d = "tuple"\/d = "NoneType")/\(n = "int"\/n = "bool"\/n = "str"\/n = "list"\/n = "tuple") then some false else none
theorem kit_tab {d n:String} {b:Bool} (h:isTab d n=some b) (K:PySem.W.Frag):PySem.W.kitOne K (.type d) (.type n)=some b:=by
 unfold isTab at h
 split at h
 ·rename_i e; cases h; subst e; unfold PySem.W.kitOne; rw [if_pos (by simp)]
 ·split at h
  ·rename_i e; cases h; obtain ⟨rfl,rfl⟩:=e; rfl
  ·rename_i n1 n2
   split at h
   ·rename_i e
    cases h
    obtain ⟨e1,e2⟩:=e
    rcases e1 with rfl | rfl | rfl | rfl | rfl | rfl <;> rcases e2 with rfl | rfl | rfl | rfl | rfl <;> first | rfl | (exact absurd rfl n1) | (exact absurd ⟨rfl,rfl⟩ n2)
   ·cases h
@[simp] noncomputable def xIs (n:String) (a:XM PyData):XM PyData:=fun ρ=>(a ρ).bind fun d=>lift ((isTab (tyOfD d) n).map .bool)
section
variable {X:Cx} {F:Fx} {E:Str->DEnv->Prop} {e a b c:Expr} {es:List Expr} {st:Stmt} {rest:List Stmt} {pos:Pos} {x:Str}
theorem fe_is {n:String} {ma:XM PyData} (h:DE X F e (dIsI n (wp E ma))):FE X F E e (xIs n ma):=h.imp mn_wp fun ρ Q q=>mn_wp _ _ _ (fun d ρ1 q1=>by
 obtain ⟨y,e1,q2⟩:=wp_lift q1
 obtain ⟨b,e2,e3⟩:=Option.map_eq_some_iff.mp e1
 subst e3
 exact ⟨b,kit_tab e2,q2⟩) (wp_bind q)
theorem fs_mv {i:Nat} {p1:Pos} (hv:PE X (.Name x p1) (tVar i)):FS X F E (.Return (some (.Name x p1)) pos) (sMv i):=fun pins s σ H D I ⟨ρ,O,DD,stt,q,f⟩=>by
 unfold wpS sMv at q
 cases h:ρ[i]? with
 | none=>rw [h] at q; exact q.elim
 | some o=>
  rw [h] at q
  cases o with
  | none=>exact q.elim
  | some c=>
   cases c with
   | own io b=>cases io with
    | true=>exact q.elim
    | false=>exact ds_retMv hv pins s σ H D I ⟨ρ,O,DD,stt,⟨b,h,q⟩,f⟩
   | dat d=>exact ds_ret (de_var i hv) pins s σ H D I ⟨ρ,O,DD,stt,.inl ⟨d,h,q⟩,f⟩
   | scr n=>exact q.elim
   | exc n=>exact q.elim
   | vw n=>exact q.elim
noncomputable def forGo (g:GM) (b:SM):List PyData->SM
 | [],ρ=>.nx ρ
 | d :: r,ρ=>(match g d ρ with
  | some ρ1=>(match b ρ1 with
   | .nx ρ2=>forGo g b r ρ2
   | .ct ρ2=>forGo g b r ρ2
   | .bk ρ2=>.nx ρ2
   | o=>o)
  | none=>.bad)
@[simp] noncomputable def sForF (s:XM (List PyData)) (g:GM) (b:SM):SM:=fun ρ=>ofX (s ρ) (forGo g b)
theorem fs_for {tg iter:Expr} {body:List Stmt} {s:XM (List PyData)} {g:GM} {mb:SM} (hp:PassesOwn (model X.prog X.w) X.A X.env X.xe) (hc:X.calm=true) (hi:FI X F E tg iter s) (hg:FG X F tg g) (hb:FSs X F E body mb) (hs:∀ x,foldedSetIterable iter X.env x=pure x:=by intro _; rfl):FS X F E (.For tg iter body [] pos) (sForF s g mb):=
 (ds_for hp hc hi hg hb hs).imp fun D ρ q=>mn_wp _ _ _ (fun its ρ1 q1=>by
  refine ⟨fun i ρ=>wpS E (forGo g mb (its.drop i)) D ρ,q1,fun i d ρ hd hi=>?_,fun ρ h=>?_⟩
  ·have e:its.drop i=d :: its.drop (i + 1):=by
    obtain ⟨hlt,he⟩:=List.getElem?_eq_some_iff.mp hd
    rw [<-he]
    exact List.drop_eq_getElem_cons hlt
   simp only [e] at hi
   unfold wpS forGo at hi
   unfold wpG
   generalize g d ρ=o at hi ⊢
   cases o with
   | none=>exact hi
   | some ρ1=>
    show wpS E mb _ ρ1
    simp only at hi
    unfold wpS
    generalize mb ρ1=o2 at hi ⊢
    cases o2 with
    | nx ρ2=>exact hi
    | ct ρ2=>exact hi
    | bk ρ2=>exact hi
    | rt c ρ2=>exact hi
    | ex c ρ2=>exact hi
    | bad=>exact hi
  ·simp only [List.drop_length] at h
   exact h) (wpS_ofX (k:=forGo g mb) q)
@[simp] noncomputable def iLs (a:XM PyData):XM (List PyData):=fun ρ=>(a ρ).bind fun d=>lift (match d with | .list ds=>some ds | _=>none)
@[simp] noncomputable def iTs (a:XM PyData):XM (List PyData):=fun ρ=>(a ρ).bind fun d=>lift (match d with | .tuple ds=>some ds | _=>none)
theorem DI.imp {tg iter:Expr} {t t':DTI} (h:DI X F tg iter t) (mn:∀ ρ Q Q',(∀ d ρ',Q d ρ'->Q' d ρ')->t' ρ Q->t' ρ Q') (k:∀ ρ Q,t' ρ Q->t ρ Q):DI X F tg iter t':=⟨mn,h.pi.imp fun σ H Q ⟨ρ,O,st,q⟩=>⟨ρ,O,st,k ρ _ q⟩⟩
theorem fi_list {tg:Expr} {ma:XM PyData} (h:FE X F E e ma):FI X F E tg e (iLs ma):=(di_list h).imp mn_wp fun ρ Q q=>mn_wp _ _ _ (fun d ρ1 q1=>by
 obtain ⟨y,e1,q2⟩:=wp_lift q1
 cases d with
 | list ds=>cases e1; exact ⟨_,rfl,q2⟩
 | _=>cases e1) (wp_bind q)
theorem fi_tup {tg:Expr} {ma:XM PyData} (h:FE X F E e ma):FI X F E tg e (iTs ma):=(di_tup h).imp mn_wp fun ρ Q q=>mn_wp _ _ _ (fun d ρ1 q1=>by
 obtain ⟨y,e1,q2⟩:=wp_lift q1
 cases d with
 | tuple ds=>cases e1; exact ⟨_,rfl,q2⟩
 | _=>cases e1) (wp_bind q)
@[simp] noncomputable def iLf (g:List PyData->Option (List PyData)) (a:XM (List PyData)):XM (List PyData):=fun ρ=>(a ρ).bind fun ds=>lift (g ds)
@[simp] noncomputable def rng1:List PyData->Option (List PyData):=fun xs=>match xs with
 | [.int j]=>if (decide (-(2 ^ 62)<=j) && decide (j < 2 ^ 62))=true then some (intsFrom 0 j.toNat) else none
 | _=>none
theorem fi_range1 {tg:Expr} {ma:XM (List PyData)} (h:DI X F tg e (iR1 (wp E ma))):FI X F E tg e (iLf rng1 ma):=h.imp mn_wp fun ρ Q q=>mn_wp _ _ _ (fun ds ρ1 q1=>by
 obtain ⟨y,e1,q2⟩:=wp_lift q1
 unfold rng1 at e1
 split at e1
 ·split at e1
  ·rename_i h; cases e1; simp only [Bool.and_eq_true,decide_eq_true_eq] at h; exact ⟨_,rfl,h.1,h.2,q2⟩
  ·cases e1
 ·cases e1) (wp_bind q)
noncomputable def compGo (g:GM) (t:XM Bool) (m:XM PyData):List PyData->List PyData->DEnv->Option (List PyData)
 | [],ys,_=>some ys
 | d :: r,ys,ρ=>(match g d ρ with
  | some ρ1=>(match t ρ1 with
   | .ok true ρ2=>(match m ρ2 with
    | .ok y ρ3=>if ys.length < sizeLine then compGo g t m r (ys ++ [y]) ρ3 else none
    | _=>none)
   | .ok false ρ2=>compGo g t m r ys ρ2
   | _=>none)
  | none=>none)
@[simp] noncomputable def liftE (own:Nat) (caps:List Nat) (ρ:DEnv):DEnv:=List.replicate own none ++ caps.map fun j=>capC ρ[j]?
@[simp] noncomputable def compK (own:Nat) (caps:List Nat) (g:GM) (t:XM Bool) (m:XM PyData) (its:List PyData):XM PyData:=fun ρ1=>lift ((compGo g t m its [] (liftE own caps ρ1)).bind fun ys=>if ys.length<=sizeLine then some (.list ys) else none) ρ1
@[simp] noncomputable def xComp (own:Nat) (caps:List Nat) (s:XM (List PyData)) (g:GM) (t:XM Bool) (m:XM PyData):XM PyData:=fun ρ=>(s ρ).bind (compK own caps g t m)
noncomputable abbrev E0':Str->DEnv->Prop:=fun _ _=>False
theorem comp_of {own:List Str} {caps:List Nat} {s:XM (List PyData)} {g:GM} {t:XM Bool} {m:XM PyData} {ρ:DEnv} {Q:PyData->DEnv->Prop} (q:wp E (xComp own.length caps s g t m) ρ Q):dCmp own caps (wp E s) (wpG g) (wp E0' t) (wp E0' m) ρ Q:=mn_wp _ _ _ (fun its ρ1 q1=>by
 obtain ⟨y,e1,q2⟩:=wp_lift (o:=(compGo g t m its [] (liftE own.length caps ρ1)).bind fun ys=>if ys.length<=sizeLine then some (PyData.list ys) else none) (ρ:=ρ1) (E:=E) (Q:=Q) q1
 obtain ⟨ys0,e2,e3⟩:=Option.bind_eq_some_iff.mp e1
 have hl:ys0.length<=sizeLine/\y=.list ys0:=by
  split at e3
  ·rename_i h; cases e3; exact ⟨h,rfl⟩
  ·cases e3
 have eL:liftD own caps ρ1=liftE own.length caps ρ1:=by
  unfold liftD liftE
  rw [List.map_const']
 refine ⟨fun i ys ρ=>compGo g t m (its.drop i) ys ρ=some ys0,by rw [eL]; exact e2,fun i d ys ρ hd hi=>?_,fun ys ρ h=>?_⟩
 ·have e:its.drop i=d :: its.drop (i + 1):=by
   obtain ⟨hlt,he⟩:=List.getElem?_eq_some_iff.mp hd
   rw [<-he]
   exact List.drop_eq_getElem_cons hlt
  simp only [e] at hi
  unfold compGo at hi
  unfold wpG
  cases hg:g d ρ with
  | none=>rw [hg] at hi; cases hi
  | some ρ2=>
   rw [hg] at hi
   simp only at hi ⊢
   unfold wp
   cases ht:t ρ2 with
   | ex c ρ3=>rw [ht] at hi; cases hi
   | bad=>rw [ht] at hi; cases hi
   | ok b ρ3=>
    rw [ht] at hi
    cases b with
    | false=>exact iteF hi
    | true=>
     refine iteT ?_
     simp only at hi ⊢
     cases hm:m ρ3 with
     | ex c ρ4=>rw [hm] at hi; cases hi
     | bad=>rw [hm] at hi; cases hi
     | ok y' ρ4=>
      rw [hm] at hi
      simp only at hi ⊢
      split at hi
      ·rename_i h; exact ⟨h,hi⟩
      ·cases hi
 ·simp only [List.drop_length] at h
  have:ys=ys0:=by unfold compGo at h; exact Option.some.inj h
  subst this
  rw [hl.2] at q2
  exact ⟨hl.1,q2⟩) (wp_bind (k:=compK own.length caps g t m) q)
noncomputable abbrev FBs (X:Cx) (F:Fx) (E:Str->DEnv->Prop) (ifs:List Expr) (m:XM Bool):Prop:=DBs X F ifs (wp E m)
noncomputable def bTrue:XM Bool:=fun ρ=>.ok true ρ
theorem fbs_nil:FBs X F E [] bTrue:=⟨mn_wp,fun pins s σ H Q I ⟨ρ,O,st,q⟩=>dbs_nil.2 pins s σ H Q I ⟨ρ,O,st,q⟩⟩
theorem fbs_one {ma:XM Bool} (h:FB X F E c ma):FBs X F E [c] ma:=dbs_one h
theorem fe_comp {scope:Scope} {own capN:List Str} {caps:List Nat} {tg iter elt:Expr} {ifs:List Expr} {s:XM (List PyData)} {g:GM} {t:XM Bool} {m:XM PyData} {n:Nat} (hG:GF X.mg F) (S:CompScope X scope own capN caps) (hc:X.calm=true) (hn:own.length=n) (hi:FI X F E tg iter s)
  (hin:∀ C fp s₂ H₂ pl F',GF X.mg F'->FG (compCx X scope (own ++ capN) C fp s₂ H₂ pl) F' tg g/\FBs (compCx X scope (own ++ capN) C fp s₂ H₂ pl) F' E0' ifs t/\FE (compCx X scope (own ++ capN) C fp s₂ H₂ pl) F' E0' elt m)
  (hs:∀ x,foldedSetIterable iter X.env x=pure x:=by intro _; rfl):FE X F E (.ListComp elt [⟨tg,iter,ifs,0⟩] scope pos) (xComp n caps s g t m):=by
 subst hn
 exact (de_comp hG S hc hi hin hs).imp mn_wp fun ρ Q q=>comp_of q
theorem fs_setComp {scope:Scope} {own capN:List Str} {caps:List Nat} {tg iter elt:Expr} {ifs:List Expr} {s:XM (List PyData)} {g:GM} {t:XM Bool} {m:XM PyData} {n i:Nat} {y:Str} {py spos:Pos} (hN:X.N.Nodup) (hi':X.N[i]? = some y) (hx:Loc X.env.scope y) (hG:GF X.mg F) (S:CompScope X scope own capN caps) (hc:X.calm=true) (hn:own.length=n) (hi:FI X F E tg iter s)
  (hin:∀ C fp s₂ H₂ pl F',GF X.mg F'->FG (compCx X scope (own ++ capN) C fp s₂ H₂ pl) F' tg g/\FBs (compCx X scope (own ++ capN) C fp s₂ H₂ pl) F' E0' ifs t/\FE (compCx X scope (own ++ capN) C fp s₂ H₂ pl) F' E0' elt m)
  (hsw:swapsWith (.ListComp elt [⟨tg,iter,ifs,0⟩] scope pos) (some (.Name y py)) spos.line X.env=pure true:=by rfl)
  (hs:∀ x,foldedSetIterable iter X.env x=pure x:=by intro _; rfl) (hf:X.fn y=true\/X.env.scope.names.lookup y=some .local:=by first | exact .inl rfl | exact .inr rfl | assumption) :
  FS X F E (.Assign [.Name y py] (.ListComp elt [⟨tg,iter,ifs,0⟩] scope pos) spos) (sAsg (xComp n caps s g t m) (gNm i)):=by
 subst hn
 exact (ds_setComp hN hi' hx hG S hc hi hin hsw hs hf).imp fun D ρ q=>by
  have q':=asg_of q
  exact mn_cmp (s:=wp E s) mn_wp ρ _ _ (fun d ρ' h=>h) (comp_of (Q:=fun d ρ'=>wpG (gNm i) d ρ' D.nx) q')
end
end L2.L3
namespace L2.L3
open PySem PySem.Spec PyProof.Rows
section
variable {K:PySem.W.Frag} {F:Fx} {H H':Hp} {σ:St} {ρ:DEnv} {O O':List Addr}
theorem DSt.fresh (st:DSt K F H σ ρ O) {p:Addr} {o:HO} (hp:H p=none) (ho:Mv o):∃ O',DSt K (F.plus [p]) (upd H p o) σ ρ O'/\Stp O H O' (upd H p o):=by
 obtain ⟨O',h1,h2,_⟩:=DSt.swap (L:=[]) (L':=[p]) (H':=upd H p o) (F:=F) st (fun b u _ e=>same_upd hp b u e) (by simp) (fun a h=>.inr (by obtain rfl:=List.mem_singleton.mp h; exact hp)) (fun a h=>by cases h) (fun a h=>by obtain rfl:=List.mem_singleton.mp h; exact ⟨o,upd_same,ho⟩)
 exact ⟨O',h1,h2⟩
theorem DSt.new1 (st:DSt K F H σ ρ O) {p:Addr} (hp:H p=none):∀ a ∈ [p],a ∈ F.A₀\/F.H₀ a=none:=fun a h=>by
 obtain rfl:=List.mem_singleton.mp h
 by_cases hA:a ∈ F.A₀
 ·exact .inl hA
 ·refine .inr ?_
  cases e:F.H₀ a with
  | none=>rfl
  | some o=>obtain ⟨W,h,_⟩:=st; have:=h.kept a o hA e; rw [hp] at this; cases this
end
section
variable {X:Cx} {F:Fx} {E:Str->DEnv->Prop} {e a b c:Expr} {es:List Expr} {st:Stmt} {rest:List Stmt} {pos:Pos} {x:Str}
noncomputable def dLstO (t:DTA):DTO:=fun ρ Q=>t ρ fun ds ρ'=>ds.length<=sizeLine/\Q (.own false (.l ds)) ρ'
theorem do_lst {tA:DTA} (h:DA X F es tA):DO X F (.List es pos) (dLstO tA):=
 ⟨fun _ _ _ k q=>h.mn _ _ _ (fun _ _ q1=>⟨q1.1,k _ _ q1.2⟩) q,(pe_lst h.pa).imp fun σ H Q ⟨ρ,O,st,q⟩=>
  ⟨ρ,O,st,h.mn _ _ _ (fun ds ρ1 q1 vs H1 O1 st1 s1 d1=>⟨by rw [d1.length]; exact q1.1,fun p hp=>by
   obtain ⟨O2,st2,s2⟩:=st1.fresh (o:=.lst vs) hp trivial
   exact q1.2 _ _ O2 [p] ⟨st2,⟨p,rfl,rfl,vs,upd_same,DVs.mono s2.hid d1⟩,st1.new1 hp⟩ (s1.trans s2)⟩) q⟩⟩
@[simp] noncomputable def xLstO (a:XM (List PyData)):XM Cell:=fun ρ=>(a ρ).bind fun ds=>lift (if ds.length<=sizeLine then some (.own false (.l ds)) else none)
theorem fo_lst {ma:XM (List PyData)} (h:FA X F E es ma):FO X F E (.List es pos) (xLstO ma):=(do_lst h).imp mn_wp fun ρ Q q=>mn_wp _ _ _ (fun ds ρ1 q1=>by
 obtain ⟨d,e1,q2⟩:=wp_lift q1
 split at e1
 ·rename_i h; cases e1; exact ⟨h,q2⟩
 ·cases e1) (wp_bind q)
@[simp] noncomputable def appK (i:Nat) (d:PyData):SM:=fun ρ1=>match ρ1[i]? with
 | some (some (.own io (.l ds)))=>if ds.length < sizeLine then .nx (ρ1.set i (some (.own io (.l (ds ++ [d]))))) else .bad
 | _=>.bad
@[simp] noncomputable def sApp (i:Nat) (m:XM PyData):SM:=fun ρ=>match ρ[i]? with
 | some (some (.own _ (.l _)))=>ofX (m ρ) (appK i)
 | _=>.bad
theorem fs_app {i:Nat} {m:XM PyData} {p1 apos cpos:Pos} (hv:PE X (.Name x p1) (tVar i)) (he:FE X F E e m) (hsw:swapsWith (.Call (.Attribute (.Name x p1) "append" apos) [e] [] cpos) none pos.line X.env=pure false:=by rfl)
  (hbase:attributeBase (.Name x p1) "append" X.env (eval (.Name x p1) X.env)=eval (.Name x p1) X.env:=by rfl)
  (hfew:((backTo cpos (starEach [e] X.env)).all (fun x=>!x.1) && (backToKw cpos (keywordEach [] X.env)).all (fun x=>x.1.isSome) && decide (([e]:List Expr).length + ([]:List Keyword).length + (if ([]:List Keyword).isEmpty then 0 else 1) < 30))=true:=by rfl)
  (hline:(apos.endLine == cpos.line)=true:=by rfl) (hs:starEach [e] X.env=(false,eval e X.env) :: starEach [] X.env:=by rfl) (hplain:(backTo cpos (starEach [] X.env)).any (·.1)=false:=by rfl) :
  FS X F E (.Expr (.Call (.Attribute (.Name x p1) "append" apos) [e] [] cpos) pos) (sApp i m):=
 (ps_expr (pe_bm PySem.F.plainAttrs_list PySem.F.slot_list_append PySem.F.type_list_append mt_append hv (pa_cons he.pe pa_nil hs) hbase hfew hline hs hplain) hsw).imp fun D σ H ⟨ρ,O,DD,st,q,f⟩=>by
  unfold wpS sApp at q
  cases h0:ρ[i]? with
  | none=>rw [h0] at q; exact q.elim
  | some o=>
   rw [h0] at q
   cases o with
   | none=>exact q.elim
   | some c0=>
    cases c0 with
    | dat d=>exact q.elim
    | scr d=>exact q.elim
    | exc d=>exact q.elim
    | vw d=>exact q.elim
    | own io0 b0=>
     cases b0 with
     | m _ _=>exact q.elim
     | o _ _=>exact q.elim
     | sd _=>exact q.elim
     | ll _=>exact q.elim
     | pr _ _ _=>exact q.elim
     | l ds0=>
      obtain ⟨a,fp,hv0,⟨_,xs,hH,_⟩,_,_⟩:=st.box h0
      refine ⟨_,hv0,.inl ⟨rfl,xs,.of hH⟩,ρ,O,st,mn_wp _ _ _ (fun d ρ1 q1 w H1 O1 st1 s1 d1=>?_) (wpS_ofX (m:=m) (k:=appK i) q)⟩
      unfold wpS appK at q1
      cases h1:ρ1[i]? with
      | none=>rw [h1] at q1; exact q1.elim
      | some o=>
       rw [h1] at q1
       cases o with
       | none=>exact q1.elim
       | some c1=>
        cases c1 with
        | dat d=>exact q1.elim
        | scr d=>exact q1.elim
        | exc d=>exact q1.elim
        | vw d=>exact q1.elim
        | own io1 b1=>
         cases b1 with
         | m _ _=>exact q1.elim
         | o _ _=>exact q1.elim
         | sd _=>exact q1.elim
         | ll _=>exact q1.elim
         | pr _ _ _=>exact q1.elim
         | l ds=>
          simp only at q1
          obtain ⟨a1,fp1,hv1,⟨e1,ys,hH1,hd⟩,hO,up⟩:=st1.box h1
          rw [hv0] at hv1; cases hv1
          subst e1
          by_cases hz:ds.length < sizeLine
          ·rw [if_pos hz] at q1
           refine ⟨a,ys,w,rfl,rfl,hH1,by rw [hd.length]; exact hz,?_⟩
           obtain ⟨O2,st2,s2,_⟩:=up (upd H1 a (.lst (ys ++ [w]))) (.l (ds ++ [d])) [a] (fun c o hc e=>by rw [upd_ne (by simpa using hc)]; exact e) (by simp) (fun c hc=>.inl hc) (fun G O' s hG _=>by
            subst hG
            exact ⟨s.hid,rfl,ys ++ [w],upd_same,(DVs.mono s.hid hd).append (.cons (DV.mono s.hid d1) .nil)⟩)
           exact f.nx _ _ _ _ st2 (s1.trans s2) q1
          ·rw [if_neg hz] at q1; exact q1.elim
@[simp] noncomputable def lenC:Cell->Option PyData
 | .dat (.list ds)=>some (.int ds.length)
 | .dat (.tuple ds)=>some (.int ds.length)
 | .own _ (.l ds)=>some (.int ds.length)
 | _=>none
@[simp] noncomputable def xLenN (i:Nat):XM PyData:=fun ρ=>match ρ[i]? with
 | some (some c)=>lift (lenC c) ρ
 | _=>.bad
theorem fe_lenN {i:Nat} {p p1:Pos} (hg:Gl X "len") (hm:X.mg "len" = none) (h:PE X (.Name x p1) (tVar i)) (he:starEach [.Name x p1] X.env=(false,eval (.Name x p1) X.env) :: starEach [] X.env:=by rfl) (hpl:(backTo pos (starEach [] X.env)).any (·.1)=false:=by rfl) :
  FE X F E (.Call (.Name "len" p) [.Name x p1] [] pos) (xLenN i):=
 ⟨mn_wp,(pe_callB call_len_seq hg hm PySem.boot_len (pa_cons h pa_nil he) (by decide) (by decide) he hpl).imp fun σ H Q ⟨ρ,O,st,q⟩=>by
  unfold wp xLenN at q
  cases h0:ρ[i]? with
  | none=>rw [h0] at q; exact q.elim
  | some o=>
   rw [h0] at q
   cases o with
   | none=>exact q.elim
   | some c0=>
    unfold lift at q
    cases c0 with
    | scr d=>exact q.elim
    | exc d=>exact q.elim
    | vw d=>exact q.elim
    | dat d=>
     obtain ⟨v,hv,hd⟩:=st.dat h0
     cases d with
     | list ds=>
      obtain ⟨a,xs,rfl,ha,hx⟩:=hd.lst_inv
      exact ⟨_,hv,a,xs,rfl,.inl (.of (of_hide ha).1),by rw [hx.length]; exact q _ H O st .refl (.int _)⟩
     | tuple ds=>
      obtain ⟨a,xs,rfl,ha,hx⟩:=hd.tup_inv
      exact ⟨_,hv,a,xs,rfl,.inr (.inl (of_hideR ha).1),by rw [hx.length]; exact q _ H O st .refl (.int _)⟩
     | _=>exact q.elim
    | own io b=>
     cases b with
     | l ds=>
      obtain ⟨a,fp,hv,⟨_,xs,hH,hx⟩,_,_⟩:=st.box h0
      exact ⟨_,hv,a,xs,rfl,.inl (.of hH),by rw [hx.length]; exact q _ H O st .refl (.int _)⟩
     | _=>exact q.elim⟩
end
end L2.L3
namespace L2.L3
open PySem PySem.Spec PyProof.Rows
noncomputable def keyOf:PyData->Option Key
 | .int i=>some (.inl i)
 | .str x=>some (.inr x)
 | _=>none
noncomputable def keysOf:List PyData->Option (List Key)
 | []=>some []
 | d :: r=>(match keyOf d,keysOf r with | some k,some l=>some (k :: l) | _,_=>none)
noncomputable def keyG:Bool->PyData->Option (List Key)
 | false,d=>(keyOf d).map fun k=>[k]
 | true,.tuple ds=>keysOf ds
 | true,_=>none
noncomputable abbrev KVs:=List (PyData × PyData)
noncomputable def dFind (tk:Bool):KVs->List Key->Option PyData
 | [],_=>none
 | p :: r,k=>if keyG tk p.1=some k then some p.2 else dFind tk r k
noncomputable def dRepl (tk:Bool) (k:List Key) (v:PyData):KVs->KVs
 | []=>[]
 | p :: r=>(if keyG tk p.1=some k then (p.1,v) else p) :: dRepl tk k v r
noncomputable def dStore (tk:Bool) (kvs:KVs) (d:PyData) (k:List Key) (v:PyData):KVs:=if (dFind tk kvs k).isSome=true then dRepl tk k v kvs else kvs ++ [(d,v)]
theorem key_v {G:Hp} {v:V} {d:PyData} {k:Key} (h:DV G v d) (e:keyOf d=some k):v=kV k:=by
 cases d with
 | int i=>cases e; exact h.int_inv
 | str x=>cases e; exact h.str_inv
 | _=>cases e
theorem key_d {k:Key}:keyOf (keyD k)=some k:=by cases k <;> rfl
theorem key_i {d:PyData} {k:Key} (e:keyOf d=some k):d=keyD k:=by
 cases d with
 | int i=>cases e; rfl
 | str x=>cases e; rfl
 | _=>cases e
theorem keys_d:∀ {ks:List Key},keysOf (ks.map keyD)=some ks
 | []=>rfl
 | k :: r=>by show (match keyOf (keyD k),keysOf (r.map keyD) with | some k,some l=>some (k :: l) | _,_=>none)=_; rw [key_d,keys_d]
theorem keys_i:∀ {ds:List PyData} {ks:List Key},keysOf ds=some ks->ds=ks.map keyD
 | [],ks,e=>by cases e; rfl
 | d :: r,ks,e=>by
  unfold keysOf at e
  cases h1:keyOf d with
  | none=>rw [h1] at e; cases e
  | some k=>
   cases h2:keysOf r with
   | none=>rw [h1,h2] at e; cases e
   | some l=>rw [h1,h2] at e; cases e; rw [key_i h1,keys_i h2]; rfl
theorem keys_v {G:Hp}:∀ {vs:List V} {ks:List Key},DVs G vs (ks.map keyD)->vs=ks.map kV
 | [],[],_=>rfl
 | _ :: _,k :: r,.cons h1 h2=>by rw [key_v h1 key_d,keys_v h2]; rfl
theorem valV_rel {κ:Type} [DecidableEq κ] {R:κ->PyData->Prop} {G:Hp} {tk:Bool} {inj:κ->List Key} (hk:∀ k d,R k d->keyG tk d=some (inj k)) (hi:∀ a b,inj a=inj b->a=b) :
  ∀ {ks:List (κ × V)} {kvs:KVs} (k:κ),Paired (fun (p:κ × V) (q:PyData × PyData)=>R p.1 q.1/\DV G p.2 q.2) ks kvs->(valV ks k=none/\dFind tk kvs (inj k)=none)\/∃ v d,valV ks k=some v/\dFind tk kvs (inj k)=some d/\DV G v d
 | [],[],k,_=>.inl ⟨rfl,rfl⟩
 | p :: r,q :: s,k,.cons h t=>by
  by_cases e:p.1=k
  ·refine .inr ⟨p.2,q.2,valV_pos e,?_,h.2⟩
   unfold dFind
   rw [if_pos (by rw [hk _ _ h.1,e])]
  ·rw [valV_neg e]
   unfold dFind
   rw [if_neg (by rw [hk _ _ h.1]; exact fun z=>e (hi _ _ (Option.some.inj z)))]
   exact valV_rel hk hi k t
theorem repl_rel {κ:Type} [DecidableEq κ] {R:κ->PyData->Prop} {G:Hp} {tk:Bool} {inj:κ->List Key} (hk:∀ k d,R k d->keyG tk d=some (inj k)) (hi:∀ a b,inj a=inj b->a=b) {v:V} {x:PyData} (hv:DV G v x) :
  ∀ {ks:List (κ × V)} {kvs:KVs} (k:κ),Paired (fun (p:κ × V) (q:PyData × PyData)=>R p.1 q.1/\DV G p.2 q.2) ks kvs->Paired (fun (p:κ × V) (q:PyData × PyData)=>R p.1 q.1/\DV G p.2 q.2) (ks.map fun kv=>if kv.1=k then (kv.1,v) else kv) (dRepl tk (inj k) x kvs)
 | [],[],k,_=>.nil
 | p :: r,q :: s,k,.cons h t=>by
  refine .cons ?_ (repl_rel hk hi hv k t)
  dsimp only
  by_cases e:p.1=k
  ·rw [if_pos e,if_pos (by rw [hk _ _ h.1,e])]; exact ⟨h.1,hv⟩
  ·rw [if_neg e,if_neg (by rw [hk _ _ h.1]; exact fun z=>e (hi _ _ (Option.some.inj z)))]; exact h
theorem pd_app {α β:Type} {R:α->β->Prop}:∀ {xs:List α} {ys:List β} {us:List α} {vs:List β},Paired R xs ys->Paired R us vs->Paired R (xs ++ us) (ys ++ vs)
 | _,_,_,_,.nil,h=>h
 | _,_,_,_,.cons h t,r=>.cons h (pd_app t r)
theorem put_rel {κ:Type} [DecidableEq κ] {R:κ->PyData->Prop} {G:Hp} {tk:Bool} {inj:κ->List Key} (hk:∀ k d,R k d->keyG tk d=some (inj k)) (hi:∀ a b,inj a=inj b->a=b) {v:V} {x d:PyData} (hv:DV G v x)
  {ks:List (κ × V)} {kvs:KVs} {k:κ} (hd:R k d) (h:Paired (fun (p:κ × V) (q:PyData × PyData)=>R p.1 q.1/\DV G p.2 q.2) ks kvs):Paired (fun (p:κ × V) (q:PyData × PyData)=>R p.1 q.1/\DV G p.2 q.2) (putK ks k v) (dStore tk kvs d (inj k) x):=by
 rcases valV_rel hk hi k h with ⟨e1,e2⟩ | ⟨v',d',e1,e2,_⟩
 ·rw [putK_new v e1]
  unfold dStore
  rw [e2,if_neg (by simp)]
  exact pd_app h (.cons ⟨hd,hv⟩ .nil)
 ·unfold dStore
  rw [e2,if_pos (by rfl)]
  unfold putK
  rw [if_pos (by rw [valV_any,e1]; rfl)]
  exact repl_rel hk hi hv k h
theorem hk1:∀ (k:Key) (d:PyData),keyD k=d->keyG false d=some [k]:=fun k d e=>by subst e; show (keyOf (keyD k)).map _=_; rw [key_d]; rfl
theorem hi1:∀ (a b:Key),[a]=[b]->a=b:=fun a b e=>by cases e; rfl
theorem hk2:∀ (k:List Key) (d:PyData),tupD k=d->keyG true d=some k:=fun k d e=>by subst e; exact keys_d
@[simp] noncomputable def keyQ (tk:Bool) (d:PyData):Option (List Key):=match d with
 | .tuple []=>none
 | d=>keyG tk d
theorem keyQ_of {tk:Bool} {d:PyData} {k:List Key} (e:keyQ tk d=some k):keyG tk d=some k/\d ≠ .tuple []:=by
 unfold keyQ at e
 split at e
 ·cases e
 ·rename_i h; exact ⟨e,h⟩
theorem keyless_of:∀ {ds:List PyData} {k:List Key},keysOf ds=some k->ds ≠ []->keyless ds=false
 | [],_,_,h=>absurd rfl h
 | [d],k,e,_=>by
  cases d <;> first | rfl | (simp [keysOf,keyOf] at e)
 | d :: f :: r,k,e,_=>by
  unfold keysOf at e
  split at e
  ·rename_i k1 l e1 e2
   have ih:=keyless_of (ds:=f :: r) e2 (by simp)
   cases d <;> first | (exact (by simpa [keyless] using ih)) | (exfalso; simp [keyOf] at e1)
  ·cases e
section
variable {G H:Hp} {a:Addr} {tk:Bool} {kvs:KVs}
theorem dic_get (h:DicAt G H a tk kvs) (hG:Same G H) {y:V} {d:PyData} {k:List Key} (hy:DV G y d) (e:keyQ tk d=some k):∃ o,DGet H a y o/\((o=none/\dFind tk kvs k=none)\/∃ v x,o=some v/\dFind tk kvs k=some x/\DV G v x):=by
 obtain ⟨e,hne⟩:=keyQ_of e
 cases tk with
 | false=>
  obtain ⟨ks,hH,pr⟩:=h
  obtain ⟨k',e1,e2⟩:=Option.map_eq_some_iff.mp e
  subst e2
  obtain rfl:=key_v hy e1
  exact ⟨_,.k hH,valV_rel hk1 hi1 k' pr⟩
 | true=>
  obtain ⟨ks,hH,pr⟩:=h
  cases d with
  | tuple ds=>
   obtain ⟨b,xs,rfl,hb,hx⟩:=hy.tup_invK (keyless_of e fun z=>hne (by rw [z]))
   rw [keys_i e] at hx
   rw [keys_v hx] at hb
   exact ⟨_,.t hH (hG _ _ hb),valV_rel (inj:=id) hk2 (fun _ _ z=>z) k pr⟩
  | _=>cases e
theorem dic_put (h:DicAt G H a tk kvs) (hG:Same G H) {y v:V} {d x:PyData} {k:List Key} (hy:DV G y d) (hv:DV G v x) (e:keyQ tk d=some k) (hl:kvs.length < sizeLine) :
  ∃ o,DPut H a y v (upd H a o)/\Mv o/\∀ G',Same G G'->DicAt G' (upd H a o) a tk (dStore tk kvs d k x):=by
 obtain ⟨e,hne⟩:=keyQ_of e
 cases tk with
 | false=>
  obtain ⟨ks,hH,pr⟩:=h
  obtain ⟨k',e1,e2⟩:=Option.map_eq_some_iff.mp e
  subst e2
  obtain rfl:=key_v hy e1
  refine ⟨_,.k hH (by rw [Paired.length pr]; exact hl),trivial,fun G' s=>⟨_,upd_same,put_rel hk1 hi1 (DV.mono s hv) (key_i e1).symm (Paired.mapP pr fun _ _ z=>⟨z.1,DV.mono s z.2⟩)⟩⟩
 | true=>
  obtain ⟨ks,hH,pr⟩:=h
  cases d with
  | tuple ds=>
   obtain ⟨b,xs,rfl,hb,hx⟩:=hy.tup_invK (keyless_of e fun z=>hne (by rw [z]))
   rw [keys_i e] at hx
   rw [keys_v hx] at hb
   exact ⟨_,.t hH (hG _ _ hb) (by rw [Paired.length pr]; exact hl),trivial,fun G' s=>⟨_,upd_same,put_rel (inj:=id) hk2 (fun _ _ z=>z) (DV.mono s hv) (show tupD k=_ by unfold tupD; rw [<-keys_i e]) (Paired.mapP pr fun _ _ z=>⟨z.1,DV.mono s z.2⟩)⟩⟩
  | _=>cases e
theorem dic_is (h:DicAt G H a tk kvs):IsD H a:=by
 cases tk with
 | false=>obtain ⟨ks,hH,_⟩:=h; exact .inl ⟨ks,.of hH⟩
 | true=>obtain ⟨ks,hH,_⟩:=h; exact .inr ⟨ks,.of hH⟩
end
noncomputable def asM (ρ:DEnv) (i:Nat):Option (Bool × Bool × KVs):=match ρ[i]? with
 | some (some (.own io (.m tk kvs)))=>some (io,tk,kvs)
 | _=>none
theorem asM_at {ρ:DEnv} {i:Nat} {io tk:Bool} {kvs:KVs} (h:asM ρ i=some (io,tk,kvs)):ρ[i]? = some (some (.own io (.m tk kvs))):=by
 unfold asM at h
 split at h
 ·rename_i e; cases h; exact e
 ·cases h
section
variable {X:Cx} {F:Fx} {E:Str->DEnv->Prop} {e a b c:Expr} {es:List Expr} {st:Stmt} {rest:List Stmt} {pos:Pos} {x:Str}
noncomputable def xDNew (tk:Bool):XM Cell:=fun ρ=>.ok (.own false (.m tk [])) ρ
theorem fo_dnew (tk:Bool):FO X F E (.Dict [] [] pos) (xDNew tk):=by
 refine ⟨mn_wp,?_⟩
 cases tk with
 | false=>
  refine pe_dnewK.imp ?_
  rintro σ H Q ⟨ρ,O,st,q⟩ p hp
  obtain ⟨O2,st2,s2⟩:=st.fresh (o:=.dK []) hp trivial
  exact q _ _ O2 [p] ⟨st2,⟨p,rfl,rfl,[],upd_same,.nil⟩,st.new1 hp⟩ s2
 | true=>
  refine pe_dnewT.imp ?_
  rintro σ H Q ⟨ρ,O,st,q⟩ p hp
  obtain ⟨O2,st2,s2⟩:=st.fresh (o:=.dT []) hp trivial
  exact q _ _ O2 [p] ⟨st2,⟨p,rfl,rfl,[],upd_same,.nil⟩,st.new1 hp⟩ s2
noncomputable def dGet2K (i:Nat) (d y:PyData):XM PyData:=fun ρ=>lift (match asM ρ i with
 | some (_,tk,kvs)=>(keyQ tk d).map fun k=>(dFind tk kvs k).getD y
 | none=>none) ρ
noncomputable def xDGet2 (i:Nat) (m n:XM PyData):XM PyData:=fun ρ=>match asM ρ i with
 | some _=>(m ρ).bind fun d ρ1=>(n ρ1).bind fun y=>dGet2K i d y
 | none=>.bad
theorem fe_dget2 {i:Nat} {m n:XM PyData} {f:Expr} {p1 apos cpos:Pos} (hu:X.A.units + 1 < cLine) (hv:PE X (.Name x p1) (tVar i)) (he:FE X F E e m) (hf:FE X F E f n) (mm:M2 X (.Name x p1) "get" apos e f cpos:=by exact ⟨rfl,rfl,rfl,rfl⟩):FE X F E (.Call (.Attribute (.Name x p1) "get" apos) [e,f] [] cpos) (xDGet2 i m n):=
 ⟨mn_wp,(pe_dget2 hu hv he.pe hf.pe mm).imp fun σ H Q ⟨ρ,O,st,q⟩=>by
  unfold wp xDGet2 at q
  cases hm:asM ρ i with
  | none=>rw [hm] at q; exact q.elim
  | some p=>
   rw [hm] at q
   obtain ⟨io,tk,kvs⟩:=p
   obtain ⟨a0,fp,hv0,⟨_,hd0⟩,_,_⟩:=st.box (asM_at hm)
   refine ⟨_,hv0,a0,rfl,dic_is hd0,ρ,O,st,mn_wp _ _ _ (fun d ρ1 q1 w H1 O1 st1 s1 d1=>?_) (wp_bind (m:=m) (k:=fun d ρ1=>(n ρ1).bind fun y=>dGet2K i d y) q)⟩
   refine ⟨ρ1,O1,st1,mn_wp _ _ _ (fun y ρ2 q2 z H2 O2 st2 s2 d2=>?_) (wp_bind (m:=n) (k:=fun y=>dGet2K i d y) q1)⟩
   obtain ⟨r,e1,q3⟩:=wp_lift (o:=match asM ρ2 i with | some (_,tk,kvs)=>(keyQ tk d).map fun k=>(dFind tk kvs k).getD y | none=>none) (ρ:=ρ2) (E:=E) q2
   cases hm2:asM ρ2 i with
   | none=>rw [hm2] at e1; cases e1
   | some p=>
    obtain ⟨io2,tk2,kvs2⟩:=p
    rw [hm2] at e1
    obtain ⟨k,e2,e3⟩:=Option.map_eq_some_iff.mp e1
    subst e3
    obtain ⟨a,fp2,hv2,⟨_,hd⟩,_,_⟩:=st2.box (asM_at hm2)
    rw [hv0] at hv2
    cases hv2
    obtain ⟨o,g,r⟩:=dic_get hd hide_le (DV.mono s2.hid d1) e2
    refine ⟨o,g,?_⟩
    rcases r with ⟨rfl,e⟩ | ⟨v,x,rfl,e,hx⟩
    ·rw [e] at q3; exact q3 _ H2 O2 st2 (s1.trans s2) d2
    ·rw [e] at q3; exact q3 _ H2 O2 st2 (s1.trans s2) hx⟩
noncomputable def dPutK (i:Nat) (y d:PyData):SM:=fun ρ=>match asM ρ i with
 | some (io,tk,kvs)=>(match keyQ tk d with
  | some k=>if kvs.length < sizeLine then .nx (ρ.set i (some (.own io (.m tk (dStore tk kvs d k y))))) else .bad
  | none=>.bad)
 | none=>.bad
noncomputable def dPutV (i:Nat) (mk:XM PyData) (y:PyData):SM:=fun ρ=>match asM ρ i with
 | some _=>ofX (mk ρ) (dPutK i y)
 | none=>.bad
noncomputable def sDPutF (i:Nat) (mk mv:XM PyData):SM:=fun ρ=>ofX (mv ρ) (dPutV i mk)
theorem fs_dput {i:Nat} {mk mv:XM PyData} {f:Expr} {p1 pos':Pos} (hu:X.A.units + 1 < cLine) (hv:PE X (.Name x p1) (tVar i)) (hk:FE X F E e mk) (hf:FE X F E f mv) (hs:swapsWith f (some (.Subscript (.Name x p1) e pos')) pos.line X.env=pure false:=by rfl) :
  FS X F E (.Assign [.Subscript (.Name x p1) e pos'] f pos) (sDPutF i mk mv):=
 (ps_dput hu hv hk.pe hf.pe hs).imp fun D σ H ⟨ρ,O,DD,st,q,f⟩=>⟨ρ,O,st,mn_wp _ _ _ (fun y ρ1 q1 vy H1 O1 st1 s1 d1=>by
  unfold wpS dPutV at q1
  cases hm:asM ρ1 i with
  | none=>rw [hm] at q1; exact q1.elim
  | some p=>
   rw [hm] at q1
   obtain ⟨io,tk,kvs⟩:=p
   obtain ⟨a0,fp,hv0,_,_,_⟩:=st1.box (asM_at hm)
   refine ⟨_,hv0,ρ1,O1,st1,mn_wp _ _ _ (fun d ρ2 q2 w H2 O2 st2 s2 d2=>?_) (wpS_ofX (m:=mk) (k:=dPutK i y) q1)⟩
   unfold wpS dPutK at q2
   cases hm2:asM ρ2 i with
   | none=>rw [hm2] at q2; exact q2.elim
   | some p=>
    rw [hm2] at q2
    obtain ⟨io2,tk2,kvs2⟩:=p
    simp only at q2
    cases hk:keyQ tk2 d with
    | none=>rw [hk] at q2; exact q2.elim
    | some k=>
     rw [hk] at q2
     simp only at q2
     by_cases hl:kvs2.length < sizeLine
     ·rw [if_pos hl] at q2
      obtain ⟨a,fp2,hv2,⟨e2,hd⟩,_,up⟩:=st2.box (asM_at hm2)
      rw [hv0] at hv2
      cases hv2
      subst e2
      obtain ⟨o,g,mv,hp⟩:=dic_put hd hide_le d2 (DV.mono s2.hid d1) hk hl
      refine ⟨_,_,rfl,g,?_⟩
      obtain ⟨O3,st3,s3,_⟩:=up (upd H2 a0 o) (.m tk2 (dStore tk2 kvs2 d k y)) [a0] (fun c o hc e=>by rw [upd_ne (by simpa using hc)]; exact e) (by simp) (fun c hc=>.inl hc) (fun G O' s hG _=>by
       subst hG
       exact ⟨s.hid,rfl,hp _ s.hid⟩)
      exact f.nx _ _ _ _ st3 (s1.trans (s2.trans s3)) q2
     ·rw [if_neg hl] at q2; exact q2.elim) (wpS_ofX (m:=mv) (k:=dPutV i mk) q)⟩
end
end L2.L3
namespace L2.L3
open PySem PySem.Spec PyProof.Rows
end L2.L3
namespace L2.L3
open PySem PySem.Spec PyProof.Rows
noncomputable abbrev bmV:List Value:=[.type "ValueError",.type "Exception",.type "BaseException",.type "object"]
noncomputable def OwnEx (h:Heap) (C:Addr):Prop:=∃ tl N nm q bs hdct sn sub ab col dd k0 k1 k2 k3 k5 mN,h.get? C=some (excClassObj nm q C N bs tl hdct sn sub ab col dd k0 k1 k2 k3 k5 "ValueError.__new__")/\h.Ns N mN/\mN "__init__" = none/\OwnTail h bmV tl
theorem ownEx_of {K:PySem.W.Frag} {h:Heap} {C:Addr} (X:K.In h) (e:PySem.W.excIn K C bmV "ValueError.__new__" = true):OwnEx h C:=by
 unfold PySem.W.excIn at e
 split at e
 ·rename_i o1 o2 o3 o4
  split at e
  ·rename_i a1 a2 a3 a4 a5 a6 a7 a8 a9 a10
   have e':=e
   simp only [Bool.and_eq_true,beq_iff_eq] at e'
   obtain ⟨⟨⟨⟨⟨r1,r2⟩,r3⟩,r4⟩,r5⟩,r6⟩:=e'
   obtain ⟨n1,n2,n3,n4,n5,n6,n7,n8,n9,n10,n11⟩:=o2
   obtain ⟨l⟩:=o3
   simp at r3 a9 a10 r5 r6
   subst r1 r2 r3 a9 a10
   exact ⟨a2,n4,n1,n5,n2,n6,n7,n8,n9,n10,o1,a3,a4,a5,a6,a8,_,X _ _ o4,.of_isNs (PySem.W.isNs_of_in X r5),PySem.W.nsMap_none_of_in X r5 r6,PySem.W.tail_of_in X r4⟩
  ·cases e
 ·cases e
structure EC (K:PySem.W.Frag) (mg:Str->Option Value) (c:Str) (C:Addr):Prop where
 mg:mg c=some (.ref C)
 ns:PySem.W.nsIn K mainGlobals c=some (some (.ref C))
 ex:PySem.W.excIn K C bmV "ValueError.__new__" = true
@[simp] noncomputable def sRaiseF (c:Str):SM:=fun ρ=>.ex c ρ
section
variable {X:Cx} {F:Fx} {E:Str->DEnv->Prop}
theorem _root_.L2.Inv.madeX {pins:List (Addr × Obj)} {σ:St} {H:Hp} {s:Shared} {h':Heap} {e:Addr} {C:Value} {us:List Value} (I:Inv X pins σ H s) (m:Heap.MadeExcOf s.heap h' e C us):Inv X pins σ H { s with heap:=h' }/\Cov X pins s.heap/\ExS s.heap H h' e C none:=by
 have hb:∀ b,s.heap.get? b=none->H b=none:=fun b z=>HOk.some_of I.hok z
 obtain ⟨t,h1,h2,h3⟩:=m.there
 refine ⟨I.ch I.cov ⟨fun b o q _ _=>m.keeps b o q,fun b o _ q=>⟨o.slots,m.keeps b o q⟩,fun b o q=>⟨o,m.keeps b o q⟩⟩,I.cov,⟨fun b o q=>⟨o,m.keeps b o q⟩,m.new,hb e m.new,_,_,_,h1,rfl,rfl,rfl,.inl ⟨rfl,rfl⟩⟩⟩
theorem fs_raise {c tx:Str} {C:Addr} {j:Nat} {np cpos pos kp:Pos} (hx:XOk X F E) (hh:X.A.handled=none) (hg:Gl X c) (ec:EC X.K X.mg c C) (hdb:(c == ("__debug__":Str))=false:=by decide)
  (he:starEach [.Constant (.str tx) j kp] X.env=(false,eval (.Constant (.str tx) j kp) X.env) :: starEach [] X.env:=by rfl) :
  FS X F E (.Raise (some (.Call (.Name c np) [.Constant (.str tx) j kp] [] cpos)) none pos) (sRaiseF c):=fun pins s σ H D I ⟨ρ,O,DD,st,q,f⟩=>by
 obtain ⟨tl,N,nm,qn,bs,hdct,sn,sub,ab,col,dd,k0,k1,k2,k3,k5,mN,hC,hN,hni,T⟩:=ownEx_of I.ok.mod.kin ec.ex
 refine wpAny_Raise_call_subU (C:=C) (nm:=nm) (q:=qn) (N:=N) (bs:=bs) (bm:=tl) (hdct:=hdct) (sn:=sn) (sub:=sub) (ab:=ab) (col:=col) (dd:=dd) (k0:=k0) (k1:=k1) (k2:=k2) (k3:=k3) (k5:=k5) (mN:=mN)
  PySem.F.excBase_ValueError (by decide) PySem.F.excBase_ValueError (T.hasType (by decide)) hh (by rw [he]; rfl) hni (ld_glob I hg ec.mg ⟨rfl,?_⟩ hdb)
 have pa:PA X [.Constant (.str tx) j kp] _:=pa_cons (pe_str (X:=X)) pa_nil he
 have w:=pa cpos pins s σ H (fun vs H1=>vs.length=1/\H1=H) I (by exact ⟨rfl,rfl⟩)
 rw [he] at w ⊢
 refine Calls.evalArgs_plain (thn w fun us s2 ⟨vs,H1,I1,r,h1,h2⟩=>?_)
 subst h2
 refine ⟨rfl,by show us.length<=_; rw [<-r.length,h1]; decide,I1.bk _ _ hC,hN.keeps I1.bk,T.keeps I1.bk,fun h' e m=>?_⟩
 obtain ⟨I2,cv,ex⟩:=I1.madeX m
 exact hx.2 pins σ _ _ _ c ρ O ⟨I2,e,.ref C,s2.heap,none,rfl,cv,ex,ec.mg⟩ st q
end
end L2.L3
namespace L2.L3
open PySem PySem.Spec PyProof.Rows
noncomputable def underIn (K:PySem.W.Frag) (C D:Addr):Bool:=match K.lookup C with
 | some ⟨_,_,.cls cd,_⟩=>cd.mro.contains (.ref D)
 | _=>false
noncomputable def attrOk (K:PySem.W.Frag) (C:Addr):Bool:=PySem.W.findIn K (.ref C) "__getattribute__" == some (some (.builtin "BaseException.__getattribute__")) && PySem.W.findIn K (.ref C) "__class__" == some (some (.builtin "object.__class__")) && PySem.W.findIn K (.ref C) "__getattr__" == some none &&
 PySem.W.mroIn K C (.type "BaseException") == some true && PySem.W.mroIn K C (.type "object") == some true
noncomputable def excTab (K:PySem.W.Frag) (D:Addr) (l:List Str):Bool:=l.all fun c=>match PySem.W.nsIn K mainGlobals c with
 | some (some (.ref C))=>PySem.W.excIn K C bmV "ValueError.__new__" && underIn K C D && attrOk K C && (PySem.W.kitOne K (.ref C) (.type "ValueError") == some true) && l.all fun d=>match PySem.W.nsIn K mainGlobals d with
  | some (some (.ref D'))=>PySem.W.kitOne K (.ref C) (.ref D') == some (c == d)
  | _=>false
 | _=>false
structure XT (K:PySem.W.Frag) (mg:Str->Option Value) (l:List Str) (D:Addr):Prop where
 top:EC K mg "DueError" D
 tab:excTab K D l=true
 mgs:∀ c C,PySem.W.nsIn K mainGlobals c=some (some (.ref C))->mg c=some (.ref C)
theorem XT.at_ {K:PySem.W.Frag} {mg:Str->Option Value} {l:List Str} {D:Addr} (x:XT K mg l D) {c:Str} (h:c ∈ l):∃ C,EC K mg c C/\underIn K C D=true/\attrOk K C=true/\PySem.W.kitOne K (.ref C) (.type "ValueError")=some true/\
  ∀ d ∈ l,∃ D',mg d=some (.ref D')/\PySem.W.nsIn K mainGlobals d=some (some (.ref D'))/\PySem.W.kitOne K (.ref C) (.ref D')=some (c == d):=by
 have t:=List.all_eq_true.mp x.tab c h
 split at t
 ·rename_i C e
  simp only [Bool.and_eq_true] at t
  obtain ⟨⟨⟨⟨t1,t2⟩,t0⟩,t3⟩,t4⟩:=t
  refine ⟨C,⟨x.mgs c C e,e,t1⟩,t2,t0,by simpa using t3,fun d hd=>?_⟩
  have u:=List.all_eq_true.mp t4 d hd
  split at u
  ·rename_i D' e'
   exact ⟨D',x.mgs d D' e',e',by simpa using u⟩
  ·cases u
 ·cases t
end L2.L3
namespace L2.L3
open PySem PySem.Spec PyProof.Rows
end L2.L3
namespace L2.L3
open PySem PySem.Spec PyProof.Rows
end L2.L3
namespace L2.L3
open PySem PySem.Spec PyProof.Rows
end L2.L3
namespace L2.L3
open PySem PySem.Spec PyProof.Rows
end L2.L3
namespace L2.L3
open PySem PySem.Spec PyProof.Rows Builtin Builtin.ObjectAttr Builtin.Getset_descriptor
end L2.L3
namespace L2.L3
open PySem PySem.Spec PyProof.Rows
noncomputable def vOf:Value->V
 | .bool b=>.bl b
 | .int i _=>.int i
 | .str x _=>.str x
 | _=>.non
theorem vOf_eq {v:V} {z:Value} (r:RelV v z) (f:flatV v=true):vOf z=v:=by
 cases v with
 | non=>cases r; rfl
 | bl b=>cases r; rfl
 | int i=>obtain ⟨t,rfl⟩:=r; rfl
 | str i=>obtain ⟨t,rfl⟩:=r; rfl
 | _=>cases f
theorem vals_eq {A:Around} {s:Shared} {y:V} {u:Value} (ry:RelV y u) (fy:flatV y=true):∀ {xs:List V} {its:List Value},Vals xs its->xs.all flatV=true->(∀ z ∈ its,SeqAt.EqAt A s z u (eqV (vOf z) y))/\its.map vOf=xs
 | _,_,.nil,_=>⟨(fun _ h=>nomatch h),rfl⟩
 | _,_,.cons h t,fl=>by
  rw [List.all_cons,Bool.and_eq_true] at fl
  obtain ⟨h1,h2⟩:=vals_eq (A:=A) (s:=s) ry fy t fl.2
  refine ⟨fun z hz=>?_,?_⟩
  ·rcases List.mem_cons.mp hz with rfl | hz
   ·rw [vOf_eq h fl.1]; exact eqAt_V h ry fl.1 fy
   ·exact h1 z hz
  ·rw [List.map_cons,h2,vOf_eq h fl.1]
section
variable {X:Cx} {F:Fx} {E:Str->DEnv->Prop} {e a b c:Expr} {es:List Expr} {st:Stmt} {rest:List Stmt} {pos:Pos} {x:Str}
noncomputable def rCount:V->List V->Hp->VK->Prop:=fun x vs H Q=>∃ l xs y,x=.ref l/\vs=[y]/\H l=some (.lst xs)/\xs.all flatV=true/\flatV y=true/\Q (.int (xs.countP fun z=>eqV z y:Nat)) H
theorem mt_count:MtR X "list.count" rCount:=by
 intro pins s σ H x vs v us Q I rx rv h
 obtain ⟨l,xs,y,rfl,rfl,hH,fl,fy,q⟩:=h
 cases rx
 obtain ⟨u,rfl,ru⟩:=rv.one
 obtain ⟨z,its,n,r,hl,e⟩:=I.lstM hH
 obtain ⟨h1,h2⟩:=vals_eq (A:=X.A.in1) (s:=s) ru fy r fl
 refine call_meets F.slot_list_count ⟨_,e,rfl⟩ F.entry_list_count (F.args_list_count_2 _ _) (SeqAt.list_countAt l its.toArray n none #[] u fun z=>eqV (vOf z) y) ⟨e,fun z hz=>h1 z (by simpa using hz),?_⟩
 refine ⟨.int _,H,I.tok _,⟨_,rfl⟩,?_⟩
 have:its.countP (fun z=>eqV (vOf z) y)=xs.countP fun z=>eqV z y:=by rw [<-h2,List.countP_map]; rfl
 rw [this]
 exact q
@[simp] noncomputable def lstC:Cell->Option (List PyData)
 | .dat (.list ds)=>some ds
 | .own _ (.l ds)=>some ds
 | _=>none
@[simp] noncomputable def asL (ρ:DEnv) (i:Nat):Option (List PyData):=match ρ[i]? with
 | some (some c)=>lstC c
 | _=>none
theorem asL_at {K:PySem.W.Frag} {H:Hp} {σ:St} {ρ:DEnv} {O:List Addr} {i:Nat} {ds:List PyData} (st:DSt K F H σ ρ O) (h:asL ρ i=some ds):∃ p vs,σ[i]? = some (some (.ref p))/\H p=some (.lst vs)/\DVs (hide O H) vs ds:=by
 unfold asL at h
 split at h
 ·rename_i c e
  unfold lstC at h
  split at h
  ·cases h
   obtain ⟨v,hv,hd⟩:=st.dat e
   obtain ⟨p,xs,rfl,hp,hx⟩:=hd.lst_inv
   exact ⟨p,xs,hv,(of_hide hp).1,hx⟩
  ·cases h
   obtain ⟨p,fp,hv,⟨_,xs,hH,hx⟩,_⟩:=st.box e
   exact ⟨p,xs,hv,hH,hx⟩
  ·cases h
 ·cases h
@[simp] noncomputable def flatD:PyData->Option V
 | .none=>some .non
 | .bool b=>some (.bl b)
 | .int i=>some (.int i)
 | .str x=>some (.str x)
 | _=>none
@[simp] noncomputable def flatDs:List PyData->Option (List V)
 | []=>some []
 | d :: r=>(match flatD d,flatDs r with | some v,some l=>some (v :: l) | _,_=>none)
theorem flatD_v {G:Hp} {v w:V} {d:PyData} (h:DV G v d) (e:flatD d=some w):v=w/\flatV v=true:=by
 cases d with
 | none=>cases e; rw [h.non_inv]; exact ⟨rfl,rfl⟩
 | bool b=>cases e; rw [h.bl_inv]; exact ⟨rfl,rfl⟩
 | int b=>cases e; rw [h.int_inv]; exact ⟨rfl,rfl⟩
 | str b=>cases e; rw [h.str_inv]; exact ⟨rfl,rfl⟩
 | _=>cases e
theorem flatDs_v {G:Hp}:∀ {vs ws:List V} {ds:List PyData},DVs G vs ds->flatDs ds=some ws->vs=ws/\vs.all flatV=true
 | [],_,[],.nil,e=>by cases e; exact ⟨rfl,rfl⟩
 | v :: vs,_,d :: ds,.cons h t,e=>by
  unfold flatDs at e
  cases h1:flatD d with
  | none=>rw [h1] at e; cases e
  | some w=>
   cases h2:flatDs ds with
   | none=>rw [h1,h2] at e; cases e
   | some l=>
    rw [h1,h2] at e
    cases e
    obtain ⟨e1,f1⟩:=flatD_v h h1
    obtain ⟨e2,f2⟩:=flatDs_v t h2
    exact ⟨by rw [e1,e2],by rw [List.all_cons,f1,f2]; rfl⟩
@[simp] noncomputable def cntD (ds:List PyData) (y:PyData):Option PyData:=match flatDs ds,flatD y with
 | some ws,some w=>some (.int (ws.countP fun z=>eqV z w:Nat))
 | _,_=>none
@[simp] noncomputable def mtK (g:List PyData->PyData->Option PyData) (i:Nat) (d:PyData):XM PyData:=fun ρ=>lift (match asL ρ i with
 | some ds=>g ds d
 | none=>none) ρ
@[simp] noncomputable def xMt (g:List PyData->PyData->Option PyData) (i:Nat) (m:XM PyData):XM PyData:=fun ρ=>match asL ρ i with
 | some _=>(m ρ).bind (mtK g i)
 | none=>.bad
theorem fe_mt {i:Nat} {m:XM PyData} {p1 apos cpos:Pos} {nm:Str} {id:String} {r:V->List V->Hp->VK->Prop} {g:List PyData->PyData->Option PyData} (slot:Slot "list" nm id) (hty:typeOf (.builtin id)=pure (.type "method_descriptor")) (hm:MtR X id r)
  (hg:∀ G l xs ds y d z H Q,H l=some (.lst xs)->DVs G xs ds->DV G y d->g ds d=some z->(∀ u,DV G u z->Q u H)->r (.ref l) [y] H Q)
  (hv:PE X (.Name x p1) (tVar i)) (he:FE X F E e m)
  (hbase:attributeBase (.Name x p1) nm X.env (eval (.Name x p1) X.env)=eval (.Name x p1) X.env:=by rfl)
  (hfew:((backTo cpos (starEach [e] X.env)).all (fun x=>!x.1) && (backToKw cpos (keywordEach [] X.env)).all (fun x=>x.1.isSome) && decide (([e]:List Expr).length + ([]:List Keyword).length + (if ([]:List Keyword).isEmpty then 0 else 1) < 30))=true:=by rfl)
  (hline:(apos.endLine == cpos.line)=true:=by rfl) (hs:starEach [e] X.env=(false,eval e X.env) :: starEach [] X.env:=by rfl) (hplain:(backTo cpos (starEach [] X.env)).any (·.1)=false:=by rfl) :
  FE X F E (.Call (.Attribute (.Name x p1) nm apos) [e] [] cpos) (xMt g i m):=
 ⟨mn_wp,(pe_bm PySem.F.plainAttrs_list slot hty hm hv (pa_cons he.pe pa_nil hs) hbase hfew hline hs hplain).imp fun σ H Q ⟨ρ,O,st,q⟩=>by
  unfold wp xMt at q
  cases h0:asL ρ i with
  | none=>rw [h0] at q; exact q.elim
  | some ds0=>
   rw [h0] at q
   obtain ⟨p,vs0,hv0,hH0,_⟩:=asL_at st h0
   refine ⟨_,hv0,.inl ⟨rfl,vs0,.of hH0⟩,ρ,O,st,mn_wp _ _ _ (fun d ρ1 q1 w H1 O1 st1 s1 d1=>?_) (wp_bind (m:=m) (k:=mtK g i) q)⟩
   obtain ⟨z,e1,q2⟩:=wp_lift (o:=match asL ρ1 i with | some ds=>g ds d | none=>none) (ρ:=ρ1) (E:=E) q1
   cases h1:asL ρ1 i with
   | none=>rw [h1] at e1; cases e1
   | some ds1=>
    rw [h1] at e1
    obtain ⟨p',vs1,hv1,hH1,hd1⟩:=asL_at st1 h1
    rw [hv0] at hv1
    cases hv1
    exact hg _ _ _ _ _ _ _ _ _ hH1 hd1 d1 e1 fun u hu=>q2 u H1 O1 st1 s1 hu⟩
theorem cnt_ok:∀ G l xs ds y d z H Q,H l=some (.lst xs)->DVs G xs ds->DV G y d->cntD ds d=some z->(∀ u,DV G u z->Q u H)->rCount (.ref l) [y] H Q:=fun G l xs ds y d z H Q hH hx hy e q=>by
 unfold cntD at e
 split at e
 ·rename_i ws w h1 h2
  cases e
  obtain ⟨rfl,f1⟩:=flatDs_v hx h1
  obtain ⟨rfl,f2⟩:=flatD_v hy h2
  exact ⟨l,xs,y,rfl,rfl,hH,f1,f2,q _ (.int _)⟩
 ·cases e
end
end L2.L3
namespace L2.L3
open PySem PySem.Spec PyProof.Rows
end L2.L3
namespace L2.L3
open PySem PySem.Spec PyProof.Rows
section
variable {X:Cx} {F:Fx} {E:Str->DEnv->Prop} {e a b c:Expr} {es:List Expr} {st:Stmt} {rest:List Stmt} {pos:Pos} {x:Str} {ma mb mc:XM PyData}
@[simp] noncomputable def gAdd:=gI fun i j=>.int (i + j)
@[simp] noncomputable def gSub:=gI fun i j=>.int (i - j)
@[simp] noncomputable def gMul:=gIC cMul fun i j=>.int (i * j)
@[simp] noncomputable def gDiv:=gIC cDiv fun i j=>.int (i / j)
@[simp] noncomputable def gMod:=gIC cMod fun i j=>.int (i % j)
@[simp] noncomputable def gLt:=gI fun i j=>.bool (decide (i < j))
@[simp] noncomputable def gLe:=gI fun i j=>.bool (decide (i<=j))
@[simp] noncomputable def gGt:=gI fun i j=>.bool (decide (j < i))
theorem fe_add (ha:FE X F E a ma) (hb:FE X F E b mb):FE X F E (.BinOp a .Add b pos) (xOp gAdd ma mb):=fe_op f2_I (de_add ha hb)
theorem fe_sub (ha:FE X F E a ma) (hb:FE X F E b mb):FE X F E (.BinOp a .Sub b pos) (xOp gSub ma mb):=fe_op f2_I (de_sub ha hb)
theorem fe_mul (ha:FE X F E a ma) (hb:FE X F E b mb):FE X F E (.BinOp a .Mult b pos) (xOp gMul ma mb):=fe_op (f2_IC cMul_ok) (de_mul ha hb)
theorem fe_div (ha:FE X F E a ma) (hb:FE X F E b mb):FE X F E (.BinOp a .FloorDiv b pos) (xOp gDiv ma mb):=fe_op (f2_IC cDiv_ok) (de_div ha hb)
theorem fe_mod (ha:FE X F E a ma) (hb:FE X F E b mb):FE X F E (.BinOp a .Mod b pos) (xOp gMod ma mb):=fe_op (f2_IC cMod_ok) (de_mod ha hb)
theorem fe_cat (ha:FE X F E a ma) (hb:FE X F E b mb):FE X F E (.BinOp a .Add b pos) (xOp gCatL ma mb):=fe_op f2_catL (de_cat ha hb)
theorem fe_catT (ha:FE X F E a ma) (hb:FE X F E b mb):FE X F E (.BinOp a .Add b pos) (xOp gCatT ma mb):=fe_op f2_catT (de_catT ha hb)
theorem fe_rep (ha:FE X F E a ma) (hb:FE X F E b mb):FE X F E (.BinOp a .Mult b pos) (xOp gRep ma mb):=fe_op f2_rep (de_rep ha hb)
theorem fb_lt (ha:FE X F E a ma) (hb:FE X F E b mb):FB X F E (.Compare a [.Lt] [b] pos) (xTst (xOp gLt ma mb)):=fb_op f2_I (db_lt ha hb)
theorem fb_le (ha:FE X F E a ma) (hb:FE X F E b mb):FB X F E (.Compare a [.LtE] [b] pos) (xTst (xOp gLe ma mb)):=fb_op f2_I (db_le ha hb)
theorem fb_gt (ha:FE X F E a ma) (hb:FE X F E b mb):FB X F E (.Compare a [.Gt] [b] pos) (xTst (xOp gGt ma mb)):=fb_op f2_I (db_gt ha hb)
theorem fe_eq (hu:X.A.units + 64 < cLine) (ha:FE X F E a ma) (hb:FE X F E b mb):FE X F E (.Compare a [.Eq] [b] pos) (xOp (gEq false) ma mb):=fe_op f2_eq (de_eq hu ha hb)
theorem fe_ne (hu:X.A.units + 64 < cLine) (ha:FE X F E a ma) (hb:FE X F E b mb):FE X F E (.Compare a [.NotEq] [b] pos) (xOp (gEq true) ma mb):=fe_op f2_eq (de_ne hu ha hb)
theorem fb_ne (hu:X.A.units + 64 < cLine) (ha:FE X F E a ma) (hb:FE X F E b mb):FB X F E (.Compare a [.NotEq] [b] pos) (xTst (xOp (gEq true) ma mb)):=fb_op f2_eq (db_ne hu ha hb)
theorem fe_lele (ha:FE X F E a ma) (hb:FE X F E b mb) (hc:FE X F E c mc) (hm:lastMarks [.LtE,.LtE] [b,c]=false:=by with_unfolding_all rfl):FE X F E (.Compare a [.LtE,.LtE] [b,c] pos) (xChain (fun i j=>decide (i<=j)) (fun i j=>decide (i<=j)) ma mb mc):=fe_chain (de_lele ha hb hc hm)
@[simp] noncomputable def gIxA:PyData->PyData->Option PyData:=fun x y=>match x,y with
 | .tuple ds,.int i=>atI ds i
 | .list ds,.int i=>atI ds i
 | _,_=>none
noncomputable def fIxA:D2:=fun x y Q=>fIxT x y Q\/fIxL x y Q
theorem o_ixA {K:PySem.W.Frag}:Op2 (fun x y H Q=>rIxT K x y H Q\/rIxL K x y H Q) fIxA where
 mn:=fun x y Q Q' k h=>h.imp (o_ixT (K:=K).mn x y Q Q' k) (o_ixL (K:=K).mn x y Q Q' k)
 ok:=fun O H u v x y Q hO h1 h2 h=>h.imp (o_ixT.ok O H u v x y Q hO h1 h2) (o_ixL.ok O H u v x y Q hO h1 h2)
theorem f2_ixA:F2 fIxA gIxA:=fun x y d Q e q=>by
 unfold gIxA at e
 split at e
 ·exact .inl ⟨_,_,_,rfl,rfl,e,q⟩
 ·exact .inr ⟨_,_,_,rfl,rfl,e,q⟩
 ·cases e
theorem fe_ix (ha:FE X F E a ma) (hb:FE X F E b mb) (hs:PlainIx b:=by intro _ _; rfl):FE X F E (.Subscript a b pos) (xOp gIxA ma mb):=fe_op f2_ixA (de_ix (IxR.or ix_tup ix_list) o_ixA ha hb hs)
end
end L2.L3
namespace L2.L3
open PySem PySem.Spec PyProof.Rows
noncomputable def isStar:Expr->Bool
 | .Starred ..=>true
 | _=>false
theorem star_of {e:Expr} {es:List Expr} {env:Env} (h:isStar e=false):starEach (e :: es) env=(false,eval e env) :: starEach es env:=by
 cases e <;> first | rfl | cases h
section
variable {X:Cx} {F:Fx} {E:Str->DEnv->Prop} {e a b c:Expr} {es:List Expr} {pos:Pos} {x:Str}
theorem fa_c {ma:XM PyData} {mr:XM (List PyData)} (ha:FE X F E e ma) (hr:FA X F E es mr) (hs:isStar e=false:=by rfl):FA X F E (e :: es) (aCons ma mr):=fa_cons ha hr (star_of hs)
theorem fx_v {ma:XM PyData} {mr:XM (List AX)} (ha:FE X F E e ma) (hr:FX X F E es mr) (hs:isStar e=false:=by rfl):FX X F E (e :: es) (cVal ma mr):=fx_val ha hr (star_of hs)
theorem fx_s {p:Pos} {j:Nat} {mr:XM (List AX)} (hv:PE X (.Name x p) (tVar j)) (hr:FX X F E es mr):FX X F E (.Name x p :: es) (cSlot j mr):=fx_slot hv hr (star_of rfl)
end
end L2.L3
namespace L2.L3
open PySem PySem.Spec PyProof.Rows
section
variable {X:Cx} {F:Fx} {E:Str->DEnv->Prop} {e a b c:Expr} {es:List Expr} {pos:Pos} {x:Str} {ma mb:XM PyData}
@[simp] noncomputable def gPow:=gIC cPow fun i j=>.int (i ^ j.toNat)
theorem fe_pow (ha:FE X F E a ma) (hb:FE X F E b mb):FE X F E (.BinOp a .Pow b pos) (xOp gPow ma mb):=fe_op (f2_IC cPow_ok) (de_pow ha hb)
noncomputable def iR2 (t:DTA):DTI:=fun ρ Q=>t ρ fun ds ρ'=>∃ i j:Int,ds=[.int i,.int j]/\(-(2 ^ 62)<=i/\i < 2 ^ 62/\-(2 ^ 62)<=j/\j < 2 ^ 62)/\Q (intsFrom i (j - i).toNat) ρ'
theorem di_range2 {tg:Expr} {tA:DTA} {p:Pos} (hg:Gl X "range") (hm:X.mg "range" = none) (ha:DA X F [a,b] tA) (hs:starEach [a,b] X.env=[(false,eval a X.env),(false,eval b X.env)]:=by rfl) (hs2:starEach [b] X.env=[(false,eval b X.env)]:=by rfl):DI X F tg (.Call (.Name "range" p) [a,b] [] pos) (iR2 tA):=
 ⟨fun _ _ _ k q=>ha.mn _ _ _ (fun _ _ ⟨i,j,e,h,q⟩=>⟨i,j,e,h,k _ _ q⟩) q,(pi_range2 hg hm ha.pa hs hs2).imp fun σ H R ⟨ρ,O,st,q⟩=>
  ⟨ρ,O,st,ha.mn _ _ _ (fun ds ρ1 ⟨i,j,e,h,q1⟩ vs H1 O1 st1 s1 d1=>by
   subst e
   obtain ⟨x,y,rfl,e1,e2⟩:=dvs2 d1
   obtain rfl:=e1.int_inv
   obtain rfl:=e2.int_inv
   exact ⟨i,j,rfl,h,q1 _ H1 O1 st1 s1 wk_range⟩) q⟩⟩
@[simp] noncomputable def rng2:List PyData->Option (List PyData):=fun xs=>match xs with
 | [.int i,.int j]=>if (decide (-(2 ^ 62)<=i) && decide (i < 2 ^ 62) && decide (-(2 ^ 62)<=j) && decide (j < 2 ^ 62))=true then some (intsFrom i (j - i).toNat) else none
 | _=>none
theorem fi_range2 {tg:Expr} {ma:XM (List PyData)} (h:DI X F tg e (iR2 (wp E ma))):FI X F E tg e (iLf rng2 ma):=h.imp mn_wp fun ρ Q q=>mn_wp _ _ _ (fun ds ρ1 q1=>by
 obtain ⟨y,e1,q2⟩:=wp_lift q1
 unfold rng2 at e1
 split at e1
 ·split at e1
  ·rename_i h; cases e1; simp only [Bool.and_eq_true,decide_eq_true_eq] at h; exact ⟨_,_,rfl,⟨h.1.1.1,h.1.1.2,h.1.2,h.2⟩,q2⟩
  ·cases e1
 ·cases e1) (wp_bind q)
end
end L2.L3
namespace L2.L3
open PySem PySem.Spec PyProof.Rows
end L2.L3
namespace L2
open PySem PySem.Spec PyProof.Rows
end L2
namespace L2.L3
open PySem PySem.Spec PyProof.Rows
end L2.L3
namespace L2
open PySem
namespace F3
end F3
end L2
namespace L2
open PySem PySem.Spec PyProof.Rows
end L2
namespace L2.L3
open PySem PySem.Spec PyProof.Rows
end L2.L3
namespace L2.L3
open PySem PySem.Spec PyProof.Rows
end L2.L3
namespace L2.L3
open PySem PySem.Spec PyProof.Rows
end L2.L3
namespace L2.L3
open PySem PySem.Spec PyProof.Rows
end L2.L3
namespace L2.L3
open PySem PySem.Spec PyProof.Rows
end L2.L3
namespace L2.L3
open PySem PySem.Spec PyProof.Rows
end L2.L3
namespace L2
open PySem
end L2
namespace L2.L3
open PySem PySem.Spec PyProof.Rows
end L2.L3
namespace L2
open PySem
end L2
namespace L2
open PySem PySem.Spec PyProof.Rows
end L2
namespace L2.L3
open PySem PySem.Spec PyProof.Rows
noncomputable def WkS (O:List Addr) (H:Hp) (J:It) (its:List PyData):Prop:=∀ O' H',Stp O H O' H'->Same H H'->OOk H' O'->
 (∀ i d,its[i]? = some d->J.go i H'/\∀ x H'',J.yld i H' x H''->Same H' H''/\DV (hide O' H'') x d)/\J.stop its.length H'
theorem Wk.S {O:List Addr} {H:Hp} {J:It} {its:List PyData} (h:Wk O H J its):WkS O H J its:=fun O' H' s _ ok=>h O' H' s ok
noncomputable def rdIS (K:PySem.W.Frag) (F:Fx) (s:DTI):TI:=fun σ H R=>∃ ρ O,DSt K F H σ ρ O/\s ρ fun its ρ'=>∀ J H' O',DSt K F H' σ ρ' O'->Stp O H O' H'->WkS O' H' J its->R J H'
structure DIS (X:Cx) (F:Fx) (tg iter:Expr) (s:DTI):Prop where
 mn:MnI s
 pi:PI X tg iter (rdIS X.K F s)
theorem DI.S {X:Cx} {F:Fx} {tg iter:Expr} {s:DTI} (h:DI X F tg iter s):DIS X F tg iter s:=⟨h.mn,h.pi.imp fun σ H R ⟨ρ,O,st,q⟩=>⟨ρ,O,st,h.mn _ _ _ (fun its ρ' k J H' O' a b c=>k J H' O' a b c.S) q⟩⟩
@[simp] noncomputable def capV:Option (Option Cell)->Option Cell
 | some (some (.own _ b))=>some (.vw b)
 | some (some (.exc _))=>none
 | some o=>o
 | none=>none
noncomputable def liftV (own:List Str) (caps:List Nat) (ρ:DEnv):DEnv:=own.map (fun _=>none) ++ caps.map fun j=>capV ρ[j]?
mutual
@[simp] noncomputable def atomD:PyData->Bool
 | .int _=>true
 | .bool _=>true
 | .none=>true
 | .str _=>true
 | .tuple ds=>atomL ds
 | .list _=>false
 | .dict _=>false
@[simp] noncomputable def atomL:List PyData->Bool
 | []=>true
 | d :: ds=>atomD d && atomL ds
end
theorem atomL_all:∀ ds:List PyData,ds.all atomD=atomL ds
 | []=>rfl
 | d :: ds=>by rw [List.all_cons,atomL_all ds,atomL]
mutual
theorem flat_dv {G G':Hp} (k:∀ a u,¬ Mv u->G a=some u->G' a=some u):∀ {v:V} {d:PyData},DV G v d->atomD d=true->DV G' v d
 | _,_,.non,_=>.non
 | _,_,.bl b,_=>.bl b
 | _,_,.int i,_=>.int i
 | _,_,.str x,_=>.str x
 | _,_,.tup h r,f=>.tup (h.imp (fun e=>k _ _ id e) fun ⟨⟨o,e⟩,z⟩=>⟨⟨o,k _ _ id e⟩,z⟩) (flat_dvl k r (by simpa [atomD] using f))
theorem flat_dvl {G G':Hp} (k:∀ a u,¬ Mv u->G a=some u->G' a=some u):∀ {vs:List V} {ds:List PyData},DVs G vs ds->atomL ds=true->DVs G' vs ds
 | _,_,.nil,_=>.nil
 | _,_,.cons h t,f=>by
  rw [atomL,Bool.and_eq_true] at f
  exact .cons (flat_dv k h f.1) (flat_dvl k t f.2)
end
theorem flat_dvs {G G':Hp} (k:∀ a u,¬ Mv u->G a=some u->G' a=some u) {vs:List V} {ds:List PyData} (h:DVs G vs ds) (f:ds.all atomD=true):DVs G' vs ds:=flat_dvl k h (by rw [<-atomL_all]; exact f)
noncomputable def dCmpV (own:List Str) (caps:List Nat) (s:DTI) (g:DTG) (tc:DTT) (te:DT):DT:=fun ρ Q=>s ρ fun its ρ1=>∃ Iv:Nat->List PyData->DEnv->Prop,Iv 0 [] (liftV own caps ρ1)/\
 (∀ i d ys ρ',its[i]? = some d->Iv i ys ρ'->g d ρ' fun ρ2=>tc ρ2 fun b ρ3=>if b=true then te ρ3 fun y ρ4=>ys.length < sizeLine/\Iv (i + 1) (ys ++ [y]) ρ4 else Iv (i + 1) ys ρ3)/\
 ∀ ys ρ',Iv its.length ys ρ'->ys.length<=sizeLine/\ys.all atomD=true/\Q (.list ys) ρ1
section
variable {K:PySem.W.Frag} {F:Fx} {own:List Str} {caps:List Nat} {s:DTI} {g:DTG} {tc:DTT} {te:DT}
theorem mn_cmpV (hs:MnI s):Mn (dCmpV own caps s g tc te):=fun _ _ _ k q=>hs _ _ _ (fun _ _ ⟨Iv,h0,h1,h2⟩=>⟨Iv,h0,h1,fun ys ρ' h=>⟨(h2 ys ρ' h).1,(h2 ys ρ' h).2.1,k _ _ (h2 ys ρ' h).2.2⟩⟩) q
theorem rd_cmpV {PF:Fx->Prop} (hP:∀ H1 σ ρ1 O1 O2,DSt K F H1 σ ρ1 O1->PF ⟨H1,[],O2,fun _=>0⟩) (hs:MnI s) (hg:∀ d ρ Q Q',(∀ ρ',Q ρ'->Q' ρ')->g d ρ Q->g d ρ Q') (ht:MnT tc) (he:Mn te):∀ σ H Q,rdE K F (dCmpV own caps s g tc te) σ H Q->
  tComp own caps (rdIS K F s) (fun v σ H Q=>∃ F',PF F'/\rdG K F' g v σ H Q) (fun σ H Q=>∃ F',PF F'/\rdT K F' tc σ H Q) (fun σ H Q=>∃ F',PF F'/\rdE K F' te σ H Q) σ H Q:=fun σ H Q ⟨ρ,O,st,q⟩=>by
 refine ⟨ρ,O,st,hs _ _ _ (fun its ρ1 ⟨Iv,i0,step,fin⟩ J H1 O1 st1 s1 wk=>?_) q⟩
 obtain ⟨W,stw,hO1⟩:=id st1
 let V:List Addr:=(caps.map fun j=>(W[j]?).getD []).flatten
 let Oc:List Addr:=O1.filter fun a=>decide (a ∉ V)
 have sub:∀ a ∈ Oc,a ∈ O1:=fun a h=>(List.mem_filter.mp h).1
 have ndc:Oc.Nodup:=by
  have:O1.Nodup:=by rw [hO1]; exact stw.nd
  exact this.filter _
 have inV:∀ j ∈ caps,∀ l,W[j]? = some l->∀ a ∈ l,a ∉ Oc:=fun j hj l hl a ha z=>by
  have h1:=(List.mem_filter.mp z).2
  simp only [decide_eq_true_eq] at h1
  exact h1 (List.mem_flatten.mpr ⟨l,List.mem_map.mpr ⟨j,hj,by rw [hl]; rfl⟩,ha⟩)
 have hcap:∀ j ∈ caps,∀ c,capV ρ1[j]? = some c->(∀ io b,c ≠ .own io b)/\∃ v,σ[j]? = some (some v)/\CellAt K H1 Oc v c []:=fun j hj c h2=>by
  cases h3:ρ1[j]? with
  | none=>rw [h3] at h2; cases h2
  | some o=>
   cases o with
   | none=>rw [h3] at h2; cases h2
   | some c'=>
    rw [h3] at h2
    obtain ⟨v,fp,e1,e0,e2⟩:=stw.at_ j c' h3
    rw [<-hO1] at e2
    have st0:Stp O1 H1 Oc H1:=stp_less sub
    cases c' with
    | dat d=>cases h2; exact ⟨(fun _ _ z=>by cases z),v,e1,CellAt.keep (c:=.dat d) (fp:=[]) e2 st0 (fun _ _=>rfl) fun _ _ _ e=>e⟩
    | scr ns=>cases h2; exact ⟨(fun _ _ z=>by cases z),v,e1,CellAt.keep (c:=.scr ns) (fp:=[]) e2 st0 (fun _ _=>rfl) fun _ _ _ e=>e⟩
    | exc _=>cases h2
    | vw b=>cases h2; exact ⟨(fun _ _ z=>by cases z),v,e1,CellAt.keep (c:=.vw b) (fp:=[]) e2 st0 (fun _ _=>rfl) fun _ _ _ e=>e⟩
    | own io b=>
     cases h2
     obtain ⟨a,ev,q2⟩:=e2
     refine ⟨(fun _ _ z=>by cases z),v,e1,a,fp,ev,q2.keep (fun c hc=>?_) st0.hid⟩
     obtain ⟨o,eo,_⟩:=q2.live c hc
     rw [eo]
     exact hide_of eo (inV j hj fp e0 c hc)
 refine ⟨fun i m ys σ' H'=>∃ ρ' O' ds,DSt K ⟨H1,[],Oc,fun _=>0⟩ H' σ' ρ' O'/\Iv i ds ρ'/\DVs (hide O' H') ys ds/\i<=its.length/\m=its.length - i,⟨its.length,liftV own caps ρ1,Oc,[],?_,i0,.nil,Nat.zero_le _,rfl⟩,?_⟩
 ·have cell:∀ (i:Nat) (c:Cell),(liftV own caps ρ1)[i]? = some (some c)->(∀ io b,c ≠ .own io b)/\∃ v,(liftC own caps σ)[i]? = some (some v)/\CellAt K H1 Oc v c []:=fun i c e=>by
   unfold liftV at e
   unfold liftC
   by_cases hi:i < own.length
   ·rw [List.getElem?_append_left (by simpa using hi),List.getElem?_map] at e
    cases h:own[i]? with
    | none=>rw [h] at e; cases e
    | some y=>rw [h] at e; cases e
   ·rw [List.getElem?_append_right (by simpa using Nat.le_of_not_lt hi),List.length_map,List.getElem?_map] at e
    rw [List.getElem?_append_right (by simpa using Nat.le_of_not_lt hi),List.length_map,List.getElem?_map]
    obtain ⟨j,h1,h2⟩:=Option.map_eq_some_iff.mp e
    rw [h1]
    show _/\∃ v,some ((σ[j]?).getD none)=some (some v)/\_
    obtain ⟨n1,v,e1,e2⟩:=hcap j (List.mem_of_getElem? h1) c h2
    rw [e1]
    exact ⟨n1,v,rfl,e2⟩
  have ln:(liftV own caps ρ1).length=(liftC own caps σ).length:=by unfold liftV liftC; simp
  have fl:(List.replicate (liftV own caps ρ1).length ([]:List Addr)).flatten ++ Oc=Oc:=by rw [flat_rep]; rfl
  refine ⟨List.replicate (liftV own caps ρ1).length [],⟨fun i c e=>?_,by show (_ ++ Oc).Nodup; rw [fl]; exact ndc,fun _ _ _ h=>h,fun a h=>?_,by show OOk H1 (_ ++ Oc); rw [fl]; exact fun a ha=>st1.live a (sub a ha),ln,by simp,fun i b e=>absurd rfl ((cell i _ e).1 true b)⟩,fl.symm⟩
  ·obtain ⟨_,v,e1,e2⟩:=cell i c e
   refine ⟨v,[],e1,?_,by show CellAt K H1 (_ ++ Oc) v c []; rw [fl]; exact e2⟩
   rw [List.getElem?_replicate,if_pos (List.getElem?_eq_some_iff.mp e).1]
  ·rw [flat_rep] at h; cases h
 ·rintro i m ys σ' H' ⟨ρ',O',ds,st',iv,dv,hi,rfl⟩
  have sm:Same H1 H':=fun b o e=>by obtain ⟨W',h',_⟩:=id st'; exact h'.kept b o (by simp) e
  have stp:Stp O1 H1 O' H':=⟨fun b o _ e=>sm b o e,fun a h=>by
   obtain ⟨W',h',rfl⟩:=id st'
   rcases List.mem_append.mp h with h | h
   ·exact (h'.new a h).elim (fun z=>absurd z (by simp)) .inr
   ·exact .inl (sub a h)⟩
  obtain ⟨w1,w2⟩:=wk O' H' stp sm st'.live
  by_cases hlt:i < its.length
  ·obtain ⟨go,yld⟩:=w1 i its[i] (List.getElem?_eq_getElem hlt)
   refine .inr ⟨go,fun x H2 hy=>?_⟩
   obtain ⟨sm2,dx⟩:=yld x H2 hy
   refine ⟨⟨H1,[],Oc,fun _=>0⟩,hP _ _ _ _ _ st1,ρ',O',its[i],st'.grow sm2,dx,hg _ _ _ _ (fun ρ2 q2 σ3 H3 O3 st3 s3=>?_) (step i its[i] ds ρ' (List.getElem?_eq_getElem hlt) iv)⟩
   refine ⟨⟨H1,[],Oc,fun _=>0⟩,hP _ _ _ _ _ st1,ρ2,O3,st3,ht _ _ _ (fun b ρ3 q3 H4 O4 st4 s4=>?_) q2⟩
   have d4:DVs (hide O4 H4) ys ds:=DVs.mono s4.hid (DVs.mono s3.hid (DVs.mono (hide_same sm2) dv))
   cases b with
   | false=>exact iteF ⟨its.length - (i + 1),by omega,ρ3,O4,ds,st4,ofF q3,d4,hlt,rfl⟩
   | true=>
    refine iteT ⟨⟨H1,[],Oc,fun _=>0⟩,hP _ _ _ _ _ st1,ρ3,O4,st4,he _ _ _ (fun y ρ4 q4 v H5 O5 st5 s5 dy=>?_) (ofT q3)⟩
    refine ⟨by rw [d4.length]; exact q4.1,its.length - (i + 1),by omega,ρ4,O5,ds ++ [y],st5,q4.2,(DVs.mono s5.hid d4).append (.cons dy .nil),hlt,rfl⟩
  ·have e:i=its.length:=by omega
   subst e
   obtain ⟨hz,hfl,q⟩:=fin ds ρ' iv
   refine .inl ⟨w2,by rw [dv.length]; exact hz,fun p hp=>?_⟩
   have hp1:H1 p=none:=by
    cases e:H1 p with
    | none=>rfl
    | some o=>rw [sm p o e] at hp; cases hp
   exact q _ _ O1 (st1.grow fun b o e=>same_upd hp _ _ (sm b o e)) (s1.trans (.same fun b o e=>same_upd hp _ _ (sm b o e))) (dv_new_lst hp (st1.nofree p hp1) (flat_dvs (fun a u nm e=>by
    obtain ⟨e1,_⟩:=of_hide e
    refine hide_of e1 fun z=>?_
    obtain ⟨o,eo,mo⟩:=st1.live a z
    rw [sm a o eo] at e1
    cases e1
    exact nm mo) dv hfl))
end
section
variable {X:Cx} {F:Fx} {scope:Scope} {own capN:List Str} {caps:List Nat} {tg iter elt:Expr} {ifs:List Expr} {s:DTI} {g:DTG} {tc:DTT} {te:DT} {pos:Pos}
theorem de_compV (hG:GF X.mg F) (S:CompScope X scope own capN caps) (hc:X.calm=true) (hi:DIS X F tg iter s)
  (hin:∀ C fp s₂ H₂ pl F',GF X.mg F'->DG (compCx X scope (own ++ capN) C fp s₂ H₂ pl) F' tg g/\DBs (compCx X scope (own ++ capN) C fp s₂ H₂ pl) F' ifs tc/\DE (compCx X scope (own ++ capN) C fp s₂ H₂ pl) F' elt te)
  (hs:∀ x,foldedSetIterable iter X.env x=pure x:=by intro _; rfl):DE X F (.ListComp elt [⟨tg,iter,ifs,0⟩] scope pos) (dCmpV own caps s g tc te):=by
 obtain ⟨hg,ht,he⟩:=hin 0 [] (PySem.start X.prog).1 (fun _=>none) [] F hG
 refine ⟨mn_cmpV hi.mn,(pe_comp S hc hi.pi (fun C fp s₂ H₂ pl=>⟨fun pins s σ H v u Q I r ⟨F',g',q⟩=>(hin C fp s₂ H₂ pl F' g').1.pg pins s σ H v u Q I r q,fun pins s σ H Q I ⟨F',g',q⟩=>(hin C fp s₂ H₂ pl F' g').2.1.2 pins s σ H Q I q,fun pins s σ H Q I ⟨F',g',q⟩=>(hin C fp s₂ H₂ pl F' g').2.2.pe pins s σ H Q I q⟩) hs).imp (rd_cmpV (fun _ _ _ _ _ st=>hG.into st) hi.mn hg.mn ht.1 he.mn)⟩
end
@[simp] noncomputable def liftW (own:Nat) (caps:List Nat) (ρ:DEnv):DEnv:=List.replicate own none ++ caps.map fun j=>capV ρ[j]?
@[simp] noncomputable def compKV (own:Nat) (caps:List Nat) (g:GM) (t:XM Bool) (m:XM PyData) (its:List PyData):XM PyData:=fun ρ1=>lift ((compGo g t m its [] (liftW own caps ρ1)).bind fun ys=>if ys.length<=sizeLine/\ys.all atomD=true then some (.list ys) else none) ρ1
@[simp] noncomputable def xCompV (own:Nat) (caps:List Nat) (s:XM (List PyData)) (g:GM) (t:XM Bool) (m:XM PyData):XM PyData:=fun ρ=>(s ρ).bind (compKV own caps g t m)
section
variable {X:Cx} {F:Fx} {E:Str->DEnv->Prop} {pos:Pos}
theorem comp_ofV {own:List Str} {caps:List Nat} {s:XM (List PyData)} {g:GM} {t:XM Bool} {m:XM PyData} {ρ:DEnv} {Q:PyData->DEnv->Prop} (q:wp E (xCompV own.length caps s g t m) ρ Q):dCmpV own caps (wp E s) (wpG g) (wp E0' t) (wp E0' m) ρ Q:=mn_wp _ _ _ (fun its ρ1 q1=>by
 obtain ⟨y,e1,q2⟩:=wp_lift (o:=(compGo g t m its [] (liftW own.length caps ρ1)).bind fun ys=>if ys.length<=sizeLine/\ys.all atomD=true then some (PyData.list ys) else none) (ρ:=ρ1) (E:=E) (Q:=Q) q1
 obtain ⟨ys0,e2,e3⟩:=Option.bind_eq_some_iff.mp e1
 have hl:(ys0.length<=sizeLine/\ys0.all atomD=true)/\y=.list ys0:=by
  split at e3
  ·rename_i h; cases e3; exact ⟨h,rfl⟩
  ·cases e3
 have eL:liftV own caps ρ1=liftW own.length caps ρ1:=by
  unfold liftV liftW
  rw [List.map_const']
 refine ⟨fun i ys ρ=>compGo g t m (its.drop i) ys ρ=some ys0,by rw [eL]; exact e2,fun i d ys ρ hd hi=>?_,fun ys ρ h=>?_⟩
 ·have e:its.drop i=d :: its.drop (i + 1):=by
   obtain ⟨hlt,he⟩:=List.getElem?_eq_some_iff.mp hd
   rw [<-he]
   exact List.drop_eq_getElem_cons hlt
  simp only [e] at hi
  unfold compGo at hi
  unfold wpG
  cases hg:g d ρ with
  | none=>rw [hg] at hi; cases hi
  | some ρ2=>
   rw [hg] at hi
   simp only at hi ⊢
   unfold wp
   cases ht:t ρ2 with
   | ex c ρ3=>rw [ht] at hi; cases hi
   | bad=>rw [ht] at hi; cases hi
   | ok b ρ3=>
    rw [ht] at hi
    cases b with
    | false=>exact iteF hi
    | true=>
     refine iteT ?_
     simp only at hi ⊢
     cases hm:m ρ3 with
     | ex c ρ4=>rw [hm] at hi; cases hi
     | bad=>rw [hm] at hi; cases hi
     | ok y' ρ4=>
      rw [hm] at hi
      simp only at hi ⊢
      split at hi
      ·rename_i h; exact ⟨h,hi⟩
      ·cases hi
 ·simp only [List.drop_length] at h
  have:ys=ys0:=by unfold compGo at h; exact Option.some.inj h
  subst this
  rw [hl.2] at q2
  exact ⟨hl.1.1,hl.1.2,q2⟩) (wp_bind (k:=compKV own.length caps g t m) q)
theorem DE.imp' {e:Expr} {t t':DT} (h:DE X F e t) (mn:Mn t') (k:∀ ρ Q,t' ρ Q->t ρ Q):DE X F e t':=⟨mn,h.pe.imp fun σ H Q ⟨ρ,O,st,q⟩=>⟨ρ,O,st,k ρ _ q⟩⟩
theorem fe_compV {scope:Scope} {own capN:List Str} {caps:List Nat} {tg iter elt:Expr} {ifs:List Expr} {s:XM (List PyData)} {g:GM} {t:XM Bool} {m:XM PyData} {n:Nat} (hG:GF X.mg F) (S:CompScope X scope own capN caps) (hc:X.calm=true) (hn:own.length=n) (hi:DIS X F tg iter (wp E s))
  (hin:∀ C fp s₂ H₂ pl F',GF X.mg F'->FG (compCx X scope (own ++ capN) C fp s₂ H₂ pl) F' tg g/\FBs (compCx X scope (own ++ capN) C fp s₂ H₂ pl) F' E0' ifs t/\FE (compCx X scope (own ++ capN) C fp s₂ H₂ pl) F' E0' elt m)
  (hs:∀ x,foldedSetIterable iter X.env x=pure x:=by intro _; rfl):FE X F E (.ListComp elt [⟨tg,iter,ifs,0⟩] scope pos) (xCompV n caps s g t m):=by
 subst hn
 exact DE.imp' (de_compV hG S hc hi hin hs) mn_wp fun ρ Q q=>comp_ofV q
theorem DSt.view {K:PySem.W.Frag} {H:Hp} {σ:St} {ρ:DEnv} {O:List Addr} (st:DSt K F H σ ρ O) {i:Nat} {b:Bx} (e:ρ[i]? = some (some (.vw b))):∃ a fp,σ[i]? = some (some (.ref a))/\BoxAt (hide O H) (hide O H) a b fp:=by
 obtain ⟨W,h,rfl⟩:=st
 obtain ⟨v,fp,h1,h2,a,fp',rfl,h3⟩:=h.at_ i _ e
 exact ⟨a,fp',h1,h3⟩
end
end L2.L3
namespace L2.L3
open PySem PySem.Spec PyProof.Rows
end L2.L3
namespace L2
open PySem PyProof.Rows
end L2
namespace L2.L3
open PySem PySem.Spec PyProof.Rows
noncomputable def intsOf:List PyData->Option (List Int)
 | []=>some []
 | .int i :: r=>(intsOf r).map (i :: ·)
 | _=>none
theorem intsOf_eq:∀ {ds:List PyData} {ns:List Int},intsOf ds=some ns->ds=ns.map PyData.int
 | [],ns,h=>by cases h; rfl
 | .int i :: r,ns,h=>by
  unfold intsOf at h
  obtain ⟨m,h1,h2⟩:=Option.map_eq_some_iff.mp h
  subst h2
  rw [intsOf_eq h1]; rfl
 | .none :: _,_,h=>by cases h
 | .bool _ :: _,_,h=>by cases h
 | .str _ :: _,_,h=>by cases h
 | .list _ :: _,_,h=>by cases h
 | .tuple _ :: _,_,h=>by cases h
 | .dict _ :: _,_,h=>by cases h
theorem ints_are:∀ {ns:List Int} {us:List Value},Vals (ns.map V.int) us->IntsAre us ns
 | [],_,.nil=>.nil
 | n :: ns,_,.cons r t=>by
  obtain ⟨tk,rfl⟩:=r
  exact .cons n tk (ints_are t)
end L2.L3
namespace L2.L3
open PySem PySem.Spec PyProof.Rows
theorem scm {N P:List Str} {sc:Scope} (h1:sc.kind=.function:=by rfl) (h2:sc.isCoroutine=false:=by rfl) (h3:sc.isGenerator=false:=by rfl) (h4:N.Nodup:=by decide +kernel) (h5:N.take P.length=P:=by rfl) (h6:∀ x ∈ P,sc.names.lookup x=some .local\/sc.names.lookup x=some .cell:=by decide +kernel) (h7:∀ y ∈ sc.names,y.2 ≠ .free:=by decide +kernel):FnScope N P sc:=⟨h1,h2,h3,h4,h5,h6,h7⟩
section
variable {X:Cx} {F:Fx} {E:Str->DEnv->Prop} {e:Expr} {es:List Expr} {pos p p1 apos:Pos} {x m q:Str} {C:Addr} {i k j:Nat} {g:Addr} {fd:FuncData} {ps:List Str} {f:FM} {st:Stmt} {mX:XM (List AX)}
theorem fv (i:Nat) (hN:X.N[i]? = some x:=by rfl) (hv:Vis X.env.scope x:=by first | exact Or.inl rfl | exact Or.inr (Or.inl rfl) | exact Or.inr (Or.inr rfl)) (hd:(x == ("__debug__":Str))=false:=by decide) (hcd:(x == ("__classdict__":Str))=false:=by decide):FE X F E (.Name x pos) (xV i):=fe_v (de_var i (pv i hN hv hd hcd))
theorem fgn (i:Nat) (hN:X.N.Nodup) (hi:X.N[i]? = some x:=by rfl) (hx:Loc X.env.scope x:=by first | exact Or.inl rfl | exact Or.inr rfl) (hf:X.fn x=true\/X.env.scope.names.lookup x=some .local:=by first | exact .inl rfl | exact .inr rfl | assumption):FG X F (.Name x pos) (gNm i):=fg_name (dg_name (pg_name hN hi hx hf))
theorem fcd (hx:XOk X F E) (G:FnOk X.prog X.w X.K X.mg X.base (CXM X.prog X.w) k g fd ps (spF X.K X.mg f)) (D:FD X.K X.mg x st ps g fd) (hr:Room j X.A) (ha:FX X F E (e :: es) mX) (hk:k<=j:=by decide) (hg:Gl X x:=by rfl) (hdb:(x == ("__debug__":Str))=false:=by decide)
  (he:starEach (e :: es) X.env=(false,eval e X.env) :: starEach es X.env:=by rfl) (hpl:(backTo pos (starEach es X.env)).any (·.1)=false:=by rfl):FO X F E (.Call (.Name x p) (e :: es) [] pos) (xCall f mX):=fo_call (do_call hx G (hr.mono hk) hg D.mgf D.fn.kp D.b ha hdb he hpl)
end
end L2.L3
namespace HT
open PySem PyProof.Rows
end HT
namespace L2
open PySem PySem.Spec PyProof.Rows
end L2
namespace L2.L3
open PySem PySem.Spec PyProof.Rows
end L2.L3
namespace L2.L3
open PySem PySem.Spec PyProof.Rows
end L2.L3
namespace L2.L3
open PySem PySem.Spec PyProof.Rows
end L2.L3
namespace L2
open PySem PySem.Spec PyProof.Rows
end L2
namespace L2.L3
open PySem PySem.Spec PyProof.Rows
end L2.L3
namespace L2.TS
open PySem PyProof.Rows
section
variable {α:Type} {le:α->α->Bool}
theorem mg_front {as bs:List α} {b:α}:∀ {xs:List α},(∀ x ∈ xs,le x b=true)->List.merge (xs ++ as) (b :: bs) le=xs ++ List.merge as (b :: bs) le
 | [],_=>rfl
 | x :: xs,h=>by
  rw [List.cons_append,List.cons_merge_cons,if_pos (h x List.mem_cons_self),mg_front fun y hy=>h y (List.mem_cons_of_mem _ hy)]; rfl
theorem mg_frontB {as bs:List α} {a:α}:∀ {ys:List α},(∀ y ∈ ys,le a y=false)->List.merge (a :: as) (ys ++ bs) le=ys ++ List.merge (a :: as) bs le
 | [],_=>rfl
 | y :: ys,h=>by
  rw [List.cons_append,List.cons_merge_cons,if_neg (by rw [h y List.mem_cons_self]; exact Bool.false_ne_true),mg_frontB fun z hz=>h z (List.mem_cons_of_mem _ hz)]; rfl
theorem mg_all {xs bs:List α} (h:∀ y ∈ bs,∀ x ∈ xs,le x y=false):List.merge xs bs le=bs ++ xs:=by
 cases xs with
 | nil=>simp
 | cons x xs=>
  have:=mg_frontB (le:=le) (as:=xs) (bs:=[]) (a:=x) (ys:=bs) fun y hy=>h y hy x List.mem_cons_self
  rw [List.append_nil,List.merge_right] at this
  exact this
theorem mg_allB {as ys:List α} (h:∀ x ∈ as,∀ y ∈ ys,le x y=true):List.merge as ys le=as ++ ys:=by
 cases ys with
 | nil=>simp
 | cons y ys=>
  have:=mg_front (le:=le) (as:=[]) (bs:=ys) (b:=y) (xs:=as) fun x hx=>h x hx y List.mem_cons_self
  simpa using this
theorem mg_backA {xs:List α}:∀ (as bs:List α),(∀ y ∈ bs,∀ x ∈ xs,le x y=false)->List.merge (as ++ xs) bs le=List.merge as bs le ++ xs
 | [],bs,h=>by simpa using mg_all h
 | a :: as,[],h=>by simp
 | a :: as,b :: bs,h=>by
  rw [List.cons_append,List.cons_merge_cons,List.cons_merge_cons]
  split
  ·rw [mg_backA as (b :: bs) h]; rfl
  ·rw [<-List.cons_append,mg_backA (a :: as) bs fun y hy=>h y (List.mem_cons_of_mem _ hy)]; rfl
termination_by as bs=>as.length + bs.length
theorem mg_backB {ys:List α}:∀ (as bs:List α),(∀ x ∈ as,∀ y ∈ ys,le x y=true)->List.merge as (bs ++ ys) le=List.merge as bs le ++ ys
 | as,[],h=>by simpa using mg_allB h
 | [],b :: bs,h=>by simp
 | a :: as,b :: bs,h=>by
  rw [List.cons_append,List.cons_merge_cons,List.cons_merge_cons]
  split
  ·rw [<-List.cons_append,mg_backB as (b :: bs) fun x hx=>h x (List.mem_cons_of_mem _ hx)]; rfl
  ·rw [mg_backB (a :: as) bs h]; rfl
termination_by as bs=>as.length + bs.length
end
noncomputable def gal':Bool->Keyed->Array Keyed->Nat->Nat->Nat->StateT SortSt Sem (Option Nat):=sortPriv% PySem.Builtin.gallop
noncomputable def bey (lf:Bool) (ky:Keyed) (ar:Array Keyed) (bs i:Nat):StateT SortSt Sem (Option Bool):=do
 let x <-elem' ar (bs + i)
 if lf then lt' x ky else return (<-lt' ky x).map (!·)
noncomputable def galT (lf:Bool) (ky:Keyed) (ar:Array Keyed) (bs n l0 h0:Nat):StateT SortSt Sem (Option Nat):=do
 let mut lo:=l0
 let mut hi:=h0
 for _ in [0:n] do
  if lo ≥ hi then break
  let m:=lo + (hi - lo) / 2
  let some mo <-bey lf ky ar bs m | return none
  if mo then lo:=m + 1 else hi:=m
 return some hi
theorem gal'_eq (lf:Bool) (ky:Keyed) (ar:Array Keyed) (bs n hn:Nat):gal' lf ky ar bs n hn=(do
 let mut la:=0
 let mut of:=1
 let some rt <-bey lf ky ar bs hn | return none
 if rt then
  for _ in [0:n] do
   if of ≥ n - hn then break
   let some mo <-bey lf ky ar bs (hn + of) | return none
   if !mo then break
   la:=of
   of:=2 * of + 1
  galT lf ky ar bs n (hn + la + 1) (hn + min of (n - hn))
 else
  for _ in [0:n] do
   if of ≥ hn + 1 then break
   let some fd <-bey lf ky ar bs (hn - of) | return none
   if fd then break
   la:=of
   of:=2 * of + 1
  galT lf ky ar bs n (hn + 1 - min of (hn + 1)) (hn - la)):=rfl
section
variable {prog:Program} {w:World} {A:Around} {E:Value->Shared->Prop} {s:Shared} {le:Keyed->Keyed->Bool} {κ:SortKind} {S:Keyed->Prop}
noncomputable def LtOK (prog:Program) (w:World) (A:Around) (E:Value->Shared->Prop) (s:Shared) (le:Keyed->Keyed->Bool) (κ:SortKind) (S:Keyed->Prop):Prop:=
 ∀ x y,S x->S y->∀ (Q:Option Bool->SortSt->Prop) (st:SortSt),kindOf st=κ->Q (some (!le y x)) st->wpS (model prog w) A E s (lt' x y) Q st
theorem wpS_elem {ar:Array Keyed} {i:Nat} {x:Keyed} {Q:Keyed->SortSt->Prop} {st:SortSt} (h:ar[i]? = some x) (q:Q x st):wpS (model prog w) A E s (elem' ar i) Q st:=by
 rw [elem'_eq,h]; exact wpS_pure q
noncomputable def beyP (le:Keyed->Keyed->Bool) (lf:Bool) (ky x:Keyed):Bool:=if lf then !le ky x else le x ky
theorem wpS_bey (hL:LtOK prog w A E s le κ S) {lf:Bool} {ky x:Keyed} {ar:Array Keyed} {bs i:Nat} {Q:Option Bool->SortSt->Prop} {st:SortSt} (hk:kindOf st=κ) (hx:ar[bs + i]? = some x) (sx:S x) (sk:S ky)
  (q:Q (some (beyP le lf ky x)) st):wpS (model prog w) A E s (bey lf ky ar bs i) Q st:=by
 unfold bey
 refine wpS_bind (wpS_elem hx ?_)
 cases lf with
 | true=>exact hL x ky sx sk Q st hk q
 | false=>exact wpS_bind (hL ky x sk sx _ st hk (wpS_pure (by simpa [beyP] using q)))
variable {p:Nat->Bool} {lf:Bool} {ky:Keyed} {ar:Array Keyed} {bs n:Nat} {Q:Option Nat->SortSt->Prop} {st:SortSt}
theorem wpS_galT (hL:LtOK prog w A E s le κ S) (hk:kindOf st=κ) (sk:S ky) (hin:∀ i,i < n->∃ x,ar[bs + i]? = some x/\S x/\beyP le lf ky x=p i) (mono:∀ i j,i<=j->j < n->p j=true->p i=true)
  (h:∀ k,k<=n->(∀ i,i < k->p i=true)->(∀ i,k<=i->i < n->p i=false)->Q (some k) st) {l0 h0:Nat} (hlh:l0<=h0) (hn:h0<=n) (h1:∀ i,i < l0->p i=true) (h2:∀ i,h0<=i->i < n->p i=false) :
  wpS (model prog w) A E s (galT lf ky ar bs n l0 h0) Q st:=by
 unfold galT
 dsimp only
 refine wpS_bind (wpS_mono (wpS_forRange (I:=fun x c st'=>st' = st/\∃ lo hi,c=(none,lo,hi)/\lo<=hi/\hi<=n/\hi - lo<=n - x/\(∀ i,i < lo->p i=true)/\(∀ i,hi<=i->i < n->p i=false))
  (Q:=fun c st'=>st' = st/\∃ k,c=(none,k,k)/\k<=n/\(∀ i,i < k->p i=true)/\(∀ i,k<=i->i < n->p i=false)) ?_ ?_ ⟨rfl,l0,h0,rfl,hlh,hn,by omega,h1,h2⟩) ?_)
 ·rintro x c st' _ hx ⟨rfl,lo,hi,rfl,a1,a2,a3,a4,a5⟩
  dsimp only
  by_cases hge:lo ≥ hi
  ·rw [if_pos hge]
   have:lo=hi:=by omega
   subst this
   exact wpS_pure ⟨rfl,lo,rfl,a2,a4,a5⟩
  ·rw [if_neg hge]
   obtain ⟨x,e1,e2,e3⟩:=hin (lo + (hi - lo) / 2) (by omega)
   refine wpS_bind (wpS_bey hL hk e1 e2 sk ?_)
   rw [e3]
   cases e:p (lo + (hi - lo) / 2) with
   | true=>exact wpS_pure ⟨rfl,_,_,rfl,by omega,a2,by omega,fun i hi'=>mono i _ (by omega) (by omega) e,a5⟩
   | false=>
    refine wpS_pure ⟨rfl,_,_,rfl,by omega,by omega,by omega,a4,fun i h3 h4=>?_⟩
    cases e':p i with
    | false=>rfl
    | true=>rw [mono _ i h3 h4 e'] at e; cases e
 ·rintro c st' ⟨rfl,lo,hi,rfl,a1,a2,a3,a4,a5⟩
  have:lo=hi:=by omega
  subst this
  exact ⟨rfl,lo,rfl,a2,a4,a5⟩
 ·rintro c st' ⟨rfl,k,rfl,a2,a4,a5⟩
  exact wpS_pure (h k a2 a4 a5)
theorem wpS_gal (hL:LtOK prog w A E s le κ S) (hk:kindOf st=κ) (sk:S ky) (hin:∀ i,i < n->∃ x,ar[bs + i]? = some x/\S x/\beyP le lf ky x=p i) (mono:∀ i j,i<=j->j < n->p j=true->p i=true)
  (h:∀ k,k<=n->(∀ i,i < k->p i=true)->(∀ i,k<=i->i < n->p i=false)->Q (some k) st) {hn:Nat} (hh:hn < n) :
  wpS (model prog w) A E s (gal' lf ky ar bs n hn) Q st:=by
 rw [gal'_eq]
 have anti:∀ i j,i<=j->j < n->p i=false->p j=false:=fun i j h3 h4 e=>by
  cases e':p j with
  | false=>rfl
  | true=>rw [mono i j h3 h4 e'] at e; cases e
 obtain ⟨x,e1,e2,e3⟩:=hin hn hh
 refine wpS_bind (wpS_bey hL hk e1 e2 sk ?_)
 rw [e3]
 dsimp only
 cases e:p hn with
 | true=>
  rw [if_pos rfl]
  refine wpS_bind (wpS_mono (wpS_forRange (I:=fun x c st'=>st' = st/\∃ la of,c=(none,la,of)/\la < of/\x + 1<=of/\hn + la < n/\p (hn + la)=true)
   (Q:=fun c st'=>st' = st/\∃ la of,c=(none,la,of)/\la < of/\hn + la < n/\p (hn + la)=true/\(n - hn<=of\/(hn + of < n/\p (hn + of)=false))) ?_ ?_ ⟨rfl,0,1,rfl,by omega,by omega,by omega,e⟩) ?_)
  ·rintro x c st' _ hx ⟨rfl,la,of,rfl,a1,a2,a3,a4⟩
   dsimp only
   by_cases hge:of ≥ n - hn
   ·rw [if_pos hge]
    exact wpS_pure ⟨rfl,la,of,rfl,a1,a3,a4,.inl hge⟩
   ·rw [if_neg hge]
    obtain ⟨x,e1,e2,e3⟩:=hin (hn + of) (by omega)
    refine wpS_bind (wpS_bey hL hk e1 e2 sk ?_)
    rw [e3]
    cases e:p (hn + of) with
    | true=>exact wpS_pure ⟨rfl,of,_,rfl,by omega,by omega,by omega,e⟩
    | false=>exact wpS_pure ⟨rfl,la,of,rfl,a1,a3,a4,.inr ⟨by omega,e⟩⟩
  ·rintro c st' ⟨rfl,la,of,rfl,a1,a2,a3,a4⟩
   exact ⟨rfl,la,of,rfl,a1,a3,a4,.inl (by omega)⟩
  ·rintro c st' ⟨rfl,la,of,rfl,a1,a3,a4,a5⟩
   dsimp only
   refine wpS_galT hL hk sk hin mono h (by omega) (by omega) (fun i hi=>mono i _ (by omega) a3 a4) (fun i h3 h4=>?_)
   rcases a5 with a5 | ⟨a5,a6⟩
   ·omega
   ·exact anti _ i (by omega) h4 a6
 | false=>
  rw [if_neg Bool.false_ne_true]
  refine wpS_bind (wpS_mono (wpS_forRange (I:=fun x c st'=>st' = st/\∃ la of,c=(none,la,of)/\la < of/\x + 1<=of/\la<=hn/\p (hn - la)=false)
   (Q:=fun c st'=>st' = st/\∃ la of,c=(none,la,of)/\la < of/\la<=hn/\p (hn - la)=false/\(hn + 1<=of\/(of<=hn/\p (hn - of)=true))) ?_ ?_ ⟨rfl,0,1,rfl,by omega,by omega,by omega,e⟩) ?_)
  ·rintro x c st' _ hx ⟨rfl,la,of,rfl,a1,a2,a3,a4⟩
   dsimp only
   by_cases hge:of ≥ hn + 1
   ·rw [if_pos hge]
    exact wpS_pure ⟨rfl,la,of,rfl,a1,a3,a4,.inl hge⟩
   ·rw [if_neg hge]
    obtain ⟨x,e1,e2,e3⟩:=hin (hn - of) (by omega)
    refine wpS_bind (wpS_bey hL hk e1 e2 sk ?_)
    rw [e3]
    cases e:p (hn - of) with
    | false=>exact wpS_pure ⟨rfl,of,_,rfl,by omega,by omega,by omega,e⟩
    | true=>exact wpS_pure ⟨rfl,la,of,rfl,a1,a3,a4,.inr ⟨by omega,e⟩⟩
  ·rintro c st' ⟨rfl,la,of,rfl,a1,a2,a3,a4⟩
   exact ⟨rfl,la,of,rfl,a1,a3,a4,.inl (by omega)⟩
  ·rintro c st' ⟨rfl,la,of,rfl,a1,a3,a4,a5⟩
   dsimp only
   refine wpS_galT hL hk sk hin mono h (by omega) (by omega) (fun i hi=>?_) (fun i h3 h4=>anti _ i h3 h4 a4)
   rcases a5 with a5 | ⟨a5,a6⟩
   ·omega
   ·exact mono i _ (by omega) (by omega) a6
theorem wpS_galS (hL:LtOK prog w A E s le κ S) (tr:∀ x y z,le x y=true->le y z=true->le x z=true) (hk:kindOf st=κ) (sk:S ky) (hS:∀ (i:Nat) (x:Keyed),ar[i]? = some x->S x) (hsz:bs + n<=ar.size)
  (so:∀ (i j:Nat) (x y:Keyed),bs<=i->i<=j->j < bs + n->ar[i]? = some x->ar[j]? = some y->le x y=true)
  (h:∀ k,k<=n->(∀ (i:Nat),i < k->∀ x:Keyed,ar[bs + i]? = some x->beyP le lf ky x=true)->(∀ (i:Nat),k<=i->i < n->∀ x:Keyed,ar[bs + i]? = some x->beyP le lf ky x=false)->Q (some k) st) {hn:Nat} (hh:hn < n) :
  wpS (model prog w) A E s (gal' lf ky ar bs n hn) Q st:=by
 refine wpS_gal (p:=fun i=>match ar[bs + i]? with | some x=>beyP le lf ky x | none=>false) hL hk sk (fun i hi=>?_) (fun i j hij hj e=>?_) (fun k hk1 h1 h2=>h k hk1 (fun i hi x e=>?_) (fun i h3 h4 x e=>?_)) hh
 ·have e:ar[bs + i]? = some (ar[bs + i]'(by omega)):=getElem?_pos _ _ (by omega)
  exact ⟨_,e,hS _ _ e,by simp only [e]⟩
 ·have e1:ar[bs + i]? = some (ar[bs + i]'(by omega)):=getElem?_pos _ _ (by omega)
  have e2:ar[bs + j]? = some (ar[bs + j]'(by omega)):=getElem?_pos _ _ (by omega)
  have q:=so _ _ _ _ (by omega) (by omega) (by omega) e1 e2
  simp only [e1,e2] at e ⊢
  cases lf with
  | false=>exact tr _ _ _ q e
  | true=>
   simp only [beyP,if_true,Bool.not_eq_true'] at e ⊢
   cases e':le ky (ar[bs + i]'(by omega)) with
   | false=>rfl
   | true=>rw [tr _ _ _ e' q] at e; cases e
 ·have:=h1 i hi
  simp only [e] at this
  exact this
 ·have:=h2 i h3 h4
  simp only [e] at this
  exact this
end
end L2.TS
namespace L2.TS
open PySem PyProof.Rows
noncomputable def smg':Nat->StateT SortSt Sem Unit:=sortPriv% PySem.Builtin.setMinGallop
theorem smg'_eq (g:Nat):smg' g=modify fun s=>SortSt.mk' (kindOf s) (arrOf s) (pendingOf s) g (failedOf s):=rfl
noncomputable def mlo':Array Keyed->Array Keyed->StateT SortSt Sem (Array Keyed):=sortPriv% PySem.Builtin.mergeLo
noncomputable abbrev LoG:=Option (Array Keyed) × Array Keyed × Nat × Nat × Nat × Nat × Nat
noncomputable abbrev LoF:=Option (Array Keyed) × Array Keyed × Nat × Nat × Nat × Nat
noncomputable def dn (a b o:Array Keyed) (ia ib:Nat):Array Keyed:=o ++ a.extract ia a.size ++ b.extract ib b.size
noncomputable def la (a b o:Array Keyed) (ia ib:Nat):Array Keyed:=o ++ b.extract ib b.size ++ a.extract ia a.size
noncomputable def loJ3 (a b:Array Keyed) (mg ac bc:Nat) (o:Array Keyed) (ia ib:Nat):StateT SortSt Sem (ForInStep LoG):=do
 let x <-elem' a ia
 if ia + 1 + 1 == a.size then pure (.done (some (la a b (o.push x) (ia + 1) ib),o.push x,ia + 1,ib,mg,ac,bc))
 else if ac < 7 && bc < 7 then pure (.done (none,o.push x,ia + 1,ib,mg,ac,bc)) else pure (.yield (none,o.push x,ia + 1,ib,mg,ac,bc))
noncomputable def loJ2 (a b:Array Keyed) (mg ac bc:Nat) (o:Array Keyed) (ia ib:Nat):StateT SortSt Sem (ForInStep LoG):=do
 let y <-elem' b ib
 if ib + 1 == b.size then pure (.done (some (dn a b (o.push y) ia (ib + 1)),o.push y,ia,ib + 1,mg,ac,bc))
 else
  let x <-elem' a ia
  match <-gal' true x b (ib + 1) (b.size - (ib + 1)) 0 with
  | some k=>
   if k > 0 then
    if ib + 1 + k == b.size then pure (.done (some (dn a b (o.push y ++ b.extract (ib + 1) (ib + 1 + k)) ia (ib + 1 + k)),o.push y ++ b.extract (ib + 1) (ib + 1 + k),ia,ib + 1 + k,mg,ac,k))
    else loJ3 a b mg ac k (o.push y ++ b.extract (ib + 1) (ib + 1 + k)) ia (ib + 1 + k)
   else loJ3 a b mg ac k (o.push y) ia (ib + 1)
  | _=>pure (.done (some (dn a b (o.push y) ia (ib + 1)),o.push y,ia,ib + 1,mg,ac,bc))
noncomputable def loJ1 (a b:Array Keyed) (ac bc:Nat) (o:Array Keyed) (ia ib mg:Nat):StateT SortSt Sem (ForInStep LoG):=do
 smg' mg
 let y <-elem' b ib
 match <-gal' false y a ia (a.size - ia) 0 with
 | some k=>
  if k > 0 then
   if ia + k + 1 == a.size then pure (.done (some (la a b (o ++ a.extract ia (ia + k)) (ia + k) ib),o ++ a.extract ia (ia + k),ia + k,ib,mg,k,bc))
   else if ia + k == a.size then pure (.done (some (dn a b (o ++ a.extract ia (ia + k)) (ia + k) ib),o ++ a.extract ia (ia + k),ia + k,ib,mg,k,bc))
   else loJ2 a b mg k bc (o ++ a.extract ia (ia + k)) (ia + k) ib
  else loJ2 a b mg k bc o ia ib
 | _=>pure (.done (some (dn a b o ia ib),o,ia,ib,mg,ac,bc))
noncomputable def loG (a b:Array Keyed) (c:LoG):StateT SortSt Sem (ForInStep LoG):=
 if c.2.2.2.2.1 > 1 then loJ1 a b c.2.2.2.2.2.1 c.2.2.2.2.2.2 c.2.1 c.2.2.1 c.2.2.2.1 (c.2.2.2.2.1 - 1) else loJ1 a b c.2.2.2.2.2.1 c.2.2.2.2.2.2 c.2.1 c.2.2.1 c.2.2.2.1 c.2.2.2.2.1
noncomputable def loF (a b:Array Keyed) (mg:Nat) (c:LoF):StateT SortSt Sem (ForInStep LoF):=do
 let y <-elem' b c.2.2.2.1
 let x <-elem' a c.2.2.1
 match <-lt' y x with
 | some bw=>
  if bw then do
   let y <-elem' b c.2.2.2.1
   if c.2.2.2.1 + 1 == b.size then pure (.done (some (dn a b (c.2.1.push y) c.2.2.1 (c.2.2.2.1 + 1)),c.2.1.push y,c.2.2.1,c.2.2.2.1 + 1,0,c.2.2.2.2.2 + 1))
   else if c.2.2.2.2.2 + 1 ≥ mg then pure (.done (none,c.2.1.push y,c.2.2.1,c.2.2.2.1 + 1,0,c.2.2.2.2.2 + 1)) else pure (.yield (none,c.2.1.push y,c.2.2.1,c.2.2.2.1 + 1,0,c.2.2.2.2.2 + 1))
  else do
   let x <-elem' a c.2.2.1
   if c.2.2.1 + 1 + 1 == a.size then pure (.done (some (la a b (c.2.1.push x) (c.2.2.1 + 1) c.2.2.2.1),c.2.1.push x,c.2.2.1 + 1,c.2.2.2.1,c.2.2.2.2.1 + 1,0))
   else if c.2.2.2.2.1 + 1 ≥ mg then pure (.done (none,c.2.1.push x,c.2.2.1 + 1,c.2.2.2.1,c.2.2.2.2.1 + 1,0)) else pure (.yield (none,c.2.1.push x,c.2.2.1 + 1,c.2.2.2.1,c.2.2.2.2.1 + 1,0))
 | _=>pure (.done (some (dn a b c.2.1 c.2.2.1 c.2.2.2.1),c.2.1,c.2.2.1,c.2.2.2.1,c.2.2.2.2.1,c.2.2.2.2.2))
noncomputable abbrev LoO:=Option (Array Keyed) × Array Keyed × Nat × Nat × Nat
noncomputable def loO (a b:Array Keyed) (c:LoO):StateT SortSt Sem (ForInStep LoO):=do
 let d <-forIn [:a.size + b.size] ((none,c.2.1,c.2.2.1,c.2.2.2.1,0,0):LoF) fun _ d=>loF a b c.2.2.2.2 d
 match d.1 with
 | some r=>pure (.done (some r,d.2.1,d.2.2.1,d.2.2.2.1,c.2.2.2.2))
 | none=>
  rule "list.sort.gallop"
  let e <-forIn [:a.size + b.size] ((none,d.2.1,d.2.2.1,d.2.2.2.1,c.2.2.2.2 + 1,d.2.2.2.2.1,d.2.2.2.2.2):LoG) fun _ e=>loG a b e
  match e.1 with
  | some r=>pure (.done (some r,e.2.1,e.2.2.1,e.2.2.2.1,e.2.2.2.2.1))
  | none=>
   smg' (e.2.2.2.2.1 + 1)
   pure (.yield (none,e.2.1,e.2.2.1,e.2.2.2.1,e.2.2.2.2.1 + 1))
theorem fb {β γ:Type} {r:Std.Legacy.Range} {x:β} {f g:Nat->β->StateT SortSt Sem (ForInStep β)} {k k':β->StateT SortSt Sem γ} (h:∀ i c,f i c=g i c) (h':∀ c,k c=k' c):(forIn r x f >>= k)=(forIn r x g >>= k'):=by
 have e:f=g:=funext fun i=>funext fun c=>h i c
 have e':k=k':=funext h'
 rw [e,e']
theorem iteC {p:Prop} [Decidable p] {α:Type} {x x' y y':α} (h1:x=x') (h2:y=y'):(if p then x else y)=if p then x' else y':=by rw [h1,h2]
theorem mlo'_eq0 (a b:Array Keyed):mlo' a b=(do
 rule "list.sort.merge-lo"
 let tt:=a.size + b.size
 let dn (o:Array Keyed) (ia ib:Nat):=o ++ a.extract ia a.size ++ b.extract ib b.size
 let la (o:Array Keyed) (ia ib:Nat):=o ++ b.extract ib b.size ++ a.extract ia a.size
 let mut o:Array Keyed:=#[<-elem' b 0]
 let mut ia:=0
 let mut ib:=1
 if ib == b.size then return dn o ia ib
 if ia + 1 == a.size then return la o ia ib
 let mut mg:=gallopOf (<-get)
 for _ in [0:tt] do
  let mut ac:=0
  let mut bc:=0
  for _ in [0:tt] do
   let some bw <-lt' (<-elem' b ib) (<-elem' a ia) | return dn o ia ib
   if bw then
    o:=o.push (<-elem' b ib); ib:=ib + 1; bc:=bc + 1; ac:=0
    if ib == b.size then return dn o ia ib
    if bc ≥ mg then break
   else
    o:=o.push (<-elem' a ia); ia:=ia + 1; ac:=ac + 1; bc:=0
    if ia + 1 == a.size then return la o ia ib
    if ac ≥ mg then break
  rule "list.sort.gallop"
  mg:=mg + 1
  for _ in [0:tt] do
   if mg > 1 then mg:=mg - 1
   smg' mg
   let some k <-gal' false (<-elem' b ib) a ia (a.size - ia) 0 | return dn o ia ib
   ac:=k
   if k > 0 then
    o:=o ++ a.extract ia (ia + k); ia:=ia + k
    if ia + 1 == a.size then return la o ia ib
    if ia == a.size then return dn o ia ib
   o:=o.push (<-elem' b ib); ib:=ib + 1
   if ib == b.size then return dn o ia ib
   let some k <-gal' true (<-elem' a ia) b ib (b.size - ib) 0 | return dn o ia ib
   bc:=k
   if k > 0 then
    o:=o ++ b.extract ib (ib + k); ib:=ib + k
    if ib == b.size then return dn o ia ib
   o:=o.push (<-elem' a ia); ia:=ia + 1
   if ia + 1 == a.size then return la o ia ib
   if ac < 7 && bc < 7 then break
  mg:=mg + 1
  smg' mg
 unsupported "internal:list.sort.merge-bound"):=rfl
theorem mlo'_eq (a b:Array Keyed):mlo' a b=(do
 rule "list.sort.merge-lo"
 let y <-elem' b 0
 if 1 == b.size then return dn a b #[y] 0 1
 if 0 + 1 == a.size then return la a b #[y] 0 1
 let g <-get
 let c <-forIn [:a.size + b.size] ((none,#[y],0,1,gallopOf g):LoO) fun _ c=>loO a b c
 match c.1 with
 | some r=>pure r
 | none=>unsupported "internal:list.sort.merge-bound"):=by
 rw [mlo'_eq0]
 refine bind_congr fun _=>?_
 dsimp only
 refine bind_congr fun y=>?_
 unfold dn la
 refine congrArg _ (congrArg _ (bind_congr fun g=>?_))
 refine fb (fun _ c=>?_) fun c=>?_
 ·unfold loO
  refine fb (fun _ d=>?_) fun d=>?_
  ·unfold loF dn la
   refine bind_congr fun _=>bind_congr fun _=>bind_congr fun q=>?_
   cases q <;> rfl
  ·obtain ⟨r,d⟩:=d
   cases r with
   | some r=>rfl
   | none=>
    dsimp only
    refine bind_congr fun _=>fb (fun _ e=>?_) fun e=>?_
    ·unfold loG loJ1 dn la
     refine iteC ?_ ?_ <;>
     ·refine bind_congr fun _=>bind_congr fun _=>bind_congr fun q=>?_
      cases q with
      | none=>rfl
      | some k=>
       refine iteC (iteC rfl (iteC rfl ?_)) ?_ <;>
       ·unfold loJ2 loJ3 dn la
        refine bind_congr fun _=>iteC rfl (bind_congr fun _=>bind_congr fun q=>?_)
        cases q <;> rfl
    ·obtain ⟨r,e⟩:=e
     cases r <;> rfl
 ·obtain ⟨r,c⟩:=c
  cases r <;> rfl
end L2.TS
namespace L2.TS
open PySem PyProof.Rows
theorem drop_at {α:Type} {l:List α} {i:Nat} {x:α} (h:l[i]? = some x):l.drop i=x :: l.drop (i + 1):=by
 obtain ⟨h1,h2⟩:=List.getElem?_eq_some_iff.mp h
 rw [List.drop_eq_getElem_cons h1,h2]
theorem drop_take {α:Type} (l:List α) (i k:Nat):l.drop i=(l.drop i).take k ++ l.drop (i + k):=by
 rw [<-List.drop_drop]; exact (List.take_append_drop k (l.drop i)).symm
theorem ext_list {α:Type} (a:Array α) (i j:Nat):(a.extract i j).toList=(a.toList.drop i).take (j - i):=by simp [List.extract_eq_take_drop]
theorem arr_list {α:Type} {a:Array α} {i:Nat}:a[i]? = a.toList[i]?:=by simp
noncomputable def JJ (le:Keyed->Keyed->Bool) (a b:Array Keyed) (o:Array Keyed) (ia ib:Nat):Prop:=o.toList ++ List.merge (a.toList.drop ia) (b.toList.drop ib) le=List.merge a.toList b.toList le
section
variable {le:Keyed->Keyed->Bool} {a b o:Array Keyed} {ia ib k:Nat} {x y:Keyed}
theorem JJ.pb (h:JJ le a b o ia ib) (hx:a[ia]? = some x) (hy:b[ib]? = some y) (e:le x y=false):JJ le a b (o.push y) ia (ib + 1):=by
 unfold JJ at h ⊢
 rw [arr_list] at hx hy
 rw [<-h,drop_at hx,drop_at hy,List.cons_merge_cons,if_neg (by rw [e]; exact Bool.false_ne_true)]
 simp
theorem JJ.pa (h:JJ le a b o ia ib) (hx:a[ia]? = some x) (hy:b[ib]? = some y) (e:le x y=true):JJ le a b (o.push x) (ia + 1) ib:=by
 unfold JJ at h ⊢
 rw [arr_list] at hx hy
 rw [<-h,drop_at hx,drop_at hy,List.cons_merge_cons,if_pos e]
 simp
theorem mem_part {l:List Keyed} {i k:Nat} {x:Keyed} (h:x ∈ (l.drop i).take k):∃ j,j < k/\l[i + j]? = some x:=by
 obtain ⟨j,hj⟩:=List.getElem?_of_mem h
 rw [List.getElem?_take] at hj
 split at hj
 ·rename_i q; rw [List.getElem?_drop] at hj; exact ⟨j,q,hj⟩
 ·cases hj
theorem JJ.ga (h:JJ le a b o ia ib) (hy:b[ib]? = some y) (e:∀ (i:Nat),i < k->∀ x:Keyed,a[ia + i]? = some x->le x y=true):JJ le a b (o ++ a.extract ia (ia + k)) (ia + k) ib:=by
 unfold JJ at h ⊢
 rw [arr_list] at hy
 rw [<-h,drop_take a.toList ia k,drop_at hy,mg_front (fun x hx=>by obtain ⟨j,hj,q⟩:=mem_part hx; exact e j hj x (by rw [arr_list]; exact q))]
 simp only [Array.toList_append,ext_list,List.append_assoc,Nat.add_sub_cancel_left]
theorem JJ.gb (h:JJ le a b o ia ib) (hx:a[ia]? = some x) (e:∀ (i:Nat),i < k->∀ y:Keyed,b[ib + i]? = some y->le x y=false):JJ le a b (o ++ b.extract ib (ib + k)) ia (ib + k):=by
 unfold JJ at h ⊢
 rw [arr_list] at hx
 rw [<-h,drop_take b.toList ib k,drop_at hx,mg_frontB (fun y hy=>by obtain ⟨j,hj,q⟩:=mem_part hy; exact e j hj y (by rw [arr_list]; exact q))]
 simp only [Array.toList_append,ext_list,List.append_assoc,Nat.add_sub_cancel_left]
theorem JJ.dn (h:JJ le a b o ia ib) (hb:b.size<=ib):(dn a b o ia ib).toList=List.merge a.toList b.toList le:=by
 unfold JJ at h
 unfold TS.dn
 rw [<-h,show b.toList.drop ib=[] from List.drop_eq_nil_of_le (by simpa using hb),List.merge_right]
 have e1:(b.extract ib b.size).toList=[]:=by rw [ext_list,show b.size - ib=0 by omega,List.take_zero]
 have e2:(a.extract ia a.size).toList=a.toList.drop ia:=by rw [ext_list,List.take_of_length_le (by simp)]
 simp only [Array.toList_append,e1,e2,List.append_nil]
theorem JJ.la (h:JJ le a b o ia ib) (hl:∀ (i:Nat) (x y:Keyed),i + 1=a.size->a[i]? = some x->y ∈ b.toList->le x y=false) (ha:ia + 1=a.size):(la a b o ia ib).toList=List.merge a.toList b.toList le:=by
 unfold JJ at h
 unfold TS.la
 have e1:a[ia]? = some (a[ia]'(by omega)):=getElem?_pos _ _ (by omega)
 have hx:=e1
 rw [arr_list] at hx
 rw [<-h,drop_at hx,List.drop_eq_nil_of_le (by simp; omega),mg_all (fun y hy z hz=>by obtain rfl:=List.mem_singleton.mp hz; exact hl ia _ y ha e1 (List.mem_of_mem_drop hy))]
 have e3:(b.extract ib b.size).toList=b.toList.drop ib:=by rw [ext_list,List.take_of_length_le (by simp)]
 have e2:(a.extract ia a.size).toList=[a[ia]'(by omega)]:=by rw [ext_list,drop_at hx,show a.size - ia=1 by omega]; rfl
 simp only [Array.toList_append,e3,e2,List.append_assoc]
end
structure Sm (st st':SortSt):Prop where
 kind:kindOf st' = kindOf st
 arr:arrOf st' = arrOf st
 pend:pendingOf st' = pendingOf st
 failed:failedOf st' = failedOf st
theorem Sm.refl {st:SortSt}:Sm st st:=⟨rfl,rfl,rfl,rfl⟩
theorem Sm.mg {st st':SortSt} (h:Sm st st') (g:Nat):Sm st (SortSt.mk' (kindOf st') (arrOf st') (pendingOf st') g (failedOf st')):=⟨h.kind,h.arr,h.pend,h.failed⟩
section
variable {prog:Program} {w:World} {A:Around} {E:Value->Shared->Prop} {s:Shared} {le:Keyed->Keyed->Bool} {κ:SortKind} {S:Keyed->Prop} {a b:Array Keyed} {st0:SortSt}
structure MH (le:Keyed->Keyed->Bool) (S:Keyed->Prop) (a b:Array Keyed):Prop where
 tr:∀ x y z,le x y=true->le y z=true->le x z=true
 sa:∀ (i j:Nat) (x y:Keyed),i<=j->a[i]? = some x->a[j]? = some y->le x y=true
 sb:∀ (i j:Nat) (x y:Keyed),i<=j->b[i]? = some x->b[j]? = some y->le x y=true
 Sa:∀ (i:Nat) (x:Keyed),a[i]? = some x->S x
 Sb:∀ (i:Nat) (x:Keyed),b[i]? = some x->S x
 a0:0 < a.size
 b0:0 < b.size
 first:∀ x y:Keyed,a[0]? = some x->b[0]? = some y->le x y=false
 last:∀ (i:Nat) (x y:Keyed),i + 1=a.size->a[i]? = some x->y ∈ b.toList->le x y=false
theorem at_ {α:Type} {c:Array α} {i:Nat} (h:i < c.size):∃ x,c[i]? = some x:=⟨c[i],Array.getElem?_eq_getElem h⟩
noncomputable def Gd (le:Keyed->Keyed->Bool) (a b o:Array Keyed) (ia ib:Nat):Prop:=JJ le a b o ia ib/\ia + 1 < a.size/\ib < b.size
noncomputable def GR (le:Keyed->Keyed->Bool) (a b:Array Keyed) (m:Nat):ForInStep LoG->Prop
 | .done (some r,_)=>r.toList=List.merge a.toList b.toList le
 | .done (none,o,ia,ib,_)=>Gd le a b o ia ib/\m<=ia + ib
 | .yield (none,o,ia,ib,_)=>Gd le a b o ia ib/\m<=ia + ib
 | .yield (some _,_)=>False
variable (M:MH le S a b)
include M
theorem wpS_J3 {mg ac bc:Nat} {o:Array Keyed} {ia ib m:Nat} {st:SortSt} {x y:Keyed} {Q:ForInStep LoG->SortSt->Prop} (h:JJ le a b o ia ib) (ha:ia + 1 < a.size) (hb:ib < b.size) (hm:m<=ia + ib)
  (hx:a[ia]? = some x) (hy:b[ib]? = some y) (e:le x y=true) (hQ:∀ r,GR le a b m r->Q r st):wpS (model prog w) A E s (loJ3 a b mg ac bc o ia ib) Q st:=by
 unfold loJ3
 refine wpS_bind (wpS_elem hx ?_)
 have h1:=h.pa hx hy e
 by_cases e1:ia + 1 + 1=a.size
 ·rw [if_pos (by simpa using e1)]
  exact wpS_pure (hQ _ (h1.la M.last e1))
 ·rw [if_neg (by simpa using e1)]
  have g:Gd le a b (o.push x) (ia + 1) ib/\m<=ia + 1 + ib:=⟨⟨h1,by omega,hb⟩,by omega⟩
  split
  ·exact wpS_pure (hQ _ g)
  ·exact wpS_pure (hQ _ g)
theorem wpS_J2 (hL:LtOK prog w A E s le κ S) {mg ac bc:Nat} {o:Array Keyed} {ia ib m:Nat} {st:SortSt} {x y:Keyed} {Q:ForInStep LoG->SortSt->Prop} (hk:kindOf st=κ) (h:JJ le a b o ia ib) (ha:ia + 1 < a.size) (hb:ib < b.size) (hm:m<=ia + ib)
  (hx:a[ia]? = some x) (hy:b[ib]? = some y) (e:le x y=false) (hQ:∀ r,GR le a b m r->Q r st):wpS (model prog w) A E s (loJ2 a b mg ac bc o ia ib) Q st:=by
 unfold loJ2
 refine wpS_bind (wpS_elem hy ?_)
 have h1:=h.pb hx hy e
 by_cases e1:ib + 1=b.size
 ·rw [if_pos (by simpa using e1)]
  exact wpS_pure (hQ _ (h1.dn (by omega)))
 ·rw [if_neg (by simpa using e1)]
  refine wpS_bind (wpS_elem hx (wpS_bind (wpS_galS hL M.tr hk (M.Sa _ _ hx) M.Sb (by omega) (fun i j u v _ hij _=>M.sb i j u v hij) (fun k hk1 g1 g2=>?_) (by omega))))
  dsimp only
  have h2:=h1.gb (k:=k) hx fun i hi z hz=>by have:=g1 i hi z hz; simpa [beyP] using this
  have h3:∀ z:Keyed,k < b.size - (ib + 1)->b[ib + 1 + k]? = some z->le x z=true:=fun z q hz=>by have:=g2 k (Nat.le_refl _) q z hz; simpa [beyP] using this
  by_cases k0:k > 0
  ·rw [if_pos k0]
   by_cases e2:ib + 1 + k=b.size
   ·rw [if_pos (by simpa using e2)]
    exact wpS_pure (hQ _ (h2.dn (by omega)))
   ·rw [if_neg (by simpa using e2)]
    obtain ⟨z,hz⟩:=at_ (c:=b) (i:=ib + 1 + k) (by omega)
    exact wpS_J3 M h2 ha (by omega) (by omega) hx hz (h3 z (by omega) hz) hQ
  ·rw [if_neg k0]
   have:k=0:=by omega
   subst this
   obtain ⟨z,hz⟩:=at_ (c:=b) (i:=ib + 1) (by omega)
   exact wpS_J3 M h1 ha (by omega) (by omega) hx hz (h3 z (by omega) hz) hQ
theorem wpS_J1 (hL:LtOK prog w A E s le κ S) {mg ac bc:Nat} {o:Array Keyed} {ia ib m:Nat} {st:SortSt} {Q:ForInStep LoG->SortSt->Prop} (hs:Sm st0 st) (hk:kindOf st0=κ) (h:JJ le a b o ia ib) (ha:ia + 1 < a.size) (hb:ib < b.size) (hm:m<=ia + ib)
  (hQ:∀ r st',Sm st0 st'->GR le a b m r->Q r st'):wpS (model prog w) A E s (loJ1 a b ac bc o ia ib mg) Q st:=by
 unfold loJ1
 rw [smg'_eq]
 obtain ⟨y,hy⟩:=at_ hb
 refine wpS_bind (wpS_modify (wpS_bind (wpS_elem hy ?_)))
 have hs1:=hs.mg mg
 generalize SortSt.mk' (kindOf st) (arrOf st) (pendingOf st) mg (failedOf st)=st1 at hs1 ⊢
 have hk1:kindOf st1=κ:=hs1.kind.trans hk
 refine wpS_bind (wpS_galS hL M.tr hk1 (M.Sb _ _ hy) M.Sa (by omega) (fun i j u v _ hij _=>M.sa i j u v hij) (fun k hk2 g1 g2=>?_) (by omega))
 dsimp only
 have h2:=h.ga (k:=k) hy fun i hi z hz=>by have:=g1 i hi z hz; simpa [beyP] using this
 have h3:∀ z:Keyed,k < a.size - ia->a[ia + k]? = some z->le z y=false:=fun z q hz=>by have:=g2 k (Nat.le_refl _) q z hz; simpa [beyP] using this
 have hkl:ia + k < a.size:=by
  rcases Nat.lt_or_ge (ia + k) a.size with q | q
  ·exact q
  ·obtain ⟨z,hz⟩:=at_ (c:=a) (i:=a.size - 1) (by omega)
   have e1:=M.last (a.size - 1) z y (by omega) hz (by rw [arr_list] at hy; exact List.mem_of_getElem? hy)
   have e2:=g1 (a.size - 1 - ia) (by omega) z (by rw [show ia + (a.size - 1 - ia)=a.size - 1 by omega]; exact hz)
   simp [beyP,e1] at e2
 by_cases k0:k > 0
 ·rw [if_pos k0]
  by_cases e2:ia + k + 1=a.size
  ·rw [if_pos (by simpa using e2)]
   exact wpS_pure (hQ _ _ hs1 (h2.la M.last e2))
  ·rw [if_neg (by simpa using e2),if_neg (by simp; omega)]
   obtain ⟨z,hz⟩:=at_ (c:=a) (i:=ia + k) (by omega)
   exact wpS_J2 M hL hk1 h2 (by omega) hb (by omega) hz hy (h3 z (by omega) hz) fun r g=>hQ r _ hs1 g
 ·rw [if_neg k0]
  have:k=0:=by omega
  subst this
  obtain ⟨z,hz⟩:=at_ (c:=a) (i:=ia) (by omega)
  exact wpS_J2 M hL hk1 h ha hb hm hz hy (h3 z (by omega) hz) fun r g=>hQ r _ hs1 g
theorem wpS_loG (hL:LtOK prog w A E s le κ S) {mg ac bc:Nat} {o:Array Keyed} {ia ib m:Nat} {st:SortSt} {Q:ForInStep LoG->SortSt->Prop} (hs:Sm st0 st) (hk:kindOf st0=κ) (h:Gd le a b o ia ib/\m<=ia + ib)
  (hQ:∀ r st',Sm st0 st'->GR le a b m r->Q r st'):wpS (model prog w) A E s (loG a b (none,o,ia,ib,mg,ac,bc)) Q st:=by
 unfold loG
 dsimp only
 split
 ·exact wpS_J1 M hL hs hk h.1.1 h.1.2.1 h.1.2.2 h.2 hQ
 ·exact wpS_J1 M hL hs hk h.1.1 h.1.2.1 h.1.2.2 h.2 hQ
noncomputable def FR (le:Keyed->Keyed->Bool) (a b:Array Keyed) (m:Nat):LoF->Prop
 | (some r,_)=>r.toList=List.merge a.toList b.toList le
 | (none,o,ia,ib,_)=>Gd le a b o ia ib/\m<=ia + ib
theorem wpS_loF (hL:LtOK prog w A E s le κ S) {mg ac bc:Nat} {o:Array Keyed} {ia ib m:Nat} {st:SortSt} {Q:ForInStep LoF->SortSt->Prop} (hk:kindOf st=κ) (h:Gd le a b o ia ib) (hm:m<=ia + ib + 1)
  (hd:∀ c,FR le a b m c->Q (.done c) st) (hy:∀ o' ia' ib' ac' bc',Gd le a b o' ia' ib'->m<=ia' + ib'->Q (.yield (none,o',ia',ib',ac',bc')) st):wpS (model prog w) A E s (loF a b mg (none,o,ia,ib,ac,bc)) Q st:=by
 unfold loF
 dsimp only
 obtain ⟨h,ha,hb⟩:=h
 obtain ⟨y,ey⟩:=at_ hb
 obtain ⟨x,ex⟩:=at_ (c:=a) (i:=ia) (by omega)
 refine wpS_bind (wpS_elem ey (wpS_bind (wpS_elem ex (wpS_bind (hL y x (M.Sb _ _ ey) (M.Sa _ _ ex) _ st hk ?_)))))
 dsimp only
 cases e:le x y with
 | false=>
  simp only [Bool.not_false,if_true]
  have h1:=h.pb ex ey e
  refine wpS_bind (wpS_elem ey ?_)
  by_cases e1:ib + 1=b.size
  ·rw [if_pos (by simpa using e1)]
   exact wpS_pure (hd _ (h1.dn (by omega)))
  ·rw [if_neg (by simpa using e1)]
   split
   ·exact wpS_pure (hd _ ⟨⟨h1,ha,by omega⟩,by omega⟩)
   ·exact wpS_pure (hy _ _ _ _ _ ⟨h1,ha,by omega⟩ (by omega))
 | true=>
  simp only [Bool.not_true,Bool.false_eq_true,if_false]
  have h1:=h.pa ex ey e
  refine wpS_bind (wpS_elem ex ?_)
  by_cases e1:ia + 1 + 1=a.size
  ·rw [if_pos (by simpa using e1)]
   exact wpS_pure (hd _ (h1.la M.last e1))
  ·rw [if_neg (by simpa using e1)]
   split
   ·exact wpS_pure (hd _ ⟨⟨h1,by omega,hb⟩,by omega⟩)
   ·exact wpS_pure (hy _ _ _ _ _ ⟨h1,by omega,hb⟩ (by omega))
theorem wpS_loO (hL:LtOK prog w A E s le κ S) {mg:Nat} {o:Array Keyed} {ia ib m:Nat} {st:SortSt} {Q:ForInStep LoO->SortSt->Prop} (hs:Sm st0 st) (hk:kindOf st0=κ) (h:Gd le a b o ia ib) (hm:m<=ia + ib)
  (hd:∀ r c st',Sm st0 st'->r.toList=List.merge a.toList b.toList le->Q (.done (some r,c)) st') (hy:∀ o' ia' ib' mg' st',Sm st0 st'->Gd le a b o' ia' ib'->m + 1<=ia' + ib'->Q (.yield (none,o',ia',ib',mg')) st') :
  wpS (model prog w) A E s (loO a b (none,o,ia,ib,mg)) Q st:=by
 unfold loO
 dsimp only
 have hk1:kindOf st=κ:=hs.kind.trans hk
 refine wpS_bind (wpS_mono (wpS_forRange (I:=fun x c st'=>st' = st/\∃ o ia ib ac bc,c=(none,o,ia,ib,ac,bc)/\Gd le a b o ia ib/\m + x<=ia + ib)
  (Q:=fun c st'=>st' = st/\FR le a b (m + 1) c) ?_ ?_ ⟨rfl,o,ia,ib,0,0,rfl,h,by omega⟩) ?_)
 ·rintro x c st' _ hx ⟨rfl,o,ia,ib,ac,bc,rfl,g,q⟩
  refine wpS_loF M hL (m:=m + x + 1) hk1 g (by omega) (fun c hc=>⟨rfl,?_⟩) (fun o' ia' ib' ac' bc' g' q'=>⟨rfl,o',ia',ib',ac',bc',rfl,g',by omega⟩)
  obtain ⟨_ | r,c⟩:=c
  ·exact ⟨hc.1,by have:=hc.2; omega⟩
  ·exact hc
 ·rintro c st' ⟨rfl,o,ia,ib,ac,bc,rfl,g,q⟩
  have:=g.2
  omega
 ·rintro ⟨_ | r,c⟩ st' ⟨rfl,hc⟩
  ·obtain ⟨o,ia,ib,ac,bc⟩:=c
   dsimp only
   refine wpS_bind (wpS_lift (wpAny_rule ⟨rfl,?_⟩))
   refine wpS_bind (wpS_mono (wpS_forRange (I:=fun _ c st'=>Sm st0 st'/\∃ o ia ib mg ac bc,c=(none,o,ia,ib,mg,ac,bc)/\Gd le a b o ia ib/\m + 1<=ia + ib)
    (Q:=fun c st'=>Sm st0 st'/\GR le a b (m + 1) (.done c)) ?_ ?_ ⟨hs,o,ia,ib,_,ac,bc,rfl,hc⟩) ?_)
   ·rintro x c st' _ hx ⟨hs',o,ia,ib,mg,ac,bc,rfl,g⟩
    refine wpS_loG M hL hs' hk g fun r st'' hs'' gr=>?_
    match r,gr with
    | .done c,gr=>exact ⟨hs'',gr⟩
    | .yield (none,o,ia,ib,mg,ac,bc),gr=>exact ⟨hs'',o,ia,ib,mg,ac,bc,rfl,gr⟩
    | .yield (some _,_),gr=>exact gr.elim
   ·rintro c st' ⟨hs',o,ia,ib,mg,ac,bc,rfl,g⟩
    exact ⟨hs',g⟩
   ·rintro ⟨_ | r,c⟩ st' ⟨hs',hc⟩
    ·obtain ⟨o,ia,ib,mg,ac,bc⟩:=c
     dsimp only
     rw [smg'_eq]
     exact wpS_bind (wpS_modify (wpS_pure (hy _ _ _ _ _ (hs'.mg _) hc.1 hc.2)))
    ·exact wpS_pure (hd _ _ _ hs' hc)
  ·exact wpS_pure (hd _ _ _ hs hc)
theorem wpS_mlo (hL:LtOK prog w A E s le κ S) {Q:Array Keyed->SortSt->Prop} (hk:kindOf st0=κ) (h:∀ r st',Sm st0 st'->r.toList=List.merge a.toList b.toList le->Q r st'):wpS (model prog w) A E s (mlo' a b) Q st0:=by
 rw [mlo'_eq]
 refine wpS_bind (wpS_lift (wpAny_rule ⟨rfl,?_⟩))
 obtain ⟨y,hy⟩:=at_ M.b0
 obtain ⟨x,hx⟩:=at_ M.a0
 refine wpS_bind (wpS_elem hy ?_)
 have j0:JJ le a b #[] 0 0:=by simp [JJ]
 have j1:JJ le a b #[y] 0 1:=j0.pb hx hy (M.first x y hx hy)
 have b0:=M.b0
 have a0:=M.a0
 by_cases e1:1=b.size
 ·rw [if_pos (by simpa using e1)]
  exact wpS_pure (h _ _ .refl (j1.dn (by omega)))
 ·rw [if_neg (by simpa using e1)]
  by_cases e2:0 + 1=a.size
  ·rw [if_pos (by simpa using e2)]
   exact wpS_pure (h _ _ .refl (j1.la M.last e2))
  ·rw [if_neg (by simpa using e2)]
   refine wpS_bind (wpS_get ?_)
   refine wpS_bind (wpS_mono (wpS_forRange (I:=fun x c st'=>Sm st0 st'/\∃ o ia ib mg,c=(none,o,ia,ib,mg)/\Gd le a b o ia ib/\x + 1<=ia + ib)
    (Q:=fun c st'=>Sm st0 st'/\∃ r c',c=(some r,c')/\r.toList=List.merge a.toList b.toList le) ?_ ?_ ⟨.refl,#[y],0,1,_,rfl,⟨j1,by omega,by omega⟩,by omega⟩) ?_)
   ·rintro x c st' _ hx ⟨hs',o,ia,ib,mg,rfl,g,q⟩
    exact wpS_loO M hL hs' hk g q (fun r c st'' hs'' e=>⟨hs'',r,c,rfl,e⟩) fun o' ia' ib' mg' st'' hs'' g' q'=>⟨hs'',o',ia',ib',mg',rfl,g',q'⟩
   ·rintro c st' ⟨hs',o,ia,ib,mg,rfl,g,q⟩
    have:=g.2
    omega
   ·rintro c st' ⟨hs',r,c,rfl,e⟩
    exact wpS_pure (h _ _ hs' e)
end
end L2.TS
namespace L2.TS
open PySem PyProof.Rows
noncomputable def mhi':Array Keyed->Array Keyed->StateT SortSt Sem (Array Keyed):=sortPriv% PySem.Builtin.mergeHi
noncomputable def dh (a b o:Array Keyed) (na nb:Nat):Array Keyed:=a.extract 0 na ++ b.extract 0 nb ++ o.reverse
noncomputable def fh (a b o:Array Keyed) (na nb:Nat):Array Keyed:=b.extract 0 nb ++ a.extract 0 na ++ o.reverse
noncomputable abbrev HiG:=Option (Array Keyed) × Nat × Nat × Array Keyed × Nat × Nat × Nat
noncomputable abbrev HiF:=Option (Array Keyed) × Nat × Nat × Array Keyed × Nat × Nat
noncomputable abbrev HiO:=Option (Array Keyed) × Nat × Nat × Array Keyed × Nat
noncomputable def hiJ3 (a b:Array Keyed) (mg ac bc:Nat) (na:Nat) (nb:Nat) (o:Array Keyed):StateT SortSt Sem (ForInStep HiG):=do
 let x <-elem' a (na - 1)
 if na - 1 == 0 then pure (.done (some (dh a b (o.push x) (na - 1) nb),na - 1,nb,o.push x,mg,ac,bc))
 else if ac < 7 && bc < 7 then pure (.done (none,na - 1,nb,o.push x,mg,ac,bc)) else pure (.yield (none,na - 1,nb,o.push x,mg,ac,bc))
noncomputable def hiJ2 (a b:Array Keyed) (mg ac bc:Nat) (nb na:Nat) (o:Array Keyed):StateT SortSt Sem (ForInStep HiG):=do
 let y <-elem' b (nb - 1)
 if nb - 1 == 1 then pure (.done (some (fh a b (o.push y) na (nb - 1)),na,nb - 1,o.push y,mg,ac,bc))
 else
  let x <-elem' a (na - 1)
  match <-gal' true x b 0 (nb - 1) (nb - 1 - 1) with
  | some p=>
   if nb - 1 - p > 0 then
    if p == 1 then pure (.done (some (fh a b (o.push y ++ (b.extract p (nb - 1)).reverse) na p),na,p,o.push y ++ (b.extract p (nb - 1)).reverse,mg,ac,nb - 1 - p))
    else if p == 0 then pure (.done (some (dh a b (o.push y ++ (b.extract p (nb - 1)).reverse) na p),na,p,o.push y ++ (b.extract p (nb - 1)).reverse,mg,ac,nb - 1 - p))
    else hiJ3 a b mg ac (nb - 1 - p) na p (o.push y ++ (b.extract p (nb - 1)).reverse)
   else hiJ3 a b mg ac (nb - 1 - p) na (nb - 1) (o.push y)
  | _=>pure (.done (some (dh a b (o.push y) na (nb - 1)),na,nb - 1,o.push y,mg,ac,bc))
noncomputable def hiJ1 (a b:Array Keyed) (ac bc:Nat) (na nb:Nat) (o:Array Keyed) (mg:Nat):StateT SortSt Sem (ForInStep HiG):=do
 smg' mg
 let y <-elem' b (nb - 1)
 match <-gal' false y a 0 na (na - 1) with
 | some p=>
  if na - p > 0 then
   if p == 0 then pure (.done (some (dh a b (o ++ (a.extract p na).reverse) p nb),p,nb,o ++ (a.extract p na).reverse,mg,na - p,bc))
   else hiJ2 a b mg (na - p) bc nb p (o ++ (a.extract p na).reverse)
  else hiJ2 a b mg (na - p) bc nb na o
 | _=>pure (.done (some (dh a b o na nb),na,nb,o,mg,ac,bc))
noncomputable def hiG (a b:Array Keyed) (c:HiG):StateT SortSt Sem (ForInStep HiG):=
 if c.2.2.2.2.1 > 1 then hiJ1 a b c.2.2.2.2.2.1 c.2.2.2.2.2.2 c.2.1 c.2.2.1 c.2.2.2.1 (c.2.2.2.2.1 - 1) else hiJ1 a b c.2.2.2.2.2.1 c.2.2.2.2.2.2 c.2.1 c.2.2.1 c.2.2.2.1 c.2.2.2.2.1
noncomputable def hiF (a b:Array Keyed) (mg:Nat) (c:HiF):StateT SortSt Sem (ForInStep HiF):=do
 let y <-elem' b (c.2.2.1 - 1)
 let x <-elem' a (c.2.1 - 1)
 match <-lt' y x with
 | some aw=>
  if aw then do
   let x <-elem' a (c.2.1 - 1)
   if c.2.1 - 1 == 0 then pure (.done (some (dh a b (c.2.2.2.1.push x) (c.2.1 - 1) c.2.2.1),c.2.1 - 1,c.2.2.1,c.2.2.2.1.push x,c.2.2.2.2.1 + 1,0))
   else if c.2.2.2.2.1 + 1 ≥ mg then pure (.done (none,c.2.1 - 1,c.2.2.1,c.2.2.2.1.push x,c.2.2.2.2.1 + 1,0)) else pure (.yield (none,c.2.1 - 1,c.2.2.1,c.2.2.2.1.push x,c.2.2.2.2.1 + 1,0))
  else do
   let y <-elem' b (c.2.2.1 - 1)
   if c.2.2.1 - 1 == 1 then pure (.done (some (fh a b (c.2.2.2.1.push y) c.2.1 (c.2.2.1 - 1)),c.2.1,c.2.2.1 - 1,c.2.2.2.1.push y,0,c.2.2.2.2.2 + 1))
   else if c.2.2.2.2.2 + 1 ≥ mg then pure (.done (none,c.2.1,c.2.2.1 - 1,c.2.2.2.1.push y,0,c.2.2.2.2.2 + 1)) else pure (.yield (none,c.2.1,c.2.2.1 - 1,c.2.2.2.1.push y,0,c.2.2.2.2.2 + 1))
 | _=>pure (.done (some (dh a b c.2.2.2.1 c.2.1 c.2.2.1),c.2.1,c.2.2.1,c.2.2.2.1,c.2.2.2.2.1,c.2.2.2.2.2))
noncomputable def hiO (a b:Array Keyed) (c:HiO):StateT SortSt Sem (ForInStep HiO):=do
 let d <-forIn [:a.size + b.size] ((none,c.2.1,c.2.2.1,c.2.2.2.1,0,0):HiF) fun _ d=>hiF a b c.2.2.2.2 d
 match d.1 with
 | some r=>pure (.done (some r,d.2.1,d.2.2.1,d.2.2.2.1,c.2.2.2.2))
 | none=>
  rule "list.sort.gallop"
  let e <-forIn [:a.size + b.size] ((none,d.2.1,d.2.2.1,d.2.2.2.1,c.2.2.2.2 + 1,d.2.2.2.2.1,d.2.2.2.2.2):HiG) fun _ e=>hiG a b e
  match e.1 with
  | some r=>pure (.done (some r,e.2.1,e.2.2.1,e.2.2.2.1,e.2.2.2.2.1))
  | none=>
   smg' (e.2.2.2.2.1 + 1)
   pure (.yield (none,e.2.1,e.2.2.1,e.2.2.2.1,e.2.2.2.2.1 + 1))
theorem mhi'_eq0 (a b:Array Keyed):mhi' a b=(do
 rule "list.sort.merge-hi"
 let tt:=a.size + b.size
 let dn (o:Array Keyed) (na nb:Nat):=a.extract 0 na ++ b.extract 0 nb ++ o.reverse
 let la (o:Array Keyed) (na nb:Nat):=b.extract 0 nb ++ a.extract 0 na ++ o.reverse
 let mut na:=a.size - 1
 let mut nb:=b.size
 let mut o:Array Keyed:=#[<-elem' a na]
 if na == 0 then return dn o na nb
 if nb == 1 then return la o na nb
 let mut mg:=gallopOf (<-get)
 for _ in [0:tt] do
  let mut ac:=0
  let mut bc:=0
  for _ in [0:tt] do
   let some aw <-lt' (<-elem' b (nb - 1)) (<-elem' a (na - 1)) | return dn o na nb
   if aw then
    na:=na - 1; o:=o.push (<-elem' a na); ac:=ac + 1; bc:=0
    if na == 0 then return dn o na nb
    if ac ≥ mg then break
   else
    nb:=nb - 1; o:=o.push (<-elem' b nb); bc:=bc + 1; ac:=0
    if nb == 1 then return la o na nb
    if bc ≥ mg then break
  rule "list.sort.gallop"
  mg:=mg + 1
  for _ in [0:tt] do
   if mg > 1 then mg:=mg - 1
   smg' mg
   let some p <-gal' false (<-elem' b (nb - 1)) a 0 na (na - 1) | return dn o na nb
   let k:=na - p
   ac:=k
   if k > 0 then
    o:=o ++ (a.extract p na).reverse; na:=p
    if na == 0 then return dn o na nb
   nb:=nb - 1; o:=o.push (<-elem' b nb)
   if nb == 1 then return la o na nb
   let some p <-gal' true (<-elem' a (na - 1)) b 0 nb (nb - 1) | return dn o na nb
   let k:=nb - p
   bc:=k
   if k > 0 then
    o:=o ++ (b.extract p nb).reverse; nb:=p
    if nb == 1 then return la o na nb
    if nb == 0 then return dn o na nb
   na:=na - 1; o:=o.push (<-elem' a na)
   if na == 0 then return dn o na nb
   if ac < 7 && bc < 7 then break
  mg:=mg + 1
  smg' mg
 unsupported "internal:list.sort.merge-bound"):=rfl
theorem mhi'_eq (a b:Array Keyed):mhi' a b=(do
 rule "list.sort.merge-hi"
 let x <-elem' a (a.size - 1)
 if a.size - 1 == 0 then return dh a b #[x] (a.size - 1) b.size
 if b.size == 1 then return fh a b #[x] (a.size - 1) b.size
 let g <-get
 let c <-forIn [:a.size + b.size] ((none,a.size - 1,b.size,#[x],gallopOf g):HiO) fun _ c=>hiO a b c
 match c.1 with
 | some r=>pure r
 | none=>unsupported "internal:list.sort.merge-bound"):=by
 rw [mhi'_eq0]
 refine bind_congr fun _=>?_
 dsimp only
 refine bind_congr fun y=>?_
 unfold dh fh
 refine congrArg _ (congrArg _ (bind_congr fun g=>?_))
 refine fb (fun _ c=>?_) fun c=>?_
 ·unfold hiO
  refine fb (fun _ d=>?_) fun d=>?_
  ·unfold hiF dh fh
   refine bind_congr fun _=>bind_congr fun _=>bind_congr fun q=>?_
   cases q <;> rfl
  ·obtain ⟨r,d⟩:=d
   cases r with
   | some r=>rfl
   | none=>
    dsimp only
    refine bind_congr fun _=>fb (fun _ e=>?_) fun e=>?_
    ·unfold hiG hiJ1 dh
     refine iteC ?_ ?_ <;>
     ·refine bind_congr fun _=>bind_congr fun _=>bind_congr fun q=>?_
      cases q with
      | none=>rfl
      | some k=>
       refine iteC (iteC rfl ?_) ?_ <;>
       ·unfold hiJ2 hiJ3 dh fh
        refine bind_congr fun _=>iteC rfl (bind_congr fun _=>bind_congr fun q=>?_)
        cases q <;> rfl
    ·obtain ⟨r,e⟩:=e
     cases r <;> rfl
 ·obtain ⟨r,c⟩:=c
  cases r <;> rfl
noncomputable def HH (le:Keyed->Keyed->Bool) (a b:Array Keyed) (o:Array Keyed) (na nb:Nat):Prop:=List.merge (a.toList.take na) (b.toList.take nb) le ++ o.toList.reverse=List.merge a.toList b.toList le
theorem take_at {α:Type} {l:List α} {i:Nat} {x:α} (h:l[i]? = some x):l.take (i + 1)=l.take i ++ [x]:=by
 obtain ⟨h1,h2⟩:=List.getElem?_eq_some_iff.mp h
 rw [List.take_succ,List.getElem?_eq_getElem h1,h2]; rfl
theorem take_take {α:Type} (l:List α) {p n:Nat} (h:p<=n):l.take n=l.take p ++ (l.drop p).take (n - p):=by
 have:l.take n=(l.take n).take p ++ (l.take n).drop p:=(List.take_append_drop p (l.take n)).symm
 rw [List.take_take,Nat.min_eq_left h,List.drop_take] at this
 exact this
theorem mem_take {l:List Keyed} {n:Nat} {x:Keyed} (h:x ∈ l.take n):∃ j,j < n/\l[j]? = some x:=by
 have:=mem_part (l:=l) (i:=0) (k:=n) (x:=x) (by simpa using h)
 simpa using this
section
variable {le:Keyed->Keyed->Bool} {S:Keyed->Prop} {a b o:Array Keyed} {na nb p:Nat} {x y:Keyed}
theorem HH.ga (M:MH le S a b) (h:HH le a b o na (nb + 1)) (hp:p<=na) (hy:b[nb]? = some y) (e:∀ (i:Nat),p<=i->i < na->∀ x:Keyed,a[i]? = some x->le x y=false):HH le a b (o ++ (a.extract p na).reverse) p (nb + 1):=by
 unfold HH at h ⊢
 rw [take_take a.toList hp,mg_backA _ _ (fun z hz x hx=>?_)] at h
 ·rw [<-h]; simp [ext_list]
 ·obtain ⟨j,hj,q⟩:=mem_part hx
  obtain ⟨i,hi,r⟩:=mem_take hz
  have e1:=e (p + j) (by omega) (by omega) x (by rw [arr_list]; exact q)
  have e2:=M.sb i nb z y (by omega) (by rw [arr_list]; exact r) hy
  cases e3:le x z with
  | false=>rfl
  | true=>rw [M.tr _ _ _ e3 e2] at e1; cases e1
theorem HH.gb (M:MH le S a b) (h:HH le a b o (na + 1) nb) (hp:p<=nb) (hx:a[na]? = some x) (e:∀ (i:Nat),p<=i->i < nb->∀ y:Keyed,b[i]? = some y->le x y=true):HH le a b (o ++ (b.extract p nb).reverse) (na + 1) p:=by
 unfold HH at h ⊢
 rw [take_take b.toList hp,mg_backB _ _ (fun z hz y hy=>?_)] at h
 ·rw [<-h]; simp [ext_list]
 ·obtain ⟨j,hj,q⟩:=mem_part hy
  obtain ⟨i,hi,r⟩:=mem_take hz
  have e1:=e (p + j) (by omega) (by omega) y (by rw [arr_list]; exact q)
  have e2:=M.sa i na z x (by omega) (by rw [arr_list]; exact r) hx
  exact M.tr _ _ _ e2 e1
theorem ext_one {α:Type} {a:Array α} {i:Nat} {x:α} (h:a[i]? = some x) (o:Array α):o ++ (a.extract i (i + 1)).reverse=o.push x:=by
 apply Array.toList_inj.mp
 rw [arr_list] at h
 simp only [Array.toList_append,Array.toList_reverse,ext_list,Nat.add_sub_cancel_left,drop_at h,Array.toList_push]
 rfl
theorem HH.pa (M:MH le S a b) (h:HH le a b o (na + 1) (nb + 1)) (hx:a[na]? = some x) (hy:b[nb]? = some y) (e:le x y=false):HH le a b (o.push x) na (nb + 1):=by
 have k0:∀ (i:Nat),na<=i->i < na + 1->∀ z,a[i]? = some z->le z y=false:=fun i h1 h2 z hz=>by
  obtain rfl:i=na:=by omega
  rw [hx] at hz
  cases hz
  exact e
 have:=h.ga M (p:=na) (by omega) hy k0
 rwa [ext_one hx] at this
theorem HH.pb (M:MH le S a b) (h:HH le a b o (na + 1) (nb + 1)) (hx:a[na]? = some x) (hy:b[nb]? = some y) (e:le x y=true):HH le a b (o.push y) (na + 1) nb:=by
 have k0:∀ (i:Nat),nb<=i->i < nb + 1->∀ z,b[i]? = some z->le x z=true:=fun i h1 h2 z hz=>by
  obtain rfl:i=nb:=by omega
  rw [hy] at hz
  cases hz
  exact e
 have:=h.gb M (p:=nb) (by omega) hx k0
 rwa [ext_one hy] at this
theorem ext0 {α:Type} (a:Array α) (n:Nat):(a.extract 0 n).toList=a.toList.take n:=by rw [ext_list]; simp
theorem HH.dh (h:HH le a b o 0 nb):(dh a b o 0 nb).toList=List.merge a.toList b.toList le:=by
 unfold HH at h
 unfold TS.dh
 rw [<-h]; simp only [Array.toList_append,ext0,Array.toList_reverse,List.take_zero,List.nil_append,List.nil_merge]
theorem HH.fh (M:MH le S a b) (h:HH le a b o na 1):(fh a b o na 1).toList=List.merge a.toList b.toList le:=by
 unfold HH at h
 unfold TS.fh
 rw [<-h,mg_all (fun y hy x hx=>?_)]
 ·simp only [Array.toList_append,ext0,Array.toList_reverse]
 ·obtain ⟨j,hj,q⟩:=mem_take hx
  obtain ⟨i,hi,r⟩:=mem_take hy
  obtain rfl:i=0:=by omega
  obtain ⟨x0,hx0⟩:=at_ M.a0
  have e1:=M.first x0 y hx0 (by rw [arr_list]; exact r)
  have e2:=M.sa 0 j x0 x (by omega) hx0 (by rw [arr_list]; exact q)
  cases e3:le x y with
  | false=>rfl
  | true=>rw [M.tr _ _ _ e2 e3] at e1; cases e1
end
section
variable {prog:Program} {w:World} {A:Around} {E:Value->Shared->Prop} {s:Shared} {le:Keyed->Keyed->Bool} {κ:SortKind} {S:Keyed->Prop} {a b:Array Keyed} {st0:SortSt}
noncomputable def Hd (le:Keyed->Keyed->Bool) (a b o:Array Keyed) (na nb:Nat):Prop:=HH le a b o na nb/\0 < na/\na<=a.size/\1 < nb/\nb<=b.size
noncomputable def HR (le:Keyed->Keyed->Bool) (a b:Array Keyed) (m:Nat):ForInStep HiG->Prop
 | .done (some r,_)=>r.toList=List.merge a.toList b.toList le
 | .done (none,na,nb,o,_)=>Hd le a b o na nb/\na + nb<=m
 | .yield (none,na,nb,o,_)=>Hd le a b o na nb/\na + nb<=m
 | .yield (some _,_)=>False
variable (M:MH le S a b)
include M
theorem wpS_H3 {mg ac bc:Nat} {o:Array Keyed} {na nb m:Nat} {st:SortSt} {x y:Keyed} {Q:ForInStep HiG->SortSt->Prop} (h:HH le a b o (na + 1) (nb + 1)) (ha:na + 1<=a.size) (hb0:0 < nb) (hb:nb + 1<=b.size) (hm:na + 1 + (nb + 1)<=m)
  (hx:a[na]? = some x) (hy:b[nb]? = some y) (e:le x y=false) (hQ:∀ r,HR le a b m r->Q r st):wpS (model prog w) A E s (hiJ3 a b mg ac bc (na + 1) (nb + 1) o) Q st:=by
 unfold hiJ3
 simp only [Nat.add_sub_cancel]
 refine wpS_bind (wpS_elem hx ?_)
 have h1:=h.pa M hx hy e
 by_cases e1:na=0
 ·subst e1
  rw [if_pos (by rfl)]
  exact wpS_pure (hQ _ h1.dh)
 ·rw [if_neg (by simpa using e1)]
  have g:Hd le a b (o.push x) na (nb + 1)/\na + (nb + 1)<=m:=⟨⟨h1,by omega,by omega,by omega,by omega⟩,by omega⟩
  split
  ·exact wpS_pure (hQ _ g)
  ·exact wpS_pure (hQ _ g)
theorem wpS_H2 (hL:LtOK prog w A E s le κ S) {mg ac bc:Nat} {o:Array Keyed} {na nb m:Nat} {st:SortSt} {x y:Keyed} {Q:ForInStep HiG->SortSt->Prop} (hk:kindOf st=κ) (h:HH le a b o (na + 1) (nb + 1)) (ha:na + 1<=a.size) (hb0:0 < nb) (hb:nb + 1<=b.size) (hm:na + 1 + (nb + 1)<=m)
  (hx:a[na]? = some x) (hy:b[nb]? = some y) (e:le x y=true) (hQ:∀ r,HR le a b m r->Q r st):wpS (model prog w) A E s (hiJ2 a b mg ac bc (nb + 1) (na + 1) o) Q st:=by
 unfold hiJ2
 simp only [Nat.add_sub_cancel]
 refine wpS_bind (wpS_elem hy ?_)
 have h1:=h.pb M hx hy e
 by_cases e1:nb=1
 ·subst e1
  rw [if_pos (by rfl)]
  exact wpS_pure (hQ _ (h1.fh M))
 ·rw [if_neg (by simpa using e1)]
  refine wpS_bind (wpS_elem hx (wpS_bind (wpS_galS hL M.tr hk (M.Sa _ _ hx) M.Sb (by omega) (fun i j u v _ hij _=>M.sb i j u v hij) (fun p hp g1 g2=>?_) (by omega))))
  simp only [Nat.zero_add] at g1 g2
  dsimp only
  have h2:=h1.gb M hp hx fun i q1 q2 z hz=>by have:=g2 i q1 q2 z hz; simpa [beyP] using this
  have h3:∀ (i:Nat) (z:Keyed),i < p->b[i]? = some z->le x z=false:=fun i z q hz=>by have:=g1 i q z hz; simpa [beyP] using this
  have hp0:0 < p:=by
   rcases Nat.eq_zero_or_pos p with q | q
   ·subst q
    obtain ⟨x0,hx0⟩:=at_ M.a0
    obtain ⟨y0,hy0⟩:=at_ M.b0
    have e2:=M.first x0 y0 hx0 hy0
    have e3:=g2 0 (Nat.le_refl _) (by omega) y0 hy0
    have e4:le x y0=true:=by simpa [beyP] using e3
    have e5:=M.tr _ _ _ (M.sa 0 na x0 x (by omega) hx0 hx) e4
    rw [e5] at e2; cases e2
   ·exact q
  obtain ⟨q,rfl⟩:∃ q,p=q + 1:=⟨p - 1,by omega⟩
  obtain ⟨z,hz⟩:=at_ (c:=b) (i:=q) (by omega)
  by_cases k0:nb - (q + 1) > 0
  ·rw [if_pos k0]
   by_cases e2:q + 1=1
   ·rw [if_pos (by simpa using e2)]
    obtain rfl:q=0:=by omega
    exact wpS_pure (hQ _ (h2.fh M))
   ·rw [if_neg (by simpa using e2),if_neg (by simp)]
    exact wpS_H3 M h2 ha (by omega) (by omega) (by omega) hx hz (h3 q z (by omega) hz) hQ
  ·rw [if_neg k0]
   obtain rfl:nb=q + 1:=by omega
   exact wpS_H3 M h1 ha (by omega) (by omega) (by omega) hx hz (h3 q z (by omega) hz) hQ
theorem wpS_H1 (hL:LtOK prog w A E s le κ S) {mg ac bc:Nat} {o:Array Keyed} {na nb m:Nat} {st:SortSt} {Q:ForInStep HiG->SortSt->Prop} (hs:Sm st0 st) (hk:kindOf st0=κ) (h:Hd le a b o na nb/\na + nb<=m)
  (hQ:∀ r st',Sm st0 st'->HR le a b m r->Q r st'):wpS (model prog w) A E s (hiJ1 a b ac bc na nb o mg) Q st:=by
 obtain ⟨⟨h,ha0,ha,hb0,hb⟩,hm⟩:=h
 obtain ⟨nb,rfl⟩:∃ q,nb=q + 1:=⟨nb - 1,by omega⟩
 unfold hiJ1
 rw [smg'_eq]
 obtain ⟨y,hy⟩:=at_ (c:=b) (i:=nb) (by omega)
 refine wpS_bind (wpS_modify (wpS_bind (wpS_elem hy ?_)))
 have hs1:=hs.mg mg
 generalize SortSt.mk' (kindOf st) (arrOf st) (pendingOf st) mg (failedOf st)=st1 at hs1 ⊢
 have hk1:kindOf st1=κ:=hs1.kind.trans hk
 refine wpS_bind (wpS_galS hL M.tr hk1 (M.Sb _ _ hy) M.Sa (by omega) (fun i j u v _ hij _=>M.sa i j u v hij) (fun p hp g1 g2=>?_) (by omega))
 simp only [Nat.zero_add] at g1 g2
 dsimp only
 have h2:=h.ga M hp hy fun i q1 q2 z hz=>by have:=g2 i q1 q2 z hz; simpa [beyP] using this
 have h3:∀ (i:Nat) (z:Keyed),i < p->a[i]? = some z->le z y=true:=fun i z q hz=>by have:=g1 i q z hz; simpa [beyP] using this
 by_cases k0:na - p > 0
 ·rw [if_pos k0]
  by_cases e2:p=0
  ·subst e2
   rw [if_pos (by rfl)]
   exact wpS_pure (hQ _ _ hs1 h2.dh)
  ·rw [if_neg (by simpa using e2)]
   obtain ⟨q,rfl⟩:∃ q,p=q + 1:=⟨p - 1,by omega⟩
   obtain ⟨z,hz⟩:=at_ (c:=a) (i:=q) (by omega)
   exact wpS_H2 M hL hk1 h2 (by omega) (by omega) hb (by omega) hz hy (h3 q z (by omega) hz) fun r g=>hQ r _ hs1 g
 ·rw [if_neg k0]
  obtain rfl:na=p:=by omega
  obtain ⟨q,rfl⟩:∃ q,na=q + 1:=⟨na - 1,by omega⟩
  obtain ⟨z,hz⟩:=at_ (c:=a) (i:=q) (by omega)
  exact wpS_H2 M hL hk1 h (by omega) (by omega) hb (by omega) hz hy (h3 q z (by omega) hz) fun r g=>hQ r _ hs1 g
theorem wpS_hiG (hL:LtOK prog w A E s le κ S) {mg ac bc:Nat} {o:Array Keyed} {na nb m:Nat} {st:SortSt} {Q:ForInStep HiG->SortSt->Prop} (hs:Sm st0 st) (hk:kindOf st0=κ) (h:Hd le a b o na nb/\na + nb<=m)
  (hQ:∀ r st',Sm st0 st'->HR le a b m r->Q r st'):wpS (model prog w) A E s (hiG a b (none,na,nb,o,mg,ac,bc)) Q st:=by
 unfold hiG
 dsimp only
 split
 ·exact wpS_H1 M hL hs hk h hQ
 ·exact wpS_H1 M hL hs hk h hQ
noncomputable def HFR (le:Keyed->Keyed->Bool) (a b:Array Keyed) (m:Nat):HiF->Prop
 | (some r,_)=>r.toList=List.merge a.toList b.toList le
 | (none,na,nb,o,_)=>Hd le a b o na nb/\na + nb<=m
theorem wpS_hiF (hL:LtOK prog w A E s le κ S) {mg ac bc:Nat} {o:Array Keyed} {na nb m:Nat} {st:SortSt} {Q:ForInStep HiF->SortSt->Prop} (hk:kindOf st=κ) (h:Hd le a b o na nb) (hm:na + nb<=m + 1)
  (hd:∀ c,HFR le a b m c->Q (.done c) st) (hy:∀ o' na' nb' ac' bc',Hd le a b o' na' nb'->na' + nb'<=m->Q (.yield (none,na',nb',o',ac',bc')) st):wpS (model prog w) A E s (hiF a b mg (none,na,nb,o,ac,bc)) Q st:=by
 unfold hiF
 obtain ⟨h,ha0,ha,hb0,hb⟩:=h
 obtain ⟨nb,rfl⟩:∃ q,nb=q + 1:=⟨nb - 1,by omega⟩
 obtain ⟨na,rfl⟩:∃ q,na=q + 1:=⟨na - 1,by omega⟩
 simp only [Nat.add_sub_cancel]
 obtain ⟨y,ey⟩:=at_ (c:=b) (i:=nb) (by omega)
 obtain ⟨x,ex⟩:=at_ (c:=a) (i:=na) (by omega)
 refine wpS_bind (wpS_elem ey (wpS_bind (wpS_elem ex (wpS_bind (hL y x (M.Sb _ _ ey) (M.Sa _ _ ex) _ st hk ?_)))))
 dsimp only
 cases e:le x y with
 | false=>
  simp only [Bool.not_false,if_true]
  have h1:=h.pa M ex ey e
  refine wpS_bind (wpS_elem ex ?_)
  by_cases e1:na=0
  ·subst e1
   rw [if_pos (by rfl)]
   exact wpS_pure (hd _ h1.dh)
  ·rw [if_neg (by simpa using e1)]
   split
   ·exact wpS_pure (hd _ ⟨⟨h1,by omega,by omega,by omega,by omega⟩,by omega⟩)
   ·exact wpS_pure (hy _ _ _ _ _ ⟨h1,by omega,by omega,by omega,by omega⟩ (by omega))
 | true=>
  simp only [Bool.not_true,Bool.false_eq_true,if_false]
  have h1:=h.pb M ex ey e
  refine wpS_bind (wpS_elem ey ?_)
  by_cases e1:nb=1
  ·subst e1
   rw [if_pos (by rfl)]
   exact wpS_pure (hd _ (h1.fh M))
  ·rw [if_neg (by simpa using e1)]
   split
   ·exact wpS_pure (hd _ ⟨⟨h1,by omega,by omega,by omega,by omega⟩,by omega⟩)
   ·exact wpS_pure (hy _ _ _ _ _ ⟨h1,by omega,by omega,by omega,by omega⟩ (by omega))
theorem wpS_hiO (hL:LtOK prog w A E s le κ S) {mg:Nat} {o:Array Keyed} {na nb m:Nat} {st:SortSt} {Q:ForInStep HiO->SortSt->Prop} (hs:Sm st0 st) (hk:kindOf st0=κ) (h:Hd le a b o na nb) (hm:na + nb<=m)
  (hd:∀ r c st',Sm st0 st'->r.toList=List.merge a.toList b.toList le->Q (.done (some r,c)) st') (hy:∀ o' na' nb' mg' st',Sm st0 st'->Hd le a b o' na' nb'->na' + nb' + 1<=m->Q (.yield (none,na',nb',o',mg')) st') :
  wpS (model prog w) A E s (hiO a b (none,na,nb,o,mg)) Q st:=by
 unfold hiO
 dsimp only
 have hk1:kindOf st=κ:=hs.kind.trans hk
 have b0:=M.b0
 have hm0:1<=m:=by have:=h.2.1; omega
 refine wpS_bind (wpS_mono (wpS_forRange (I:=fun x c st'=>st' = st/\∃ o na nb ac bc,c=(none,na,nb,o,ac,bc)/\Hd le a b o na nb/\na + nb + x<=m)
  (Q:=fun c st'=>st' = st/\HFR le a b (m - 1) c) ?_ ?_ ⟨rfl,o,na,nb,0,0,rfl,h,by omega⟩) ?_)
 ·rintro x c st' _ hx ⟨rfl,o,na,nb,ac,bc,rfl,g,q⟩
  have g0:=g.2
  refine wpS_hiF M hL (m:=m - x - 1) hk1 g (by omega) (fun c hc=>⟨rfl,?_⟩) (fun o' ia' ib' ac' bc' g' q'=>⟨rfl,o',ia',ib',ac',bc',rfl,g',by have:=g'.2; omega⟩)
  obtain ⟨_ | r,c⟩:=c
  ·exact ⟨hc.1,by have:=hc.2; omega⟩
  ·exact hc
 ·rintro c st' ⟨rfl,o,na,nb,ac,bc,rfl,g,q⟩
  exact ⟨rfl,g,by omega⟩
 ·rintro ⟨_ | r,c⟩ st' ⟨rfl,hc⟩
  ·obtain ⟨na,nb,o,ac,bc⟩:=c
   dsimp only
   refine wpS_bind (wpS_lift (wpAny_rule ⟨rfl,?_⟩))
   refine wpS_bind (wpS_mono (wpS_forRange (I:=fun _ c st'=>Sm st0 st'/\∃ o na nb mg ac bc,c=(none,na,nb,o,mg,ac,bc)/\Hd le a b o na nb/\na + nb<=m - 1)
    (Q:=fun c st'=>Sm st0 st'/\HR le a b (m - 1) (.done c)) ?_ ?_ ⟨hs,o,na,nb,_,ac,bc,rfl,hc⟩) ?_)
   ·rintro x c st' _ hx ⟨hs',o,na,nb,mg,ac,bc,rfl,g⟩
    refine wpS_hiG M hL hs' hk g fun r st'' hs'' gr=>?_
    match r,gr with
    | .done c,gr=>exact ⟨hs'',gr⟩
    | .yield (none,na,nb,o,mg,ac,bc),gr=>exact ⟨hs'',o,na,nb,mg,ac,bc,rfl,gr⟩
    | .yield (some _,_),gr=>exact gr.elim
   ·rintro c st' ⟨hs',o,na,nb,mg,ac,bc,rfl,g⟩
    exact ⟨hs',g⟩
   ·rintro ⟨_ | r,c⟩ st' ⟨hs',hc⟩
    ·obtain ⟨na,nb,o,mg,ac,bc⟩:=c
     dsimp only
     rw [smg'_eq]
     exact wpS_bind (wpS_modify (wpS_pure (hy _ _ _ _ _ (hs'.mg _) hc.1 (by have:=hc.2; omega))))
    ·exact wpS_pure (hd _ _ _ hs' hc)
  ·exact wpS_pure (hd _ _ _ hs hc)
theorem wpS_mhi (hL:LtOK prog w A E s le κ S) {Q:Array Keyed->SortSt->Prop} (hk:kindOf st0=κ) (h:∀ r st',Sm st0 st'->r.toList=List.merge a.toList b.toList le->Q r st'):wpS (model prog w) A E s (mhi' a b) Q st0:=by
 rw [mhi'_eq]
 refine wpS_bind (wpS_lift (wpAny_rule ⟨rfl,?_⟩))
 have b0:=M.b0
 have a0:=M.a0
 obtain ⟨na,ena⟩:∃ na,a.size=na + 1:=⟨a.size - 1,by omega⟩
 obtain ⟨nb,enb⟩:∃ nb,b.size=nb + 1:=⟨b.size - 1,by omega⟩
 obtain ⟨x,hx⟩:=at_ (c:=a) (i:=na) (by omega)
 obtain ⟨y,hy⟩:=at_ (c:=b) (i:=nb) (by omega)
 rw [ena,enb]
 simp only [Nat.add_sub_cancel]
 refine wpS_bind (wpS_elem hx ?_)
 have j0:HH le a b #[] (na + 1) (nb + 1):=by
  unfold HH
  rw [List.take_of_length_le (by simp; omega),List.take_of_length_le (by simp; omega)]
  simp
 have j1:HH le a b #[x] na (nb + 1):=j0.pa M hx hy (M.last na x y (by omega) hx (by rw [arr_list] at hy; exact List.mem_of_getElem? hy))
 by_cases e1:na=0
 ·subst e1
  rw [if_pos (by rfl)]
  exact wpS_pure (h _ _ .refl j1.dh)
 ·rw [if_neg (by simpa using e1)]
  by_cases e2:nb=0
  ·subst e2
   rw [if_pos (by rfl)]
   exact wpS_pure (h _ _ .refl (j1.fh M))
  ·rw [if_neg (by simpa using e2)]
   refine wpS_bind (wpS_get ?_)
   refine wpS_bind (wpS_mono (wpS_forRange (I:=fun x c st'=>Sm st0 st'/\∃ o ia ib mg,c=(none,ia,ib,o,mg)/\Hd le a b o ia ib/\ia + ib + x + 1<=a.size + b.size)
    (Q:=fun c st'=>Sm st0 st'/\∃ r c',c=(some r,c')/\r.toList=List.merge a.toList b.toList le) ?_ ?_ ⟨.refl,#[x],na,nb + 1,_,rfl,⟨j1,by omega,by omega,by omega,by omega⟩,by omega⟩) ?_)
   ·rintro x c st' _ hx ⟨hs',o,ia,ib,mg,rfl,g,q⟩
    refine wpS_hiO M hL (m:=a.size + b.size - x - 1) hs' hk g (by omega) (fun r c st'' hs'' e=>⟨hs'',r,c,rfl,e⟩) fun o' ia' ib' mg' st'' hs'' g' q'=>⟨hs'',o',ia',ib',mg',rfl,g',by omega⟩
   ·rintro c st' ⟨hs',o,ia,ib,mg,rfl,g,q⟩
    have:=g.2
    omega
   ·rintro c st' ⟨hs',r,c,rfl,e⟩
    exact wpS_pure (h _ _ hs' e)
end
end L2.TS
namespace L2.TS
open PySem PyProof.Rows
noncomputable abbrev CA:=Option (Option Nat) × Nat
noncomputable abbrev CD:=Option (Option Nat) × Nat × Nat
noncomputable def cAsc (lo a nr:Nat):StateT SortSt Sem CA:=forIn [a:nr] ((none,a):CA) fun _ c=>do
 let q <-ltAt' (lo + c.2) (lo + c.2 - 1)
 match q with
 | some sm=>if sm=true then pure (.done (none,c.2)) else pure (.yield (none,c.2 + 1))
 | _=>pure (.done (some none,c.2))
noncomputable def cTail (lo n nr:Nat):StateT SortSt Sem (Option Nat):=do
 reverseSlice' lo (lo + n)
 let c <-cAsc lo n nr
 match c.1 with
 | some r=>pure r
 | none=>pure (some c.2)
noncomputable def cDesc (lo n nr:Nat):StateT SortSt Sem CD:=forIn [n:nr] ((none,n,0):CD) fun _ c=>do
 let q <-ltAt' (lo + c.2.1) (lo + c.2.1 - 1)
 match q with
 | some sm=>
  if sm=true then
   if c.2.2 > 0 then do
    reverseSlice' (lo + c.2.1 - (c.2.2 + 1)) (lo + c.2.1)
    pure (.yield (none,c.2.1 + 1,0))
   else pure (.yield (none,c.2.1 + 1,0))
  else do
   let q <-ltAt' (lo + c.2.1 - 1) (lo + c.2.1)
   match q with
   | some lg=>if lg=true then pure (.done (none,c.2.1,c.2.2)) else pure (.yield (none,c.2.1 + 1,c.2.2 + 1))
   | _=>pure (.done (some none,c.2.1,c.2.2))
 | _=>pure (.done (some none,c.2.1,c.2.2))
noncomputable def cDP (lo n nr:Nat):StateT SortSt Sem (Option Nat):=do
 liftM (rule "list.sort.descending-run")
 let c <-cDesc lo (n + 1) nr
 match c.1 with
 | some r=>pure r
 | none=>
  if c.2.2 > 0 then do
   reverseSlice' (lo + c.2.1 - (c.2.2 + 1)) (lo + c.2.1)
   cTail lo c.2.1 nr
  else cTail lo c.2.1 nr
theorem cRun_eq (lo nr:Nat):countRun' lo nr=(do
  let c <-cAsc lo 1 nr
  match c.1 with
  | some r=>pure r
  | none=>
   if (c.2 == nr)=true then pure (some c.2)
   else if c.2 > 1 then do
    let q <-ltAt' lo (lo + c.2 - 1)
    match q with
    | some ro=>if ro=true then pure (some c.2) else do
      reverseSlice' lo (lo + c.2)
      cDP lo c.2 nr
    | _=>pure none
   else cDP lo c.2 nr):=by
 rw [countRun'_eq]
 have hT:∀ n:Nat,cTail lo n nr=(do
   reverseSlice' lo (lo + n)
   let c <-cAsc lo n nr
   match c.1 with
   | some r=>pure r
   | none=>pure (some c.2)):=fun _=>rfl
 refine bind_congr fun c=>?_
 obtain ⟨_ | r,n⟩:=c
 ·dsimp only
  refine iteC rfl (iteC (bind_congr fun q=>?_) ?_)
  ·cases q with
   | none=>rfl
   | some ro=>
    refine iteC rfl (bind_congr fun _=>?_)
    unfold cDP
    refine bind_congr fun _=>bind_congr fun d=>?_
    obtain ⟨_ | r,m,nq⟩:=d
    ·dsimp only
     unfold cTail
     refine iteC (bind_congr fun _=>bind_congr fun _=>bind_congr fun e=>?_) (bind_congr fun _=>bind_congr fun e=>?_) <;> (obtain ⟨_ | r,e⟩:=e <;> rfl)
    ·rfl
  ·unfold cDP
   refine bind_congr fun _=>bind_congr fun d=>?_
   obtain ⟨_ | r,m,nq⟩:=d
   ·dsimp only
    unfold cTail
    refine iteC (bind_congr fun _=>bind_congr fun _=>bind_congr fun e=>?_) (bind_congr fun _=>bind_congr fun e=>?_) <;> (obtain ⟨_ | r,e⟩:=e <;> rfl)
   ·rfl
 ·rfl
structure Bs (κ:SortKind) (S:Keyed->Prop) (lo:Nat) (st0 st:SortSt):Prop where
 perm:(arrOf st).Perm (arrOf st0)
 kind:kindOf st=κ
 failed:failedOf st=none
 pend:pendingOf st=pendingOf st0
 keep:∀ k,k < lo->(arrOf st)[k]? = (arrOf st0)[k]?
 mem:∀ x ∈ (arrOf st0).toList,S x
section
variable {prog:Program} {w:World} {A:Around} {E:Value->Shared->Prop} {s:Shared} {le:Keyed->Keyed->Bool} {κ:SortKind} {S:Keyed->Prop} {lo:Nat} {st0 st:SortSt}
theorem Bs.size (h:Bs κ S lo st0 st):(arrOf st).size=(arrOf st0).size:=h.perm.size_eq
theorem Bs.at (h:Bs κ S lo st0 st) {i:Nat} (hi:i < (arrOf st0).size):∃ x,(arrOf st)[i]? = some x/\S x:=by
 obtain ⟨x,hx⟩:=at_ (c:=arrOf st) (i:=i) (by rw [h.size]; exact hi)
 refine ⟨x,hx,h.mem x ((Array.perm_iff_toList_perm.mp h.perm).mem_iff.mp ?_)⟩
 rw [arr_list] at hx
 exact List.mem_of_getElem? hx
theorem Bs.setArr (h:Bs κ S lo st0 st) {xs:Array Keyed} (hp:xs.Perm (arrOf st)) (hk:∀ k,k < lo->xs[k]? = (arrOf st)[k]?):Bs κ S lo st0 (setArr st xs):=
 ⟨hp.trans h.perm,h.kind,h.failed,h.pend,fun k q=>(hk k q).trans (h.keep k q),h.mem⟩
theorem wpS_ltI (hL:LtOK prog w A E s le κ S) (hB:Bs κ S lo st0 st) {i j:Nat} {Q:Option Bool->SortSt->Prop} (hi:i < (arrOf st0).size) (hj:j < (arrOf st0).size)
  (h:∀ x y,(arrOf st)[i]? = some x->(arrOf st)[j]? = some y->Q (some (!le y x)) st):wpS (model prog w) A E s (ltAt' i j) Q st:=by
 obtain ⟨x,hx,sx⟩:=hB.at hi
 obtain ⟨y,hy,sy⟩:=hB.at hj
 rw [ltAt'_eq]
 refine wpS_bind (wpS_get ?_)
 exact wpS_bind (wpS_elem hx (wpS_bind (wpS_elem hy (hL x y sx sy Q st hB.kind (h x y hx hy)))))
theorem wpS_rev {i j:Nat} {Q:Unit->SortSt->Prop} (h:Q () (setArr st (mirror (arrOf st) i j ((j - i) / 2)))):wpS (model prog w) A E s (reverseSlice' i j) Q st:=by
 rw [reverseSlice'_eq]; exact wpS_modify h
noncomputable def Asc (le:Keyed->Keyed->Bool) (xs:Array Keyed) (lo n:Nat):Prop:=∀ (i j:Nat) (x y:Keyed),i<=j->j < n->xs[lo + i]? = some x->xs[lo + j]? = some y->le x y=true
noncomputable def Dsc (le:Keyed->Keyed->Bool) (xs:Array Keyed) (lo n:Nat):Prop:=∀ (i j:Nat) (x y:Keyed),i<=j->j < n->xs[lo + i]? = some x->xs[lo + j]? = some y->le y x=true
theorem mirror_keep {xs:Array Keyed} {i j k:Nat} (hj:j<=xs.size) (hk:k < i):(mirror xs i j ((j - i) / 2))[k]? = xs[k]?:=by rw [getElem?_mirror_all hj,if_neg (by omega)]
theorem more {R:Keyed->Keyed->Prop} (tr:∀ x y z,R x y->R y z->R x z) (rf:∀ x,R x x) {xs:Array Keyed} {lo n:Nat} (hn:0 < n)
  (h:∀ (i j:Nat) (x y:Keyed),i<=j->j < n->xs[lo + i]? = some x->xs[lo + j]? = some y->R x y) (h1:∀ x y,xs[lo + (n - 1)]? = some x->xs[lo + n]? = some y->R x y) :
  ∀ (i j:Nat) (x y:Keyed),i<=j->j < n + 1->xs[lo + i]? = some x->xs[lo + j]? = some y->R x y:=fun i j x y hij hj hx hy=>by
 by_cases hjn:j < n
 ·exact h i j x y hij hjn hx hy
 ·obtain rfl:j=n:=by omega
  by_cases hi:i=j
  ·subst hi; rw [hx] at hy; cases hy; exact rf x
  ·have hlt:lo + j < xs.size:=by
    rcases Nat.lt_or_ge (lo + j) xs.size with q | q
    ·exact q
    ·rw [Array.getElem?_eq_none q] at hy; cases hy
   obtain ⟨z,hz⟩:=at_ (c:=xs) (i:=lo + (j - 1)) (by omega)
   exact tr _ _ _ (h i (j - 1) x z (by omega) (by omega) hx hz) (h1 z y hz hy)
variable (hL:LtOK prog w A E s le κ S) (tr:∀ x y z,le x y=true->le y z=true->le x z=true) (tt:∀ x y,(le x y || le y x)=true)
include tt in
theorem le_rf (x:Keyed):le x x=true:=by simpa using tt x x
include tt in
theorem le_of_not {x y:Keyed} (h:le x y=false):le y x=true:=by have:=tt x y; rw [h] at this; simpa using this
include hL tr tt
theorem wpS_cAsc {a nr:Nat} {Q:CA->SortSt->Prop} (hn:lo + nr<=(arrOf st0).size) (ha:1<=a) (han:a<=nr) (hB:Bs κ S lo st0 st) (hs:Asc le (arrOf st) lo a)
  (h:∀ n,a<=n->n<=nr->Asc le (arrOf st) lo n->(n=nr\/∀ x y,(arrOf st)[lo + (n - 1)]? = some x->(arrOf st)[lo + n]? = some y->le x y=false)->Q (none,n) st) :
  wpS (model prog w) A E s (cAsc lo a nr) Q st:=by
 unfold cAsc
 refine wpS_forRange (I:=fun x c st'=>st' = st/\c=(none,x)/\Asc le (arrOf st) lo x) ?_ ?_ ⟨rfl,rfl,hs⟩
 ·rintro x c st' hax hxn ⟨rfl,rfl,hs'⟩
  dsimp only
  refine wpS_bind (wpS_ltI hL hB (by omega) (by omega) fun u v hu hv=>?_)
  rw [show lo + x - 1=lo + (x - 1) by omega] at hv
  cases e:le v u with
  | false=>
   simp only [Bool.not_false,if_true]
   exact wpS_pure (h x hax (by omega) hs' (.inr fun p q hp hq=>by rw [hp] at hv; rw [hq] at hu; cases hv; cases hu; exact e))
  | true=>
   simp only [Bool.not_true,Bool.false_eq_true,if_false]
   exact wpS_pure ⟨rfl,rfl,more tr (le_rf tt) (by omega) hs' fun p q hp hq=>by rw [hp] at hv; rw [hq] at hu; cases hv; cases hu; exact e⟩
 ·rintro c st' ⟨rfl,rfl,hs'⟩
  rw [show max a nr=nr by omega] at hs' ⊢
  exact h nr han (Nat.le_refl _) hs' (.inl rfl)
theorem wpS_cTail {n nr:Nat} {Q:Option Nat->SortSt->Prop} (hn:lo + nr<=(arrOf st0).size) (h1:1<=n) (hnn:n<=nr) (hB:Bs κ S lo st0 st) (hs:Dsc le (arrOf st) lo n)
  (h:∀ m st',Bs κ S lo st0 st'->1<=m->m<=nr->Asc le (arrOf st') lo m->Q (some m) st'):wpS (model prog w) A E s (cTail lo n nr) Q st:=by
 unfold cTail
 have hsz:lo + n<=(arrOf st).size:=by rw [hB.size]; omega
 refine wpS_bind (wpS_rev ?_)
 have hB':=hB.setArr (mirror_perm (arrOf st) lo (lo + n) ((lo + n - lo) / 2)) fun k hk=>mirror_keep hsz hk
 refine wpS_bind (wpS_cAsc hL tr tt hn h1 hnn hB' (fun i j x y hij hj hx hy=>?_) fun m hm1 hm2 hsm _=>wpS_pure (h m _ hB' (by omega) hm2 hsm))
 have hx':(mirror (arrOf st) lo (lo + n) ((lo + n - lo) / 2))[lo + i]? = some x:=hx
 have hy':(mirror (arrOf st) lo (lo + n) ((lo + n - lo) / 2))[lo + j]? = some y:=hy
 rw [getElem?_mirror_all hsz,if_pos (by omega)] at hx' hy'
 rw [show lo + (lo + n) - 1 - (lo + i)=lo + (n - 1 - i) by omega] at hx'
 rw [show lo + (lo + n) - 1 - (lo + j)=lo + (n - 1 - j) by omega] at hy'
 exact hs (n - 1 - j) (n - 1 - i) y x (by omega) (by omega) hy' hx'
noncomputable def Eqs (le:Keyed->Keyed->Bool) (xs:Array Keyed) (lo m q:Nat):Prop:=∀ (i j:Nat) (x y:Keyed),m - (q + 1)<=i->i < m->m - (q + 1)<=j->j < m->xs[lo + i]? = some x->xs[lo + j]? = some y->le x y=true
omit hL tr tt in
theorem Dsc.mir {xs:Array Keyed} {m q:Nat} (hq:q + 1<=m) (hsz:lo + m<=xs.size) (hs:Dsc le xs lo m) (he:Eqs le xs lo m q):Dsc le (mirror xs (lo + m - (q + 1)) (lo + m) ((lo + m - (lo + m - (q + 1))) / 2)) lo m:=fun i j x y hij hj hx hy=>by
 rw [getElem?_mirror_all hsz] at hx hy
 by_cases hi:m - (q + 1)<=i
 ·rw [if_pos (by omega)] at hx
  rw [if_pos (by omega)] at hy
  rw [show lo + m - (q + 1) + (lo + m) - 1 - (lo + i)=lo + (m - (q + 1) + m - 1 - i) by omega] at hx
  rw [show lo + m - (q + 1) + (lo + m) - 1 - (lo + j)=lo + (m - (q + 1) + m - 1 - j) by omega] at hy
  exact he _ _ y x (by omega) (by omega) (by omega) (by omega) hy hx
 ·rw [if_neg (by omega)] at hx
  by_cases hj2:m - (q + 1)<=j
  ·rw [if_pos (by omega)] at hy
   rw [show lo + m - (q + 1) + (lo + m) - 1 - (lo + j)=lo + (m - (q + 1) + m - 1 - j) by omega] at hy
   exact hs i _ x y (by omega) (by omega) hx hy
  ·rw [if_neg (by omega)] at hy
   exact hs i j x y hij hj hx hy
theorem wpS_cDesc {n nr:Nat} {Q:CD->SortSt->Prop} (hn:lo + nr<=(arrOf st0).size) (h1:1<=n) (hnn:n<=nr) (hB:Bs κ S lo st0 st) (hs:Dsc le (arrOf st) lo n)
  (h:∀ m q st',Bs κ S lo st0 st'->n<=m->m<=nr->Dsc le (arrOf st') lo m->q + 1<=m->Eqs le (arrOf st') lo m q->Q (none,m,q) st'):wpS (model prog w) A E s (cDesc lo n nr) Q st:=by
 unfold cDesc
 have one:∀ (xs:Array Keyed) (m:Nat),Eqs le xs lo m 0:=fun xs m i j x y a1 a2 a3 a4 hx hy=>by
  obtain rfl:i=j:=by omega
  rw [hx] at hy; cases hy; exact le_rf tt x
 refine wpS_forRange (I:=fun x c st'=>∃ q,c=(none,x,q)/\Bs κ S lo st0 st'/\Dsc le (arrOf st') lo x/\q + 1<=x/\Eqs le (arrOf st') lo x q) ?_ ?_ ⟨0,rfl,hB,hs,by omega,one _ _⟩
 ·rintro x c st' hax hxn ⟨q,rfl,hB',hs',hq,he⟩
  dsimp only
  have hsz:lo + x<=(arrOf st').size:=by rw [hB'.size]; omega
  refine wpS_bind (wpS_ltI hL hB' (by omega) (by omega) fun u v hu hv=>?_)
  rw [show lo + x - 1=lo + (x - 1) by omega] at hv
  cases e:le v u with
  | false=>
   simp only [Bool.not_false,if_true]
   have hx1:∀ xs:Array Keyed,Dsc le xs lo x->(∀ y,xs[lo + (x - 1)]? = some y->le u y=true)->xs[lo + x]? = some u->Dsc le xs lo (x + 1):=fun xs hd h1 h2=>
    more (R:=fun a b=>le b a=true) (fun a b c h1 h2=>tr _ _ _ h2 h1) (le_rf tt) (by omega) hd fun p r hp hr=>by rw [h2] at hr; cases hr; exact h1 p hp
   have hvu:le u v=true:=le_of_not tt e
   by_cases hq0:q > 0
   ·rw [if_pos hq0]
    refine wpS_bind (wpS_rev (wpS_pure ⟨0,rfl,hB'.setArr (mirror_perm _ _ _ _) fun k hk=>mirror_keep (by omega) (by omega),?_,by omega,one _ _⟩))
    refine hx1 _ (hs'.mir hq hsz he) (fun y hy=>?_) ?_
    ·have hy':(mirror (arrOf st') (lo + x - (q + 1)) (lo + x) ((lo + x - (lo + x - (q + 1))) / 2))[lo + (x - 1)]? = some y:=hy
     rw [getElem?_mirror_all hsz,if_pos (by omega),show lo + x - (q + 1) + (lo + x) - 1 - (lo + (x - 1))=lo + (x - (q + 1)) by omega] at hy'
     exact tr _ _ _ hvu (he (x - 1) (x - (q + 1)) v y (by omega) (by omega) (by omega) (by omega) hv hy')
    ·show (mirror (arrOf st') (lo + x - (q + 1)) (lo + x) ((lo + x - (lo + x - (q + 1))) / 2))[lo + x]? = some u
     rw [getElem?_mirror_all hsz,if_neg (by omega)]; exact hu
   ·rw [if_neg hq0]
    exact wpS_pure ⟨0,rfl,hB',hx1 _ hs' (fun y hy=>by rw [hv] at hy; cases hy; exact hvu) hu,by omega,one _ _⟩
  | true=>
   simp only [Bool.not_true,Bool.false_eq_true,if_false]
   refine wpS_bind (wpS_ltI hL hB' (by omega) (by omega) fun v' u' hv' hu'=>?_)
   rw [show lo + x - 1=lo + (x - 1) by omega] at hv'
   rw [hv] at hv'; cases hv'
   rw [hu] at hu'; cases hu'
   cases e2:le u v with
   | false=>
    simp only [Bool.not_false,if_true]
    exact wpS_pure (h x q st' hB' hax (by omega) hs' hq he)
   | true=>
    simp only [Bool.not_true,Bool.false_eq_true,if_false]
    refine wpS_pure ⟨q + 1,rfl,hB',more (R:=fun a b=>le b a=true) (fun a b c h1 h2=>tr _ _ _ h2 h1) (le_rf tt) (by omega) hs' (fun p r hp hr=>by rw [hv] at hp; rw [hu] at hr; cases hp; cases hr; exact e2),by omega,fun i j p r a1 a2 a3 a4 hp hr=>?_⟩
    have hl:∀ (i:Nat) (p:Keyed),x + 1 - (q + 1 + 1)<=i->i < x + 1->(arrOf st')[lo + i]? = some p->le p v=true/\le v p=true:=fun i p b1 b2 hp=>by
     by_cases hi:i=x
     ·subst hi; rw [hu] at hp; cases hp; exact ⟨e2,e⟩
     ·exact ⟨he i (x - 1) p v (by omega) (by omega) (by omega) (by omega) hp hv,he (x - 1) i v p (by omega) (by omega) (by omega) (by omega) hv hp⟩
    exact tr _ _ _ (hl i p a1 a2 hp).1 (hl j r a3 a4 hr).2
 ·rintro c st' ⟨q,rfl,hB',hs',hq,he⟩
  rw [show max n nr=nr by omega] at hs' hq he ⊢
  exact h nr q st' hB' hnn (Nat.le_refl _) hs' hq he
theorem wpS_cDP {n nr:Nat} {Q:Option Nat->SortSt->Prop} (hn:lo + nr<=(arrOf st0).size) (hnn:n + 1<=nr) (hB:Bs κ S lo st0 st) (hs:Dsc le (arrOf st) lo (n + 1))
  (h:∀ m st',Bs κ S lo st0 st'->1<=m->m<=nr->Asc le (arrOf st') lo m->Q (some m) st'):wpS (model prog w) A E s (cDP lo n nr) Q st:=by
 unfold cDP
 refine wpS_bind (wpS_lift (wpAny_rule ⟨rfl,?_⟩))
 refine wpS_bind (wpS_cDesc hL tr tt hn (by omega) hnn hB hs fun m q st' hB' hm1 hm2 hs' hq he=>?_)
 dsimp only
 have hsz:lo + m<=(arrOf st').size:=by rw [hB'.size]; omega
 by_cases hq0:q > 0
 ·rw [if_pos hq0]
  exact wpS_bind (wpS_rev (wpS_cTail hL tr tt hn (by omega) hm2 (hB'.setArr (mirror_perm _ _ _ _) fun k hk=>mirror_keep hsz (by omega)) (hs'.mir hq hsz he) h))
 ·rw [if_neg hq0]
  exact wpS_cTail hL tr tt hn (by omega) hm2 hB' hs' h
theorem wpS_cRun {nr:Nat} {Q:Option Nat->SortSt->Prop} (hn:lo + nr<=(arrOf st0).size) (h1:1<=nr) (hB:Bs κ S lo st0 st)
  (h:∀ m st',Bs κ S lo st0 st'->1<=m->m<=nr->Asc le (arrOf st') lo m->Q (some m) st'):wpS (model prog w) A E s (countRun' lo nr) Q st:=by
 rw [cRun_eq]
 refine wpS_bind (wpS_cAsc hL tr tt hn (Nat.le_refl 1) h1 hB (fun i j x y hij hj hx hy=>by
  obtain rfl:i=j:=by omega
  rw [hx] at hy; cases hy; exact le_rf tt x) fun n hn1 hn2 hsn hor=>?_)
 dsimp only
 by_cases hnn:n=nr
 ·rw [if_pos (by simpa using hnn)]
  exact wpS_pure (h n st hB hn1 hn2 hsn)
 ·rw [if_neg (by simpa using hnn)]
  have hlt:=hor.resolve_left hnn
  by_cases hgt:n > 1
  ·rw [if_pos hgt]
   refine wpS_bind (wpS_ltI hL hB (by omega) (by omega) fun u v hu hv=>?_)
   rw [show lo + n - 1=lo + (n - 1) by omega] at hv
   cases e:le v u with
   | false=>
    simp only [Bool.not_false,if_true]
    exact wpS_pure (h n st hB hn1 hn2 hsn)
   | true=>
    simp only [Bool.not_true,Bool.false_eq_true,if_false]
    have hsz:lo + n<=(arrOf st).size:=by rw [hB.size]; omega
    have hall:∀ (i j:Nat) (x y:Keyed),i < n->j < n->(arrOf st)[lo + i]? = some x->(arrOf st)[lo + j]? = some y->le x y=true:=fun i j x y hi hj hx hy=>
     tr _ _ _ (hsn i (n - 1) x v (by omega) (by omega) hx hv) (tr _ _ _ e (hsn 0 j u y (by omega) hj (by simpa using hu) hy))
    refine wpS_bind (wpS_rev (wpS_cDP hL tr tt hn (by omega) (hB.setArr (mirror_perm _ _ _ _) fun k hk=>mirror_keep hsz hk) ?_ h))
    have hin:∀ (i:Nat) (x:Keyed),i < n->(mirror (arrOf st) lo (lo + n) ((lo + n - lo) / 2))[lo + i]? = some x->∃ j,j < n/\(arrOf st)[lo + j]? = some x:=fun i x hi hx=>by
     rw [getElem?_mirror_all hsz,if_pos (by omega),show lo + (lo + n) - 1 - (lo + i)=lo + (n - 1 - i) by omega] at hx
     exact ⟨_,by omega,hx⟩
    refine more (R:=fun a b=>le b a=true) (fun a b c h1 h2=>tr _ _ _ h2 h1) (le_rf tt) (by omega) (fun i j x y hij hj hx hy=>?_) fun x y hx hy=>?_
    ·obtain ⟨i',hi',q1⟩:=hin i x (by omega) hx
     obtain ⟨j',hj',q2⟩:=hin j y hj hy
     exact hall j' i' y x hj' hi' q2 q1
    ·obtain ⟨i',hi',q1⟩:=hin (n - 1) x (by omega) hx
     have hy':(mirror (arrOf st) lo (lo + n) ((lo + n - lo) / 2))[lo + n]? = some y:=hy
     rw [getElem?_mirror_all hsz,if_neg (by omega)] at hy'
     exact tr _ _ _ (le_of_not tt (hlt v y hv hy')) (hall (n - 1) i' v x (by omega) hi' hv q1)
  ·rw [if_neg hgt]
   obtain rfl:n=1:=by omega
   refine wpS_cDP hL tr tt hn (by omega) hB ?_ h
   refine more (R:=fun a b=>le b a=true) (fun a b c h1 h2=>tr _ _ _ h2 h1) (le_rf tt) (by omega) (fun i j x y hij hj hx hy=>?_) fun x y hx hy=>le_of_not tt (hlt x y hx hy)
   obtain rfl:i=j:=by omega
   rw [hx] at hy; cases hy; exact le_rf tt x
theorem wpS_bin {n ok:Nat} {Q:Bool->SortSt->Prop} (hn:lo + n<=(arrOf st0).size) (hok:ok<=n) (hB:Bs κ S lo st0 st) (hs:Asc le (arrOf st) lo ok)
  (h:∀ st',Bs κ S lo st0 st'->Asc le (arrOf st') lo n->Q true st'):wpS (model prog w) A E s (binarySort' lo n ok) Q st:=by
 rw [binarySort'_eq]
 refine wpS_bind (wpS_mono (wpS_forRange (I:=fun k c st'=>c=(none,())/\Bs κ S lo st0 st'/\Asc le (arrOf st') lo (min k n))
  (Q:=fun c st'=>c=(none,())/\Bs κ S lo st0 st'/\Asc le (arrOf st') lo n) ?_ ?_ ?_) ?_)
 ·rintro k c st' hak hkn ⟨rfl,hB',hs'⟩
  rw [show min k n=k by omega] at hs'
  obtain ⟨u,hu,su⟩:=hB'.at (i:=lo + k) (by omega)
  dsimp only
  refine wpS_bind (wpS_mono (wpS_forRange (I:=fun x c st''=>st'' = st'/\∃ l r,c=(none,l,r)/\l<=r/\r<=k/\r - l<=k - x/\
    (∀ (i:Nat) (y:Keyed),i < l->(arrOf st')[lo + i]? = some y->le y u=true)/\(∀ (i:Nat) (y:Keyed),r<=i->i < k->(arrOf st')[lo + i]? = some y->le y u=false))
   (Q:=fun c st''=>st'' = st'/\∃ l r,c=(none,l,r)/\l<=k/\
    (∀ (i:Nat) (y:Keyed),i < l->(arrOf st')[lo + i]? = some y->le y u=true)/\(∀ (i:Nat) (y:Keyed),l<=i->i < k->(arrOf st')[lo + i]? = some y->le y u=false)) ?_ ?_ ?_) ?_)
  ·rintro x c st'' _ hxk ⟨rfl,l,r,rfl,hlr,hrk,hm,hlo,hhi⟩
   dsimp only
   by_cases hge:l ≥ r
   ·rw [if_pos hge]
    obtain rfl:l=r:=by omega
    exact wpS_pure ⟨rfl,l,l,rfl,hrk,hlo,hhi⟩
   ·rw [if_neg hge]
    refine wpS_bind (wpS_ltI hL hB' (by omega) (by omega) fun u' v hu' hv=>?_)
    rw [hu] at hu'; cases hu'
    cases e:le v u with
    | false=>
     simp only [Bool.not_false,if_true]
     refine wpS_pure ⟨rfl,l,(l + r) / 2,rfl,by omega,by omega,by omega,hlo,fun i y h1 h2 hy=>?_⟩
     cases e2:le y u with
     | false=>rfl
     | true=>rw [tr _ _ _ (hs' _ _ v y h1 h2 hv hy) e2] at e; cases e
    | true=>
     simp only [Bool.not_true,Bool.false_eq_true,if_false]
     exact wpS_pure ⟨rfl,(l + r) / 2 + 1,r,rfl,by omega,by omega,by omega,fun i y h1 hy=>tr _ _ _ (hs' i ((l + r) / 2) y v (by omega) (by omega) hy hv) e,hhi⟩
  ·rintro c st'' ⟨rfl,l,r,rfl,hlr,hrk,hm,hlo,hhi⟩
   obtain rfl:l=r:=by omega
   exact ⟨rfl,l,l,rfl,hrk,hlo,hhi⟩
  ·exact ⟨rfl,0,k,rfl,by omega,by omega,by omega,fun i y hi=>by omega,fun i y h1 h2=>by omega⟩
  ·rintro c st'' ⟨rfl,l,r,rfl,hlk,hlo,hhi⟩
   show wpS _ _ _ _ (do moveDown' (lo + k) (lo + l); pure (ForInStep.yield (none,()))) _ _
   rw [moveDown'_eq]
   have hks:lo + k < (arrOf st'').size:=by rw [hB'.size]; omega
   have gb:=fun j=>getElem?_bubble (xs:=arrOf st'') hks (lo + k - (lo + l)) (by omega) j
   refine wpS_bind (wpS_modify (wpS_pure ⟨rfl,hB'.setArr (bubble_perm _ _ _) (fun j hj=>by rw [gb,if_neg (by omega),if_neg (by omega)]),?_⟩))
   rw [show min (k + 1) n=k + 1 by omega]
   intro i j x y hij hj hx hy
   have hx':(bubble (arrOf st'') (lo + k) (lo + k - (lo + l)))[lo + i]? = some x:=hx
   have hy':(bubble (arrOf st'') (lo + k) (lo + k - (lo + l)))[lo + j]? = some y:=hy
   rw [gb] at hx' hy'
   have cs:∀ (i:Nat) (x:Keyed),i < k + 1->(if lo + i=lo + k - (lo + k - (lo + l)) then (arrOf st'')[lo + k]? else if lo + k - (lo + k - (lo + l)) < lo + i/\lo + i<=lo + k then (arrOf st'')[lo + i - 1]? else (arrOf st'')[lo + i]?)=some x->
     (i=l/\x=u)\/(l < i/\(arrOf st'')[lo + (i - 1)]? = some x)\/(i < l/\(arrOf st'')[lo + i]? = some x):=fun i x hi h=>by
    split at h
    ·rw [hu] at h; cases h; exact .inl ⟨by omega,rfl⟩
    ·split at h
     ·rw [show lo + i - 1=lo + (i - 1) by omega] at h; exact .inr (.inl ⟨by omega,h⟩)
     ·exact .inr (.inr ⟨by omega,h⟩)
   rcases cs i x (by omega) hx' with ⟨e1,rfl⟩ | ⟨e1,q1⟩ | ⟨e1,q1⟩ <;> rcases cs j y (by omega) hy' with ⟨e2,rfl⟩ | ⟨e2,q2⟩ | ⟨e2,q2⟩
   ·exact le_rf tt _
   ·exact le_of_not tt (hhi (j - 1) y (by omega) (by omega) q2)
   ·omega
   ·omega
   ·exact hs' (i - 1) (j - 1) x y (by omega) (by omega) q1 q2
   ·omega
   ·exact hlo i x e1 q1
   ·exact hs' i (j - 1) x y (by omega) (by omega) q1 q2
   ·exact hs' i j x y hij (by omega) q1 q2
 ·rintro c st' ⟨hc,hB',hs'⟩
  refine ⟨hc,hB',?_⟩
  rwa [show min (max (max ok 1) n) n=n by omega] at hs'
 ·refine ⟨rfl,hB,fun i j x y hij hj hx hy=>?_⟩
  by_cases h1:ok=0
  ·obtain rfl:i=j:=by omega
   rw [hx] at hy; cases hy; exact le_rf tt x
  ·exact hs i j x y hij (by omega) hx hy
 ·rintro c st' ⟨rfl,hB',hs'⟩
  exact wpS_pure (h st' hB' hs')
end
end L2.TS
namespace L2.TS
open PySem PyProof.Rows
theorem put_all (c:Nat):∀ (m:List Keyed) (t:Nat) (arr:Array Keyed),c + t + m.length<=arr.size->((m.zipIdx t).foldl (fun (a:Array Keyed) (q:Keyed × Nat)=>a.setIfInBounds (c + q.2) q.1) arr).toList=arr.toList.take (c + t) ++ (m ++ arr.toList.drop (c + t + m.length))
 | [],t,arr,h=>by simp
 | x :: m,t,arr,h=>by
  rw [List.zipIdx_cons,List.foldl_cons,put_all c m (t + 1) _ (by rw [Array.size_setIfInBounds]; simp at h; omega)]
  simp only [Array.toList_setIfInBounds]
  have hl:c + t < arr.toList.length:=by simp at h ⊢; omega
  rw [show c + (t + 1)=c + t + 1 by omega,take_at (l:=arr.toList.set (c + t) x) (x:=x) (by rw [List.getElem?_set_self hl]),List.take_set_of_le (Nat.le_refl _),List.drop_set_of_lt (by omega)]
  rw [show c + t + (x :: m).length=c + t + 1 + m.length by simp; omega]
  simp
theorem mAt'_eq (i:Nat):mergeAt' i=(do
 let t <-get
 let (some (sa,na,pw),some (sb,nb,_)):=((pendingOf t)[i]?,(pendingOf t)[i + 1]?) | unsupported "internal:list.sort.pending"
 set (setPending t (((pendingOf t).setIfInBounds i (sa,na + nb,pw)).eraseIdxIfInBounds (i + 1)))
 let some k <-gal' false (<-elem' (arrOf t) sb) (arrOf t) sa na 0 | return false
 let (sa,na):=(sa + k,na - k)
 if na == 0 then return true
 let some nb <-gal' true (<-elem' (arrOf t) (sa + na - 1)) (arrOf t) sb nb (nb - 1) | return false
 if nb == 0 then return true
 let x:=(arrOf t).extract sa sb
 let y:=(arrOf t).extract sb (sb + nb)
 let r <-if na<=nb then mlo' x y else mhi' x y
 modify fun u=>setArr u (r.toList.zipIdx.foldl (fun a (p,j)=>a.setIfInBounds (sa + j) p) (arrOf u))
 return (failedOf (<-get)).isNone):=rfl
theorem wpS_set {prog:Program} {w:World} {A:Around} {E:Value->Shared->Prop} {s:Shared} {st st1:SortSt} {Q:PUnit->SortSt->Prop} (h:Q ⟨⟩ st1):wpS (model prog w) A E s (set st1:StateT SortSt Sem PUnit) Q st:=by
 unfold wpS
 have e:(set st1:StateT SortSt Sem PUnit).run st=pure (⟨⟩,st1):=rfl
 rw [e]
 exact wpAny_pure ⟨rfl,h⟩
theorem pw_ix {le:Keyed->Keyed->Bool} (rf:∀ x,le x x=true) {l:List Keyed} (h:l.Pairwise (fun x y=>le x y=true)) {i j:Nat} {x y:Keyed} (hij:i<=j) (hx:l[i]? = some x) (hy:l[j]? = some y):le x y=true:=by
 obtain ⟨i1,rfl⟩:=List.getElem?_eq_some_iff.mp hx
 obtain ⟨j1,rfl⟩:=List.getElem?_eq_some_iff.mp hy
 rcases Nat.lt_or_ge i j with q | q
 ·exact List.pairwise_iff_getElem.mp h i j i1 j1 q
 ·obtain rfl:i=j:=by omega
  exact rf _
section
variable {prog:Program} {w:World} {A:Around} {E:Value->Shared->Prop} {s:Shared} {le:Keyed->Keyed->Bool} {κ:SortKind} {S:Keyed->Prop} {st:SortSt}
variable (hL:LtOK prog w A E s le κ S) (tr:∀ x y z,le x y=true->le y z=true->le x z=true) (tt:∀ x y,(le x y || le y x)=true)
include hL tr tt
theorem wpS_mAt {Q:Bool->SortSt->Prop} {i pw pv:Nat} {L RA RB R:List Keyed} (hk:kindOf st=κ) (hf:failedOf st=none) (hS:∀ x ∈ (arrOf st).toList,S x)
  (h1:(pendingOf st)[i]? = some (L.length,RA.length,pw)) (h2:(pendingOf st)[i + 1]? = some (L.length + RA.length,RB.length,pv)) (ha:(arrOf st).toList=L ++ (RA ++ (RB ++ R)))
  (a0:0 < RA.length) (b0:0 < RB.length) (sa:RA.Pairwise fun x y=>le x y=true) (sb:RB.Pairwise fun x y=>le x y=true)
  (h:∀ st',kindOf st' = κ->failedOf st' = none->pendingOf st' = ((pendingOf st).setIfInBounds i (L.length,RA.length + RB.length,pw)).eraseIdxIfInBounds (i + 1)->(arrOf st').toList=L ++ (List.merge RA RB le ++ R)->Q true st') :
  wpS (model prog w) A E s (mergeAt' i) Q st:=by
 rw [mAt'_eq]
 refine wpS_bind (wpS_get ?_)
 rw [h1,h2]
 dsimp only
 have rf:=le_rf (le:=le) tt
 have ixA:∀ j,j < RA.length->(arrOf st)[L.length + j]? = RA[j]?:=fun j hj=>by
  rw [arr_list,ha,List.getElem?_append_right (by omega),Nat.add_sub_cancel_left,List.getElem?_append_left hj]
 have ixB:∀ j,j < RB.length->(arrOf st)[L.length + RA.length + j]? = RB[j]?:=fun j hj=>by
  rw [arr_list,ha,List.getElem?_append_right (by omega),List.getElem?_append_right (by omega),show L.length + RA.length + j - L.length - RA.length=j by omega,List.getElem?_append_left hj]
 have Sx:∀ (j:Nat) (x:Keyed),(arrOf st)[j]? = some x->S x:=fun j x hx=>hS x (by rw [arr_list] at hx; exact List.mem_of_getElem? hx)
 have sz:(arrOf st).size=L.length + (RA.length + (RB.length + R.length)):=by rw [<-Array.length_toList,ha]; simp
 generalize hst:setPending st (((pendingOf st).setIfInBounds i (L.length,RA.length + RB.length,pw)).eraseIdxIfInBounds (i + 1))=st1
 have k1:kindOf st1=κ:=by rw [<-hst]; exact hk
 have f1:failedOf st1=none:=by rw [<-hst]; exact hf
 have p1:pendingOf st1=((pendingOf st).setIfInBounds i (L.length,RA.length + RB.length,pw)).eraseIdxIfInBounds (i + 1):=by rw [<-hst]
 have ar1:arrOf st1=arrOf st:=by rw [<-hst]
 refine wpS_bind (wpS_set ?_)
 obtain ⟨y0,RB',eB⟩:∃ y t,RB=y :: t:=by cases RB with
  | nil=>simp at b0
  | cons y t=>exact ⟨y,t,rfl⟩
 have hy0:(arrOf st)[L.length + RA.length]? = some y0:=by have:=ixB 0 b0; rw [eB] at this; simpa using this
 refine wpS_bind (wpS_elem hy0 (wpS_bind (wpS_galS hL tr k1 (Sx _ _ hy0) Sx (by omega) (fun i j x y q1 q2 q3 hx hy=>?_) (fun k hk2 g1 g2=>?_) a0)))
 ·obtain ⟨i',rfl⟩:∃ i',i=L.length + i':=⟨i - L.length,by omega⟩
  obtain ⟨j',rfl⟩:∃ j',j=L.length + j':=⟨j - L.length,by omega⟩
  rw [ixA _ (by omega)] at hx hy
  exact pw_ix rf sa (by omega) hx hy
 have eA:RA.take k ++ RA.drop k=RA:=List.take_append_drop k RA
 have fr:List.merge RA RB le=RA.take k ++ List.merge (RA.drop k) RB le:=by
  rw [eB]
  conv=>lhs; rw [<-eA]
  refine mg_front fun x hx=>?_
  obtain ⟨j,hj,q⟩:=mem_take hx
  have:=g1 j hj x (by rw [ixA j (by omega)]; exact q)
  simpa [beyP] using this
 dsimp only
 by_cases e1:RA.length - k=0
 ·rw [if_pos (by simpa using e1)]
  refine wpS_pure (h st1 k1 f1 p1 ?_)
  rw [ar1,ha,fr,List.drop_eq_nil_of_le (by omega),List.take_of_length_le (by omega),List.nil_merge,List.append_assoc]
 rw [if_neg (by simpa using e1)]
 obtain ⟨x1,hx1⟩:∃ x,RA[RA.length - 1]? = some x:=⟨_,List.getElem?_eq_getElem (by omega)⟩
 have hx2:(arrOf st)[L.length + k + (RA.length - k) - 1]? = some x1:=by rw [show L.length + k + (RA.length - k) - 1=L.length + (RA.length - 1) by omega,ixA _ (by omega)]; exact hx1
 refine wpS_bind (wpS_elem hx2 (wpS_bind (wpS_galS hL tr k1 (Sx _ _ hx2) Sx (by omega) (fun i j x y q1 q2 q3 hx hy=>?_) (fun nc hk3 g3 g4=>?_) (by omega))))
 ·obtain ⟨i',rfl⟩:∃ i',i=L.length + RA.length + i':=⟨i - (L.length + RA.length),by omega⟩
  obtain ⟨j',rfl⟩:∃ j',j=L.length + RA.length + j':=⟨j - (L.length + RA.length),by omega⟩
  rw [ixB _ (by omega)] at hx hy
  exact pw_ix rf sb (by omega) hx hy
 have eC:RB.take nc ++ RB.drop nc=RB:=List.take_append_drop nc RB
 have bk:List.merge (RA.drop k) RB le=List.merge (RA.drop k) (RB.take nc) le ++ RB.drop nc:=by
  conv=>lhs; rw [<-eC]
  refine mg_backB _ _ fun x hx y hy=>?_
  obtain ⟨j,hj⟩:=List.getElem?_of_mem hx
  rw [List.getElem?_drop] at hj
  obtain ⟨l,hl⟩:=List.getElem?_of_mem hy
  rw [List.getElem?_drop] at hl
  have hlt:nc + l < RB.length:=(List.getElem?_eq_some_iff.mp hl).1
  have hjt:k + j < RA.length:=(List.getElem?_eq_some_iff.mp hj).1
  have q1:=pw_ix rf sa (i:=k + j) (j:=RA.length - 1) (by omega) hj hx1
  have q2:=g4 (nc + l) (by omega) hlt y (by rw [ixB _ hlt]; exact hl)
  exact tr _ _ _ q1 (by simpa [beyP] using q2)
 dsimp only
 by_cases e2:nc=0
 ·rw [if_pos (by simpa using e2)]
  refine wpS_pure (h st1 k1 f1 p1 ?_)
  subst e2
  rw [ar1,ha,fr,bk]
  simp only [List.take_zero,List.drop_zero,List.merge_right]
  rw [<-List.append_assoc (RA.take k),eA,List.append_assoc]
 rw [if_neg (by simpa using e2)]
 have tX:((arrOf st).extract (L.length + k) (L.length + RA.length)).toList=RA.drop k:=by
  rw [ext_list,ha,<-List.drop_drop,List.drop_left,List.drop_append_of_le_length (by omega),show L.length + RA.length - (L.length + k)=(RA.drop k).length by simp; omega,List.take_left]
 have tY:((arrOf st).extract (L.length + RA.length) (L.length + RA.length + nc)).toList=RB.take nc:=by
  rw [ext_list,ha,<-List.drop_drop,List.drop_left,List.drop_left,Nat.add_sub_cancel_left,List.take_append_of_le_length (by omega)]
 have lX:((arrOf st).extract (L.length + k) (L.length + RA.length)).size=RA.length - k:=by rw [<-Array.length_toList,tX]; simp
 have lY:((arrOf st).extract (L.length + RA.length) (L.length + RA.length + nc)).size=nc:=by rw [<-Array.length_toList,tY]; simp; omega
 have atX:∀ (j:Nat) (x:Keyed),((arrOf st).extract (L.length + k) (L.length + RA.length))[j]? = some x->RA[k + j]? = some x:=fun j x hx=>by rw [arr_list,tX,List.getElem?_drop] at hx; exact hx
 have atY:∀ (j:Nat) (x:Keyed),((arrOf st).extract (L.length + RA.length) (L.length + RA.length + nc))[j]? = some x->j < nc/\RB[j]? = some x:=fun j x hx=>by
  rw [arr_list,tY,List.getElem?_take] at hx
  split at hx
  ·exact ⟨by assumption,hx⟩
  ·cases hx
 have M:MH le S ((arrOf st).extract (L.length + k) (L.length + RA.length)) ((arrOf st).extract (L.length + RA.length) (L.length + RA.length + nc)):={
  tr:=tr
  sa:=fun i j x y hij hx hy=>pw_ix rf sa (by omega) (atX i x hx) (atX j y hy)
  sb:=fun i j x y hij hx hy=>pw_ix rf sb hij (atY i x hx).2 (atY j y hy).2
  Sa:=fun i x hx=>by have q:=atX i x hx; exact Sx (L.length + (k + i)) x (by rw [ixA _ (List.getElem?_eq_some_iff.mp q).1]; exact q)
  Sb:=fun i x hx=>by have q:=(atY i x hx).2; exact Sx (L.length + RA.length + i) x (by rw [ixB _ (List.getElem?_eq_some_iff.mp q).1]; exact q)
  a0:=by omega
  b0:=by omega
  first:=fun x y hx hy=>by
   have q1:=atX 0 x hx
   have q2:=(atY 0 y hy).2
   rw [eB] at q2
   have q3:=g2 k (Nat.le_refl _) (by omega) x (by rw [ixA k (by omega)]; exact q1)
   simp only [List.getElem?_cons_zero,Option.some.injEq] at q2
   rw [<-q2]
   simpa [beyP] using q3
  last:=fun i x y hi hx hy=>by
   have q1:=atX i x hx
   rw [show k + i=RA.length - 1 by omega,hx1] at q1
   cases q1
   rw [tY] at hy
   obtain ⟨j,hj,q⟩:=mem_take hy
   have q3:=g3 j hj y (by rw [ixB j (by omega)]; exact q)
   simpa [beyP] using q3 }
 have fin:∀ (r:Array Keyed) (st2:SortSt),Sm st1 st2->r.toList=List.merge ((arrOf st).extract (L.length + k) (L.length + RA.length)).toList ((arrOf st).extract (L.length + RA.length) (L.length + RA.length + nc)).toList le->
   wpS (model prog w) A E s (do
    modify fun u=>setArr u (List.foldl (fun (a:Array Keyed) (x:Keyed × Nat)=>a.setIfInBounds (L.length + k + x.snd) x.fst) (arrOf u) r.toList.zipIdx)
    let v <-get
    pure (failedOf v).isNone) Q st2:=fun r st2 hs hr=>by
  refine wpS_bind (wpS_modify (wpS_bind (wpS_get ?_)))
  rw [tX,tY] at hr
  have f2:failedOf st2=none:=hs.failed.trans f1
  show wpS _ _ _ _ (pure (failedOf st2).isNone) Q _
  rw [f2]
  refine wpS_pure (h _ (hs.kind.trans k1) f2 (hs.pend.trans p1) ?_)
  show (List.foldl (fun (a:Array Keyed) (x:Keyed × Nat)=>a.setIfInBounds (L.length + k + x.snd) x.fst) (arrOf st2) r.toList.zipIdx).toList=_
  have hl:r.toList.length=RA.length - k + nc:=by rw [hr,List.length_merge]; simp; omega
  rw [hs.arr,ar1,put_all (L.length + k) r.toList 0 (arrOf st) (by omega),hl,Nat.add_zero,ha,fr,bk,hr]
  have t1:(L ++ (RA ++ (RB ++ R))).take (L.length + k)=L ++ RA.take k:=by rw [List.take_append,List.take_of_length_le (by omega),Nat.add_sub_cancel_left,List.take_append_of_le_length (by omega)]
  have t2:(L ++ (RA ++ (RB ++ R))).drop (L.length + k + (RA.length - k + nc))=RB.drop nc ++ R:=by
   rw [show L.length + k + (RA.length - k + nc)=L.length + (RA.length + nc) by omega,<-List.drop_drop,List.drop_left,<-List.drop_drop,List.drop_left,List.drop_append_of_le_length (by omega)]
  rw [t1,t2]
  simp only [List.append_assoc]
 split
 ·exact wpS_bind (wpS_mlo M hL k1 fun r st2 hs hr=>fin r st2 hs hr)
 ·exact wpS_bind (wpS_mhi M hL k1 fun r st2 hs hr=>fin r st2 hs hr)
end
end L2.TS
namespace L2.TS
open PySem PyProof.Rows
noncomputable def Rn (le:Keyed->Keyed->Bool):Nat->List (Nat × Nat × Nat)->List (List Keyed)->Prop
 | _,[],[]=>True
 | lo,p :: ps,r :: rs=>p.1=lo/\p.2.1=r.length/\0 < r.length/\r.Pairwise (fun x y=>le x y=true)/\Rn le (lo + r.length) ps rs
 | _,_,_=>False
section
variable {le:Keyed->Keyed->Bool}
theorem Rn.len:∀ {lo:Nat} {ps:List (Nat × Nat × Nat)} {rs:List (List Keyed)},Rn le lo ps rs->ps.length=rs.length
 | _,[],[],_=>rfl
 | _,_ :: _,_ :: _,h=>by simp [Rn.len h.2.2.2.2]
 | _,[],_ :: _,h=>h.elim
 | _,_ :: _,[],h=>h.elim
theorem Rn.few:∀ {lo:Nat} {ps:List (Nat × Nat × Nat)} {rs:List (List Keyed)},Rn le lo ps rs->rs.length<=rs.flatten.length
 | _,[],[],_=>by simp
 | _,_ :: _,r :: rs,h=>by have:=Rn.few h.2.2.2.2; have:=h.2.2.1; simp; simp at *; omega
 | _,[],_ :: _,h=>h.elim
 | _,_ :: _,[],h=>h.elim
theorem Rn.split:∀ {P Q:List (Nat × Nat × Nat)} {lo:Nat} {rs:List (List Keyed)},Rn le lo (P ++ Q) rs->∃ R1 R2,rs=R1 ++ R2/\Rn le lo P R1/\Rn le (lo + R1.flatten.length) Q R2
 | [],Q,lo,rs,h=>⟨[],rs,rfl,trivial,h⟩
 | p :: P,Q,lo,r :: rs,h=>by
  obtain ⟨R1,R2,e,h1,h2⟩:=Rn.split h.2.2.2.2
  refine ⟨r :: R1,R2,by rw [e]; rfl,⟨h.1,h.2.1,h.2.2.1,h.2.2.2.1,h1⟩,?_⟩
  rw [List.flatten_cons,List.length_append,<-Nat.add_assoc]; exact h2
 | p :: P,Q,lo,[],h=>h.elim
theorem Rn.join:∀ {P Q:List (Nat × Nat × Nat)} {lo:Nat} {R1 R2:List (List Keyed)},Rn le lo P R1->Rn le (lo + R1.flatten.length) Q R2->Rn le lo (P ++ Q) (R1 ++ R2)
 | [],Q,lo,[],R2,_,h=>by simpa using h
 | p :: P,Q,lo,r :: R1,R2,h,h2=>⟨h.1,h.2.1,h.2.2.1,h.2.2.2.1,h.2.2.2.2.join (by rw [List.flatten_cons,List.length_append,<-Nat.add_assoc] at h2; exact h2)⟩
 | [],_,_,_ :: _,_,h,_=>h.elim
 | _ :: _,_,_,[],_,h,_=>h.elim
theorem Rn.pw {f:Nat × Nat × Nat->Nat × Nat × Nat} (hf:∀ p,(f p).1=p.1/\(f p).2.1=p.2.1):∀ {ps:List (Nat × Nat × Nat)} {lo i:Nat} {rs:List (List Keyed)},Rn le lo ps rs->Rn le lo (ps.modify i f) rs
 | [],_,_,[],h=>by simp [Rn]
 | p :: ps,lo,0,r :: rs,h=>by simpa [List.modify,Rn,hf] using h
 | p :: ps,lo,i + 1,r :: rs,h=>by rw [List.modify_succ_cons]; exact ⟨h.1,h.2.1,h.2.2.1,h.2.2.2.1,h.2.2.2.2.pw hf⟩
 | [],_,_,_ :: _,h=>h.elim
 | _ :: _,_,_,[],h=>h.elim
structure IV (le:Keyed->Keyed->Bool) (κ:SortKind) (a₀:List Keyed) (st:SortSt) (rs:List (List Keyed)) (rest:List Keyed):Prop where
 kind:kindOf st=κ
 failed:failedOf st=none
 perm:(arrOf st).toList.Perm a₀
 arr:(arrOf st).toList=rs.flatten ++ rest
 runs:Rn le 0 (pendingOf st).toList rs
variable {prog:Program} {w:World} {A:Around} {E:Value->Shared->Prop} {s:Shared} {κ:SortKind} {a₀:List Keyed} {st:SortSt}
variable (hL:LtOK prog w A E s le κ (· ∈ a₀)) (tr:∀ x y z,le x y=true->le y z=true->le x z=true) (tt:∀ x y,(le x y || le y x)=true)
include hL tr tt
theorem wpS_mIV {Q:Bool->SortSt->Prop} {i:Nat} {rs:List (List Keyed)} {rest:List Keyed} (v:IV le κ a₀ st rs rest) (hi:i + 1 < (pendingOf st).size)
  (h:∀ st' rs',IV le κ a₀ st' rs' rest->rs'.flatten.length=rs.flatten.length->(pendingOf st').size + 1=(pendingOf st).size->Q true st'):wpS (model prog w) A E s (mergeAt' i) Q st:=by
 obtain ⟨P,p1,p2,P',e,hP⟩:∃ P p1 p2 P',(pendingOf st).toList=P ++ p1 :: p2 :: P'/\P.length=i:=by
  have h1:i + 1 < (pendingOf st).toList.length:=by simpa using hi
  refine ⟨(pendingOf st).toList.take i,(pendingOf st).toList[i]'(by omega),(pendingOf st).toList[i + 1],(pendingOf st).toList.drop (i + 2),?_,by rw [List.length_take]; omega⟩
  rw [<-List.drop_eq_getElem_cons h1,<-List.drop_eq_getElem_cons (by omega),List.take_append_drop]
 have hr:=v.runs
 rw [e] at hr
 obtain ⟨R1,R2,e2,r1,r2⟩:=hr.split
 match R2,r2,e2 with
 | Ra :: Rb :: R3,r2,e2=>
  obtain ⟨p1s,p1n,p1p⟩:=p1
  obtain ⟨p2s,p2n,p2p⟩:=p2
  obtain ⟨q1,q2,q3,q4,q5,q6,q7,q8,q9⟩:=r2
  dsimp only at q1 q2 q5 q6
  simp only [Nat.zero_add] at q1 q5
  subst q1 q2 q5 q6
  have ea:(arrOf st).toList=R1.flatten ++ (Ra ++ (Rb ++ (R3.flatten ++ rest))):=by rw [v.arr,e2]; simp
  have g1:(pendingOf st)[i]? = some (R1.flatten.length,Ra.length,p1p):=by rw [arr_list,e,<-hP]; simp
  have g2:(pendingOf st)[i + 1]? = some (R1.flatten.length + Ra.length,Rb.length,p2p):=by rw [arr_list,e,<-hP]; simp
  refine wpS_mAt hL tr tt v.kind v.failed (fun x hx=>v.perm.mem_iff.mp hx) g1 g2 ea q3 q7 q4 q8 fun st' k' f' p' a'=>?_
  have pl:(pendingOf st').toList=P ++ (R1.flatten.length,Ra.length + Rb.length,p1p) :: P':=by
   rw [p',Array.toList_eraseIdxIfInBounds,Array.toList_setIfInBounds,e,<-hP,List.set_append_right _ _ (Nat.le_refl _),List.eraseIdx_append_of_length_le (by omega)]
   simp
  have lm:(List.merge Ra Rb le).length=Ra.length + Rb.length:=List.length_merge _ _ _
  refine h st' (R1 ++ List.merge Ra Rb le :: R3) ⟨k',f',?_,?_,?_⟩ ?_ ?_
  ·refine List.Perm.trans ?_ v.perm
   rw [a',ea]
   refine List.Perm.append_left _ ?_
   rw [<-List.append_assoc Ra]
   exact List.Perm.append_right _ (List.merge_perm_append le)
  ·rw [a']; simp
  ·rw [pl]
   refine r1.join ⟨by simp,by simp [lm],by omega,List.pairwise_merge tr tt _ _ q4 q8,?_⟩
   rw [lm,<-Nat.add_assoc,Nat.zero_add]
   simpa using q9
  ·rw [e2]; simp [lm]; omega
  ·have l1:=congrArg List.length pl
   have l2:=congrArg List.length e
   simp at l1 l2
   omega
 | [],r2,e2=>exact r2.elim
 | [_],r2,e2=>exact r2.2.2.2.2.elim
theorem wpS_push {Q:ForInStep (Option Unit × Nat)->SortSt->Prop} {lo n:Nat} {rs:List (List Keyed)} {rest:List Keyed} (v:IV le κ a₀ st rs rest) (hlo:rs.flatten.length=lo) (hn:1<=n) (hn2:n<=rest.length) (so:(rest.take n).Pairwise fun x y=>le x y=true)
  (h:∀ st' rs',IV le κ a₀ st' rs' (rest.drop n)->rs'.flatten.length=lo + n->Q (.yield (none,lo + n)) st') :
  wpS (model prog w) A E s (do
   modify fun s=>setPending s ((pendingOf s).push (lo,n,0))
   pure (ForInStep.yield (none,lo + n))) Q st:=by
 refine wpS_bind (wpS_modify (wpS_pure (h _ (rs ++ [rest.take n]) ⟨v.kind,v.failed,v.perm,?_,?_⟩ ?_)))
 ·show (arrOf st).toList=_
  rw [v.arr]; simp
 ·show Rn le 0 ((pendingOf st).push (lo,n,0)).toList _
  rw [Array.toList_push]
  refine v.runs.join ⟨by simp [hlo],by simp; omega,by simp; omega,so,trivial⟩
 ·simp [hlo]; omega
theorem wpS_srT {Q:ForInStep (Option Unit × Nat)->SortSt->Prop} {sz lo n:Nat} {rs:List (List Keyed)} {rest:List Keyed} (v:IV le κ a₀ st rs rest) (hlo:rs.flatten.length=lo) (hn:1<=n) (hn2:n<=rest.length) (so:(rest.take n).Pairwise fun x y=>le x y=true)
  (h:∀ st' rs',IV le κ a₀ st' rs' (rest.drop n)->rs'.flatten.length=lo + n->Q (.yield (none,lo + n)) st') :
  ∀ m,m=(do
   let g <-get
   match (pendingOf g).back? with
   | some (s1,n1,_)=>do
    let c <-forIn [:sz] ((none,()):Option Unit × Unit) fun _ _=>do
     let g <-get
     match if (pendingOf g).size > 1 then (pendingOf g)[(pendingOf g).size - 2]? else none with
     | some (_,_,older)=>
      if older<=power' sz (2 * s1 + n1) (2 * s1 + n1 + n1 + n) sz then pure (ForInStep.done (none,()))
      else do
       let b <-mergeAt' ((pendingOf g).size - 2)
       if (!b)=true then pure (ForInStep.done (some (),())) else pure (ForInStep.yield (none,()))
     | _=>pure (ForInStep.done (none,()))
    match c.fst with
    | some r=>pure (ForInStep.done (some r,lo))
    | none=>do
     modify fun s=>setPending s ((pendingOf s).modify ((pendingOf s).size - 1) fun x=>(x.fst,x.2.fst,power' sz (2 * s1 + n1) (2 * s1 + n1 + n1 + n) sz))
     modify fun s=>setPending s ((pendingOf s).push (lo,n,0))
     pure (ForInStep.yield (none,lo + n))
   | _=>do
    modify fun s=>setPending s ((pendingOf s).push (lo,n,0))
    pure (ForInStep.yield (none,lo + n)))->wpS (model prog w) A E s m Q st:=by
 rintro m rfl
 refine wpS_bind (wpS_get ?_)
 cases e:(pendingOf st).back? with
 | none=>exact wpS_push hL tr tt v hlo hn hn2 so h
 | some p=>
  obtain ⟨s1,n1,p1⟩:=p
  dsimp only
  refine wpS_bind (wpS_mono (wpS_forRange (I:=fun _ c st'=>c=(none,())/\∃ rs,IV le κ a₀ st' rs rest/\rs.flatten.length=lo)
   (Q:=fun c st'=>c=(none,())/\∃ rs,IV le κ a₀ st' rs rest/\rs.flatten.length=lo) ?_ (fun c st' q=>q) ⟨rfl,rs,v,hlo⟩) ?_)
  ·rintro x c st' _ _ ⟨rfl,rs,v,hlo⟩
   refine wpS_bind (wpS_get ?_)
   by_cases h1:(pendingOf st').size > 1
   ·rw [if_pos h1]
    obtain ⟨⟨q1,q2,q3⟩,hq⟩:=at_ (c:=pendingOf st') (i:=(pendingOf st').size - 2) (by omega)
    rw [hq]
    dsimp only
    split
    ·exact wpS_pure ⟨rfl,rs,v,hlo⟩
    ·exact wpS_bind (wpS_mIV hL tr tt v (by omega) fun st'' rs' v' e1 e2=>wpS_pure ⟨rfl,rs',v',by omega⟩)
   ·rw [if_neg h1]
    exact wpS_pure ⟨rfl,rs,v,hlo⟩
  ·rintro c st' ⟨rfl,rs,v,hlo⟩
   dsimp only
   refine wpS_bind (wpS_modify (wpS_push hL tr tt ⟨v.kind,v.failed,v.perm,v.arr,?_⟩ hlo hn hn2 so h))
   show Rn le 0 ((pendingOf st').modify _ _).toList _
   rw [Array.toList_modify]
   exact v.runs.pw (f:=fun x=>(x.fst,x.2.fst,power' sz (2 * s1 + n1) (2 * s1 + n1 + n1 + n) sz)) fun p=>⟨rfl,rfl⟩
theorem wpS_runs {Q:Unit->SortSt->Prop} (hk:kindOf st=κ) (hf:failedOf st=none) (hp:pendingOf st = #[]) (ha:(arrOf st).toList=a₀)
  (h:∀ st',failedOf st' = none->(arrOf st').toList.Perm a₀->(arrOf st').toList.Pairwise (fun x y=>le x y=true)->Q () st'):wpS (model prog w) A E s sortRuns' Q st:=by
 rw [sortRuns'_eq]
 refine wpS_bind (wpS_get ?_)
 dsimp only
 generalize hmr:minRun' (arrOf st).size (arrOf st).size 0=mr
 generalize hsz:(arrOf st).size=sz
 have hl0:a₀.length=sz:=by rw [<-ha,<-hsz]; simp
 refine wpS_bind (wpS_mono (wpS_forRange (I:=fun x c st'=>∃ lo rs rest,c=(none,lo)/\IV le κ a₀ st' rs rest/\rs.flatten.length=lo/\x<=lo)
  (Q:=fun c st'=>∃ lo rs rest,c=(none,lo)/\IV le κ a₀ st' rs rest/\rs.flatten.length=lo/\sz<=lo) ?_ ?_ ⟨0,[],a₀,rfl,⟨hk,hf,by rw [ha],by rw [ha]; rfl,by rw [hp]; trivial⟩,rfl,Nat.zero_le _⟩) ?_)
 ·rintro x c st1 _ hx ⟨lo,rs,rest,rfl,v,hlo,hxl⟩
  dsimp only
  by_cases hge:lo ≥ sz
  ·rw [if_pos hge]
   exact wpS_pure ⟨lo,rs,rest,rfl,v,hlo,hge⟩
  ·rw [if_neg hge]
   have size1:(arrOf st1).size=sz:=by rw [<-Array.length_toList,v.perm.length_eq,hl0]
   have B1:Bs κ (· ∈ a₀) lo st1 st1:=⟨Array.Perm.refl _,v.kind,v.failed,rfl,fun _ _=>rfl,fun x hx=>v.perm.mem_iff.mp hx⟩
   have back:∀ (st2:SortSt) (m:Nat),Bs κ (· ∈ a₀) lo st1 st2->Asc le (arrOf st2) lo m->m<=sz - lo->∃ rest2,IV le κ a₀ st2 rs rest2/\rest2.length=sz - lo/\(rest2.take m).Pairwise fun x y=>le x y=true:=fun st2 m B2 s2 hm=>by
    have size2:(arrOf st2).size=sz:=B2.size.trans size1
    have tk:(arrOf st2).toList.take lo=rs.flatten:=by
     have:(arrOf st2).toList.take lo=(arrOf st1).toList.take lo:=by
      apply List.ext_getElem?
      intro k
      rw [List.getElem?_take,List.getElem?_take]
      split
      ·rename_i q; have:=B2.keep k q; rwa [arr_list,arr_list] at this
      ·rfl
     rw [this,v.arr,<-hlo,List.take_left]
    refine ⟨(arrOf st2).toList.drop lo,⟨B2.kind,B2.failed,(Array.perm_iff_toList_perm.mp B2.perm).trans v.perm,?_,by rw [B2.pend]; exact v.runs⟩,by simp [size2],?_⟩
    ·conv=>lhs; rw [<-List.take_append_drop lo (arrOf st2).toList,tk]
    ·rw [List.pairwise_iff_getElem]
     intro i j hi hj hij
     simp at hi hj
     refine s2 i j _ _ (by omega) (by omega) ?_ ?_
     ·rw [arr_list,List.getElem_take,List.getElem_drop,List.getElem?_eq_getElem]
     ·rw [arr_list,List.getElem_take,List.getElem_drop,List.getElem?_eq_getElem]
   refine wpS_bind (wpS_cRun hL tr tt (by omega) (by omega) B1 fun m st2 B2 hm1 hm2 s2=>?_)
   dsimp only
   have fin:∀ (st3:SortSt) (n:Nat),Bs κ (· ∈ a₀) lo st1 st3->Asc le (arrOf st3) lo n->1<=n->n<=sz - lo->∀ st4 rs',(∃ rest2:List Keyed,rest2.length=sz - lo/\IV le κ a₀ st4 rs' (rest2.drop n))->rs'.flatten.length=lo + n->∃ lo' rs rest,((none,lo + n):Option Unit × Nat)=(none,lo')/\IV le κ a₀ st4 rs rest/\rs.flatten.length=lo'/\x + 1<=lo':=fun st3 n B3 s3 n1 n2 st4 rs' ⟨r2,_,v4⟩ e4=>⟨lo + n,rs',_,rfl,v4,e4,by omega⟩
   by_cases hlt:m < mr
   ·rw [if_pos hlt]
    refine wpS_bind (wpS_lift (wpAny_rule ⟨rfl,?_⟩))
    refine wpS_bind (wpS_bin hL tr tt (by omega) (by omega) B2 s2 fun st3 B3 s3=>?_)
    simp only [Bool.not_true,Bool.false_eq_true,if_false]
    obtain ⟨rest2,v3,l3,p3⟩:=back st3 _ B3 s3 (by omega)
    refine wpS_srT (sz:=sz) hL tr tt v3 hlo (by omega) (by omega) p3 (fun st4 rs' v4 e4=>?_) _ ?_
    rotate_left
    ·refine bind_congr fun g=>?_
     cases (pendingOf g).back? with
     | none=>rfl
     | some p=>
      refine fb (fun _ _=>bind_congr fun g=>?_) fun c=>?_
      ·cases (if (pendingOf g).size > 1 then (pendingOf g)[(pendingOf g).size - 2]? else none) <;> rfl
      ·obtain ⟨_ | r,c⟩:=c <;> rfl
    exact fin st3 _ B3 s3 (by omega) (by omega) st4 rs' ⟨rest2,l3,v4⟩ e4
   ·rw [if_neg hlt]
    obtain ⟨rest2,v3,l3,p3⟩:=back st2 _ B2 s2 (by omega)
    refine wpS_srT (sz:=sz) hL tr tt v3 hlo (by omega) (by omega) p3 (fun st4 rs' v4 e4=>?_) _ ?_
    rotate_left
    ·refine bind_congr fun g=>?_
     cases (pendingOf g).back? with
     | none=>rfl
     | some p=>
      refine fb (fun _ _=>bind_congr fun g=>?_) fun c=>?_
      ·cases (if (pendingOf g).size > 1 then (pendingOf g)[(pendingOf g).size - 2]? else none) <;> rfl
      ·obtain ⟨_ | r,c⟩:=c <;> rfl
    exact fin st2 _ B2 s2 (by omega) (by omega) st4 rs' ⟨rest2,l3,v4⟩ e4
 ·rintro c st' ⟨lo,rs,rest,rfl,v,hlo,hxl⟩
  exact ⟨lo,rs,rest,rfl,v,hlo,by omega⟩
 ·rintro c st1 ⟨lo,rs,rest,rfl,v,hlo,hge⟩
  dsimp only
  have hrest:rest=[]:=by
   have l1:=congrArg List.length v.arr
   rw [v.perm.length_eq,List.length_append] at l1
   exact List.eq_nil_of_length_eq_zero (by omega)
  subst hrest
  have pl:(pendingOf st1).size<=sz:=by
   have l1:=congrArg List.length v.arr
   rw [v.perm.length_eq,List.length_append] at l1
   have:=v.runs.few
   have l2:=v.runs.len
   rw [Array.length_toList] at l2
   simp only [List.length_nil] at l1
   omega
  refine wpS_bind (wpS_mono (wpS_forRange (I:=fun x c st'=>c=(none,())/\(∃ rs,IV le κ a₀ st' rs [])/\(pendingOf st').size<=max 1 (sz - x))
   (Q:=fun c st'=>c=(none,())/\(∃ rs,IV le κ a₀ st' rs [])/\(pendingOf st').size<=1) ?_ ?_ ⟨rfl,⟨rs,v⟩,by omega⟩) ?_)
  ·rintro x c st' _ hx ⟨rfl,⟨rs,v⟩,hm⟩
   refine wpS_bind (wpS_get ?_)
   by_cases h1:(pendingOf st').size<=1
   ·rw [if_pos h1]
    exact wpS_pure ⟨rfl,⟨rs,v⟩,h1⟩
   ·rw [if_neg h1]
    refine wpS_bind (wpS_mIV hL tr tt v ?_ fun st'' rs' v' e1 e2=>wpS_pure ⟨rfl,⟨rs',v'⟩,by omega⟩)
    have pk:∀ (b:Bool) (i n:Nat),i + 1 < n->(if b=true then i - 1 else i) + 1 < n:=fun b i n h=>by cases b <;> simp <;> omega
    exact pk _ _ _ (by omega)
  ·rintro c st' ⟨rfl,v,hm⟩
   exact ⟨rfl,v,by omega⟩
  ·rintro c st' ⟨rfl,⟨rs,v⟩,hm⟩
   refine wpS_pure (h st' v.failed v.perm ?_)
   rw [v.arr,List.append_nil]
   have l2:=v.runs.len
   rw [Array.length_toList] at l2
   match rs,v.runs,l2 with
   | [],_,_=>exact .nil
   | [r],q,l2=>
    have e:∃ p,(pendingOf st').toList=[p]:=List.length_eq_one_iff.mp (by rw [Array.length_toList]; simpa using l2)
    obtain ⟨p,e⟩:=e
    rw [e] at q
    simpa using q.2.2.2.1
   | _ :: _ :: _,_,l2=>simp at l2; omega
end
end L2.TS
namespace L2.TS
open PySem PyProof.Rows
theorem lex_irr:∀ xs:List Int,HT.lexLt xs xs=false
 | []=>rfl
 | x :: xs=>by rw [HT.lexLt_cons,if_pos rfl]; exact lex_irr xs
theorem lex_tr:∀ {xs ys zs:List Int},HT.lexLt xs ys=true->HT.lexLt ys zs=true->HT.lexLt xs zs=true
 | [],[],_,h,_=>by cases h
 | [],y :: ys,[],_,h=>by cases h
 | [],_ :: _,_ :: _,_,_=>rfl
 | x :: xs,[],_,h,_=>by cases h
 | x :: xs,y :: ys,[],_,h=>by cases h
 | x :: xs,y :: ys,z :: zs,h1,h2=>by
  rw [HT.lexLt_cons] at h1 h2 ⊢
  by_cases e1:x=y
  ·subst e1
   rw [if_pos rfl] at h1
   by_cases e2:x=z
   ·subst e2; rw [if_pos rfl] at h2 ⊢; exact lex_tr h1 h2
   ·rw [if_neg e2] at h2 ⊢; exact h2
  ·rw [if_neg e1] at h1
   by_cases e2:y=z
   ·subst e2; rw [if_neg e1]; exact h1
   ·rw [if_neg e2] at h2
    have h1':=of_decide_eq_true h1
    have h2':=of_decide_eq_true h2
    rw [if_neg (by omega)]
    exact decide_eq_true (by omega)
theorem lex_tot:∀ {xs ys:List Int},HT.lexLt xs ys=false->HT.lexLt ys xs=false->xs=ys
 | [],[],_,_=>rfl
 | [],_ :: _,h,_=>by cases h
 | _ :: _,[],_,h=>by cases h
 | x :: xs,y :: ys,h1,h2=>by
  rw [HT.lexLt_cons] at h1 h2
  by_cases e:x=y
  ·subst e; rw [if_pos rfl] at h1 h2; rw [lex_tot h1 h2]
  ·rw [if_neg e] at h1
   rw [if_neg (Ne.symm e)] at h2
   have h1':=of_decide_eq_false h1
   have h2':=of_decide_eq_false h2
   omega
noncomputable def lexLe (xs ys:List Int):Bool:=!HT.lexLt ys xs
theorem lexLe_tr (xs ys zs:List Int) (h1:lexLe xs ys=true) (h2:lexLe ys zs=true):lexLe xs zs=true:=by
 unfold lexLe at *
 simp only [Bool.not_eq_true'] at *
 cases e:HT.lexLt zs xs with
 | false=>rfl
 | true=>
  cases e2:HT.lexLt xs ys with
  | true=>rw [lex_tr e e2] at h2; cases h2
  | false=>rw [lex_tot e2 h1] at e; rw [e] at h2; cases h2
theorem lexLe_tt (xs ys:List Int):(lexLe xs ys || lexLe ys xs)=true:=by
 unfold lexLe
 cases e:HT.lexLt ys xs with
 | false=>rfl
 | true=>
  cases e2:HT.lexLt xs ys with
  | false=>rfl
  | true=>have:=lex_tr e e2; rw [lex_irr] at this; cases this
noncomputable def RunsOk (n:Nat):Prop:=2<=n->∀ (prog:Program) (w:World) (A:Around) (E:Value->Shared->Prop) (s:Shared) (le:Keyed->Keyed->Bool) (κ:SortKind) (a₀:List Keyed) (st:SortSt) (Q:Unit->SortSt->Prop),a₀.length=n->LtOK prog w A E s le κ (· ∈ a₀)->(∀ x y z,le x y=true->le y z=true->le x z=true)->(∀ x y,(le x y || le y x)=true)->
 kindOf st=κ->failedOf st=none->pendingOf st = #[]->(arrOf st).toList=a₀->(∀ st',failedOf st' = none->(arrOf st').toList.Perm a₀->(arrOf st').toList.Pairwise (fun x y=>le x y=true)->Q () st')->wpS (model prog w) A E s sortRuns' Q st
theorem runs_any (n:Nat):RunsOk n:=fun _ _ _ _ _ _ _ _ _ _ _ _ hL tr tt=>wpS_runs hL tr tt
section
variable {prog:Program} {w:World} {A:Around} {E:Value->Shared->Prop} {s:Shared} {rk:Value->List Int} {κ:SortKind}
noncomputable abbrev leV (rk:Value->List Int):Keyed->Keyed->Bool:=fun x y=>lexLe (rk x.1) (rk y.1)
structure KOk (prog:Program) (w:World) (h0:Heap) (vs:List Value) (rk:Value->List Int) (κ:SortKind):Prop where
 kind:∀ (A:Around) (E:Value->Shared->Prop) (s:Shared) (Q:SortKind->Shared->Prop),(∀ b o,h0.get? b=some o->s.heap.get? b=some o)->2<=vs.length->Q κ s->wpAny (model prog w) A (keyKind' vs.toArray) Q E s
 lt:∀ (A:Around) (E:Value->Shared->Prop) (s:Shared) (Q:Bool->Shared->Prop) (x y:Value),(∀ b o,h0.get? b=some o->s.heap.get? b=some o)->x ∈ vs->y ∈ vs->Q (HT.lexLt (rk x) (rk y)) s->wpAny (model prog w) A (keyLt' κ x y) Q E s
theorem KOk.ltok {h0:Heap} {vs:List Value} (k:KOk prog w h0 vs rk κ) (hs:∀ b o,h0.get? b=some o->s.heap.get? b=some o):LtOK prog w A E s (leV rk) κ (· ∈ (pairsOf vs).toList):=fun x y hx hy Q st hk q=>by
 rw [pairsOf_toList] at hx hy
 rw [lt'_eq]
 refine wpS_bind (wpS_get ?_)
 rw [hk]
 refine wpS_bind (wpS_lift (wpAny_attempt (k.lt A _ s _ x.1 y.1 hs (mem_zip_self hx).2 (mem_zip_self hy).2 ⟨rfl,?_⟩)))
 refine wpS_pure ?_
 have e:(!leV rk y x)=HT.lexLt (rk x.1) (rk y.1):=by unfold leV lexLe; simp
 rw [e] at q; exact q
theorem sort_any {a:Addr} {vs:List Value} {n:Nat} {h0:Heap} {P:PySem.Fin->Shared->Prop} (at0:s.heap.get? a=some (seqObj "list" vs.toArray n)) (hz:vs.length<=sizeLine) (R:RunsOk vs.length) (k:KOk prog w h0 vs rk κ) (hb:∀ b o,h0.get? b=some o->b ≠ a/\s.heap.get? b=some o)
  (h:∀ out:List Value,out.Perm vs->out.Pairwise (fun x y=>lexLe (rk x) (rk y)=true)->P (.done (.ret .none)) { s with heap:=sortedHeap s.heap a vs out.toArray }) :
  wpAny (model prog w) A (Builtin.«list.sort» ⟨[.ref a],[]⟩) P E s:=by
 rw [list_sort_plain]
 have la:a < s.heap.objs.size:=Heap.lt_size at0
 refine wpAny_bind (listItems_at at0 rfl (wpAny_bind (listUpdate_at at0 rfl ?_ (by simpa using hz) (Nat.zero_le _))))
 obtain ⟨e1,at1⟩:∃ e1,(s.heap.update a (Obj.mapSeq fun _=>#[])).get? a=some (seqObj "list" #[] e1):=⟨_,get?_update_seq at0 fun _=>#[]⟩
 refine wpAny_bind (seqEpoch_at at1 rfl (wpAny_bind (wpAny_newTuple ?_ (by simpa using hz))))
 refine wpAny_bind (wpAny_newList ?_ (Nat.zero_le _))
 refine wpAny_holding ?_
 have up:∀ {b:Addr} {o:Obj},(s.heap.update a (Obj.mapSeq fun _=>#[])).get? b=some o->(((s.heap.update a (Obj.mapSeq fun _=>#[])).push (seqObj "tuple" vs.toArray 0)).push (seqObj "list" #[] 0)).get? b=some o:=fun e=>Heap.get?_push_of_some _ (Heap.get?_push_of_some _ e)
 have at6:=up at1
 have kp:∀ b o,h0.get? b=some o->(((s.heap.update a (Obj.mapSeq fun _=>#[])).push (seqObj "tuple" vs.toArray 0)).push (seqObj "list" #[] 0)).get? b=some o:=fun b o e=>
  up (by rw [Heap.get?_update_ne _ _ _ _ (hb b o e).1]; exact (hb b o e).2)
 show wpAny (model prog w) A _ P E { s with heap:=((s.heap.update a (Obj.mapSeq fun _=>#[])).push (seqObj "tuple" vs.toArray 0)).push (seqObj "list" #[] 0) }
 dsimp only
 have sz:vs.toArray.size=vs.length:=by simp
 have fin:∀ st':SortSt,(arrOf st').toList.Perm (pairsOf vs).toList->(arrOf st').toList.Pairwise (fun x y=>leV rk x y=true)->P (.done (.ret .none)) { s with heap:=sortedHeap s.heap a vs ((arrOf st').map (·.2)) }:=fun st' p1 p2=>by
  have hm:∀ p ∈ (arrOf st').toList,p.1=p.2:=fun p hp=>by have:=p1.mem_iff.mp hp; rw [pairsOf_toList] at this; exact (mem_zip_self this).1
  have e:(arrOf st').map (·.2)=((arrOf st').toList.map (·.2)).toArray:=by apply Array.toList_inj.mp; simp
  rw [e]
  refine h _ ?_ ?_
  ·have:=p1.map (·.2)
   rwa [pairsOf_toList,List.map_snd_zip (Nat.le_refl _)] at this
  ·rw [List.pairwise_map]
   refine List.Pairwise.imp_of_mem (fun {x y} hx hy q=>?_) p2
   rw [<-hm x hx,<-hm y hy]; exact q
 by_cases h2:vs.toArray.size < 2
 ·rw [if_pos h2,if_pos h2]
  refine wpAny_bind (wpAny_pure ?_)
  rw [StateT.run_pure]
  refine wpAny_bind (wpAny_pure ?_)
  dsimp only
  refine wpAny_bind (seqEpoch_at at6 rfl (wpAny_bind (listUpdate_at at6 rfl ?_ (Nat.zero_le _) (by
   have:((pairsOf vs).map (·.2)).size<=sizeLine + 1:=by rw [Array.size_map,pairsOf_size]; omega
   exact this))))
  simp only [bne_self_eq_false,Bool.false_eq_true,if_false]
  refine wpAny_pure (fin (SortSt.mk' general' (vs.toArray.zip vs.toArray) #[] 7 none) (List.Perm.refl _) ?_)
  show (pairsOf vs).toList.Pairwise _
  rw [pairsOf_toList]
  match vs,sz,h2 with
  | [],_,_=>exact .nil
  | [_],_,_=>exact List.pairwise_singleton _ _
  | _ :: _ :: _,_,h2=>simp at h2; omega
 ·rw [if_neg h2,if_neg h2]
  refine wpAny_bind (k.kind _ _ _ _ kp (by omega) ?_)
  refine wpAny_bind (wpAny_mono (R (by omega) prog w _ _ _ (leV rk) κ (pairsOf vs).toList (SortSt.mk' κ (vs.toArray.zip vs.toArray) #[] 7 none)
   (fun _ st'=>failedOf st' = none/\(arrOf st').toList.Perm (pairsOf vs).toList/\(arrOf st').toList.Pairwise (fun x y=>leV rk x y=true))
   (by rw [Array.length_toList,pairsOf_size]) (k.ltok kp) (fun x y z p q=>lexLe_tr _ _ _ p q) (fun x y=>lexLe_tt _ _) rfl rfl rfl rfl fun st' a1 a2 a3=>⟨a1,a2,a3⟩) ?_ fun _ _ e=>e)
  rintro ⟨⟨⟩,st'⟩ s' ⟨rfl,hf,p1,p2⟩
  dsimp only
  refine wpAny_bind (seqEpoch_at at6 rfl (wpAny_bind (listUpdate_at at6 rfl ?_ (Nat.zero_le _) (by
   have l1:=p1.length_eq
   simp only [Array.length_toList,pairsOf_size] at l1
   have:((arrOf st').map (·.2)).size<=sizeLine + 1:=by rw [Array.size_map]; omega
   exact this))))
  rw [hf]
  simp only [bne_self_eq_false,Bool.false_eq_true,if_false]
  exact wpAny_pure (fin st' p1 p2)
noncomputable def rkH (h:Heap):Value->List Int
 | .int n _=>[n]
 | .ref a=>(match h.get? a with
  | some o=>(match o.data with
   | .seq xs _=>xs.toList.map numOf
   | _=>[])
  | none=>[])
 | _=>[]
theorem kok_ints {h0:Heap} {vs:List Value} (hv:∀ v ∈ vs,∃ n t,v=.int n t):KOk prog w h0 vs (rkH h0) oneType' where
 kind:=fun A E s Q _ h2 q=>by
  have hI:=intsAre_map vs hv
  match vs,hI,h2 with
  | v1 :: v2 :: r,hI,_=>rw [keyKind_ints hI]; exact wpAny_pure q
  | [_],_,h2=>simp at h2
  | [],_,h2=>simp at h2
 lt:=fun A E s Q x y _ hx hy q=>by
  obtain ⟨a,t,rfl⟩:=hv x hx
  obtain ⟨b,u,rfl⟩:=hv y hy
  rw [keyLt'_oneType]
  refine oneLt_int ?_
  have e:HT.lexLt (rkH h0 (.int a t)) (rkH h0 (.int b u))=decide (a < b):=by
   show HT.lexLt [a] [b]=_
   rw [HT.lexLt_cons]
   split
   ·rename_i z; subst z; rw [HT.lexLt_nil_nil]; symm; exact decide_eq_false (by omega)
   ·rfl
  rw [e] at q; exact q
end
end L2.TS
namespace L2.TS
open PySem PyProof.Rows
end L2.TS
namespace L2.L3
open PySem PySem.Spec PyProof.Rows
noncomputable def sortI (ns:List Int):List Int:=ns.mergeSort fun a b=>decide (a<=b)
end L2.L3
namespace L2
open PySem PySem.Spec PyProof.Rows
open AutoSeq1 (wpAny_loadPart')
end L2
namespace L2.L3
open PySem PySem.Spec PyProof.Rows
end L2.L3
namespace L2.L3
open PySem PySem.Spec PyProof.Rows
noncomputable def asR (ρ:DEnv) (i:Nat):Option (Bool × KVs):=match ρ[i]? with
 | some (some (.own _ (.m tk kvs)))=>some (tk,kvs)
 | some (some (.vw (.m tk kvs)))=>some (tk,kvs)
 | _=>none
theorem DSt.dic {K:PySem.W.Frag} {F:Fx} {H:Hp} {σ:St} {ρ:DEnv} {O:List Addr} (st:DSt K F H σ ρ O) {i:Nat} {tk:Bool} {kvs:KVs} (e:asR ρ i=some (tk,kvs)):∃ a,σ[i]? = some (some (.ref a))/\DicAt (hide O H) H a tk kvs:=by
 unfold asR at e
 split at e
 ·rename_i h
  cases e
  obtain ⟨a,fp,hv,⟨_,hd⟩,_,_⟩:=st.box h
  exact ⟨a,hv,hd⟩
 ·rename_i h
  cases e
  obtain ⟨a,fp,hv,⟨_,hd⟩⟩:=st.view h
  refine ⟨a,hv,hd.keep ?_ fun _ _ z=>z⟩
  obtain ⟨o,eo,_⟩:=hd.live
  rw [eo,(of_hide eo).1]
 ·cases e
section
variable {X:Cx} {F:Fx} {E:Str->DEnv->Prop} {e a b c:Expr} {pos:Pos} {x:Str}
noncomputable def dInR (neg:Bool) (i:Nat) (d:PyData):XM PyData:=fun ρ=>lift (match asR ρ i with
 | some (tk,kvs)=>(keyQ tk d).map fun k=>.bool ((dFind tk kvs k).isSome != neg)
 | none=>none) ρ
noncomputable def xDInR (neg:Bool) (i:Nat) (m:XM PyData):XM PyData:=fun ρ=>(m ρ).bind (dInR neg i)
theorem dinR_core {neg:Bool} {i:Nat} {d:PyData} {ρ:DEnv} {σ:St} {H:Hp} {O:List Addr} {Q:PyData->DEnv->Prop} (st:DSt X.K F H σ ρ O) (q:wp E (dInR neg i d) ρ Q) {w:V} (hw:DV (hide O H) w d) :
  ∃ v,σ[i]? = some (some v)/\∃ a o,v=.ref a/\DGet H a w o/\Q (.bool (o.isSome != neg)) ρ:=by
 obtain ⟨y,e1,q2⟩:=wp_lift (o:=match asR ρ i with | some (tk,kvs)=>(keyQ tk d).map fun k=>PyData.bool ((dFind tk kvs k).isSome != neg) | none=>none) (ρ:=ρ) (E:=E) (Q:=Q) q
 cases hm:asR ρ i with
 | none=>rw [hm] at e1; cases e1
 | some p=>
  obtain ⟨tk,kvs⟩:=p
  rw [hm] at e1
  obtain ⟨k,e2,e3⟩:=Option.map_eq_some_iff.mp e1
  subst e3
  obtain ⟨a,hv,hd⟩:=st.dic hm
  obtain ⟨o,g,r⟩:=dic_get hd hide_le hw e2
  refine ⟨_,hv,a,o,rfl,g,?_⟩
  rcases r with ⟨rfl,e⟩ | ⟨v,x,rfl,e,_⟩
  ·rw [e] at q2; exact q2
  ·rw [e] at q2; exact q2
theorem fb_dnotinR {i:Nat} {m:XM PyData} {p1:Pos} (hu:X.A.units + 1 < cLine) (he:FE X F E e m) (hv:PE X (.Name x p1) (tVar i)) (hm:behindInMarks .NotIn (.Name x p1)=false:=by rfl):FB X F E (.Compare e [.NotIn] [.Name x p1] pos) (xTst (xDInR true i m)):=
 ⟨mn_wp,(pt_cmp (pc_dnotin hu he.pe hv) hm).imp fun σ H Q ⟨ρ,O,st,q⟩=>⟨ρ,O,st,mn_wp _ _ _ (fun d ρ1 q1 w H1 O1 st1 s1 d1=>by
  obtain ⟨v,h1,a,o,h2,h3,h4⟩:=dinR_core st1 q1 d1
  obtain ⟨b,hb,h5⟩:=h4
  cases hb
  exact ⟨v,h1,a,o,h2,h3,!o.isSome,rfl,by simpa using h5 H1 O1 st1 s1⟩) (wp_bind (k:=dInR true i) (tst_of q))⟩⟩
noncomputable def dGetR (i:Nat) (d:PyData):XM PyData:=fun ρ=>lift (match asR ρ i with
 | some (tk,kvs)=>(keyQ tk d).bind fun k=>dFind tk kvs k
 | none=>none) ρ
noncomputable def xDGetR (i:Nat) (m:XM PyData):XM PyData:=fun ρ=>match asR ρ i with
 | some _=>(m ρ).bind (dGetR i)
 | none=>.bad
theorem fe_dgetR {i:Nat} {m:XM PyData} {p1:Pos} (hu:X.A.units + 1 < cLine) (hv:PE X (.Name x p1) (tVar i)) (he:FE X F E e m) (hs:NoSl e:=by intro _ _; rfl):FE X F E (.Subscript (.Name x p1) e pos) (xDGetR i m):=
 ⟨mn_wp,(pe_dget hu hv he.pe hs).imp fun σ H Q ⟨ρ,O,st,q⟩=>by
  unfold wp xDGetR at q
  cases hm:asR ρ i with
  | none=>rw [hm] at q; exact q.elim
  | some p=>
   rw [hm] at q
   obtain ⟨tk,kvs⟩:=p
   obtain ⟨a0,hv0,_⟩:=st.dic hm
   refine ⟨_,hv0,ρ,O,st,mn_wp _ _ _ (fun d ρ1 q1 w H1 O1 st1 s1 d1=>?_) (wp_bind (m:=m) (k:=dGetR i) q)⟩
   obtain ⟨y,e1,q2⟩:=wp_lift (o:=match asR ρ1 i with | some (tk,kvs)=>(keyQ tk d).bind fun k=>dFind tk kvs k | none=>none) (ρ:=ρ1) (E:=E) q1
   cases hm2:asR ρ1 i with
   | none=>rw [hm2] at e1; cases e1
   | some p=>
    obtain ⟨tk2,kvs2⟩:=p
    rw [hm2] at e1
    obtain ⟨k,e2,e3⟩:=Option.bind_eq_some_iff.mp e1
    obtain ⟨a,hv2,hd⟩:=st1.dic hm2
    rw [hv0] at hv2
    cases hv2
    obtain ⟨o,g,r⟩:=dic_get hd hide_le d1 e2
    rcases r with ⟨rfl,e⟩ | ⟨v,x,rfl,e,hx⟩
    ·rw [e] at e3; cases e3
    ·rw [e] at e3; cases e3; exact ⟨a0,v,rfl,g,q2 v H1 O1 st1 s1 hx⟩⟩
end
end L2.L3
namespace L2.L3
open PySem PySem.Spec PyProof.Rows
end L2.L3
namespace L2.TS
open PySem PyProof.Rows PySem.W
section
variable {prog:Program} {w:World} {A:Around} {E:Value->Shared->Prop} {s:Shared} {T:String} {r d:Addr} {n:Nat} {P:Nat->Value->Prop} {OK:Heap->Prop}
theorem sorted_src {Q:Value->Shared->Prop} (K:KdlSrc prog w T r d n P OK) (hh:A.handled=none) (hok:OK s.heap) (hn:n<=sizeLine) (R:RunsOk n)
  (h:∀ (h1:Heap) (tk:Nat) (vs:List Value),(∀ b o,s.heap.get? b=some o->h1.get? b=some o)->vs.length=n->(∀ (j:Nat) (v:Value),vs[j]? = some v->P j v)->∃ rk κ,KOk prog w h1 vs rk κ/\
   ∀ (out:List Value) (h2:Heap) (m:Nat),out.Perm vs->out.Pairwise (fun x y=>lexLe (rk x) (rk y)=true)->(∀ b o,h1.get? b=some o->h2.get? b=some o)->h2.get? h1.objs.size=some (seqObj "list" out.toArray m)->Q (.ref h1.objs.size) { s with heap:=h2,toks:=tk }) :
  wpAny (model prog w) A (call (.builtin "sorted") [.ref r]) Q E s:=by
 refine Calls.call_function_entry kind_sorted plain_sorted entry_sorted (args_sorted1 _) ?_
 unfold Builtin.«sorted»
 refine wpAny_bind (m:=checkCount "sorted" 1 1 _) (wpAny_pure ?_)
 refine wpAny_bind (kdu_collect (A:=A.in1) K hh hok hn fun g tk acc gk hacc=>?_)
 have hl:acc.toList.length=n:=by rw [Array.length_toList]; exact hacc.1
 have hz:acc.toList.length<=sizeLine:=by rw [hl]; exact hn
 obtain ⟨rk,κ,k,fin⟩:=h g tk acc.toList gk hl fun j v e=>hacc.2 j v (by rw [<-Array.getElem?_toList]; exact e)
 refine wpAny_bind (wpAny_newList ?_ hz)
 have atL:(g.push (seqObj "list" acc.toList.toArray 0)).get? g.objs.size=some (seqObj "list" acc.toList.toArray 0):=Heap.get?_push_size _ rfl
 have hb:∀ b o,g.get? b=some o->b ≠ g.objs.size/\(g.push (seqObj "list" acc.toList.toArray 0)).get? b=some o:=fun b o e=>⟨Nat.ne_of_lt (Heap.lt_size e),Heap.get?_push_of_some _ e⟩
 refine wpAny_bind (wpAny_holding (wpAny_call_entry slot_list_sort ⟨_,atL,rfl⟩ entry_list_sort (sort_any atL hz (by rw [hl]; exact R) k hb fun out p1 p2=>⟨_,rfl,?_⟩) (args_list_sort _)))
 refine wpAny_pure ⟨_,rfl,?_⟩
 obtain ⟨e1,at1⟩:∃ e1,((g.push (seqObj "list" acc.toList.toArray 0)).update g.objs.size (Obj.mapSeq fun _=>#[])).get? g.objs.size=some (seqObj "list" #[] e1):=⟨_,get?_update_seq atL fun _=>#[]⟩
 have at2:((((g.push (seqObj "list" acc.toList.toArray 0)).update g.objs.size (Obj.mapSeq fun _=>#[])).push (seqObj "tuple" acc.toList.toArray 0)).push (seqObj "list" #[] 0)).get? g.objs.size=some (seqObj "list" #[] e1):=Heap.get?_push_of_some _ (Heap.get?_push_of_some _ at1)
 refine fin out _ _ p1 p2 (fun b o e=>?_) (get?_update_seq at2 fun _=>out.toArray)
 have q:=hb b o e
 unfold sortedHeap
 rw [Heap.get?_update_ne _ _ _ _ q.1]
 refine Heap.get?_push_of_some _ (Heap.get?_push_of_some _ ?_)
 rw [Heap.get?_update_ne _ _ _ _ q.1]
 exact q.2
end
end L2.TS
namespace L2.L3
open PySem PySem.Spec PyProof.Rows PySem.W
section
variable {X:Cx} {F:Fx} {E:Str->DEnv->Prop} {pos p p1:Pos} {x:Str} {i:Nat}
theorem kv_at {κ:Type}:∀ {kvs:List (κ × V)} {vs:List (κ × Value)},KV kvs vs->∀ {j:Nat} {k:κ} {y:Value},vs[j]? = some (k,y)->∃ v,kvs[j]? = some (k,v)
 | _,_,.nil,_,_,_,e=>by simp at e
 | _,_,.cons h t,0,k,y,e=>by
  simp at e
  subst e
  obtain ⟨h1,_⟩:=h
  exact ⟨_,by simp; exact Prod.ext h1 rfl⟩
 | _,_,.cons h t,j + 1,k,y,e=>by
  obtain ⟨v,hv⟩:=kv_at t (j:=j) (by simpa using e)
  exact ⟨v,by simpa using hv⟩
noncomputable def rKeys:List V->Hp->VK->Prop:=fun xs H Q=>∃ p kvs,xs=[.ref p]/\H p=some (.dK kvs)/\∀ l,H l=none->Q (.ref l) (upd H l (.lst (kvs.map fun q=>kV q.1)))
theorem call_keys (hc:X.calm=true):CallR X (.type "list") rKeys:=by
 intro pins s σ H xs us Q I r h
 obtain ⟨p,kvs,rfl,hq,q⟩:=h
 obtain ⟨u,rfl,rx⟩:=vals1 r
 cases rx
 obtain ⟨hz,lo,vs,kv,hD⟩:=dk_of I.hok hq
 obtain ⟨ep,hat⟩:=hD.dictAt
 have hl:=Paired.length kv
 refine kdl_call (kdl_dict (knd:=mixKind X.prog X.w) (kvs:=vs) (ep:=ep) lo) (I.ok.hd hc) hat (by omega) fun h' tk acc c' kp e hacc=>?_
 have rel:Vals (kvs.map fun q=>kV q.1) acc.toList:=by
  have len:(kvs.map fun q=>kV q.1).length=acc.toList.length:=by have:=hacc.1; rw [List.length_map,hl]; simp [this]
  have pt:∀ (j:Nat) (v:Value),acc.toList[j]? = some v->∃ k,kvs[j]?.map (fun q=>kV q.1)=some (kV k)/\RelV (kV k) v:=fun j v e=>by
   obtain ⟨k,y,h1,h2⟩:=hacc.2 j v (by rw [<-Array.getElem?_toList]; exact e)
   obtain ⟨v',hv'⟩:=kv_at kv h1
   refine ⟨k,by rw [hv']; rfl,?_⟩
   rcases keyIs_shape h2 with ⟨n,t,rfl,rfl⟩ | ⟨z,t,rfl,rfl⟩
   ·exact ⟨t,rfl⟩
   ·exact ⟨t,rfl⟩
  have all:∀ (xs:List V) (ys:List Value),xs.length=ys.length->(∀ (j:Nat) (v:Value),ys[j]? = some v->∃ w,xs[j]? = some w/\RelV w v)->Vals xs ys:=fun xs=>by
   induction xs with
   | nil=>intro ys hl _; cases ys with | nil=>exact .nil | cons _ _=>cases hl
   | cons a xs ih=>
    intro ys hl h
    cases ys with
    | nil=>cases hl
    | cons b ys=>
     obtain ⟨w,e1,e2⟩:=h 0 b rfl
     simp at e1
     subst e1
     exact .cons e2 (ih ys (by simpa using hl) fun j v e=>h (j + 1) v (by simpa using e))
  refine all _ _ len fun j v e=>?_
  obtain ⟨k,e1,e2⟩:=pt j v e
  exact ⟨kV k,by rw [List.getElem?_map]; exact e1,e2⟩
 exact ⟨.ref s.heap.objs.size,_,I.laid (t':=tk) kp (Nat.le_refl _) (show ObjOk X.prog X.w _ h' _ (.lst (kvs.map fun q=>kV q.1)) from ⟨by rw [List.length_map]; exact hz,acc.toList,c',rel,by simpa using e⟩),rfl,q _ (I.hok.fresh (Nat.le_refl _))⟩
noncomputable def rKeysP (P:Nat->Prop):List V->Hp->VK->Prop:=fun xs H Q=>∃ p kvs ns,P ns.length/\xs=[.ref p]/\H p=some (.dK kvs)/\kvs.map (·.1)=ns.map Sum.inl/\∀ l,H l=none->Q (.ref l) (upd H l (.lst ((sortI ns).map V.int)))
theorem call_keysP {P:Nat->Prop} (R:∀ n,P n->TS.RunsOk n) (hc:X.calm=true):CallR X (.builtin "sorted") (rKeysP P):=by
 intro pins s σ H xs us Q I r h
 obtain ⟨p,kvs,ns,hPn,rfl,hq,hk,q⟩:=h
 obtain ⟨u,rfl,rx⟩:=vals1 r
 cases rx
 obtain ⟨hz,lo,vs,kv,hD⟩:=dk_of I.hok hq
 obtain ⟨ep,hat⟩:=hD.dictAt
 have hl:=Paired.length kv
 have hln:ns.length=kvs.length:=by have:=congrArg List.length hk; simpa using this.symm
 refine TS.sorted_src (kdl_dict (knd:=mixKind X.prog X.w) (kvs:=vs) (ep:=ep) lo) (I.ok.hd hc) hat (by omega) (by rw [<-hl,<-hln]; exact R _ hPn) fun h1 tk acc kp hlen hP=>?_
 have hints:∀ (j:Nat) (v:Value),acc[j]? = some v->∃ n t,ns[j]? = some n/\v=.int n t:=fun j v e=>by
  obtain ⟨k,y,h2,h3⟩:=hP j v e
  obtain ⟨v',hv'⟩:=kv_at kv h2
  have e1:(kvs.map (·.1))[j]? = some k:=by rw [List.getElem?_map,hv']; rfl
  rw [hk,List.getElem?_map] at e1
  obtain ⟨n,en,e2⟩:=Option.map_eq_some_iff.mp e1
  subst e2
  rcases keyIs_shape (show keyIs (.inl n) v=true from h3) with ⟨n',t,e3,rfl⟩ | ⟨z,t,e3,rfl⟩
  ·cases e3; exact ⟨n,t,en,rfl⟩
  ·cases e3
 have nums:acc.map numOf=ns:=by
  apply List.ext_getElem?
  intro j
  rw [List.getElem?_map]
  cases e:acc[j]? with
  | none=>
   have:acc.length<=j:=List.getElem?_eq_none_iff.mp e
   rw [List.getElem?_eq_none (by omega)]; rfl
  | some v=>
   obtain ⟨n,t,en,rfl⟩:=hints j v e
   rw [en]; rfl
 have hv:∀ v ∈ acc,∃ n t,v=.int n t:=fun v hv=>by
  obtain ⟨j,hj⟩:=List.getElem?_of_mem hv
  obtain ⟨n,t,_,rfl⟩:=hints j v hj
  exact ⟨n,t,rfl⟩
 refine ⟨_,_,TS.kok_ints (h0:=h1) hv,fun out h2 m p1 p2 kp2 e2=>?_⟩
 have hvo:∀ v ∈ out,∃ n t,v=.int n t:=fun v h=>hv v (p1.mem_iff.mp h)
 have so:out.map numOf=sortI ns:=by
  refine List.Perm.eq_of_pairwise (le:=fun a b=>decide (a<=b)=true) (fun a b _ _ h1 h2=>by simp at h1 h2; omega) ?_ (List.pairwise_mergeSort (fun a b c h1 h2=>by simp at *; omega) (fun a b=>by simp; omega) ns) (((p1.map numOf).trans (.of_eq nums)).trans (List.mergeSort_perm _ _).symm)
  rw [List.pairwise_map]
  refine List.Pairwise.imp_of_mem (fun {x y} hx hy h=>?_) p2
  obtain ⟨a,t,rfl⟩:=hvo x hx
  obtain ⟨b,u,rfl⟩:=hvo y hy
  refine decide_eq_true (show a<=b from ?_)
  have h':TS.lexLe [a] [b]=true:=h
  unfold TS.lexLe at h'
  rw [HT.lexLt_cons] at h'
  by_cases e:b=a
  ·exact Int.le_of_eq e.symm
  ·rw [if_neg e] at h'
   by_cases e2:b < a
   ·simp [e2] at h'
   ·omega
 have rel:Vals ((sortI ns).map V.int) out:=by
  rw [<-so]
  have:∀ l:List Value,(∀ v ∈ l,∃ n t,v=Value.int n t)->Vals ((l.map numOf).map V.int) l:=fun l=>by
   induction l with
   | nil=>intro _; exact .nil
   | cons v l ih=>
    intro h
    obtain ⟨n,t,rfl⟩:=h v List.mem_cons_self
    exact .cons ⟨t,rfl⟩ (ih fun u hu=>h u (List.mem_cons_of_mem _ hu))
  exact this out hvo
 have I1:Inv X pins σ H { s with heap:=h1,toks:=tk }:=I.kept (t':=tk) kp
 have lz:((sortI ns).map V.int).length<=sizeLine:=by rw [rel.length,p1.length_eq]; omega
 exact ⟨.ref h1.objs.size,_,I1.laid (t':=tk) kp2 (Nat.le_refl _) (show ObjOk X.prog X.w _ h2 _ (.lst ((sortI ns).map V.int)) from ⟨lz,out,m,rel,e2⟩),rfl,q _ (I1.hok.fresh (Nat.le_refl _))⟩
theorem keyInts:∀ {ks:List (Key × V)} {kvs:KVs} {G:Hp} {ns:List Int},Paired (fun (p:Key × V) (q:PyData × PyData)=>keyD p.1=q.1/\DV G p.2 q.2) ks kvs->intsOf (kvs.map (·.1))=some ns->ks.map (·.1)=ns.map Sum.inl
 | _,_,_,ns,.nil,e=>by cases e; rfl
 | _,_,_,ns,.cons (a:=p) h t,e=>by
  obtain ⟨h1,_⟩:=h
  cases hk:p.1 with
  | inl n=>
   rw [hk] at h1
   rw [List.map_cons,<-h1] at e
   obtain ⟨m,e1,e2⟩:=Option.map_eq_some_iff.mp (show (intsOf _).map (n :: ·)=some ns from e)
   subst e2
   rw [List.map_cons,hk,keyInts t e1]; rfl
  | inr z=>
   rw [hk] at h1
   rw [List.map_cons,<-h1] at e
   cases e
theorem keys_dvs {G G':Hp}:∀ {ks:List (Key × V)} {kvs:KVs},Paired (fun (p:Key × V) (q:PyData × PyData)=>keyD p.1=q.1/\DV G p.2 q.2) ks kvs->DVs G' (ks.map fun q=>kV q.1) (kvs.map (·.1))
 | _,_,.nil=>.nil
 | _,_,.cons (a:=p) (b:=q) h t=>by
  refine .cons ?_ (keys_dvs t)
  dsimp only
  rw [<-h.1]
  cases p.1 with
  | inl n=>exact .int n
  | inr z=>exact .str z
noncomputable def xDKeys (i:Nat):XM PyData:=fun ρ=>lift (match asR ρ i with
 | some (false,kvs)=>some (.list (kvs.map (·.1)))
 | _=>none) ρ
theorem asR_dk {K:PySem.W.Frag} {H:Hp} {σ:St} {ρ:DEnv} {O:List Addr} (st:DSt K F H σ ρ O) {kvs:KVs} (e:asR ρ i=some (false,kvs)):∃ a ks,σ[i]? = some (some (.ref a))/\H a=some (.dK ks)/\Paired (fun (p:Key × V) (q:PyData × PyData)=>keyD p.1=q.1/\DV (hide O H) p.2 q.2) ks kvs:=
 let ⟨a,hv,ks,h1,h2⟩:=st.dic e; ⟨a,ks,hv,h1,h2⟩
theorem fe_dkeys (hc:X.calm=true) (hg:Gl X "list") (hm:X.mg "list" = none) (hv:PE X (.Name x p1) (tVar i)) (he:starEach [.Name x p1] X.env=(false,eval (.Name x p1) X.env) :: starEach [] X.env:=by rfl) (hpl:(backTo pos (starEach [] X.env)).any (·.1)=false:=by rfl) :
  FE X F E (.Call (.Name "list" p) [.Name x p1] [] pos) (xDKeys i):=
 ⟨mn_wp,(pe_callTy (call_keys hc) hg hm (show bootBuiltins "list" = some (.type "list") by decide +kernel) (pa_cons hv pa_nil he) (by decide) (by decide) he hpl).imp fun σ H Q ⟨ρ,O,st,q⟩=>by
  obtain ⟨y,e1,q2⟩:=wp_lift q
  cases hm:asR ρ i with
  | none=>rw [hm] at e1; cases e1
  | some pr=>
   obtain ⟨tk,kvs⟩:=pr
   cases tk with
   | true=>rw [hm] at e1; cases e1
   | false=>
    rw [hm] at e1
    cases e1
    obtain ⟨a,ks,h1,h2,h3⟩:=asR_dk st hm
    exact ⟨_,h1,a,ks,rfl,h2,fun l hl=>q2 _ _ O (st.grow (same_upd hl)) (.same (same_upd hl)) (dv_new_lst hl (st.nofree l hl) (keys_dvs h3))⟩⟩
noncomputable def xDSort (i:Nat):XM PyData:=fun ρ=>lift (match asR ρ i with
 | some (false,kvs)=>(intsOf (kvs.map (·.1))).map fun ns=>.list ((sortI ns).map PyData.int)
 | _=>none) ρ
theorem ints_dvs {G:Hp}:∀ ns:List Int,DVs G (ns.map V.int) (ns.map PyData.int)
 | []=>.nil
 | n :: ns=>.cons (.int n) (ints_dvs ns)
theorem fe_dsort (hc:X.calm=true) (hg:Gl X "sorted") (hm:X.mg "sorted" = none) (hv:PE X (.Name x p1) (tVar i)) (he:starEach [.Name x p1] X.env=(false,eval (.Name x p1) X.env) :: starEach [] X.env:=by rfl) (hpl:(backTo pos (starEach [] X.env)).any (·.1)=false:=by rfl) :
  FE X F E (.Call (.Name "sorted" p) [.Name x p1] [] pos) (xDSort i):=
 ⟨mn_wp,(pe_callB (call_keysP (P:=fun _=>True) (fun n _=>TS.runs_any n) hc) hg hm (show bootBuiltins "sorted" = some (.builtin "sorted") by decide +kernel) (pa_cons hv pa_nil he) (by decide) (by decide) he hpl).imp fun σ H Q ⟨ρ,O,st,q⟩=>by
  obtain ⟨y,e1,q2⟩:=wp_lift q
  cases hm:asR ρ i with
  | none=>rw [hm] at e1; cases e1
  | some pr=>
   obtain ⟨tk,kvs⟩:=pr
   cases tk with
   | true=>rw [hm] at e1; cases e1
   | false=>
    rw [hm] at e1
    obtain ⟨ns,e2,e3⟩:=Option.map_eq_some_iff.mp e1
    subst e3
    obtain ⟨a,ks,h1,h2,h3⟩:=asR_dk st hm
    exact ⟨_,h1,a,ks,ns,trivial,rfl,h2,keyInts h3 e2,fun l hl=>q2 _ _ O (st.grow (same_upd hl)) (.same (same_upd hl)) (dv_new_lst hl (st.nofree l hl) (ints_dvs _))⟩⟩
end
end L2.L3
namespace L2
open PySem PySem.Spec PyProof.Rows
end L2
namespace L2.L3
open PySem PySem.Spec PyProof.Rows
end L2.L3
namespace L2.L3
open PySem PySem.Spec PyProof.Rows
end L2.L3
namespace L2.L3
open PySem PySem.Spec PyProof.Rows
end L2.L3
namespace L2.L3
open PySem PySem.Spec PyProof.Rows
end L2.L3
namespace L2.L3
open PySem
end L2.L3
namespace L2.L3
open PySem
theorem gh_none {mg:Str->Option Value} (h1:mg "ANY_ZONE" = none) (h2:mg "NO_DEEDS" = none) (H:Hp):GH mg H:=fun x d u e1 e2=>by
 unfold glob at e1
 split at e1
 ·rename_i h; subst h; rw [h1] at e2; cases e2
 ·split at e1
  ·rename_i h; subst h; rw [h2] at e2; cases e2
  ·cases e1
end L2.L3
namespace L2.L3
open PySem PySem.Spec PyProof.Rows
end L2.L3
namespace L2.L3
open PySem PySem.Spec PyProof.Rows
end L2.L3
namespace L2.L3
open PySem PySem.Spec PyProof.Rows
end L2.L3
namespace L2
open PySem PySem.Spec PyProof.Rows
end L2
namespace L2.L3
open PySem PySem.Spec PyProof.Rows
end L2.L3
namespace L2.TS
open PySem PyProof.Rows PySem.W
end L2.TS
namespace L2
open PySem PySem.Spec PyProof.Rows
end L2
namespace L2
open PySem PySem.Spec PyProof.Rows
end L2
namespace L2.L3
open PySem PySem.Spec PyProof.Rows
end L2.L3
namespace L2.L3
open PySem PySem.Spec PyProof.Rows
end L2.L3
namespace L2.L3
open PySem PySem.Spec PyProof.Rows
end L2.L3
namespace L2.L3
open PySem PySem.Spec PyProof.Rows
end L2.L3
namespace L2.L3
open PySem PySem.Spec PyProof.Rows
end L2.L3
namespace L2.L3
open PySem PySem.Spec PyProof.Rows
end L2.L3
namespace L2.L3
open PySem PySem.Spec PyProof.Rows
end L2.L3
namespace L2.L3
open PySem PySem.Spec PyProof.Rows
end L2.L3
namespace L2.L3
open PySem PySem.Spec PyProof.Rows
end L2.L3
namespace L2.TS
open PySem PyProof.Rows
noncomputable abbrev Rise (xs:List Nat):Prop:=xs.Pairwise (· < ·)
theorem Rise.lt {xs:List Nat} (r:Rise xs) {i j x y:Nat} (h:i < j) (hi:xs[i]? = some x) (hj:xs[j]? = some y):x < y:=by
 obtain ⟨a,rfl⟩:=List.getElem?_eq_some_iff.mp hi
 obtain ⟨b,rfl⟩:=List.getElem?_eq_some_iff.mp hj
 exact List.pairwise_iff_getElem.mp r i j a b h
theorem below_go {xs:Array Nat} {j:Nat} (r:Rise xs.toList):∀ (fuel lo hi:Nat),hi<=xs.size->lo<=hi->hi - lo<=fuel->(∀ i x,i < lo->xs.toList[i]? = some x->x < j)->(∀ i x,hi<=i->xs.toList[i]? = some x->j<=x)->
  SetTable.below.go xs j fuel lo hi<=xs.size/\(∀ i x,i < SetTable.below.go xs j fuel lo hi->xs.toList[i]? = some x->x < j)/\∀ i x,SetTable.below.go xs j fuel lo hi<=i->xs.toList[i]? = some x->j<=x
 | 0,lo,hi,h1,h2,h3,h4,h5=>by
  have e:lo=hi:=by omega
  subst e
  unfold SetTable.below.go
  exact ⟨h1,h4,h5⟩
 | fuel + 1,lo,hi,h1,h2,h3,h4,h5=>by
  unfold SetTable.below.go
  by_cases c:lo < hi
  ·rw [if_pos c]
   have hm:(lo + hi) / 2 < xs.size:=by omega
   have hm':(lo + hi) / 2 < xs.toList.length:=by simpa using hm
   have em:xs.toList[(lo + hi) / 2]? = some xs[(lo + hi) / 2]:=by rw [List.getElem?_eq_getElem hm']; simp
   have ed:xs.getD ((lo + hi) / 2) j=xs[(lo + hi) / 2]:=by simp [Array.getD,hm]
   dsimp only
   rw [ed]
   by_cases d:xs[(lo + hi) / 2] < j
   ·rw [if_pos d]
    refine below_go r fuel _ hi h1 (by omega) (by omega) (fun i x hi' e=>?_) h5
    rcases Nat.lt_or_eq_of_le (Nat.lt_succ_iff.mp hi') with q | q
    ·exact Nat.lt_trans (r.lt q e em) d
    ·subst q
     rw [em] at e
     cases e
     exact d
   ·rw [if_neg d]
    refine below_go r fuel lo _ (by omega) (by omega) (by omega) h4 (fun i x hi' e=>?_)
    rcases Nat.lt_or_eq_of_le hi' with q | q
    ·exact Nat.le_trans (Nat.not_lt.mp d) (Nat.le_of_lt (r.lt q em e))
    ·subst q
     rw [em] at e
     cases e
     exact Nat.not_lt.mp d
  ·rw [if_neg c]
   have e:lo=hi:=by omega
   subst e
   exact ⟨h1,h4,h5⟩
theorem below_spec {xs:Array Nat} (r:Rise xs.toList) (j:Nat):SetTable.below xs j<=xs.size/\(∀ i x,i < SetTable.below xs j->xs.toList[i]? = some x->x < j)/\∀ i x,SetTable.below xs j<=i->xs.toList[i]? = some x->j<=x:=
 below_go r xs.size 0 xs.size (Nat.le_refl _) (Nat.zero_le _) (Nat.le_refl _) (fun _ _ h=>absurd h (Nat.not_lt_zero _)) fun i x h e=>by
  have:=(List.getElem?_eq_some_iff.mp e).1
  simp at this
  omega
theorem rise_insert {xs:Array Nat} {j:Nat} (r:Rise xs.toList) (hj:j ∉ xs.toList):Rise (SetTable.insertAt xs (SetTable.below xs j) j).toList:=by
 obtain ⟨h1,h2,h3⟩:=below_spec r j
 rw [SetTable.toList_insertAt]
 have split:=List.pairwise_append.mp (show Rise (xs.toList.take (SetTable.below xs j) ++ xs.toList.drop (SetTable.below xs j)) by rw [List.take_append_drop]; exact r)
 have lo:∀ x ∈ xs.toList.take (SetTable.below xs j),x < j:=fun x hx=>by
  obtain ⟨i,hi⟩:=List.mem_iff_getElem?.mp hx
  have hl:=(List.getElem?_eq_some_iff.mp hi).1
  rw [List.length_take] at hl
  rw [List.getElem?_take_of_lt (by omega)] at hi
  exact h2 i x (by omega) hi
 have hi:∀ x ∈ xs.toList.drop (SetTable.below xs j),j < x:=fun x hx=>by
  obtain ⟨i,hi⟩:=List.mem_iff_getElem?.mp hx
  rw [List.getElem?_drop] at hi
  have:=h3 _ x (Nat.le_add_right _ _) hi
  exact Nat.lt_of_le_of_ne this fun e=>hj (e ▸ List.mem_of_mem_drop hx)
 refine List.pairwise_append.mpr ⟨split.1,List.pairwise_cons.mpr ⟨hi,split.2.1⟩,fun x hx y hy=>?_⟩
 rcases List.mem_cons.mp hy with rfl | hy
 ·exact lo x hx
 ·exact split.2.2 x hx y hy
theorem slot_notin {t:SetTable} {j:Nat} (r:Rise t.place.toList) (h:∀ i,t.slot j ≠ .live i):j ∉ t.place.toList:=fun hm=>by
 obtain ⟨i,hi⟩:=List.mem_iff_getElem?.mp hm
 obtain ⟨h1,h2,h3⟩:=below_spec r j
 have h4:SetTable.below t.place j<=i:=Nat.le_of_not_lt fun c=>Nat.lt_irrefl _ (h2 i j c hi)
 have hl:=(List.getElem?_eq_some_iff.mp hi).1
 have e:t.place.toList[SetTable.below t.place j]? = some j:=by
  obtain ⟨x,hx⟩:∃ x,t.place.toList[SetTable.below t.place j]? = some x:=⟨_,List.getElem?_eq_getElem (by omega)⟩
  rcases Nat.lt_or_eq_of_le h4 with c | c
  ·have:=r.lt c hx hi
   have:=h3 _ x (Nat.le_refl _) hx
   omega
  ·rw [c]; exact hi
 rw [Array.getElem?_toList] at e
 refine h (SetTable.below t.place j) ?_
 unfold SetTable.slot
 simp [e]
theorem probe_go {t:SetTable} {h:Int}:∀ (fuel:Nat) (p:SetTable.Probe) (j:Nat) (d:Option Nat),(∀ q,p.dummy=some q->t.slot q=.dummy)->SetTable.probe.go t (fun _=>h + 1) h fuel p=some (.empty j d)->t.slot j=.empty/\∀ q,d=some q->t.slot q=.dummy
 | 0,_,_,_,_,e=>by unfold SetTable.probe.go at e; cases e
 | fuel + 1,p,j,d,hp,e=>by
  have adv:∀ p:SetTable.Probe,(t.advance p).dummy=p.dummy:=fun p=>by unfold SetTable.advance; split <;> rfl
  unfold SetTable.probe.go at e
  cases q:t.slot p.j with
  | empty=>
   rw [q] at e
   cases e
   exact ⟨q,hp⟩
  | dummy=>
   rw [q] at e
   refine probe_go fuel _ j d (fun x hx=>?_) e
   rw [adv] at hx
   cases hx
   exact q
  | live i=>
   rw [q] at e
   have:((h + 1 == h)=true)=False:=by simp; omega
   simp only [this,if_false] at e
   exact probe_go fuel _ j d (fun x hx=>hp x (by rw [adv] at hx; exact hx)) e
theorem free_notin {t:SetTable} {h:Int} {j:Nat} {b:Bool} (r:Rise t.place.toList) (e:t.freeSlot h=some (j,b)):j ∉ t.place.toList:=by
 unfold SetTable.freeSlot SetTable.probe at e
 split at e
 ·rename_i j' d' e'
  obtain ⟨h1,h2⟩:=probe_go _ _ _ _ (fun q hq=>by cases hq) e'
  cases e
  cases d' with
  | none=>exact slot_notin r fun i c=>by rw [Option.getD_none,h1] at c; cases c
  | some q=>exact slot_notin r fun i c=>by rw [Option.getD_some,h2 q rfl] at c; cases c
 ·cases e
theorem rise_range (n:Nat):Rise (Array.range n).toList:=by
 rw [Array.toList_range]
 exact List.pairwise_lt_range
theorem orStand_rise {t:SetTable} (n:Nat) (r:Rise t.place.toList):Rise (t.orStandIn n).place.toList/\(t.orStandIn n).led=t.led:=by
 unfold SetTable.orStandIn
 split
 ·exact ⟨r,rfl⟩
 ·exact ⟨rise_range _,rfl⟩
theorem layNew_rise {t:SetTable} (es:Array (Int × Value)) (h:Int) (x:Value) (r:Rise t.place.toList):Rise (layNew t es h x).2.1.place.toList/\(layNew t es h x).2.1.led=t.led:=by
 unfold layNew
 split
 ·rename_i j b e
  exact orStand_rise (t:=(t.put j).1) _ (rise_insert r (free_notin r e))
 ·exact ⟨rise_range _,rfl⟩
theorem firsts_sub {β:Type} {g:Nat->Option β}:∀ l:List Nat,((l.filterMap fun j=>(g j).map (j,·)).map (·.1)).Sublist l
 | []=>.slnil
 | a :: l=>by
  rw [List.filterMap_cons]
  cases e:g a with
  | none=>exact .cons _ (firsts_sub l)
  | some b=>exact .cons₂ _ (firsts_sub l)
theorem relayAll_rise {t:SetTable} (es:Array (Int × Value)) (n:Nat):Rise (relayAll t es n).2.1.place.toList/\(relayAll t es n).2.1.led=t.led:=by
 unfold relayAll
 split
 ·rename_i t' order e
  dsimp only
  split
  ·unfold SetTable.relaid SetTable.laid at e
   simp only [bind,Option.bind,pure] at e
   split at e
   ·cases e
   ·cases e
    refine ⟨?_,rfl⟩
    dsimp only
    exact List.pairwise_lt_range.sublist (firsts_sub _)
  ·exact ⟨rise_range _,rfl⟩
 ·exact ⟨rise_range _,rfl⟩
end L2.TS
namespace L2.TS
open PySem PyProof.Rows PySem.W
end L2.TS
namespace L2.L3
open PySem PySem.Spec PyProof.Rows PySem.W
end L2.L3
namespace L2.TS
open PySem PyProof.Rows
section
variable {prog:Program} {w:World} {A:Around} {E:Value->Shared->Prop} {s:Shared}
noncomputable def SetO (prog:Program) (w:World) (o:Obj) (led:Bool) (ks:List Int):Prop:=
 ∃ es ep t,o.ExactSet/\o.data=.set es ep t/\ElemsOf (intKind prog w) es.toList/\ks=es.toList.map (fun e=>numOf e.2)/\es.size < scanBound/\t.fits es.size=true/\Rise t.place.toList/\t.led=led
theorem elem_int {es:List (Int × Value)} (h:ElemsOf (intKind prog w) es) {e:Int × Value} (he:e ∈ es):∃ t,e.2=.int (numOf e.2) t:=by
 obtain ⟨⟨k,h1,_⟩,_⟩:=h e he
 obtain ⟨t,h2⟩:=Value.isInt_shape (show Value.isInt k e.2=true from h1)
 rw [h2]
 exact ⟨t,rfl⟩
theorem idx_mem {es:List (Int × Value)} (h:ElemsOf (intKind prog w) es) (k:Int):(es.findIdx? fun e=>(intKind prog w).is k e.2).isSome=decide (k ∈ es.map fun e=>numOf e.2):=by
 have key:∀ e ∈ es,(intKind prog w).is k e.2=decide (k=numOf e.2):=fun e he=>by
  obtain ⟨t,ht⟩:=elem_int h he
  rw [ht]
  show Value.isInt k (.int (numOf e.2) t)=_
  show (numOf e.2 == k)=decide (k=numOf e.2)
  rw [Bool.eq_iff_iff]
  exact beq_iff_eq.trans (eq_comm.trans decide_eq_true_iff.symm)
 cases q:es.findIdx? fun e=>(intKind prog w).is k e.2 with
 | none=>
  refine (decide_eq_false fun hm=>?_).symm
  obtain ⟨e,he,rfl⟩:=List.mem_map.mp hm
  have:=List.findIdx?_eq_none_iff.mp q e he
  rw [key e he] at this
  simp at this
 | some j=>
  obtain ⟨hj,h2,_⟩:=List.findIdx?_eq_some_iff_getElem.mp q
  refine (decide_eq_true (List.mem_map.mpr ⟨es[j],List.getElem_mem hj,?_⟩)).symm
  rw [key _ (List.getElem_mem hj)] at h2
  exact (of_decide_eq_true h2).symm
theorem set_store {a:Addr} {o:Obj} {es es':Array (Int × Value)} {ep:Nat} {t t':SetTable} {Q:Unit->Shared->Prop} (ho:s.heap.get? a=some o) (hx:o.ExactSet) (hd:o.data=.set es ep t) (hb:es'.size < scanBound)
  (q:∀ h' o',Heap.SameBut a s.heap h'->h'.get? a=some o'->o'.ExactSet->o'.data=.set es' (ep + 1) t'->Q () { s with heap:=h' }):wpAny (model prog w) A (storeSet a es' t') Q E s:=by
 have hg:=Heap.get?_update_self (Obj.putSet es' t') ho (by rw [putSet_of es' t' hd]; rfl)
 rw [putSet_of es' t' hd] at hg
 exact wpAny_storeSet_of ho hd (q _ _ (Heap.SameBut.update s.heap a _) hg hx rfl) (fits_of_scanBound hb)
theorem gave_way (b:Bool) {Q:Unit->Shared->Prop} (q:Q () s):wpAny (model prog w) A (match b with | true=>rule "set.scan.the-table-gave-way" | false=>pure ()) Q E s:=by
 cases b
 ·exact wpAny_pure q
 ·exact wpAny_rule q
theorem set_tail {g:Bool->Sem Unit} (hg:∀ (b:Bool) (s₁:Shared) (Q':Unit->Shared->Prop),Q' () s₁->wpAny (model prog w) A (g b) Q' E s₁) {a:Addr} {o:Obj} {es es1:Array (Int × Value)} {ep:Nat} {t t2:SetTable} {led wd:Bool} {R:Option Bool->Shared->Prop}
  (ho:s.heap.get? a=some o) (hx:o.ExactSet) (hd:o.data=.set es ep t) (hel:ElemsOf (intKind prog w) es1.toList) (hb:es1.size < scanBound) (hf:t2.fits es1.size=true) (hr:Rise t2.place.toList) (hl:t2.led=led)
  (h:∀ h' o' ks',Heap.SameBut a s.heap h'->h'.get? a=some o'->SetO prog w o' led ks'->ks'.Perm (es1.toList.map fun e=>numOf e.2)->R (some true) { s with heap:=h' }) :
  wpAny (model prog w) A (do
    storeSet a es1 t2
    if (!wd && t2.tooFull)=true then do
      g (relayAll t2 es1 (SetTable.grown es1.size)).2.2
      storeSet a (relayAll t2 es1 (SetTable.grown es1.size)).1 (relayAll t2 es1 (SetTable.grown es1.size)).2.1
      pure (some true)
     else pure (some true)) R E s:=by
 refine wpAny_bind (set_store ho hx hd hb fun h1 o1 sb1 ho1 hx1 hd1=>?_)
 split
 ·have hp:=relayAll_perm t2 es1 (SetTable.grown es1.size)
  have hz:(relayAll t2 es1 (SetTable.grown es1.size)).1.size=es1.size:=by rw [<-Array.length_toList,hp.length_eq,Array.length_toList]
  refine wpAny_bind (hg _ _ _ (wpAny_bind (set_store (s:={ s with heap:=h1 }) ho1 hx1 hd1 (by rw [hz]; exact hb) fun h2 o2 sb2 ho2 hx2 hd2=>?_)))
  have rr:=relayAll_rise (t:=t2) es1 (SetTable.grown es1.size)
  exact wpAny_pure (h h2 o2 _ (sb1.trans sb2) ho2 ⟨_,_,_,hx2,hd2,hel.perm hp,rfl,by rw [hz]; exact hb,relayAll_fits t2 es1 _,rr.1,rr.2.trans hl⟩ (hp.map _))
 ·exact wpAny_pure (h h1 o1 _ sb1 ho1 ⟨_,_,_,hx1,hd1,hel,rfl,hb,hf,hr,hl⟩ (.refl _))
theorem set_add {a:Addr} {o:Obj} {k:Int} {tk:Tok} {ks:List Int} {led:Bool} {Q:Bool->Shared->Prop} (ho:s.heap.get? a=some o) (hS:SetO prog w o led ks) (room:ks.length + 1 < scanBound)
  (h:∀ b h' o' ks',Heap.SameBut a s.heap h'->h'.get? a=some o'->SetO prog w o' led ks'->ks'.Perm (if k ∈ ks then ks else ks ++ [k])->Q b { s with heap:=h' }) :
  wpAny (model prog w) A (setAddHashed a (.int k tk) ((intKind prog w).hash k)) Q E s:=by
 obtain ⟨es,ep,t,hx,hd,hel,rfl,hb,hf,hr,hl⟩:=id hS
 have hk:(intKind prog w).is k (.int k tk)=true:=intKind_is _ _ _ _
 have hb1:es.size + 1 < scanBound:=by simpa using room
 unfold setAddHashed setAddHashedIn
 refine wpAny_holding (wpAny_bind (wpAny_setState_of ho hd hf ?_))
 dsimp only
 rw [byScan_of (knd:=intKind prog w) rfl hb hel]
 simp only [↓reduceIte]
 unfold setAddByScan
 refine wpAny_bind (wpAny_bind (wpAny_rule (wpAny_bind (wpAny_setScan_of hk ho hd hf hel ?_))))
 have im:=idx_mem hel k
 cases hi:es.toList.findIdx? fun e=>(intKind prog w).is k e.2 with
 | some j=>
  rw [hi] at im
  have mem:=of_decide_eq_true im.symm
  refine wpAny_pure (wpAny_pure ?_)
  exact h _ s.heap o _ (Heap.SameBut.refl a s.heap) ho hS (by rw [if_pos mem])
 | none=>
  rw [hi] at im
  have mem:=of_decide_eq_false im.symm
  dsimp only
  have hp:=layNew_perm t es ((intKind prog w).hash k) (.int k tk)
  have hfit:=layNew_fits t es ((intKind prog w).hash k) (.int k tk)
  have hrise:=layNew_rise es ((intKind prog w).hash k) (.int k tk) hr
  generalize layNew t es ((intKind prog w).hash k) (.int k tk)=L at hp hfit hrise ⊢
  obtain ⟨es1,t1,wd,gv⟩:=L
  dsimp only at hp hfit hrise ⊢
  rw [Array.toList_push] at hp
  have hel1:ElemsOf (intKind prog w) es1.toList:=(hel.push hk rfl).perm hp
  have hz1:es1.size=es.size + 1:=by rw [<-Array.length_toList,hp.length_eq,List.length_append,Array.length_toList]; rfl
  have fin:∀ h' o' ks',Heap.SameBut a s.heap h'->h'.get? a=some o'->SetO prog w o' led ks'->ks'.Perm (es1.toList.map fun e=>numOf e.2)->wpAny (model prog w) A (pure true) Q E { s with heap:=h' }:=fun h' o' ks' sb ho' hS' pm=>by
   refine wpAny_pure (h _ h' o' ks' sb ho' hS' ?_)
   rw [if_neg mem]
   refine pm.trans ((hp.map _).trans (.of_eq ?_))
   rw [List.map_append]
   rfl
  refine wpAny_bind (gave_way _ ?_)
  split
  ·refine wpAny_bind ?_
   rw [hashByValue_scannable 8 (show (Value.int k tk).scannable=true from rfl)]
   refine wpAny_pure ?_
   exact set_tail (fun b s₁ Q' q=>gave_way b q) ho hx hd hel1 (by omega) hfit hrise.1 (hrise.2.trans hl) fun h' o' ks' sb ho' hS' pm=>fin h' o' ks' sb ho' hS' pm
  ·refine wpAny_bind (wpAny_pure ?_)
   exact set_tail (fun b s₁ Q' q=>gave_way b q) ho hx hd hel1 (by omega) hfit hrise.1 (hrise.2.trans hl) fun h' o' ks' sb ho' hS' pm=>fin h' o' ks' sb ho' hS' pm
noncomputable def addI (σ:List Int) (k:Int):List Int:=if k ∈ σ then σ else σ ++ [k]
noncomputable def onceI (ns:List Int):List Int:=ns.foldl addI []
theorem addI_perm {a b:List Int} (p:a.Perm b) (k:Int):(if k ∈ a then a else a ++ [k]).Perm (addI b k):=by
 unfold addI
 by_cases h:k ∈ a
 ·rw [if_pos h,if_pos (p.mem_iff.mp h)]; exact p
 ·rw [if_neg h,if_neg fun q=>h (p.mem_iff.mpr q)]; exact p.append_right _
theorem addI_len (σ:List Int) (k:Int):(addI σ k).length<=σ.length + 1:=by unfold addI; split <;> simp
theorem foldI_len:∀ (ns σ:List Int),(ns.foldl addI σ).length<=σ.length + ns.length
 | [],σ=>by simp
 | n :: ns,σ=>by
  have h1:=foldI_len ns (addI σ n)
  have h2:=addI_len σ n
  simp only [List.foldl_cons,List.length_cons]
  omega
theorem onceI_len (ns:List Int):(onceI ns).length<=ns.length:=by simpa [onceI] using foldI_len ns []
theorem once_succ {ns:List Int} {i:Nat} {n:Int} (e:ns[i]? = some n):onceI (ns.take (i + 1))=addI (onceI (ns.take i)) n:=by
 unfold onceI
 rw [List.take_add_one,e,Option.toList_some,List.foldl_append]
 rfl
theorem set_loop {R:Result->Shared->Prop} {I:Addr} {fp wr:List Addr} {G:Array GenState->Array GenState->Prop} {P:Nat->Value->Prop} {St:Nat->Shared->Prop} {ns:List Int} {led:Bool} (W:WalksS prog w A.in1 I fp wr G ns.length P St) {S:Addr} (hSf:S ∉ fp)
  (hval:∀ i v,P i v->∃ n t,ns[i]? = some n/\v=.int n t) (hb:ns.length + 1 < scanBound):∀ (k i:Nat) (s:Shared),ns.length - i=k->i<=ns.length->St i s->(∃ o ks,s.heap.get? S=some o/\SetO prog w o led ks/\ks.Perm (onceI (ns.take i)))->
   (∀ s' o ks,Moved (S :: wr) G s s'->s'.heap.get? S=some o->SetO prog w o led ks->ks.Perm (onceI ns)->R (.ok (.ret .none)) s')->codeAny (model prog w) A (.builtin "set.update.loop" ⟨[.ref S,.ref I],[]⟩) R s:=by
 have hSw:S ∉ wr:=fun h=>hSf (W.sub _ h)
 have up:∀ b ∈ wr,b ∈ S :: wr:=fun b hb=>.tail _ hb
 intro k
 induction k with
 | zero=>
  intro i s hk hi st ⟨o,ks,ho,hS,hp⟩ hR
  obtain rfl:i=ns.length:=by omega
  refine codeAny_builtin PyProof.Rows.F.entry_set_update_loop ?_
  rw [Around.under_plainId PyProof.Rows.F.plain_set_update_loop _]
  refine wpAny_bind (W.done s _ _ st fun s' hm=>wpAny_pure ?_)
  exact hR s' o ks (hm.mono up) (hm.heap S _ hSw ho) hS (by rw [List.take_length] at hp; exact hp)
 | succ k ih=>
  intro i s hk hi st ⟨o,ks,ho,hS,hp⟩ hR
  have hlt:i < ns.length:=by omega
  refine codeAny_builtin PyProof.Rows.F.entry_set_update_loop ?_
  rw [Around.under_plainId PyProof.Rows.F.plain_set_update_loop _]
  refine wpAny_bind (W.item i s _ _ hlt st fun v s' hP st' hm=>?_)
  obtain ⟨n,t,en,rfl⟩:=hval i v hP
  have ho':=hm.heap S _ hSw ho
  refine wpAny_bind (wpAny_holding ?_)
  unfold setAdd
  refine wpAny_holding (wpAny_bind ((intKind prog w).pyHash (k:=n) (intKind_is _ _ _ _) ?_))
  have room:ks.length + 1 < scanBound:=by
   have:=onceI_len (ns.take i)
   have:=List.length_take_le i ns
   rw [hp.length_eq]; omega
  refine set_add (s:={ s' with toks:=s'.toks + 1 }) ho' hS room fun b h' o' ks' sb e' hS' hp'=>?_
  refine wpAny_pure ⟨plainId_quiet PyProof.Rows.F.plain_set_update_loop _,ih (i + 1) _ (by omega) hlt (W.frame _ s' _ _ st' (Nat.le_succ _) fun b hb o e=>?_) ⟨o',ks',e',hS',?_⟩ fun s'' o'' ks'' hm'' e'' hS'' hp''=>?_⟩
  ·rw [sb.2 b (fun h:b=S=>hSf (by rw [<-h]; exact hb))]; exact e
  ·rw [once_succ en]; exact hp'.trans (addI_perm hp n)
  ·refine hR s'' o'' ks'' (Moved.trans W.gtrans ((hm.mono up).then_heap (Nat.le_succ _) fun b o hb e=>?_) hm'') e'' hS'' hp''
   rw [sb.2 b (fun h:b=S=>hb (by rw [h]; exact .head _))]; exact e
noncomputable def ledW (w:World):Bool:=!w.params.followText "set-order"
noncomputable abbrev setObj (led:Bool):Obj:={ cls:=.type "set",dict:=none,data:=.set #[] 0 (.fresh 0 0 led) }
theorem setObj_ok (led:Bool):SetO prog w (setObj led) led []:=⟨#[],0,.fresh 0 0 led,⟨rfl,rfl,rfl⟩,rfl,(fun _ h=>by simp at h),rfl,by decide,rfl,.nil,rfl⟩
theorem code_setnew (a:Value) {Q₁:Value->Shared->Prop} (h:Q₁ (.ref s.heap.objs.size) { s with heap:=s.heap.push (setObj (ledW w)) }) :
  codeAny (model prog w) A (.call (.builtin "set.__new__") ⟨[.type "set",a],[]⟩) (wants Q₁ E) s:=by
 refine codeAny_of_tree (wpAny_bind (wpAny_of_eq (PySem.F.newCall_set_1 a) (wpAny_pure ⟨plainId_quiet PySem.F.plain_set_new _,codeAny_builtin PySem.F.entry_set_new ?_⟩)))
 rw [Around.under_plainId PySem.F.plain_set_new _]
 unfold Builtin.«set.__new__» Builtin.Frozenset.newClass
 have hsub:=sub_set_self
 obtain ⟨hp,g,d,tk,os⟩:=s
 dsimp only
 wp_walk
 refine wpAny_askSetting (wpAny_pure ?_)
 dsimp only
 simp only [newObj]
 exact wpAny_bind (wpAny_alloc (wpAny_pure (wpAny_pure h)))
theorem call_set {l:Addr} {items:Array Value} {ns:List Int} {Q:Value->Shared->Prop} (hh:A.handled=none) (hl:s.heap.IsList l items) (hi:IntsAre items.toList ns) (hb:ns.length + 1 < scanBound)
  (h:∀ (h':Heap) (tk:Nat) (o:Obj) (ks:List Int),(∀ b u,s.heap.get? b=some u->h'.get? b=some u)->h'.get? s.heap.objs.size=some o->SetO prog w o (ledW w) ks->ks.Perm (onceI ns)->Q (.ref s.heap.objs.size) { s with heap:=h',toks:=tk }) :
  wpAny (model prog w) A (call (.type "set") [.ref l]) Q E s:=by
 obtain ⟨c,tl,hmro⟩:=PySem.F.called_set.mro
 have hmade:=PySem.F.called_set.made
 have hsub:=PySem.F.called_set.sub
 refine wpAny_call (codeAny_of_tree (wpAny_pure ⟨Code.quiet_builtin _ (by decide +kernel),codeAny_builtin PySem.F.entry_type_call ?_⟩))
 rw [Around.under_plain (weight_type_call_type "set" [.ref l] []) rfl]
 have h1:=PySem.F.called_set.notType
 have h2:=PySem.F.called_set.canCreate
 have hct:=PySem.F.typeCall_set_1 (.ref l)
 repeat (any_goals (first | assumption | wp_step))
 refine codeAny_mono (code_setnew (.ref l) (E:=E) (Q₁:=fun obj s₁=>obj=.ref s.heap.objs.size/\s₁ = { s with heap:=s.heap.push (setObj (ledW w)) }) ⟨rfl,rfl⟩) fun r s₁ hr=>?_
 cases r with
 | error e=>exact hr
 | ok fl=>
  cases fl with
  | ret obj=>
   obtain ⟨rfl,rfl⟩:=hr
   have hS:(s.heap.push (setObj (ledW w))).get? s.heap.objs.size=some (setObj (ledW w)):=Heap.get?_push_size _ rfl
   have hT:Shared.TypeIs { s with heap:=s.heap.push (setObj (ledW w)) } (.ref s.heap.objs.size) "set":=⟨_,hS,rfl⟩
   have hli:=PySem.F.called_set.init.lookup
   have hbi:=PySem.F.called_set.init.bind (.ref s.heap.objs.size)
   repeat (any_goals (first | assumption | wp_step))
   refine codeAny_mono (codeAny_call_builtin (R:=wants (fun r s₂=>r=.none/\Q (.ref s.heap.objs.size) s₂) E) PySem.F.called_set.init.plain PySem.F.entry_set_init (check_set_init_1 hT ?_)) fun r₂ s₂ hr₂=>?_
   ·obtain ⟨⟨ocls,odict,odata,oslots⟩,hol,hcl,nl,hdl⟩:=hl
    simp only at hcl hdl
    subst hcl hdl
    have hol':(s.heap.push (setObj (ledW w))).get? l=some { cls:=.type "list",dict:=odict,data:=.seq items nl,slots:=oslots }:=Heap.get?_push_of_some _ hol
    have hsls:=PySem.F.sub_list_set
    have hslf:=PySem.F.sub_list_frozenset
    have hne:(Value.type "list" == Value.type "dict")=false:=by decide
    have hl1:(s.heap.push (setObj (ledW w))).IsList l items:=⟨_,hol',rfl,nl,rfl⟩
    unfold Builtin.«set.__init__» noKeywords Builtin.Frozenset.updateFrom
    generalize hPI:pyIter=PI
    wp_walk
    subst hPI
    refine wpAny_pyIter_list hl1 (wpAny_bind (wpAny_runValue ?_))
    have hlS:l < s.heap.objs.size:=Heap.lt_size hol
    have hz:(s.heap.push (setObj (ledW w))).objs.size=s.heap.objs.size + 1:=Heap.size_push ..
    have hn:ns.length=items.size:=by rw [<-Array.length_toList]; exact hi.length.symm
    have W:=(Walks.list (prog:=prog) (w:=w) (A:=A.in1.in1.in1) (by simp [hh]) (s.heap.push (setObj (ledW w))).objs.size l (by rw [hz]; exact Nat.ne_of_lt (Nat.lt_succ_of_lt hlS)) items).toS
    rw [<-hn] at W
    refine set_loop (ns:=ns) (led:=ledW w) W (S:=s.heap.objs.size) ?_ (fun i v hv=>?_) hb (ns.length - 0) 0 _ rfl (Nat.zero_le _) ⟨⟨_,Heap.get?_push_size _ rfl,rfl,rfl⟩,hl1.push _⟩ ⟨_,[],Heap.get?_push_of_some _ hS,setObj_ok _,.refl _⟩ fun s' o ks hm ho hS' hp=>?_
    ·rw [hz]
     simp only [List.mem_cons,List.not_mem_nil,or_false,not_or]
     exact ⟨Nat.ne_of_lt (Nat.lt_succ_self _),Nat.ne_of_gt hlS⟩
    ·have hv':items.toList[i]? = some v:=by rw [Array.getElem?_toList]; exact hv
     obtain ⟨t,rfl⟩:=IntsAre.int_at hi i v hv'
     have hlt:i < ns.length:=by rw [hn,<-Array.length_toList]; exact (List.getElem?_eq_some_iff.mp hv').1
     exact ⟨ns.getD i 0,t,by rw [List.getD_eq_getElem?_getD,List.getElem?_eq_getElem hlt]; rfl,rfl⟩
    ·obtain ⟨h',g',d',tk',os'⟩:=s'
     obtain rfl:g' = s.gens:=hm.gens
     obtain rfl:d' = s.drawn:=hm.drawn
     obtain rfl:os' = s.os:=hm.os
     refine wpAny_pure (wpAny_pure ⟨rfl,h h' tk' o ks (fun b u e=>?_) ho hS' hp⟩)
     have hb:=Heap.lt_size e
     refine hm.heap b u ?_ (Heap.get?_push_of_some _ (Heap.get?_push_of_some _ e))
     rw [hz]
     simp only [List.mem_cons,List.not_mem_nil,or_false,not_or]
     exact ⟨Nat.ne_of_lt hb,Nat.ne_of_lt (Nat.lt_succ_of_lt hb)⟩
   ·cases r₂ with
    | error e=>exact hr₂
    | ok fl₂=>
     cases fl₂ with
     | ret r=>
      obtain ⟨rfl,hq⟩:=hr₂
      repeat (any_goals (first | assumption | wp_step))
     | _=>exact hr₂.elim
  | _=>exact hr.elim
end
end L2.TS
namespace L2.TS
open PySem PyProof.Rows
theorem erase_perm {α:Type}:∀ {l:List α} {i:Nat} (h:i < l.length),(l[i] :: l.eraseIdx i).Perm l
 | x :: xs,0,h=>.refl _
 | x :: xs,i + 1,h=>(List.Perm.swap x _ _).trans ((erase_perm (Nat.lt_of_succ_lt_succ h)).cons x)
theorem pick_go {α:Type} (nx:Nat->Nat):∀ (fuel k:Nat) (left:List α) (out:Array α),left.length<=fuel->(pickOrder.go nx fuel k left out).toList.Perm (out.toList ++ left)
 | 0,k,left,out,h=>by
  have:left=[]:=List.length_eq_zero_iff.mp (Nat.le_zero.mp h)
  subst this
  unfold pickOrder.go
  simp
 | fuel + 1,k,left,out,h=>by
  unfold pickOrder.go
  cases left with
  | nil=>simp
  | cons y ys=>
   have hlt:nx k % (y :: ys).length < (y :: ys).length:=Nat.mod_lt _ (Nat.succ_pos _)
   rw [List.getElem?_eq_getElem hlt]
   dsimp only
   refine (pick_go nx fuel _ _ _ (by rw [List.length_eraseIdx_of_lt hlt]; simp at h ⊢; omega)).trans ?_
   rw [Array.toList_push,List.append_assoc]
   exact (erase_perm hlt).append_left _
theorem pick_perm {α:Type} (nx:Nat->Nat) (xs:Array α):(pickOrder nx xs).toList.Perm xs.toList:=by
 unfold pickOrder
 simpa using pick_go nx xs.size 0 xs.toList #[] (by simp)
section
variable {prog:Program} {w:World} {A:Around} {E:Value->Shared->Prop} {s:Shared}
theorem draw_order {α:Type}:∀ (n:Nat) (xs:List α) (s:Shared) (Q:List α->Shared->Prop),xs.length<=n->(∀ ys d,ys.Perm xs->Q ys { s with drawn:=d })->wpAny (model prog w) A (drawOrder n xs) Q E s
 | 0,xs,s,Q,h,q=>by
  obtain rfl:xs=[]:=List.length_eq_zero_iff.mp (Nat.le_zero.mp h)
  unfold drawOrder
  exact wpAny_pure (q [] s.drawn .nil)
 | n + 1,[],s,Q,h,q=>by
  unfold drawOrder
  exact wpAny_pure (q [] s.drawn .nil)
 | n + 1,x :: xs,s,Q,h,q=>by
  unfold drawOrder
  have ch:∀ {R:Nat->Shared->Prop},(∀ i d,i < (x :: xs).length->R i { s with drawn:=d })->wpAny (model prog w) A (choose .order (x :: xs).length) R E s:=fun {R} hR Γ p hΓ=>by
   show (x :: xs).length ≠ 0/\R _ _
   exact ⟨Nat.succ_ne_zero _,hR _ _ (Nat.mod_lt _ (Nat.succ_pos _))⟩
  refine wpAny_bind (ch fun i d hi=>?_)
  rw [List.getElem?_eq_getElem hi]
  refine wpAny_bind (draw_order n _ _ _ (by rw [List.length_eraseIdx_of_lt hi]; simp at h ⊢; omega) fun ys d' hp=>wpAny_pure ?_)
  exact q _ d' ((hp.cons _).trans (erase_perm hi))
structure SetA (h:Heap) (a:Addr) (es:Array (Int × Value)) (ep:Nat) (t:SetTable):Prop where
 at_:∃ o,h.get? a=some o/\o.ExactSet/\o.data=.set es ep t
 fits:t.fits es.size=true
theorem SetA.at' {h h':Heap} {a:Addr} {es:Array (Int × Value)} {ep:Nat} {t:SetTable} (x:SetA h a es ep t) (k:∀ o,h.get? a=some o->h'.get? a=some o):SetA h' a es ep t:=
 let ⟨⟨o,h1,h2⟩,f⟩:=x
 ⟨⟨o,k o h1,h2⟩,f⟩
theorem SetA.typeIs {a:Addr} {es:Array (Int × Value)} {ep:Nat} {t:SetTable} (x:SetA s.heap a es ep t):s.TypeIs (.ref a) "set":=let ⟨⟨o,h1,h2,_⟩,_⟩:=x; ⟨o,h1,h2.1⟩
theorem SetA.lt {h:Heap} {a:Addr} {es:Array (Int × Value)} {ep:Nat} {t:SetTable} (x:SetA h a es ep t):a < h.objs.size:=let ⟨⟨o,h1,_⟩,_⟩:=x; Heap.lt_size h1
variable {a:Addr} {es:Array (Int × Value)} {ep:Nat} {t:SetTable}
theorem SetA.state {Q:(Array (Int × Value) × Nat × SetTable)->Shared->Prop} (x:SetA s.heap a es ep t) (q:Q (es,ep,t) s):wpAny (model prog w) A (setState a) Q E s:=
 let ⟨⟨o,h1,_,h2⟩,f⟩:=x
 wpAny_setState_of h1 h2 f q
theorem by_text {Q:Bool->Shared->Prop} (q:Q (w.params.followText "set-order") s):wpAny (model prog w) A setsByText Q E s:=by
 unfold setsByText
 exact wpAny_bind (wpAny_askSetting (wpAny_pure q))
theorem next_text {i slot:Nat} {Q:Option (Value × Nat)->Shared->Prop} (x:SetA s.heap a es ep t) (b:w.params.followText "set-order" = true) (q:Q (((pickOrder (w.params.setOrder a ep) es)[i]?).map fun e=>(e.2,slot)) s):wpAny (model prog w) A (setNext a slot i ep) Q E s:=by
 unfold setNext
 refine wpAny_bind (x.state ?_)
 dsimp only
 refine wpAny_bind (by_text ?_)
 rw [if_pos b,if_neg (by simp)]
 refine wpAny_bind ?_
 unfold setWalk
 refine wpAny_bind (x.state ?_)
 dsimp only
 refine wpAny_bind (by_text ?_)
 rw [if_pos b]
 exact wpAny_bind (wpAny_askSetting (wpAny_pure (wpAny_pure q)))
noncomputable def slotAt (t:SetTable):Nat->Nat
 | 0=>0
 | i + 1=>(t.place.toList[i]?.getD 0) + 1
theorem below_slot (r:Rise t.place.toList):∀ {i:Nat},i<=t.place.size->SetTable.below t.place (slotAt t i)=i
 | 0,_=>by
  obtain ⟨h1,h2,h3⟩:=below_spec r 0
  show SetTable.below t.place 0=0
  rcases Nat.eq_zero_or_pos (SetTable.below t.place 0) with z | z
  ·exact z
  ·have hl:0 < t.place.toList.length:=by simp; omega
   exact absurd (h2 0 _ z (List.getElem?_eq_getElem hl)) (Nat.not_lt_zero _)
 | i + 1,hi=>by
  have hl:i < t.place.toList.length:=by simp; omega
  have e:=List.getElem?_eq_getElem hl
  obtain ⟨h1,h2,h3⟩:=below_spec r (slotAt t (i + 1))
  have es:slotAt t (i + 1)=t.place.toList[i] + 1:=by show t.place.toList[i]?.getD 0 + 1=_; rw [e]; rfl
  rw [es] at h1 h2 h3 ⊢
  have c1:i < SetTable.below t.place (t.place.toList[i] + 1):=Nat.lt_of_not_le fun c=>by have:=h3 i _ c e; omega
  have c2:¬ i + 1 < SetTable.below t.place (t.place.toList[i] + 1):=fun c=>by
   have hl2:i + 1 < t.place.toList.length:=by simp; omega
   have g1:=h2 (i + 1) _ c (List.getElem?_eq_getElem hl2)
   have g2:=r.lt (Nat.lt_succ_self i) e (List.getElem?_eq_getElem hl2)
   omega
  omega
theorem next_led {i:Nat} {Q:Option (Value × Nat)->Shared->Prop} (x:SetA s.heap a es ep t) (b:w.params.followText "set-order" = false) (hd:(!t.plain && decide (es.size > 1))=false) (r:Rise t.place.toList) (hl:t.led=true) (hi:i<=es.size)
  (q:Q ((es[i]?).map fun e=>(e.2,slotAt t (i + 1))) s):wpAny (model prog w) A (setNext a (slotAt t i) i ep) Q E s:=by
 have hz:t.place.size=es.size:=by have:=x.fits; simp only [SetTable.fits,Bool.and_eq_true,beq_iff_eq] at this; exact this.1
 unfold setNext
 refine wpAny_bind (x.state ?_)
 dsimp only
 refine wpAny_bind (by_text ?_)
 rw [if_neg (by rw [b]; exact Bool.false_ne_true)]
 refine wpAny_ite_split (fun c=>absurd (show (!t.plain && decide (es.size > 1))=true from c) (by rw [hd]; exact Bool.false_ne_true)) fun _=>?_
 refine wpAny_bind (show wpAny _ _ (if (!t.led && !es.isEmpty)=true then unsupported "set:maker-not-led" else pure ()) _ _ _ from ?_)
 rw [hl]
 refine wpAny_pure ?_
 rw [below_slot r (by rw [hz]; exact hi)]
 refine wpAny_pure ?_
 rcases Nat.lt_or_eq_of_le hi with c | c
 ·have e1:es[i]? = some es[i]:=by simp [c]
  have e2:t.place[i]? = some t.place[i]:=by simp [hz,c]
  have e3:t.place.toList[i]? = some t.place[i]:=by rw [Array.getElem?_toList]; exact e2
  rw [e1] at q ⊢
  rw [e2]
  have e4:slotAt t (i + 1)=t.place[i] + 1:=by show t.place.toList[i]?.getD 0 + 1=_; rw [e3]; rfl
  rw [e4] at q
  exact q
 ·have e1:es[i]? = none:=by simp [c]
  rw [e1] at q ⊢
  exact q
end
end L2.TS
namespace L2.TS
open PySem PyProof.Rows
theorem slot_si_next:Slot "set_iterator" "__next__" "set_iterator.__next__":=
 .of (owner:="set_iterator") (n:="__next__") (by rw [typeLookup_type,builtinLookup_eq_fast]; kernel_rfl) (by decide +kernel) (by decide +kernel) (by decide +kernel) (by first | exact .inl (by decide +kernel) | exact .inr (by decide +kernel)) (by rw [isSubtype_type]; kernel_rfl)
theorem slot_si_iter:Slot "set_iterator" "__iter__" "set_iterator.__iter__":=
 .of (owner:="set_iterator") (n:="__iter__") (by rw [typeLookup_type,builtinLookup_eq_fast]; kernel_rfl) (by decide +kernel) (by decide +kernel) (by decide +kernel) (by first | exact .inl (by decide +kernel) | exact .inr (by decide +kernel)) (by rw [isSubtype_type]; kernel_rfl)
theorem entry_si_next:entryFor table "set_iterator.__next__" = some Builtin.«set_iterator.__next__»:=entryFor_of_tree (by kernel_rfl)
theorem entry_si_iter:entryFor table "set_iterator.__iter__" = some Builtin.«dict_keyiterator.__iter__»:=entryFor_alias (id':="dict_keyiterator.__iter__") (by kernel_rfl) rfl (by decide +kernel) (by kernel_rfl)
theorem entry_s_iter:entryFor table "set.__iter__" = some Builtin.«frozenset.__iter__»:=entryFor_alias (id':="frozenset.__iter__") (by kernel_rfl) rfl (by decide +kernel) (by kernel_rfl)
theorem owner_si:Manifest.owners.lookup (String.ofList ['r','o','t','a','r','e','t','i','_','t','e','s'].reverse)=some Manifest.sig_set_iterator:=by kernel_rfl
theorem args_si_next (a:Value):argsOk "set_iterator.__next__" ⟨[a],[]⟩:=by
 unfold argsOk; rw [signature?_of (id:="set_iterator.__next__") (n:=['_','_','t','x','e','n','_','_']) (o:=['r','o','t','a','r','e','t','i','_','t','e','s']) (by kernel_rfl) owner_si]; kernel_rfl
theorem args_si_iter (a:Value):argsOk "set_iterator.__iter__" ⟨[a],[]⟩:=by
 unfold argsOk; rw [signature?_of (id:="set_iterator.__iter__") (n:=['_','_','r','e','t','i','_','_']) (o:=['r','o','t','a','r','e','t','i','_','t','e','s']) (by kernel_rfl) owner_si]; kernel_rfl
noncomputable def SIt (h:Heap) (I a:Addr) (f:Value) (i n ep:Nat):Prop:=∃ o,h.get? I=some o/\o.cls=.type "set_iterator"/\o.data=.fields #[f,.int i 0,.ref a,.int n 0,.int ep 0]
theorem SIt.at' {h h':Heap} {I a:Addr} {f:Value} {i n ep:Nat} (x:SIt h I a f i n ep) (k:∀ o,h.get? I=some o->h'.get? I=some o):SIt h' I a f i n ep:=let ⟨o,h1,h2⟩:=x; ⟨o,k o h1,h2⟩
section
variable {prog:Program} {w:World} {A:Around} {E:Value->Shared->Prop} {s:Shared} {I a:Addr} {f:Value} {i n ep:Nat} {es:Array (Int × Value)} {t:SetTable}
theorem SIt.typeIs (x:SIt s.heap I a f i n ep):s.TypeIs (.ref I) "set_iterator":=let ⟨o,h1,h2,_⟩:=x; ⟨o,h1,h2⟩
theorem si_iter {Q:Value->Shared->Prop} (x:SIt s.heap I a f i n ep) (q:Q (.ref I) s):wpAny (model prog w) A (pyIter (.ref I)) Q E s:=by
 refine wpAny_pyIter_slot x.typeIs slot_si_iter (wpAny_call_entry slot_si_iter x.typeIs entry_si_iter ?_ (args_si_iter _))
 exact wpAny_bind (wpAny_pure (wpAny_pure ⟨_,rfl,"set_iterator",_,x.typeIs,slot_si_next.lookup,q⟩))
theorem si_item {sl nx:Nat} {x:Value} {Q:Option Value->Shared->Prop} (it:SIt s.heap I a (.int sl 0) i es.size ep) (S:SetA s.heap a es ep t)
  (hn:∀ (A:Around) (E':Value->Shared->Prop) (Q':Option (Value × Nat)->Shared->Prop),Q' (some (x,nx)) s->wpAny (model prog w) A (setNext a sl i ep) Q' E' s)
  (q:∀ h',SIt h' I a (.int nx 0) (i + 1) es.size ep->Heap.SameBut I s.heap h'->Q (some x) { s with heap:=h' }):wpAny (model prog w) A (pyNext (.ref I)) Q E s:=by
 obtain ⟨o,ho,hc,hd⟩:=id it
 unfold pyNext
 refine wpAny_bind (wpAny_attempt (wpAny_callSpecial?_slot (name:=Str.ofString "__next__") it.typeIs slot_si_next (wpAny_call_entry slot_si_next it.typeIs entry_si_next ?_ (args_si_next _))))
 unfold Builtin.«set_iterator.__next__»
 refine wpAny_bind (wpAny_pure ?_)
 dsimp only
 refine wpAny_bind (wpAny_fieldsOf ho hd ?_)
 dsimp only
 refine wpAny_bind ?_
 unfold setEntries
 refine wpAny_bind (S.state (wpAny_pure ?_))
 rw [if_neg (by simp)]
 simp only [Int.toNat_natCast]
 refine wpAny_bind (hn _ _ _ ?_)
 dsimp only
 refine wpAny_bind (wpAny_setField ho hd (by simp) ?_)
 have ho1:=Heap.get?_update_self (Obj.mapFields (·.setIfInBounds 0 (rawInt nx))) ho (Obj.isFreed_of_fields (Obj.data_mapFields hd _))
 have hd1:=Obj.data_mapFields hd (·.setIfInBounds 0 (rawInt nx))
 refine wpAny_bind (wpAny_setField ho1 hd1 (by simp) ?_)
 have ho2:=Heap.get?_update_self (Obj.mapFields (·.setIfInBounds 1 (rawInt ((i:Int) + 1)))) ho1 (Obj.isFreed_of_fields (Obj.data_mapFields hd1 _))
 refine wpAny_pure ⟨_,rfl,wpAny_pure (q _ ⟨_,ho2,?_,?_⟩ ((Heap.SameBut.update ..).trans (Heap.SameBut.update ..)))⟩
 ·rw [Obj.cls_mapFields,Obj.cls_mapFields]; exact hc
 ·rw [Obj.data_mapFields hd1]; simp [rawInt]
theorem si_end {sl:Nat} {Q:Option Value->Shared->Prop} (hh:A.handled=none) (it:SIt s.heap I a (.int sl 0) i es.size ep) (S:SetA s.heap a es ep t)
  (hn:∀ (A:Around) (E':Value->Shared->Prop) (Q':Option (Value × Nat)->Shared->Prop),Q' none s->wpAny (model prog w) A (setNext a sl i ep) Q' E' s)
  (q:∀ h',Heap.ExtBut I s.heap h'->Q none { s with heap:=h' }):wpAny (model prog w) A (pyNext (.ref I)) Q E s:=by
 obtain ⟨o,ho,hc,hd⟩:=id it
 unfold pyNext
 refine wpAny_bind (wpAny_attempt (wpAny_callSpecial?_slot (name:=Str.ofString "__next__") it.typeIs slot_si_next (wpAny_call_entry slot_si_next it.typeIs entry_si_next ?_ (args_si_next _))))
 unfold Builtin.«set_iterator.__next__»
 refine wpAny_bind (wpAny_pure ?_)
 dsimp only
 refine wpAny_bind (wpAny_fieldsOf ho hd ?_)
 dsimp only
 refine wpAny_bind ?_
 unfold setEntries
 refine wpAny_bind (S.state (wpAny_pure ?_))
 rw [if_neg (by simp)]
 simp only [Int.toNat_natCast]
 refine wpAny_bind (hn _ _ _ ?_)
 dsimp only
 refine wpAny_bind (wpAny_setField ho hd (by simp) ?_)
 refine wpAny_bind ?_
 simp only [newExc,newTuple]
 refine wpAny_bind (wpAny_newObj_type ?_ (by size_fits))
 refine wpAny_bind (m:=firstArgMember _ _) (wpAny_of_eq (a:=Value.none) (by first | rfl | (simp only [firstArgMember]; rfl)) ?_)
 refine wpAny_newObj_type ?_ (by size_fits)
 simp only [raiseNew]
 refine wpAny_bind (wpAny_handled ?_)
 rw [show A.in1.handled=none from hh]
 refine wpAny_bind (wpAny_pure (wpAny_throw ?_))
 refine wpAny_bind (wpAny_isInstance (T:="StopIteration") (b:=true) ⟨_,Heap.get?_push_size _ rfl,rfl⟩ isSubtype_stop ?_)
 exact wpAny_pure (q _ (((Heap.SameBut.update ..).extBut.push _).push _))
end
end L2.TS
namespace L2.TS
open PySem PyProof.Rows
section
variable {prog:Program} {w:World} {A:Around} {E:Value->Shared->Prop} {s:Shared} {I a T:Addr} {f:Value} {i n ep:Nat} {es:Array (Int × Value)} {t:SetTable} {ps:List Nat}
noncomputable abbrev tupP (ps:List Nat):Obj:={ cls:=.type "tuple",data:=.seq (ps.map fun (p:Nat)=>Value.int p 0).toArray }
theorem sd_item {p:Nat} {x:Int × Value} {Q:Option Value->Shared->Prop} (it:SIt s.heap I a (.ref T) i es.size ep) (hT:s.heap.get? T=some (tupP ps)) (S:SetA s.heap a es ep t) (hp:ps[i]? = some p) (hx:es[p]? = some x)
  (q:∀ h',SIt h' I a (.ref T) (i + 1) es.size ep->Heap.SameBut I s.heap h'->Q (some x.2) { s with heap:=h' }):wpAny (model prog w) A (pyNext (.ref I)) Q E s:=by
 obtain ⟨o,ho,hc,hd⟩:=id it
 obtain ⟨x1,x2⟩:=x
 unfold pyNext
 refine wpAny_bind (wpAny_attempt (wpAny_callSpecial?_slot (name:=Str.ofString "__next__") it.typeIs slot_si_next (wpAny_call_entry slot_si_next it.typeIs entry_si_next ?_ (args_si_next _))))
 unfold Builtin.«set_iterator.__next__»
 refine wpAny_bind (wpAny_pure ?_)
 dsimp only
 refine wpAny_bind (wpAny_fieldsOf ho hd ?_)
 dsimp only
 refine wpAny_bind ?_
 unfold setEntries
 refine wpAny_bind (S.state (wpAny_pure ?_))
 rw [if_neg (by simp)]
 refine wpAny_bind ?_
 unfold seqItems?
 refine wpAny_bind (wpAny_load hT (wpAny_pure ?_))
 dsimp only
 have e1:(ps.map fun (p:Nat)=>Value.int p 0).toArray[(i:Int).toNat]? = some (.int p 0):=by rw [Int.toNat_natCast,List.getElem?_toArray,List.getElem?_map,hp]; rfl
 rw [e1]
 dsimp only
 refine wpAny_bind ?_
 unfold setNextDrawn
 refine wpAny_bind (S.state ?_)
 dsimp only
 rw [if_neg (by simp),Int.toNat_natCast,hx]
 refine wpAny_pure ?_
 refine wpAny_bind (wpAny_setField ho hd (by simp) ?_)
 have ho1:=Heap.get?_update_self (Obj.mapFields (·.setIfInBounds 1 (rawInt ((i:Int) + 1)))) ho (Obj.isFreed_of_fields (Obj.data_mapFields hd _))
 refine wpAny_pure ⟨_,rfl,wpAny_pure (q _ ⟨_,ho1,?_,?_⟩ (Heap.SameBut.update ..))⟩
 ·rw [Obj.cls_mapFields]; exact hc
 ·rw [Obj.data_mapFields hd]; simp [rawInt]
theorem sd_end {Q:Option Value->Shared->Prop} (hh:A.handled=none) (it:SIt s.heap I a (.ref T) i es.size ep) (hT:s.heap.get? T=some (tupP ps)) (S:SetA s.heap a es ep t) (hp:ps[i]? = none)
  (q:∀ h',Heap.ExtBut I s.heap h'->Q none { s with heap:=h' }):wpAny (model prog w) A (pyNext (.ref I)) Q E s:=by
 obtain ⟨o,ho,hc,hd⟩:=id it
 unfold pyNext
 refine wpAny_bind (wpAny_attempt (wpAny_callSpecial?_slot (name:=Str.ofString "__next__") it.typeIs slot_si_next (wpAny_call_entry slot_si_next it.typeIs entry_si_next ?_ (args_si_next _))))
 unfold Builtin.«set_iterator.__next__»
 refine wpAny_bind (wpAny_pure ?_)
 dsimp only
 refine wpAny_bind (wpAny_fieldsOf ho hd ?_)
 dsimp only
 refine wpAny_bind ?_
 unfold setEntries
 refine wpAny_bind (S.state (wpAny_pure ?_))
 rw [if_neg (by simp)]
 refine wpAny_bind ?_
 unfold seqItems?
 refine wpAny_bind (wpAny_load hT (wpAny_pure ?_))
 dsimp only
 have e1:(ps.map fun (p:Nat)=>Value.int p 0).toArray[(i:Int).toNat]? = none:=by rw [Int.toNat_natCast,List.getElem?_toArray,List.getElem?_map,hp]; rfl
 rw [e1]
 dsimp only
 refine wpAny_bind (wpAny_setField ho hd (by simp) ?_)
 have ho1:=Heap.get?_update_self (Obj.mapFields (·.setIfInBounds 0 (rawInt 0))) ho (Obj.isFreed_of_fields (Obj.data_mapFields hd _))
 have hd1:=Obj.data_mapFields hd (·.setIfInBounds 0 (rawInt 0))
 refine wpAny_bind (wpAny_setField ho1 hd1 (by simp) ?_)
 refine wpAny_bind ?_
 simp only [newExc,newTuple]
 refine wpAny_bind (wpAny_newObj_type ?_ (by size_fits))
 refine wpAny_bind (m:=firstArgMember _ _) (wpAny_of_eq (a:=Value.none) (by first | rfl | (simp only [firstArgMember]; rfl)) ?_)
 refine wpAny_newObj_type ?_ (by size_fits)
 simp only [raiseNew]
 refine wpAny_bind (wpAny_handled ?_)
 rw [show A.in1.handled=none from hh]
 refine wpAny_bind (wpAny_pure (wpAny_throw ?_))
 refine wpAny_bind (wpAny_isInstance (T:="StopIteration") (b:=true) ⟨_,Heap.get?_push_size _ rfl,rfl⟩ isSubtype_stop ?_)
 exact wpAny_pure (q _ ((((Heap.SameBut.update ..).trans (Heap.SameBut.update ..)).extBut.push _).push _))
theorem walkA (hh:A.handled=none) (hne:I ≠ a) {sl:Nat->Nat} {vs:List Value} (hz:vs.length=es.size)
  (item:∀ (i:Nat) (s:Shared) (A:Around) (E:Value->Shared->Prop) (Q:Option (Value × Nat)->Shared->Prop),i<=es.size->SetA s.heap a es ep t->Q (vs[i]?.map fun v=>(v,sl (i + 1))) s->wpAny (model prog w) A (setNext a (sl i) i ep) Q E s) :
  Walks prog w A I [I,a] [I] es.size (fun i v=>vs[i]? = some v) (fun i h=>SIt h I a (.int (sl i) 0) i es.size ep/\SetA h a es ep t) where
 sub:=fun b hb=>by simp at hb; simp [hb]
 frame:=fun _ _ _ st hk=>⟨st.1.at' fun o e=>hk I (by simp) o e,st.2.at' fun o e=>hk a (by simp) o e⟩
 item:=fun i s Q E hi st hQ=>by
  obtain ⟨v,hv⟩:∃ v,vs[i]? = some v:=⟨_,List.getElem?_eq_getElem (by omega)⟩
  refine si_item st.1 st.2 (x:=v) (nx:=sl (i + 1)) (fun A' E' Q' q=>item i s A' E' Q' (by omega) st.2 (by rw [hv]; exact q)) fun h' it sb=>?_
  exact hQ v h' s.toks hv ⟨it,st.2.at' fun o e=>by rw [sb.2 a hne.symm]; exact e⟩ fun b o hb e=>by rw [sb.2 b (fun z=>hb (by simp [z]))]; exact e
 done:=fun s Q E st hQ=>by
  refine si_end hh st.1 st.2 (fun A' E' Q' q=>item es.size s A' E' Q' (Nat.le_refl _) st.2 (by rw [List.getElem?_eq_none (by omega)]; exact q)) fun h' sb=>?_
  exact hQ h' s.toks fun b o hb e=>sb b o (fun z=>hb (by simp [z])) e
 self:=fun i s Q E st q=>si_iter st.1 q
theorem walkT (hh:A.handled=none) (hne:I ≠ a) (hnT:I ≠ T) {vs:List Value} (hz:ps.length=es.size) (hv:∀ (i:Nat) (v:Value),vs[i]? = some v->∃ p x,ps[i]? = some p/\es[p]? = some x/\x.2=v) (hvl:vs.length=es.size) :
  Walks prog w A I [I,a,T] [I] es.size (fun i v=>vs[i]? = some v) (fun i h=>SIt h I a (.ref T) i es.size ep/\h.get? T=some (tupP ps)/\SetA h a es ep t) where
 sub:=fun b hb=>by simp at hb; simp [hb]
 frame:=fun _ _ _ st hk=>⟨st.1.at' fun o e=>hk I (by simp) o e,hk T (by simp) _ st.2.1,st.2.2.at' fun o e=>hk a (by simp) o e⟩
 item:=fun i s Q E hi st hQ=>by
  obtain ⟨v,e0⟩:∃ v,vs[i]? = some v:=⟨_,List.getElem?_eq_getElem (by omega)⟩
  obtain ⟨p,x,e1,e2,rfl⟩:=hv i v e0
  refine sd_item st.1 st.2.1 st.2.2 e1 e2 fun h' it sb=>?_
  exact hQ x.2 h' s.toks e0 ⟨it,by rw [sb.2 T hnT.symm]; exact st.2.1,st.2.2.at' fun o e=>by rw [sb.2 a hne.symm]; exact e⟩ fun b o hb e=>by rw [sb.2 b (fun z=>hb (by simp [z]))]; exact e
 done:=fun s Q E st hQ=>by
  refine sd_end hh st.1 st.2.1 st.2.2 (by rw [List.getElem?_eq_none (by omega)]) fun h' sb=>?_
  exact hQ h' s.toks fun b o hb e=>sb b o (fun z=>hb (by simp [z])) e
 self:=fun i s Q E st q=>si_iter st.1 q
end
end L2.TS
namespace L2.TS
open PySem PyProof.Rows
section
variable {prog:Program} {w:World} {A:Around} {E:Value->Shared->Prop} {s:Shared} {a:Addr} {ep:Nat} {es:Array (Int × Value)} {t:SetTable}
theorem set_iter (hx:SetA s.heap a es ep t) (hr:Rise t.place.toList) (hl:t.led=ledW w) (hzl:es.size<=sizeLine) {Q:Value->Shared->Prop}
  (q:∀ (I:Addr) (fp:List Addr) (vs:List Value) (St:Nat->Heap->Prop) (h':Heap) (d:Drawn),vs.Perm (es.toList.map (·.2))->(∀ b u,s.heap.get? b=some u->h'.get? b=some u)->(∀ b ∈ fp,b=a\/s.heap.objs.size<=b)->s.heap.objs.size<=I->
   (∀ A':Around,A'.handled=none->Walks prog w A' I fp [I] es.size (fun i v=>vs[i]? = some v) St)->St 0 h'->Q (.ref I) { s with heap:=h',drawn:=d }):wpAny (model prog w) A (pyIter (.ref a)) Q E s:=by
 refine wpAny_pyIter_slot hx.typeIs PySem.F.slot_set_iter (wpAny_call_entry PySem.F.slot_set_iter hx.typeIs entry_s_iter ?_ (PySem.F.args_set_iter_1 _))
 unfold Builtin.«frozenset.__iter__»
 refine wpAny_bind (show wpAny _ _ (pure a) _ _ _ from wpAny_pure ?_)
 refine wpAny_bind ?_
 unfold Builtin.Frozenset.sizeOf setEntries
 refine wpAny_bind (wpAny_bind (hx.state (wpAny_pure (wpAny_pure ?_))))
 refine wpAny_bind ?_
 unfold setDrawn
 refine wpAny_bind (hx.state (wpAny_bind (by_text (wpAny_pure ?_))))
 have lt:=hx.lt
 have fin:∀ (sl:Nat->Nat) (vs:List Value),sl 0=0->vs.Perm (es.toList.map (·.2))->(∀ (i:Nat) (s:Shared) (A:Around) (E:Value->Shared->Prop) (Q:Option (Value × Nat)->Shared->Prop),i<=es.size->SetA s.heap a es ep t->Q (vs[i]?.map fun v=>(v,sl (i + 1))) s->wpAny (model prog w) A (setNext a (sl i) i ep) Q E s)->
   wpAny (model prog w) A.in1 (do let v <-setEpoch a; let u <-newFields "set_iterator" [rawInt 0,rawInt 0,.ref a,rawInt es.size,rawInt v]; ret u) (fun fin s'=>∃ r,fin=.done (.ret r)/\∃ T' r',s'.TypeIs r T'/\typeLookup (.type T') "__next__" = pure (some r')/\Q r s') E s:=fun sl vs h0 hp item=>by
  refine wpAny_bind ?_
  unfold setEpoch
  refine wpAny_bind (hx.state (wpAny_pure ?_))
  refine wpAny_bind (wpAny_newObj_type ?_)
  have hz:vs.length=es.size:=by rw [hp.length_eq]; simp
  refine wpAny_pure ⟨_,rfl,"set_iterator",_,⟨_,Heap.get?_push_size _ rfl,rfl⟩,slot_si_next.lookup,?_⟩
  refine q s.heap.objs.size [s.heap.objs.size,a] vs _ _ s.drawn hp (fun b u e=>Heap.get?_push_of_some _ e) (fun b hb=>?_) (Nat.le_refl _) (fun A' hh=>walkA hh (Nat.ne_of_gt lt) (sl:=sl) hz item) ⟨⟨_,Heap.get?_push_size _ rfl,rfl,?_⟩,hx.at' fun o e=>Heap.get?_push_of_some _ e⟩
  ·rcases List.mem_cons.mp hb with rfl | hb
   ·exact .inr (Nat.le_refl _)
   ·exact .inl (List.mem_singleton.mp hb)
  ·rw [h0]; rfl
 cases b:w.params.followText "set-order" with
 | true=>
  refine wpAny_ite_split (fun c=>by cases c) fun _=>wpAny_bind (wpAny_pure ?_)
  refine fin (fun _=>0) ((pickOrder (w.params.setOrder a ep) es).toList.map (·.2)) rfl ((pick_perm _ _).map _) fun i s A E Q hi hx q=>next_text hx b ?_
  rw [List.getElem?_map,Array.getElem?_toList] at q
  cases e:(pickOrder (w.params.setOrder a ep) es)[i]? with
  | none=>rw [e] at q; exact q
  | some x=>rw [e] at q; exact q
 | false=>
  have hled:t.led=true:=by rw [hl]; unfold ledW; rw [b]; rfl
  cases d:(!t.plain && decide (es.size > 1)) with
  | false=>
   refine wpAny_ite_split (fun c=>?_) fun _=>wpAny_bind (wpAny_pure ?_)
   ·have:(!t.plain && decide (es.size > 1))=true:=c
    rw [d] at this; cases this
   ·refine fin (slotAt t) (es.toList.map (·.2)) rfl (.refl _) fun i s A E Q hi hx q=>next_led hx b d hr hled hi ?_
    rw [List.getElem?_map,Array.getElem?_toList] at q
    cases e:es[i]? with
    | none=>rw [e] at q; exact q
    | some x=>rw [e] at q; exact q
  | true=>
   refine wpAny_ite_split (fun _=>?_) fun c=>absurd (show (!t.plain && decide (es.size > 1))=true from d) c
   refine wpAny_bind (draw_order es.size (List.range es.size) s _ (by simp) fun ys dr hp=>?_)
   have yl:ys.length=es.size:=by rw [hp.length_eq]; simp
   refine wpAny_bind (wpAny_newTuple ?_ (by rw [List.length_map,yl]; exact hzl))
   have hx1:SetA (s.heap.push (tupP ys)) a es ep t:=hx.at' fun o e=>Heap.get?_push_of_some _ e
   refine wpAny_bind ?_
   unfold setEpoch
   refine wpAny_bind (SetA.state (s:={ s with heap:=s.heap.push (tupP ys),drawn:=dr }) hx1 (wpAny_pure ?_))
   refine wpAny_bind (wpAny_newObj_type ?_)
   have z1:(s.heap.push (tupP ys)).objs.size=s.heap.objs.size + 1:=Heap.size_push ..
   refine wpAny_pure ⟨_,rfl,"set_iterator",_,⟨_,Heap.get?_push_size _ rfl,rfl⟩,slot_si_next.lookup,?_⟩
   have inb:∀ p ∈ ys,p < es.size:=fun p hm=>List.mem_range.mp (hp.mem_iff.mp hm)
   have hT:((s.heap.push (tupP ys)).push { cls:=.type "set_iterator",data:=.fields [Value.ref s.heap.objs.size,rawInt 0,.ref a,rawInt es.size,rawInt ep].toArray }).get? s.heap.objs.size=some (tupP ys):=Heap.get?_push_of_some _ (Heap.get?_push_size _ rfl)
   have pm:(ys.map fun p=>(es.toList.map (·.2))[p]?.getD .none).Perm (es.toList.map (·.2)):=by
    refine (hp.map _).trans (.of_eq ?_)
    have key:∀ l:List Value,(List.range l.length).map (fun p=>l[p]?.getD .none)=l:=fun l=>by
     apply List.ext_getElem (by simp)
     intro j h1 h2
     simp at h1 ⊢
     simp [h1]
    have:=key (es.toList.map (·.2))
    rwa [List.length_map,Array.length_toList] at this
   refine q (s.heap.push (tupP ys)).objs.size [(s.heap.push (tupP ys)).objs.size,a,s.heap.objs.size] (ys.map fun p=>(es.toList.map (·.2))[p]?.getD .none) _ _ dr pm (fun b u e=>Heap.get?_push_of_some _ (Heap.get?_push_of_some _ e)) (fun b hb=>?_) (by rw [z1]; exact Nat.le_succ _)
    (fun A' hh=>walkT (T:=s.heap.objs.size) (ps:=ys) hh (by rw [z1]; exact Nat.ne_of_gt (Nat.lt_succ_of_lt lt)) (by rw [z1]; exact Nat.succ_ne_self _) yl (fun i v e=>?_) (by rw [List.length_map,yl])) ⟨⟨_,Heap.get?_push_size _ rfl,rfl,rfl⟩,hT,hx1.at' fun o e=>Heap.get?_push_of_some _ e⟩
   ·simp only [List.mem_cons,List.not_mem_nil,or_false] at hb
    rcases hb with rfl | rfl | rfl
    ·exact .inr (by rw [z1]; exact Nat.le_succ _)
    ·exact .inl rfl
    ·exact .inr (Nat.le_refl _)
   ·rw [List.getElem?_map] at e
    obtain ⟨p,e1,e2⟩:=Option.map_eq_some_iff.mp e
    have hpl:=inb p (List.mem_of_getElem? e1)
    refine ⟨p,es[p],e1,by simp [hpl],?_⟩
    rw [<-e2,List.getElem?_map,Array.getElem?_toList]
    simp [hpl]
theorem set_hint {Q:Bool->Shared->Prop} (hT:s.TypeIs (.ref a) "set") (h:∀ b,Q b s):wpAny (model prog w) A (Builtin.List.listLengthHint (.ref a)) Q E s:=by
 unfold Builtin.List.listLengthHint
 refine wpAny_bind (wpAny_specialOf hT PySem.F.slot_set_len.lookup ?_)
 generalize hid:("set.__len__":String)=id0
 wp_delta
 rw [show splitId id0=some ("set","__len__") from by subst hid; decide +kernel]
 subst hid
 refine wpAny_bind (wpAny_isInstance (T:="set") (b:=true) hT (by rw [isSubtype_type]; kernel_rfl) ?_)
 refine wpAny_ite_split (fun z=>absurd z (by decide)) (fun _=>?_)
 refine wpAny_ite_split (fun _=>?_) (fun z=>absurd (by decide +kernel) z)
 exact wpAny_bind (wpAny_typeOf hT (wpAny_pure (h _)))
theorem set_collect {R:List Value->Shared->Prop} (hh:A.handled=none) (hx:SetA s.heap a es ep t) (hr:Rise t.place.toList) (hl:t.led=ledW w) (hzl:es.size<=sizeLine)
  (h:∀ (h':Heap) (tk:Nat) (d:Drawn) (vs:List Value),(∀ b o,s.heap.get? b=some o->h'.get? b=some o)->vs.Perm (es.toList.map (·.2))->R vs { s with heap:=h',toks:=tk,drawn:=d }):wpAny (model prog w) A (collect (.ref a)) R E s:=by
 have lt:=hx.lt
 unfold collect
 refine wpAny_bind (wpAny_runValue (codeAny_builtin entry_proto_collect' ?_))
 rw [Around.under_plainId PySem.F.plain_proto_collect _]
 refine wpAny_bind (wpAny_newObj_type (T:="list") (data:=.seq ([]:List Value).toArray) ?_)
 refine wpAny_pure ⟨plainId_quiet PySem.F.plain_list_iadd _,codeAny_builtin entry_list_iadd' ?_⟩
 rw [Around.under_plainId PySem.F.plain_list_iadd _]
 have hS:(s.heap.push { cls:=.type "list",data:=.seq ([]:List Value).toArray }).get? s.heap.objs.size=some { cls:=.type "list",data:=.seq #[] }:=Heap.get?_push_size _ rfl
 have z0:(s.heap.push { cls:=.type "list",data:=.seq ([]:List Value).toArray }).objs.size=s.heap.objs.size + 1:=Heap.size_push ..
 have hx0:SetA (s.heap.push { cls:=.type "list",data:=.seq ([]:List Value).toArray }) a es ep t:=hx.at' fun o e=>Heap.get?_push_of_some _ e
 show wpAny _ A.in1 (Builtin.List.listExtendWith (.ref s.heap.objs.size) (.ref a) (.ref s.heap.objs.size)) _ _ _
 unfold Builtin.List.listExtendWith
 refine wpAny_bind (wpAny_typeOf (T:="set") (SetA.typeIs (s:={ s with heap:=_ }) hx0) ?_)
 have h1:Builtin.List.listSameRef (.ref s.heap.objs.size) (.ref a)=false:=by simp [Builtin.List.listSameRef,Nat.ne_of_gt lt]
 have h2:(Value.type "set" == Value.type "list")=false:=by decide
 have h3:(Value.type "set" == Value.type "tuple")=false:=by decide
 simp only [h1,h2,h3,Bool.or_false,Bool.false_eq_true,if_false]
 refine wpAny_bind (set_iter (s:={ s with heap:=s.heap.push { cls:=.type "list",data:=.seq ([]:List Value).toArray } }) hx0 hr hl hzl fun I fp vs St g d hp hk hfp hI hW st=>?_)
 have hSg:=hk _ _ hS
 have hSf:s.heap.objs.size ∉ fp:=fun hm=>by
  rcases hfp _ hm with c | c
  ·exact absurd c (Nat.ne_of_gt lt)
  ·have c':s.heap.objs.size + 1<=s.heap.objs.size:=by rw [<-z0]; exact c
   omega
 have key:∀ (g':Heap) (c₁:Nat),St 0 g'->(∀ b o,b ≠ s.heap.objs.size->g.get? b=some o->g'.get? b=some o)->g'.get? s.heap.objs.size=some { cls:=.type "list",data:=.seq #[] c₁ }->
   codeAny (model prog w) A (.builtin "list.extend.loop" ⟨[.ref s.heap.objs.size,.ref I,.ref s.heap.objs.size],[]⟩) (fun r s₁=>match r with
    | .ok (.ret v)=>wpAny (model prog w) A (match v with
      | .ref l=>do match (<-load l).data with
       | .seq xs _=>pure xs.toList
       | _=>unsupported "internal:collect"
      | _=>unsupported "internal:collect") R E s₁
    | _=>False) { s with heap:=g',drawn:=d }:=fun g' c₁ st' hk' hS'=>by
  refine codeAny_extend_loopS (hW A.in1 hh).toS hzl s.heap.objs.size hSf _ es.size 0 _ #[] c₁ rfl (Nat.zero_le _) st' hS' (ItemsOf.nil _) fun s' acc c' hm hS2 hacc=>?_
  dsimp only
  refine wpAny_bind (wpAny_load hS2 (wpAny_pure ?_))
  rw [Moved.eq_with hm]
  have ev:acc.toList=vs:=by
   apply List.ext_getElem?
   intro j
   rcases Nat.lt_or_ge j es.size with c | c
   ·have hj:j < acc.size:=by rw [hacc.1]; exact c
    have e1:acc[j]? = some acc[j]:=by simp [hj]
    rw [Array.getElem?_toList,e1]
    exact (hacc.2 j _ e1).symm
   ·have:vs.length=es.size:=by rw [hp.length_eq]; simp
    rw [List.getElem?_eq_none (by simp [hacc.1]; exact c),List.getElem?_eq_none (by omega)]
  rw [ev]
  refine h s'.heap s'.toks d vs (fun b o e=>?_) hp
  have hb:=Heap.lt_size e
  refine hm.heap b o (fun z=>?_) (hk' b o (Nat.ne_of_lt hb) (hk b o (Heap.get?_push_of_some _ e)))
  rcases List.mem_cons.mp z with z | z
  ·exact absurd z (Nat.ne_of_lt hb)
  ·have c':s.heap.objs.size + 1<=I:=by rw [<-z0]; exact hI
   rw [List.mem_singleton.mp z] at hb
   exact absurd hb (Nat.not_lt.mpr (Nat.le_of_succ_le c'))
 refine wpAny_bind (wpAny_holding (set_hint (SetA.typeIs (s:={ s with heap:=g,drawn:=d }) (hx0.at' fun o e=>hk a o e)) fun bb=>?_))
 refine wpAny_ite_split (fun _=>?_) fun _=>wpAny_pure ⟨plainId_quiet PySem.F.plain_extend_loop _,codeAny_mono (key g _ st (fun b o _ e=>e) hSg) fun r s₁ z=>?_⟩
 ·refine wpAny_bind (wpAny_rule (wpAny_bind ?_))
  refine wpAny_bind (m:=updateSeq s.heap.objs.size (·.push .none)) (wpAny_updateSeq hSg rfl ?_)
  have hS2:=Heap.get?_update_self (Obj.mapSeq (·.push Value.none)) hSg rfl
  refine wpAny_updateSeq (hz:=by seq_fits) hS2 rfl ?_
  have hS3:=Heap.get?_update_self (Obj.mapSeq (·.pop)) hS2 rfl
  have oth:∀ b o,b ≠ s.heap.objs.size->g.get? b=some o->((g.update s.heap.objs.size (Obj.mapSeq (·.push Value.none))).update s.heap.objs.size (Obj.mapSeq (·.pop))).get? b=some o:=fun b o hb e=>(Heap.get?_update_other _ _ (Ne.symm hb)).trans ((Heap.get?_update_other _ _ (Ne.symm hb)).trans e)
  refine wpAny_pure ⟨plainId_quiet PySem.F.plain_extend_loop _,codeAny_mono (key _ _ ((hW A.in1 hh).frame 0 _ _ st fun b hb o e=>oth b o (fun z=>hSf (z ▸ hb)) e) oth hS3) fun r s₁ z=>?_⟩
  cases r with
  | error e=>exact z.elim
  | ok fl=>
   cases fl with
   | ret v=>exact z
   | _=>exact z.elim
 ·cases r with
  | error e=>exact z.elim
  | ok fl=>
   cases fl with
   | ret v=>exact z
   | _=>exact z.elim
end
end L2.TS
namespace L2.TS
open PySem PyProof.Rows
section
variable {prog:Program} {w:World} {A:Around} {E:Value->Shared->Prop} {s:Shared} {a:Addr} {o:Obj} {ks:List Int}
theorem sorted_set {Q:Value->Shared->Prop} (hh:A.handled=none) (ho:s.heap.get? a=some o) (hS:SetO prog w o (ledW w) ks)
  (h:∀ (h1 h2:Heap) (tk:Nat) (d:Drawn) (out:List Value) (m:Nat),(∀ b u,s.heap.get? b=some u->h1.get? b=some u)->(∀ b u,h1.get? b=some u->h2.get? b=some u)->(∀ v ∈ out,∃ n t,v=.int n t)->(out.map numOf).Perm ks->out.Pairwise (fun x y=>lexLe (rkH h1 x) (rkH h1 y)=true)->h2.get? h1.objs.size=some (seqObj "list" out.toArray m)->Q (.ref h1.objs.size) { s with heap:=h2,toks:=tk,drawn:=d }) :
  wpAny (model prog w) A (call (.builtin "sorted") [.ref a]) Q E s:=by
 obtain ⟨es,ep,t,hx,hd,hel,rfl,hb,hf,hr,hl⟩:=hS
 refine Calls.call_function_entry kind_sorted plain_sorted entry_sorted (args_sorted1 _) ?_
 unfold Builtin.«sorted»
 refine wpAny_bind (m:=checkCount "sorted" 1 1 _) (wpAny_pure ?_)
 have hz0:es.size<=sizeLine:=fits_of_scanBound hb
 refine wpAny_bind (set_collect (A:=A.in1) hh ⟨⟨o,ho,hx,hd⟩,hf⟩ hr hl hz0 fun g tk d vs gk hp=>?_)
 have hv:∀ v ∈ vs,∃ n t,v=.int n t:=fun v hm=>by
  obtain ⟨e,he,rfl⟩:=List.mem_map.mp (hp.mem_iff.mp hm)
  obtain ⟨t,ht⟩:=elem_int hel he
  exact ⟨_,t,ht⟩
 have hz:vs.length<=sizeLine:=by rw [hp.length_eq,List.length_map,Array.length_toList]; exact hz0
 refine wpAny_bind (wpAny_newList ?_ hz)
 have atL:(g.push (seqObj "list" vs.toArray 0)).get? g.objs.size=some (seqObj "list" vs.toArray 0):=Heap.get?_push_size _ rfl
 have hb:∀ b o,g.get? b=some o->b ≠ g.objs.size/\(g.push (seqObj "list" vs.toArray 0)).get? b=some o:=fun b o e=>⟨Nat.ne_of_lt (Heap.lt_size e),Heap.get?_push_of_some _ e⟩
 refine wpAny_bind (wpAny_holding (wpAny_call_entry slot_list_sort ⟨_,atL,rfl⟩ entry_list_sort (sort_any (s:={ s with heap:=g.push (seqObj "list" vs.toArray 0),toks:=tk,drawn:=d }) atL hz (runs_any _) (kok_ints (h0:=g) hv) hb fun out p1 p2=>⟨_,rfl,?_⟩) (args_list_sort _)))
 refine wpAny_pure ⟨_,rfl,?_⟩
 obtain ⟨e1,at1⟩:∃ e1,((g.push (seqObj "list" vs.toArray 0)).update g.objs.size (Obj.mapSeq fun _=>#[])).get? g.objs.size=some (seqObj "list" #[] e1):=⟨_,get?_update_seq atL fun _=>#[]⟩
 have at2:((((g.push (seqObj "list" vs.toArray 0)).update g.objs.size (Obj.mapSeq fun _=>#[])).push (seqObj "tuple" vs.toArray 0)).push (seqObj "list" #[] 0)).get? g.objs.size=some (seqObj "list" #[] e1):=Heap.get?_push_of_some _ (Heap.get?_push_of_some _ at1)
 refine h g _ tk d out _ gk (fun b o e=>?_) (fun v hm=>hv v (p1.mem_iff.mp hm)) ?_ p2 (get?_update_seq at2 fun _=>out.toArray)
 ·have q:=hb b o e
  unfold sortedHeap
  rw [Heap.get?_update_ne _ _ _ _ q.1]
  refine Heap.get?_push_of_some _ (Heap.get?_push_of_some _ ?_)
  rw [Heap.get?_update_ne _ _ _ _ q.1]
  exact q.2
 ·refine ((p1.trans hp).map numOf).trans (.of_eq ?_)
  rw [List.map_map]
  rfl
end
end L2.TS
namespace L2
open PySem PySem.Spec PyProof.Rows
theorem Inv.drew {X:Cx} {pins:List (Addr × Obj)} {σ:St} {H:Hp} {s:Shared} (I:Inv X pins σ H s) (d:Drawn):Inv X pins σ H { s with drawn:=d }:=⟨I.ok,I.os,I.bare,I.base,I.loc,I.cell,I.free,I.freeC,I.pin,I.hok,I.len⟩
end L2
namespace L2.L3
open PySem PySem.Spec PyProof.Rows PySem.W
noncomputable def setX (P:Program) (w:World) (a:Addr) (ns:List Int):HO:=.ext fun h=>∃ o ks,h.get? a=some o/\TS.SetO P w o (TS.ledW w) ks/\ks.Perm (TS.onceI ns)
noncomputable def rSet (P:Program) (w:World) (K:PySem.W.Frag):List V->Hp->VK->Prop:=fun xs H Q=>∃ p ns,xs=[.ref p]/\SqL K H p (ns.map V.int)/\ns.length + 1 < scanBound/\∀ l,H l=none->Q (.ref l) (upd H l (setX P w l ns))
noncomputable def rSortSet (P:Program) (w:World):List V->Hp->VK->Prop:=fun xs H Q=>∃ p ns,xs=[.ref p]/\H p=some (setX P w p ns)/\∀ l,H l=none->Q (.ref l) (upd H l (.lst ((sortI (TS.onceI ns)).map V.int)))
section
variable {X:Cx}
theorem ints_sorted {h:Heap} {out:List Value} {ns:List Int} (hv:∀ v ∈ out,∃ n t,v=.int n t) (p1:(out.map numOf).Perm ns) (p2:out.Pairwise (fun x y=>TS.lexLe (TS.rkH h x) (TS.rkH h y)=true)):Vals ((sortI ns).map V.int) out:=by
 have so:out.map numOf=sortI ns:=by
  refine List.Perm.eq_of_pairwise (le:=fun a b=>decide (a<=b)=true) (fun a b _ _ h1 h2=>by simp at h1 h2; omega) ?_ (List.pairwise_mergeSort (fun a b c h1 h2=>by simp at *; omega) (fun a b=>by simp; omega) ns) (p1.trans (List.mergeSort_perm _ _).symm)
  rw [List.pairwise_map]
  refine List.Pairwise.imp_of_mem (fun {x y} hx hy h=>?_) p2
  obtain ⟨a,t,rfl⟩:=hv x hx
  obtain ⟨b,u,rfl⟩:=hv y hy
  refine decide_eq_true (show a<=b from ?_)
  have h':TS.lexLe [a] [b]=true:=h
  unfold TS.lexLe at h'
  rw [HT.lexLt_cons] at h'
  by_cases e:b=a
  ·exact Int.le_of_eq e.symm
  ·rw [if_neg e] at h'
   by_cases e2:b < a
   ·simp [e2] at h'
   ·omega
 rw [<-so]
 clear so p1 p2
 induction out with
 | nil=>exact .nil
 | cons v l ih=>
  obtain ⟨n,t,rfl⟩:=hv v List.mem_cons_self
  exact .cons ⟨t,rfl⟩ (ih fun u hu=>hv u (List.mem_cons_of_mem _ hu))
theorem setX_ok {P:Program} {w:World} {H:Hp} {h:Heap} {a:Addr} {ns ks:List Int} {o:Obj} (ho:h.get? a=some o) (hS:TS.SetO P w o (TS.ledW w) ks) (hp:ks.Perm (TS.onceI ns)):ObjOk P w H h a (setX P w a ns):=
 ⟨⟨o,ks,ho,hS,hp⟩,⟨o,ho⟩,fun _ _ ⟨o,ks,h1,h2⟩ k=>⟨o,ks,k o h1,h2⟩⟩
theorem call_setI (hc:X.calm=true):CallR X (.type "set") (rSet X.prog X.w X.K):=by
 intro pins s σ H xs us Q I r h
 obtain ⟨p,ns,rfl,hq,hb,q⟩:=h
 obtain ⟨u,rfl,rx⟩:=vals1 r
 cases rx
 obtain ⟨its,r',pl,hz⟩:=I.list hq
 refine TS.call_set (I.ok.hd hc) pl.isList (by simpa using ints_are r') hb fun h' tk o ks kp ho hS hp=>?_
 exact ⟨.ref s.heap.objs.size,_,I.laid (t':=tk) kp (Nat.le_refl _) (setX_ok ho hS hp),rfl,q _ (I.hok.fresh (Nat.le_refl _))⟩
theorem call_sortset (hc:X.calm=true):CallR X (.builtin "sorted") (rSortSet X.prog X.w):=by
 intro pins s σ H xs us Q I r h
 obtain ⟨p,ns,rfl,hq,q⟩:=h
 obtain ⟨u,rfl,rx⟩:=vals1 r
 cases rx
 obtain ⟨⟨o,ks,ho,hS,hp⟩,_⟩:=I.hok p _ hq
 refine TS.sorted_set (I.ok.hd hc) ho hS fun h1 h2 tk d out m k1 k2 hv p1 p2 e=>?_
 have rel:=ints_sorted hv (p1.trans hp) p2
 have I1:Inv X pins σ H { s with heap:=h1,toks:=tk,drawn:=d }:=(I.kept (t':=tk) k1).drew d
 have lz:((sortI (TS.onceI ns)).map V.int).length<=sizeLine:=by
  obtain ⟨es,ep,t,hx,hd,hel,rfl,hb,hf,hr,hl⟩:=hS
  rw [rel.length,<-List.length_map (f:=numOf),p1.length_eq,List.length_map,Array.length_toList]
  exact fits_of_scanBound hb
 exact ⟨.ref h1.objs.size,_,I1.laid (t':=tk) k2 (Nat.le_refl _) (show ObjOk X.prog X.w _ h2 _ (.lst ((sortI (TS.onceI ns)).map V.int)) from ⟨lz,out,m,rel,e⟩),rfl,q _ (I1.hok.fresh (Nat.le_refl _))⟩
end
theorem dvs_intV {G:Hp}:∀ {ns:List Int} {ys:List V},DVs G ys (ns.map PyData.int)->ys=ns.map V.int
 | [],_,h=>by cases h; rfl
 | n :: ns,_,h=>by
  cases h with
  | cons a b=>rw [a.int_inv,dvs_intV b]; rfl
noncomputable def fewI (xs:List PyData):Option (List Int):=match xs with
 | [.list ds]=>(intsOf ds).bind fun ns=>if ns.length < 4000 then some ns else none
 | _=>none
theorem fewI_ok {K:PySem.W.Frag} {O:List Addr} {H:Hp} {vs:List V} {xs:List PyData} {ns:List Int} (hd:DVs (hide O H) vs xs) (e:fewI xs=some ns):∃ a,vs=[.ref a]/\SqL K H a (ns.map V.int)/\ns.length + 1 < scanBound:=by
 unfold fewI at e
 split at e
 ·rename_i ds
  obtain ⟨ms,e1,e2⟩:=Option.bind_eq_some_iff.mp e
  split at e2
  ·rename_i hl
   cases e2
   obtain ⟨x,rfl,h1⟩:=dvs1 hd
   obtain ⟨a,ys,rfl,ha,hy⟩:=h1.lst_inv
   rw [intsOf_eq e1] at hy
   rw [dvs_intV hy] at ha
   exact ⟨a,rfl,.of (of_hide ha).1,show ns.length + 1 < 4096 by omega⟩
  ·cases e2
 ·cases e
noncomputable def nSS (xs:List PyData):Option PyData:=(fewI xs).map fun ns=>.list ((sortI (TS.onceI ns)).map PyData.int)
noncomputable def fSS:DN:=fun xs Q=>∃ d,nSS xs=some d/\Q d
theorem fn_SS:FN fSS nSS:=fun xs d Q e q=>⟨d,e,q⟩
theorem n_SS {P:Program} {w:World} {K:PySem.W.Frag}:OpN (fun xs H Q=>rSet P w K xs H fun v H1=>rSortSet P w [v] H1 Q) fSS where
 mn:=fun _ _ _ k ⟨d,e,q⟩=>⟨d,e,k _ q⟩
 ok:=fun O H vs xs Q hO hd q=>by
  obtain ⟨d,e,q⟩:=q
  obtain ⟨ns,e1,rfl⟩:=Option.map_eq_some_iff.mp e
  obtain ⟨a,rfl,sq,hl⟩:=fewI_ok (K:=K) hd e1
  refine ⟨a,ns,rfl,sq,hl,fun l h1=>⟨l,ns,rfl,upd_same,fun l2 h2=>?_⟩⟩
  have hn:H l2=none:=(same_upd h1).free h2
  exact q _ _ ((same_upd h1).trans (same_upd h2)) (dv_new_lst h2 (hO l2 hn) (ints_dvs _))
section
variable {X:Cx} {F:Fx} {e:Expr} {tA:DTA} {pos p pos2 p2:Pos}
theorem bt_set:bootBuiltins "set" = some (.type "set"):=by decide +kernel
theorem de_sortset (hc:X.calm=true) (hg:Gl X "sorted") (hm:X.mg "sorted" = none) (hg2:Gl X "set") (hm2:X.mg "set" = none) (ha:DA X F [e] tA)
  (he:starEach [e] X.env=(false,eval e X.env) :: starEach [] X.env:=by rfl) (hpl:(backTo pos2 (starEach [] X.env)).any (·.1)=false:=by rfl)
  (he2:starEach [.Call (.Name "set" p2) [e] [] pos2] X.env=(false,eval (.Call (.Name "set" p2) [e] [] pos2) X.env) :: starEach [] X.env:=by rfl) (hpl2:(backTo pos (starEach [] X.env)).any (·.1)=false:=by rfl) :
  DE X F (.Call (.Name "sorted" p) [.Call (.Name "set" p2) [e] [] pos2] [] pos) (dCB fSS tA):=
 ⟨mnN (n_SS (P:=X.prog) (w:=X.w) (K:=X.K)) ha.mn,(pe_callB (call_sortset hc) hg hm (show bootBuiltins "sorted" = some (.builtin "sorted") by decide +kernel) (pa_cons (pe_callTy (call_setI hc) hg2 hm2 bt_set ha.pa (by decide) (by decide) he hpl) pa_nil he2) (by decide) (by decide) he2 hpl2).imp (rdN (n_SS (P:=X.prog) (w:=X.w) (K:=X.K)) ha.mn)⟩
end
end L2.L3
namespace Due
noncomputable abbrev Sh:=List (Int × Int)
noncomputable def aheadAt (a:Int):Sh->Int->Int
 | [],_=>a
 | (b,c) :: r,m=>aheadAt (if b<=m then c else a) r m
noncomputable def shownM (a:Int) (ss:Sh) (m:Int):Int:=m + aheadAt a ss m
noncomputable def Rising:Int->Sh->Prop
 | _,[]=>True
 | lo,(b,_) :: r=>lo < b/\Rising b r
noncomputable def AheadOk (a:Int) (ss:Sh):Prop:=(-12<=a/\a<=14)/\∀ p ∈ ss,-12<=p.2/\p.2<=14
theorem ahead_ok {m:Int}:∀ {ss:Sh} {a:Int},AheadOk a ss->-12<=aheadAt a ss m/\aheadAt a ss m<=14
 | [],a,h=>h.1
 | (b,c) :: r,a,h=>by
  unfold aheadAt
  refine ahead_ok ⟨?_,fun p hp=>h.2 p (List.mem_cons_of_mem _ hp)⟩
  split
  ·exact h.2 (b,c) List.mem_cons_self
  ·exact h.1
end Due
namespace Due
end Due
namespace Due
structure ZOk (a:Int) (ss:Sh):Prop where
 len:ss.length<=6
 rise:Rising 0 ss
 ah:AheadOk a ss
 top:∀ p ∈ ss,p.1<=9999
end Due
namespace K3
open PySem PySem.Spec L2 L2.L3 PyProof.Rows
noncomputable abbrev exL:List Str:=["NoZone","NoMoment"]
noncomputable def m_is_whole:SM:=(sRetV (xAnd (xIs "int" (xV 0)) (xAnd (xNot (xIs "bool" (xV 0))) (xChain (fun i j=>decide (i<=j)) (fun i j=>decide (i<=j)) (xV 1) (xV 0) (xV 2)))))
noncomputable def f_is_whole:FM:=fnM 3 3 m_is_whole
noncomputable def m_is_tuple_of:SM:=(sRetV (xAnd (xIs "tuple" (xV 0)) (xOp (gEq false) (xCB nLen (aCons (xV 0) aNil)) (xV 1))))
noncomputable def f_is_tuple_of:FM:=fnM 2 2 m_is_tuple_of
noncomputable def b_shown_1:SM:=(sIfF (xTst (xOp gLe (xOp gIxA (xV 3) (xC (.int 0))) (xV 1))) (sAsg (xOp gIxA (xV 3) (xC (.int 1))) (gNm 2)) sNx)
noncomputable def m_shown:SM:=(sThen (sAsg (xOp gIxA (xV 0) (xC (.int 0))) (gNm 2))
  (sThen (sForF (iTs (xOp gIxA (xV 0) (xC (.int 1)))) (gNm 3) b_shown_1)
  (sRetV (xOp gAdd (xV 1) (xV 2)))))
noncomputable def f_shown:FM:=fnM 2 4 m_shown
noncomputable def m__law_cell_at:SM:=(sThen (sIfF (xTst (xOp gLt (xV 1) (xLenS 0))) (sRetV (xIxS 0 (xV 1))) sNx)
  (sThen (sIfF (bEqS 0) (sRetV (xC (.int 0))) sNx)
  (sRetV (xOp gAdd (xOp gMul (xIxS 0 (xOp gMod (xV 1) (xLenS 0))) (xC (.int 31))) (xV 1)))))
noncomputable def f__law_cell_at:FM:=fnM 2 2 m__law_cell_at
noncomputable def b__law_shown_1:SM:=(sAsg (xIf (xTst (xOp gLe (xV 3) (xV 1))) (xV 4) (xV 2)) (gNm 2))
noncomputable def m__law_shown:SM:=(sThen (sAsg (xOp gIxA (xV 0) (xC (.int 0))) (gNm 2))
  (sThen (sForF (iTs (xOp gIxA (xV 0) (xC (.int 1)))) (gTup' 2 (gCons' (gNm 3) (gCons' (gNm 4) gNil'))) b__law_shown_1)
  (sRetV (xOp gAdd (xV 1) (xV 2)))))
noncomputable def f__law_shown:FM:=fnM 2 5 m__law_shown
noncomputable def m_is_ahead:SM:=(sRetC (xCall f_is_whole (cVal (xV 0) (cVal (xC (.int (-12))) (cVal (xC (.int (14))) cNil)))))
noncomputable def f_is_ahead:FM:=fnM 1 1 m_is_ahead
noncomputable def m_is_moment:SM:=(sRetC (xCall f_is_whole (cVal (xV 0) (cVal (xC (.int 0)) (cVal (xC (.int (9999))) cNil)))))
noncomputable def f_is_moment:FM:=fnM 1 1 m_is_moment
noncomputable def b_how_often_1:SM:=(sThen (sAsg (xFrz (xCall f_shown (cVal (xV 0) (cVal (xV 4) cNil)))) (gNm 5))
  (sDPutF 3 (xV 5) (xOp gAdd (xDGet2 3 (xV 5) (xC (.int 0))) (xC (.int 1)))))
noncomputable def m_how_often:SM:=(sThen (sSetC 3 (xDNew false))
  (sThen (sForF (iLf rng2 (aCons (xV 1) (aCons (xOp gAdd (xV 2) (xC (.int 1))) aNil))) (gNm 4) b_how_often_1)
  (sMv 3)))
noncomputable def f_how_often:FM:=fnM 3 6 m_how_often
noncomputable def m__law_mixed:SM:=(sThen (sAsg (xOp gMod (xOp gAdd (xOp gAdd (xOp gMul (xFrz (xCall f__law_cell_at (cSlot 0 (cVal (xV 1) cNil)))) (xC (.int 1103515245))) (xOp gMul (xC (.int 7919)) (xV 1))) (xC (.int 12345))) (xC (.int 2147483647))) (gNm 3))
  (sRetV (xOp gMod (xOp gMod (xOp gMod (xOp gPow (xV 3) (xC (.int 5))) (xC (.int 2147483647))) (xC (.int 999983))) (xV 2))))
noncomputable def f__law_mixed:FM:=fnM 3 4 m__law_mixed
noncomputable def b_are_shifts_1:SM:=(sThen (sIfF (bOrF (bNotF (xTst (xFrz (xCall f_is_tuple_of (cVal (xV 2) (cVal (xC (.int 2)) cNil)))))) (bNotF (xTst (xFrz (xCall f_is_ahead (cVal (xOp gIxA (xV 2) (xC (.int 1))) cNil)))))) (sRetV (xC (.bool false))) sNx)
  (sThen (sIfF (bNotF (xTst (xFrz (xCall f_is_whole (cVal (xOp gIxA (xV 2) (xC (.int 0))) (cVal (xV 1) (cVal (xC (.int (9999))) cNil))))))) (sRetV (xC (.bool false))) sNx)
  (sAsg (xOp gAdd (xOp gIxA (xV 2) (xC (.int 0))) (xC (.int 1))) (gNm 1))))
noncomputable def m_are_shifts:SM:=(sThen (sIfF (bOrF (bNotF (xTst (xIs "tuple" (xV 0)))) (xTst (xOp gGt (xCB nLen (aCons (xV 0) aNil)) (xC (.int (6)))))) (sRetV (xC (.bool false))) sNx)
  (sThen (sAsg (xC (.int 1)) (gNm 1))
  (sThen (sForF (iTs (xV 0)) (gNm 2) b_are_shifts_1)
  (sRetV (xC (.bool true))))))
noncomputable def f_are_shifts:FM:=fnM 1 3 m_are_shifts
noncomputable def m_check_moment:SM:=(sIfF (bNotF (xTst (xFrz (xCall f_is_moment (cVal (xV 0) cNil))))) (sRaiseF "NoMoment") sNx)
noncomputable def f_check_moment:FM:=fnM 1 1 m_check_moment
noncomputable def m__law_draw:SM:=(sThen (sApp 1 (xC (.int 0)))
  (sRetC (xCall f__law_mixed (cSlot 0 (cVal (xLenN 1) (cVal (xV 2) cNil))))))
noncomputable def f__law_draw:FM:=fnM 3 3 m__law_draw
noncomputable def m_is_zone:SM:=(sRetV (xAnd (xFrz (xCall f_is_tuple_of (cVal (xV 0) (cVal (xC (.int 2)) cNil)))) (xAnd (xFrz (xCall f_is_ahead (cVal (xOp gIxA (xV 0) (xC (.int 0))) cNil))) (xFrz (xCall f_are_shifts (cVal (xOp gIxA (xV 0) (xC (.int 1))) cNil))))))
noncomputable def f_is_zone:FM:=fnM 1 1 m_is_zone
noncomputable def m_check_stretch:SM:=(sThen (sDoC (xCall f_check_moment (cVal (xV 0) cNil)))
  (sThen (sDoC (xCall f_check_moment (cVal (xV 1) cNil)))
  (sIfF (xTst (xOp gLt (xV 1) (xV 0))) (sRaiseF "NoMoment") sNx)))
noncomputable def f_check_stretch:FM:=fnM 2 2 m_check_stretch
noncomputable def m__law_pick:SM:=(sRetV (xOp gIxA (xV 2) (xFrz (xCall f__law_draw (cSlot 0 (cSlot 1 (cVal (xCB nLen (aCons (xV 2) aNil)) cNil)))))))
noncomputable def f__law_pick:FM:=fnM 3 3 m__law_pick
noncomputable def m_check_zone:SM:=(sIfF (bNotF (xTst (xFrz (xCall f_is_zone (cVal (xV 0) cNil))))) (sRaiseF "NoZone") sNx)
noncomputable def f_check_zone:FM:=fnM 1 1 m_check_zone
noncomputable def b__law_zone_1:SM:=(sThen (sAsg (xOp gAdd (xOp gAdd (xV 4) (xC (.int 1))) (xFrz (xCall f__law_draw (cSlot 0 (cSlot 1 (cVal (xV 2) cNil)))))) (gNm 4))
  (sAsg (xOp gCatT (xV 3) (xTup (aCons (xTup (aCons (xV 4) (aCons (xFrz (xCall f__law_pick (cSlot 0 (cSlot 1 (cVal (xLst (aCons (xC (.int 0)) (aCons (xC (.int 1)) (aCons (xC (.int 2)) (aCons (xNeg (xC (.int 1))) (aCons (xC (.int 14)) (aCons (xNeg (xC (.int 12))) (aCons (xC (.int 3)) aNil)))))))) cNil))))) aNil))) aNil))) (gNm 3)))
noncomputable def m__law_zone:SM:=(sThen (sAsg (xTup (aCons (xTup aNil) (aCons (xC (.int 0)) aNil))) (gTup' 2 (gCons' (gNm 3) (gCons' (gNm 4) gNil'))))
  (sThen (sForF (iLf rng1 (aCons (xFrz (xCall f__law_draw (cSlot 0 (cSlot 1 (cVal (xC (.int 5)) cNil))))) aNil)) (gNm 5) b__law_zone_1)
  (sRetV (xTup (aCons (xFrz (xCall f__law_pick (cSlot 0 (cSlot 1 (cVal (xLst (aCons (xC (.int 0)) (aCons (xC (.int 1)) (aCons (xC (.int 2)) (aCons (xNeg (xC (.int 1))) (aCons (xC (.int 14)) (aCons (xNeg (xC (.int 12))) aNil))))))) cNil))))) (aCons (xV 3) aNil))))))
noncomputable def f__law_zone:FM:=fnM 3 6 m__law_zone
noncomputable def t_never_shown_1:XM Bool:=(xTst (xDInR true 1 (xV 0)))
noncomputable def e_never_shown_2:XM PyData:=(xCB nDivmod (aCons (xV 0) (aCons (xC (.int (24))) aNil)))
noncomputable def m_never_shown:SM:=(sThen (sDoC (xCall f_check_zone (cVal (xV 0) cNil)))
  (sThen (sDoC (xCall f_check_stretch (cVal (xV 1) (cVal (xV 2) cNil))))
  (sThen (sSetC 3 (xCall f_how_often (cVal (xV 0) (cVal (xV 1) (cVal (xV 2) cNil)))))
  (sThen (sAsg (xCB nMinL (aCons (xDKeys 3) aNil)) (gNm 4))
  (sThen (sAsg (xCB nMaxL (aCons (xDKeys 3) aNil)) (gNm 5))
  (sRetV (xCompV 1 [3] (iLf rng2 (aCons (xV 4) (aCons (xV 5) aNil))) (gNm 0) t_never_shown_1 e_never_shown_2)))))))
noncomputable def f_never_shown:FM:=fnM 3 6 m_never_shown
noncomputable def t_shown_often_1:XM Bool:=(xTst (xOp gGt (xDGetR 1 (xV 0)) (xC (.int 1))))
noncomputable def e_shown_often_2:XM PyData:=(xTup (aCons (xCB nDivmod (aCons (xV 0) (aCons (xC (.int (24))) aNil))) (aCons (xDGetR 1 (xV 0)) aNil)))
noncomputable def m_shown_often:SM:=(sThen (sDoC (xCall f_check_zone (cVal (xV 0) cNil)))
  (sThen (sDoC (xCall f_check_stretch (cVal (xV 1) (cVal (xV 2) cNil))))
  (sThen (sSetC 3 (xCall f_how_often (cVal (xV 0) (cVal (xV 1) (cVal (xV 2) cNil)))))
  (sRetV (xCompV 1 [3] (iLs (xDSort 3)) (gNm 0) t_shown_often_1 e_shown_often_2)))))
noncomputable def f_shown_often:FM:=fnM 3 4 m_shown_often
noncomputable def b_leaps_1:SM:=(sThen (sAsg (xOp gSub (xFrz (xCall f_shown (cVal (xV 0) (cVal (xOp gIxA (xV 2) (xC (.int 0))) cNil)))) (xFrz (xCall f_shown (cVal (xV 0) (cVal (xOp gSub (xOp gIxA (xV 2) (xC (.int 0))) (xC (.int 1))) cNil))))) (gNm 3))
  (sIfF (xTst (xOp (gEq true) (xV 3) (xC (.int 1)))) (sApp 1 (xTup (aCons (xOp gIxA (xV 2) (xC (.int 0))) (aCons (xV 3) aNil)))) sNx))
noncomputable def m_leaps:SM:=(sThen (sDoC (xCall f_check_zone (cVal (xV 0) cNil)))
  (sThen (sSetC 1 (xLstO aNil))
  (sThen (sForF (iTs (xOp gIxA (xV 0) (xC (.int 1)))) (gNm 2) b_leaps_1)
  (sMv 1))))
noncomputable def f_leaps:FM:=fnM 1 4 m_leaps
noncomputable def c_law_1:SM:=(sSetC 1 (xLstO aNil))
noncomputable def c_law_2:SM:=(sAsg (xFrz (xCall f__law_zone (cSlot 0 (cSlot 1 (cVal (xC (.int 40)) cNil))))) (gNm 2))
noncomputable def c_law_3:SM:=(sAsg (xFrz (xCall f__law_draw (cSlot 0 (cSlot 1 (cVal (xC (.int 150)) cNil))))) (gNm 3))
noncomputable def c_law_4:SM:=(sAsg (xOp gAdd (xV 3) (xFrz (xCall f__law_draw (cSlot 0 (cSlot 1 (cVal (xC (.int 100)) cNil)))))) (gNm 4))
noncomputable def e_law_5:XM PyData:=(xFrz (xCall f__law_shown (cVal (xV 1) (cVal (xV 0) cNil))))
noncomputable def c_law_6:SM:=(sAsg (xComp 1 [2] (iLf rng2 (aCons (xV 3) (aCons (xOp gAdd (xV 4) (xC (.int 1))) aNil))) (gNm 0) bTrue e_law_5) (gNm 5))
noncomputable def t_law_7:XM Bool:=(xTst (xOp (gIn true) (xV 0) (xV 1)))
noncomputable def e_law_8:XM PyData:=(xTup (aCons (xOp gDiv (xV 0) (xC (.int 24))) (aCons (xOp gMod (xV 0) (xC (.int 24))) aNil)))
noncomputable def c_law_9:SM:=(sAsg (xComp 1 [5] (iLf rng2 (aCons (xCB nMinL (aCons (xV 5) aNil)) (aCons (xCB nMaxL (aCons (xV 5) aNil)) aNil))) (gNm 0) t_law_7 e_law_8) (gNm 6))
noncomputable def t_law_10:XM Bool:=(xTst (xOp gGt (xMt cntD 1 (xV 0)) (xC (.int 1))))
noncomputable def e_law_11:XM PyData:=(xTup (aCons (xTup (aCons (xOp gDiv (xV 0) (xC (.int 24))) (aCons (xOp gMod (xV 0) (xC (.int 24))) aNil))) (aCons (xMt cntD 1 (xV 0)) aNil)))
noncomputable def c_law_12:SM:=(sAsg (xComp 1 [5] (iLs (xCB nSS (aCons (xV 5) aNil))) (gNm 0) t_law_10 e_law_11) (gNm 7))
noncomputable def c_law_13:SM:=(sIfF (bOrF (xTst (xOp (gEq true) (xFrz (xCall f_never_shown (cVal (xV 2) (cVal (xV 3) (cVal (xV 4) cNil))))) (xV 6))) (xTst (xOp (gEq true) (xFrz (xCall f_shown_often (cVal (xV 2) (cVal (xV 3) (cVal (xV 4) cNil))))) (xV 7)))) (sRetV (xC (.bool false))) sNx)
noncomputable def c_law_14:SM:=(sAsg (xLst aNil) (gNm 8))
noncomputable def b_law_15:SM:=(sThen (sAsg (xOp gSub (xFrz (xCall f__law_shown (cVal (xV 2) (cVal (xV 9) cNil)))) (xFrz (xCall f__law_shown (cVal (xV 2) (cVal (xOp gSub (xV 9) (xC (.int 1))) cNil))))) (gNm 10))
  (sAsg (xOp gCatL (xV 8) (xOp gRep (xLst (aCons (xTup (aCons (xV 9) (aCons (xV 10) aNil))) aNil)) (xCB nInt (aCons (xOp (gEq true) (xV 10) (xC (.int 1))) aNil)))) (gNm 8)))
noncomputable def c_law_16:SM:=(sForF (iLf rng2 (aCons (xC (.int 1)) (aCons (xC (.int 200)) aNil))) (gNm 9) b_law_15)
noncomputable def c_law_17:SM:=(sRetV (xOp (gEq false) (xFrz (xCall f_leaps (cVal (xV 2) cNil))) (xV 8)))
noncomputable def m_law:SM:=(sThen c_law_1
  (sThen c_law_2
  (sThen c_law_3
  (sThen c_law_4
  (sThen c_law_6
  (sThen c_law_9
  (sThen c_law_12
  (sThen c_law_13
  (sThen c_law_14
  (sThen c_law_16
  c_law_17))))))))))
noncomputable def f_law:FM:=fnM 1 11 m_law
end K3
namespace K3
open PySem PySem.Spec L2 L2.L3 PyProof.Rows
noncomputable def top (i:Nat):Stmt:=PySem.Challenge.pw_duehall_k16_whole_never_and_often.main.body.getD i (.Pass ⟨0,0,0,0⟩)
noncomputable abbrev s_is_whole:Stmt:=top 9
noncomputable abbrev s_is_tuple_of:Stmt:=top 10
noncomputable abbrev s_is_ahead:Stmt:=top 11
noncomputable abbrev s_is_moment:Stmt:=top 12
noncomputable abbrev s_are_shifts:Stmt:=top 13
noncomputable abbrev s_is_zone:Stmt:=top 14
noncomputable abbrev s_check_zone:Stmt:=top 15
noncomputable abbrev s_check_moment:Stmt:=top 16
noncomputable abbrev s_check_stretch:Stmt:=top 17
noncomputable abbrev s_shown:Stmt:=top 20
noncomputable abbrev s_how_often:Stmt:=top 22
noncomputable abbrev s_never_shown:Stmt:=top 23
noncomputable abbrev s_shown_often:Stmt:=top 24
noncomputable abbrev s_leaps:Stmt:=top 25
noncomputable abbrev s__law_cell_at:Stmt:=top 27
noncomputable abbrev s__law_mixed:Stmt:=top 28
noncomputable abbrev s__law_draw:Stmt:=top 29
noncomputable abbrev s__law_pick:Stmt:=top 30
noncomputable abbrev s__law_zone:Stmt:=top 31
noncomputable abbrev s__law_shown:Stmt:=top 32
noncomputable abbrev s_law:Stmt:=top 35
theorem sc_is_whole:FnScope ["thing","least","most"] ["thing","least","most"] (defScope s_is_whole):=scm
theorem sc_is_tuple_of:FnScope ["thing","length"] ["thing","length"] (defScope s_is_tuple_of):=scm
theorem sc_is_ahead:FnScope ["thing"] ["thing"] (defScope s_is_ahead):=scm
theorem sc_is_moment:FnScope ["thing"] ["thing"] (defScope s_is_moment):=scm
theorem sc_are_shifts:FnScope ["thing","earliest","shift"] ["thing"] (defScope s_are_shifts):=scm
theorem sc_is_zone:FnScope ["thing"] ["thing"] (defScope s_is_zone):=scm
theorem sc_check_zone:FnScope ["thing"] ["thing"] (defScope s_check_zone):=scm
theorem sc_check_moment:FnScope ["thing"] ["thing"] (defScope s_check_moment):=scm
theorem sc_check_stretch:FnScope ["first","last"] ["first","last"] (defScope s_check_stretch):=scm
theorem sc_shown:FnScope ["zone","moment","ahead","shift"] ["zone","moment"] (defScope s_shown):=scm
theorem sc_how_often:FnScope ["zone","first","last","often","moment","hours"] ["zone","first","last"] (defScope s_how_often):=scm
theorem sc_never_shown:FnScope ["zone","first","last","often","least","greatest"] ["zone","first","last"] (defScope s_never_shown):=scm
theorem sc_shown_often:FnScope ["zone","first","last","often"] ["zone","first","last"] (defScope s_shown_often):=scm
theorem sc_leaps:FnScope ["zone","found","shift","more"] ["zone"] (defScope s_leaps):=scm
theorem sc__law_cell_at:FnScope ["_law_script","_law_k"] ["_law_script","_law_k"] (defScope s__law_cell_at):=scm
theorem sc__law_mixed:FnScope ["_law_script","_law_k","_law_many","_law_drawn"] ["_law_script","_law_k","_law_many"] (defScope s__law_mixed):=scm
theorem sc__law_draw:FnScope ["_law_script","_law_town","_law_many"] ["_law_script","_law_town","_law_many"] (defScope s__law_draw):=scm
theorem sc__law_pick:FnScope ["_law_script","_law_town","_law_some"] ["_law_script","_law_town","_law_some"] (defScope s__law_pick):=scm
theorem sc__law_zone:FnScope ["_law_script","_law_town","_law_wide","_law_made","_law_at","_law_k"] ["_law_script","_law_town","_law_wide"] (defScope s__law_zone):=scm
theorem sc__law_shown:FnScope ["_law_zone_here","_law_moment","_law_ahead","_law_begin","_law_more"] ["_law_zone_here","_law_moment"] (defScope s__law_shown):=scm
theorem sc_law:FnScope ["_law_script","_law_town","_law_zone_here","_law_first","_law_last","_law_some","_law_wanted","_law_often","_law_rows","_law_moment","_law_more"] ["_law_script"] (defScope s_law):=scm
structure Tx (K:PySem.W.Frag) (mg:Str->Option Value):Prop where
 d_is_whole:∃ g fd,FD K mg "is_whole" s_is_whole ["thing","least","most"] g fd
 d_is_tuple_of:∃ g fd,FD K mg "is_tuple_of" s_is_tuple_of ["thing","length"] g fd
 d_is_ahead:∃ g fd,FD K mg "is_ahead" s_is_ahead ["thing"] g fd
 d_is_moment:∃ g fd,FD K mg "is_moment" s_is_moment ["thing"] g fd
 d_are_shifts:∃ g fd,FD K mg "are_shifts" s_are_shifts ["thing"] g fd
 d_is_zone:∃ g fd,FD K mg "is_zone" s_is_zone ["thing"] g fd
 d_check_zone:∃ g fd,FD K mg "check_zone" s_check_zone ["thing"] g fd
 d_check_moment:∃ g fd,FD K mg "check_moment" s_check_moment ["thing"] g fd
 d_check_stretch:∃ g fd,FD K mg "check_stretch" s_check_stretch ["first","last"] g fd
 d_shown:∃ g fd,FD K mg "shown" s_shown ["zone","moment"] g fd
 d_how_often:∃ g fd,FD K mg "how_often" s_how_often ["zone","first","last"] g fd
 d_never_shown:∃ g fd,FD K mg "never_shown" s_never_shown ["zone","first","last"] g fd
 d_shown_often:∃ g fd,FD K mg "shown_often" s_shown_often ["zone","first","last"] g fd
 d_leaps:∃ g fd,FD K mg "leaps" s_leaps ["zone"] g fd
 d__law_cell_at:∃ g fd,FD K mg "_law_cell_at" s__law_cell_at ["_law_script","_law_k"] g fd
 d__law_mixed:∃ g fd,FD K mg "_law_mixed" s__law_mixed ["_law_script","_law_k","_law_many"] g fd
 d__law_draw:∃ g fd,FD K mg "_law_draw" s__law_draw ["_law_script","_law_town","_law_many"] g fd
 d__law_pick:∃ g fd,FD K mg "_law_pick" s__law_pick ["_law_script","_law_town","_law_some"] g fd
 d__law_zone:∃ g fd,FD K mg "_law_zone" s__law_zone ["_law_script","_law_town","_law_wide"] g fd
 d__law_shown:∃ g fd,FD K mg "_law_shown" s__law_shown ["_law_zone_here","_law_moment"] g fd
 c_LAST_MOMENT:∃ t,mg "LAST_MOMENT" = some (.int (9999) t)
 c_LEAST_AHEAD:∃ t,mg "LEAST_AHEAD" = some (.int (-12) t)
 c_MOST_AHEAD:∃ t,mg "MOST_AHEAD" = some (.int (14) t)
 c_MOST_SHIFTS:∃ t,mg "MOST_SHIFTS" = some (.int (6) t)
 c_DAY_HOURS:∃ t,mg "DAY_HOURS" = some (.int (24) t)
 b_bool:mg "bool" = none
 b_divmod:mg "divmod" = none
 b_int:mg "int" = none
 b_isinstance:mg "isinstance" = none
 b_len:mg "len" = none
 b_list:mg "list" = none
 b_max:mg "max" = none
 b_min:mg "min" = none
 b_range:mg "range" = none
 b_set:mg "set" = none
 b_sorted:mg "sorted" = none
 b_tuple:mg "tuple" = none
 xt0:∃ D,XT K mg exL D
theorem bt_int:bootBuiltins "int" = some (.type "int"):=by decide +kernel
theorem bt_bool:bootBuiltins "bool" = some (.type "bool"):=by decide +kernel
theorem bt_str:bootBuiltins "str" = some (.type "str"):=by decide +kernel
theorem bt_tuple:bootBuiltins "tuple" = some (.type "tuple"):=by decide +kernel
theorem bt_list:bootBuiltins "list" = some (.type "list"):=by decide +kernel
theorem bt_max:bootBuiltins "max" = some (.builtin "max"):=by decide +kernel
theorem bt_divmod:bootBuiltins "divmod" = some (.builtin "divmod"):=by decide +kernel
theorem bt_all:bootBuiltins "all" = some (.builtin "all"):=by decide +kernel
theorem bt_any:bootBuiltins "any" = some (.builtin "any"):=by decide +kernel
theorem bt_sum:bootBuiltins "sum" = some (.builtin "sum"):=by decide +kernel
theorem bt_min:bootBuiltins "min" = some (.builtin "min"):=by decide +kernel
theorem bt_sorted:bootBuiltins "sorted" = some (.builtin "sorted"):=by decide +kernel
theorem xok0 {X:Cx} {F:Fx} (hG:GF X.mg F):XOk X F E0':=⟨hG,fun _ _ _ _ _ _ _ _ _ _ z=>z.elim⟩
end K3
namespace K3
open PySem PySem.Spec L2 L2.L3 PyProof.Rows
section
variable (P:Program) (w:World) {K:PySem.W.Frag} {mg:Str->Option Value} (base:Heap)
theorem ok_is_whole {g:Addr} {fd:FuncData} (T:Tx K mg) (D:FD K mg "is_whole" s_is_whole ["thing","least","most"] g fd):FnOk P w K mg base (CXM P w) 1 g fd ["thing","least","most"] (spF K mg f_is_whole):=by
 refine fn_F D.fn sc_is_whole (by decide) ?_
 intro cdv A outer s H E F E' hr hx
 unfold m_is_whole
 refine fss_one ?_
 refine fs_ret ?_
 ·exact (fe_and (fe_is (de_isinst rfl T.b_isinstance (fv 0) (pe_bltn rfl T.b_int bt_int rfl))) (fe_and (fe_not (fe_is (de_isinst rfl T.b_isinstance (fv 0) (pe_bltn rfl T.b_bool bt_bool rfl)))) (fe_one (fe_lele (fv 1) (fv 0) (fv 2)))))
theorem ok_is_tuple_of {g:Addr} {fd:FuncData} (T:Tx K mg) (D:FD K mg "is_tuple_of" s_is_tuple_of ["thing","length"] g fd):FnOk P w K mg base (CXM P w) 1 g fd ["thing","length"] (spF K mg f_is_tuple_of):=by
 refine fn_F D.fn sc_is_tuple_of (by decide) ?_
 intro cdv A outer s H E F E' hr hx
 unfold m_is_tuple_of
 refine fss_one ?_
 refine fs_ret ?_
 ·exact (fe_and (fe_is (de_isinst rfl T.b_isinstance (fv 0) (pe_bltn rfl T.b_tuple bt_tuple rfl))) (fe_one (fe_eq hr.units (fe_cb fn_len (de_callB call_len_seq n_len rfl T.b_len PySem.boot_len (fa_c (fv 0) fa_nil))) (fv 1))))
theorem ok_shown {g:Addr} {fd:FuncData} (T:Tx K mg) (D:FD K mg "shown" s_shown ["zone","moment"] g fd):FnOk P w K mg base (CXM P w) 1 g fd ["zone","moment"] (spF K mg f_shown):=by
 refine fn_F D.fn sc_shown (by decide) ?_
 intro cdv A outer s H E F E' hr hx
 unfold m_shown
 refine fss_cons ?_ ?_
 ·refine fs_set (i:=2) ?_ ?_ ?_ ?_ ?_ ?_ <;> try first|rfl|exact .inl rfl|exact .inr rfl|assumption|exact fun _=>rfl
  ·exact sc_shown.nd
  ·exact (fe_ix (fv 0) (fe_c de_int))
 refine fss_cons ?_ ?_
 ·refine fs_for ?_ ?_ ?_ ?_ ?_ ?_ <;> try first|rfl|exact .inl rfl|exact .inr rfl|assumption|exact fun _=>rfl
  ·exact PassesOwn.leaving
  ·exact (fi_tup (fe_ix (fv 0) (fe_c de_int)))
  ·exact (fgn 3 sc_shown.nd)
  ·unfold b_shown_1
   refine fss_one ?_
   refine fs_if ?_ ?_ ?_
   ·exact (fb_le (fe_ix (fv 3) (fe_c de_int)) (fv 1))
   ·refine fss_one ?_
    refine fs_set (i:=2) ?_ ?_ ?_ ?_ ?_ ?_ <;> try first|rfl|exact .inl rfl|exact .inr rfl|assumption|exact fun _=>rfl
    ·exact sc_shown.nd
    ·exact (fe_ix (fv 3) (fe_c de_int))
   ·exact fss_nil
 refine fss_one ?_
 refine fs_ret ?_
 ·exact (fe_add (fv 1) (fv 2))
theorem ok__law_cell_at {g:Addr} {fd:FuncData} (T:Tx K mg) (D:FD K mg "_law_cell_at" s__law_cell_at ["_law_script","_law_k"] g fd):FnOk P w K mg base (CXM P w) 1 g fd ["_law_script","_law_k"] (spF K mg f__law_cell_at):=by
 refine fn_F D.fn sc__law_cell_at (by decide) ?_
 intro cdv A outer s H E F E' hr hx
 unfold m__law_cell_at
 refine fss_cons ?_ ?_
 ·refine fs_if ?_ ?_ ?_
  ·exact (fb_lt (fv 1) (fe_lenS (de_lenS rfl T.b_len (pv 0))))
  ·refine fss_one ?_
   refine fs_ret ?_
   ·exact (fe_ixS (de_ixS (pv 0) (fv 1) (by intro _ _; rfl)))
  ·exact fss_nil
 refine fss_cons ?_ ?_
 ·refine fs_if ?_ ?_ ?_
  ·exact (fb_eqS (db_eqS hr.units (pv 0)))
  ·refine fss_one ?_
   refine fs_ret ?_
   ·exact (fe_c de_int)
  ·exact fss_nil
 refine fss_one ?_
 refine fs_ret ?_
 ·exact (fe_add (fe_mul (fe_ixS (de_ixS (pv 0) (fe_mod (fv 1) (fe_lenS (de_lenS rfl T.b_len (pv 0)))) (by intro _ _; rfl))) (fe_c de_int)) (fv 1))
theorem ok__law_shown {g:Addr} {fd:FuncData} (T:Tx K mg) (D:FD K mg "_law_shown" s__law_shown ["_law_zone_here","_law_moment"] g fd):FnOk P w K mg base (CXM P w) 1 g fd ["_law_zone_here","_law_moment"] (spF K mg f__law_shown):=by
 refine fn_F D.fn sc__law_shown (by decide) ?_
 intro cdv A outer s H E F E' hr hx
 unfold m__law_shown
 refine fss_cons ?_ ?_
 ·refine fs_set (i:=2) ?_ ?_ ?_ ?_ ?_ ?_ <;> try first|rfl|exact .inl rfl|exact .inr rfl|assumption|exact fun _=>rfl
  ·exact sc__law_shown.nd
  ·exact (fe_ix (fv 0) (fe_c de_int))
 refine fss_cons ?_ ?_
 ·refine fs_for ?_ ?_ ?_ ?_ ?_ ?_ <;> try first|rfl|exact .inl rfl|exact .inr rfl|assumption|exact fun _=>rfl
  ·exact PassesOwn.leaving
  ·exact (fi_tup (fe_ix (fv 0) (fe_c de_int)))
  ·exact (fg_tup (n:=2) rfl (fgs_cons (fgn 3 sc__law_shown.nd) (fgs_cons (fgn 4 sc__law_shown.nd) fgs_nil)))
  ·unfold b__law_shown_1
   refine fss_one ?_
   refine fs_set (i:=2) ?_ ?_ ?_ ?_ ?_ ?_ <;> try first|rfl|exact .inl rfl|exact .inr rfl|assumption|exact fun _=>rfl
   ·exact sc__law_shown.nd
   ·exact (fe_if (fb_le (fv 3) (fv 1)) (fv 4) (fv 2))
 refine fss_one ?_
 refine fs_ret ?_
 ·exact (fe_add (fv 1) (fv 2))
theorem ok_is_ahead {g:Addr} {fd:FuncData} (T:Tx K mg) (D:FD K mg "is_ahead" s_is_ahead ["thing"] g fd):FnOk P w K mg base (CXM P w) 2 g fd ["thing"] (spF K mg f_is_ahead):=by
 obtain ⟨g_is_whole,fd_is_whole,D_is_whole⟩:=T.d_is_whole
 have G_is_whole:=ok_is_whole P w base T D_is_whole
 obtain ⟨t_LEAST_AHEAD,g_LEAST_AHEAD⟩:=T.c_LEAST_AHEAD
 obtain ⟨t_MOST_AHEAD,g_MOST_AHEAD⟩:=T.c_MOST_AHEAD
 refine fn_F D.fn sc_is_ahead (by decide) ?_
 intro cdv A outer s H E F E' hr hx
 unfold m_is_ahead
 refine fss_one ?_
 refine fs_retO ?_
 ·exact (fcd hx G_is_whole D_is_whole hr (fx_v (fv 0) (fx_v (fe_c (de_gint rfl g_LEAST_AHEAD)) (fx_v (fe_c (de_gint rfl g_MOST_AHEAD)) fx_nil))))
theorem ok_is_moment {g:Addr} {fd:FuncData} (T:Tx K mg) (D:FD K mg "is_moment" s_is_moment ["thing"] g fd):FnOk P w K mg base (CXM P w) 2 g fd ["thing"] (spF K mg f_is_moment):=by
 obtain ⟨g_is_whole,fd_is_whole,D_is_whole⟩:=T.d_is_whole
 have G_is_whole:=ok_is_whole P w base T D_is_whole
 obtain ⟨t_LAST_MOMENT,g_LAST_MOMENT⟩:=T.c_LAST_MOMENT
 refine fn_F D.fn sc_is_moment (by decide) ?_
 intro cdv A outer s H E F E' hr hx
 unfold m_is_moment
 refine fss_one ?_
 refine fs_retO ?_
 ·exact (fcd hx G_is_whole D_is_whole hr (fx_v (fv 0) (fx_v (fe_c de_int) (fx_v (fe_c (de_gint rfl g_LAST_MOMENT)) fx_nil))))
theorem ok_how_often {g:Addr} {fd:FuncData} (T:Tx K mg) (D:FD K mg "how_often" s_how_often ["zone","first","last"] g fd):FnOk P w K mg base (CXM P w) 2 g fd ["zone","first","last"] (spF K mg f_how_often):=by
 obtain ⟨g_shown,fd_shown,D_shown⟩:=T.d_shown
 have G_shown:=ok_shown P w base T D_shown
 refine fn_F D.fn sc_how_often (by decide) ?_
 intro cdv A outer s H E F E' hr hx
 unfold m_how_often
 refine fss_cons ?_ ?_
 ·refine fs_setO (i:=3) ?_ ?_ ?_ ?_ ?_ ?_ <;> try first|rfl|exact .inl rfl|exact .inr rfl|assumption|exact fun _=>rfl
  ·exact sc_how_often.nd
  ·exact (fo_dnew false)
 refine fss_cons ?_ ?_
 ·refine fs_for ?_ ?_ ?_ ?_ ?_ ?_ <;> try first|rfl|exact .inl rfl|exact .inr rfl|assumption|exact fun _=>rfl
  ·exact PassesOwn.leaving
  ·exact (fi_range2 (di_range2 rfl T.b_range (fa_c (fv 1) (fa_c (fe_add (fv 2) (fe_c de_int)) fa_nil))))
  ·exact (fgn 4 sc_how_often.nd)
  ·unfold b_how_often_1
   refine fss_cons ?_ ?_
   ·refine fs_set (i:=5) ?_ ?_ ?_ ?_ ?_ ?_ <;> try first|rfl|exact .inl rfl|exact .inr rfl|assumption|exact fun _=>rfl
    ·exact sc_how_often.nd
    ·exact (fe_frz (fcd hx G_shown D_shown hr (fx_v (fv 0) (fx_v (fv 4) fx_nil))))
   refine fss_one ?_
   refine fs_dput ?_ ?_ ?_ ?_ ?_
   ·exact (hu_of hr)
   ·exact (pv 3)
   ·exact (fv 5)
   ·exact (fe_add (fe_dget2 (hu_of hr) (pv 3) (fv 5) (fe_c de_int)) (fe_c de_int))
   ·rfl
 refine fss_one ?_
 refine fs_mv ?_
 ·exact (pv 3)
theorem ok__law_mixed {g:Addr} {fd:FuncData} (T:Tx K mg) (D:FD K mg "_law_mixed" s__law_mixed ["_law_script","_law_k","_law_many"] g fd):FnOk P w K mg base (CXM P w) 2 g fd ["_law_script","_law_k","_law_many"] (spF K mg f__law_mixed):=by
 obtain ⟨g__law_cell_at,fd__law_cell_at,D__law_cell_at⟩:=T.d__law_cell_at
 have G__law_cell_at:=ok__law_cell_at P w base T D__law_cell_at
 refine fn_F D.fn sc__law_mixed (by decide) ?_
 intro cdv A outer s H E F E' hr hx
 unfold m__law_mixed
 refine fss_cons ?_ ?_
 ·refine fs_set (i:=3) ?_ ?_ ?_ ?_ ?_ ?_ <;> try first|rfl|exact .inl rfl|exact .inr rfl|assumption|exact fun _=>rfl
  ·exact sc__law_mixed.nd
  ·exact (fe_mod (fe_add (fe_add (fe_mul (fe_frz (fcd hx G__law_cell_at D__law_cell_at hr (fx_s (pv 0) (fx_v (fv 1) fx_nil)))) (fe_c de_int)) (fe_mul (fe_c de_int) (fv 1))) (fe_c de_int)) (fe_c de_int))
 refine fss_one ?_
 refine fs_ret ?_
 ·exact (fe_mod (fe_mod (fe_mod (fe_pow (fv 3) (fe_c de_int)) (fe_c de_int)) (fe_c de_int)) (fv 2))
theorem ok_are_shifts {g:Addr} {fd:FuncData} (T:Tx K mg) (D:FD K mg "are_shifts" s_are_shifts ["thing"] g fd):FnOk P w K mg base (CXM P w) 3 g fd ["thing"] (spF K mg f_are_shifts):=by
 obtain ⟨g_is_whole,fd_is_whole,D_is_whole⟩:=T.d_is_whole
 have G_is_whole:=ok_is_whole P w base T D_is_whole
 obtain ⟨g_is_tuple_of,fd_is_tuple_of,D_is_tuple_of⟩:=T.d_is_tuple_of
 have G_is_tuple_of:=ok_is_tuple_of P w base T D_is_tuple_of
 obtain ⟨g_is_ahead,fd_is_ahead,D_is_ahead⟩:=T.d_is_ahead
 have G_is_ahead:=ok_is_ahead P w base T D_is_ahead
 obtain ⟨t_LAST_MOMENT,g_LAST_MOMENT⟩:=T.c_LAST_MOMENT
 obtain ⟨t_MOST_SHIFTS,g_MOST_SHIFTS⟩:=T.c_MOST_SHIFTS
 refine fn_F D.fn sc_are_shifts (by decide) ?_
 intro cdv A outer s H E F E' hr hx
 unfold m_are_shifts
 refine fss_cons ?_ ?_
 ·refine fs_if ?_ ?_ ?_
  ·exact (fb_w (fw_or (fb_not (fb_val (db_val (fe_is (de_isinst rfl T.b_isinstance (fv 0) (pe_bltn rfl T.b_tuple bt_tuple rfl)))))) (fw_or1 (fb_gt (fe_cb fn_len (de_callB call_len_seq n_len rfl T.b_len PySem.boot_len (fa_c (fv 0) fa_nil))) (fe_c (de_gint rfl g_MOST_SHIFTS))))))
  ·refine fss_one ?_
   refine fs_ret ?_
   ·exact (fe_c de_bl)
  ·exact fss_nil
 refine fss_cons ?_ ?_
 ·refine fs_set (i:=1) ?_ ?_ ?_ ?_ ?_ ?_ <;> try first|rfl|exact .inl rfl|exact .inr rfl|assumption|exact fun _=>rfl
  ·exact sc_are_shifts.nd
  ·exact (fe_c de_int)
 refine fss_cons ?_ ?_
 ·refine fs_for ?_ ?_ ?_ ?_ ?_ ?_ <;> try first|rfl|exact .inl rfl|exact .inr rfl|assumption|exact fun _=>rfl
  ·exact PassesOwn.leaving
  ·exact (fi_tup (fv 0))
  ·exact (fgn 2 sc_are_shifts.nd)
  ·unfold b_are_shifts_1
   refine fss_cons ?_ ?_
   ·refine fs_if ?_ ?_ ?_
    ·exact (fb_w (fw_or (fb_not (fb_val (db_val (fe_frz (fcd hx G_is_tuple_of D_is_tuple_of hr (fx_v (fv 2) (fx_v (fe_c de_int) fx_nil))))))) (fw_or1 (fb_not (fb_val (db_val (fe_frz (fcd hx G_is_ahead D_is_ahead hr (fx_v (fe_ix (fv 2) (fe_c de_int)) fx_nil)))))))))
    ·refine fss_one ?_
     refine fs_ret ?_
     ·exact (fe_c de_bl)
    ·exact fss_nil
   refine fss_cons ?_ ?_
   ·refine fs_if ?_ ?_ ?_
    ·exact (fb_not (fb_val (db_val (fe_frz (fcd hx G_is_whole D_is_whole hr (fx_v (fe_ix (fv 2) (fe_c de_int)) (fx_v (fv 1) (fx_v (fe_c (de_gint rfl g_LAST_MOMENT)) fx_nil))))))))
    ·refine fss_one ?_
     refine fs_ret ?_
     ·exact (fe_c de_bl)
    ·exact fss_nil
   refine fss_one ?_
   refine fs_set (i:=1) ?_ ?_ ?_ ?_ ?_ ?_ <;> try first|rfl|exact .inl rfl|exact .inr rfl|assumption|exact fun _=>rfl
   ·exact sc_are_shifts.nd
   ·exact (fe_add (fe_ix (fv 2) (fe_c de_int)) (fe_c de_int))
 refine fss_one ?_
 refine fs_ret ?_
 ·exact (fe_c de_bl)
theorem ok_check_moment {g:Addr} {fd:FuncData} (T:Tx K mg) (D:FD K mg "check_moment" s_check_moment ["thing"] g fd):FnOk P w K mg base (CXM P w) 3 g fd ["thing"] (spF K mg f_check_moment):=by
 obtain ⟨g_is_moment,fd_is_moment,D_is_moment⟩:=T.d_is_moment
 have G_is_moment:=ok_is_moment P w base T D_is_moment
 obtain ⟨DE_,xt⟩:=T.xt0
 obtain ⟨C_NoMoment,E_NoMoment,_⟩:=xt.at_ (c:="NoMoment") (by decide +kernel)
 refine fn_F D.fn sc_check_moment (by decide) ?_
 intro cdv A outer s H E F E' hr hx
 unfold m_check_moment
 refine fss_one ?_
 refine fs_if ?_ ?_ ?_
 ·exact (fb_not (fb_val (db_val (fe_frz (fcd hx G_is_moment D_is_moment hr (fx_v (fv 0) fx_nil))))))
 ·refine fss_one ?_
  exact (fs_raise hx hr.hd rfl E_NoMoment)
 ·exact fss_nil
theorem ok__law_draw {g:Addr} {fd:FuncData} (T:Tx K mg) (D:FD K mg "_law_draw" s__law_draw ["_law_script","_law_town","_law_many"] g fd):FnOk P w K mg base (CXM P w) 3 g fd ["_law_script","_law_town","_law_many"] (spF K mg f__law_draw):=by
 obtain ⟨g__law_mixed,fd__law_mixed,D__law_mixed⟩:=T.d__law_mixed
 have G__law_mixed:=ok__law_mixed P w base T D__law_mixed
 refine fn_F D.fn sc__law_draw (by decide) ?_
 intro cdv A outer s H E F E' hr hx
 unfold m__law_draw
 refine fss_cons ?_ ?_
 ·refine fs_app ?_ ?_ ?_ ?_ ?_ ?_ ?_ ?_ <;> try first|rfl|exact .inl rfl|exact .inr rfl|assumption|exact fun _=>rfl
  ·exact (pv 1)
  ·exact (fe_c de_int)
 refine fss_one ?_
 refine fs_retO ?_
 ·exact (fcd hx G__law_mixed D__law_mixed hr (fx_s (pv 0) (fx_v (fe_lenN rfl T.b_len (pv 1)) (fx_v (fv 2) fx_nil))))
theorem ok_is_zone {g:Addr} {fd:FuncData} (T:Tx K mg) (D:FD K mg "is_zone" s_is_zone ["thing"] g fd):FnOk P w K mg base (CXM P w) 4 g fd ["thing"] (spF K mg f_is_zone):=by
 obtain ⟨g_is_tuple_of,fd_is_tuple_of,D_is_tuple_of⟩:=T.d_is_tuple_of
 have G_is_tuple_of:=ok_is_tuple_of P w base T D_is_tuple_of
 obtain ⟨g_is_ahead,fd_is_ahead,D_is_ahead⟩:=T.d_is_ahead
 have G_is_ahead:=ok_is_ahead P w base T D_is_ahead
 obtain ⟨g_are_shifts,fd_are_shifts,D_are_shifts⟩:=T.d_are_shifts
 have G_are_shifts:=ok_are_shifts P w base T D_are_shifts
 refine fn_F D.fn sc_is_zone (by decide) ?_
 intro cdv A outer s H E F E' hr hx
 unfold m_is_zone
 refine fss_one ?_
 refine fs_ret ?_
 ·exact (fe_and (fe_frz (fcd hx G_is_tuple_of D_is_tuple_of hr (fx_v (fv 0) (fx_v (fe_c de_int) fx_nil)))) (fe_and (fe_frz (fcd hx G_is_ahead D_is_ahead hr (fx_v (fe_ix (fv 0) (fe_c de_int)) fx_nil))) (fe_one (fe_frz (fcd hx G_are_shifts D_are_shifts hr (fx_v (fe_ix (fv 0) (fe_c de_int)) fx_nil))))))
theorem ok_check_stretch {g:Addr} {fd:FuncData} (T:Tx K mg) (D:FD K mg "check_stretch" s_check_stretch ["first","last"] g fd):FnOk P w K mg base (CXM P w) 4 g fd ["first","last"] (spF K mg f_check_stretch):=by
 obtain ⟨g_check_moment,fd_check_moment,D_check_moment⟩:=T.d_check_moment
 have G_check_moment:=ok_check_moment P w base T D_check_moment
 obtain ⟨DE_,xt⟩:=T.xt0
 obtain ⟨C_NoMoment,E_NoMoment,_⟩:=xt.at_ (c:="NoMoment") (by decide +kernel)
 refine fn_F D.fn sc_check_stretch (by decide) ?_
 intro cdv A outer s H E F E' hr hx
 unfold m_check_stretch
 refine fss_cons ?_ ?_
 ·refine fs_exprO ?_ ?_
  ·exact (fcd hx G_check_moment D_check_moment hr (fx_v (fv 0) fx_nil))
  ·rfl
 refine fss_cons ?_ ?_
 ·refine fs_exprO ?_ ?_
  ·exact (fcd hx G_check_moment D_check_moment hr (fx_v (fv 1) fx_nil))
  ·rfl
 refine fss_one ?_
 refine fs_if ?_ ?_ ?_
 ·exact (fb_lt (fv 1) (fv 0))
 ·refine fss_one ?_
  exact (fs_raise hx hr.hd rfl E_NoMoment)
 ·exact fss_nil
theorem ok__law_pick {g:Addr} {fd:FuncData} (T:Tx K mg) (D:FD K mg "_law_pick" s__law_pick ["_law_script","_law_town","_law_some"] g fd):FnOk P w K mg base (CXM P w) 4 g fd ["_law_script","_law_town","_law_some"] (spF K mg f__law_pick):=by
 obtain ⟨g__law_draw,fd__law_draw,D__law_draw⟩:=T.d__law_draw
 have G__law_draw:=ok__law_draw P w base T D__law_draw
 refine fn_F D.fn sc__law_pick (by decide) ?_
 intro cdv A outer s H E F E' hr hx
 unfold m__law_pick
 refine fss_one ?_
 refine fs_ret ?_
 ·exact (fe_ix (fv 2) (fe_frz (fcd hx G__law_draw D__law_draw hr (fx_s (pv 0) (fx_s (pv 1) (fx_v (fe_cb fn_len (de_callB call_len_seq n_len rfl T.b_len PySem.boot_len (fa_c (fv 2) fa_nil))) fx_nil))))))
theorem ok_check_zone {g:Addr} {fd:FuncData} (T:Tx K mg) (D:FD K mg "check_zone" s_check_zone ["thing"] g fd):FnOk P w K mg base (CXM P w) 5 g fd ["thing"] (spF K mg f_check_zone):=by
 obtain ⟨g_is_zone,fd_is_zone,D_is_zone⟩:=T.d_is_zone
 have G_is_zone:=ok_is_zone P w base T D_is_zone
 obtain ⟨DE_,xt⟩:=T.xt0
 obtain ⟨C_NoZone,E_NoZone,_⟩:=xt.at_ (c:="NoZone") (by decide +kernel)
 refine fn_F D.fn sc_check_zone (by decide) ?_
 intro cdv A outer s H E F E' hr hx
 unfold m_check_zone
 refine fss_one ?_
 refine fs_if ?_ ?_ ?_
 ·exact (fb_not (fb_val (db_val (fe_frz (fcd hx G_is_zone D_is_zone hr (fx_v (fv 0) fx_nil))))))
 ·refine fss_one ?_
  exact (fs_raise hx hr.hd rfl E_NoZone)
 ·exact fss_nil
theorem ok__law_zone {g:Addr} {fd:FuncData} (T:Tx K mg) (D:FD K mg "_law_zone" s__law_zone ["_law_script","_law_town","_law_wide"] g fd):FnOk P w K mg base (CXM P w) 5 g fd ["_law_script","_law_town","_law_wide"] (spF K mg f__law_zone):=by
 obtain ⟨g__law_draw,fd__law_draw,D__law_draw⟩:=T.d__law_draw
 have G__law_draw:=ok__law_draw P w base T D__law_draw
 obtain ⟨g__law_pick,fd__law_pick,D__law_pick⟩:=T.d__law_pick
 have G__law_pick:=ok__law_pick P w base T D__law_pick
 refine fn_F D.fn sc__law_zone (by decide) ?_
 intro cdv A outer s H E F E' hr hx
 unfold m__law_zone
 refine fss_cons ?_ ?_
 ·refine fs_asg ?_ ?_ ?_ ?_ ?_ <;> try first|rfl|exact .inl rfl|exact .inr rfl|assumption|exact fun _=>rfl
  ·exact (fe_tup (fa_c (fe_tup fa_nil) (fa_c (fe_c de_int) fa_nil)))
  ·exact (fg_tup (n:=2) rfl (fgs_cons (fgn 3 sc__law_zone.nd) (fgs_cons (fgn 4 sc__law_zone.nd) fgs_nil)))
 refine fss_cons ?_ ?_
 ·refine fs_for ?_ ?_ ?_ ?_ ?_ ?_ <;> try first|rfl|exact .inl rfl|exact .inr rfl|assumption|exact fun _=>rfl
  ·exact PassesOwn.leaving
  ·exact (fi_range1 (di_range1 rfl T.b_range (fa_c (fe_frz (fcd hx G__law_draw D__law_draw hr (fx_s (pv 0) (fx_s (pv 1) (fx_v (fe_c de_int) fx_nil))))) fa_nil)))
  ·exact (fgn 5 sc__law_zone.nd)
  ·unfold b__law_zone_1
   refine fss_cons ?_ ?_
   ·refine fs_set (i:=4) ?_ ?_ ?_ ?_ ?_ ?_ <;> try first|rfl|exact .inl rfl|exact .inr rfl|assumption|exact fun _=>rfl
    ·exact sc__law_zone.nd
    ·exact (fe_add (fe_add (fv 4) (fe_c de_int)) (fe_frz (fcd hx G__law_draw D__law_draw hr (fx_s (pv 0) (fx_s (pv 1) (fx_v (fv 2) fx_nil))))))
   refine fss_one ?_
   refine fs_set (i:=3) ?_ ?_ ?_ ?_ ?_ ?_ <;> try first|rfl|exact .inl rfl|exact .inr rfl|assumption|exact fun _=>rfl
   ·exact sc__law_zone.nd
   ·exact (fe_catT (fv 3) (fe_tup (fa_c (fe_tup (fa_c (fv 4) (fa_c (fe_frz (fcd hx G__law_pick D__law_pick hr (fx_s (pv 0) (fx_s (pv 1) (fx_v (fe_lst (fa_c (fe_c de_int) (fa_c (fe_c de_int) (fa_c (fe_c de_int) (fa_c (fe_neg (fe_c de_int)) (fa_c (fe_c de_int) (fa_c (fe_neg (fe_c de_int)) (fa_c (fe_c de_int) fa_nil)))))))) fx_nil))))) fa_nil))) fa_nil)))
 refine fss_one ?_
 refine fs_ret ?_
 ·exact (fe_tup (fa_c (fe_frz (fcd hx G__law_pick D__law_pick hr (fx_s (pv 0) (fx_s (pv 1) (fx_v (fe_lst (fa_c (fe_c de_int) (fa_c (fe_c de_int) (fa_c (fe_c de_int) (fa_c (fe_neg (fe_c de_int)) (fa_c (fe_c de_int) (fa_c (fe_neg (fe_c de_int)) fa_nil))))))) fx_nil))))) (fa_c (fv 3) fa_nil)))
theorem ok_never_shown {g:Addr} {fd:FuncData} (T:Tx K mg) (D:FD K mg "never_shown" s_never_shown ["zone","first","last"] g fd):FnOk P w K mg base (CXM P w) 6 g fd ["zone","first","last"] (spF K mg f_never_shown):=by
 obtain ⟨g_check_zone,fd_check_zone,D_check_zone⟩:=T.d_check_zone
 have G_check_zone:=ok_check_zone P w base T D_check_zone
 obtain ⟨g_check_stretch,fd_check_stretch,D_check_stretch⟩:=T.d_check_stretch
 have G_check_stretch:=ok_check_stretch P w base T D_check_stretch
 obtain ⟨g_how_often,fd_how_often,D_how_often⟩:=T.d_how_often
 have G_how_often:=ok_how_often P w base T D_how_often
 obtain ⟨t_DAY_HOURS,g_DAY_HOURS⟩:=T.c_DAY_HOURS
 refine fn_F D.fn sc_never_shown (by decide) ?_
 intro cdv A outer s H E F E' hr hx
 unfold m_never_shown
 refine fss_cons ?_ ?_
 ·refine fs_exprO ?_ ?_
  ·exact (fcd hx G_check_zone D_check_zone hr (fx_v (fv 0) fx_nil))
  ·rfl
 refine fss_cons ?_ ?_
 ·refine fs_exprO ?_ ?_
  ·exact (fcd hx G_check_stretch D_check_stretch hr (fx_v (fv 1) (fx_v (fv 2) fx_nil)))
  ·rfl
 refine fss_cons ?_ ?_
 ·refine fs_setO (i:=3) ?_ ?_ ?_ ?_ ?_ ?_ <;> try first|rfl|exact .inl rfl|exact .inr rfl|assumption|exact fun _=>rfl
  ·exact sc_never_shown.nd
  ·exact (fcd hx G_how_often D_how_often hr (fx_v (fv 0) (fx_v (fv 1) (fx_v (fv 2) fx_nil))))
 refine fss_cons ?_ ?_
 ·refine fs_set (i:=4) ?_ ?_ ?_ ?_ ?_ ?_ <;> try first|rfl|exact .inl rfl|exact .inr rfl|assumption|exact fun _=>rfl
  ·exact sc_never_shown.nd
  ·exact (fe_cb fn_minF (de_callB (call_minL rfl) n_minL rfl T.b_min bt_min (fa_c (fe_dkeys rfl rfl T.b_list (pv 3)) fa_nil)))
 refine fss_cons ?_ ?_
 ·refine fs_set (i:=5) ?_ ?_ ?_ ?_ ?_ ?_ <;> try first|rfl|exact .inl rfl|exact .inr rfl|assumption|exact fun _=>rfl
  ·exact sc_never_shown.nd
  ·exact (fe_cb fn_maxF (de_callB (call_maxL rfl) n_maxL rfl T.b_max bt_max (fa_c (fe_dkeys rfl rfl T.b_list (pv 3)) fa_nil)))
 refine fss_one ?_
 refine fs_ret ?_
 ·exact (fe_compV hx.1 (CompScope.of (own:=["hours"]) (capN:=["often"]) (caps:=[3])) rfl rfl (DI.S (fi_range2 (di_range2 rfl T.b_range (fa_c (fv 4) (fa_c (fv 5) fa_nil))))) (fun _ _ _ _ _ _ hg=>⟨(fgn 0 (show ((["hours"]:List Str) ++ (["often"]:List Str)).Nodup from by decide +kernel)),(fbs_one (fb_dnotinR (hu_of hr) (fv 0) (pv 1))),(fe_cb fn_divmod (de_callB call_divmod n_divmod rfl T.b_divmod bt_divmod (fa_c (fv 0) (fa_c (fe_c (de_gint rfl g_DAY_HOURS)) fa_nil))))⟩))
theorem ok_shown_often {g:Addr} {fd:FuncData} (T:Tx K mg) (D:FD K mg "shown_often" s_shown_often ["zone","first","last"] g fd):FnOk P w K mg base (CXM P w) 6 g fd ["zone","first","last"] (spF K mg f_shown_often):=by
 obtain ⟨g_check_zone,fd_check_zone,D_check_zone⟩:=T.d_check_zone
 have G_check_zone:=ok_check_zone P w base T D_check_zone
 obtain ⟨g_check_stretch,fd_check_stretch,D_check_stretch⟩:=T.d_check_stretch
 have G_check_stretch:=ok_check_stretch P w base T D_check_stretch
 obtain ⟨g_how_often,fd_how_often,D_how_often⟩:=T.d_how_often
 have G_how_often:=ok_how_often P w base T D_how_often
 obtain ⟨t_DAY_HOURS,g_DAY_HOURS⟩:=T.c_DAY_HOURS
 refine fn_F D.fn sc_shown_often (by decide) ?_
 intro cdv A outer s H E F E' hr hx
 unfold m_shown_often
 refine fss_cons ?_ ?_
 ·refine fs_exprO ?_ ?_
  ·exact (fcd hx G_check_zone D_check_zone hr (fx_v (fv 0) fx_nil))
  ·rfl
 refine fss_cons ?_ ?_
 ·refine fs_exprO ?_ ?_
  ·exact (fcd hx G_check_stretch D_check_stretch hr (fx_v (fv 1) (fx_v (fv 2) fx_nil)))
  ·rfl
 refine fss_cons ?_ ?_
 ·refine fs_setO (i:=3) ?_ ?_ ?_ ?_ ?_ ?_ <;> try first|rfl|exact .inl rfl|exact .inr rfl|assumption|exact fun _=>rfl
  ·exact sc_shown_often.nd
  ·exact (fcd hx G_how_often D_how_often hr (fx_v (fv 0) (fx_v (fv 1) (fx_v (fv 2) fx_nil))))
 refine fss_one ?_
 refine fs_ret ?_
 ·exact (fe_compV hx.1 (CompScope.of (own:=["hours"]) (capN:=["often"]) (caps:=[3])) rfl rfl (DI.S (fi_list (fe_dsort rfl rfl T.b_sorted (pv 3)))) (fun _ _ _ _ _ _ hg=>⟨(fgn 0 (show ((["hours"]:List Str) ++ (["often"]:List Str)).Nodup from by decide +kernel)),(fbs_one (fb_gt (fe_dgetR (hu_of hr) (pv 1) (fv 0)) (fe_c de_int))),(fe_tup (fa_c (fe_cb fn_divmod (de_callB call_divmod n_divmod rfl T.b_divmod bt_divmod (fa_c (fv 0) (fa_c (fe_c (de_gint rfl g_DAY_HOURS)) fa_nil)))) (fa_c (fe_dgetR (hu_of hr) (pv 1) (fv 0)) fa_nil)))⟩))
theorem ok_leaps {g:Addr} {fd:FuncData} (T:Tx K mg) (D:FD K mg "leaps" s_leaps ["zone"] g fd):FnOk P w K mg base (CXM P w) 6 g fd ["zone"] (spF K mg f_leaps):=by
 obtain ⟨g_check_zone,fd_check_zone,D_check_zone⟩:=T.d_check_zone
 have G_check_zone:=ok_check_zone P w base T D_check_zone
 obtain ⟨g_shown,fd_shown,D_shown⟩:=T.d_shown
 have G_shown:=ok_shown P w base T D_shown
 refine fn_F D.fn sc_leaps (by decide) ?_
 intro cdv A outer s H E F E' hr hx
 unfold m_leaps
 refine fss_cons ?_ ?_
 ·refine fs_exprO ?_ ?_
  ·exact (fcd hx G_check_zone D_check_zone hr (fx_v (fv 0) fx_nil))
  ·rfl
 refine fss_cons ?_ ?_
 ·refine fs_setO (i:=1) ?_ ?_ ?_ ?_ ?_ ?_ <;> try first|rfl|exact .inl rfl|exact .inr rfl|assumption|exact fun _=>rfl
  ·exact sc_leaps.nd
  ·exact (fo_lst fa_nil)
 refine fss_cons ?_ ?_
 ·refine fs_for ?_ ?_ ?_ ?_ ?_ ?_ <;> try first|rfl|exact .inl rfl|exact .inr rfl|assumption|exact fun _=>rfl
  ·exact PassesOwn.leaving
  ·exact (fi_tup (fe_ix (fv 0) (fe_c de_int)))
  ·exact (fgn 2 sc_leaps.nd)
  ·unfold b_leaps_1
   refine fss_cons ?_ ?_
   ·refine fs_set (i:=3) ?_ ?_ ?_ ?_ ?_ ?_ <;> try first|rfl|exact .inl rfl|exact .inr rfl|assumption|exact fun _=>rfl
    ·exact sc_leaps.nd
    ·exact (fe_sub (fe_frz (fcd hx G_shown D_shown hr (fx_v (fv 0) (fx_v (fe_ix (fv 2) (fe_c de_int)) fx_nil)))) (fe_frz (fcd hx G_shown D_shown hr (fx_v (fv 0) (fx_v (fe_sub (fe_ix (fv 2) (fe_c de_int)) (fe_c de_int)) fx_nil)))))
   refine fss_one ?_
   refine fs_if ?_ ?_ ?_
   ·exact (fb_ne hr.units (fv 3) (fe_c de_int))
   ·refine fss_one ?_
    refine fs_app ?_ ?_ ?_ ?_ ?_ ?_ ?_ ?_ <;> try first|rfl|exact .inl rfl|exact .inr rfl|assumption|exact fun _=>rfl
    ·exact (pv 1)
    ·exact (fe_tup (fa_c (fe_ix (fv 2) (fe_c de_int)) (fa_c (fv 3) fa_nil)))
   ·exact fss_nil
 refine fss_one ?_
 refine fs_mv ?_
 ·exact (pv 1)
theorem ok_law {g:Addr} {fd:FuncData} (T:Tx K mg) (D:FD K mg "law" s_law ["_law_script"] g fd):FnOk P w K mg base (CXM P w) 7 g fd ["_law_script"] (spF K mg f_law):=by
 obtain ⟨g__law_zone,fd__law_zone,D__law_zone⟩:=T.d__law_zone
 have G__law_zone:=ok__law_zone P w base T D__law_zone
 obtain ⟨g__law_draw,fd__law_draw,D__law_draw⟩:=T.d__law_draw
 have G__law_draw:=ok__law_draw P w base T D__law_draw
 obtain ⟨g__law_shown,fd__law_shown,D__law_shown⟩:=T.d__law_shown
 have G__law_shown:=ok__law_shown P w base T D__law_shown
 obtain ⟨g_leaps,fd_leaps,D_leaps⟩:=T.d_leaps
 have G_leaps:=ok_leaps P w base T D_leaps
 obtain ⟨g_never_shown,fd_never_shown,D_never_shown⟩:=T.d_never_shown
 have G_never_shown:=ok_never_shown P w base T D_never_shown
 obtain ⟨g_shown_often,fd_shown_often,D_shown_often⟩:=T.d_shown_often
 have G_shown_often:=ok_shown_often P w base T D_shown_often
 refine fn_F D.fn sc_law (by decide) ?_
 intro cdv A outer s H E F E' hr hx
 unfold m_law
 refine fss_cons ?_ ?_
 ·unfold c_law_1
  refine fs_setO (i:=1) ?_ ?_ ?_ ?_ ?_ ?_ <;> try first|rfl|exact .inl rfl|exact .inr rfl|assumption|exact fun _=>rfl
  ·exact sc_law.nd
  ·exact (fo_lst fa_nil)
 refine fss_cons ?_ ?_
 ·unfold c_law_2
  refine fs_set (i:=2) ?_ ?_ ?_ ?_ ?_ ?_ <;> try first|rfl|exact .inl rfl|exact .inr rfl|assumption|exact fun _=>rfl
  ·exact sc_law.nd
  ·exact (fe_frz (fcd hx G__law_zone D__law_zone hr (fx_s (pv 0) (fx_s (pv 1) (fx_v (fe_c de_int) fx_nil)))))
 refine fss_cons ?_ ?_
 ·unfold c_law_3
  refine fs_set (i:=3) ?_ ?_ ?_ ?_ ?_ ?_ <;> try first|rfl|exact .inl rfl|exact .inr rfl|assumption|exact fun _=>rfl
  ·exact sc_law.nd
  ·exact (fe_frz (fcd hx G__law_draw D__law_draw hr (fx_s (pv 0) (fx_s (pv 1) (fx_v (fe_c de_int) fx_nil)))))
 refine fss_cons ?_ ?_
 ·unfold c_law_4
  refine fs_set (i:=4) ?_ ?_ ?_ ?_ ?_ ?_ <;> try first|rfl|exact .inl rfl|exact .inr rfl|assumption|exact fun _=>rfl
  ·exact sc_law.nd
  ·exact (fe_add (fv 3) (fe_frz (fcd hx G__law_draw D__law_draw hr (fx_s (pv 0) (fx_s (pv 1) (fx_v (fe_c de_int) fx_nil))))))
 refine fss_cons ?_ ?_
 ·unfold c_law_6
  refine fs_set (i:=5) ?_ ?_ ?_ ?_ ?_ ?_ <;> try first|rfl|exact .inl rfl|exact .inr rfl|assumption|exact fun _=>rfl
  ·exact sc_law.nd
  ·exact (fe_comp hx.1 (CompScope.of (own:=["_law_moment"]) (capN:=["_law_zone_here"]) (caps:=[2])) rfl rfl (fi_range2 (di_range2 rfl T.b_range (fa_c (fv 3) (fa_c (fe_add (fv 4) (fe_c de_int)) fa_nil)))) (fun _ _ _ _ _ _ hg=>⟨(fgn 0 (show ((["_law_moment"]:List Str) ++ (["_law_zone_here"]:List Str)).Nodup from by decide +kernel)),fbs_nil,(fe_frz (fcd (xok0 hg) G__law_shown D__law_shown hr (fx_v (fv 1) (fx_v (fv 0) fx_nil))))⟩))
 refine fss_cons ?_ ?_
 ·unfold c_law_9
  refine fs_setComp (i:=6) (own:=["_law_one"]) (capN:=["_law_some"]) (caps:=[5]) ?_ ?_ ?_ ?_ ?_ ?_ ?_ ?_ ?_ ?_ ?_ ?_ <;> try first|rfl|exact .inl rfl|exact .inr rfl|assumption|exact fun _=>rfl
  ·exact sc_law.nd
  ·exact hx.1
  ·exact (CompScope.of (own:=["_law_one"]) (capN:=["_law_some"]) (caps:=[5]))
  ·exact (fi_range2 (di_range2 rfl T.b_range (fa_c (fe_cb fn_minF (de_callB (call_minL rfl) n_minL rfl T.b_min bt_min (fa_c (fv 5) fa_nil))) (fa_c (fe_cb fn_maxF (de_callB (call_maxL rfl) n_maxL rfl T.b_max bt_max (fa_c (fv 5) fa_nil))) fa_nil))))
  ·exact (fun _ _ _ _ _ _ hg=>⟨(fgn 0 (show ((["_law_one"]:List Str) ++ (["_law_some"]:List Str)).Nodup from by decide +kernel)),(fbs_one (fb_op f2_in (db_notin (fv 0) (fv 1)))),(fe_tup (fa_c (fe_div (fv 0) (fe_c de_int)) (fa_c (fe_mod (fv 0) (fe_c de_int)) fa_nil)))⟩)
 refine fss_cons ?_ ?_
 ·unfold c_law_12
  refine fs_setComp (i:=7) (own:=["_law_one"]) (capN:=["_law_some"]) (caps:=[5]) ?_ ?_ ?_ ?_ ?_ ?_ ?_ ?_ ?_ ?_ ?_ ?_ <;> try first|rfl|exact .inl rfl|exact .inr rfl|assumption|exact fun _=>rfl
  ·exact sc_law.nd
  ·exact hx.1
  ·exact (CompScope.of (own:=["_law_one"]) (capN:=["_law_some"]) (caps:=[5]))
  ·exact (fi_list (fe_cb fn_SS (de_sortset rfl rfl T.b_sorted rfl T.b_set (fa_c (fv 5) fa_nil))))
  ·exact (fun _ _ _ _ _ _ hg=>⟨(fgn 0 (show ((["_law_one"]:List Str) ++ (["_law_some"]:List Str)).Nodup from by decide +kernel)),(fbs_one (fb_gt (fe_mt (g:=cntD) PySem.F.slot_list_count PySem.F.type_list_count mt_count cnt_ok (pv 1) (fv 0)) (fe_c de_int))),(fe_tup (fa_c (fe_tup (fa_c (fe_div (fv 0) (fe_c de_int)) (fa_c (fe_mod (fv 0) (fe_c de_int)) fa_nil))) (fa_c (fe_mt (g:=cntD) PySem.F.slot_list_count PySem.F.type_list_count mt_count cnt_ok (pv 1) (fv 0)) fa_nil)))⟩)
 refine fss_cons ?_ ?_
 ·unfold c_law_13
  refine fs_if ?_ ?_ ?_
  ·exact (fb_w (fw_or (fb_ne hr.units (fe_frz (fcd hx G_never_shown D_never_shown hr (fx_v (fv 2) (fx_v (fv 3) (fx_v (fv 4) fx_nil))))) (fv 6)) (fw_or1 (fb_ne hr.units (fe_frz (fcd hx G_shown_often D_shown_often hr (fx_v (fv 2) (fx_v (fv 3) (fx_v (fv 4) fx_nil))))) (fv 7)))))
  ·refine fss_one ?_
   refine fs_ret ?_
   ·exact (fe_c de_bl)
  ·exact fss_nil
 refine fss_cons ?_ ?_
 ·unfold c_law_14
  refine fs_set (i:=8) ?_ ?_ ?_ ?_ ?_ ?_ <;> try first|rfl|exact .inl rfl|exact .inr rfl|assumption|exact fun _=>rfl
  ·exact sc_law.nd
  ·exact (fe_lst fa_nil)
 refine fss_cons ?_ ?_
 ·unfold c_law_16
  refine fs_for ?_ ?_ ?_ ?_ ?_ ?_ <;> try first|rfl|exact .inl rfl|exact .inr rfl|assumption|exact fun _=>rfl
  ·exact PassesOwn.leaving
  ·exact (fi_range2 (di_range2 rfl T.b_range (fa_c (fe_c de_int) (fa_c (fe_c de_int) fa_nil))))
  ·exact (fgn 9 sc_law.nd)
  ·unfold b_law_15
   refine fss_cons ?_ ?_
   ·refine fs_set (i:=10) ?_ ?_ ?_ ?_ ?_ ?_ <;> try first|rfl|exact .inl rfl|exact .inr rfl|assumption|exact fun _=>rfl
    ·exact sc_law.nd
    ·exact (fe_sub (fe_frz (fcd hx G__law_shown D__law_shown hr (fx_v (fv 2) (fx_v (fv 9) fx_nil)))) (fe_frz (fcd hx G__law_shown D__law_shown hr (fx_v (fv 2) (fx_v (fe_sub (fv 9) (fe_c de_int)) fx_nil)))))
   refine fss_one ?_
   refine fs_set (i:=8) ?_ ?_ ?_ ?_ ?_ ?_ <;> try first|rfl|exact .inl rfl|exact .inr rfl|assumption|exact fun _=>rfl
   ·exact sc_law.nd
   ·exact (fe_cat (fv 8) (fe_rep (fe_lst (fa_c (fe_tup (fa_c (fv 9) (fa_c (fv 10) fa_nil))) fa_nil)) (fe_cb fn_int (de_callTy call_int1 n_int rfl T.b_int bt_int (fa_c (fe_ne hr.units (fv 10) (fe_c de_int)) fa_nil)))))
 refine fss_one ?_
 unfold c_law_17
 refine fs_ret ?_
 ·exact (fe_eq hr.units (fe_frz (fcd hx G_leaps D_leaps hr (fx_v (fv 2) fx_nil))) (fv 8))
end
end K3
namespace K3
open PySem L2 L2.L3 Due
noncomputable def isW (d:PyData) (lo hi:Int):Bool:=match d with
 | .int i=>decide (lo<=i) && decide (i<=hi)
 | _=>false
noncomputable def noD:PyData->Bool
 | .dict _=>false
 | _=>true
@[simp] theorem tab_ii:isTab "int" "int" = some true:=by decide
@[simp] theorem tab_ib:isTab "int" "bool" = some false:=by decide
@[simp] theorem tab_bi:isTab "bool" "int" = some true:=by decide
@[simp] theorem tab_bb:isTab "bool" "bool" = some true:=by decide
@[simp] theorem tab_ni:isTab "NoneType" "int" = some false:=by decide
@[simp] theorem tab_si:isTab "str" "int" = some false:=by decide
@[simp] theorem tab_li:isTab "list" "int" = some false:=by decide
@[simp] theorem tab_ti:isTab "tuple" "int" = some false:=by decide
@[simp] theorem tab_it:isTab "int" "tuple" = some false:=by decide
@[simp] theorem tab_bt:isTab "bool" "tuple" = some false:=by decide
@[simp] theorem tab_nt:isTab "NoneType" "tuple" = some false:=by decide
@[simp] theorem tab_st:isTab "str" "tuple" = some false:=by decide
@[simp] theorem tab_lt:isTab "list" "tuple" = some false:=by decide
@[simp] theorem tab_tt:isTab "tuple" "tuple" = some true:=by decide
theorem eqv_int (i j:Int):PyData.eqv (.int i) (.int j)=(i == j):=by rw [PyData.eqv]
theorem shaped_int (i:Int):SeqAt.shaped (.int i)=true:=by rfl
theorem r_is_whole {d:PyData} {lo hi:Int} (h:noD d=true):f_is_whole [.dat d,.dat (.int lo),.dat (.int hi)]=.rt (.dat (.bool (isW d lo hi))) []:=by
 cases d with
 | dict _=>cases h
 | int i=>
  by_cases h1:lo<=i
  ·simp [gEq,f_is_whole,m_is_whole,isW,h1]
  ·simp [gEq,f_is_whole,m_is_whole,isW,h1]
 | _=>simp [gEq,f_is_whole,m_is_whole,isW]
noncomputable def isT (d:PyData) (n:Int):Bool:=match d with
 | .tuple ds=>decide ((ds.length:Int)=n)
 | _=>false
theorem r_is_tuple_of {d:PyData} {n:Int} (h:noD d=true):f_is_tuple_of [.dat d,.dat (.int n)]=.rt (.dat (.bool (isT d n))) []:=by
 cases d with
 | dict _=>cases h
 | tuple ds=>simp [gEq,f_is_tuple_of,m_is_tuple_of,isT,shaped_int,eqv_int]; rfl
 | _=>simp [gEq,f_is_tuple_of,m_is_tuple_of,isT]
theorem r_is_ahead {d:PyData} (h:noD d=true):f_is_ahead [.dat d]=.rt (.dat (.bool (isW d (-12) 14))) []:=by simp [gEq,f_is_ahead,m_is_ahead,r_is_whole h]
theorem r_is_moment {d:PyData} (h:noD d=true):f_is_moment [.dat d]=.rt (.dat (.bool (isW d 0 9999))) []:=by simp [gEq,f_is_moment,m_is_moment,r_is_whole h]
theorem r_check_moment {d:PyData} (h:noD d=true):f_check_moment [.dat d]=if isW d 0 9999=true then .rt (.dat .none) [] else .ex "NoMoment" []:=by
 simp only [f_check_moment,m_check_moment]
 cases hw:isW d 0 9999 <;> simp [gEq,r_is_moment h,hw]
end K3
namespace K3
open PySem L2 L2.L3 Due
noncomputable abbrev shD (p:Int × Int):PyData:=.tuple [.int p.1,.int p.2]
noncomputable abbrev zoneD (a:Int) (ss:Sh):PyData:=.tuple [.int a,.tuple (ss.map shD)]
@[simp] theorem at0 {x:PyData} {l:List PyData}:atI (x :: l) 0=some x:=by
 unfold atI ixN
 rw [if_pos (by omega),if_pos (by simp <;> omega)]
 rfl
@[simp] theorem at1 {x y:PyData} {l:List PyData}:atI (x :: y :: l) 1=some y:=by
 unfold atI ixN
 rw [if_pos (by omega),if_pos (by simp <;> omega)]
 rfl
@[simp] theorem atL {x:PyData} {l:List PyData}:atI (l ++ [x]) (-1)=some x:=by
 unfold atI ixN
 rw [if_neg (by omega),if_pos (by simp; omega)]
 simp
 rw [show (-1 + ((l.length:Int) + 1)).toNat=l.length by omega]
 simp
theorem shifts_go {c:Option Cell}:∀ {ss:Sh} {lo:Int} {x:Option Cell},Rising lo ss->(∀ p ∈ ss,p.1<=9999/\-12<=p.2/\p.2<=14)->∃ e y,forGo (gNm 2) b_are_shifts_1 (ss.map shD) [c,some (.dat (.int (lo + 1))),x]=.nx [c,e,y]
 | [],_,_,_,_=>⟨_,_,rfl⟩
 | (b,k) :: r,lo,x,⟨h1,h2⟩,ho=>by
  obtain ⟨e,y,ih⟩:=shifts_go (lo:=b) (c:=c) (x:=some (.dat (shD (b,k)))) h2 fun p hp=>ho p (List.mem_cons_of_mem _ hp)
  have hb:=ho (b,k) List.mem_cons_self
  refine ⟨e,y,?_⟩
  rw [List.map_cons,forGo,<-ih]
  have:b_are_shifts_1 [c,some (.dat (.int (lo + 1))),some (.dat (shD (b,k)))]=.nx [c,some (.dat (.int (b + 1))),some (.dat (shD (b,k)))]:=by
   simp [gEq,b_are_shifts_1,r_is_tuple_of (d:=.tuple [.int b,.int k]) rfl,isT,r_is_ahead (d:=.int k) rfl,r_is_whole (d:=.int b) rfl,isW,hb.2.1,hb.2.2,hb.1,show lo + 1<=b by omega]
  simp [gEq,this]
theorem r_are_shifts {ss:Sh} (hl:ss.length<=6) (hr:Rising 0 ss) (ho:∀ p ∈ ss,p.1<=9999/\-12<=p.2/\p.2<=14):f_are_shifts [.dat (.tuple (ss.map shD))]=.rt (.dat (.bool true)) []:=by
 obtain ⟨e,y,h⟩:=shifts_go (lo:=0) (c:=some (.dat (.tuple (ss.map shD)))) (x:=none) hr ho
 simp [gEq,f_are_shifts,m_are_shifts,show ¬ (6:Int) < ss.length by omega] at h ⊢
 rw [h]
 simp
theorem r_is_zone {a:Int} {ss:Sh} (z:ZOk a ss):f_is_zone [.dat (zoneD a ss)]=.rt (.dat (.bool true)) []:=by
 have h1:=z.ah.1
 simp [gEq,f_is_zone,m_is_zone,r_is_tuple_of (d:=zoneD a ss) rfl,isT,r_is_ahead (d:=.int a) rfl,isW,h1.1,h1.2,r_are_shifts z.len z.rise fun p hp=>⟨z.top p hp,z.ah.2 p hp⟩]
theorem r_check_zone {a:Int} {ss:Sh} (z:ZOk a ss):f_check_zone [.dat (zoneD a ss)]=.rt (.dat .none) []:=by
 simp [gEq,f_check_zone,m_check_zone,r_is_zone z]
theorem shown_go {m:Int} {z:Option Cell}:∀ {ss:Sh} {a:Int} {x:Option Cell},∃ y,forGo (gNm 3) b_shown_1 (ss.map shD) [z,some (.dat (.int m)),some (.dat (.int a)),x]=.nx [z,some (.dat (.int m)),some (.dat (.int (aheadAt a ss m))),y]
 | [],_,_=>⟨_,rfl⟩
 | (b,c) :: r,a,x=>by
  obtain ⟨y,ih⟩:=shown_go (m:=m) (z:=z) (ss:=r) (a:=if b<=m then c else a) (x:=some (.dat (shD (b,c))))
  refine ⟨y,?_⟩
  rw [List.map_cons,forGo]
  unfold aheadAt
  rw [<-ih]
  by_cases h:b<=m <;> simp [gEq,b_shown_1,h]
theorem r_shown {a m:Int} {ss:Sh}:f_shown [.dat (zoneD a ss),.dat (.int m)]=.rt (.dat (.int (shownM a ss m))) []:=by
 obtain ⟨y,h⟩:=shown_go (m:=m) (z:=some (.dat (zoneD a ss))) (ss:=ss) (a:=a) (x:=none)
 simp [gEq,f_shown,m_shown] at h ⊢
 rw [h]
 simp [gEq,shownM]
theorem comp_map {e:XM PyData} {g:GM} {f:PyData->PyData} {P:DEnv->Prop}:∀ {its ys:List PyData} {ρ:DEnv},P ρ->(∀ d ∈ its,∀ ρ,P ρ->∃ ρ1 ρ2,g d ρ=some ρ1/\e ρ1=.ok (f d) ρ2/\P ρ2)->ys.length + its.length<=sizeLine->compGo g bTrue e its ys ρ=some (ys ++ its.map f)
 | [],ys,ρ,_,_,_=>by simp [gEq,compGo]
 | d :: r,ys,ρ,hP,h,hl=>by
  obtain ⟨ρ1,ρ2,h1,h2,h3⟩:=h d List.mem_cons_self ρ hP
  simp only [List.length_cons] at hl
  unfold compGo
  rw [h1]
  simp only [bTrue,h2]
  rw [if_pos (by omega),comp_map h3 (fun d hd=>h d (List.mem_cons_of_mem _ hd)) (by simp; omega)]
  simp
theorem comp_filter {t:XM Bool} {e:XM PyData} {g:GM} {p:PyData->Bool} {f:PyData->PyData} {P:DEnv->Prop}:∀ {its ys:List PyData} {ρ:DEnv},P ρ->(∀ d ∈ its,∀ ρ,P ρ->∃ ρ1 ρ2 ρ3,g d ρ=some ρ1/\t ρ1=.ok (p d) ρ2/\P ρ2/\(p d=true->e ρ2=.ok (f d) ρ3/\P ρ3))->ys.length + its.length<=sizeLine->compGo g t e its ys ρ=some (ys ++ (its.filter p).map f)
 | [],ys,ρ,_,_,_=>by simp [gEq,compGo]
 | d :: r,ys,ρ,hP,h,hl=>by
  obtain ⟨ρ1,ρ2,ρ3,h1,h2,h3,h4⟩:=h d List.mem_cons_self ρ hP
  simp only [List.length_cons] at hl
  unfold compGo
  rw [h1]
  simp only [h2]
  cases hp:p d with
  | true=>
   obtain ⟨h5,h6⟩:=h4 hp
   simp only [h5]
   rw [if_pos (by omega),comp_filter h6 (fun d hd=>h d (List.mem_cons_of_mem _ hd)) (by simp; omega)]
   simp [gEq,hp]
  | false=>
   simp only
   rw [comp_filter h3 (fun d hd=>h d (List.mem_cons_of_mem _ hd)) (by omega)]
   simp [gEq,hp]
end K3
namespace K3
open PySem L2 L2.L3 Due
@[simp] theorem sz0:(0:Nat)<=sizeLine:=by decide
@[simp] theorem sz1:(1:Nat)<=sizeLine:=by decide
@[simp] theorem sz2:(2:Nat)<=sizeLine:=by decide
@[simp] theorem sz3:(3:Nat)<=sizeLine:=by decide
@[simp] theorem sz4:(4:Nat)<=sizeLine:=by decide
@[simp] theorem sz5:(5:Nat)<=sizeLine:=by decide
@[simp] theorem sz6:(6:Nat)<=sizeLine:=by decide
@[simp] theorem sz7:(7:Nat)<=sizeLine:=by decide
@[simp] theorem sz8:(8:Nat)<=sizeLine:=by decide
@[simp] theorem sz9:(9:Nat)<=sizeLine:=by decide
@[simp] theorem sz10:(10:Nat)<=sizeLine:=by decide
@[simp] theorem sz11:(11:Nat)<=sizeLine:=by decide
@[simp] theorem sz12:(12:Nat)<=sizeLine:=by decide
@[simp] theorem sz13:(13:Nat)<=sizeLine:=by decide
@[simp] theorem sz14:(14:Nat)<=sizeLine:=by decide
end K3
namespace K3
open PySem L2 L2.L3 Due
theorem r_cell {ns:List Int} {k:Int} (hn:ns.length<=63) (hk:0<=k):∃ v,f__law_cell_at [.scr ns,.dat (.int k)]=.rt (.dat (.int v)) []:=by
 by_cases h:k < ns.length
 ·have:∃ v,atI ns k=some v:=by
   unfold atI ixN
   rw [if_pos hk,if_pos h]
   exact ⟨ns[k.toNat]'(by omega),by simp⟩
  obtain ⟨v,hv⟩:=this
  exact ⟨v,by simp [gEq,f__law_cell_at,m__law_cell_at,hn,h,hv]⟩
 ·by_cases h0:ns=[]
  ·subst h0
   exact ⟨0,by simp [gEq,f__law_cell_at,m__law_cell_at] at h ⊢; simp [gEq,show ¬ k < 0 by omega]⟩
  ·have hp:0 < (ns.length:Int):=by
    have:=List.length_pos_iff.mpr h0
    omega
   have:∃ v,atI ns (k % ns.length)=some v:=by
    have h1:=Int.emod_nonneg k (show (ns.length:Int) ≠ 0 by omega)
    have h2:=Int.emod_lt_of_pos k hp
    unfold atI ixN
    rw [if_pos h1,if_pos h2]
    exact ⟨ns[(k % ns.length).toNat]'(by omega),by simp⟩
   obtain ⟨v,hv⟩:=this
   exact ⟨v * 31 + k,by simp [gEq,f__law_cell_at,m__law_cell_at,hn,h,h0,hv,cMod,cMul,List.length_pos_iff.mpr h0]⟩
theorem r_mixed {ns:List Int} {k many:Int} (hn:ns.length<=63) (hk:0<=k) (hm:0 < many):∃ v,0<=v/\v < many/\f__law_mixed [.scr ns,.dat (.int k),.dat (.int many)]=.rt (.dat (.int v)) []:=by
 obtain ⟨v,hv⟩:=r_cell (k:=k) hn hk
 generalize hd:(v * 1103515245 + 7919 * k + 12345) % 2147483647=dr
 have d1:0<=dr:=by omega
 have d2:dr < 2147483647:=by omega
 refine ⟨dr ^ 5 % 2147483647 % 999983 % many,Int.emod_nonneg _ (by omega),Int.emod_lt_of_pos _ hm,?_⟩
 simp [gEq,f__law_mixed,m__law_mixed,hv,cMul,cMod,cPow,hd,hm,show dr.natAbs < 18446744073709551616 by omega]
theorem r_draw {ns:List Int} {many:Int} {t:List PyData} (hn:ns.length<=63) (ht:t.length < 1000) (hm:0 < many):∃ v,0<=v/\v < many/\f__law_draw [.scr ns,.own true (.l t),.dat (.int many)]=.rt (.dat (.int v)) [.l (t ++ [.int 0])]:=by
 have sz:1000 < sizeLine:=by decide
 obtain ⟨v,h1,h2,h3⟩:=r_mixed (k:=((t ++ [PyData.int 0]).length:Int)) hn (by omega) hm
 refine ⟨v,h1,h2,?_⟩
 simp at h3
 simp [gEq,f__law_draw,m__law_draw,show t.length < sizeLine by omega,h3]
theorem r_pick {ns:List Int} {ds t:List PyData} (hn:ns.length<=63) (ht:t.length < 1000) (hd:ds ≠ []) (hl:ds.length<=1000):∃ d ∈ ds,f__law_pick [.scr ns,.own true (.l t),.dat (.list ds)]=.rt (.dat d) [.l (t ++ [.int 0])]:=by
 have hp:=List.length_pos_iff.mpr hd
 obtain ⟨v,h1,h2,h3⟩:=r_draw (many:=ds.length) hn ht (by omega)
 have:atI ds v=some (ds[v.toNat]'(by omega)):=by
  unfold atI ixN
  rw [if_pos h1,if_pos h2]
  simp
 refine ⟨ds[v.toNat]'(by omega),List.getElem_mem _,?_⟩
 simp [gEq,f__law_pick,m__law_pick,h3,this]
end K3
namespace K3
open PySem L2 L2.L3 Due
theorem zone_step {ns:List Int} {t:List PyData} {ss:Sh} {m wd:Int} {k:Option Cell} (hn:ns.length<=63) (ht:t.length < 900) (hs:ss.length<=100) (hw:0 < wd):∃ d c,0<=d/\d < wd/\-12<=c/\c<=14/\
  b__law_zone_1 [some (.scr ns),some (.own true (.l t)),some (.dat (.int wd)),some (.dat (.tuple (ss.map shD))),some (.dat (.int m)),k]=.nx [some (.scr ns),some (.own true (.l (t ++ [.int 0] ++ [.int 0]))),some (.dat (.int wd)),some (.dat (.tuple ((ss ++ [(m + 1 + d,c)]).map shD))),some (.dat (.int (m + 1 + d))),k]:=by
 have sz:1000 < sizeLine:=by decide
 obtain ⟨d,d1,d2,h2⟩:=r_draw (ns:=ns) (t:=t) (many:=wd) hn (by omega) hw
 obtain ⟨w,hw,h1⟩:=r_pick (ns:=ns) (t:=t ++ [.int 0]) (ds:=[.int 0,.int 1,.int 2,.int (-1),.int 14,.int (-12),.int 3]) hn (by simp; omega) (by simp) (by simp)
 have:∃ i:Int,w=.int i/\-12<=i/\i<=14:=by
  simp only [List.mem_cons,List.not_mem_nil,or_false] at hw
  rcases hw with rfl | rfl | rfl | rfl | rfl | rfl | rfl <;> exact ⟨_,rfl,by omega,by omega⟩
 obtain ⟨i,rfl,i1,i2⟩:=this
 refine ⟨d,i,d1,by omega,i1,i2,?_⟩
 simp only [List.append_assoc,List.cons_append,List.nil_append] at h1 h2
 simp [gEq,b__law_zone_1,h1,h2,show ss.length + 1<=sizeLine by omega]
theorem zone_go {ns:List Int} {wd:Int} (hn:ns.length<=63) (hw:0 < wd):∀ {its t:List PyData} {ss:Sh} {m:Int} {k:Option Cell},t.length + 2 * its.length < 900->ss.length + its.length<=100->∃ new t' m' k',forGo (gNm 5) b__law_zone_1 its [some (.scr ns),some (.own true (.l t)),some (.dat (.int wd)),some (.dat (.tuple (ss.map shD))),some (.dat (.int m)),k]=.nx [some (.scr ns),some (.own true (.l t')),some (.dat (.int wd)),some (.dat (.tuple ((ss ++ new).map shD))),some (.dat (.int m')),k']/\
  Rising m new/\(∀ p ∈ new,p.1<=m + wd * its.length/\-12<=p.2/\p.2<=14)/\new.length=its.length/\t'.length=t.length + 2 * its.length
 | [],t,ss,m,k,_,_=>⟨[],t,m,k,by simp [gEq,forGo],trivial,fun p hp=>(by cases hp),rfl,rfl⟩
 | x :: r,t,ss,m,k,h1,h2=>by
  simp only [List.length_cons] at h1 h2
  obtain ⟨d,c,d1,d2,c1,c2,e⟩:=zone_step (ns:=ns) (t:=t) (ss:=ss) (m:=m) (wd:=wd) (k:=some (.dat x)) hn (by omega) (by omega) hw
  obtain ⟨new,t',m',k',g1,g2,g3,g4,g5⟩:=zone_go hn hw (its:=r) (t:=t ++ [.int 0] ++ [.int 0]) (ss:=ss ++ [(m + 1 + d,c)]) (m:=m + 1 + d) (k:=some (.dat x)) (by simp; omega) (by simp; omega)
  have e3:wd * ((r.length + 1:Nat):Int)=wd * r.length + wd:=by rw [Int.natCast_add,Int.mul_add]; simp
  have e4:0<=wd * (r.length:Int):=Int.mul_nonneg (by omega) (by omega)
  refine ⟨(m + 1 + d,c) :: new,t',m',k',?_,⟨by omega,g2⟩,fun p hp=>?_,by simp [gEq,g4],by rw [g5]; simp; omega⟩
  ·rw [forGo]
   simp only [gNm,List.set_cons_succ,List.set_cons_zero,e]
   rw [g1]
   simp
  ·rw [List.length_cons,e3]
   rcases List.mem_cons.mp hp with rfl | hp
   ·exact ⟨by simp; omega,c1,c2⟩
   ·have:=g3 p hp
    exact ⟨by omega,this.2⟩
theorem r_zone {ns:List Int} {t:List PyData} {wd:Int} (hn:ns.length<=63) (ht:t.length<=100) (hw:0 < wd):∃ a ss t',f__law_zone [.scr ns,.own true (.l t),.dat (.int wd)]=.rt (.dat (zoneD a ss)) [.l t']/\ss.length<=4/\Rising 0 ss/\AheadOk a ss/\(∀ p ∈ ss,p.1<=4 * wd)/\t'.length<=t.length + 12:=by
 have sz:1000 < sizeLine:=by decide
 obtain ⟨n,n1,n2,h1⟩:=r_draw (ns:=ns) (t:=t) (many:=5) hn (by omega) (by omega)
 obtain ⟨new,t1,m1,k1,g1,g2,g3,g4,g5⟩:=zone_go (ns:=ns) (wd:=wd) hn hw (its:=intsFrom 0 n.toNat) (t:=t ++ [.int 0]) (ss:=[]) (m:=0) (k:=none) (by simp [gEq,intsFrom_length]; omega) (by simp [gEq,intsFrom_length]; omega)
 rw [intsFrom_length] at g3 g4 g5
 simp only [List.length_append,List.length_cons,List.length_nil] at g5
 obtain ⟨w,hw',h2⟩:=r_pick (ns:=ns) (t:=t1) (ds:=[.int 0,.int 1,.int 2,.int (-1),.int 14,.int (-12)]) hn (by omega) (by simp) (by simp)
 have:∃ i:Int,w=.int i/\-12<=i/\i<=14:=by
  simp only [List.mem_cons,List.not_mem_nil,or_false] at hw'
  rcases hw' with rfl | rfl | rfl | rfl | rfl | rfl <;> exact ⟨_,rfl,by omega,by omega⟩
 obtain ⟨i,rfl,i1,i2⟩:=this
 simp only [List.map_nil,List.nil_append] at g1
 have e3:wd * ((n.toNat:Nat):Int)<=4 * wd:=by
  rw [Int.mul_comm 4]
  exact Int.mul_le_mul_of_nonneg_left (by omega) (by omega)
 refine ⟨i,new,t1 ++ [.int 0],?_,by omega,g2,⟨⟨i1,i2⟩,fun p hp=>(g3 p hp).2⟩,fun p hp=>by have:=(g3 p hp).1; omega,by simp; omega⟩
 simp [gEq,f__law_zone,m__law_zone,h1,n1,show n < 4611686018427387904 by omega,show -4611686018427387904<=n by omega,g1,h2]
end K3
namespace K3
open PySem L2 L2.L3 Due
theorem eq_self {d:PyData} (h:SeqAt.shaped d=true):gEq false d d=some (.bool true):=by simp [gEq,h,eqv_shaped h]
theorem ne_self {d:PyData} (h:SeqAt.shaped d=true):gEq true d d=some (.bool false):=by simp [gEq,h,eqv_shaped h]
theorem ne_int (i j:Int):gEq true (.int i) (.int j)=some (.bool (!decide (i=j))):=by
 by_cases h:i=j
 ·subst h; simp [ne_self (shaped_int i)]
 ·simp [gEq,shaped_int,eqv_int,h]
end K3
namespace K3
open PySem L2 L2.L3 Due
theorem then_nx {m k:SM} {ρ ρ':DEnv} (h:m ρ=.nx ρ'):sThen m k ρ=k ρ':=by simp [h]
@[simp] theorem tab_ss:isTab "str" "str" = some true:=by decide
@[simp] theorem at2 {x y w:PyData} {l:List PyData}:atI (x :: y :: w :: l) 2=some w:=by
 unfold atI ixN
 rw [if_pos (by omega),if_pos (by simp <;> omega)]
 rfl
theorem max_ints {l:List Int} (h:l ≠ []):∃ M,M ∈ l/\(∀ x ∈ l,x<=M)/\nMaxL [.list (l.map PyData.int)]=some (.int M):=by
 have key:∀ (r:List Int) (i:Int),(∀ x ∈ i :: r,x<=r.foldl max i)/\r.foldl max i ∈ i :: r:=fun r=>by
  induction r with
  | nil=>intro i; simp
  | cons j r ih=>
   intro i
   obtain ⟨h1,h2⟩:=ih (max i j)
   have h3:=h1 (max i j) List.mem_cons_self
   refine ⟨fun x hx=>?_,?_⟩
   ·simp only [List.foldl_cons]
    rcases List.mem_cons.mp hx with rfl | hx
    ·omega
    ·rcases List.mem_cons.mp hx with rfl | hx
     ·omega
     ·exact h1 x (List.mem_cons_of_mem _ hx)
   ·simp only [List.foldl_cons]
    rcases List.mem_cons.mp h2 with e | e
    ·rw [e]
     rcases Int.le_total i j with q | q
     ·rw [Int.max_eq_right q]; simp
     ·rw [Int.max_eq_left q]; simp
    ·exact List.mem_cons_of_mem _ (List.mem_cons_of_mem _ e)
 cases l with
 | nil=>exact absurd rfl h
 | cons i r=>
  obtain ⟨h1,h2⟩:=key r i
  exact ⟨_,h2,h1,by unfold nMaxL; simp only [ints_map]; rfl⟩
theorem find_repl {k k':List Key} {v:PyData}:∀ kvs:KVs,(dFind false kvs k).isSome=true->dFind false (dRepl false k v kvs) k' = if k' = k then some v else dFind false kvs k'
 | [],h=>by cases h
 | p :: r,h=>by
  unfold dRepl dFind
  unfold dFind at h
  by_cases e:keyG false p.1=some k
  ·rw [if_pos e]
   by_cases e':k' = k
   ·subst e'; simp [e]
   ·have e'':¬ k=k':=fun z=>e' z.symm
    have this:∀ kvs:KVs,dFind false (dRepl false k v kvs) k' = dFind false kvs k':=fun kvs=>by
     induction kvs with
     | nil=>rfl
     | cons q s ih=>
      unfold dRepl dFind
      by_cases e2:keyG false q.1=some k
      ·simp [e2,e'',ih]
      ·simp [e2,ih]
    simp [e,e',e'',this]
  ·rw [if_neg e] at h ⊢
   rw [find_repl r h]
   by_cases e':k' = k
   ·subst e'; simp [e]
   ·simp [e']
theorem find_store {k k':List Key} {v d:PyData} {kvs:KVs} (hd:keyG false d=some k):dFind false (dStore false kvs d k v) k' = if k' = k then some v else dFind false kvs k':=by
 unfold dStore
 by_cases h:(dFind false kvs k).isSome=true
 ·rw [if_pos h,find_repl kvs h]
 ·rw [if_neg h]
  have hn:dFind false kvs k=none:=by simpa using h
  have:∀ kvs:KVs,dFind false (kvs ++ [(d,v)]) k' = (dFind false kvs k').or (if k' = k then some v else none):=fun kvs=>by
   induction kvs with
   | nil=>
    show (if keyG false d=some k' then some v else none)=_
    rw [hd]
    by_cases e:k' = k
    ·subst e; simp [dFind]
    ·rw [if_neg (by simpa using fun z=>e z.symm),if_neg e]; rfl
   | cons q s ih=>
    rw [List.cons_append]
    unfold dFind
    by_cases e2:keyG false q.1=some k'
    ·simp [e2]
    ·simp [e2,ih]
  rw [this]
  by_cases e:k' = k
  ·subst e; simp [hn]
  ·simp [e]
theorem repl_len {k:List Key} {v:PyData}:∀ kvs:KVs,(dRepl false k v kvs).length=kvs.length
 | []=>rfl
 | p :: r=>by unfold dRepl; simp [repl_len r]
theorem store_len {k:List Key} {v d:PyData} {kvs:KVs}:(dStore false kvs d k v).length<=kvs.length + 1:=by
 unfold dStore
 split
 ·rw [repl_len]; omega
 ·simp
end K3
namespace K3
open PySem L2 L2.L3 Due
noncomputable def IsT (o:OutS):Prop:=∃ x r,o=.rt (.dat (.bool true)) (x :: r)
theorem law_step {m k:SM} {ρ ρ':DEnv} (h:m ρ=.nx ρ') (q:IsT (k ρ')):IsT (sThen m k ρ):=by rw [then_nx h]; exact q
theorem law_end {m:SM} {n:Nat} {ns:List Int} (h:IsT (m (some (.scr ns) :: List.replicate n none))):fnM 1 (n + 1) m [.scr ns]=.rt (.dat (.bool true)) []:=by
 obtain ⟨x,r,e⟩:=h
 simp [e]
theorem intsFrom_succ (i:Int) (r:Nat):L3.intsFrom i (r + 1)=.int i :: L3.intsFrom (i + 1) r:=by
 unfold L3.intsFrom
 rw [List.range_succ_eq_map,List.map_cons,List.map_map]
 congr 1
 ·simp
 ·apply List.map_congr_left
  intro k _
  simp
  omega
theorem lshown_go {m:Int} {z:Option Cell}:∀ {ss:Sh} {a:Int} {x y:Option Cell},∃ x' y',forGo (gTup' 2 (gCons' (gNm 3) (gCons' (gNm 4) gNil'))) b__law_shown_1 (ss.map shD) [z,some (.dat (.int m)),some (.dat (.int a)),x,y]=.nx [z,some (.dat (.int m)),some (.dat (.int (aheadAt a ss m))),x',y']
 | [],_,x,y=>⟨x,y,rfl⟩
 | (b,c) :: r,a,x,y=>by
  obtain ⟨x',y',ih⟩:=lshown_go (m:=m) (z:=z) (ss:=r) (a:=if b<=m then c else a) (x:=some (.dat (.int b))) (y:=some (.dat (.int c)))
  refine ⟨x',y',?_⟩
  rw [List.map_cons,forGo]
  unfold aheadAt
  rw [<-ih]
  by_cases h:b<=m <;> simp [b__law_shown_1,h]
theorem r_lshown {a m:Int} {ss:Sh}:f__law_shown [.dat (zoneD a ss),.dat (.int m)]=.rt (.dat (.int (shownM a ss m))) []:=by
 obtain ⟨x',y',h⟩:=lshown_go (m:=m) (z:=some (.dat (zoneD a ss))) (ss:=ss) (a:=a) (x:=none) (y:=none)
 simp [f__law_shown,m__law_shown] at h ⊢
 rw [h]
 simp [shownM]
end K3
namespace K3
open PySem L2 L2.L3 Due
theorem r_check_stretch {first last:Int} (hf:0<=first/\first<=last) (hl:last<=9999):f_check_stretch [.dat (.int first),.dat (.int last)]=.rt (.dat .none) []:=by
 simp [f_check_stretch,m_check_stretch,r_check_moment (d:=.int first) rfl,r_check_moment (d:=.int last) rfl,isW,hf.1,show first<=9999 by omega,show 0<=last by omega,hl,show ¬ last < first by omega]
end K3
namespace K3
open PySem L2 L2.L3 Due
noncomputable def CN (kvs:KVs) (T:List Int):Prop:=∀ t:Int,dFind false kvs [.inl t]=if T.count t=0 then none else some (.int (T.count t))
theorem CN.get {kvs:KVs} {T:List Int} (h:CN kvs T) (t:Int):(dFind false kvs [.inl t]).getD (.int 0)=.int (T.count t):=by
 rw [h t]
 split
 ·rename_i e; rw [e]; rfl
 ·rfl
theorem CN.put {kvs:KVs} {T:List Int} (h:CN kvs T) (t:Int):CN (dStore false kvs (.int t) [.inl t] (.int ((T.count t:Int) + 1))) (T ++ [t]):=fun t'=>by
 rw [find_store rfl,h t',List.count_append,List.count_singleton]
 by_cases e:t' = t
 ·subst e
  rw [if_pos rfl,if_neg (by simp)]
  simp [Int.natCast_add]
 ·have e2:¬ ([Sum.inl t']:List Key)=[Sum.inl t]:=fun z=>e (by injection z with z; injection z)
  rw [if_neg e2]
  have e3:(t == t')=false:=by simp; exact fun z=>e z.symm
  simp [e3]
noncomputable def cs (T:List Int):Int->Nat->List Int
 | _,0=>[]
 | b,n + 1=>(T.count b:Int) :: cs T (b + 1) n
theorem ints_map:∀ ns:List Int,ints? (ns.map PyData.int)=some ns
 | []=>rfl
 | n :: ns=>by rw [List.map_cons,ints?,ints_map ns]; rfl
theorem ints_mem:∀ (n:Nat) (b:Int),∀ d ∈ L3.intsFrom b n,∃ t:Int,d=.int t
 | 0,b,d,h=>by simp [L3.intsFrom] at h
 | n + 1,b,d,h=>by
  rw [intsFrom_succ] at h
  rcases List.mem_cons.mp h with rfl | h
  ·exact ⟨b,rfl⟩
  ·exact ints_mem n (b + 1) d h
theorem ints_len:∀ (n:Nat) (b:Int),(L3.intsFrom b n).length=n
 | 0,b=>rfl
 | n + 1,b=>by rw [intsFrom_succ,List.length_cons,ints_len n (b + 1)]
theorem rng2_of {i j:Int} (h1:-1000000<=i) (h2:i<=1000000) (h3:-1000000<=j) (h4:j<=1000000):rng2 [.int i,.int j]=some (L3.intsFrom i (j - i).toNat):=by
 simp only [rng2]
 rw [if_pos (by simp; omega)]
end K3
namespace K3
open PySem L2 L2.L3 Due
noncomputable def wl (a:Int) (ss:Sh):Int->Nat->List Int
 | _,0=>[]
 | i,n + 1=>shownM a ss i :: wl a ss (i + 1) n
theorem wl_len (a:Int) (ss:Sh):∀ (n:Nat) (i:Int),(wl a ss i n).length=n
 | 0,_=>rfl
 | n + 1,i=>by simp [wl,wl_len a ss n]
theorem wl_map (a:Int) (ss:Sh):∀ (n:Nat) (i:Int),(L3.intsFrom i n).map (fun d=>match d with | .int m=>.int (shownM a ss m) | _=>d)=(wl a ss i n).map PyData.int
 | 0,i=>rfl
 | n + 1,i=>by rw [intsFrom_succ,wl,List.map_cons,List.map_cons,wl_map a ss n (i + 1)]
theorem wl_bound {a:Int} {ss:Sh} (ho:AheadOk a ss):∀ (n:Nat) (i:Int),∀ x ∈ wl a ss i n,i - 12<=x/\x<=i + n + 14
 | 0,_,x,h=>by cases h
 | n + 1,i,x,h=>by
  rcases List.mem_cons.mp h with rfl | h
  ·have:=ahead_ok (m:=i) ho
   unfold shownM
   omega
  ·have:=wl_bound ho n (i + 1) x h
   omega
theorem mem_fold (t:Int):∀ (T σ:List Int),t ∈ T.foldl TS.addI σ ↔ t ∈ σ\/t ∈ T
 | [],σ=>by simp
 | k :: T,σ=>by
  rw [List.foldl_cons,mem_fold t T]
  unfold TS.addI
  split
  ·rename_i h
   constructor
   ·rintro (h1 | h1)
    ·exact .inl h1
    ·exact .inr (.tail _ h1)
   ·rintro (h1 | h1)
    ·exact .inl h1
    ·rcases List.mem_cons.mp h1 with rfl | h1
     ·exact .inl h
     ·exact .inr h1
  ·simp only [List.mem_append,List.mem_cons,List.not_mem_nil,or_false]
   constructor
   ·rintro ((h1 | h1) | h1)
    ·exact .inl h1
    ·exact .inr (.inl h1)
    ·exact .inr (.inr h1)
   ·rintro (h1 | h1 | h1)
    ·exact .inl (.inl h1)
    ·exact .inl (.inr h1)
    ·exact .inr h1
theorem mem_once (t:Int) (T:List Int):t ∈ TS.onceI T ↔ t ∈ T:=by unfold TS.onceI; rw [mem_fold]; simp
theorem once_snoc (T:List Int) (t:Int):TS.onceI (T ++ [t])=TS.addI (TS.onceI T) t:=by unfold TS.onceI; rw [List.foldl_append]; rfl
noncomputable def KO (kvs:KVs) (T:List Int):Prop:=CN kvs T/\kvs.map (·.1)=(TS.onceI T).map PyData.int
theorem repl_keys (k:List Key) (v:PyData):∀ kvs:KVs,(dRepl false k v kvs).map (·.1)=kvs.map (·.1)
 | []=>rfl
 | p :: r=>by
  rw [dRepl,List.map_cons,List.map_cons,repl_keys k v r]
  split <;> rfl
theorem KO.put {kvs:KVs} {T:List Int} (h:KO kvs T) (t:Int):KO (dStore false kvs (.int t) [.inl t] (.int ((T.count t:Int) + 1))) (T ++ [t]):=by
 refine ⟨h.1.put t,?_⟩
 have c:=h.1 t
 rw [once_snoc]
 unfold dStore TS.addI
 by_cases q:T.count t=0
 ·rw [if_pos q] at c
  have nm:t ∉ TS.onceI T:=fun z=>List.count_eq_zero.mp q ((mem_once t T).mp z)
  rw [c,if_neg (by simp),if_neg nm,List.map_append,List.map_append,h.2]
  rfl
 ·rw [if_neg q] at c
  have nm:t ∈ TS.onceI T:=(mem_once t T).mpr (List.count_pos_iff.mp (Nat.pos_of_ne_zero q))
  rw [c,if_pos (by simp),if_pos nm,repl_keys,h.2]
theorem KO.in_ {kvs:KVs} {T:List Int} (h:KO kvs T) (t:Int):(dFind false kvs [.inl t]).isSome=decide (t ∈ T):=by
 rw [h.1 t]
 by_cases q:T.count t=0
 ·rw [if_pos q,decide_eq_false (List.count_eq_zero.mp q)]; rfl
 ·rw [if_neg q,decide_eq_true (List.count_pos_iff.mp (Nat.pos_of_ne_zero q))]; rfl
theorem how_go {a:Int} {ss:Sh} {z1 z2:Option Cell}:∀ (n:Nat) (i:Int) (kvs:KVs) (T:List Int) (x4 x5:Option Cell),KO kvs T->kvs.length + n<=500000->
  ∃ kvs' y4 y5,forGo (gNm 4) b_how_often_1 (L3.intsFrom i n) [some (.dat (zoneD a ss)),z1,z2,some (.own false (.m false kvs)),x4,x5]=.nx [some (.dat (zoneD a ss)),z1,z2,some (.own false (.m false kvs')),y4,y5]/\KO kvs' (T ++ wl a ss i n)
 | 0,i,kvs,T,x4,x5,h,_=>⟨kvs,x4,x5,by simp [forGo,L3.intsFrom],by simpa [wl] using h⟩
 | n + 1,i,kvs,T,x4,x5,h,hl=>by
  have sz:1000000 < sizeLine:=by decide
  have sl:=store_len (kvs:=kvs) (k:=[.inl (shownM a ss i)]) (d:=.int (shownM a ss i)) (v:=.int ((T.count (shownM a ss i):Int) + 1))
  obtain ⟨kvs',y4,y5,e,c⟩:=how_go (a:=a) (ss:=ss) (z1:=z1) (z2:=z2) n (i + 1) _ (T ++ [shownM a ss i]) (some (.dat (.int i))) (some (.dat (.int (shownM a ss i)))) (h.put _) (by omega)
  refine ⟨kvs',y4,y5,?_,by simpa [wl] using c⟩
  have g:=h.1.get (shownM a ss i)
  have b:b_how_often_1 [some (.dat (zoneD a ss)),z1,z2,some (.own false (.m false kvs)),some (.dat (.int i)),x5]=.nx [some (.dat (zoneD a ss)),z1,z2,some (.own false (.m false (dStore false kvs (.int (shownM a ss i)) [.inl (shownM a ss i)] (.int ((T.count (shownM a ss i):Int) + 1))))),some (.dat (.int i)),some (.dat (.int (shownM a ss i)))]:=by
   have rs:=r_shown (a:=a) (m:=i) (ss:=ss)
   generalize zoneD a ss=Z at *
   generalize shownM a ss i=v at *
   simp [b_how_often_1,rs,sDPutF,dPutV,dPutK,asM,keyG,keyOf,xDGet2,dGet2K,g,show kvs.length < sizeLine by omega]
  rw [intsFrom_succ,forGo,<-e]
  simp only [gNm,List.length_cons,List.set_cons_succ,List.set_cons_zero,b]
theorem r_how_often {a first last:Int} {ss:Sh} (hf:0<=first/\first<=last) (hl:last<=9999) :
  ∃ kvs,f_how_often [.dat (zoneD a ss),.dat (.int first),.dat (.int last)]=.rt (.own false (.m false kvs)) []/\KO kvs (wl a ss first (last + 1 - first).toNat):=by
 obtain ⟨kvs,y4,y5,e,c⟩:=how_go (a:=a) (ss:=ss) (z1:=some (.dat (.int first))) (z2:=some (.dat (.int last))) (last + 1 - first).toNat first [] [] none none ⟨fun t=>by simp [dFind],rfl⟩ (by simp; omega)
 have r2:=rng2_of (i:=first) (j:=last + 1) (by omega) (by omega) (by omega) (by omega)
 refine ⟨kvs,?_,by simpa using c⟩
 generalize zoneD a ss=Z at *
 simp [-rng2,f_how_often,m_how_often,xDNew,r2,e]
theorem min_ints {l:List Int} (h:l ≠ []):∃ M,M ∈ l/\(∀ x ∈ l,M<=x)/\nMinL [.list (l.map PyData.int)]=some (.int M):=by
 have key:∀ (r:List Int) (i:Int),(∀ x ∈ i :: r,r.foldl min i<=x)/\r.foldl min i ∈ i :: r:=fun r=>by
  induction r with
  | nil=>intro i; simp
  | cons j r ih=>
   intro i
   obtain ⟨h1,h2⟩:=ih (min i j)
   have h3:=h1 (min i j) List.mem_cons_self
   simp only [List.foldl_cons]
   refine ⟨fun x hx=>?_,?_⟩
   ·rcases List.mem_cons.mp hx with rfl | hx
    ·omega
    ·rcases List.mem_cons.mp hx with rfl | hx
     ·omega
     ·exact h1 x (List.mem_cons_of_mem _ hx)
   ·rcases List.mem_cons.mp h2 with h2 | h2
    ·rw [h2]
     rcases Int.le_total i j with c | c
     ·rw [Int.min_eq_left c]; exact List.mem_cons_self
     ·rw [Int.min_eq_right c]; exact List.mem_cons_of_mem _ List.mem_cons_self
    ·exact List.mem_cons_of_mem _ (List.mem_cons_of_mem _ h2)
 cases l with
 | nil=>exact absurd rfl h
 | cons i r=>
  obtain ⟨h1,h2⟩:=key r i
  refine ⟨r.foldl min i,h2,h1,?_⟩
  show ((ints? ((i :: r).map PyData.int)).bind lmin).map PyData.int=_
  rw [ints_map]
  rfl
theorem mm_once {T:List Int} (h:T ≠ []):∃ m M,(∀ x ∈ T,m<=x/\x<=M)/\m ∈ T/\M ∈ T/\nMinL [.list ((TS.onceI T).map PyData.int)]=some (.int m)/\nMaxL [.list ((TS.onceI T).map PyData.int)]=some (.int M)/\nMinL [.list (T.map PyData.int)]=some (.int m)/\nMaxL [.list (T.map PyData.int)]=some (.int M):=by
 have h':TS.onceI T ≠ []:=fun z=>by
  cases T with
  | nil=>exact h rfl
  | cons t T=>
   have:=(mem_once t (t :: T)).mpr List.mem_cons_self
   rw [z] at this; cases this
 obtain ⟨m1,a1,a2,a3⟩:=min_ints h'
 obtain ⟨M1,b1,b2,b3⟩:=max_ints h'
 obtain ⟨m2,c1,c2,c3⟩:=min_ints h
 obtain ⟨M2,d1,d2,d3⟩:=max_ints h
 have e1:m1=m2:=Int.le_antisymm (a2 m2 ((mem_once _ _).mpr c1)) (c2 m1 ((mem_once _ _).mp a1))
 have e2:M1=M2:=Int.le_antisymm (d2 M1 ((mem_once _ _).mp b1)) (b2 M2 ((mem_once _ _).mpr d1))
 subst e1 e2
 exact ⟨m1,M1,fun x hx=>⟨c2 x hx,d2 x hx⟩,c1,d1,a3,b3,c3,d3⟩
noncomputable def notIn (T:List Int) (d:PyData):Bool:=match d with
 | .int t=>!decide (t ∈ T)
 | _=>false
noncomputable def dmD (d:PyData):PyData:=match d with
 | .int t=>.tuple [.int (t / 24),.int (t % 24)]
 | _=>d
noncomputable def neverD (T:List Int) (m M:Int):List PyData:=((L3.intsFrom m (M - m).toNat).filter (notIn T)).map dmD
theorem never_len (T:List Int) (m M:Int):(neverD T m M).length<=(M - m).toNat:=by
 unfold neverD
 rw [List.length_map]
 exact Nat.le_trans (List.length_filter_le _ _) (by rw [ints_len]; exact Nat.le_refl _)
theorem never_atom (T:List Int) (m M:Int):(neverD T m M).all atomD=true:=by
 rw [List.all_eq_true]
 intro d hd
 obtain ⟨x,hx,rfl⟩:=List.mem_map.mp hd
 obtain ⟨t,rfl⟩:=ints_mem _ _ x (List.mem_filter.mp hx).1
 rfl
theorem r_never {a first last:Int} {ss:Sh} (z:ZOk a ss) (hf:0<=first/\first<=last) (hl:last<=9999) {m M:Int}
  (hm:nMinL [.list ((TS.onceI (wl a ss first (last + 1 - first).toNat)).map PyData.int)]=some (.int m)) (hM:nMaxL [.list ((TS.onceI (wl a ss first (last + 1 - first).toNat)).map PyData.int)]=some (.int M)) (hb:-100<=m/\m<=20000/\-100<=M/\M<=20000) :
  f_never_shown [.dat (zoneD a ss),.dat (.int first),.dat (.int last)]=.rt (.dat (.list (neverD (wl a ss first (last + 1 - first).toNat) m M))) []:=by
 have sz:1000000 < sizeLine:=by decide
 obtain ⟨kvs,rh,ko⟩:=r_how_often (a:=a) (ss:=ss) hf hl
 have cz:=r_check_zone z
 have cs:=r_check_stretch hf hl
 generalize wl a ss first (last + 1 - first).toNat=T at *
 have r2:=rng2_of (i:=m) (j:=M) (by omega) (by omega) (by omega) (by omega)
 have cm:compGo (gNm 0) t_never_shown_1 e_never_shown_2 (L3.intsFrom m (M - m).toNat) [] [none,some (.vw (.m false kvs))]=some (neverD T m M):=by
  have:=comp_filter (t:=t_never_shown_1) (e:=e_never_shown_2) (g:=gNm 0) (p:=notIn T) (f:=dmD) (P:=fun ρ=>∃ x,ρ=[x,some (.vw (.m false kvs))]) (its:=L3.intsFrom m (M - m).toNat) (ys:=[]) (ρ:=[none,some (.vw (.m false kvs))]) ⟨none,rfl⟩ (fun d hd' ρ hρ=>?_) (by simp [ints_len]; omega)
  ·exact this
  ·obtain ⟨x,rfl⟩:=hρ
   obtain ⟨t,rfl⟩:=ints_mem _ _ d hd'
   refine ⟨[some (.dat (.int t)),some (.vw (.m false kvs))],[some (.dat (.int t)),some (.vw (.m false kvs))],[some (.dat (.int t)),some (.vw (.m false kvs))],rfl,?_,⟨_,rfl⟩,fun _=>⟨?_,⟨_,rfl⟩⟩⟩
   ·have i:(dFind false kvs [.inl t]).isNone = !decide (t ∈ T):=by rw [<-Option.not_isSome,ko.in_ t]
    simp [t_never_shown_1,xDInR,dInR,asR,keyQ,keyG,keyOf,i,notIn]
   ·simp [e_never_shown_2,dmD,cDiv]
 have hc:(xCompV 1 [3] (iLf rng2 (aCons (xV 4) (aCons (xV 5) aNil))) (gNm 0) t_never_shown_1 e_never_shown_2) [some (.dat (zoneD a ss)),some (.dat (.int first)),some (.dat (.int last)),some (.own false (.m false kvs)),some (.dat (.int m)),some (.dat (.int M))]=.ok (.list (neverD T m M)) [some (.dat (zoneD a ss)),some (.dat (.int first)),some (.dat (.int last)),some (.own false (.m false kvs)),some (.dat (.int m)),some (.dat (.int M))]:=by
  have l:=never_len T m M
  simp [-rng2,r2]
  simp only [cm,Option.bind_some]
  rw [if_pos ⟨by omega,by simpa using never_atom T m M⟩]
 have kk:∀ ρ,xDKeys 3 (some (.dat (zoneD a ss)) :: some (.dat (.int first)) :: some (.dat (.int last)) :: some (.own false (.m false kvs)) :: ρ)=.ok (.list ((TS.onceI T).map PyData.int)) (some (.dat (zoneD a ss)) :: some (.dat (.int first)) :: some (.dat (.int last)) :: some (.own false (.m false kvs)) :: ρ):=fun ρ=>by
  simp [xDKeys,asR,<-ko.2]
 generalize zoneD a ss=Z at *
 simp [-rng2,-xCompV,f_never_shown,m_never_shown,cz,cs,rh,kk,hm,hM,hc]
noncomputable def oftOk (T:List Int) (d:PyData):Bool:=match d with
 | .int t=>decide ((T.count t:Int) > 1)
 | _=>false
noncomputable def oftD (T:List Int) (d:PyData):PyData:=match d with
 | .int t=>.tuple [.tuple [.int (t / 24),.int (t % 24)],.int (T.count t)]
 | _=>d
noncomputable def oftenD (T:List Int):List PyData:=(((sortI (TS.onceI T)).map PyData.int).filter (oftOk T)).map (oftD T)
theorem sort_len (ns:List Int):(sortI ns).length=ns.length:=List.length_mergeSort ns
theorem often_len (T:List Int):(oftenD T).length<=T.length:=by
 unfold oftenD
 rw [List.length_map]
 refine Nat.le_trans (List.length_filter_le _ _) ?_
 rw [List.length_map,sort_len]
 exact TS.onceI_len T
theorem often_atom (T:List Int):(oftenD T).all atomD=true:=by
 rw [List.all_eq_true]
 intro d hd
 obtain ⟨x,hx,rfl⟩:=List.mem_map.mp hd
 obtain ⟨t,_,rfl⟩:=List.mem_map.mp (List.mem_filter.mp hx).1
 rfl
theorem ints_of_map (ns:List Int):intsOf (ns.map PyData.int)=some ns:=by
 induction ns with
 | nil=>rfl
 | cons n ns ih=>rw [List.map_cons,intsOf,ih]; rfl
theorem r_often {a first last:Int} {ss:Sh} (z:ZOk a ss) (hf:0<=first/\first<=last) (hl:last<=9999) :
  f_shown_often [.dat (zoneD a ss),.dat (.int first),.dat (.int last)]=.rt (.dat (.list (oftenD (wl a ss first (last + 1 - first).toNat)))) []:=by
 have sz:1000000 < sizeLine:=by decide
 obtain ⟨kvs,rh,ko⟩:=r_how_often (a:=a) (ss:=ss) hf hl
 have cz:=r_check_zone z
 have cs:=r_check_stretch hf hl
 have wz:=wl_len a ss (last + 1 - first).toNat first
 generalize wl a ss first (last + 1 - first).toNat=T at *
 have l:=often_len T
 have ol:=TS.onceI_len T
 have cm:compGo (gNm 0) t_shown_often_1 e_shown_often_2 ((sortI (TS.onceI T)).map PyData.int) [] [none,some (.vw (.m false kvs))]=some (oftenD T):=by
  have:=comp_filter (t:=t_shown_often_1) (e:=e_shown_often_2) (g:=gNm 0) (p:=oftOk T) (f:=oftD T) (P:=fun ρ=>∃ x,ρ=[x,some (.vw (.m false kvs))]) (its:=(sortI (TS.onceI T)).map PyData.int) (ys:=[]) (ρ:=[none,some (.vw (.m false kvs))]) ⟨none,rfl⟩ (fun d hd' ρ hρ=>?_) (by simp [sort_len]; omega)
  ·exact this
  ·obtain ⟨x,rfl⟩:=hρ
   obtain ⟨t,ht,rfl⟩:=List.mem_map.mp hd'
   have tm:t ∈ T:=(mem_once t T).mp ((List.mergeSort_perm _ _).mem_iff.mp ht)
   have fd:dFind false kvs [.inl t]=some (.int (T.count t)):=by
    rw [ko.1 t,if_neg (fun z=>List.count_eq_zero.mp z tm)]
   refine ⟨[some (.dat (.int t)),some (.vw (.m false kvs))],[some (.dat (.int t)),some (.vw (.m false kvs))],[some (.dat (.int t)),some (.vw (.m false kvs))],rfl,?_,⟨_,rfl⟩,fun _=>⟨?_,⟨_,rfl⟩⟩⟩
   ·simp [t_shown_often_1,xDGetR,dGetR,asR,keyQ,keyG,keyOf,fd,oftOk]
   ·simp [e_shown_often_2,xDGetR,dGetR,asR,keyQ,keyG,keyOf,fd,oftD,cDiv]
 have hs:xDSort 3 [some (.dat (zoneD a ss)),some (.dat (.int first)),some (.dat (.int last)),some (.own false (.m false kvs))]=.ok (.list ((sortI (TS.onceI T)).map PyData.int)) [some (.dat (zoneD a ss)),some (.dat (.int first)),some (.dat (.int last)),some (.own false (.m false kvs))]:=by
  simp [xDSort,asR,ko.2,ints_of_map]
 have hc:(xCompV 1 [3] (iLs (xDSort 3)) (gNm 0) t_shown_often_1 e_shown_often_2) [some (.dat (zoneD a ss)),some (.dat (.int first)),some (.dat (.int last)),some (.own false (.m false kvs))]=.ok (.list (oftenD T)) [some (.dat (zoneD a ss)),some (.dat (.int first)),some (.dat (.int last)),some (.own false (.m false kvs))]:=by
  simp [hs]
  simp only [cm,Option.bind_some]
  rw [if_pos ⟨by omega,by simpa using often_atom T⟩]
 generalize zoneD a ss=Z at *
 simp [-xCompV,f_shown_often,m_shown_often,cz,cs,rh,hc]
noncomputable def stepW (a:Int) (ss:Sh) (m:Int):Int:=shownM a ss m - shownM a ss (m - 1)
noncomputable def lpD (a:Int) (ss:Sh) (m:Int):PyData:=.tuple [.int m,.int (stepW a ss m)]
noncomputable def leapD (a:Int) (ss:Sh) (ms:List Int):List PyData:=(ms.filter fun m=>!decide (stepW a ss m=1)).map (lpD a ss)
theorem leaps_go {a:Int} {ss:Sh}:∀ (rs:Sh) (found:List PyData) (x2 x3:Option Cell),found.length + rs.length<=1000->∃ y2 y3,forGo (gNm 2) b_leaps_1 (rs.map shD) [some (.dat (zoneD a ss)),some (.own false (.l found)),x2,x3]=.nx [some (.dat (zoneD a ss)),some (.own false (.l (found ++ leapD a ss (rs.map (·.1))))),y2,y3]
 | [],found,x2,x3,_=>⟨x2,x3,by simp [forGo,leapD]⟩
 | (b,c) :: rs,found,x2,x3,h=>by
  have sz:1000000 < sizeLine:=by decide
  simp only [List.length_cons] at h
  have r1:=r_shown (a:=a) (m:=b) (ss:=ss)
  have r2:=r_shown (a:=a) (m:=b - 1) (ss:=ss)
  have hx:shownM a ss b - shownM a ss (b - 1)=stepW a ss b:=rfl
  by_cases q:stepW a ss b=1
  ·obtain ⟨y2,y3,ih⟩:=leaps_go (a:=a) (ss:=ss) rs found (some (.dat (shD (b,c)))) (some (.dat (.int (stepW a ss b)))) (by omega)
   refine ⟨y2,y3,?_⟩
   have e:leapD a ss (((b,c) :: rs).map (·.1))=leapD a ss (rs.map (·.1)):=by simp [leapD,q]
   have bb:b_leaps_1 [some (.dat (zoneD a ss)),some (.own false (.l found)),some (.dat (shD (b,c))),x3]=.nx [some (.dat (zoneD a ss)),some (.own false (.l found)),some (.dat (shD (b,c))),some (.dat (.int (stepW a ss b)))]:=by
    clear ih
    generalize zoneD a ss=Z at *
    generalize shownM a ss b=u at *
    generalize shownM a ss (b - 1)=v at *
    simp [b_leaps_1,r1,r2,hx,ne_int,q]
   rw [e,List.map_cons,forGo,<-ih]
   simp only [gNm,List.length_cons,List.set_cons_succ,List.set_cons_zero,bb]
  ·obtain ⟨y2,y3,ih⟩:=leaps_go (a:=a) (ss:=ss) rs (found ++ [lpD a ss b]) (some (.dat (shD (b,c)))) (some (.dat (.int (stepW a ss b)))) (by simp; omega)
   refine ⟨y2,y3,?_⟩
   have e:found ++ leapD a ss (((b,c) :: rs).map (·.1))=(found ++ [lpD a ss b]) ++ leapD a ss (rs.map (·.1)):=by simp [leapD,q]
   have bb:b_leaps_1 [some (.dat (zoneD a ss)),some (.own false (.l found)),some (.dat (shD (b,c))),x3]=.nx [some (.dat (zoneD a ss)),some (.own false (.l (found ++ [lpD a ss b]))),some (.dat (shD (b,c))),some (.dat (.int (stepW a ss b)))]:=by
    clear ih e
    unfold lpD
    generalize zoneD a ss=Z at *
    generalize shownM a ss b=u at *
    generalize shownM a ss (b - 1)=v at *
    simp [b_leaps_1,r1,r2,hx,ne_int,q,show found.length < sizeLine by omega]
   rw [e,List.map_cons,forGo,<-ih]
   simp only [gNm,List.length_cons,List.set_cons_succ,List.set_cons_zero,bb]
theorem r_leaps {a:Int} {ss:Sh} (z:ZOk a ss):f_leaps [.dat (zoneD a ss)]=.rt (.own false (.l (leapD a ss (ss.map (·.1))))) []:=by
 have h6:=z.len
 obtain ⟨y2,y3,e⟩:=leaps_go (a:=a) (ss:=ss) ss [] none none (by simp; omega)
 have cz:=r_check_zone z
 have ix:gIxA (zoneD a ss) (.int 1)=some (.tuple (ss.map shD)):=rfl
 generalize zoneD a ss=Z at *
 simp [-gIxA,f_leaps,m_leaps,cz,ix,e]
theorem ahead_still {m:Int}:∀ {ss:Sh} {a:Int},m ∉ ss.map (·.1)->aheadAt a ss m=aheadAt a ss (m - 1)
 | [],a,_=>rfl
 | (b,c) :: r,a,h=>by
  have hb:m ≠ b:=fun z=>h (by rw [z]; simp)
  have hr:m ∉ r.map (·.1):=fun z=>h (by rw [List.map_cons]; exact List.mem_cons_of_mem _ z)
  unfold aheadAt
  have e:(if b<=m then c else a)=if b<=m - 1 then c else a:=by
   by_cases q:b<=m
   ·rw [if_pos q,if_pos (by omega)]
   ·rw [if_neg q,if_neg (by omega)]
  rw [e]
  exact ahead_still hr
theorem step_still {a m:Int} {ss:Sh} (h:m ∉ ss.map (·.1)):stepW a ss m=1:=by
 unfold stepW shownM
 rw [ahead_still h]
 omega
noncomputable def upI:Int->Nat->List Int
 | _,0=>[]
 | i,n + 1=>i :: upI (i + 1) n
theorem leap_all {a:Int} {ss:Sh}:∀ (n:Nat) (i:Int) (rs:Sh),Rising (i - 1) rs->(∀ p ∈ rs,p.1 < i + n)->(∀ m,i<=m->m < i + n->m ∈ ss.map (·.1)->m ∈ rs.map (·.1))->leapD a ss (upI i n)=leapD a ss (rs.map (·.1))
 | 0,i,rs,h1,h2,h3=>by
  cases rs with
  | nil=>rfl
  | cons p r=>
   have:=h2 p List.mem_cons_self
   obtain ⟨b,c⟩:=p
   have:=h1.1
   simp at *
   omega
 | n + 1,i,rs,h1,h2,h3=>by
  have one:∀ ms:List Int,leapD a ss (i :: ms)=leapD a ss [i] ++ leapD a ss ms:=fun ms=>by
   unfold leapD
   rw [show i :: ms=[i] ++ ms from rfl,List.filter_append,List.map_append]
  by_cases q:∃ c r,rs=(i,c) :: r
  ·obtain ⟨c,r,rfl⟩:=q
   have ih:=leap_all (a:=a) (ss:=ss) n (i + 1) r (by rw [show i + 1 - 1=i by omega]; exact h1.2) (fun p hp=>by have:=h2 p (List.mem_cons_of_mem _ hp); omega) (fun m g1 g2 g3=>by
    have:=h3 m (by omega) (by omega) g3
    rw [List.map_cons] at this
    rcases List.mem_cons.mp this with z | z
    ·have:m=i:=z
     omega
    ·exact z)
   rw [upI,one (upI (i + 1) n),List.map_cons,ih]
   exact (one _).symm
  ·have hr:Rising (i + 1 - 1) rs:=by
    rw [show i + 1 - 1=i by omega]
    cases rs with
    | nil=>trivial
    | cons p r=>
     obtain ⟨b,c⟩:=p
     have:b ≠ i:=fun z=>q ⟨c,r,by rw [z]⟩
     exact ⟨by have:=h1.1; omega,h1.2⟩
   have low:∀ (rs:Sh) (l:Int),Rising l rs->∀ m ∈ rs.map (·.1),l < m:=fun rs=>by
    induction rs with
    | nil=>intro l _ m hm; cases hm
    | cons p r ih=>
     intro l h m hm
     obtain ⟨b,c⟩:=p
     rw [List.map_cons] at hm
     rcases List.mem_cons.mp hm with z | z
     ·rw [z]; exact h.1
     ·exact Int.lt_trans h.1 (ih b h.2 m z)
   have ni:i ∉ ss.map (·.1):=fun z=>by
    have:=low rs _ hr i (h3 i (by omega) (by omega) z)
    omega
   have e0:leapD a ss [i]=[]:=by simp [leapD,step_still ni]
   rw [upI,one,e0,List.nil_append]
   exact leap_all n (i + 1) rs hr (fun p hp=>by have:=h2 p hp; omega) fun m g1 g2 g3=>h3 m (by omega) (by omega) g3
theorem rows_goL {a:Int} {ss:Sh} {x0 x1 x3 x4 x5 x6 x7:Option Cell}:∀ (n:Nat) (i:Int) (rows:List PyData) (x9 x10:Option Cell),rows.length + n<=1000->∃ y9 y10,forGo (gNm 9) b_law_15 (L3.intsFrom i n) [x0,x1,some (.dat (zoneD a ss)),x3,x4,x5,x6,x7,some (.dat (.list rows)),x9,x10]=.nx [x0,x1,some (.dat (zoneD a ss)),x3,x4,x5,x6,x7,some (.dat (.list (rows ++ leapD a ss (upI i n)))),y9,y10]
 | 0,i,rows,x9,x10,_=>⟨x9,x10,by simp [forGo,L3.intsFrom,upI,leapD]⟩
 | n + 1,i,rows,x9,x10,h=>by
  have sz:1000000 < sizeLine:=by decide
  have r1:=r_lshown (a:=a) (m:=i) (ss:=ss)
  have r2:=r_lshown (a:=a) (m:=i - 1) (ss:=ss)
  have hx:shownM a ss i - shownM a ss (i - 1)=stepW a ss i:=rfl
  have bb:∀ q:Bool,decide (stepW a ss i=1)=q->b_law_15 [x0,x1,some (.dat (zoneD a ss)),x3,x4,x5,x6,x7,some (.dat (.list rows)),some (.dat (.int i)),x10]=.nx [x0,x1,some (.dat (zoneD a ss)),x3,x4,x5,x6,x7,some (.dat (.list (rows ++ leapD a ss [i]))),some (.dat (.int i)),some (.dat (.int (stepW a ss i)))]:=fun q hq=>by
   have e:leapD a ss [i]=if q then [] else [lpD a ss i]:=by
    cases q with
    | true=>simp [leapD,of_decide_eq_true hq]
    | false=>simp [leapD,of_decide_eq_false hq]
   rw [e]
   unfold lpD
   generalize zoneD a ss=Z at *
   generalize shownM a ss i=u at *
   generalize shownM a ss (i - 1)=v at *
   cases q with
   | true=>
    simp [b_law_15,r1,r2,hx,ne_int,hq,of_decide_eq_true hq,gCatL,show rows.length<=sizeLine by omega]
   | false=>
    simp [b_law_15,r1,r2,hx,ne_int,hq,of_decide_eq_false hq,gCatL,show rows.length + 1<=sizeLine by omega]
  obtain ⟨y9,y10,ih⟩:=rows_goL (a:=a) (ss:=ss) (x0:=x0) (x1:=x1) (x3:=x3) (x4:=x4) (x5:=x5) (x6:=x6) (x7:=x7) n (i + 1) (rows ++ leapD a ss [i]) (some (.dat (.int i))) (some (.dat (.int (stepW a ss i)))) (by
   have:(leapD a ss [i]).length<=1:=by unfold leapD; rw [List.length_map]; exact Nat.le_trans (List.length_filter_le _ _) (Nat.le_refl _)
   simp; omega)
  refine ⟨y9,y10,?_⟩
  have e:rows ++ leapD a ss (upI i (n + 1))=(rows ++ leapD a ss [i]) ++ leapD a ss (upI (i + 1) n):=by
   rw [upI,List.append_assoc]
   congr 1
   unfold leapD
   rw [show i :: upI (i + 1) n=[i] ++ upI (i + 1) n from rfl,List.filter_append,List.map_append]
  rw [e,intsFrom_succ,forGo,<-ih]
  simp only [gNm,List.length_cons,List.set_cons_succ,List.set_cons_zero,bb _ rfl]
theorem cnt_ints (T:List Int) (t:Int):cntD (T.map PyData.int) (.int t)=some (.int (T.count t)):=by
 have e:∀ T:List Int,flatDs (T.map PyData.int)=some (T.map V.int):=fun T=>by
  induction T with
  | nil=>rfl
  | cons x r ih=>simp [flatDs,ih]
 unfold cntD
 rw [e]
 simp only [flatD]
 congr 2
 rw [List.countP_map,List.count]
 rfl
theorem shaped_of {l:List PyData} (h:∀ d ∈ l,PyData.canLay0 d=true/\PyData.depth d<=3):SeqAt.shaped (.list l)=true:=by
 have key:∀ l:List PyData,(∀ d ∈ l,PyData.canLay0 d=true/\PyData.depth d<=3)->PyData.canLayAll0 l=true/\PyData.depthAll l<=3:=fun l=>by
  induction l with
  | nil=>intro _; exact ⟨rfl,Nat.zero_le _⟩
  | cons d r ih=>
   intro h
   obtain ⟨h1,h2⟩:=ih fun x hx=>h x (List.mem_cons_of_mem _ hx)
   obtain ⟨h3,h4⟩:=h d List.mem_cons_self
   refine ⟨by simp [PyData.canLayAll0,h1,h3],?_⟩
   simp only [PyData.depthAll]
   omega
 obtain ⟨h1,h2⟩:=key l h
 unfold SeqAt.shaped
 rw [show PyData.canLay0 (.list l)=true by simp [PyData.canLay0,h1],Bool.true_and,decide_eq_true_eq,PyData.depth]
 omega
theorem shaped_never (T:List Int) (m M:Int):SeqAt.shaped (.list (neverD T m M))=true:=shaped_of fun d hd=>by
 obtain ⟨x,hx,rfl⟩:=List.mem_map.mp hd
 obtain ⟨t,rfl⟩:=ints_mem _ _ x (List.mem_filter.mp hx).1
 exact ⟨rfl,by simp [dmD,PyData.depth,PyData.depthAll]⟩
theorem shaped_often (T:List Int):SeqAt.shaped (.list (oftenD T))=true:=shaped_of fun d hd=>by
 obtain ⟨x,hx,rfl⟩:=List.mem_map.mp hd
 obtain ⟨t,_,rfl⟩:=List.mem_map.mp (List.mem_filter.mp hx).1
 exact ⟨rfl,by simp [oftD,PyData.depth,PyData.depthAll]⟩
theorem shaped_leap (a:Int) (ss:Sh) (ms:List Int):SeqAt.shaped (.list (leapD a ss ms))=true:=shaped_of fun d hd=>by
 obtain ⟨x,hx,rfl⟩:=List.mem_map.mp hd
 exact ⟨rfl,by simp [lpD,PyData.depth,PyData.depthAll]⟩
theorem few_ints {T:List Int} (h:T.length < 4000):nSS [.list (T.map PyData.int)]=some (.list ((sortI (TS.onceI T)).map PyData.int)):=by
 unfold nSS fewI
 simp [ints_of_map,h]
theorem law_true {ns:List Int} (hn:ns.length<=63):f_law [.scr ns]=.rt (.dat (.bool true)) []:=by
 have sz:1000000 < sizeLine:=by decide
 obtain ⟨a,ss,t1,h1,s1,s2,s3,s4,s5⟩:=r_zone (ns:=ns) (t:=[]) (wd:=40) hn (by simp) (by omega)
 simp only [List.length_nil] at s5
 have z:ZOk a ss:=⟨by omega,s2,s3,fun p hp=>by have:=s4 p hp; omega⟩
 obtain ⟨first,f1,f2,h2⟩:=r_draw (ns:=ns) (t:=t1) (many:=150) hn (by omega) (by omega)
 obtain ⟨d,d1,d2,h3⟩:=r_draw (ns:=ns) (t:=t1 ++ [.int 0]) (many:=100) hn (by simp; omega) (by omega)
 have hf:0<=first/\first<=first + d:=⟨f1,by omega⟩
 have tl:=wl_len a ss (first + d + 1 - first).toNat first
 have tb:=wl_bound s3 (first + d + 1 - first).toNat first
 have tne:wl a ss first (first + d + 1 - first).toNat ≠ []:=fun q=>by rw [q] at tl; simp at tl; omega
 obtain ⟨m,M,mm,m0,M0,q1,q2,q3,q4⟩:=mm_once tne
 have bm:=tb m m0
 have bM:=tb M M0
 have rn:=r_never z hf (by omega) q1 q2 (by omega)
 have ro:=r_often (a:=a) (ss:=ss) z hf (by omega)
 have rl:=r_leaps z
 have r2:=rng2_of (i:=first) (j:=first + d + 1) (by omega) (by omega) (by omega) (by omega)
 have r3:=rng2_of (i:=m) (j:=M) (by omega) (by omega) (by omega) (by omega)
 have cl:leapD a ss (upI 1 199)=leapD a ss (ss.map (·.1)):=leap_all 199 1 ss (by exact s2) (fun p hp=>by have:=s4 p hp; omega) fun _ _ _ h=>h
 have c6:compGo (gNm 0) bTrue e_law_5 (L3.intsFrom first (first + d + 1 - first).toNat) [] [none,some (.dat (zoneD a ss))]=some ((wl a ss first (first + d + 1 - first).toNat).map PyData.int):=by
  have:=comp_map (e:=e_law_5) (g:=gNm 0) (f:=fun d=>match d with | .int m=>.int (shownM a ss m) | _=>d) (P:=fun ρ=>∃ x,ρ=[x,some (.dat (zoneD a ss))]) (its:=L3.intsFrom first (first + d + 1 - first).toNat) (ys:=[]) (ρ:=[none,some (.dat (zoneD a ss))]) ⟨none,rfl⟩ (fun d hd' ρ hρ=>?_) (by simp [ints_len]; omega)
  ·rw [List.nil_append,wl_map] at this
   exact this
  ·obtain ⟨x,rfl⟩:=hρ
   obtain ⟨t,rfl⟩:=ints_mem _ _ d hd'
   refine ⟨[some (.dat (.int t)),some (.dat (zoneD a ss))],[some (.dat (.int t)),some (.dat (zoneD a ss))],rfl,?_,⟨_,rfl⟩⟩
   have rs:=r_lshown (a:=a) (m:=t) (ss:=ss)
   generalize zoneD a ss=Z at *
   simp [e_law_5,rs]
 have sh1:=ne_self (shaped_never (wl a ss first (first + d + 1 - first).toNat) m M)
 have sh2:=ne_self (shaped_often (wl a ss first (first + d + 1 - first).toNat))
 have sh3:=eq_self (shaped_leap a ss (ss.map (·.1)))
 obtain ⟨y9,y10,lg⟩:=rows_goL (a:=a) (ss:=ss) (x0:=some (.scr ns)) (x1:=some (.own false (.l (t1 ++ [.int 0,.int 0])))) (x3:=some (.dat (.int first))) (x4:=some (.dat (.int (first + d)))) (x5:=some (.dat (.list ((wl a ss first (first + d + 1 - first).toNat).map PyData.int)))) (x6:=some (.dat (.list (neverD (wl a ss first (first + d + 1 - first).toNat) m M)))) (x7:=some (.dat (.list (oftenD (wl a ss first (first + d + 1 - first).toNat))))) 199 1 [] none none (by simp)
 rw [List.nil_append,cl] at lg
 generalize wl a ss first (first + d + 1 - first).toNat=T at *
 have c9:compGo (gNm 0) t_law_7 e_law_8 (L3.intsFrom m (M - m).toNat) [] [none,some (.dat (.list (T.map PyData.int)))]=some (neverD T m M):=by
  have:=comp_filter (t:=t_law_7) (e:=e_law_8) (g:=gNm 0) (p:=notIn T) (f:=dmD) (P:=fun ρ=>∃ x,ρ=[x,some (.dat (.list (T.map PyData.int)))]) (its:=L3.intsFrom m (M - m).toNat) (ys:=[]) (ρ:=[none,some (.dat (.list (T.map PyData.int)))]) ⟨none,rfl⟩ (fun d hd' ρ hρ=>?_) (by simp [ints_len]; omega)
  ·exact this
  ·obtain ⟨x,rfl⟩:=hρ
   obtain ⟨t,rfl⟩:=ints_mem _ _ d hd'
   refine ⟨[some (.dat (.int t)),some (.dat (.list (T.map PyData.int)))],[some (.dat (.int t)),some (.dat (.list (T.map PyData.int)))],[some (.dat (.int t)),some (.dat (.list (T.map PyData.int)))],rfl,?_,⟨_,rfl⟩,fun _=>⟨?_,⟨_,rfl⟩⟩⟩
   ·have g:gIn true (.int t) (.list (T.map PyData.int))=some (.bool (!decide (t ∈ T))):=by unfold gIn; dsimp only; rw [ints_map]; rfl
    simp [t_law_7,g,notIn]
   ·simp [e_law_8,dmD,cDiv,cMod]
 have l2:=often_len T
 have ol:=TS.onceI_len T
 have c12:compGo (gNm 0) t_law_10 e_law_11 ((sortI (TS.onceI T)).map PyData.int) [] [none,some (.dat (.list (T.map PyData.int)))]=some (oftenD T):=by
  have:=comp_filter (t:=t_law_10) (e:=e_law_11) (g:=gNm 0) (p:=oftOk T) (f:=oftD T) (P:=fun ρ=>∃ x,ρ=[x,some (.dat (.list (T.map PyData.int)))]) (its:=(sortI (TS.onceI T)).map PyData.int) (ys:=[]) (ρ:=[none,some (.dat (.list (T.map PyData.int)))]) ⟨none,rfl⟩ (fun d hd' ρ hρ=>?_) (by simp [sort_len]; omega)
  ·exact this
  ·obtain ⟨x,rfl⟩:=hρ
   obtain ⟨t,ht,rfl⟩:=List.mem_map.mp hd'
   have cn:=cnt_ints T t
   refine ⟨[some (.dat (.int t)),some (.dat (.list (T.map PyData.int)))],[some (.dat (.int t)),some (.dat (.list (T.map PyData.int)))],[some (.dat (.int t)),some (.dat (.list (T.map PyData.int)))],rfl,?_,⟨_,rfl⟩,fun _=>⟨?_,⟨_,rfl⟩⟩⟩
   ·simp [-cntD,t_law_10,lstC,cn,oftOk]
   ·simp [-cntD,e_law_11,lstC,cn,oftD,cDiv,cMod]
 have nl:=never_len T m M
 have ss1:=few_ints (T:=T) (by omega)
 have rg:rng2 [.int 1,.int 200]=some (L3.intsFrom 1 199):=rng2_of (by omega) (by omega) (by omega) (by omega)
 generalize leapD a ss (ss.map (·.1))=LL at *
 generalize zoneD a ss=Z at *
 clear tb mm cl s4
 refine law_end (n:=10) ?_
 unfold m_law
 simp only [List.replicate]
 refine law_step (by simp [c_law_1] <;> rfl) ?_
 refine law_step (by simp [c_law_2,h1] <;> rfl) ?_
 refine law_step (by simp [c_law_3,h2] <;> rfl) ?_
 refine law_step (by simp [c_law_4,h3] <;> rfl) ?_
 refine law_step (by simp [-rng2,c_law_6,r2,c6,tl,show (first + d + 1 - first).toNat<=sizeLine by omega] <;> rfl) ?_
 refine law_step (by simp [-rng2,c_law_9,q3,q4,r3,c9,show (neverD T m M).length<=sizeLine by omega] <;> rfl) ?_
 refine law_step (by simp [c_law_12,ss1,c12,show (oftenD T).length<=sizeLine by omega] <;> rfl) ?_
 refine law_step (by simp [c_law_13,rn,ro,sh1,sh2] <;> rfl) ?_
 refine law_step (by simp [c_law_14] <;> rfl) ?_
 refine law_step (by simp [-rng2,c_law_16,rg]; exact lg) ?_
 exact ⟨_,_,by simp [c_law_17,rl,sh3] <;> exact ⟨rfl,rfl⟩⟩
end K3
namespace K3
open PySem PySem.Spec L2 L2.L3 PyProof.Rows
theorem scr_ok {K:PySem.W.Frag} {mg:Str->Option Value} {f:FM} {vs:List V} {H:Hp} {Q:VK} {E:XK} (hG:GH mg H) (hf:∀ ns:List Int,ns.length<=63->f [.scr ns]=.rt (.dat (.bool true)) []) (h:∃ a ns,vs=[.ref a]/\Scr K H a ns/\∀ H',Q (.bl true) H'):spF K mg f vs H Q E:=by
 obtain ⟨a,ns,rfl,hs,q⟩:=h
 refine ⟨hG,[.scr ns],[[]],[],.oth (fun _ z=>by cases z) (fun _ _ z=>by cases z) ⟨a,rfl,hs⟩ .nil,List.nodup_nil,fun b hb=>by simp at hb,?_⟩
 rw [hf ns hs.1]
 intro v H' fp fps' hv _ _
 rw [show v=.bl true from DV.bl_inv hv]
 exact q H'
noncomputable def spL (K:PySem.W.Frag):Sp:=fun vs H Q _=>∃ a ns,vs=[.ref a]/\Scr K H a ns/\∀ H',Q (.bl true) H'
theorem all_mk {l:PySem.W.OpenLaw} {w:World} {K:PySem.W.Frag} {h:Heap} {mg:Str->Option Value} {fa:Addr} (X:K.In h) (G:h.Ns mainGlobals mg) (hfa:mg "law" = some (.ref fa))
  {f_is_whole_:Addr} {od_is_whole an_is_whole:Option Addr} {sl_is_whole:Array (Option Value)} {oc_is_whole kV_is_whole dc_is_whole pm_is_whole cd_is_whole ct_is_whole:Value}
  {f_is_tuple_of_:Addr} {od_is_tuple_of an_is_tuple_of:Option Addr} {sl_is_tuple_of:Array (Option Value)} {oc_is_tuple_of kV_is_tuple_of dc_is_tuple_of pm_is_tuple_of cd_is_tuple_of ct_is_tuple_of:Value}
  {f_is_ahead_:Addr} {od_is_ahead an_is_ahead:Option Addr} {sl_is_ahead:Array (Option Value)} {oc_is_ahead kV_is_ahead dc_is_ahead pm_is_ahead cd_is_ahead ct_is_ahead:Value}
  {f_is_moment_:Addr} {od_is_moment an_is_moment:Option Addr} {sl_is_moment:Array (Option Value)} {oc_is_moment kV_is_moment dc_is_moment pm_is_moment cd_is_moment ct_is_moment:Value}
  {f_are_shifts_:Addr} {od_are_shifts an_are_shifts:Option Addr} {sl_are_shifts:Array (Option Value)} {oc_are_shifts kV_are_shifts dc_are_shifts pm_are_shifts cd_are_shifts ct_are_shifts:Value}
  {f_is_zone_:Addr} {od_is_zone an_is_zone:Option Addr} {sl_is_zone:Array (Option Value)} {oc_is_zone kV_is_zone dc_is_zone pm_is_zone cd_is_zone ct_is_zone:Value}
  {f_check_zone_:Addr} {od_check_zone an_check_zone:Option Addr} {sl_check_zone:Array (Option Value)} {oc_check_zone kV_check_zone dc_check_zone pm_check_zone cd_check_zone ct_check_zone:Value}
  {f_check_moment_:Addr} {od_check_moment an_check_moment:Option Addr} {sl_check_moment:Array (Option Value)} {oc_check_moment kV_check_moment dc_check_moment pm_check_moment cd_check_moment ct_check_moment:Value}
  {f_check_stretch_:Addr} {od_check_stretch an_check_stretch:Option Addr} {sl_check_stretch:Array (Option Value)} {oc_check_stretch kV_check_stretch dc_check_stretch pm_check_stretch cd_check_stretch ct_check_stretch:Value}
  {f_shown_:Addr} {od_shown an_shown:Option Addr} {sl_shown:Array (Option Value)} {oc_shown kV_shown dc_shown pm_shown cd_shown ct_shown:Value}
  {f_how_often_:Addr} {od_how_often an_how_often:Option Addr} {sl_how_often:Array (Option Value)} {oc_how_often kV_how_often dc_how_often pm_how_often cd_how_often ct_how_often:Value}
  {f_never_shown_:Addr} {od_never_shown an_never_shown:Option Addr} {sl_never_shown:Array (Option Value)} {oc_never_shown kV_never_shown dc_never_shown pm_never_shown cd_never_shown ct_never_shown:Value}
  {f_shown_often_:Addr} {od_shown_often an_shown_often:Option Addr} {sl_shown_often:Array (Option Value)} {oc_shown_often kV_shown_often dc_shown_often pm_shown_often cd_shown_often ct_shown_often:Value}
  {f_leaps_:Addr} {od_leaps an_leaps:Option Addr} {sl_leaps:Array (Option Value)} {oc_leaps kV_leaps dc_leaps pm_leaps cd_leaps ct_leaps:Value}
  {f__law_cell_at_:Addr} {od__law_cell_at an__law_cell_at:Option Addr} {sl__law_cell_at:Array (Option Value)} {oc__law_cell_at kV__law_cell_at dc__law_cell_at pm__law_cell_at cd__law_cell_at ct__law_cell_at:Value}
  {f__law_mixed_:Addr} {od__law_mixed an__law_mixed:Option Addr} {sl__law_mixed:Array (Option Value)} {oc__law_mixed kV__law_mixed dc__law_mixed pm__law_mixed cd__law_mixed ct__law_mixed:Value}
  {f__law_draw_:Addr} {od__law_draw an__law_draw:Option Addr} {sl__law_draw:Array (Option Value)} {oc__law_draw kV__law_draw dc__law_draw pm__law_draw cd__law_draw ct__law_draw:Value}
  {f__law_pick_:Addr} {od__law_pick an__law_pick:Option Addr} {sl__law_pick:Array (Option Value)} {oc__law_pick kV__law_pick dc__law_pick pm__law_pick cd__law_pick ct__law_pick:Value}
  {f__law_zone_:Addr} {od__law_zone an__law_zone:Option Addr} {sl__law_zone:Array (Option Value)} {oc__law_zone kV__law_zone dc__law_zone pm__law_zone cd__law_zone ct__law_zone:Value}
  {f__law_shown_:Addr} {od__law_shown an__law_shown:Option Addr} {sl__law_shown:Array (Option Value)} {oc__law_shown kV__law_shown dc__law_shown pm__law_shown cd__law_shown ct__law_shown:Value}
  {f_law_:Addr} {od_law an_law:Option Addr} {sl_law:Array (Option Value)} {oc_law kV_law dc_law pm_law cd_law ct_law:Value}
  {t_LAST_MOMENT:Tok}
  {t_LEAST_AHEAD:Tok}
  {t_MOST_AHEAD:Tok}
  {t_MOST_SHIFTS:Tok}
  {t_DAY_HOURS:Tok}
  {D_:Addr}
  (a_is_whole:PySem.W.nsIn K mainGlobals "is_whole" = some (some (.ref f_is_whole_)))
  (l_is_whole:K.lookup f_is_whole_=some ⟨oc_is_whole,od_is_whole,.func (PySem.W.fnOf "is_whole" "is_whole" (defArgs s_is_whole) (defBody s_is_whole) (defScope s_is_whole) .none kV_is_whole dc_is_whole pm_is_whole an_is_whole cd_is_whole ct_is_whole),sl_is_whole⟩)
  (c_is_whole:PySem.W.codeIn K cd_is_whole "is_whole" = true)
  (k_is_whole:PySem.W.keepIn K (.ref f_is_whole_)=true)
  (a_is_tuple_of:PySem.W.nsIn K mainGlobals "is_tuple_of" = some (some (.ref f_is_tuple_of_)))
  (l_is_tuple_of:K.lookup f_is_tuple_of_=some ⟨oc_is_tuple_of,od_is_tuple_of,.func (PySem.W.fnOf "is_tuple_of" "is_tuple_of" (defArgs s_is_tuple_of) (defBody s_is_tuple_of) (defScope s_is_tuple_of) .none kV_is_tuple_of dc_is_tuple_of pm_is_tuple_of an_is_tuple_of cd_is_tuple_of ct_is_tuple_of),sl_is_tuple_of⟩)
  (c_is_tuple_of:PySem.W.codeIn K cd_is_tuple_of "is_tuple_of" = true)
  (k_is_tuple_of:PySem.W.keepIn K (.ref f_is_tuple_of_)=true)
  (a_is_ahead:PySem.W.nsIn K mainGlobals "is_ahead" = some (some (.ref f_is_ahead_)))
  (l_is_ahead:K.lookup f_is_ahead_=some ⟨oc_is_ahead,od_is_ahead,.func (PySem.W.fnOf "is_ahead" "is_ahead" (defArgs s_is_ahead) (defBody s_is_ahead) (defScope s_is_ahead) .none kV_is_ahead dc_is_ahead pm_is_ahead an_is_ahead cd_is_ahead ct_is_ahead),sl_is_ahead⟩)
  (c_is_ahead:PySem.W.codeIn K cd_is_ahead "is_ahead" = true)
  (k_is_ahead:PySem.W.keepIn K (.ref f_is_ahead_)=true)
  (a_is_moment:PySem.W.nsIn K mainGlobals "is_moment" = some (some (.ref f_is_moment_)))
  (l_is_moment:K.lookup f_is_moment_=some ⟨oc_is_moment,od_is_moment,.func (PySem.W.fnOf "is_moment" "is_moment" (defArgs s_is_moment) (defBody s_is_moment) (defScope s_is_moment) .none kV_is_moment dc_is_moment pm_is_moment an_is_moment cd_is_moment ct_is_moment),sl_is_moment⟩)
  (c_is_moment:PySem.W.codeIn K cd_is_moment "is_moment" = true)
  (k_is_moment:PySem.W.keepIn K (.ref f_is_moment_)=true)
  (a_are_shifts:PySem.W.nsIn K mainGlobals "are_shifts" = some (some (.ref f_are_shifts_)))
  (l_are_shifts:K.lookup f_are_shifts_=some ⟨oc_are_shifts,od_are_shifts,.func (PySem.W.fnOf "are_shifts" "are_shifts" (defArgs s_are_shifts) (defBody s_are_shifts) (defScope s_are_shifts) .none kV_are_shifts dc_are_shifts pm_are_shifts an_are_shifts cd_are_shifts ct_are_shifts),sl_are_shifts⟩)
  (c_are_shifts:PySem.W.codeIn K cd_are_shifts "are_shifts" = true)
  (k_are_shifts:PySem.W.keepIn K (.ref f_are_shifts_)=true)
  (a_is_zone:PySem.W.nsIn K mainGlobals "is_zone" = some (some (.ref f_is_zone_)))
  (l_is_zone:K.lookup f_is_zone_=some ⟨oc_is_zone,od_is_zone,.func (PySem.W.fnOf "is_zone" "is_zone" (defArgs s_is_zone) (defBody s_is_zone) (defScope s_is_zone) .none kV_is_zone dc_is_zone pm_is_zone an_is_zone cd_is_zone ct_is_zone),sl_is_zone⟩)
  (c_is_zone:PySem.W.codeIn K cd_is_zone "is_zone" = true)
  (k_is_zone:PySem.W.keepIn K (.ref f_is_zone_)=true)
  (a_check_zone:PySem.W.nsIn K mainGlobals "check_zone" = some (some (.ref f_check_zone_)))
  (l_check_zone:K.lookup f_check_zone_=some ⟨oc_check_zone,od_check_zone,.func (PySem.W.fnOf "check_zone" "check_zone" (defArgs s_check_zone) (defBody s_check_zone) (defScope s_check_zone) .none kV_check_zone dc_check_zone pm_check_zone an_check_zone cd_check_zone ct_check_zone),sl_check_zone⟩)
  (c_check_zone:PySem.W.codeIn K cd_check_zone "check_zone" = true)
  (k_check_zone:PySem.W.keepIn K (.ref f_check_zone_)=true)
  (a_check_moment:PySem.W.nsIn K mainGlobals "check_moment" = some (some (.ref f_check_moment_)))
  (l_check_moment:K.lookup f_check_moment_=some ⟨oc_check_moment,od_check_moment,.func (PySem.W.fnOf "check_moment" "check_moment" (defArgs s_check_moment) (defBody s_check_moment) (defScope s_check_moment) .none kV_check_moment dc_check_moment pm_check_moment an_check_moment cd_check_moment ct_check_moment),sl_check_moment⟩)
  (c_check_moment:PySem.W.codeIn K cd_check_moment "check_moment" = true)
  (k_check_moment:PySem.W.keepIn K (.ref f_check_moment_)=true)
  (a_check_stretch:PySem.W.nsIn K mainGlobals "check_stretch" = some (some (.ref f_check_stretch_)))
  (l_check_stretch:K.lookup f_check_stretch_=some ⟨oc_check_stretch,od_check_stretch,.func (PySem.W.fnOf "check_stretch" "check_stretch" (defArgs s_check_stretch) (defBody s_check_stretch) (defScope s_check_stretch) .none kV_check_stretch dc_check_stretch pm_check_stretch an_check_stretch cd_check_stretch ct_check_stretch),sl_check_stretch⟩)
  (c_check_stretch:PySem.W.codeIn K cd_check_stretch "check_stretch" = true)
  (k_check_stretch:PySem.W.keepIn K (.ref f_check_stretch_)=true)
  (a_shown:PySem.W.nsIn K mainGlobals "shown" = some (some (.ref f_shown_)))
  (l_shown:K.lookup f_shown_=some ⟨oc_shown,od_shown,.func (PySem.W.fnOf "shown" "shown" (defArgs s_shown) (defBody s_shown) (defScope s_shown) .none kV_shown dc_shown pm_shown an_shown cd_shown ct_shown),sl_shown⟩)
  (c_shown:PySem.W.codeIn K cd_shown "shown" = true)
  (k_shown:PySem.W.keepIn K (.ref f_shown_)=true)
  (a_how_often:PySem.W.nsIn K mainGlobals "how_often" = some (some (.ref f_how_often_)))
  (l_how_often:K.lookup f_how_often_=some ⟨oc_how_often,od_how_often,.func (PySem.W.fnOf "how_often" "how_often" (defArgs s_how_often) (defBody s_how_often) (defScope s_how_often) .none kV_how_often dc_how_often pm_how_often an_how_often cd_how_often ct_how_often),sl_how_often⟩)
  (c_how_often:PySem.W.codeIn K cd_how_often "how_often" = true)
  (k_how_often:PySem.W.keepIn K (.ref f_how_often_)=true)
  (a_never_shown:PySem.W.nsIn K mainGlobals "never_shown" = some (some (.ref f_never_shown_)))
  (l_never_shown:K.lookup f_never_shown_=some ⟨oc_never_shown,od_never_shown,.func (PySem.W.fnOf "never_shown" "never_shown" (defArgs s_never_shown) (defBody s_never_shown) (defScope s_never_shown) .none kV_never_shown dc_never_shown pm_never_shown an_never_shown cd_never_shown ct_never_shown),sl_never_shown⟩)
  (c_never_shown:PySem.W.codeIn K cd_never_shown "never_shown" = true)
  (k_never_shown:PySem.W.keepIn K (.ref f_never_shown_)=true)
  (a_shown_often:PySem.W.nsIn K mainGlobals "shown_often" = some (some (.ref f_shown_often_)))
  (l_shown_often:K.lookup f_shown_often_=some ⟨oc_shown_often,od_shown_often,.func (PySem.W.fnOf "shown_often" "shown_often" (defArgs s_shown_often) (defBody s_shown_often) (defScope s_shown_often) .none kV_shown_often dc_shown_often pm_shown_often an_shown_often cd_shown_often ct_shown_often),sl_shown_often⟩)
  (c_shown_often:PySem.W.codeIn K cd_shown_often "shown_often" = true)
  (k_shown_often:PySem.W.keepIn K (.ref f_shown_often_)=true)
  (a_leaps:PySem.W.nsIn K mainGlobals "leaps" = some (some (.ref f_leaps_)))
  (l_leaps:K.lookup f_leaps_=some ⟨oc_leaps,od_leaps,.func (PySem.W.fnOf "leaps" "leaps" (defArgs s_leaps) (defBody s_leaps) (defScope s_leaps) .none kV_leaps dc_leaps pm_leaps an_leaps cd_leaps ct_leaps),sl_leaps⟩)
  (c_leaps:PySem.W.codeIn K cd_leaps "leaps" = true)
  (k_leaps:PySem.W.keepIn K (.ref f_leaps_)=true)
  (a__law_cell_at:PySem.W.nsIn K mainGlobals "_law_cell_at" = some (some (.ref f__law_cell_at_)))
  (l__law_cell_at:K.lookup f__law_cell_at_=some ⟨oc__law_cell_at,od__law_cell_at,.func (PySem.W.fnOf "_law_cell_at" "_law_cell_at" (defArgs s__law_cell_at) (defBody s__law_cell_at) (defScope s__law_cell_at) .none kV__law_cell_at dc__law_cell_at pm__law_cell_at an__law_cell_at cd__law_cell_at ct__law_cell_at),sl__law_cell_at⟩)
  (c__law_cell_at:PySem.W.codeIn K cd__law_cell_at "_law_cell_at" = true)
  (k__law_cell_at:PySem.W.keepIn K (.ref f__law_cell_at_)=true)
  (a__law_mixed:PySem.W.nsIn K mainGlobals "_law_mixed" = some (some (.ref f__law_mixed_)))
  (l__law_mixed:K.lookup f__law_mixed_=some ⟨oc__law_mixed,od__law_mixed,.func (PySem.W.fnOf "_law_mixed" "_law_mixed" (defArgs s__law_mixed) (defBody s__law_mixed) (defScope s__law_mixed) .none kV__law_mixed dc__law_mixed pm__law_mixed an__law_mixed cd__law_mixed ct__law_mixed),sl__law_mixed⟩)
  (c__law_mixed:PySem.W.codeIn K cd__law_mixed "_law_mixed" = true)
  (k__law_mixed:PySem.W.keepIn K (.ref f__law_mixed_)=true)
  (a__law_draw:PySem.W.nsIn K mainGlobals "_law_draw" = some (some (.ref f__law_draw_)))
  (l__law_draw:K.lookup f__law_draw_=some ⟨oc__law_draw,od__law_draw,.func (PySem.W.fnOf "_law_draw" "_law_draw" (defArgs s__law_draw) (defBody s__law_draw) (defScope s__law_draw) .none kV__law_draw dc__law_draw pm__law_draw an__law_draw cd__law_draw ct__law_draw),sl__law_draw⟩)
  (c__law_draw:PySem.W.codeIn K cd__law_draw "_law_draw" = true)
  (k__law_draw:PySem.W.keepIn K (.ref f__law_draw_)=true)
  (a__law_pick:PySem.W.nsIn K mainGlobals "_law_pick" = some (some (.ref f__law_pick_)))
  (l__law_pick:K.lookup f__law_pick_=some ⟨oc__law_pick,od__law_pick,.func (PySem.W.fnOf "_law_pick" "_law_pick" (defArgs s__law_pick) (defBody s__law_pick) (defScope s__law_pick) .none kV__law_pick dc__law_pick pm__law_pick an__law_pick cd__law_pick ct__law_pick),sl__law_pick⟩)
  (c__law_pick:PySem.W.codeIn K cd__law_pick "_law_pick" = true)
  (k__law_pick:PySem.W.keepIn K (.ref f__law_pick_)=true)
  (a__law_zone:PySem.W.nsIn K mainGlobals "_law_zone" = some (some (.ref f__law_zone_)))
  (l__law_zone:K.lookup f__law_zone_=some ⟨oc__law_zone,od__law_zone,.func (PySem.W.fnOf "_law_zone" "_law_zone" (defArgs s__law_zone) (defBody s__law_zone) (defScope s__law_zone) .none kV__law_zone dc__law_zone pm__law_zone an__law_zone cd__law_zone ct__law_zone),sl__law_zone⟩)
  (c__law_zone:PySem.W.codeIn K cd__law_zone "_law_zone" = true)
  (k__law_zone:PySem.W.keepIn K (.ref f__law_zone_)=true)
  (a__law_shown:PySem.W.nsIn K mainGlobals "_law_shown" = some (some (.ref f__law_shown_)))
  (l__law_shown:K.lookup f__law_shown_=some ⟨oc__law_shown,od__law_shown,.func (PySem.W.fnOf "_law_shown" "_law_shown" (defArgs s__law_shown) (defBody s__law_shown) (defScope s__law_shown) .none kV__law_shown dc__law_shown pm__law_shown an__law_shown cd__law_shown ct__law_shown),sl__law_shown⟩)
  (c__law_shown:PySem.W.codeIn K cd__law_shown "_law_shown" = true)
  (k__law_shown:PySem.W.keepIn K (.ref f__law_shown_)=true)
  (a_law:PySem.W.nsIn K mainGlobals "law" = some (some (.ref f_law_)))
  (l_law:K.lookup f_law_=some ⟨oc_law,od_law,.func (PySem.W.fnOf "law" "law" (defArgs s_law) (defBody s_law) (defScope s_law) .none kV_law dc_law pm_law an_law cd_law ct_law),sl_law⟩)
  (c_law:PySem.W.codeIn K cd_law "law" = true)
  (k_law:PySem.W.keepIn K (.ref f_law_)=true)
  (v_LAST_MOMENT:PySem.W.nsIn K mainGlobals "LAST_MOMENT" = some (some (.int (9999) t_LAST_MOMENT)))
  (v_LEAST_AHEAD:PySem.W.nsIn K mainGlobals "LEAST_AHEAD" = some (some (.int (-12) t_LEAST_AHEAD)))
  (v_MOST_AHEAD:PySem.W.nsIn K mainGlobals "MOST_AHEAD" = some (some (.int (14) t_MOST_AHEAD)))
  (v_MOST_SHIFTS:PySem.W.nsIn K mainGlobals "MOST_SHIFTS" = some (some (.int (6) t_MOST_SHIFTS)))
  (v_DAY_HOURS:PySem.W.nsIn K mainGlobals "DAY_HOURS" = some (some (.int (24) t_DAY_HOURS)))
  (z_ANY_ZONE:PySem.W.nsIn K mainGlobals "ANY_ZONE" = some none)
  (z_NO_DEEDS:PySem.W.nsIn K mainGlobals "NO_DEEDS" = some none)
  (z_bool:PySem.W.nsIn K mainGlobals "bool" = some none)
  (z_divmod:PySem.W.nsIn K mainGlobals "divmod" = some none)
  (z_int:PySem.W.nsIn K mainGlobals "int" = some none)
  (z_isinstance:PySem.W.nsIn K mainGlobals "isinstance" = some none)
  (z_len:PySem.W.nsIn K mainGlobals "len" = some none)
  (z_list:PySem.W.nsIn K mainGlobals "list" = some none)
  (z_max:PySem.W.nsIn K mainGlobals "max" = some none)
  (z_min:PySem.W.nsIn K mainGlobals "min" = some none)
  (z_range:PySem.W.nsIn K mainGlobals "range" = some none)
  (z_set:PySem.W.nsIn K mainGlobals "set" = some none)
  (z_sorted:PySem.W.nsIn K mainGlobals "sorted" = some none)
  (z_tuple:PySem.W.nsIn K mainGlobals "tuple" = some none)
  (a_Due:PySem.W.nsIn K mainGlobals "DueError" = some (some (.ref D_)))
  (x_Due:PySem.W.excIn K D_ bmV "ValueError.__new__" = true)
  (x_tab:excTab K D_ exL=true) :
  ∃ fd:FuncData,(∀ (s:Shared) (v:Value),BindsTo s fd ⟨[v],[]⟩ [("_law_script",v)])/\∀ base:Heap,K.In base->base.Ns mainGlobals mg->FnOk l.prog w K mg base (CXM l.prog w) 7 fa fd ["_law_script"] (spL K):=by
 have e:=hfa.symm.trans (PySem.W.mg_of X G a_law)
 cases e
 have F_is_whole:=fun_mk (st:=s_is_whole) l_is_whole c_is_whole k_is_whole
 have D_is_whole:FD K mg "is_whole" s_is_whole ["thing","least","most"] _ _:=⟨F_is_whole,PySem.W.mg_of X G a_is_whole,F_is_whole.binds fun _ _ _ _ _ _ us hl=>match us,hl with | [_,_,_],_=>rfl⟩
 have F_is_tuple_of:=fun_mk (st:=s_is_tuple_of) l_is_tuple_of c_is_tuple_of k_is_tuple_of
 have D_is_tuple_of:FD K mg "is_tuple_of" s_is_tuple_of ["thing","length"] _ _:=⟨F_is_tuple_of,PySem.W.mg_of X G a_is_tuple_of,F_is_tuple_of.binds fun _ _ _ _ _ _ us hl=>match us,hl with | [_,_],_=>rfl⟩
 have F_is_ahead:=fun_mk (st:=s_is_ahead) l_is_ahead c_is_ahead k_is_ahead
 have D_is_ahead:FD K mg "is_ahead" s_is_ahead ["thing"] _ _:=⟨F_is_ahead,PySem.W.mg_of X G a_is_ahead,F_is_ahead.binds fun _ _ _ _ _ _ us hl=>match us,hl with | [_],_=>rfl⟩
 have F_is_moment:=fun_mk (st:=s_is_moment) l_is_moment c_is_moment k_is_moment
 have D_is_moment:FD K mg "is_moment" s_is_moment ["thing"] _ _:=⟨F_is_moment,PySem.W.mg_of X G a_is_moment,F_is_moment.binds fun _ _ _ _ _ _ us hl=>match us,hl with | [_],_=>rfl⟩
 have F_are_shifts:=fun_mk (st:=s_are_shifts) l_are_shifts c_are_shifts k_are_shifts
 have D_are_shifts:FD K mg "are_shifts" s_are_shifts ["thing"] _ _:=⟨F_are_shifts,PySem.W.mg_of X G a_are_shifts,F_are_shifts.binds fun _ _ _ _ _ _ us hl=>match us,hl with | [_],_=>rfl⟩
 have F_is_zone:=fun_mk (st:=s_is_zone) l_is_zone c_is_zone k_is_zone
 have D_is_zone:FD K mg "is_zone" s_is_zone ["thing"] _ _:=⟨F_is_zone,PySem.W.mg_of X G a_is_zone,F_is_zone.binds fun _ _ _ _ _ _ us hl=>match us,hl with | [_],_=>rfl⟩
 have F_check_zone:=fun_mk (st:=s_check_zone) l_check_zone c_check_zone k_check_zone
 have D_check_zone:FD K mg "check_zone" s_check_zone ["thing"] _ _:=⟨F_check_zone,PySem.W.mg_of X G a_check_zone,F_check_zone.binds fun _ _ _ _ _ _ us hl=>match us,hl with | [_],_=>rfl⟩
 have F_check_moment:=fun_mk (st:=s_check_moment) l_check_moment c_check_moment k_check_moment
 have D_check_moment:FD K mg "check_moment" s_check_moment ["thing"] _ _:=⟨F_check_moment,PySem.W.mg_of X G a_check_moment,F_check_moment.binds fun _ _ _ _ _ _ us hl=>match us,hl with | [_],_=>rfl⟩
 have F_check_stretch:=fun_mk (st:=s_check_stretch) l_check_stretch c_check_stretch k_check_stretch
 have D_check_stretch:FD K mg "check_stretch" s_check_stretch ["first","last"] _ _:=⟨F_check_stretch,PySem.W.mg_of X G a_check_stretch,F_check_stretch.binds fun _ _ _ _ _ _ us hl=>match us,hl with | [_,_],_=>rfl⟩
 have F_shown:=fun_mk (st:=s_shown) l_shown c_shown k_shown
 have D_shown:FD K mg "shown" s_shown ["zone","moment"] _ _:=⟨F_shown,PySem.W.mg_of X G a_shown,F_shown.binds fun _ _ _ _ _ _ us hl=>match us,hl with | [_,_],_=>rfl⟩
 have F_how_often:=fun_mk (st:=s_how_often) l_how_often c_how_often k_how_often
 have D_how_often:FD K mg "how_often" s_how_often ["zone","first","last"] _ _:=⟨F_how_often,PySem.W.mg_of X G a_how_often,F_how_often.binds fun _ _ _ _ _ _ us hl=>match us,hl with | [_,_,_],_=>rfl⟩
 have F_never_shown:=fun_mk (st:=s_never_shown) l_never_shown c_never_shown k_never_shown
 have D_never_shown:FD K mg "never_shown" s_never_shown ["zone","first","last"] _ _:=⟨F_never_shown,PySem.W.mg_of X G a_never_shown,F_never_shown.binds fun _ _ _ _ _ _ us hl=>match us,hl with | [_,_,_],_=>rfl⟩
 have F_shown_often:=fun_mk (st:=s_shown_often) l_shown_often c_shown_often k_shown_often
 have D_shown_often:FD K mg "shown_often" s_shown_often ["zone","first","last"] _ _:=⟨F_shown_often,PySem.W.mg_of X G a_shown_often,F_shown_often.binds fun _ _ _ _ _ _ us hl=>match us,hl with | [_,_,_],_=>rfl⟩
 have F_leaps:=fun_mk (st:=s_leaps) l_leaps c_leaps k_leaps
 have D_leaps:FD K mg "leaps" s_leaps ["zone"] _ _:=⟨F_leaps,PySem.W.mg_of X G a_leaps,F_leaps.binds fun _ _ _ _ _ _ us hl=>match us,hl with | [_],_=>rfl⟩
 have F__law_cell_at:=fun_mk (st:=s__law_cell_at) l__law_cell_at c__law_cell_at k__law_cell_at
 have D__law_cell_at:FD K mg "_law_cell_at" s__law_cell_at ["_law_script","_law_k"] _ _:=⟨F__law_cell_at,PySem.W.mg_of X G a__law_cell_at,F__law_cell_at.binds fun _ _ _ _ _ _ us hl=>match us,hl with | [_,_],_=>rfl⟩
 have F__law_mixed:=fun_mk (st:=s__law_mixed) l__law_mixed c__law_mixed k__law_mixed
 have D__law_mixed:FD K mg "_law_mixed" s__law_mixed ["_law_script","_law_k","_law_many"] _ _:=⟨F__law_mixed,PySem.W.mg_of X G a__law_mixed,F__law_mixed.binds fun _ _ _ _ _ _ us hl=>match us,hl with | [_,_,_],_=>rfl⟩
 have F__law_draw:=fun_mk (st:=s__law_draw) l__law_draw c__law_draw k__law_draw
 have D__law_draw:FD K mg "_law_draw" s__law_draw ["_law_script","_law_town","_law_many"] _ _:=⟨F__law_draw,PySem.W.mg_of X G a__law_draw,F__law_draw.binds fun _ _ _ _ _ _ us hl=>match us,hl with | [_,_,_],_=>rfl⟩
 have F__law_pick:=fun_mk (st:=s__law_pick) l__law_pick c__law_pick k__law_pick
 have D__law_pick:FD K mg "_law_pick" s__law_pick ["_law_script","_law_town","_law_some"] _ _:=⟨F__law_pick,PySem.W.mg_of X G a__law_pick,F__law_pick.binds fun _ _ _ _ _ _ us hl=>match us,hl with | [_,_,_],_=>rfl⟩
 have F__law_zone:=fun_mk (st:=s__law_zone) l__law_zone c__law_zone k__law_zone
 have D__law_zone:FD K mg "_law_zone" s__law_zone ["_law_script","_law_town","_law_wide"] _ _:=⟨F__law_zone,PySem.W.mg_of X G a__law_zone,F__law_zone.binds fun _ _ _ _ _ _ us hl=>match us,hl with | [_,_,_],_=>rfl⟩
 have F__law_shown:=fun_mk (st:=s__law_shown) l__law_shown c__law_shown k__law_shown
 have D__law_shown:FD K mg "_law_shown" s__law_shown ["_law_zone_here","_law_moment"] _ _:=⟨F__law_shown,PySem.W.mg_of X G a__law_shown,F__law_shown.binds fun _ _ _ _ _ _ us hl=>match us,hl with | [_,_],_=>rfl⟩
 have F_law:=fun_mk (st:=s_law) l_law c_law k_law
 have D_law:FD K mg "law" s_law ["_law_script"] _ _:=⟨F_law,PySem.W.mg_of X G a_law,F_law.binds fun _ _ _ _ _ _ us hl=>match us,hl with | [_],_=>rfl⟩
 have T:Tx K mg:={
  d_is_whole:=⟨_,_,D_is_whole⟩
  d_is_tuple_of:=⟨_,_,D_is_tuple_of⟩
  d_is_ahead:=⟨_,_,D_is_ahead⟩
  d_is_moment:=⟨_,_,D_is_moment⟩
  d_are_shifts:=⟨_,_,D_are_shifts⟩
  d_is_zone:=⟨_,_,D_is_zone⟩
  d_check_zone:=⟨_,_,D_check_zone⟩
  d_check_moment:=⟨_,_,D_check_moment⟩
  d_check_stretch:=⟨_,_,D_check_stretch⟩
  d_shown:=⟨_,_,D_shown⟩
  d_how_often:=⟨_,_,D_how_often⟩
  d_never_shown:=⟨_,_,D_never_shown⟩
  d_shown_often:=⟨_,_,D_shown_often⟩
  d_leaps:=⟨_,_,D_leaps⟩
  d__law_cell_at:=⟨_,_,D__law_cell_at⟩
  d__law_mixed:=⟨_,_,D__law_mixed⟩
  d__law_draw:=⟨_,_,D__law_draw⟩
  d__law_pick:=⟨_,_,D__law_pick⟩
  d__law_zone:=⟨_,_,D__law_zone⟩
  d__law_shown:=⟨_,_,D__law_shown⟩
  c_LAST_MOMENT:=⟨_,PySem.W.mg_of X G v_LAST_MOMENT⟩
  c_LEAST_AHEAD:=⟨_,PySem.W.mg_of X G v_LEAST_AHEAD⟩
  c_MOST_AHEAD:=⟨_,PySem.W.mg_of X G v_MOST_AHEAD⟩
  c_MOST_SHIFTS:=⟨_,PySem.W.mg_of X G v_MOST_SHIFTS⟩
  c_DAY_HOURS:=⟨_,PySem.W.mg_of X G v_DAY_HOURS⟩
  b_bool:=PySem.W.mg_none_of X G z_bool
  b_divmod:=PySem.W.mg_none_of X G z_divmod
  b_int:=PySem.W.mg_none_of X G z_int
  b_isinstance:=PySem.W.mg_none_of X G z_isinstance
  b_len:=PySem.W.mg_none_of X G z_len
  b_list:=PySem.W.mg_none_of X G z_list
  b_max:=PySem.W.mg_none_of X G z_max
  b_min:=PySem.W.mg_none_of X G z_min
  b_range:=PySem.W.mg_none_of X G z_range
  b_set:=PySem.W.mg_none_of X G z_set
  b_sorted:=PySem.W.mg_none_of X G z_sorted
  b_tuple:=PySem.W.mg_none_of X G z_tuple
  xt0:=⟨D_,⟨⟨PySem.W.mg_of X G a_Due,a_Due,x_Due⟩,x_tab,fun c C e=>PySem.W.mg_of X G e⟩⟩
 }
 exact ⟨PySem.W.fnOf "law" "law" (defArgs s_law) (defBody s_law) (defScope s_law) .none kV_law dc_law pm_law an_law cd_law ct_law,fun s v=>.of_eq rfl,fun base _ _=>(ok_law _ _ _ T D_law).imp fun vs H Q E h=>scr_ok (gh_none (PySem.W.mg_none_of X G z_ANY_ZONE) (PySem.W.mg_none_of X G z_NO_DEEDS) H) (fun ns hn=>law_true hn) h⟩
theorem law_walk {l:PySem.W.OpenLaw} {q:Program} {loose:List Str} {XP:(Str->Option Value)->Heap->Prop} {YP:World->Heap->Prop} {d:DefRec} {K:Params->PySem.W.Frag} (hn:l.most=some 63) (hdf:d.params.defaults=[])
  (hY:∀ (w:World) (h:Heap),YP w h->(K w.params).In h)
  (F:∀ (w:World) (mg:Str->Option Value) (fa:Addr) (h:Heap),(K w.params).In h->h.Ns mainGlobals mg->mg d.name=some (.ref fa)->
   ∃ fd:FuncData,(∀ (s:Shared) (u:Value),BindsTo s fd ⟨[u],[]⟩ [("_law_script",u)])/\∀ base:Heap,(K w.params).In base->base.Ns mainGlobals mg->FnOk l.prog w (K w.params) mg base (CXM l.prog w) 7 fa fd ["_law_script"] (spL (K w.params))) :
  PySem.W.WalkO q loose XP YP l.row.toRowW d [] (fun f vs=>PySem.call f vs):=by
 refine L2.walk_of (n:=63) (k:=7) (x:="_law_script") (CX:=fun w=>CXM l.prog w) (sp:=fun w=>spL (K w.params)) hn (by decide) hdf ⟨rfl,by decide,by decide⟩ hY F (fun w H a ns hl hO hS=>?hsp) fun _ _ _ _ _ ⟨_,_,_,_,_,_,_,_,_,z⟩=>z
 refine ⟨a,ns,rfl,⟨hl,?_⟩,fun _=>rfl⟩
 rcases hS with (h1 | h1) | h1
 ·rcases hO a with h2 | ⟨o,xs,h2⟩
  ·rw [h2] at h1; cases h1
  ·rw [h2] at h1; cases h1
 ·exact .inl h1
 ·exact .inr h1
end K3
def PySem.W.Fast.tw10223397888966451581 : Unit := ()
def PySem.W.Fast.tw11135608691099091745 : Unit := ()
def PySem.W.Fast.tw12273975676296320828 : Unit := ()
def PySem.W.Fast.tw14436103161648960943 : Unit := ()
def PySem.W.Fast.tw14895619385186214634 : Unit := ()
def PySem.W.Fast.tw15125469082086083286 : Unit := ()
def PySem.W.Fast.tw15296018754960373364 : Unit := ()
def PySem.W.Fast.tw16320110704164541417 : Unit := ()
def PySem.W.Fast.tw17766587505716000404 : Unit := ()
def PySem.W.Fast.tw18165502795646836350 : Unit := ()
def PySem.W.Fast.tw18389515968993275821 : Unit := ()
def PySem.W.Fast.tw2029058571131435179 : Unit := ()
def PySem.W.Fast.tw3069495966686770976 : Unit := ()
def PySem.W.Fast.tw3173795366117336003 : Unit := ()
def PySem.W.Fast.tw3340349973568440330 : Unit := ()
def PySem.W.Fast.tw3580113183578520202 : Unit := ()
def PySem.W.Fast.tw394497898507472139 : Unit := ()
def PySem.W.Fast.tw4316648539258180455 : Unit := ()
def PySem.W.Fast.tw5994717664618877521 : Unit := ()
def PySem.W.Fast.tw6670375873571699006 : Unit := ()
def PySem.W.Fast.tw6891519663483485237 : Unit := ()
def PySem.W.Fast.tw8184068931692552310 : Unit := ()
def PySem.W.Fast.tw8282837316944653228 : Unit := ()
def PySem.W.Fast.tw892878346812573063 : Unit := ()
open PySem PySem.W PyProof.Rows
set_option maxRecDepth 100000 in
set_option maxHeartbeats 0 in
theorem PySem.Challenge.cw_duehall_k16_whole_never_and_often_holds : PySem.Challenge.rw_duehall_k16_whole_never_and_often.Holds := by
  w_on; o_law; k_head; (case hw => w_witness2)
  k_fill
  refine K3.law_walk (l := PySem.Challenge.rw_duehall_k16_whole_never_and_often) rfl rfl (fun w h Y => PySem.W.kIn_of Y) ?F
  case F =>
    intro w mg fa h KX G hmg
    refine' K3.all_mk KX G hmg ?a_is_whole ?l_is_whole ?c_is_whole ?k_is_whole ?a_is_tuple_of ?l_is_tuple_of ?c_is_tuple_of ?k_is_tuple_of ?a_is_ahead ?l_is_ahead ?c_is_ahead ?k_is_ahead ?a_is_moment ?l_is_moment ?c_is_moment ?k_is_moment ?a_are_shifts ?l_are_shifts ?c_are_shifts ?k_are_shifts ?a_is_zone ?l_is_zone ?c_is_zone ?k_is_zone ?a_check_zone ?l_check_zone ?c_check_zone ?k_check_zone ?a_check_moment ?l_check_moment ?c_check_moment ?k_check_moment ?a_check_stretch ?l_check_stretch ?c_check_stretch ?k_check_stretch ?a_shown ?l_shown ?c_shown ?k_shown ?a_how_often ?l_how_often ?c_how_often ?k_how_often ?a_never_shown ?l_never_shown ?c_never_shown ?k_never_shown ?a_shown_often ?l_shown_often ?c_shown_often ?k_shown_often ?a_leaps ?l_leaps ?c_leaps ?k_leaps ?a__law_cell_at ?l__law_cell_at ?c__law_cell_at ?k__law_cell_at ?a__law_mixed ?l__law_mixed ?c__law_mixed ?k__law_mixed ?a__law_draw ?l__law_draw ?c__law_draw ?k__law_draw ?a__law_pick ?l__law_pick ?c__law_pick ?k__law_pick ?a__law_zone ?l__law_zone ?c__law_zone ?k__law_zone ?a__law_shown ?l__law_shown ?c__law_shown ?k__law_shown ?a_law ?l_law ?c_law ?k_law ?v_LAST_MOMENT ?v_LEAST_AHEAD ?v_MOST_AHEAD ?v_MOST_SHIFTS ?v_DAY_HOURS ?z_ANY_ZONE ?z_NO_DEEDS ?z_bool ?z_divmod ?z_int ?z_isinstance ?z_len ?z_list ?z_max ?z_min ?z_range ?z_set ?z_sorted ?z_tuple ?a_Due ?x_Due ?x_tab
    (case a_is_whole => k_is)
    (case l_is_whole => k_is)
    (case c_is_whole => k_is)
    (case k_is_whole => k_is)
    (case a_is_tuple_of => k_is)
    (case l_is_tuple_of => k_is)
    (case c_is_tuple_of => k_is)
    (case k_is_tuple_of => k_is)
    (case a_is_ahead => k_is)
    (case l_is_ahead => k_is)
    (case c_is_ahead => k_is)
    (case k_is_ahead => k_is)
    (case a_is_moment => k_is)
    (case l_is_moment => k_is)
    (case c_is_moment => k_is)
    (case k_is_moment => k_is)
    (case a_are_shifts => k_is)
    (case l_are_shifts => k_is)
    (case c_are_shifts => k_is)
    (case k_are_shifts => k_is)
    (case a_is_zone => k_is)
    (case l_is_zone => k_is)
    (case c_is_zone => k_is)
    (case k_is_zone => k_is)
    (case a_check_zone => k_is)
    (case l_check_zone => k_is)
    (case c_check_zone => k_is)
    (case k_check_zone => k_is)
    (case a_check_moment => k_is)
    (case l_check_moment => k_is)
    (case c_check_moment => k_is)
    (case k_check_moment => k_is)
    (case a_check_stretch => k_is)
    (case l_check_stretch => k_is)
    (case c_check_stretch => k_is)
    (case k_check_stretch => k_is)
    (case a_shown => k_is)
    (case l_shown => k_is)
    (case c_shown => k_is)
    (case k_shown => k_is)
    (case a_how_often => k_is)
    (case l_how_often => k_is)
    (case c_how_often => k_is)
    (case k_how_often => k_is)
    (case a_never_shown => k_is)
    (case l_never_shown => k_is)
    (case c_never_shown => k_is)
    (case k_never_shown => k_is)
    (case a_shown_often => k_is)
    (case l_shown_often => k_is)
    (case c_shown_often => k_is)
    (case k_shown_often => k_is)
    (case a_leaps => k_is)
    (case l_leaps => k_is)
    (case c_leaps => k_is)
    (case k_leaps => k_is)
    (case a__law_cell_at => k_is)
    (case l__law_cell_at => k_is)
    (case c__law_cell_at => k_is)
    (case k__law_cell_at => k_is)
    (case a__law_mixed => k_is)
    (case l__law_mixed => k_is)
    (case c__law_mixed => k_is)
    (case k__law_mixed => k_is)
    (case a__law_draw => k_is)
    (case l__law_draw => k_is)
    (case c__law_draw => k_is)
    (case k__law_draw => k_is)
    (case a__law_pick => k_is)
    (case l__law_pick => k_is)
    (case c__law_pick => k_is)
    (case k__law_pick => k_is)
    (case a__law_zone => k_is)
    (case l__law_zone => k_is)
    (case c__law_zone => k_is)
    (case k__law_zone => k_is)
    (case a__law_shown => k_is)
    (case l__law_shown => k_is)
    (case c__law_shown => k_is)
    (case k__law_shown => k_is)
    (case a_law => k_is)
    (case l_law => k_is)
    (case c_law => k_is)
    (case k_law => k_is)
    (case v_LAST_MOMENT => k_is)
    (case v_LEAST_AHEAD => k_is)
    (case v_MOST_AHEAD => k_is)
    (case v_MOST_SHIFTS => k_is)
    (case v_DAY_HOURS => k_is)
    (case z_ANY_ZONE => k_is)
    (case z_NO_DEEDS => k_is)
    (case z_bool => k_is)
    (case z_divmod => k_is)
    (case z_int => k_is)
    (case z_isinstance => k_is)
    (case z_len => k_is)
    (case z_list => k_is)
    (case z_max => k_is)
    (case z_min => k_is)
    (case z_range => k_is)
    (case z_set => k_is)
    (case z_sorted => k_is)
    (case z_tuple => k_is)
    (case a_Due => k_is)
    (case x_Due => first | kernel_rfl | rfl)
    (case x_tab => first | kernel_rfl | rfl)
