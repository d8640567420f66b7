import PyProof.Rows.All
import Wide.All
import OpenK.AllK
import Wide.FinOn
import Lean
import PyProof.EqAt
import PyProof.EqKinds
import PyProof.TupleCall
import PySem.Challenge.RW_duehall_k20_whole_next_and_idle
set_option Elab.async false
set_option linter.all false
set_option maxRecDepth 100000
theorem Qaa:type_of% @PySem.wpAny_bind:=@PySem.wpAny_bind
theorem Qab:type_of% @PySem.wpAny_pure:=@PySem.wpAny_pure
theorem Qac:type_of% @PySem.Heap.get?_push_of_some:=@PySem.Heap.get?_push_of_some
theorem Qad:type_of% @PySem.Heap.lt_size:=@PySem.Heap.lt_size
theorem Qae:type_of% @Nat.le_refl:=@Nat.le_refl
theorem Qaf:type_of% @PyProof.Rows.wpS_bind:=@PyProof.Rows.wpS_bind
theorem Qag:type_of% @PyProof.Rows.wpS_pure:=@PyProof.Rows.wpS_pure
theorem Qah:type_of% @bind_congr:=@bind_congr
theorem Qai:type_of% @List.mem_append_right:=@List.mem_append_right
theorem Qaj:type_of% @List.mem_append_left:=@List.mem_append_left
theorem Qak:type_of% @List.mem_cons_of_mem:=@List.mem_cons_of_mem
namespace L2
open PySem PySem.Spec PyProof.Rows
noncomputable abbrev Key:=Sum Int Str
noncomputable def wv:Key->Value->Bool
 | .inl k,v=>Value.isInt k v
 | .inr x,v=>Value.isStrOf x v
noncomputable def keyH (w:World):Key->Int
 | .inl k=>hashInt k
 | .inr x=>hashStr w x
theorem b7:∀ {k:Key} {v:Value},wv k v=true->(∃ i t,k=Sum.inl i/\v=Value.int i t)\/(∃ x t,k=Sum.inr x/\v=Value.str x t)
 | .inl i,v,h=>by
  obtain ⟨t,e⟩:=Value.isInt_shape (k:=i) (v:=v) h
  exact .inl ⟨i,t,rfl,e⟩
 | .inr x,v,h=>by
  obtain ⟨t,e⟩:=Value.isStrOf_shape (x:=x) (v:=v) h
  exact .inr ⟨x,t,rfl,e⟩
theorem yL (a b:Int):decide ((Sum.inl a:Key)=Sum.inl b)=(a == b):=by
 by_cases e:a=b
 ·subst e; simp
 ·have h:¬ (Sum.inl a:Key)=Sum.inl b:=fun q=>e (Sum.inl.inj q)
  rw [decide_eq_false h]
  exact (beq_eq_false_iff_ne.mpr e).symm
theorem yM (a b:Str):decide ((Sum.inr a:Key)=Sum.inr b)=decide (a=b):=by
 by_cases e:a=b
 ·subst e; simp
 ·have h:¬ (Sum.inr a:Key)=Sum.inr b:=fun q=>e (Sum.inr.inj q)
  rw [decide_eq_false h,decide_eq_false e]
theorem yN (a:Int) (b:Str):decide ((Sum.inl a:Key)=Sum.inr b)=false:=decide_eq_false (fun q=>nomatch q)
theorem yO (a:Str) (b:Int):decide ((Sum.inr a:Key)=Sum.inl b)=false:=decide_eq_false (fun q=>nomatch q)
noncomputable def qG (prog:Program) (w:World):PySem.KeyKind prog w Key where
 is:=wv
 hash:=keyH w
 inj:=fun v a b ha hb=>by
  rcases b7 ha with ⟨i,t,rfl,rfl⟩ | ⟨x,t,rfl,rfl⟩
  ·rcases b7 hb with ⟨j,u,rfl,e⟩ | ⟨y,u,rfl,e⟩
   ·injection e with e1 _; rw [e1]
   ·exact nomatch e
  ·rcases b7 hb with ⟨j,u,rfl,e⟩ | ⟨y,u,rfl,e⟩
   ·exact nomatch e
   ·injection e with e1 _; rw [e1]
 byValue:=fun k v h=>by
  rcases b7 h with ⟨i,t,rfl,rfl⟩ | ⟨x,t,rfl,rfl⟩ <;> rfl
 pyHash:=fun hv h=>by
  rcases b7 hv with ⟨i,t,rfl,rfl⟩ | ⟨x,t,rfl,rfl⟩
  ·exact wpAny_pyHash_int h
  ·exact wpAny_pyHash_str h
 eqBool:=fun hu hv h=>by
  rcases b7 hu with ⟨i,t,rfl,rfl⟩ | ⟨x,t,rfl,rfl⟩
  ·rcases b7 hv with ⟨j,u,rfl,rfl⟩ | ⟨y,u,rfl,rfl⟩
   ·rw [yL] at h; exact wpAny_eqBool_int h
   ·rw [yN] at h; exact SeqAt.EqAt.int_str i t y u _ _ _ _ h
  ·rcases b7 hv with ⟨j,u,rfl,rfl⟩ | ⟨y,u,rfl,rfl⟩
   ·rw [yO] at h; exact SeqAt.EqAt.str_int x t j u _ _ _ _ h
   ·rw [yM] at h; exact wpAny_eqBool_str h
 «strs»:=fun k x t v h=>by
  rcases b7 h with ⟨i,u,rfl,e⟩ | ⟨y,u,rfl,e⟩
  ·exact nomatch e
  ·injection e with e1 _
   subst e1
   cases v <;> rfl
inductive V where
 | non | bl (b:Bool) | int (i:Int) | str (x:Str) | byt (b:Array UInt8) | flt (b:UInt64) | ref (a:Addr) | ty (n:String)
 deriving DecidableEq
noncomputable def RelV:V->Value->Prop
 | .non,u=>u=Value.none
 | .bl b,u=>u=Value.bool b
 | .int i,u=>∃ t,u=Value.int i t
 | .str x,u=>∃ t,u=Value.str x t
 | .byt b,u=>∃ t,u=Value.bytes b t
 | .flt b,u=>∃ t,u=Value.float b t
 | .ref a,u=>u=Value.ref a
 | .ty n,u=>u=Value.type n
noncomputable abbrev Vals:List V->List Value->Prop:=Paired RelV
theorem Vals.length {xs:List V} {us:List Value} (r:Vals xs us):xs.length=us.length:=Paired.length r
theorem Vals.get:∀ {xs:List V} {us:List Value} {i:Nat} {x:V},Vals xs us->xs[i]? = some x->∃ u,us[i]? = some u/\RelV x u
 | _,_,_,_,.nil,e=>by simp at e
 | _,_,0,_,.cons r _,e=>by simp at e; subst e; exact ⟨_,rfl,r⟩
 | _,_,i + 1,x,.cons _ t,e=>by
  obtain ⟨u,h1,h2⟩:=Vals.get (i:=i) (x:=x) t (by simpa using e)
  exact ⟨u,by simpa using h1,h2⟩
theorem Vals.append:∀ {xs ys:List V} {us ws:List Value},Vals xs us->Vals ys ws->Vals (xs ++ ys) (us ++ ws)
 | _,_,_,_,.nil,s=>s
 | _,_,_,_,.cons r t,s=>.cons r (Vals.append t s)
theorem Vals.take:∀ {xs:List V} {us:List Value} (n:Nat),Vals xs us->Vals (xs.take n) (us.take n)
 | _,_,0,_=>.nil
 | _,_,_ + 1,.nil=>.nil
 | _,_,n + 1,.cons r t=>.cons r (Vals.take n t)
theorem Vals.drop:∀ {xs:List V} {us:List Value} (n:Nat),Vals xs us->Vals (xs.drop n) (us.drop n)
 | _,_,0,r=>r
 | _,_,_ + 1,.nil=>.nil
 | _,_,n + 1,.cons _ t=>Vals.drop n t
noncomputable def uV:Option V->Option Value->Prop
 | some v,some u=>RelV v u
 | none,none=>True
 | _,_=>False
noncomputable def KV {κ:Type}:List (κ × V)->List (κ × Value)->Prop:=Paired fun (p:κ × V) (q:κ × Value)=>p.1=q.1/\RelV p.2 q.2
noncomputable def kV:Key->V
 | .inl i=>.int i
 | .inr x=>.str x
inductive HO where
 | lst (xs:List V)
 | tup (xs:List V)
 | dK (kvs:List (Key × V)) | dT (kvs:List (List Key × V))
 | set (S:Int->Bool) (n:Nat)
 | ins (C dx:Addr) (fs:List (Str × V))
 | own (x:Addr)
 | xd (fs:List (Str × V))
 | met (f x:Addr)
 | rng (lo hi:Int)
 | frz (o:Obj) (u:HO)
 | tbl (ps:Array Value)
 | ext (φ:Heap->Prop)
noncomputable abbrev Hp:=Addr->Option HO
noncomputable def upd (H:Hp) (a:Addr) (o:HO):Hp:=fun b=>if b=a then some o else H b
theorem bP {H:Hp} {a:Addr} {o:HO}:upd H a o a=some o:=by unfold upd; rw [if_pos rfl]
theorem aU {H:Hp} {a b:Addr} {o:HO} (h:b ≠ a):upd H a o b=H b:=by unfold upd; rw [if_neg h]
theorem bQ {H:Hp} {a b:Addr} {o:HO} (h:H a=some o) (h':H b=none):a ≠ b:=by
 intro e; subst e; rw [h] at h'; cases h'
section
variable (P:Program) (w:World)
noncomputable def ObjOk (H:Hp) (h:Heap) (a:Addr):HO->Prop
 | .lst xs=>xs.length<=sizeLine/\∃ (its:List Value) (n:Nat),Vals xs its/\h.get? a=some { cls:=.type "list",data:=.seq its.toArray n }
 | .tup xs=>xs.length<=sizeLine/\∃ its:List Value,Vals xs its/\IsTup h a its.toArray
 | .dK kvs=>kvs.length<=sizeLine/\(a == sysModules)=false/\∃ vs,KV kvs vs/\h.DictOf (qG P w) a vs
 | .dT kvs=>kvs.length<=sizeLine/\(a == sysModules)=false/\∃ xs:List (List Key × Addr × Value),
   Paired (fun (p:List Key × V) (q:List Key × Addr × Value)=>p.1=q.1/\H q.2.1=some (.tup (p.1.map kV))/\RelV p.2 q.2.2) kvs xs/\
   ∃ o es ep,h.get? a=some o/\o.ExactDict/\o.data=.dict es ep/\es.toList=xs.map (entryOfKey (tupleKind (qG P w)))/\(xs.map (·.1)).Nodup
 | .set S n=>h.SetOf (intKind P w) a S n
 | .ins C dx fs=>H dx=some (.own a)/\fs.length<=1000/\dx ≠ a/\h.get? a=some (PySem.W.instObj C dx)/\
   ∃ mA,h.Ns1 dx mA/\(∀ f,uV (fs.lookup f) (mA f))/\PySem.Within mA (fs.map (·.1))
 | .own _=>∃ o,h.get? a=some o
 | .xd fs=>∃ mA,h.Ns1 a mA/\∀ f,uV (fs.lookup f) (mA f)
 | .rng lo hi=>∃ t u v,h.get? a=some { cls:=.type "range",data:=.fields #[.int lo t,.int hi u,.int 1 v] }
 | .frz o u=>h.get? a=some o/\ObjOk H h a u
 | .tbl ps=>h.get? a=some { cls:=.none,data:=.fields ps }
 | .met f x=>h.get? a=some (PySem.W.methodObj (.ref f) (.ref x))
 | .ext φ=>φ h/\(∃ o,h.get? a=some o)/\∀ h1 h2:Heap,φ h1->(∀ o,h1.get? a=some o->h2.get? a=some o)->φ h2
noncomputable def HOk (H:Hp) (h:Heap):Prop:=∀ a o,H a=some o->ObjOk P w H h a o
end
section
variable {P:Program} {w:World} {H H':Hp} {h h':Heap} {a:Addr} {o:HO}
theorem ObjOk.lt (x:ObjOk P w H h a o):a < h.objs.size:=by
 cases o with
 | lst xs=>obtain ⟨_,_,_,_,e⟩:=x; exact Qad e
 | tup xs=>obtain ⟨_,_,_,p⟩:=x; exact p.lt
 | dK kvs=>obtain ⟨_,_,_,_,o,_,_,e,_⟩:=x; exact Qad e
 | dT kvs=>obtain ⟨_,_,_,_,o,_,_,e,_⟩:=x; exact Qad e
 | set S n=>obtain ⟨o,_,_,_,e,_⟩:=x; exact Qad e
 | ins C dx fs=>obtain ⟨_,_,_,e,_⟩:=x; exact Qad e
 | own y=>obtain ⟨_,e⟩:=x; exact Qad e
 | xd fs=>obtain ⟨_,⟨_,_,_,e,_⟩,_⟩:=x; exact Qad e
 | rng lo hi=>obtain ⟨_,_,_,e⟩:=x; exact Qad e
 | frz ob u=>obtain ⟨e,_⟩:=x; exact Qad e
 | tbl ps=>exact Qad (show h.get? a=some _ from x)
 | met f y=>exact Qad (show h.get? a=some _ from x)
 | ext φ=>obtain ⟨_,⟨_,e⟩,_⟩:=x; exact Qad e
theorem Paired.mapP {α β:Type} {F G:α->β->Prop}:∀ {l₁:List α} {l₂:List β},Paired F l₁ l₂->(∀ a b,F a b->G a b)->Paired G l₁ l₂
 | _,_,.nil,_=>.nil
 | _,_,.cons r t,f=>.cons (f _ _ r) (Paired.mapP t f)
theorem ObjOk.stay (x:ObjOk P w H h a o) (k:∀ b u,(b=a\/H b=some (.own a))->h.get? b=some u->h'.get? b=some u)
  (ho:∀ b,H b=some (.own a)->H' b=some (.own a)) (ht:∀ b xs,H b=some (.tup xs)->H' b=some (.tup xs)):ObjOk P w H' h' a o:=by
 induction o with
 | lst xs=>obtain ⟨z,its,n,r,e⟩:=x; exact ⟨z,its,n,r,k _ _ (.inl rfl) e⟩
 | tup xs=>obtain ⟨z,its,r,ob,e,c⟩:=x; exact ⟨z,its,r,ob,k _ _ (.inl rfl) e,c⟩
 | dK kvs=>obtain ⟨z,y,vs,r,ob,es,ep,e,c⟩:=x; exact ⟨z,y,vs,r,ob,es,ep,k _ _ (.inl rfl) e,c⟩
 | dT kvs=>
  obtain ⟨z,y,xs,r,ob,es,ep,e,c⟩:=x
  exact ⟨z,y,xs,Paired.mapP r fun p q z=>⟨z.1,ht _ _ z.2.1,z.2.2⟩,ob,es,ep,k _ _ (.inl rfl) e,c⟩
 | set S n=>obtain ⟨ob,es,ep,t,e,c⟩:=x; exact ⟨ob,es,ep,t,k _ _ (.inl rfl) e,c⟩
 | ins C dx fs=>
  obtain ⟨d,z,ne,e,mA,⟨od,es,ep,e2,c⟩,r⟩:=x
  exact ⟨ho _ d,z,ne,k _ _ (.inl rfl) e,mA,⟨od,es,ep,k _ _ (.inr d) e2,c⟩,r⟩
 | own y=>obtain ⟨ob,e⟩:=x; exact ⟨ob,k _ _ (.inl rfl) e⟩
 | xd fs=>obtain ⟨mA,⟨od,es,ep,e,c⟩,r⟩:=x; exact ⟨mA,⟨od,es,ep,k _ _ (.inl rfl) e,c⟩,r⟩
 | rng lo hi=>obtain ⟨t,u,v,e⟩:=x; exact ⟨t,u,v,k _ _ (.inl rfl) e⟩
 | frz ob u ih=>obtain ⟨e,q⟩:=x; exact ⟨k _ _ (.inl rfl) e,ih q⟩
 | tbl ps=>
  have e:h.get? a=some { cls:=.none,data:=.fields ps }:=x
  show h'.get? a=some { cls:=.none,data:=.fields ps }
  exact k a _ (.inl rfl) e
 | met f y=>
  have e:h.get? a=some (PySem.W.methodObj (.ref f) (.ref y)):=x
  show h'.get? a=some (PySem.W.methodObj (.ref f) (.ref y))
  exact k a _ (.inl rfl) e
 | ext φ=>obtain ⟨p,⟨o,e⟩,st⟩:=x; exact ⟨st _ _ p fun o q=>k _ _ (.inl rfl) q,⟨o,k _ _ (.inl rfl) e⟩,st⟩
theorem HOk.lt (x:HOk P w H h) (e:H a=some o):a < h.objs.size:=(x a o e).lt
theorem HOk.fresh (x:HOk P w H h) (e:h.objs.size<=a):H a=none:=by
 cases q:H a with
 | none=>rfl
 | some u=>exact absurd (Nat.lt_of_lt_of_le (x.lt q) e) (Nat.lt_irrefl _)
theorem HOk.kept (x:HOk P w H h) (k:∀ b u,h.get? b=some u->h'.get? b=some u):HOk P w H h':=fun a o e=>
 (x a o e).stay (fun b u _ q=>k b u q) (fun _ q=>q) fun _ _ q=>q
theorem HOk.laid (x:HOk P w H h) (k:∀ b u,h.get? b=some u->h'.get? b=some u) (hp:h.objs.size<=a) (new:ObjOk P w (upd H a o) h' a o):HOk P w (upd H a o) h':=fun b u e=>by
 have hn:=x.fresh hp
 by_cases hb:b=a
 ·subst hb; rw [bP] at e; cases e; exact new
 ·rw [aU hb] at e
  exact (x b u e).stay (fun c v _ q=>k c v q) (fun c q=>by rw [aU (bQ q hn)]; exact q) fun c xs q=>by rw [aU (bQ q hn)]; exact q
end
noncomputable def Rd (H:Hp) (a:Addr) (u:HO):Prop:=H a=some u\/∃ o,H a=some (.frz o u)
theorem Rd.ok {P:Program} {w:World} {H:Hp} {h:Heap} {a:Addr} {u:HO} (r:Rd H a u) (x:HOk P w H h):ObjOk P w H h a u:=by
 rcases r with r | ⟨o,r⟩
 ·exact x a u r
 ·obtain ⟨_,q⟩:=x a _ r
  exact q
noncomputable def Mut:Option HO->Prop
 | some (.lst _)=>True
 | some (.dK _)=>True
 | some (.dT _)=>True
 | some (.set _ _)=>True
 | some (.ins _ _ _)=>True
 | some (.ext _)=>True
 | _=>False
section
variable {P:Program} {w:World} {H:Hp} {h h':Heap} {x e:Addr} {o':HO}
theorem HOk.write (ok:HOk P w H h) (mu:Mut (H x)) (he:e=x\/H e=some (.own x)) (k:∀ b u,b ≠ e->h.get? b=some u->h'.get? b=some u) (heo:∃ u,h'.get? e=some u)
  (new:ObjOk P w (upd H x o') h' x o'):HOk P w (upd H x o') h':=fun b u q=>by
 have nown:∀ c y,H c=some (.own y)->c ≠ x:=fun c y r z=>by subst z; rw [r] at mu; exact mu
 have ntup:∀ c xs,H c=some (.tup xs)->c ≠ x:=fun c xs r z=>by subst z; rw [r] at mu; exact mu
 by_cases hb:b=x
 ·subst hb; rw [bP] at q; cases q; exact new
 ·rw [aU hb] at q
  by_cases hbe:b=e
  ·have q':H b=some (.own x):=by
    rcases he with z | z
    ·exact absurd (hbe.trans z) hb
    ·rw [hbe]; exact z
   rw [q] at q'; cases q'
   obtain ⟨v,hv⟩:=heo
   exact ⟨v,by rw [hbe]; exact hv⟩
  ·refine (ok b u q).stay (fun c v hc r=>k c v ?_ r) (fun c r=>by rw [aU (nown c b r)]; exact r) fun c xs r=>by rw [aU (ntup c xs r)]; exact r
   rcases hc with rfl | hc
   ·exact hbe
   ·rintro rfl
    rcases he with z | z
    ·exact nown c b hc z
    ·rw [hc] at z; cases z; exact hb rfl
end
structure Un (fs ex:List Addr) (H H':Hp) (h h':Heap):Prop where
 keep:∀ b o,h.get? b=some o->H b=none->b ∉ fs->b ∉ ex->h'.get? b=some o
 slot:∀ b o,h.get? b=some o->H b=none->b ∈ fs->b ∉ ex->∃ sl,h'.get? b=some { o with slots:=sl }
 free:∀ b o,h.get? b=some o->H b=none->b ∉ ex->H' b=none
 there:∀ b o,h.get? b=some o->b ∉ ex->∃ o',h'.get? b=some o'
 tups:∀ b xs,H b=some (.tup xs)->H' b=some (.tup xs)
 frzs:∀ b o u,H b=some (.frz o u)->H' b=some (.frz o u)
 tbls:∀ b ps,H b=some (.tbl ps)->∃ more,H' b=some (.tbl (ps ++ more))
section
variable {fs fs' ex ex':List Addr} {H H1 H2:Hp} {h h1 h2 h':Heap} {a x e:Addr} {o:HO}
theorem Un.any (u:Un fs ex H H1 h h1) {b:Addr} {ob:Obj} (q:h.get? b=some ob) (n:H b=none) (hx:b ∉ ex):∃ sl,h1.get? b=some { ob with slots:=sl }:=by
 by_cases hb:b ∈ fs
 ·exact u.slot b ob q n hb hx
 ·exact ⟨ob.slots,u.keep b ob q n hb hx⟩
theorem Un.kept (k:∀ b u,h.get? b=some u->h'.get? b=some u):Un fs ex H H h h':=
 ⟨fun b ob q _ _ _=>k b ob q,fun b ob q _ _ _=>⟨ob.slots,k b ob q⟩,fun _ _ _ n _=>n,fun b ob q _=>⟨ob,k b ob q⟩,fun _ _ q=>q,fun _ _ _ q=>q,fun _ ps q=>⟨#[],by rw [q]; simp⟩⟩
theorem Un.refl:Un fs ex H H h h:=Un.kept fun _ _ q=>q
theorem Un.laid (k:∀ b u,h.get? b=some u->h'.get? b=some u) (hp:h.objs.size<=a) (hn:H a=none):Un fs ex H (upd H a o) h h' where
 keep:=fun b u q _ _ _=>k b u q
 slot:=fun b u q _ _ _=>⟨u.slots,k b u q⟩
 free:=fun b u q n _=>by rw [aU (Nat.ne_of_lt (Nat.lt_of_lt_of_le (Qad q) hp))]; exact n
 there:=fun b u q _=>⟨u,k b u q⟩
 tups:=fun b xs q=>by rw [aU (bQ q hn)]; exact q
 frzs:=fun b u xs q=>by rw [aU (bQ q hn)]; exact q
 tbls:=fun b ps q=>⟨#[],by rw [aU (bQ q hn),q]; simp⟩
theorem Un.write (mu:Mut (H x)) (he:e=x\/H e=some (.own x)) (k:∀ b u,b ≠ e->h.get? b=some u->h'.get? b=some u) (heo:∃ u,h'.get? e=some u):Un fs ex H (upd H x o) h h':=by
 have hx:∀ b,H b=none->b ≠ x:=fun b n z=>by subst z; rw [n] at mu; exact mu
 have hb:∀ b,H b=none->b ≠ e:=fun b n z=>by
  subst z
  rcases he with r | r
  ·exact hx b n r
  ·rw [n] at r; cases r
 have hm:∀ b u,H b=some u->¬ Mut (some u)->b ≠ x:=fun b u q nm z=>by subst z; rw [q] at mu; exact nm mu
 refine ⟨fun b u q n _ _=>k b u (hb b n) q,fun b u q n _ _=>⟨u.slots,k b u (hb b n) q⟩,fun b u q n _=>by rw [aU (hx b n)]; exact n,fun b u q _=>?_,
  fun b xs q=>by rw [aU (hm b _ q fun z=>z)]; exact q,fun b u xs q=>by rw [aU (hm b _ q fun z=>z)]; exact q,fun b ps q=>⟨#[],by rw [aU (hm b _ q fun z=>z),q]; simp⟩⟩
 by_cases hbe:b=e
 ·subst hbe; exact heo
 ·exact ⟨u,k b u hbe q⟩
end
noncomputable def trk (h:Heap) (H:Hp):List Addr:=(List.range h.objs.size).filter fun a=>(H a).isSome
noncomputable def hidT (h:Heap) (H:Hp):Heap:=PySem.W.hideAll h (trk h H)
theorem tp (h:Heap) (H:Hp):(hidT h H).objs.size=h.objs.size:=PySem.W.hideAll_size _ _
theorem uW {h:Heap} {H:Hp} {b:Addr} {o:Obj} (e:h.get? b=some o) (n:H b=none):(hidT h H).get? b=some o:=
 PySem.W.hideAll_get _ e fun hm=>by
  have q:(H b).isSome=true:=(List.mem_filter.mp hm).2
  rw [n] at q; simp at q
theorem wV {h:Heap} {H:Hp} {b:Addr} {o:Obj} (e:(hidT h H).get? b=some o):h.get? b=some o/\H b=none:=by
 have e':h.get? b=some o:=PySem.W.of_hideAll (trk h H) e
 refine ⟨e',?_⟩
 cases q:H b with
 | none=>rfl
 | some x=>
  have hm:b ∈ trk h H:=List.mem_filter.mpr ⟨List.mem_range.mpr (Qad e'),by simp [q]⟩
  have z:(hidT h H).get? b=none:=PySem.W.hideAll_none (trk h H) hm
  rw [z] at e; cases e
structure Mod (K:PySem.W.Frag) (mg:Str->Option Value) (base:Heap):Prop where
 kin:K.In base
 glob:base.Ns mainGlobals mg
 blt:∃ mb,base.Ns builtinsNs mb/\∀ x:Str,x ≠ "__name__"->mb x=bootBuiltins x
 nolimit:base.NoLimit
structure Cx where
 prog:Program
 w:World
 K:PySem.W.Frag
 mg:Str->Option Value
 base:Heap
 A:Around
 N:List Str
 s₀:Shared
 H₀:Hp
 env:Env
 outer:List Env
 stack:List Env
 ex:List Addr
 fn:Str->Bool
 calm:Bool
 pn:List (Addr × Obj)
 xe:Value->Shared->Prop
noncomputable def frs (l:List Env):List Addr:=l.filterMap (·.frame)
noncomputable abbrev Cx.fs (X:Cx):List Addr:=frs X.outer
noncomputable def Vis (sc:Scope) (x:Str):Prop:=sc.names.lookup x=some .local\/sc.names.lookup x=some .cell\/sc.names.lookup x=some .free
noncomputable def Loc (sc:Scope) (x:Str):Prop:=sc.names.lookup x=some .local\/sc.names.lookup x=some .cell
noncomputable def Look (env:Env) (h:Heap) (m:Str->Option Value) (x:Str) (u:Value):Prop:=
 (env.kindOf x=some .local/\m x=some u)\/((env.kindOf x=some .cell\/env.kindOf x=some .free)/\∃ c,env.cells.lookup x=some c/\h.IsCell c (some u))
structure Cx.Ok (X:Cx):Prop where
 mod:Mod X.K X.mg X.base
 kind:X.env.scope.kind=.function
 glob:X.env.globals=mainGlobals
 blt:X.env.builtins=builtinsNs
 above:X.s₀.heap.objs.size<=X.env.locals
 inj:∀ x y c,X.env.cells.lookup x=some c->X.env.cells.lookup y=some c->x=y
 has:∀ x,(X.env.kindOf x=some .cell\/X.env.kindOf x=some .free)->∃ c,X.env.cells.lookup x=some c
 cab:∀ x c,X.fn x=true->X.env.cells.lookup x=some c->X.s₀.heap.objs.size<=c
 hd:X.calm=true->X.A.handled=none
 frames:X.A.frames=some X.stack
 stk:X.stack=X.outer\/(X.stack=X.env :: X.outer/\X.env.frame=some X.env.locals)
 exf:∀ b ∈ X.ex,b ≠ X.env.locals/\∀ x c,X.env.cells.lookup x=some c->c ≠ b
 bs:∀ b o,X.base.get? b=some o->X.s₀.heap.get? b=some o/\X.H₀ b=none
 bsz:X.base.objs.size<=X.s₀.heap.objs.size
 noex:∀ b o,X.base.get? b=some o->b ∉ X.ex
 exfs:∀ b ∈ X.ex,b ∉ X.fs
 funs:X.s₀.heap.FunFrames X.base X.outer
 frf:∀ b ∈ X.fs,X.H₀ b=none
structure Inv (X:Cx) (pins:List (Addr × Obj)) (σ:List (Option V)) (H:Hp) (s:Shared):Prop where
 ok:X.Ok
 os:s.os=X.s₀.os
 bare:AllBare s.gens
 base:Un X.fs X.ex X.H₀ H X.s₀.heap s.heap
 loc:∃ m,s.heap.Ns X.env.locals m/\∀ (i:Nat) (x:Str) (v:V),X.N[i]? = some x->σ[i]? = some (some v)->Vis X.env.scope x->∃ u,RelV v u/\Look X.env s.heap m x u
 cell:∀ x c,X.env.cells.lookup x=some c->∃ v,s.heap.IsCell c v
 free:H X.env.locals=none
 freeC:∀ x c,X.env.cells.lookup x=some c->H c=none
 pin:∀ p ∈ X.pn ++ pins,s.heap.get? p.1=some p.2/\H p.1=none/\p.1 ≠ X.env.locals/\p.1 ∉ X.fs/\∀ v,p.2.data ≠ .cell v
 hok:HOk X.prog X.w H s.heap
 len:σ.length=X.N.length
section
variable {X:Cx} {pins:List (Addr × Obj)} {σ:List (Option V)} {H H':Hp} {s:Shared} {h':Heap}
theorem Cx.Ok.nofr (ok:X.Ok) {b:Addr} {o:Obj} (e:X.base.get? b=some o):b ∉ X.fs:=fun hb=>by
 have:=(ok.funs.mem hb).1
 rw [e] at this; cases this
theorem Inv.bs (I:Inv X pins σ H s):∀ b o,X.base.get? b=some o->s.heap.get? b=some o/\H b=none:=fun b o e=>
 ⟨I.base.keep b o (I.ok.bs b o e).1 (I.ok.bs b o e).2 (I.ok.nofr e) (I.ok.noex b o e),I.base.free b o (I.ok.bs b o e).1 (I.ok.bs b o e).2 (I.ok.noex b o e)⟩
theorem Inv.bk (I:Inv X pins σ H s):∀ b o,X.base.get? b=some o->s.heap.get? b=some o:=fun b o e=>(I.bs b o e).1
theorem Inv.mod (I:Inv X pins σ H s):Mod X.K X.mg X.base:=I.ok.mod
theorem Inv.kIn (I:Inv X pins σ H s):X.K.In s.heap:=I.ok.mod.kin.keeps I.bk
theorem Inv.lt (I:Inv X pins σ H s):X.env.locals < s.heap.objs.size:=let ⟨_,hn,_⟩:=I.loc; hn.lt
theorem Inv.sz (I:Inv X pins σ H s):X.s₀.heap.objs.size<=s.heap.objs.size:=Nat.le_trans I.ok.above (Nat.le_of_lt I.lt)
theorem Inv.nofs (I:Inv X pins σ H s) {a:Addr} (h:s.heap.objs.size<=a):a ∉ X.fs:=fun hb=>by
 obtain ⟨_,o,ho,_⟩:=I.ok.funs.mem hb
 exact absurd (Nat.lt_of_lt_of_le (Qad ho) (Nat.le_trans I.sz h)) (Nat.lt_irrefl _)
theorem Inv.cne (I:Inv X pins σ H s):∀ x c,X.env.cells.lookup x=some c->c ≠ X.env.locals:=fun x c e z=>by
 obtain ⟨v,o,ho,hd⟩:=I.cell x c e
 obtain ⟨m,⟨o',es,ep,ho',hd',_⟩,_⟩:=I.loc
 rw [z,ho'] at ho; cases ho; rw [hd'] at hd; cases hd
theorem Inv.funs (I:Inv X pins σ H s):s.heap.FunFrames X.base X.outer:=by
 have all:∀ (l:List Env),(∀ b ∈ frs l,b ∈ X.fs)->X.s₀.heap.FunFrames X.base l->s.heap.FunFrames X.base l:=by
  intro l
  induction l with
  | nil=>intro _ _; trivial
  | cons env r ih=>
   intro hs hl
   obtain ⟨hk,⟨L,o,hf,hn,ho,hd⟩,hr⟩:=hl
   have hL:L ∈ X.fs:=hs L (by unfold frs; rw [List.filterMap_cons,hf]; exact List.mem_cons_self)
   obtain ⟨sl,e⟩:=I.base.slot L o ho (I.ok.frf L hL) hL fun z=>I.ok.exfs L z hL
   exact ⟨hk,⟨L,_,hf,hn,e,hd⟩,ih (fun b hb=>hs b (by unfold frs; rw [List.filterMap_cons,hf]; exact Qak _ hb)) hr⟩
 exact all X.outer (fun _ hb=>hb) I.ok.funs
theorem Inv.stack (I:Inv X pins σ H s):s.heap.FunFrames X.base X.stack:=by
 rcases I.ok.stk with e | ⟨e,hf⟩
 ·rw [e]; exact I.funs
 ·rw [e]
  obtain ⟨m,hn,_⟩:=I.loc
  refine .cons (by rw [I.ok.kind]; decide) hf hn ?_ I.funs
  exact Heap.get?_none_of_le (Nat.le_trans I.ok.bsz I.ok.above)
theorem Inv.stkSub (I:Inv X pins σ H s):∀ b ∈ frs X.stack,b ∈ X.env.locals :: X.fs:=fun b hb=>by
 rcases I.ok.stk with e | ⟨e,hf⟩
 ·rw [e] at hb; exact Qak _ hb
 ·rw [e] at hb
  unfold frs at hb
  rw [List.filterMap_cons,hf] at hb
  exact hb
theorem Inv.stkFree (I:Inv X pins σ H s):∀ b ∈ frs X.stack,H b=none:=fun b hb=>by
 rcases List.mem_cons.mp (I.stkSub b hb) with e | hb
 ·rw [e]; exact I.free
 ·obtain ⟨_,o,ho,_⟩:=I.ok.funs.mem hb
  exact I.base.free b o ho (I.ok.frf b hb) fun z=>I.ok.exfs b z hb
theorem Inv.step {g':Array GenState} {t':Nat} {d':Drawn} {ch:List Addr} (I:Inv X pins σ H s)
  (hch:∀ b ∈ ch,(b ∈ X.ex\/X.s₀.heap.objs.size<=b)/\b ≠ X.env.locals/\(∀ x c,X.env.cells.lookup x=some c->c ≠ b)/\∀ p ∈ X.pn ++ pins,p.1 ≠ b)
  (keep:∀ b o,b ≠ X.env.locals->b ∉ X.fs->b ∉ ch->s.heap.get? b=some o->H b=none->h'.get? b=some o)
  (slot:∀ b o,b ≠ X.env.locals->b ∈ X.fs->b ∉ ch->s.heap.get? b=some o->H b=none->∃ sl,h'.get? b=some { o with slots:=sl }) (free:∀ b o,b ∉ ch->s.heap.get? b=some o->H b=none->H' b=none)
  (there:∀ b o,b ∉ ch->s.heap.get? b=some o->∃ o',h'.get? b=some o')
  (tups:∀ b xs,H b=some (.tup xs)->H' b=some (.tup xs)) (frzs:∀ b o u,H b=some (.frz o u)->H' b=some (.frz o u)) (tbls:∀ b ps,H b=some (.tbl ps)->∃ more,H' b=some (.tbl (ps ++ more)))
  (ns:∀ m,s.heap.Ns X.env.locals m->h'.Ns X.env.locals m) (hok:HOk X.prog X.w H' h') (hg:AllBare g') :
  Inv X pins σ H' { s with heap:=h',gens:=g',drawn:=d',toks:=t' }:=by
 have neL:∀ b o,X.s₀.heap.get? b=some o->b ≠ X.env.locals:=fun b o e=>Nat.ne_of_lt (Nat.lt_of_lt_of_le (Qad e) I.ok.above)
 have neC:∀ b o,X.s₀.heap.get? b=some o->b ∉ X.ex->b ∉ ch:=fun b o e hx hb=>by
  rcases (hch b hb).1 with z | z
  ·exact hx z
  ·exact absurd (Nat.lt_of_lt_of_le (Qad e) z) (Nat.lt_irrefl _)
 have cellK:∀ x c,X.env.cells.lookup x=some c->∀ v,s.heap.IsCell c v->h'.IsCell c v:=fun x c e v ⟨o,ho,hd⟩=>by
  have nch:c ∉ ch:=fun z=>(hch c z).2.2.1 x c e rfl
  by_cases hc:c ∈ X.fs
  ·obtain ⟨sl,q⟩:=slot c o (I.cne x c e) hc nch ho (I.freeC x c e)
   exact ⟨_,q,hd⟩
  ·exact ⟨o,keep c o (I.cne x c e) hc nch ho (I.freeC x c e),hd⟩
 refine ⟨I.ok,I.os,hg,⟨fun b o e n hb hx=>?_,fun b o e n hb hx=>?_,fun b o e n hx=>?_,fun b o e hx=>?_,fun b xs e=>tups b xs (I.base.tups b xs e),fun b o xs e=>frzs b o xs (I.base.frzs b o xs e),fun b ps e=>?_⟩,?_,fun x c e=>?_,?_,fun x c e=>?_,fun p hp=>?_,hok,I.len⟩
 ·exact keep b o (neL b o e) hb (neC b o e hx) (I.base.keep b o e n hb hx) (I.base.free b o e n hx)
 ·obtain ⟨sl,e1⟩:=I.base.slot b o e n hb hx
  obtain ⟨sl',e2⟩:=slot b _ (neL b o e) hb (neC b o e hx) e1 (I.base.free b o e n hx)
  exact ⟨sl',e2⟩
 ·obtain ⟨o',e1⟩:=I.base.there b o e hx
  exact free b o' (neC b o e hx) e1 (I.base.free b o e n hx)
 ·obtain ⟨o',e1⟩:=I.base.there b o e hx
  exact there b o' (neC b o e hx) e1
 ·obtain ⟨m1,e1⟩:=I.base.tbls b ps e
  obtain ⟨m2,e2⟩:=tbls b _ e1
  exact ⟨m1 ++ m2,by rw [e2,Array.append_assoc]⟩
 ·obtain ⟨m,hn,hl⟩:=I.loc
  refine ⟨m,ns m hn,fun i x v e1 e2 e3=>?_⟩
  obtain ⟨u,r,l⟩:=hl i x v e1 e2 e3
  refine ⟨u,r,?_⟩
  rcases l with l | ⟨k,c,e,z⟩
  ·exact .inl l
  ·exact .inr ⟨k,c,e,cellK x c e _ z⟩
 ·obtain ⟨v,z⟩:=I.cell x c e
  exact ⟨v,cellK x c e v z⟩
 ·obtain ⟨m,⟨o,_,_,ho,_⟩,_⟩:=I.loc
  exact free _ o (fun z=>(hch _ z).2.1 rfl) ho I.free
 ·obtain ⟨v,o,ho,hd⟩:=I.cell x c e
  exact free c o (fun z=>(hch c z).2.2.1 x c e rfl) ho (I.freeC x c e)
 ·obtain ⟨e,n,ne,nf,d⟩:=I.pin p hp
  have nch:p.1 ∉ ch:=fun z=>(hch p.1 z).2.2.2 p hp rfl
  exact ⟨keep p.1 p.2 ne nf nch e n,free p.1 p.2 nch e n,ne,nf,d⟩
theorem Inv.un {t':Nat} (I:Inv X pins σ H s) (u:Un X.fs [] H H' s.heap h') (hok:HOk X.prog X.w H' h'):Inv X pins σ H' { s with heap:=h',toks:=t' }:=by
 obtain ⟨m,⟨o,es,ep,ho,r⟩,_⟩:=id I.loc
 obtain ⟨sl,hL⟩:=u.any ho I.free (by simp)
 exact I.step (g':=s.gens) (d':=s.drawn) (ch:=[]) (fun _ z=>nomatch z) (fun b o _ hb _ e n=>u.keep b o e n hb (by simp)) (fun b o _ hb _ e n=>u.slot b o e n hb (by simp)) (fun b o _ e n=>u.free b o e n (by simp)) (fun b o _ e=>u.there b o e (by simp)) u.tups u.frzs u.tbls (fun m' hm=>by
  obtain ⟨o',es',ep',ho',r'⟩:=hm
  rw [ho] at ho'; cases ho'
  exact ⟨_,es',ep',hL,r'⟩) hok I.bare
theorem Inv.call {g':Array GenState} {t':Nat} {d':Drawn} {ch:List Addr} (I:Inv X pins σ H s) (u:Un (frs X.stack) ch H H' s.heap h') (hok:HOk X.prog X.w H' h') (hg:AllBare g')
  (hch:∀ b ∈ ch,(b ∈ X.ex\/X.s₀.heap.objs.size<=b)/\b ≠ X.env.locals/\(∀ x c,X.env.cells.lookup x=some c->c ≠ b)/\∀ p ∈ X.pn ++ pins,p.1 ≠ b) :
  Inv X pins σ H' { s with heap:=h',gens:=g',drawn:=d',toks:=t' }:=by
 obtain ⟨m,⟨o,es,ep,ho,r⟩,_⟩:=id I.loc
 obtain ⟨sl,hL⟩:=u.any ho I.free fun z=>(hch _ z).2.1 rfl
 exact I.step (ch:=ch) hch (fun b o hL hb hc e n=>u.keep b o e n (fun z=>(List.mem_cons.mp (I.stkSub b z)).elim hL hb) hc) (fun b o _ _ hc e n=>u.any e n hc) (fun b o hc e n=>u.free b o e n hc) (fun b o hc e=>u.there b o e hc) u.tups u.frzs u.tbls (fun m' hm=>by
  obtain ⟨o',es',ep',ho',r'⟩:=hm
  rw [ho] at ho'; cases ho'
  exact ⟨_,es',ep',hL,r'⟩) hok hg
theorem Inv.turned {t':Nat} {it:Addr} (I:Inv X pins σ H s) (k:∀ b o,b ≠ it->s.heap.get? b=some o->h'.get? b=some o) (hn:H it=none) (hL:it ≠ X.env.locals)
  (h1:it ∈ X.ex\/X.s₀.heap.objs.size<=it) (h2:∀ x c,X.env.cells.lookup x=some c->c ≠ it) (h3:∀ p ∈ X.pn ++ pins,p.1 ≠ it):Inv X pins σ H { s with heap:=h',toks:=t' }:=by
 have nit:∀ b u,H b=some u->b ≠ it:=fun b u e z=>by rw [z,hn] at e; cases e
 refine I.step (g':=s.gens) (d':=s.drawn) (ch:=[it]) (fun b hb=>?_) (fun b o _ _ hc e _=>k b o (fun z=>hc (by simp [z])) e) (fun b o _ _ hc e _=>⟨o.slots,k b o (fun z=>hc (by simp [z])) e⟩) (fun _ _ _ _ n=>n)
  (fun b o hc e=>⟨o,k b o (fun z=>hc (by simp [z])) e⟩) (fun _ _ e=>e) (fun _ _ _ e=>e) (fun b ps e=>⟨#[],by rw [e]; simp⟩) (fun m hm=>?_) (fun b u e=>?_) I.bare
 ·have e:b=it:=by simpa using hb
  subst e
  exact ⟨h1,hL,h2,h3⟩
 ·obtain ⟨o,es,ep,ho,r⟩:=hm
  exact ⟨o,es,ep,k _ o (Ne.symm hL) ho,r⟩
 ·refine (I.hok b u e).stay (fun c v hc q=>k c v ?_ q) (fun _ q=>q) fun _ _ q=>q
  rcases hc with z | z
  ·rw [z]; exact nit b u e
  ·exact nit c _ z
theorem Inv.tok (I:Inv X pins σ H s) (t:Nat):Inv X pins σ H { s with toks:=t }:=I.un (h':=s.heap) (t':=t) Un.refl I.hok
theorem Inv.kept {t':Nat} (I:Inv X pins σ H s) (k:∀ b u,s.heap.get? b=some u->h'.get? b=some u):Inv X pins σ H { s with heap:=h',toks:=t' }:=I.un (Un.kept k) (I.hok.kept k)
theorem Inv.laid {a:Addr} {o:HO} {t':Nat} (I:Inv X pins σ H s) (k:∀ b u,s.heap.get? b=some u->h'.get? b=some u) (hp:s.heap.objs.size<=a) (new:ObjOk X.prog X.w (upd H a o) h' a o) :
  Inv X pins σ (upd H a o) { s with heap:=h',toks:=t' }:=I.un (Un.laid k hp (I.hok.fresh hp)) (I.hok.laid k hp new)
theorem Inv.write {x e:Addr} {o:HO} {t':Nat} (I:Inv X pins σ H s) (mu:Mut (H x)) (he:e=x\/H e=some (.own x)) (k:∀ b u,b ≠ e->s.heap.get? b=some u->h'.get? b=some u) (heo:∃ u,h'.get? e=some u)
  (new:ObjOk X.prog X.w (upd H x o) h' x o):Inv X pins σ (upd H x o) { s with heap:=h',toks:=t' }:=I.un (Un.write mu he k heo) (I.hok.write mu he k heo new)
theorem Inv.pins_of {pins':List (Addr × Obj)} (I:Inv X pins σ H s) (h:∀ p ∈ pins',s.heap.get? p.1=some p.2/\H p.1=none/\p.1 ≠ X.env.locals/\p.1 ∉ X.fs/\∀ v,p.2.data ≠ .cell v):Inv X pins' σ H s:=
 ⟨I.ok,I.os,I.bare,I.base,I.loc,I.cell,I.free,I.freeC,fun p hp=>(List.mem_append.mp hp).elim (fun z=>I.pin p (Qaj _ z)) (h p),I.hok,I.len⟩
theorem oO {N:List Str} (hN:N.Nodup) {i j:Nat} {x:Str} (a:N[i]? = some x) (b:N[j]? = some x):i=j:=by
 obtain ⟨h1,e1⟩:=List.getElem?_eq_some_iff.mp a
 obtain ⟨h2,e2⟩:=List.getElem?_eq_some_iff.mp b
 exact (List.getElem_inj hN).mp (e1.trans e2.symm)
theorem ny {M:Model} {A:Around} {E:Value->Shared->Prop} {i:Nat} {x:Str} {v:V} {u:Value} {Q:Unit->Shared->Prop} (I:Inv X pins σ H s) (hN:X.N.Nodup) (hi:X.N[i]? = some x) (hx:Loc X.env.scope x) (r:RelV v u)
  (h:∀ s',Inv X pins (σ.set i (some v)) H s'->(∃ a,Heap.SameBut a s.heap s'.heap/\(a=X.env.locals\/X.env.cells.lookup x=some a))->Q () s') (hf:X.fn x=true\/X.env.scope.names.lookup x=some .local:=by first | exact .inl rfl | exact .inr rfl | assumption):wpAny M A (storeName X.env x u) Q E s:=by
 obtain ⟨m,hn,hl⟩:=id I.loc
 have hcls:(X.env.scope.kind == .class || (X.env.scope.kind == .module && X.env.locals != X.env.globals))=false:=by rw [I.ok.kind]; rfl
 have hiσ:i < σ.length:=by rw [I.len]; exact (List.getElem?_eq_some_iff.mp hi).1
 have cne:=I.cne
 have tracked:∀ {a:Addr} {h':Heap},(∃ o,s.heap.get? a=some o/\H a=none)->Heap.SameBut a s.heap h'->HOk X.prog X.w H h':=fun {a h'} ha hs b ob e=>by
  obtain ⟨_,_,hfree⟩:=ha
  refine (I.hok b ob e).stay (fun c w' hc q=>(hs.2 c ?_).trans q) (fun _ q=>q) fun _ _ q=>q
  rintro rfl
  rcases hc with rfl | hc
  ·rw [hfree] at e; cases e
  ·rw [hfree] at hc; cases hc
 rcases hx with hk | hk
 ·refine wpAny_storeName_local hk hn (fun h' hn' hs=>?_) hcls
  obtain ⟨oL,_,_,hoL,_⟩:=id hn
  refine h _ ⟨I.ok,I.os,I.bare,⟨fun b o e n hb hx=>?_,fun b o e n hb hx=>?_,I.base.free,fun b o e hx=>?_,I.base.tups,I.base.frzs,I.base.tbls⟩,⟨_,hn',fun j y v' e1 e2 e3=>?_⟩,fun y c e=>?_,I.free,I.freeC,fun p hp=>?_,tracked ⟨oL,hoL,I.free⟩ hs,by simpa using I.len⟩ ⟨_,hs,.inl rfl⟩
  ·exact (hs.2 b (Nat.ne_of_lt (Nat.lt_of_lt_of_le (Qad e) I.ok.above))).trans (I.base.keep b o e n hb hx)
  ·obtain ⟨sl,e1⟩:=I.base.slot b o e n hb hx
   exact ⟨sl,(hs.2 b (Nat.ne_of_lt (Nat.lt_of_lt_of_le (Qad e) I.ok.above))).trans e1⟩
  ·obtain ⟨o',e1⟩:=I.base.there b o e hx
   exact ⟨o',(hs.2 b (Nat.ne_of_lt (Nat.lt_of_lt_of_le (Qad e) I.ok.above))).trans e1⟩
  ·by_cases hj:j=i
   ·subst hj
    rw [hi] at e1; cases e1
    rw [List.getElem?_set_self hiσ] at e2
    cases e2
    exact ⟨u,r,.inl ⟨hk,by simp⟩⟩
   ·rw [List.getElem?_set_ne (Ne.symm hj)] at e2
    obtain ⟨u',r',q⟩:=hl j y v' e1 e2 e3
    refine ⟨u',r',?_⟩
    rcases q with ⟨k,e⟩ | ⟨k,c,e,z⟩
    ·refine .inl ⟨k,?_⟩
     have:y ≠ x:=fun e=>hj (oO hN e1 (e ▸ hi))
     simp [this,e]
    ·exact .inr ⟨k,c,e,z.sameBut hs (cne y c e)⟩
  ·obtain ⟨w',z⟩:=I.cell y c e
   exact ⟨w',z.sameBut hs (cne y c e)⟩
  ·obtain ⟨e,n,ne,nf,d⟩:=I.pin p hp
   exact ⟨(hs.2 p.1 ne).trans e,n,ne,nf,d⟩
 ·have hfn:X.fn x=true:=by
   rcases hf with z | z
   ·exact z
   ·rw [z] at hk; cases hk
  obtain ⟨c,hc⟩:=I.ok.has x (.inl hk)
  obtain ⟨w',z⟩:=I.cell x c hc
  refine wpAny_storeName_cell I.ok.kind hk hc z (fun h' hc' hs=>?_)
  obtain ⟨oc,hoc,hocd⟩:=id z
  refine h { s with heap:=h' } ⟨I.ok,I.os,I.bare,⟨fun b o e n hb hx=>?_,fun b o e n hb hx=>?_,I.base.free,fun b o e hx=>?_,I.base.tups,I.base.frzs,I.base.tbls⟩,⟨m,hn.sameBut hs (Ne.symm (cne x c hc)),fun j y v' e1 e2 e3=>?_⟩,fun y c' e=>?_,I.free,I.freeC,fun p hp=>?_,tracked ⟨oc,hoc,I.freeC x c hc⟩ hs,by simpa using I.len⟩ ⟨c,hs,.inr hc⟩
  ·exact (hs.2 b (Nat.ne_of_lt (Nat.lt_of_lt_of_le (Qad e) (I.ok.cab x c hfn hc)))).trans (I.base.keep b o e n hb hx)
  ·obtain ⟨sl,e1⟩:=I.base.slot b o e n hb hx
   exact ⟨sl,(hs.2 b (Nat.ne_of_lt (Nat.lt_of_lt_of_le (Qad e) (I.ok.cab x c hfn hc)))).trans e1⟩
  ·obtain ⟨o',e1⟩:=I.base.there b o e hx
   exact ⟨o',(hs.2 b (Nat.ne_of_lt (Nat.lt_of_lt_of_le (Qad e) (I.ok.cab x c hfn hc)))).trans e1⟩
  ·by_cases hj:j=i
   ·subst hj
    rw [hi] at e1; cases e1
    rw [List.getElem?_set_self hiσ] at e2
    cases e2
    exact ⟨u,r,.inr ⟨.inl hk,c,hc,hc'⟩⟩
   ·rw [List.getElem?_set_ne (Ne.symm hj)] at e2
    obtain ⟨u',r',q⟩:=hl j y v' e1 e2 e3
    refine ⟨u',r',?_⟩
    rcases q with q | ⟨k,c',e,z'⟩
    ·exact .inl q
    ·refine .inr ⟨k,c',e,z'.sameBut hs ?_⟩
     rintro rfl
     exact hj (oO hN e1 (I.ok.inj _ _ _ e hc ▸ hi))
  ·by_cases hcc:c' = c
   ·subst hcc; exact ⟨_,hc'⟩
   ·obtain ⟨w2,z2⟩:=I.cell y c' e
    exact ⟨w2,z2.sameBut hs hcc⟩
  ·obtain ⟨e,n,ne,nf,d⟩:=I.pin p hp
   refine ⟨(hs.2 p.1 ?_).trans e,n,ne,nf,d⟩
   intro q
   rw [q,hoc] at e
   have q':oc=p.2:=Option.some.inj e
   exact d w' (by rw [<-q']; exact hocd)
theorem ip {M:Model} {A:Around} {E:Value->Shared->Prop} {i:Nat} {x:Str} {v:V} {u:Value} {Q:Unit->Shared->Prop} (I:Inv X pins σ H s) (hN:X.N.Nodup) (hi:X.N[i]? = some x) (hx:Loc X.env.scope x) (r:RelV v u)
  (h:∀ s',Inv X pins (σ.set i (some v)) H s'->Q () s') (hf:X.fn x=true\/X.env.scope.names.lookup x=some .local:=by first | exact .inl rfl | exact .inr rfl | assumption):wpAny M A (storeName X.env x u) Q E s:=
 ny I hN hi hx r (fun s' I' _=>h s' I') hf
theorem Inv.call' {s':Shared} {ch:List Addr} (I:Inv X pins σ H s) (ho:s'.os=s.os) (u:Un (frs X.stack) ch H H' s.heap s'.heap) (hok:HOk X.prog X.w H' s'.heap) (hg:AllBare s'.gens)
  (hch:∀ b ∈ ch,(b ∈ X.ex\/X.s₀.heap.objs.size<=b)/\b ≠ X.env.locals/\(∀ x c,X.env.cells.lookup x=some c->c ≠ b)/\∀ p ∈ X.pn ++ pins,p.1 ≠ b):Inv X pins σ H' s':=by
 obtain ⟨h',g',d',t',o'⟩:=s'
 have e:o' = s.os:=ho
 subst e
 exact I.call (g':=g') (t':=t') (d':=d') u hok hg hch
end
noncomputable abbrev XK:=Value->Option Addr->Hp->Prop
noncomputable abbrev St:=List (Option V)
noncomputable abbrev VK:=V->Hp->Prop
noncomputable abbrev TE:=St->Hp->VK->Prop
noncomputable abbrev TT:=St->Hp->(Bool->Hp->Prop)->Prop
noncomputable abbrev TA:=St->Hp->(List V->Hp->Prop)->Prop
structure Ends where
 nx:St->Hp->Prop
 rt:VK
 bk:St->Hp->Prop:=fun _ _=>False
 ct:St->Hp->Prop:=fun _ _=>False
noncomputable abbrev TS:=Ends->St->Hp->Prop
noncomputable def EP (X:Cx) (pins:List (Addr × Obj)) (σ:St) (Q:VK) (u:Value) (s':Shared):Prop:=∃ v H',Inv X pins σ H' s'/\RelV v u/\Q v H'
noncomputable def TP (X:Cx) (pins:List (Addr × Obj)) (σ:St) (Q:Bool->Hp->Prop) (b:Bool) (s':Shared):Prop:=∃ H',Inv X pins σ H' s'/\Q b H'
noncomputable def AP (X:Cx) (pins:List (Addr × Obj)) (σ:St) (Q:List V->Hp->Prop) (us:List Value) (s':Shared):Prop:=∃ vs H',Inv X pins σ H' s'/\Vals vs us/\Q vs H'
noncomputable def SP (X:Cx) (pins:List (Addr × Obj)) (D:Ends) (f:Flow) (s':Shared):Prop:=
 match f with
 | .next=>∃ σ' H',Inv X pins σ' H' s'/\D.nx σ' H'
 | .brk=>∃ σ' H',Inv X pins σ' H' s'/\D.bk σ' H'
 | .cont=>∃ σ' H',Inv X pins σ' H' s'/\D.ct σ' H'
 | .ret u=>∃ v σ' H',Inv X pins σ' H' s'/\RelV v u/\D.rt v H'
noncomputable def PE (X:Cx) (e:Expr) (t:TE):Prop:=
 ∀ (pins:List (Addr × Obj)) (s:Shared) (σ:St) (H:Hp) (Q:VK),Inv X pins σ H s->t σ H Q->wpAny (model X.prog X.w) X.A (eval e X.env) (EP X pins σ Q) X.xe s
noncomputable def PT (X:Cx) (e:Expr) (t:TT):Prop:=
 ∀ (pins:List (Addr × Obj)) (s:Shared) (σ:St) (H:Hp) (Q:Bool->Hp->Prop),Inv X pins σ H s->t σ H Q->wpAny (model X.prog X.w) X.A (isTrue e X.env (eval e X.env)) (TP X pins σ Q) X.xe s
noncomputable def PW (X:Cx) (e:Expr) (t:TT):Prop:=
 ∀ (whole:Sem Value) (pins:List (Addr × Obj)) (s:Shared) (σ:St) (H:Hp) (Q:Bool->Hp->Prop),Inv X pins σ H s->t σ H Q->wpAny (model X.prog X.w) X.A (isTrue e X.env whole) (TP X pins σ Q) X.xe s
theorem PW.pt {X:Cx} {e:Expr} {t:TT} (h:PW X e t):PT X e t:=h _
noncomputable def PA (X:Cx) (es:List Expr) (t:TA):Prop:=
 ∀ (pos:Pos) (pins:List (Addr × Obj)) (s:Shared) (σ:St) (H:Hp) (Q:List V->Hp->Prop),Inv X pins σ H s->t σ H Q->wpAny (model X.prog X.w) X.A (spliced (backTo pos (starEach es X.env))) (AP X pins σ Q) X.xe s
noncomputable def PS (X:Cx) (st:Stmt) (t:TS):Prop:=
 ∀ (pins:List (Addr × Obj)) (s:Shared) (σ:St) (H:Hp) (D:Ends),Inv X pins σ H s->t D σ H->wpAny (model X.prog X.w) X.A (exec st X.env) (SP X pins D) X.xe s
noncomputable def PSs (X:Cx) (st:List Stmt) (t:TS):Prop:=
 ∀ (pins:List (Addr × Obj)) (s:Shared) (σ:St) (H:Hp) (D:Ends),Inv X pins σ H s->t D σ H->wpAny (model X.prog X.w) X.A (execs st X.env) (SP X pins D) X.xe s
theorem thn {α:Type} {t:Sem α} {Q Q':α->Shared->Prop} {M:Model} {A:Around} {E:Value->Shared->Prop} {s:Shared} (h:wpAny M A t Q E s) (hQ:∀ a s,Q a s->Q' a s):wpAny M A t Q' E s:=wpAny_mono h hQ fun _ _ x=>x
section
variable {X:Cx}
noncomputable def fV (i:Nat):TE:=fun σ H Q=>∃ v,σ[i]? = some (some v)/\Q v H
noncomputable def tC (v:V):TE:=fun _ H Q=>Q v H
theorem yP {i:Nat} {x:Str} {pos:Pos} (hN:X.N[i]? = some x) (hv:Vis X.env.scope x) (hd:(x == ("__debug__":Str))=false:=by decide) (hcd:(x == ("__classdict__":Str))=false:=by decide):PE X (.Name x pos) (fV i):=by
 intro pins s σ H Q I h
 obtain ⟨v,e,h⟩:=h
 obtain ⟨m,hn,hl⟩:=I.loc
 obtain ⟨u,r,l⟩:=hl i x v hN e hv
 have fin:EP X pins σ Q u s:=⟨v,H,I,r,h⟩
 rcases l with ⟨hk,hm⟩ | ⟨hk,c,hc,hcell⟩
 ·exact wpAny_Name (wpAny_loadName_local I.ok.kind hk hn hm fin) hd
 ·rcases hk with hk | hk
  ·exact wpAny_Name (wpAny_loadName_cell I.ok.kind hk hc hcell fin) hd
  ·exact wpAny_Name (wpAny_loadName_free I.ok.kind hk hc hcell fin hcd) hd
theorem tq {i j pos}:PE X (.Constant (.int i) j pos) (tC (.int i)):=fun _ _ _ H _ I h=>wpAny_Constant_int ⟨.int i,H,I.tok _,⟨_,rfl⟩,h⟩
theorem AW {b j pos}:PE X (.Constant (.bool b) j pos) (tC (.bl b)):=fun _ _ _ H _ I h=>Constant_bool ⟨.bl b,H,I,rfl,h⟩
theorem tu {j pos}:PE X (.Constant .none j pos) (tC .non):=fun _ _ _ H _ I h=>Constant_none ⟨.non,H,I,rfl,h⟩
theorem tv {x j pos}:PE X (.Constant (.str x) j pos) (tC (.str x)):=fun _ _ _ H _ I h=>Calls.Constant_str ⟨.str x,H,I.tok _,⟨_,rfl⟩,h⟩
noncomputable def Gl (X:Cx) (x:Str):Prop:=X.env.kindOf x=some .globalImplicit
theorem mC {E:Value->Shared->Prop} {pins:List (Addr × Obj)} {s:Shared} {σ:St} {H:Hp} {x:Str} {u:Value} {pos:Pos} {Q:Value->Shared->Prop} (I:Inv X pins σ H s) (hg:Gl X x) (hm:X.mg x=some u) (h:Q u s)
  (hd:(x == ("__debug__":Str))=false:=by decide):wpAny (model X.prog X.w) X.A (eval (.Name x pos) X.env) Q E s:=
 Calls.Name_function_global I.ok.kind hg (Calls.loadGlobal_global (by rw [I.ok.glob]; exact I.mod.glob.keeps I.bk) hm h) hd
theorem eG {E:Value->Shared->Prop} {pins:List (Addr × Obj)} {s:Shared} {σ:St} {H:Hp} {x:Str} {u:Value} {pos:Pos} {Q:Value->Shared->Prop} (I:Inv X pins σ H s) (hg:Gl X x) (hm:X.mg x=none) (hv:bootBuiltins x=some u) (h:Q u s)
  (hn:x ≠ "__name__":=by decide) (hd:(x == ("__debug__":Str))=false:=by decide):wpAny (model X.prog X.w) X.A (eval (.Name x pos) X.env) Q E s:=by
 obtain ⟨mb,h1,h2⟩:=I.mod.blt
 exact Calls.Name_function_global I.ok.kind hg (Calls.loadGlobal_builtin (by rw [I.ok.glob]; exact I.mod.glob.keeps I.bk) hm (by rw [I.ok.blt]; exact h1.keeps I.bk) ((h2 x hn).trans hv) h) hd
theorem wW {x:Str} {v:V} {u:Value} {pos:Pos} (hg:Gl X x) (hm:X.mg x=some u) (r:RelV v u) (hd:(x == ("__debug__":Str))=false:=by decide):PE X (.Name x pos) (tC v):=
 fun _ _ _ H _ I h=>mC I hg hm ⟨v,H,I,r,h⟩ hd
theorem fQ {x:Str} {v:V} {u:Value} {pos:Pos} (hg:Gl X x) (hm:X.mg x=none) (hv:bootBuiltins x=some u) (r:RelV v u) (hn:x ≠ "__name__":=by decide) (hd:(x == ("__debug__":Str))=false:=by decide):PE X (.Name x pos) (tC v):=
 fun _ _ _ H _ I h=>eG I hg hm hv ⟨v,H,I,r,h⟩ hn hd
variable {a b:Expr} {ta tb:TE} {pos:Pos}
noncomputable def tB (t:TE):TT:=fun σ H Q=>t σ H fun x H1=>∃ c,x=.bl c/\Q c H1
theorem yQ {e:Expr} {t:TE} (h:PE X e t) (he:∀ whole,isTrue e X.env whole=(do let v <-whole; standAt e.pos; holding [v] (truthy v)):=by intro _; rfl):PT X e (tB t):=by
 intro pins s σ H Q I hw
 refine isTrue_plain (thn (h pins s σ H _ I hw) fun v s1 ⟨x,H1,I1,r1,q1⟩=>?_) (he _)
 obtain ⟨d,rfl,q⟩:=q1
 cases r1
 exact wpAny_truthy_bool ⟨H1,I1,q⟩
variable {tA tB':TT} {rest:List Expr}
noncomputable def tAnd (t u:TT):TT:=fun σ H Q=>t σ H fun c H1=>if c=true then u σ H1 Q else Q false H1
noncomputable def tOr (t u:TT):TT:=fun σ H Q=>t σ H fun c H1=>if c=true then Q true H1 else u σ H1 Q
noncomputable def tNot (t:TT):TT:=fun σ H Q=>t σ H fun c H1=>Q (!c) H1
theorem wX (ha:PT X a tA):PW X (.BoolOp .And [a] pos) tA:=by
 intro wh pins s σ H Q I h
 refine isTrue_and (thn (ha pins s σ H Q I h) fun c s1 e=>?_)
 cases c with
 | true=>exact isTrue_and_nil e
 | false=>exact e
theorem yR (ha:PT X a tA):PW X (.BoolOp .Or [a] pos) tA:=by
 intro wh pins s σ H Q I h
 refine isTrue_or (thn (ha pins s σ H Q I h) fun c s1 e=>?_)
 cases c with
 | false=>exact isTrue_or_nil e
 | true=>exact e
theorem yS (ha:PT X a tA) (hb:PW X (.BoolOp .And (b :: rest) pos) tB'):PW X (.BoolOp .And (a :: b :: rest) pos) (tAnd tA tB'):=by
 intro wh pins s σ H Q I h
 refine isTrue_and (thn (ha pins s σ H _ I h) fun c s1 ⟨H1,I1,q1⟩=>?_)
 cases c with
 | true=>exact hb wh pins s1 σ H1 Q I1 q1
 | false=>exact ⟨H1,I1,q1⟩
theorem pw_or (ha:PT X a tA) (hb:PW X (.BoolOp .Or (b :: rest) pos) tB'):PW X (.BoolOp .Or (a :: b :: rest) pos) (tOr tA tB'):=by
 intro wh pins s σ H Q I h
 refine isTrue_or (thn (ha pins s σ H _ I h) fun c s1 ⟨H1,I1,q1⟩=>?_)
 cases c with
 | true=>exact ⟨H1,I1,q1⟩
 | false=>exact hb wh pins s1 σ H1 Q I1 q1
theorem yT (ha:PT X a tA):PT X (.UnaryOp .Not a pos) (tNot tA):=by
 intro pins s σ H Q I h
 exact isTrue_not (ha pins s σ H (fun c H1=>Q (!c) H1) I h)
noncomputable def AY (ta tb:TE):TE:=fun σ H Q=>ta σ H fun x H1=>∃ c,x=.bl c/\if c=true then tb σ H1 Q else Q (.bl false) H1
noncomputable def tOrV (ta tb:TE):TE:=fun σ H Q=>ta σ H fun x H1=>∃ c,x=.bl c/\if c=true then Q (.bl true) H1 else tb σ H1 Q
noncomputable def AZ (ta:TE):TE:=fun σ H Q=>ta σ H fun x H1=>∃ c,x=.bl c/\Q (.bl (!c)) H1
theorem yU {op} {t:TE} (h:PE X a t):PE X (.BoolOp op [a] pos) t:=fun pins s σ H Q I hw=>BoolOp_one (h pins s σ H Q I hw)
theorem yV (ha:PE X a ta) (hb:PE X (.BoolOp .And (b :: rest) pos) tb):PE X (.BoolOp .And (a :: b :: rest) pos) (AY ta tb):=by
 intro pins s σ H Q I h
 refine BoolOp_and (thn (ha pins s σ H _ I h) fun v s1 ⟨x,H1,I1,r1,q1⟩=>?_)
 obtain ⟨c,rfl,q1⟩:=q1
 cases r1
 refine wpAny_truthy_bool ?_
 cases c with
 | true=>exact hb pins s1 σ H1 Q I1 q1
 | false=>exact ⟨.bl false,H1,I1,rfl,q1⟩
theorem pe_or (ha:PE X a ta) (hb:PE X (.BoolOp .Or (b :: rest) pos) tb):PE X (.BoolOp .Or (a :: b :: rest) pos) (tOrV ta tb):=by
 intro pins s σ H Q I h
 refine BoolOp_or (thn (ha pins s σ H _ I h) fun v s1 ⟨x,H1,I1,r1,q1⟩=>?_)
 obtain ⟨c,rfl,q1⟩:=q1
 cases r1
 refine wpAny_truthy_bool ?_
 cases c with
 | false=>exact hb pins s1 σ H1 Q I1 q1
 | true=>exact ⟨.bl true,H1,I1,rfl,q1⟩
theorem yW (ha:PE X a ta):PE X (.UnaryOp .Not a pos) (AZ ta):=by
 intro pins s σ H Q I h
 refine UnaryOp_ (thn (ha pins s σ H _ I h) fun v s1 ⟨x,H1,I1,r1,q1⟩=>?_)
 obtain ⟨c,rfl,q1⟩:=q1
 cases r1
 exact not_of (wpAny_truthy_bool ⟨.bl (!c),H1,I1,rfl,q1⟩)
noncomputable def tIf (t:TT) (ta tb:TE):TE:=fun σ H Q=>t σ H fun c H1=>if c=true then ta σ H1 Q else tb σ H1 Q
theorem uX {c:Expr} (hc:PT X c tA) (ha:PE X a ta) (hb:PE X b tb):PE X (.IfExp c a b pos) (tIf tA ta tb):=by
 intro pins s σ H Q I h
 refine wpAny_IfExp (thn (hc pins s σ H _ I h) fun d s1 ⟨H1,I1,q1⟩=>?_)
 cases d with
 | true=>exact ha pins s1 σ H1 Q I1 q1
 | false=>exact hb pins s1 σ H1 Q I1 q1
end
noncomputable def SqL (K:PySem.W.Frag) (H:Hp) (a:Addr) (xs:List V):Prop:=
 Rd H a (.lst xs)\/
  ∃ (o:Obj) (its:Array Value) (n:Nat),K.lookup a=some o/\o.cls=.type "list"/\o.dict=none/\o.data=.seq its n/\its.size<=sizeLine/\Vals xs its.toList
noncomputable def SqT (K:PySem.W.Frag) (H:Hp) (a:Addr) (xs:List V):Prop:=
 Rd H a (.tup xs)\/
  ∃ (o:Obj) (its:Array Value) (n:Nat),K.lookup a=some o/\o.cls=.type "tuple"/\o.data=.seq its n/\its.size<=sizeLine/\Vals xs its.toList
noncomputable def absV:Value->Option V
 | .none=>some .non
 | .bool b=>some (.bl b)
 | .int i _=>some (.int i)
 | .str x _=>some (.str x)
 | .bytes b _=>some (.byt b)
 | .float b _=>some (.flt b)
 | .ref a=>some (.ref a)
 | .type n=>some (.ty n)
 | _=>none
theorem RelV.abs {x:V} {u:Value} (r:RelV x u):absV u=some x:=by
 cases x with
 | non=>cases r; rfl
 | bl _=>cases r; rfl
 | int _=>obtain ⟨t,rfl⟩:=r; rfl
 | str _=>obtain ⟨t,rfl⟩:=r; rfl
 | byt _=>obtain ⟨t,rfl⟩:=r; rfl
 | flt _=>obtain ⟨t,rfl⟩:=r; rfl
 | ref _=>cases r; rfl
 | ty _=>cases r; rfl
theorem RelV.inj {x y:V} {u:Value} (r:RelV x u) (q:RelV y u):x=y:=Option.some.inj (r.abs.symm.trans q.abs)
theorem Vals.inj:∀ {xs ys:List V} {us:List Value},Vals xs us->Vals ys us->xs=ys
 | _,_,_,.nil,.nil=>rfl
 | _,_,_,.cons r t,.cons r' t'=>by rw [r.inj r',Vals.inj t t']
section
variable {X:Cx} {pins:List (Addr × Obj)} {σ:St} {H:Hp} {s:Shared} {a:Addr} {xs ys:List V}
theorem SqL.of {K:PySem.W.Frag} (h:H a=some (.lst xs)):SqL K H a xs:=.inl (.inl h)
theorem SqT.of {K:PySem.W.Frag} (h:H a=some (.tup xs)):SqT K H a xs:=.inl (.inl h)
theorem Inv.list (I:Inv X pins σ H s) (h:SqL X.K H a xs):∃ its:List Value,Vals xs its/\PlainL s.heap a its.toArray/\xs.length<=sizeLine:=by
 rcases h with h | ⟨o,its,n,hk,hc,hd,hs,hz,r⟩
 ·obtain ⟨z,its,n,r,e⟩:=h.ok I.hok
  exact ⟨its,r,⟨_,n,e,rfl,rfl,rfl⟩,z⟩
 ·refine ⟨its.toList,r,⟨o,n,I.kIn a o hk,hc,hd,by simpa using hs⟩,?_⟩
  have e:=r.length
  simp only [Array.length_toList] at e
  omega
theorem Inv.tuple (I:Inv X pins σ H s) (h:SqT X.K H a xs):∃ its:List Value,Vals xs its/\IsTup s.heap a its.toArray/\xs.length<=sizeLine:=by
 rcases h with h | ⟨o,its,n,hk,hc,hs,hz,r⟩
 ·obtain ⟨z,its,r,p⟩:=h.ok I.hok
  exact ⟨its,r,p,z⟩
 ·refine ⟨its.toList,r,⟨o,I.kIn a o hk,hc,n,by simpa using hs⟩,?_⟩
  have e:=r.length
  simp only [Array.length_toList] at e
  omega
theorem Inv.list_inj (I:Inv X pins σ H s) (h:SqL X.K H a xs) (h':SqL X.K H a ys):xs=ys:=by
 obtain ⟨its,r,⟨o,n,e,_,_,d⟩,_⟩:=I.list h
 obtain ⟨its',r',⟨o',n',e',_,_,d'⟩,_⟩:=I.list h'
 rw [e] at e'; cases e'
 rw [d] at d'
 injection d' with d1 _
 have:its=its':=by simpa using congrArg Array.toList d1
 subst this
 exact r.inj r'
theorem Inv.tuple_inj (I:Inv X pins σ H s) (h:SqT X.K H a xs) (h':SqT X.K H a ys):xs=ys:=by
 obtain ⟨its,r,⟨o,e,_,n,d⟩,_⟩:=I.tuple h
 obtain ⟨its',r',⟨o',e',_,n',d'⟩,_⟩:=I.tuple h'
 rw [e] at e'; cases e'
 rw [d] at d'
 injection d' with d1 _
 have:its=its':=by simpa using congrArg Array.toList d1
 subst this
 exact r.inj r'
end
section
variable {X:Cx} {st:Stmt} {rest:List Stmt} {t u:TS} {e:Expr} {te:TE} {pos:Pos}
noncomputable def A0:TS:=fun D σ H=>D.nx σ H
noncomputable def tSeq (t u:TS):TS:=fun D σ H=>t { D with nx:=u D } σ H
theorem wY:PSs X [] A0:=fun _ _ σ H _ I h=>wpAny_execs_nil ⟨σ,H,I,h⟩
theorem uY (h1:PS X st t) (h2:PSs X rest u):PSs X (st :: rest) (tSeq t u):=by
 intro pins s σ H D I h
 refine wpAny_execs_cons (thn (h1 pins s σ H { D with nx:=u D } I h) fun f s1 q=>?_)
 cases f with
 | next=>
  obtain ⟨σ',H',I',q⟩:=q
  exact h2 pins s1 σ' H' D I' q
 | ret v=>exact q
 | brk=>exact q
 | cont=>exact q
theorem wZ (h1:PS X st t):PSs X [st] t:=by
 intro pins s σ H D I h
 refine wpAny_execs_cons (thn (h1 pins s σ H D I h) fun f s1 q=>?_)
 cases f with
 | next=>exact wpAny_execs_nil q
 | ret v=>exact q
 | brk=>exact q
 | cont=>exact q
theorem Inv.quiet {pins:List (Addr × Obj)} {σ:St} {H:Hp} {s:Shared} (I:Inv X pins σ H s):interactive X.env=false:=by simp [interactive,I.ok.kind]
noncomputable def A1 (te:TE):TS:=fun D σ H=>te σ H fun _ H1=>D.nx σ H1
theorem qH (he:PE X e te) (hs:swapsWith e none pos.line X.env=pure false:=by rfl):PS X (.Expr e pos) (A1 te):=by
 intro pins s σ H D I h
 exact wpAny_Expr_any (thn (he pins s σ H _ I h) fun v s1 ⟨x,H1,I1,r1,q1⟩=>⟨σ,H1,I1,q1⟩) I.quiet hs
noncomputable def tRet (te:TE):TS:=fun D σ H=>te σ H D.rt
theorem oP (he:PE X e te):PS X (.Return (some e) pos) (tRet te):=by
 intro pins s σ H D I h
 exact wpAny_Return_some (thn (he pins s σ H _ I h) fun v s1 ⟨x,H1,I1,r1,q1⟩=>⟨x,σ,H1,I1,r1,q1⟩)
noncomputable def tIfS (c:TT) (t u:TS):TS:=fun D σ H=>c σ H fun b H1=>if b=true then t D σ H1 else u D σ H1
theorem A2 {c:Expr} {a b:List Stmt} {tc:TT} (hc:PT X c tc) (ha:PSs X a t) (hb:PSs X b u):PS X (.If c a b pos) (tIfS tc t u):=by
 intro pins s σ H D I h
 refine wpAny_If (thn (hc pins s σ H _ I h) fun d s1 ⟨H1,I1,q1⟩=>?_)
 cases d with
 | true=>exact ha pins s1 σ H1 D I1 q1
 | false=>exact hb pins s1 σ H1 D I1 q1
end
noncomputable abbrev TG:=V->St->Hp->(St->Hp->Prop)->Prop
noncomputable abbrev TGs:=List V->St->Hp->(St->Hp->Prop)->Prop
noncomputable def PG (X:Cx) (target:Expr) (t:TG):Prop:=
 ∀ (pins:List (Addr × Obj)) (s:Shared) (σ:St) (H:Hp) (v:V) (u:Value) (Q:St->Hp->Prop),Inv X pins σ H s->RelV v u->t v σ H Q->
  wpAny (model X.prog X.w) X.A (assign target X.env u) (fun _ s'=>∃ σ' H',Inv X pins σ' H' s'/\Q σ' H') X.xe s
noncomputable def PGs (X:Cx) (ts:List Expr) (t:TGs):Prop:=
 ∀ (pins:List (Addr × Obj)) (s:Shared) (σ:St) (H:Hp) (vs:List V) (us:List Value) (Q:St->Hp->Prop),Inv X pins σ H s->Vals vs us->t vs σ H Q->
  wpAny (model X.prog X.w) X.A (assignInOrder ((assignEach ts X.env).map (·.2)) us) (fun _ s'=>∃ σ' H',Inv X pins σ' H' s'/\Q σ' H') X.xe s
noncomputable abbrev TIp:=V->V->Hp->VK->Prop
noncomputable def PIp (X:Cx) (op:Operator) (t:TIp):Prop:=
 ∀ (pins:List (Addr × Obj)) (s:Shared) (σ:St) (H:Hp) (x y:V) (v u:Value) (Q:VK),Inv X pins σ H s->RelV x v->RelV y u->t x y H Q->
  wpAny (model X.prog X.w) X.A (inplaceOp op v u) (EP X pins σ Q) X.xe s
section
variable {X:Cx} {pos:Pos}
noncomputable def oE (i:Nat):TG:=fun v σ H Q=>Q (σ.set i (some v)) H
theorem w4 {i:Nat} {x:Str} (hN:X.N.Nodup) (hi:X.N[i]? = some x) (hx:Loc X.env.scope x) (hf:X.fn x=true\/X.env.scope.names.lookup x=some .local:=by first | exact .inl rfl | exact .inr rfl | assumption):PG X (.Name x pos) (oE i):=by
 intro pins s σ H v u Q I r h
 exact wpAny_assign_Name (ip I hN hi hx r (fun s' I'=>⟨_,H,I',h⟩) hf)
noncomputable def gNil:TGs:=fun vs σ H Q=>vs=[]/\Q σ H
noncomputable def A3 (t:TG) (u:TGs):TGs:=fun vs σ H Q=>∃ v r,vs=v :: r/\t v σ H fun σ' H'=>u r σ' H' Q
theorem w5:PGs X [] gNil:=by
 intro pins s σ H vs us Q I r h
 obtain ⟨e,h⟩:=h
 subst e
 cases r
 exact assignInOrder_nil ⟨σ,H,I,h⟩
theorem uZ {e:Expr} {es:List Expr} {t:TG} {u:TGs} (h1:PG X e t) (h2:PGs X es u)
  (hs:(assignEach (e :: es) X.env).map (·.2)=assign e X.env :: (assignEach es X.env).map (·.2):=by rfl):PGs X (e :: es) (A3 t u):=by
 intro pins s σ H vs us Q I r h
 obtain ⟨v,vr,e1,h⟩:=h
 subst e1
 cases r with
 | cons r rr=>
  rw [hs]
  refine assignInOrder_cons (thn (h1 pins s σ H _ _ _ I r h) fun _ s1 ⟨σ1,H1,I1,q1⟩=>?_)
  exact h2 pins s1 σ1 H1 _ _ Q I1 rr q1
noncomputable def gTup (K:PySem.W.Frag) (n:Nat) (t:TGs):TG:=fun v σ H Q=>∃ a xs,v=.ref a/\SqT K H a xs/\xs.length=n/\t xs σ H Q
theorem yX {es:List Expr} {k:Nat} {t:TGs} {n:Nat} (hc:X.calm=true) (h:PGs X es t)
  (hn:(assignEach es X.env).length=n:=by rfl) (hst:(assignEach es X.env).findIdx? (·.1)=none:=by rfl):PG X (.Tuple es k pos) (gTup X.K n t):=by
 intro pins s σ H v u Q I r hw
 obtain ⟨a,xs,e1,hq,hl,hw⟩:=hw
 subst e1
 cases r
 obtain ⟨its,rv,ht,hz⟩:=I.tuple hq
 refine assign_Tuple_tuple (I.ok.hd hc) ht (by simp [hn,<-hl,rv.length]) hst fun h' hx=>?_
 have I1:Inv X pins σ H { s with heap:=h' }:=I.kept (t':=s.toks) fun b o e=>hx b o (Nat.ne_of_lt (Qad e)) e
 exact h pins _ σ H xs _ Q I1 (by simpa using rv) hw
noncomputable def u0 (te:TE) (g:TG):TS:=fun D σ H=>te σ H fun x H1=>g x σ H1 D.nx
theorem yY {tg e:Expr} {te:TE} {g:TG} (he:PE X e te) (hg:PG X tg g) (hs:swapsWithSole [tg] e pos.line X.env=pure false:=by rfl) (hw:swappedStores [tg] e X.env=pure none:=by rfl)
  (h1:(assignEach [tg] X.env).map (·.2)=[assign tg X.env]:=by rfl):PS X (.Assign [tg] e pos) (u0 te g):=by
 intro pins s σ H D I h
 refine wpAny_Assign_stores (thn (he pins s σ H _ I h) fun v s1 ⟨x,H1,I1,r1,q1⟩=>?_) hs hw
 rw [h1]
 exact thn (hg pins s1 σ H1 x v _ I1 r1 q1) fun _ s2 q=>q
theorem tw {i:Nat} {x:Str} {e:Expr} {te:TE} {pos':Pos} (hN:X.N.Nodup) (hi:X.N[i]? = some x) (hx:Loc X.env.scope x) (he:PE X e te) (hs:swapsWith e (some (.Name x pos')) pos.line X.env=pure false:=by rfl) (hf:X.fn x=true\/X.env.scope.names.lookup x=some .local:=by first | exact .inl rfl | exact .inr rfl | assumption) :
  PS X (.Assign [.Name x pos'] e pos) (u0 te (oE i)):=by
 intro pins s σ H D I h
 refine wpAny_Assign_Name (thn (he pins s σ H _ I h) fun v s1 ⟨y,H1,I1,r1,q1⟩=>?_) hs
 exact ip I1 hN hi hx r1 (fun s2 I2=>⟨_,H1,I2,q1⟩) hf
noncomputable def tPar (i j:Nat) (ta:TA):TS:=fun D σ H=>ta σ H fun vs H1=>∃ v w,vs=[v,w]/\D.nx ((σ.set i (some v)).set j (some w)) H1
theorem yZ {i j:Nat} {x y:Str} {a b:Expr} {ta:TA} {px py pt:Pos} {kt k2 pt2} (hc:X.calm=true) (hN:X.N.Nodup) (hi:X.N[i]? = some x) (hj:X.N[j]? = some y) (hij:i ≠ j)
  (hx:X.env.scope.names.lookup x=some .local) (hy:X.env.scope.names.lookup y=some .local) (ha:PA X [a,b] ta)
  (hw:swappedStores [.Tuple [.Name x px,.Name y py] kt pt] (.Tuple [a,b] k2 pt2) X.env=pure (some [x,y]))
  (hs:swapsWithSole [.Tuple [.Name x px,.Name y py] kt pt] (.Tuple [a,b] k2 pt2) pos.line X.env=pure false:=by rfl) :
  PS X (.Assign [.Tuple [.Name x px,.Name y py] kt pt] (.Tuple [a,b] k2 pt2) pos) (tPar i j ta):=by
 intro pins s σ H D I h
 rw [exec_Assign_arm]
 refine Qaa (wpAny_standAt ?_)
 rw [hs]
 refine Qaa (Qab ?_)
 rw [if_neg (by decide)]
 refine Qaa (Tuple_ (thn (ha _ pins s σ H _ I h) fun us s1 ⟨vs,H1,I1,r1,q1⟩=>?_))
 obtain ⟨v,w,e1,q1⟩:=q1
 subst e1
 obtain ⟨u1,u2,rfl,rv,rw'⟩:∃ u1 u2,us=[u1,u2]/\RelV v u1/\RelV w u2:=by
  cases r1 with
  | cons p q=>
   cases q with
   | cons p' q'=>
    cases q'
    exact ⟨_,_,rfl,p,p'⟩
 refine wpAny_newObj_type ?_ (by show 2<=sizeLine; decide)
 have I2:Inv X pins σ H1 { s1 with heap:=s1.heap.push { cls:=.type "tuple",data:=.seq [u1,u2].toArray } }:=I1.kept (t':=s1.toks) fun b o e=>Qac _ e
 rw [hw]
 refine Qaa (Qab ?_)
 show wpAny (model X.prog X.w) X.A (do rule "assign.swapped-stores"; let items <-unpackItems (.ref s1.heap.objs.size) 2 none; assignInOrder [fun v=>bindName X.env y v,fun v=>bindName X.env x v] items.reverse; pure Flow.next) _ _ _
 refine Qaa (wpAny_rule (Qaa (unpackItems_tuple (items:=#[u1,u2]) (I.ok.hd hc) (IsTup.new s1.heap _) fun h' hx'=>?_)))
 have I3:=I2.kept (h':=h') (t':=s1.toks) fun b o e=>hx' b o (Nat.ne_of_lt (Qad e)) e
 show wpAny _ _ (assignInOrder [fun v=>bindName X.env y v,fun v=>bindName X.env x v] [u2,u1] >>= fun _=>pure Flow.next) _ _ _
 refine Qaa (assignInOrder_cons (wpAny_bindName (ip I3 hN hj (.inl hy) rw' (fun s2 I4=>?_) (.inr hy))))
 refine assignInOrder_cons (wpAny_bindName (ip I4 hN hi (.inl hx) rv (fun s3 I5=>assignInOrder_nil (Qab ?_)) (.inr hx)))
 rw [List.set_comm _ _ (Ne.symm hij)] at I5
 exact ⟨_,H1,I5,q1⟩
noncomputable def tAug (i:Nat) (te:TE) (ti:TIp):TS:=fun D σ H=>∃ x,σ[i]? = some (some x)/\te σ H fun y H1=>ti x y H1 fun z H2=>D.nx (σ.set i (some z)) H2
theorem y3 {i:Nat} {x:Str} {e:Expr} {te:TE} {op:Operator} {ti:TIp} {pos':Pos} (hN:X.N.Nodup) (hi:X.N[i]? = some x) (hx:Loc X.env.scope x) (he:PE X e te) (ho:PIp X op ti) (hf:X.fn x=true\/X.env.scope.names.lookup x=some .local:=by first | exact .inl rfl | exact .inr rfl | assumption) :
  PS X (.AugAssign (.Name x pos') op e pos) (tAug i te ti):=by
 intro pins s σ H D I h
 obtain ⟨v,e1,h⟩:=h
 obtain ⟨m,hn,hl⟩:=I.loc
 have vis:Vis X.env.scope x:=by rcases hx with k | k; exact .inl k; exact .inr (.inl k)
 obtain ⟨u,r,l⟩:=hl i x v hi e1 vis
 refine wpAny_AugAssign_Name ?_
 have go:wpAny (model X.prog X.w) X.A (eval e X.env) (fun w s₂=>wpAny (model X.prog X.w) X.A (inplaceOp op u w) (fun r s₃=>wpAny (model X.prog X.w) X.A (storeName X.env x r) (fun _=>SP X pins D .next) X.xe s₃) X.xe s₂) X.xe s:=by
  refine thn (he pins s σ H _ I h) fun w s1 ⟨y,H1,I1,r1,q1⟩=>?_
  refine thn (ho pins s1 σ H1 v y u w _ I1 r r1 q1) fun z s2 ⟨zv,H2,I2,r2,q2⟩=>?_
  exact ip I2 hN hi hx r2 (fun s3 I3=>⟨_,H2,I3,q2⟩) hf
 rcases l with ⟨hk,hm⟩ | ⟨hk,c,hc,hcell⟩
 ·exact wpAny_loadName_local I.ok.kind hk hn hm go
 ·rcases hk with hk | hk
  ·exact wpAny_loadName_cell I.ok.kind hk hc hcell go
  ·rcases hx with k | k
   ·have:X.env.scope.names.lookup x=some .free:=hk
    rw [k] at this; cases this
   ·have:X.env.scope.names.lookup x=some .free:=hk
    rw [k] at this; cases this
noncomputable def ipI (f:Int->Int->Int):TIp:=fun x y H Q=>∃ i j,x=.int i/\y=.int j/\Q (.int (f i j)) H
theorem y9:PIp X .Add (ipI fun i j=>i + j):=by
 intro pins s σ H x y v u Q I r1 r2 h
 obtain ⟨i,j,e1,e2,q⟩:=h
 subst e1; subst e2
 obtain ⟨t,rfl⟩:=r1
 obtain ⟨t',rfl⟩:=r2
 exact iadd_int ⟨.int _,H,I.tok _,⟨_,rfl⟩,q⟩
end
section
variable {X:Cx} {pos:Pos}
noncomputable def za (c:TT) (tb:TS):TS:=fun D σ H=>∃ W:Nat->St->Hp->Prop,(∃ m,W m σ H)/\∀ m σ H,W m σ H->
 c σ H fun b H1=>if b=true then ∃ N:St->Hp->Prop,(∀ σ' H',N σ' H'->∃ m',m' < m/\W m' σ' H')/\tb { D with nx:=N,ct:=N,bk:=D.nx } σ H1 else D.nx σ H1
theorem u4 {c:Expr} {body:List Stmt} {tc:TT} {tb:TS} (hp:PassesOwn (model X.prog X.w) X.A X.env X.xe) (hc:PT X c tc) (hb:PSs X body tb):PS X (.While c body [] pos) (za tc tb):=by
 intro pins s σ H D I h
 obtain ⟨W,⟨m0,w0⟩,turn⟩:=h
 refine wpAny_While (codeAny_whileLoop (fun n s'=>∃ σ' H',Inv X pins σ' H' s'/\W n σ' H') ?_ m0 ⟨σ,H,I,w0⟩)
 rintro n s1 ⟨σ1,H1,I1,w1⟩
 refine wpAny_passesOwn hp (thn (hc pins s1 σ1 H1 _ I1 (turn n σ1 H1 w1)) fun b s2 ⟨H2,I2,q2⟩=>?_)
 cases b with
 | true=>
  obtain ⟨N,hN,q2⟩:=q2
  rw [if_pos rfl]
  refine wpAny_passesOwn hp (thn (hb pins s2 σ1 H2 _ I2 q2) fun f s3 q3=>?_)
  cases f with
  | next=>
   obtain ⟨σ3,H3,I3,n3⟩:=q3
   obtain ⟨m',hm,w3⟩:=hN σ3 H3 n3
   exact ⟨m',hm,σ3,H3,I3,w3⟩
  | cont=>
   obtain ⟨σ3,H3,I3,n3⟩:=q3
   obtain ⟨m',hm,w3⟩:=hN σ3 H3 n3
   exact ⟨m',hm,σ3,H3,I3,w3⟩
  | brk=>exact q3
  | ret v=>exact q3
 | false=>
  rw [if_neg Bool.false_ne_true]
  exact wpAny_execs_nil ⟨σ1,H2,I2,q2⟩
end
structure It where
 go:Nat->Hp->Prop
 yld:Nat->Hp->V->Hp->Prop
 stop:Nat->Hp->Prop
noncomputable def gX (X:Cx) (pins:List (Addr × Obj)) (H:Hp) (b:Addr):Prop:=
 H b=none/\b ≠ X.env.locals/\b ∉ X.fs/\(b ∈ X.ex\/X.s₀.heap.objs.size<=b)/\(∀ x c,X.env.cells.lookup x=some c->c ≠ b)/\∀ p ∈ X.pn ++ pins,p.1 ≠ b
theorem Inv.fpOk {X:Cx} {pins:List (Addr × Obj)} {σ:St} {H H':Hp} {s:Shared} {b:Addr} (I:Inv X pins σ H s) (hb:s.heap.objs.size<=b) (hn:H' b=none):gX X pins H' b:=by
 refine ⟨hn,Nat.ne_of_gt (Nat.lt_of_lt_of_le I.lt hb),I.nofs hb,.inr (Nat.le_trans I.sz hb),fun x c e z=>?_,fun p hp z=>?_⟩
 ·obtain ⟨v,q⟩:=I.cell x c e
  exact absurd (Nat.lt_of_lt_of_le q.lt (by rw [z]; exact hb)) (Nat.lt_irrefl _)
 ·exact absurd (Nat.lt_of_lt_of_le (Qad (I.pin p hp).1) (by rw [z]; exact hb)) (Nat.lt_irrefl _)
structure Turn (P:Program) (w:World) (K:PySem.W.Frag) (tg:Expr) (J:It) (fp:List Addr) (it:Addr) (tn:Nat->Heap->Prop):Prop where
 mem:it ∈ fp
 obj:∀ i h,tn i h->∀ b ∈ fp,∃ o,h.get? b=some o/\∀ v,o.data ≠ .cell v
 keep:∀ i h h',tn i h->(∀ b ∈ fp,∀ o,h.get? b=some o->h'.get? b=some o)->tn i h'
 item:∀ (X:Cx),X.prog=P->X.w=w->X.K=K->X.calm=true->∀ (i:Nat) (pins:List (Addr × Obj)) (s:Shared) (σ:St) (H:Hp) (E:Value->Shared->Prop),Inv X pins σ H s->(∀ b ∈ fp,gX X pins H b)->tn i s.heap->J.go i H->
  wpAny (model P w) X.A (pyNext (.ref it)) (fun r s1=>∃ u,r=some u/\
   wpAny (model P w) X.A (letOwnedTupleGo tg (.ref it) u) (fun _ s2=>∃ x H',Inv X pins σ H' s2/\RelV x u/\J.yld i H x H'/\tn (i + 1) s2.heap/\∀ b ∈ fp,H' b=none) E s1) E s
 done:∀ (X:Cx),X.prog=P->X.w=w->X.K=K->X.calm=true->∀ (i:Nat) (pins:List (Addr × Obj)) (s:Shared) (σ:St) (H:Hp) (E:Value->Shared->Prop),Inv X pins σ H s->(∀ b ∈ fp,gX X pins H b)->tn i s.heap->J.stop i H->
  wpAny (model P w) X.A (pyNext (.ref it)) (fun r s1=>r=none/\Inv X pins σ H s1) E s
 self:∀ (A:Around) (i:Nat) (s:Shared) (Q:Value->Shared->Prop) (E:Value->Shared->Prop),tn i s.heap->Q (.ref it) s->wpAny (model P w) A (pyIter (.ref it)) Q E s
noncomputable abbrev TI:=St->Hp->(It->Hp->Prop)->Prop
noncomputable def PIE (X:Cx) (pins:List (Addr × Obj)) (σ:St) (tg:Expr) (R:It->Hp->Prop) (itv:Value) (s2:Shared):Prop:=
 ∃ (it:Addr) (fp:List Addr) (tn:Nat->Heap->Prop) (J:It) (H':Hp),itv=.ref it/\Inv X pins σ H' s2/\Turn X.prog X.w X.K tg J fp it tn/\tn 0 s2.heap/\(∀ b ∈ fp,gX X pins H' b)/\R J H'
noncomputable def PI (X:Cx) (tg iter:Expr) (wi:TI):Prop:=
 ∀ (pins:List (Addr × Obj)) (s:Shared) (σ:St) (H:Hp) (R:It->Hp->Prop),Inv X pins σ H s->wi σ H R->
  wpAny (model X.prog X.w) X.A (eval iter X.env) (fun v s1=>wpAny (model X.prog X.w) X.A (pyIter v) (PIE X pins σ tg R) X.xe s1) X.xe s
theorem rL {M:Model} {A:Around} {E:Value->Shared->Prop} {s:Shared} {tg:Expr} {it:Addr} {u:Value} {o:Obj} {n:String} {vs:Array Value} {Q:Unit->Shared->Prop} (ho:s.heap.get? it=some o) (hc:o.cls=.type n) (hd:o.data=.fields vs)
    (hn:["enumerate","zip","dict_itemiterator","dict_reverseitemiterator","odict_iterator","itertools.zip_longest","itertools.pairwise"].contains n=false) (hQ:Q () s):wpAny M A (letOwnedTupleGo tg (.ref it) u) Q E s:=by
  unfold letOwnedTupleGo
  cases tg <;> first
    | exact Qab hQ
    | (cases u <;> first
        | exact Qab hQ
        | (refine Qaa (wpAny_load ho ?_)
           rw [hc,hd]
           show wpAny M A (if (["enumerate","zip","dict_itemiterator","dict_reverseitemiterator","odict_iterator","itertools.zip_longest","itertools.pairwise"].contains n && vs[0]? == some (rawInt _))=true then _ else _) Q E s
           rw [if_neg (by intro h; rw [hn,Bool.false_and] at h; cases h)]
           exact Qab hQ))
noncomputable def Itl (K:PySem.W.Frag) (a:Addr):It:=
 ⟨fun i H=>∃ xs x,SqL K H a xs/\xs[i]? = some x,fun i H x H'=>H' = H/\∀ xs,SqL K H a xs->xs[i]? = some x,fun i H=>∃ xs,SqL K H a xs/\xs.length<=i⟩
noncomputable def Itt (K:PySem.W.Frag) (a:Addr):It:=
 ⟨fun i H=>∃ xs x,SqT K H a xs/\xs[i]? = some x,fun i H x H'=>H' = H/\∀ xs,SqT K H a xs->xs[i]? = some x,fun i H=>∃ xs,SqT K H a xs/\xs.length<=i⟩
noncomputable def Itr (lo:Int) (n:Nat):It:=⟨fun i _=>i < n,fun i H x H'=>H' = H/\x=.int (lo + i),fun i _=>n<=i⟩
theorem tz {P:Program} {w:World} {K:PySem.W.Frag} {tg:Expr} (a it:Addr):Turn P w K tg (Itl K a) [it] it (fun i h=>h.IsListIter it a i) where
 mem:=by simp
 obj:=fun i h st b hb=>by
  have e:b=it:=by simpa using hb
  subst e
  obtain ⟨o,e,c,d⟩:=st
  exact ⟨o,e,fun v z=>by rw [d] at z; cases z⟩
 keep:=fun i h h' st k=>st.at fun o e=>k it (by simp) o e
 item:=by
  intro X hP hw hK hc i pins s σ H E I hf st hg
  subst hP hw hK
  obtain ⟨xs,x,hq,hx⟩:=hg
  obtain ⟨its,rv,p,hz⟩:=I.list hq
  obtain ⟨u,hu,ru⟩:=rv.get hx
  obtain ⟨f0,f1,f2,f3,f4,f5⟩:=hf it (by simp)
  refine wpAny_pyNext_list_item st p.isList (x:=u) (by simpa using hu) fun h' st' sb=>?_
  have I1:Inv X pins σ H { s with heap:=h' }:=I.turned (t':=s.toks) (fun b o hb e=>(sb.2 b hb).trans e) f0 f1 f3 f4 f5
  obtain ⟨o,e,c,d⟩:=id st'
  exact ⟨u,rfl,rL (s:={ s with heap:=h' }) e c d (by decide) ⟨x,H,I1,ru,⟨rfl,fun ys hy=>by rw [I.list_inj hy hq]; exact hx⟩,st',fun b hb=>(hf b hb).1⟩⟩
 done:=by
  intro X hP hw hK hc i pins s σ H E I hf st hg
  subst hP hw hK
  obtain ⟨xs,hq,hx⟩:=hg
  obtain ⟨its,rv,p,hz⟩:=I.list hq
  obtain ⟨f0,f1,f2,f3,f4,f5⟩:=hf it (by simp)
  have hl:=rv.length
  exact wpAny_pyNext_list_end (I.ok.hd hc) st p.isList (by simp; omega) fun h' eb=>⟨rfl,I.turned (t':=s.toks) (fun b o hb e=>eb b o hb e) f0 f1 f3 f4 f5⟩
 self:=fun _ _ _ _ _ st h=>wpAny_pyIter_listiter st h
theorem rM {P:Program} {w:World} {K:PySem.W.Frag} {tg:Expr} (a it:Addr):Turn P w K tg (Itt K a) [it] it (fun i h=>h.IsTupleIter it a i) where
 mem:=by simp
 obj:=fun i h st b hb=>by
  have e:b=it:=by simpa using hb
  subst e
  obtain ⟨o,e,c,d⟩:=st
  exact ⟨o,e,fun v z=>by rw [d] at z; cases z⟩
 keep:=fun i h h' st k=>st.at fun o e=>k it (by simp) o e
 item:=by
  intro X hP hw hK hc i pins s σ H E I hf st hg
  subst hP hw hK
  obtain ⟨xs,x,hq,hx⟩:=hg
  obtain ⟨its,rv,p,hz⟩:=I.tuple hq
  obtain ⟨u,hu,ru⟩:=rv.get hx
  obtain ⟨f0,f1,f2,f3,f4,f5⟩:=hf it (by simp)
  refine wpAny_pyNext_tuple_item st (show s.heap.IsTuple a its.toArray from p) (x:=u) (by simpa using hu) fun h' st' sb=>?_
  have I1:Inv X pins σ H { s with heap:=h' }:=I.turned (t':=s.toks) (fun b o hb e=>(sb.2 b hb).trans e) f0 f1 f3 f4 f5
  obtain ⟨o,e,c,d⟩:=id st'
  exact ⟨u,rfl,rL (s:={ s with heap:=h' }) e c d (by decide) ⟨x,H,I1,ru,⟨rfl,fun ys hy=>by rw [I.tuple_inj hy hq]; exact hx⟩,st',fun b hb=>(hf b hb).1⟩⟩
 done:=by
  intro X hP hw hK hc i pins s σ H E I hf st hg
  subst hP hw hK
  obtain ⟨xs,hq,hx⟩:=hg
  obtain ⟨its,rv,p,hz⟩:=I.tuple hq
  obtain ⟨f0,f1,f2,f3,f4,f5⟩:=hf it (by simp)
  have hl:=rv.length
  exact wpAny_pyNext_tuple_end (I.ok.hd hc) st (show s.heap.IsTuple a its.toArray from p) (by simp; omega) fun h' eb=>⟨rfl,I.turned (t':=s.toks) (fun b o hb e=>eb b o hb e) f0 f1 f3 f4 f5⟩
 self:=fun _ _ _ _ _ st h=>wpAny_pyIter_tupleiter st h
theorem rN {P:Program} {w:World} {K:PySem.W.Frag} {tg:Expr} (it:Addr) (lo:Int) (n:Nat):Turn P w K tg (Itr lo n) [it] it (fun i h=>IsRangeIter h it (lo + (i:Nat) * 1) ((n:Int) - (i:Nat)) 1) where
 mem:=by simp
 obj:=fun i h st b hb=>by
  have e:b=it:=by simpa using hb
  subst e
  exact ⟨_,st,fun v z=>by
   have z':Data.fields _=Data.cell v:=z
   cases z'⟩
 keep:=fun i h h' st k=>k it (by simp) _ st
 item:=by
  intro X hP hw hK hc i pins s σ H E I hf st hg
  subst hP hw hK
  obtain ⟨f0,f1,f2,f3,f4,f5⟩:=hf it (by simp)
  have W:=Walks.range (prog:=X.prog) (w:=X.w) (I.ok.hd hc) it lo 1 n
  refine W.item i s _ _ hg st fun v h' tk hv st' kk=>?_
  obtain ⟨t,rfl⟩:=hv
  have I1:Inv X pins σ H { s with heap:=h',toks:=tk }:=I.turned (fun b o hb e=>kk b o (by simpa using hb) e) f0 f1 f3 f4 f5
  refine ⟨_,rfl,rL (s:={ s with heap:=h',toks:=tk }) (n:="range_iterator") st' rfl rfl (by decide) ⟨.int (lo + i),H,I1,⟨t,?_⟩,⟨rfl,rfl⟩,st',fun b hb=>(hf b hb).1⟩⟩
  rw [Int.mul_one]
 done:=by
  intro X hP hw hK hc i pins s σ H E I hf st hg
  subst hP hw hK
  obtain ⟨f0,f1,f2,f3,f4,f5⟩:=hf it (by simp)
  exact wpAny_pyNext_range_end (I.ok.hd hc) st (by have:n<=i:=hg; omega) fun h' eb=>⟨rfl,I.turned (t':=s.toks) (fun b o hb e=>eb b o hb e) f0 f1 f3 f4 f5⟩
 self:=fun _ _ _ _ _ st h=>wpAny_pyIter_rangeiter st h
section
variable {X:Cx} {tg:Expr}
noncomputable def A4 (K:PySem.W.Frag) (tl:TE):TI:=fun σ H R=>tl σ H fun x H1=>∃ a,x=.ref a/\(∃ xs,SqL K H1 a xs)/\R (Itl K a) H1
noncomputable def iTup (K:PySem.W.Frag) (tl:TE):TI:=fun σ H R=>tl σ H fun x H1=>∃ a,x=.ref a/\(∃ xs,SqT K H1 a xs)/\R (Itt K a) H1
theorem w6 {l:Expr} {tl:TE} (hl:PE X l tl):PI X tg l (A4 X.K tl):=by
 intro pins s σ H R I h
 refine thn (hl pins s σ H _ I h) fun v s1 ⟨x,H1,I1,r1,q1⟩=>?_
 obtain ⟨a,e,⟨xs,hq⟩,q⟩:=q1
 subst e
 cases r1
 obtain ⟨its,rv,p,hz⟩:=I1.list hq
 refine wpAny_pyIter_list p.isList ?_
 refine ⟨s1.heap.objs.size,[s1.heap.objs.size],_,_,H1,rfl,I1.kept (t':=s1.toks) fun b o e=>Qac _ e,tz a _,⟨_,Heap.get?_push_size _ rfl,rfl,rfl⟩,fun b hb=>?_,q⟩
 have e:b=s1.heap.objs.size:=by simpa using hb
 subst e
 exact I1.fpOk (Qae _) (I1.hok.fresh (Qae _))
theorem zb {l:Expr} {tl:TE} (hl:PE X l tl):PI X tg l (iTup X.K tl):=by
 intro pins s σ H R I h
 refine thn (hl pins s σ H _ I h) fun v s1 ⟨x,H1,I1,r1,q1⟩=>?_
 obtain ⟨a,e,⟨xs,hq⟩,q⟩:=q1
 subst e
 cases r1
 obtain ⟨its,rv,p,hz⟩:=I1.tuple hq
 refine wpAny_pyIter_tuple (show s1.heap.IsTuple a its.toArray from p) ?_
 refine ⟨s1.heap.objs.size,[s1.heap.objs.size],_,_,H1,rfl,I1.kept (t':=s1.toks) fun b o e=>Qac _ e,rM a _,⟨_,Heap.get?_push_size _ rfl,rfl,rfl⟩,fun b hb=>?_,q⟩
 have e:b=s1.heap.objs.size:=by simpa using hb
 subst e
 exact I1.fpOk (Qae _) (I1.hok.fresh (Qae _))
theorem oQ {pins:List (Addr × Obj)} {σ:St} {H:Hp} {s:Shared} {R:It->Hp->Prop} {E:Value->Shared->Prop} {lo hi:Int} {t u v:Tok} {tk:Nat} (I:Inv X pins σ H s) (h1:-(2 ^ 62)<=lo) (h2:lo < 2 ^ 62) (h3:-(2 ^ 62)<=hi) (h4:hi < 2 ^ 62)
  (q:R (Itr lo (hi - lo).toNat) H):wpAny (model X.prog X.w) X.A (pyIter (.ref s.heap.objs.size)) (PIE X pins σ tg R) E { s with heap:=s.heap.push { cls:=.type "range",data:=.fields #[.int lo t,.int hi u,.int 1 v] },toks:=tk }:=by
 refine wpAny_pyIter_range (IsRange.new ..) (small_one h1 h2 h3 h4) ?_
 have I1:Inv X pins σ H { s with heap:=s.heap.push { cls:=.type "range",data:=.fields #[.int lo t,.int hi u,.int 1 v] },toks:=tk }:=I.kept fun b o e=>Qac _ e
 refine ⟨(s.heap.push { cls:=.type "range",data:=.fields #[.int lo t,.int hi u,.int 1 v] }).objs.size,[(s.heap.push { cls:=.type "range",data:=.fields #[.int lo t,.int hi u,.int 1 v] }).objs.size],_,_,H,rfl,
  I1.kept (t':=tk) fun b o e=>Qac _ e,rN _ lo (hi - lo).toNat,?_,fun b hb=>?_,q⟩
 ·have e1:lo + ((0:Nat):Int) * 1=lo:=by simp
  have e2:(((hi - lo).toNat:Nat):Int) - ((0:Nat):Int)=Builtin.Range.rangeSize lo hi 1:=by rw [rangeSize_one]; split <;> omega
  show IsRangeIter _ _ (lo + ((0:Nat):Int) * 1) ((((hi - lo).toNat:Nat):Int) - ((0:Nat):Int)) 1
  rw [e1,e2]
  exact Heap.get?_push_size _ rfl
 ·have e:b=(s.heap.push { cls:=.type "range",data:=.fields #[.int lo t,.int hi u,.int 1 v] }).objs.size:=by simpa using hb
  subst e
  exact I1.fpOk (Qae _) (I1.hok.fresh (Qae _))
noncomputable def A5 (ta:TA):TI:=fun σ H R=>ta σ H fun vs H1=>∃ j:Int,vs=[.int j]/\-(2 ^ 62)<=j/\j < 2 ^ 62/\R (Itr 0 j.toNat) H1
noncomputable def A6 (ta:TA):TI:=fun σ H R=>ta σ H fun vs H1=>∃ i j:Int,vs=[.int i,.int j]/\(-(2 ^ 62)<=i/\i < 2 ^ 62/\-(2 ^ 62)<=j/\j < 2 ^ 62)/\R (Itr i (j - i).toNat) H1
theorem tD {a:Expr} {ta:TA} {p pos:Pos} (hg:Gl X "range") (hm:X.mg "range" = none) (ha:PA X [a] ta) (hs:starEach [a] X.env=[(false,eval a X.env)]:=by rfl):PI X tg (.Call (.Name "range" p) [a] [] pos) (A5 ta):=by
 intro pins s σ H R I h
 refine Call_ (eG I hg hm boot_range (PyProof.Rows.callWith_type1 (thn (ha pos pins s σ H _ I h) fun us s1 ⟨vs,H1,I1,r1,q1⟩=>?_) hs rfl))
 obtain ⟨j,e,q1,q2,q⟩:=q1
 subst e
 cases r1 with
 | cons r rr=>
  cases rr
  obtain ⟨t,rfl⟩:=r
  exact call_range_1 (oQ I1 (by omega) (by omega) q1 q2 (by simpa using q))
theorem tE {a b:Expr} {ta:TA} {p pos:Pos} (hg:Gl X "range") (hm:X.mg "range" = none) (ha:PA X [a,b] ta) (hs:starEach [a,b] X.env=[(false,eval a X.env),(false,eval b X.env)]:=by rfl) (hs2:starEach [b] X.env=[(false,eval b X.env)]:=by rfl) :
  PI X tg (.Call (.Name "range" p) [a,b] [] pos) (A6 ta):=by
 intro pins s σ H R I h
 refine Call_ (eG I hg hm boot_range (PyProof.Rows.callWith_type1 (thn (ha pos pins s σ H _ I h) fun us s1 ⟨vs,H1,I1,r1,q1⟩=>?_) (by rw [hs,hs2]) (by rw [hs2]; rfl)))
 obtain ⟨i,j,e,⟨q1,q2,q3,q4⟩,q⟩:=q1
 subst e
 cases r1 with
 | cons r rr=>
  cases rr with
  | cons r' rr=>
   cases rr
   obtain ⟨t,rfl⟩:=r
   obtain ⟨t',rfl⟩:=r'
   exact call_range_2 (oQ I1 q1 q2 q3 q4 q)
noncomputable def tFor (wi:TI) (g:TG) (tb:TS):TS:=fun D σ H=>wi σ H fun J H1=>∃ W:Nat->Nat->St->Hp->Prop,(∃ m,W 0 m σ H1)/\∀ i m σ H,W i m σ H->
 (J.stop i H/\D.nx σ H)\/(J.go i H/\∃ N:St->Hp->Prop,(∀ σ' H',N σ' H'->∃ m',m' < m/\W (i + 1) m' σ' H')/\∀ x H',J.yld i H x H'->g x σ H' fun σ2 H2=>tb { D with nx:=N,ct:=N,bk:=D.nx } σ2 H2)
noncomputable def jN (fp:List Addr) (h:Heap):List (Addr × Obj):=fp.filterMap fun b=>(h.get? b).map fun o=>(b,o)
theorem hV {fp:List Addr} {h:Heap} {b:Addr} {o:Obj} (hb:b ∈ fp) (e:h.get? b=some o):(b,o) ∈ jN fp h:=List.mem_filterMap.mpr ⟨b,hb,by rw [e]; rfl⟩
theorem tF {fp:List Addr} {h:Heap} {p:Addr × Obj} (hp:p ∈ jN fp h):p.1 ∈ fp/\h.get? p.1=some p.2:=by
 obtain ⟨b,hb,e⟩:=List.mem_filterMap.mp hp
 cases q:h.get? b with
 | none=>rw [q] at e; cases e
 | some o=>
  rw [q] at e
  have e':(b,o)=p:=Option.some.inj e
  subst e'
  exact ⟨hb,q⟩
theorem Inv.pinned {pins:List (Addr × Obj)} {σ:St} {H:Hp} {s:Shared} {fp:List Addr} (I:Inv X pins σ H s) (hf:∀ b ∈ fp,gX X pins H b) (ho:∀ b ∈ fp,∃ o,s.heap.get? b=some o/\∀ v,o.data ≠ .cell v):Inv X (pins ++ jN fp s.heap) σ H s:=
 I.pins_of fun p hp=>(List.mem_append.mp hp).elim (fun z=>I.pin p (Qai _ z)) fun z=>by
  obtain ⟨hb,e⟩:=tF z
  obtain ⟨f0,f1,f2,_⟩:=hf p.1 hb
  obtain ⟨o,e',d⟩:=ho p.1 hb
  rw [e] at e'; cases e'
  exact ⟨e,f0,f1,f2,d⟩
theorem Inv.unpinned {pins pl:List (Addr × Obj)} {σ:St} {H:Hp} {s:Shared} (I:Inv X (pins ++ pl) σ H s):Inv X pins σ H s:=I.pins_of fun p hp=>I.pin p (Qai _ (Qaj _ hp))
theorem zc {iter:Expr} {body:List Stmt} {wi:TI} {g:TG} {tb:TS} {pos:Pos} (hp:PassesOwn (model X.prog X.w) X.A X.env X.xe) (hc:X.calm=true) (hi:PI X tg iter wi) (hg:PG X tg g) (hb:PSs X body tb)
  (hs:∀ x,foldedSetIterable iter X.env x=pure x:=by intro _; rfl):PS X (.For tg iter body [] pos) (tFor wi g tb):=by
 intro pins s σ H D I h
 refine wpAny_For (thn (hi pins s σ H _ I h) fun v s1 h1=>thn h1 fun itv s2 h2=>?_) hs
 obtain ⟨it,fp,tn,J,H2,e,I2,T,st2,f2,W,⟨m0,w0⟩,turn⟩:=h2
 subst e
 have stat:∀ {H':Hp},(∀ b ∈ fp,H' b=none)->∀ b ∈ fp,gX X pins H' b:=fun hn b hb=>⟨hn b hb,(f2 b hb).2⟩
 refine codeAny_forLoop_any (fun n s'=>∃ i σ' H',Inv X pins σ' H' s'/\tn i s'.heap/\(∀ b ∈ fp,H' b=none)/\W i n σ' H') ?_ m0 ⟨0,σ,H2,I2,st2,fun b hb=>(f2 b hb).1,w0⟩
 rintro n s3 ⟨i,σ3,H3,I3,st3,fr3,w3⟩
 rcases turn i n σ3 H3 w3 with ⟨stop,qn⟩ | ⟨go,N,hN,step⟩
 ·refine wpAny_passesOwn hp (thn (T.done X rfl rfl rfl hc i pins s3 σ3 H3 X.xe I3 (stat fr3) st3 stop) fun r s4 ⟨hr,I4⟩=>?_)
  subst hr
  exact wpAny_execs_nil ⟨σ3,H3,I4,qn⟩
 ·refine wpAny_passesOwn hp (thn (T.item X rfl rfl rfl hc i pins s3 σ3 H3 X.xe I3 (stat fr3) st3 go) fun r s4 ⟨u,hr,h4⟩=>?_)
  subst hr
  refine wpAny_passesOwn hp (thn h4 fun _ s5 ⟨x,H5,I5,r5,y5,st5,fr5⟩=>?_)
  have I5':=I5.pinned (stat fr5) (T.obj _ _ st5)
  refine wpAny_passesOwn hp (thn (hg _ s5 σ3 H5 x u _ I5' r5 (step x H5 y5)) fun _ s6 ⟨σ6,H6,I6,q6⟩=>?_)
  refine wpAny_passesOwn hp (thn (hb _ s6 σ6 H6 _ I6 q6) fun f s7 q7=>?_)
  have again:∀ {σ7:St} {H7:Hp},Inv X (pins ++ jN fp s5.heap) σ7 H7 s7->N σ7 H7->∃ m,m < n/\∃ i σ' H',Inv X pins σ' H' s7/\tn i s7.heap/\(∀ b ∈ fp,H' b=none)/\W i m σ' H':=fun {σ7 H7} I7 n7=>by
   obtain ⟨m',hm,w7⟩:=hN σ7 H7 n7
   refine ⟨m',hm,i + 1,σ7,H7,I7.unpinned,T.keep _ _ _ st5 fun b hb o e=>(I7.pin (b,o) (Qai _ (Qai _ (hV hb e)))).1,fun b hb=>?_,w7⟩
   obtain ⟨o,e,d⟩:=T.obj _ _ st5 b hb
   exact (I7.pin (b,o) (Qai _ (Qai _ (hV hb e)))).2.1
  cases f with
  | next=>obtain ⟨σ7,H7,I7,n7⟩:=q7; exact again I7 n7
  | cont=>obtain ⟨σ7,H7,I7,n7⟩:=q7; exact again I7 n7
  | brk=>obtain ⟨σ7,H7,I7,q7⟩:=q7; exact ⟨σ7,H7,I7.unpinned,q7⟩
  | ret v=>obtain ⟨x7,σ7,H7,I7,r7,q7⟩:=q7; exact ⟨x7,σ7,H7,I7.unpinned,r7,q7⟩
end
noncomputable abbrev R2:=V->V->Hp->VK->Prop
noncomputable def OpR (X:Cx) (f:Value->Value->Sem Value) (r:R2):Prop:=
 ∀ (pins:List (Addr × Obj)) (s:Shared) (σ:St) (H:Hp) (x y:V) (v u:Value) (Q:VK),Inv X pins σ H s->RelV x v->RelV y u->r x y H Q->
  wpAny (model X.prog X.w) X.A (f v u) (EP X pins σ Q) X.xe s
noncomputable def UnR (X:Cx) (f:Value->Sem Value) (r:V->Hp->VK->Prop):Prop:=
 ∀ (pins:List (Addr × Obj)) (s:Shared) (σ:St) (H:Hp) (x:V) (v:Value) (Q:VK),Inv X pins σ H s->RelV x v->r x H Q->
  wpAny (model X.prog X.w) X.A (f v) (EP X pins σ Q) X.xe s
noncomputable def iQ (X:Cx) (f:Value) (r:List V->Hp->VK->Prop):Prop:=
 ∀ (pins:List (Addr × Obj)) (s:Shared) (σ:St) (H:Hp) (xs:List V) (us:List Value) (Q:VK),Inv X pins σ H s->Vals xs us->r xs H Q->
  wpAny (model X.prog X.w) X.A (call f us) (EP X pins σ Q) X.xe s
noncomputable def tOp (r:R2) (ta tb:TE):TE:=fun σ H Q=>ta σ H fun x H1=>tb σ H1 fun y H2=>r x y H2 Q
noncomputable def tUn (r:V->Hp->VK->Prop) (ta:TE):TE:=fun σ H Q=>ta σ H fun x H1=>r x H1 Q
noncomputable def rI (C:Int->Int->Prop) (g:Int->Int->V):R2:=fun x y H Q=>∃ i j,x=.int i/\y=.int j/\C i j/\Q (g i j) H
noncomputable def rI0 (g:Int->Int->V):R2:=fun x y H Q=>∃ i j,x=.int i/\y=.int j/\Q (g i j) H
noncomputable def rU (g:Int->V):V->Hp->VK->Prop:=fun x H Q=>∃ i,x=.int i/\Q (g i) H
section
variable {X:Cx} {a b c:Expr} {ta tb tc:TE} {pos:Pos}
theorem u5 (ha:PE X a ta) (hb:PE X b tb) {pins:List (Addr × Obj)} {s:Shared} {σ:St} {H:Hp} {R:V->V->Hp->Prop} (I:Inv X pins σ H s)
  (h:ta σ H fun x H1=>tb σ H1 fun y H2=>R x y H2) {Q:Value->Shared->Prop} {f:Value->Value->Sem Value}
  (hf:∀ v u s2 x y H2,Inv X pins σ H2 s2->RelV x v->RelV y u->R x y H2->wpAny (model X.prog X.w) X.A (f v u) Q X.xe s2) :
  wpAny (model X.prog X.w) X.A (eval a X.env) (fun v s₁=>wpAny (model X.prog X.w) X.A (eval b X.env) (fun u s₂=>wpAny (model X.prog X.w) X.A (f v u) Q X.xe s₂) X.xe s₁) X.xe s:=by
 refine thn (ha pins s σ H _ I h) fun v s1 ⟨x,H1,I1,r1,q1⟩=>?_
 refine thn (hb pins s1 σ H1 _ I1 q1) fun u s2 ⟨y,H2,I2,r2,q2⟩=>?_
 exact hf v u s2 x y H2 I2 r1 r2 q2
theorem A7 {op:Operator} {r:R2} (ho:OpR X (binaryOp op) r) (ha:PE X a ta) (hb:PE X b tb):PE X (.BinOp a op b pos) (tOp r ta tb):=by
 intro pins s σ H Q I h
 exact wpAny_BinOp (u5 ha hb I h fun v u s2 x y H2 I2 rx ry q=>ho pins s2 σ H2 x y v u Q I2 rx ry q)
theorem A8 {op:UnaryOp} {r:V->Hp->VK->Prop} (ho:UnR X (unaryOp op) r) (ha:PE X a ta):PE X (.UnaryOp op a pos) (tUn r ta):=by
 intro pins s σ H Q I h
 exact UnaryOp_ (thn (ha pins s σ H _ I h) fun v s1 ⟨x,H1,I1,r1,q1⟩=>ho pins s1 σ H1 x v Q I1 r1 q1)
theorem opI {f:Value->Value->Sem Value} {C:Int->Int->Prop} {g:Int->Int->Int}
  (rule:∀ (i j:Int) (t u:Tok) (s:Shared) (Q:Value->Shared->Prop) (E:Value->Shared->Prop),C i j->Q (.int (g i j) s.toks) { s with toks:=s.toks + 1 }->wpAny (model X.prog X.w) X.A (f (.int i t) (.int j u)) Q E s) :
  OpR X f (rI C fun i j=>.int (g i j)):=by
 intro pins s σ H x y v u Q I rx ry h
 obtain ⟨i,j,rfl,rfl,hc,q⟩:=h
 obtain ⟨t,rfl⟩:=rx
 obtain ⟨t',rfl⟩:=ry
 exact rule i j t t' s _ _ hc ⟨.int (g i j),H,I.tok _,⟨_,rfl⟩,q⟩
theorem opI0 {f:Value->Value->Sem Value} {g:Int->Int->Int}
  (rule:∀ (i j:Int) (t u:Tok) (s:Shared) (Q:Value->Shared->Prop) (E:Value->Shared->Prop),Q (.int (g i j) s.toks) { s with toks:=s.toks + 1 }->wpAny (model X.prog X.w) X.A (f (.int i t) (.int j u)) Q E s) :
  OpR X f (rI0 fun i j=>.int (g i j)):=by
 intro pins s σ H x y v u Q I rx ry h
 obtain ⟨i,j,rfl,rfl,q⟩:=h
 obtain ⟨t,rfl⟩:=rx
 obtain ⟨t',rfl⟩:=ry
 exact rule i j t t' s _ _ ⟨.int (g i j),H,I.tok _,⟨_,rfl⟩,q⟩
theorem rO {f:Value->Value->Sem Value} {g:Int->Int->Bool}
  (rule:∀ (i j:Int) (t u:Tok) (s:Shared) (Q:Value->Shared->Prop) (E:Value->Shared->Prop),Q (.bool (g i j)) s->wpAny (model X.prog X.w) X.A (f (.int i t) (.int j u)) Q E s) :
  OpR X f (rI0 fun i j=>.bl (g i j)):=by
 intro pins s σ H x y v u Q I rx ry h
 obtain ⟨i,j,rfl,rfl,q⟩:=h
 obtain ⟨t,rfl⟩:=rx
 obtain ⟨t',rfl⟩:=ry
 exact rule i j t t' s _ _ ⟨.bl (g i j),H,I,rfl,q⟩
noncomputable def u6 (i j:Int):Prop:=0 < j/\j < 1073741824
noncomputable def u7 (i j:Int):Prop:=0<=j/\j<=1000000/\i.natAbs < 2 ^ 64
noncomputable def CMul (i j:Int):Prop:=(-(2 ^ 64) < i/\i < 2 ^ 64)\/(-(2 ^ 64) < j/\j < 2 ^ 64)
theorem CMul.ok {i j:Int} (h:CMul i j):IntMulOk i j:=by
 rcases h with ⟨h1,h2⟩ | ⟨h1,h2⟩
 ·exact .of_left (intBits_le_64 h1 h2)
 ·exact .of_right (intBits_le_64 h1 h2)
theorem zd:OpR X (binaryOp .Add) (rI0 fun i j=>.int (i + j)):=opI0 fun _ _ _ _ _ _ _ q=>add_int q
theorem ze:OpR X (binaryOp .Sub) (rI0 fun i j=>.int (i - j)):=opI0 fun _ _ _ _ _ _ _ q=>sub_int q
theorem zg:OpR X (binaryOp .Mult) (rI CMul fun i j=>.int (i * j)):=opI fun _ _ _ _ _ _ _ hc q=>mul_int q hc.ok
theorem w9:OpR X (binaryOp .FloorDiv) (rI u6 fun i j=>.int (i / j)):=opI fun i j _ _ _ _ _ hc q=>by
 have h1:(0:Int) < j:=hc.1
 have h2:j < 1073741824:=hc.2
 exact floordiv_int (by omega) (by rw [Int.fdiv_eq_ediv_of_nonneg i (by omega)]; exact q) (.inl (PyProof.noPylong_small (by omega)))
theorem zh:OpR X (binaryOp .Mod) (rI (fun _ j=>0 < j) fun i j=>.int (i % j)):=opI fun i j _ _ _ _ _ hc q=>by
 have h1:(0:Int) < j:=hc
 exact mod_int' (by omega) (by rw [Int.fmod_eq_emod_of_nonneg i (by omega)]; exact q)
theorem zi:OpR X (binaryOp .Pow) (rI u7 fun i j=>.int (i ^ j.toNat)):=opI fun _ _ _ _ _ _ _ hc q=>pow_int_small hc.1 hc.2.1 hc.2.2 q
theorem unI {f:Value->Sem Value} {g:Int->Int}
  (rule:∀ (i:Int) (t:Tok) (s:Shared) (Q:Value->Shared->Prop) (E:Value->Shared->Prop),Q (.int (g i) s.toks) { s with toks:=s.toks + 1 }->wpAny (model X.prog X.w) X.A (f (.int i t)) Q E s) :
  UnR X f (rU fun i=>.int (g i)):=by
 intro pins s σ H x v Q I rx h
 obtain ⟨i,rfl,q⟩:=h
 obtain ⟨t,rfl⟩:=rx
 exact rule i t s _ _ ⟨.int (g i),H,I.tok _,⟨_,rfl⟩,q⟩
theorem zj:UnR X (unaryOp .USub) (rU fun i=>.int (-i)):=unI fun _ _ _ _ _ q=>neg_int q
end
section
variable {X:Cx} {a b c:Expr} {ta tb tc:TE} {pos:Pos}
theorem tG {pins:List (Addr × Obj)} {σ:St} {H:Hp} {s:Shared} {Q:VK} {k k':Bool} (I:Inv X pins σ H s) (q:Q (.bl k) H) (e:k=k'):EP X pins σ Q (.bool k') s:=by
 subst e
 exact ⟨.bl k,H,I,rfl,q⟩
theorem ww:OpR X (compareOp .Lt) (rI0 fun i j=>.bl (decide (i < j))):=rO fun _ _ _ _ _ _ _ q=>lt_int q
theorem rP:OpR X (compareOp .LtE) (rI0 fun i j=>.bl (decide (i<=j))):=rO fun _ _ _ _ _ _ _ q=>le_int q
theorem A9:OpR X (compareOp .Gt) (rI0 fun i j=>.bl (decide (j < i))):=rO fun _ _ _ _ _ _ _ q=>gt_int q
theorem Ba:OpR X (compareOp .GtE) (rI0 fun i j=>.bl (decide (j<=i))):=rO fun _ _ _ _ _ _ _ q=>ge_int q
theorem tH:OpR X (compareOp .Is) (fun x y H Q=>y=.non/\Q (.bl (decide (x=.non))) H):=by
 intro pins s σ H x y v u Q I rx ry h
 obtain ⟨rfl,q⟩:=h
 cases ry
 refine is_none_gen (tG I q ?_)
 cases x <;> first
  | (cases rx; rfl)
  | (obtain ⟨t,rfl⟩:=rx; rfl)
theorem xa:OpR X (compareOp .IsNot) (fun x y H Q=>y=.non/\Q (.bl (!decide (x=.non))) H):=by
 intro pins s σ H x y v u Q I rx ry h
 obtain ⟨rfl,q⟩:=h
 cases ry
 refine isnot_none_gen (tG I q ?_)
 cases x <;> first
  | (cases rx; rfl)
  | (obtain ⟨t,rfl⟩:=rx; rfl)
theorem dX (b:Expr) {op:CmpOp} (h:op ≠ .In:=by decide) (h2:op ≠ .NotIn:=by decide):behindInMarks op b=false:=by
 have e1:(op == CmpOp.In)=false:=by cases op <;> first | rfl | exact absurd rfl h
 have e2:(op == CmpOp.NotIn)=false:=by cases op <;> first | rfl | exact absurd rfl h2
 cases b <;> simp [behindInMarks,e1,e2]
theorem xb {op:CmpOp} {r:R2} (ho:OpR X (compareOp op) r) (ha:PE X a ta) (hb:PE X b tb) (hm:behindInMarks op b=false):PE X (.Compare a [op] [b] pos) (tOp r ta tb):=by
 intro pins s σ H Q I h
 exact wpAny_Compare1 (u5 ha hb I h fun v u s2 x y H2 I2 rx ry q=>ho pins s2 σ H2 x y v u Q I2 rx ry q) hm
noncomputable def Bb (t:TE):TT:=fun σ H Q=>t σ H fun x H'=>∃ k,x=.bl k/\Q k H'
theorem qJ {op:CmpOp} {r:R2} (ho:OpR X (compareOp op) r) (ha:PE X a ta) (hb:PE X b tb) (hm:behindInMarks op b=false):PT X (.Compare a [op] [b] pos) (Bb (tOp r ta tb)):=by
 intro pins s σ H Q I h
 refine wpAny_isTrue_Compare1 (thn (ha pins s σ H _ I h) fun v s1 ⟨x,H1,I1,r1,q1⟩=>thn (hb pins s1 σ H1 _ I1 q1) fun u s2 ⟨y,H2,I2,r2,q2⟩=>
  thn (ho pins s2 σ H2 x y v u _ I2 r1 r2 q2) fun c s3 ⟨z,H3,I3,r3,k,e,q3⟩=>?_) hm
 subst e
 cases r3
 exact wpAny_truthy_bool ⟨H3,I3,q3⟩
noncomputable def zk (r r':R2) (ta tb tc:TE):TE:=fun σ H Q=>ta σ H fun x H1=>tb σ H1 fun y H2=>r x y H2 fun z H3=>∃ k,z=.bl k/\
 (if k=true then tc σ H3 fun w' H4=>r' y w' H4 Q else Q (.bl false) H3)
theorem u9 {op op':CmpOp} {r r':R2} (ho:OpR X (compareOp op) r) (ho':OpR X (compareOp op') r') (ha:PE X a ta) (hb:PE X b tb) (hc:PE X c tc)
  (hm:lastMarks [op,op'] [b,c]=false:=by with_unfolding_all rfl):PE X (.Compare a [op,op'] [b,c] pos) (zk r r' ta tb tc):=by
 intro pins s σ H Q I h
 refine Compare_chain (thn (ha pins s σ H _ I h) fun v s1 ⟨x,H1,I1,r1,q1⟩=>chain_link (thn (hb pins s1 σ H1 _ I1 q1) fun u s2 ⟨y,H2,I2,r2,q2⟩=>
  thn (ho pins s2 σ H2 x y v u _ I2 r1 r2 q2) fun d s3 ⟨z,H3,I3,r3,k,e,q3⟩=>?_)) hm
 subst e
 cases r3
 refine wpAny_truthy_bool ?_
 cases k with
 | false=>exact ite_ff ⟨.bl false,H3,I3,rfl,q3⟩
 | true=>exact ite_tt (chain_last (thn (hc pins s3 σ H3 _ I3 q3) fun w' s4 ⟨z',H4,I4,r4,q4⟩=>ho' pins s4 σ H4 y z' u w' Q I4 r2 r4 q4))
theorem oR:(sizeLine:Nat) < 2 ^ 63:=by rw [sizeLine_eq]; decide
theorem iR {x:V} {us:List Value} (r:Vals [x] us):∃ u,us=[u]/\RelV x u:=by
 cases r with
 | cons r1 r2=>cases r2; exact ⟨_,rfl,r1⟩
theorem wx {x y:V} {us:List Value} (r:Vals [x,y] us):∃ u w',us=[u,w']/\RelV x u/\RelV y w':=by
 cases r with
 | cons r1 r2=>
  cases r2 with
  | cons r3 r4=>cases r4; exact ⟨_,_,rfl,r1,r3⟩
theorem jO (hc:X.calm=true):iQ X (.builtin "max") (fun xs H Q=>∃ i j,xs=[.int i,.int j]/\Q (.int (if j > i then j else i)) H):=by
 intro pins s σ H xs us Q I r h
 obtain ⟨i,j,rfl,q⟩:=h
 obtain ⟨u,w',rfl,⟨t,rfl⟩,⟨t',rfl⟩⟩:=wx r
 refine max_two_ints (I.ok.hd hc) fun h' tk k=>⟨_,H,I.kept k,?_,q⟩
 by_cases hj:j > i
 ·rw [if_pos hj,if_pos hj]; exact ⟨_,rfl⟩
 ·rw [if_neg hj,if_neg hj]; exact ⟨_,rfl⟩
end
structure ObjM (h:Heap) (x dx C:Addr) (mA:Str->Option Value):Prop where
 obj:h.get? x=some (PySem.W.instObj C dx)
 ns:h.Ns1 dx mA
 ne:dx ≠ x
theorem tI {h:Heap} {dx:Addr} {mA:Str->Option Value} (n:h.Ns1 dx mA):∃ od,h.get? dx=some od/\∀ name,PySem.W.lookIn name od=some (mA name):=by
 obtain ⟨o,es,ep,ho,hd,hk,_,hm⟩:=n
 refine ⟨o,ho,fun name=>?_⟩
 have e:=hm name
 unfold nsFind findBy at e
 rw [<-Array.find?_toList] at e
 unfold PySem.W.lookIn
 rw [hd]
 dsimp only
 split
 ·rename_i y q
  rw [q] at e
  exact congrArg some e
 ·rename_i q
  rw [q] at e
  have a:es.toList.any (·.refKey)=false:=by
   rw [List.any_eq_false]
   intro y hy
   obtain ⟨z,t,hkey⟩:=hk y (Array.mem_toList_iff.mp hy)
   simp [DictEntry.refKey,hkey]
  have a':¬ es.toList.any (·.refKey)=true:=by rw [a]; exact Bool.false_ne_true
  rw [if_neg a']
  exact congrArg some e
theorem ObjM.look {h:Heap} {x dx C:Addr} {mA:Str->Option Value} (I:ObjM h x dx C mA):∃ od,PySem.W.InstAt h x (PySem.W.instObj C dx) C (some od)/\∀ name,PySem.W.lookIn name od=some (mA name):=
 let ⟨od,ho,hl⟩:=tI I.ns
 ⟨od,⟨I.obj,rfl,rfl,ho⟩,hl⟩
section
variable {P:Program} {w:World} {H H':Hp} {h h':Heap} {a C dx:Addr} {fs fs':List (Str × V)}
theorem xc (hok:HOk P w H h) (e:H a=some (.ins C dx fs)):∃ mA,ObjM h a dx C mA/\(∀ f,uV (fs.lookup f) (mA f))/\PySem.Within mA (fs.map (·.1))/\fs.length<=1000/\H dx=some (.own a):=by
 obtain ⟨d,z,ne,ob,mA,n,r,q⟩:=(show ObjOk P w H h a (.ins C dx fs) from hok a _ e)
 exact ⟨mA,⟨ob,n,ne⟩,r,q,z,d⟩
end
structure Cls (K:PySem.W.Frag) (C:Addr):Prop where
 pg:PySem.W.plainGet K C Str.empty=true
 hd:PySem.W.hasDictIn K C=true
 po:PySem.W.plainOver K C=true
 sa:PySem.W.findIn K (.ref C) "__setattr__" = some (some (.builtin "object.__setattr__"))
theorem Cls.get {K:PySem.W.Frag} {C:Addr} (c:Cls K C) (f:Str):PySem.W.plainGet K C f=true:=c.pg
section
variable {X:Cx} {pins:List (Addr × Obj)} {σ:St} {H:Hp} {s:Shared} {A:Around} {E:Value->Shared->Prop} {Q:Value->Shared->Prop} {c:Value} {b:Bool}
inductive TyOf (K:PySem.W.Frag) (H:Hp):V->Value->Prop where
 | non:TyOf K H .non (.type "NoneType")
 | bl (x:Bool):TyOf K H (.bl x) (.type "bool")
 | int (i:Int):TyOf K H (.int i) (.type "int")
 | str (x:Str):TyOf K H (.str x) (.type "str")
 | flt (x:UInt64):TyOf K H (.flt x) (.type "float")
 | lst {a:Addr} {xs:List V} (e:H a=some (.lst xs)):TyOf K H (.ref a) (.type "list")
 | frz {a:Addr} {o:Obj} {xs:List V} (e:H a=some (.frz o (.lst xs))):TyOf K H (.ref a) (.type "list")
 | tup {a:Addr} {xs:List V} (e:H a=some (.tup xs)):TyOf K H (.ref a) (.type "tuple")
 | dK {a:Addr} {kvs:List (Key × V)} (e:H a=some (.dK kvs)):TyOf K H (.ref a) (.type "dict")
 | dT {a:Addr} {kvs:List (List Key × V)} (e:H a=some (.dT kvs)):TyOf K H (.ref a) (.type "dict")
 | ins {a C dx:Addr} {fs:List (Str × V)} (e:H a=some (.ins C dx fs)) (cl:Cls K C) (ha:PySem.W.findIn K (.ref C) "__class__" = some (some (.builtin "object.__class__")))
   (hn:PySem.W.specialIn K (.builtin "object.__class__") "__get__" = some (some (.builtin "getset_descriptor.__get__"))) (htk:PySem.W.takesIn K (.builtin "object.__class__")=some true)
   (hm:PySem.W.mroIn K C (.type "object")=some true):TyOf K H (.ref a) (.ref C)
theorem tJ {x:V} {u t:Value} (I:Inv X pins σ H s) (rx:RelV x u) (ty:TyOf X.K H x t) (e:PySem.W.kitOne X.K t c=some b) (h:∀ tk,Q (.bool b) { s with toks:=tk }) :
  wpAny (model X.prog X.w) A (call (.builtin "isinstance") [u,c]) Q E s:=by
 cases ty with
 | non=>cases (show u=Value.none from rx); exact PySem.W.kia_one PySem.W.kitx_none I.kIn True.intro e (fun z=>nomatch z) h
 | bl y=>cases (show u=Value.bool y from rx); exact PySem.W.kia_one PySem.W.kitx_bool I.kIn True.intro e (fun z=>nomatch z) h
 | int i=>obtain ⟨t,q⟩:=(show ∃ t,u=Value.int i t from rx); cases q; exact PySem.W.kia_one PySem.W.kitx_int I.kIn True.intro e (fun z=>nomatch z) h
 | str y=>obtain ⟨t,q⟩:=(show ∃ t,u=Value.str y t from rx); cases q; exact PySem.W.kia_one PySem.W.kitx_str I.kIn True.intro e (fun z=>nomatch z) h
 | flt y=>obtain ⟨t,q⟩:=(show ∃ t,u=Value.float y t from rx); cases q; exact PySem.W.kia_one PySem.W.kitx_float I.kIn True.intro e (fun z=>nomatch z) h
 | @lst a xs ea=>
  cases (show u=Value.ref a from rx)
  obtain ⟨_,_,n,_,h1⟩:=(show ObjOk X.prog X.w H s.heap a (.lst xs) from I.hok a _ ea)
  exact PySem.W.kia_one PySem.W.kitx_list I.kIn ⟨_,h1,rfl⟩ e (fun z=>nomatch z) h
 | @frz a ob xs ea=>
  cases (show u=Value.ref a from rx)
  obtain ⟨_,_,_,n,_,h1⟩:=(show ObjOk X.prog X.w H s.heap a (.frz ob (.lst xs)) from I.hok a _ ea)
  exact PySem.W.kia_one PySem.W.kitx_list I.kIn ⟨_,h1,rfl⟩ e (fun z=>nomatch z) h
 | @tup a xs ea=>
  cases (show u=Value.ref a from rx)
  obtain ⟨_,_,_,p⟩:=(show ObjOk X.prog X.w H s.heap a (.tup xs) from I.hok a _ ea)
  obtain ⟨o,h1,h2,_⟩:=p
  exact PySem.W.kia_one PySem.W.kitx_tuple I.kIn ⟨o,h1,h2⟩ e (fun z=>nomatch z) h
 | @dK a kvs ea=>
  cases (show u=Value.ref a from rx)
  obtain ⟨_,_,vs,_,p⟩:=(show ObjOk X.prog X.w H s.heap a (.dK kvs) from I.hok a _ ea)
  obtain ⟨o,es,ep,h1,h2,_⟩:=p
  exact PySem.W.kia_one PySem.W.kitx_dict I.kIn ⟨o,h1,h2.1⟩ e (fun z=>nomatch z) h
 | @dT a kvs ea=>
  cases (show u=Value.ref a from rx)
  obtain ⟨_,_,xs,_,o,es,ep,h1,h2,_⟩:=(show ObjOk X.prog X.w H s.heap a (.dT kvs) from I.hok a _ ea)
  exact PySem.W.kia_one PySem.W.kitx_dict I.kIn ⟨o,h1,h2.1⟩ e (fun z=>nomatch z) h
 | @ins a C dx fs ea cl ha hn htk hm=>
  cases (show u=Value.ref a from rx)
  obtain ⟨mA,O,_⟩:=xc I.hok ea
  obtain ⟨od,J,_⟩:=O.look
  exact PySem.W.kia_one (PySem.W.kitx_own (cl.get _) cl.hd ha hn htk hm) I.kIn J e (fun z=>nomatch z) h
end
structure Room (k:Nat) (A:Around):Prop where
 hd:A.handled=none
 dp:A.depth + 3 * k + 5 < recursionLimit
 un:A.units + 16 * k + 200 < cLine
theorem Room.mono {j k:Nat} {A:Around} (r:Room k A) (h:j<=k):Room j A:=⟨r.hd,by have:=r.dp; omega,by have:=r.un; omega⟩
theorem Room.deeper {k:Nat} {A:Around} (r:Room (k + 1) A) (env:Env):Room k (A.deeper env):=
 ⟨r.hd,by have:=r.dp; show A.depth + 1 + 3 * k + 5 < _; omega,by have:=r.un; show A.units + 3 + 16 * k + 200 < _; omega⟩
theorem Room.depth {k:Nat} {A:Around} (r:Room k A):A.depth < recursionLimit:=by have:=r.dp; omega
theorem Room.units {k:Nat} {A:Around} (r:Room k A):A.units + 64 < cLine:=by have:=r.un; omega
noncomputable def tNil:TA:=fun _ H Q=>Q [] H
noncomputable def wy (ta:TE) (tr:TA):TA:=fun σ H Q=>ta σ H fun x H1=>tr σ H1 fun xs H2=>Q (x :: xs) H2
section
variable {X:Cx} {e:Expr} {es:List Expr} {te:TE} {t:TA} {pos:Pos}
theorem fW:PA X [] tNil:=fun _ _ _ _ H Q I h=>Calls.spliced_nil ⟨[],H,I,.nil,h⟩
theorem ee (ha:PE X e te) (hr:PA X es t) (hs:starEach (e :: es) X.env=(false,eval e X.env) :: starEach es X.env:=by rfl):PA X (e :: es) (wy te t):=by
 intro pos pins s σ H Q I h
 rw [hs]
 show wpAny _ _ (spliced ((false,eval e X.env) :: backTo pos (starEach es X.env))) _ _ s
 refine Calls.spliced_cons (thn (ha pins s σ H _ I h) fun u s1 ⟨x,H1,I1,r1,q1⟩=>?_)
 exact thn (hr pos pins s1 σ H1 _ I1 q1) fun us s2 ⟨xs,H2,I2,r2,q2⟩=>⟨x :: xs,H2,I2,.cons r1 r2,q2⟩
noncomputable def tTup (t:TA):TE:=fun σ H Q=>t σ H fun xs H1=>xs.length<=sizeLine/\∀ p,H1 p=none->Q (.ref p) (upd H1 p (.tup xs))
noncomputable def tLst (t:TA):TE:=fun σ H Q=>t σ H fun xs H1=>xs.length<=sizeLine/\∀ p,H1 p=none->Q (.ref p) (upd H1 p (.lst xs))
theorem zm {x1} (h:PA X es t):PE X (.Tuple es x1 pos) (tTup t):=by
 intro pins s σ H Q I hq
 refine wpAny_Tuple_spliced (thn (h pos pins s σ H _ I hq) fun us s1 ⟨xs,H1,I1,r,z,q⟩=>⟨by rw [<-r.length]; exact z,?_⟩)
 have hf:H1 s1.heap.objs.size=none:=I1.hok.fresh (Qae _)
 refine ⟨.ref s1.heap.objs.size,upd H1 s1.heap.objs.size (.tup xs),I1.laid (t':=s1.toks) (fun b u e=>Qac _ e) (Qae _) ?_,rfl,q _ hf⟩
 exact ⟨z,us,r,⟨_,Heap.get?_push_size _ rfl,rfl,_,rfl⟩⟩
theorem oS (h:PA X es t):PE X (.List es pos) (tLst t):=by
 intro pins s σ H Q I hq
 refine wpAny_List_spliced (thn (h pos pins s σ H _ I hq) fun us s1 ⟨xs,H1,I1,r,z,q⟩=>⟨by rw [<-r.length]; exact z,?_⟩)
 have hf:H1 s1.heap.objs.size=none:=I1.hok.fresh (Qae _)
 refine ⟨.ref s1.heap.objs.size,upd H1 s1.heap.objs.size (.lst xs),I1.laid (t':=s1.toks) (fun b u e=>Qac _ e) (Qae _) ?_,rfl,q _ hf⟩
 exact ⟨z,us,0,r,Heap.get?_push_size _ rfl⟩
end
noncomputable abbrev Sp:=List V->Hp->VK->XK->Prop
noncomputable abbrev CXT:=List Env->Hp->Shared->XK->Value->Shared->Prop
structure Env0 (P:Program) (w:World) (K:PySem.W.Frag) (mg:Str->Option Value) (base:Heap) (A:Around) (outer:List Env) (s:Shared) (H:Hp):Prop where
 frames:A.frames=some outer
 mod:Mod K mg base
 bs:∀ b o,base.get? b=some o->s.heap.get? b=some o/\H b=none
 bsz:base.objs.size<=s.heap.objs.size
 funs:s.heap.FunFrames base outer
 frf:∀ b ∈ frs outer,H b=none
 hok:HOk P w H s.heap
 bare:AllBare s.gens
noncomputable def CE (outer:List Env) (P:Program) (w:World) (H:Hp) (s:Shared) (Q:VK) (u:Value) (s':Shared):Prop:=
 ∃ v H',s'.os=s.os/\AllBare s'.gens/\Un (frs outer) [] H H' s.heap s'.heap/\HOk P w H' s'.heap/\RelV v u/\Q v H'
noncomputable def CR (CX:CXT) (outer:List Env) (P:Program) (w:World) (H:Hp) (s:Shared) (Q:VK) (E:XK) (r:Result) (s':Shared):Prop:=
 match r with
 | .ok (.ret u)=>CE outer P w H s Q u s'
 | .ok _=>False
 | .error e=>CX outer H s E e s'
structure FnOk (P:Program) (w:World) (K:PySem.W.Frag) (mg:Str->Option Value) (base:Heap) (CX:CXT) (k:Nat) (f:Addr) (fd:FuncData) (ps:List Str) (sp:Sp):Prop where
 len:∀ vs H Q E,sp vs H Q E->vs.length=ps.length
 run:∀ (A:Around) (outer:List Env) (s:Shared) (H:Hp) (args:Args) (us:List Value) (vs:List V) (Q:VK) (E:XK),Room k A->Env0 P w K mg base A outer s H->BindsTo s fd args (ps.zip us)->Vals vs us->sp vs H Q E->
  codeAny (model P w) A (.call (.ref f) args) (CR CX outer P w H s Q E) s
theorem FnOk.imp {P:Program} {w:World} {K:PySem.W.Frag} {mg:Str->Option Value} {base:Heap} {CX:CXT} {k:Nat} {f:Addr} {fd:FuncData} {ps:List Str} {sp sp':Sp} (F:FnOk P w K mg base CX k f fd ps sp)
  (h:∀ vs H Q E,sp' vs H Q E->sp vs H Q E):FnOk P w K mg base CX k f fd ps sp':=
 ⟨fun vs H Q E q=>F.len vs H Q E (h _ _ _ _ q),fun A outer s H args us vs Q E hr he hb hv hs=>F.run A outer s H args us vs Q E hr he hb hv (h _ _ _ _ hs)⟩
section
variable {X:Cx} {pins:List (Addr × Obj)} {σ:St} {H:Hp} {s s':Shared}
theorem Inv.env0 (I:Inv X pins σ H s):Env0 X.prog X.w X.K X.mg X.base X.A X.stack s H:=
 ⟨I.ok.frames,I.ok.mod,I.bs,Nat.le_trans I.ok.bsz I.sz,I.stack,I.stkFree,I.hok,I.bare⟩
theorem Inv.after {Q:VK} {u:Value} (I:Inv X pins σ H s) (h:CE X.stack X.prog X.w H s Q u s'):EP X pins σ Q u s':=by
 obtain ⟨v,H',os,bare,un,hok,r,q⟩:=h
 obtain ⟨hh,g,d,t,os'⟩:=s'
 obtain rfl:os' = s.os:=os
 exact ⟨v,H',I.call (h':=hh) (g':=g) (d':=d) (t':=t) (ch:=[]) un hok bare (fun b z=>absurd z (by simp)),r,q⟩
end
noncomputable def Binds (K:PySem.W.Frag) (fd:FuncData) (ps:List Str) (ds:List Value):Prop:=
 ∀ (s:Shared) (us:List Value),K.In s.heap->(us ++ ds).length=ps.length->BindsTo s fd ⟨us,[]⟩ (ps.zip (us ++ ds))
theorem Binds.all {K:PySem.W.Frag} {fd:FuncData} {ps:List Str} (h:∀ us:List Value,us.length=ps.length->bindArgs fd ⟨us,[]⟩=pure (ps.zip us)):Binds K fd ps []:=fun s us _ hl=>by
 rw [List.append_nil] at hl ⊢
 exact .of_eq (h us hl)
noncomputable def PK (X:Cx) (kws:List Keyword) (t:TA):Prop:=
 ∀ (pos:Pos) (pins:List (Addr × Obj)) (s:Shared) (σ:St) (H:Hp) (Q:List V->Hp->Prop),Inv X pins σ H s->t σ H Q->wpAny (model X.prog X.w) X.A (evalAll ((backToKw pos (keywordEach kws X.env)).map (·.2))) (AP X pins σ Q) X.xe s
section
variable {X:Cx} {CX:CXT} {k:Nat} {f C:Addr} {fd:FuncData} {ps ks:List Str} {sp:Sp} {E:XK} {x m:Str} {p pos apos kpos:Pos} {e o:Expr} {es:List Expr} {kws:List Keyword} {te ta:TE} {t tk:TA} {nm:Option Str}
theorem zn:PK X [] tNil:=fun _ _ _ _ H Q I h=>wpAny_evalAll_nil ⟨[],H,I,.nil,h⟩
theorem xf (ha:PE X e te) (hr:PK X kws t):PK X (⟨nm,e,kpos⟩ :: kws) (wy te t):=by
 intro pos pins s σ H Q I h
 show wpAny _ _ (evalAll ((do let v <-eval e X.env; standAt pos; pure v) :: (backToKw pos (keywordEach kws X.env)).map (·.2))) _ _ s
 refine wpAny_evalAll_cons (Qaa (thn (ha pins s σ H _ I h) fun u s1 ⟨x,H1,I1,r1,q1⟩=>Qaa (wpAny_standAt (Qab ?_))))
 exact thn (hr pos pins s1 σ H1 _ I1 q1) fun us s2 ⟨xs,H2,I2,r2,q2⟩=>⟨x :: xs,H2,I2,.cons r1 r2,q2⟩
variable {g:List Value->List Value->List Value} {gV:List V->List V->List V}
end
structure FnScope (N P:List Str) (sc:Scope):Prop where
 kind:sc.kind=.function
 co:sc.isCoroutine=false
 gen:sc.isGenerator=false
 nd:N.Nodup
 pre:N.take P.length=P
 par:∀ x ∈ P,sc.names.lookup x=some .local\/sc.names.lookup x=some .cell
 nofree:∀ y ∈ sc.names,y.2 ≠ .free
theorem nz {kindOf:Str->Option NameKind} {x:Str}:∀ {binds:List (Str × Value)} {m:Str->Option Value},(∀ v,(x,v) ∉ binds)->bindL kindOf binds m x=m x
 | [],_,_=>rfl
 | (n,v) :: r,m,h=>by
  unfold bindL
  rw [nz fun w hw=>h w (Qak _ hw)]
  split
  ·have:x ≠ n:=by rintro rfl; exact h v List.mem_cons_self
   simp [this]
  ·rfl
theorem nA {kindOf:Str->Option NameKind} {x:Str}:∀ {binds:List (Str × Value)} {m:Str->Option Value},(∀ v,(x,v) ∉ binds)->bindC kindOf binds m x=m x
 | [],_,_=>rfl
 | (n,v) :: r,m,h=>by
  unfold bindC
  rw [nA fun w hw=>h w (Qak _ hw)]
  split
  ·rfl
  ·have:x ≠ n:=by rintro rfl; exact h v List.mem_cons_self
   simp [this]
theorem nB {kindOf:Str->Option NameKind} {x:Str} {v:Value}:∀ {P:List Str} {vs:List Value} {i:Nat} {m:Str->Option Value},P.Nodup->P[i]? = some x->vs[i]? = some v->kindOf x=some .local->
  bindL kindOf (P.zip vs) m x=some v
 | [],_,_,_,_,h,_,_=>by simp at h
 | _ :: _,[],_,_,_,_,h,_=>by simp at h
 | p :: P,w :: vs,0,m,nd,h1,h2,hk=>by
  simp at h1 h2; subst h1; subst h2
  show bindL kindOf ((p,w) :: P.zip vs) m p=_
  unfold bindL
  rw [nz fun v hv=>(List.nodup_cons.mp nd).1 (List.of_mem_zip hv).1,if_pos hk]
  simp
 | p :: P,w :: vs,i + 1,m,nd,h1,h2,hk=>by
  show bindL kindOf ((p,w) :: P.zip vs) m x=_
  unfold bindL
  exact nB (i:=i) (List.nodup_cons.mp nd).2 (by simpa using h1) (by simpa using h2) hk
theorem nC {kindOf:Str->Option NameKind} {x:Str} {v:Value}:∀ {P:List Str} {vs:List Value} {i:Nat} {m:Str->Option Value},P.Nodup->P[i]? = some x->vs[i]? = some v->kindOf x ≠ some .local->
  bindC kindOf (P.zip vs) m x=some v
 | [],_,_,_,_,h,_,_=>by simp at h
 | _ :: _,[],_,_,_,_,h,_=>by simp at h
 | p :: P,w :: vs,0,m,nd,h1,h2,hk=>by
  simp at h1 h2; subst h1; subst h2
  show bindC kindOf ((p,w) :: P.zip vs) m p=_
  unfold bindC
  rw [nA fun v hv=>(List.nodup_cons.mp nd).1 (List.of_mem_zip hv).1,if_neg hk]
  simp
 | p :: P,w :: vs,i + 1,m,nd,h1,h2,hk=>by
  show bindC kindOf ((p,w) :: P.zip vs) m x=_
  unfold bindC
  exact nC (i:=i) (List.nodup_cons.mp nd).2 (by simpa using h1) (by simpa using h2) hk
noncomputable def start (N:List Str) (vs:List V):St:=vs.map some ++ List.replicate (N.length - vs.length) none
noncomputable def cxOf (CX:CXT) (P:Program) (w:World) (K:PySem.W.Frag) (mg:Str->Option Value) (base:Heap) (N:List Str) (qual:Str) (scope:Scope) (f:Addr) (cd:Value) (A:Around) (outer:List Env) (s:Shared) (H:Hp) (E:XK):Cx where
 prog:=P
 w:=w
 K:=K
 mg:=mg
 base:=base
 A:=A.deeper (envOfC qual scope s.heap.objs.size f cd)
 N:=N
 s₀:=s
 H₀:=H
 env:=envOfC qual scope s.heap.objs.size f cd
 outer:=outer
 stack:=envOfC qual scope s.heap.objs.size f cd :: outer
 ex:=[]
 calm:=true
 fn:=fun _=>true
 pn:=[]
 xe:=fun e s'=>wpAny (model P w) (A.deeper (envOfC qual scope s.heap.objs.size f cd)) (leaving (envOfC qual scope s.heap.objs.size f cd) e) (fun _ s''=>CX outer H s E e s'') (fun e' s''=>CX outer H s E e' s'') s'
theorem oU {sc:Scope} {n:Nat} {x:Str} (h:sc.names.lookup x=some .cell):∃ c,(cellsFrom n sc.names []).lookup x=some c:=by
 have q:=PySem.W.cellsFrom_some sc.names n [] (.inl h)
 exact Option.isSome_iff_exists.mp q
theorem tK {CX:CXT} {P:Program} {w:World} {K:PySem.W.Frag} {mg:Str->Option Value} {base:Heap} {N ps:List Str} {qual:Str} {scope:Scope} {f:Addr} {cd:Value} {A:Around} {outer:List Env} {s s1:Shared} {H:Hp} {E:XK} {us:List Value} {vs:List V}
  (S:FnScope N ps scope) (hd:A.handled=none) (e0:Env0 P w K mg base A outer s H) (hl:vs.length=ps.length) (r:Vals vs us)
  (x:InCallC s s.heap.objs.size (bindL (envOfC qual scope s.heap.objs.size f cd).kindOf (ps.zip us) fun _=>none) (cellsFrom (s.heap.objs.size + 1) scope.names []) (bindC (envOfC qual scope s.heap.objs.size f cd).kindOf (ps.zip us) fun _=>none) s1) :
  Inv (cxOf CX P w K mg base N qual scope f cd A outer s H E) [] (start N vs) H s1:=by
 have hpl:ps.length<=N.length:=by have:=congrArg List.length S.pre; rw [List.length_take] at this; omega
 obtain ⟨h1,tk,rfl,hk⟩:=x.done
 have noA:∀ b:Addr,b ∉ (cxOf CX P w K mg base N qual scope f cd A outer s H E).ex:=fun b z=>absurd (show b ∈ ([]:List Addr) from z) (by simp)
 refine ⟨⟨e0.mod,S.kind,rfl,rfl,Qae _,fun y z c h1 h2=>?_,fun y hy=>?_,fun y c _ h=>?_,fun _=>hd,Around.frames_deeper e0.frames,.inr ⟨rfl,rfl⟩,fun b z=>absurd z (noA b),e0.bs,e0.bsz,fun b _ _=>noA b,fun b z=>absurd z (noA b),e0.funs,e0.frf⟩,
  rfl,e0.bare,Un.kept hk,⟨_,x.toInCall.ns,fun i y v h1 h2 h3=>?_⟩,fun y c h=>⟨_,x.cell y c h⟩,e0.hok.fresh (Qae _),fun y c h=>?_,fun p hp=>absurd (show p ∈ ([]:List (Addr × Obj)) from hp) (by simp),e0.hok.kept hk,?_⟩
 ·exact name_of_addr x.apart (PySem.mem_of_lookup h1) (PySem.mem_of_lookup h2)
 ·have hy:scope.names.lookup y=some .cell\/scope.names.lookup y=some .free:=hy
  rcases hy with hy | hy
  ·exact oU hy
  ·exact absurd rfl (S.nofree _ (PySem.mem_of_lookup hy))
 ·exact Nat.le_of_lt (x.above y c (PySem.mem_of_lookup h))
 ·have hi:i < vs.length:=by
   unfold start at h2
   by_cases hi:i < vs.length
   ·exact hi
   ·rw [List.getElem?_append_right (by simpa using hi)] at h2
    rw [List.getElem?_replicate] at h2
    split at h2 <;> cases h2
  have ha:vs[i]? = some v:=by
   unfold start at h2
   rw [List.getElem?_append_left (by simpa using hi),List.getElem?_map] at h2
   cases e:vs[i]? with
   | none=>rw [e] at h2; cases h2
   | some a=>rw [e] at h2; cases h2; rfl
  obtain ⟨u,hu,rv⟩:=r.get ha
  have hp:ps[i]? = some y:=by
   rw [<-S.pre,List.getElem?_take_of_lt (by omega)]; exact h1
  have ndP:ps.Nodup:=by rw [<-S.pre]; exact S.nd.sublist (List.take_sublist _ _)
  refine ⟨u,rv,?_⟩
  rcases S.par y (List.mem_of_getElem? hp) with k | k
  ·exact .inl ⟨k,nB ndP hp hu k⟩
  ·obtain ⟨c,e⟩:=oU (n:=s.heap.objs.size + 1) k
   refine .inr ⟨.inl k,c,e,?_⟩
   have q:=x.cell y c e
   rw [nC ndP hp hu (by show scope.names.lookup y ≠ _; rw [k]; decide)] at q
   exact q
 ·exact e0.hok.fresh (Nat.le_of_lt (x.above y c (PySem.mem_of_lookup h)))
 ·unfold start
  show _=N.length
  rw [List.length_append,List.length_map,List.length_replicate]
  omega
theorem Bc {CX:CXT} {P:Program} {w:World} {K:PySem.W.Frag} {mg:Str->Option Value} {base:Heap} {k:Nat} {f:Addr} {name qual:Str} {params:Arguments} {body:List Stmt} {scope:Scope} {dV kV doc pm cdv ct oc:Value} {an od:Option Addr}
  {osl:Array (Option Value)} {N ps:List Str} {sp:Sp} (lk:K.lookup f=some ⟨oc,od,.func (PySem.W.fnOf name qual params body scope dV kV doc pm an cdv ct),osl⟩) (hcd:PySem.W.codeIn K cdv qual=true) (S:FnScope N ps scope)
  (len:∀ vs H Q E,sp vs H Q E->vs.length=ps.length)
  (hbody:∀ (A:Around) (outer:List Env) (s:Shared) (H:Hp) (vs:List V) (Q:VK) (E:XK),Room k (A.deeper (envOfC qual scope s.heap.objs.size f cdv))->sp vs H Q E->
   ∃ t,PSs (cxOf CX P w K mg base N qual scope f cdv A outer s H E) body t/\t { nx:=fun _ H'=>Q .non H',rt:=Q } (start N vs) H) :
  FnOk P w K mg base CX (k + 1) f (PySem.W.fnOf name qual params body scope dV kV doc pm an cdv ct) ps sp:=by
 refine ⟨len,fun A outer s H args us vs Q E hr e0 hb r hsp=>?_⟩
 have hl:=len _ _ _ _ hsp
 have KX:K.In s.heap:=e0.mod.kin.keeps fun b o e=>(e0.bs b o e).1
 have lim:s.heap.NoLimit:=e0.mod.nolimit.keeps fun b o e=>(e0.bs b o e).1
 have hkind:∀ y ∈ ps.zip us,scope.names.lookup y.1=some .local\/(scope.names.lookup y.1=some .cell/\((cellsFrom (s.heap.objs.size + 1) scope.names []).lookup y.1).isSome=true):=fun ⟨n,v⟩ hy=>by
  rcases S.par n (List.of_mem_zip hy).1 with q | q
  ·exact .inl q
  ·exact .inr ⟨q,PySem.W.cellsFrom_some _ _ _ (.inl q)⟩
 refine codeAny_call_function hr.depth (KX _ _ lk) rfl S.co S.gen rfl (PySem.W.codeRec_of KX hcd) (hb _ _ _ _ ?_)
 refine wpAny_newFunctionEnv_cells S.kind hkind fun env he s1 x=>?_
 subst he
 refine ⟨lim.keeps x.toInCall.keep,codeAny_func ?_⟩
 obtain ⟨t,ht,hq⟩:=hbody A outer s H vs Q E (hr.deeper _) hsp
 have I:Inv (cxOf CX P w K mg base N qual scope f cdv A outer s H E) [] (start N vs) H s1:=tK S hr.hd e0 hl r x
 refine wpAny_mono (ht [] s1 (start N vs) H _ I hq) (fun fl s' hs=>?_) fun e s' hs=>hs
 have fin:∀ {σ':St} {H':Hp} {v:V} {u:Value},Inv (cxOf CX P w K mg base N qual scope f cdv A outer s H E) [] σ' H' s'->RelV v u->Q v H'->CE outer P w H s Q u s':=
  fun {σ' H' v u} J rv q=>⟨v,H',J.os,J.bare,J.base,J.hok,rv,q⟩
 cases fl with
 | ret u=>
  obtain ⟨v,σ',H',J,rv,q⟩:=hs
  exact fin J rv q
 | next=>
  obtain ⟨σ',H',J,q⟩:=hs
  exact fin (v:=V.non) (u:=Value.none) J rfl q
 | brk=>
  obtain ⟨_,_,_,q⟩:=hs
  exact False.elim q
 | cont=>
  obtain ⟨_,_,_,q⟩:=hs
  exact False.elim q
section
variable {X:Cx} {x:Str} {p pos:Pos} {e:Expr} {es:List Expr} {t:TA} {id T:String} {r:List V->Hp->VK->Prop}
noncomputable def tCB (r:List V->Hp->VK->Prop) (t:TA):TE:=fun σ H Q=>t σ H fun vs H1=>r vs H1 Q
theorem jn (hc:iQ X (.builtin id) r) (hg:Gl X x) (hm:X.mg x=none) (hv:bootBuiltins x=some (.builtin id)) (ha:PA X (e :: es) t) (hn:x ≠ "__name__":=by decide) (hdb:(x == ("__debug__":Str))=false:=by decide)
  (he:starEach (e :: es) X.env=(false,eval e X.env) :: starEach es X.env:=by rfl) (hpl:(backTo pos (starEach es X.env)).any (·.1)=false:=by rfl):PE X (.Call (.Name x p) (e :: es) [] pos) (tCB r t):=by
 intro pins s σ H Q I h
 refine wpAny_Call_Name_kw (eG I hg hm hv ?_ hn hdb)
 exact PyProof.Rows.callWith_builtin1 (thn (ha pos pins s σ H _ I h) fun us s1 ⟨vs,H1,I1,r1,q1⟩=>hc pins s1 σ H1 vs us Q I1 r1 q1) he hpl
end
end L2
namespace HT
open PySem PyProof.Rows
noncomputable def lexLt:List Int->List Int->Bool
 | [],[]=>false
 | [],_ :: _=>true
 | _ :: _,[]=>false
 | x :: xs,y :: ys=>if x=y then lexLt xs ys else decide (x < y)
theorem lexLt_cons (x y:Int) (xs ys:List Int):lexLt (x :: xs) (y :: ys)=if x=y then lexLt xs ys else decide (x < y):=rfl
theorem lexLt_nil_nil:lexLt [] []=false:=rfl
theorem mD (y:Int) (ys:List Int):lexLt [] (y :: ys)=true:=rfl
theorem mE (x:Int) (xs:List Int):lexLt (x :: xs) []=false:=rfl
theorem va (A:Around) (s:Shared) (a:Int) (t:Tok) (c:Int) (u:Tok):∃ e,SeqAt.EqAt A s (.int a t) (.int c u) e/\(e=true ↔ a=c):=
 ⟨(a == c),SeqAt.EqAt.int_int a t c u,by simp⟩
theorem vc (A:Around) (s:Shared) (a:Int) (t:Tok) (c:Int) (u:Tok) (prog:Program) (w:World) (E:Value->Shared->Prop) (Q:Value->Shared->Prop) (h:Q (.bool (decide (a < c))) s) :
  wpAny (model prog w) A (richCompare .Lt (.int a t) (.int c u)) Q E s:=
 (PyProof.Rows.lt_int h:wpAny (model prog w) A (compareOp .Lt (.int a t) (.int c u)) Q E s)
section
open PySem.SeqAt
open PySem.AutoSeq1 (wpAny_loadPart')
open PySem.MeetsSeq PySem.MeetsSeq2 PySem.MeetsSeq3
theorem oi (l b:Addr) (items items2:Array Value) (n n2:Nat) (dd dd2:Option Addr) (sl sl2:Array (Option Value)) (ns ms:List Int) (hi:IntsAre items.toList ns) (hj:IntsAre items2.toList ms) :
  Meets (Builtin.«tuple.__lt__» ⟨[.ref l,.ref b],[]⟩)
   (fun _ R s=>s.heap.get? l=some { cls:=.type "tuple",dict:=dd,data:=.seq items n,slots:=sl }/\s.heap.get? b=some { cls:=.type "tuple",dict:=dd2,data:=.seq items2 n2,slots:=sl2 }/\
    R (.ok (.ret (.bool (lexLt ns ms)))) s):=
 .of_wp fun prog w A R s h=>by
  obtain ⟨hp,g,d,tk,os⟩:=s; obtain ⟨hl,hb,h⟩:=h
  have f2:=AutoSeq1.sub_tuple_tuple
  have z1:items.size=ns.length:=by rw [<-hi.length]; simp
  have z2:items2.size=ms.length:=by rw [<-hj.length]; simp
  wp_walk using wpAny_loadPart' hl,wpAny_loadPart' hb,wpAny_forIn_list _ (fun rest b s'=>b.1=none/\s' = ⟨hp,g,d,tk,os⟩/\∃ (vs ws:List Value) (ns' ms':List Int),rest=vs.zip ws/\
   IntsAre vs ns'/\IntsAre ws ms'/\ns'.length + items2.size=ms'.length + items.size/\R (.ok (.ret (.bool (lexLt ns' ms')))) ⟨hp,g,d,tk,os⟩) _
  case turn=>
   rintro ⟨y,x⟩ rest b s' ⟨hb',rfl,vs,ws,ns',ms',hz,hvi,hwi,hlen,hR⟩
   cases hvi with
   | nil=>rw [List.zip_nil_left] at hz; cases hz
   | cons a t hvi'=>
    cases hwi with
    | nil=>rw [List.zip_nil_right] at hz; cases hz
    | cons c u hwi'=>
     rw [List.zip_cons_cons] at hz
     injection hz with hyx hrest
     injection hyx with hy hx
     subst hy hx
     rw [lexLt_cons] at hR
     simp only [List.length_cons] at hlen
     obtain ⟨e,he,hiff⟩:=va A.in1 ⟨hp,g,d,tk,os⟩ a t c u
     refine Qaa (he prog w _ _ ?_)
     cases e with
     | true=>
      rw [if_pos (hiff.mp rfl)] at hR
      wp_walk
      exact ⟨rfl,rfl,_,_,_,_,hrest,hvi',hwi',by omega,hR⟩
     | false=>
      rw [if_neg (fun q=>absurd (hiff.mpr q) Bool.false_ne_true)] at hR
      have hri:=vc A.in1 ⟨hp,g,d,tk,os⟩ a t c u prog w
      wp_walk using hri
      exact ⟨_,rfl,by simpa using hR⟩
  case fin=>
   rintro ⟨b1,b2⟩ s' ⟨hb',rfl,vs,ws,ns',ms',hz,hvi,hwi,hlen,hR⟩
   simp only at hb'
   subst hb'
   have hv:lexLt ns' ms' = decide (items.size < items2.size):=by
    cases hvi with
    | nil=>
     cases hwi with
     | nil=>
      simp only [List.length_nil] at hlen
      rw [lexLt_nil_nil]
      exact (decide_eq_false (by omega)).symm
     | cons c u hw=>
      simp only [List.length_nil,List.length_cons] at hlen
      rw [mD]
      exact (decide_eq_true (by omega)).symm
    | cons a t hv=>
     cases hwi with
     | nil=>
      simp only [List.length_nil,List.length_cons] at hlen
      rw [mE]
      exact (decide_eq_false (by omega)).symm
     | cons c u hw=>
      rw [List.zip_cons_cons] at hz
      cases hz
   rw [hv] at hR
   wp_walk
   exact ⟨_,rfl,by simpa [Builtin.Tuple.tupleCompareSizes] using hR⟩
  case h=>
   exact ⟨rfl,rfl,items.toList,items2.toList,ns,ms,rfl,hi,hj,by omega,h⟩
end
section
variable {prog:Program} {w:World} {A:Around} {E:Value->Shared->Prop} {s:Shared}
theorem lt_tupInts {l b:Addr} {items items2:Array Value} {ns ms:List Int} {Q:Value->Shared->Prop} (hl:IsTup s.heap l items) (hb:IsTup s.heap b items2) (hi:IntsAre items.toList ns) (hj:IntsAre items2.toList ms)
  (hu:A.units < cLine) (h:Q (.bool (lexLt ns ms)) s):wpAny (model prog w) A (compareOp .Lt (.ref l) (.ref b)) Q E s:=by
 obtain ⟨⟨cls,dd,data,sl⟩,ho,hc,n,hd⟩:=id hl
 obtain ⟨⟨cls2,dd2,data2,sl2⟩,ho2,hc2,n2,hd2⟩:=id hb
 simp only at hc hd hc2 hd2
 subst hc hd hc2 hd2
 exact richCompare_meets_room (op:=.Lt) ⟨_,ho,rfl⟩ ⟨_,ho2,rfl⟩ PySem.F.slot_tuple_lt PySem.F.entry_tuple_lt (PySem.F.args_tuple_lt_2 _ _) (oi l b items items2 n n2 dd dd2 sl sl2 ns ms hi hj)
  ⟨ho,ho2,show Value.bool (lexLt ns ms) ≠ Value.notImplemented/\Q (.bool (lexLt ns ms)) s from ⟨(fun x=>nomatch x),h⟩⟩ hu
theorem cat_tup {t b:Addr} {vs ws:List Value} {Q:Value->Shared->Prop} (ht:IsTup s.heap t vs.toArray) (hb:IsTup s.heap b ws.toArray) (hv:vs ≠ [])
  (h1:ws=[]->Q (.ref t) s) (h2:ws ≠ []->Q (.ref s.heap.objs.size) { s with heap:=s.heap.push { cls:=.type "tuple",data:=.seq (vs ++ ws).toArray } })
  (hsz:vs.length + ws.length<=sizeLine):wpAny (model prog w) A (binaryOp .Add (.ref t) (.ref b)) Q E s:=by
 obtain ⟨⟨cls,dd,data,sl⟩,ho,hc,n,hd⟩:=id ht
 obtain ⟨⟨cls2,dd2,data2,sl2⟩,ho2,hc2,n2,hd2⟩:=id hb
 simp only at hc hd hc2 hd2
 subst hc hd hc2 hd2
 have e:vs.toArray ++ ws.toArray=(vs ++ ws).toArray:=by simp
 by_cases hw:ws=[]
 ·exact concat_meets ⟨_,ho,rfl⟩ ⟨_,ho2,rfl⟩ noFill_tuple_add seq_tuple_add PySem.F.slot_tuple_add PySem.F.entry_tuple_add (PySem.F.args_tuple_add_2 _ _)
   (tuple_addW1 t b vs.toArray ws.toArray n n2 dd dd2 sl sl2 (by simpa using hv) (by simp [hw])) ⟨ho,ho2,h1 hw⟩
 ·refine concat_meets ⟨_,ho,rfl⟩ ⟨_,ho2,rfl⟩ noFill_tuple_add seq_tuple_add PySem.F.slot_tuple_add PySem.F.entry_tuple_add (PySem.F.args_tuple_add_2 _ _)
   (tuple_addW2 t b vs.toArray ws.toArray n n2 dd dd2 sl sl2 (by simpa using hv) (by simpa using hw) (by rw [List.size_toArray,List.size_toArray]; exact hsz)) ⟨ho,ho2,?_⟩
  rw [e]
  exact h2 hw
noncomputable def sIx (n d:Nat):Option Int->Nat
 | none=>d
 | some v=>if v < 0 then (v + (n:Int)).toNat else min v.toNat n
theorem sIx_none (n d:Nat):sIx n d none=d:=rfl
theorem sIx_nat (n d k:Nat):sIx n d (some (k:Int))=min k n:=by
 show (if (k:Int) < 0 then ((k:Int) + (n:Int)).toNat else min (k:Int).toNat n)=min k n
 rw [if_neg (by omega),Int.toNat_natCast]
theorem zp (n d:Nat) (hd:d<=n) (o:Option Int):sIx n d o<=n:=by
 cases o with
 | none=>exact hd
 | some v=>
  show (if v < 0 then (v + (n:Int)).toNat else min v.toNat n)<=n
  by_cases hv:v < 0
  ·rw [if_pos hv]; omega
  ·rw [if_neg hv]; exact Nat.min_le_right _ _
theorem qK (v:Int) (n d:Nat):(if v < 0 then max (v + (n:Int)) 0 else min v (n:Int))=((sIx n d (some v):Nat):Int):=by
 show (if v < 0 then max (v + (n:Int)) 0 else min v (n:Int))=(((if v < 0 then (v + (n:Int)).toNat else min v.toNat n):Nat):Int)
 by_cases hv:v < 0
 ·simp only [if_pos hv]; omega
 ·simp only [if_neg hv]; omega
theorem rQ (lo hi:Option Int) (n:Nat):Builtin.Slice.sliceAdjust lo hi 1 (n:Int)=(((sIx n 0 lo:Nat):Int),((sIx n n hi:Nat):Int)):=by
 have h1:¬ ((1:Int) < 0):=by omega
 unfold Builtin.Slice.sliceAdjust
 simp only [h1,if_false]
 refine Prod.ext ?_ ?_
 ·cases lo with
  | none=>rfl
  | some v=>exact qK v n 0
 ·cases hi with
  | none=>rfl
  | some v=>exact qK v n n
theorem rR (i j:Nat):Builtin.Slice.slicePlaces (i:Int) (j:Int) 1=j - i:=by
 unfold Builtin.Slice.slicePlaces
 have h1:(1:Int) > 0:=by omega
 simp only [h1,if_true,Int.ediv_one]
 split <;> omega
theorem lE {v:Value} {o:Option Int} {Q:Option Int->Shared->Prop} (p:IsPart v o) (h:Q o s):wpAny (model prog w) A (Builtin.Slice.slicePartIndex v) Q E s:=by
 cases p with
 | none=>exact slicePart_none h
 | int i t=>exact slicePart_int h
theorem iq {sl:Addr} {vl vu:Value} {lo hi:Option Int} {n:Nat} {Q:Int × Int × Nat->Shared->Prop} (hs:s.heap.IsSliceOf sl vl vu .none) (pl:IsPart vl lo) (pu:IsPart vu hi)
  (h:Q (((sIx n 0 lo:Nat):Int),1,sIx n n hi - sIx n 0 lo) s):wpAny (model prog w) A (Builtin.Slice.sliceApplied (.ref sl) (pure (n:Int))) Q E s:=by
 obtain ⟨os,hos,hcs,hds⟩:=id hs
 unfold Builtin.Slice.sliceApplied Builtin.Slice.sliceFields
 refine Qaa (Qaa (wpAny_field hos hds (x:=vl) rfl (Qaa (wpAny_field hos hds (x:=vu) rfl (Qaa (wpAny_field hos hds (x:=.none) rfl (Qab ?_)))))))
 refine Qaa (slicePart_none ?_)
 show wpAny _ _ (if ((1:Int) == 0)=true then _ else _) _ _ s
 rw [if_neg (by decide)]
 refine Qaa (lE pl (Qaa (lE pu (Qaa (Qab ?_)))))
 show wpAny _ _ (match Builtin.Slice.sliceAdjust lo hi 1 (n:Int) with | (lo,hi)=>pure (lo,(1:Int),Builtin.Slice.slicePlaces lo hi 1)) _ _ s
 rw [rQ lo hi n]
 show wpAny _ _ (pure (((sIx n 0 lo:Nat):Int),(1:Int),Builtin.Slice.slicePlaces ((sIx n 0 lo:Nat):Int) ((sIx n n hi:Nat):Int) 1)) _ _ s
 rw [rR]
 exact Qab h
theorem vd (xs:Array Value) (i k:Nat):((List.range k).filterMap fun (m:Nat)=>xs[((i:Int) + (m:Int) * 1).toNat]?).toArray=((xs.toList.drop i).take k).toArray:=by
 have e:(fun (m:Nat)=>xs[((i:Int) + (m:Int) * 1).toNat]?)=fun m=>xs[i + m]?:=by
  funext m
  have:((i:Int) + (m:Int) * 1).toNat=i + m:=by omega
  rw [this]
 rw [e]
 have:=pick_run xs i k
 rw [List.filterMap_map] at this
 have e2:((fun x=>xs[x]?) ∘ fun x=>i + x)=fun m=>xs[i + m]?:=rfl
 rw [e2] at this
 rw [this]
theorem getItem_tuple_cut {t sl:Addr} {items:Array Value} {vl vu:Value} {lo hi:Option Int} {Q:Value->Shared->Prop} (ht:IsTup s.heap t items) (hs:s.heap.IsSliceOf sl vl vu .none) (pl:IsPart vl lo) (pu:IsPart vu hi)
  (hw:¬ (sIx items.size 0 lo=0/\sIx items.size items.size hi=items.size))
  (h:Q (.ref s.heap.objs.size) { s with heap:=s.heap.push { cls:=.type "tuple",data:=.seq ((items.toList.drop (sIx items.size 0 lo)).take (sIx items.size items.size hi - sIx items.size 0 lo)).toArray } })
  (hsz:items.size<=sizeLine):wpAny (model prog w) A (getItem (.ref t) (.ref sl)) Q E s:=by
 have htake:sizeOk (.seq ((items.toList.drop (sIx items.size 0 lo)).take (sIx items.size items.size hi - sIx items.size 0 lo)).toArray):=by
  show ((items.toList.drop (sIx items.size 0 lo)).take (sIx items.size items.size hi - sIx items.size 0 lo)).toArray.size<=sizeLine
  rw [List.size_toArray,List.length_take,List.length_drop,Array.length_toList]
  omega
 have hj:sIx items.size items.size hi<=items.size:=zp _ _ (Qae _) hi
 obtain ⟨os,hos,hcs,hds⟩:=id hs
 have hTs:s.TypeIs (.ref sl) "slice":=⟨os,hos,hcs⟩
 unfold getItem
 try with_reducible refine wpAny_holding ?_
 first | refine Qaa (Qab ?_) | skip
 refine Qaa (wpAny_sequenceKey ht.typeIs (by decide) ?_)
 refine Qaa (wpAny_callSpecial?_slot (name:=Str.ofString "__getitem__") ht.typeIs PyProof.Rows.slot_tuple_getitem
  (wpAny_call_entry PyProof.Rows.slot_tuple_getitem ht.typeIs entry_tuple_getitem ?_ (args_tuple_getitem _ _)))
 show wpAny _ _ (Builtin.Tuple.tupleItemsOf (.ref t) >>= _) _ _ s
 refine Qaa (tupleItemsOf_ ht ?_)
 refine Qaa (wpAny_typeOf hTs ?_)
 rw [if_pos (by decide)]
 refine Qaa (iq hs pl pu ?_)
 have hno:¬ ((((sIx items.size 0 lo:Nat):Int) == 0 && (1:Int) == 1 && (sIx items.size items.size hi - sIx items.size 0 lo) == items.size)=true):=by
  intro q
  rw [Bool.and_eq_true,Bool.and_eq_true] at q
  have q1:((sIx items.size 0 lo:Nat):Int)=0:=eq_of_beq q.1.1
  have q2:sIx items.size items.size hi - sIx items.size 0 lo=items.size:=eq_of_beq q.2
  exact hw ⟨by omega,by omega⟩
 show wpAny _ _ (if (((sIx items.size 0 lo:Nat):Int) == 0 && (1:Int) == 1 && (sIx items.size items.size hi - sIx items.size 0 lo) == items.size)=true then _ else _) _ _ s
 rw [if_neg hno,vd]
 first
  | exact Qaa (m:=Builtin.Tuple.tupleExact _) (wpAny_newObj_type (Qab ⟨_,rfl,Qab h⟩) htake)
  | exact Qaa (m:=Builtin.Tuple.tupleExact _) (wpAny_newObj_type (Qaa (Qab (Qab ⟨_,rfl,Qab h⟩))) htake)
  | exact Qaa (Qaa (m:=Builtin.Tuple.tupleExact _) (wpAny_newObj_type (Qab (Qab ⟨_,rfl,Qab h⟩)) htake))
  | exact Qaa (Qaa (m:=Builtin.Tuple.tupleExact _) (wpAny_newObj_type (Qab ⟨_,rfl,Qab h⟩) htake))
end
end HT
namespace L2
open PySem PySem.Spec PyProof.Rows
noncomputable abbrev TO:=St->Hp->(Option Int->Hp->Prop)->Prop
noncomputable def PO (X:Cx) (e:Option Expr) (t:TO):Prop:=
 ∀ (pins:List (Addr × Obj)) (s:Shared) (σ:St) (H:Hp) (Q:Option Int->Hp->Prop),Inv X pins σ H s->t σ H Q->
  wpAny (model X.prog X.w) X.A (evalPart e X.env) (fun u s'=>∃ o H',Inv X pins σ H' s'/\IsPart u o/\Q o H') X.xe s
noncomputable def xg:TO:=fun _ H Q=>Q none H
noncomputable def Bd (t:TE):TO:=fun σ H Q=>t σ H fun x H1=>∃ i,x=.int i/\Q (some i) H1
section
variable {X:Cx} {e:Expr} {te:TE} {lo hi:Option Expr} {tl th:TO} {pos p2:Pos}
theorem qL:PO X none xg:=by
 intro pins s σ H Q I h
 rw [evalPart_none]
 exact Qab ⟨none,H,I,.none,h⟩
theorem qM (h:PE X e te):PO X (some e) (Bd te):=by
 intro pins s σ H Q I hw
 rw [evalPart_some]
 refine thn (h pins s σ H _ I hw) fun u s1 ⟨x,H1,I1,r1,q1⟩=>?_
 obtain ⟨i,rfl,q⟩:=q1
 obtain ⟨t,rfl⟩:=r1
 exact ⟨some i,H1,I1,.int i t,q⟩
noncomputable def SlR (X:Cx) (r:V->Option Int->Option Int->Hp->VK->Prop):Prop:=
 ∀ (pins:List (Addr × Obj)) (s:Shared) (σ:St) (H:Hp) (x:V) (v vl vu:Value) (lo hi:Option Int) (sl:Addr) (Q:VK),Inv X pins σ H s->RelV x v->s.heap.IsSliceOf sl vl vu .none->IsPart vl lo->IsPart vu hi->r x lo hi H Q->
  ∃ T id,typeLookup (.type T) "__getitem__" = pure (some (.builtin id))/\s.TypeIs v T/\wpAny (model X.prog X.w) X.A (getItem v (.ref sl)) (EP X pins σ Q) X.xe s
theorem SlR.or {r r':V->Option Int->Option Int->Hp->VK->Prop} (h:SlR X r) (h':SlR X r'):SlR X (fun x lo hi H Q=>r x lo hi H Q\/r' x lo hi H Q):=by
 intro pins s σ H x v vl vu lo hi sl Q I rx hs pl pu q
 rcases q with q | q
 ·exact h pins s σ H x v vl vu lo hi sl Q I rx hs pl pu q
 ·exact h' pins s σ H x v vl vu lo hi sl Q I rx hs pl pu q
noncomputable def tSl (r:V->Option Int->Option Int->Hp->VK->Prop) (te:TE) (tl th:TO):TE:=fun σ H Q=>te σ H fun x H1=>tl σ H1 fun l H2=>th σ H2 fun u H3=>r x l u H3 Q
theorem oV {r:V->Option Int->Option Int->Hp->VK->Prop} (hr:SlR X r) (he:PE X e te) (hl:PO X lo tl) (hu:PO X hi th):PE X (.Subscript e (.Slice lo hi none p2) pos) (tSl r te tl th):=by
 intro pins s σ H Q I h
 refine Subscript_ (thn (he pins s σ H _ I h) fun v s1 ⟨x,H1,I1,r1,q1⟩=>?_)
 refine wpAny_Slice (thn (hl pins s1 σ H1 _ I1 q1) fun vl s2 ⟨l,H2,I2,pl,q2⟩=>thn (hu pins s2 σ H2 _ I2 q2) fun vu s3 ⟨u,H3,I3,pu,q3⟩=>?_)
 rw [evalPart_none]
 refine Qab ?_
 have I4:Inv X pins σ H3 { s3 with heap:=s3.heap.push { cls:=.type "slice",data:=.fields #[vl,vu,.none] } }:=I3.kept (t':=s3.toks) fun b ob q=>Qac _ q
 obtain ⟨T,id,hT,ht,hg⟩:=hr pins { s3 with heap:=s3.heap.push { cls:=.type "slice",data:=.fields #[vl,vu,.none] } } σ H3 x v vl vu l u s3.heap.objs.size Q I4 r1 (Heap.IsSliceOf.new ..) pl pu q3
 show wpAny (model X.prog X.w) X.A (subscriptTail e (.Slice lo hi none p2) v (.ref s3.heap.objs.size)) (EP X pins σ Q) X.xe { s3 with heap:=s3.heap.push { cls:=.type "slice",data:=.fields #[vl,vu,.none] } }
 exact tail_any (ops:=[.ref s3.heap.objs.size,v]) ht hT hg (by with_unfolding_all rfl)
noncomputable def cutV (xs:List V) (lo hi:Option Int):List V:=(xs.drop (HT.sIx xs.length 0 lo)).take (HT.sIx xs.length xs.length hi - HT.sIx xs.length 0 lo)
theorem kG (xs:List V) (lo hi:Option Int):(cutV xs lo hi).length<=xs.length:=by
 unfold cutV
 rw [List.length_take,List.length_drop]
 omega
noncomputable def rSlT (K:PySem.W.Frag):V->Option Int->Option Int->Hp->VK->Prop:=fun x lo hi H Q=>∃ a xs,x=.ref a/\SqT K H a xs/\
 ¬ (HT.sIx xs.length 0 lo=0/\HT.sIx xs.length xs.length hi=xs.length)/\∀ p,H p=none->Q (.ref p) (upd H p (.tup (cutV xs lo hi)))
theorem zq:SlR X (rSlT X.K):=by
 intro pins s σ H x v vl vu lo hi sl Q I rx hs pl pu h
 obtain ⟨a,xs,rfl,hx,hw,q⟩:=h
 cases rx
 obtain ⟨its,r,ht,hz⟩:=I.tuple hx
 have hlen:its.toArray.size=xs.length:=by rw [List.size_toArray]; exact r.length.symm
 refine ⟨"tuple",_,PyProof.Rows.slot_tuple_getitem.lookup,ht.typeIs,?_⟩
 refine HT.getItem_tuple_cut ht hs pl pu (by rw [hlen]; exact hw) ?_ (by rw [hlen]; exact hz)
 rw [hlen]
 refine ⟨.ref s.heap.objs.size,_,I.laid (t':=s.toks) (o:=.tup (cutV xs lo hi)) (fun b ob q=>Qac _ q) (Qae _) ?_,rfl,q _ (I.hok.fresh (Qae _))⟩
 exact ⟨Nat.le_trans (kG xs lo hi) hz,_,(r.drop (HT.sIx xs.length 0 lo)).take (HT.sIx xs.length xs.length hi - HT.sIx xs.length 0 lo),IsTup.new _ _⟩
noncomputable def Be (K:PySem.W.Frag):R2:=fun x y H Q=>∃ a b xs ys,x=.ref a/\y=.ref b/\SqT K H a xs/\SqT K H b ys/\xs ≠ []/\xs.length + ys.length<=sizeLine/\
 (ys=[]->Q (.ref a) H)/\(ys ≠ []->∀ p,H p=none->Q (.ref p) (upd H p (.tup (xs ++ ys))))
theorem Vals.nil_iff {xs:List V} {us:List Value} (r:Vals xs us):us=[] ↔ xs=[]:=by
 cases r with
 | nil=>simp
 | cons _ _=>simp
theorem xh:OpR X (binaryOp .Add) (Be X.K):=by
 intro pins s σ H x y v u Q I rx ry h
 obtain ⟨a,b,xs,ys,rfl,rfl,ha,hb,hx,hz,q1,q2⟩:=h
 cases rx
 cases ry
 obtain ⟨its,r1,p1,_⟩:=I.tuple ha
 obtain ⟨its2,r2,p2,_⟩:=I.tuple hb
 refine HT.cat_tup p1 p2 (fun z=>hx (r1.nil_iff.mp z)) (fun z=>⟨.ref a,H,I,rfl,q1 (r2.nil_iff.mp z)⟩) (fun z=>?_) (by rw [<-r1.length,<-r2.length]; exact hz)
 refine ⟨.ref s.heap.objs.size,_,I.laid (t':=s.toks) (o:=.tup (xs ++ ys)) (fun b ob q=>Qac _ q) (Qae _) ?_,rfl,q2 (fun w=>z (r2.nil_iff.mpr w)) _ (I.hok.fresh (Qae _))⟩
 exact ⟨by rw [List.length_append]; exact hz,_,r1.append r2,IsTup.new _ _⟩
end
noncomputable def ixN (n:Nat) (i:Int):Option Nat:=if 0<=i then (if i < n then some i.toNat else none) else if -(n:Int)<=i then some (i + n).toNat else none
noncomputable def atI {α:Type} (xs:List α) (i:Int):Option α:=(ixN xs.length i).bind fun j=>xs[j]?
theorem xi {n:Nat} {i:Int} {j:Nat} (h:ixN n i=some j):seqIndex? i n=some j/\j < n/\-(n:Int)<=i/\i < n:=by
 unfold ixN at h
 by_cases h0:0<=i
 ·rw [if_pos h0] at h
  by_cases h1:i < n
  ·rw [if_pos h1] at h
   have e:i.toNat=j:=Option.some.inj h
   exact ⟨by rw [seqIndex_of h0 h1,e],by omega,by omega,h1⟩
  ·rw [if_neg h1] at h; cases h
 ·rw [if_neg h0] at h
  by_cases h1:-(n:Int)<=i
  ·rw [if_pos h1] at h
   have e:(i + n).toNat=j:=Option.some.inj h
   exact ⟨by rw [seqIndex_neg (by omega) h1,e],by omega,h1,by omega⟩
  ·rw [if_neg h1] at h; cases h
theorem qN {α:Type} {xs:List α} {i:Int} {v:α} (h:atI xs i=some v):∃ j,seqIndex? i xs.length=some j/\xs[j]? = some v/\j < xs.length/\-(xs.length:Int)<=i/\i < xs.length:=by
 unfold atI at h
 cases e:ixN xs.length i with
 | none=>rw [e] at h; cases h
 | some j=>
  rw [e] at h
  obtain ⟨h1,h2,h3,h4⟩:=xi e
  exact ⟨j,h1,h,h2,h3,h4⟩
noncomputable def ko (b:Expr):Prop:=∀ o i,subscripted b false o i=operate [o,i] (getItem o i)
noncomputable def IxR (X:Cx) (r:R2):Prop:=
 ∀ (value slice:Expr) (pins:List (Addr × Obj)) (s:Shared) (σ:St) (H:Hp) (x y:V) (v u:Value) (Q:VK),Inv X pins σ H s->RelV x v->RelV y u->r x y H Q->
  subscripted slice false v u=operate [v,u] (getItem v u)->wpAny (model X.prog X.w) X.A (subscriptTail value slice v u) (EP X pins σ Q) X.xe s
noncomputable def MtR (X:Cx) (id:String) (r:V->List V->Hp->VK->Prop):Prop:=
 ∀ (pins:List (Addr × Obj)) (s:Shared) (σ:St) (H:Hp) (x:V) (xs:List V) (v:Value) (us:List Value) (Q:VK),Inv X pins σ H s->RelV x v->Vals xs us->r x xs H Q->
  wpAny (model X.prog X.w) X.A (call (.builtin id) (v :: us)) (EP X pins σ Q) X.xe s
section
variable {X:Cx} {a b:Expr} {ta tb:TE} {pos:Pos}
theorem IxR.or {r r':R2} (h:IxR X r) (h':IxR X r'):IxR X (fun x y H Q=>r x y H Q\/r' x y H Q):=by
 intro value slice pins s σ H x y v u Q I rx ry q hs
 rcases q with q | q
 ·exact h value slice pins s σ H x y v u Q I rx ry q hs
 ·exact h' value slice pins s σ H x y v u Q I rx ry q hs
theorem wz {r:R2} (hr:IxR X r) (ha:PE X a ta) (hb:PE X b tb) (hs:ko b):PE X (.Subscript a b pos) (tOp r ta tb):=by
 intro pins s σ H Q I h
 exact Subscript_ (u5 ha hb I h fun v u s2 x y H2 I2 rx ry q=>hr a b pins s2 σ H2 x y v u Q I2 rx ry q (hs _ _))
noncomputable def ve (K:PySem.W.Frag):R2:=fun x y H Q=>∃ p xs i v,x=.ref p/\y=.int i/\SqL K H p xs/\atI xs i=some v/\Q v H
noncomputable def vf (K:PySem.W.Frag):R2:=fun x y H Q=>∃ p xs i v,x=.ref p/\y=.int i/\SqT K H p xs/\atI xs i=some v/\Q v H
theorem qO:IxR X (ve X.K):=by
 intro value slice pins s σ H x y v u Q I rx ry h hs
 obtain ⟨p,xs,i,z,rfl,rfl,hq,he,q⟩:=h
 cases rx
 obtain ⟨t,rfl⟩:=ry
 obtain ⟨its,r,pl,hz⟩:=I.list hq
 obtain ⟨j,h1,h2,h3,h4,h5⟩:=qN he
 obtain ⟨w,ew,rw'⟩:=r.get h2
 have hl:=r.length
 have hn:=oR
 have fin:EP X pins σ Q w s:=⟨z,H,I,rw',q⟩
 by_cases h0:0<=i
 ·have hj:i.toNat=j:=by
   rw [seqIndex_of h0 h5] at h1
   exact Option.some.inj h1
  exact item_listR pl.isList h0 (by omega) (by rw [hj]; simpa using ew) fin hs
 ·have hj:(i + (its.toArray.size:Int)).toNat=j:=by
   rw [seqIndex_neg (by omega) h4] at h1
   rw [List.size_toArray,<-hl]
   exact Option.some.inj h1
  exact subscriptTail_builtinR (x:=w) pl.isList.typeIs slot_list_getitem.lookup
   (wpAny_getItem_list_neg (Q:=fun r s'=>r=w/\EP X pins σ Q r s') pl.isList (by omega) (by rw [List.size_toArray] <;> omega) (by omega) (by rw [hj]; simpa using ew) ⟨rfl,fin⟩) hs
theorem zu:IxR X (vf X.K):=by
 intro value slice pins s σ H x y v u Q I rx ry h hs
 obtain ⟨p,xs,i,z,rfl,rfl,hq,he,q⟩:=h
 cases rx
 obtain ⟨t,rfl⟩:=ry
 obtain ⟨its,r,pl,hz⟩:=I.tuple hq
 obtain ⟨j,h1,h2,h3,h4,h5⟩:=qN he
 obtain ⟨w,ew,rw'⟩:=r.get h2
 have hl:=r.length
 have hn:=oR
 have fin:EP X pins σ Q w s:=⟨z,H,I,rw',q⟩
 exact subscriptTail_builtinR (x:=w) pl.typeIs slot_tuple_getitem.lookup
  (getItem_tuple (j:=j) (Q:=fun r s'=>r=w/\EP X pins σ Q r s') pl (by omega) (by omega) (by rw [List.size_toArray,<-hl]; exact h1) (by simpa using ew) ⟨rfl,fin⟩) hs
theorem oW (lo hi:Option Int) (n:Nat):(sliceBounds lo hi none n).1=((HT.sIx n 0 lo:Nat):Int)/\(sliceBounds lo hi none n).2.1=((HT.sIx n n hi:Nat):Int)/\(sliceBounds lo hi none n).2.2=1:=by
 refine ⟨?_,?_,rfl⟩
 ·cases lo with
  | none=>simp [sliceBounds,HT.sIx]
  | some i=>
   simp only [sliceBounds,HT.sIx,Option.getD_none,show (1:Int) > 0 by decide,if_true]
   by_cases h:i < 0
   ·simp only [h,if_true] <;> omega
   ·simp only [h,if_false] <;> omega
 ·cases hi with
  | none=>simp [sliceBounds,HT.sIx]
  | some i=>
   simp only [sliceBounds,HT.sIx,Option.getD_none,show (1:Int) > 0 by decide,if_true]
   by_cases h:i < 0
   ·simp only [h,if_true] <;> omega
   ·simp only [h,if_false] <;> omega
theorem oj (its:List Value) (lo hi:Option Int):slicePick its.toArray lo hi none=((its.drop (HT.sIx its.length 0 lo)).take (HT.sIx its.length its.length hi - HT.sIx its.length 0 lo)).toArray:=by
 obtain ⟨h1,h2,h3⟩:=oW lo hi its.toArray.size
 unfold slicePick
 rw [h1,h2,h3]
 simp only [sliceRange_one,pick_run,List.size_toArray] <;> rfl
noncomputable def rSlL (K:PySem.W.Frag):V->Option Int->Option Int->Hp->VK->Prop:=fun x lo hi H Q=>∃ a xs,x=.ref a/\SqL K H a xs/\∀ p,H p=none->Q (.ref p) (upd H p (.lst (cutV xs lo hi)))
theorem qP:SlR X (rSlL X.K):=by
 intro pins s σ H x v vl vu lo hi sl Q I rx hs pl pu h
 obtain ⟨a,xs,rfl,hx,q⟩:=h
 cases rx
 obtain ⟨its,r,ht,hz⟩:=I.list hx
 have hlen:=r.length
 refine ⟨"list",_,slot_list_getitem.lookup,ht.isList.typeIs,?_⟩
 refine wpAny_getItem_list_slice ht.isList hs pl pu .none (by simp) ?_ (by rw [List.size_toArray] <;> omega)
 rw [oj,<-hlen]
 refine ⟨.ref s.heap.objs.size,_,I.laid (t':=s.toks) (o:=.lst (cutV xs lo hi)) (fun b ob q=>Qac _ q) (Qae _) ?_,rfl,q _ (I.hok.fresh (Qae _))⟩
 exact ⟨Nat.le_trans (kG xs lo hi) hz,_,0,(r.drop (HT.sIx xs.length 0 lo)).take (HT.sIx xs.length xs.length hi - HT.sIx xs.length 0 lo),Heap.get?_push_size _ rfl⟩
noncomputable def hW:V->Bool
 | .non=>true
 | .bl _=>true
 | .int _=>true
 | .str _=>true
 | _=>false
noncomputable def eqV:V->V->Bool
 | .non,.non=>true
 | .bl a,.bl b=>a == b
 | .bl a,.int b=>(if a then 1 else 0) == b
 | .int a,.bl b=>a == (if b then 1 else 0)
 | .int a,.int b=>a == b
 | .str a,.str b=>a == b
 | _,_=>false
theorem zw {A:Around} {s:Shared} {y x:V} {u v:Value} (ry:RelV y u) (rx:RelV x v) (fy:hW y=true) (fx:hW x=true):SeqAt.EqAt A s u v (eqV y x):=by
 cases y with
 | non=>
  cases ry
  cases x with
  | non=>cases rx; exact SeqAt.EqAt.same _
  | bl b=>cases rx; exact SeqAt.EqAt.none_bool b
  | int b=>obtain ⟨t,rfl⟩:=rx; exact SeqAt.EqAt.none_int b t
  | str b=>obtain ⟨t,rfl⟩:=rx; exact SeqAt.EqAt.none_str b t
  | _=>exact absurd (show false=true from fx) Bool.false_ne_true
 | bl a=>
  cases ry
  cases x with
  | non=>cases rx; exact SeqAt.EqAt.bool_none a
  | bl b=>cases rx; exact SeqAt.EqAt.bool_bool a b
  | int b=>obtain ⟨t,rfl⟩:=rx; exact SeqAt.EqAt.bool_int a b t
  | str b=>obtain ⟨t,rfl⟩:=rx; exact SeqAt.EqAt.bool_str a b t
  | _=>exact absurd (show false=true from fx) Bool.false_ne_true
 | int a=>
  obtain ⟨t',rfl⟩:=ry
  cases x with
  | non=>cases rx; exact SeqAt.EqAt.int_none a t'
  | bl b=>cases rx; exact SeqAt.EqAt.int_bool a t' b
  | int b=>obtain ⟨t,rfl⟩:=rx; exact SeqAt.EqAt.int_int a t' b t
  | str b=>obtain ⟨t,rfl⟩:=rx; exact SeqAt.EqAt.int_str a t' b t
  | _=>exact absurd (show false=true from fx) Bool.false_ne_true
 | str a=>
  obtain ⟨t',rfl⟩:=ry
  cases x with
  | non=>cases rx; exact SeqAt.EqAt.str_none a t'
  | bl b=>cases rx; exact SeqAt.EqAt.str_bool a t' b
  | int b=>obtain ⟨t,rfl⟩:=rx; exact SeqAt.EqAt.str_int a t' b t
  | str b=>obtain ⟨t,rfl⟩:=rx; exact SeqAt.EqAt.str_str a t' b t
  | _=>exact absurd (show false=true from fx) Bool.false_ne_true
 | _=>exact absurd (show false=true from fy) Bool.false_ne_true
noncomputable def eqU (x:V) (u:Value):Bool:=match u with
 | .none=>eqV .non x
 | .bool b=>eqV (.bl b) x
 | .int i _=>eqV (.int i) x
 | .str z _=>eqV (.str z) x
 | _=>false
theorem tM {x y:V} {u:Value} (r:RelV y u) (f:hW y=true):eqU x u=eqV y x:=by
 cases y with
 | non=>cases r; rfl
 | bl b=>cases r; rfl
 | int i=>obtain ⟨t,rfl⟩:=r; rfl
 | str z=>obtain ⟨t,rfl⟩:=r; rfl
 | _=>exact absurd (show false=true from f) Bool.false_ne_true
theorem mF {x:V}:∀ {xs:List V} {us:List Value},Vals xs us->xs.all hW=true->us.any (eqU x)=xs.any fun y=>eqV y x
 | _,_,.nil,_=>rfl
 | y :: xs,u :: us,.cons r t,f=>by
  rw [List.all_cons,Bool.and_eq_true] at f
  rw [List.any_cons,List.any_cons,tM r f.1,mF t f.2]
theorem kQ {A:Around} {s:Shared} {x:V} {v:Value} (rx:RelV x v) (fx:hW x=true):∀ {xs:List V} {us:List Value},Vals xs us->xs.all hW=true->∀ u ∈ us,SeqAt.EqAt A s u v (eqU x u)
 | _,_,.nil,_=>fun u hu=>by cases hu
 | y :: xs,u :: us,.cons r t,f=>fun u' hu=>by
  rw [List.all_cons,Bool.and_eq_true] at f
  rcases List.mem_cons.mp hu with rfl | hu
  ·rw [tM r f.1]; exact zw r rx f.1 fx
  ·exact kQ rx fx t f.2 u' hu
noncomputable def inV (x:V) (xs:List V):Bool:=xs.any fun y=>eqV y x
noncomputable def rIn (K:PySem.W.Frag) (neg:Bool):R2:=fun x y H Q=>∃ p xs,y=.ref p/\(SqL K H p xs\/SqT K H p xs)/\hW x=true/\xs.all hW=true/\Q (.bl (if neg then !inV x xs else inV x xs)) H
theorem tN:OpR X (compareOp .In) (rIn X.K false):=by
 intro pins s σ H x y v u Q I rx ry h
 obtain ⟨p,xs,rfl,hq,fx,fs,q⟩:=h
 cases ry
 rcases hq with hq | hq
 ·obtain ⟨its,r,pl,hz⟩:=I.list hq
  refine SeqAt.in_listAt (eqU x) pl.isList (fun w hw=>kQ rx fx r fs w (by simpa using hw)) ⟨.bl _,H,I,rfl,?_⟩
  rw [show its.toArray.any (eqU x)=its.any (eqU x) by simp,mF r fs]
  exact q
 ·obtain ⟨its,r,pl,hz⟩:=I.tuple hq
  refine SeqAt.in_tupleAt (eqU x) pl (fun w hw=>kQ rx fx r fs w (by simpa using hw)) ⟨.bl _,H,I,rfl,?_⟩
  rw [show its.toArray.any (eqU x)=its.any (eqU x) by simp,mF r fs]
  exact q
theorem dg:iQ X (.builtin "len") (fun xs H Q=>∃ p ys,xs=[.ref p]/\(SqL X.K H p ys\/SqT X.K H p ys)/\Q (.int ys.length) H):=by
 intro pins s σ H xs us Q I r h
 obtain ⟨p,ys,rfl,hq,q⟩:=h
 obtain ⟨u,rfl,rx⟩:=iR r
 cases rx
 have hn:=oR
 rcases hq with hq | hq
 ·obtain ⟨its,r',pl,hz⟩:=I.list hq
  have hlen:=r'.length
  exact Calls.call_len_list pl.isList (by simp only [List.size_toArray] <;> omega) ⟨.int ys.length,H,I.tok _,⟨s.toks + 1,by rw [List.size_toArray,hlen]⟩,q⟩
 ·obtain ⟨its,r',pl,hz⟩:=I.tuple hq
  have hlen:=r'.length
  exact len_tuple pl (by simp only [List.size_toArray] <;> omega) ⟨.int ys.length,H,I.tok _,⟨s.toks + 1,by rw [List.size_toArray,hlen]⟩,q⟩
noncomputable def tyV (K:PySem.W.Frag) (T:String) (x:V) (H:Hp):Prop:=match x with
 | .str _=>T = "str"
 | .int _=>T = "int"
 | .ref p=>(T = "list"/\∃ xs,SqL K H p xs)\/(T = "tuple"/\∃ o,K.lookup p=some o/\o.cls=.type "tuple"/\o.dict=none)\/
   (T = "dict"/\((∃ kvs,H p=some (.dK kvs))\/∃ kvs,H p=some (.dT kvs)))\/(T = "set"/\∃ S n,H p=some (.set S n))
 | _=>False
theorem zx {pins:List (Addr × Obj)} {σ:St} {H:Hp} {s:Shared} {T:String} {x:V} {v:Value} (I:Inv X pins σ H s) (r:RelV x v) (ty:tyV X.K T x H) :
  s.TypeIs v T/\∀ a,v=.ref a->∃ ob,s.heap.get? a=some ob/\ob.dict=none:=by
 cases x with
 | str z=>
  obtain ⟨t,rfl⟩:=r
  cases (show T = "str" from ty)
  exact ⟨typeIs_str s z t,fun _ e=>nomatch e⟩
 | int i=>
  obtain ⟨t,rfl⟩:=r
  cases (show T = "int" from ty)
  exact ⟨typeIs_int s i t,fun _ e=>nomatch e⟩
 | ref p=>
  cases r
  rcases ty with ⟨rfl,xs,hq⟩ | ⟨rfl,o,hk,hc,hd⟩ | ⟨rfl,hk⟩ | ⟨rfl,S,n,hk⟩
  ·obtain ⟨its,_,pl,_⟩:=I.list hq
   refine ⟨pl.isList.typeIs,fun a e=>?_⟩
   cases e
   obtain ⟨o,n,e,c,hd,_⟩:=pl
   exact ⟨o,e,hd⟩
  ·refine ⟨⟨o,I.kIn p o hk,hc⟩,fun a e=>?_⟩
   cases e
   exact ⟨o,I.kIn _ o hk,hd⟩
  ·have z:∃ o,s.heap.get? p=some o/\o.ExactDict:=by
    rcases hk with ⟨kvs,hk⟩ | ⟨kvs,hk⟩
    ·obtain ⟨_,_,_,_,o,_,_,e,ex,_⟩:=I.hok p _ hk
     exact ⟨o,e,ex⟩
    ·obtain ⟨_,_,_,_,o,_,_,e,ex,_⟩:=I.hok p _ hk
     exact ⟨o,e,ex⟩
   obtain ⟨o,e,ex⟩:=z
   refine ⟨⟨o,e,ex.1⟩,fun a e2=>?_⟩
   cases e2
   exact ⟨o,e,ex.2.1⟩
  ·obtain ⟨o,_,_,_,e,ex,_⟩:=I.hok p _ hk
   refine ⟨⟨o,e,ex.1⟩,fun a e2=>?_⟩
   cases e2
   exact ⟨o,e,ex.2.1⟩
 | _=>exact False.elim ty
noncomputable def tBM (K:PySem.W.Frag) (T:String) (r:V->List V->Hp->VK->Prop) (to:TE) (t:TA):TE:=fun σ H Q=>to σ H fun x H1=>tyV K T x H1/\t σ H1 fun xs H2=>r x xs H2 Q
variable {o e:Expr} {es:List Expr} {to:TE} {t:TA} {name:Str} {apos cpos:Pos} {T id:String} {r:V->List V->Hp->VK->Prop}
theorem Bf (pa:PlainAttrs T) (slot:Slot T name id) (hty:typeOf (.builtin id)=pure (.type "method_descriptor")) (hm:MtR X id r) (ho:PE X o to) (ha:PA X (e :: es) t)
  (hbase:attributeBase o name X.env (eval o X.env)=eval o X.env:=by rfl)
  (hfew:((backTo cpos (starEach (e :: es) X.env)).all (fun x=>!x.1) && (backToKw cpos (keywordEach [] X.env)).all (fun x=>x.1.isSome)
   && decide ((e :: es).length + ([]:List Keyword).length + (if ([]:List Keyword).isEmpty then 0 else 1) < 30))=true:=by rfl)
  (hline:(apos.endLine == cpos.line)=true:=by rfl) (hs:starEach (e :: es) X.env=(false,eval e X.env) :: starEach es X.env:=by rfl) (hplain:(backTo cpos (starEach es X.env)).any (·.1)=false:=by rfl) :
  PE X (.Call (.Attribute o name apos) (e :: es) [] cpos) (tBM X.K T r to t):=by
 intro pins s σ H Q I h
 refine wpAny_Call_method_late hbase hfew hline rfl (thn (ho pins s σ H _ I h) fun v s1 ⟨x,H1,I1,r1,ty,q1⟩=>?_)
 obtain ⟨h1,h2⟩:=zx I1 r1 ty
 refine ⟨T,id,pa,slot,hty,h1,h2,?_⟩
 have hA:=ha cpos pins s1 σ H1 _ I1 q1
 rw [hs] at hA ⊢
 refine Calls.callWith_builtin (by show (false || (backTo cpos (starEach es X.env)).any (·.1))=false; rw [hplain] <;> rfl) (Calls.evalArgs_plain ?_)
 exact thn hA fun us s2 ⟨vs,H2,I2,r2,q2⟩=>hm pins s2 σ H2 x vs v us Q I2 r1 r2 q2
end
noncomputable def MtM (X:Cx) (id:String) (r:V->List V->Hp->VK->Prop):Prop:=
 ∀ (pins:List (Addr × Obj)) (s:Shared) (σ:St) (H:Hp) (x:V) (xs:List V) (v:Value) (us:List Value) (Q:VK),Inv X pins σ H s->RelV x v->Vals xs us->r x xs H Q->
  wpAny (model X.prog X.w) X.A (call (.builtin id) (v :: us)) (EP X pins σ Q) X.xe s
theorem Vals.one:∀ {x:V} {us:List Value},Vals [x] us->∃ u,us=[u]/\RelV x u
 | _,_,.cons r .nil=>⟨_,rfl,r⟩
section
variable {X:Cx} {pins:List (Addr × Obj)} {σ:St} {H:Hp} {s:Shared} {l b:Addr} {xs ys zs:List V}
theorem Inv.lset {its its':List Value} {n:Nat} {f:Array Value->Array Value} {t':Nat} (I:Inv X pins σ H s) (hH:H l=some (.lst xs))
  (e:s.heap.get? l=some { cls:=.type "list",data:=.seq its.toArray n }) (hf:f its.toArray=its'.toArray) (hv:Vals ys its') (hz:ys.length<=sizeLine) :
  Inv X pins σ (upd H l (.lst ys)) { s with heap:=s.heap.update l (Obj.mapSeq f),toks:=t' }:=by
 have q:=PySem.IsL.update e f
 rw [hf] at q
 refine I.write (x:=l) (e:=l) (by rw [hH]; exact trivial) (.inl rfl) (fun b' u hb hu=>(Heap.get?_update_other s.heap (Obj.mapSeq f) (Ne.symm hb)).trans hu) ⟨_,q⟩ ?_
 exact ⟨hz,its',_,hv,q⟩
theorem Inv.lnew {its:List Value} {t':Nat} (I:Inv X pins σ H s) (hv:Vals ys its) (hz:ys.length<=sizeLine) :
  Inv X pins σ (upd H s.heap.objs.size (.lst ys)) { s with heap:=s.heap.push { cls:=.type "list",data:=.seq its.toArray },toks:=t' }:=
 I.laid (fun _ _ q=>Qac _ q) (Qae _) ⟨hz,its,0,hv,Heap.get?_push_size _ rfl⟩
theorem Inv.fresh (I:Inv X pins σ H s):H s.heap.objs.size=none:=I.hok.fresh (Qae _)
theorem Inv.lstM (I:Inv X pins σ H s) (hH:H l=some (.lst xs)):xs.length<=sizeLine/\∃ (its:List Value) (n:Nat),Vals xs its/\xs.length=its.length/\s.heap.get? l=some { cls:=.type "list",data:=.seq its.toArray n }:=by
 obtain ⟨z,its,n,r,e⟩:=I.hok l _ hH
 exact ⟨z,its,n,r,r.length,e⟩
end
section
variable {X:Cx}
noncomputable def xj:V->List V->Hp->VK->Prop:=fun x vs H Q=>∃ l xs y,x=.ref l/\vs=[y]/\H l=some (.lst xs)/\xs.length < sizeLine/\Q .non (upd H l (.lst (xs ++ [y])))
theorem tO:MtM X "list.append" xj:=by
 intro pins s σ H x vs v us Q I rx rv h
 obtain ⟨l,xs,y,rfl,rfl,hH,hz,q⟩:=h
 cases rx
 obtain ⟨u,rfl,ru⟩:=rv.one
 obtain ⟨z,its,n,r,hl,e⟩:=I.lstM hH
 refine call_meets F.slot_list_append ⟨_,e,rfl⟩ F.entry_list_append (F.args_list_append_2 _ _) (PySem.list_append l its.toArray n u (by rw [List.size_toArray]; omega)) ⟨e,?_⟩
 refine ⟨.non,_,I.lset (its':=its ++ [u]) hH e (by simp) (r.append (.cons ru .nil)) ?_,rfl,q⟩
 rw [List.length_append,List.length_singleton]
 omega
noncomputable def rCat:R2:=fun x y H Q=>∃ l b xs zs,x=.ref l/\y=.ref b/\H l=some (.lst xs)/\H b=some (.lst zs)/\xs.length + zs.length<=sizeLine/\∀ p,H p=none->Q (.ref p) (upd H p (.lst (xs ++ zs)))
theorem zy:OpR X (binaryOp .Add) rCat:=by
 intro pins s σ H x y v u Q I rx ry h
 obtain ⟨l,b,xs,zs,rfl,rfl,hH,hB,hz,q⟩:=h
 cases rx
 cases ry
 obtain ⟨z,its,n,r,hl,e⟩:=I.lstM hH
 obtain ⟨z2,its2,n2,r2,hl2,e2⟩:=I.lstM hB
 refine PySem.P.add_list e e2 ?_ (by rw [List.size_toArray,List.size_toArray]; omega)
 have ea:its.toArray ++ its2.toArray=(its ++ its2).toArray:=by simp
 rw [ea]
 exact ⟨.ref _,_,I.lnew (t':=s.toks) (r.append r2) (by rw [List.length_append]; omega),rfl,q _ I.fresh⟩
end
end L2
namespace Att
open PySem PySem.W PySem.Calls PyProof.Rows
theorem lF {P:Params} {h:Heap}:∀ (ns:List Int) (vs:List Value),WellAll P h vs (ns.map WData.int)->IntsAre vs ns:=by
 intro ns
 induction ns with
 | nil=>
  intro vs w
  rw [List.map_nil] at w
  cases w
  exact .nil
 | cons n ns ih=>
  intro vs w
  rw [List.map_cons] at w
  cases w with
  | cons a b=>
   cases a
   exact .cons _ _ (ih _ b)
theorem tP {l:OpenLaw} {n:Nat} (hn:l.most=some n) {P:Params} {h:Heap} {args:List WData} {vals:List Value}
  (hpre:l.row.toRowW.claim.pre args=true) (hwl:WellAll P h vals args) :
  ∃ a vs ns,vals=[Value.ref a]/\args=[WData.list (ns.map WData.int)]/\h.get? a=some { cls:=.type "list",data:=.seq vs.toArray }/\IntsAre vs ns/\ns.length<=n:=by
 have hsh:WShape.hasAll [] args [.list .int]=true:=(pre_splitW hpre).1
 have hc:l.pre.holds [] { args:=args } = true:=(pre_splitW hpre).2
 obtain ⟨d,r,rfl,h1,h2⟩:=hasAllW_cons hsh
 obtain rfl:=hasAllW_nil h2
 obtain ⟨xs,rfl,h3⟩:=hasW_list h1
 obtain ⟨ns,rfl⟩:=items_int h3
 have hlen:ns.length<=n:=by
  unfold OpenLaw.pre at hc
  have h4:(WTm.not (.lt (.lit (.int (n:Int))) (.len (.arg 0)))).holds [] { args:=[.list (ns.map .int)] } = true:=by
   have h4:=(holds_andW hc).1
   rw [hn] at h4
   exact h4
  have h5:=condW_of h4 (w_not (w_lt w_lit (w_len_list (w_arg rfl))))
  rw [List.length_map] at h5
  refine Nat.le_of_not_lt fun q=>?_
  have q':(n:Int) < ((ns.length:Nat):Int):=by omega
  first
   | (rw [decide_eq_true q'] at h5; exact absurd h5 (by decide))
   | (simp at h5; omega)
 cases hwl with
 | cons w1 w2=>
  cases w2
  cases w1 with
  | list ho hall=>exact ⟨_,_,ns,rfl,rfl,ho,lF ns _ hall,hlen⟩
theorem tQ (l:OpenLaw) (args:List WData):l.row.toRowW.claim.post args (.bool true) args=true:=
 postW_of (r:=l.row.toRowW) (X:=(true == true))
  (show WShape.has [] (.bool true) .bool=true by first | rfl | decide | simp [WShape.has,WShape.arms,WShape.armsAll])
  (show (WTm.eq .res (.lit (.bool true))).value [] { args:=args,res:=some (.bool true),after:=args } = some (.bool (true == true)) from w_eq_bool (w_res rfl) w_lit) rfl
theorem attach_call {l:OpenLaw} {n:Nat} {q:Program} {loose:List Str} {XP:(Str->Option Value)->Heap->Prop} {YP:World->Heap->Prop} {d:DefRec}
  (hn:l.most=some n) (hdf:d.params.defaults=[])
  (call:∀ (w:World) (s₀ s₁:Shared) (mg mb:Str->Option Value) (fa:Addr) (o:Obj) (pm cd doc:Value) (a:Addr) (vs:List Value) (ns:List Int),
   Ground q loose [] XP w s₀ mg mb s₁.heap->YP w s₁.heap->
   s₁.heap.get? fa=some o->o.data=.func (docDef d.name d.params d.body d.scope pm cd doc)->s₁.heap.CodeRec cd d.name->mg d.name=some (.ref fa)->
   s₁.heap.get? a=some { cls:=.type "list",data:=.seq vs.toArray }->IntsAre vs ns->ns.length<=n->s₁.gens = #[]->
   codeAny (model l.prog w) callerA (.call (.ref fa) ⟨[.ref a],[]⟩) (fun r s'=>r=.ok (.ret (.bool true))/\OldK s₁.heap s'.heap/\s'.os=s₁.os/\AllBare s'.gens) s₁) :
  WalkO q loose XP YP l.row.toRowW d [] (fun f vs=>PySem.call f vs):=by
 intro w s₀ s₁ mg mb G Y fa o pm cd doc dV kV ho hd hcd hD hmg hg args vals as hpre hlay hrd hwl hlo
 obtain rfl:dV=.none:=Dflts.none hD hdf
 obtain rfl:kV=.none:=Dflts.noKw hD
 obtain ⟨a,vs,ns,rfl,rfl,hobj,hints,hlen⟩:=tP hn hpre hwl
 refine enter_call (codeAny_mono (call w s₀ s₁ mg mb fa o pm cd doc a vs ns G Y ho (fd_plain hd) hcd hmg hobj hints hlen hg) fun r s' hq=>?_)
 obtain ⟨rfl,h2,h3,h4⟩:=hq
 exact ⟨.inl ⟨.bool true,.bool true,[],rfl,fun _=>rfl,.bool true,tQ l _,fun _=>⟨List.Pairwise.nil,fun _ hm=>(nomatch hm)⟩⟩,h2,h3,h4⟩
end Att
namespace L2
open PySem PySem.Spec PyProof.Rows
theorem nE:∀ {vs:List Value} {ns:List Int},IntsAre vs ns->Vals (ns.map V.int) vs
 | _,_,.nil=>.nil
 | _,_,.cons n t h=>.cons ⟨t,rfl⟩ (nE h)
noncomputable def Only (H:Hp):Prop:=∀ b,H b=none\/∃ o xs,H b=some (.frz o (.lst xs))
theorem vg {P:Program} {w:World} {K:PySem.W.Frag} {mg mb:Str->Option Value} {CX:CXT} {k:Nat} {fa a:Addr} {fd:FuncData} {x:Str} {sp:Sp} {s₁:Shared} {vs:List Value} {ns:List Int}
  (KX:K.In s₁.heap) (hns:s₁.heap.Ns mainGlobals mg) (hb:s₁.heap.Ns builtinsNs mb) (hbb:∀ x:Str,x ≠ "__name__"->mb x=bootBuiltins x) (hlim:s₁.heap.NoLimit) (hg:s₁.gens = #[])
  (ha:s₁.heap.get? a=some { cls:=.type "list",data:=.seq vs.toArray }) (hi:IntsAre vs ns) (hl:ns.length<=sizeLine) (hr:Room k callerA)
  (F:∀ base:Heap,K.In base->base.Ns mainGlobals mg->FnOk P w K mg base CX k fa fd [x] sp) (hbind:∀ (s:Shared) (u:Value),BindsTo s fd ⟨[u],[]⟩ [(x,u)])
  (hsp:∀ H:Hp,Only H->SqL K H a (ns.map V.int)->sp [.ref a] H (fun v _=>v=.bl true) fun _ _ _=>False)
  (hCX:∀ H e s',CX [] H s₁ (fun _ _ _=>False) e s'->False) :
  codeAny (model P w) callerA (.call (.ref fa) ⟨[.ref a],[]⟩) (fun r s'=>r=.ok (.ret (.bool true))/\OldK s₁.heap s'.heap/\s'.os=s₁.os/\AllBare s'.gens) s₁:=by
 have rv:=nE hi
 have lenV:=hi.length
 have core:∀ H:Hp,Only H->SqL K H a (ns.map V.int)->HOk P w H s₁.heap->(∀ b,H b ≠ none->b=a)->(H a ≠ none->K.lookup a=none)->
   codeAny (model P w) callerA (.call (.ref fa) ⟨[.ref a],[]⟩) (fun r s'=>r=.ok (.ret (.bool true))/\OldK s₁.heap s'.heap/\s'.os=s₁.os/\AllBare s'.gens) s₁:=by
  intro H hO hS hok hA hK
  have base_of:∀ {b:Addr} {o:Obj},s₁.heap.get? b=some o->H b=none->(hidT s₁.heap H).get? b=some o:=fun e n=>uW e n
  have noA:∀ {b:Addr} {o:Obj} {es:Array DictEntry} {ep:Nat},s₁.heap.get? b=some o->o.data=.dict es ep->H b=none:=fun {b o es ep} e d=>by
   cases q:H b with
   | none=>rfl
   | some u=>
    have e':b=a:=hA b (by rw [q]; simp)
    subst e'
    rw [ha] at e; cases e
    have d':Data.seq vs.toArray _=Data.dict es ep:=d
    cases d'
  have nsK:∀ {b:Addr} {m:Str->Option Value},s₁.heap.Ns b m->(hidT s₁.heap H).Ns b m:=fun {b m} ⟨o,es,ep,e,d,r⟩=>⟨o,es,ep,base_of e (noA e d),d,r⟩
  have hKb:K.In (hidT s₁.heap H):=fun b o e=>base_of (KX b o e) (by
   cases q:H b with
   | none=>rfl
   | some u=>
    have e':b=a:=hA b (by rw [q]; simp)
    subst e'
    rw [hK (by rw [q]; simp)] at e; cases e)
  have hM:Mod K mg (hidT s₁.heap H):=⟨hKb,nsK hns,⟨mb,nsK hb,hbb⟩,let ⟨mc,h1,h2⟩:=hlim; ⟨mc,nsK h1,h2⟩⟩
  have e0:Env0 P w K mg (hidT s₁.heap H) callerA [] s₁ H:=⟨rfl,hM,fun b o e=>wV e,Nat.le_of_eq (tp _ _),trivial,fun b hb=>absurd (show b ∈ ([]:List Addr) from hb) (by simp),hok,.of_eq hg⟩
  refine codeAny_mono ((F _ hKb (nsK hns)).run callerA [] s₁ H ⟨[.ref a],[]⟩ [.ref a] [.ref a] _ _ hr e0 (hbind s₁ (.ref a)) (.cons rfl .nil) (hsp H hO hS)) fun r s' h=>?_
  cases r with
  | error e=>exact (hCX H e s' h).elim
  | ok fl=>
   cases fl with
   | next=>exact False.elim h
   | brk=>exact False.elim h
   | cont=>exact False.elim h
   | ret u=>
    obtain ⟨v,H',os,bare,un,hok',r',q⟩:=h
    have q':v=.bl true:=q
    subst q'
    obtain rfl:u=Value.bool true:=r'
    refine ⟨rfl,OldK.of_keep fun b o e=>?_,os,bare⟩
    cases q:H b with
    | none=>exact un.keep b o e q (by intro z; exact absurd (show b ∈ ([]:List Addr) from z) (by simp)) (by simp)
    | some u=>
     rcases hO b with z | ⟨ob,xs,z⟩
     ·rw [q] at z; cases z
     ·have z2:=un.frzs b ob _ z
      obtain ⟨e1,_⟩:=hok b _ z
      obtain ⟨e2,_⟩:=hok' b _ z2
      rw [e] at e1; cases e1
      exact e2
 cases hk:K.lookup a with
 | some o=>
  have e:=KX a o hk
  rw [ha] at e
  cases e
  refine core (fun _=>none) (fun _=>.inl rfl) (.inr ⟨_,vs.toArray,_,hk,rfl,rfl,rfl,by rw [List.size_toArray,lenV]; exact hl,by simpa using rv⟩) (fun b u z=>by have z':(none:Option HO)=some u:=z; cases z') (fun b z=>absurd rfl z) fun z=>absurd rfl z
 | none=>
  refine core (fun b=>if b=a then some (.frz { cls:=.type "list",data:=.seq vs.toArray } (.lst (ns.map V.int))) else none) (fun b=>?_) (.inl (.inr ⟨{ cls:=.type "list",data:=.seq vs.toArray },if_pos rfl⟩)) (fun b u z=>?_) (fun b z=>?_) fun _=>hk
  ·by_cases hb:b=a
   ·exact .inr ⟨_,_,if_pos hb⟩
   ·exact .inl (if_neg hb)
  ·by_cases hb:b=a
   ·have z':=(if_pos hb).symm.trans z
    cases z'
    subst hb
    exact ⟨ha,by rw [List.length_map]; exact hl,vs,_,rv,ha⟩
   ·have z':=(if_neg hb).symm.trans z
    cases z'
  ·by_cases hb:b=a
   ·exact hb
   ·exact absurd (if_neg hb) z
theorem walk_of {l:PySem.W.OpenLaw} {n k:Nat} {q:Program} {loose:List Str} {XP:(Str->Option Value)->Heap->Prop} {YP:World->Heap->Prop} {d:DefRec} {K:Params->PySem.W.Frag} {CX:World->CXT} {sp:World->Sp} {x:Str}
  (hn:l.most=some n) (hn2:n<=sizeLine) (hdf:d.params.defaults=[]) (hr:Room k callerA)
  (hY:∀ (w:World) (h:Heap),YP w h->(K w.params).In h)
  (F:∀ (w:World) (mg:Str->Option Value) (fa:Addr) (h:Heap),(K w.params).In h->h.Ns mainGlobals mg->mg d.name=some (.ref fa)->
   ∃ fd:FuncData,(∀ (s:Shared) (u:Value),BindsTo s fd ⟨[u],[]⟩ [(x,u)])/\
    ∀ base:Heap,(K w.params).In base->base.Ns mainGlobals mg->FnOk l.prog w (K w.params) mg base (CX w) k fa fd [x] (sp w))
  (hsp:∀ (w:World) (H:Hp) (a:Addr) (ns:List Int),ns.length<=n->Only H->SqL (K w.params) H a (ns.map V.int)->sp w [.ref a] H (fun v _=>v=.bl true) fun _ _ _=>False)
  (hCX:∀ (w:World) (H:Hp) (s:Shared) (e:Value) (s':Shared),CX w [] H s (fun _ _ _=>False) e s'->False) :
  PySem.W.WalkO q loose XP YP l.row.toRowW d [] (fun f vs=>PySem.call f vs):=by
 refine Att.attach_call hn hdf fun w s₀ s₁ mg mb fa o pm cd doc a vs ns G Y ho hd hcd hmg hobj hints hlen hg=>?_
 have KX:=hY w _ Y
 obtain ⟨fd,hb,hF⟩:=F w mg fa _ KX G.T.g hmg
 exact vg KX G.T.g G.T.b G.T.builtins G.T.nolimit hg hobj hints (Nat.le_trans hlen hn2) hr hF hb (fun H hO hS=>hsp w H a ns hlen hO hS) fun H e s'=>hCX w H s₁ e s'
noncomputable def aA (s:Stmt):Arguments:=match s with
 | .FunctionDef _ a _ _ _ _ _ _ _ _=>a
 | _=>{ posonlyargs:=[],args:=[],vararg:=none,kwonlyargs:=[],kw_defaults:=[],kwarg:=none,defaults:=[] }
noncomputable def az (s:Stmt):List Stmt:=match s with
 | .FunctionDef _ _ b _ _ _ _ _ _ _=>b
 | _=>[]
noncomputable def ae (s:Stmt):Scope:=match s with
 | .FunctionDef _ _ _ _ _ _ sc _ _ _=>sc
 | _=>{ kind:=.function,names:=[],isGenerator:=false,isCoroutine:=false }
structure Fun (K:PySem.W.Frag) (x qual:Str) (st:Stmt) (f:Addr) (fd:FuncData):Prop where
 ex:∃ (oc:Value) (od:Option Addr) (kV doc pm:Value) (an:Option Addr) (cdv ct:Value) (osl:Array (Option Value)),
  fd=PySem.W.fnOf x qual (aA st) (az st) (ae st) .none kV doc pm an cdv ct/\K.lookup f=some ⟨oc,od,.func fd,osl⟩/\PySem.W.codeIn K cdv qual=true
 kp:PySem.W.keepIn K (.ref f)=true
section
variable {P:Program} {w:World} {K:PySem.W.Frag} {mg:Str->Option Value} {base:Heap}
theorem Fun.binds {x qual:Str} {st:Stmt} {f:Addr} {fd:FuncData} {ps:List Str} (F:Fun K x qual st f fd)
  (h:∀ (kV doc pm:Value) (an:Option Addr) (cdv ct:Value) (us:List Value),us.length=ps.length->bindArgs (PySem.W.fnOf x qual (aA st) (az st) (ae st) .none kV doc pm an cdv ct) ⟨us,[]⟩=pure (ps.zip us)):Binds K fd ps []:=by
 obtain ⟨oc,od,kV,doc,pm,an,cdv,ct,osl,rfl,lk,hcd⟩:=F.ex
 exact .all (h kV doc pm an cdv ct)
theorem aL {x qual:Str} {st:Stmt} {f:Addr} {oc:Value} {od an:Option Addr} {osl:Array (Option Value)} {kV doc pm cdv ct:Value} (l:K.lookup f=some ⟨oc,od,.func (PySem.W.fnOf x qual (aA st) (az st) (ae st) .none kV doc pm an cdv ct),osl⟩)
  (c:PySem.W.codeIn K cdv qual=true) (k:PySem.W.keepIn K (.ref f)=true):Fun K x qual st f (PySem.W.fnOf x qual (aA st) (az st) (ae st) .none kV doc pm an cdv ct):=⟨⟨oc,od,kV,doc,pm,an,cdv,ct,osl,rfl,l,c⟩,k⟩
end
theorem Bg {A:Around} {k:Nat} (hr:Room k A):A.units + 1 < cLine:=Nat.lt_of_le_of_lt (Nat.add_le_add_left (by decide:1<=64) _) hr.units
section
variable {X:Cx}
theorem pv (i:Nat) {x:Str} {pos:Pos} (hN:X.N[i]? = some x:=by rfl) (hv:Vis X.env.scope x:=by first | exact Or.inl rfl | exact Or.inr (Or.inl rfl) | exact Or.inr (Or.inr rfl)) (hd:(x == ("__debug__":Str))=false:=by decide)
  (hcd:(x == ("__classdict__":Str))=false:=by decide):PE X (.Name x pos) (fV i):=yP hN hv hd hcd
end
theorem fg {A B:Prop} (h:B):if false=true then A else B:=by
 rw [if_neg Bool.false_ne_true]
 exact h
theorem fi {A B:Prop} (h:A):if true=true then A else B:=by
 rw [if_pos rfl]
 exact h
noncomputable def Same (H H':Hp):Prop:=∀ b o,H b=some o->H' b=some o
theorem Same.seq {K:PySem.W.Frag} {H H':Hp} {a:Addr} {xs:List V} (e:Same H H') (h:SqL K H a xs):SqL K H' a xs:=by
 rcases h with (h | ⟨o,h⟩) | h
 ·exact .inl (.inl (e _ _ h))
 ·exact .inl (.inr ⟨o,e _ _ h⟩)
 ·exact .inr h
end L2
set_option maxHeartbeats 4000000
namespace L2
open PySem PySem.Spec PyProof.Rows
noncomputable def closL (env:Env):List (Str × NameKind)->List (Str × Addr)->List (Str × Addr)
 | [],acc=>acc
 | (n,k) :: r,acc=>if k == .free then closL env r ((n,(env.cells.lookup n).getD 0) :: acc) else closL env r acc
theorem jP (env:Env):∀ (names:List (Str × NameKind)) (acc:List (Str × Addr)),(∀ y ∈ names,y.2=.free->(env.cells.lookup y.1).isSome=true)->
  (forIn names acc fun (x:Str × NameKind) (cs:List (Str × Addr))=>if (x.2 == NameKind.free)=true then (do let c <-cellOf env x.1; pure (ForInStep.yield ((x.1,c) :: cs))) else (pure (ForInStep.yield cs):Sem (ForInStep (List (Str × Addr)))))=pure (closL env names acc)
 | [],acc,_=>rfl
 | (n,k) :: r,acc,h=>by
  have ih:=fun a=>jP env r a fun y hy=>h y (Qak _ hy)
  rw [List.forIn_cons]
  unfold closL
  by_cases hk:(k == NameKind.free)=true
  ·obtain ⟨c,hc⟩:=Option.isSome_iff_exists.mp (h (n,k) List.mem_cons_self (by simpa using hk))
   simp only [hk,if_true]
   have:cellOf env n=pure c:=by unfold cellOf; rw [hc]
   rw [this,hc]
   exact ih _
  ·simp only [hk]
   exact ih _
theorem ir {scope:Scope} {env:Env} (h:∀ y ∈ scope.names,y.2=.free->(env.cells.lookup y.1).isSome=true):closureFor scope env=pure (closL env scope.names []):=by
 have e:=jP env scope.names [] h
 unfold closureFor
 exact congrArg (fun m=>m >>= pure) e
theorem jo {env:Env} {x:Str}:∀ {names:List (Str × NameKind)} {acc:List (Str × Addr)} {c:Addr},(∀ y ∈ names,y.2=.free->(env.cells.lookup y.1).isSome=true)->
  (∀ c,acc.lookup x=some c->env.cells.lookup x=some c)->(closL env names acc).lookup x=some c->env.cells.lookup x=some c
 | [],_,_,_,ha,h=>ha _ h
 | (n,k) :: r,acc,c,hn,ha,h=>by
  unfold closL at h
  by_cases hk:(k == NameKind.free)=true
  ·rw [if_pos hk] at h
   refine jo (fun y hy=>hn y (Qak _ hy)) (fun c' e=>?_) h
   rw [List.lookup_cons] at e
   cases hx:x == n with
   | true=>
    rw [hx] at e
    have:x=n:=by simpa using hx
    subst this
    obtain ⟨d,hd⟩:=Option.isSome_iff_exists.mp (hn (x,k) List.mem_cons_self (by simpa using hk))
    rw [hd] at e ⊢
    exact e
   | false=>
    rw [hx] at e
    exact ha _ e
  ·rw [if_neg hk] at h
   exact jo (fun y hy=>hn y (Qak _ hy)) ha h
theorem iS {env:Env} {x:Str}:∀ {names:List (Str × NameKind)} {acc:List (Str × Addr)},((x,NameKind.free) ∈ names\/(acc.lookup x).isSome=true)->((closL env names acc).lookup x).isSome=true
 | [],_,h=>by rcases h with h | h; cases h; exact h
 | (n,k) :: r,acc,h=>by
  unfold closL
  by_cases hk:(k == NameKind.free)=true
  ·rw [if_pos hk]
   refine iS ?_
   rw [List.lookup_cons]
   cases hx:x == n with
   | true=>exact .inr rfl
   | false=>
    rcases h with h | h
    ·rcases List.mem_cons.mp h with e | h
     ·cases e; simp at hx
     ·exact .inl h
    ·exact .inr h
  ·rw [if_neg hk]
   refine iS ?_
   rcases h with h | h
   ·rcases List.mem_cons.mp h with e | h
    ·cases e; simp at hk
    ·exact .inl h
   ·exact .inr h
noncomputable abbrev rlab (env:Env):Str × NameKind->Str × NameKind:=fun (n,k)=>if (k == NameKind.free && env.scope.kind == .function && env.kindOf n == some .cell) then (n,NameKind.cell) else (n,k)
theorem jp {env:Env}:∀ {names:List (Str × NameKind)} {x:Str} {k:NameKind},names.lookup x=some k->
  (names.map (rlab env)).lookup x=some k\/(k=.free/\(names.map (rlab env)).lookup x=some .cell)
 | [],_,_,h=>by simp at h
 | (n,k) :: r,x,k',h=>by
  have ih:=@jp env r x k'
  rw [List.map_cons]
  have e:rlab env (n,k)=(n,k)\/(k=.free/\rlab env (n,k)=(n,.cell)):=by
   by_cases hc:(k == NameKind.free && env.scope.kind == .function && env.kindOf n == some .cell)=true
   ·refine .inr ⟨?_,if_pos hc⟩
    cases k <;> first | rfl | (simp at hc)
   ·exact .inl (if_neg hc)
  cases hx:x == n with
  | true=>
   simp only [List.lookup_cons,hx] at h
   cases h
   rcases e with e | ⟨e1,e⟩
   ·rw [e]; exact .inl (by simp only [List.lookup_cons,hx])
   ·rw [e]; exact .inr ⟨e1,by simp only [List.lookup_cons,hx]⟩
  | false=>
   simp only [List.lookup_cons,hx] at h
   rcases e with e | ⟨e1,e⟩ <;> (rw [e]; simp only [List.lookup_cons,hx]; exact ih h)
theorem jQ {env:Env}:∀ {names:List (Str × NameKind)} {x:Str},names.lookup x=none->(names.map (rlab env)).lookup x=none
 | [],_,_=>rfl
 | (n,k) :: r,x,h=>by
  have ih:=@jQ env r x
  rw [List.map_cons]
  have e:rlab env (n,k)=(n,k)\/rlab env (n,k)=(n,.cell):=by
   by_cases hc:(k == NameKind.free && env.scope.kind == .function && env.kindOf n == some .cell)=true
   ·exact .inr (if_pos hc)
   ·exact .inl (if_neg hc)
  cases hx:x == n with
  | true=>simp only [List.lookup_cons,hx] at h; cases h
  | false=>
   simp only [List.lookup_cons,hx] at h
   rcases e with e | e <;> (rw [e]; simp only [List.lookup_cons,hx]; exact ih h)
section
variable {prog:Program} {w:World} {A:Around} {E:Value->Shared->Prop} {R:Result->Shared->Prop} {s:Shared}
theorem oX {elt target iter:Expr} {ifs:List Expr} {scope:Scope} {pos:Pos} {it acc:Value} {env:Env} (I:Nat->Shared->Prop)
  (turn:∀ n s,I n s->wpAny (model prog w) A (pyNext it) (fun r s₁=>match r with
   | none=>R (.ok .next) s₁
   | some v=>wpAny (model prog w) A (letOwnedTupleGo target it v) (fun _ s₁'=>wpAny (model prog w) A (assign target env v) (fun _ s₂=>
     wpAny (model prog w) A (forIn ifs true fun c r=>if r=true then do let ok <-isTrue c env (eval c env); pure (ForInStep.yield ok) else pure (ForInStep.yield r)) (fun ok s₃=>
      if ok=true then wpAny (model prog w) A (eval elt env) (fun x s₄=>
       wpAny (model prog w) A (call (.builtin "list.append") [acc,x]) (fun _ s₅=>∃ m,m < n/\I m s₅) (fun _ _=>False) s₄) (fun _ _=>False) s₃
      else ∃ m,m < n/\I m s₃) (fun _ _=>False) s₂) (fun _ _=>False) s₁') (fun _ _=>False) s₁) (fun _ _=>False) s)
  (n:Nat) (h:I n s) :
  codeAny (model prog w) A (.compLoop (.ListComp elt [⟨target,iter,ifs,0⟩] scope pos) 0 it acc env) R s:=by
 refine codeAny_loop rfl I (fun n s hI=>?_) n h
 show wpAny _ A ((compTurn (.ListComp elt [⟨target,iter,ifs,0⟩] scope pos) 0 it acc env).onRaise (fun x=>do noteFrame x env; theTreesLotGoes x)) _ _ s
 refine wpAny_noted (wpAny_noRaise ?_)
 rw [compTurn_list]
 refine Qaa (wpAny_standAt (Qaa (wpAny_mono (turn n s hI) (fun r s₁ h₁=>?_) fun _ _ h'=>h')))
 cases r with
 | none=>exact Qab h₁
 | some v=>
  refine Qaa (wpAny_mono h₁ (fun _ s₁' h₁'=>?_) fun _ _ h'=>h')
  refine Qaa (wpAny_mono h₁' (fun _ s₂ h₂=>Qaa (wpAny_mono h₂ (fun ok s₃ h₃=>?_) fun _ _ h'=>h')) fun _ _ h'=>h')
  cases ok with
  | false=>exact Qab ⟨rfl,h₃⟩
  | true=>
   exact Qaa (Qaa (wpAny_mono h₃ (fun x s₄ h₄=>Qaa (wpAny_mono h₄ (fun _ s₅ h₅=>Qab (Qab ⟨rfl,h₅⟩)) fun _ _ h'=>h')) fun _ _ h'=>h'))
end
noncomputable abbrev aW (X:Cx) (scope:Scope) (N':List Str) (C:Addr) (fp:List Addr) (s₂:Shared) (H₂:Hp) (pl:List (Addr × Obj)):Cx where
 prog:=X.prog
 w:=X.w
 K:=X.K
 mg:=X.mg
 base:=X.base
 A:=X.A
 N:=N'
 s₀:=s₂
 H₀:=H₂
 env:=compEnvC scope (closL X.env scope.names []) C X.env
 outer:=X.stack
 stack:=X.stack
 ex:=fp
 fn:=fun _=>false
 calm:=X.calm
 pn:=X.pn ++ pl
 xe:=fun _ _=>False
structure CompScope (X:Cx) (scope:Scope) (own capN:List Str) (caps:List Nat):Prop where
 kind:scope.kind=.function
 nocell:∀ y ∈ scope.names,y.2 ≠ .cell
 free:∀ y ∈ scope.names,y.2=.free->X.env.kindOf y.1=some .cell\/X.env.kindOf y.1=some .free
 loc:∀ y ∈ scope.names,y.2=.local->scope.names.lookup y.1=some .local
 caps:caps.map (fun j=>X.N[j]?)=capN.map some
 capf:∀ x ∈ capN,scope.names.lookup x=some .free
noncomputable def liftC (own:List Str) (caps:List Nat) (σ:St):St:=own.map (fun _=>none) ++ caps.map (fun j=>(σ[j]?).getD none)
section
variable {X:Cx} {scope:Scope} {own capN:List Str} {caps:List Nat}
theorem CompScope.cells (S:CompScope X scope own capN caps) (ok:X.Ok):∀ y ∈ scope.names,y.2=.free->(X.env.cells.lookup y.1).isSome=true:=fun y hy hf=>by
 obtain ⟨c,hc⟩:=ok.has y.1 (S.free y hy hf)
 rw [hc]; rfl
theorem CompScope.cl (S:CompScope X scope own capN caps) (ok:X.Ok) {x:Str} {c:Addr} (h:(closL X.env scope.names []).lookup x=some c):X.env.cells.lookup x=some c:=
 jo (S.cells ok) (fun _ e=>by simp at e) h
theorem vh {pins:List (Addr × Obj)} {σ:St} {H₂:Hp} {s₂:Shared} {h₁:Heap} {C:Addr} {fp:List Addr} {tk:Nat} {m:Str->Option Value} (S:CompScope X scope own capN caps) (I:Inv X pins σ H₂ s₂)
  (hf:∀ b ∈ fp,gX X pins H₂ b) (hfo:∀ b ∈ fp,b < s₂.heap.objs.size) (hC:s₂.heap.objs.size<=C) (hk:∀ b o,s₂.heap.get? b=some o->h₁.get? b=some o) (hn:h₁.Ns C m) :
  Inv (aW X scope (own ++ capN) C fp s₂ H₂ pins) [] (liftC own caps σ) H₂ { s₂ with heap:=h₁,toks:=tk }:=by
 have cl:=fun {x:Str} {c:Addr}=>S.cl (x:=x) (c:=c) I.ok
 have kindRel:∀ x,((relabel scope X.env).names.lookup x=some .cell\/(relabel scope X.env).names.lookup x=some .free)->scope.names.lookup x=some .free:=fun x hx=>by
  cases e:scope.names.lookup x with
  | none=>
   have z:(relabel scope X.env).names.lookup x=none:=jQ (env:=X.env) e
   rw [z] at hx
   rcases hx with q | q <;> cases q
  | some k=>
   rcases jp (env:=X.env) e with z | ⟨z,_⟩
   ·have z':(relabel scope X.env).names.lookup x=some k:=z
    rw [z'] at hx
    rcases hx with q | q
    ·cases q; exact absurd rfl (S.nocell _ (PySem.mem_of_lookup e))
    ·cases q; rfl
   ·rw [z]
 have stk:∀ b,b ≠ X.env.locals->b ∉ X.fs->b ∉ frs X.stack:=fun b h1 h2 z=>(List.mem_cons.mp (I.stkSub b z)).elim h1 h2
 refine ⟨⟨I.ok.mod,S.kind,I.ok.glob,I.ok.blt,hC,fun x y c h1 h2=>I.ok.inj x y c (cl h1) (cl h2),fun x hx=>?_,fun x c h _=>(by cases h),I.ok.hd,I.ok.frames,.inl rfl,fun b hb=>⟨?_,fun x c h=>(hf b hb).2.2.2.2.1 x c (cl h)⟩,
   I.bs,Nat.le_trans I.ok.bsz I.sz,fun b o e hb=>?_,fun b hb=>stk b (hf b hb).2.1 (hf b hb).2.2.1,I.stack,I.stkFree⟩,
  rfl,I.bare,Un.kept hk,⟨m,hn,fun i x v h1 h2 h3=>?_⟩,fun x c h=>?_,I.hok.fresh hC,fun x c h=>I.freeC x c (cl h),fun p hp=>?_,I.hok.kept hk,?_⟩
 ·have q:=kindRel x hx
  exact Option.isSome_iff_exists.mp (iS (env:=X.env) (.inl (PySem.mem_of_lookup q)))
 ·exact Nat.ne_of_lt (Nat.lt_of_lt_of_le (hfo b hb) hC)
 ·rcases (hf b hb).2.2.2.1 with z | z
  ·exact I.ok.noex b o e z
  ·exact absurd (Nat.lt_of_lt_of_le (Qad (I.ok.bs b o e).1) z) (Nat.lt_irrefl _)
 ·
  have hi:own.length<=i:=by
   refine Nat.le_of_not_lt fun hlt=>?_
   unfold liftC at h2
   rw [List.getElem?_append_left (by simpa using hlt),List.getElem?_map] at h2
   cases q:own[i]? with
   | none=>rw [q] at h2; cases h2
   | some y=>rw [q] at h2; cases h2
  have h1':capN[i - own.length]? = some x:=by
   have:(own ++ capN)[i]? = some x:=h1
   rwa [List.getElem?_append_right hi] at this
  have h2':(caps.map (fun j=>(σ[j]?).getD none))[i - own.length]? = some (some v):=by
   unfold liftC at h2
   rwa [List.getElem?_append_right (by simpa using hi),List.length_map] at h2
  rw [List.getElem?_map] at h2'
  obtain ⟨j,hj,hj2⟩:=Option.map_eq_some_iff.mp h2'
  have hX:X.N[j]? = some x:=by
   have q:=congrArg (fun l=>l[i - own.length]?) S.caps
   simp only [List.getElem?_map,hj,h1',Option.map_some] at q
   exact Option.some.inj q
  have hσ:σ[j]? = some (some v):=by
   cases q:σ[j]? with
   | none=>rw [q] at hj2; cases hj2
   | some z=>rw [q] at hj2; simp at hj2; rw [hj2]
  have hfr:=S.capf x (List.mem_of_getElem? h1')
  have hmem:(x,NameKind.free) ∈ scope.names:=PySem.mem_of_lookup hfr
  have hkX:=S.free _ hmem rfl
  obtain ⟨m',hm',hl⟩:=I.loc
  obtain ⟨u,ru,l⟩:=hl j x v hX hσ (hkX.elim (fun q=>.inr (.inl q)) fun q=>.inr (.inr q))
  refine ⟨u,ru,.inr ⟨?_,?_⟩⟩
  ·rcases jp (env:=X.env) hfr with z | ⟨_,z⟩
   ·exact .inr z
   ·exact .inl z
  ·rcases l with ⟨l,_⟩ | ⟨_,c,hc,hcell⟩
   ·have l':X.env.kindOf x=some .local:=l
    rcases hkX with q | q <;> (rw [l'] at q; cases q)
   ·obtain ⟨c',hc'⟩:=Option.isSome_iff_exists.mp (iS (env:=X.env) (acc:=[]) (.inl hmem))
    have:=cl hc'
    rw [hc] at this
    cases this
    obtain ⟨o,ho,hd⟩:=hcell
    exact ⟨c,hc',o,hk c o ho,hd⟩
 ·obtain ⟨v,o,ho,hd⟩:=I.cell x c (cl h)
  exact ⟨v,o,hk c o ho,hd⟩
 ·have hp':p ∈ X.pn ++ pins:=by simpa using hp
  obtain ⟨e,n,ne,nf,d⟩:=I.pin p hp'
  exact ⟨hk _ _ e,n,Nat.ne_of_lt (Nat.lt_of_lt_of_le (Qad e) hC),stk p.1 ne nf,d⟩
 ·unfold liftC
  have hl:=congrArg List.length S.caps
  simp only [List.length_map] at hl
  show (own.map (fun _=>(none:Option V)) ++ caps.map (fun j=>(σ[j]?).getD none)).length=(own ++ capN).length
  rw [List.length_append,List.length_append,List.length_map,List.length_map,hl]
end
noncomputable def PTs (X:Cx) (ifs:List Expr) (t:TT):Prop:=
 ∀ (pins:List (Addr × Obj)) (s:Shared) (σ:St) (H:Hp) (Q:Bool->Hp->Prop),Inv X pins σ H s->t σ H Q->
  wpAny (model X.prog X.w) X.A (forIn ifs true fun c r=>if r=true then do let ok <-isTrue c X.env (eval c X.env); pure (ForInStep.yield ok) else pure (ForInStep.yield r)) (TP X pins σ Q) X.xe s
noncomputable def tYes:TT:=fun _ H Q=>Q true H
theorem xk {X:Cx}:PTs X [] tYes:=fun _ _ _ H _ I h=>wpAny_tests_nil ⟨H,I,h⟩
theorem xl {X:Cx} {c:Expr} {t:TT} (h:PT X c t):PTs X [c] t:=fun pins s σ H Q I q=>wpAny_tests_one (h pins s σ H Q I q)
noncomputable def tComp (own:List Str) (caps:List Nat) (wi:TI) (g:TG) (tc:TT) (te:TE):TE:=fun σ H Q=>wi σ H fun J H1=>∃ W:Nat->Nat->List V->St->Hp->Prop,(∃ m,W 0 m [] (liftC own caps σ) H1)/\∀ i m ys σ' H,W i m ys σ' H->
 (J.stop i H/\ys.length<=sizeLine/\∀ p,H p=none->Q (.ref p) (upd H p (.lst ys)))\/
 (J.go i H/\∀ x H',J.yld i H x H'->g x σ' H' fun σ2 H2=>tc σ2 H2 fun b H3=>if b=true then te σ2 H3 fun y H4=>ys.length < sizeLine/\∃ m',m' < m/\W (i + 1) m' (ys ++ [y]) σ2 H4 else ∃ m',m' < m/\W (i + 1) m' ys σ2 H3)
section
variable {X:Cx} {scope:Scope} {own capN:List Str} {caps:List Nat} {tg iter elt:Expr} {ifs:List Expr} {wi:TI} {g:TG} {tc:TT} {te:TE} {pos:Pos}
theorem nF {pins:List (Addr × Obj)} {σ:St} {H:Hp} {s:Shared} {Q:VK} {RR:Value->Addr->Result->Shared->Prop} (S:CompScope X scope own capN caps) (hc:X.calm=true) (hi:PI X tg iter wi)
  (hin:∀ C fp s₂ H₂ pl,PG (aW X scope (own ++ capN) C fp s₂ H₂ pl) tg g/\PTs (aW X scope (own ++ capN) C fp s₂ H₂ pl) ifs tc/\PE (aW X scope (own ++ capN) C fp s₂ H₂ pl) elt te)
  (I:Inv X pins σ H s) (h:tComp own caps wi g tc te σ H Q)
  (hRR:∀ (D C:Addr) (s':Shared) (H':Hp) (m:Str->Option Value),Inv X pins σ H' s'->gX X pins H' C->s'.heap.Ns C m->Q (.ref D) H'->RR (.ref D) C (.ok .next) s') :
  wpAny (model X.prog X.w) X.A (eval iter X.env) (fun x s₁=>wpAny (model X.prog X.w) X.A (pyIter x) (fun it s₂=>wpAny (model X.prog X.w) X.A (newList []) (fun acc s₃=>
   wpAny (model X.prog X.w) X.A (newFunctionEnv scope X.env.globals (closL X.env scope.names []) [] X.env.qual none .none (some X.env)) (fun cenv s₄=>
    codeAny (model X.prog X.w) X.A (.compStart (.ListComp elt [⟨tg,iter,ifs,0⟩] scope pos) 0 it acc { cenv with scope:=relabel scope X.env }) (RR acc cenv.locals) s₄) X.xe s₃) X.xe s₂) X.xe s₁) X.xe s:=by
 refine thn (hi pins s σ H _ I h) fun v s1 h1=>thn h1 fun itv s2 h2=>?_
 obtain ⟨it,fp,tn,J,H2,e,I2,T,st2,f2,W,⟨m0,w0⟩,turn⟩:=h2
 subst e
 have hfo:∀ b ∈ fp,b < s2.heap.objs.size:=fun b hb=>by obtain ⟨o,e,_⟩:=T.obj _ _ st2 b hb; exact Qad e
 refine wpAny_newObj_type (wpAny_newFunctionEnv S.nocell (by intro y hy; simp at hy) (fun h₁ hns₁ hsb₁=>?_) S.kind)
 dsimp only at hns₁ hsb₁ ⊢
 generalize hH2:s2.heap.push { cls:=.type "list",dict:=none,data:=.seq ([]:List Value).toArray } = HH at hns₁ hsb₁ ⊢
 have hC:HH.objs.size=s2.heap.objs.size + 1:=by rw [<-hH2,Heap.size_push]
 have hCle:s2.heap.objs.size<=HH.objs.size:=by rw [hC]; exact Nat.le_succ _
 have hDC:s2.heap.objs.size ≠ HH.objs.size:=by rw [hC]; exact Nat.ne_of_lt (Nat.lt_succ_self _)
 have below:∀ b,b < s2.heap.objs.size->b ≠ HH.objs.size:=fun b hb=>by rw [hC]; exact Nat.ne_of_lt (Nat.lt_succ_of_lt hb)
 have old:∀ b o,s2.heap.get? b=some o->h₁.get? b=some o:=fun b o e=>hsb₁.extBut b o (below b (Qad e)) (Qac _ (hH2 ▸ Qac _ e))
 have hacc:h₁.get? s2.heap.objs.size=some { cls:=.type "list",dict:=none,data:=.seq ([]:List Value).toArray }:=hsb₁.extBut _ _ hDC (Qac _ (hH2 ▸ Heap.get?_push_size _ rfl))
 generalize hCe:HH.objs.size=C at hns₁ hDC hCle below ⊢
 generalize hDe:s2.heap.objs.size=D at hacc hDC ⊢
 clear hsb₁ hH2 hC hCe HH
 obtain ⟨hg,ht,he⟩:=hin C fp s2 H2 pins
 have Ic:Inv (aW X scope (own ++ capN) C fp s2 H2 pins) [] (liftC own caps σ) H2 { s2 with heap:=h₁,toks:=s2.toks + ([]:List (Str × Value)).length }:=vh S I2 f2 hfo (by rw [hDe]; rw [hDe] at hCle; exact hCle) old hns₁
 have cellsD:∀ x c,(closL X.env scope.names []).lookup x=some c->c ≠ D:=fun x c e z=>by
  obtain ⟨v,q⟩:=I2.cell x c (S.cl I2.ok e)
  exact absurd q.lt (by rw [z,hDe]; exact Nat.lt_irrefl _)
 have DnotFs:D ∉ frs X.stack:=fun z=>by
  rcases List.mem_cons.mp (I2.stkSub D z) with q | q
  ·exact absurd I2.lt (by rw [<-q,hDe]; exact Nat.lt_irrefl _)
  ·exact I2.nofs (by rw [hDe]; exact Qae _) q
 have DnotPin:∀ p ∈ X.pn ++ pins,p.1 ≠ D:=fun p hp z=>absurd (Qad (I2.pin p hp).1) (by rw [z,hDe]; exact Nat.lt_irrefl _)
 have pinD:∀ {σ':St} {H':Hp} {s':Shared} {us:List Value} {k:Nat},Inv (aW X scope (own ++ capN) C fp s2 H2 pins) [] σ' H' s'->s'.heap.get? D=some { cls:=.type "list",data:=.seq us.toArray k }->H' D=none->
   Inv (aW X scope (own ++ capN) C fp s2 H2 pins) [(D,{ cls:=.type "list",data:=.seq us.toArray k })] σ' H' s':=fun J e n=>J.pins_of fun p hp=>by
  obtain rfl:=List.mem_singleton.mp hp
  exact ⟨e,n,hDC,DnotFs,fun v z=>by cases z⟩
 have fpc:∀ {H':Hp} {o:Obj},(∀ b ∈ fp,H' b=none)->∀ b ∈ fp,gX (aW X scope (own ++ capN) C fp s2 H2 pins) [(D,o)] H' b:=fun hn b hb=>by
  obtain ⟨f0,f1,f2',f3,f4,f5⟩:=f2 b hb
  refine ⟨hn b hb,Nat.ne_of_lt (Nat.lt_of_lt_of_le (hfo b hb) (by rw [hDe]; rw [hDe] at hCle; exact hCle)),fun z=>(List.mem_cons.mp (I2.stkSub b z)).elim f1 f2',.inl hb,fun x c e=>f4 x c (S.cl I2.ok e),fun p hp=>?_⟩
  rcases List.mem_append.mp hp with hp | hp
  ·exact f5 p hp
  ·obtain rfl:=List.mem_singleton.mp hp
   intro z
   have z':D=b:=z
   exact absurd (hfo b hb) (by rw [<-z',hDe]; exact Nat.lt_irrefl _)
 have loop:codeAny (model X.prog X.w) X.A (.compLoop (.ListComp elt [⟨tg,iter,ifs,0⟩] scope pos) 0 (.ref it) (.ref D) (compEnvC scope (closL X.env scope.names []) C X.env)) (RR (.ref D) C) { s2 with heap:=h₁,toks:=s2.toks + ([]:List (Str × Value)).length }:=by
  refine oX (fun n s'=>∃ i ys us k σ' H',Inv (aW X scope (own ++ capN) C fp s2 H2 pins) [(D,{ cls:=.type "list",data:=.seq us.toArray k })] σ' H' s'/\tn i s'.heap/\(∀ b ∈ fp,H' b=none)/\Vals ys us/\W i n ys σ' H') ?_ m0
   ⟨0,[],[],0,_,H2,pinD Ic hacc (I2.hok.fresh (by rw [hDe]; exact Qae _)),T.keep _ _ _ st2 fun b _ o e=>old b o e,fun b hb=>(f2 b hb).1,.nil,w0⟩
  rintro n s3 ⟨i,ys,us,k,σ3,H3,I3,st3,fr3,r3,w3⟩
  rcases turn i n ys σ3 H3 w3 with ⟨stop,hz,qn⟩ | ⟨go,step⟩
  ·refine thn (T.done (aW X scope (own ++ capN) C fp s2 H2 pins) rfl rfl rfl hc i _ s3 σ3 H3 _ I3 (fpc fr3) st3 stop) fun r s4 ⟨hr,I4⟩=>?_
   subst hr
   obtain ⟨eD,nD,_⟩:=I4.pin (D,_) (Qai _ (List.mem_singleton.mpr rfl))
   have nD':H3 D=none:=nD
   have I5:Inv X pins σ (upd H3 D (.lst ys)) s4:=by
    refine I2.call' (ch:=fp) I4.os ⟨I4.base.keep,I4.base.slot,fun b o e n hx=>?_,I4.base.there,fun b xs e=>?_,fun b o u e=>?_,fun b ps e=>?_⟩ (fun b u e=>?_) I4.bare fun b hb=>⟨(f2 b hb).2.2.2.1,(f2 b hb).2.1,(f2 b hb).2.2.2.2.1,(f2 b hb).2.2.2.2.2⟩
    ·rw [aU (by intro z; exact absurd (Qad e) (by rw [z,hDe]; exact Nat.lt_irrefl _))]
     exact I4.base.free b o e n hx
    ·have q:=I4.base.tups b xs e
     rw [aU (bQ q nD')]; exact q
    ·have q:=I4.base.frzs b o u e
     rw [aU (bQ q nD')]; exact q
    ·obtain ⟨more,q⟩:=I4.base.tbls b ps e
     exact ⟨more,by rw [aU (bQ q nD')]; exact q⟩
    ·by_cases hb:b=D
     ·subst hb
      rw [bP] at e; cases e
      exact ⟨hz,us,k,r3,eD⟩
     ·rw [aU hb] at e
      exact (I4.hok b u e).stay (fun _ _ _ q=>q) (fun c q=>by rw [aU (bQ q nD')]; exact q) fun c xs q=>by rw [aU (bQ q nD')]; exact q
   obtain ⟨m,hm,_⟩:=I4.loc
   exact hRR D C s4 _ m I5 (I2.fpOk (by rw [hDe]; rw [hDe] at hCle; exact hCle) (by rw [aU (Ne.symm hDC)]; exact I4.free)) hm (qn D nD')
  ·refine thn (T.item (aW X scope (own ++ capN) C fp s2 H2 pins) rfl rfl rfl hc i _ s3 σ3 H3 _ I3 (fpc fr3) st3 go) fun r s4 ⟨u,hr,h4⟩=>?_
   subst hr
   refine thn h4 fun _ s5 ⟨x,H5,I5,r5,y5,st5,fr5⟩=>?_
   have I5':=I5.pinned (fpc fr5) (T.obj _ _ st5)
   refine thn (hg _ s5 σ3 H5 x u _ I5' r5 (step x H5 y5)) fun _ s6 ⟨σ6,H6,I6,q6⟩=>?_
   refine thn (ht _ s6 σ6 H6 _ I6 q6) fun ok s7 ⟨H7,I7,q7⟩=>?_
   have back:∀ {σ8:St} {H8:Hp} {s8:Shared},Inv (aW X scope (own ++ capN) C fp s2 H2 pins) ([(D,{ cls:=.type "list",data:=.seq us.toArray k })] ++ jN fp s5.heap) σ8 H8 s8->tn (i + 1) s8.heap/\(∀ b ∈ fp,H8 b=none):=fun {σ8 H8 s8} I8=>by
    refine ⟨T.keep _ _ _ st5 fun b hb o e=>(I8.pin (b,o) (Qai _ (Qai _ (hV hb e)))).1,fun b hb=>?_⟩
    obtain ⟨o,e,d⟩:=T.obj _ _ st5 b hb
    exact (I8.pin (b,o) (Qai _ (Qai _ (hV hb e)))).2.1
   cases ok with
   | false=>
    obtain ⟨m',hm,w7⟩:=q7
    obtain ⟨t7,n7⟩:=back I7
    exact ⟨m',hm,i + 1,ys,us,k,σ6,H7,I7.unpinned,t7,n7,r3,w7⟩
   | true=>
    refine thn (he _ s7 σ6 H7 _ I7 q7) fun u8 s8 ⟨y,H8,I8,r8,hz,m',hm,w8⟩=>?_
    obtain ⟨t8,n8⟩:=back I8
    have I9:=I8.unpinned
    obtain ⟨eD,nD,neD,nfD,_⟩:=I9.pin (D,_) (Qai _ (List.mem_singleton.mpr rfl))
    have hl:=r3.length
    refine call_meets F.slot_list_append ⟨_,eD,rfl⟩ F.entry_list_append (F.args_list_append_2 _ _) (PySem.list_append D us.toArray k u8 (by rw [List.size_toArray]; omega)) ⟨eD,?_⟩
    have q:=PySem.IsL.update eD (fun a=>a.push u8)
    have e2:us.toArray.push u8=(us ++ [u8]).toArray:=by simp
    rw [e2] at q
    have keep:∀ b o,b ≠ D->s8.heap.get? b=some o->(s8.heap.update D (Obj.mapSeq fun a=>a.push u8)).get? b=some o:=fun b o hb e=>(Heap.get?_update_other s8.heap _ (Ne.symm hb)).trans e
    have I10:Inv (aW X scope (own ++ capN) C fp s2 H2 pins) [] σ6 H8 { s8 with heap:=s8.heap.update D (Obj.mapSeq fun a=>a.push u8) }:=by
     refine (I9.pins_of (pins':=[]) fun p hp=>absurd hp (by simp)).turned (t':=s8.toks) (it:=D) keep nD neD (.inr (by rw [hDe]; exact Qae _)) cellsD fun p hp=>?_
     exact DnotPin p (by simpa using hp)
    exact ⟨m',hm,i + 1,ys ++ [y],us ++ [u8],_,σ6,H8,pinD I10 q nD,T.keep _ _ _ t8 fun b hb o e=>keep b o (by intro z; exact absurd (hfo b hb) (by rw [z,hDe]; exact Nat.lt_irrefl _)) e,n8,r3.append (.cons r8 .nil),w8⟩
 exact codeAny_compStart_list loop (wpAny_noRaise (T.self _ 0 _ _ _ (T.keep _ _ _ st2 fun b _ o e=>old b o e) loop))
theorem xm (S:CompScope X scope own capN caps) (hc:X.calm=true) (hi:PI X tg iter wi)
  (hin:∀ C fp s₂ H₂ pl,PG (aW X scope (own ++ capN) C fp s₂ H₂ pl) tg g/\PTs (aW X scope (own ++ capN) C fp s₂ H₂ pl) ifs tc/\PE (aW X scope (own ++ capN) C fp s₂ H₂ pl) elt te)
  (hs:∀ x,foldedSetIterable iter X.env x=pure x:=by intro _; rfl):PE X (.ListComp elt [⟨tg,iter,ifs,0⟩] scope pos) (tComp own caps wi g tc te):=by
 intro pins s σ H Q I h
 rw [eval_ListComp]
 refine wpAny_comprehension_free (use:=none) rfl hs (ir (S.cells I.ok)) S.kind S.loc ?_
 refine nF S hc hi hin I h fun D C s' H' m I' f hm q=>⟨m,hm,fun h' hs'=>?_⟩
 exact ⟨.ref D,H',I'.turned (t':=s'.toks) (it:=C) (fun b o hb e=>(hs'.2 b hb).trans e) f.1 f.2.1 f.2.2.2.1 f.2.2.2.2.1 f.2.2.2.2.2,rfl,q⟩
theorem rS {i:Nat} {y:Str} {py spos:Pos} (hN:X.N.Nodup) (hi':X.N[i]? = some y) (hx:Loc X.env.scope y) (S:CompScope X scope own capN caps) (hc:X.calm=true) (hi:PI X tg iter wi)
  (hin:∀ C fp s₂ H₂ pl,PG (aW X scope (own ++ capN) C fp s₂ H₂ pl) tg g/\PTs (aW X scope (own ++ capN) C fp s₂ H₂ pl) ifs tc/\PE (aW X scope (own ++ capN) C fp s₂ H₂ pl) elt te)
  (hsw:swapsWith (.ListComp elt [⟨tg,iter,ifs,0⟩] scope pos) (some (.Name y py)) spos.line X.env=pure true:=by rfl)
  (hs:∀ x,foldedSetIterable iter X.env x=pure x:=by intro _; rfl) (hf:X.fn y=true\/X.env.scope.names.lookup y=some .local:=by first | exact .inl rfl | exact .inr rfl | assumption) :
  PS X (.Assign [.Name y py] (.ListComp elt [⟨tg,iter,ifs,0⟩] scope pos) spos) (u0 (tComp own caps wi g tc te) (oE i)):=by
 intro pins s σ H D I h
 rw [exec_Assign_Name_used _ _ _ _ hsw]
 refine Qaa (wpAny_standAt (Qaa ?_))
 show wpAny _ X.A (do let _ <-comprehension (.ListComp elt [⟨tg,iter,ifs,0⟩] scope pos) scope X.env _ (newList []) false (eval iter X.env) (some (assign (.Name y py) X.env))) _ _ s
 refine Qaa (wpAny_mono (wpAny_comprehension_free (use:=some (assign (.Name y py) X.env)) (Q:=fun _ s'=>SP X pins D .next s') rfl hs (ir (S.cells I.ok)) S.kind S.loc ?_) (fun _ s' hq=>Qab (Qab hq)) fun _ _ e=>e)
 refine nF S hc hi hin I h fun Da C s' H' m I' f hm q=>?_
 show wpAny _ X.A (assign (.Name y py) X.env (.ref Da)) _ _ _
 refine wpAny_assign_Name (ny I' hN hi' hx (v:=.ref Da) rfl (fun s2 I2 ⟨a,sb,ha⟩=>⟨m,?_,fun h' hs'=>?_⟩) hf)
 ·refine hm.sameBut sb ?_
  rcases ha with z | z
  ·rw [z]; exact f.2.1
  ·exact Ne.symm (f.2.2.2.2.1 y a z)
 ·exact ⟨_,H',I2.turned (t':=s2.toks) (it:=C) (fun b o hb e=>(hs'.2 b hb).trans e) f.1 f.2.1 f.2.2.2.1 f.2.2.2.2.1 f.2.2.2.2.2,q⟩
end
open PySem
theorem fj {M:Model} {A:Around} {E:Value->Shared->Prop} {s:Shared} {a:Addr} {Q:Option Obj->Shared->Prop} (h:Q (s.heap.get? a) s):wpAny M A (loadIfAlive a) Q E s:=by
 intro Γ p hΓ
 unfold loadIfAlive
 rw [Sem.wp_loadIfAlive]
 exact Qab h Γ p hΓ
noncomputable abbrev cA (h:Heap) (z TI TO:Addr) (f0 f1:Value):Prop:=
 h.get? z=some { cls:=.type "zip",dict:=none,data:=.fields #[f0,f1,.bool false,.ref TI,.ref TO],slots:=#[] }
noncomputable abbrev bt (h:Heap) (T:Addr) (a b c:Value):Prop:=h.get? T=some { cls:=.type "tuple",data:=.seq #[a,b,c] }
section
variable {prog:Program} {w:World} {A:Around} {E:Value->Shared->Prop} {s:Shared}
theorem gy {T:Addr} {a b c x:Value} {k:Nat} {Q:Unit->Shared->Prop} (hT:bt s.heap T a b c)
  (h:∀ h',h'.get? T=some { cls:=.type "tuple",data:=.seq ((#[a,b,c]:Array Value).setIfInBounds k x) }->Heap.SameBut T s.heap h'->Q () { s with heap:=h' }) :
  wpAny (model prog w) A (updateSeq T (·.setIfInBounds k x)) Q E s:=by
 refine wpAny_updateSeq hT rfl (h _ ?_ (Heap.SameBut.update ..))
 rw [Heap.get?_update_self _ hT rfl]
 simp [Obj.mapSeq]
theorem rT {z TI TO i1 i2 i3 l1 l2 l3:Addr} {k:Nat} {xs ys zs:Array Value} {x y v a b c:Value} {Q:Value->Shared->Prop}
  (nd:[z,TI,TO,i1,i2,i3].Nodup) (hl:∀ l ∈ [l1,l2,l3],∀ j ∈ [z,TI,TO,i1,i2,i3],l ≠ j)
  (hz:cA s.heap z TI TO .none (.bool false)) (hTI:bt s.heap TI (.ref i1) (.ref i2) (.ref i3)) (hTO:bt s.heap TO a b c)
  (h1:s.heap.IsListIter i1 l1 k) (h2:s.heap.IsListIter i2 l2 k) (h3:s.heap.IsListIter i3 l3 k) (hl1:s.heap.IsList l1 xs) (hl2:s.heap.IsList l2 ys) (hl3:s.heap.IsList l3 zs)
  (hx:xs[k]? = some x) (hy:ys[k]? = some y) (hv:zs[k]? = some v)
  (hQ:∀ h',cA h' z TI TO (rawInt s.heap.objs.size) (.bool false)->bt h' TO x y v->h'.IsListIter i1 l1 (k + 1)->h'.IsListIter i2 l2 (k + 1)->h'.IsListIter i3 l3 (k + 1)->bt h' s.heap.objs.size x y v->h'.objs.size=s.heap.objs.size + 1->
   (∀ c o,c ∉ [z,TO,i1,i2,i3]->s.heap.get? c=some o->h'.get? c=some o)->Q (.ref s.heap.objs.size) { s with heap:=h' }) :
  wpAny (model prog w) A (Builtin.«zip.__next__» ⟨[.ref z],[]⟩) (fun fin s'=>∃ v,fin=.done (.ret v)/\Q v s') E s:=by
 simp only [List.nodup_cons,List.mem_cons,List.not_mem_nil,or_false,not_or,not_false_eq_true,and_true,List.nodup_nil] at nd
 obtain ⟨⟨zTI,zTO,z1,z2,z3⟩,⟨TITO,TI1,TI2,TI3⟩,⟨TO1,TO2,TO3⟩,⟨i12,i13⟩,i23⟩:=nd
 have n1:∀ j ∈ [z,TI,TO,i1,i2,i3],l1 ≠ j:=hl l1 (by simp)
 have n2:∀ j ∈ [z,TI,TO,i1,i2,i3],l2 ≠ j:=hl l2 (by simp)
 have n3:∀ j ∈ [z,TI,TO,i1,i2,i3],l3 ≠ j:=hl l3 (by simp)
 show wpAny _ _ (field (.ref z) 2 >>= _) _ _ _
 refine Qaa (wpAny_field hz rfl (x:=.bool false) rfl ?_)
 show wpAny _ _ (field (.ref z) 3 >>= _) _ _ _
 refine Qaa (wpAny_field hz rfl (x:=.ref TI) rfl ?_)
 refine Qaa (wpAny_seqItems hTI rfl ?_)
 show wpAny _ _ (Builtin.SmallTypes.ownedTupleIsFree (.ref z) >>= _) _ _ _
 refine Qaa ?_
 unfold Builtin.SmallTypes.ownedTupleIsFree
 refine Qaa (wpAny_field hz rfl (x:=.none) rfl (Qab ?_))
 simp only [if_true]
 refine Qaa (wpAny_rule ?_)
 refine Qaa (wpAny_field hz rfl (x:=.ref TO) rfl ?_)
 refine Qaa (wpAny_setField_rec hz (by simp) fun h₁ hz₁ hs₁=>?_)
 replace hz₁:cA h₁ z TI TO .ellipsis (.bool false):=hz₁
 refine Qaa ?_
 simp only [List.zipIdx_cons,List.zipIdx_nil,List.forIn_cons,List.forIn_nil]
 refine Qaa (Qaa (wpAny_onRaise ?_))
 show wpAny _ _ (Builtin.SmallTypes.nextOf (.ref i1) >>= _) _ _ _
 refine Qaa (wpAny_nextOf_list_item (h1.extBut hs₁.extBut (Ne.symm z1)) (hl1.extBut hs₁.extBut (n1 z (by simp))) hx fun h₂ h1₂ hs₂=>Qab ?_)
 have hTO₂:bt h₂ TO a b c:=hs₂.extBut _ _ TO1 (hs₁.extBut _ _ (Ne.symm zTO) hTO)
 refine Qaa (wpAny_seqItems hTO₂ rfl ?_)
 refine Qaa (gy hTO₂ fun h₃ hTO₃ hs₃=>?_)
 replace hTO₃:bt h₃ TO x b c:=hTO₃
 refine Qaa (wpAny_letGo (Qab ?_))
 refine Qaa (Qaa (wpAny_onRaise ?_))
 show wpAny _ _ (Builtin.SmallTypes.nextOf (.ref i2) >>= _) _ _ _
 refine Qaa (wpAny_nextOf_list_item (((h2.extBut hs₁.extBut (Ne.symm z2)).extBut hs₂.extBut (Ne.symm i12)).extBut hs₃.extBut (Ne.symm TO2))
  (((hl2.extBut hs₁.extBut (n2 z (by simp))).extBut hs₂.extBut (n2 i1 (by simp))).extBut hs₃.extBut (n2 TO (by simp))) hy fun h₄ h2₄ hs₄=>Qab ?_)
 have hTO₄:bt h₄ TO x b c:=hs₄.extBut _ _ TO2 hTO₃
 refine Qaa (wpAny_seqItems hTO₄ rfl ?_)
 refine Qaa (gy hTO₄ fun h₅ hTO₅ hs₅=>?_)
 replace hTO₅:bt h₅ TO x y c:=hTO₅
 refine Qaa (wpAny_letGo (Qab ?_))
 refine Qaa (Qaa (wpAny_onRaise ?_))
 show wpAny _ _ (Builtin.SmallTypes.nextOf (.ref i3) >>= _) _ _ _
 refine Qaa (wpAny_nextOf_list_item (((((h3.extBut hs₁.extBut (Ne.symm z3)).extBut hs₂.extBut (Ne.symm i13)).extBut hs₃.extBut (Ne.symm TO3)).extBut hs₄.extBut (Ne.symm i23)).extBut hs₅.extBut (Ne.symm TO3))
  (((((hl3.extBut hs₁.extBut (n3 z (by simp))).extBut hs₂.extBut (n3 i1 (by simp))).extBut hs₃.extBut (n3 TO (by simp))).extBut hs₄.extBut (n3 i2 (by simp))).extBut hs₅.extBut (n3 TO (by simp))) hv fun h₆ h3₆ hs₆=>Qab ?_)
 have hTO₆:bt h₆ TO x y c:=hs₆.extBut _ _ TO3 hTO₅
 refine Qaa (wpAny_seqItems hTO₆ rfl ?_)
 refine Qaa (gy hTO₆ fun h₇ hTO₇ hs₇=>?_)
 replace hTO₇:bt h₇ TO x y v:=hTO₇
 refine Qaa (wpAny_letGo (Qab (Qab ?_)))
 refine Qaa (wpAny_seqItems hTO₇ rfl ?_)
 refine Qaa (wpAny_newTuple ?_)
 have up₇:∀ c o,c ∉ [z,TO,i1,i2,i3]->s.heap.get? c=some o->h₇.get? c=some o:=fun c o hc e=>by
  simp only [List.mem_cons,List.not_mem_nil,or_false,not_or] at hc
  obtain ⟨c1,c2,c3,c4,c5⟩:=hc
  exact hs₇.extBut _ _ c2 (hs₆.extBut _ _ c5 (hs₅.extBut _ _ c2 (hs₄.extBut _ _ c4 (hs₃.extBut _ _ c2 (hs₂.extBut _ _ c3 (hs₁.extBut _ _ c1 e))))))
 have hsz:h₇.objs.size=s.heap.objs.size:=by rw [hs₇.1,hs₆.1,hs₅.1,hs₄.1,hs₃.1,hs₂.1,hs₁.1]
 have hz₇:cA h₇ z TI TO .ellipsis (.bool false):=hs₇.extBut _ _ zTO (hs₆.extBut _ _ z3 (hs₅.extBut _ _ zTO (hs₄.extBut _ _ z2 (hs₃.extBut _ _ zTO (hs₂.extBut _ _ z1 hz₁)))))
 have h1₇:h₇.IsListIter i1 l1 (k + 1):=((((h1₂.extBut hs₃.extBut (Ne.symm TO1)).extBut hs₄.extBut i12).extBut hs₅.extBut (Ne.symm TO1)).extBut hs₆.extBut i13).extBut hs₇.extBut (Ne.symm TO1)
 have h2₇:h₇.IsListIter i2 l2 (k + 1):=((h2₄.extBut hs₅.extBut (Ne.symm TO2)).extBut hs₆.extBut i23).extBut hs₇.extBut (Ne.symm TO2)
 have h3₇:h₇.IsListIter i3 l3 (k + 1):=h3₆.extBut hs₇.extBut (Ne.symm TO3)
 have hzlt:z < h₇.objs.size:=Qad hz₇
 show wpAny _ _ (Builtin.SmallTypes.ownedTupleHandOut (.ref z) (.ref h₇.objs.size) >>= _) _ _ _
 refine Qaa ?_
 unfold Builtin.SmallTypes.ownedTupleHandOut
 have hz₈:cA (h₇.push { cls:=.type "tuple",data:=.seq #[x,y,v] }) z TI TO .ellipsis (.bool false):=Qac _ hz₇
 refine Qaa (wpAny_setField_rec hz₈ (by simp) fun h₉ hz₉ hs₉=>?_)
 replace hz₉:cA h₉ z TI TO (rawInt h₇.objs.size) (.bool false):=hz₉
 refine wpAny_setField_rec hz₉ (by simp) fun hA hzA hsA=>?_
 replace hzA:cA hA z TI TO (rawInt h₇.objs.size) (.bool false):=hzA
 have up:∀ c o,c ≠ z->h₇.get? c=some o->hA.get? c=some o:=fun c o c1 e=>hsA.extBut _ _ c1 (hs₉.extBut _ _ c1 (Qac _ e))
 have hTA:bt hA h₇.objs.size x y v:=hsA.extBut _ _ (Nat.ne_of_gt hzlt) (hs₉.extBut _ _ (Nat.ne_of_gt hzlt) (Heap.get?_push_size _ rfl))
 have hzA':hA.objs.size=h₇.objs.size + 1:=by rw [hsA.1,hs₉.1,Heap.size_push]
 rw [hsz] at hzA hTA hzA'
 refine Qab ⟨_,rfl,?_⟩
 show Q (.ref h₇.objs.size) _
 rw [hsz]
 exact hQ hA hzA (up _ _ (Ne.symm zTO) hTO₇) (h1₇.at fun o e=>up _ o (Ne.symm z1) e) (h2₇.at fun o e=>up _ o (Ne.symm z2) e) (h3₇.at fun o e=>up _ o (Ne.symm z3) e) hTA hzA' fun c o hc e=>up c o (fun q=>hc (by simp [q])) (up₇ c o hc e)
theorem jR {z TI TO T:Addr} {f1:Value} {oT:Obj} {Q:Bool->Shared->Prop} (hf1:f1=.bool false\/f1=.bool true) (hz:cA s.heap z TI TO (rawInt T) f1) (hT:s.heap.get? T=some oT)
  (hQ:∀ h',cA h' z TI TO (rawInt T) (.bool true)->Heap.SameBut z s.heap h'->Q false { s with heap:=h' }):wpAny (model prog w) A (Builtin.SmallTypes.ownedTupleIsFree (.ref z)) Q E s:=by
 unfold Builtin.SmallTypes.ownedTupleIsFree
 refine Qaa (wpAny_field hz rfl (x:=rawInt T) rfl ?_)
 show wpAny _ _ (loadIfAlive (Int.toNat T) >>= _) _ _ _
 refine Qaa (fj ?_)
 rw [Int.toNat_natCast,hT]
 show wpAny _ _ (field (.ref z) 1 >>= _) _ _ _
 refine Qaa (wpAny_field hz rfl (x:=f1) rfl ?_)
 rcases hf1 with rfl | rfl
 ·show wpAny _ _ (setField (.ref z) 1 (.bool true) >>= _) _ _ _
  exact Qaa (wpAny_setField_rec hz (by simp) fun h₁ hz₁ hs₁=>Qab (hQ h₁ hz₁ hs₁))
 ·exact Qab (hQ s.heap hz (Heap.SameBut.refl ..))
theorem vi {z TI TO i1 i2 i3 l1 l2 l3 T:Addr} {k:Nat} {f1:Value} {oT:Obj} {xs ys zs:Array Value} {x y v:Value} {Q:Value->Shared->Prop}
  (nd:[z,TI,TO,i1,i2,i3].Nodup) (hl:∀ l ∈ [l1,l2,l3],∀ j ∈ [z,TI,TO,i1,i2,i3],l ≠ j) (hf1:f1=.bool false\/f1=.bool true)
  (hz:cA s.heap z TI TO (rawInt T) f1) (hT:s.heap.get? T=some oT) (hTI:bt s.heap TI (.ref i1) (.ref i2) (.ref i3))
  (h1:s.heap.IsListIter i1 l1 k) (h2:s.heap.IsListIter i2 l2 k) (h3:s.heap.IsListIter i3 l3 k) (hl1:s.heap.IsList l1 xs) (hl2:s.heap.IsList l2 ys) (hl3:s.heap.IsList l3 zs)
  (hx:xs[k]? = some x) (hy:ys[k]? = some y) (hv:zs[k]? = some v)
  (hQ:∀ h',cA h' z TI TO (rawInt T) (.bool true)->h'.IsListIter i1 l1 (k + 1)->h'.IsListIter i2 l2 (k + 1)->h'.IsListIter i3 l3 (k + 1)->bt h' s.heap.objs.size x y v->h'.objs.size=s.heap.objs.size + 1->
   (∀ c o,c ∉ [z,i1,i2,i3]->s.heap.get? c=some o->h'.get? c=some o)->Q (.ref s.heap.objs.size) { s with heap:=h' }) :
  wpAny (model prog w) A (Builtin.«zip.__next__» ⟨[.ref z],[]⟩) (fun fin s'=>∃ v,fin=.done (.ret v)/\Q v s') E s:=by
 simp only [List.nodup_cons,List.mem_cons,List.not_mem_nil,or_false,not_or,not_false_eq_true,and_true,List.nodup_nil] at nd
 obtain ⟨⟨zTI,zTO,z1,z2,z3⟩,⟨TITO,TI1,TI2,TI3⟩,⟨TO1,TO2,TO3⟩,⟨i12,i13⟩,i23⟩:=nd
 have n1:∀ j ∈ [z,TI,TO,i1,i2,i3],l1 ≠ j:=hl l1 (by simp)
 have n2:∀ j ∈ [z,TI,TO,i1,i2,i3],l2 ≠ j:=hl l2 (by simp)
 have n3:∀ j ∈ [z,TI,TO,i1,i2,i3],l3 ≠ j:=hl l3 (by simp)
 show wpAny _ _ (field (.ref z) 2 >>= _) _ _ _
 refine Qaa (wpAny_field hz rfl (x:=.bool false) rfl ?_)
 show wpAny _ _ (field (.ref z) 3 >>= _) _ _ _
 refine Qaa (wpAny_field hz rfl (x:=.ref TI) rfl ?_)
 refine Qaa (wpAny_seqItems hTI rfl ?_)
 show wpAny _ _ (Builtin.SmallTypes.ownedTupleIsFree (.ref z) >>= _) _ _ _
 refine Qaa (jR hf1 hz hT fun h₁ hz₁ hs₁=>?_)
 simp only [Bool.false_eq_true,if_false]
 refine Qaa ?_
 simp only [List.forIn_toArray,List.forIn_cons,List.forIn_nil]
 refine Qaa (Qaa (wpAny_holding ?_))
 show wpAny _ _ (Builtin.SmallTypes.nextOf (.ref i1) >>= _) _ _ _
 refine Qaa (wpAny_nextOf_list_item (h1.extBut hs₁.extBut (Ne.symm z1)) (hl1.extBut hs₁.extBut (n1 z (by simp))) hx fun h₂ h1₂ hs₂=>Qab (Qab ?_))
 refine Qaa (Qaa (wpAny_holding ?_))
 show wpAny _ _ (Builtin.SmallTypes.nextOf (.ref i2) >>= _) _ _ _
 refine Qaa (wpAny_nextOf_list_item ((h2.extBut hs₁.extBut (Ne.symm z2)).extBut hs₂.extBut (Ne.symm i12)) ((hl2.extBut hs₁.extBut (n2 z (by simp))).extBut hs₂.extBut (n2 i1 (by simp))) hy fun h₃ h2₃ hs₃=>Qab (Qab ?_))
 refine Qaa (Qaa (wpAny_holding ?_))
 show wpAny _ _ (Builtin.SmallTypes.nextOf (.ref i3) >>= _) _ _ _
 refine Qaa (wpAny_nextOf_list_item (((h3.extBut hs₁.extBut (Ne.symm z3)).extBut hs₂.extBut (Ne.symm i13)).extBut hs₃.extBut (Ne.symm i23)) (((hl3.extBut hs₁.extBut (n3 z (by simp))).extBut hs₂.extBut (n3 i1 (by simp))).extBut hs₃.extBut (n3 i2 (by simp))) hv fun h₄ h3₄ hs₄=>Qab (Qab (Qab ?_)))
 show wpAny _ _ (newTuple [x,y,v] >>= _) _ _ _
 refine Qaa (wpAny_newTuple ?_)
 refine Qab ⟨_,rfl,?_⟩
 have hsz:h₄.objs.size=s.heap.objs.size:=by rw [hs₄.1,hs₃.1,hs₂.1,hs₁.1]
 show Q (.ref h₄.objs.size) { s with heap:=h₄.push { cls:=.type "tuple",data:=.seq #[x,y,v] } }
 have up:∀ c o,c ∉ [z,i1,i2,i3]->s.heap.get? c=some o->h₄.get? c=some o:=fun c o hc e=>by
  simp only [List.mem_cons,List.not_mem_nil,or_false,not_or] at hc
  obtain ⟨c1,c2,c3,c4⟩:=hc
  exact hs₄.extBut _ _ c4 (hs₃.extBut _ _ c3 (hs₂.extBut _ _ c2 (hs₁.extBut _ _ c1 e)))
 rw [hsz]
 refine hQ _ (Qac _ (hs₄.extBut _ _ z3 (hs₃.extBut _ _ z2 (hs₂.extBut _ _ z1 hz₁)))) (((h1₂.extBut hs₃.extBut i12).extBut hs₄.extBut i13).at fun o e=>Qac _ e) ((h2₃.extBut hs₄.extBut i23).at fun o e=>Qac _ e)
  (h3₄.at fun o e=>Qac _ e) ?_ (by rw [Heap.size_push,hsz]) fun c o hc e=>Qac _ (up c o hc e)
 rw [<-hsz]
 exact Heap.get?_push_size _ rfl
theorem vj {z TI TO i1 i2 i3 l1 l2 l3 T:Addr} {k:Nat} {f1:Value} {oT:Obj} {xs:Array Value} {Q:Fin->Shared->Prop} (hh:A.handled=none)
  (nd:[z,TI,TO,i1,i2,i3].Nodup) (hl:∀ l ∈ [l1,l2,l3],∀ j ∈ [z,TI,TO,i1,i2,i3],l ≠ j) (hf1:f1=.bool false\/f1=.bool true)
  (hz:cA s.heap z TI TO (rawInt T) f1) (hT:s.heap.get? T=some oT) (hTI:bt s.heap TI (.ref i1) (.ref i2) (.ref i3))
  (h1:s.heap.IsListIter i1 l1 k) (hl1:s.heap.IsList l1 xs) (hx:xs[k]? = none)
  (hE:∀ h' e,(∀ c o,c ∉ [z,i1]->s.heap.get? c=some o->h'.get? c=some o)->(∃ o,h'.get? e=some o/\o.cls=.type "StopIteration")->E (.ref e) { s with heap:=h' }) :
  wpAny (model prog w) A (Builtin.«zip.__next__» ⟨[.ref z],[]⟩) Q E s:=by
 simp only [List.nodup_cons,List.mem_cons,List.not_mem_nil,or_false,not_or,not_false_eq_true,and_true,List.nodup_nil] at nd
 obtain ⟨⟨zTI,zTO,z1,z2,z3⟩,⟨TITO,TI1,TI2,TI3⟩,⟨TO1,TO2,TO3⟩,⟨i12,i13⟩,i23⟩:=nd
 have n1:∀ j ∈ [z,TI,TO,i1,i2,i3],l1 ≠ j:=hl l1 (by simp)
 show wpAny _ _ (field (.ref z) 2 >>= _) _ _ _
 refine Qaa (wpAny_field hz rfl (x:=.bool false) rfl ?_)
 show wpAny _ _ (field (.ref z) 3 >>= _) _ _ _
 refine Qaa (wpAny_field hz rfl (x:=.ref TI) rfl ?_)
 refine Qaa (wpAny_seqItems hTI rfl ?_)
 show wpAny _ _ (Builtin.SmallTypes.ownedTupleIsFree (.ref z) >>= _) _ _ _
 refine Qaa (jR hf1 hz hT fun h₁ hz₁ hs₁=>?_)
 simp only [Bool.false_eq_true,if_false]
 refine Qaa ?_
 simp only [List.forIn_toArray,List.forIn_cons,List.forIn_nil]
 refine Qaa (Qaa (wpAny_holding ?_))
 show wpAny _ _ (Builtin.SmallTypes.nextOf (.ref i1) >>= _) _ _ _
 refine Qaa (wpAny_nextOf_list_end hh (h1.extBut hs₁.extBut (Ne.symm z1)) (hl1.extBut hs₁.extBut (n1 z (by simp))) hx fun h₂ e hs₂ he=>?_)
 refine hE h₂ e (fun c o hc x=>?_) he
 simp only [List.mem_cons,List.not_mem_nil,or_false,not_or] at hc
 exact hs₂ _ _ hc.2 (hs₁.extBut _ _ hc.1 x)
end
structure Z3 (h:Heap) (z TI TO i1 i2 i3 l1 l2 l3:Addr) (xs ys zs:Array Value) (S:Addr) (i:Nat):Prop where
 zrec:∃ (f0 f1:Value),cA h z TI TO f0 f1/\(f1=.bool false\/f1=.bool true)/\((i=0/\f0=.none/\f1=.bool false)\/(0 < i/\∃ (T:Addr) (oT:Obj),f0=rawInt T/\h.get? T=some oT/\T ∉ [S,z,TO,i1,i2,i3]))
 ti:bt h TI (.ref i1) (.ref i2) (.ref i3)
 to:∃ a b c,bt h TO a b c
 h1:h.IsListIter i1 l1 i
 h2:h.IsListIter i2 l2 i
 h3:h.IsListIter i3 l3 i
 l1:h.IsList l1 xs
 l2:h.IsList l2 ys
 l3:h.IsList l3 zs
noncomputable def oF (h:Heap) (n:Addr) (xs ys zs:Array Value) (acc:List Value):Prop:=
 ∀ (j:Nat) (v:Value),acc[j]? = some v->∃ (T:Addr) (x y u:Value),v=Value.ref T/\n<=T/\bt h T x y u/\xs[j]? = some x/\ys[j]? = some y/\zs[j]? = some u
section
variable {prog:Program} {w:World} {A:Around} {E:Value->Shared->Prop} {s:Shared}
theorem kR {z TI TO i1 i2 i3 l1 l2 l3 S:Addr} {i:Nat} {xs ys zs:Array Value} {x y v:Value} {Q:Option Value->Shared->Prop}
  (nd:[z,TI,TO,i1,i2,i3].Nodup) (hl:∀ l ∈ [l1,l2,l3],∀ j ∈ [z,TI,TO,i1,i2,i3],l ≠ j) (st:Z3 s.heap z TI TO i1 i2 i3 l1 l2 l3 xs ys zs S i) (hS:S < s.heap.objs.size)
  (hx:xs[i]? = some x) (hy:ys[i]? = some y) (hv:zs[i]? = some v)
  (hQ:∀ h',Z3 h' z TI TO i1 i2 i3 l1 l2 l3 xs ys zs S (i + 1)->bt h' s.heap.objs.size x y v->h'.objs.size=s.heap.objs.size + 1->(∀ c o,c ∉ [z,TO,i1,i2,i3]->s.heap.get? c=some o->h'.get? c=some o)->Q (some (.ref s.heap.objs.size)) { s with heap:=h' }) :
  wpAny (model prog w) A (pyNext (.ref z)) Q E s:=by
 obtain ⟨⟨f0,f1,hz,hf1,hf⟩,ti,⟨a,b,c,to⟩,h1,h2,h3,hl1,hl2,hl3⟩:=st
 have hT:s.TypeIs (.ref z) "zip":=⟨_,hz,rfl⟩
 have lt:∀ {c o},s.heap.get? c=some o->s.heap.objs.size ≠ c:=fun e=>Nat.ne_of_gt (Qad e)
 have new:s.heap.objs.size ∉ [S,z,TO,i1,i2,i3]:=by
  simp only [List.mem_cons,List.not_mem_nil,or_false,not_or]
  exact ⟨Nat.ne_of_gt hS,lt hz,lt to,(by obtain ⟨_,e,_⟩:=h1; exact lt e),(by obtain ⟨_,e,_⟩:=h2; exact lt e),(by obtain ⟨_,e,_⟩:=h3; exact lt e)⟩
 have sub:∀ l ∈ [l1,l2,l3],l ∉ [z,TO,i1,i2,i3]:=fun l hm z'=>by
  simp only [List.mem_cons,List.not_mem_nil,or_false] at z'
  rcases z' with q | q | q | q | q <;> exact hl l hm _ (by simp) q
 have tiN:TI ∉ [z,TO,i1,i2,i3]:=by
  simp only [List.nodup_cons,List.mem_cons,List.not_mem_nil,or_false,not_or,not_false_eq_true,and_true,List.nodup_nil] at nd
  obtain ⟨⟨zTI,zTO,z1,z2,z3⟩,⟨TITO,TI1,TI2,TI3⟩,_⟩:=nd
  simp only [List.mem_cons,List.not_mem_nil,or_false,not_or]
  exact ⟨Ne.symm zTI,TITO,TI1,TI2,TI3⟩
 unfold pyNext
 refine Qaa (wpAny_attempt (wpAny_callSpecial?_slot (name:=Str.ofString "__next__") hT F.slot_zip_next (wpAny_call_entry F.slot_zip_next hT F.entry_zip_next ?_ (F.args_zip_next_1 _))))
 rcases hf with ⟨hi,rfl,rfl⟩ | ⟨hi,T,oT,rfl,eT,nT⟩
 ·refine rT nd hl hz ti to h1 h2 h3 hl1 hl2 hl3 hx hy hv fun h' a1 a2 a3 a4 a5 a6 a7 a8=>Qab ?_
  exact hQ h' ⟨⟨_,_,a1,.inl rfl,.inr ⟨Nat.succ_pos _,_,_,rfl,a6,new⟩⟩,a8 _ _ tiN ti,⟨_,_,_,a2⟩,a3,a4,a5,hl1.at fun o e=>a8 _ o (sub l1 (by simp)) e,hl2.at fun o e=>a8 _ o (sub l2 (by simp)) e,hl3.at fun o e=>a8 _ o (sub l3 (by simp)) e⟩ a6 a7 a8
 ·refine vi nd hl hf1 hz eT ti h1 h2 h3 hl1 hl2 hl3 hx hy hv fun h' a1 a3 a4 a5 a6 a7 a8=>Qab ?_
  have a8':∀ c o,c ∉ [z,TO,i1,i2,i3]->s.heap.get? c=some o->h'.get? c=some o:=fun c o hc e=>a8 c o (fun q=>hc (by simp only [List.mem_cons,List.not_mem_nil,or_false] at q ⊢; rcases q with q | q | q | q <;> simp [q])) e
  have TO4:TO ∉ [z,i1,i2,i3]:=by
   simp only [List.nodup_cons,List.mem_cons,List.not_mem_nil,or_false,not_or,not_false_eq_true,and_true,List.nodup_nil] at nd
   obtain ⟨⟨zTI,zTO,z1,z2,z3⟩,⟨TITO,TI1,TI2,TI3⟩,⟨TO1,TO2,TO3⟩,_⟩:=nd
   simp only [List.mem_cons,List.not_mem_nil,or_false,not_or]
   exact ⟨Ne.symm zTO,TO1,TO2,TO3⟩
  refine hQ h' ⟨⟨_,_,a1,.inr rfl,.inr ⟨Nat.succ_pos _,_,_,rfl,a8' T oT (fun q=>nT (Qak _ q)) eT,nT⟩⟩,a8' _ _ tiN ti,⟨a,b,c,a8 _ _ TO4 to⟩,a3,a4,a5,hl1.at fun o e=>a8' _ o (sub l1 (by simp)) e,hl2.at fun o e=>a8' _ o (sub l2 (by simp)) e,hl3.at fun o e=>a8' _ o (sub l3 (by simp)) e⟩ a6 a7 a8'
theorem lG {z TI TO i1 i2 i3 l1 l2 l3 S:Addr} {i:Nat} {xs ys zs:Array Value} {Q:Option Value->Shared->Prop} (hh:A.handled=none)
  (nd:[z,TI,TO,i1,i2,i3].Nodup) (hl:∀ l ∈ [l1,l2,l3],∀ j ∈ [z,TI,TO,i1,i2,i3],l ≠ j) (st:Z3 s.heap z TI TO i1 i2 i3 l1 l2 l3 xs ys zs S i) (hi:0 < i) (hx:xs[i]? = none)
  (hQ:∀ h',(∀ c o,c ∉ [z,i1]->s.heap.get? c=some o->h'.get? c=some o)->Q none { s with heap:=h' }) :
  wpAny (model prog w) A (pyNext (.ref z)) Q E s:=by
 obtain ⟨⟨f0,f1,hz,hf1,hf⟩,ti,⟨a,b,c,to⟩,h1,h2,h3,hl1,hl2,hl3⟩:=st
 have hT:s.TypeIs (.ref z) "zip":=⟨_,hz,rfl⟩
 rcases hf with ⟨hi0,_⟩ | ⟨_,T,oT,rfl,eT,nT⟩
 ·omega
 ·unfold pyNext
  refine Qaa (wpAny_attempt (wpAny_callSpecial?_slot (name:=Str.ofString "__next__") hT F.slot_zip_next
   (wpAny_call_entry F.slot_zip_next hT F.entry_zip_next (vj hh nd hl hf1 hz eT ti h1 hl1 hx fun h' e hk he=>?_) (F.args_zip_next_1 _))))
  obtain ⟨o,ho,hc⟩:=he
  refine Qaa (wpAny_isInstance (T:="StopIteration") (b:=true) ⟨o,ho,hc⟩ isSubtype_stop ?_)
  exact Qab (hQ _ hk)
end
section
variable {prog:Program} {w:World} {A:Around} {R:Result->Shared->Prop}
theorem Z3.keep {h h':Heap} {z TI TO i1 i2 i3 l1 l2 l3 S:Addr} {xs ys zs:Array Value} {i:Nat} (st:Z3 h z TI TO i1 i2 i3 l1 l2 l3 xs ys zs S i) (hS:S ∉ [z,TI,TO,i1,i2,i3,l1,l2,l3]) (k:∀ b o,b ≠ S->h.get? b=some o->h'.get? b=some o) :
  Z3 h' z TI TO i1 i2 i3 l1 l2 l3 xs ys zs S i:=by
 simp only [List.mem_cons,List.not_mem_nil,or_false,not_or] at hS
 obtain ⟨n1,n2,n3,n4,n5,n6,n7,n8,n9⟩:=hS
 obtain ⟨⟨f0,f1,hz,hf1,hf⟩,ti,⟨a,b,c,to⟩,h1,h2,h3,hl1,hl2,hl3⟩:=st
 refine ⟨⟨f0,f1,k _ _ (Ne.symm n1) hz,hf1,?_⟩,k _ _ (Ne.symm n2) ti,⟨a,b,c,k _ _ (Ne.symm n3) to⟩,h1.at fun o e=>k _ o (Ne.symm n4) e,h2.at fun o e=>k _ o (Ne.symm n5) e,h3.at fun o e=>k _ o (Ne.symm n6) e,hl1.at fun o e=>k _ o (Ne.symm n7) e,hl2.at fun o e=>k _ o (Ne.symm n8) e,hl3.at fun o e=>k _ o (Ne.symm n9) e⟩
 rcases hf with hf | ⟨hi,T,oT,e,eT,nT⟩
 ·exact .inl hf
 ·exact .inr ⟨hi,T,oT,e,k _ _ (fun q=>nT (by simp [q])) eT,nT⟩
noncomputable abbrev wA (a:Array Value) (v:Value) (c:Nat):Nat:=if (a.push v).size == a.size then c else c + 1
theorem qp {z TI TO i1 i2 i3 l1 l2 l3 S n₀:Addr} {xs ys zs:Array Value} (hh:A.handled=none)
  (nd:[z,TI,TO,i1,i2,i3].Nodup) (hl:∀ l ∈ [l1,l2,l3],∀ j ∈ [z,TI,TO,i1,i2,i3],l ≠ j) (hS:S ∉ [z,TI,TO,i1,i2,i3,l1,l2,l3]) (hb:∀ j ∈ [S,z,TI,TO,i1,i2,i3],j < n₀)
  (e2:ys.size=xs.size) (e3:zs.size=xs.size) (hpos:0 < xs.size) (hn:xs.size<=sizeLine) (res:Value) :
  ∀ (k i:Nat) (s:Shared) (acc:List Value) (c:Nat),xs.size - i=k->i<=xs.size->Z3 s.heap z TI TO i1 i2 i3 l1 l2 l3 xs ys zs S i->n₀<=s.heap.objs.size->s.heap.get? S=some { cls:=.type "list",dict:=none,data:=.seq acc.toArray c,slots:=#[] }->acc.length=i->oF s.heap n₀ xs ys zs acc->
  (∀ h' acc' c',(∀ b o,b ∉ [S,z,TO,i1,i2,i3]->s.heap.get? b=some o->h'.get? b=some o)->h'.get? S=some { cls:=.type "list",dict:=none,data:=.seq acc'.toArray c',slots:=#[] }->acc'.length=xs.size->oF h' n₀ xs ys zs acc'->R (.ok (.ret res)) { s with heap:=h' })->
  codeAny (model prog w) A (.builtin "list.extend.loop" ⟨[.ref S,.ref z,res],[]⟩) R s:=by
 intro k
 induction k with
 | zero=>
  intro i s acc c hk hi st hsz hSo hlen tr hR
  have hin:i=xs.size:=by omega
  refine codeAny_builtin F.entry_extend_loop ?_
  rw [Around.under_plainId F.plain_extend_loop _]
  show wpAny _ A.in1 (pyNext (.ref z) >>= _) _ _ s
  have nS:S ∉ [z,i1]:=fun q=>hS (by simp only [List.mem_cons,List.not_mem_nil,or_false] at q ⊢; rcases q with q | q <;> simp [q])
  refine Qaa (lG hh nd hl st (by omega) (by rw [hin]; exact Array.getElem?_eq_none (Qae _)) fun h' hk'=>?_)
  refine Qab (hR h' acc c (fun b o hb e=>hk' b o (fun q=>hb (by simp only [List.mem_cons,List.not_mem_nil,or_false] at q ⊢; rcases q with q | q <;> simp [q])) e) (hk' S _ nS hSo) (hlen.trans hin) fun j v hj=>?_)
  obtain ⟨T,x,y,u,e,hT,t,q⟩:=tr j v hj
  refine ⟨T,x,y,u,e,hT,hk' T _ (fun m=>?_) t,q⟩
  simp only [List.mem_cons,List.not_mem_nil,or_false] at m
  rcases m with m | m
  ·exact absurd (hb z (by simp)) (by rw [<-m]; exact Nat.not_lt.mpr hT)
  ·exact absurd (hb i1 (by simp)) (by rw [<-m]; exact Nat.not_lt.mpr hT)
 | succ k ih=>
  intro i s acc c hk hi st hsz hSo hlen tr hR
  have hlt:i < xs.size:=by omega
  refine codeAny_builtin F.entry_extend_loop ?_
  rw [Around.under_plainId F.plain_extend_loop _]
  show wpAny _ A.in1 (pyNext (.ref z) >>= _) _ _ s
  refine Qaa (kR nd hl st (Qad hSo) (x:=xs[i]) (y:=ys[i]) (v:=zs[i]) (Array.getElem?_eq_getElem hlt) (Array.getElem?_eq_getElem (by omega)) (Array.getElem?_eq_getElem (by omega)) fun h' st' hT' hsz' hk'=>?_)
  have nS:S ∉ [z,TO,i1,i2,i3]:=fun q=>hS (by simp only [List.mem_cons,List.not_mem_nil,or_false] at q ⊢; rcases q with q | q | q | q | q <;> simp [q])
  have hS':=hk' S _ nS hSo
  have ha:acc.toArray.size=i:=by rw [List.size_toArray]; exact hlen
  show wpAny _ A.in1 (updateSeq S (·.push (.ref s.heap.objs.size)) >>= _) _ _ _
  refine Qaa ?_
  have old:∀ b o,b ≠ S->h'.get? b=some o->(h'.update S (Obj.mapSeq (·.push (.ref s.heap.objs.size)))).get? b=some o:=fun b o hb e=>(Heap.get?_update_other _ _ (Ne.symm hb)).trans e
  have big:∀ T,n₀<=T->T ∉ [S,z,TO,i1,i2,i3]:=fun T hT m=>by
   simp only [List.mem_cons,List.not_mem_nil,or_false] at m
   rcases m with m | m | m | m | m | m <;> exact absurd (hb T (by rw [m]; simp)) (Nat.not_lt.mpr hT)
  refine wpAny_updateSeq hS' rfl (Qab ⟨plainId_quiet F.plain_extend_loop _,ih (i + 1) _ (acc ++ [.ref s.heap.objs.size]) (wA acc.toArray (.ref s.heap.objs.size) c) (by omega) hlt (st'.keep hS old) ?_ ?_ (by rw [List.length_append,hlen]; rfl) ?_ fun h'' acc' c' hk'' hS'' hl' tr''=>?_⟩)
   (by rw [ha]; omega) (by show (acc.toArray.push _).size<=sizeLine + 1; rw [Array.size_push,ha]; omega)
  ·show n₀<=(h'.update S (Obj.mapSeq (·.push (.ref s.heap.objs.size)))).objs.size
   rw [show (h'.update S (Obj.mapSeq (·.push (Value.ref s.heap.objs.size)))).objs.size=h'.objs.size from (Heap.SameBut.update ..).1,hsz']
   exact Nat.le_succ_of_le hsz
  ·have q:=Heap.get?_update_self (Obj.mapSeq (·.push (Value.ref s.heap.objs.size))) hS' rfl
   have e:acc.toArray.push (Value.ref s.heap.objs.size)=(acc ++ [Value.ref s.heap.objs.size]).toArray:=by simp
   have q':(h'.update S (Obj.mapSeq (·.push (Value.ref s.heap.objs.size)))).get? S=some { cls:=.type "list",dict:=none,data:=.seq (acc.toArray.push (Value.ref s.heap.objs.size)) (wA acc.toArray (Value.ref s.heap.objs.size) c),slots:=#[] }:=q
   rw [e] at q'
   exact q'
  ·intro j v hj
   by_cases hji:j < acc.length
   ·rw [List.getElem?_append_left hji] at hj
    obtain ⟨T,x,y,u,e,hT,t,q⟩:=tr j v hj
    have nb:=big T hT
    exact ⟨T,x,y,u,e,hT,old T _ (fun z'=>nb (by simp [z'])) (hk' T _ (fun z'=>nb (Qak _ z')) t),q⟩
   ·have hj':j=acc.length:=by
     have:=(List.getElem?_eq_some_iff.mp hj).1
     rw [List.length_append,List.length_singleton] at this
     omega
    subst hj'
    rw [List.getElem?_append_right (Qae _),Nat.sub_self] at hj
    cases hj
    have nb:=big s.heap.objs.size hsz
    refine ⟨s.heap.objs.size,xs[i],ys[i],zs[i],rfl,hsz,old _ _ (fun z'=>nb (by simp [z'])) hT',?_,?_,?_⟩ <;> (rw [hlen]; exact Array.getElem?_eq_getElem (by omega))
  ·refine hR h'' acc' c' (fun b o hb' e=>hk'' b o hb' (old b o (fun z'=>hb' (by simp [z'])) (hk' b o (fun z'=>hb' (Qak _ z')) e))) hS'' hl' tr''
end
namespace F3
theorem zip_no_len:typeLookup (.type "zip") "__len__" = pure none:=by rw [typeLookup_type,builtinLookup_eq_fast]; kernel_rfl
theorem zip_no_hint:typeLookup (.type "zip") "__length_hint__" = pure none:=by rw [typeLookup_type,builtinLookup_eq_fast]; kernel_rfl
theorem typeCall_zip_3 (a b c:Value):checkTypeCall "zip" ⟨[a,b,c],[]⟩=pure ():=by kernel_rfl
theorem newCall_zip_3 (a b c:Value):checkBuiltinCall "zip.__new__" ⟨[.type "zip",a,b,c],[]⟩=pure ():=by kernel_rfl
theorem args_object_init_4 (a b c d:Value):argsOk "object.__init__" ⟨[a,b,c,d],[]⟩:=by
 unfold argsOk; rw [signature?_of (id:="object.__init__") (n:=['_','_','t','i','n','i','_','_']) (o:=['t','c','e','j','b','o']) (by kernel_rfl) F.owner_object]; kernel_rfl
end F3
noncomputable abbrev zA (h:Heap) (l1:Addr):Heap:=h.push { cls:=.type "list_iterator",data:=.fields #[.ref l1,.int 0 0] }
noncomputable abbrev zB (h:Heap) (l1 l2:Addr):Heap:=(zA h l1).push { cls:=.type "list_iterator",data:=.fields #[.ref l2,.int 0 0] }
noncomputable abbrev zC (h:Heap) (l1 l2 l3:Addr):Heap:=(zB h l1 l2).push { cls:=.type "list_iterator",data:=.fields #[.ref l3,.int 0 0] }
noncomputable abbrev zD (h:Heap) (l1 l2 l3:Addr):Heap:=(zC h l1 l2 l3).push { cls:=.type "tuple",data:=.seq #[.ref h.objs.size,.ref (zA h l1).objs.size,.ref (zB h l1 l2).objs.size] }
noncomputable abbrev zE (h:Heap) (l1 l2 l3:Addr):Heap:=(zD h l1 l2 l3).push { cls:=.type "tuple",data:=.seq #[.none,.none,.none] }
noncomputable abbrev zF (h:Heap) (l1 l2 l3:Addr):Heap:=(zE h l1 l2 l3).push { cls:=.type "zip",data:=.fields #[.none,.bool false,.bool false,.ref (zC h l1 l2 l3).objs.size,.ref (zD h l1 l2 l3).objs.size] }
theorem mG (l1 l2 l3:Addr) (xs ys zs:Array Value) :
  Meets (Builtin.«zip.__new__» ⟨[.type "zip",.ref l1,.ref l2,.ref l3],[]⟩) (fun _ R s=>s.heap.IsList l1 xs/\s.heap.IsList l2 ys/\s.heap.IsList l3 zs/\
   R (.ok (.ret (.ref (zE s.heap l1 l2 l3).objs.size))) { s with heap:=zF s.heap l1 l2 l3 }):=
 .of_wp fun prog w A R s h=>by
  obtain ⟨hp,g,d,tk,os⟩:=s; obtain ⟨hl1,hl2,hl3,h⟩:=h
  have hsub:=sub_zip
  have hL1:Heap.IsList (Shared.heap ⟨hp,g,d,tk,os⟩) l1 xs:=hl1
  have hL2:Heap.IsList (Shared.heap ⟨hp.push { cls:=.type "list_iterator",data:=.fields #[.ref l1,.int 0 0] },g,d,tk,os⟩) l2 ys:=Heap.IsList.push hl2 _
  have hL3:Heap.IsList (Shared.heap ⟨(hp.push { cls:=.type "list_iterator",data:=.fields #[.ref l1,.int 0 0] }).push { cls:=.type "list_iterator",data:=.fields #[.ref l2,.int 0 0] },g,d,tk,os⟩) l3 zs:=Heap.IsList.push (Heap.IsList.push hl3 _) _
  wp_walk using wpAny_pyIter_list hL1,wpAny_pyIter_list hL2,wpAny_pyIter_list hL3
  exact ⟨_,rfl,h⟩
section
variable {prog:Program} {w:World} {A:Around} {E:Value->Shared->Prop} {s:Shared}
theorem rV {l1 l2 l3:Addr} {xs ys zs:Array Value} {Q:Value->Shared->Prop} (hl1:s.heap.IsList l1 xs) (hl2:s.heap.IsList l2 ys) (hl3:s.heap.IsList l3 zs)
  (h:∀ h',cA h' (s.heap.objs.size + 5) (s.heap.objs.size + 3) (s.heap.objs.size + 4) .none (.bool false)->bt h' (s.heap.objs.size + 3) (.ref s.heap.objs.size) (.ref (s.heap.objs.size + 1)) (.ref (s.heap.objs.size + 2))->
   bt h' (s.heap.objs.size + 4) .none .none .none->h'.IsListIter s.heap.objs.size l1 0->h'.IsListIter (s.heap.objs.size + 1) l2 0->h'.IsListIter (s.heap.objs.size + 2) l3 0->h'.objs.size=s.heap.objs.size + 6->
   (∀ c o,s.heap.get? c=some o->h'.get? c=some o)->Q (.ref (s.heap.objs.size + 5)) { s with heap:=h' }) :
  wpAny (model prog w) A (call (.type "zip") [.ref l1,.ref l2,.ref l3]) Q E s:=by
 refine callType_new F.called_zip (by decide) (F3.typeCall_zip_3 _ _ _) (F3.newCall_zip_3 _ _ _) (fun obj=>F3.args_object_init_4 obj _ _ _) F.entry_zip_new
  (mG l1 l2 l3 xs ys zs) ⟨hl1,hl2,hl3,?_⟩
 have z1:(zA s.heap l1).objs.size=s.heap.objs.size + 1:=Heap.size_push ..
 have z2:(zB s.heap l1 l2).objs.size=s.heap.objs.size + 2:=by rw [Heap.size_push,z1]
 have z3:(zC s.heap l1 l2 l3).objs.size=s.heap.objs.size + 3:=by rw [Heap.size_push,z2]
 have z4:(zD s.heap l1 l2 l3).objs.size=s.heap.objs.size + 4:=by rw [Heap.size_push,z3]
 have z5:(zE s.heap l1 l2 l3).objs.size=s.heap.objs.size + 5:=by rw [Heap.size_push,z4]
 have z6:(zF s.heap l1 l2 l3).objs.size=s.heap.objs.size + 6:=by rw [Heap.size_push,z5]
 have g6:(zF s.heap l1 l2 l3).get? (zE s.heap l1 l2 l3).objs.size=some _:=Heap.get?_push_size _ rfl
 have g5:(zF s.heap l1 l2 l3).get? (zD s.heap l1 l2 l3).objs.size=some _:=Qac _ (Heap.get?_push_size _ rfl)
 have g4:(zF s.heap l1 l2 l3).get? (zC s.heap l1 l2 l3).objs.size=some _:=Qac _ (Qac _ (Heap.get?_push_size _ rfl))
 have g3:(zF s.heap l1 l2 l3).get? (zB s.heap l1 l2).objs.size=some _:=Qac _ (Qac _ (Qac _ (Heap.get?_push_size _ rfl)))
 have g2:(zF s.heap l1 l2 l3).get? (zA s.heap l1).objs.size=some _:=Qac _ (Qac _ (Qac _ (Qac _ (Heap.get?_push_size _ rfl))))
 have g1:(zF s.heap l1 l2 l3).get? s.heap.objs.size=some _:=Qac _ (Qac _ (Qac _ (Qac _ (Qac _ (Heap.get?_push_size _ rfl)))))
 show _/\_
 rw [z3,z4,z5] at g6
 rw [z1,z2,z3] at g4
 rw [z4] at g5
 rw [z2] at g3
 rw [z1] at g2
 rw [z5]
 exact ⟨⟨_,g6,rfl⟩,h _ g6 g4 g5 ⟨_,g1,rfl,rfl⟩ ⟨_,g2,rfl,rfl⟩ ⟨_,g3,rfl,rfl⟩ z6 fun c o x=>
  Qac _ (Qac _ (Qac _ (Qac _ (Qac _ (Qac _ x)))))⟩
theorem mH {z TI TO i1 i2 i3 l1 l2 l3:Addr} {xs ys zs:Array Value} {Q:Value->Shared->Prop} (hh:A.handled=none)
  (nd:[z,TI,TO,i1,i2,i3].Nodup) (hl:∀ l ∈ [l1,l2,l3],∀ j ∈ [z,TI,TO,i1,i2,i3],l ≠ j) (hlt:∀ j ∈ [z,TI,TO,i1,i2,i3,l1,l2,l3],j < s.heap.objs.size)
  (hz:cA s.heap z TI TO .none (.bool false)) (ti:bt s.heap TI (.ref i1) (.ref i2) (.ref i3)) (to:bt s.heap TO .none .none .none)
  (h1:s.heap.IsListIter i1 l1 0) (h2:s.heap.IsListIter i2 l2 0) (h3:s.heap.IsListIter i3 l3 0) (hl1:s.heap.IsList l1 xs) (hl2:s.heap.IsList l2 ys) (hl3:s.heap.IsList l3 zs)
  (e2:ys.size=xs.size) (e3:zs.size=xs.size) (hpos:0 < xs.size) (hn:xs.size<=sizeLine)
  (hQ:∀ h' acc c,(∀ b o,b ∉ [z,TO,i1,i2,i3]->s.heap.get? b=some o->h'.get? b=some o)->h'.get? s.heap.objs.size=some { cls:=.type "list",dict:=none,data:=.seq acc.toArray c,slots:=#[] }->acc.length=xs.size->oF h' (s.heap.objs.size + 1) xs ys zs acc->
   Q (.ref s.heap.objs.size) { s with heap:=h' }):wpAny (model prog w) A (call (.type "list") [.ref z]) Q E s:=by
 have hSf:s.heap.objs.size ∉ [z,TI,TO,i1,i2,i3,l1,l2,l3]:=fun hm=>Nat.lt_irrefl _ (hlt _ hm)
 have hSI:s.heap.objs.size ≠ z:=fun e=>hSf (by simp [e])
 refine callType_codes (Q₁:=fun obj s₁=>obj=.ref s.heap.objs.size/\s₁ = { s with heap:=s.heap.push { cls:=.type "list",data:=.seq #[] } }) F.called_list (F.typeCall_list_1 _) F.entry_list_init
  (code_list_new _ ⟨rfl,rfl⟩) fun obj s₁ h₁=>?_
 obtain ⟨rfl,rfl⟩:=h₁
 have hS:(s.heap.push { cls:=.type "list",data:=.seq #[] }).get? s.heap.objs.size=some { cls:=.type "list",data:=.seq #[] }:=Heap.get?_push_size _ rfl
 have hTz:∀ h',cA h' z TI TO .none (.bool false)->Shared.TypeIs { s with heap:=h' } (.ref z) "zip":=fun h' q=>⟨_,q,rfl⟩
 refine ⟨⟨_,hS,rfl⟩,F.args_list_init_2 _ _,?_⟩
 have pu:∀ b o,s.heap.get? b=some o->(s.heap.push { cls:=.type "list",data:=.seq #[] }).get? b=some o:=fun b o e=>Qac _ e
 show wpAny _ A.in1.in1 (do let old <-Builtin.List.listItems (.ref s.heap.objs.size); Builtin.List.listUpdate (.ref s.heap.objs.size) (fun _=>#[]); letGo old.toList.reverse; Builtin.List.listExtendWith (.ref s.heap.objs.size) (.ref z) .none) _ _ _
 refine Qaa ?_
 unfold Builtin.List.listItems
 refine Qaa (wpAny_seqItems hS rfl (Qab ?_))
 show wpAny _ _ (updateSeq s.heap.objs.size (fun _=>#[]) >>= fun _=>letGo (#[]:Array Value).toList.reverse >>= fun _=>Builtin.List.listExtendWith (.ref s.heap.objs.size) (.ref z) .none) _ _ _
 refine Qaa (wpAny_updateSeq hS rfl ?_)
 have hS₂:=Heap.get?_update_self (Obj.mapSeq (fun _=>(#[]:Array Value))) hS rfl
 refine Qaa (wpAny_letGo ?_)
 generalize hg1:(s.heap.push { cls:=.type "list",data:=.seq #[] }).update s.heap.objs.size (Obj.mapSeq (fun _=>(#[]:Array Value)))=H1 at hS₂ ⊢
 have oth1:∀ b o,s.heap.get? b=some o->H1.get? b=some o:=fun b o e=>by
  rw [<-hg1]; exact (Heap.get?_update_other _ _ (Nat.ne_of_gt (Qad e))).trans (pu b o e)
 have sz1:H1.objs.size=s.heap.objs.size + 1:=by rw [<-hg1,show ((s.heap.push { cls:=.type "list",data:=.seq #[] }).update s.heap.objs.size (Obj.mapSeq (fun _=>(#[]:Array Value)))).objs.size=(s.heap.push { cls:=.type "list",data:=.seq #[] }).objs.size from (Heap.SameBut.update ..).1,Heap.size_push]
 unfold Builtin.List.listExtendWith
 refine Qaa (wpAny_typeOf (hTz _ (oth1 _ _ hz)) ?_)
 have g1:Builtin.List.listSameRef (.ref s.heap.objs.size) (.ref z)=false:=by simp [Builtin.List.listSameRef,hSI]
 have g2:(Value.type "zip" == Value.type "list")=false:=by decide
 have g3:(Value.type "zip" == Value.type "tuple")=false:=by decide
 simp only [g1,g2,g3,Bool.or_false,Bool.false_eq_true,if_false]
 refine Qaa (wpAny_pyIter_zip (s:={ s with heap:=H1 }) (oth1 _ _ hz) ?_)
 refine Qaa (wpAny_holding ?_)
 unfold Builtin.List.listLengthHint
 refine Qaa (wpAny_specialOf (hTz _ (oth1 _ _ hz)) F3.zip_no_len ?_)
 show wpAny _ _ (specialOf (Value.ref z) (Str.ofString "__length_hint__") >>= _) _ _ _
 refine Qaa (wpAny_specialOf (hTz _ (oth1 _ _ hz)) F3.zip_no_hint ?_)
 refine Qab ?_
 show wpAny _ _ (rule "list.extend.makes-room" >>= fun _=>Builtin.List.listTouch (.ref s.heap.objs.size) >>= fun _=>
  again (.builtin "list.extend.loop" ⟨[.ref s.heap.objs.size,.ref z,.none],[]⟩)) _ _ _
 refine Qaa (wpAny_rule ?_)
 refine Qaa ?_
 show wpAny _ _ (updateSeq s.heap.objs.size (·.push .none) >>= fun _=>updateSeq s.heap.objs.size (·.pop)) _ _ _
 refine Qaa (wpAny_updateSeq hS₂ rfl ?_)
 have hS₃:=Heap.get?_update_self (Obj.mapSeq (·.push Value.none)) hS₂ rfl
 refine wpAny_updateSeq (hz:=by seq_fits) hS₃ rfl ?_
 have hS₄:=Heap.get?_update_self (Obj.mapSeq (·.pop)) hS₃ rfl
 generalize hg2:(H1.update s.heap.objs.size (Obj.mapSeq (·.push Value.none))).update s.heap.objs.size (Obj.mapSeq (·.pop))=H2 at hS₄ ⊢
 have oth2:∀ b o,s.heap.get? b=some o->H2.get? b=some o:=fun b o e=>by
  rw [<-hg2]; exact (Heap.get?_update_other _ _ (Nat.ne_of_gt (Qad e))).trans ((Heap.get?_update_other _ _ (Nat.ne_of_gt (Qad e))).trans (oth1 b o e))
 have sz2:H2.objs.size=s.heap.objs.size + 1:=by
  rw [<-hg2,show ((H1.update s.heap.objs.size (Obj.mapSeq (·.push Value.none))).update s.heap.objs.size (Obj.mapSeq (·.pop))).objs.size=(H1.update s.heap.objs.size (Obj.mapSeq (·.push Value.none))).objs.size from (Heap.SameBut.update ..).1,
   show (H1.update s.heap.objs.size (Obj.mapSeq (·.push Value.none))).objs.size=H1.objs.size from (Heap.SameBut.update ..).1,sz1]
 refine Qab ⟨plainId_quiet F.plain_extend_loop _,qp (A:=A.in1) (n₀:=s.heap.objs.size + 1) (show A.in1.handled=none from hh) nd hl hSf (fun j hj=>?_) e2 e3 hpos hn _ xs.size 0 _ [] _ rfl (Nat.zero_le _)
  ⟨⟨_,_,oth2 _ _ hz,.inl rfl,.inl ⟨rfl,rfl,rfl⟩⟩,oth2 _ _ ti,⟨_,_,_,oth2 _ _ to⟩,h1.at fun o e=>oth2 _ o e,h2.at fun o e=>oth2 _ o e,h3.at fun o e=>oth2 _ o e,hl1.at fun o e=>oth2 _ o e,hl2.at fun o e=>oth2 _ o e,hl3.at fun o e=>oth2 _ o e⟩
  (Nat.le_of_eq sz2.symm) hS₄ rfl (fun j v h=>by simp at h) fun h' acc' c' hk' hS' hl' tr'=>?_⟩
 ·rcases List.mem_cons.mp hj with rfl | hj
  ·exact Nat.lt_succ_self _
  ·refine Nat.lt_succ_of_lt (hlt j ?_)
   simp only [List.mem_cons,List.not_mem_nil,or_false] at hj ⊢
   rcases hj with q | q | q | q | q | q <;> simp [q]
 ·refine ⟨rfl,hQ h' acc' c' (fun b o hb e=>hk' b o (fun m=>?_) (oth2 b o e)) hS' hl' tr'⟩
  rcases List.mem_cons.mp m with q | q
  ·exact absurd (Qad e) (by rw [q]; exact Nat.lt_irrefl _)
  ·exact hb q
end
mutual
inductive DV (H:Hp):V->PyData->Prop where
 | non:DV H .non .none
 | bl (b:Bool):DV H (.bl b) (.bool b)
 | int (i:Int):DV H (.int i) (.int i)
 | str (x:Str):DV H (.str x) (.str x)
 | lst {a:Addr} {xs:List V} {ds:List PyData}:H a=some (.lst xs)->DVs H xs ds->DV H (.ref a) (.list ds)
 | tup {a:Addr} {xs:List V} {ds:List PyData}:H a=some (.tup xs)->DVs H xs ds->DV H (.ref a) (.tuple ds)
inductive DVs (H:Hp):List V->List PyData->Prop where
 | nil:DVs H [] []
 | cons {x:V} {xs:List V} {d:PyData} {ds:List PyData}:DV H x d->DVs H xs ds->DVs H (x :: xs) (d :: ds)
end
section
variable {H H':Hp}
mutual
theorem DV.mono (s:Same H H'):∀ {v:V} {d:PyData},DV H v d->DV H' v d
 | _,_,.non=>.non
 | _,_,.bl b=>.bl b
 | _,_,.int i=>.int i
 | _,_,.str x=>.str x
 | _,_,.lst h r=>.lst (s _ _ h) (DVs.mono s r)
 | _,_,.tup h r=>.tup (s _ _ h) (DVs.mono s r)
theorem DVs.mono (s:Same H H'):∀ {vs:List V} {ds:List PyData},DVs H vs ds->DVs H' vs ds
 | _,_,.nil=>.nil
 | _,_,.cons h r=>.cons (DV.mono s h) (DVs.mono s r)
end
theorem DVs.length:∀ {vs:List V} {ds:List PyData},DVs H vs ds->vs.length=ds.length
 | _,_,.nil=>rfl
 | _,_,.cons _ r=>congrArg (· + 1) r.length
theorem DVs.append:∀ {vs ws:List V} {ds es:List PyData},DVs H vs ds->DVs H ws es->DVs H (vs ++ ws) (ds ++ es)
 | _,_,_,_,.nil,s=>s
 | _,_,_,_,.cons h r,s=>.cons h (r.append s)
theorem DVs.get:∀ {vs:List V} {ds:List PyData} {i:Nat} {d:PyData},DVs H vs ds->ds[i]? = some d->∃ v,vs[i]? = some v/\DV H v d
 | _,_,_,_,.nil,e=>by simp at e
 | _,_,0,_,.cons h _,e=>by simp at e; subst e; exact ⟨_,rfl,h⟩
 | _,_,i + 1,d,.cons _ r,e=>by
  obtain ⟨v,h1,h2⟩:=r.get (i:=i) (d:=d) (by simpa using e)
  exact ⟨v,by simpa using h1,h2⟩
theorem DVs.get':∀ {vs:List V} {ds:List PyData} {i:Nat} {v:V},DVs H vs ds->vs[i]? = some v->∃ d,ds[i]? = some d/\DV H v d
 | _,_,_,_,.nil,e=>by simp at e
 | _,_,0,_,.cons h _,e=>by simp at e; subst e; exact ⟨_,rfl,h⟩
 | _,_,i + 1,d,.cons _ r,e=>by
  obtain ⟨v,h1,h2⟩:=r.get' (i:=i) (v:=d) (by simpa using e)
  exact ⟨v,by simpa using h1,h2⟩
theorem DVs.drop:∀ {vs:List V} {ds:List PyData} (n:Nat),DVs H vs ds->DVs H (vs.drop n) (ds.drop n)
 | _,_,0,r=>r
 | _,_,_ + 1,.nil=>.nil
 | _,_,n + 1,.cons _ r=>r.drop n
theorem aC {a:Addr} {o:HO} (h:H a=none):Same H (upd H a o):=fun b u e=>by rw [aU (bQ e h)]; exact e
theorem DV.tup_inv {v:V} {ds:List PyData} (h:DV H v (.tuple ds)):∃ a xs,v=.ref a/\H a=some (.tup xs)/\DVs H xs ds:=by
 cases h with | tup h r=>exact ⟨_,_,rfl,h,r⟩
theorem DV.lst_inv {v:V} {ds:List PyData} (h:DV H v (.list ds)):∃ a xs,v=.ref a/\H a=some (.lst xs)/\DVs H xs ds:=by
 cases h with | lst h r=>exact ⟨_,_,rfl,h,r⟩
theorem DV.int_inv {v:V} {i:Int} (h:DV H v (.int i)):v=.int i:=by cases h; rfl
theorem DV.bl_inv {v:V} {b:Bool} (h:DV H v (.bool b)):v=.bl b:=by cases h; rfl
theorem DV.non_inv {v:V} (h:DV H v .none):v=.non:=by cases h; rfl
end
section
variable {X:Cx} {pins:List (Addr × Obj)} {σ:St} {H:Hp} {s:Shared}
mutual
theorem Inv.reads (I:Inv X pins σ H s):∀ {v:V} {d:PyData} {u:Value},DV H v d->RelV v u->∃ as,Reads s.heap u d as
 | _,_,_,.non,r=>by cases r; exact ⟨_,.none⟩
 | _,_,_,.bl b,r=>by cases r; exact ⟨_,.bool b⟩
 | _,_,_,.int i,r=>by obtain ⟨t,rfl⟩:=r; exact ⟨_,.int i t⟩
 | _,_,_,.str x,r=>by obtain ⟨t,rfl⟩:=r; exact ⟨_,.str x t⟩
 | _,_,_,.lst h q,r=>by
  cases r
  obtain ⟨_,its,n,rv,e⟩:=I.hok _ _ h
  obtain ⟨as,z⟩:=I.readsAll q rv
  exact ⟨_,reads_list_at e rfl rfl (by simpa using z)⟩
 | _,_,_,.tup h q,r=>by
  cases r
  obtain ⟨_,its,rv,o,e,c,n,d⟩:=I.hok _ _ h
  obtain ⟨as,z⟩:=I.readsAll q rv
  exact ⟨_,reads_tuple_at e c d (by simpa using z)⟩
theorem Inv.readsAll (I:Inv X pins σ H s):∀ {vs:List V} {ds:List PyData} {us:List Value},DVs H vs ds->Vals vs us->∃ as,ReadsAll s.heap us ds as
 | _,_,_,.nil,.nil=>⟨_,.nil⟩
 | _,_,_,.cons h q,.cons r rr=>by
  obtain ⟨as,z⟩:=I.reads h r
  obtain ⟨bs,z'⟩:=I.readsAll q rr
  exact ⟨_,.cons z z'⟩
end
end
section
variable {X:Cx}
noncomputable def vk (neg:Bool):R2:=fun x y H Q=>∃ d e,DV H x d/\DV H y e/\SeqAt.shaped d=true/\SeqAt.shaped e=true/\Q (.bl (PyData.eqv d e != neg)) H
theorem tR (hu:X.A.units + 64 < cLine):OpR X (compareOp .Eq) (vk false):=by
 intro pins s σ H x y v u Q I rx ry h
 obtain ⟨d,e,h1,h2,h3,h4,q⟩:=h
 obtain ⟨as,z1⟩:=I.reads h1 rx
 obtain ⟨bs,z2⟩:=I.reads h2 ry
 exact eq_dataH z1 z2 h3 h4 hu ⟨_,H,I,by show Value.bool (PyData.eqv d e)=Value.bool (PyData.eqv d e != false); rw [Bool.bne_false],q⟩
theorem zG (hu:X.A.units + 64 < cLine):OpR X (compareOp .NotEq) (vk true):=by
 intro pins s σ H x y v u Q I rx ry h
 obtain ⟨d,e,h1,h2,h3,h4,q⟩:=h
 obtain ⟨as,z1⟩:=I.reads h1 rx
 obtain ⟨bs,z2⟩:=I.reads h2 ry
 exact ne_dataH z1 z2 h3 h4 hu ⟨_,H,I,by show Value.bool (!PyData.eqv d e)=Value.bool (PyData.eqv d e != true); rw [Bool.bne_true],q⟩
@[simp] noncomputable def oG:PyData->String
 | .none=>"NoneType"
 | .bool _=>"bool"
 | .int _=>"int"
 | .str _=>"str"
 | .list _=>"list"
 | .tuple _=>"tuple"
 | .dict _=>"dict"
theorem DV.ty {H:Hp} {K:PySem.W.Frag} {v:V} {d:PyData} (h:DV H v d):TyOf K H v (.type (oG d)):=by
 cases h with
 | non=>exact .non
 | bl b=>exact .bl b
 | int i=>exact .int i
 | str x=>exact .str x
 | lst h r=>exact .lst h
 | tup h r=>exact .tup h
noncomputable def rIsI:List V->Hp->VK->Prop:=fun xs H Q=>∃ x d n b,xs=[x,.ty n]/\DV H x d/\(∀ K:PySem.W.Frag,PySem.W.kitOne K (.type (oG d)) (.type n)=some b)/\Q (.bl b) H
theorem qr:iQ X (.builtin "isinstance") rIsI:=by
 intro pins s σ H xs us Q I r h
 obtain ⟨x,d,n,b,rfl,hd,e,q⟩:=h
 obtain ⟨u,w,rfl,r1,r2⟩:=wx r
 cases r2
 exact tJ I r1 hd.ty (e _) fun tk=>⟨.bl b,H,I.tok tk,rfl,q⟩
end
section
variable {X:Cx} {pins:List (Addr × Obj)} {σ:St} {H:Hp} {s:Shared} {h':Heap}
theorem Inv.turnedNew {ch:List Addr} {a:Addr} {o:HO} {t':Nat} (I:Inv X pins σ H s) (hch:∀ b ∈ ch,gX X pins H b) (k:∀ b ob,b ∉ ch->s.heap.get? b=some ob->h'.get? b=some ob) (hp:s.heap.objs.size<=a)
  (there:∀ b ∈ ch,∀ ob,s.heap.get? b=some ob->∃ ob',h'.get? b=some ob') (new:ObjOk X.prog X.w (upd H a o) h' a o):Inv X pins σ (upd H a o) { s with heap:=h',toks:=t' }:=by
 have hn:=I.hok.fresh hp
 have nch:∀ b u,H b=some u->b ∉ ch:=fun b u e z=>by rw [(hch b z).1] at e; cases e
 refine I.step (g':=s.gens) (d':=s.drawn) (ch:=ch) (fun b hb=>⟨(hch b hb).2.2.2.1,(hch b hb).2.1,(hch b hb).2.2.2.2.1,(hch b hb).2.2.2.2.2⟩) (fun b ob _ _ hc e _=>k b ob hc e) (fun b ob _ _ hc e _=>⟨ob.slots,k b ob hc e⟩)
  (fun b ob _ e n=>by rw [aU (Nat.ne_of_lt (Nat.lt_of_lt_of_le (Qad e) hp))]; exact n) (fun b ob hc e=>⟨ob,k b ob hc e⟩) (fun b xs e=>aC hn b _ e) (fun b ob u e=>aC hn b _ e) (fun b ps e=>⟨#[],by rw [aC hn b _ e]; simp⟩) (fun m hm=>?_) (fun b u e=>?_) I.bare
 ·obtain ⟨oL,es,ep,ho,r⟩:=hm
  exact ⟨oL,es,ep,k _ oL (fun z=>(hch _ z).2.1 rfl) ho,r⟩
 ·by_cases hb:b=a
  ·subst hb; rw [bP] at e; cases e; exact new
  ·rw [aU hb] at e
   refine (I.hok b u e).stay (fun c v hc q=>k c v ?_ q) (fun c q=>aC hn c _ q) fun c xs q=>aC hn c _ q
   rcases hc with z | z
   ·rw [z]; exact nch b u e
   ·exact nch c _ z
end
noncomputable def Ite (K:PySem.W.Frag) (a:Addr):It:=
 ⟨fun i H=>∃ xs x,SqL K H a xs/\xs[i]? = some x,fun i H v H'=>∃ T x,v=.ref T/\H T=none/\H' = upd H T (.tup [.int i,x])/\∀ xs,SqL K H a xs->xs[i]? = some x,fun i H=>∃ xs,SqL K H a xs/\xs.length<=i⟩
section
variable {X:Cx} {elts:List Expr} {kk:Nat} {tpos:Pos}
noncomputable def Bh (K:PySem.W.Frag) (ta:TA):TI:=fun σ H R=>ta σ H fun vs H1=>∃ a xs,vs=[.ref a]/\SqL K H1 a xs/\R (Ite K a) H1
end
end L2
namespace L2.L3
open PySem PySem.Spec PyProof.Rows
noncomputable def hide (O:List Addr) (H:Hp):Hp:=fun b=>if b ∈ O then none else H b
section
variable {O O':List Addr} {H H' H1 H2:Hp}
theorem fR {b:Addr} {o:HO} (h:H b=some o) (n:b ∉ O):hide O H b=some o:=by unfold hide; rw [if_neg n]; exact h
theorem aO {b:Addr} {o:HO} (h:hide O H b=some o):H b=some o/\b ∉ O:=by
 unfold hide at h
 by_cases e:b ∈ O
 ·rw [if_pos e] at h; cases h
 ·rw [if_neg e] at h; exact ⟨h,e⟩
theorem mI:Same (hide O H) H:=fun b o h=>(aO h).1
structure Stp (O:List Addr) (H:Hp) (O':List Addr) (H':Hp):Prop where
 keep:∀ b o,b ∉ O->H b=some o->H' b=some o
 new:∀ a ∈ O',a ∈ O\/H a=none
theorem Stp.refl:Stp O H O H:=⟨fun _ _ _ h=>h,fun _ h=>.inl h⟩
theorem Stp.trans {O1 O2 O3:List Addr} {H3:Hp} (a:Stp O1 H1 O2 H2) (b:Stp O2 H2 O3 H3):Stp O1 H1 O3 H3:=by
 have nw:∀ c o,c ∉ O1->H1 c=some o->c ∉ O2:=fun c o hc e z=>(a.new c z).elim hc fun n=>by rw [n] at e; cases e
 refine ⟨fun c o hc e=>b.keep c o (nw c o hc e) (a.keep c o hc e),fun c h=>?_⟩
 by_cases hc:c ∈ O1
 ·exact .inl hc
 ·refine .inr ?_
  cases e:H1 c with
  | none=>rfl
  | some o=>
   rcases b.new c h with z | z
   ·exact absurd z (nw c o hc e)
   ·rw [a.keep c o hc e] at z; cases z
theorem Stp.same (s:Same H H'):Stp O H O H':=⟨fun b o _ e=>s b o e,fun _ h=>.inl h⟩
theorem Stp.hid (s:Stp O H O' H'):Same (hide O H) (hide O' H'):=fun b o e=>by
 obtain ⟨e1,n⟩:=aO e
 refine fR (s.keep b o n e1) fun z=>?_
 rcases s.new b z with q | q
 ·exact n q
 ·rw [q] at e1; cases e1
theorem iU (s:Same H H'):Same (hide O H) (hide O H'):=(Stp.same s).hid
theorem tS (s:∀ a ∈ O',a ∈ O):Same (hide O H) (hide O' H):=fun b o e=>by
 obtain ⟨e1,n⟩:=aO e
 exact fR e1 fun z=>n (s b z)
end
inductive Fl where
 | d (x:PyData) | l (ds:List PyData) | m (tk:Bool) (kvs:List (PyData × PyData))
inductive Bx where
 | l (ds:List PyData) | m (tk:Bool) (kvs:List (PyData × PyData)) | o (C:Addr) (fs:List (Str × Fl)) | sd (fs:List (Str × Fl)) | ll (xs:List (List PyData))
inductive Cell where
 | dat (d:PyData)
 | own (io:Bool) (b:Bx)
 | scr (ns:List Int)
 | exc (c:Str)
 | vw (b:Bx)
noncomputable abbrev DEnv:=List (Option Cell)
structure Fx where
 H₀:Hp
 A₀:List Addr
 O₀:List Addr
 I₀:Nat->Addr
noncomputable def Scr (K:PySem.W.Frag) (H:Hp) (a:Addr) (ns:List Int):Prop:=ns.length<=63/\((∃ o,H a=some (.frz o (.lst (ns.map V.int))))\/
 ∃ (o:Obj) (its:Array Value) (n:Nat),K.lookup a=some o/\o.cls=.type "list"/\o.dict=none/\o.data=.seq its n/\its.size<=sizeLine/\Vals (ns.map V.int) its.toList)
theorem Scr.sq {K:PySem.W.Frag} {H:Hp} {a:Addr} {ns:List Int} (h:Scr K H a ns):SqL K H a (ns.map V.int):=h.2.elim (fun ⟨o,e⟩=>.inl (.inr ⟨o,e⟩)) .inr
theorem Scr.mono {K:PySem.W.Frag} {H H':Hp} {a:Addr} {ns:List Int} (h:Scr K H a ns) (k:∀ o u,H a=some (.frz o u)->H' a=some (.frz o u)):Scr K H' a ns:=⟨h.1,h.2.imp (fun ⟨o,e⟩=>⟨o,k _ _ e⟩) id⟩
noncomputable def zH (K:PySem.W.Frag) (a:Addr) (c:Str) (h:Heap):Prop:=∃ C o,PySem.W.nsIn K mainGlobals c=some (some (.ref C))/\h.get? a=some o/\o.cls=.ref C
noncomputable def keyD:Key->PyData
 | .inl i=>.int i
 | .inr x=>.str x
noncomputable def tupD (ks:List Key):PyData:=.tuple (ks.map keyD)
noncomputable def DicAt (G H:Hp) (a:Addr):Bool->List (PyData × PyData)->Prop
 | false,kvs=>∃ ks:List (Key × V),H a=some (.dK ks)/\Paired (fun (p:Key × V) (q:PyData × PyData)=>keyD p.1=q.1/\DV G p.2 q.2) ks kvs
 | true,kvs=>∃ ks:List (List Key × V),H a=some (.dT ks)/\Paired (fun (p:List Key × V) (q:PyData × PyData)=>tupD p.1=q.1/\DV G p.2 q.2) ks kvs
noncomputable def FlAt (G H:Hp) (v:V):Fl->List Addr->Prop
 | .d x,fp=>fp=[]/\DV G v x
 | .l ds,fp=>∃ a xs,v=.ref a/\fp=[a]/\H a=some (.lst xs)/\DVs G xs ds
 | .m tk kvs,fp=>∃ a,v=.ref a/\fp=[a]/\DicAt G H a tk kvs
inductive FlsAt (G H:Hp):List (Str × V)->List (Str × Fl)->List (List Addr)->Prop where
 | nil:FlsAt G H [] [] []
 | cons {n:Str} {v:V} {f:Fl} {fp:List Addr} {gs:List (Str × V)} {fs:List (Str × Fl)} {fps:List (List Addr)}:FlAt G H v f fp->FlsAt G H gs fs fps->FlsAt G H ((n,v) :: gs) ((n,f) :: fs) (fp :: fps)
noncomputable def rW (G H:Hp) (b:Addr) (ds:List PyData):Prop:=∃ vs,H b=some (.lst vs)/\DVs G vs ds
noncomputable def BoxAt (G H:Hp) (a:Addr):Bx->List Addr->Prop
 | .l ds,fp=>fp=[a]/\∃ xs,H a=some (.lst xs)/\DVs G xs ds
 | .m tk kvs,fp=>fp=[a]/\DicAt G H a tk kvs
 | .o C fs,fp=>∃ dx gs fps,fp=a :: dx :: fps.flatten/\H a=some (.ins C dx gs)/\H dx=some (.own a)/\FlsAt G H gs fs fps
 | .sd fs,fp=>∃ gs fps,fp=a :: fps.flatten/\H a=some (.dK (gs.map fun p=>(Sum.inr p.1,p.2)))/\FlsAt G H gs fs fps
 | .ll xs,fp=>∃ bs:List Addr,fp=a :: bs/\H a=some (.lst (bs.map V.ref))/\Paired (rW G H) bs xs
noncomputable def Mv:HO->Prop
 | .lst _=>True
 | .dK _=>True
 | .dT _=>True
 | .ins _ _ _=>True
 | .own _=>True
 | _=>False
noncomputable def CellAt (K:PySem.W.Frag) (H:Hp) (O:List Addr) (v:V):Cell->List Addr->Prop
 | .dat d,_=>DV (hide O H) v d
 | .own _ b,fp=>∃ a,v=.ref a/\BoxAt (hide O H) H a b fp
 | .scr ns,_=>∃ a,v=.ref a/\Scr K H a ns
 | .exc c,_=>∃ a φ,v=.ref a/\hide O H a=some (.ext φ)/\∀ h,φ h->zH K a c h
 | .vw b,_=>∃ a fp,v=.ref a/\BoxAt (hide O H) (hide O H) a b fp
section
variable {G G' H H':Hp} {a:Addr} {v:V} {fp:List Addr}
theorem DicAt.keep {tk:Bool} {kvs:List (PyData × PyData)} (h:DicAt G H a tk kvs) (k:H' a=H a) (g:Same G G'):DicAt G' H' a tk kvs:=by
 cases tk with
 | false=>obtain ⟨ks,e,p⟩:=h; exact ⟨ks,k.trans e,Paired.mapP p fun _ _ z=>⟨z.1,DV.mono g z.2⟩⟩
 | true=>obtain ⟨ks,e,p⟩:=h; exact ⟨ks,k.trans e,Paired.mapP p fun _ _ z=>⟨z.1,DV.mono g z.2⟩⟩
theorem DicAt.live {tk:Bool} {kvs:List (PyData × PyData)} (h:DicAt G H a tk kvs):∃ o,H a=some o/\Mv o:=by
 cases tk with
 | false=>obtain ⟨ks,e,p⟩:=h; exact ⟨_,e,trivial⟩
 | true=>obtain ⟨ks,e,p⟩:=h; exact ⟨_,e,trivial⟩
theorem FlAt.keep {f:Fl} (h:FlAt G H v f fp) (k:∀ c ∈ fp,H' c=H c) (g:Same G G'):FlAt G' H' v f fp:=by
 cases f with
 | d x=>exact ⟨h.1,DV.mono g h.2⟩
 | l ds=>obtain ⟨a,xs,e1,e2,e3,e4⟩:=h; exact ⟨a,xs,e1,e2,(k a (by simp [e2])).trans e3,DVs.mono g e4⟩
 | m tk kvs=>obtain ⟨a,e1,e2,e3⟩:=h; exact ⟨a,e1,e2,e3.keep (k a (by simp [e2])) g⟩
theorem FlAt.live {f:Fl} (h:FlAt G H v f fp):∀ c ∈ fp,∃ o,H c=some o/\Mv o:=by
 cases f with
 | d x=>obtain ⟨rfl,_⟩:=h; intro c hc; cases hc
 | l ds=>obtain ⟨a,xs,e1,rfl,e3,e4⟩:=h; intro c hc; obtain rfl:=List.mem_singleton.mp hc; exact ⟨_,e3,trivial⟩
 | m tk kvs=>obtain ⟨a,e1,rfl,e3⟩:=h; intro c hc; obtain rfl:=List.mem_singleton.mp hc; exact e3.live
theorem FlsAt.keep {gs:List (Str × V)} {fs:List (Str × Fl)} {fps:List (List Addr)} (h:FlsAt G H gs fs fps) (k:∀ c ∈ fps.flatten,H' c=H c) (g:Same G G'):FlsAt G' H' gs fs fps:=by
 induction h with
 | nil=>exact .nil
 | cons a b ih=>exact .cons (a.keep (fun c hc=>k c (by simp [hc])) g) (ih fun c hc=>k c (by rw [List.flatten_cons]; exact Qai _ hc))
theorem FlsAt.live {gs:List (Str × V)} {fs:List (Str × Fl)} {fps:List (List Addr)} (h:FlsAt G H gs fs fps):∀ c ∈ fps.flatten,∃ o,H c=some o/\Mv o:=by
 induction h with
 | nil=>intro c hc; cases hc
 | cons a b ih=>
  intro c hc
  rw [List.flatten_cons] at hc
  rcases List.mem_append.mp hc with hc | hc
  ·exact a.live c hc
  ·exact ih c hc
theorem Lls.keep {bs:List Addr} {xs:List (List PyData)} (h:Paired (rW G H) bs xs) (k:∀ c ∈ bs,H' c=H c) (g:Same G G'):Paired (rW G' H') bs xs:=by
 induction h with
 | nil=>exact .nil
 | cons a b ih=>obtain ⟨vs,e,d⟩:=a; exact .cons ⟨vs,(k _ List.mem_cons_self).trans e,DVs.mono g d⟩ (ih fun c hc=>k c (Qak _ hc))
theorem Lls.live {bs:List Addr} {xs:List (List PyData)} (h:Paired (rW G H) bs xs):∀ c ∈ bs,∃ o,H c=some o/\Mv o:=by
 induction h with
 | nil=>intro c hc; cases hc
 | cons a b ih=>
  intro c hc
  obtain ⟨vs,e,d⟩:=a
  rcases List.mem_cons.mp hc with rfl | hc
  ·exact ⟨_,e,trivial⟩
  ·exact ih c hc
theorem BoxAt.keep {b:Bx} (h:BoxAt G H a b fp) (k:∀ c ∈ fp,H' c=H c) (g:Same G G'):BoxAt G' H' a b fp:=by
 cases b with
 | l ds=>obtain ⟨rfl,xs,e,d⟩:=h; exact ⟨rfl,xs,(k a (by simp)).trans e,DVs.mono g d⟩
 | m tk kvs=>obtain ⟨rfl,d⟩:=h; exact ⟨rfl,d.keep (k a (by simp)) g⟩
 | o C fs=>obtain ⟨dx,gs,fps,rfl,e1,e2,f⟩:=h; exact ⟨dx,gs,fps,rfl,(k a (by simp)).trans e1,(k dx (by simp)).trans e2,f.keep (fun c hc=>k c (by simp [hc])) g⟩
 | sd fs=>obtain ⟨gs,fps,rfl,e1,f⟩:=h; exact ⟨gs,fps,rfl,(k a (by simp)).trans e1,f.keep (fun c hc=>k c (by simp [hc])) g⟩
 | ll xs=>obtain ⟨bs,rfl,e1,f⟩:=h; exact ⟨bs,rfl,(k a (by simp)).trans e1,Lls.keep f (fun c hc=>k c (by simp [hc])) g⟩
theorem BoxAt.live {b:Bx} (h:BoxAt G H a b fp):∀ c ∈ fp,∃ o,H c=some o/\Mv o:=by
 cases b with
 | l ds=>obtain ⟨rfl,xs,e,d⟩:=h; intro c hc; obtain rfl:=List.mem_singleton.mp hc; exact ⟨_,e,trivial⟩
 | m tk kvs=>obtain ⟨rfl,d⟩:=h; intro c hc; obtain rfl:=List.mem_singleton.mp hc; exact d.live
 | o C fs=>
  obtain ⟨dx,gs,fps,rfl,e1,e2,f⟩:=h
  intro c hc
  rcases List.mem_cons.mp hc with rfl | hc
  ·exact ⟨_,e1,trivial⟩
  ·rcases List.mem_cons.mp hc with rfl | hc
   ·exact ⟨_,e2,trivial⟩
   ·exact f.live c hc
 | sd fs=>
  obtain ⟨gs,fps,rfl,e1,f⟩:=h
  intro c hc
  rcases List.mem_cons.mp hc with rfl | hc
  ·exact ⟨_,e1,trivial⟩
  ·exact f.live c hc
 | ll xs=>
  obtain ⟨bs,rfl,e1,f⟩:=h
  intro c hc
  rcases List.mem_cons.mp hc with rfl | hc
  ·exact ⟨_,e1,trivial⟩
  ·exact Lls.live f c hc
end
theorem CellAt.keep {K:PySem.W.Frag} {H H':Hp} {O O':List Addr} {v:V} {c:Cell} {fp:List Addr} (h:CellAt K H O v c fp) (s:Stp O H O' H') (k:∀ b ∈ fp,H' b=H b) (z:∀ b o u,H b=some (.frz o u)->H' b=some (.frz o u)):CellAt K H' O' v c fp:=by
 cases c with
 | dat d=>exact DV.mono s.hid h
 | own io b=>obtain ⟨a,e,q⟩:=h; exact ⟨a,e,q.keep k s.hid⟩
 | scr ns=>obtain ⟨a,e1,q⟩:=h; exact ⟨a,e1,q.mono fun o u w=>z _ _ _ w⟩
 | exc c=>obtain ⟨a,φ,e1,e2,q⟩:=h; exact ⟨a,φ,e1,s.hid _ _ e2,q⟩
 | vw b=>obtain ⟨a,fp',e1,q⟩:=h; exact ⟨a,fp',e1,q.keep (fun c hc=>by obtain ⟨o,e2,_⟩:=q.live c hc; rw [e2]; exact s.hid _ _ e2) s.hid⟩
structure DStW (K:PySem.W.Frag) (F:Fx) (H:Hp) (σ:St) (ρ:DEnv) (W:List (List Addr)):Prop where
 at_:∀ (i:Nat) (c:Cell),ρ[i]? = some (some c)->∃ v fp,σ[i]? = some (some v)/\W[i]? = some fp/\CellAt K H (W.flatten ++ F.O₀) v c fp
 nd:(W.flatten ++ F.O₀).Nodup
 kept:∀ b o,b ∉ F.A₀->F.H₀ b=some o->H b=some o
 new:∀ a ∈ W.flatten,a ∈ F.A₀\/F.H₀ a=none
 live:∀ a ∈ W.flatten ++ F.O₀,∃ o,H a=some o/\Mv o
 len:ρ.length=σ.length
 lw:W.length=ρ.length
 io:∀ (i:Nat) (b:Bx),ρ[i]? = some (some (.own true b))->σ[i]? = some (some (.ref (F.I₀ i)))
noncomputable def DSt (K:PySem.W.Frag) (F:Fx) (H:Hp) (σ:St) (ρ:DEnv) (O:List Addr):Prop:=∃ W,DStW K F H σ ρ W/\O=W.flatten ++ F.O₀
theorem eP {α:Type} {l:List α} {i j:Nat} {x y:α} (e:(l.set i x)[j]? = some y):(j=i/\y=x/\i < l.length)\/(j ≠ i/\l[j]? = some y):=by
 by_cases hj:j=i
 ·subst hj
  have hlt:j < l.length:=by
   have:=(List.getElem?_eq_some_iff.mp e).1
   rwa [List.length_set] at this
  rw [List.getElem?_set_self hlt] at e
  exact .inl ⟨rfl,(Option.some.inj e).symm,hlt⟩
 ·rw [List.getElem?_set_ne (Ne.symm hj)] at e
  exact .inr ⟨hj,e⟩
theorem bo {α:Type} {W:List (List α)} {i:Nat} {fp:List α} {a:α} (h:a ∈ (W.set i fp).flatten):a ∈ fp\/∃ j l,j ≠ i/\W[j]? = some l/\a ∈ l:=by
 obtain ⟨l,hl,ha⟩:=List.mem_flatten.mp h
 obtain ⟨j,hj⟩:=List.getElem?_of_mem hl
 rcases eP hj with ⟨_,rfl,_⟩ | ⟨hj',e⟩
 ·exact .inl ha
 ·exact .inr ⟨j,l,hj',e,ha⟩
theorem aB {α:Type} {W:List (List α)} {j:Nat} {l:List α} {a:α} (h:W[j]? = some l) (ha:a ∈ l):a ∈ W.flatten:=List.mem_flatten.mpr ⟨l,List.mem_of_getElem? h,ha⟩
theorem oY {α:Type} {W:List (List α)} {i j:Nat} {fp l:List α} {a:α} (hj:j ≠ i) (h:W[j]? = some l) (ha:a ∈ l):a ∈ (W.set i fp).flatten:=aB (j:=j) (by rw [List.getElem?_set_ne (Ne.symm hj)]; exact h) ha
theorem om {α:Type} {W:List (List α)} {i:Nat} {fp:List α} {a:α} (hi:i < W.length) (ha:a ∈ fp):a ∈ (W.set i fp).flatten:=aB (j:=i) (List.getElem?_set_self hi) ha
theorem gQ {α:Type}:∀ {W:List (List α)} {i j:Nat} {l m:List α} {a:α},W.flatten.Nodup->W[i]? = some l->W[j]? = some m->i ≠ j->a ∈ l->a ∉ m
 | [],_,_,_,_,_,_,h,_,_,_=>by simp at h
 | w :: W,0,0,_,_,_,_,_,_,hn,_=>absurd rfl hn
 | w :: W,0,j + 1,l,m,a,nd,h1,h2,_,ha=>fun hm=>by
  have e:w=l:=by simpa using h1
  subst e
  rw [List.flatten_cons] at nd
  exact (List.nodup_append.mp nd).2.2 a ha a (aB (j:=j) (by simpa using h2) hm) rfl
 | w :: W,i + 1,0,l,m,a,nd,h1,h2,_,ha=>fun hm=>by
  have e:w=m:=by simpa using h2
  subst e
  rw [List.flatten_cons] at nd
  exact (List.nodup_append.mp nd).2.2 a hm a (aB (j:=i) (by simpa using h1) ha) rfl
 | w :: W,i + 1,j + 1,l,m,a,nd,h1,h2,hn,ha=>gQ (W:=W) (i:=i) (j:=j) (by rw [List.flatten_cons] at nd; exact (List.nodup_append.mp nd).2.1) (by simpa using h1) (by simpa using h2) (by omega) ha
theorem iV {α:Type} [DecidableEq α]:∀ {W:List (List α)} {i:Nat} {fp O:List α},(W.flatten ++ O).Nodup->fp.Nodup->(∀ a ∈ fp,(∀ j l,j ≠ i->W[j]? = some l->a ∉ l)/\a ∉ O)->((W.set i fp).flatten ++ O).Nodup
 | [],i,fp,O,h,_,_=>by simpa using h
 | w :: W,0,fp,O,h,hf,hd=>by
  rw [List.set_cons_zero,List.flatten_cons,List.append_assoc]
  rw [List.flatten_cons,List.append_assoc] at h
  refine List.nodup_append.mpr ⟨hf,(List.nodup_append.mp h).2.1,fun a ha b hb e=>?_⟩
  subst e
  rcases List.mem_append.mp hb with hb | hb
  ·obtain ⟨l,hl,hal⟩:=List.mem_flatten.mp hb
   obtain ⟨j,hj⟩:=List.getElem?_of_mem hl
   exact (hd a ha).1 (j + 1) l (by omega) (by simpa using hj) hal
  ·exact (hd a ha).2 hb
 | w :: W,i + 1,fp,O,h,hf,hd=>by
  rw [List.set_cons_succ,List.flatten_cons,List.append_assoc]
  rw [List.flatten_cons,List.append_assoc] at h
  obtain ⟨h1,h2,h3⟩:=List.nodup_append.mp h
  have ih:=iV (W:=W) (i:=i) (fp:=fp) (O:=O) h2 hf fun a ha=>⟨fun j l hj e=>(hd a ha).1 (j + 1) l (by omega) (by simpa using e),(hd a ha).2⟩
  refine List.nodup_append.mpr ⟨h1,ih,fun a ha b hb e=>?_⟩
  subst e
  rcases List.mem_append.mp hb with hb | hb
  ·rcases bo hb with hb | ⟨j,l,hj,e,hl⟩
   ·exact (hd a hb).1 0 w (by omega) (by simp) ha
   ·exact h3 a ha a (Qaj _ (aB e hl)) rfl
  ·exact h3 a ha a (Qai _ hb) rfl
section
variable {K:PySem.W.Frag} {F:Fx} {H H':Hp} {σ:St} {ρ:DEnv} {O O':List Addr} {W:List (List Addr)}
theorem DStW.nofrz (st:DStW K F H σ ρ W) {b:Addr} (h:b ∈ W.flatten ++ F.O₀) {o:Obj} {u:HO}:H b ≠ some (.frz o u):=fun z=>by
 obtain ⟨o',e,m⟩:=st.live b h
 rw [z] at e; cases e; exact m
theorem DStW.put (st:DStW K F H σ ρ W) {i:Nat} {v:V} {c:Cell} {fp:List Addr} (hi:i < ρ.length)
  (keep:∀ j l b,j ≠ i->W[j]? = some l->b ∈ l->H' b=H b) (keepO:∀ b ∈ F.O₀,H' b=H b) (frz:∀ b o,b ∉ W.flatten ++ F.O₀->H b=some o->H' b=some o)
  (nd:fp.Nodup) (ap:∀ a ∈ fp,(∀ j l,j ≠ i->W[j]? = some l->a ∉ l)/\a ∉ F.O₀) (new:∀ a ∈ fp,a ∈ W.flatten\/H a=none) (liv:∀ a ∈ fp,∃ o,H' a=some o/\Mv o)
  (hc:Stp (W.flatten ++ F.O₀) H ((W.set i fp).flatten ++ F.O₀) H'->CellAt K H' ((W.set i fp).flatten ++ F.O₀) v c fp) (hio:∀ b,c=.own true b->v=.ref (F.I₀ i)) :
  DStW K F H' (σ.set i (some v)) (ρ.set i (some c)) (W.set i fp)/\Stp (W.flatten ++ F.O₀) H ((W.set i fp).flatten ++ F.O₀) H':=by
 have stp:Stp (W.flatten ++ F.O₀) H ((W.set i fp).flatten ++ F.O₀) H':=⟨frz,fun a h=>by
  rcases List.mem_append.mp h with h | h
  ·rcases bo h with h | ⟨j,l,_,e,hl⟩
   ·exact (new a h).imp (Qaj _) id
   ·exact .inl (Qaj _ (aB e hl))
  ·exact .inl (Qai _ h)⟩
 have zf:∀ b o u,H b=some (.frz o u)->H' b=some (.frz o u):=fun b o u e=>frz b _ (fun z=>st.nofrz z e) e
 have hiW:i < W.length:=by rw [st.lw]; exact hi
 refine ⟨⟨fun j d e=>?_,iV st.nd nd ap,fun b o hA e=>?_,fun a h=>?_,fun a h=>?_,by rw [List.length_set,List.length_set,st.len],by rw [List.length_set,List.length_set,st.lw],fun j b e=>?_⟩,stp⟩
 ·rcases eP e with ⟨rfl,e1,_⟩ | ⟨hj,e1⟩
  ·cases e1
   exact ⟨v,fp,List.getElem?_set_self (by rw [<-st.len]; exact hi),List.getElem?_set_self hiW,hc stp⟩
  ·obtain ⟨w,l,h1,h2,h3⟩:=st.at_ j d e1
   exact ⟨w,l,by rw [List.getElem?_set_ne (Ne.symm hj)]; exact h1,by rw [List.getElem?_set_ne (Ne.symm hj)]; exact h2,h3.keep stp (fun b hb=>keep j l b hj h2 hb) zf⟩
 ·have e1:=st.kept b o hA e
  by_cases hO:b ∈ F.O₀
  ·rw [keepO b hO]; exact e1
  ·refine frz b o (fun z=>?_) e1
   rcases List.mem_append.mp z with z | z
   ·rcases st.new b z with q | q
    ·exact hA q
    ·rw [q] at e; cases e
   ·exact hO z
 ·rcases bo h with h | ⟨j,l,_,e,hl⟩
  ·rcases new a h with q | q
   ·exact st.new a q
   ·by_cases hA:a ∈ F.A₀
    ·exact .inl hA
    ·refine .inr ?_
     cases e:F.H₀ a with
     | none=>rfl
     | some o=>rw [st.kept a o hA e] at q; cases q
  ·exact st.new a (aB e hl)
 ·rcases List.mem_append.mp h with h | h
  ·rcases bo h with h | ⟨j,l,hj,e,hl⟩
   ·exact liv a h
   ·obtain ⟨o,h1,h2⟩:=st.live a (Qaj _ (aB e hl))
    exact ⟨o,by rw [keep j l a hj e hl]; exact h1,h2⟩
  ·obtain ⟨o,h1,h2⟩:=st.live a (Qai _ h)
   exact ⟨o,by rw [keepO a h]; exact h1,h2⟩
 ·rcases eP e with ⟨rfl,e1,_⟩ | ⟨hj,e1⟩
  ·rw [List.getElem?_set_self (by rw [<-st.len]; exact hi),hio b (Option.some.inj e1).symm]
  ·rw [List.getElem?_set_ne (Ne.symm hj)]; exact st.io j b e1
theorem DStW.grow (st:DStW K F H σ ρ W) (s:Same H H'):DStW K F H' σ ρ W where
 at_:=fun i c e=>let ⟨v,fp,h1,h2,h3⟩:=st.at_ i c e; ⟨v,fp,h1,h2,h3.keep (.same s) (fun b hb=>by
  obtain ⟨o,e1,_⟩:=st.live b (Qaj _ (aB h2 hb))
  rw [e1]; exact s _ _ e1) fun b o u e=>s _ _ e⟩
 nd:=st.nd
 kept:=fun b o n e=>s b o (st.kept b o n e)
 new:=st.new
 live:=fun a h=>let ⟨o,e,m⟩:=st.live a h; ⟨o,s _ _ e,m⟩
 len:=st.len
 lw:=st.lw
 io:=st.io
theorem DSt.grow (st:DSt K F H σ ρ O) (s:Same H H'):DSt K F H' σ ρ O:=let ⟨W,h,e⟩:=st; ⟨W,h.grow s,e⟩
theorem DSt.nofree (st:DSt K F H σ ρ O):∀ p,H p=none->p ∉ O:=fun p hp z=>by
 obtain ⟨W,h,rfl⟩:=st
 obtain ⟨o,e,_⟩:=h.live p z
 rw [hp] at e; cases e
theorem DSt.dat (st:DSt K F H σ ρ O) {i:Nat} {d:PyData} (e:ρ[i]? = some (some (.dat d))):∃ v,σ[i]? = some (some v)/\DV (hide O H) v d:=by
 obtain ⟨W,h,rfl⟩:=st
 obtain ⟨v,fp,h1,h2,h3⟩:=h.at_ i _ e
 exact ⟨v,h1,h3⟩
theorem DSt.scr (st:DSt K F H σ ρ O) {i:Nat} {ns:List Int} (e:ρ[i]? = some (some (.scr ns))):∃ a,σ[i]? = some (some (.ref a))/\Scr K H a ns:=by
 obtain ⟨W,h,rfl⟩:=st
 obtain ⟨v,fp,h1,h2,a,rfl,h3⟩:=h.at_ i _ e
 exact ⟨a,h1,h3⟩
theorem DSt.set (st:DSt K F H σ ρ O) {i:Nat} {v:V} {d:PyData} (h:DV (hide O H) v d):DSt K F H (σ.set i (some v)) (ρ.set i (some (.dat d))) O:=by
 obtain ⟨W,st,rfl⟩:=st
 refine ⟨W,⟨fun j c e=>?_,st.nd,st.kept,st.new,st.live,by rw [List.length_set,List.length_set,st.len],by rw [List.length_set,st.lw],fun j b e=>?_⟩,rfl⟩
 rotate_left
 ·rcases eP e with ⟨rfl,e1,_⟩ | ⟨hj,e1⟩
  ·cases e1
  ·rw [List.getElem?_set_ne (Ne.symm hj)]; exact st.io j b e1
 rcases eP e with ⟨rfl,e1,hlt⟩ | ⟨hj,e1⟩
 ·cases e1
  obtain ⟨fp,hfp⟩:∃ fp,W[j]? = some fp:=⟨W[j]'(by rw [st.lw]; exact hlt),List.getElem?_eq_getElem _⟩
  exact ⟨v,fp,List.getElem?_set_self (by rw [<-st.len]; exact hlt),hfp,h⟩
 ·obtain ⟨w,l,h1,h2,h3⟩:=st.at_ j c e1
  exact ⟨w,l,by rw [List.getElem?_set_ne (Ne.symm hj)]; exact h1,h2,h3⟩
theorem DSt.box (st:DSt K F H σ ρ O) {i:Nat} {io:Bool} {b:Bx} (e:ρ[i]? = some (some (.own io b))):∃ a fp,σ[i]? = some (some (.ref a))/\BoxAt (hide O H) H a b fp/\(∀ c ∈ fp,c ∈ O)/\
  ∀ (H':Hp) (b':Bx) (fp':List Addr),(∀ c o,c ∉ fp->H c=some o->H' c=some o)->fp'.Nodup->(∀ c ∈ fp',c ∈ fp\/H c=none)->(∀ G,(∀ O',Stp O H O' H'->G=hide O' H'->(∀ c ∈ fp',c ∈ O')->Same (hide O H) G/\BoxAt G H' a b' fp'))->
   ∃ O',DSt K F H' σ (ρ.set i (some (.own io b'))) O'/\Stp O H O' H'/\(∀ c ∈ O',c ∈ fp'\/c ∈ O):=by
 obtain ⟨W,st,rfl⟩:=st
 obtain ⟨v,fp,h1,h2,a,rfl,h3⟩:=st.at_ i _ e
 have hi:i < ρ.length:=(List.getElem?_eq_some_iff.mp e).1
 have hiW:i < W.length:=by rw [st.lw]; exact hi
 refine ⟨a,fp,h1,h3,fun c hc=>Qaj _ (aB h2 hc),fun H' b' fp' keep nd fr hb=>?_⟩
 have ndW:W.flatten.Nodup:=(List.nodup_append.mp st.nd).1
 have nO:∀ c ∈ fp,c ∉ F.O₀:=fun c hc z=>(List.nodup_append.mp st.nd).2.2 c (aB h2 hc) c z rfl
 have kj:∀ j l c,j ≠ i->W[j]? = some l->c ∈ l->H' c=H c:=fun j l c hj ej hc=>by
  obtain ⟨o,eo,_⟩:=st.live c (Qaj _ (aB ej hc))
  rw [eo]
  exact keep c o (fun z=>gQ ndW ej h2 hj hc z) eo
 have kO:∀ c ∈ F.O₀,H' c=H c:=fun c hc=>by
  obtain ⟨o,eo,_⟩:=st.live c (Qai _ hc)
  rw [eo]
  exact keep c o (fun z=>nO c z hc) eo
 have ap:∀ c ∈ fp',(∀ j l,j ≠ i->W[j]? = some l->c ∉ l)/\c ∉ F.O₀:=fun c hc=>by
  rcases fr c hc with q | q
  ·exact ⟨fun j l hj ej z=>gQ ndW h2 ej (Ne.symm hj) q z,nO c q⟩
  ·refine ⟨fun j l _ ej z=>?_,fun z=>?_⟩
   ·obtain ⟨o,eo,_⟩:=st.live c (Qaj _ (aB ej z)); rw [q] at eo; cases eo
   ·obtain ⟨o,eo,_⟩:=st.live c (Qai _ z); rw [q] at eo; cases eo
 have frz:∀ c o,c ∉ W.flatten ++ F.O₀->H c=some o->H' c=some o:=fun c o hc ec=>keep c o (fun z=>hc (Qaj _ (aB h2 z))) ec
 have stp:Stp (W.flatten ++ F.O₀) H ((W.set i fp').flatten ++ F.O₀) H':=⟨frz,fun c h=>by
  rcases List.mem_append.mp h with h | h
  ·rcases bo h with h | ⟨j,l,_,ej,hl⟩
   ·exact (fr c h).imp (fun z=>Qaj _ (aB h2 z)) id
   ·exact .inl (Qaj _ (aB ej hl))
  ·exact .inl (Qai _ h)⟩
 have inO':∀ c ∈ fp',c ∈ (W.set i fp').flatten ++ F.O₀:=fun c hc=>Qaj _ (om hiW hc)
 have hbx:=(hb _ _ stp rfl inO').2
 obtain ⟨s1,s2⟩:=st.put (H':=H') (i:=i) (v:=.ref a) (c:=.own io b') (fp:=fp') hi kj kO frz nd ap (fun c hc=>(fr c hc).imp (fun z=>aB h2 z) id) (fun c hc=>hbx.live c hc) (fun _=>⟨a,rfl,hbx⟩) (fun b2 z=>by cases z; have:=st.io i b e; rw [h1] at this; exact (Option.some.inj (Option.some.inj this)))
 have eσ:σ.set i (some (.ref a))=σ:=by
  apply List.ext_getElem?
  intro j
  by_cases hj:j=i
  ·subst hj; rw [List.getElem?_set_self (List.getElem?_eq_some_iff.mp h1).1,h1]
  ·rw [List.getElem?_set_ne (Ne.symm hj)]
 rw [eσ] at s1
 refine ⟨_,⟨_,s1,rfl⟩,s2,fun c hc=>?_⟩
 rcases List.mem_append.mp hc with hc | hc
 ·rcases bo hc with hc | ⟨j,l,_,ej,hl⟩
  ·exact .inl hc
  ·exact .inr (Qaj _ (aB ej hl))
 ·exact .inr (Qai _ hc)
theorem DSt.freeze (st:DSt K F H σ ρ O) {i:Nat} {ds:List PyData} (e:ρ[i]? = some (some (.own false (.l ds)))) :
  ∃ v O',σ[i]? = some (some v)/\DSt K F H σ (ρ.set i (some (.dat (.list ds)))) O'/\Stp O H O' H/\DV (hide O' H) v (.list ds):=by
 obtain ⟨W,st,rfl⟩:=st
 obtain ⟨v,fp,h1,h2,a,rfl,rfl,xs,h3,h4⟩:=st.at_ i _ e
 have hi:i < ρ.length:=(List.getElem?_eq_some_iff.mp e).1
 have ndW:W.flatten.Nodup:=(List.nodup_append.mp st.nd).1
 have nin:a ∉ (W.set i []).flatten ++ F.O₀:=fun z=>by
  rcases List.mem_append.mp z with z | z
  ·rcases bo z with z | ⟨j,l,hj,ej,hl⟩
   ·cases z
   ·exact gQ ndW h2 ej (Ne.symm hj) List.mem_cons_self hl
  ·exact (List.nodup_append.mp st.nd).2.2 a (aB h2 List.mem_cons_self) a z rfl
 have dv:Stp (W.flatten ++ F.O₀) H ((W.set i []).flatten ++ F.O₀) H->DV (hide ((W.set i []).flatten ++ F.O₀) H) (.ref a) (.list ds):=fun s=>.lst (fR h3 nin) (DVs.mono s.hid h4)
 obtain ⟨s1,s2⟩:=st.put (H':=H) (i:=i) (v:=.ref a) (c:=.dat (.list ds)) (fp:=[]) hi (fun _ _ _ _ _ _=>rfl) (fun _ _=>rfl) (fun _ _ _ e=>e) List.nodup_nil (fun a h=>by cases h) (fun a h=>by cases h) (fun a h=>by cases h) (fun s=>dv s) (fun _ z=>by cases z)
 have eσ:σ.set i (some (.ref a))=σ:=by
  apply List.ext_getElem?
  intro j
  by_cases hj:j=i
  ·subst hj; rw [List.getElem?_set_self (List.getElem?_eq_some_iff.mp h1).1,h1]
  ·rw [List.getElem?_set_ne (Ne.symm hj)]
 rw [eσ] at s1
 exact ⟨_,_,h1,⟨_,s1,rfl⟩,s2,dv s2⟩
end
noncomputable abbrev DT:=DEnv->(PyData->DEnv->Prop)->Prop
noncomputable def Mn (t:DT):Prop:=∀ ρ Q Q',(∀ d ρ',Q d ρ'->Q' d ρ')->t ρ Q->t ρ Q'
noncomputable def rdE (K:PySem.W.Frag) (F:Fx) (t:DT):TE:=fun σ H Q=>∃ ρ O,DSt K F H σ ρ O/\t ρ fun d ρ'=>∀ v H' O',DSt K F H' σ ρ' O'->Stp O H O' H'->DV (hide O' H') v d->Q v H'
structure DE (X:Cx) (F:Fx) (e:Expr) (t:DT):Prop where
 mn:Mn t
 pe:PE X e (rdE X.K F t)
theorem _root_.L2.PE.imp {X:Cx} {e:Expr} {t t':TE} (h:PE X e t) (k:∀ σ H Q,t' σ H Q->t σ H Q):PE X e t':=fun pins s σ H Q I q=>h pins s σ H Q I (k σ H Q q)
theorem _root_.L2.PT.imp {X:Cx} {e:Expr} {t t':TT} (h:PT X e t) (k:∀ σ H Q,t' σ H Q->t σ H Q):PT X e t':=fun pins s σ H Q I q=>h pins s σ H Q I (k σ H Q q)
theorem _root_.L2.PS.imp {X:Cx} {e:Stmt} {t t':TS} (h:PS X e t) (k:∀ D σ H,t' D σ H->t D σ H):PS X e t':=fun pins s σ H D I q=>h pins s σ H D I (k D σ H q)
theorem _root_.L2.PSs.imp {X:Cx} {e:List Stmt} {t t':TS} (h:PSs X e t) (k:∀ D σ H,t' D σ H->t D σ H):PSs X e t':=fun pins s σ H D I q=>h pins s σ H D I (k D σ H q)
section
variable {X:Cx} {F:Fx} {a b e:Expr} {ta tb:DT} {pos:Pos}
noncomputable def dC (d:PyData):DT:=fun ρ Q=>Q d ρ
noncomputable def dV (i:Nat):DT:=fun ρ Q=>(∃ d,ρ[i]? = some (some (.dat d))/\Q d ρ)\/∃ ds,ρ[i]? = some (some (.own false (.l ds)))/\Q (.list ds) (ρ.set i (some (.dat (.list ds))))
theorem mn_C {d:PyData}:Mn (dC d):=fun _ _ _ h q=>h _ _ q
theorem iu {d:PyData} {v:V} (h:PE X e (tC v)) (hd:∀ H,DV H v d):DE X F e (dC d):=
 ⟨mn_C,h.imp fun σ H Q ⟨ρ,O,st,q⟩=>q v H O st .refl (hd _)⟩
theorem aa {i j}:DE X F (.Constant (.int i) j pos) (dC (.int i)):=iu tq fun _=>.int i
theorem jq {i j}:DE X F (.Constant (.bool i) j pos) (dC (.bool i)):=iu AW fun _=>.bl i
theorem fX {j}:DE X F (.Constant .none j pos) (dC .none):=iu tu fun _=>.non
theorem cB {x j}:DE X F (.Constant (.str x) j pos) (dC (.str x)):=iu tv fun _=>.str x
theorem tT (i:Nat) {x:Str} (h:PE X (.Name x pos) (fV i)):DE X F (.Name x pos) (dV i):=
 ⟨fun _ _ _ k q=>q.imp (fun ⟨d,e,q⟩=>⟨d,e,k _ _ q⟩) fun ⟨d,e,q⟩=>⟨d,e,k _ _ q⟩,h.imp fun σ H Q ⟨ρ,O,st,q⟩=>by
  rcases q with ⟨d,e,q⟩ | ⟨ds,e,q⟩
  ·obtain ⟨v,h1,h2⟩:=st.dat e
   exact ⟨v,h1,q v H O st .refl h2⟩
  ·obtain ⟨v,O',h1,h2,h3,h4⟩:=st.freeze e
   exact ⟨v,h1,q v H O' h2 h3 h4⟩⟩
noncomputable abbrev D2:=PyData->PyData->(PyData->Prop)->Prop
noncomputable def dOp (f:D2) (ta tb:DT):DT:=fun ρ Q=>ta ρ fun x ρ1=>tb ρ1 fun y ρ2=>f x y fun d=>Q d ρ2
structure Op2 (r:R2) (f:D2):Prop where
 mn:∀ x y Q Q',(∀ d,Q d->Q' d)->f x y Q->f x y Q'
 ok:∀ (O:List Addr) (H:Hp) (u v:V) (x y:PyData) (Q:VK),(∀ p,H p=none->p ∉ O)->DV (hide O H) u x->DV (hide O H) v y->f x y (fun d=>∀ w H',Same H H'->DV (hide O H') w d->Q w H')->r u v H Q
theorem rd2 {r:R2} {f:D2} {ta tb:DT} (o:Op2 r f) (ha:Mn ta) (hb:Mn tb) {K:PySem.W.Frag}:∀ σ H Q,rdE K F (dOp f ta tb) σ H Q->tOp r (rdE K F ta) (rdE K F tb) σ H Q:=fun σ H Q ⟨ρ,O,st,q⟩=>by
 refine ⟨ρ,O,st,ha _ _ _ (fun x ρ1 q1 v1 H1 O1 st1 s1 d1=>?_) q⟩
 refine ⟨ρ1,O1,st1,hb _ _ _ (fun y ρ2 q2 v2 H2 O2 st2 s2 d2=>?_) q1⟩
 refine o.ok O2 H2 v1 v2 x y Q st2.nofree (DV.mono s2.hid d1) d2 (o.mn _ _ _ _ (fun d q3 w H3 s3 d3=>?_) q2)
 exact q3 w H3 O2 (st2.grow s3) (s1.trans (s2.trans (.same s3))) d3
theorem mn2 {r:R2} {f:D2} (o:Op2 r f) (ha:Mn ta) (hb:Mn tb):Mn (dOp f ta tb):=fun _ _ _ k q=>ha _ _ _ (fun _ _ q1=>hb _ _ _ (fun _ _ q2=>o.mn _ _ _ _ (fun _ q3=>k _ _ q3) q2) q1) q
theorem iW {op:Operator} {r:R2} {f:D2} (ho:OpR X (binaryOp op) r) (o:Op2 r f) (ha:DE X F a ta) (hb:DE X F b tb):DE X F (.BinOp a op b pos) (dOp f ta tb):=
 ⟨mn2 o ha.mn hb.mn,(A7 ho ha.pe hb.pe).imp (rd2 o ha.mn hb.mn)⟩
theorem oZ {op:CmpOp} {r:R2} {f:D2} (ho:OpR X (compareOp op) r) (o:Op2 r f) (ha:DE X F a ta) (hb:DE X F b tb) (hm:behindInMarks op b=false):DE X F (.Compare a [op] [b] pos) (dOp f ta tb):=
 ⟨mn2 o ha.mn hb.mn,(xb ho ha.pe hb.pe hm).imp (rd2 o ha.mn hb.mn)⟩
theorem Bi {r:R2} {f:D2} (hr:IxR X r) (o:Op2 r f) (ha:DE X F a ta) (hb:DE X F b tb) (hs:ko b):DE X F (.Subscript a b pos) (dOp f ta tb):=
 ⟨mn2 o ha.mn hb.mn,(wz hr ha.pe hb.pe hs).imp (rd2 o ha.mn hb.mn)⟩
noncomputable def fI (C:Int->Int->Prop) (g:Int->Int->PyData):D2:=fun x y Q=>∃ i j,x=.int i/\y=.int j/\C i j/\Q (g i j)
theorem oH {C:Int->Int->Prop} {g:Int->Int->V} {g':Int->Int->PyData} (hg:∀ i j H,DV H (g i j) (g' i j)):Op2 (rI C g) (fI C g') where
 mn:=fun _ _ _ _ k ⟨i,j,e1,e2,c,q⟩=>⟨i,j,e1,e2,c,k _ q⟩
 ok:=fun O H u v x y Q hO h1 h2 ⟨i,j,e1,e2,c,q⟩=>by
  subst e1 e2
  exact ⟨i,j,h1.int_inv,h2.int_inv,c,q _ H (fun _ _ h=>h) (hg i j _)⟩
theorem iw {g:Int->Int->V} {g':Int->Int->PyData} (hg:∀ i j H,DV H (g i j) (g' i j)):Op2 (rI0 g) (fI (fun _ _=>True) g') where
 mn:=fun _ _ _ _ k ⟨i,j,e1,e2,c,q⟩=>⟨i,j,e1,e2,c,k _ q⟩
 ok:=fun O H u v x y Q hO h1 h2 ⟨i,j,e1,e2,_,q⟩=>by
  subst e1 e2
  exact ⟨i,j,h1.int_inv,h2.int_inv,q _ H (fun _ _ h=>h) (hg i j _)⟩
noncomputable def fEq (neg:Bool):D2:=fun x y Q=>SeqAt.shaped x=true/\SeqAt.shaped y=true/\Q (.bool (PyData.eqv x y != neg))
theorem vm {neg:Bool}:Op2 (vk neg) (fEq neg) where
 mn:=fun _ _ _ _ k ⟨e1,e2,q⟩=>⟨e1,e2,k _ q⟩
 ok:=fun O H u v x y Q hO h1 h2 ⟨e1,e2,q⟩=>⟨x,y,DV.mono mI h1,DV.mono mI h2,e1,e2,q _ H (fun _ _ h=>h) (.bl _)⟩
@[simp] noncomputable def isNone:PyData->Bool
 | .none=>true
 | _=>false
noncomputable def fIs:D2:=fun x y Q=>y=.none/\Q (.bool (isNone x))
noncomputable def o5:D2:=fun x y Q=>y=.none/\Q (.bool (!isNone x))
theorem tU {H:Hp} {v:V} {d:PyData} (h:DV H v d):decide (v=.non)=isNone d:=by
 cases h <;> first | rfl | (exact decide_eq_false (fun z=>by cases z))
theorem o_is:Op2 (fun x y H Q=>y=.non/\Q (.bl (decide (x=.non))) H) fIs where
 mn:=fun _ _ _ _ k ⟨e,q⟩=>⟨e,k _ q⟩
 ok:=fun O H u v x y Q hO h1 h2 ⟨e,q⟩=>by
  subst e
  exact ⟨h2.non_inv,by rw [tU h1]; exact q _ H (fun _ _ h=>h) (.bl _)⟩
theorem xn:Op2 (fun x y H Q=>y=.non/\Q (.bl (!decide (x=.non))) H) o5 where
 mn:=fun _ _ _ _ k ⟨e,q⟩=>⟨e,k _ q⟩
 ok:=fun O H u v x y Q hO h1 h2 ⟨e,q⟩=>by
  subst e
  exact ⟨h2.non_inv,by rw [tU h1]; exact q _ H (fun _ _ h=>h) (.bl _)⟩
noncomputable def fIxT:D2:=fun x y Q=>∃ ds i d,x=.tuple ds/\y=.int i/\atI ds i=some d/\Q d
noncomputable def fIxL:D2:=fun x y Q=>∃ ds i d,x=.list ds/\y=.int i/\atI ds i=some d/\Q d
theorem tV {H:Hp} {vs:List V} {ds:List PyData} {i:Int} {d:PyData} (h:DVs H vs ds) (e:atI ds i=some d):∃ v,atI vs i=some v/\DV H v d:=by
 unfold atI at e ⊢
 rw [h.length]
 cases q:ixN ds.length i with
 | none=>rw [q] at e; cases e
 | some j=>
  rw [q] at e
  exact h.get e
theorem wB {K:PySem.W.Frag}:Op2 (vf K) fIxT where
 mn:=fun _ _ _ _ k ⟨ds,i,d,e1,e2,e3,q⟩=>⟨ds,i,d,e1,e2,e3,k _ q⟩
 ok:=fun O H u v x y Q hO h1 h2 ⟨ds,i,d,e1,e2,e3,q⟩=>by
  subst e1 e2
  obtain ⟨a,xs,rfl,ha,hd⟩:=h1.tup_inv
  obtain ⟨w,ew,hw⟩:=tV hd e3
  exact ⟨a,xs,i,w,rfl,h2.int_inv,.of (aO ha).1,ew,q w H (fun _ _ h=>h) hw⟩
theorem wC {K:PySem.W.Frag}:Op2 (ve K) fIxL where
 mn:=fun _ _ _ _ k ⟨ds,i,d,e1,e2,e3,q⟩=>⟨ds,i,d,e1,e2,e3,k _ q⟩
 ok:=fun O H u v x y Q hO h1 h2 ⟨ds,i,d,e1,e2,e3,q⟩=>by
  subst e1 e2
  obtain ⟨a,xs,rfl,ha,hd⟩:=h1.lst_inv
  obtain ⟨w,ew,hw⟩:=tV hd e3
  exact ⟨a,xs,i,w,rfl,h2.int_inv,.of (aO ha).1,ew,q w H (fun _ _ h=>h) hw⟩
theorem dP {O:List Addr} {H:Hp} {p:Addr} {xs:List V} {ds:List PyData} (hp:H p=none) (hO:p ∉ O) (h:DVs (hide O H) xs ds):DV (hide O (upd H p (.lst xs))) (.ref p) (.list ds):=
 .lst (fR bP hO) (DVs.mono (iU (aC hp)) h)
theorem fY {O:List Addr} {H:Hp} {p:Addr} {xs:List V} {ds:List PyData} (hp:H p=none) (hO:p ∉ O) (h:DVs (hide O H) xs ds):DV (hide O (upd H p (.tup xs))) (.ref p) (.tuple ds):=
 .tup (fR bP hO) (DVs.mono (iU (aC hp)) h)
noncomputable def rX:D2:=fun x y Q=>∃ ds es,x=.list ds/\y=.list es/\ds.length + es.length<=sizeLine/\Q (.list (ds ++ es))
theorem zI:Op2 rCat rX where
 mn:=fun _ _ _ _ k ⟨ds,es,e1,e2,e3,q⟩=>⟨ds,es,e1,e2,e3,k _ q⟩
 ok:=fun O H u v x y Q hO h1 h2 ⟨ds,es,e1,e2,e3,q⟩=>by
  subst e1 e2
  obtain ⟨a,xs,rfl,ha,hd⟩:=h1.lst_inv
  obtain ⟨b,ys,rfl,hb,he⟩:=h2.lst_inv
  refine ⟨a,b,xs,ys,rfl,rfl,(aO ha).1,(aO hb).1,by rw [hd.length,he.length]; exact e3,fun p hp=>q _ _ (aC hp) (dP hp (hO p hp) (hd.append he))⟩
noncomputable def rY:D2:=fun x y Q=>∃ ds es,x=.tuple ds/\y=.tuple es/\ds.length + es.length<=sizeLine/\Q (.tuple (ds ++ es))
end
theorem ofT {A B:Prop} (h:if true=true then A else B):A:=by rw [if_pos rfl] at h; exact h
theorem ofF {A B:Prop} (h:if false=true then A else B):B:=by rw [if_neg Bool.false_ne_true] at h; exact h
noncomputable abbrev DTA:=DEnv->(List PyData->DEnv->Prop)->Prop
noncomputable def MnA (t:DTA):Prop:=∀ ρ Q Q',(∀ d ρ',Q d ρ'->Q' d ρ')->t ρ Q->t ρ Q'
noncomputable def rdA (K:PySem.W.Frag) (F:Fx) (t:DTA):TA:=fun σ H Q=>∃ ρ O,DSt K F H σ ρ O/\t ρ fun ds ρ'=>∀ vs H' O',DSt K F H' σ ρ' O'->Stp O H O' H'->DVs (hide O' H') vs ds->Q vs H'
structure DA (X:Cx) (F:Fx) (es:List Expr) (t:DTA):Prop where
 mn:MnA t
 pa:PA X es (rdA X.K F t)
theorem _root_.L2.PA.imp {X:Cx} {e:List Expr} {t t':TA} (h:PA X e t) (k:∀ σ H Q,t' σ H Q->t σ H Q):PA X e t':=fun pos pins s σ H Q I q=>h pos pins s σ H Q I (k σ H Q q)
section
variable {X:Cx} {F:Fx} {a b e c:Expr} {es:List Expr} {ta tb tc:DT} {tA:DTA} {pos:Pos}
noncomputable def dNil:DTA:=fun ρ Q=>Q [] ρ
noncomputable def Bj (ta:DT) (tr:DTA):DTA:=fun ρ Q=>ta ρ fun d ρ1=>tr ρ1 fun ds ρ2=>Q (d :: ds) ρ2
theorem zJ:DA X F [] dNil:=⟨fun _ _ _ k q=>k _ _ q,fW.imp fun σ H Q ⟨ρ,O,st,q⟩=>q [] H O st .refl .nil⟩
theorem xo (ha:DE X F e ta) (hr:DA X F es tA) (hs:starEach (e :: es) X.env=(false,eval e X.env) :: starEach es X.env:=by rfl):DA X F (e :: es) (Bj ta tA):=
 ⟨fun _ _ _ k q=>ha.mn _ _ _ (fun _ _ q1=>hr.mn _ _ _ (fun _ _ q2=>k _ _ q2) q1) q,(ee ha.pe hr.pa hs).imp fun σ H Q ⟨ρ,O,st,q⟩=>
  ⟨ρ,O,st,ha.mn _ _ _ (fun d ρ1 q1 v H1 O1 st1 s1 d1=>⟨ρ1,O1,st1,hr.mn _ _ _ (fun ds ρ2 q2 vs H2 O2 st2 s2 d2=>q2 (v :: vs) H2 O2 st2 (s1.trans s2) (.cons (DV.mono s2.hid d1) d2)) q1⟩) q⟩⟩
noncomputable def dTup (t:DTA):DT:=fun ρ Q=>t ρ fun ds ρ'=>ds.length<=sizeLine/\Q (.tuple ds) ρ'
noncomputable def dLst (t:DTA):DT:=fun ρ Q=>t ρ fun ds ρ'=>ds.length<=sizeLine/\Q (.list ds) ρ'
theorem zK {x1} (h:DA X F es tA):DE X F (.Tuple es x1 pos) (dTup tA):=
 ⟨fun _ _ _ k q=>h.mn _ _ _ (fun _ _ q1=>⟨q1.1,k _ _ q1.2⟩) q,(zm h.pa).imp fun σ H Q ⟨ρ,O,st,q⟩=>
  ⟨ρ,O,st,h.mn _ _ _ (fun ds ρ1 q1 vs H1 O1 st1 s1 d1=>⟨by rw [d1.length]; exact q1.1,fun p hp=>q1.2 _ _ O1 (st1.grow (aC hp)) (s1.trans (.same (aC hp))) (fY hp (st1.nofree p hp) d1)⟩) q⟩⟩
theorem zL (h:DA X F es tA):DE X F (.List es pos) (dLst tA):=
 ⟨fun _ _ _ k q=>h.mn _ _ _ (fun _ _ q1=>⟨q1.1,k _ _ q1.2⟩) q,(oS h.pa).imp fun σ H Q ⟨ρ,O,st,q⟩=>
  ⟨ρ,O,st,h.mn _ _ _ (fun ds ρ1 q1 vs H1 O1 st1 s1 d1=>⟨by rw [d1.length]; exact q1.1,fun p hp=>q1.2 _ _ O1 (st1.grow (aC hp)) (s1.trans (.same (aC hp))) (dP hp (st1.nofree p hp) d1)⟩) q⟩⟩
noncomputable def dNeg (ta:DT):DT:=fun ρ Q=>ta ρ fun d ρ'=>∃ i,d=.int i/\Q (.int (-i)) ρ'
theorem zM (ha:DE X F a ta):DE X F (.UnaryOp .USub a pos) (dNeg ta):=
 ⟨fun _ _ _ k q=>ha.mn _ _ _ (fun _ _ ⟨i,e,q⟩=>⟨i,e,k _ _ q⟩) q,(A8 zj ha.pe).imp fun σ H Q ⟨ρ,O,st,q⟩=>
  ⟨ρ,O,st,ha.mn _ _ _ (fun d ρ1 ⟨i,e,q1⟩ v H1 O1 st1 s1 d1=>by subst e; exact ⟨i,d1.int_inv,q1 _ H1 O1 st1 s1 (.int _)⟩) q⟩⟩
noncomputable def dNot (ta:DT):DT:=fun ρ Q=>ta ρ fun d ρ'=>∃ b,d=.bool b/\Q (.bool (!b)) ρ'
theorem zN (ha:DE X F a ta):DE X F (.UnaryOp .Not a pos) (dNot ta):=
 ⟨fun _ _ _ k q=>ha.mn _ _ _ (fun _ _ ⟨i,e,q⟩=>⟨i,e,k _ _ q⟩) q,(yW ha.pe).imp fun σ H Q ⟨ρ,O,st,q⟩=>
  ⟨ρ,O,st,ha.mn _ _ _ (fun d ρ1 ⟨i,e,q1⟩ v H1 O1 st1 s1 d1=>by subst e; exact ⟨i,d1.bl_inv,q1 _ H1 O1 st1 s1 (.bl _)⟩) q⟩⟩
noncomputable def dAnd (ta tb:DT):DT:=fun ρ Q=>ta ρ fun d ρ1=>∃ b,d=.bool b/\if b=true then tb ρ1 Q else Q (.bool false) ρ1
noncomputable def dOr (ta tb:DT):DT:=fun ρ Q=>ta ρ fun d ρ1=>∃ b,d=.bool b/\if b=true then Q (.bool true) ρ1 else tb ρ1 Q
theorem zO {op} (h:DE X F a ta):DE X F (.BoolOp op [a] pos) ta:=⟨h.mn,yU h.pe⟩
theorem zP {rest:List Expr} (ha:DE X F a ta) (hb:DE X F (.BoolOp .And (b :: rest) pos) tb):DE X F (.BoolOp .And (a :: b :: rest) pos) (dAnd ta tb):=
 ⟨fun _ _ _ k q=>ha.mn _ _ _ (fun _ _ ⟨i,e,q⟩=>⟨i,e,by cases i <;> first | exact k _ _ q | exact hb.mn _ _ _ k q⟩) q,(yV ha.pe hb.pe).imp fun σ H Q ⟨ρ,O,st,q⟩=>
  ⟨ρ,O,st,ha.mn _ _ _ (fun d ρ1 ⟨i,e,q1⟩ v H1 O1 st1 s1 d1=>by
   subst e
   refine ⟨i,d1.bl_inv,?_⟩
   cases i with
   | true=>exact fi ⟨ρ1,O1,st1,hb.mn _ _ _ (fun d ρ2 q2 w H2 O2 st2 s2 d2=>q2 w H2 O2 st2 (s1.trans s2) d2) (ofT q1)⟩
   | false=>exact fg (ofF q1 _ H1 O1 st1 s1 (.bl _))) q⟩⟩
theorem Bk {rest:List Expr} (ha:DE X F a ta) (hb:DE X F (.BoolOp .Or (b :: rest) pos) tb):DE X F (.BoolOp .Or (a :: b :: rest) pos) (dOr ta tb):=
 ⟨fun _ _ _ k q=>ha.mn _ _ _ (fun _ _ ⟨i,e,q⟩=>⟨i,e,by cases i <;> first | exact k _ _ q | exact hb.mn _ _ _ k q⟩) q,(pe_or ha.pe hb.pe).imp fun σ H Q ⟨ρ,O,st,q⟩=>
  ⟨ρ,O,st,ha.mn _ _ _ (fun d ρ1 ⟨i,e,q1⟩ v H1 O1 st1 s1 d1=>by
   subst e
   refine ⟨i,d1.bl_inv,?_⟩
   cases i with
   | false=>exact fg ⟨ρ1,O1,st1,hb.mn _ _ _ (fun d ρ2 q2 w H2 O2 st2 s2 d2=>q2 w H2 O2 st2 (s1.trans s2) d2) (ofF q1)⟩
   | true=>exact fi (ofT q1 _ H1 O1 st1 s1 (.bl _))) q⟩⟩
noncomputable def o6 (p p':Int->Int->Bool) (ta tb tc:DT):DT:=fun ρ Q=>ta ρ fun x ρ1=>tb ρ1 fun y ρ2=>∃ i j,x=.int i/\y=.int j/\if p i j=true then tc ρ2 (fun z ρ3=>∃ k,z=.int k/\Q (.bool (p' j k)) ρ3) else Q (.bool false) ρ2
theorem vn {op op':CmpOp} {p p':Int->Int->Bool} (ho:OpR X (compareOp op) (rI0 fun i j=>.bl (p i j))) (ho':OpR X (compareOp op') (rI0 fun i j=>.bl (p' i j))) (ha:DE X F a ta) (hb:DE X F b tb) (hc:DE X F c tc)
  (hm:lastMarks [op,op'] [b,c]=false:=by with_unfolding_all rfl):DE X F (.Compare a [op,op'] [b,c] pos) (o6 p p' ta tb tc):=
 ⟨fun _ _ _ k q=>ha.mn _ _ _ (fun _ _ q1=>hb.mn _ _ _ (fun _ _ ⟨i,j,e1,e2,q2⟩=>⟨i,j,e1,e2,by
   by_cases h:p i j=true
   ·rw [if_pos h] at q2 ⊢; exact hc.mn _ _ _ (fun _ _ ⟨l,e,q3⟩=>⟨l,e,k _ _ q3⟩) q2
   ·rw [if_neg h] at q2 ⊢; exact k _ _ q2⟩) q1) q,
  (u9 ho ho' ha.pe hb.pe hc.pe hm).imp fun σ H Q ⟨ρ,O,st,q⟩=>
  ⟨ρ,O,st,ha.mn _ _ _ (fun x ρ1 q1 v H1 O1 st1 s1 d1=>⟨ρ1,O1,st1,hb.mn _ _ _ (fun y ρ2 ⟨i,j,e1,e2,q2⟩ w H2 O2 st2 s2 d2=>by
   subst e1 e2
   refine ⟨i,j,(DV.mono s2.hid d1).int_inv,d2.int_inv,p i j,rfl,?_⟩
   by_cases h:p i j=true
   ·rw [if_pos h] at q2 ⊢
    exact ⟨ρ2,O2,st2,hc.mn _ _ _ (fun z ρ3 ⟨l,e,q3⟩ u H3 O3 st3 s3 d3=>by subst e; exact ⟨j,l,(DV.mono s3.hid d2).int_inv,d3.int_inv,q3 _ H3 O3 st3 (s1.trans (s2.trans s3)) (.bl _)⟩) q2⟩
   ·rw [if_neg h] at q2 ⊢
    exact q2 _ H2 O2 st2 (s1.trans s2) (.bl _)) q1⟩) q⟩⟩
end
noncomputable abbrev DTT:=DEnv->(Bool->DEnv->Prop)->Prop
noncomputable def MnT (t:DTT):Prop:=∀ ρ Q Q',(∀ d ρ',Q d ρ'->Q' d ρ')->t ρ Q->t ρ Q'
noncomputable def rdT (K:PySem.W.Frag) (F:Fx) (t:DTT):TT:=fun σ H Q=>∃ ρ O,DSt K F H σ ρ O/\t ρ fun b ρ'=>∀ H' O',DSt K F H' σ ρ' O'->Stp O H O' H'->Q b H'
structure DB (X:Cx) (F:Fx) (e:Expr) (t:DTT):Prop where
 mn:MnT t
 pt:PT X e (rdT X.K F t)
section
variable {X:Cx} {F:Fx} {a b e c:Expr} {ta tb tc:DT} {tA tB:DTT} {pos:Pos}
noncomputable def dTst (ta:DT):DTT:=fun ρ Q=>ta ρ fun d ρ'=>∃ b,d=.bool b/\Q b ρ'
theorem tW (h:Mn ta):MnT (dTst ta):=fun _ _ _ k q=>h _ _ _ (fun _ _ ⟨b,e,q1⟩=>⟨b,e,k _ _ q1⟩) q
theorem tZ {K:PySem.W.Frag} (h:Mn ta):∀ σ H Q,rdT K F (dTst ta) σ H Q->rdE K F ta σ H fun x H'=>∃ k,x=.bl k/\Q k H':=fun σ H Q ⟨ρ,O,st,q⟩=>
 ⟨ρ,O,st,h _ _ _ (fun d ρ1 ⟨b,e,q1⟩ v H1 O1 st1 s1 d1=>by subst e; exact ⟨b,d1.bl_inv,q1 H1 O1 st1 s1⟩) q⟩
theorem cW (h:DE X F e ta) (he:∀ whole,isTrue e X.env whole=(do let v <-whole; standAt e.pos; holding [v] (truthy v)):=by intro _; rfl):DB X F e (dTst ta):=⟨tW h.mn,(yQ h.pe he).imp (tZ h.mn)⟩
theorem fZ {op:CmpOp} {r:R2} {f:D2} (ho:OpR X (compareOp op) r) (o:Op2 r f) (ha:DE X F a ta) (hb:DE X F b tb) (hm:behindInMarks op b=false):DB X F (.Compare a [op] [b] pos) (dTst (dOp f ta tb)):=
 ⟨tW (mn2 o ha.mn hb.mn),(qJ ho ha.pe hb.pe hm).imp fun σ H Q q=>rd2 o ha.mn hb.mn σ H _ (tZ (mn2 o ha.mn hb.mn) σ H Q q)⟩
noncomputable def bNot (t:DTT):DTT:=fun ρ Q=>t ρ fun b ρ'=>Q (!b) ρ'
theorem zQ (h:DB X F a tA):DB X F (.UnaryOp .Not a pos) (bNot tA):=⟨fun _ _ _ k q=>h.mn _ _ _ (fun _ _ q=>k _ _ q) q,(yT h.pt).imp fun σ H Q ⟨ρ,O,st,q⟩=>⟨ρ,O,st,h.mn _ _ _ (fun b ρ1 q1 H1 O1 st1 s1=>q1 H1 O1 st1 s1) q⟩⟩
structure DW (X:Cx) (F:Fx) (e:Expr) (t:DTT):Prop where
 mn:MnT t
 pw:PW X e (rdT X.K F t)
theorem _root_.L2.PW.imp {X:Cx} {e:Expr} {t t':TT} (h:PW X e t) (k:∀ σ H Q,t' σ H Q->t σ H Q):PW X e t':=fun wh pins s σ H Q I q=>h wh pins s σ H Q I (k σ H Q q)
theorem DW.db {t:DTT} (h:DW X F e t):DB X F e t:=⟨h.mn,h.pw.pt⟩
noncomputable def bAnd (t u:DTT):DTT:=fun ρ Q=>t ρ fun b ρ1=>if b=true then u ρ1 Q else Q false ρ1
noncomputable def bOr (t u:DTT):DTT:=fun ρ Q=>t ρ fun b ρ1=>if b=true then Q true ρ1 else u ρ1 Q
theorem xp (h:DB X F a tA):DW X F (.BoolOp .And [a] pos) tA:=⟨h.mn,wX h.pt⟩
theorem zR (h:DB X F a tA):DW X F (.BoolOp .Or [a] pos) tA:=⟨h.mn,yR h.pt⟩
theorem zS {rest:List Expr} (ha:DB X F a tA) (hb:DW X F (.BoolOp .And (b :: rest) pos) tB):DW X F (.BoolOp .And (a :: b :: rest) pos) (bAnd tA tB):=
 ⟨fun _ _ _ k q=>ha.mn _ _ _ (fun b _ q=>by cases b <;> first | exact k _ _ q | exact hb.mn _ _ _ k q) q,(yS ha.pt hb.pw).imp fun σ H Q ⟨ρ,O,st,q⟩=>
  ⟨ρ,O,st,ha.mn _ _ _ (fun b ρ1 q1 H1 O1 st1 s1=>by
   cases b with
   | true=>exact fi ⟨ρ1,O1,st1,hb.mn _ _ _ (fun b ρ2 q2 H2 O2 st2 s2=>q2 H2 O2 st2 (s1.trans s2)) (ofT q1)⟩
   | false=>exact fg (ofF q1 H1 O1 st1 s1)) q⟩⟩
theorem Bl {rest:List Expr} (ha:DB X F a tA) (hb:DW X F (.BoolOp .Or (b :: rest) pos) tB):DW X F (.BoolOp .Or (a :: b :: rest) pos) (bOr tA tB):=
 ⟨fun _ _ _ k q=>ha.mn _ _ _ (fun b _ q=>by cases b <;> first | exact k _ _ q | exact hb.mn _ _ _ k q) q,(pw_or ha.pt hb.pw).imp fun σ H Q ⟨ρ,O,st,q⟩=>
  ⟨ρ,O,st,ha.mn _ _ _ (fun b ρ1 q1 H1 O1 st1 s1=>by
   cases b with
   | false=>exact fg ⟨ρ1,O1,st1,hb.mn _ _ _ (fun b ρ2 q2 H2 O2 st2 s2=>q2 H2 O2 st2 (s1.trans s2)) (ofF q1)⟩
   | true=>exact fi (ofT q1 H1 O1 st1 s1)) q⟩⟩
noncomputable def dIf (t:DTT) (ta tb:DT):DT:=fun ρ Q=>t ρ fun b ρ1=>if b=true then ta ρ1 Q else tb ρ1 Q
theorem Bm (hc:DB X F c tA) (ha:DE X F a ta) (hb:DE X F b tb):DE X F (.IfExp c a b pos) (dIf tA ta tb):=
 ⟨fun _ _ _ k q=>hc.mn _ _ _ (fun b _ q=>by cases b <;> first | exact ha.mn _ _ _ k q | exact hb.mn _ _ _ k q) q,(uX hc.pt ha.pe hb.pe).imp fun σ H Q ⟨ρ,O,st,q⟩=>
  ⟨ρ,O,st,hc.mn _ _ _ (fun b ρ1 q1 H1 O1 st1 s1=>by
   cases b with
   | true=>exact fi ⟨ρ1,O1,st1,ha.mn _ _ _ (fun d ρ2 q2 v H2 O2 st2 s2 d2=>q2 v H2 O2 st2 (s1.trans s2) d2) (ofT q1)⟩
   | false=>exact fg ⟨ρ1,O1,st1,hb.mn _ _ _ (fun d ρ2 q2 v H2 O2 st2 s2 d2=>q2 v H2 O2 st2 (s1.trans s2) d2) (ofF q1)⟩) q⟩⟩
end
noncomputable abbrev DN:=List PyData->(PyData->Prop)->Prop
structure OpN (r:List V->Hp->VK->Prop) (f:DN):Prop where
 mn:∀ xs Q Q',(∀ d,Q d->Q' d)->f xs Q->f xs Q'
 ok:∀ (O:List Addr) (H:Hp) (vs:List V) (xs:List PyData) (Q:VK),(∀ p,H p=none->p ∉ O)->DVs (hide O H) vs xs->f xs (fun d=>∀ w H',Same H H'->DV (hide O H') w d->Q w H')->r vs H Q
noncomputable def dCB (f:DN) (t:DTA):DT:=fun ρ Q=>t ρ fun ds ρ'=>f ds fun d=>Q d ρ'
section
variable {X:Cx} {F:Fx} {e:Expr} {es:List Expr} {tA:DTA} {pos p:Pos} {x:Str} {id T:String} {r:List V->Hp->VK->Prop} {f:DN}
theorem rdN {K:PySem.W.Frag} (o:OpN r f) (h:MnA tA):∀ σ H Q,rdE K F (dCB f tA) σ H Q->tCB r (rdA K F tA) σ H Q:=fun σ H Q ⟨ρ,O,st,q⟩=>
 ⟨ρ,O,st,h _ _ _ (fun ds ρ1 q1 vs H1 O1 st1 s1 d1=>o.ok O1 H1 vs ds Q st1.nofree d1 (o.mn _ _ _ (fun d q2 w H2 s2 d2=>q2 w H2 O1 (st1.grow s2) (s1.trans (.same s2)) d2) q1)) q⟩
theorem mnN (o:OpN r f) (h:MnA tA):Mn (dCB f tA):=fun _ _ _ k q=>h _ _ _ (fun _ _ q1=>o.mn _ _ _ (fun _ q2=>k _ _ q2) q1) q
theorem cP (hc:iQ X (.builtin id) r) (o:OpN r f) (hg:Gl X x) (hm:X.mg x=none) (hv:bootBuiltins x=some (.builtin id)) (ha:DA X F (e :: es) tA) (hn:x ≠ "__name__":=by decide) (hdb:(x == ("__debug__":Str))=false:=by decide)
  (he:starEach (e :: es) X.env=(false,eval e X.env) :: starEach es X.env:=by rfl) (hpl:(backTo pos (starEach es X.env)).any (·.1)=false:=by rfl):DE X F (.Call (.Name x p) (e :: es) [] pos) (dCB f tA):=
 ⟨mnN o ha.mn,(jn hc hg hm hv ha.pa hn hdb he hpl).imp (rdN o ha.mn)⟩
end
noncomputable def dIsI (n:String) (ta:DT):DT:=fun ρ Q=>ta ρ fun d ρ'=>∃ b,(∀ K:PySem.W.Frag,PySem.W.kitOne K (.type (oG d)) (.type n)=some b)/\Q (.bool b) ρ'
section
variable {X:Cx} {F:Fx} {e:Expr} {ta:DT} {pos p p2:Pos} {T:String} {x:Str}
theorem dI (hg:Gl X "isinstance") (hm:X.mg "isinstance" = none) (h:DE X F e ta) (ht:PE X (.Name x p2) (tC (.ty T)))
  (he:starEach [e,.Name x p2] X.env=(false,eval e X.env) :: starEach [.Name x p2] X.env:=by rfl) (he2:starEach [.Name x p2] X.env=(false,eval (.Name x p2) X.env) :: starEach [] X.env:=by rfl) (hpl:(backTo pos (starEach [.Name x p2] X.env)).any (·.1)=false:=by rfl) :
  DE X F (.Call (.Name "isinstance" p) [e,.Name x p2] [] pos) (dIsI T ta):=
 ⟨fun _ _ _ k q=>h.mn _ _ _ (fun _ _ ⟨b,e,q⟩=>⟨b,e,k _ _ q⟩) q,
  (jn qr hg hm (show bootBuiltins "isinstance" = some (.builtin "isinstance") by decide +kernel) (ee h.pe (ee ht fW he2) he) (by decide) (by decide) he hpl).imp fun σ H Q ⟨ρ,O,st,q⟩=>
  ⟨ρ,O,st,h.mn _ _ _ (fun d ρ1 ⟨b,e,q1⟩ v H1 O1 st1 s1 d1=>⟨v,d,T,b,rfl,DV.mono mI d1,e,q1 _ H1 O1 st1 s1 (.bl b)⟩) q⟩⟩
end
structure ExS (g:Heap) (H:Hp) (h:Heap) (a:Addr) (C:Value) (fl:Option Value):Prop where
 gh:∀ b o,g.get? b=some o->∃ o',h.get? b=some o'
 lo:g.get? a=none
 un:H a=none
 ob:∃ oe vs a0,h.get? a=some oe/\oe.cls=C/\oe.data=.fields vs/\vs[0]? = some a0/\
  ((fl=none/\vs[1]? = some .none)\/∃ T oT ts f,fl=some f/\vs[1]? = some (.ref T)/\g.get? T=none/\H T=none/\T ≠ a/\h.get? T=some oT/\oT.data=.fields ts/\ts[3]? = some f)
structure Ch (g:Heap) (H:Hp) (fs:List Addr) (h h':Heap):Prop where
 keep:∀ b o,h.get? b=some o->((∃ o',g.get? b=some o')\/H b ≠ none)->b ∉ fs->h'.get? b=some o
 slot:∀ b o,b ∈ fs->h.get? b=some o->∃ sl,h'.get? b=some { o with slots:=sl }
 there:∀ b o,h.get? b=some o->∃ o',h'.get? b=some o'
theorem Ch.refl {g:Heap} {H:Hp} {fs:List Addr} {h:Heap}:Ch g H fs h h:=⟨fun _ _ e _ _=>e,fun b o _ e=>⟨o.slots,e⟩,fun b o e=>⟨o,e⟩⟩
theorem Ch.trans {g:Heap} {H:Hp} {fs:List Addr} {h h1 h2:Heap} (x:Ch g H fs h h1) (y:Ch g H fs h1 h2):Ch g H fs h h2 where
 keep:=fun b o e q n=>y.keep b o (x.keep b o e q n) q n
 slot:=fun b o m e=>let ⟨_,e1⟩:=x.slot b o m e; let ⟨sl,e2⟩:=y.slot b _ m e1; ⟨sl,e2⟩
 there:=fun b o e=>let ⟨o1,e1⟩:=x.there b o e; y.there b o1 e1
theorem HOk.some_of {P:Program} {w:World} {H:Hp} {h:Heap} (k:HOk P w H h) {b:Addr} (e:h.get? b=none):H b=none:=by
 cases q:H b with
 | none=>rfl
 | some u=>
  exfalso
  have x:=k b u q
  have:∀ (u:HO),ObjOk P w H h b u->∃ o,h.get? b=some o:=by
   intro u
   induction u with
   | lst xs=>exact fun ⟨_,_,_,_,e⟩=>⟨_,e⟩
   | tup xs=>exact fun ⟨_,_,_,o,e,_⟩=>⟨_,e⟩
   | dK kvs=>exact fun ⟨_,_,_,_,o,_,_,e,_⟩=>⟨_,e⟩
   | dT kvs=>exact fun ⟨_,_,_,_,o,_,_,e,_⟩=>⟨_,e⟩
   | set S n=>exact fun ⟨o,_,_,_,e,_⟩=>⟨_,e⟩
   | ins C dx fs=>exact fun ⟨_,_,_,e,_⟩=>⟨_,e⟩
   | own y=>exact fun ⟨_,e⟩=>⟨_,e⟩
   | xd fs=>exact fun ⟨_,⟨_,_,_,e,_⟩,_⟩=>⟨_,e⟩
   | rng lo hi=>exact fun ⟨_,_,_,e⟩=>⟨_,e⟩
   | frz ob u _=>exact fun ⟨e,_⟩=>⟨_,e⟩
   | tbl ps=>exact fun e=>⟨_,e⟩
   | met f y=>exact fun e=>⟨_,e⟩
   | ext φ=>exact fun ⟨_,⟨_,e⟩,_⟩=>⟨_,e⟩
  obtain ⟨o,eo⟩:=this u x
  rw [e] at eo; cases eo
theorem jI {h base base':Heap}:∀ {l:List Env},(∀ b ∈ frs l,base'.get? b=none)->h.FunFrames base l->h.FunFrames base' l
 | [],_,_=>trivial
 | env :: r,hb,⟨hk,⟨L,o,hf,_,ho,hd⟩,hr⟩=>by
  have e:frs (env :: r)=L :: frs r:=by unfold frs; rw [List.filterMap_cons,hf]
  exact ⟨hk,⟨L,o,hf,hb L (by rw [e]; exact List.mem_cons_self),ho,hd⟩,jI (fun b h=>hb b (by rw [e]; exact Qak _ h)) hr⟩
section
variable {P:Program} {w:World} {M:Model} {A:Around} {E:Value->Shared->Prop} {s:Shared} {g base:Heap} {H:Hp} {env:Env} {outer:List Env} {L a:Addr} {C fv:Value} {fl:Option Value}
theorem nG {oe:Obj} {vs:Array Value} {head a0:Value} {hadNext:Bool} {Q:Unit->Shared->Prop} (hfr:A.frames=some (env :: outer)) (hl:s.heap.FunFrames base (env :: outer)) (hf:env.frame=some L) (hk:∀ b,s.heap.get? b=none->H b=none)
  (gh:∀ b o,g.get? b=some o->∃ o',s.heap.get? b=some o') (lo:g.get? a=none) (un:H a=none) (he:s.heap.get? a=some oe) (hc:oe.cls=C) (hd:oe.data=.fields vs) (hsz:1 < vs.size) (h0:vs[0]? = some a0)
  (h:∀ h',Ch g H (frs (env :: outer)) s.heap h'->ExS g H h' a C (some (rawInt L))->Q () { s with heap:=h' }) :
  wpAny M A (do let x <-frameOf env; let pl <-entryPlaceOf L hadNext; let b <-EntryCells.newEntry head x .none (rawInt L) .none pl; setField (.ref a) 1 b) Q E s:=by
 refine wpAny_entryW (base:=PySem.W.hideAll s.heap (a :: frs (env :: outer))) hfr (jI (fun b hb=>PySem.W.hideAll_none _ (Qak _ hb)) hl) hf he (fun b o e=>PySem.W.of_hideAll _ e) (PySem.W.hideAll_none _ List.mem_cons_self) hd hsz h0 fun h' ⟨k1,k2,k3,k4⟩=>?_
 obtain ⟨oe',vs',T,oT,ts,e1,⟨e2,e20⟩,e3,e4,e5,e6,e7,e8,e9⟩:=k3
 have sl:∀ b o,b ∈ frs (env :: outer)->s.heap.get? b=some o->∃ sl,h'.get? b=some { o with slots:=sl }:=fun b o hb e=>by
  obtain ⟨_,o',e',nf⟩:=hl.mem hb
  rw [e] at e'; cases e'
  exact k4 b o e nf
 have kp:∀ b o,s.heap.get? b=some o->b ≠ a->b ∉ frs (env :: outer)->h'.get? b=some o:=fun b o e n1 n2=>k1 b o (PySem.W.hideAll_get _ e fun z=>(List.mem_cons.mp z).elim n1 n2)
 have hT:g.get? T=none/\H T=none:=by
  cases q:s.heap.get? T with
  | some o=>
   exfalso
   by_cases hfT:T ∈ frs (env :: outer)
   ·obtain ⟨_,o',e',nf⟩:=hl.mem hfT
    rw [q] at e'; cases e'
    obtain ⟨sl',e''⟩:=sl T o hfT q
    rw [e7] at e''; cases e''
    exact nf ts e8
   ·rw [PySem.W.hideAll_get _ q (fun z=>(List.mem_cons.mp z).elim e6 hfT)] at e5; cases e5
  | none=>
   refine ⟨?_,hk T q⟩
   cases q2:g.get? T with
   | none=>rfl
   | some o=>obtain ⟨o',e'⟩:=gh T o q2; rw [q] at e'; cases e'
 have ch:Ch g H (frs (env :: outer)) s.heap h':=⟨fun b o e q n=>kp b o e (fun z=>?_) n,fun b o hb e=>sl b o hb e,fun b o e=>?_⟩
 ·refine h h' ch ⟨fun b o e=>?_,lo,un,oe',vs',a0,e1,e2.trans hc,e3,e20,.inr ⟨T,oT,ts,_,rfl,e4,hT.1,hT.2,e6,e7,e8,e9⟩⟩
  obtain ⟨o',e'⟩:=gh b o e
  exact ch.there b o' e'
 ·subst z
  rcases q with ⟨o',q⟩ | q
  ·rw [lo] at q; cases q
  ·exact q un
 ·by_cases n2:b ∈ frs (env :: outer)
  ·obtain ⟨sl',e'⟩:=sl b o n2 e; exact ⟨_,e'⟩
  ·by_cases n1:b=a
   ·subst n1; exact ⟨_,e1⟩
   ·exact ⟨o,kp b o e n1 n2⟩
theorem on {h:Heap} {l:List Env} {T:Addr} {oT:Obj} {ts:Array Value} {f:Obj->Obj} (hl:h.FunFrames base l) (hT:h.get? T=some oT) (hd:oT.data=.fields ts):(h.update T f).FunFrames base l:=
 hl.of_keeps fun b o hb nf=>⟨o,by rw [Heap.get?_update_other _ _ (fun z=>nf ts (by subst z; rw [hT] at hb; cases hb; exact hd))]; exact hb,rfl⟩
theorem nH {h:Heap} {fs:List Addr} {T:Addr} {oT:Obj} {ts:Array Value} {f:Array Value->Array Value} (hT:h.get? T=some oT) (hd:oT.data=.fields ts) (hg:g.get? T=none) (hH:H T=none) (hfs:T ∉ fs):Ch g H fs h (h.update T (Obj.mapFields f)):=by
 have self:(h.update T (Obj.mapFields f)).get? T=some (oT.mapFields f):=Heap.get?_update_self _ hT (Obj.isFreed_of_fields (Obj.data_mapFields hd f))
 refine ⟨fun b o e q n=>?_,fun b o m e=>⟨o.slots,?_⟩,fun b o e=>?_⟩
 ·rw [Heap.get?_update_other _ _ (fun z=>?_)]
  ·exact e
  ·subst z
   rcases q with ⟨o',q⟩ | q
   ·rw [hg] at q; cases q
   ·exact q hH
 ·rw [Heap.get?_update_other _ _ (fun z=>hfs (by rw [z]; exact m))]; exact e
 ·by_cases z:b=T
  ·subst z; exact ⟨_,self⟩
  ·exact ⟨o,by rw [Heap.get?_update_other _ _ (Ne.symm z)]; exact e⟩
theorem vo {Q:Unit->Shared->Prop} (hfr:A.frames=some (env :: outer)) (hl:s.heap.FunFrames base (env :: outer)) (hf:env.frame=some L) (hk:∀ b,s.heap.get? b=none->H b=none) (x:ExS g H s.heap a C fl)
  (h:∀ h',Ch g H (frs (env :: outer)) s.heap h'->ExS g H h' a C (some (rawInt L))->Q () { s with heap:=h' }):wpAny M A (noteFrame (.ref a) env) Q E s:=by
 obtain ⟨gh,lo,un,oe,vs,a0,he,hc,hd,h0,hx⟩:=x
 unfold noteFrame
 simp only [hf]
 rcases hx with ⟨_,h1⟩ | ⟨T,oT,ts,f,_,h1,hgT,hHT,hTa,hT,hdT,h3⟩
 ·refine Qaa (wpAny_field he hd h1 ?_)
  rw [if_neg (by decide)]
  exact nG hfr hl hf hk gh lo un he hc hd (Array.getElem?_eq_some_iff.mp h1).1 h0 h
 ·refine Qaa (wpAny_field he hd h1 ?_)
  rw [if_pos (show (Value.ref T != Value.none)=true from by simp)]
  refine Qaa (wpAny_field hT hdT h3 ?_)
  by_cases hfl:(f == rawInt L)=true
  ·rw [if_pos hfl]
   have e:f=rawInt L:=by simpa using hfl
   subst e
   exact Qab (h s.heap .refl ⟨gh,lo,un,oe,vs,a0,he,hc,hd,h0,.inr ⟨T,oT,ts,_,rfl,h1,hgT,hHT,hTa,hT,hdT,h3⟩⟩)
  ·rw [if_neg hfl]
   refine Qaa (wpAny_setField hT hdT (Array.getElem?_eq_some_iff.mp h3).1 ?_)
   have hTf:T ∉ frs (env :: outer):=fun z=>by
    obtain ⟨_,o',e',nf⟩:=hl.mem z
    rw [hT] at e'; cases e'; exact nf ts hdT
   have c1:=nH (g:=g) (H:=H) (f:=(·.setIfInBounds 3 Value.none)) hT hdT hgT hHT hTf
   refine nG (s:={ s with heap:=s.heap.update T (Obj.mapFields (·.setIfInBounds 3 Value.none)) }) hfr (on hl hT hdT) hf (fun b e=>?_) (fun b o e=>?_) lo un ?_ hc hd (Array.getElem?_eq_some_iff.mp h1).1 h0 fun h' ch ex=>h h' (c1.trans ch) ex
   ·refine hk b ?_
    cases q:s.heap.get? b with
    | none=>rfl
    | some o=>obtain ⟨o',e'⟩:=c1.there b o q; rw [show ({ s with heap:=s.heap.update T (Obj.mapFields (·.setIfInBounds 3 Value.none)) }:Shared).heap=s.heap.update T (Obj.mapFields (·.setIfInBounds 3 Value.none)) from rfl] at e; rw [e] at e'; cases e'
   ·obtain ⟨o',e'⟩:=gh b o e
    exact c1.there b o' e'
   ·show (s.heap.update T _).get? a=some oe
    rw [Heap.get?_update_other _ _ hTa]; exact he
theorem rZ {Q:Unit->Shared->Prop} {fs:List Addr} (fr:Option Addr) (hfs:∀ b ∈ fs,∃ o,s.heap.get? b=some o/\∀ vs,o.data ≠ .fields vs) (x:ExS g H s.heap a C (some fv))
  (h:∀ h',Ch g H fs s.heap h'->ExS g H h' a C (some (fr.elim Value.none fun f=>rawInt f))->Q () { s with heap:=h' }):wpAny M A (setFlight (.ref a) fr) Q E s:=by
 obtain ⟨gh,lo,un,oe,vs,a0,he,hc,hd,h0,hx⟩:=x
 rcases hx with ⟨z,_⟩ | ⟨T,oT,ts,f,_,h1,hgT,hHT,hTa,hT,hdT,h3⟩
 ·cases z
 ·unfold setFlight
  refine Qaa (wpAny_field he hd h1 ?_)
  rw [if_pos (show (Value.ref T != Value.none)=true from by simp)]
  have hTf:T ∉ fs:=fun z=>by obtain ⟨o,e1,e2⟩:=hfs T z; rw [hT] at e1; cases e1; exact e2 ts hdT
  have hsz:=(Array.getElem?_eq_some_iff.mp h3).1
  have c1:=nH (g:=g) (H:=H) (f:=(·.setIfInBounds 3 (fr.elim Value.none fun f=>rawInt f))) hT hdT hgT hHT hTf
  refine wpAny_setField hT hdT hsz (h _ c1 ⟨fun b o e=>?_,lo,un,oe,vs,a0,?_,hc,hd,h0,.inr ⟨T,_,_,_,rfl,h1,hgT,hHT,hTa,Heap.get?_update_self _ hT (Obj.isFreed_of_fields (Obj.data_mapFields hdT _)),Obj.data_mapFields hdT _,?_⟩⟩)
  ·obtain ⟨o',e'⟩:=gh b o e
   exact c1.there b o' e'
  ·rw [Heap.get?_update_other _ _ hTa]; exact he
  ·simp [hsz]
theorem qt {h:Heap} {l:List Env} (hl:h.FunFrames base l):∀ b ∈ frs l,∃ o,h.get? b=some o/\∀ vs,o.data ≠ .fields vs:=fun b hb=>let ⟨_,o,e,n⟩:=hl.mem hb; ⟨o,e,n⟩
theorem Ch.frames {fs:List Addr} {h h':Heap} {l:List Env} (c:Ch g H fs h h') (hs:∀ b ∈ frs l,b ∈ fs) (hl:h.FunFrames base l):h'.FunFrames base l:=by
 induction l with
 | nil=>trivial
 | cons env r ih=>
  obtain ⟨hk,⟨L,o,hf,hn,ho,hd⟩,hr⟩:=hl
  have e:frs (env :: r)=L :: frs r:=by unfold frs; rw [List.filterMap_cons,hf]
  obtain ⟨sl,e'⟩:=c.slot L o (hs L (by rw [e]; exact List.mem_cons_self)) ho
  exact ⟨hk,⟨L,_,hf,hn,e',hd⟩,ih (fun b hb=>hs b (by rw [e]; exact Qak _ hb)) hr⟩
theorem t9 {Q:Unit->Shared->Prop} (hfr:A.frames=some (env :: outer)) (hl:s.heap.FunFrames base (env :: outer)) (hf:env.frame=some L) (hk:∀ b,s.heap.get? b=none->H b=none) (x:ExS g H s.heap a C fl)
  (h:∀ h',Ch g H (frs (env :: outer)) s.heap h'->ExS g H h' a C (some .none)->Q () { s with heap:=h' }):wpAny M A (leaving env (.ref a)) Q E s:=by
 unfold leaving
 refine Qaa (vo hfr hl hf hk x fun h1 c1 x1=>?_)
 refine rZ (s:={ s with heap:=h1 }) (fs:=frs (env :: outer)) none (qt (c1.frames (fun _ h=>h) hl)) x1 fun h2 c2 x2=>h h2 (c1.trans c2) x2
end
structure Cov (X:Cx) (pins:List (Addr × Obj)) (g:Heap):Prop where
 s0:∀ b o,X.s₀.heap.get? b=some o->b ∉ X.ex->∃ o',g.get? b=some o'
 loc:∃ o,g.get? X.env.locals=some o
 cell:∀ x c,X.env.cells.lookup x=some c->∃ o,g.get? c=some o
 pin:∀ p ∈ X.pn ++ pins,∃ o,g.get? p.1=some o
section
variable {X:Cx} {pins:List (Addr × Obj)} {σ:St} {H:Hp} {s:Shared} {g h':Heap}
theorem _root_.L2.Inv.cov (I:Inv X pins σ H s):Cov X pins s.heap:=by
 refine ⟨fun b o e n=>I.base.there b o e n,?_,fun x c e=>?_,fun p hp=>⟨_,(I.pin p hp).1⟩⟩
 ·obtain ⟨m,⟨o,es,ep,ho,_⟩,_⟩:=I.loc; exact ⟨o,ho⟩
 ·obtain ⟨v,o,ho,_⟩:=I.cell x c e; exact ⟨o,ho⟩
theorem _root_.L2.Inv.stkIn (I:Inv X pins σ H s) {b:Addr} (h:b ∉ frs X.stack):b ∉ X.fs:=by
 rcases I.ok.stk with e | ⟨e,hf⟩
 ·rw [e] at h; exact h
 ·rw [e] at h; unfold frs at h; rw [List.filterMap_cons,hf] at h; exact fun z=>h (Qak _ z)
theorem _root_.L2.Inv.stkOut (I:Inv X pins σ H s) {b:Addr} (h:b ∉ X.fs) (h2:b ≠ X.env.locals):b ∉ frs X.stack:=fun z=>(List.mem_cons.mp (I.stkSub b z)).elim h2 h
theorem vp {h h':Heap} {a:Addr} {m:Str->Option Value} (k:∀ o,h.get? a=some o->∃ sl,h'.get? a=some { o with slots:=sl }) (hn:h.Ns a m):h'.Ns a m:=by
 obtain ⟨o,es,ep,ho,hd,r⟩:=hn
 obtain ⟨sl,hs⟩:=k o ho
 exact ⟨_,es,ep,hs,hd,r⟩
theorem _root_.L2.Inv.ch (I:Inv X pins σ H s) (cv:Cov X pins g) (c:Ch g H (frs X.stack) s.heap h'):Inv X pins σ H { s with heap:=h' }:=by
 have ht:∀ b o,s.heap.get? b=some o->H b ≠ none->h'.get? b=some o:=fun b o e n=>c.keep b o e (.inr n) fun z=>n (I.stkFree b z)
 have ck:∀ x cc,X.env.cells.lookup x=some cc->∀ o,s.heap.get? cc=some o->∃ o',h'.get? cc=some o'/\o'.data=o.data:=fun x cc e o ho=>by
  by_cases hs:cc ∈ frs X.stack
  ·obtain ⟨sl,e1⟩:=c.slot cc o hs ho; exact ⟨_,e1,rfl⟩
  ·exact ⟨o,c.keep cc o ho (.inl (cv.cell x cc e)) hs,rfl⟩
 refine ⟨I.ok,I.os,I.bare,⟨fun b o e n hf hx=>?_,fun b o e n hf hx=>?_,fun b o e n hx=>I.base.free b o e n hx,fun b o e hx=>?_,I.base.tups,I.base.frzs,I.base.tbls⟩,?_,fun x cc e=>?_,I.free,I.freeC,fun p hp=>?_,fun b u e=>?_,I.len⟩
 ·have e1:=I.base.keep b o e n hf hx
  refine c.keep b o e1 (.inl (cv.s0 b o e hx)) (I.stkOut hf fun z=>?_)
  have h1:=I.ok.above
  have h2:b < X.s₀.heap.objs.size:=Qad e
  rw [z] at h2
  exact Nat.lt_irrefl _ (Nat.lt_of_lt_of_le h2 h1)
 ·obtain ⟨sl,e1⟩:=I.base.slot b o e n hf hx
  by_cases hs:b ∈ frs X.stack
  ·obtain ⟨sl',e2⟩:=c.slot b _ hs e1; exact ⟨sl',e2⟩
  ·exact absurd hf (I.stkIn hs)
 ·obtain ⟨o1,e1⟩:=I.base.there b o e hx
  exact c.there b o1 e1
 ·obtain ⟨m,hn,hl⟩:=I.loc
  refine ⟨m,vp (fun o ho=>?_) hn,fun i x v h1 h2 h3=>?_⟩
  ·by_cases hs:X.env.locals ∈ frs X.stack
   ·exact c.slot _ o hs ho
   ·exact ⟨o.slots,c.keep _ o ho (.inl cv.loc) hs⟩
  ·obtain ⟨u,r,l⟩:=hl i x v h1 h2 h3
   refine ⟨u,r,?_⟩
   rcases l with l | ⟨k,cc,e,o,ho,hd⟩
   ·exact .inl l
   ·obtain ⟨o',h1,h2⟩:=ck x cc e o ho
    exact .inr ⟨k,cc,e,o',h1,h2.trans hd⟩
 ·obtain ⟨v,o,ho,hd⟩:=I.cell x cc e
  obtain ⟨o',h1,h2⟩:=ck x cc e o ho
  exact ⟨v,o',h1,h2.trans hd⟩
 ·obtain ⟨h1,h2,h3,h4,h5⟩:=I.pin p hp
  exact ⟨c.keep _ _ h1 (.inl (cv.pin p hp)) (I.stkOut h4 h3),h2,h3,h4,h5⟩
 ·refine (I.hok b u e).stay (fun d v hd q=>ht d v q ?_) (fun _ q=>q) fun _ _ q=>q
  rcases hd with rfl | hd
  ·rw [e]; exact fun z=>by cases z
  ·rw [hd]; exact fun z=>by cases z
noncomputable def CXM (P:Program) (w:World):CXT:=fun outer H s E e s'=>∃ a C H',e=.ref a/\s'.os=s.os/\AllBare s'.gens/\Un (frs outer) [] H H' s.heap s'.heap/\HOk P w H' s'.heap/\ExS s.heap H' s'.heap a C (some .none)/\E C none H'
structure Fly (X:Cx) (pins:List (Addr × Obj)) (σ:St) (H:Hp) (s:Shared) (e:Value) (c:Str):Prop where
 inv:Inv X pins σ H s
 ex:∃ a C g fl,e=.ref a/\Cov X pins g/\ExS g H s.heap a C fl/\X.mg c=some C
noncomputable def XOk (X:Cx) (F:Fx) (E:Str->DEnv->Prop):Prop:=∀ (pins:List (Addr × Obj)) (σ:St) (H:Hp) (s:Shared) (e:Value) (c:Str) (ρ:DEnv) (O:List Addr),Fly X pins σ H s e c->DSt X.K F H σ ρ O->E c ρ->X.xe e s
theorem ExS.weak {g g':Heap} {H:Hp} {h:Heap} {a:Addr} {C:Value} {fl:Option Value} (x:ExS g H h a C fl) (k:∀ b o,g'.get? b=some o->∃ o',g.get? b=some o'):ExS g' H h a C fl:=by
 have nn:∀ b,g.get? b=none->g'.get? b=none:=fun b e=>by
  cases q:g'.get? b with
  | none=>rfl
  | some o=>obtain ⟨o',e'⟩:=k b o q; rw [e] at e'; cases e'
 obtain ⟨gh,lo,un,oe,vs,a0,he,hc,hd,h0,hx⟩:=x
 refine ⟨fun b o e=>let ⟨o',e'⟩:=k b o e; gh b o' e',nn a lo,un,oe,vs,a0,he,hc,hd,h0,hx.imp id ?_⟩
 rintro ⟨T,oT,ts,f,h1,h2,h3,h4⟩
 exact ⟨T,oT,ts,f,h1,h2,nn T h3,h4⟩
theorem _root_.L2.Inv.flies {E:XK} {e:Value} {s':Shared} (I:Inv X pins σ H s) (h:CXM X.prog X.w X.stack H s E e s'):∃ a C H',e=.ref a/\Inv X pins σ H' s'/\Cov X pins s.heap/\ExS s.heap H' s'.heap a C (some .none)/\E C none H':=by
 obtain ⟨a,C,H',e1,os,bare,un,hok,ex,q⟩:=h
 obtain ⟨hh,g,d,t,os'⟩:=s'
 obtain rfl:os' = s.os:=os
 exact ⟨a,C,H',e1,I.call (h':=hh) (g':=g) (d':=d) (t':=t) (ch:=[]) un hok bare (fun b z=>absurd z (by simp)),I.cov,ex,q⟩
end
theorem zT {P:Program} {w:World} {K:PySem.W.Frag} {mg:Str->Option Value} {base:Heap} {N:List Str} {qual:Str} {scope:Scope} {f:Addr} {cd:Value} {A:Around} {outer:List Env} {s:Shared} {H:Hp} {E:XK} {F:Fx} {E':Str->DEnv->Prop}
  (hE:∀ c C ρ' σ' H' O',mg c=some C->DSt K F H' σ' ρ' O'->E' c ρ'->E C none H'):XOk (cxOf (CXM P w) P w K mg base N qual scope f cd A outer s H E) F E':=by
 intro pins σ H1 s1 e c ρ O ⟨I,a,C,g,fl,e1,cv,ex,hm⟩ st q
 subst e1
 have fr:(A.deeper (envOfC qual scope s.heap.objs.size f cd)).frames=some (envOfC qual scope s.heap.objs.size f cd :: outer):=I.ok.frames
 have hb:∀ b,s1.heap.get? b=none->H1 b=none:=fun b z=>HOk.some_of I.hok z
 have stk:frs (envOfC qual scope s.heap.objs.size f cd :: outer)=s.heap.objs.size :: frs outer:=rfl
 refine t9 (base:=base) fr I.stack rfl hb ex fun h' ch ex'=>?_
 have J:=I.ch cv ch
 refine ⟨a,C,H1,rfl,J.os,J.bare,J.base,J.hok,ex'.weak fun b o eb=>cv.s0 b o eb (by intro z; cases z),hE c C ρ σ H1 O hm st q⟩
noncomputable def Fx.plus (F:Fx) (fp:List Addr):Fx:={ F with O₀:=fp ++ F.O₀ }
theorem Fx.plus_plus {F:Fx} {l m:List Addr}:(F.plus l).plus m=F.plus (m ++ l):=by unfold Fx.plus; simp
section
variable {K:PySem.W.Frag} {F:Fx} {H H':Hp} {σ:St} {ρ:DEnv} {O O':List Addr} {W:List (List Addr)} {fp:List Addr} {v:V} {c:Cell}
structure Res (K:PySem.W.Frag) (F:Fx) (H:Hp) (σ:St) (ρ:DEnv) (O:List Addr) (v:V) (c:Cell) (fp:List Addr):Prop where
 st:DSt K (F.plus fp) H σ ρ O
 at_:CellAt K H O v c fp
 new:∀ a ∈ fp,a ∈ F.A₀\/F.H₀ a=none
theorem dQ (h:∀ a ∈ O',a ∈ O):Stp O H O' H:=⟨fun _ _ _ e=>e,fun a z=>.inl (h a z)⟩
theorem DStW.less {F':Fx} (st:DStW K F H σ ρ W) (h1:F'.H₀=F.H₀) (h2:F'.A₀=F.A₀) (h4:F'.I₀=F.I₀) (h3:F'.O₀.Sublist F.O₀):DStW K F' H σ ρ W:=by
 have sub:(W.flatten ++ F'.O₀).Sublist (W.flatten ++ F.O₀):=List.Sublist.append (List.Sublist.refl _) h3
 have mem:∀ a ∈ W.flatten ++ F'.O₀,a ∈ W.flatten ++ F.O₀:=fun a h=>sub.subset h
 refine ⟨fun i c e=>?_,st.nd.sublist sub,by rw [h1,h2]; exact st.kept,by rw [h1,h2]; exact st.new,fun a h=>st.live a (mem a h),st.len,st.lw,by rw [h4]; exact st.io⟩
 obtain ⟨v,fp,e1,e2,e3⟩:=st.at_ i c e
 exact ⟨v,fp,e1,e2,e3.keep (dQ mem) (fun _ _=>rfl) (fun _ _ _ e=>e)⟩
theorem DSt.unplus (st:DSt K (F.plus fp) H σ ρ O):∃ O',DSt K F H σ ρ O'/\Stp O H O' H/\(∀ a ∈ fp,a ∉ O'):=by
 obtain ⟨W,st,rfl⟩:=st
 have st':DStW K F H σ ρ W:=st.less rfl rfl rfl (List.sublist_append_right _ _)
 refine ⟨_,⟨W,st',rfl⟩,dQ fun a h=>?_,fun a ha z=>?_⟩
 ·rcases List.mem_append.mp h with h | h
  ·exact Qaj _ h
  ·exact Qai _ (Qai _ h)
 ·have nd:(W.flatten ++ (fp ++ F.O₀)).Nodup:=st.nd
  obtain ⟨_,n2,n3⟩:=List.nodup_append.mp nd
  rcases List.mem_append.mp z with z | z
  ·exact n3 a z a (Qaj _ ha) rfl
  ·exact (List.nodup_append.mp n2).2.2 a ha a z rfl
theorem Res.drop (r:Res K F H σ ρ O v c fp):∃ O',DSt K F H σ ρ O'/\Stp O H O' H:=let ⟨O',h1,h2,_⟩:=r.st.unplus; ⟨O',h1,h2⟩
@[simp] noncomputable def frz:Cell->Option PyData
 | .dat d=>some d
 | .own _ (.l ds)=>some (.list ds)
 | _=>none
theorem Res.frz {d:PyData} (r:Res K F H σ ρ O v c fp) (e:frz c=some d):∃ O',DSt K F H σ ρ O'/\Stp O H O' H/\DV (hide O' H) v d:=by
 obtain ⟨O',h1,h2,h3⟩:=r.st.unplus
 refine ⟨O',h1,h2,?_⟩
 have ra:=r.at_
 cases c with
 | dat x=>cases e; exact DV.mono h2.hid ra
 | scr ns=>cases e
 | exc c=>cases e
 | vw c=>cases e
 | own io b=>
  cases b with
  | l ds=>
   cases e
   obtain ⟨a,rfl,rfl,xs,e1,e2⟩:=ra
   exact .lst (fR e1 (h3 a (by simp))) (DVs.mono h2.hid e2)
  | m _ _=>cases e
  | o _ _=>cases e
  | sd _=>cases e
  | ll _=>cases e
theorem xq (st:DSt K F H σ ρ O) {d:PyData} (h:DV (hide O H) v d):Res K F H σ ρ O v (.dat d) []:=⟨st,h,fun a h=>by cases h⟩
theorem DSt.put1 {io:Bool} (st:DSt K (F.plus fp) H σ ρ O) (hc:CellAt K H O v c fp) (new:∀ a ∈ fp,a ∈ F.A₀\/F.H₀ a=none) {i:Nat} (hi:i < ρ.length) (hio:∀ b,c=.own true b->v=.ref (F.I₀ i)) :
  ∃ O',DSt K F H (σ.set i (some v)) (ρ.set i (some c)) O'/\Stp O H O' H:=by
 obtain ⟨W,st,rfl⟩:=st
 have nd:(W.flatten ++ (fp ++ F.O₀)).Nodup:=st.nd
 obtain ⟨n1,n2,n3⟩:=List.nodup_append.mp nd
 obtain ⟨n4,n5,n6⟩:=List.nodup_append.mp n2
 have hiW:i < W.length:=by rw [st.lw]; exact hi
 have sub:∀ a ∈ (W.set i fp).flatten ++ F.O₀,a ∈ W.flatten ++ (fp ++ F.O₀):=fun a h=>by
  rcases List.mem_append.mp h with h | h
  ·rcases bo h with h | ⟨j,l,_,e,hl⟩
   ·exact Qai _ (Qaj _ h)
   ·exact Qaj _ (aB e hl)
  ·exact Qai _ (Qai _ h)
 have stp:=dQ (H:=H) sub
 refine ⟨_,⟨W.set i fp,⟨fun j d e=>?_,iV (List.nodup_append.mpr ⟨n1,n5,fun a ha b hb=>n3 a ha b (Qai _ hb)⟩) n4 fun a ha=>⟨fun j l _ e z=>n3 a (aB e z) a (Qaj _ ha) rfl,fun z=>n6 a ha a z rfl⟩,st.kept,fun a h=>?_,fun a h=>st.live a (sub a h),by rw [List.length_set,List.length_set,st.len],by rw [List.length_set,List.length_set,st.lw],fun j b e=>?_⟩,rfl⟩,stp⟩
 ·rcases eP e with ⟨rfl,e1,_⟩ | ⟨hj,e1⟩
  ·cases e1
   exact ⟨v,fp,List.getElem?_set_self (by rw [<-st.len]; exact hi),List.getElem?_set_self hiW,hc.keep stp (fun _ _=>rfl) (fun _ _ _ e=>e)⟩
  ·obtain ⟨w,l,h1,h2,h3⟩:=st.at_ j d e1
   exact ⟨w,l,by rw [List.getElem?_set_ne (Ne.symm hj)]; exact h1,by rw [List.getElem?_set_ne (Ne.symm hj)]; exact h2,h3.keep stp (fun _ _=>rfl) (fun _ _ _ e=>e)⟩
 ·rcases bo h with h | ⟨j,l,_,e,hl⟩
  ·exact new a h
  ·exact st.new a (aB e hl)
 ·rcases eP e with ⟨rfl,e1,_⟩ | ⟨hj,e1⟩
  ·rw [List.getElem?_set_self (by rw [<-st.len]; exact hi),hio b (Option.some.inj e1).symm]
  ·rw [List.getElem?_set_ne (Ne.symm hj)]; exact st.io j b e1
theorem DSt.take (st:DSt K F H σ ρ O) {i:Nat} {io:Bool} {b:Bx} (e:ρ[i]? = some (some (.own io b))):∃ a fp O',σ[i]? = some (some (.ref a))/\DSt K (F.plus fp) H σ (ρ.set i none) O'/\BoxAt (hide O' H) H a b fp/\Stp O H O' H/\Stp O' H O H/\(∀ a ∈ fp,a ∈ F.A₀\/F.H₀ a=none)/\(io=true->a=F.I₀ i):=by
 obtain ⟨W,st,rfl⟩:=st
 obtain ⟨v,fp,h1,h2,a,rfl,h3⟩:=st.at_ i _ e
 have hi:i < ρ.length:=(List.getElem?_eq_some_iff.mp e).1
 have hiW:i < W.length:=by rw [st.lw]; exact hi
 obtain ⟨n1,n2,n3⟩:=List.nodup_append.mp st.nd
 have s1:∀ x ∈ (W.set i []).flatten ++ (fp ++ F.O₀),x ∈ W.flatten ++ F.O₀:=fun x h=>by
  rcases List.mem_append.mp h with h | h
  ·rcases bo h with h | ⟨j,l,_,ej,hl⟩
   ·cases h
   ·exact Qaj _ (aB ej hl)
  ·rcases List.mem_append.mp h with h | h
   ·exact Qaj _ (aB h2 h)
   ·exact Qai _ h
 have s2:∀ x ∈ W.flatten ++ F.O₀,x ∈ (W.set i []).flatten ++ (fp ++ F.O₀):=fun x h=>by
  rcases List.mem_append.mp h with h | h
  ·obtain ⟨l,hl,hx⟩:=List.mem_flatten.mp h
   obtain ⟨j,hj⟩:=List.getElem?_of_mem hl
   by_cases hji:j=i
   ·subst hji; rw [h2] at hj; cases hj; exact Qai _ (Qaj _ hx)
   ·exact Qaj _ (oY hji hj hx)
  ·exact Qai _ (Qai _ h)
 have nfp:fp.Nodup:=by
  have:∀ {W:List (List Addr)} {i:Nat} {l:List Addr},W.flatten.Nodup->W[i]? = some l->l.Nodup:=fun {W i l} nd hl=>nd.sublist (by
   have:=List.mem_of_getElem? hl
   exact List.sublist_flatten_of_mem this)
  exact this n1 h2
 have nd':((W.set i []).flatten ++ (fp ++ F.O₀)).Nodup:=by
  have q:((W.set i []).flatten ++ ([] ++ F.O₀)).Nodup:=iV (fp:=[]) (O:=F.O₀) st.nd List.nodup_nil (fun a h=>by cases h)
  obtain ⟨q1,_,q3⟩:=List.nodup_append.mp q
  refine List.nodup_append.mpr ⟨q1,List.nodup_append.mpr ⟨nfp,n2,fun x hx y hy z=>n3 x (aB h2 hx) y hy z⟩,fun x hx y hy z=>?_⟩
  subst z
  rcases List.mem_append.mp hy with hy | hy
  ·rcases bo hx with hx | ⟨j,l,hj,ej,hl⟩
   ·cases hx
   ·exact gQ n1 h2 ej (Ne.symm hj) hy hl
  ·exact q3 x hx x hy rfl
 have stp:=dQ (H:=H) s1
 have k:=dQ (H:=H) s2
 refine ⟨a,fp,_,h1,⟨W.set i [],⟨fun j d ej=>?_,nd',st.kept,fun x h=>?_,fun x h=>st.live x (s1 x h),by rw [List.length_set,st.len],by rw [List.length_set,List.length_set,st.lw],fun j b' ej=>?_⟩,rfl⟩,h3.keep (fun _ _=>rfl) stp.hid,stp,k,fun x hx=>st.new x (aB h2 hx),fun hio=>?_⟩
 ·rcases eP ej with ⟨rfl,e1,_⟩ | ⟨hj,e1⟩
  ·cases e1
  ·obtain ⟨w,l,q1,q2,q3⟩:=st.at_ j d e1
   exact ⟨w,l,q1,by rw [List.getElem?_set_ne (Ne.symm hj)]; exact q2,q3.keep stp (fun _ _=>rfl) (fun _ _ _ e=>e)⟩
 ·rcases bo h with h | ⟨j,l,_,ej,hl⟩
  ·cases h
  ·exact st.new x (aB ej hl)
 ·rcases eP ej with ⟨rfl,e1,_⟩ | ⟨hj,e1⟩
  ·cases e1
  ·exact st.io j b' e1
 ·subst hio
  have:=st.io i b e
  rw [h1] at this
  cases this; rfl
theorem DSt.swap {L L':List Addr} (st:DSt K (F.plus L) H σ ρ O) (keep:∀ b o,b ∉ L->H b=some o->H' b=some o) (nd:L'.Nodup) (new:∀ a ∈ L',a ∈ L\/H a=none) (hA:∀ a ∈ L,a ∈ F.A₀\/F.H₀ a=none) (liv:∀ a ∈ L',∃ o,H' a=some o/\Mv o) :
  ∃ O',DSt K (F.plus L') H' σ ρ O'/\Stp O H O' H'/\(∀ a ∈ L',a ∈ O')/\(∀ a ∈ O',a ∈ L'\/a ∈ O/\a ∉ L)/\∀ a ∈ O,a ∉ L->a ∈ O':=by
 obtain ⟨W,st,rfl⟩:=st
 have ndO:(W.flatten ++ (L ++ F.O₀)).Nodup:=st.nd
 obtain ⟨n1,n2,n3⟩:=List.nodup_append.mp ndO
 obtain ⟨n4,n5,n6⟩:=List.nodup_append.mp n2
 have wl:∀ a ∈ W.flatten,a ∉ L:=fun a h z=>n3 a h a (Qaj _ z) rfl
 have ol:∀ a ∈ F.O₀,a ∉ L:=fun a h z=>n6 a z a h rfl
 have lv:∀ a ∈ W.flatten ++ F.O₀,∃ o,H a=some o/\Mv o:=fun a h=>st.live a (by
  rcases List.mem_append.mp h with h | h
  ·exact Qaj _ h
  ·exact Qai _ (Qai _ h))
 have kp:∀ a ∈ W.flatten ++ F.O₀,H' a=H a:=fun a h=>by
  obtain ⟨o,e,_⟩:=lv a h
  rw [e]
  exact keep a o ((List.mem_append.mp h).elim (wl a) (ol a)) e
 have ap:∀ a ∈ L',a ∉ W.flatten ++ F.O₀:=fun a h z=>by
  rcases new a h with q | q
  ·rcases List.mem_append.mp z with z | z
   ·exact wl a z q
   ·exact ol a z q
  ·obtain ⟨o,e,_⟩:=lv a z; rw [q] at e; cases e
 have stp:Stp (W.flatten ++ (L ++ F.O₀)) H (W.flatten ++ (L' ++ F.O₀)) H':=⟨fun b o hb e=>keep b o (fun z=>hb (Qai _ (Qaj _ z))) e,fun a h=>by
  rcases List.mem_append.mp h with h | h
  ·exact .inl (Qaj _ h)
  ·rcases List.mem_append.mp h with h | h
   ·exact (new a h).imp (fun z=>Qai _ (Qaj _ z)) id
   ·exact .inl (Qai _ (Qai _ h))⟩
 have zf:∀ b o u,H b=some (.frz o u)->H' b=some (.frz o u):=fun b o u e=>keep b _ (fun z=>st.nofrz (Qai _ (Qaj _ z)) e) e
 refine ⟨_,⟨W,⟨fun i c e=>?_,?_,fun b o hb e=>?_,st.new,fun a h=>?_,st.len,st.lw,st.io⟩,rfl⟩,stp,fun a h=>Qai _ (Qaj _ h),fun a h=>?_,fun a h hn=>?_⟩
 ·obtain ⟨v,fp,h1,h2,h3⟩:=st.at_ i c e
  exact ⟨v,fp,h1,h2,h3.keep stp (fun b hb=>kp b (Qaj _ (aB h2 hb))) zf⟩
 ·refine List.nodup_append.mpr ⟨n1,List.nodup_append.mpr ⟨nd,n5,fun a ha b hb z=>?_⟩,fun a ha b hb z=>?_⟩
  ·subst z; exact ap a ha (Qai _ hb)
  ·subst z
   rcases List.mem_append.mp hb with hb | hb
   ·exact ap a hb (Qaj _ ha)
   ·exact n3 a ha a (Qai _ hb) rfl
 ·have e1:=st.kept b o hb e
  by_cases hL:b ∈ L
  ·rcases hA b hL with q | q
   ·exact absurd q hb
   ·have e':F.H₀ b=some o:=e
    rw [q] at e'; cases e'
  ·exact keep b o hL e1
 ·rcases List.mem_append.mp h with h | h
  ·obtain ⟨o,e1,e2⟩:=lv a (Qaj _ h)
   exact ⟨o,by rw [kp a (Qaj _ h)]; exact e1,e2⟩
  ·rcases List.mem_append.mp h with h | h
   ·exact liv a h
   ·obtain ⟨o,e1,e2⟩:=lv a (Qai _ h)
    exact ⟨o,by rw [kp a (Qai _ h)]; exact e1,e2⟩
 ·rcases List.mem_append.mp h with h | h
  ·exact .inr ⟨Qaj _ h,wl a h⟩
  ·rcases List.mem_append.mp h with h | h
   ·exact .inl h
   ·exact .inr ⟨Qai _ (Qai _ h),ol a h⟩
 ·rcases List.mem_append.mp h with h | h
  ·exact Qaj _ h
  ·rcases List.mem_append.mp h with h | h
   ·exact absurd h hn
   ·exact Qai _ (Qai _ h)
end
noncomputable abbrev DTO:=DEnv->(Cell->DEnv->Prop)->Prop
noncomputable def MnO (t:DTO):Prop:=∀ ρ Q Q',(∀ c ρ',Q c ρ'->Q' c ρ')->t ρ Q->t ρ Q'
noncomputable def rdO (K:PySem.W.Frag) (F:Fx) (t:DTO):TE:=fun σ H Q=>∃ ρ O,DSt K F H σ ρ O/\t ρ fun c ρ'=>∀ v H' O' fp,Res K F H' σ ρ' O' v c fp->Stp O H O' H'->Q v H'
structure DO (X:Cx) (F:Fx) (e:Expr) (t:DTO):Prop where
 mn:MnO t
 pe:PE X e (rdO X.K F t)
section
variable {X:Cx} {F:Fx} {e:Expr} {te:DT} {to:DTO}
noncomputable def dFrz (t:DTO):DT:=fun ρ Q=>t ρ fun c ρ'=>∃ d,frz c=some d/\Q d ρ'
theorem DO.de (h:DO X F e to):DE X F e (dFrz to):=
 ⟨fun _ _ _ k q=>h.mn _ _ _ (fun _ _ ⟨d,e,q⟩=>⟨d,e,k _ _ q⟩) q,h.pe.imp fun σ H Q ⟨ρ,O,st,q⟩=>⟨ρ,O,st,h.mn _ _ _ (fun c ρ' ⟨d,e,q⟩ v H' O' fp r s=>by
  obtain ⟨O2,st2,s2,dv⟩:=r.frz e
  exact q v H' O2 st2 (s.trans s2) dv) q⟩⟩
end
noncomputable abbrev DTG:=PyData->DEnv->(DEnv->Prop)->Prop
noncomputable def rdG (K:PySem.W.Frag) (F:Fx) (t:DTG):TG:=fun v σ H Q=>∃ ρ O d,DSt K F H σ ρ O/\DV (hide O H) v d/\t d ρ fun ρ'=>∀ σ' H' O',DSt K F H' σ' ρ' O'->Stp O H O' H'->Q σ' H'
structure DG (X:Cx) (F:Fx) (tg:Expr) (t:DTG):Prop where
 mn:∀ d ρ Q Q',(∀ ρ',Q ρ'->Q' ρ')->t d ρ Q->t d ρ Q'
 pg:PG X tg (rdG X.K F t)
noncomputable abbrev jS:=List PyData->DEnv->(DEnv->Prop)->Prop
noncomputable def rdGs (K:PySem.W.Frag) (F:Fx) (t:jS):TGs:=fun vs σ H Q=>∃ ρ O ds,DSt K F H σ ρ O/\DVs (hide O H) vs ds/\t ds ρ fun ρ'=>∀ σ' H' O',DSt K F H' σ' ρ' O'->Stp O H O' H'->Q σ' H'
structure DGs (X:Cx) (F:Fx) (tg:List Expr) (t:jS):Prop where
 mn:∀ d ρ Q Q',(∀ ρ',Q ρ'->Q' ρ')->t d ρ Q->t d ρ Q'
 pg:PGs X tg (rdGs X.K F t)
theorem _root_.L2.PG.imp {X:Cx} {e:Expr} {t t':TG} (h:PG X e t) (k:∀ v σ H Q,t' v σ H Q->t v σ H Q):PG X e t':=fun pins s σ H v u Q I r q=>h pins s σ H v u Q I r (k v σ H Q q)
theorem _root_.L2.PGs.imp {X:Cx} {e:List Expr} {t t':TGs} (h:PGs X e t) (k:∀ v σ H Q,t' v σ H Q->t v σ H Q):PGs X e t':=fun pins s σ H v u Q I r q=>h pins s σ H v u Q I r (k v σ H Q q)
section
variable {X:Cx} {F:Fx} {e:Expr} {es:List Expr} {pos:Pos} {x:Str} {t:DTG} {ts:jS}
noncomputable def gN (i:Nat):DTG:=fun d ρ Q=>Q (ρ.set i (some (.dat d)))
theorem xr {i:Nat} (h:PG X (.Name x pos) (oE i)):DG X F (.Name x pos) (gN i):=⟨fun _ _ _ _ k q=>k _ q,h.imp fun v σ H Q ⟨ρ,O,d,st,hd,q⟩=>q _ H O (st.set hd) .refl⟩
noncomputable def gNl:jS:=fun ds ρ Q=>ds=[]/\Q ρ
noncomputable def gCs (t:DTG) (u:jS):jS:=fun ds ρ Q=>∃ d r,ds=d :: r/\t d ρ fun ρ'=>u r ρ' Q
theorem xu:DGs X F [] gNl:=⟨fun _ _ _ _ k q=>⟨q.1,k _ q.2⟩,w5.imp fun vs σ H Q ⟨ρ,O,ds,st,hd,e,q⟩=>by
 subst e
 cases hd
 exact ⟨rfl,q _ H O st .refl⟩⟩
theorem vt (h1:DG X F e t) (h2:DGs X F es ts) (hs:(assignEach (e :: es) X.env).map (·.2)=assign e X.env :: (assignEach es X.env).map (·.2):=by rfl):DGs X F (e :: es) (gCs t ts):=
 ⟨fun _ _ _ _ k ⟨d,r,e,q⟩=>⟨d,r,e,h1.mn _ _ _ _ (fun _ q1=>h2.mn _ _ _ _ k q1) q⟩,(uZ h1.pg h2.pg hs).imp fun vs σ H Q ⟨ρ,O,ds,st,hd,d,r,e,q⟩=>by
  subst e
  cases hd with
  | cons hd hr=>
   exact ⟨_,_,rfl,ρ,O,d,st,hd,h1.mn _ _ _ _ (fun ρ1 q1 σ1 H1 O1 st1 s1=>⟨ρ1,O1,r,st1,DVs.mono s1.hid hr,h2.mn _ _ _ _ (fun ρ2 q2 σ2 H2 O2 st2 s2=>q2 σ2 H2 O2 st2 (s1.trans s2)) q1⟩) q⟩⟩
noncomputable def gTp (n:Nat) (t:jS):DTG:=fun d ρ Q=>∃ ds,d=.tuple ds/\ds.length=n/\t ds ρ Q
theorem zU {k n:Nat} (hc:X.calm=true) (h:DGs X F es ts) (hn:(assignEach es X.env).length=n:=by rfl) (hst:(assignEach es X.env).findIdx? (·.1)=none:=by rfl):DG X F (.Tuple es k pos) (gTp n ts):=
 ⟨fun _ _ _ _ k ⟨ds,e,l,q⟩=>⟨ds,e,l,h.mn _ _ _ _ k q⟩,(yX hc h.pg hn hst).imp fun v σ H Q ⟨ρ,O,d,st,hd,ds,e,l,q⟩=>by
  subst e
  obtain ⟨a,xs,rfl,ha,hx⟩:=hd.tup_inv
  exact ⟨a,xs,rfl,.of (aO ha).1,by rw [hx.length]; exact l,ρ,O,ds,st,hx,q⟩⟩
end
structure DEnds where
 nx:DEnv->Prop
 rt:Cell->DEnv->Prop
 bk:DEnv->Prop:=fun _=>False
 ct:DEnv->Prop:=fun _=>False
noncomputable abbrev DTS:=DEnds->DEnv->Prop
structure Fits (K:PySem.W.Frag) (F:Fx) (O:List Addr) (H:Hp) (D:Ends) (DD:DEnds):Prop where
 nx:∀ σ' H' ρ' O',DSt K F H' σ' ρ' O'->Stp O H O' H'->DD.nx ρ'->D.nx σ' H'
 rt:∀ v σ' H' c ρ' O' fp,Res K F H' σ' ρ' O' v c fp->Stp O H O' H'->DD.rt c ρ'->D.rt v H'
 bk:∀ σ' H' ρ' O',DSt K F H' σ' ρ' O'->Stp O H O' H'->DD.bk ρ'->D.bk σ' H'
 ct:∀ σ' H' ρ' O',DSt K F H' σ' ρ' O'->Stp O H O' H'->DD.ct ρ'->D.ct σ' H'
theorem Fits.later {K:PySem.W.Frag} {F:Fx} {O O':List Addr} {H H':Hp} {D:Ends} {DD:DEnds} (f:Fits K F O H D DD) (s:Stp O H O' H'):Fits K F O' H' D DD:=
 ⟨fun σ H ρ O st s' q=>f.nx σ H ρ O st (s.trans s') q,fun v σ H c ρ O fp r s' q=>f.rt v σ H c ρ O fp r (s.trans s') q,fun σ H ρ O st s' q=>f.bk σ H ρ O st (s.trans s') q,fun σ H ρ O st s' q=>f.ct σ H ρ O st (s.trans s') q⟩
noncomputable def rdS (K:PySem.W.Frag) (F:Fx) (t:DTS):TS:=fun D σ H=>∃ ρ O DD,DSt K F H σ ρ O/\t DD ρ/\Fits K F O H D DD
noncomputable def DS (X:Cx) (F:Fx) (s:Stmt) (t:DTS):Prop:=PS X s (rdS X.K F t)
noncomputable def DSs (X:Cx) (F:Fx) (s:List Stmt) (t:DTS):Prop:=PSs X s (rdS X.K F t)
section
variable {X:Cx} {F:Fx} {e:Expr} {es:List Expr} {st:Stmt} {rest:List Stmt} {t u:DTS} {te:DT} {to:DTO} {tA:DTA} {tc:DTT} {tg:DTG} {pos:Pos} {x:Str}
noncomputable def Bn:DTS:=fun D ρ=>D.nx ρ
noncomputable def sSeq (t u:DTS):DTS:=fun D ρ=>t { D with nx:=fun ρ'=>u D ρ' } ρ
theorem xv:DSs X F [] Bn:=wY.imp fun D σ H ⟨ρ,O,DD,st,q,f⟩=>f.nx σ H ρ O st .refl q
theorem vA (h1:DS X F st t) (h2:DSs X F rest u):DSs X F (st :: rest) (sSeq t u):=
 (uY h1 h2).imp fun D σ H ⟨ρ,O,DD,s,q,f⟩=>⟨ρ,O,_,s,q,⟨fun σ' H' ρ' O' st' s' q'=>⟨ρ',O',DD,st',q',f.later s'⟩,f.rt,f.bk,f.ct⟩⟩
theorem xw (h:DS X F st t):DSs X F [st] t:=wZ h
noncomputable def r0 (te:DT) (tg:DTG):DTS:=fun D ρ=>te ρ fun d ρ'=>tg d ρ' D.nx
theorem zV {tgt:Expr} (he:DE X F e te) (hg:DG X F tgt tg) (hs:swapsWithSole [tgt] e pos.line X.env=pure false:=by rfl) (hw:swappedStores [tgt] e X.env=pure none:=by rfl)
  (h1:(assignEach [tgt] X.env).map (·.2)=[assign tgt X.env]:=by rfl):DS X F (.Assign [tgt] e pos) (r0 te tg):=
 (yY he.pe hg.pg hs hw h1).imp fun D σ H ⟨ρ,O,DD,st,q,f⟩=>⟨ρ,O,st,he.mn _ _ _ (fun d ρ1 q1 v H1 O1 st1 s1 d1=>⟨ρ1,O1,d,st1,d1,hg.mn _ _ _ _ (fun ρ2 q2 σ2 H2 O2 st2 s2=>f.nx σ2 H2 ρ2 O2 st2 (s1.trans s2) q2) q1⟩) q⟩
theorem zW {i:Nat} {pos':Pos} (hN:X.N.Nodup) (hi:X.N[i]? = some x) (hx:Loc X.env.scope x) (he:DE X F e te) (hs:swapsWith e (some (.Name x pos')) pos.line X.env=pure false:=by rfl)
  (hf:X.fn x=true\/X.env.scope.names.lookup x=some .local:=by first | exact .inl rfl | exact .inr rfl | assumption):DS X F (.Assign [.Name x pos'] e pos) (r0 te (gN i)):=
 (tw hN hi hx he.pe hs hf).imp fun D σ H ⟨ρ,O,DD,st,q,f⟩=>⟨ρ,O,st,he.mn _ _ _ (fun d ρ1 q1 v H1 O1 st1 s1 d1=>f.nx _ H1 _ O1 (st1.set d1) s1 q1) q⟩
noncomputable def sRet (te:DT):DTS:=fun D ρ=>te ρ fun d ρ'=>D.rt (.dat d) ρ'
theorem ua (he:DE X F e te):DS X F (.Return (some e) pos) (sRet te):=
 (oP he.pe).imp fun D σ H ⟨ρ,O,DD,st,q,f⟩=>⟨ρ,O,st,he.mn _ _ _ (fun d ρ1 q1 v H1 O1 st1 s1 d1=>f.rt v σ H1 (.dat d) ρ1 O1 [] (xq st1 d1) s1 q1) q⟩
noncomputable def Bo (to:DTO):DTS:=fun D ρ=>to ρ fun c ρ'=>D.rt c ρ'
theorem xx (he:DO X F e to):DS X F (.Return (some e) pos) (Bo to):=
 (oP he.pe).imp fun D σ H ⟨ρ,O,DD,st,q,f⟩=>⟨ρ,O,st,he.mn _ _ _ (fun c ρ1 q1 v H1 O1 fp r s1=>f.rt v σ H1 c ρ1 O1 fp r s1 q1) q⟩
noncomputable def zX (i:Nat):DTS:=fun D ρ=>∃ b,ρ[i]? = some (some (.own false b))/\D.rt (.own false b) (ρ.set i none)
theorem vB {i:Nat} {p1:Pos} (hv:PE X (.Name x p1) (fV i)):DS X F (.Return (some (.Name x p1)) pos) (zX i):=
 (oP hv).imp fun D σ H ⟨ρ,O,DD,st,⟨b,e,q⟩,f⟩=>by
  obtain ⟨a,fp,O',h1,h2,h3,h4,h5,h6,_⟩:=st.take e
  exact ⟨_,h1,f.rt _ σ H (.own false b) _ O' fp ⟨h2,⟨a,rfl,h3⟩,h6⟩ h4 q⟩
noncomputable def Bp (i:Nat) (to:DTO):DTS:=fun D ρ=>to ρ fun c ρ'=>i < ρ'.length/\(∀ b,c ≠ .own true b)/\D.nx (ρ'.set i (some c))
theorem xz {i:Nat} {pos':Pos} (hN:X.N.Nodup) (hi:X.N[i]? = some x) (hx:Loc X.env.scope x) (he:DO X F e to) (hs:swapsWith e (some (.Name x pos')) pos.line X.env=pure false:=by rfl)
  (hf:X.fn x=true\/X.env.scope.names.lookup x=some .local:=by first | exact .inl rfl | exact .inr rfl | assumption):DS X F (.Assign [.Name x pos'] e pos) (Bp i to):=
 (tw hN hi hx he.pe hs hf).imp fun D σ H ⟨ρ,O,DD,st,q,f⟩=>⟨ρ,O,st,he.mn _ _ _ (fun c ρ1 ⟨hl,hn,q1⟩ v H1 O1 fp r s1=>by
  obtain ⟨O2,st2,s2⟩:=DSt.put1 (io:=true) r.st r.at_ r.new hl (fun b z=>absurd z (hn b))
  exact f.nx _ H1 _ O2 st2 (s1.trans s2) q1) q⟩
noncomputable def zY (to:DTO):DTS:=fun D ρ=>to ρ fun _ ρ'=>D.nx ρ'
theorem vC (he:DO X F e to) (hs:swapsWith e none pos.line X.env=pure false:=by rfl):DS X F (.Expr e pos) (zY to):=
 (qH he.pe hs).imp fun D σ H ⟨ρ,O,DD,st,q,f⟩=>⟨ρ,O,st,he.mn _ _ _ (fun c ρ1 q1 v H1 O1 fp r s1=>by
  obtain ⟨O2,st2,s2⟩:=r.drop
  exact f.nx _ _ _ _ st2 (s1.trans s2) q1) q⟩
noncomputable def sIf (tc:DTT) (t u:DTS):DTS:=fun D ρ=>tc ρ fun b ρ'=>if b=true then t D ρ' else u D ρ'
theorem Bq {c:Expr} {a b:List Stmt} (hc:DB X F c tc) (ha:DSs X F a t) (hb:DSs X F b u):DS X F (.If c a b pos) (sIf tc t u):=
 (A2 hc.pt ha hb).imp fun D σ H ⟨ρ,O,DD,st,q,f⟩=>⟨ρ,O,st,hc.mn _ _ _ (fun b ρ1 q1 H1 O1 st1 s1=>by
  cases b with
  | true=>exact fi ⟨ρ1,O1,DD,st1,ofT q1,f.later s1⟩
  | false=>exact fg ⟨ρ1,O1,DD,st1,ofF q1,f.later s1⟩) q⟩
noncomputable def sAug (i:Nat) (te:DT) (g:Int->Int->Int):DTS:=fun D ρ=>∃ k,ρ[i]? = some (some (.dat (.int k)))/\te ρ fun d ρ'=>∃ l,d=.int l/\D.nx (ρ'.set i (some (.dat (.int (g k l)))))
theorem zZ {i:Nat} {op:Operator} {pos':Pos} {g:Int->Int->Int} (hN:X.N.Nodup) (hi:X.N[i]? = some x) (hx:Loc X.env.scope x) (he:DE X F e te) (ho:PIp X op (ipI g)) (hf:X.fn x=true\/X.env.scope.names.lookup x=some .local:=by first | exact .inl rfl | exact .inr rfl | assumption) :
  DS X F (.AugAssign (.Name x pos') op e pos) (sAug i te g):=
 (y3 hN hi hx he.pe ho hf).imp fun D σ H ⟨ρ,O,DD,st,⟨k,e0,q⟩,f⟩=>by
  obtain ⟨v,hv0,hd'⟩:=st.dat e0
  obtain rfl:=hd'.int_inv
  exact ⟨_,hv0,ρ,O,st,he.mn _ _ _ (fun d ρ1 ⟨l,e1,q1⟩ w H1 O1 st1 s1 d1=>by subst e1; exact ⟨k,l,rfl,d1.int_inv,f.nx _ _ _ _ (st1.set (.int _)) s1 q1⟩) q⟩
end
inductive OutF where
 | rt (c:Cell) (outs:List Bx) | ex (c:Str) (outs:List Bx) | bad
noncomputable abbrev FM:=List Cell->OutF
inductive ArgsAt (K:PySem.W.Frag) (H:Hp) (O:List Addr):List V->List Cell->List (List Addr)->Prop where
 | nil:ArgsAt K H O [] [] []
 | dat {v:V} {d:PyData} {vs:List V} {cs:List Cell} {fps:List (List Addr)}:DV (hide O H) v d->ArgsAt K H O vs cs fps->ArgsAt K H O (v :: vs) (.dat d :: cs) ([] :: fps)
 | oth {v:V} {c:Cell} {vs:List V} {cs:List Cell} {fps:List (List Addr)}:(∀ d,c ≠ .dat d)->(∀ io b,c ≠ .own io b)->CellAt K H O v c []->ArgsAt K H O vs cs fps->ArgsAt K H O (v :: vs) (c :: cs) ([] :: fps)
 | own {a:Addr} {b:Bx} {fp:List Addr} {vs:List V} {cs:List Cell} {fps:List (List Addr)}:BoxAt (hide O H) H a b fp->ArgsAt K H O vs cs fps->ArgsAt K H O (.ref a :: vs) (.own true b :: cs) (fp :: fps)
inductive OutsAt (H:Hp) (O:List Addr):List V->List Cell->List Bx->List (List Addr)->Prop where
 | nil:OutsAt H O [] [] [] []
 | skip {v:V} {c:Cell} {vs:List V} {cs:List Cell} {bs:List Bx} {fps:List (List Addr)}:(∀ io b,c ≠ .own io b)->OutsAt H O vs cs bs fps->OutsAt H O (v :: vs) (c :: cs) bs fps
 | own {a:Addr} {io:Bool} {b b':Bx} {fp:List Addr} {vs:List V} {cs:List Cell} {bs:List Bx} {fps:List (List Addr)}:BoxAt (hide O H) H a b' fp->OutsAt H O vs cs bs fps->OutsAt H O (.ref a :: vs) (.own io b :: cs) (b' :: bs) (fp :: fps)
structure Beh (H H':Hp) (L L' O₀:List Addr):Prop where
 nd:(L' ++ O₀).Nodup
 live:∀ a ∈ L',∃ o,H' a=some o/\Mv o
 keep:∀ b o,b ∉ L->H b=some o->H' b=some o
 new:∀ a ∈ L',a ∈ L\/H a=none
noncomputable def spF (K:PySem.W.Frag) (mg:Str->Option Value) (f:FM):Sp:=fun vs H Q E=>∃ (cs:List Cell) (fps:List (List Addr)) (O₀:List Addr),ArgsAt K H (fps.flatten ++ O₀) vs cs fps/\(fps.flatten ++ O₀).Nodup/\(∀ a ∈ fps.flatten ++ O₀,∃ o,H a=some o/\Mv o)/\
 match f cs with
 | .rt c outs=>∀ v H' fp fps',CellAt K H' (fps'.flatten ++ fp ++ O₀) v c fp->OutsAt H' (fps'.flatten ++ fp ++ O₀) vs cs outs fps'->Beh H H' fps.flatten (fps'.flatten ++ fp) O₀->Q v H'
 | .ex c outs=>∀ C H' fps',mg c=some C->OutsAt H' (fps'.flatten ++ O₀) vs cs outs fps'->Beh H H' fps.flatten fps'.flatten O₀->E C none H'
 | .bad=>False
theorem ArgsAt.len {K:PySem.W.Frag} {H:Hp} {O:List Addr} {vs:List V} {cs:List Cell} {fps:List (List Addr)} (h:ArgsAt K H O vs cs fps):vs.length=cs.length/\fps.length=cs.length:=by
 induction h with
 | nil=>exact ⟨rfl,rfl⟩
 | dat _ _ ih=>exact ⟨congrArg Nat.succ ih.1,congrArg Nat.succ ih.2⟩
 | oth _ _ _ _ ih=>exact ⟨congrArg Nat.succ ih.1,congrArg Nat.succ ih.2⟩
 | own _ _ ih=>exact ⟨congrArg Nat.succ ih.1,congrArg Nat.succ ih.2⟩
theorem ArgsAt.get {K:PySem.W.Frag} {H:Hp} {O:List Addr} {vs:List V} {cs:List Cell} {fps:List (List Addr)} (h:ArgsAt K H O vs cs fps):∀ (i:Nat) (c:Cell),cs[i]? = some c->∃ v fp,vs[i]? = some v/\fps[i]? = some fp/\CellAt K H O v c fp:=by
 induction h with
 | nil=>intro i c e; simp at e
 | dat h _ ih=>
  intro i c e
  cases i with
  | zero=>simp at e; subst e; exact ⟨_,_,rfl,rfl,h⟩
  | succ i=>exact ih i c (by simpa using e)
 | oth _ _ h _ ih=>
  intro i c e
  cases i with
  | zero=>simp at e; subst e; exact ⟨_,_,rfl,rfl,h⟩
  | succ i=>exact ih i c (by simpa using e)
 | own h _ ih=>
  intro i c e
  cases i with
  | zero=>simp at e; subst e; exact ⟨_,_,rfl,rfl,⟨_,rfl,h⟩⟩
  | succ i=>exact ih i c (by simpa using e)
theorem ArgsAt.mono {K:PySem.W.Frag} {H:Hp} {O O':List Addr} {vs:List V} {cs:List Cell} {fps:List (List Addr)} (h:ArgsAt K H O vs cs fps) (s:Stp O H O' H):ArgsAt K H O' vs cs fps:=by
 induction h with
 | nil=>exact .nil
 | dat h _ ih=>exact .dat (DV.mono s.hid h) ih
 | oth h1 h2 h _ ih=>exact .oth h1 h2 (h.keep s (fun _ _=>rfl) (fun _ _ _ e=>e)) ih
 | own h _ ih=>exact .own (h.keep (fun _ _=>rfl) s.hid) ih
theorem OutsAt.mono {H:Hp} {O O':List Addr} {vs:List V} {cs:List Cell} {bs:List Bx} {fps:List (List Addr)} (h:OutsAt H O vs cs bs fps) (s:Stp O H O' H):OutsAt H O' vs cs bs fps:=by
 induction h with
 | nil=>exact .nil
 | skip h1 _ ih=>exact .skip h1 ih
 | own h _ ih=>exact .own (h.keep (fun _ _=>rfl) s.hid) ih
inductive OutS where
 | nx (ρ:DEnv) | rt (c:Cell) (ρ:DEnv) | bk (ρ:DEnv) | ct (ρ:DEnv) | ex (c:Str) (ρ:DEnv) | bad
noncomputable abbrev SM:=DEnv->OutS
noncomputable def wpS (E:Str->DEnv->Prop) (m:SM):DTS:=fun D ρ=>match m ρ with
 | .nx ρ'=>D.nx ρ'
 | .rt c ρ'=>D.rt c ρ'
 | .bk ρ'=>D.bk ρ'
 | .ct ρ'=>D.ct ρ'
 | .ex c ρ'=>E c ρ'
 | .bad=>False
@[simp] noncomputable def bH:List Cell->DEnv->Option (List Bx)
 | [],_=>some []
 | .own _ _ :: cs,some (.own true b) :: ρ=>(bH cs ρ).map (b :: ·)
 | .own _ _ :: _,_=>none
 | _ :: cs,_ :: ρ=>bH cs ρ
 | _ :: _,[]=>none
@[simp] noncomputable def fnM (n N:Nat) (m:SM):FM:=fun cs=>if cs.length=n then (match m (cs.map some ++ List.replicate (N - n) none) with
 | .nx ρ=>(match bH cs ρ with | some o=>.rt (.dat .none) o | none=>.bad)
 | .rt c ρ=>(match bH cs ρ with | some o=>.rt c o | none=>.bad)
 | .ex c ρ=>(match bH cs ρ with | some o=>.ex c o | none=>.bad)
 | _=>.bad) else .bad
section
variable {K:PySem.W.Frag} {F:Fx} {H:Hp} {σ:St} {ρ:DEnv} {W:List (List Addr)}
theorem jT {α:Type} {l:List α} {k:Nat} {x:α} {r:List α} (h:l.drop k=x :: r):l[k]? = some x/\l.drop (k + 1)=r:=by
 constructor
 ·rw [<-List.head?_drop,h]; rfl
 ·rw [<-List.drop_drop,h]; rfl
theorem mJ (st:DStW K F H σ ρ W):∀ (cs:List Cell) (vs:List V) (k:Nat) (outs:List Bx),vs.length=cs.length->(∀ (i:Nat) io b,cs[i]? = some (.own io b)->vs[i]? = some (.ref (F.I₀ (k + i))))->bH cs (ρ.drop k)=some outs->
  ∃ fps,OutsAt H (W.flatten ++ F.O₀) vs cs outs fps/\fps.flatten.Sublist (W.drop k).flatten
 | [],[],k,outs,_,_,e=>by cases e; exact ⟨[],.nil,by simp⟩
 | [],_ :: _,_,_,hl,_,_=>by cases hl
 | _ :: _,[],_,_,hl,_,_=>by cases hl
 | c :: cs,v :: vs,k,outs,hl,hI,e=>by
  have hl':vs.length=cs.length:=Nat.succ.inj hl
  have hI':∀ (i:Nat) io b,cs[i]? = some (.own io b)->vs[i]? = some (.ref (F.I₀ (k + 1 + i))):=fun i io b h=>by
   have:=hI (i + 1) io b (by simpa using h)
   rw [show k + 1 + i=k + (i + 1) by omega]
   simpa using this
  have sub1:(W.drop (k + 1)).flatten.Sublist (W.drop k).flatten:=by
   cases hw:W.drop k with
   | nil=>rw [show W.drop (k + 1)=[] from by rw [<-List.drop_drop,hw]; rfl]; exact List.Sublist.refl _
   | cons w r=>rw [(jT hw).2,List.flatten_cons]; exact List.sublist_append_right _ _
  cases hd:ρ.drop k with
  | nil=>
   rw [hd] at e
   cases c with
   | own io b=>cases e
   | dat d=>cases e
   | scr n=>cases e
   | exc n=>cases e
   | vw n=>cases e
  | cons x r=>
   obtain ⟨h1,h2⟩:=jT hd
   rw [hd] at e
   have nonown:(∀ io b,c ≠ .own io b)->bH cs r=some outs->∃ fps,OutsAt H (W.flatten ++ F.O₀) (v :: vs) (c :: cs) outs fps/\fps.flatten.Sublist (W.drop k).flatten:=fun hn he=>by
    obtain ⟨fps,o,s⟩:=mJ st cs vs (k + 1) outs hl' hI' (by rw [h2]; exact he)
    exact ⟨fps,.skip hn o,s.trans sub1⟩
   cases c with
   | dat d=>exact nonown (fun _ _ z=>by cases z) e
   | scr n=>exact nonown (fun _ _ z=>by cases z) e
   | exc n=>exact nonown (fun _ _ z=>by cases z) e
   | vw n=>exact nonown (fun _ _ z=>by cases z) e
   | own io b=>
    cases x with
    | none=>cases e
    | some x=>
     cases x with
     | dat d=>cases e
     | scr n=>cases e
     | exc n=>cases e
     | vw n=>cases e
     | own io' b'=>
      cases io' with
      | false=>cases e
      | true=>
       cases q:bH cs r with
       | none=>simp [bH,q] at e
       | some o'=>
        simp [bH,q] at e
        subst e
        obtain ⟨fps,o,s⟩:=mJ st cs vs (k + 1) o' hl' hI' (by rw [h2]; exact q)
        obtain ⟨u,fp,e1,e2,a,rfl,bx⟩:=st.at_ k _ h1
        have e3:=st.io k b' h1
        rw [e1] at e3
        have ea:a=F.I₀ k:=by cases e3; rfl
        have hv:=hI 0 io b rfl
        have hv':v=.ref a:=by rw [ea]; simpa using hv
        subst hv'
        refine ⟨fp :: fps,.own bx o,?_⟩
        cases hw:W.drop k with
        | nil=>rw [<-List.head?_drop,hw] at e2; cases e2
        | cons w wr=>
         obtain ⟨w1,w2⟩:=jT hw
         rw [e2] at w1
         cases w1
         rw [List.flatten_cons,List.flatten_cons]
         rw [w2] at s
         exact List.Sublist.append (List.Sublist.refl _) s
end
theorem kS {α:Type} (n:Nat):(List.replicate n ([]:List α)).flatten=[]:=by induction n with | zero=>rfl | succ n ih=>rw [List.replicate_succ,List.flatten_cons,ih]; rfl
noncomputable def f6 (N n:Nat) (cs:List Cell):DEnv:=cs.map some ++ List.replicate (N - n) none
section
variable {P:Program} {w:World} {K:PySem.W.Frag} {mg:Str->Option Value} {base:Heap} {x qual:Str} {st:Stmt} {f:Addr} {fd:FuncData} {N ps:List Str} {k:Nat} {m:SM}
noncomputable def mK (vs:List V) (i:Nat):Addr:=match vs[i]? with
 | some (.ref a)=>a
 | _=>0
theorem ub {H:Hp} {vs:List V} {cs:List Cell} {fps:List (List Addr)} {O₀:List Addr} (ha:ArgsAt K H (fps.flatten ++ O₀) vs cs fps) (nd:(fps.flatten ++ O₀).Nodup) (live:∀ a ∈ fps.flatten ++ O₀,∃ o,H a=some o/\Mv o) (hl:cs.length<=N.length) :
  DStW K ⟨H,fps.flatten,O₀,mK vs⟩ H (start N vs) (f6 N.length cs.length cs) (fps ++ List.replicate (N.length - cs.length) []):=by
 have fl:(fps ++ List.replicate (N.length - cs.length) ([]:List Addr)).flatten=fps.flatten:=by rw [List.flatten_append,kS,List.append_nil]
 obtain ⟨l1,l2⟩:=ha.len
 have get:∀ (i:Nat) c,(f6 N.length cs.length cs)[i]? = some (some c)->cs[i]? = some c:=fun i c e=>by
  unfold f6 at e
  by_cases h:i < cs.length
  ·rw [List.getElem?_append_left (by simpa using h),List.getElem?_map] at e
   obtain ⟨d,h1,h2⟩:=Option.map_eq_some_iff.mp e
   cases h2
   exact h1
  ·rw [List.getElem?_append_right (by simpa using Nat.le_of_not_lt h),List.getElem?_replicate] at e
   split at e <;> cases e
 have put:∀ (i:Nat) v,vs[i]? = some v->(start N vs)[i]? = some (some v):=fun i v e=>by
  unfold start
  rw [List.getElem?_append_left (by simpa using (List.getElem?_eq_some_iff.mp e).1),List.getElem?_map,e]
  rfl
 refine ⟨fun i c e=>?_,by rw [fl]; exact nd,fun _ _ _ h=>h,fun a h=>.inl (by rw [fl] at h; exact h),by rw [fl]; exact live,?_,?_,fun i b e=>?_⟩
 ·obtain ⟨v,fp,h1,h2,h3⟩:=ha.get i c (get i c e)
  exact ⟨v,fp,put i v h1,by rw [List.getElem?_append_left (List.getElem?_eq_some_iff.mp h2).1]; exact h2,by rw [fl]; exact h3⟩
 ·unfold f6 start
  rw [List.length_append,List.length_append,List.length_map,List.length_map,List.length_replicate,List.length_replicate,l1]
 ·unfold f6
  rw [List.length_append,List.length_append,List.length_map,List.length_replicate,List.length_replicate,l2]
 ·obtain ⟨v,fp,h1,h2,a,rfl,h3⟩:=ha.get i _ (get i _ e)
  rw [put i _ h1]
  show _=some (some (V.ref (mK vs i)))
  unfold mK
  rw [h1]
theorem ArgsAt.ios {H:Hp} {O:List Addr} {vs:List V} {cs:List Cell} {fps:List (List Addr)} (h:ArgsAt K H O vs cs fps):∀ (i:Nat) io b,cs[i]? = some (.own io b)->vs[i]? = some (.ref (mK vs (0 + i))):=fun i io b e=>by
 obtain ⟨v,fp,h1,_,a,rfl,_⟩:=h.get i _ e
 rw [Nat.zero_add]
 unfold mK
 rw [h1]
theorem bi (Fn:Fun K x qual st f fd) (S:FnScope N ps (ae st)) (hN:ps.length<=N.length)
  (der:∀ (cdv:Value) (A:Around) (outer:List Env) (s:Shared) (H:Hp) (E:XK) (F:Fx) (E':Str->DEnv->Prop),Room k (A.deeper (envOfC qual (ae st) s.heap.objs.size f cdv))->XOk (cxOf (CXM P w) P w K mg base N qual (ae st) f cdv A outer s H E) F E'->
   DSs (cxOf (CXM P w) P w K mg base N qual (ae st) f cdv A outer s H E) F (az st) (wpS E' m)):FnOk P w K mg base (CXM P w) (k + 1) f fd ps (spF K mg (fnM ps.length N.length m)):=by
 obtain ⟨oc,od,kV,doc,pm,an,cdv,ct,osl,rfl,lk,hcd⟩:=Fn.ex
 have hlen:∀ vs H Q E,spF K mg (fnM ps.length N.length m) vs H Q E->vs.length=ps.length:=fun vs H Q E ⟨cs,fps,O₀,ha,_,_,q⟩=>by
  rw [ha.len.1]
  unfold fnM at q
  by_cases h:cs.length=ps.length
  ·exact h
  ·rw [if_neg h] at q; exact q.elim
 refine Bc lk hcd S hlen fun A outer s H vs Q E hr hsp=>?_
 have hlv:=hlen vs H Q E hsp
 obtain ⟨cs,fps,O₀,ha,nd,live,q⟩:=hsp
 obtain ⟨l1,l2⟩:=ha.len
 have hlc:cs.length=ps.length:=by omega
 let F:Fx:=⟨H,fps.flatten,O₀,mK vs⟩
 have st0:=ub (N:=N) ha nd live (by omega)
 have fin:∀ {σ':St} {H':Hp} {ρ':DEnv} {O':List Addr} {fp:List Addr} {outs:List Bx},DSt K (F.plus fp) H' σ' ρ' O'->(∀ a ∈ fp,a ∈ F.A₀\/F.H₀ a=none)->bH cs ρ' = some outs->∃ fps',OutsAt H' (fps'.flatten ++ fp ++ O₀) vs cs outs fps'/\Beh H H' fps.flatten (fps'.flatten ++ fp) O₀/\Stp O' H' (fps'.flatten ++ fp ++ O₀) H':=by
  rintro σ' H' ρ' O' fp outs ⟨W,st',rfl⟩ hfp ho
  obtain ⟨fps',o,sb⟩:=mJ st' cs vs 0 outs l1 (fun i io b e=>ha.ios i io b e) ho
  have sb':fps'.flatten.Sublist W.flatten:=sb
  have sub:(fps'.flatten ++ fp ++ O₀).Sublist (W.flatten ++ (fp ++ O₀)):=by rw [List.append_assoc]; exact List.Sublist.append sb' (List.Sublist.refl _)
  have stp:Stp (W.flatten ++ (fp ++ O₀)) H' (fps'.flatten ++ fp ++ O₀) H':=dQ fun a h=>sub.subset h
  refine ⟨fps',o.mono stp,⟨st'.nd.sublist sub,fun a h=>st'.live a (sub.subset (Qaj _ h)),fun b o hb e=>st'.kept b o hb e,fun a h=>?_⟩,stp⟩
  rcases List.mem_append.mp h with h | h
  ·exact st'.new a (sb'.subset h)
  ·exact hfp a h
 have hfn:fnM ps.length N.length m cs=(match m (f6 N.length ps.length cs) with
  | .nx ρ=>(match bH cs ρ with | some o=>.rt (.dat .none) o | none=>.bad)
  | .rt c ρ=>(match bH cs ρ with | some o=>.rt c o | none=>.bad)
  | .ex c ρ=>(match bH cs ρ with | some o=>.ex c o | none=>.bad)
  | _=>.bad):=by unfold fnM f6; rw [if_pos hlc]
 rw [hfn] at q
 rw [hlc] at st0
 let E':Str->DEnv->Prop:=fun c ρ'=>∃ outs,bH cs ρ' = some outs/\∀ C H' fps',mg c=some C->OutsAt H' (fps'.flatten ++ O₀) vs cs outs fps'->Beh H H' fps.flatten fps'.flatten O₀->E C none H'
 refine ⟨_,der cdv A outer s H E F E' hr (zT fun c C ρ' σ' H' O' hm st' ⟨outs,ho,k⟩=>?_),?_⟩
 ·obtain ⟨fps',o,b,_⟩:=fin (fp:=[]) st' (fun a h=>by cases h) ho
  rw [List.append_nil] at o b
  exact k C H' fps' hm o b
 ·refine ⟨f6 N.length ps.length cs,_,⟨fun ρ'=>∃ outs,bH cs ρ' = some outs/\∀ H' fps',OutsAt H' (fps'.flatten ++ [] ++ O₀) vs cs outs fps'->Beh H H' fps.flatten (fps'.flatten ++ []) O₀->Q .non H',fun c ρ'=>∃ outs,bH cs ρ' = some outs/\∀ v H' fp fps',CellAt K H' (fps'.flatten ++ fp ++ O₀) v c fp->OutsAt H' (fps'.flatten ++ fp ++ O₀) vs cs outs fps'->Beh H H' fps.flatten (fps'.flatten ++ fp) O₀->Q v H',fun _=>False,fun _=>False⟩,⟨_,st0,rfl⟩,?_,?_⟩
  ·unfold wpS
   cases hm:m (f6 N.length ps.length cs) with
   | nx ρ'=>
    rw [hm] at q
    cases ho:bH cs ρ' with
    | none=>simp [ho] at q
    | some outs=>
     simp only [ho] at q
     exact ⟨outs,ho,fun H' fps' o b=>q .non H' [] fps' .non o b⟩
   | rt c ρ'=>
    rw [hm] at q
    cases ho:bH cs ρ' with
    | none=>simp [ho] at q
    | some outs=>
     simp only [ho] at q
     exact ⟨outs,ho,q⟩
   | ex c ρ'=>
    rw [hm] at q
    cases ho:bH cs ρ' with
    | none=>simp [ho] at q
    | some outs=>
     simp only [ho] at q
     exact ⟨outs,ho,q⟩
   | bk ρ'=>rw [hm] at q; exact q
   | ct ρ'=>rw [hm] at q; exact q
   | bad=>rw [hm] at q; exact q
  ·refine ⟨fun σ' H' ρ' O' st' s' ⟨outs,ho,k⟩=>?_,fun v σ' H' c ρ' O' fp r s' ⟨outs,ho,k⟩=>?_,fun _ _ _ _ _ _ z=>z.elim,fun _ _ _ _ _ _ z=>z.elim⟩
   ·obtain ⟨fps',o,b,_⟩:=fin (fp:=[]) st' (fun a h=>by cases h) ho
    exact k H' fps' o b
   ·obtain ⟨fps',o,b,stp⟩:=fin r.st r.new ho
    exact k v H' fp fps' (r.at_.keep stp (fun _ _=>rfl) (fun _ _ _ e=>e)) o b
end
inductive AX where
 | d (x:PyData) | s (j:Nat)
inductive AxAt (σ:St) (G:Hp):List V->List AX->Prop where
 | nil:AxAt σ G [] []
 | d {v:V} {x:PyData} {vs:List V} {as:List AX}:DV G v x->AxAt σ G vs as->AxAt σ G (v :: vs) (.d x :: as)
 | s {v:V} {j:Nat} {vs:List V} {as:List AX}:σ[j]? = some (some v)->AxAt σ G vs as->AxAt σ G (v :: vs) (.s j :: as)
noncomputable abbrev DTX:=DEnv->(List AX->DEnv->Prop)->Prop
noncomputable def MnX (t:DTX):Prop:=∀ ρ Q Q',(∀ d ρ',Q d ρ'->Q' d ρ')->t ρ Q->t ρ Q'
noncomputable def rdX (K:PySem.W.Frag) (F:Fx) (t:DTX):TA:=fun σ H Q=>∃ ρ O,DSt K F H σ ρ O/\t ρ fun as ρ'=>∀ vs H' O',DSt K F H' σ ρ' O'->Stp O H O' H'->AxAt σ (hide O' H') vs as->Q vs H'
structure DX (X:Cx) (F:Fx) (es:List Expr) (t:DTX):Prop where
 mn:MnX t
 pa:PA X es (rdX X.K F t)
section
variable {X:Cx} {F:Fx} {e:Expr} {es:List Expr} {te:DT} {tX:DTX} {x:Str} {p:Pos} {j:Nat}
noncomputable def xNil:DTX:=fun ρ Q=>Q [] ρ
noncomputable def xVal (te:DT) (t:DTX):DTX:=fun ρ Q=>te ρ fun d ρ1=>t ρ1 fun as ρ2=>Q (.d d :: as) ρ2
noncomputable def Br (j:Nat) (t:DTX):DTX:=fun ρ Q=>(∃ c,ρ[j]? = some (some c))/\t ρ fun as ρ2=>Q (.s j :: as) ρ2
theorem z7:DX X F [] xNil:=⟨fun _ _ _ k q=>k _ _ q,fW.imp fun σ H Q ⟨ρ,O,st,q⟩=>q [] H O st .refl .nil⟩
theorem z8 (ha:DE X F e te) (hr:DX X F es tX) (hs:starEach (e :: es) X.env=(false,eval e X.env) :: starEach es X.env:=by rfl):DX X F (e :: es) (xVal te tX):=
 ⟨fun _ _ _ k q=>ha.mn _ _ _ (fun _ _ q1=>hr.mn _ _ _ (fun _ _ q2=>k _ _ q2) q1) q,(ee ha.pe hr.pa hs).imp fun σ H Q ⟨ρ,O,st,q⟩=>
  ⟨ρ,O,st,ha.mn _ _ _ (fun d ρ1 q1 v H1 O1 st1 s1 d1=>⟨ρ1,O1,st1,hr.mn _ _ _ (fun as ρ2 q2 vs H2 O2 st2 s2 d2=>q2 (v :: vs) H2 O2 st2 (s1.trans s2) (.d (DV.mono s2.hid d1) d2)) q1⟩) q⟩⟩
theorem xA (hv:PE X (.Name x p) (fV j)) (hr:DX X F es tX) (hs:starEach (.Name x p :: es) X.env=(false,eval (.Name x p) X.env) :: starEach es X.env:=by rfl):DX X F (.Name x p :: es) (Br j tX):=
 ⟨fun _ _ _ k ⟨h,q⟩=>⟨h,hr.mn _ _ _ (fun _ _ q2=>k _ _ q2) q⟩,(ee hv hr.pa hs).imp fun σ H Q ⟨ρ,O,st,⟨c,hc⟩,q⟩=>by
  obtain ⟨W,h,rfl⟩:=id st
  obtain ⟨v,fp,h1,h2,h3⟩:=h.at_ j c hc
  exact ⟨v,h1,ρ,_,st,hr.mn _ _ _ (fun as ρ2 q2 vs H2 O2 st2 s2 d2=>q2 (v :: vs) H2 O2 st2 s2 (.s h1 d2)) q⟩⟩
end
@[simp] noncomputable def cQ (ρ:DEnv):List AX->Option (List Cell × List (Nat × Bool))
 | []=>some ([],[])
 | .d x :: as=>(match cQ ρ as with | some (cs,js)=>some (.dat x :: cs,js) | none=>none)
 | .s j :: as=>(match cQ ρ as with
  | some (cs,js)=>(match ρ[j]? with
   | some (some (.own io b))=>if js.any (fun p=>p.1 == j) then none else some (.own true b :: cs,(j,io) :: js)
   | some (some c)=>some (c :: cs,js)
   | _=>none)
  | none=>none)
@[simp] noncomputable def clr:List (Nat × Bool)->DEnv->DEnv
 | [],ρ=>ρ
 | (j,_) :: r,ρ=>(clr r ρ).set j none
@[simp] noncomputable def back:List (Nat × Bool)->List Bx->DEnv->DEnv
 | (j,io) :: r,b :: bs,ρ=>back r bs (ρ.set j (some (.own io b)))
 | _,_,ρ=>ρ
theorem qQ {js:List (Nat × Bool)} {ρ:DEnv}:(clr js ρ).length=ρ.length:=by
 induction js with
 | nil=>rfl
 | cons p r ih=>obtain ⟨j,io⟩:=p; rw [clr,List.length_set,ih]
theorem xB {js:List (Nat × Bool)} {ρ:DEnv} {i:Nat} (h:∀ p ∈ js,p.1 ≠ i):(clr js ρ)[i]? = ρ[i]?:=by
 induction js with
 | nil=>rfl
 | cons p r ih=>
  obtain ⟨j,io⟩:=p
  rw [clr,List.getElem?_set_ne (h (j,io) List.mem_cons_self),ih fun q hq=>h q (Qak _ hq)]
inductive JsAt (σ:St) (F:Fx) (n:Nat):List V->List Cell->List (Nat × Bool)->Prop where
 | nil:JsAt σ F n [] [] []
 | skip {v:V} {c:Cell} {vs:List V} {cs:List Cell} {js:List (Nat × Bool)}:(∀ io b,c ≠ .own io b)->JsAt σ F n vs cs js->JsAt σ F n (v :: vs) (c :: cs) js
 | own {a:Addr} {io:Bool} {b:Bx} {j:Nat} {vs:List V} {cs:List Cell} {js:List (Nat × Bool)}:σ[j]? = some (some (.ref a))->(io=true->a=F.I₀ j)->j < n->JsAt σ F n vs cs js->JsAt σ F n (.ref a :: vs) (.own true b :: cs) ((j,io) :: js)
section
variable {K:PySem.W.Frag} {F:Fx} {H H':Hp} {σ:St} {ρ:DEnv} {O O':List Addr}
theorem kT (st:DSt K F H σ ρ O):∀ (as:List AX) (vs:List V) (cs:List Cell) (js:List (Nat × Bool)),cQ ρ as=some (cs,js)->AxAt σ (hide O H) vs as->
  ∃ fps O',DSt K (F.plus fps.flatten) H σ (clr js ρ) O'/\ArgsAt K H O' vs cs fps/\Stp O H O' H/\Stp O' H O H/\(∀ a ∈ fps.flatten,a ∈ F.A₀\/F.H₀ a=none)/\JsAt σ F ρ.length vs cs js
 | [],vs,cs,js,e,h=>by
  cases e
  cases h
  refine ⟨[],O,st,.nil,.refl,.refl,?_,.nil⟩
  intro a h
  cases h
 | .d x :: as,vs,cs,js,e,h=>by
  cases h with
  | d hv hr=>
   unfold cQ at e
   cases q:cQ ρ as with
   | none=>rw [q] at e; cases e
   | some p=>
    obtain ⟨cs',js'⟩:=p
    rw [q] at e
    simp only [Option.some.injEq,Prod.mk.injEq] at e
    obtain ⟨e1,e2⟩:=e
    obtain ⟨fps,O',st',ar,s1,s2,nw,ja⟩:=kT st as _ cs' js' q hr
    subst e1 e2
    exact ⟨[] :: fps,O',st',.dat (DV.mono s1.hid hv) ar,s1,s2,nw,.skip (fun _ _ z=>by cases z) ja⟩
 | .s j :: as,vs,cs,js,e,h=>by
  cases h with
  | @s v _ vs _ hv hr=>
   unfold cQ at e
   cases q:cQ ρ as with
   | none=>rw [q] at e; cases e
   | some p=>
    obtain ⟨cs',js'⟩:=p
    rw [q] at e
    obtain ⟨fps,O',st',ar,s1,s2,nw,ja⟩:=kT st as _ cs' js' q hr
    cases hc:ρ[j]? with
    | none=>rw [hc] at e; cases e
    | some oc=>
     cases oc with
     | none=>rw [hc] at e; cases e
     | some c=>
      rw [hc] at e
      obtain ⟨W,stw,hOW⟩:=id st
      obtain ⟨v',fp',h1,h2,h3⟩:=stw.at_ j c hc
      rw [hv] at h1
      have ev:v' = v:=by cases h1; rfl
      subst ev
      rw [<-hOW] at h3
      have other:(∀ io b,c ≠ .own io b)->∃ fps O',DSt K (F.plus fps.flatten) H σ (clr js' ρ) O'/\ArgsAt K H O' (v' :: vs) (c :: cs') fps/\Stp O H O' H/\Stp O' H O H/\(∀ a ∈ fps.flatten,a ∈ F.A₀\/F.H₀ a=none)/\JsAt σ F ρ.length (v' :: vs) (c :: cs') js':=fun hn=>by
       refine ⟨[] :: fps,O',st',?_,s1,s2,nw,.skip hn ja⟩
       cases c with
       | dat d=>exact .dat (DV.mono s1.hid h3) ar
       | own io b=>exact absurd rfl (hn io b)
       | scr ns=>exact .oth (fun _ z=>by cases z) (fun _ _ z=>by cases z) (CellAt.keep (c:=.scr ns) (fp:=[]) h3 s1 (fun _ _=>rfl) (fun _ _ _ e=>e)) ar
       | exc n=>exact .oth (fun _ z=>by cases z) (fun _ _ z=>by cases z) (CellAt.keep (c:=.exc n) (fp:=[]) h3 s1 (fun _ _=>rfl) (fun _ _ _ e=>e)) ar
       | vw n=>exact .oth (fun _ z=>by cases z) (fun _ _ z=>by cases z) (CellAt.keep (c:=.vw n) (fp:=[]) h3 s1 (fun _ _=>rfl) (fun _ _ _ e=>e)) ar
      cases c with
      | dat d=>
       simp only [Option.some.injEq,Prod.mk.injEq] at e
       rw [<-e.1,<-e.2]; exact other (fun _ _ z=>by cases z)
      | scr ns=>
       simp only [Option.some.injEq,Prod.mk.injEq] at e
       rw [<-e.1,<-e.2]; exact other (fun _ _ z=>by cases z)
      | exc n=>
       simp only [Option.some.injEq,Prod.mk.injEq] at e
       rw [<-e.1,<-e.2]; exact other (fun _ _ z=>by cases z)
      | vw n=>
       simp only [Option.some.injEq,Prod.mk.injEq] at e
       rw [<-e.1,<-e.2]; exact other (fun _ _ z=>by cases z)
      | own io b=>
       by_cases hj:js'.any (fun p=>p.1 == j)=true
       ·simp only [if_pos hj] at e; cases e
       ·simp only [if_neg hj,Option.some.injEq,Prod.mk.injEq] at e
        rw [<-e.1,<-e.2]
        have hjs:∀ p ∈ js',p.1 ≠ j:=fun p hp z=>hj (List.any_eq_true.mpr ⟨p,hp,by simp [z]⟩)
        obtain ⟨a,fp,O2,t1,t2,t3,t4,t5,t6,t7⟩:=st'.take (i:=j) (io:=io) (b:=b) (by rw [xB hjs]; exact hc)
        rw [hv] at t1
        have ev:v' = .ref a:=by cases t1; rfl
        subst ev
        rw [Fx.plus_plus] at t2
        refine ⟨fp :: fps,O2,t2,.own t3 (ar.mono t4),s1.trans t4,t5.trans s2,fun x hx=>?_,.own hv t7 (List.getElem?_eq_some_iff.mp hc).1 ja⟩
        rcases List.mem_append.mp hx with hx | hx
        ·exact t6 x hx
        ·exact nw x hx
theorem o7 {fp:List Addr} {n:Nat} {vs:List V} {cs:List Cell} {js:List (Nat × Bool)} (ja:JsAt σ F n vs cs js):∀ {outs:List Bx} {fps:List (List Addr)} {ρ:DEnv} {O:List Addr},ρ.length=n->DSt K (F.plus (fps.flatten ++ fp)) H σ ρ O->OutsAt H O vs cs outs fps->(∀ a ∈ fps.flatten,a ∈ F.A₀\/F.H₀ a=none)->
  ∃ O',DSt K (F.plus fp) H σ (back js outs ρ) O'/\Stp O H O' H:=by
 induction ja with
 | nil=>
  intro outs fps ρ O hn st oa nw
  cases oa
  exact ⟨O,st,.refl⟩
 | skip hn' _ ih=>
  intro outs fps ρ O hn st oa nw
  cases oa with
  | skip _ oa=>exact ih hn st oa nw
  | own _ _=>exact absurd rfl (hn' _ _)
 | @own a io b j vs cs js h1 h2 h3 ja ih=>
  intro outs fps ρ O hn st oa nw
  cases oa with
  | skip hn' _=>exact absurd rfl (hn' _ _)
  | @own _ _ _ b' f1 _ _ bs fr hb oa=>
   have st':DSt K ((F.plus (fr.flatten ++ fp)).plus f1) H σ ρ O:=by rw [Fx.plus_plus,<-List.append_assoc]; exact st
   obtain ⟨O1,st1,s1⟩:=DSt.put1 (io:=true) (c:=.own io b') (v:=.ref a) (i:=j) st' ⟨a,rfl,hb⟩ (fun x hx=>nw x (by rw [List.flatten_cons]; exact Qaj _ hx)) (by rw [hn]; exact h3) (fun b z=>by cases z; rw [h2 rfl]; rfl)
   have eσ:σ.set j (some (.ref a))=σ:=by
    apply List.ext_getElem?
    intro i
    by_cases hj:i=j
    ·subst hj; rw [List.getElem?_set_self (List.getElem?_eq_some_iff.mp h1).1,h1]
    ·rw [List.getElem?_set_ne (Ne.symm hj)]
   rw [eσ] at st1
   obtain ⟨O2,st2,s2⟩:=ih (by rw [List.length_set]; exact hn) st1 (oa.mono s1) (fun x hx=>nw x (by rw [List.flatten_cons]; exact Qai _ hx))
   exact ⟨O2,st2,s1.trans s2⟩
end
noncomputable def gR (f:FM) (E:Str->DEnv->Prop) (Q:Cell->DEnv->Prop) (as:List AX) (ρ:DEnv):Prop:=match cQ ρ as with
 | some (cs,js)=>(match f cs with
  | .rt c outs=>Q c (back js outs (clr js ρ))
  | .ex c outs=>E c (back js outs (clr js ρ))
  | .bad=>False)
 | none=>False
noncomputable def wD (f:FM) (E:Str->DEnv->Prop) (t:DTX):DTO:=fun ρ Q=>t ρ fun as ρ1=>gR f E Q as ρ1
section
variable {X:Cx} {F:Fx} {e:Expr} {es:List Expr} {tX:DTX} {E:Str->DEnv->Prop} {pos p:Pos} {x:Str} {f:FM} {k:Nat} {g:Addr} {fd:FuncData} {ps:List Str}
theorem uc {Q Q':Cell->DEnv->Prop} {as:List AX} {ρ:DEnv} (h:∀ c ρ',Q c ρ'->Q' c ρ') (q:gR f E Q as ρ):gR f E Q' as ρ:=by
 unfold gR at q ⊢
 split
 ·rename_i cs js e
  rw [e] at q
  simp only at q
  split
  ·rename_i e2; rw [e2] at q; exact h _ _ q
  ·rename_i e2; rw [e2] at q; exact q
  ·rename_i e2; rw [e2] at q; exact q
 ·rename_i e; rw [e] at q; exact q
theorem xD {pins:List (Addr × Obj)} {σ:St} {H:Hp} {s:Shared} {Q:VK} {us:List Value} {vs:List V} {as:List AX} {ρ:DEnv} {O:List Addr} {QC:Cell->DEnv->Prop} (hx:XOk X F E) (G:FnOk X.prog X.w X.K X.mg X.base (CXM X.prog X.w) k g fd ps (spF X.K X.mg f)) (hr:Room k X.A) (hb:Binds X.K fd ps [])
  (I:Inv X pins σ H s) (r:Vals vs us) (st:DSt X.K F H σ ρ O) (ax:AxAt σ (hide O H) vs as) (q:gR f E QC as ρ) (hQ:∀ c ρ',QC c ρ'->∀ v H' O' fp,Res X.K F H' σ ρ' O' v c fp->Stp O H O' H'->Q v H') :
  wpAny (model X.prog X.w) X.A (call (.ref g) us) (EP X pins σ Q) X.xe s:=by
 unfold gR at q
 cases hc:cQ ρ as with
 | none=>rw [hc] at q; exact q.elim
 | some p=>
  obtain ⟨cs,js⟩:=p
  rw [hc] at q
  simp only at q
  obtain ⟨fps,O2,st2,ar,s1,s1',nw,ja⟩:=kT st as vs cs js hc ax
  obtain ⟨W,stw,hO2⟩:=id st2
  have ndO:(W.flatten ++ (fps.flatten ++ F.O₀)).Nodup:=stw.nd
  have memO:∀ a,a ∈ O2 ↔ a ∈ fps.flatten ++ (W.flatten ++ F.O₀):=fun a=>by
   rw [hO2]
   show a ∈ W.flatten ++ (fps.flatten ++ F.O₀) ↔ _
   simp only [List.mem_append]
   constructor
   ·rintro (h | h | h) <;> simp [h]
   ·rintro (h | h | h) <;> simp [h]
  have perm:(fps.flatten ++ (W.flatten ++ F.O₀)).Perm (W.flatten ++ (fps.flatten ++ F.O₀)):=by
   rw [<-List.append_assoc,<-List.append_assoc]
   exact List.Perm.append_right _ List.perm_append_comm
  have nd1:(fps.flatten ++ (W.flatten ++ F.O₀)).Nodup:=perm.nodup_iff.mpr ndO
  have stE:Stp O2 H (fps.flatten ++ (W.flatten ++ F.O₀)) H:=dQ fun a h=>(memO a).mpr h
  have back2:∀ (H':Hp) (L':List Addr) (a:Addr),(a ∈ L' ++ (W.flatten ++ F.O₀))->a ∈ L'\/(a ∈ O2/\a ∉ fps.flatten):=fun H' L' a h=>by
   rcases List.mem_append.mp h with h | h
   ·exact .inl h
   ·refine .inr ⟨(memO a).mpr (Qai _ h),fun z=>?_⟩
    exact (List.nodup_append.mp nd1).2.2 a z a h rfl
  have swapped:∀ (H':Hp) (L':List Addr),Beh H H' fps.flatten L' (W.flatten ++ F.O₀)->∃ O3,DSt X.K (F.plus L') H' σ (clr js ρ) O3/\Stp O2 H O3 H'/\∀ a,a ∈ O3 ↔ a ∈ L' ++ (W.flatten ++ F.O₀):=fun H' L' bh=>by
   obtain ⟨O3,t1,t2,t3,t4,t5⟩:=st2.swap (H':=H') (L':=L') bh.keep (List.nodup_append.mp bh.nd).1 bh.new nw bh.live
   refine ⟨O3,t1,t2,fun a=>⟨fun h=>?_,fun h=>?_⟩⟩
   ·rcases t4 a h with z | ⟨z1,z2⟩
    ·exact Qaj _ z
    ·rcases List.mem_append.mp ((memO a).mp z1) with z | z
     ·exact absurd z z2
     ·exact Qai _ z
   ·rcases back2 H' L' a h with z | ⟨z1,z2⟩
    ·exact t3 a z
    ·exact t5 a z1 z2
  have r2:Vals (vs ++ []) (us ++ []):=by rw [List.append_nil,List.append_nil]; exact r
  let EX:XK:=fun C _ H'=>∃ c ρ' O',X.mg c=some C/\DSt X.K F H' σ ρ' O'/\E c ρ'
  have sp:spF X.K X.mg f vs H Q EX:=by
   refine ⟨cs,fps,W.flatten ++ F.O₀,ar.mono stE,nd1,fun a h=>?_,?_⟩
   ·exact stw.live a (by have:=(memO a).mpr h; rw [hO2] at this; exact this)
   ·cases hf:f cs with
    | bad=>rw [hf] at q; exact q
    | rt c outs=>
     rw [hf] at q
     simp only at q ⊢
     intro v H' fp fps' hca hou bh
     obtain ⟨O3,t1,t2,t3⟩:=swapped H' (fps'.flatten ++ fp) bh
     have eq3:Stp (fps'.flatten ++ fp ++ (W.flatten ++ F.O₀)) H' O3 H':=dQ fun a h=>(t3 a).mp h
     have nwo:∀ a ∈ fps'.flatten ++ fp,a ∈ F.A₀\/F.H₀ a=none:=fun a h=>by
      rcases bh.new a h with z | z
      ·exact nw a z
      ·by_cases hA:a ∈ F.A₀
       ·exact .inl hA
       ·refine .inr ?_
        cases e:F.H₀ a with
        | none=>rfl
        | some o=>have:=stw.kept a o hA e; rw [z] at this; cases this
     have lj:(clr js ρ).length=ρ.length:=qQ
     obtain ⟨O4,u1,u2⟩:=o7 (fp:=fp) ja lj t1 (hou.mono eq3) fun a h=>nwo a (Qaj _ h)
     exact hQ c _ q v H' O4 fp ⟨u1,hca.keep (eq3.trans u2) (fun _ _=>rfl) (fun _ _ _ e=>e),fun a h=>nwo a (Qai _ h)⟩ (s1.trans (t2.trans u2))
    | ex c outs=>
     rw [hf] at q
     simp only at q ⊢
     intro C H' fps' hm hou bh
     obtain ⟨O3,t1,t2,t3⟩:=swapped H' fps'.flatten bh
     have eq3:Stp (fps'.flatten ++ (W.flatten ++ F.O₀)) H' O3 H':=dQ fun a h=>(t3 a).mp h
     have nwo:∀ a ∈ fps'.flatten,a ∈ F.A₀\/F.H₀ a=none:=fun a h=>by
      rcases bh.new a h with z | z
      ·exact nw a z
      ·by_cases hA:a ∈ F.A₀
       ·exact .inl hA
       ·refine .inr ?_
        cases e:F.H₀ a with
        | none=>rfl
        | some o=>have:=stw.kept a o hA e; rw [z] at this; cases this
     have lj:(clr js ρ).length=ρ.length:=qQ
     obtain ⟨O4,u1,u2⟩:=o7 (fp:=[]) ja lj (by rw [List.append_nil]; exact t1) (hou.mono eq3) nwo
     exact ⟨c,_,O4,hm,u1,q⟩
  have hl:(us ++ []).length=ps.length:=by rw [List.append_nil,<-r.length]; exact G.len _ _ _ _ sp
  refine wpAny_call (codeAny_mono (G.run X.A X.stack s H ⟨us,[]⟩ us vs Q EX hr I.env0 (by have:=hb s us I.kIn hl; rw [List.append_nil] at this; exact this) r sp) fun r s' hq=>?_)
  cases r with
  | error e=>
   obtain ⟨a,C,H',e1,I',cv,ex,c,ρ',O',hm,st',hE⟩:=I.flies hq
   exact hx pins σ H' s' e c ρ' O' ⟨I',a,C,s.heap,_,e1,cv,ex,hm⟩ st' hE
  | ok fl=>
   cases fl with
   | ret u=>exact I.after hq
   | next=>exact False.elim hq
   | brk=>exact False.elim hq
   | cont=>exact False.elim hq
theorem xE (hx:XOk X F E) (G:FnOk X.prog X.w X.K X.mg X.base (CXM X.prog X.w) k g fd ps (spF X.K X.mg f)) (hr:Room k X.A) (hg:Gl X x) (hm:X.mg x=some (.ref g)) (hk:PySem.W.keepIn X.K (.ref g)=true) (hb:Binds X.K fd ps [])
  (ha:DX X F (e :: es) tX) (hdb:(x == ("__debug__":Str))=false:=by decide) (he:starEach (e :: es) X.env=(false,eval e X.env) :: starEach es X.env:=by rfl) (hpl:(backTo pos (starEach es X.env)).any (·.1)=false:=by rfl) :
  DO X F (.Call (.Name x p) (e :: es) [] pos) (wD f E tX):=by
 refine ⟨fun ρ Q Q' k q=>ha.mn _ _ _ (fun as ρ1 q1=>uc k q1) q,fun pins s σ H Q I ⟨ρ,O,st,q⟩=>?_⟩
 refine wpAny_Call_Name_kw (mC I hg hm ?_ hdb)
 refine PySem.W.callWith_K (h₀:=X.base) I.ok.mod.kin hk (thn (ha.pa pos pins s σ H (fun vs H1=>∃ as ρ1 O1,DSt X.K F H1 σ ρ1 O1/\Stp O H O1 H1/\AxAt σ (hide O1 H1) vs as/\gR f E (fun c ρ'=>∀ v H' O' fp,Res X.K F H' σ ρ' O' v c fp->Stp O H O' H'->Q v H') as ρ1) I ⟨ρ,O,st,ha.mn _ _ _ (fun as ρ1 q1 vs H1 O1 st1 s1 ax=>⟨as,ρ1,O1,st1,s1,ax,q1⟩) q⟩) fun us s1 ⟨vs,H1,I1,r,as,ρ1,O1,st1,s01,ax,q1⟩=>⟨I1.kIn,?_⟩) he hpl
 exact xD hx G hr hb I1 r st1 ax q1 fun c ρ' h v H' O' fp res s2=>h v H' O' fp res (s01.trans s2)
end
noncomputable def OOk (H:Hp) (O:List Addr):Prop:=∀ a ∈ O,∃ o,H a=some o/\Mv o
theorem OOk.nofree {H:Hp} {O:List Addr} (h:OOk H O):∀ p,H p=none->p ∉ O:=fun p hp z=>by obtain ⟨o,e,_⟩:=h p z; rw [hp] at e; cases e
theorem DSt.live {K:PySem.W.Frag} {F:Fx} {H:Hp} {σ:St} {ρ:DEnv} {O:List Addr} (st:DSt K F H σ ρ O):OOk H O:=by
 obtain ⟨W,h,rfl⟩:=st
 exact h.live
noncomputable abbrev DTI:=DEnv->(List PyData->DEnv->Prop)->Prop
noncomputable def Wk (O:List Addr) (H:Hp) (J:It) (its:List PyData):Prop:=∀ O' H',Stp O H O' H'->OOk H' O'->
 (∀ i d,its[i]? = some d->J.go i H'/\∀ x H'',J.yld i H' x H''->Same H' H''/\DV (hide O' H'') x d)/\J.stop its.length H'
noncomputable def rdI (K:PySem.W.Frag) (F:Fx) (s:DTI):TI:=fun σ H R=>∃ ρ O,DSt K F H σ ρ O/\s ρ fun its ρ'=>∀ J H' O',DSt K F H' σ ρ' O'->Stp O H O' H'->Wk O' H' J its->R J H'
structure DI (X:Cx) (F:Fx) (tg iter:Expr) (s:DTI):Prop where
 mn:∀ ρ Q Q',(∀ d ρ',Q d ρ'->Q' d ρ')->s ρ Q->s ρ Q'
 pi:PI X tg iter (rdI X.K F s)
theorem _root_.L2.PI.imp {X:Cx} {tg e:Expr} {t t':TI} (h:PI X tg e t) (k:∀ σ H Q,t' σ H Q->t σ H Q):PI X tg e t':=fun pins s σ H Q I q=>h pins s σ H Q I (k σ H Q q)
section
variable {X:Cx} {F:Fx} {tg e a b:Expr} {te:DT} {tA:DTA} {pos p:Pos}
noncomputable def iL (te:DT):DTI:=fun ρ Q=>te ρ fun d ρ'=>∃ ds,d=.list ds/\Q ds ρ'
noncomputable def iT (te:DT):DTI:=fun ρ Q=>te ρ fun d ρ'=>∃ ds,d=.tuple ds/\Q ds ρ'
theorem xF {K:PySem.W.Frag} {O:List Addr} {H:Hp} {a:Addr} {xs:List V} {ds:List PyData} (ha:hide O H a=some (.lst xs)) (hd:DVs (hide O H) xs ds):Wk O H (Itl K a) ds:=fun O' H' s ok=>by
 obtain ⟨h1,n1⟩:=aO ha
 have h2:=s.keep a _ n1 h1
 have hd':=DVs.mono s.hid hd
 refine ⟨fun i d e=>?_,⟨xs,.of h2,by rw [hd.length]; exact Qae _⟩⟩
 obtain ⟨v,hv,dv⟩:=hd'.get e
 refine ⟨⟨xs,v,.of h2,hv⟩,fun x H'' ⟨e1,e2⟩=>?_⟩
 subst e1
 have:=e2 xs (.of h2)
 rw [hv] at this
 cases this
 exact ⟨fun _ _ h=>h,dv⟩
theorem z9 {K:PySem.W.Frag} {O:List Addr} {H:Hp} {a:Addr} {xs:List V} {ds:List PyData} (ha:hide O H a=some (.tup xs)) (hd:DVs (hide O H) xs ds):Wk O H (Itt K a) ds:=fun O' H' s ok=>by
 obtain ⟨h1,n1⟩:=aO ha
 have h2:=s.keep a _ n1 h1
 have hd':=DVs.mono s.hid hd
 refine ⟨fun i d e=>?_,⟨xs,.of h2,by rw [hd.length]; exact Qae _⟩⟩
 obtain ⟨v,hv,dv⟩:=hd'.get e
 refine ⟨⟨xs,v,.of h2,hv⟩,fun x H'' ⟨e1,e2⟩=>?_⟩
 subst e1
 have:=e2 xs (.of h2)
 rw [hv] at this
 cases this
 exact ⟨fun _ _ h=>h,dv⟩
theorem xG (h:DE X F e te):DI X F tg e (iL te):=
 ⟨fun _ _ _ k q=>h.mn _ _ _ (fun _ _ ⟨ds,e,q⟩=>⟨ds,e,k _ _ q⟩) q,(w6 h.pe).imp fun σ H R ⟨ρ,O,st,q⟩=>
  ⟨ρ,O,st,h.mn _ _ _ (fun d ρ1 ⟨ds,e,q1⟩ v H1 O1 st1 s1 d1=>by
   subst e
   obtain ⟨a,xs,rfl,ha,hd⟩:=d1.lst_inv
   exact ⟨a,rfl,⟨xs,.of (aO ha).1⟩,q1 _ H1 O1 st1 s1 (xF ha hd)⟩) q⟩⟩
theorem Aa (h:DE X F e te):DI X F tg e (iT te):=
 ⟨fun _ _ _ k q=>h.mn _ _ _ (fun _ _ ⟨ds,e,q⟩=>⟨ds,e,k _ _ q⟩) q,(zb h.pe).imp fun σ H R ⟨ρ,O,st,q⟩=>
  ⟨ρ,O,st,h.mn _ _ _ (fun d ρ1 ⟨ds,e,q1⟩ v H1 O1 st1 s1 d1=>by
   subst e
   obtain ⟨a,xs,rfl,ha,hd⟩:=d1.tup_inv
   exact ⟨a,rfl,⟨xs,.of (aO ha).1⟩,q1 _ H1 O1 st1 s1 (z9 ha hd)⟩) q⟩⟩
noncomputable def intsFrom (lo:Int) (n:Nat):List PyData:=(List.range n).map fun (i:Nat)=>PyData.int (lo + i)
theorem ez (lo:Int) (n:Nat):(intsFrom lo n).length=n:=by unfold intsFrom; rw [List.length_map,List.length_range]
theorem o8 {O:List Addr} {H:Hp} {lo:Int} {n:Nat}:Wk O H (Itr lo n) (intsFrom lo n):=fun O' H' s ok=>by
 refine ⟨fun i d e=>?_,by show n<=(intsFrom lo n).length; rw [ez]; exact Qae _⟩
 unfold intsFrom at e
 rw [List.getElem?_map] at e
 obtain ⟨j,e1,e2⟩:=Option.map_eq_some_iff.mp e
 obtain ⟨hlt,e3⟩:=List.getElem?_eq_some_iff.mp e1
 rw [List.length_range] at hlt
 rw [List.getElem_range] at e3
 subst e3 e2
 exact ⟨hlt,fun x H'' ⟨q1,q2⟩=>by subst q1 q2; exact ⟨fun _ _ h=>h,.int _⟩⟩
noncomputable def iR1 (t:DTA):DTI:=fun ρ Q=>t ρ fun ds ρ'=>∃ j:Int,ds=[.int j]/\-(2 ^ 62)<=j/\j < 2 ^ 62/\Q (intsFrom 0 j.toNat) ρ'
theorem jU (hg:Gl X "range") (hm:X.mg "range" = none) (ha:DA X F [a] tA) (hs:starEach [a] X.env=[(false,eval a X.env)]:=by rfl):DI X F tg (.Call (.Name "range" p) [a] [] pos) (iR1 tA):=
 ⟨fun _ _ _ k q=>ha.mn _ _ _ (fun _ _ ⟨j,e,h1,h2,q⟩=>⟨j,e,h1,h2,k _ _ q⟩) q,(tD hg hm ha.pa hs).imp fun σ H R ⟨ρ,O,st,q⟩=>
  ⟨ρ,O,st,ha.mn _ _ _ (fun ds ρ1 ⟨j,e,h1,h2,q1⟩ vs H1 O1 st1 s1 d1=>by
   subst e
   cases d1 with
   | cons d r=>
    cases r
    obtain rfl:=d.int_inv
    exact ⟨j,rfl,h1,h2,q1 _ H1 O1 st1 s1 o8⟩) q⟩⟩
noncomputable def numbered (ds:List PyData):List PyData:=ds.mapIdx fun i d=>PyData.tuple [.int i,d]
noncomputable def iE (t:DTA):DTI:=fun ρ Q=>t ρ fun ds ρ'=>∃ es,ds=[.list es]/\Q (numbered es) ρ'
end
noncomputable def sFor (s:DTI) (g:DTG) (tb:DTS):DTS:=fun D ρ=>s ρ fun its ρ1=>∃ Iv:Nat->DEnv->Prop,Iv 0 ρ1/\(∀ i d ρ,its[i]? = some d->Iv i ρ->g d ρ fun ρ2=>tb { D with nx:=Iv (i + 1),ct:=Iv (i + 1),bk:=D.nx } ρ2)/\∀ ρ,Iv its.length ρ->D.nx ρ
section
variable {X:Cx} {F:Fx} {tg iter:Expr} {body:List Stmt} {s:DTI} {g:DTG} {tb:DTS} {pos:Pos}
theorem Ab (hp:PassesOwn (model X.prog X.w) X.A X.env X.xe) (hc:X.calm=true) (hi:DI X F tg iter s) (hg:DG X F tg g) (hb:DSs X F body tb) (hs:∀ x,foldedSetIterable iter X.env x=pure x:=by intro _; rfl):DS X F (.For tg iter body [] pos) (sFor s g tb):=
 (zc hp hc hi.pi hg.pg hb hs).imp fun D σ H ⟨ρ,O,DD,st,q,f⟩=>by
  refine ⟨ρ,O,st,hi.mn _ _ _ (fun its ρ1 ⟨Iv,i0,step,fin⟩ J H1 O1 st1 s1 wk=>?_) q⟩
  refine ⟨fun i m σ' H'=>∃ ρ' O',DSt X.K F H' σ' ρ' O'/\Stp O1 H1 O' H'/\Iv i ρ'/\i<=its.length/\m=its.length - i,⟨its.length,ρ1,O1,st1,.refl,i0,Nat.zero_le _,rfl⟩,?_⟩
  rintro i m σ' H' ⟨ρ',O',st',s',iv,hi',rfl⟩
  obtain ⟨w1,w2⟩:=wk O' H' s' st'.live
  by_cases hlt:i < its.length
  ·obtain ⟨go,yld⟩:=w1 i its[i] (List.getElem?_eq_getElem hlt)
   refine .inr ⟨go,fun σ2 H2=>∃ ρ2 O2,DSt X.K F H2 σ2 ρ2 O2/\Stp O1 H1 O2 H2/\Iv (i + 1) ρ2,fun σ2 H2 ⟨ρ2,O2,st2,s2,iv2⟩=>⟨its.length - (i + 1),by omega,ρ2,O2,st2,s2,iv2,hlt,rfl⟩,fun x H2 hy=>?_⟩
   obtain ⟨sm,dv⟩:=yld x H2 hy
   refine ⟨ρ',O',its[i],st'.grow sm,dv,hg.mn _ _ _ _ (fun ρ2 q2 σ3 H3 O3 st3 s3=>?_) (step i its[i] ρ' (List.getElem?_eq_getElem hlt) iv)⟩
   have s13:Stp O1 H1 O3 H3:=s'.trans ((Stp.same sm).trans s3)
   have nxt:∀ σ4 H4 ρ4 O4,DSt X.K F H4 σ4 ρ4 O4->Stp O3 H3 O4 H4->Iv (i + 1) ρ4->∃ ρ2 O2,DSt X.K F H4 σ4 ρ2 O2/\Stp O1 H1 O2 H4/\Iv (i + 1) ρ2:=fun σ4 H4 ρ4 O4 st4 s4 q4=>⟨ρ4,O4,st4,s13.trans s4,q4⟩
   exact ⟨ρ2,O3,_,st3,q2,⟨nxt,fun v σ4 H4 d ρ4 O4 fp4 st4 s4 q4=>f.rt v σ4 H4 d ρ4 O4 fp4 st4 (s1.trans (s13.trans s4)) q4,fun σ4 H4 ρ4 O4 st4 s4 q4=>f.nx σ4 H4 ρ4 O4 st4 (s1.trans (s13.trans s4)) q4,nxt⟩⟩
  ·have e:i=its.length:=by omega
   subst e
   exact .inl ⟨w2,f.nx σ' H' ρ' O' st' (s1.trans s') (fin ρ' iv)⟩
end
noncomputable def Ac (c:DTT) (tb:DTS):DTS:=fun D ρ=>∃ (Iv:DEnv->Prop) (μ:DEnv->Nat),Iv ρ/\∀ ρ,Iv ρ->c ρ fun b ρ1=>if b=true then tb { D with nx:=fun ρ2=>Iv ρ2/\μ ρ2 < μ ρ,ct:=fun ρ2=>Iv ρ2/\μ ρ2 < μ ρ,bk:=D.nx } ρ1 else D.nx ρ1
section
variable {X:Cx} {F:Fx} {c:Expr} {body:List Stmt} {tc:DTT} {tb:DTS} {pos:Pos}
theorem vD (hp:PassesOwn (model X.prog X.w) X.A X.env X.xe) (hc:DB X F c tc) (hb:DSs X F body tb):DS X F (.While c body [] pos) (Ac tc tb):=
 (u4 hp hc.pt hb).imp fun D σ H ⟨ρ,O,DD,st,⟨Iv,μ,i0,step⟩,f⟩=>by
  refine ⟨fun m σ' H'=>∃ ρ' O',DSt X.K F H' σ' ρ' O'/\Stp O H O' H'/\Iv ρ'/\m=μ ρ',⟨μ ρ,ρ,O,st,.refl,i0,rfl⟩,?_⟩
  rintro m σ' H' ⟨ρ',O',st',s',iv,rfl⟩
  refine ⟨ρ',O',st',hc.mn _ _ _ (fun b ρ1 q1 H1 O1 st1 s1=>?_) (step ρ' iv)⟩
  cases b with
  | false=>exact fg (f.nx _ _ _ _ st1 (s'.trans s1) (ofF q1))
  | true=>
   refine fi ⟨fun σ2 H2=>∃ ρ2 O2,DSt X.K F H2 σ2 ρ2 O2/\Stp O H O2 H2/\Iv ρ2/\μ ρ2 < μ ρ',fun σ2 H2 ⟨ρ2,O2,st2,s2,iv2,lt⟩=>⟨μ ρ2,lt,ρ2,O2,st2,s2,iv2,rfl⟩,?_⟩
   have nxt:∀ σ4 H4 ρ4 O4,DSt X.K F H4 σ4 ρ4 O4->Stp O1 H1 O4 H4->(Iv ρ4/\μ ρ4 < μ ρ')->∃ ρ2 O2,DSt X.K F H4 σ4 ρ2 O2/\Stp O H O2 H4/\Iv ρ2/\μ ρ2 < μ ρ':=fun σ4 H4 ρ4 O4 st4 s4 q4=>⟨ρ4,O4,st4,s'.trans (s1.trans s4),q4⟩
   exact ⟨ρ1,O1,_,st1,ofT q1,⟨nxt,fun v σ4 H4 d ρ4 O4 fp4 st4 s4 q4=>f.rt v σ4 H4 d ρ4 O4 fp4 st4 (s'.trans (s1.trans s4)) q4,fun σ4 H4 ρ4 O4 st4 s4 q4=>f.nx σ4 H4 ρ4 O4 st4 (s'.trans (s1.trans s4)) q4,nxt⟩⟩
end
@[simp] noncomputable def capC:Option (Option Cell)->Option Cell
 | some (some (.dat d))=>some (.dat d)
 | some (some (.scr ns))=>some (.scr ns)
 | some (some (.vw b))=>some (.vw b)
 | _=>none
noncomputable def liftD (own:List Str) (caps:List Nat) (ρ:DEnv):DEnv:=own.map (fun _=>none) ++ caps.map fun j=>capC ρ[j]?
noncomputable def dCmp (own:List Str) (caps:List Nat) (s:DTI) (g:DTG) (tc:DTT) (te:DT):DT:=fun ρ Q=>s ρ fun its ρ1=>∃ Iv:Nat->List PyData->DEnv->Prop,Iv 0 [] (liftD own caps ρ1)/\
 (∀ i d ys ρ',its[i]? = some d->Iv i ys ρ'->g d ρ' fun ρ2=>tc ρ2 fun b ρ3=>if b=true then te ρ3 fun y ρ4=>ys.length < sizeLine/\Iv (i + 1) (ys ++ [y]) ρ4 else Iv (i + 1) ys ρ3)/\
 ∀ ys ρ',Iv its.length ys ρ'->ys.length<=sizeLine/\Q (.list ys) ρ1
noncomputable def MnI (s:DTI):Prop:=∀ ρ Q Q',(∀ d ρ',Q d ρ'->Q' d ρ')->s ρ Q->s ρ Q'
section
variable {K:PySem.W.Frag} {F:Fx} {own:List Str} {caps:List Nat} {s:DTI} {g:DTG} {tc:DTT} {te:DT}
theorem o9 (hs:MnI s):Mn (dCmp own caps s g tc te):=fun _ _ _ k q=>hs _ _ _ (fun _ _ ⟨Iv,h0,h1,h2⟩=>⟨Iv,h0,h1,fun ys ρ' h=>⟨(h2 ys ρ' h).1,k _ _ (h2 ys ρ' h).2⟩⟩) q
theorem ud (hs:MnI s) (hg:∀ d ρ Q Q',(∀ ρ',Q ρ'->Q' ρ')->g d ρ Q->g d ρ Q') (ht:MnT tc) (he:Mn te):∀ σ H Q,rdE K F (dCmp own caps s g tc te) σ H Q->
  tComp own caps (rdI K F s) (fun v σ H Q=>∃ F',rdG K F' g v σ H Q) (fun σ H Q=>∃ F',rdT K F' tc σ H Q) (fun σ H Q=>∃ F',rdE K F' te σ H Q) σ H Q:=fun σ H Q ⟨ρ,O,st,q⟩=>by
 refine ⟨ρ,O,st,hs _ _ _ (fun its ρ1 ⟨Iv,i0,step,fin⟩ J H1 O1 st1 s1 wk=>?_) q⟩
 refine ⟨fun i m ys σ' H'=>∃ ρ' O' ds,DSt K ⟨H1,[],O1,fun _=>0⟩ H' σ' ρ' O'/\Iv i ds ρ'/\DVs (hide O' H') ys ds/\i<=its.length/\m=its.length - i,⟨its.length,liftD own caps ρ1,O1,[],?_,i0,.nil,Nat.zero_le _,rfl⟩,?_⟩
 ·have cell:∀ (i:Nat) (c:Cell),(liftD own caps ρ1)[i]? = some (some c)->(∀ io b,c ≠ .own io b)/\∃ v,(liftC own caps σ)[i]? = some (some v)/\CellAt K H1 O1 v c []:=fun i c e=>by
   unfold liftD at e
   unfold liftC
   by_cases hi:i < own.length
   ·rw [List.getElem?_append_left (by simpa using hi),List.getElem?_map] at e
    cases h:own[i]? with
    | none=>rw [h] at e; cases e
    | some y=>rw [h] at e; cases e
   ·rw [List.getElem?_append_right (by simpa using Nat.le_of_not_lt hi),List.length_map,List.getElem?_map] at e
    rw [List.getElem?_append_right (by simpa using Nat.le_of_not_lt hi),List.length_map,List.getElem?_map]
    obtain ⟨j,h1,h2⟩:=Option.map_eq_some_iff.mp e
    rw [h1]
    show _/\∃ v,some ((σ[j]?).getD none)=some (some v)/\_
    cases h3:ρ1[j]? with
    | none=>rw [h3] at h2; cases h2
    | some o=>
     cases o with
     | none=>rw [h3] at h2; cases h2
     | some c'=>
      rw [h3] at h2
      obtain ⟨W,stw,rfl⟩:=id st1
      obtain ⟨v,fp,e1,_,e2⟩:=stw.at_ j c' h3
      rw [e1]
      cases c' with
      | dat d=>cases h2; exact ⟨(fun _ _ z=>by cases z),v,rfl,e2⟩
      | scr ns=>cases h2; exact ⟨(fun _ _ z=>by cases z),v,rfl,e2⟩
      | own _ _=>cases h2
      | exc _=>cases h2
      | vw b=>cases h2; exact ⟨(fun _ _ z=>by cases z),v,rfl,e2⟩
  obtain ⟨W,stw,hO1⟩:=id st1
  have ln:(liftD own caps ρ1).length=(liftC own caps σ).length:=by unfold liftD liftC; simp
  have fl:(List.replicate (liftD own caps ρ1).length ([]:List Addr)).flatten ++ O1=O1:=by rw [kS]; rfl
  refine ⟨List.replicate (liftD own caps ρ1).length [],⟨fun i c e=>?_,by show (_ ++ O1).Nodup; rw [fl,hO1]; exact stw.nd,fun _ _ _ h=>h,fun a h=>?_,by show OOk H1 (_ ++ O1); rw [fl]; exact st1.live,ln,by simp,fun i b e=>absurd rfl ((cell i _ e).1 true b)⟩,fl.symm⟩
  ·obtain ⟨_,v,e1,e2⟩:=cell i c e
   refine ⟨v,[],e1,?_,by show CellAt K H1 (_ ++ O1) v c []; rw [fl]; exact e2⟩
   rw [List.getElem?_replicate,if_pos (List.getElem?_eq_some_iff.mp e).1]
  ·rw [kS] at h; cases h
 ·rintro i m ys σ' H' ⟨ρ',O',ds,st',iv,dv,hi,rfl⟩
  have sm:Same H1 H':=fun b o e=>by obtain ⟨W',h',_⟩:=id st'; exact h'.kept b o (by simp) e
  have stp:Stp O1 H1 O' H':=⟨fun b o _ e=>sm b o e,fun a h=>by
   obtain ⟨W',h',rfl⟩:=id st'
   rcases List.mem_append.mp h with h | h
   ·exact (h'.new a h).elim (fun z=>absurd z (by simp)) .inr
   ·exact .inl h⟩
  have sub1:∀ a ∈ O1,a ∈ O':=fun a h=>by obtain ⟨W',h',rfl⟩:=id st'; exact Qai _ h
  obtain ⟨w1,w2⟩:=wk O' H' stp st'.live
  by_cases hlt:i < its.length
  ·obtain ⟨go,yld⟩:=w1 i its[i] (List.getElem?_eq_getElem hlt)
   refine .inr ⟨go,fun x H2 hy=>?_⟩
   obtain ⟨sm2,dx⟩:=yld x H2 hy
   refine ⟨⟨H1,[],O1,fun _=>0⟩,ρ',O',its[i],st'.grow sm2,dx,hg _ _ _ _ (fun ρ2 q2 σ3 H3 O3 st3 s3=>?_) (step i its[i] ds ρ' (List.getElem?_eq_getElem hlt) iv)⟩
   refine ⟨⟨H1,[],O1,fun _=>0⟩,ρ2,O3,st3,ht _ _ _ (fun b ρ3 q3 H4 O4 st4 s4=>?_) q2⟩
   have d4:DVs (hide O4 H4) ys ds:=DVs.mono s4.hid (DVs.mono s3.hid (DVs.mono (iU sm2) dv))
   cases b with
   | false=>exact fg ⟨its.length - (i + 1),by omega,ρ3,O4,ds,st4,ofF q3,d4,hlt,rfl⟩
   | true=>
    refine fi ⟨⟨H1,[],O1,fun _=>0⟩,ρ3,O4,st4,he _ _ _ (fun y ρ4 q4 v H5 O5 st5 s5 dy=>?_) (ofT q3)⟩
    refine ⟨by rw [d4.length]; exact q4.1,its.length - (i + 1),by omega,ρ4,O5,ds ++ [y],st5,q4.2,(DVs.mono s5.hid d4).append (.cons dy .nil),hlt,rfl⟩
  ·have e:i=its.length:=by omega
   subst e
   obtain ⟨hz,q⟩:=fin ds ρ' iv
   refine .inl ⟨w2,by rw [dv.length]; exact hz,fun p hp=>?_⟩
   have pO':=st'.nofree p hp
   exact q _ _ O1 (st1.grow fun b o e=>aC hp _ _ (sm b o e)) (s1.trans (.same fun b o e=>aC hp _ _ (sm b o e))) (dP hp (fun z=>pO' (sub1 p z)) (DVs.mono (tS sub1) dv))
end
noncomputable def DBs (X:Cx) (F:Fx) (ifs:List Expr) (t:DTT):Prop:=MnT t/\PTs X ifs (rdT X.K F t)
noncomputable def bYes:DTT:=fun ρ Q=>Q true ρ
theorem xH {X:Cx} {F:Fx}:DBs X F [] bYes:=⟨fun _ _ _ k q=>k _ _ q,fun pins s σ H Q I ⟨ρ,O,st,q⟩=>xk pins s σ H Q I (q H O st .refl)⟩
theorem xI {X:Cx} {F:Fx} {c:Expr} {t:DTT} (h:DB X F c t):DBs X F [c] t:=⟨h.mn,xl h.pt⟩
section
variable {X:Cx} {F:Fx} {scope:Scope} {own capN:List Str} {caps:List Nat} {tg iter elt:Expr} {ifs:List Expr} {s:DTI} {g:DTG} {tc:DTT} {te:DT} {pos:Pos}
theorem xJ (S:CompScope X scope own capN caps) (hc:X.calm=true) (hi:DI X F tg iter s)
  (hin:∀ C fp s₂ H₂ pl F',DG (aW X scope (own ++ capN) C fp s₂ H₂ pl) F' tg g/\DBs (aW X scope (own ++ capN) C fp s₂ H₂ pl) F' ifs tc/\DE (aW X scope (own ++ capN) C fp s₂ H₂ pl) F' elt te)
  (hs:∀ x,foldedSetIterable iter X.env x=pure x:=by intro _; rfl):DE X F (.ListComp elt [⟨tg,iter,ifs,0⟩] scope pos) (dCmp own caps s g tc te):=by
 have F0:Fx:=F
 obtain ⟨hg,ht,he⟩:=hin 0 [] (PySem.start X.prog).1 (fun _=>none) [] F
 refine ⟨o9 hi.mn,(xm S hc hi.pi (fun C fp s₂ H₂ pl=>⟨fun pins s σ H v u Q I r ⟨F',q⟩=>(hin C fp s₂ H₂ pl F').1.pg pins s σ H v u Q I r q,fun pins s σ H Q I ⟨F',q⟩=>(hin C fp s₂ H₂ pl F').2.1.2 pins s σ H Q I q,fun pins s σ H Q I ⟨F',q⟩=>(hin C fp s₂ H₂ pl F').2.2.pe pins s σ H Q I q⟩) hs).imp (ud hi.mn hg.mn ht.1 he.mn)⟩
theorem r9 {i:Nat} {y:Str} {py spos:Pos} (hN:X.N.Nodup) (hi':X.N[i]? = some y) (hx:Loc X.env.scope y) (S:CompScope X scope own capN caps) (hc:X.calm=true) (hi:DI X F tg iter s)
  (hin:∀ C fp s₂ H₂ pl F',DG (aW X scope (own ++ capN) C fp s₂ H₂ pl) F' tg g/\DBs (aW X scope (own ++ capN) C fp s₂ H₂ pl) F' ifs tc/\DE (aW X scope (own ++ capN) C fp s₂ H₂ pl) F' elt te)
  (hsw:swapsWith (.ListComp elt [⟨tg,iter,ifs,0⟩] scope pos) (some (.Name y py)) spos.line X.env=pure true:=by rfl)
  (hs:∀ x,foldedSetIterable iter X.env x=pure x:=by intro _; rfl) (hf:X.fn y=true\/X.env.scope.names.lookup y=some .local:=by first | exact .inl rfl | exact .inr rfl | assumption) :
  DS X F (.Assign [.Name y py] (.ListComp elt [⟨tg,iter,ifs,0⟩] scope pos) spos) (r0 (dCmp own caps s g tc te) (gN i)):=by
 obtain ⟨hg,ht,he⟩:=hin 0 [] (PySem.start X.prog).1 (fun _=>none) [] F
 refine (rS hN hi' hx S hc hi.pi (fun C fp s₂ H₂ pl=>⟨fun pins s σ H v u Q I r ⟨F',q⟩=>(hin C fp s₂ H₂ pl F').1.pg pins s σ H v u Q I r q,fun pins s σ H Q I ⟨F',q⟩=>(hin C fp s₂ H₂ pl F').2.1.2 pins s σ H Q I q,fun pins s σ H Q I ⟨F',q⟩=>(hin C fp s₂ H₂ pl F').2.2.pe pins s σ H Q I q⟩) hsw hs hf).imp
  fun D σ H ⟨ρ,O,DD,st,q,f⟩=>ud hi.mn hg.mn ht.1 he.mn σ H _ ⟨ρ,O,st,o9 hi.mn _ _ _ (fun d ρ1 q1 v H1 O1 st1 s1 d1=>f.nx _ H1 _ O1 (st1.set d1) s1 q1) q⟩
end
end L2.L3
namespace L2
open PySem PySem.Spec PyProof.Rows
section
variable {X:Cx} {pins:List (Addr × Obj)} {σ:St} {H:Hp} {s:Shared}
theorem Inv.track {a:Addr} {o:HO} (I:Inv X pins σ H s) (f:gX X pins H a) (new:ObjOk X.prog X.w (upd H a o) s.heap a o):Inv X pins σ (upd H a o) s:=by
 have hn:=f.1
 refine I.step (h':=s.heap) (g':=s.gens) (d':=s.drawn) (t':=s.toks) (ch:=[a]) (fun b hb=>by obtain rfl:=List.mem_singleton.mp hb; exact ⟨f.2.2.2.1,f.2.1,f.2.2.2.2.1,f.2.2.2.2.2⟩) (fun b ob _ _ _ e _=>e) (fun b ob _ _ _ e _=>⟨ob.slots,e⟩)
  (fun b ob hc _ n=>by rw [aU (fun z=>hc (by simp [z]))]; exact n) (fun b ob _ e=>⟨ob,e⟩) (fun b xs e=>aC hn b _ e) (fun b ob u e=>aC hn b _ e) (fun b ps e=>⟨#[],by rw [aC hn b _ e]; simp⟩) (fun m hm=>hm) (fun b u e=>?_) I.bare
 by_cases hb:b=a
 ·subst hb; rw [bP] at e; cases e; exact new
 ·rw [aU hb] at e
  exact (I.hok b u e).stay (fun _ _ _ q=>q) (fun c q=>aC hn c _ q) fun c xs q=>aC hn c _ q
end
theorem wE {x y z:V} {us:List Value} (r:Vals [x,y,z] us):∃ u v w,us=[u,v,w]/\RelV x u/\RelV y v/\RelV z w:=by
 cases r with
 | cons r1 r=>cases r with
  | cons r2 r=>cases r with
   | cons r3 r=>cases r; exact ⟨_,_,_,rfl,r1,r2,r3⟩
section
variable {X:Cx} {a b c:Expr} {t:TA} {pos p1 p2 pos2:Pos}
noncomputable def tLZ (t:TA):TE:=fun σ H Q=>t σ H fun vs H1=>∃ l1 l2 l3 xs ys zs,vs=[.ref l1,.ref l2,.ref l3]/\H1 l1=some (.lst xs)/\H1 l2=some (.lst ys)/\H1 l3=some (.lst zs)/\ys.length=xs.length/\zs.length=xs.length/\0 < xs.length/\
 ∀ p H2 (qs:List Addr),Same H1 H2->H1 p=none->H2 p=some (.lst (qs.map V.ref))->qs.length=xs.length->(∀ (i:Nat) (q:Addr),qs[i]? = some q->∃ x y z,xs[i]? = some x/\ys[i]? = some y/\zs[i]? = some z/\H1 q=none/\H2 q=some (.tup [x,y,z]))->Q (.ref p) H2
theorem qR:∀ {acc:List Value},(∀ (j:Nat) (w:Value),acc[j]? = some w->∃ T,w=Value.ref T)->∃ qs:List Addr,acc=qs.map Value.ref
 | [],_=>⟨[],rfl⟩
 | v :: r,h=>by
  obtain ⟨T,e⟩:=h 0 v rfl
  obtain ⟨qs,hq⟩:=qR (acc:=r) fun j w e=>h (j + 1) w (by simpa using e)
  exact ⟨T :: qs,by rw [hq,e]; rfl⟩
theorem se {h:Heap} {n:Addr} {xs ys zs:Array Value} {acc:List Value} (t:oF h n xs ys zs acc):∃ qs:List Addr,acc=qs.map Value.ref:=
 qR fun j w e=>by obtain ⟨T,_,_,_,e,_⟩:=t j w e; exact ⟨T,e⟩
theorem qu (hc:X.calm=true) (hg1:Gl X "list") (hm1:X.mg "list" = none) (hg2:Gl X "zip") (hm2:X.mg "zip" = none) (ha:PA X [a,b,c] t)
  (he:starEach [.Call (.Name "zip" p2) [a,b,c] [] pos2] X.env=[(false,eval (.Call (.Name "zip" p2) [a,b,c] [] pos2) X.env)]:=by rfl)
  (hs:starEach [a,b,c] X.env=(false,eval a X.env) :: starEach [b,c] X.env:=by rfl) (hpl:(backTo pos2 (starEach [b,c] X.env)).any (·.1)=false:=by rfl) :
  PE X (.Call (.Name "list" p1) [.Call (.Name "zip" p2) [a,b,c] [] pos2] [] pos) (tLZ t):=by
 intro pins s σ H Q I h
 refine wpAny_Call_Name_kw (eG I hg1 hm1 (show bootBuiltins "list" = some (.type "list") by decide +kernel) ?_ (by decide) (by decide))
 refine PyProof.Rows.callWith_type1 ?_ (by rw [he]; rfl) rfl
 rw [he]
 show wpAny _ _ (spliced [(false,eval (.Call (.Name "zip" p2) [a,b,c] [] pos2) X.env)]) _ _ s
 refine Calls.spliced_cons ?_
 refine wpAny_Call_Name_kw (eG I hg2 hm2 boot_zip ?_ (by decide) (by decide))
 refine PyProof.Rows.callWith_type1 (thn (ha pos2 pins s σ H _ I h) fun us s1 ⟨vs,H1,I1,r1,q1⟩=>?_) hs hpl
 obtain ⟨l1,l2,l3,xs,ys,zs,rfl,h1,h2,h3,e2,e3,hpos,q⟩:=q1
 obtain ⟨u1,u2,u3,rfl,ru1,ru2,ru3⟩:=wE r1
 cases ru1; cases ru2; cases ru3
 obtain ⟨z1,its1,n1,r1',g1⟩:=I1.hok _ _ h1
 obtain ⟨z2,its2,n2,r2',g2⟩:=I1.hok _ _ h2
 obtain ⟨z3,its3,n3,r3',g3⟩:=I1.hok _ _ h3
 have L1:s1.heap.IsList l1 its1.toArray:=⟨_,g1,rfl,_,rfl⟩
 have L2':s1.heap.IsList l2 its2.toArray:=⟨_,g2,rfl,_,rfl⟩
 have L3':s1.heap.IsList l3 its3.toArray:=⟨_,g3,rfl,_,rfl⟩
 have len1:=r1'.length
 have len2:=r2'.length
 have len3:=r3'.length
 refine rV L1 L2' L3' fun h' hz hti hto hi1 hi2 hi3 hsz hk=>?_
 refine Calls.spliced_nil ?_
 have lt1:l1 < s1.heap.objs.size:=Qad g1
 have lt2:l2 < s1.heap.objs.size:=Qad g2
 have lt3:l3 < s1.heap.objs.size:=Qad g3
 have nd:[s1.heap.objs.size + 5,s1.heap.objs.size + 3,s1.heap.objs.size + 4,s1.heap.objs.size,s1.heap.objs.size + 1,s1.heap.objs.size + 2].Nodup:=by
  generalize s1.heap.objs.size=n
  simp only [List.nodup_cons,List.mem_cons,List.not_mem_nil,or_false,not_or,not_false_eq_true,and_true,List.nodup_nil]
  refine ⟨⟨?_,?_,?_,?_,?_⟩,⟨?_,?_,?_,?_⟩,⟨?_,?_,?_⟩,⟨?_,?_⟩,?_⟩ <;> exact (by intro e; exact absurd (show (_:Nat)=_ from e) (by omega))
 have ge:∀ j ∈ [s1.heap.objs.size + 5,s1.heap.objs.size + 3,s1.heap.objs.size + 4,s1.heap.objs.size,s1.heap.objs.size + 1,s1.heap.objs.size + 2],s1.heap.objs.size<=j:=fun j hj=>by
  simp only [List.mem_cons,List.not_mem_nil,or_false] at hj
  rcases hj with rfl | rfl | rfl | rfl | rfl | rfl
  ·exact Nat.le_add_right _ _
  ·exact Nat.le_add_right _ _
  ·exact Nat.le_add_right _ _
  ·exact Qae _
  ·exact Nat.le_add_right _ _
  ·exact Nat.le_add_right _ _
 have I2:Inv X pins σ H1 { s1 with heap:=h' }:=I1.kept (t':=s1.toks) hk
 refine mH (s:={ s1 with heap:=h' }) (I1.ok.hd hc) nd (fun l hl j hj=>?_) (fun j hj=>?_) hz hti hto hi1 hi2 hi3 (L1.at fun o e=>hk _ _ e) (L2'.at fun o e=>hk _ _ e) (L3'.at fun o e=>hk _ _ e)
  (by simp only [List.size_toArray]; omega) (by simp only [List.size_toArray]; omega) (by simp only [List.size_toArray]; omega) (by simp only [List.size_toArray]; omega) fun h2 acc cc hk2 hS hl tr=>?_
 ·simp only [List.mem_cons,List.not_mem_nil,or_false] at hl
  rcases hl with rfl | rfl | rfl
  ·exact Nat.ne_of_lt (Nat.lt_of_lt_of_le lt1 (ge j hj))
  ·exact Nat.ne_of_lt (Nat.lt_of_lt_of_le lt2 (ge j hj))
  ·exact Nat.ne_of_lt (Nat.lt_of_lt_of_le lt3 (ge j hj))
 ·show j < h'.objs.size
  rw [hsz]
  simp only [List.mem_cons,List.not_mem_nil,or_false] at hj
  generalize s1.heap.objs.size=n at *
  rcases hj with rfl | rfl | rfl | rfl | rfl | rfl | rfl | rfl | rfl
  ·exact Nat.lt_succ_self _
  ·exact Nat.add_lt_add_left (show (3:Nat) < 6 by decide) _
  ·exact Nat.add_lt_add_left (show (4:Nat) < 6 by decide) _
  ·exact Nat.lt_add_of_pos_right (by decide)
  ·exact Nat.add_lt_add_left (show (1:Nat) < 6 by decide) _
  ·exact Nat.add_lt_add_left (show (2:Nat) < 6 by decide) _
  ·exact Nat.lt_of_lt_of_le lt1 (Nat.le_add_right _ _)
  ·exact Nat.lt_of_lt_of_le lt2 (Nat.le_add_right _ _)
  ·exact Nat.lt_of_lt_of_le lt3 (Nat.le_add_right _ _)
 ·
  have kp:∀ b ob,s1.heap.get? b=some ob->h2.get? b=some ob:=fun b ob e=>hk2 b ob (fun z=>absurd (ge b (by
   simp only [List.mem_cons,List.not_mem_nil,or_false] at z ⊢
   rcases z with z | z | z | z | z <;> simp [z])) (Nat.not_le.mpr (Qad e))) (hk b ob e)
  have I3:Inv X pins σ H1 { s1 with heap:=h2 }:=I1.kept (t':=s1.toks) kp
  obtain ⟨qs,hqs⟩:=se tr
  have big:∀ b,h'.objs.size<=b->gX X pins H1 b:=fun b hb=>I2.fpOk hb (I2.hok.fresh hb)
  have hlq:qs.length=xs.length:=by
   have:=congrArg List.length hqs
   rw [List.length_map] at this
   rw [<-this,hl,List.size_toArray]
   exact len1.symm
  have vq:∀ qs:List Addr,Vals (qs.map V.ref) (qs.map Value.ref):=fun qs=>by
   induction qs with
   | nil=>exact .nil
   | cons q r ih=>exact .cons rfl ih
  have I4:Inv X pins σ (upd H1 h'.objs.size (.lst (qs.map V.ref))) { s1 with heap:=h2 }:=I3.track (big _ (Qae _)) ⟨by rw [List.length_map,hlq]; exact z1,_,_,vq qs,by rw [<-hqs]; exact hS⟩
  have all:∀ k,k<=qs.length->∃ H2,Same H1 H2/\Inv X pins σ H2 { s1 with heap:=h2 }/\H2 h'.objs.size=some (.lst (qs.map V.ref))/\(∀ b,h'.objs.size < b->H2 b=none\/∃ row,H2 b=some (.tup row))/\
    ∀ (i:Nat) (q:Addr),i < k->qs[i]? = some q->∃ x y z,xs[i]? = some x/\ys[i]? = some y/\zs[i]? = some z/\H1 q=none/\H2 q=some (.tup [x,y,z]):=fun k=>by
   induction k with
   | zero=>exact fun _=>⟨_,aC (big _ (Qae _)).1,I4,bP,fun b hb=>.inl (by rw [aU (Nat.ne_of_gt hb)]; exact (big b (Nat.le_of_lt hb)).1),fun i q h=>absurd h (Nat.not_lt_zero _)⟩
   | succ k ih=>
    intro hk'
    obtain ⟨H2,sm,J,hp,hb2,hrow⟩:=ih (Nat.le_of_succ_le hk')
    have hkl:k < qs.length:=hk'
    have eqk:qs[k]? = some qs[k]:=List.getElem?_eq_getElem hkl
    obtain ⟨T,x',y',u',eT,hT,trp,ex,ey,eu⟩:=tr k (.ref qs[k]) (by rw [hqs,List.getElem?_map,eqk]; rfl)
    cases eT
    have hTlt:h'.objs.size < qs[k]:=hT
    have kx:k < xs.length:=by rw [<-hlq]; exact hkl
    have vx:xs[k]? = some xs[k]:=List.getElem?_eq_getElem kx
    have vy:ys[k]? = some (ys[k]'(by omega)):=List.getElem?_eq_getElem (by omega)
    have vz:zs[k]? = some (zs[k]'(by omega)):=List.getElem?_eq_getElem (by omega)
    obtain ⟨w1,hw1,rw1⟩:=r1'.get vx
    obtain ⟨w2,hw2,rw2⟩:=r2'.get vy
    obtain ⟨w3,hw3,rw3⟩:=r3'.get vz
    have e1:x' = w1:=by simp only [List.getElem?_toArray] at ex; rw [hw1] at ex; exact (Option.some.inj ex).symm
    have e2':y' = w2:=by simp only [List.getElem?_toArray] at ey; rw [hw2] at ey; exact (Option.some.inj ey).symm
    have e3':u' = w3:=by simp only [List.getElem?_toArray] at eu; rw [hw3] at eu; exact (Option.some.inj eu).symm
    subst e1 e2' e3'
    have rel:Vals [xs[k],ys[k]'(by omega),zs[k]'(by omega)] [x',y',u']:=.cons rw1 (.cons rw2 (.cons rw3 .nil))
    have H1q:H1 qs[k]=none:=(big _ (Nat.le_of_lt hTlt)).1
    rcases hb2 qs[k] hTlt with hn | ⟨row,hr⟩
    ·refine ⟨upd H2 qs[k] (.tup [xs[k],ys[k]'(by omega),zs[k]'(by omega)]),fun b o e=>aC hn _ _ (sm b o e),J.track ⟨hn,(big _ (Nat.le_of_lt hTlt)).2⟩ ⟨by show 3<=sizeLine; decide,_,rel,⟨_,trp,rfl,_,rfl⟩⟩,
      by rw [aU (Nat.ne_of_lt hTlt)]; exact hp,fun b hb=>?_,fun i q hi hq=>?_⟩
     ·by_cases e:b=qs[k]
      ·subst e; exact .inr ⟨_,bP⟩
      ·rw [aU e]; exact hb2 b hb
     ·rcases Nat.lt_succ_iff_lt_or_eq.mp hi with hi | rfl
      ·obtain ⟨x,y,z,a1,a2,a3,a4,a5⟩:=hrow i q hi hq
       exact ⟨x,y,z,a1,a2,a3,a4,aC hn _ _ a5⟩
      ·rw [eqk] at hq; cases hq
       exact ⟨_,_,_,vx,vy,vz,H1q,bP⟩
    ·have same:row=[xs[k],ys[k]'(by omega),zs[k]'(by omega)]:=by
      obtain ⟨_,its,rv,o,eo,co,n,dn⟩:=J.hok _ _ hr
      have eo':h2.get? qs[k]=some o:=eo
      rw [trp] at eo'
      cases eo'
      have d':(#[x',y',u']:Array Value)=its.toArray:=by injection dn
      have:its=[x',y',u']:=by have:=congrArg Array.toList d'; simpa using this.symm
      subst this
      exact rv.inj rel
     refine ⟨H2,sm,J,hp,hb2,fun i q hi hq=>?_⟩
     rcases Nat.lt_succ_iff_lt_or_eq.mp hi with hi | rfl
     ·exact hrow i q hi hq
     ·rw [eqk] at hq; cases hq
      exact ⟨_,_,_,vx,vy,vz,H1q,by rw [hr,same]⟩
  obtain ⟨H2,sm,J,hp,_,hrow⟩:=all qs.length (Qae _)
  exact ⟨.ref h'.objs.size,H2,J,rfl,q h'.objs.size H2 qs sm (big _ (Qae _)).1 hp hlq fun i qq e=>hrow i qq (List.getElem?_eq_some_iff.mp e).1 e⟩
theorem ue (hc:X.calm=true):iQ X (.builtin "all") (fun xs H Q=>∃ (l:Addr) (bs:List Bool),xs=[.ref l]/\H l=some (.lst (bs.map V.bl))/\Q (.bl (bs.all id)) H):=by
 intro pins s σ H xs us Q I r h
 obtain ⟨l,bs,rfl,hl,q⟩:=h
 obtain ⟨u,rfl,ru⟩:=iR r
 cases ru
 obtain ⟨z,its,n,rv,e⟩:=I.hok _ _ hl
 have L:s.heap.IsList l its.toArray:=⟨_,e,rfl,_,rfl⟩
 have hlt:l < s.heap.objs.size:=Qad e
 have len:=rv.length
 rw [List.length_map] at len
 refine call_all_walk (wpAny_pyIter_list L ?_)
 refine ⟨s.heap.objs.size,_,_,_,_,_,fun i=>bs.getD i true,rfl,Walks.list (A:=X.A.in1) (show X.A.in1.handled=none from I.ok.hd hc) s.heap.objs.size l (Nat.ne_of_lt hlt) its.toArray,⟨⟨_,Heap.get?_push_size _ rfl,rfl,rfl⟩,L.push _⟩,?_,fun h' tk hk=>?_⟩
 ·intro i v s' Q' E' hv hq
  have hi:its[i]? = some v:=by simpa using hv
  have hlt:i < bs.length:=by rw [len]; exact (List.getElem?_eq_some_iff.mp hi).1
  obtain ⟨w,hw,rw'⟩:=rv.get (i:=i) (x:=.bl bs[i]) (by rw [List.getElem?_map,List.getElem?_eq_getElem hlt]; rfl)
  rw [hi] at hw
  cases hw
  cases rw'
  refine wpAny_truthy_bool ?_
  have:bs.getD i true=bs[i]:=by simp [List.getD,hlt]
  have hq:Q' (bs.getD i true) s':=hq
  rw [this] at hq
  exact hq
 ·have e1:(List.range its.toArray.size).all (fun i=>bs.getD i true)=bs.all id:=by
   rw [List.size_toArray,<-len]
   rw [Bool.eq_iff_iff,List.all_eq_true,List.all_eq_true]
   constructor
   ·intro h b hb
    obtain ⟨i,hi,rfl⟩:=List.getElem_of_mem hb
    have:=h i (List.mem_range.mpr hi)
    simpa [List.getD,hi] using this
   ·intro h i hi
    have hi':=List.mem_range.mp hi
    have:=h bs[i] (List.getElem_mem hi')
    simpa [List.getD,hi'] using this
  rw [e1]
  exact ⟨.bl (bs.all id),H,I.kept fun b o eb=>hk b o (fun zz=>absurd (Qad eb) (by rw [List.mem_singleton.mp zz]; exact Nat.lt_irrefl _)) (Qac _ eb),rfl,q⟩
end
end L2
namespace L2.L3
open PySem PySem.Spec PyProof.Rows
noncomputable def fLen:DN:=fun xs Q=>∃ ds,(xs=[.list ds]\/xs=[.tuple ds])/\Q (.int ds.length)
theorem oI {K:PySem.W.Frag}:OpN (fun xs H Q=>∃ p ys,xs=[.ref p]/\(SqL K H p ys\/SqT K H p ys)/\Q (.int ys.length) H) fLen where
 mn:=fun _ _ _ k ⟨ds,e,q⟩=>⟨ds,e,k _ q⟩
 ok:=fun O H vs xs Q hO hd ⟨ds,e,q⟩=>by
  rcases e with rfl | rfl
  ·cases hd with
   | cons d r=>
    cases r
    obtain ⟨a,ys,rfl,ha,hy⟩:=d.lst_inv
    exact ⟨a,ys,rfl,.inl (.of (aO ha).1),by rw [hy.length]; exact q _ H (fun _ _ h=>h) (.int _)⟩
  ·cases hd with
   | cons d r=>
    cases r
    obtain ⟨a,ys,rfl,ha,hy⟩:=d.tup_inv
    exact ⟨a,ys,rfl,.inr (.of (aO ha).1),by rw [hy.length]; exact q _ H (fun _ _ h=>h) (.int _)⟩
theorem vE {H:Hp} {vs:List V} {a b:PyData} (h:DVs H vs [a,b]):∃ x y,vs=[x,y]/\DV H x a/\DV H y b:=by
 cases h with | cons d r=>cases r with | cons d' r=>cases r; exact ⟨_,_,rfl,d,d'⟩
theorem vF {H:Hp} {vs:List V} {a:PyData} (h:DVs H vs [a]):∃ x,vs=[x]/\DV H x a:=by
 cases h with | cons d r=>cases r; exact ⟨_,rfl,d⟩
theorem dvs3 {H:Hp} {vs:List V} {a b c:PyData} (h:DVs H vs [a,b,c]):∃ x y z,vs=[x,y,z]/\DV H x a/\DV H y b/\DV H z c:=by
 cases h with | cons d r=>cases r with | cons d' r=>cases r with | cons d'' r=>cases r; exact ⟨_,_,_,rfl,d,d',d''⟩
noncomputable def fMax:DN:=fun xs Q=>∃ i j:Int,xs=[.int i,.int j]/\Q (.int (max i j))
theorem sf:OpN (fun xs H Q=>∃ i j,xs=[.int i,.int j]/\Q (.int (if j > i then j else i)) H) fMax where
 mn:=fun _ _ _ k ⟨i,j,e,q⟩=>⟨i,j,e,k _ q⟩
 ok:=fun O H vs xs Q hO hd ⟨i,j,e,q⟩=>by
  subst e
  obtain ⟨x,y,rfl,h1,h2⟩:=vE hd
  have e:(if j > i then j else i)=max i j:=by split <;> omega
  exact ⟨i,j,by rw [h1.int_inv,h2.int_inv],by rw [e]; exact q _ H (fun _ _ h=>h) (.int _)⟩
noncomputable def fAll:DN:=fun xs Q=>∃ bs:List Bool,xs=[.list (bs.map .bool)]/\Q (.bool (bs.all id))
theorem nJ {H:Hp}:∀ {bs:List Bool} {vs:List V},DVs H vs (bs.map PyData.bool)->vs=bs.map V.bl
 | [],_,h=>by cases h; rfl
 | b :: r,_,h=>by
  cases h with
  | cons d q=>rw [d.bl_inv,nJ q]; rfl
theorem Bt:OpN (fun xs H Q=>∃ (l:Addr) (bs:List Bool),xs=[.ref l]/\H l=some (.lst (bs.map V.bl))/\Q (.bl (bs.all id)) H) fAll where
 mn:=fun _ _ _ k ⟨bs,e,q⟩=>⟨bs,e,k _ q⟩
 ok:=fun O H vs xs Q hO hd ⟨bs,e,q⟩=>by
  subst e
  obtain ⟨x,rfl,h1⟩:=vF hd
  obtain ⟨a,ys,rfl,ha,hy⟩:=h1.lst_inv
  exact ⟨a,bs,rfl,by rw [(aO ha).1,nJ hy],q _ H (fun _ _ h=>h) (.bl _)⟩
noncomputable def lH (as bs cs:List PyData):List PyData:=(as.zip (bs.zip cs)).map fun q=>PyData.tuple [q.1,q.2.1,q.2.2]
noncomputable def dLZ (t:DTA):DT:=fun ρ Q=>t ρ fun ds ρ'=>∃ as bs cs,ds=[.list as,.list bs,.list cs]/\bs.length=as.length/\cs.length=as.length/\0 < as.length/\Q (.list (lH as bs cs)) ρ'
theorem pc:∀ {H:Hp} {vs:List V} {ds:List PyData},vs.length=ds.length->(∀ (i:Nat) v d,vs[i]? = some v->ds[i]? = some d->DV H v d)->DVs H vs ds
 | _,[],[],_,_=>.nil
 | _,[],_ :: _,e,_=>by cases e
 | _,_ :: _,[],e,_=>by cases e
 | H,v :: vs,d :: ds,e,h=>.cons (h 0 v d rfl rfl) (pc (by simpa using e) fun i v' d' e1 e2=>h (i + 1) v' d' (by simpa using e1) (by simpa using e2))
section
variable {X:Cx} {F:Fx} {a b c e:Expr} {te:DT} {tA:DTA} {pos p1 p2 pos2:Pos}
theorem qv (hc:X.calm=true) (hg1:Gl X "list") (hm1:X.mg "list" = none) (hg2:Gl X "zip") (hm2:X.mg "zip" = none) (ha:DA X F [a,b,c] tA)
  (he:starEach [.Call (.Name "zip" p2) [a,b,c] [] pos2] X.env=[(false,eval (.Call (.Name "zip" p2) [a,b,c] [] pos2) X.env)]:=by rfl)
  (hs:starEach [a,b,c] X.env=(false,eval a X.env) :: starEach [b,c] X.env:=by rfl) (hpl:(backTo pos2 (starEach [b,c] X.env)).any (·.1)=false:=by rfl) :
  DE X F (.Call (.Name "list" p1) [.Call (.Name "zip" p2) [a,b,c] [] pos2] [] pos) (dLZ tA):=
 ⟨fun _ _ _ k q=>ha.mn _ _ _ (fun _ _ ⟨x,y,z,e,h1,h2,h3,q⟩=>⟨x,y,z,e,h1,h2,h3,k _ _ q⟩) q,(qu hc hg1 hm1 hg2 hm2 ha.pa he hs hpl).imp fun σ H Q ⟨ρ,O,st,q⟩=>
  ⟨ρ,O,st,ha.mn _ _ _ (fun ds ρ1 ⟨as,bs,cs,e,l1,l2,l3,q1⟩ vs H1 O1 st1 s1 d1=>by
   subst e
   obtain ⟨x,y,z,rfl,h1,h2,h3⟩:=dvs3 d1
   obtain ⟨a1,xs,rfl,ha1,hx⟩:=h1.lst_inv
   obtain ⟨a2,ys,rfl,ha2,hy⟩:=h2.lst_inv
   obtain ⟨a3,zs,rfl,ha3,hz⟩:=h3.lst_inv
   refine ⟨a1,a2,a3,xs,ys,zs,rfl,(aO ha1).1,(aO ha2).1,(aO ha3).1,by rw [hx.length,hy.length]; exact l1,by rw [hx.length,hz.length]; exact l2,by rw [hx.length]; exact l3,fun p H2 qs sm hp hH2 hl hrow=>?_⟩
   have nO:∀ b,H1 b=none->b ∉ O1:=st1.nofree
   refine q1 _ H2 O1 (st1.grow sm) (s1.trans (.same sm)) (.lst (fR hH2 (nO p hp)) (pc ?_ fun i v d e1 e2=>?_))
   ·unfold lH
    rw [List.length_map,List.length_map,List.length_zip,List.length_zip,hl,hx.length]
    omega
   ·rw [List.getElem?_map] at e1
    obtain ⟨qq,e3,e4⟩:=Option.map_eq_some_iff.mp e1
    subst e4
    obtain ⟨x,y,z,g1,g2,g3,g4,g5⟩:=hrow i qq e3
    unfold lH at e2
    rw [List.getElem?_map] at e2
    obtain ⟨⟨d0,d1,d2⟩,e5,e6⟩:=Option.map_eq_some_iff.mp e2
    subst e6
    obtain ⟨e7,e8⟩:=List.getElem?_zip_eq_some.mp e5
    obtain ⟨e9,e10⟩:=List.getElem?_zip_eq_some.mp e8
    obtain ⟨dx,k1,k2⟩:=hx.get' g1
    obtain ⟨dy,k3,k4⟩:=hy.get' g2
    obtain ⟨dz,k5,k6⟩:=hz.get' g3
    have e7':as[i]? = some d0:=e7
    have e9':bs[i]? = some d1:=e9
    have e10':cs[i]? = some d2:=e10
    rw [k1] at e7'; rw [k3] at e9'; rw [k5] at e10'
    cases e7'; cases e9'; cases e10'
    have m:=iU (O:=O1) sm
    exact .tup (fR g5 (nO qq g4)) (.cons (DV.mono m k2) (.cons (DV.mono m k4) (.cons (DV.mono m k6) .nil)))) q⟩⟩
noncomputable def wF (te:DT) (k:Nat):DT:=fun ρ Q=>te ρ fun d ρ'=>∃ ds,d=.list ds/\Q (.list (ds.drop k)) ρ'
theorem xK {k j:Nat} {kp sp:Pos} (he:DE X F e te):DE X F (.Subscript e (.Slice (some (.Constant (.int (k:Int)) j kp)) none none sp) pos) (wF te k):=
 ⟨fun _ _ _ k q=>he.mn _ _ _ (fun _ _ ⟨ds,e,q⟩=>⟨ds,e,k _ _ q⟩) q,(oV qP he.pe (qM tq) qL).imp fun σ H Q ⟨ρ,O,st,q⟩=>
  ⟨ρ,O,st,he.mn _ _ _ (fun d ρ1 ⟨ds,e,q1⟩ v H1 O1 st1 s1 d1=>by
   subst e
   obtain ⟨a,xs,rfl,ha,hx⟩:=d1.lst_inv
   refine ⟨(k:Int),rfl,a,xs,rfl,.of (aO ha).1,fun p hp=>q1 _ _ O1 (st1.grow (aC hp)) (s1.trans (.same (aC hp))) (dP hp (st1.nofree p hp) ?_)⟩
   have:cutV xs (some (k:Int)) none=xs.drop k:=by
    unfold cutV
    rw [HT.sIx_none,HT.sIx_nat]
    by_cases h:k<=xs.length
    ·rw [Nat.min_eq_left h,List.take_of_length_le (by rw [List.length_drop]; exact Qae _)]
    ·rw [Nat.min_eq_right (by omega),List.drop_of_length_le (Qae _),List.drop_of_length_le (by omega)]
     simp
   rw [this]
   exact hx.drop k) q⟩⟩
end
section
variable {X:Cx} {F:Fx} {a b c e:Expr} {te:DT} {tA:DTA} {pos p p1 p2 pos2:Pos} {x:Str} {i:Nat}
noncomputable def wG (i:Nat):DT:=fun ρ Q=>∃ ns,ρ[i]? = some (some (.scr ns))/\(ns.length<=63->Q (.int ns.length) ρ)
theorem qS (hg:Gl X "len") (hm:X.mg "len" = none) (h:PE X (.Name x p1) (fV i)) (he:starEach [.Name x p1] X.env=(false,eval (.Name x p1) X.env) :: starEach [] X.env:=by rfl) (hpl:(backTo pos (starEach [] X.env)).any (·.1)=false:=by rfl) :
  DE X F (.Call (.Name "len" p) [.Name x p1] [] pos) (wG i):=
 ⟨fun _ _ _ k ⟨ns,e,q⟩=>⟨ns,e,fun h=>k _ _ (q h)⟩,(jn dg hg hm PySem.boot_len (ee h fW he) (by decide) (by decide) he hpl).imp fun σ H Q ⟨ρ,O,st,ns,e,q⟩=>by
  obtain ⟨sa,hv,hs⟩:=st.scr e
  refine ⟨_,hv,sa,ns.map V.int,rfl,.inl hs.sq,?_⟩
  rw [List.length_map]
  exact q hs.1 _ H O st .refl (.int _)⟩
noncomputable def dIxS (i:Nat) (te:DT):DT:=fun ρ Q=>∃ ns,ρ[i]? = some (some (.scr ns))/\te ρ fun d ρ'=>∃ k n,d=.int k/\atI ns k=some n/\Q (.int n) ρ'
theorem xL {α β:Type} {g:α->β} {l:List α} {k:Int} {n:α} (h:atI l k=some n):atI (l.map g) k=some (g n):=by
 unfold atI at h ⊢
 rw [List.length_map]
 cases q:ixN l.length k with
 | none=>rw [q] at h; cases h
 | some j=>
  rw [q] at h
  show (l.map g)[j]? = some (g n)
  rw [List.getElem?_map]
  have h:l[j]? = some n:=h
  rw [h]
  rfl
theorem uf (h:PE X (.Name x p1) (fV i)) (he:DE X F e te) (hs:ko e):DE X F (.Subscript (.Name x p1) e pos) (dIxS i te):=
 ⟨fun _ _ _ k ⟨ns,e,q⟩=>⟨ns,e,he.mn _ _ _ (fun _ _ ⟨k',n,e1,e2,q⟩=>⟨k',n,e1,e2,k _ _ q⟩) q⟩,(wz qO h he.pe hs).imp fun σ H Q ⟨ρ,O,st,ns,e,q⟩=>by
  obtain ⟨sa,hv,hs⟩:=st.scr e
  refine ⟨_,hv,ρ,O,st,he.mn _ _ _ (fun d ρ1 ⟨k,n,e1,e2,q1⟩ w H1 O1 st1 s1 d1=>?_) q⟩
  subst e1
  have hs1:Scr X.K H1 sa ns:=hs.mono fun o u q=>s1.keep _ _ (fun z=>by obtain ⟨xs,e,m⟩:=st.live _ z; rw [q] at e; cases e; exact m) q
  exact ⟨sa,ns.map V.int,k,.int n,rfl,d1.int_inv,hs1.sq,xL e2,q1 _ H1 O1 st1 s1 (.int _)⟩⟩
noncomputable def rEqS (K:PySem.W.Frag):R2:=fun x y H Q=>∃ a b ns,x=.ref a/\y=.ref b/\SqL K H a (ns.map V.int)/\H b=some (.lst [])/\Q (.bl (decide (ns=[]))) H
theorem lI {h:Heap}:∀ {ns:List Int} {us:List Value},Vals (ns.map V.int) us->∃ as,ReadsAll h us (ns.map PyData.int) as
 | [],_,r=>by cases r; exact ⟨_,.nil⟩
 | n :: ns,_,r=>by
  cases r with
  | cons r1 r=>
   obtain ⟨t,rfl⟩:=r1
   obtain ⟨as,q⟩:=lI r
   exact ⟨_,.cons (.int n t) q⟩
theorem Ad (hu:X.A.units + 64 < cLine):OpR X (compareOp .Eq) (rEqS X.K):=by
 intro pins s σ H x y v u Q I rx ry h
 obtain ⟨a,b,ns,rfl,rfl,h1,h2,q⟩:=h
 cases rx; cases ry
 obtain ⟨its,rv,⟨o,n,e,c1,_,d1⟩,hz⟩:=I.list h1
 obtain ⟨_,its2,n2,rv2,e2⟩:=I.hok _ _ h2
 cases rv2
 obtain ⟨as,ra⟩:=lI (h:=s.heap) rv
 have e3:PyData.eqv (.list (ns.map .int)) (.list [])=decide (ns=[]):=by cases ns <;> rfl
 refine eq_dataH (reads_list_at e c1 d1 (by simpa using ra)) (reads_list_at (xs:=[]) e2 rfl rfl .nil) ?_ (by decide) hu (by rw [e3]; exact ⟨.bl _,H,I,rfl,q⟩)
 unfold SeqAt.shaped
 have c0:PyData.canLay0 (.list (ns.map .int))=true:=by
  have:∀ ns:List Int,PyData.canLayAll0 (ns.map .int)=true:=fun ns=>by
   induction ns with
   | nil=>rfl
   | cons n r ih=>rw [List.map_cons]; simp only [PyData.canLayAll0,PyData.canLay0,ih,Bool.and_self]
  simp only [PyData.canLay0,this]
 have dp:PyData.depth (.list (ns.map .int))<=64:=by
  have:∀ ns:List Int,PyData.depthAll (ns.map .int)<=1:=fun ns=>by
   induction ns with
   | nil=>simp [PyData.depthAll]
   | cons n r ih=>rw [List.map_cons]; simp only [PyData.depthAll,PyData.depth]; omega
  have:=this ns
  simp only [PyData.depth]
  omega
 rw [c0,Bool.true_and]
 exact decide_eq_true dp
noncomputable def dEqS (i:Nat):DTT:=fun ρ Q=>∃ ns,ρ[i]? = some (some (.scr ns))/\Q (decide (ns=[])) ρ
theorem Ae {lp:Pos} (hu:X.A.units + 64 < cLine) (h:PE X (.Name x p1) (fV i)):DB X F (.Compare (.Name x p1) [.Eq] [.List [] lp] pos) (dEqS i):=
 ⟨fun _ _ _ k ⟨ns,e,q⟩=>⟨ns,e,k _ _ q⟩,(qJ (Ad hu) h (oS fW) (dX _)).imp fun σ H Q ⟨ρ,O,st,ns,e,q⟩=>by
  obtain ⟨sa,hv,hs⟩:=st.scr e
  refine ⟨_,hv,Nat.zero_le _,fun p hp=>⟨sa,p,ns,rfl,rfl,(aC hp).seq hs.sq,bP,_,rfl,q _ O (st.grow (aC hp)) (.same (aC hp))⟩⟩⟩
end
structure FD (K:PySem.W.Frag) (mg:Str->Option Value) (x:Str) (st:Stmt) (ps:List Str) (g:Addr) (fd:FuncData):Prop where
 fn:Fun K x x st g fd
 mgf:mg x=some (.ref g)
 b:Binds K fd ps []
section
variable {X:Cx} {scope:Scope} {own capN:List Str} {caps:List Nat}
theorem CompScope.of (h1:scope.kind=.function:=by rfl) (h2:(scope.names.all fun y=>y.2 != .cell)=true:=by rfl)
  (h3:(scope.names.all fun y=>y.2 != .free || (X.env.kindOf y.1 == some .cell || X.env.kindOf y.1 == some .free))=true:=by rfl)
  (h4:(scope.names.all fun y=>y.2 != .local || scope.names.lookup y.1 == some .local)=true:=by rfl) (h5:caps.map (fun j=>X.N[j]?)=capN.map some:=by rfl)
  (h6:(capN.all fun x=>scope.names.lookup x == some .free)=true:=by rfl):CompScope X scope own capN caps where
 kind:=h1
 nocell:=fun y hy e=>by
  have:=List.all_eq_true.mp h2 y hy
  rw [e] at this
  exact absurd this (by decide)
 free:=fun y hy e=>by
  have:=List.all_eq_true.mp h3 y hy
  rw [e] at this
  rw [Bool.or_eq_true] at this
  rcases this with z | z
  ·exact absurd z (by decide)
  ·rw [Bool.or_eq_true] at z
   exact z.imp (fun z=>eq_of_beq z) fun z=>eq_of_beq z
 loc:=fun y hy e=>by
  have:=List.all_eq_true.mp h4 y hy
  rw [e] at this
  rw [Bool.or_eq_true] at this
  rcases this with z | z
  ·exact absurd z (by decide)
  ·exact eq_of_beq z
 caps:=h5
 capf:=fun x hx=>eq_of_beq (List.all_eq_true.mp h6 x hx)
end
section
variable {X:Cx} {F:Fx} {a b c e:Expr} {ta tb tc:DT} {pos:Pos}
noncomputable abbrev qI (g:Int->Int->Int):D2:=fI (fun _ _=>True) fun i j=>.int (g i j)
noncomputable abbrev qB (g:Int->Int->Bool):D2:=fI (fun _ _=>True) fun i j=>.bool (g i j)
theorem Af (ha:DE X F a ta) (hb:DE X F b tb):DE X F (.BinOp a .Add b pos) (dOp (qI fun i j=>i + j) ta tb):=iW zd (iw fun _ _ _=>.int _) ha hb
theorem Ag (ha:DE X F a ta) (hb:DE X F b tb):DE X F (.BinOp a .Sub b pos) (dOp (qI fun i j=>i - j) ta tb):=iW ze (iw fun _ _ _=>.int _) ha hb
theorem Ah (ha:DE X F a ta) (hb:DE X F b tb):DE X F (.BinOp a .Mult b pos) (dOp (fI CMul fun i j=>.int (i * j)) ta tb):=iW zg (oH fun _ _ _=>.int _) ha hb
theorem Ai (ha:DE X F a ta) (hb:DE X F b tb):DE X F (.BinOp a .FloorDiv b pos) (dOp (fI u6 fun i j=>.int (i / j)) ta tb):=iW w9 (oH fun _ _ _=>.int _) ha hb
theorem Aj (ha:DE X F a ta) (hb:DE X F b tb):DE X F (.BinOp a .Mod b pos) (dOp (fI (fun _ j=>0 < j) fun i j=>.int (i % j)) ta tb):=iW zh (oH fun _ _ _=>.int _) ha hb
theorem Ak (ha:DE X F a ta) (hb:DE X F b tb):DE X F (.BinOp a .Add b pos) (dOp rX ta tb):=iW zy zI ha hb
theorem Bu (ha:DE X F a ta) (hb:DE X F b tb):DE X F (.Compare a [.Lt] [b] pos) (dOp (qB fun i j=>decide (i < j)) ta tb):=oZ ww (iw fun _ _ _=>.bl _) ha hb (dX _)
theorem Bv (ha:DE X F a ta) (hb:DE X F b tb):DB X F (.Compare a [.Lt] [b] pos) (dTst (dOp (qB fun i j=>decide (i < j)) ta tb)):=fZ ww (iw fun _ _ _=>.bl _) ha hb (dX _)
theorem Bw (ha:DE X F a ta) (hb:DE X F b tb):DB X F (.Compare a [.LtE] [b] pos) (dTst (dOp (qB fun i j=>decide (i<=j)) ta tb)):=fZ rP (iw fun _ _ _=>.bl _) ha hb (dX _)
theorem By (ha:DE X F a ta) (hb:DE X F b tb):DB X F (.Compare a [.Gt] [b] pos) (dTst (dOp (qB fun i j=>decide (j < i)) ta tb)):=fZ A9 (iw fun _ _ _=>.bl _) ha hb (dX _)
theorem Bz (ha:DE X F a ta) (hb:DE X F b tb):DB X F (.Compare a [.GtE] [b] pos) (dTst (dOp (qB fun i j=>decide (j<=i)) ta tb)):=fZ Ba (iw fun _ _ _=>.bl _) ha hb (dX _)
theorem BA (hu:X.A.units + 64 < cLine) (ha:DE X F a ta) (hb:DE X F b tb):DE X F (.Compare a [.Eq] [b] pos) (dOp (fEq false) ta tb):=oZ (tR hu) vm ha hb (dX _)
theorem BB (hu:X.A.units + 64 < cLine) (ha:DE X F a ta) (hb:DE X F b tb):DB X F (.Compare a [.Eq] [b] pos) (dTst (dOp (fEq false) ta tb)):=fZ (tR hu) vm ha hb (dX _)
theorem BC (hu:X.A.units + 64 < cLine) (ha:DE X F a ta) (hb:DE X F b tb):DB X F (.Compare a [.NotEq] [b] pos) (dTst (dOp (fEq true) ta tb)):=fZ (zG hu) vm ha hb (dX _)
theorem Al (ha:DE X F a ta) (hb:DE X F b tb):DE X F (.Compare a [.Is] [b] pos) (dOp fIs ta tb):=oZ tH o_is ha hb (dX _)
theorem Am (ha:DE X F a ta) (hb:DE X F b tb):DB X F (.Compare a [.Is] [b] pos) (dTst (dOp fIs ta tb)):=fZ tH o_is ha hb (dX _)
theorem xM (ha:DE X F a ta) (hb:DE X F b tb):DB X F (.Compare a [.IsNot] [b] pos) (dTst (dOp o5 ta tb)):=fZ xa xn ha hb (dX _)
theorem xN (ha:DE X F a ta) (hb:DE X F b tb) (hc:DE X F c tc) (hm:lastMarks [.LtE,.LtE] [b,c]=false:=by with_unfolding_all rfl):DE X F (.Compare a [.LtE,.LtE] [b,c] pos) (o6 (fun i j=>decide (i<=j)) (fun i j=>decide (i<=j)) ta tb tc):=vn rP rP ha hb hc hm
theorem cV {x:Str} {i:Int} {t:Tok} (hg:Gl X x) (hm:X.mg x=some (.int i t)) (hd:(x == ("__debug__":Str))=false:=by decide):DE X F (.Name x pos) (dC (.int i)):=iu (v:=.int i) (wW hg hm ⟨t,rfl⟩ hd) fun _=>.int i
mutual
theorem pd:∀ (d:PyData),d.canLay0=true->PyData.eqv d d=true
 | .none,_=>rfl
 | .bool b,_=>by simp [PyData.eqv]
 | .int i,_=>by simp [PyData.eqv]
 | .str s,_=>by simp [PyData.eqv]
 | .list xs,h=>by rw [PyData.eqv]; exact i7 xs (by simpa [PyData.canLay0] using h)
 | .tuple xs,h=>by rw [PyData.eqv]; exact i7 xs (by simpa [PyData.canLay0] using h)
 | .dict kvs,h=>by simp [PyData.canLay0] at h
theorem i7:∀ (ds:List PyData),PyData.canLayAll0 ds=true->PyData.eqvAll ds ds=true
 | [],_=>rfl
 | x :: xs,h=>by
  simp only [PyData.canLayAll0,Bool.and_eq_true] at h
  rw [PyData.eqvAll,pd x h.1,i7 xs h.2]
  rfl
end
theorem lJ {d:PyData} (h:SeqAt.shaped d=true):PyData.eqv d d=true:=pd d (SeqAt.canLay_of_shaped h)
end
end L2.L3
namespace L2
open PySem PySem.Spec PyProof.Rows
section
variable {X:Cx}
noncomputable def ug (K:PySem.W.Frag):R2:=fun x y H Q=>∃ a b xs ys,x=.ref a/\y=.ref b/\SqT K H a xs/\SqT K H b ys/\xs.length + ys.length<=sizeLine/\
 (xs=[]->Q (.ref b) H)/\(xs ≠ []->ys=[]->Q (.ref a) H)/\(xs ≠ []->ys ≠ []->∀ p,H p=none->Q (.ref p) (upd H p (.tup (xs ++ ys))))
theorem vG:OpR X (binaryOp .Add) (ug X.K):=by
 intro pins s σ H x y v u Q I rx ry h
 obtain ⟨a,b,xs,ys,rfl,rfl,ha,hb,hz,q0,q1,q2⟩:=h
 by_cases hx:xs=[]
 ·subst hx
  cases rx
  cases ry
  obtain ⟨its,r1,p1,_⟩:=I.tuple ha
  obtain ⟨its2,r2,p2,_⟩:=I.tuple hb
  have e1:its=[]:=r1.nil_iff.mpr rfl
  subst e1
  obtain ⟨⟨cls,dd,data,sl⟩,ho,hc,n,hd⟩:=id p1
  obtain ⟨⟨cls2,dd2,data2,sl2⟩,ho2,hc2,n2,hd2⟩:=id p2
  simp only at hc hd hc2 hd2
  subst hc hd hc2 hd2
  exact concat_meets ⟨_,ho,rfl⟩ ⟨_,ho2,rfl⟩ noFill_tuple_add seq_tuple_add PySem.F.slot_tuple_add PySem.F.entry_tuple_add (PySem.F.args_tuple_add_2 _ _)
   (tuple_addW0 a b [].toArray its2.toArray n n2 dd dd2 sl sl2 rfl) ⟨ho,ho2,.ref b,H,I,rfl,q0 rfl⟩
 ·exact xh pins s σ H _ _ v u Q I rx ry ⟨a,b,xs,ys,rfl,rfl,ha,hb,hx,hz,q1 hx,q2 hx⟩
end
end L2
namespace L2.L3
open PySem PySem.Spec PyProof.Rows
section
variable {X:Cx} {F:Fx} {a b:Expr} {ta tb:DT} {pos:Pos}
theorem An {K:PySem.W.Frag}:Op2 (ug K) rY where
 mn:=fun _ _ _ _ k ⟨ds,es,e1,e2,e3,q⟩=>⟨ds,es,e1,e2,e3,k _ q⟩
 ok:=fun O H u v x y Q hO h1 h2 ⟨ds,es,e1,e2,e3,q⟩=>by
  subst e1 e2
  obtain ⟨a,xs,rfl,ha,hd⟩:=h1.tup_inv
  obtain ⟨b,ys,rfl,hb,he⟩:=h2.tup_inv
  refine ⟨a,b,xs,ys,rfl,rfl,.of (aO ha).1,.of (aO hb).1,by rw [hd.length,he.length]; exact e3,fun z=>?_,fun _ z=>?_,fun _ _ p hp=>q _ _ (aC hp) (fY hp (hO p hp) (hd.append he))⟩
  ·subst z
   cases hd
   exact q _ H (fun _ _ h=>h) (.tup hb he)
  ·subst z
   cases he
   rw [List.append_nil] at q
   exact q _ H (fun _ _ h=>h) (.tup ha hd)
theorem xO (ha:DE X F a ta) (hb:DE X F b tb):DE X F (.BinOp a .Add b pos) (dOp rY ta tb):=iW vG An ha hb
end
section
variable {X:Cx} {F:Fx} {a b:Expr} {ta tb:DT} {pos:Pos} {q:PyData->Prop}
theorem Ao (ha:DE X F a ta) (hb:DE X F b tb):DE X F (.BinOp a .Pow b pos) (dOp (fI u7 fun i j=>.int (i ^ j.toNat)) ta tb):=iW zi (oH fun _ _ _=>.int _) ha hb
theorem jV {H:Hp}:∀ {ns:List Int} {vs:List V},DVs H vs (ns.map PyData.int)->vs=ns.map V.int
 | [],_,h=>by cases h; rfl
 | b :: r,_,h=>by
  cases h with
  | cons d q=>rw [d.int_inv,jV q]; rfl
end
end L2.L3
namespace L2
open PySem PySem.Spec PyProof.Rows
section
variable {X:Cx} {a b c e k:Expr} {t:TA} {te:TE} {tk:TO} {pos pos2 p1 p2:Pos}
noncomputable def cnt3 (a b c:Int):Nat:=(if a < b then (b - a - 1) / c + 1 else 0).toNat
noncomputable def tLR3 (t:TA):TE:=fun σ H Q=>t σ H fun vs H1=>∃ i j k:Int,vs=[.int i,.int j,.int k]/\(0<=i/\i<=2 ^ 20)/\(0<=j/\j<=2 ^ 20)/\(0 < k/\k<=2 ^ 20)/\∀ p,H1 p=none->Q (.ref p) (upd H1 p (.lst ((List.range (cnt3 i j k)).map fun (m:Nat)=>V.int (i + m * k))))
theorem wH {i j k:Int} (hi:0<=i/\i<=2 ^ 20) (hj:0<=j/\j<=2 ^ 20) (hk:0 < k/\k<=2 ^ 20):Builtin.Range.rangeSize i j k=cnt3 i j k/\cnt3 i j k<=2 ^ 20:=by
 unfold Builtin.Range.rangeSize cnt3
 rw [if_pos (show k > 0 from hk.1)]
 by_cases h:i < j
 ·rw [if_pos h]
  have h1:0<=(j - i - 1) / k:=Int.ediv_nonneg (by omega) (by omega)
  have h2:(j - i - 1) / k<=j - i - 1:=Int.ediv_le_self _ (by omega)
  omega
 ·rw [if_neg h]
  exact ⟨rfl,by decide⟩
theorem Ap {i j k:Int} (hi:0<=i/\i<=2 ^ 20) (hj:0<=j/\j<=2 ^ 20) (hk:0 < k/\k<=2 ^ 20):Builtin.Range.small i j k=true:=by
 obtain ⟨e1,e2⟩:=wH hi hj hk
 unfold Builtin.Range.small
 rw [e1]
 simp only [Builtin.Range.rangeFitsLong,Bool.and_eq_true,Bool.or_eq_true,decide_eq_true_eq,beq_iff_eq,show k > 0 from hk.1,if_true]
 omega
theorem xP {i k:Int}:∀ (n:Nat) (l:List Value) (z:Nat),l.length=n->(∀ (m:Nat) v,l[m]? = some v->∃ t,v=Value.int (i + ((z + m:Nat):Int) * k) t)->Vals ((List.range n).map fun (m:Nat)=>V.int (i + ((z + m:Nat):Int) * k)) l:=by
 intro n
 induction n with
 | zero=>intro l z hl _; cases l with | nil=>exact .nil | cons _ _=>cases hl
 | succ n ih=>
  intro l z hl hv
  cases l with
  | nil=>cases hl
  | cons v l=>
   rw [List.range_succ_eq_map,List.map_cons,List.map_map]
   refine .cons (hv 0 v rfl) ?_
   have:=ih l (z + 1) (by simpa using hl) fun m w e=>by
    obtain ⟨t,e'⟩:=hv (m + 1) w (by simpa using e)
    exact ⟨t,by rw [e',show z + (m + 1)=z + 1 + m by omega]⟩
   have ef:(fun (m:Nat)=>V.int (i + ((z + 1 + m:Nat):Int) * k))=((fun (m:Nat)=>V.int (i + ((z + m:Nat):Int) * k)) ∘ Nat.succ):=by
    funext m
    show V.int _=V.int _
    rw [show z + 1 + m=z + Nat.succ m by omega]
   rw [ef] at this
   exact this
theorem oo (hc:X.calm=true) (hg1:Gl X "list") (hm1:X.mg "list" = none) (hg2:Gl X "range") (hm2:X.mg "range" = none) (ha:PA X [a,b,c] t)
  (he:starEach [.Call (.Name "range" p2) [a,b,c] [] pos2] X.env=[(false,eval (.Call (.Name "range" p2) [a,b,c] [] pos2) X.env)]:=by rfl)
  (hs:starEach [a,b,c] X.env=(false,eval a X.env) :: starEach [b,c] X.env:=by rfl) (hpl:(backTo pos2 (starEach [b,c] X.env)).any (·.1)=false:=by rfl) :
  PE X (.Call (.Name "list" p1) [.Call (.Name "range" p2) [a,b,c] [] pos2] [] pos) (tLR3 t):=by
 intro pins s σ H Q I h
 refine wpAny_Call_Name_kw (eG I hg1 hm1 (show bootBuiltins "list" = some (.type "list") by decide +kernel) ?_ (by decide) (by decide))
 refine PyProof.Rows.callWith_type1 ?_ (by rw [he]; rfl) rfl
 rw [he]
 show wpAny _ _ (spliced [(false,eval (.Call (.Name "range" p2) [a,b,c] [] pos2) X.env)]) _ _ s
 refine Calls.spliced_cons ?_
 refine wpAny_Call_Name_kw (eG I hg2 hm2 boot_range ?_ (by decide) (by decide))
 refine PyProof.Rows.callWith_type1 (thn (ha pos2 pins s σ H _ I h) fun us s1 ⟨vs,H1,I1,r1,q1⟩=>?_) hs hpl
 obtain ⟨i,j,k,rfl,hi,hj,hk,q⟩:=q1
 obtain ⟨u1,u2,u3,rfl,⟨t1,rfl⟩,⟨t2,rfl⟩,⟨t3,rfl⟩⟩:=wE r1
 refine call_range_3 (by omega) ?_ (.inl (PyProof.noPylong_small (by omega)))
 refine Calls.spliced_nil ?_
 have I2:Inv X pins σ H1 { s1 with heap:=s1.heap.push { cls:=.type "range",data:=.fields #[.int i t1,.int j t2,.int k t3] },toks:=s1.toks }:=I1.kept fun b o e=>Qac _ e
 obtain ⟨e1,e2⟩:=wH hi hj hk
 refine call_list_range (s:={ s1 with heap:=s1.heap.push { cls:=.type "range",data:=.fields #[.int i t1,.int j t2,.int k t3] },toks:=s1.toks }) (n:=cnt3 i j k) (I1.ok.hd hc) (IsRange.new ..) (Ap hi hj hk) e1 (Nat.le_trans e2 (by decide)) fun h' tk' acc c hk' hS hacc=>?_
 have hz:((List.range (cnt3 i j k)).map fun (m:Nat)=>V.int (i + m * k)).length<=sizeLine:=by rw [List.length_map,List.length_range,sizeLine_eq]; omega
 have vals:Vals ((List.range (cnt3 i j k)).map fun (m:Nat)=>V.int (i + m * k)) acc.toList:=by
  obtain ⟨hl,hit⟩:=hacc
  have:=xP (i:=i) (k:=k) (cnt3 i j k) acc.toList 0 (by rw [Array.length_toList]; exact hl) fun m v e=>by
   obtain ⟨t,e'⟩:=hit m v (by simpa using e)
   exact ⟨t,by rw [e',Nat.zero_add]⟩
  simpa using this
 exact ⟨.ref (s1.heap.push { cls:=.type "range",data:=.fields #[.int i t1,.int j t2,.int k t3] }).objs.size,_,I2.laid (o:=.lst ((List.range (cnt3 i j k)).map fun (m:Nat)=>V.int (i + m * k))) hk' (Qae _) ⟨hz,acc.toList,c,vals,by simpa using hS⟩,rfl,q _ (I2.hok.fresh (Qae _))⟩
end
end L2
namespace L2.L3
open PySem PySem.Spec PyProof.Rows
section
variable {X:Cx} {F:Fx} {a b c e k:Expr} {te:DT} {tA:DTA} {pos pos2 p1 p2:Pos} {q:PyData->Prop} {ρ:DEnv} {Q:PyData->DEnv->Prop}
noncomputable def dLR3 (t:DTA):DT:=fun ρ Q=>t ρ fun ds ρ'=>∃ i j k:Int,ds=[.int i,.int j,.int k]/\((0<=i/\i<=2 ^ 20)/\(0<=j/\j<=2 ^ 20)/\(0 < k/\k<=2 ^ 20))/\Q (.list ((List.range (cnt3 i j k)).map fun (m:Nat)=>.int (i + m * k))) ρ'
theorem oq (hc:X.calm=true) (hg1:Gl X "list") (hm1:X.mg "list" = none) (hg2:Gl X "range") (hm2:X.mg "range" = none) (ha:DA X F [a,b,c] tA)
  (he:starEach [.Call (.Name "range" p2) [a,b,c] [] pos2] X.env=[(false,eval (.Call (.Name "range" p2) [a,b,c] [] pos2) X.env)]:=by rfl)
  (hs:starEach [a,b,c] X.env=(false,eval a X.env) :: starEach [b,c] X.env:=by rfl) (hpl:(backTo pos2 (starEach [b,c] X.env)).any (·.1)=false:=by rfl) :
  DE X F (.Call (.Name "list" p1) [.Call (.Name "range" p2) [a,b,c] [] pos2] [] pos) (dLR3 tA):=
 ⟨fun _ _ _ k q=>ha.mn _ _ _ (fun _ _ ⟨x,y,z,e,h1,q⟩=>⟨x,y,z,e,h1,k _ _ q⟩) q,(oo hc hg1 hm1 hg2 hm2 ha.pa he hs hpl).imp fun σ H Q ⟨ρ,O,st,q⟩=>
  ⟨ρ,O,st,ha.mn _ _ _ (fun ds ρ1 ⟨i,j,k,e,⟨h0,h1,h2⟩,q1⟩ vs H1 O1 st1 s1 d1=>by
   subst e
   obtain ⟨x,y,z,rfl,hx,hy,hz⟩:=dvs3 d1
   refine ⟨i,j,k,by rw [hx.int_inv,hy.int_inv,hz.int_inv],h0,h1,h2,fun p hp=>q1 _ _ O1 (st1.grow (aC hp)) (s1.trans (.same (aC hp))) (dP hp (st1.nofree p hp) (pc (by simp) fun n v d e1 e2=>?_))⟩
   rw [List.getElem?_map] at e1 e2
   obtain ⟨m,e3,e4⟩:=Option.map_eq_some_iff.mp e1
   obtain ⟨m',e5,e6⟩:=Option.map_eq_some_iff.mp e2
   rw [e3] at e5
   cases e5
   subst e4 e6
   exact .int _) q⟩⟩
end
section
variable {X:Cx} {F:Fx} {a b:Expr} {ta tb:DT} {pos:Pos} {q:PyData->Prop}
noncomputable def fIn (neg:Bool):D2:=fun x y Q=>∃ (i:Int) (ns:List Int),x=.int i/\y=.list (ns.map .int)/\Q (.bool (if neg then !decide (i ∈ ns) else decide (i ∈ ns)))
theorem pf (i:Int):∀ ns:List Int,inV (.int i) (ns.map V.int)=decide (i ∈ ns)
 | []=>by simp [inV]
 | n :: r=>by
  have ih:=pf i r
  unfold inV at ih ⊢
  rw [List.map_cons,List.any_cons,ih]
  show ((n == i) || decide (i ∈ r))=decide (i ∈ n :: r)
  by_cases e:n=i
  ·subst e; simp
  ·have e':¬ i=n:=fun z=>e z.symm
   simp [e,e']
theorem nK:∀ ns:List Int,(ns.map V.int).all hW=true
 | []=>rfl
 | _ :: r=>by rw [List.map_cons,List.all_cons,nK r]; rfl
theorem o_in {K:PySem.W.Frag} {neg:Bool}:Op2 (rIn K neg) (fIn neg) where
 mn:=fun _ _ _ _ k ⟨i,n,e1,e2,q⟩=>⟨i,n,e1,e2,k _ q⟩
 ok:=fun O H u v x y Q hO h1 h2 ⟨i,ns,e1,e2,q⟩=>by
  subst e1 e2
  obtain ⟨b,ys,rfl,hb,he⟩:=h2.lst_inv
  have ey:=jV he
  subst ey
  rw [h1.int_inv]
  refine ⟨b,_,rfl,.inl (.of (aO hb).1),rfl,nK ns,?_⟩
  rw [pf]
  exact q _ H (fun _ _ h=>h) (.bl _)
theorem BD (ha:DE X F a ta) (hb:DE X F b tb) (hm:lastMarks [.In] [b]=false:=by with_unfolding_all rfl):DB X F (.Compare a [.In] [b] pos) (dTst (dOp (fIn false) ta tb)):=fZ tN o_in ha hb hm
end
end L2.L3
namespace L2
open PySem PySem.Spec PyProof.Rows
section
variable {X:Cx}
noncomputable def wI:List V->Hp->VK->Prop:=fun xs H Q=>∃ (l:Addr) (ns:List Int),xs=[.ref l]/\H l=some (.lst (ns.map V.int))/\ns ≠ []/\∀ M,M ∈ ns->(∀ a,a ∈ ns->a<=M)->Q (.int M) H
theorem uh (hc:X.calm=true):iQ X (.builtin "max") wI:=by
 intro pins s σ H xs us Q I r h
 obtain ⟨l,ns,rfl,hl,hne,q⟩:=h
 obtain ⟨u,rfl,ru⟩:=iR r
 cases ru
 obtain ⟨z,its,n,rv,e⟩:=I.hok _ _ hl
 have L:s.heap.IsList l its.toArray:=⟨_,e,rfl,_,rfl⟩
 have hlt:l < s.heap.objs.size:=Qad e
 have len:=rv.length
 rw [List.length_map] at len
 have hp:0 < ns.length:=List.length_pos_iff.mpr hne
 have at_:∀ (i:Nat) (v:Value),its.toArray[i]? = some v->∃ t,v=.int (ns.getD i 0) t:=by
  intro i v hv
  have hi:its[i]? = some v:=by simpa using hv
  have hlt:i < ns.length:=by rw [len]; exact (List.getElem?_eq_some_iff.mp hi).1
  obtain ⟨w,hw,rw'⟩:=rv.get (i:=i) (x:=.int ns[i]) (by rw [List.getElem?_map,List.getElem?_eq_getElem hlt]; rfl)
  rw [hi] at hw
  cases hw
  cases rw'
  rename_i tk0 etk
  refine ⟨tk0,etk.trans ?_⟩
  congr 1
  simp [List.getD,hlt]
 refine call_max_walk (wpAny_pyIter_list L ?_)
 refine ⟨s.heap.objs.size,_,_,_,_,_,_,rfl,Walks.list (A:=X.A.in1) (show X.A.in1.handled=none from I.ok.hd hc) s.heap.objs.size l (Nat.ne_of_lt hlt) its.toArray,⟨⟨_,Heap.get?_push_size _ rfl,rfl,rfl⟩,L.push _⟩,?_,?_,CmpOf.ints_gt (fun i=>ns.getD i 0) at_,fun v h' tk hP hk=>?_⟩
 ·intro b hb
  rcases List.mem_cons.mp hb with rfl | hb
  ·show _ < (s.heap.push _).objs.size
   rw [Heap.size_push]; exact Nat.lt_succ_self _
  ·rw [List.mem_singleton.mp hb]
   show _ < (s.heap.push _).objs.size
   rw [Heap.size_push]; exact Nat.lt_succ_of_lt hlt
 ·rw [List.size_toArray,<-len]; exact hp
 ·rw [List.size_toArray,<-len] at hP
  obtain ⟨t,rfl⟩:=at_ _ _ hP
  obtain ⟨h1,h2⟩:=argBest_gt (fun i=>ns.getD i 0) (ns.length - 1)
  refine ⟨.int _,H,I.kept fun b o eb=>hk b o (fun zz=>absurd (Qad eb) (by rw [List.mem_singleton.mp zz]; exact Nat.lt_irrefl _)) (Qac _ eb),⟨_,rfl⟩,q _ ?_ fun a ha=>?_⟩
  ·rw [PySem.getD_at (by omega)]; exact List.getElem_mem _
  ·obtain ⟨j,hj,rfl⟩:=List.getElem_of_mem ha
   have:=h2 j (by omega)
   simp only [PySem.getD_at hj] at this
   exact this
end
end L2
namespace L2.L3
open PySem PySem.Spec PyProof.Rows
section
variable {q:PyData->Prop}
noncomputable def wJ:DN:=fun xs Q=>∃ ns:List Int,xs=[.list (ns.map .int)]/\ns ≠ []/\∀ M,M ∈ ns->(∀ a,a ∈ ns->a<=M)->Q (.int M)
theorem Aq:OpN wI wJ where
 mn:=fun _ _ _ k ⟨bs,e,h,q⟩=>⟨bs,e,h,fun M h1 h2=>k _ (q M h1 h2)⟩
 ok:=fun O H vs xs Q hO hd ⟨ns,e,h,q⟩=>by
  subst e
  obtain ⟨x,rfl,h1⟩:=vF hd
  obtain ⟨a,ys,rfl,ha,hy⟩:=h1.lst_inv
  exact ⟨a,ns,rfl,by rw [(aO ha).1,jV hy],h,fun M h1 h2=>q M h1 h2 _ H (fun _ _ h=>h) (.int _)⟩
end
section
variable {X:Cx} {F:Fx} {tA:DTA} {ρ:DEnv} {N B C:DEnv->Prop} {R:PyData->DEnv->Prop}
noncomputable def par2 (i j:Nat) (N:DEnv->Prop) (ds:List PyData) (ρ':DEnv):Prop:=∃ x y,ds=[x,y]/\N ((ρ'.set i (some (.dat x))).set j (some (.dat y)))
noncomputable def sPar (i j:Nat) (tA:DTA):DTS:=fun D ρ=>tA ρ fun ds ρ'=>par2 i j D.nx ds ρ'
theorem Ar {i j:Nat} {x y:Str} {a b:Expr} {px py pt pos:Pos} {kt k2 pt2} (hc:X.calm=true) (hN:X.N.Nodup) (hi:X.N[i]? = some x) (hj:X.N[j]? = some y) (hij:i ≠ j)
  (hx:X.env.scope.names.lookup x=some .local) (hy:X.env.scope.names.lookup y=some .local) (ha:DA X F [a,b] tA)
  (hw:swappedStores [.Tuple [.Name x px,.Name y py] kt pt] (.Tuple [a,b] k2 pt2) X.env=pure (some [x,y]):=by rfl)
  (hs:swapsWithSole [.Tuple [.Name x px,.Name y py] kt pt] (.Tuple [a,b] k2 pt2) pos.line X.env=pure false:=by rfl) :
  DS X F (.Assign [.Tuple [.Name x px,.Name y py] kt pt] (.Tuple [a,b] k2 pt2) pos) (sPar i j tA):=
 (yZ hc hN hi hj hij hx hy ha.pa hw hs).imp fun D σ H ⟨ρ,O,DD,st,q,f⟩=>⟨ρ,O,st,ha.mn _ _ _ (fun ds ρ1 ⟨d1,d2,e,q1⟩ vs H1 O1 st1 s1 dd=>by
  subst e
  obtain ⟨v,w,rfl,h1,h2⟩:=vE dd
  exact ⟨v,w,rfl,f.nx _ H1 _ O1 ((st1.set h1).set h2) s1 q1⟩) q⟩
end
inductive Out (α:Type) where
 | ok (a:α) (ρ:DEnv) | ex (c:Str) (ρ:DEnv) | bad
@[simp] noncomputable def Out.bind {α β:Type} (o:Out α) (k:α->DEnv->Out β):Out β:=match o with
 | .ok a ρ=>k a ρ
 | .ex c ρ=>.ex c ρ
 | .bad=>.bad
@[simp] noncomputable def bR {α:Type} (o:Option α) (ρ:DEnv):Out α:=match o with
 | some a=>.ok a ρ
 | none=>.bad
noncomputable abbrev XM (α:Type):=DEnv->Out α
noncomputable def wp {α:Type} (E:Str->DEnv->Prop) (m:XM α):DEnv->(α->DEnv->Prop)->Prop:=fun ρ Q=>match m ρ with
 | .ok a ρ'=>Q a ρ'
 | .ex c ρ'=>E c ρ'
 | .bad=>False
section
variable {α β:Type} {E:Str->DEnv->Prop}
theorem aj {m:XM α}:∀ ρ (Q Q':α->DEnv->Prop),(∀ d ρ',Q d ρ'->Q' d ρ')->wp E m ρ Q->wp E m ρ Q':=fun ρ Q Q' k q=>by
 unfold wp at q ⊢
 generalize m ρ=o at q ⊢
 cases o with
 | ok a ρ'=>exact k _ _ q
 | ex c ρ'=>exact q
 | bad=>exact q
theorem aD {m:XM α} {k:α->XM β} {ρ:DEnv} {Q:β->DEnv->Prop} (h:wp E (fun ρ=>(m ρ).bind k) ρ Q):wp E m ρ fun a ρ'=>wp E (k a) ρ' Q:=by
 unfold wp at h ⊢
 unfold Out.bind at h
 simp only at h
 generalize m ρ=o at h ⊢
 cases o with
 | ok a ρ'=>exact h
 | ex c ρ'=>exact h
 | bad=>exact h
theorem aY {o:Option α} {ρ:DEnv} {Q:α->DEnv->Prop} (h:wp E (bR o) ρ Q):∃ a,o=some a/\Q a ρ:=by
 unfold wp bR at h
 cases o with
 | some a=>exact ⟨a,rfl,h⟩
 | none=>exact h.elim
end
section
variable {X:Cx} {F:Fx} {E:Str->DEnv->Prop} {e a b c:Expr} {es:List Expr} {pos:Pos}
theorem DE.imp {t t':DT} (h:DE X F e t) (mn:Mn t') (k:∀ ρ Q,t' ρ Q->t ρ Q):DE X F e t':=⟨mn,h.pe.imp fun σ H Q ⟨ρ,O,st,q⟩=>⟨ρ,O,st,k ρ _ q⟩⟩
theorem DO.imp {t t':DTO} (h:DO X F e t) (mn:MnO t') (k:∀ ρ Q,t' ρ Q->t ρ Q):DO X F e t':=⟨mn,h.pe.imp fun σ H Q ⟨ρ,O,st,q⟩=>⟨ρ,O,st,k ρ _ q⟩⟩
theorem DA.imp {t t':DTA} (h:DA X F es t) (mn:MnA t') (k:∀ ρ Q,t' ρ Q->t ρ Q):DA X F es t':=⟨mn,h.pa.imp fun σ H Q ⟨ρ,O,st,q⟩=>⟨ρ,O,st,k ρ _ q⟩⟩
theorem DX.imp {t t':DTX} (h:DX X F es t) (mn:MnX t') (k:∀ ρ Q,t' ρ Q->t ρ Q):DX X F es t':=⟨mn,h.pa.imp fun σ H Q ⟨ρ,O,st,q⟩=>⟨ρ,O,st,k ρ _ q⟩⟩
theorem DB.imp {t t':DTT} (h:DB X F e t) (mn:MnT t') (k:∀ ρ Q,t' ρ Q->t ρ Q):DB X F e t':=⟨mn,h.pt.imp fun σ H Q ⟨ρ,O,st,q⟩=>⟨ρ,O,st,k ρ _ q⟩⟩
theorem DW.imp {t t':DTT} (h:DW X F e t) (mn:MnT t') (k:∀ ρ Q,t' ρ Q->t ρ Q):DW X F e t':=⟨mn,h.pw.imp fun σ H Q ⟨ρ,O,st,q⟩=>⟨ρ,O,st,k ρ _ q⟩⟩
theorem DSs.imp {sts:List Stmt} {t t':DTS} (h:DSs X F sts t) (k:∀ D ρ,t' D ρ->t D ρ):DSs X F sts t':=PSs.imp h fun D σ H ⟨ρ,O,DD,st,q,f⟩=>⟨ρ,O,DD,st,k DD ρ q,f⟩
theorem DS.imp {s:Stmt} {t t':DTS} (h:DS X F s t) (k:∀ D ρ,t' D ρ->t D ρ):DS X F s t':=PS.imp h fun D σ H ⟨ρ,O,DD,st,q,f⟩=>⟨ρ,O,DD,st,k DD ρ q,f⟩
noncomputable abbrev FE (X:Cx) (F:Fx) (E:Str->DEnv->Prop) (e:Expr) (m:XM PyData):Prop:=DE X F e (wp E m)
noncomputable abbrev FO (X:Cx) (F:Fx) (E:Str->DEnv->Prop) (e:Expr) (m:XM Cell):Prop:=DO X F e (wp E m)
noncomputable abbrev FB (X:Cx) (F:Fx) (E:Str->DEnv->Prop) (e:Expr) (m:XM Bool):Prop:=DB X F e (wp E m)
noncomputable abbrev FW (X:Cx) (F:Fx) (E:Str->DEnv->Prop) (e:Expr) (m:XM Bool):Prop:=DW X F e (wp E m)
noncomputable abbrev FA (X:Cx) (F:Fx) (E:Str->DEnv->Prop) (es:List Expr) (m:XM (List PyData)):Prop:=DA X F es (wp E m)
noncomputable abbrev FX (X:Cx) (F:Fx) (E:Str->DEnv->Prop) (es:List Expr) (m:XM (List AX)):Prop:=DX X F es (wp E m)
noncomputable abbrev FI (X:Cx) (F:Fx) (E:Str->DEnv->Prop) (tg iter:Expr) (m:XM (List PyData)):Prop:=DI X F tg iter (wp E m)
noncomputable abbrev GM:=PyData->DEnv->Option DEnv
noncomputable def wpG (g:GM):DTG:=fun d ρ Q=>match g d ρ with
 | some ρ'=>Q ρ'
 | none=>False
noncomputable abbrev FG (X:Cx) (F:Fx) (tg:Expr) (g:GM):Prop:=DG X F tg (wpG g)
noncomputable abbrev FS (X:Cx) (F:Fx) (E:Str->DEnv->Prop) (s:Stmt) (m:SM):Prop:=DS X F s (wpS E m)
noncomputable abbrev FSs (X:Cx) (F:Fx) (E:Str->DEnv->Prop) (s:List Stmt) (m:SM):Prop:=DSs X F s (wpS E m)
@[simp] noncomputable def xC (d:PyData):XM PyData:=fun ρ=>.ok d ρ
@[simp] noncomputable def xV (i:Nat):XM PyData:=fun ρ=>match ρ[i]? with
 | some (some (.dat d))=>.ok d ρ
 | some (some (.own false (.l ds)))=>.ok (.list ds) (ρ.set i (some (.dat (.list ds))))
 | _=>.bad
theorem fe_c {d:PyData} (h:DE X F e (dC d)):FE X F E e (xC d):=h.imp aj fun _ _ q=>q
theorem fe_v {i:Nat} (h:DE X F e (dV i)):FE X F E e (xV i):=h.imp aj fun ρ Q q=>by
 unfold wp xV at q
 unfold dV
 cases h:ρ[i]? with
 | none=>rw [h] at q; exact q.elim
 | some o=>
  rw [h] at q
  cases o with
  | none=>exact q.elim
  | some c=>
   cases c with
   | dat d=>exact .inl ⟨d,rfl,q⟩
   | scr n=>exact q.elim
   | exc n=>exact q.elim
   | vw n=>exact q.elim
   | own io bx=>
    cases io with
    | true=>exact q.elim
    | false=>
     cases bx with
     | l ds=>exact .inr ⟨ds,rfl,q⟩
     | m _ _=>exact q.elim
     | o _ _=>exact q.elim
     | sd _=>exact q.elim
     | ll _=>exact q.elim
@[simp] noncomputable def xOp (g:PyData->PyData->Option PyData) (a b:XM PyData):XM PyData:=fun ρ=>(a ρ).bind fun x ρ1=>(b ρ1).bind fun y=>bR (g x y)
noncomputable def F2 (f:D2) (g:PyData->PyData->Option PyData):Prop:=∀ x y d Q,g x y=some d->Q d->f x y Q
theorem fD {f:D2} {g:PyData->PyData->Option PyData} {ma mb:XM PyData} (hg:F2 f g) (h:DE X F e (dOp f (wp E ma) (wp E mb))):FE X F E e (xOp g ma mb):=h.imp aj fun ρ Q q=>by
 refine aj _ _ _ (fun x ρ1 q1=>?_) (aD q)
 refine aj _ _ _ (fun y ρ2 q2=>?_) (aD q1)
 obtain ⟨d,e1,q3⟩:=aY q2
 exact hg x y d _ e1 q3
@[simp] noncomputable def aM (m:XM PyData):XM Bool:=fun ρ=>(m ρ).bind fun d=>bR (match d with | .bool b=>some b | _=>none)
theorem ui {ρ:DEnv} {Q:Bool->DEnv->Prop} {m:XM PyData} (q:wp E (aM m) ρ Q):dTst (wp E m) ρ Q:=aj _ _ _ (fun d ρ1 q1=>by
 obtain ⟨b,e1,q2⟩:=aY q1
 cases d with
 | bool b'=>cases e1; exact ⟨_,rfl,q2⟩
 | _=>cases e1) (aD q)
theorem hZ {f:D2} {g:PyData->PyData->Option PyData} {ma mb:XM PyData} (hg:F2 f g) (h:DB X F e (dTst (dOp f (wp E ma) (wp E mb)))):FB X F E e (aM (xOp g ma mb)):=h.imp aj fun ρ Q q=>by
 have q':=ui q
 refine aj _ _ _ (fun x ρ1 q1=>?_) (aD q')
 refine aj _ _ _ (fun y ρ2 q2=>?_) (aD q1)
 obtain ⟨d,e1,q3⟩:=aY q2
 exact hg x y d _ e1 q3
theorem cX {m:XM PyData} (h:DB X F e (dTst (wp E m))):FB X F E e (aM m):=h.imp aj fun ρ Q q=>ui q
@[simp] noncomputable def gI (g:Int->Int->PyData):PyData->PyData->Option PyData:=fun x y=>match x,y with
 | .int i,.int j=>some (g i j)
 | _,_=>none
@[simp] noncomputable def gIC (C:Int->Int->Bool) (g:Int->Int->PyData):PyData->PyData->Option PyData:=fun x y=>match x,y with
 | .int i,.int j=>if C i j=true then some (g i j) else none
 | _,_=>none
theorem kU {g:Int->Int->PyData}:F2 (fI (fun _ _=>True) g) (gI g):=fun x y d Q e q=>by
 unfold gI at e
 split at e
 ·cases e; exact ⟨_,_,rfl,rfl,trivial,q⟩
 ·cases e
theorem oJ {C:Int->Int->Bool} {P:Int->Int->Prop} {g:Int->Int->PyData} (h:∀ i j,C i j=true->P i j):F2 (fI P g) (gIC C g):=fun x y d Q e q=>by
 unfold gIC at e
 split at e
 ·split at e
  ·rename_i hc; cases e; exact ⟨_,_,rfl,rfl,h _ _ hc,q⟩
  ·cases e
 ·cases e
noncomputable def jW (i j:Int):Bool:=(decide (-(2 ^ 64) < i) && decide (i < 2 ^ 64)) || (decide (-(2 ^ 64) < j) && decide (j < 2 ^ 64))
noncomputable def mL (_ j:Int):Bool:=decide (0 < j) && decide (j < 1073741824)
noncomputable def ph (_ j:Int):Bool:=decide (0 < j)
noncomputable def si (i j:Int):Bool:=decide (0<=j) && decide (j<=1000000) && decide (i.natAbs < 2 ^ 64)
theorem xQ (i j:Int) (h:jW i j=true):CMul i j:=by
 unfold jW at h
 simp only [Bool.or_eq_true,Bool.and_eq_true,decide_eq_true_eq] at h
 exact h
theorem xR (i j:Int) (h:mL i j=true):u6 i j:=by
 unfold mL at h
 simp only [Bool.and_eq_true,decide_eq_true_eq] at h
 exact h
theorem xS (i j:Int) (h:ph i j=true):0 < j:=by
 unfold ph at h
 simpa using h
theorem xT (i j:Int) (h:si i j=true):u7 i j:=by
 unfold si at h
 simp only [Bool.and_eq_true,decide_eq_true_eq] at h
 exact ⟨h.1.1,h.1.2,h.2⟩
noncomputable def gEq (neg:Bool):PyData->PyData->Option PyData:=fun x y=>if (SeqAt.shaped x && SeqAt.shaped y)=true then some (.bool (PyData.eqv x y != neg)) else none
theorem sj {neg:Bool}:F2 (fEq neg) (gEq neg):=fun x y d Q e q=>by
 unfold gEq at e
 split at e
 ·rename_i h
  cases e
  exact ⟨(Bool.and_eq_true_iff.mp h).1,(Bool.and_eq_true_iff.mp h).2,q⟩
 ·cases e
@[simp] noncomputable def gIs:PyData->PyData->Option PyData:=fun x y=>match y with | .none=>some (.bool (isNone x)) | _=>none
@[simp] noncomputable def fo:PyData->PyData->Option PyData:=fun x y=>match y with | .none=>some (.bool (!isNone x)) | _=>none
theorem wK:F2 fIs gIs:=fun x y d Q e q=>by
 unfold gIs at e
 split at e
 ·cases e; exact ⟨rfl,q⟩
 ·cases e
theorem vH:F2 o5 fo:=fun x y d Q e q=>by
 unfold fo at e
 split at e
 ·cases e; exact ⟨rfl,q⟩
 ·cases e
@[simp] noncomputable def gK:PyData->PyData->Option PyData:=fun x y=>match x,y with
 | .list ds,.list es=>if ds.length + es.length<=sizeLine then some (.list (ds ++ es)) else none
 | _,_=>none
@[simp] noncomputable def lK:PyData->PyData->Option PyData:=fun x y=>match x,y with
 | .tuple ds,.tuple es=>if ds.length + es.length<=sizeLine then some (.tuple (ds ++ es)) else none
 | _,_=>none
theorem xW:F2 rX gK:=fun x y d Q e q=>by
 unfold gK at e
 split at e
 ·split at e
  ·rename_i h; cases e; exact ⟨_,_,rfl,rfl,h,q⟩
  ·cases e
 ·cases e
theorem xX:F2 rY lK:=fun x y d Q e q=>by
 unfold lK at e
 split at e
 ·split at e
  ·rename_i h; cases e; exact ⟨_,_,rfl,rfl,h,q⟩
  ·cases e
 ·cases e
@[simp] noncomputable def mM (a:XM PyData):XM PyData:=fun ρ=>(a ρ).bind fun d=>bR (match d with | .int i=>some (.int (-i)) | _=>none)
theorem jX {ma:XM PyData} (ha:FE X F E a ma):FE X F E (.UnaryOp .USub a pos) (mM ma):=(zM ha).imp aj fun ρ Q q=>aj _ _ _ (fun d ρ1 q1=>by
 obtain ⟨y,e1,q2⟩:=aY q1
 cases d with
 | int i=>cases e1; exact ⟨i,rfl,q2⟩
 | _=>cases e1) (aD q)
@[simp] noncomputable def xNot (a:XM PyData):XM PyData:=fun ρ=>(a ρ).bind fun d=>bR (match d with | .bool b=>some (.bool (!b)) | _=>none)
theorem As {ma:XM PyData} (ha:FE X F E a ma):FE X F E (.UnaryOp .Not a pos) (xNot ma):=(zN ha).imp aj fun ρ Q q=>aj _ _ _ (fun d ρ1 q1=>by
 obtain ⟨y,e1,q2⟩:=aY q1
 cases d with
 | bool b=>cases e1; exact ⟨b,rfl,q2⟩
 | _=>cases e1) (aD q)
@[simp] noncomputable def andK (b:XM PyData) (d:PyData):XM PyData:=fun ρ1=>match d with
 | .bool true=>b ρ1
 | .bool false=>.ok (.bool false) ρ1
 | _=>.bad
@[simp] noncomputable def orK (b:XM PyData) (d:PyData):XM PyData:=fun ρ1=>match d with
 | .bool true=>.ok (.bool true) ρ1
 | .bool false=>b ρ1
 | _=>.bad
@[simp] noncomputable def f7 (a b:XM PyData):XM PyData:=fun ρ=>(a ρ).bind (andK b)
@[simp] noncomputable def xOr (a b:XM PyData):XM PyData:=fun ρ=>(a ρ).bind (orK b)
theorem di {rest:List Expr} {ma mb:XM PyData} (ha:FE X F E a ma) (hb:FE X F E (.BoolOp .And (b :: rest) pos) mb):FE X F E (.BoolOp .And (a :: b :: rest) pos) (f7 ma mb):=(zP ha hb).imp aj fun ρ Q q=>aj _ _ _ (fun d ρ1 q1=>by
 cases d with
 | bool b=>cases b with
  | true=>exact ⟨true,rfl,fi q1⟩
  | false=>exact ⟨false,rfl,fg q1⟩
 | _=>exact q1.elim) (aD (k:=andK mb) q)
theorem wL {rest:List Expr} {ma mb:XM PyData} (ha:FE X F E a ma) (hb:FE X F E (.BoolOp .Or (b :: rest) pos) mb):FE X F E (.BoolOp .Or (a :: b :: rest) pos) (xOr ma mb):=(Bk ha hb).imp aj fun ρ Q q=>aj _ _ _ (fun d ρ1 q1=>by
 cases d with
 | bool b=>cases b with
  | true=>exact ⟨true,rfl,fi q1⟩
  | false=>exact ⟨false,rfl,fg q1⟩
 | _=>exact q1.elim) (aD (k:=orK mb) q)
theorem fq {op} {ma:XM PyData} (h:FE X F E a ma):FE X F E (.BoolOp op [a] pos) ma:=zO h
@[simp] noncomputable def pp (p p':Int->Int->Bool) (a b c:XM PyData):XM PyData:=fun ρ=>(a ρ).bind fun x ρ1=>(b ρ1).bind fun y ρ2=>match x,y with
 | .int i,.int j=>if p i j=true then (c ρ2).bind (fun z=>bR (match z with | .int k=>some (.bool (p' j k)) | _=>none)) else .ok (.bool false) ρ2
 | _,_=>.bad
theorem vI {p p':Int->Int->Bool} {ma mb mc:XM PyData} (h:DE X F e (o6 p p' (wp E ma) (wp E mb) (wp E mc))):FE X F E e (pp p p' ma mb mc):=h.imp aj fun ρ Q q=>by
 refine aj _ _ _ (fun x ρ1 q1=>?_) (aD q)
 refine aj _ _ _ (fun y ρ2 q2=>?_) (aD q1)
 unfold wp at q2
 cases x with
 | int i=>cases y with
  | int j=>
   refine ⟨i,j,rfl,rfl,?_⟩
   by_cases hp:p i j=true
   ·simp only [if_pos hp] at q2
    rw [if_pos hp]
    refine aj _ _ _ (fun z ρ3 q3=>?_) (aD (m:=mc) (k:=fun z=>bR (match z with | .int k=>some (PyData.bool (p' j k)) | _=>none)) q2)
    obtain ⟨d,e1,q4⟩:=aY q3
    cases z with
    | int k=>cases e1; exact ⟨k,rfl,q4⟩
    | _=>cases e1
   ·simp only [if_neg hp] at q2
    rw [if_neg hp]
    exact q2
  | _=>exact q2.elim
 | _=>exact q2.elim
@[simp] noncomputable def gL (a:XM Bool):XM Bool:=fun ρ=>(a ρ).bind fun b ρ1=>.ok (!b) ρ1
theorem f8 {ma:XM Bool} (h:FB X F E a ma):FB X F E (.UnaryOp .Not a pos) (gL ma):=(zQ h).imp aj fun ρ Q q=>aj _ _ _ (fun d ρ1 q1=>q1) (aD (k:=fun b ρ1=>.ok (!b) ρ1) q)
@[simp] noncomputable def sr (a b:XM Bool):XM Bool:=fun ρ=>(a ρ).bind fun x ρ1=>if x=true then b ρ1 else .ok false ρ1
@[simp] noncomputable def mO (a b:XM Bool):XM Bool:=fun ρ=>(a ρ).bind fun x ρ1=>if x=true then .ok true ρ1 else b ρ1
theorem qT {ma:XM Bool} (h:FB X F E a ma):FW X F E (.BoolOp .And [a] pos) ma:=xp h
theorem jY {ma:XM Bool} (h:FB X F E a ma):FW X F E (.BoolOp .Or [a] pos) ma:=zR h
theorem uj {rest:List Expr} {ma mb:XM Bool} (ha:FB X F E a ma) (hb:FW X F E (.BoolOp .And (b :: rest) pos) mb):FW X F E (.BoolOp .And (a :: b :: rest) pos) (sr ma mb):=(zS ha hb).imp aj fun ρ Q q=>aj _ _ _ (fun d ρ1 q1=>by
 cases d with
 | true=>exact fi q1
 | false=>exact fg q1) (aD (k:=fun x ρ1=>if x=true then mb ρ1 else .ok false ρ1) q)
theorem lL {rest:List Expr} {ma mb:XM Bool} (ha:FB X F E a ma) (hb:FW X F E (.BoolOp .Or (b :: rest) pos) mb):FW X F E (.BoolOp .Or (a :: b :: rest) pos) (mO ma mb):=(Bl ha hb).imp aj fun ρ Q q=>aj _ _ _ (fun d ρ1 q1=>by
 cases d with
 | true=>exact fi q1
 | false=>exact fg q1) (aD (k:=fun x ρ1=>if x=true then .ok true ρ1 else mb ρ1) q)
theorem kW {ma:XM Bool} (h:FW X F E e ma):FB X F E e ma:=h.db
@[simp] noncomputable def xIf {α:Type} (t:XM Bool) (a b:XM α):XM α:=fun ρ=>(t ρ).bind fun x ρ1=>if x=true then a ρ1 else b ρ1
theorem lM {mt:XM Bool} {ma mb:XM PyData} (hc:FB X F E c mt) (ha:FE X F E a ma) (hb:FE X F E b mb):FE X F E (.IfExp c a b pos) (xIf mt ma mb):=(Bm hc ha hb).imp aj fun ρ Q q=>aj _ _ _ (fun d ρ1 q1=>by
 cases d with
 | true=>exact fi q1
 | false=>exact fg q1) (aD (k:=fun x ρ1=>if x=true then ma ρ1 else mb ρ1) q)
@[simp] noncomputable def aQ:XM (List PyData):=fun ρ=>.ok [] ρ
@[simp] noncomputable def am (a:XM PyData) (r:XM (List PyData)):XM (List PyData):=fun ρ=>(a ρ).bind fun d ρ1=>(r ρ1).bind fun ds ρ2=>.ok (d :: ds) ρ2
theorem av:FA X F E [] aQ:=zJ.imp aj fun _ _ q=>q
theorem xY {ma:XM PyData} {mr:XM (List PyData)} (ha:FE X F E e ma) (hr:FA X F E es mr) (hs:starEach (e :: es) X.env=(false,eval e X.env) :: starEach es X.env:=by rfl):FA X F E (e :: es) (am ma mr):=(xo ha hr hs).imp aj fun ρ Q q=>
 aj _ _ _ (fun d ρ1 q1=>aj _ _ _ (fun ds ρ2 q2=>q2) (aD (k:=fun ds ρ2=>.ok (d :: ds) ρ2) q1)) (aD (k:=fun d ρ1=>(mr ρ1).bind fun ds ρ2=>.ok (d :: ds) ρ2) q)
@[simp] noncomputable def et (a:XM (List PyData)):XM PyData:=fun ρ=>(a ρ).bind fun ds=>bR (if ds.length<=sizeLine then some (.tuple ds) else none)
@[simp] noncomputable def gA (a:XM (List PyData)):XM PyData:=fun ρ=>(a ρ).bind fun ds=>bR (if ds.length<=sizeLine then some (.list ds) else none)
theorem b9 {x1} {ma:XM (List PyData)} (h:FA X F E es ma):FE X F E (.Tuple es x1 pos) (et ma):=(zK h).imp aj fun ρ Q q=>aj _ _ _ (fun ds ρ1 q1=>by
 obtain ⟨d,e1,q2⟩:=aY q1
 split at e1
 ·rename_i h; cases e1; exact ⟨h,q2⟩
 ·cases e1) (aD q)
theorem dY {ma:XM (List PyData)} (h:FA X F E es ma):FE X F E (.List es pos) (gA ma):=(zL h).imp aj fun ρ Q q=>aj _ _ _ (fun ds ρ1 q1=>by
 obtain ⟨d,e1,q2⟩:=aY q1
 split at e1
 ·rename_i h; cases e1; exact ⟨h,q2⟩
 ·cases e1) (aD q)
@[simp] noncomputable def xCB (g:List PyData->Option PyData) (a:XM (List PyData)):XM PyData:=fun ρ=>(a ρ).bind fun ds=>bR (g ds)
noncomputable def FN (f:DN) (g:List PyData->Option PyData):Prop:=∀ ds d Q,g ds=some d->Q d->f ds Q
theorem f9 {f:DN} {g:List PyData->Option PyData} {ma:XM (List PyData)} (hg:FN f g) (h:DE X F e (dCB f (wp E ma))):FE X F E e (xCB g ma):=h.imp aj fun ρ Q q=>aj _ _ _ (fun ds ρ1 q1=>by
 obtain ⟨d,e1,q2⟩:=aY q1
 exact hg ds d _ e1 q2) (aD q)
end
section
variable {X:Cx} {F:Fx} {E:Str->DEnv->Prop} {e a b c:Expr} {es:List Expr} {st:Stmt} {rest:List Stmt} {pos:Pos} {x:Str}
@[simp] noncomputable def mP:List PyData->Option PyData:=fun xs=>match xs with
 | [.list ds]=>some (.int ds.length)
 | [.tuple ds]=>some (.int ds.length)
 | _=>none
theorem lN:FN fLen mP:=fun xs d Q e q=>by
 unfold mP at e
 split at e
 ·cases e; exact ⟨_,.inl rfl,q⟩
 ·cases e; exact ⟨_,.inr rfl,q⟩
 ·cases e
@[simp] noncomputable def pq:List PyData->Option PyData:=fun xs=>match xs with
 | [.int i,.int j]=>some (.int (max i j))
 | _=>none
theorem pz:FN fMax pq:=fun xs d Q e q=>by
 unfold pq at e
 split at e
 ·cases e; exact ⟨_,_,rfl,q⟩
 ·cases e
noncomputable def ints?:List PyData->Option (List Int)
 | []=>some []
 | .int i :: r=>(ints? r).map (i :: ·)
 | _ :: _=>none
noncomputable def bools?:List PyData->Option (List Bool)
 | []=>some []
 | .bool i :: r=>(bools? r).map (i :: ·)
 | _ :: _=>none
theorem mQ:∀ {ds:List PyData} {ns:List Int},ints? ds=some ns->ds=ns.map .int
 | [],_,e=>by cases e; rfl
 | d :: r,ns,e=>by
  cases d with
  | int i=>
   cases q:ints? r with
   | none=>simp [ints?,q] at e
   | some l=>simp [ints?,q] at e; subst e; rw [mQ q]; rfl
  | _=>cases e
theorem pA:∀ {ds:List PyData} {ns:List Bool},bools? ds=some ns->ds=ns.map .bool
 | [],_,e=>by cases e; rfl
 | d :: r,ns,e=>by
  cases d with
  | bool i=>
   cases q:bools? r with
   | none=>simp [bools?,q] at e
   | some l=>simp [bools?,q] at e; subst e; rw [pA q]; rfl
  | _=>cases e
theorem jr (ns:List Int):ints? (ns.map .int)=some ns:=by
 induction ns with
 | nil=>rfl
 | cons i r ih=>simp [ints?,ih]
noncomputable def nAll:List PyData->Option PyData:=fun xs=>match xs with
 | [.list ds]=>(bools? ds).map fun bs=>.bool (bs.all id)
 | _=>none
theorem At:FN fAll nAll:=fun xs d Q e q=>by
 unfold nAll at e
 split at e
 ·obtain ⟨bs,e1,e2⟩:=Option.map_eq_some_iff.mp e
  rw [pA e1]
  subst e2
  exact ⟨bs,rfl,q⟩
 ·cases e
noncomputable def lmax:List Int->Option Int
 | []=>none
 | i :: r=>some (r.foldl max i)
theorem xZ (r:List Int):∀ i,i<=r.foldl max i/\(∀ a ∈ r,a<=r.foldl max i)/\(r.foldl max i=i\/r.foldl max i ∈ r):=by
 induction r with
 | nil=>intro i; exact ⟨Int.le_refl _,fun a h=>(by cases h),.inl rfl⟩
 | cons j r ih=>
  intro i
  obtain ⟨h1,h2,h3⟩:=ih (max i j)
  refine ⟨Int.le_trans (Int.le_max_left _ _) h1,fun a h=>?_,?_⟩
  ·rcases List.mem_cons.mp h with rfl | h
   ·exact Int.le_trans (Int.le_max_right _ _) h1
   ·exact h2 a h
  ·rcases h3 with h3 | h3
   ·rw [List.foldl_cons,h3]
    rcases Int.le_total i j with q | q
    ·exact .inr (by rw [Int.max_eq_right q]; exact List.mem_cons_self)
    ·exact .inl (Int.max_eq_left q)
   ·exact .inr (Qak _ h3)
noncomputable def kq:List PyData->Option PyData:=fun xs=>match xs with
 | [.list ds]=>((ints? ds).bind lmax).map .int
 | _=>none
theorem x3:∀ ds d (Q:PyData->Prop),kq ds=some d->Q d->∃ ns:List Int,ds=[.list (ns.map .int)]/\ns ≠ []/\∃ M,d=.int M/\M ∈ ns/\(∀ a ∈ ns,a<=M):=fun xs d Q e q=>by
 unfold kq at e
 split at e
 ·obtain ⟨M,e1,e2⟩:=Option.map_eq_some_iff.mp e
  obtain ⟨ns,e3,e4⟩:=Option.bind_eq_some_iff.mp e1
  cases ns with
  | nil=>cases e4
  | cons i r=>
   cases e4
   obtain ⟨h1,h2,h3⟩:=xZ r i
   refine ⟨i :: r,by rw [mQ e3],by simp,_,e2.symm,?_,fun a h=>?_⟩
   ·rcases h3 with h3 | h3
    ·rw [h3]; exact List.mem_cons_self
    ·exact Qak _ h3
   ·rcases List.mem_cons.mp h with rfl | h
    ·exact h1
    ·exact h2 a h
 ·cases e
theorem x9:FN wJ kq:=fun ds d Q e q=>by
 obtain ⟨ns,h1,h2,M,h3,h4,h5⟩:=x3 ds d Q e q
 refine ⟨ns,h1,h2,fun M' m1 m2=>?_⟩
 have:M' = M:=Int.le_antisymm (h5 M' m1) (m2 M h4)
 rw [this,<-h3]; exact q
noncomputable def gIn (neg:Bool):PyData->PyData->Option PyData:=fun x y=>match x,y with
 | .int i,.list ds=>(ints? ds).map fun ns=>.bool (if neg then !decide (i ∈ ns) else decide (i ∈ ns))
 | _,_=>none
theorem BE {neg:Bool}:F2 (fIn neg) (gIn neg):=fun x y d Q e q=>by
 unfold gIn at e
 split at e
 ·obtain ⟨ns,e1,e2⟩:=Option.map_eq_some_iff.mp e
  rw [mQ e1]
  subst e2
  exact ⟨_,ns,rfl,rfl,q⟩
 ·cases e
@[simp] noncomputable def oK (i:Nat):XM PyData:=fun ρ=>match ρ[i]? with
 | some (some (.scr ns))=>if ns.length<=63 then .ok (.int ns.length) ρ else .bad
 | _=>.bad
@[simp] noncomputable def sv (i:Nat) (a:XM PyData):XM PyData:=fun ρ=>match ρ[i]? with
 | some (some (.scr ns))=>(a ρ).bind fun d=>bR (match d with | .int k=>(atI ns k).map .int | _=>none)
 | _=>.bad
@[simp] noncomputable def vJ (i:Nat):XM Bool:=fun ρ=>match ρ[i]? with
 | some (some (.scr ns))=>.ok (decide (ns=[])) ρ
 | _=>.bad
theorem qU {i:Nat} (h:DE X F e (wG i)):FE X F E e (oK i):=h.imp aj fun ρ Q q=>by
 unfold wp oK at q
 cases h:ρ[i]? with
 | none=>rw [h] at q; exact q.elim
 | some o=>
  rw [h] at q
  cases o with
  | none=>exact q.elim
  | some c=>
   cases c with
   | scr ns=>
    simp only at q
    by_cases hl:ns.length<=63
    ·rw [if_pos hl] at q; exact ⟨ns,h,fun _=>q⟩
    ·rw [if_neg hl] at q; exact q.elim
   | _=>exact q.elim
theorem uk {i:Nat} {ma:XM PyData} (h:DE X F e (dIxS i (wp E ma))):FE X F E e (sv i ma):=h.imp aj fun ρ Q q=>by
 unfold wp sv at q
 cases h:ρ[i]? with
 | none=>rw [h] at q; exact q.elim
 | some o=>
  rw [h] at q
  cases o with
  | none=>exact q.elim
  | some c=>
   cases c with
   | scr ns=>
    refine ⟨ns,h,aj _ _ _ (fun d ρ1 q1=>?_) (aD (m:=ma) (k:=fun d=>bR (match d with | .int k=>(atI ns k).map PyData.int | _=>none)) q)⟩
    obtain ⟨y,e1,q2⟩:=aY q1
    cases d with
    | int k=>
     obtain ⟨n,e2,e3⟩:=Option.map_eq_some_iff.mp e1
     subst e3
     exact ⟨k,n,rfl,e2,q2⟩
    | _=>cases e1
   | _=>exact q.elim
theorem Au {i:Nat} (h:DB X F e (dEqS i)):FB X F E e (vJ i):=h.imp aj fun ρ Q q=>by
 unfold wp vJ at q
 cases h:ρ[i]? with
 | none=>rw [h] at q; exact q.elim
 | some o=>
  rw [h] at q
  cases o with
  | none=>exact q.elim
  | some c=>
   cases c with
   | scr ns=>exact ⟨ns,h,q⟩
   | _=>exact q.elim
@[simp] noncomputable def gNm (i:Nat):GM:=fun d ρ=>some (ρ.set i (some (.dat d)))
theorem ya {i:Nat} (h:DG X F e (gN i)):FG X F e (gNm i):=⟨fun d ρ Q Q' k q=>k _ q,h.pg.imp fun v σ H Q ⟨ρ,O,d,st,hd,q⟩=>⟨ρ,O,d,st,hd,q⟩⟩
noncomputable abbrev GMs:=List PyData->DEnv->Option DEnv
noncomputable def mR (g:GMs):jS:=fun d ρ Q=>match g d ρ with
 | some ρ'=>Q ρ'
 | none=>False
noncomputable abbrev FGs (X:Cx) (F:Fx) (tg:List Expr) (g:GMs):Prop:=DGs X F tg (mR g)
@[simp] noncomputable def bS:GMs:=fun ds ρ=>match ds with | []=>some ρ | _=>none
@[simp] noncomputable def aI (t:GM) (u:GMs):GMs:=fun ds ρ=>match ds with | d :: r=>(t d ρ).bind fun ρ'=>u r ρ' | []=>none
theorem Av {g:GM}:∀ d ρ (Q Q':DEnv->Prop),(∀ ρ',Q ρ'->Q' ρ')->wpG g d ρ Q->wpG g d ρ Q':=fun d ρ Q Q' k q=>by
 unfold wpG at q ⊢
 generalize g d ρ=o at q ⊢
 cases o with
 | some ρ'=>exact k _ q
 | none=>exact q
theorem qV {g:GMs}:∀ d ρ (Q Q':DEnv->Prop),(∀ ρ',Q ρ'->Q' ρ')->mR g d ρ Q->mR g d ρ Q':=fun d ρ Q Q' k q=>by
 unfold mR at q ⊢
 generalize g d ρ=o at q ⊢
 cases o with
 | some ρ'=>exact k _ q
 | none=>exact q
theorem eQ:FGs X F [] bS:=⟨qV,xu.pg.imp fun v σ H Q ⟨ρ,O,d,st,hd,q⟩=>⟨ρ,O,d,st,hd,by
 unfold mR bS at q
 cases d with
 | nil=>exact ⟨rfl,q⟩
 | cons _ _=>exact q.elim⟩⟩
theorem bd {g:GM} {gs:GMs} (h1:FG X F e g) (h2:FGs X F es gs) (hs:(assignEach (e :: es) X.env).map (·.2)=assign e X.env :: (assignEach es X.env).map (·.2):=by rfl):FGs X F (e :: es) (aI g gs):=⟨qV,(vt h1 h2 hs).pg.imp fun v σ H Q ⟨ρ,O,d,st,hd,q⟩=>⟨ρ,O,d,st,hd,by
 unfold mR aI at q
 cases d with
 | nil=>exact q.elim
 | cons d r=>
  refine ⟨d,r,rfl,?_⟩
  unfold wpG
  simp only at q
  cases hg:g d ρ with
  | none=>rw [hg] at q; exact q
  | some ρ'=>rw [hg] at q; exact q⟩⟩
@[simp] noncomputable def bT (n:Nat) (t:GMs):GM:=fun d ρ=>match d with | .tuple ds=>if ds.length=n then t ds ρ else none | _=>none
theorem gc {k n:Nat} {gs:GMs} (hc:X.calm=true) (h:FGs X F es gs) (hn:(assignEach es X.env).length=n:=by rfl) (hst:(assignEach es X.env).findIdx? (·.1)=none:=by rfl):FG X F (.Tuple es k pos) (bT n gs):=⟨Av,(zU hc h hn hst).pg.imp fun v σ H Q ⟨ρ,O,d,st,hd,q⟩=>⟨ρ,O,d,st,hd,by
 unfold wpG bT at q
 cases d with
 | tuple ds=>
  simp only at q
  by_cases hl:ds.length=n
  ·rw [if_pos hl] at q; exact ⟨ds,rfl,hl,q⟩
  ·rw [if_neg hl] at q; exact q.elim
 | _=>exact q.elim⟩⟩
@[simp] noncomputable def ay:XM (List AX):=fun ρ=>.ok [] ρ
@[simp] noncomputable def ag (a:XM PyData) (r:XM (List AX)):XM (List AX):=fun ρ=>(a ρ).bind fun d ρ1=>(r ρ1).bind fun as ρ2=>.ok (.d d :: as) ρ2
@[simp] noncomputable def aV (j:Nat) (r:XM (List AX)):XM (List AX):=fun ρ=>match ρ[j]? with
 | some (some _)=>(r ρ).bind fun as ρ2=>.ok (.s j :: as) ρ2
 | _=>.bad
theorem ak:FX X F E [] ay:=z7.imp aj fun _ _ q=>q
theorem Aw {ma:XM PyData} {mr:XM (List AX)} (ha:FE X F E e ma) (hr:FX X F E es mr) (hs:starEach (e :: es) X.env=(false,eval e X.env) :: starEach es X.env:=by rfl):FX X F E (e :: es) (ag ma mr):=(z8 ha hr hs).imp aj fun ρ Q q=>
 aj _ _ _ (fun d ρ1 q1=>aj _ _ _ (fun ds ρ2 q2=>q2) (aD (k:=fun as ρ2=>Out.ok (AX.d d :: as) ρ2) q1)) (aD (m:=ma) (k:=fun d ρ1=>(mr ρ1).bind fun as ρ2=>Out.ok (AX.d d :: as) ρ2) q)
theorem yb {p:Pos} {j:Nat} {mr:XM (List AX)} (hv:PE X (.Name x p) (fV j)) (hr:FX X F E es mr) (hs:starEach (.Name x p :: es) X.env=(false,eval (.Name x p) X.env) :: starEach es X.env:=by rfl):FX X F E (.Name x p :: es) (aV j mr):=(xA hv hr hs).imp aj fun ρ Q q=>by
 unfold wp aV at q
 cases h:ρ[j]? with
 | none=>rw [h] at q; exact q.elim
 | some o=>
  rw [h] at q
  cases o with
  | none=>exact q.elim
  | some c=>exact ⟨⟨c,h⟩,aj _ _ _ (fun as ρ2 q2=>q2) (aD (m:=mr) (k:=fun as ρ2=>Out.ok (AX.s j :: as) ρ2) (show wp E (fun ρ=>(mr ρ).bind fun as ρ2=>Out.ok (AX.s j :: as) ρ2) ρ Q from q))⟩
@[simp] noncomputable def sw (f:FM) (as:List AX):XM Cell:=fun ρ=>match cQ ρ as with
 | some (cs,js)=>(match f cs with
  | .rt c outs=>.ok c (back js outs (clr js ρ))
  | .ex c outs=>.ex c (back js outs (clr js ρ))
  | .bad=>.bad)
 | none=>.bad
@[simp] noncomputable def ao (f:FM) (a:XM (List AX)):XM Cell:=fun ρ=>(a ρ).bind (sw f)
theorem yc {g:FM} {ma:XM (List AX)} (h:DO X F e (wD g E (wp E ma))):FO X F E e (ao g ma):=h.imp aj fun ρ Q q=>aj _ _ _ (fun as ρ1 q1=>by
 unfold wp sw at q1
 unfold gR
 cases ha:cQ ρ1 as with
 | none=>rw [ha] at q1; exact q1
 | some p=>
  obtain ⟨cs,js⟩:=p
  rw [ha] at q1
  simp only at q1 ⊢
  cases hf:g cs with
  | rt c outs=>rw [hf] at q1; exact q1
  | ex c outs=>rw [hf] at q1; exact q1
  | bad=>rw [hf] at q1; exact q1) (aD (k:=sw g) q)
@[simp] noncomputable def aJ (a:XM Cell):XM PyData:=fun ρ=>(a ρ).bind fun c=>bR (frz c)
theorem aq {ma:XM Cell} (h:FO X F E e ma):FE X F E e (aJ ma):=h.de.imp aj fun ρ Q q=>aj _ _ _ (fun c ρ1 q1=>aY q1) (aD q)
@[simp] noncomputable def sNx:SM:=fun ρ=>.nx ρ
@[simp] noncomputable def al (m k:SM):SM:=fun ρ=>match m ρ with
 | .nx ρ'=>k ρ'
 | o=>o
theorem aS:FSs X F E [] sNx:=xv.imp fun _ _ q=>q
theorem ad {m k:SM} (h1:FS X F E st m) (h2:FSs X F E rest k):FSs X F E (st :: rest) (al m k):=(vA h1 h2).imp fun D ρ q=>by
 show wpS E m _ ρ
 unfold wpS al at q
 unfold wpS
 generalize m ρ=o at q ⊢
 cases o with
 | nx ρ'=>exact q
 | _=>exact q
theorem af {m:SM} (h:FS X F E st m):FSs X F E [st] m:=xw h
@[simp] noncomputable def ofX {α:Type} (o:Out α) (k:α->DEnv->OutS):OutS:=match o with
 | .ok a ρ=>k a ρ
 | .ex c ρ=>.ex c ρ
 | .bad=>.bad
theorem dj {α:Type} {m:XM α} {k:α->SM} {D:DEnds} {ρ:DEnv} (q:wpS E (fun ρ=>ofX (m ρ) k) D ρ):wp E m ρ fun a ρ'=>wpS E (k a) D ρ':=by
 unfold wpS ofX at q
 unfold wp
 simp only at q
 generalize m ρ=o at q ⊢
 cases o with
 | ok a ρ'=>exact q
 | ex c ρ'=>exact q
 | bad=>exact q
@[simp] noncomputable def vK (o:Option DEnv):OutS:=match o with
 | some ρ=>.nx ρ
 | none=>.bad
@[simp] noncomputable def aT (m:XM PyData) (g:GM):SM:=fun ρ=>ofX (m ρ) fun d ρ1=>vK (g d ρ1)
theorem pB {m:XM PyData} {g:GM} {D:DEnds} {ρ:DEnv} (q:wpS E (aT m g) D ρ):r0 (wp E m) (wpG g) D ρ:=aj _ _ _ (fun d ρ1 q1=>by
 unfold wpS vK at q1
 unfold wpG
 simp only at q1
 generalize g d ρ1=o at q1 ⊢
 cases o with
 | some ρ'=>exact q1
 | none=>exact q1) (dj (k:=fun d ρ1=>vK (g d ρ1)) q)
theorem Ax {tgt:Expr} {m:XM PyData} {g:GM} (he:FE X F E e m) (hg:FG X F tgt g) (hs:swapsWithSole [tgt] e pos.line X.env=pure false:=by rfl) (hw:swappedStores [tgt] e X.env=pure none:=by rfl)
  (h1:(assignEach [tgt] X.env).map (·.2)=[assign tgt X.env]:=by rfl):FS X F E (.Assign [tgt] e pos) (aT m g):=(zV he hg hs hw h1).imp fun D ρ q=>pB q
theorem aG {i:Nat} {pos':Pos} {m:XM PyData} (hN:X.N.Nodup) (hi:X.N[i]? = some x) (hx:Loc X.env.scope x) (he:FE X F E e m) (hs:swapsWith e (some (.Name x pos')) pos.line X.env=pure false:=by rfl)
  (hf:X.fn x=true\/X.env.scope.names.lookup x=some .local:=by first | exact .inl rfl | exact .inr rfl | assumption):FS X F E (.Assign [.Name x pos'] e pos) (aT m (gNm i)):=(zW hN hi hx he hs hf).imp fun D ρ q=>pB q
@[simp] noncomputable def vL (i:Nat) (c:Cell):SM:=fun ρ1=>if i < ρ1.length then (match c with | .own true _=>.bad | c=>.nx (ρ1.set i (some c))) else .bad
@[simp] noncomputable def kr (i:Nat) (m:XM Cell):SM:=fun ρ=>ofX (m ρ) (vL i)
theorem ji {i:Nat} {pos':Pos} {m:XM Cell} (hN:X.N.Nodup) (hi:X.N[i]? = some x) (hx:Loc X.env.scope x) (he:FO X F E e m) (hs:swapsWith e (some (.Name x pos')) pos.line X.env=pure false:=by rfl)
  (hf:X.fn x=true\/X.env.scope.names.lookup x=some .local:=by first | exact .inl rfl | exact .inr rfl | assumption):FS X F E (.Assign [.Name x pos'] e pos) (kr i m):=(xz hN hi hx he hs hf).imp fun D ρ q=>aj _ _ _ (fun c ρ1 q1=>by
 unfold wpS vL at q1
 by_cases hl:i < ρ1.length
 ·simp only [if_pos hl] at q1
  cases c with
  | own io b=>cases io with
   | true=>exact q1.elim
   | false=>exact ⟨hl,(fun _ z=>by cases z),q1⟩
  | dat d=>exact ⟨hl,(fun _ z=>by cases z),q1⟩
  | scr d=>exact ⟨hl,(fun _ z=>by cases z),q1⟩
  | exc d=>exact ⟨hl,(fun _ z=>by cases z),q1⟩
  | vw d=>exact ⟨hl,(fun _ z=>by cases z),q1⟩
 ·simp only [if_neg hl] at q1) (dj (k:=vL i) q)
@[simp] noncomputable def aP (m:XM PyData):SM:=fun ρ=>ofX (m ρ) fun d ρ1=>.rt (.dat d) ρ1
@[simp] noncomputable def jt (m:XM Cell):SM:=fun ρ=>ofX (m ρ) fun c ρ1=>.rt c ρ1
@[simp] noncomputable def gd (m:XM Cell):SM:=fun ρ=>ofX (m ρ) fun _ ρ1=>.nx ρ1
theorem aF {m:XM PyData} (he:FE X F E e m):FS X F E (.Return (some e) pos) (aP m):=(ua he).imp fun D ρ q=>aj _ _ _ (fun c ρ1 q1=>q1) (dj (k:=fun d ρ1=>.rt (.dat d) ρ1) q)
theorem ic {m:XM Cell} (he:FO X F E e m):FS X F E (.Return (some e) pos) (jt m):=(xx he).imp fun D ρ q=>aj _ _ _ (fun c ρ1 q1=>q1) (dj (k:=fun d ρ1=>.rt d ρ1) q)
theorem b4 {m:XM Cell} (he:FO X F E e m) (hs:swapsWith e none pos.line X.env=pure false:=by rfl):FS X F E (.Expr e pos) (gd m):=(vC he hs).imp fun D ρ q=>aj _ _ _ (fun c ρ1 q1=>q1) (dj (k:=fun _ ρ1=>.nx ρ1) q)
@[simp] noncomputable def sMv (i:Nat):SM:=fun ρ=>match ρ[i]? with
 | some (some (.own false b))=>.rt (.own false b) (ρ.set i none)
 | some (some (.dat d))=>.rt (.dat d) ρ
 | _=>.bad
@[simp] noncomputable def bF (t:XM Bool) (a b:SM):SM:=fun ρ=>ofX (t ρ) fun x ρ1=>if x=true then a ρ1 else b ρ1
theorem bp {cnd:Expr} {sa sb:List Stmt} {mt:XM Bool} {ma mb:SM} (hc:FB X F E cnd mt) (ha:FSs X F E sa ma) (hb:FSs X F E sb mb):FS X F E (.If cnd sa sb pos) (bF mt ma mb):=(Bq hc ha hb).imp fun D ρ q=>aj _ _ _ (fun x ρ1 q1=>by
 cases x with
 | true=>exact fi q1
 | false=>exact fg q1) (dj (k:=fun x ρ1=>if x=true then ma ρ1 else mb ρ1) q)
@[simp] noncomputable def sA (i:Nat) (m:XM PyData) (g:Int->Int->Int):SM:=fun ρ=>match ρ[i]? with
 | some (some (.dat (.int k)))=>ofX (m ρ) fun d ρ1=>(match d with | .int l=>.nx (ρ1.set i (some (.dat (.int (g k l))))) | _=>.bad)
 | _=>.bad
end
noncomputable def ba (d n:String):Option Bool:=if d=n then some true else
 if d = "bool"/\n = "int" then some true else
 if (d = "int"\/d = "bool"\/d = "str"\/d = "list"\/d = "tuple"\/d = "NoneType")/\(n = "int"\/n = "bool"\/n = "str"\/n = "list"\/n = "tuple") then some false else none
theorem yd {d n:String} {b:Bool} (h:ba d n=some b) (K:PySem.W.Frag):PySem.W.kitOne K (.type d) (.type n)=some b:=by
 unfold ba at h
 split at h
 ·rename_i e; cases h; subst e; unfold PySem.W.kitOne; rw [if_pos (by simp)]
 ·split at h
  ·rename_i e; cases h; obtain ⟨rfl,rfl⟩:=e; rfl
  ·rename_i n1 n2
   split at h
   ·rename_i e
    cases h
    obtain ⟨e1,e2⟩:=e
    rcases e1 with rfl | rfl | rfl | rfl | rfl | rfl <;> rcases e2 with rfl | rfl | rfl | rfl | rfl <;> first | rfl | (exact absurd rfl n1) | (exact absurd ⟨rfl,rfl⟩ n2)
   ·cases h
@[simp] noncomputable def xIs (n:String) (a:XM PyData):XM PyData:=fun ρ=>(a ρ).bind fun d=>bR ((ba (oG d) n).map .bool)
section
variable {X:Cx} {F:Fx} {E:Str->DEnv->Prop} {e a b c:Expr} {es:List Expr} {st:Stmt} {rest:List Stmt} {pos:Pos} {x:Str}
theorem iX {n:String} {ma:XM PyData} (h:DE X F e (dIsI n (wp E ma))):FE X F E e (xIs n ma):=h.imp aj fun ρ Q q=>aj _ _ _ (fun d ρ1 q1=>by
 obtain ⟨y,e1,q2⟩:=aY q1
 obtain ⟨b,e2,e3⟩:=Option.map_eq_some_iff.mp e1
 subst e3
 exact ⟨b,yd e2,q2⟩) (aD q)
theorem wM {i:Nat} {p1:Pos} (hv:PE X (.Name x p1) (fV i)):FS X F E (.Return (some (.Name x p1)) pos) (sMv i):=fun pins s σ H D I ⟨ρ,O,DD,stt,q,f⟩=>by
 unfold wpS sMv at q
 cases h:ρ[i]? with
 | none=>rw [h] at q; exact q.elim
 | some o=>
  rw [h] at q
  cases o with
  | none=>exact q.elim
  | some c=>
   cases c with
   | own io b=>cases io with
    | true=>exact q.elim
    | false=>exact vB hv pins s σ H D I ⟨ρ,O,DD,stt,⟨b,h,q⟩,f⟩
   | dat d=>exact ua (tT i hv) pins s σ H D I ⟨ρ,O,DD,stt,.inl ⟨d,h,q⟩,f⟩
   | scr n=>exact q.elim
   | exc n=>exact q.elim
   | vw n=>exact q.elim
theorem Ay {i:Nat} {op:Operator} {pos':Pos} {g:Int->Int->Int} {m:XM PyData} (h:DS X F st (sAug i (wp E m) g)):FS X F E st (sA i m g):=h.imp fun D ρ q=>by
 unfold wpS sA at q
 cases h:ρ[i]? with
 | none=>rw [h] at q; exact q.elim
 | some o=>
  rw [h] at q
  cases o with
  | none=>exact q.elim
  | some c=>
   cases c with
   | dat d=>cases d with
    | int k=>
     refine ⟨k,h,aj _ _ _ (fun d ρ1 q1=>?_) (dj (m:=m) (k:=fun d ρ1=>(match d with | .int l=>OutS.nx (ρ1.set i (some (.dat (.int (g k l))))) | _=>.bad)) (show wpS E (fun ρ=>ofX (m ρ) fun d ρ1=>(match d with | .int l=>OutS.nx (ρ1.set i (some (.dat (.int (g k l))))) | _=>.bad)) D ρ from q))⟩
     unfold wpS at q1
     cases d with
     | int l=>exact ⟨l,rfl,q1⟩
     | _=>exact q1.elim
    | _=>exact q.elim
   | _=>exact q.elim
noncomputable def aR (g:GM) (b:SM):List PyData->SM
 | [],ρ=>.nx ρ
 | d :: r,ρ=>(match g d ρ with
  | some ρ1=>(match b ρ1 with
   | .nx ρ2=>aR g b r ρ2
   | .ct ρ2=>aR g b r ρ2
   | .bk ρ2=>.nx ρ2
   | o=>o)
  | none=>.bad)
@[simp] noncomputable def sForF (s:XM (List PyData)) (g:GM) (b:SM):SM:=fun ρ=>ofX (s ρ) (aR g b)
theorem dl {tg iter:Expr} {body:List Stmt} {s:XM (List PyData)} {g:GM} {mb:SM} (hp:PassesOwn (model X.prog X.w) X.A X.env X.xe) (hc:X.calm=true) (hi:FI X F E tg iter s) (hg:FG X F tg g) (hb:FSs X F E body mb) (hs:∀ x,foldedSetIterable iter X.env x=pure x:=by intro _; rfl):FS X F E (.For tg iter body [] pos) (sForF s g mb):=
 (Ab hp hc hi hg hb hs).imp fun D ρ q=>aj _ _ _ (fun its ρ1 q1=>by
  refine ⟨fun i ρ=>wpS E (aR g mb (its.drop i)) D ρ,q1,fun i d ρ hd hi=>?_,fun ρ h=>?_⟩
  ·have e:its.drop i=d :: its.drop (i + 1):=by
    obtain ⟨hlt,he⟩:=List.getElem?_eq_some_iff.mp hd
    rw [<-he]
    exact List.drop_eq_getElem_cons hlt
   simp only [e] at hi
   unfold wpS aR at hi
   unfold wpG
   generalize g d ρ=o at hi ⊢
   cases o with
   | none=>exact hi
   | some ρ1=>
    show wpS E mb _ ρ1
    simp only at hi
    unfold wpS
    generalize mb ρ1=o2 at hi ⊢
    cases o2 with
    | nx ρ2=>exact hi
    | ct ρ2=>exact hi
    | bk ρ2=>exact hi
    | rt c ρ2=>exact hi
    | ex c ρ2=>exact hi
    | bad=>exact hi
  ·simp only [List.drop_length] at h
   exact h) (dj (k:=aR g mb) q)
noncomputable def be (c:XM Bool) (b:SM):Nat->SM
 | 0,_=>.bad
 | n + 1,ρ=>ofX (c ρ) fun t ρ1=>if t=true then (match b ρ1 with
   | .nx ρ2=>be c b n ρ2
   | .ct ρ2=>be c b n ρ2
   | .bk ρ2=>.nx ρ2
   | o=>o) else .nx ρ1
theorem least {p:Nat->Prop}:(∃ k,p k)->∃ k,p k/\∀ j,p j->k<=j:=by
 rintro ⟨k,hk⟩
 induction k using Nat.strongRecOn with
 | _ k ih=>
  by_cases h:∃ j,j < k/\p j
  ·obtain ⟨j,h1,h2⟩:=h
   exact ih j h1 h2
  ·exact ⟨k,hk,fun j hj=>Nat.le_of_not_lt fun z=>h ⟨j,z,hj⟩⟩
theorem ju {cnd:Expr} {body:List Stmt} {mc:XM Bool} {mb:SM} {n:Nat} (hp:PassesOwn (model X.prog X.w) X.A X.env X.xe) (hc:FB X F E cnd mc) (hb:FSs X F E body mb):FS X F E (.While cnd body [] pos) (be mc mb n):=
 (vD hp hc hb).imp fun D ρ q=>by
  classical
  let ok:Nat->DEnv->Prop:=fun k ρ=>wpS E (be mc mb k) D ρ
  let Iv:DEnv->Prop:=fun ρ=>∃ k,ok k ρ
  let μ:DEnv->Nat:=fun ρ=>if h:Iv ρ then (least h).choose else 0
  have μs:∀ ρ,Iv ρ->ok (μ ρ) ρ/\∀ j,ok j ρ->μ ρ<=j:=fun ρ h=>by
   rw [show μ ρ=(least h).choose from dif_pos h]
   exact (least h).choose_spec
  refine ⟨Iv,μ,⟨n,q⟩,fun ρ hI=>?_⟩
  have h1:ok (μ ρ) ρ:=(μs ρ hI).1
  cases hk:μ ρ with
  | zero=>rw [hk] at h1; exact h1.elim
  | succ k=>
   rw [hk] at h1
   have less:∀ ρ2,ok k ρ2->Iv ρ2/\μ ρ2 < k + 1:=fun ρ2 h2=>⟨⟨k,h2⟩,Nat.lt_succ_of_le ((μs ρ2 ⟨k,h2⟩).2 k h2)⟩
   refine aj _ _ _ (fun t ρ1 q1=>?_) (dj (m:=mc) (k:=fun t ρ1=>if t=true then (match mb ρ1 with | .nx ρ2=>be mc mb k ρ2 | .ct ρ2=>be mc mb k ρ2 | .bk ρ2=>.nx ρ2 | o=>o) else .nx ρ1) h1)
   cases t with
   | false=>exact fg q1
   | true=>
    refine fi ?_
    unfold wpS at q1 ⊢
    simp only [if_true] at q1
    generalize mb ρ1=o2 at q1 ⊢
    cases o2 with
    | nx ρ2=>exact less ρ2 q1
    | ct ρ2=>exact less ρ2 q1
    | bk ρ2=>exact q1
    | rt c ρ2=>exact q1
    | ex c ρ2=>exact q1
    | bad=>exact q1
@[simp] noncomputable def iLs (a:XM PyData):XM (List PyData):=fun ρ=>(a ρ).bind fun d=>bR (match d with | .list ds=>some ds | _=>none)
@[simp] noncomputable def iTs (a:XM PyData):XM (List PyData):=fun ρ=>(a ρ).bind fun d=>bR (match d with | .tuple ds=>some ds | _=>none)
theorem DI.imp {tg iter:Expr} {t t':DTI} (h:DI X F tg iter t) (mn:∀ ρ Q Q',(∀ d ρ',Q d ρ'->Q' d ρ')->t' ρ Q->t' ρ Q') (k:∀ ρ Q,t' ρ Q->t ρ Q):DI X F tg iter t':=⟨mn,h.pi.imp fun σ H Q ⟨ρ,O,st,q⟩=>⟨ρ,O,st,k ρ _ q⟩⟩
theorem ie {tg:Expr} {ma:XM PyData} (h:FE X F E e ma):FI X F E tg e (iLs ma):=(xG h).imp aj fun ρ Q q=>aj _ _ _ (fun d ρ1 q1=>by
 obtain ⟨y,e1,q2⟩:=aY q1
 cases d with
 | list ds=>cases e1; exact ⟨_,rfl,q2⟩
 | _=>cases e1) (aD q)
theorem ix {tg:Expr} {ma:XM PyData} (h:FE X F E e ma):FI X F E tg e (iTs ma):=(Aa h).imp aj fun ρ Q q=>aj _ _ _ (fun d ρ1 q1=>by
 obtain ⟨y,e1,q2⟩:=aY q1
 cases d with
 | tuple ds=>cases e1; exact ⟨_,rfl,q2⟩
 | _=>cases e1) (aD q)
@[simp] noncomputable def iLf (g:List PyData->Option (List PyData)) (a:XM (List PyData)):XM (List PyData):=fun ρ=>(a ρ).bind fun ds=>bR (g ds)
@[simp] noncomputable def rng1:List PyData->Option (List PyData):=fun xs=>match xs with
 | [.int j]=>if (decide (-(2 ^ 62)<=j) && decide (j < 2 ^ 62))=true then some (intsFrom 0 j.toNat) else none
 | _=>none
theorem jZ {tg:Expr} {ma:XM (List PyData)} (h:DI X F tg e (iR1 (wp E ma))):FI X F E tg e (iLf rng1 ma):=h.imp aj fun ρ Q q=>aj _ _ _ (fun ds ρ1 q1=>by
 obtain ⟨y,e1,q2⟩:=aY q1
 unfold rng1 at e1
 split at e1
 ·split at e1
  ·rename_i h; cases e1; simp only [Bool.and_eq_true,decide_eq_true_eq] at h; exact ⟨_,rfl,h.1,h.2,q2⟩
  ·cases e1
 ·cases e1) (aD q)
@[simp] noncomputable def vM:List PyData->Option (List PyData):=fun xs=>match xs with
 | [.list ds]=>some (numbered ds)
 | _=>none
theorem ye {tg:Expr} {ma:XM (List PyData)} (h:DI X F tg e (iE (wp E ma))):FI X F E tg e (iLf vM ma):=h.imp aj fun ρ Q q=>aj _ _ _ (fun ds ρ1 q1=>by
 obtain ⟨y,e1,q2⟩:=aY q1
 unfold vM at e1
 split at e1
 ·cases e1; exact ⟨_,rfl,q2⟩
 ·cases e1) (aD q)
noncomputable def bE (g:GM) (t:XM Bool) (m:XM PyData):List PyData->List PyData->DEnv->Option (List PyData)
 | [],ys,_=>some ys
 | d :: r,ys,ρ=>(match g d ρ with
  | some ρ1=>(match t ρ1 with
   | .ok true ρ2=>(match m ρ2 with
    | .ok y ρ3=>if ys.length < sizeLine then bE g t m r (ys ++ [y]) ρ3 else none
    | _=>none)
   | .ok false ρ2=>bE g t m r ys ρ2
   | _=>none)
  | none=>none)
@[simp] noncomputable def oM (own:Nat) (caps:List Nat) (ρ:DEnv):DEnv:=List.replicate own none ++ caps.map fun j=>capC ρ[j]?
@[simp] noncomputable def wN (own:Nat) (caps:List Nat) (g:GM) (t:XM Bool) (m:XM PyData) (its:List PyData):XM PyData:=fun ρ1=>bR ((bE g t m its [] (oM own caps ρ1)).bind fun ys=>if ys.length<=sizeLine then some (.list ys) else none) ρ1
@[simp] noncomputable def xComp (own:Nat) (caps:List Nat) (s:XM (List PyData)) (g:GM) (t:XM Bool) (m:XM PyData):XM PyData:=fun ρ=>(s ρ).bind (wN own caps g t m)
noncomputable abbrev E0':Str->DEnv->Prop:=fun _ _=>False
theorem qW {own:List Str} {caps:List Nat} {s:XM (List PyData)} {g:GM} {t:XM Bool} {m:XM PyData} {ρ:DEnv} {Q:PyData->DEnv->Prop} (q:wp E (xComp own.length caps s g t m) ρ Q):dCmp own caps (wp E s) (wpG g) (wp E0' t) (wp E0' m) ρ Q:=aj _ _ _ (fun its ρ1 q1=>by
 obtain ⟨y,e1,q2⟩:=aY (o:=(bE g t m its [] (oM own.length caps ρ1)).bind fun ys=>if ys.length<=sizeLine then some (PyData.list ys) else none) (ρ:=ρ1) (E:=E) (Q:=Q) q1
 obtain ⟨ys0,e2,e3⟩:=Option.bind_eq_some_iff.mp e1
 have hl:ys0.length<=sizeLine/\y=.list ys0:=by
  split at e3
  ·rename_i h; cases e3; exact ⟨h,rfl⟩
  ·cases e3
 have eL:liftD own caps ρ1=oM own.length caps ρ1:=by
  unfold liftD oM
  rw [List.map_const']
 refine ⟨fun i ys ρ=>bE g t m (its.drop i) ys ρ=some ys0,by rw [eL]; exact e2,fun i d ys ρ hd hi=>?_,fun ys ρ h=>?_⟩
 ·have e:its.drop i=d :: its.drop (i + 1):=by
   obtain ⟨hlt,he⟩:=List.getElem?_eq_some_iff.mp hd
   rw [<-he]
   exact List.drop_eq_getElem_cons hlt
  simp only [e] at hi
  unfold bE at hi
  unfold wpG
  cases hg:g d ρ with
  | none=>rw [hg] at hi; cases hi
  | some ρ2=>
   rw [hg] at hi
   simp only at hi ⊢
   unfold wp
   cases ht:t ρ2 with
   | ex c ρ3=>rw [ht] at hi; cases hi
   | bad=>rw [ht] at hi; cases hi
   | ok b ρ3=>
    rw [ht] at hi
    cases b with
    | false=>exact fg hi
    | true=>
     refine fi ?_
     simp only at hi ⊢
     cases hm:m ρ3 with
     | ex c ρ4=>rw [hm] at hi; cases hi
     | bad=>rw [hm] at hi; cases hi
     | ok y' ρ4=>
      rw [hm] at hi
      simp only at hi ⊢
      split at hi
      ·rename_i h; exact ⟨h,hi⟩
      ·cases hi
 ·simp only [List.drop_length] at h
  have:ys=ys0:=by unfold bE at h; exact Option.some.inj h
  subst this
  rw [hl.2] at q2
  exact ⟨hl.1,q2⟩) (aD (k:=wN own.length caps g t m) q)
noncomputable abbrev FBs (X:Cx) (F:Fx) (E:Str->DEnv->Prop) (ifs:List Expr) (m:XM Bool):Prop:=DBs X F ifs (wp E m)
noncomputable def bTrue:XM Bool:=fun ρ=>.ok true ρ
theorem jj:FBs X F E [] bTrue:=⟨aj,fun pins s σ H Q I ⟨ρ,O,st,q⟩=>xH.2 pins s σ H Q I ⟨ρ,O,st,q⟩⟩
theorem mS {ma:XM Bool} (h:FB X F E c ma):FBs X F E [c] ma:=xI h
theorem ii {scope:Scope} {own capN:List Str} {caps:List Nat} {tg iter elt:Expr} {ifs:List Expr} {s:XM (List PyData)} {g:GM} {t:XM Bool} {m:XM PyData} {n:Nat} (S:CompScope X scope own capN caps) (hc:X.calm=true) (hn:own.length=n) (hi:FI X F E tg iter s)
  (hin:∀ C fp s₂ H₂ pl F',FG (aW X scope (own ++ capN) C fp s₂ H₂ pl) F' tg g/\FBs (aW X scope (own ++ capN) C fp s₂ H₂ pl) F' E0' ifs t/\FE (aW X scope (own ++ capN) C fp s₂ H₂ pl) F' E0' elt m)
  (hs:∀ x,foldedSetIterable iter X.env x=pure x:=by intro _; rfl):FE X F E (.ListComp elt [⟨tg,iter,ifs,0⟩] scope pos) (xComp n caps s g t m):=by
 subst hn
 exact (xJ S hc hi hin hs).imp aj fun ρ Q q=>qW q
theorem lO {scope:Scope} {own capN:List Str} {caps:List Nat} {tg iter elt:Expr} {ifs:List Expr} {s:XM (List PyData)} {g:GM} {t:XM Bool} {m:XM PyData} {n i:Nat} {y:Str} {py spos:Pos} (hN:X.N.Nodup) (hi':X.N[i]? = some y) (hx:Loc X.env.scope y) (S:CompScope X scope own capN caps) (hc:X.calm=true) (hn:own.length=n) (hi:FI X F E tg iter s)
  (hin:∀ C fp s₂ H₂ pl F',FG (aW X scope (own ++ capN) C fp s₂ H₂ pl) F' tg g/\FBs (aW X scope (own ++ capN) C fp s₂ H₂ pl) F' E0' ifs t/\FE (aW X scope (own ++ capN) C fp s₂ H₂ pl) F' E0' elt m)
  (hsw:swapsWith (.ListComp elt [⟨tg,iter,ifs,0⟩] scope pos) (some (.Name y py)) spos.line X.env=pure true:=by rfl)
  (hs:∀ x,foldedSetIterable iter X.env x=pure x:=by intro _; rfl) (hf:X.fn y=true\/X.env.scope.names.lookup y=some .local:=by first | exact .inl rfl | exact .inr rfl | assumption) :
  FS X F E (.Assign [.Name y py] (.ListComp elt [⟨tg,iter,ifs,0⟩] scope pos) spos) (aT (xComp n caps s g t m) (gNm i)):=by
 subst hn
 exact (r9 hN hi' hx S hc hi hin hsw hs hf).imp fun D ρ q=>by
  have q':=pB q
  exact o9 (s:=wp E s) aj ρ _ _ (fun d ρ' h=>h) (qW (Q:=fun d ρ'=>wpG (gNm i) d ρ' D.nx) q')
end
section
variable {K:PySem.W.Frag} {F:Fx} {H H':Hp} {σ:St} {ρ:DEnv} {O O':List Addr}
theorem DSt.fresh (st:DSt K F H σ ρ O) {p:Addr} {o:HO} (hp:H p=none) (ho:Mv o):∃ O',DSt K (F.plus [p]) (upd H p o) σ ρ O'/\Stp O H O' (upd H p o):=by
 obtain ⟨O',h1,h2,_⟩:=DSt.swap (L:=[]) (L':=[p]) (H':=upd H p o) (F:=F) st (fun b u _ e=>aC hp b u e) (by simp) (fun a h=>.inr (by obtain rfl:=List.mem_singleton.mp h; exact hp)) (fun a h=>by cases h) (fun a h=>by obtain rfl:=List.mem_singleton.mp h; exact ⟨o,bP,ho⟩)
 exact ⟨O',h1,h2⟩
theorem DSt.new1 (st:DSt K F H σ ρ O) {p:Addr} (hp:H p=none):∀ a ∈ [p],a ∈ F.A₀\/F.H₀ a=none:=fun a h=>by
 obtain rfl:=List.mem_singleton.mp h
 by_cases hA:a ∈ F.A₀
 ·exact .inl hA
 ·refine .inr ?_
  cases e:F.H₀ a with
  | none=>rfl
  | some o=>obtain ⟨W,h,_⟩:=st; have:=h.kept a o hA e; rw [hp] at this; cases this
end
section
variable {X:Cx} {F:Fx} {E:Str->DEnv->Prop} {e a b c:Expr} {es:List Expr} {st:Stmt} {rest:List Stmt} {pos:Pos} {x:Str}
noncomputable def BF (t:DTA):DTO:=fun ρ Q=>t ρ fun ds ρ'=>ds.length<=sizeLine/\Q (.own false (.l ds)) ρ'
theorem Az {tA:DTA} (h:DA X F es tA):DO X F (.List es pos) (BF tA):=
 ⟨fun _ _ _ k q=>h.mn _ _ _ (fun _ _ q1=>⟨q1.1,k _ _ q1.2⟩) q,(oS h.pa).imp fun σ H Q ⟨ρ,O,st,q⟩=>
  ⟨ρ,O,st,h.mn _ _ _ (fun ds ρ1 q1 vs H1 O1 st1 s1 d1=>⟨by rw [d1.length]; exact q1.1,fun p hp=>by
   obtain ⟨O2,st2,s2⟩:=st1.fresh (o:=.lst vs) hp trivial
   exact q1.2 _ _ O2 [p] ⟨st2,⟨p,rfl,rfl,vs,bP,DVs.mono s2.hid d1⟩,st1.new1 hp⟩ (s1.trans s2)⟩) q⟩⟩
@[simp] noncomputable def ku (a:XM (List PyData)):XM Cell:=fun ρ=>(a ρ).bind fun ds=>bR (if ds.length<=sizeLine then some (.own false (.l ds)) else none)
theorem j2 {ma:XM (List PyData)} (h:FA X F E es ma):FO X F E (.List es pos) (ku ma):=(Az h).imp aj fun ρ Q q=>aj _ _ _ (fun ds ρ1 q1=>by
 obtain ⟨d,e1,q2⟩:=aY q1
 split at e1
 ·rename_i h; cases e1; exact ⟨h,q2⟩
 ·cases e1) (aD q)
@[simp] noncomputable def vN (i:Nat) (d:PyData):SM:=fun ρ1=>match ρ1[i]? with
 | some (some (.own io (.l ds)))=>if ds.length < sizeLine then .nx (ρ1.set i (some (.own io (.l (ds ++ [d]))))) else .bad
 | _=>.bad
@[simp] noncomputable def kX (i:Nat) (m:XM PyData):SM:=fun ρ=>match ρ[i]? with
 | some (some (.own _ (.l _)))=>ofX (m ρ) (vN i)
 | _=>.bad
theorem j3 {i:Nat} {m:XM PyData} {p1 apos cpos:Pos} (hv:PE X (.Name x p1) (fV i)) (he:FE X F E e m) (hsw:swapsWith (.Call (.Attribute (.Name x p1) "append" apos) [e] [] cpos) none pos.line X.env=pure false:=by rfl)
  (hbase:attributeBase (.Name x p1) "append" X.env (eval (.Name x p1) X.env)=eval (.Name x p1) X.env:=by rfl)
  (hfew:((backTo cpos (starEach [e] X.env)).all (fun x=>!x.1) && (backToKw cpos (keywordEach [] X.env)).all (fun x=>x.1.isSome) && decide (([e]:List Expr).length + ([]:List Keyword).length + (if ([]:List Keyword).isEmpty then 0 else 1) < 30))=true:=by rfl)
  (hline:(apos.endLine == cpos.line)=true:=by rfl) (hs:starEach [e] X.env=(false,eval e X.env) :: starEach [] X.env:=by rfl) (hplain:(backTo cpos (starEach [] X.env)).any (·.1)=false:=by rfl) :
  FS X F E (.Expr (.Call (.Attribute (.Name x p1) "append" apos) [e] [] cpos) pos) (kX i m):=
 (qH (Bf PySem.F.plainAttrs_list PySem.F.slot_list_append PySem.F.type_list_append tO hv (ee he.pe fW hs) hbase hfew hline hs hplain) hsw).imp fun D σ H ⟨ρ,O,DD,st,q,f⟩=>by
  unfold wpS kX at q
  cases h0:ρ[i]? with
  | none=>rw [h0] at q; exact q.elim
  | some o=>
   rw [h0] at q
   cases o with
   | none=>exact q.elim
   | some c0=>
    cases c0 with
    | dat d=>exact q.elim
    | scr d=>exact q.elim
    | exc d=>exact q.elim
    | vw d=>exact q.elim
    | own io0 b0=>
     cases b0 with
     | m _ _=>exact q.elim
     | o _ _=>exact q.elim
     | sd _=>exact q.elim
     | ll _=>exact q.elim
     | l ds0=>
      obtain ⟨a,fp,hv0,⟨_,xs,hH,_⟩,_,_⟩:=st.box h0
      refine ⟨_,hv0,.inl ⟨rfl,xs,.of hH⟩,ρ,O,st,aj _ _ _ (fun d ρ1 q1 w H1 O1 st1 s1 d1=>?_) (dj (m:=m) (k:=vN i) q)⟩
      unfold wpS vN at q1
      cases h1:ρ1[i]? with
      | none=>rw [h1] at q1; exact q1.elim
      | some o=>
       rw [h1] at q1
       cases o with
       | none=>exact q1.elim
       | some c1=>
        cases c1 with
        | dat d=>exact q1.elim
        | scr d=>exact q1.elim
        | exc d=>exact q1.elim
        | vw d=>exact q1.elim
        | own io1 b1=>
         cases b1 with
         | m _ _=>exact q1.elim
         | o _ _=>exact q1.elim
         | sd _=>exact q1.elim
         | ll _=>exact q1.elim
         | l ds=>
          simp only at q1
          obtain ⟨a1,fp1,hv1,⟨e1,ys,hH1,hd⟩,hO,up⟩:=st1.box h1
          rw [hv0] at hv1; cases hv1
          subst e1
          by_cases hz:ds.length < sizeLine
          ·rw [if_pos hz] at q1
           refine ⟨a,ys,w,rfl,rfl,hH1,by rw [hd.length]; exact hz,?_⟩
           obtain ⟨O2,st2,s2,_⟩:=up (upd H1 a (.lst (ys ++ [w]))) (.l (ds ++ [d])) [a] (fun c o hc e=>by rw [aU (by simpa using hc)]; exact e) (by simp) (fun c hc=>.inl hc) (fun G O' s hG _=>by
            subst hG
            exact ⟨s.hid,rfl,ys ++ [w],bP,(DVs.mono s.hid hd).append (.cons (DV.mono s.hid d1) .nil)⟩)
           exact f.nx _ _ _ _ st2 (s1.trans s2) q1
          ·rw [if_neg hz] at q1; exact q1.elim
@[simp] noncomputable def lenC:Cell->Option PyData
 | .dat (.list ds)=>some (.int ds.length)
 | .dat (.tuple ds)=>some (.int ds.length)
 | .own _ (.l ds)=>some (.int ds.length)
 | _=>none
@[simp] noncomputable def sB (i:Nat):XM PyData:=fun ρ=>match ρ[i]? with
 | some (some c)=>bR (lenC c) ρ
 | _=>.bad
theorem yf {i:Nat} {p p1:Pos} (hg:Gl X "len") (hm:X.mg "len" = none) (h:PE X (.Name x p1) (fV i)) (he:starEach [.Name x p1] X.env=(false,eval (.Name x p1) X.env) :: starEach [] X.env:=by rfl) (hpl:(backTo pos (starEach [] X.env)).any (·.1)=false:=by rfl) :
  FE X F E (.Call (.Name "len" p) [.Name x p1] [] pos) (sB i):=
 ⟨aj,(jn dg hg hm PySem.boot_len (ee h fW he) (by decide) (by decide) he hpl).imp fun σ H Q ⟨ρ,O,st,q⟩=>by
  unfold wp sB at q
  cases h0:ρ[i]? with
  | none=>rw [h0] at q; exact q.elim
  | some o=>
   rw [h0] at q
   cases o with
   | none=>exact q.elim
   | some c0=>
    unfold bR at q
    cases c0 with
    | scr d=>exact q.elim
    | exc d=>exact q.elim
    | vw d=>exact q.elim
    | dat d=>
     obtain ⟨v,hv,hd⟩:=st.dat h0
     cases d with
     | list ds=>
      obtain ⟨a,xs,rfl,ha,hx⟩:=hd.lst_inv
      exact ⟨_,hv,a,xs,rfl,.inl (.of (aO ha).1),by rw [hx.length]; exact q _ H O st .refl (.int _)⟩
     | tuple ds=>
      obtain ⟨a,xs,rfl,ha,hx⟩:=hd.tup_inv
      exact ⟨_,hv,a,xs,rfl,.inr (.of (aO ha).1),by rw [hx.length]; exact q _ H O st .refl (.int _)⟩
     | _=>exact q.elim
    | own io b=>
     cases b with
     | l ds=>
      obtain ⟨a,fp,hv,⟨_,xs,hH,hx⟩,_,_⟩:=st.box h0
      exact ⟨_,hv,a,xs,rfl,.inl (.of hH),by rw [hx.length]; exact q _ H O st .refl (.int _)⟩
     | _=>exact q.elim⟩
end
section
variable {X:Cx} {F:Fx} {E:Str->DEnv->Prop} {e a b c:Expr} {es:List Expr} {st:Stmt} {rest:List Stmt} {pos:Pos} {x:Str}
@[simp] noncomputable def nLZ:List PyData->Option PyData:=fun xs=>match xs with
 | [.list as,.list bs,.list cs]=>if bs.length=as.length/\cs.length=as.length/\0 < as.length then some (.list (lH as bs cs)) else none
 | _=>none
theorem BG {ma:XM (List PyData)} (h:DE X F e (dLZ (wp E ma))):FE X F E e (xCB nLZ ma):=h.imp aj fun ρ Q q=>aj _ _ _ (fun ds ρ1 q1=>by
 obtain ⟨d,e1,q2⟩:=aY q1
 unfold nLZ at e1
 split at e1
 ·split at e1
  ·rename_i h; cases e1; exact ⟨_,_,_,rfl,h.1,h.2.1,h.2.2,q2⟩
  ·cases e1
 ·cases e1) (aD q)
noncomputable def sC:List PyData->Option PyData:=fun xs=>match xs with
 | [.int i,.int j,.int k]=>if (0<=i/\i<=2 ^ 20)/\(0<=j/\j<=2 ^ 20)/\(0 < k/\k<=2 ^ 20) then some (.list ((List.range (cnt3 i j k)).map fun (m:Nat)=>.int (i + m * k))) else none
 | _=>none
theorem AA {ma:XM (List PyData)} (h:DE X F e (dLR3 (wp E ma))):FE X F E e (xCB sC ma):=h.imp aj fun ρ Q q=>aj _ _ _ (fun ds ρ1 q1=>by
 obtain ⟨d,e1,q2⟩:=aY q1
 unfold sC at e1
 split at e1
 ·split at e1
  ·rename_i h; cases e1; exact ⟨_,_,_,rfl,h,q2⟩
  ·cases e1
 ·cases e1) (aD q)
@[simp] noncomputable def wO (k:Nat):PyData->Option PyData:=fun d=>match d with | .list ds=>some (.list (ds.drop k)) | _=>none
@[simp] noncomputable def xU (g:PyData->Option PyData) (a:XM PyData):XM PyData:=fun ρ=>(a ρ).bind fun d=>bR (g d)
theorem yg {k:Nat} {ma:XM PyData} (h:DE X F e (wF (wp E ma) k)):FE X F E e (xU (wO k) ma):=h.imp aj fun ρ Q q=>aj _ _ _ (fun d ρ1 q1=>by
 obtain ⟨y,e1,q2⟩:=aY q1
 cases d with
 | list ds=>cases e1; exact ⟨_,rfl,q2⟩
 | _=>cases e1) (aD q)
noncomputable def vO (i j:Nat) (ds:List PyData):SM:=fun ρ=>match ds with
 | [x,y]=>.nx ((ρ.set i (some (.dat x))).set j (some (.dat y)))
 | _=>.bad
noncomputable def wP (i j:Nat) (m:XM (List PyData)):SM:=fun ρ=>ofX (m ρ) (vO i j)
theorem AB {i j:Nat} {m:XM (List PyData)} (h:DS X F st (sPar i j (wp E m))):FS X F E st (wP i j m):=h.imp fun D ρ q=>aj _ _ _ (fun ds ρ1 q1=>by
 unfold wpS vO at q1
 split at q1
 ·rename_i e
  split at e
  ·cases e; exact ⟨_,_,rfl,q1⟩
  ·cases e
 all_goals (rename_i e; split at e <;> cases e)
 all_goals exact q1.elim) (dj (k:=vO i j) q)
end
noncomputable abbrev bmV:List Value:=[.type "ValueError",.type "Exception",.type "BaseException",.type "object"]
noncomputable def BH (h:Heap) (C:Addr):Prop:=∃ tl N nm q bs hdct sn sub ab col dd k0 k1 k2 k3 k5 mN,h.get? C=some (excClassObj nm q C N bs tl hdct sn sub ab col dd k0 k1 k2 k3 k5 "ValueError.__new__")/\h.Ns N mN/\mN "__init__" = none/\OwnTail h bmV tl
theorem vP {K:PySem.W.Frag} {h:Heap} {C:Addr} (X:K.In h) (e:PySem.W.excIn K C bmV "ValueError.__new__" = true):BH h C:=by
 unfold PySem.W.excIn at e
 split at e
 ·rename_i o1 o2 o3 o4
  split at e
  ·rename_i a1 a2 a3 a4 a5 a6 a7 a8 a9 a10
   have e':=e
   simp only [Bool.and_eq_true,beq_iff_eq] at e'
   obtain ⟨⟨⟨⟨⟨r1,r2⟩,r3⟩,r4⟩,r5⟩,r6⟩:=e'
   obtain ⟨n1,n2,n3,n4,n5,n6,n7,n8,n9,n10,n11⟩:=o2
   obtain ⟨l⟩:=o3
   simp at r3 a9 a10 r5 r6
   subst r1 r2 r3 a9 a10
   exact ⟨a2,n4,n1,n5,n2,n6,n7,n8,n9,n10,o1,a3,a4,a5,a6,a8,_,X _ _ o4,.of_isNs (PySem.W.isNs_of_in X r5),PySem.W.nsMap_none_of_in X r5 r6,PySem.W.tail_of_in X r4⟩
  ·cases e
 ·cases e
structure EC (K:PySem.W.Frag) (mg:Str->Option Value) (c:Str) (C:Addr):Prop where
 mg:mg c=some (.ref C)
 ns:PySem.W.nsIn K mainGlobals c=some (some (.ref C))
 ex:PySem.W.excIn K C bmV "ValueError.__new__" = true
@[simp] noncomputable def ij (c:Str):SM:=fun ρ=>.ex c ρ
section
variable {X:Cx} {F:Fx} {E:Str->DEnv->Prop}
theorem _root_.L2.Inv.madeX {pins:List (Addr × Obj)} {σ:St} {H:Hp} {s:Shared} {h':Heap} {e:Addr} {C:Value} {us:List Value} (I:Inv X pins σ H s) (m:Heap.MadeExcOf s.heap h' e C us):Inv X pins σ H { s with heap:=h' }/\Cov X pins s.heap/\ExS s.heap H h' e C none:=by
 have hb:∀ b,s.heap.get? b=none->H b=none:=fun b z=>HOk.some_of I.hok z
 obtain ⟨t,h1,h2,h3⟩:=m.there
 refine ⟨I.ch I.cov ⟨fun b o q _ _=>m.keeps b o q,fun b o _ q=>⟨o.slots,m.keeps b o q⟩,fun b o q=>⟨o,m.keeps b o q⟩⟩,I.cov,⟨fun b o q=>⟨o,m.keeps b o q⟩,m.new,hb e m.new,_,_,_,h1,rfl,rfl,rfl,.inl ⟨rfl,rfl⟩⟩⟩
theorem iy {c tx:Str} {C:Addr} {j:Nat} {np cpos pos kp:Pos} (hx:XOk X F E) (hh:X.A.handled=none) (hg:Gl X c) (ec:EC X.K X.mg c C) (hdb:(c == ("__debug__":Str))=false:=by decide)
  (he:starEach [.Constant (.str tx) j kp] X.env=(false,eval (.Constant (.str tx) j kp) X.env) :: starEach [] X.env:=by rfl) :
  FS X F E (.Raise (some (.Call (.Name c np) [.Constant (.str tx) j kp] [] cpos)) none pos) (ij c):=fun pins s σ H D I ⟨ρ,O,DD,st,q,f⟩=>by
 obtain ⟨tl,N,nm,qn,bs,hdct,sn,sub,ab,col,dd,k0,k1,k2,k3,k5,mN,hC,hN,hni,T⟩:=vP I.ok.mod.kin ec.ex
 refine wpAny_Raise_call_subU (C:=C) (nm:=nm) (q:=qn) (N:=N) (bs:=bs) (bm:=tl) (hdct:=hdct) (sn:=sn) (sub:=sub) (ab:=ab) (col:=col) (dd:=dd) (k0:=k0) (k1:=k1) (k2:=k2) (k3:=k3) (k5:=k5) (mN:=mN)
  PySem.F.excBase_ValueError (by decide) PySem.F.excBase_ValueError (T.hasType (by decide)) hh (by rw [he]; rfl) hni (mC I hg ec.mg ⟨rfl,?_⟩ hdb)
 have pa:PA X [.Constant (.str tx) j kp] _:=ee (tv (X:=X)) fW he
 have w:=pa cpos pins s σ H (fun vs H1=>vs.length=1/\H1=H) I (by exact ⟨rfl,rfl⟩)
 rw [he] at w ⊢
 refine Calls.evalArgs_plain (thn w fun us s2 ⟨vs,H1,I1,r,h1,h2⟩=>?_)
 subst h2
 refine ⟨rfl,by show us.length<=_; rw [<-r.length,h1]; decide,I1.bk _ _ hC,hN.keeps I1.bk,T.keeps I1.bk,fun h' e m=>?_⟩
 obtain ⟨I2,cv,ex⟩:=I1.madeX m
 exact hx pins σ _ _ _ c ρ O ⟨I2,e,.ref C,s2.heap,none,rfl,cv,ex,ec.mg⟩ st q
end
noncomputable def qX (K:PySem.W.Frag) (C D:Addr):Bool:=match K.lookup C with
 | some ⟨_,_,.cls cd,_⟩=>cd.mro.contains (.ref D)
 | _=>false
noncomputable def uo (K:PySem.W.Frag) (C:Addr):Bool:=PySem.W.findIn K (.ref C) "__getattribute__" == some (some (.builtin "BaseException.__getattribute__")) && PySem.W.findIn K (.ref C) "__class__" == some (some (.builtin "object.__class__")) && PySem.W.findIn K (.ref C) "__getattr__" == some none &&
 PySem.W.mroIn K C (.type "BaseException") == some true && PySem.W.mroIn K C (.type "object") == some true
noncomputable def uq (K:PySem.W.Frag) (D:Addr) (l:List Str):Bool:=l.all fun c=>match PySem.W.nsIn K mainGlobals c with
 | some (some (.ref C))=>PySem.W.excIn K C bmV "ValueError.__new__" && qX K C D && uo K C && (PySem.W.kitOne K (.ref C) (.type "ValueError") == some true) && l.all fun d=>match PySem.W.nsIn K mainGlobals d with
  | some (some (.ref D'))=>PySem.W.kitOne K (.ref C) (.ref D') == some (c == d)
  | _=>false
 | _=>false
structure XT (K:PySem.W.Frag) (mg:Str->Option Value) (l:List Str) (D:Addr):Prop where
 top:EC K mg "DueError" D
 tab:uq K D l=true
 mgs:∀ c C,PySem.W.nsIn K mainGlobals c=some (some (.ref C))->mg c=some (.ref C)
theorem XT.at_ {K:PySem.W.Frag} {mg:Str->Option Value} {l:List Str} {D:Addr} (x:XT K mg l D) {c:Str} (h:c ∈ l):∃ C,EC K mg c C/\qX K C D=true/\uo K C=true/\PySem.W.kitOne K (.ref C) (.type "ValueError")=some true/\
  ∀ d ∈ l,∃ D',mg d=some (.ref D')/\PySem.W.nsIn K mainGlobals d=some (some (.ref D'))/\PySem.W.kitOne K (.ref C) (.ref D')=some (c == d):=by
 have t:=List.all_eq_true.mp x.tab c h
 split at t
 ·rename_i C e
  simp only [Bool.and_eq_true] at t
  obtain ⟨⟨⟨⟨t1,t2⟩,t0⟩,t3⟩,t4⟩:=t
  refine ⟨C,⟨x.mgs c C e,e,t1⟩,t2,t0,by simpa using t3,fun d hd=>?_⟩
  have u:=List.all_eq_true.mp t4 d hd
  split at u
  ·rename_i D' e'
   exact ⟨D',x.mgs d D' e',e',by simpa using u⟩
  ·cases u
 ·cases t
section
variable {X:Cx} {F:Fx} {E:Str->DEnv->Prop} {e a b c:Expr} {es:List Expr} {st:Stmt} {rest:List Stmt} {pos:Pos} {x:Str}
@[simp] noncomputable def asO (ρ:DEnv) (i:Nat):Option (Bool × List PyData):=match ρ[i]? with
 | some (some (.own io (.l ds)))=>some (io,ds)
 | _=>none
theorem AC {ρ:DEnv} {i:Nat} {io:Bool} {ds:List PyData} (h:asO ρ i=some (io,ds)):ρ[i]? = some (some (.own io (.l ds))):=by
 unfold asO at h
 split at h
 ·rename_i e; cases h; exact e
 ·cases h
end
section
variable {X:Cx} {F:Fx} {E:Str->DEnv->Prop} {e a b c:Expr} {es:List Expr} {st:Stmt} {rest:List Stmt} {pos:Pos} {x:Str} {ma mb mc:XM PyData}
@[simp] noncomputable def bZ:=gI fun i j=>.int (i + j)
@[simp] noncomputable def eH:=gI fun i j=>.int (i - j)
@[simp] noncomputable def mT:=gIC jW fun i j=>.int (i * j)
@[simp] noncomputable def sD:=gIC mL fun i j=>.int (i / j)
@[simp] noncomputable def mU:=gIC ph fun i j=>.int (i % j)
@[simp] noncomputable def gLt:=gI fun i j=>.bool (decide (i < j))
@[simp] noncomputable def gLe:=gI fun i j=>.bool (decide (i<=j))
@[simp] noncomputable def gGt:=gI fun i j=>.bool (decide (j < i))
@[simp] noncomputable def gGe:=gI fun i j=>.bool (decide (j<=i))
theorem bf (ha:FE X F E a ma) (hb:FE X F E b mb):FE X F E (.BinOp a .Add b pos) (xOp bZ ma mb):=fD kU (Af ha hb)
theorem cC (ha:FE X F E a ma) (hb:FE X F E b mb):FE X F E (.BinOp a .Sub b pos) (xOp eH ma mb):=fD kU (Ag ha hb)
theorem j4 (ha:FE X F E a ma) (hb:FE X F E b mb):FE X F E (.BinOp a .Mult b pos) (xOp mT ma mb):=fD (oJ xQ) (Ah ha hb)
theorem pC (ha:FE X F E a ma) (hb:FE X F E b mb):FE X F E (.BinOp a .FloorDiv b pos) (xOp sD ma mb):=fD (oJ xR) (Ai ha hb)
theorem j5 (ha:FE X F E a ma) (hb:FE X F E b mb):FE X F E (.BinOp a .Mod b pos) (xOp mU ma mb):=fD (oJ xS) (Aj ha hb)
theorem iz (ha:FE X F E a ma) (hb:FE X F E b mb):FE X F E (.BinOp a .Add b pos) (xOp gK ma mb):=fD xW (Ak ha hb)
theorem qY (ha:FE X F E a ma) (hb:FE X F E b mb):FE X F E (.BinOp a .Add b pos) (xOp lK ma mb):=fD xX (xO ha hb)
theorem BI (ha:FE X F E a ma) (hb:FE X F E b mb):FE X F E (.Compare a [.Lt] [b] pos) (xOp gLt ma mb):=fD kU (Bu ha hb)
theorem oN (ha:FE X F E a ma) (hb:FE X F E b mb):FB X F E (.Compare a [.Lt] [b] pos) (aM (xOp gLt ma mb)):=hZ kU (Bv ha hb)
theorem iY (ha:FE X F E a ma) (hb:FE X F E b mb):FB X F E (.Compare a [.LtE] [b] pos) (aM (xOp gLe ma mb)):=hZ kU (Bw ha hb)
theorem lP (ha:FE X F E a ma) (hb:FE X F E b mb):FB X F E (.Compare a [.Gt] [b] pos) (aM (xOp gGt ma mb)):=hZ kU (By ha hb)
theorem wQ (ha:FE X F E a ma) (hb:FE X F E b mb):FB X F E (.Compare a [.GtE] [b] pos) (aM (xOp gGe ma mb)):=hZ kU (Bz ha hb)
theorem lQ (hu:X.A.units + 64 < cLine) (ha:FE X F E a ma) (hb:FE X F E b mb):FE X F E (.Compare a [.Eq] [b] pos) (xOp (gEq false) ma mb):=fD sj (BA hu ha hb)
theorem gM (hu:X.A.units + 64 < cLine) (ha:FE X F E a ma) (hb:FE X F E b mb):FB X F E (.Compare a [.Eq] [b] pos) (aM (xOp (gEq false) ma mb)):=hZ sj (BB hu ha hb)
theorem BJ (hu:X.A.units + 64 < cLine) (ha:FE X F E a ma) (hb:FE X F E b mb):FB X F E (.Compare a [.NotEq] [b] pos) (aM (xOp (gEq true) ma mb)):=hZ sj (BC hu ha hb)
theorem AD (ha:FE X F E a ma) (hb:FE X F E b mb):FE X F E (.Compare a [.Is] [b] pos) (xOp gIs ma mb):=fD wK (Al ha hb)
theorem AE (ha:FE X F E a ma) (hb:FE X F E b mb):FB X F E (.Compare a [.Is] [b] pos) (aM (xOp gIs ma mb)):=hZ wK (Am ha hb)
theorem qZ (ha:FE X F E a ma) (hb:FE X F E b mb):FB X F E (.Compare a [.IsNot] [b] pos) (aM (xOp fo ma mb)):=hZ vH (xM ha hb)
theorem yh (ha:FE X F E a ma) (hb:FE X F E b mb) (hc:FE X F E c mc) (hm:lastMarks [.LtE,.LtE] [b,c]=false:=by with_unfolding_all rfl):FE X F E (.Compare a [.LtE,.LtE] [b,c] pos) (pp (fun i j=>decide (i<=j)) (fun i j=>decide (i<=j)) ma mb mc):=vI (xN ha hb hc hm)
@[simp] noncomputable def gIxA:PyData->PyData->Option PyData:=fun x y=>match x,y with
 | .tuple ds,.int i=>atI ds i
 | .list ds,.int i=>atI ds i
 | _,_=>none
noncomputable def fIxA:D2:=fun x y Q=>fIxT x y Q\/fIxL x y Q
theorem BK {K:PySem.W.Frag}:Op2 (fun x y H Q=>vf K x y H Q\/ve K x y H Q) fIxA where
 mn:=fun x y Q Q' k h=>h.imp (wB (K:=K).mn x y Q Q' k) (wC (K:=K).mn x y Q Q' k)
 ok:=fun O H u v x y Q hO h1 h2 h=>h.imp (wB.ok O H u v x y Q hO h1 h2) (wC.ok O H u v x y Q hO h1 h2)
theorem AF:F2 fIxA gIxA:=fun x y d Q e q=>by
 unfold gIxA at e
 split at e
 ·exact .inl ⟨_,_,_,rfl,rfl,e,q⟩
 ·exact .inr ⟨_,_,_,rfl,rfl,e,q⟩
 ·cases e
theorem aE (ha:FE X F E a ma) (hb:FE X F E b mb) (hs:ko b:=by intro _ _; rfl):FE X F E (.Subscript a b pos) (xOp gIxA ma mb):=fD AF (Bi (IxR.or zu qO) BK ha hb hs)
end
noncomputable def pD:Expr->Bool
 | .Starred ..=>true
 | _=>false
theorem mV {e:Expr} {es:List Expr} {env:Env} (h:pD e=false):starEach (e :: es) env=(false,eval e env) :: starEach es env:=by
 cases e <;> first | rfl | cases h
section
variable {X:Cx} {F:Fx} {E:Str->DEnv->Prop} {e a b c:Expr} {es:List Expr} {pos:Pos} {x:Str}
theorem au {ma:XM PyData} {mr:XM (List PyData)} (ha:FE X F E e ma) (hr:FA X F E es mr) (hs:pD e=false:=by rfl):FA X F E (e :: es) (am ma mr):=xY ha hr (mV hs)
theorem ai {ma:XM PyData} {mr:XM (List AX)} (ha:FE X F E e ma) (hr:FX X F E es mr) (hs:pD e=false:=by rfl):FX X F E (e :: es) (ag ma mr):=Aw ha hr (mV hs)
theorem br {p:Pos} {j:Nat} {mr:XM (List AX)} (hv:PE X (.Name x p) (fV j)) (hr:FX X F E es mr):FX X F E (.Name x p :: es) (aV j mr):=yb hv hr (mV rfl)
end
section
variable {X:Cx} {F:Fx} {E:Str->DEnv->Prop} {e a b c:Expr} {es:List Expr} {pos:Pos} {x:Str} {ma mb:XM PyData}
@[simp] noncomputable def gPow:=gIC si fun i j=>.int (i ^ j.toNat)
theorem AG (ha:FE X F E a ma) (hb:FE X F E b mb):FE X F E (.BinOp a .Pow b pos) (xOp gPow ma mb):=fD (oJ xT) (Ao ha hb)
noncomputable def iR2 (t:DTA):DTI:=fun ρ Q=>t ρ fun ds ρ'=>∃ i j:Int,ds=[.int i,.int j]/\(-(2 ^ 62)<=i/\i < 2 ^ 62/\-(2 ^ 62)<=j/\j < 2 ^ 62)/\Q (intsFrom i (j - i).toNat) ρ'
theorem ur {tg:Expr} {tA:DTA} {p:Pos} (hg:Gl X "range") (hm:X.mg "range" = none) (ha:DA X F [a,b] tA) (hs:starEach [a,b] X.env=[(false,eval a X.env),(false,eval b X.env)]:=by rfl) (hs2:starEach [b] X.env=[(false,eval b X.env)]:=by rfl):DI X F tg (.Call (.Name "range" p) [a,b] [] pos) (iR2 tA):=
 ⟨fun _ _ _ k q=>ha.mn _ _ _ (fun _ _ ⟨i,j,e,h,q⟩=>⟨i,j,e,h,k _ _ q⟩) q,(tE hg hm ha.pa hs hs2).imp fun σ H R ⟨ρ,O,st,q⟩=>
  ⟨ρ,O,st,ha.mn _ _ _ (fun ds ρ1 ⟨i,j,e,h,q1⟩ vs H1 O1 st1 s1 d1=>by
   subst e
   obtain ⟨x,y,rfl,e1,e2⟩:=vE d1
   obtain rfl:=e1.int_inv
   obtain rfl:=e2.int_inv
   exact ⟨i,j,rfl,h,q1 _ H1 O1 st1 s1 o8⟩) q⟩⟩
@[simp] noncomputable def mW:List PyData->Option (List PyData):=fun xs=>match xs with
 | [.int i,.int j]=>if (decide (-(2 ^ 62)<=i) && decide (i < 2 ^ 62) && decide (-(2 ^ 62)<=j) && decide (j < 2 ^ 62))=true then some (intsFrom i (j - i).toNat) else none
 | _=>none
theorem ut {tg:Expr} {ma:XM (List PyData)} (h:DI X F tg e (iR2 (wp E ma))):FI X F E tg e (iLf mW ma):=h.imp aj fun ρ Q q=>aj _ _ _ (fun ds ρ1 q1=>by
 obtain ⟨y,e1,q2⟩:=aY q1
 unfold mW at e1
 split at e1
 ·split at e1
  ·rename_i h; cases e1; simp only [Bool.and_eq_true,decide_eq_true_eq] at h; exact ⟨_,_,rfl,⟨h.1.1.1,h.1.1.2,h.1.2,h.2⟩,q2⟩
  ·cases e1
 ·cases e1) (aD q)
end
end L2.L3
namespace L2
open PySem
noncomputable abbrev IsEnF (h:Heap) (e it:Addr) (i:Int) (f0 f1 old:Value):Prop:=
 h.get? e=some { cls:=.type "enumerate",dict:=none,data:=.fields #[f0,f1,.ref it,rawInt i,.none,old],slots:=#[] }
noncomputable abbrev pE (h:Heap) (T:Addr) (a b:Value):Prop:=h.get? T=some { cls:=.type "tuple",data:=.seq #[a,b] }
section
variable {prog:Program} {w:World} {A:Around} {E:Value->Shared->Prop} {s:Shared}
theorem ot {e it T:Addr} {i:Int} {f1 old:Value} {oT:Obj} {Q:Bool->Shared->Prop} (hf1:f1=.bool false\/f1=.bool true) (he:IsEnF s.heap e it i (rawInt T) f1 old) (hT:s.heap.get? T=some oT)
  (hQ:∀ h',IsEnF h' e it i (rawInt T) (.bool true) old->Heap.SameBut e s.heap h'->Q false { s with heap:=h' }):wpAny (model prog w) A (Builtin.SmallTypes.ownedTupleIsFree (.ref e)) Q E s:=by
 unfold Builtin.SmallTypes.ownedTupleIsFree
 refine Qaa (wpAny_field he rfl (x:=rawInt T) rfl ?_)
 show wpAny _ _ (loadIfAlive (Int.toNat T) >>= _) _ _ _
 refine Qaa (fj ?_)
 rw [Int.toNat_natCast,hT]
 show wpAny _ _ (field (.ref e) 1 >>= _) _ _ _
 refine Qaa (wpAny_field he rfl (x:=f1) rfl ?_)
 rcases hf1 with rfl | rfl
 ·show wpAny _ _ (setField (.ref e) 1 (.bool true) >>= _) _ _ _
  exact Qaa (wpAny_setField_rec he (by simp) fun h₁ hz₁ hs₁=>Qab (hQ h₁ hz₁ hs₁))
 ·exact Qab (hQ s.heap he (Heap.SameBut.refl ..))
theorem vQ {e it l T:Addr} {i:Nat} {items:Array Value} {x f1 old:Value} {oT:Obj} {Q:Value->Shared->Prop} (hf1:f1=.bool false\/f1=.bool true)
  (he:IsEnF s.heap e it i (rawInt T) f1 old) (hT:s.heap.get? T=some oT) (hTe:T ≠ e) (hTi:T ≠ it) (hit:s.heap.IsListIter it l i) (hl:s.heap.IsList l items) (hx:items[i]? = some x) (hne:e ≠ it)
  (hQ:∀ h',IsEnF h' e it ((i:Int) + 1) (rawInt T) (.bool true) old->h'.IsListIter it l (i + 1)->
   pE h' s.heap.objs.size (.int i s.toks) x->h'.objs.size=s.heap.objs.size + 1->
   (∀ b o,b ≠ e->b ≠ it->s.heap.get? b=some o->h'.get? b=some o)->Q (.ref s.heap.objs.size) { s with heap:=h',toks:=s.toks + 1 }) :
  wpAny (model prog w) A (Builtin.«enumerate.__next__» ⟨[.ref e],[]⟩) (fun fin s'=>∃ v,fin=.done (.ret v)/\Q v s') E s:=by
 obtain ⟨hp,g,d,tk,os⟩:=s
 show wpAny _ _ (field (.ref e) 2 >>= _) _ _ _
 refine Qaa (wpAny_field he rfl (x:=.ref it) rfl ?_)
 refine Qaa (wpAny_nextOf_list_item hit hl hx fun h₁ hit₁ hs₁=>?_)
 replace hs₁:Heap.SameBut it hp h₁:=hs₁
 have he₁:IsEnF h₁ e it i (rawInt T) f1 old:=(hs₁.2 e hne).trans he
 show wpAny _ _ (field (.ref e) 3 >>= _) _ _ ⟨h₁,g,d,tk,os⟩
 refine Qaa (wpAny_field he₁ rfl (x:=rawInt i) rfl ?_)
 show wpAny _ _ (field (.ref e) 4 >>= _) _ _ ⟨h₁,g,d,tk,os⟩
 refine Qaa (wpAny_field he₁ rfl (x:=.none) rfl ?_)
 show wpAny _ _ (mkInt i >>= _) _ _ ⟨h₁,g,d,tk,os⟩
 refine Qaa (wpAny_mkInt ?_)
 show wpAny _ _ (setField (.ref e) 3 (rawInt ((i:Int) + 1)) >>= _) _ _ ⟨h₁,g,d,tk + 1,os⟩
 refine Qaa (wpAny_setField_rec he₁ (by simp) fun h₂ he₂ hs₂=>?_)
 replace hs₂:Heap.SameBut e h₁ h₂:=hs₂
 replace he₂:IsEnF h₂ e it ((i:Int) + 1) (rawInt T) f1 old:=he₂
 show wpAny _ _ (setField (.ref e) 4 .none >>= _) _ _ ⟨h₂,g,d,tk + 1,os⟩
 refine Qaa (wpAny_setField_rec he₂ (by simp) fun h₃ he₃ hs₃=>?_)
 replace hs₃:Heap.SameBut e h₂ h₃:=hs₃
 replace he₃:IsEnF h₃ e it ((i:Int) + 1) (rawInt T) f1 old:=he₃
 show wpAny _ _ (newTuple [.int i tk,x] >>= _) _ _ ⟨h₃,g,d,tk + 1,os⟩
 refine Qaa (wpAny_newTuple ?_)
 have he₄:IsEnF (h₃.push { cls:=.type "tuple",data:=.seq #[.int i tk,x] }) e it ((i:Int) + 1) (rawInt T) f1 old:=Qac _ he₃
 generalize hh₄:h₃.push { cls:=.type "tuple",data:=.seq #[.int i tk,x] } = h₄ at he₄
 have hsz:h₃.objs.size=hp.objs.size:=by rw [hs₃.1,hs₂.1,hs₁.1]
 have hel:e < hp.objs.size:=Qad he
 have ht₄:h₄.get? hp.objs.size=some { cls:=.type "tuple",data:=.seq #[.int i tk,x] }:=by rw [<-hh₄,<-hsz]; exact Heap.get?_push_size _ rfl
 have hz₄:h₄.objs.size=hp.objs.size + 1:=by rw [<-hh₄,Heap.size_push,hsz]
 have hk₄:∀ b o,b ≠ e->b ≠ it->hp.get? b=some o->h₄.get? b=some o:=fun b o hbe hbi hb=>by
  rw [<-hh₄]; exact Qac _ (hs₃.extBut b o hbe (hs₂.extBut b o hbe (hs₁.extBut b o hbi hb)))
 have hit₄:h₄.IsListIter it l (i + 1):=by
  rw [<-hh₄]; obtain ⟨o,ho,r⟩:=(hit₁.extBut hs₂.extBut (Ne.symm hne)).extBut hs₃.extBut (Ne.symm hne); exact ⟨o,Qac _ ho,r⟩
 show wpAny _ _ (Builtin.SmallTypes.ownedTupleIsFree (.ref e) >>= _) _ _ ⟨h₄,g,d,tk + 1,os⟩
 rw [hsz]
 refine Qaa (ot (s:=⟨h₄,g,d,tk + 1,os⟩) hf1 he₄ (hk₄ T oT hTe hTi hT) fun h₅ he₅ hs₅=>?_)
 replace hs₅:Heap.SameBut e h₄ h₅:=hs₅
 refine Qab ⟨_,rfl,hQ h₅ he₅ (hit₄.extBut hs₅.extBut (Ne.symm hne)) (hs₅.extBut _ _ (Nat.ne_of_gt hel) ht₄) (by rw [hs₅.1]; exact hz₄) fun b o hbe hbi hb=>hs₅.extBut b o hbe (hk₄ b o hbe hbi hb)⟩
end
section
variable {prog:Program} {w:World} {A:Around} {E:Value->Shared->Prop} {s:Shared}
theorem jJ (a d:Value):argsOk "min" ⟨[a],[("default",d)]⟩:=by unfold argsOk; kernel_rfl
theorem j6 {id:String} {b:Builtin} {args:List Value} {kw:List (Str × Value)} {Q:Value->Shared->Prop} (hk:builtinKind id=none) (hp:plainId id=true) (hb:entryFor table id=some b) (ha:argsOk id ⟨args,kw⟩)
  (hc:wpAny (model prog w) A.in1 (b ⟨args,kw⟩) (fun fin s'=>match fin with
   | .done f=>(match (Except.ok f:Result) with | .ok (.ret v)=>Q v s' | .ok _=>False | .error e=>E e s')
   | .again c'=>c'.quiet=true/\codeAny (model prog w) A c' (fun r s'=>match r with | .ok (.ret v)=>Q v s' | .ok _=>False | .error e=>E e s') s') E s):wpAny (model prog w) A (call (.builtin id) args kw) Q E s:=by
 refine wpAny_call (codeAny_call_builtin hp hb ?_)
 simp only [checkBuiltinCall,hk]
 cases hsig:Manifest.signature? id with
 | none=>exact Qab hc
 | some sig=>
  have ha':Bind.checkArgs id sig ⟨args,kw⟩=pure ():=by simpa only [argsOk,hsig] using ha
  simp only [ha']
  exact Qab hc
theorem pF {l:Addr} {d:Value} {Q:Value->Shared->Prop} (hh:A.handled=none) (hl:s.heap.IsList l #[]) (hQ:∀ h',(∀ b o,s.heap.get? b=some o->h'.get? b=some o)->Q d { s with heap:=h' }) :
  wpAny (model prog w) A (call (.builtin "min") [.ref l] [("default",d)]) Q E s:=by
 refine j6 F.kind_min F.plain_min F.entry_min (jJ _ _) ?_
 show wpAny _ A.in1 (Builtin.Builtins.bindParams "min" ["key","default"] 0 ⟨[],[("default",d)]⟩ >>= _) _ _ s
 refine Qaa (wpAny_of_eq (show Builtin.Builtins.bindParams "min" ["key","default"] 0 ⟨[],[("default",d)]⟩=pure [none,some d] from rfl) ?_)
 refine Qaa (Qab ?_)
 refine Qaa (wpAny_pyIter_list hl ?_)
 refine Qaa (wpAny_newObj_type ?_)
 have hname:(toString "min" ++ toString ".loop":String) = "min.loop":=by decide
 rw [hname]
 obtain ⟨ol,hol,hcl,nl,hdl⟩:=id hl
 generalize hg:(s.heap.push { cls:=.type "list_iterator",data:=.fields #[.ref l,.int 0 0] })=h1
 have e1:h1.get? s.heap.objs.size=some { cls:=.type "list_iterator",data:=.fields #[.ref l,.int 0 0] }:=by rw [<-hg]; exact Heap.get?_push_size _ rfl
 have k1:∀ b o,s.heap.get? b=some o->h1.get? b=some o:=fun b o e=>by rw [<-hg]; exact Qac _ e
 refine Qab ⟨plainId_quiet F.plain_min_loop _,?_⟩
 refine codeAny_builtin F.entry_min_loop ?_
 rw [Around.under_plainId F.plain_min_loop _]
 have hS:(h1.push { cls:=.type "list",data:=.seq #[] }).get? h1.objs.size=some { cls:=.type "list",data:=.seq #[] }:=Heap.get?_push_size _ rfl
 show wpAny _ A.in1 (seqItems? (.ref h1.objs.size) >>= _) _ _ _
 refine Qaa (wpAny_seqItems hS rfl ?_)
 show wpAny _ A.in1 (tryCatch (pyNext (.ref s.heap.objs.size)) _ >>= _) _ _ _
 refine Qaa (wpAny_tryCatch (wpAny_pyNext_list_end (i:=0) (l:=l) (items:=#[]) hh ⟨_,Qac _ e1,rfl,rfl⟩ ⟨ol,Qac _ (k1 _ _ hol),hcl,nl,hdl⟩ rfl fun h' hk'=>?_))
 refine Qaa (wpAny_rule (Qab ?_))
 exact hQ h' fun b o e=>hk' b o (Nat.ne_of_lt (Qad e)) (Qac _ (k1 b o e))
end
section
variable {prog:Program} {w:World} {A:Around} {E:Value->Shared->Prop} {s:Shared}
theorem lR {it t:Addr} {i:Nat} {items:Array Value} {x:Value} {Q:Value->Shared->Prop} (hit:s.heap.IsTupleIter it t i) (ht:s.heap.IsTuple t items) (hx:items[i]? = some x)
  (hQ:∀ h',h'.IsTupleIter it t (i + 1)->Heap.SameBut it s.heap h'->Q x { s with heap:=h' }):wpAny (model prog w) A (Builtin.SmallTypes.nextOf (.ref it)) Q E s:=by
 obtain ⟨o,ho,hc,hd⟩:=id hit
 obtain ⟨ol,hol,_,nl,hdl⟩:=ht
 unfold Builtin.SmallTypes.nextOf
 refine Qaa (wpAny_callSpecial?_slot (name:=Str.ofString "__next__") hit.typeIs F.slot_tuple_iterator_next (wpAny_call_entry F.slot_tuple_iterator_next hit.typeIs F.entry_tuple_iterator_next ?_ (F.args_tuple_iterator_next_1 _)))
 show wpAny _ _ (field (.ref it) 0 >>= _) _ _ s
 refine Qaa (wpAny_field ho hd (x:=.ref t) rfl ?_)
 show wpAny _ _ (if (Value.ref t == Value.none)=true then _ else _) _ _ s
 rw [if_neg (by exact Bool.false_ne_true)]
 show wpAny _ _ (field (.ref it) 1 >>= _) _ _ s
 refine Qaa (wpAny_field ho hd (x:=.int i 0) rfl ?_)
 show wpAny _ _ (seqItems? (.ref t) >>= _) _ _ s
 refine Qaa (wpAny_seqItems hol hdl ?_)
 simp only [Int.toNat_natCast,hx]
 refine Qaa (wpAny_setField ho hd (by simp) (Qab ⟨x,rfl,Qab (hQ _ ⟨_,Heap.get?_update_self _ ho (Obj.isFreed_of_fields (Obj.data_mapFields hd _)),(Obj.cls_mapFields ..).trans hc,?_⟩ (Heap.SameBut.update ..))⟩))
 rw [Obj.data_mapFields hd]; simp [rawInt]
theorem mY {it t:Addr} {i:Nat} {items:Array Value} {Q:Value->Shared->Prop} (hh:A.handled=none) (hit:s.heap.IsTupleIter it t i) (ht:s.heap.IsTuple t items) (hx:items[i]? = none)
  (hE:∀ h' e,Heap.ExtBut it s.heap h'->(∃ o,h'.get? e=some o/\o.cls=.type "StopIteration")->E (.ref e) { s with heap:=h' }):wpAny (model prog w) A (Builtin.SmallTypes.nextOf (.ref it)) Q E s:=by
 obtain ⟨o,ho,hc,hd⟩:=id hit
 obtain ⟨ol,hol,_,nl,hdl⟩:=ht
 unfold Builtin.SmallTypes.nextOf
 refine Qaa (wpAny_callSpecial?_slot (name:=Str.ofString "__next__") hit.typeIs F.slot_tuple_iterator_next (wpAny_call_entry F.slot_tuple_iterator_next hit.typeIs F.entry_tuple_iterator_next ?_ (F.args_tuple_iterator_next_1 _)))
 show wpAny _ _ (field (.ref it) 0 >>= _) _ _ s
 refine Qaa (wpAny_field ho hd (x:=.ref t) rfl ?_)
 show wpAny _ _ (if (Value.ref t == Value.none)=true then _ else _) _ _ s
 rw [if_neg (by exact Bool.false_ne_true)]
 show wpAny _ _ (field (.ref it) 1 >>= _) _ _ s
 refine Qaa (wpAny_field ho hd (x:=.int i 0) rfl ?_)
 show wpAny _ _ (seqItems? (.ref t) >>= _) _ _ s
 refine Qaa (wpAny_seqItems hol hdl ?_)
 simp only [Int.toNat_natCast,hx]
 refine Qaa (wpAny_rule (Qaa (wpAny_setField ho hd (by simp) ?_)))
 show wpAny _ _ (newExc (.type "StopIteration") [] >>= _) _ _ _
 refine Qaa ?_
 simp only [newExc,newTuple]
 refine Qaa (wpAny_newObj_type ?_ (by size_fits))
 refine Qaa (m:=firstArgMember _ _) (wpAny_of_eq (a:=Value.none) (by first | rfl | (simp only [firstArgMember]; rfl)) ?_)
 refine wpAny_newObj_type ?_ (by size_fits)
 simp only [raiseNew]
 refine Qaa (wpAny_handled ?_)
 first | rw [show A.in1.handled=none from hh] | rw [hh]
 exact Qaa (Qab (wpAny_throw (hE _ _ (((Heap.SameBut.update ..).extBut.push _).push _) ⟨_,Heap.get?_push_size _ rfl,rfl⟩)))
end
theorem uu {prog:Program} {w:World} {A:Around} (hh:A.handled=none) (it l:Addr) (hne:l ≠ it) (items:Array Value):Draws prog w A it [it,l] items.size (fun i v=>items[i]? = some v) (fun i h=>h.IsTupleIter it l i/\h.IsTuple l items) where
 live:=fun _ _ st=>let ⟨o,ho,_⟩:=st.1; ⟨o,ho⟩
 frame:=fun _ _ _ st hk=>⟨let ⟨o,ho,r⟩:=st.1; ⟨o,hk it (by simp) o ho,r⟩,let ⟨o,ho,r⟩:=st.2; ⟨o,hk l (by simp) o ho,r⟩⟩
 item:=fun i s Q E hi st hQ=>lR st.1 st.2 (x:=items[i]) (by simp [hi]) fun h' hit' hs'=>hQ _ h' s.toks (by simp [hi]) ⟨hit',st.2.extBut hs'.extBut hne⟩ hs'
 done:=fun s Q E st hE=>mY hh st.1 st.2 (by simp) hE
open PySem PyProof.Rows
noncomputable def pG (h:Heap) (its:List Value) (rows:List (List Int)):Prop:=its.length=rows.length/\∀ (i:Nat) (v:Value),its[i]? = some v->∃ (T:Addr) (items:Array Value) (r:List Int),v=.ref T/\IsTup h T items/\rows[i]? = some r/\IntsAre items.toList r
noncomputable abbrev btT (rows:List (List Int)):Nat->Nat->Bool:=fun i j=>HT.lexLt (rows.getD i []) (rows.getD j [])
section
variable {prog:Program} {w:World} {A:Around} {R:Result->Shared->Prop} {E:Value->Shared->Prop} {s:Shared} {h0:Heap} {I l S:Addr} {its:Array Value} {rows:List (List Int)} {d:Value}
theorem vR {Q:Value->Shared->Prop} {i j:Nat} {u v:Value} (hu:A.units < cLine) (ht:pG h0 its.toList rows) (kp:∀ b o,h0.get? b=some o->s.heap.get? b=some o) (hi:its[i]? = some u) (hj:its[j]? = some v) (q:Q (.bool (btT rows i j)) s):wpAny (model prog w) A (richCompare .Lt u v) Q E s:=by
 obtain ⟨T,xs,r,rfl,t1,r1,a1⟩:=ht.2 i u (by simpa using hi)
 obtain ⟨T',ys,r',rfl,t2,r2,a2⟩:=ht.2 j v (by simpa using hj)
 have e1:rows.getD i []=r:=by rw [List.getD_eq_getElem?_getD,r1]; rfl
 have e2:rows.getD j []=r':=by rw [List.getD_eq_getElem?_getD,r2]; rfl
 unfold btT at q
 rw [e1,e2] at q
 have k1:IsTup s.heap T xs:=let ⟨o,e,x⟩:=t1; ⟨o,kp _ _ e,x⟩
 have k2:IsTup s.heap T' ys:=let ⟨o,e,x⟩:=t2; ⟨o,kp _ _ e,x⟩
 exact (HT.lt_tupInts k1 k2 a1 a2 hu q:wpAny (model prog w) A (compareOp .Lt (.ref T) (.ref T')) Q E s)
theorem uv (hh:A.handled=none) (hu:A.in1.units < cLine) (ht:pG h0 its.toList rows) (hl:h0.IsList l its) (hI:h0.objs.size<=I) (hS:h0.objs.size<=S) (hIS:I ≠ S) :
  ∀ (k j:Nat) (s:Shared) (vb:Value) (c:Nat),its.size - (j + 1)=k->j + 1<=its.size->(∀ b o,h0.get? b=some o->s.heap.get? b=some o)->s.heap.IsListIter I l (j + 1)->its[argBest (btT rows) j]? = some vb->
  s.heap.get? S=some { cls:=.type "list",dict:=none,data:=.seq #[vb,vb] c,slots:=#[] }->
  (∀ v h' tk,its[argBest (btT rows) (its.size - 1)]? = some v->(∀ b o,h0.get? b=some o->h'.get? b=some o)->R (.ok (.ret v)) { s with heap:=h',toks:=tk })->
  codeAny (model prog w) A (.builtin "min.loop" ⟨[.ref I,.none,.ref S],[("default",d)]⟩) R s:=by
 have hname:(toString "min" ++ toString ".loop":String) = "min.loop":=by decide
 have nI:∀ {b:Addr} {o:Obj},h0.get? b=some o->b ≠ I:=fun e z=>by subst z; exact absurd (Qad e) (Nat.not_lt.mpr hI)
 have nS:∀ {b:Addr} {o:Obj},h0.get? b=some o->S ≠ b:=fun e z=>by subst z; exact absurd (Qad e) (Nat.not_lt.mpr hS)
 intro k
 induction k with
 | zero=>
  intro j s vb c hk hj kp hit hb hSt hR
  have hin:j + 1=its.size:=by omega
  refine codeAny_builtin F.entry_min_loop ?_
  rw [Around.under_plainId F.plain_min_loop _]
  show wpAny _ A.in1 (seqItems? (.ref S) >>= _) _ _ s
  refine Qaa (wpAny_seqItems hSt rfl ?_)
  show wpAny _ A.in1 (tryCatch (pyNext (.ref I)) _ >>= _) _ _ s
  refine Qaa (wpAny_tryCatch (wpAny_pyNext_list_end hh hit (hl.at fun o e=>kp _ _ e) (by simp; omega) fun h1 hs1=>?_))
  have hS1:=hs1 S _ (Ne.symm hIS) hSt
  show wpAny _ A.in1 (updateSeq S (fun _=>#[]) >>= _) _ _ _
  refine Qaa (wpAny_updateSeq hS1 rfl (Qaa (wpAny_letGo (Qab ?_))))
  refine hR vb _ _ (by rw [<-hin]; exact hb) fun b o e=>?_
  exact (Heap.get?_update_other _ _ (nS e)).trans (hs1 _ _ (nI e) (kp _ _ e))
 | succ k ih=>
  intro j s vb c hk hj kp hit hb hSt hR
  have hlt:j + 1 < its.size:=by omega
  refine codeAny_builtin F.entry_min_loop ?_
  rw [Around.under_plainId F.plain_min_loop _]
  show wpAny _ A.in1 (seqItems? (.ref S) >>= _) _ _ s
  refine Qaa (wpAny_seqItems hSt rfl ?_)
  show wpAny _ A.in1 (tryCatch (pyNext (.ref I)) _ >>= _) _ _ s
  refine Qaa (wpAny_tryCatch (wpAny_pyNext_list_item hit (hl.at fun o e=>kp _ _ e) (x:=its[j + 1]) (by simp [hlt]) fun h1 hit1 hs1=>?_))
  have hS1:=hs1.extBut S _ (Ne.symm hIS) hSt
  have kp1:∀ b o,h0.get? b=some o->h1.get? b=some o:=fun b o e=>hs1.extBut _ _ (nI e) (kp _ _ e)
  show wpAny _ A.in1 (tryCatch (holding [its[j + 1],its[j + 1]] (richCompare .Lt its[j + 1] vb >>= _)) _ >>= _) _ _ _
  refine Qaa (wpAny_tryCatch (wpAny_holding (Qaa (vR (i:=j + 1) (j:=argBest (btT rows) j) hu ht kp1 (by simp [hlt]) hb ?_))))
  refine Qaa (wpAny_holding (wpAny_truthy_bool ?_))
  refine Qaa (wpAny_letGo (Qab ?_))
  cases hbt:btT rows (j + 1) (argBest (btT rows) j) with
  | true=>
   simp only [if_true]
   refine Qaa (wpAny_updateSeq hS1 rfl (Qaa (wpAny_letGo ?_)))
   rw [hname]
   refine Qab ⟨plainId_quiet F.plain_min_loop _,ih (j + 1) _ its[j + 1] _ (by omega) hlt (fun b o e=>(Heap.get?_update_other _ _ (nS e)).trans (kp1 _ _ e)) (hit1.at fun o e=>(Heap.get?_update_other _ _ (Ne.symm hIS)).trans e) (by simp only [argBest,hbt,if_true]; simp [hlt]) (Heap.get?_update_self _ hS1 rfl) fun v h' tk hv kp'=>hR v h' tk hv kp'⟩
  | false=>
   simp only [Bool.false_eq_true,if_false]
   refine Qaa (wpAny_letGo ?_)
   rw [hname]
   exact Qab ⟨plainId_quiet F.plain_min_loop _,ih (j + 1) _ vb c (by omega) hlt kp1 hit1 (by simp only [argBest,hbt,Bool.false_eq_true,if_false]; exact hb) hS1 fun v h' tk hv kp'=>hR v h' tk hv kp'⟩
theorem ou {Q:Value->Shared->Prop} (hh:A.handled=none) (hu:A.in1.units < cLine) (hl:s.heap.IsList l its) (ht:pG s.heap its.toList rows) (hn:0 < its.size) (hQ:∀ v h' tk,its[argBest (btT rows) (its.size - 1)]? = some v->(∀ b o,s.heap.get? b=some o->h'.get? b=some o)->Q v { s with heap:=h',toks:=tk }) :
  wpAny (model prog w) A (call (.builtin "min") [.ref l] [("default",d)]) Q E s:=by
 refine j6 F.kind_min F.plain_min F.entry_min (jJ _ _) ?_
 show wpAny _ A.in1 (Builtin.Builtins.bindParams "min" ["key","default"] 0 ⟨[],[("default",d)]⟩ >>= _) _ _ s
 refine Qaa (wpAny_of_eq (show Builtin.Builtins.bindParams "min" ["key","default"] 0 ⟨[],[("default",d)]⟩=pure [none,some d] from rfl) ?_)
 refine Qaa (Qab ?_)
 refine Qaa (wpAny_pyIter_list hl ?_)
 refine Qaa (wpAny_newObj_type ?_)
 have hname:(toString "min" ++ toString ".loop":String) = "min.loop":=by decide
 rw [hname]
 generalize hg:(s.heap.push { cls:=.type "list_iterator",data:=.fields #[.ref l,.int 0 0] })=h1
 have e1:h1.get? s.heap.objs.size=some { cls:=.type "list_iterator",data:=.fields #[.ref l,.int 0 0] }:=by rw [<-hg]; exact Heap.get?_push_size _ rfl
 have k1:∀ b o,s.heap.get? b=some o->h1.get? b=some o:=fun b o e=>by rw [<-hg]; exact Qac _ e
 have z1:h1.objs.size=s.heap.objs.size + 1:=by rw [<-hg,Heap.size_push]
 refine Qab ⟨plainId_quiet F.plain_min_loop _,?_⟩
 refine codeAny_builtin F.entry_min_loop ?_
 rw [Around.under_plainId F.plain_min_loop _]
 have hS:(h1.push { cls:=.type "list",data:=.seq #[] }).get? h1.objs.size=some { cls:=.type "list",data:=.seq #[] }:=Heap.get?_push_size _ rfl
 have k2:∀ b o,s.heap.get? b=some o->(h1.push { cls:=.type "list",data:=.seq #[] }).get? b=some o:=fun b o e=>Qac _ (k1 b o e)
 show wpAny _ A.in1 (seqItems? (.ref h1.objs.size) >>= _) _ _ _
 refine Qaa (wpAny_seqItems hS rfl ?_)
 show wpAny _ A.in1 (tryCatch (pyNext (.ref s.heap.objs.size)) _ >>= _) _ _ _
 refine Qaa (wpAny_tryCatch (wpAny_pyNext_list_item (i:=0) (l:=l) (items:=its) (x:=its[0]) ⟨_,Qac _ e1,rfl,rfl⟩ (hl.at fun o e=>k2 _ _ e) (by simp [hn]) fun h2 hit2 hs2=>?_))
 have ne:s.heap.objs.size ≠ h1.objs.size:=by rw [z1]; exact Nat.ne_of_lt (Nat.lt_succ_self _)
 have hS2:=hs2.extBut _ _ (Ne.symm ne) hS
 have k3:∀ b o,s.heap.get? b=some o->h2.get? b=some o:=fun b o e=>hs2.extBut _ _ (Nat.ne_of_lt (Qad e)) (k2 _ _ e)
 show wpAny _ A.in1 (updateSeq h1.objs.size (fun _=>#[its[0],its[0]]) >>= _) _ _ _
 refine Qaa (wpAny_updateSeq hS2 rfl ?_)
 rw [hname]
 refine Qab ⟨plainId_quiet F.plain_min_loop _,uv (h0:=s.heap) (its:=its) (rows:=rows) hh hu ht hl (Qae _) (by rw [z1]; exact Nat.le_succ _) ne _ 0 _ its[0] _ rfl hn (fun b o e=>(Heap.get?_update_other _ _ (fun z=>by subst z; exact absurd (Qad e) (by rw [z1]; exact Nat.not_lt.mpr (Nat.le_succ _)))).trans (k3 _ _ e)) (hit2.at fun o e=>(Heap.get?_update_other _ _ (Ne.symm ne)).trans e) (by simp [argBest,hn]) (Heap.get?_update_self _ hS2 rfl) fun v h' tk hv kp=>hQ v h' tk hv kp⟩
end
end L2
namespace L2.L3
open PySem PySem.Spec PyProof.Rows
noncomputable def eI:List PyData->Option (List Int)
 | []=>some []
 | .int i :: r=>(eI r).map (i :: ·)
 | _=>none
noncomputable def ft:List PyData->Option (List (List Int))
 | []=>some []
 | .tuple ds :: r=>(match eI ds,ft r with | some x,some y=>some (x :: y) | _,_=>none)
 | _=>none
theorem j7:∀ {ds:List PyData} {ns:List Int},eI ds=some ns->ds=ns.map PyData.int
 | [],ns,h=>by cases h; rfl
 | .int i :: r,ns,h=>by
  unfold eI at h
  obtain ⟨m,h1,h2⟩:=Option.map_eq_some_iff.mp h
  subst h2
  rw [j7 h1]; rfl
 | .none :: _,_,h=>by cases h
 | .bool _ :: _,_,h=>by cases h
 | .str _ :: _,_,h=>by cases h
 | .list _ :: _,_,h=>by cases h
 | .tuple _ :: _,_,h=>by cases h
 | .dict _ :: _,_,h=>by cases h
theorem j8:∀ {ds:List PyData} {rs:List (List Int)},ft ds=some rs->ds=rs.map fun r=>PyData.tuple (r.map PyData.int)
 | [],rs,h=>by cases h; rfl
 | .tuple l :: r,rs,h=>by
  unfold ft at h
  cases h1:eI l with
  | none=>rw [h1] at h; cases h
  | some x=>
   cases h2:ft r with
   | none=>rw [h1,h2] at h; cases h
   | some y=>
    rw [h1,h2] at h
    cases h
    rw [j8 h2,j7 h1]; rfl
 | .none :: _,_,h=>by cases h
 | .bool _ :: _,_,h=>by cases h
 | .str _ :: _,_,h=>by cases h
 | .list _ :: _,_,h=>by cases h
 | .int _ :: _,_,h=>by cases h
 | .dict _ :: _,_,h=>by cases h
theorem kY {H:Hp}:∀ {vs:List V} {ns:List Int},DVs H vs (ns.map PyData.int)->vs=ns.map V.int
 | _,[],.nil=>rfl
 | _,n :: ns,.cons h t=>by rw [h.int_inv,kY t]; rfl
theorem ints_are:∀ {ns:List Int} {us:List Value},Vals (ns.map V.int) us->IntsAre us ns
 | [],_,.nil=>.nil
 | n :: ns,_,.cons r t=>by
  obtain ⟨tk,rfl⟩:=r
  exact .cons n tk (ints_are t)
noncomputable def cD:List (List Int)->List Int->List Int
 | [],b=>b
 | r :: rs,b=>cD rs (if HT.lexLt r b=true then r else b)
theorem kH (rows:List (List Int)):∀ (k j:Nat),j + 1 + k=rows.length->cD (rows.drop (j + 1)) (rows.getD (argBest (btT rows) j) [])=rows.getD (argBest (btT rows) (rows.length - 1)) []
 | 0,j,h=>by
  have e:rows.drop (j + 1)=[]:=List.drop_eq_nil_of_le (by omega)
  rw [e,cD,show rows.length - 1=j by omega]
 | k + 1,j,h=>by
  have hlt:j + 1 < rows.length:=by omega
  rw [List.drop_eq_getElem_cons hlt,cD,<-kH rows k (j + 1) (by omega)]
  congr 1
  have e1:rows.getD (j + 1) []=rows[j + 1]:=by rw [List.getD_eq_getElem?_getD,List.getElem?_eq_getElem hlt]; rfl
  simp only [argBest]
  unfold btT
  rw [e1]
  split
  ·exact e1.symm
  ·rfl
theorem hu1 {A:Around} (hu:A.units + 1 < cLine):A.in1.units < cLine:=by
 have:A.in1.units<=A.units + 1:=by first | exact Qae _ | exact Nat.le_succ _
 exact Nat.lt_of_le_of_lt this hu
section
variable {X:Cx} {F:Fx} {E:Str->DEnv->Prop} {pos p p1 kp kpos:Pos} {x:Str} {i:Nat}
noncomputable def lS (i:Nat):XM PyData:=fun ρ=>match asO ρ i with
 | some (_,ds)=>(match ft ds with
  | some []=>.ok .none ρ
  | some (r :: rs)=>.ok (.tuple ((cD rs r).map PyData.int)) ρ
  | none=>.bad)
 | none=>.bad
theorem yi {kj:Nat} (hu:X.A.units + 1 < cLine) (hc:X.calm=true) (hg:Gl X "min") (hm:X.mg "min" = none) (hv:PE X (.Name x p1) (fV i))
  (he0:starEach [.Name x p1] X.env=(false,eval (.Name x p1) X.env) :: starEach [] X.env:=by rfl)
  (he:backTo pos (starEach [.Name x p1] X.env)=(false,eval (.Name x p1) X.env) :: backTo pos (starEach [] X.env):=by rfl)
  (hplain:(backTo pos (starEach [.Name x p1] X.env)).any (·.1)=false:=by rfl)
  (hall:(backToKw pos (keywordEach [⟨some "default",.Constant .none kj kp,kpos⟩] X.env)).all (·.1.isSome)=true:=by rfl)
  (hkw:(backToKw pos (keywordEach [⟨some "default",.Constant .none kj kp,kpos⟩] X.env)).any (·.1.isNone)=false:=by rfl)
  (hn:(backToKw pos (keywordEach [⟨some "default",.Constant .none kj kp,kpos⟩] X.env)).filterMap (·.1)=[("default":Str)]:=by rfl) :
  FE X F E (.Call (.Name "min" p) [.Name x p1] [⟨some "default",.Constant .none kj kp,kpos⟩] pos) (lS i):=by
 refine ⟨aj,fun pins s σ H Q I ⟨ρ,O,st,q⟩=>?_⟩
 unfold wp lS at q
 cases ho:asO ρ i with
 | none=>rw [ho] at q; exact q.elim
 | some pr=>
  obtain ⟨io,ds⟩:=pr
  rw [ho] at q
  simp only at q
  cases hr:ft ds with
  | none=>rw [hr] at q; exact q.elim
  | some rows=>
   rw [hr] at q
   obtain ⟨a,fp,hv0,⟨_,xs,hH,hd⟩,_,_⟩:=st.box (AC ho)
   refine wpAny_Call_Name_kw (eG I hg hm PyProof.Rows.boot_min ?_ (by decide) (by decide))
   refine PyProof.Rows.callWith_kw ?_ he hplain hall hkw
   refine thn ((ee hv fW he0) pos pins s σ H (fun vs H1=>vs=[.ref a]/\H1=H) I ⟨_,hv0,rfl,rfl⟩) fun us s1 ⟨vs,H1,I1,r1,e1,e2⟩=>?_
   subst e1 e2
   obtain ⟨u,rfl,ru⟩:=iR r1
   cases ru
   refine thn ((xf (nm:=some "default") (kpos:=kpos) tu zn) pos pins s1 σ H1 (fun vs H2=>vs=[.non]/\H2=H1) I1 ⟨rfl,rfl⟩) fun us s2 ⟨vs,H2,I2,r2,e1,e2⟩=>?_
   subst e1 e2
   obtain ⟨u,rfl,ru⟩:=iR r2
   cases ru
   rw [hn]
   obtain ⟨z1,its,n1,rv,g1⟩:=I2.hok _ _ hH
   have hds:=j8 hr
   have L:s2.heap.IsList a its.toArray:=⟨_,g1,rfl,_,rfl⟩
   cases rows with
   | nil=>
    subst hds
    cases hd
    cases rv
    simp only at q
    refine pF (l:=a) (d:=.none) (I2.ok.hd hc) L fun h' hk=>?_
    exact ⟨.non,H2,I2.kept (t':=s2.toks) hk,rfl,q _ H2 O st .refl .non⟩
   | cons r rs=>
    simp only at q
    have hlen:its.length=(r :: rs).length:=by rw [<-rv.length,hd.length,hds,List.length_map]
    have item:∀ (k:Nat) (v:Value),its[k]? = some v->∃ (T:Addr) (rk:List Int) (jts:List Value) (vv:V),v=.ref T/\IsTup s2.heap T jts.toArray/\(r :: rs)[k]? = some rk/\IntsAre jts rk/\RelV vv v/\DV (hide O H2) vv (.tuple (rk.map PyData.int)):=fun k v hk=>by
     have hkl:k < (r :: rs).length:=by rw [<-hlen]; exact (List.getElem?_eq_some_iff.mp hk).1
     have hdk:ds[k]? = some (.tuple (((r :: rs)[k]).map PyData.int)):=by rw [hds,List.getElem?_map,List.getElem?_eq_getElem hkl]; rfl
     obtain ⟨vv,hvv,dvv⟩:=hd.get hdk
     obtain ⟨w,hw,rw'⟩:=rv.get hvv
     rw [hk] at hw
     cases hw
     obtain ⟨T,ys,rfl,hT,hy⟩:=dvv.tup_inv
     obtain ⟨_,jts,rj,pj⟩:=I2.hok _ _ (aO hT).1
     rw [kY hy] at rj
     cases rw'
     exact ⟨T,_,jts,.ref T,rfl,pj,List.getElem?_eq_getElem hkl,ints_are rj,rfl,dvv⟩
    refine ou (l:=a) (its:=its.toArray) (rows:=r :: rs) (d:=.none) (I2.ok.hd hc) (hu1 hu) L ⟨hlen,fun k v hk=>by
     obtain ⟨T,rk,jts,vv,e1,e2,e3,e4,_,_⟩:=item k v hk
     exact ⟨T,jts.toArray,rk,e1,e2,e3,e4⟩⟩ (by simp only [List.size_toArray]; rw [hlen]; simp) fun v h' tk hv hk=>?_
    simp only [List.size_toArray,List.getElem?_toArray] at hv
    obtain ⟨T,rk,jts,vv,e1,e2,e3,e4,e5,e6⟩:=item _ v hv
    have hm:=kH (r :: rs) rs.length 0 (by simp; omega)
    have hb0:(r :: rs).getD (argBest (btT (r :: rs)) 0) []=r:=by simp [argBest]
    rw [hb0] at hm
    change cD rs r=_ at hm
    rw [hlen] at e3
    have:rk=cD rs r:=by rw [hm,List.getD_eq_getElem?_getD,e3]; rfl
    subst this
    exact ⟨vv,H2,I2.kept (t':=tk) hk,e5,q _ H2 O st .refl e6⟩
end
theorem scm {N P:List Str} {sc:Scope} (h1:sc.kind=.function:=by rfl) (h2:sc.isCoroutine=false:=by rfl) (h3:sc.isGenerator=false:=by rfl) (h4:N.Nodup:=by decide +kernel) (h5:N.take P.length=P:=by rfl) (h6:∀ x ∈ P,sc.names.lookup x=some .local\/sc.names.lookup x=some .cell:=by decide +kernel) (h7:∀ y ∈ sc.names,y.2 ≠ .free:=by decide +kernel):FnScope N P sc:=⟨h1,h2,h3,h4,h5,h6,h7⟩
section
variable {X:Cx} {F:Fx} {E:Str->DEnv->Prop} {e:Expr} {es:List Expr} {pos p p1 apos:Pos} {x m q:Str} {C:Addr} {i k j:Nat} {g:Addr} {fd:FuncData} {ps:List Str} {f:FM} {st:Stmt} {mX:XM (List AX)}
theorem fv (i:Nat) (hN:X.N[i]? = some x:=by rfl) (hv:Vis X.env.scope x:=by first | exact Or.inl rfl | exact Or.inr (Or.inl rfl) | exact Or.inr (Or.inr rfl)) (hd:(x == ("__debug__":Str))=false:=by decide) (hcd:(x == ("__classdict__":Str))=false:=by decide):FE X F E (.Name x pos) (xV i):=fe_v (tT i (pv i hN hv hd hcd))
theorem fgn (i:Nat) (hN:X.N.Nodup) (hi:X.N[i]? = some x:=by rfl) (hx:Loc X.env.scope x:=by first | exact Or.inl rfl | exact Or.inr rfl) (hf:X.fn x=true\/X.env.scope.names.lookup x=some .local:=by first | exact .inl rfl | exact .inr rfl | assumption):FG X F (.Name x pos) (gNm i):=ya (xr (w4 hN hi hx hf))
theorem fcd (hx:XOk X F E) (G:FnOk X.prog X.w X.K X.mg X.base (CXM X.prog X.w) k g fd ps (spF X.K X.mg f)) (D:FD X.K X.mg x st ps g fd) (hr:Room j X.A) (ha:FX X F E (e :: es) mX) (hk:k<=j:=by decide) (hg:Gl X x:=by rfl) (hdb:(x == ("__debug__":Str))=false:=by decide)
  (he:starEach (e :: es) X.env=(false,eval e X.env) :: starEach es X.env:=by rfl) (hpl:(backTo pos (starEach es X.env)).any (·.1)=false:=by rfl):FO X F E (.Call (.Name x p) (e :: es) [] pos) (ao f mX):=yc (xE hx G (hr.mono hk) hg D.mgf D.fn.kp D.b ha hdb he hpl)
end
end L2.L3
namespace HT
open PySem PyProof.Rows
section
variable {prog:Program} {w:World} {A:Around} {E:Value->Shared->Prop} {s:Shared}
theorem getItem_tuple_whole {t sl:Addr} {items:Array Value} {vl vu:Value} {lo hi:Option Int} {Q:Value->Shared->Prop} (ht:IsTup s.heap t items) (hs:s.heap.IsSliceOf sl vl vu .none) (pl:IsPart vl lo) (pu:IsPart vu hi)
  (h0:sIx items.size 0 lo=0) (h1:sIx items.size items.size hi=items.size) (h:Q (.ref t) s):wpAny (model prog w) A (getItem (.ref t) (.ref sl)) Q E s:=by
 obtain ⟨os,hos,hcs,hds⟩:=id hs
 have hTs:s.TypeIs (.ref sl) "slice":=⟨os,hos,hcs⟩
 unfold getItem
 try with_reducible refine wpAny_holding ?_
 first | refine Qaa (Qab ?_) | skip
 refine Qaa (wpAny_sequenceKey ht.typeIs (by decide) ?_)
 refine Qaa (wpAny_callSpecial?_slot (name:=Str.ofString "__getitem__") ht.typeIs PyProof.Rows.slot_tuple_getitem (wpAny_call_entry PyProof.Rows.slot_tuple_getitem ht.typeIs entry_tuple_getitem ?_ (args_tuple_getitem _ _)))
 show wpAny _ _ (Builtin.Tuple.tupleItemsOf (.ref t) >>= _) _ _ s
 refine Qaa (tupleItemsOf_ ht ?_)
 refine Qaa (wpAny_typeOf hTs ?_)
 rw [if_pos (by decide)]
 refine Qaa (iq hs pl pu ?_)
 show wpAny _ _ (if (((sIx items.size 0 lo:Nat):Int) == 0 && (1:Int) == 1 && (sIx items.size items.size hi - sIx items.size 0 lo) == items.size)=true then _ else _) _ _ s
 rw [if_pos (by rw [h0,h1]; simp)]
 unfold Builtin.Tuple.tupleIsExact
 first
  | exact Qaa (Qaa (wpAny_typeOf ht.typeIs (Qab (by
    show wpAny _ _ (if ((Value.type "tuple" == Value.type "tuple"):Bool)=true then _ else _) _ _ s
    rw [if_pos (by decide)]
    exact Qaa (wpAny_rule (Qab ⟨_,rfl,Qab h⟩))))))
  | exact Qaa (Qaa (wpAny_typeOf ht.typeIs (Qab (by
    show wpAny _ _ (if ((Value.type "tuple" == Value.type "tuple"):Bool)=true then _ else _) _ _ s
    rw [if_pos (by decide)]
    exact Qaa (wpAny_rule (Qaa (Qab (Qab ⟨_,rfl,Qab h⟩))))))))
  | exact Qaa (Qaa (Qaa (wpAny_typeOf ht.typeIs (Qab (by
    show wpAny _ _ (if ((Value.type "tuple" == Value.type "tuple"):Bool)=true then _ else _) _ _ s
    rw [if_pos (by decide)]
    exact Qaa (wpAny_rule (Qab (Qab ⟨_,rfl,Qab h⟩))))))))
end
end HT
namespace L2
open PySem PySem.Spec PyProof.Rows
section
variable {X:Cx}
noncomputable def rSlW (K:PySem.W.Frag):V->Option Int->Option Int->Hp->VK->Prop:=fun x lo hi H Q=>∃ a xs,x=.ref a/\SqT K H a xs/\HT.sIx xs.length 0 lo=0/\HT.sIx xs.length xs.length hi=xs.length/\Q (.ref a) H
theorem yj:SlR X (rSlW X.K):=by
 intro pins s σ H x v vl vu lo hi sl Q I rx hs pl pu h
 obtain ⟨a,xs,rfl,hx,h0,h1,q⟩:=h
 cases rx
 obtain ⟨its,r,ht,hz⟩:=I.tuple hx
 have hlen:its.toArray.size=xs.length:=by rw [List.size_toArray]; exact r.length.symm
 refine ⟨"tuple",_,PyProof.Rows.slot_tuple_getitem.lookup,ht.typeIs,?_⟩
 exact HT.getItem_tuple_whole ht hs pl pu (by rw [hlen]; exact h0) (by rw [hlen]; exact h1) ⟨.ref a,H,I,rfl,q⟩
end
end L2
namespace L2.L3
open PySem PySem.Spec PyProof.Rows
noncomputable def cutD (ds:List PyData) (lo hi:Option Int):List PyData:=(ds.drop (HT.sIx ds.length 0 lo)).take (HT.sIx ds.length ds.length hi - HT.sIx ds.length 0 lo)
theorem DVs.drop {H:Hp}:∀ {vs:List V} {ds:List PyData} (n:Nat),DVs H vs ds->DVs H (vs.drop n) (ds.drop n)
 | _,_,0,h=>h
 | _,_,_ + 1,.nil=>.nil
 | _,_,n + 1,.cons _ t=>DVs.drop n t
theorem DVs.take {H:Hp}:∀ {vs:List V} {ds:List PyData} (n:Nat),DVs H vs ds->DVs H (vs.take n) (ds.take n)
 | _,_,0,_=>.nil
 | _,_,_ + 1,.nil=>.nil
 | _,_,n + 1,.cons h t=>.cons h (DVs.take n t)
theorem uw {H:Hp} {vs:List V} {ds:List PyData} {lo hi:Option Int} (h:DVs H vs ds):DVs H (cutV vs lo hi) (cutD ds lo hi):=by
 unfold cutV cutD
 rw [h.length]
 exact DVs.take _ (DVs.drop _ h)
noncomputable def rdP (K:PySem.W.Frag) (F:Fx) (t:DEnv->(Option Int->DEnv->Prop)->Prop):TO:=fun σ H Q=>∃ ρ O,DSt K F H σ ρ O/\t ρ fun o ρ'=>∀ H' O',DSt K F H' σ ρ' O'->Stp O H O' H'->Q o H'
section
variable {X:Cx} {F:Fx} {E:Str->DEnv->Prop} {e:Expr} {pos p2:Pos} {lo hi:Option Expr}
noncomputable def FP (X:Cx) (F:Fx) (E:Str->DEnv->Prop) (e:Option Expr) (m:XM (Option Int)):Prop:=PO X e (rdP X.K F (wp E m))
@[simp] noncomputable def pNo:XM (Option Int):=fun ρ=>.ok none ρ
@[simp] noncomputable def pIs (m:XM PyData):XM (Option Int):=fun ρ=>(m ρ).bind fun d=>bR (match d with | .int i=>some (some i) | _=>none)
theorem PO.imp {e:Option Expr} {t t':TO} (h:PO X e t) (k:∀ σ H Q,t' σ H Q->t σ H Q):PO X e t':=fun pins s σ H Q I q=>h pins s σ H Q I (k σ H Q q)
theorem BL:FP X F E none pNo:=PO.imp qL fun σ H Q ⟨ρ,O,st,q⟩=>q H O st .refl
theorem BM {m:XM PyData} (h:FE X F E e m):FP X F E (some e) (pIs m):=PO.imp (qM h.pe) fun σ H Q ⟨ρ,O,st,q⟩=>⟨ρ,O,st,aj _ _ _ (fun d ρ1 q1 v H1 O1 st1 s1 dv=>by
 obtain ⟨y,e1,q2⟩:=aY q1
 cases d with
 | int i=>cases e1; exact ⟨i,dv.int_inv,q2 H1 O1 st1 s1⟩
 | _=>cases e1) (aD q)⟩
noncomputable def slK (d:PyData) (l h:Option Int):Option PyData:=match d with
 | .list ds=>some (.list (cutD ds l h))
 | .tuple ds=>some (.tuple (cutD ds l h))
 | _=>none
@[simp] noncomputable def xSl (m:XM PyData) (lo hi:XM (Option Int)):XM PyData:=fun ρ=>(m ρ).bind fun d ρ1=>(lo ρ1).bind fun l ρ2=>(hi ρ2).bind fun h=>bR (slK d l h)
theorem vS {m:XM PyData} {ml mh:XM (Option Int)} (he:FE X F E e m) (hl:FP X F E lo ml) (hh:FP X F E hi mh):FE X F E (.Subscript e (.Slice lo hi none p2) pos) (xSl m ml mh):=
 ⟨aj,(oV (SlR.or (SlR.or zq yj) qP) he.pe hl hh).imp fun σ H Q ⟨ρ,O,st,q⟩=>
  ⟨ρ,O,st,aj _ _ _ (fun d ρ1 q1 v H1 O1 st1 s1 dv=>⟨ρ1,O1,st1,aj _ _ _ (fun l ρ2 q2 H2 O2 st2 s2=>⟨ρ2,O2,st2,aj _ _ _ (fun h ρ3 q3 H3 O3 st3 s3=>by
   obtain ⟨y,e1,q4⟩:=aY q3
   have dv3:=DV.mono (s2.trans s3).hid dv
   have s13:=s1.trans (s2.trans s3)
   cases d with
   | list ds=>
    cases e1
    obtain ⟨a,xs,rfl,ha,hx⟩:=dv3.lst_inv
    exact .inr ⟨a,xs,rfl,.of (aO ha).1,fun p hp=>q4 _ _ O3 (st3.grow (aC hp)) (s13.trans (.same (aC hp))) (dP hp (st3.nofree p hp) (uw hx))⟩
   | tuple ds=>
    cases e1
    obtain ⟨a,xs,ev,ha,hx⟩:=id dv3.tup_inv
    subst ev
    refine .inl ?_
    by_cases hw:HT.sIx xs.length 0 l=0/\HT.sIx xs.length xs.length h=xs.length
    ·refine .inr ⟨a,xs,rfl,.of (aO ha).1,hw.1,hw.2,q4 _ H3 O3 st3 s13 ?_⟩
     have:cutD ds l h=ds:=by
      unfold cutD
      rw [<-hx.length,hw.1,hw.2]
      rw [List.drop_zero,Nat.sub_zero,hx.length]
      exact List.take_length
     rw [this]; exact dv3
    ·exact .inl ⟨a,xs,rfl,.of (aO ha).1,hw,fun p hp=>q4 _ _ O3 (st3.grow (aC hp)) (s13.trans (.same (aC hp))) (fY hp (st3.nofree p hp) (uw hx))⟩
   | _=>cases e1) (aD (m:=mh) (k:=fun h=>bR (slK d l h)) q2)⟩) (aD (m:=ml) (k:=fun l ρ2=>(mh ρ2).bind fun h=>bR (slK d l h)) q1)⟩) (aD (m:=m) (k:=fun d ρ1=>(ml ρ1).bind fun l ρ2=>(mh ρ2).bind fun h=>bR (slK d l h)) q)⟩⟩
end
end L2.L3
namespace L2.TS
open PySem PyProof.Rows
section
variable {α:Type} {le:α->α->Bool}
theorem jv {as bs:List α} {b:α}:∀ {xs:List α},(∀ x ∈ xs,le x b=true)->List.merge (xs ++ as) (b :: bs) le=xs ++ List.merge as (b :: bs) le
 | [],_=>rfl
 | x :: xs,h=>by
  rw [List.cons_append,List.cons_merge_cons,if_pos (h x List.mem_cons_self),jv fun y hy=>h y (Qak _ hy)]; rfl
theorem j9 {as bs:List α} {a:α}:∀ {ys:List α},(∀ y ∈ ys,le a y=false)->List.merge (a :: as) (ys ++ bs) le=ys ++ List.merge (a :: as) bs le
 | [],_=>rfl
 | y :: ys,h=>by
  rw [List.cons_append,List.cons_merge_cons,if_neg (by rw [h y List.mem_cons_self]; exact Bool.false_ne_true),j9 fun z hz=>h z (Qak _ hz)]; rfl
theorem pH {xs bs:List α} (h:∀ y ∈ bs,∀ x ∈ xs,le x y=false):List.merge xs bs le=bs ++ xs:=by
 cases xs with
 | nil=>simp
 | cons x xs=>
  have:=j9 (le:=le) (as:=xs) (bs:=[]) (a:=x) (ys:=bs) fun y hy=>h y hy x List.mem_cons_self
  rw [List.append_nil,List.merge_right] at this
  exact this
theorem yk {as ys:List α} (h:∀ x ∈ as,∀ y ∈ ys,le x y=true):List.merge as ys le=as ++ ys:=by
 cases ys with
 | nil=>simp
 | cons y ys=>
  have:=jv (le:=le) (as:=[]) (bs:=ys) (b:=y) (xs:=as) fun x hx=>h x hx y List.mem_cons_self
  simpa using this
theorem kZ {xs:List α}:∀ (as bs:List α),(∀ y ∈ bs,∀ x ∈ xs,le x y=false)->List.merge (as ++ xs) bs le=List.merge as bs le ++ xs
 | [],bs,h=>by simpa using pH h
 | a :: as,[],h=>by simp
 | a :: as,b :: bs,h=>by
  rw [List.cons_append,List.cons_merge_cons,List.cons_merge_cons]
  split
  ·rw [kZ as (b :: bs) h]; rfl
  ·rw [<-List.cons_append,kZ (a :: as) bs fun y hy=>h y (Qak _ hy)]; rfl
termination_by as bs=>as.length + bs.length
theorem jw {ys:List α}:∀ (as bs:List α),(∀ x ∈ as,∀ y ∈ ys,le x y=true)->List.merge as (bs ++ ys) le=List.merge as bs le ++ ys
 | as,[],h=>by simpa using yk h
 | [],b :: bs,h=>by simp
 | a :: as,b :: bs,h=>by
  rw [List.cons_append,List.cons_merge_cons,List.cons_merge_cons]
  split
  ·rw [<-List.cons_append,jw as (b :: bs) fun x hx=>h x (Qak _ hx)]; rfl
  ·rw [jw (a :: as) bs h]; rfl
termination_by as bs=>as.length + bs.length
end
noncomputable def gal':Bool->Keyed->Array Keyed->Nat->Nat->Nat->StateT SortSt Sem (Option Nat):=sortPriv% PySem.Builtin.gallop
noncomputable def bey (lf:Bool) (ky:Keyed) (ar:Array Keyed) (bs i:Nat):StateT SortSt Sem (Option Bool):=do
 let x <-elem' ar (bs + i)
 if lf then lt' x ky else return (<-lt' ky x).map (!·)
noncomputable def sE (lf:Bool) (ky:Keyed) (ar:Array Keyed) (bs n l0 h0:Nat):StateT SortSt Sem (Option Nat):=do
 let mut lo:=l0
 let mut hi:=h0
 for _ in [0:n] do
  if lo ≥ hi then break
  let m:=lo + (hi - lo) / 2
  let some mo <-bey lf ky ar bs m | return none
  if mo then lo:=m + 1 else hi:=m
 return some hi
theorem gal'_eq (lf:Bool) (ky:Keyed) (ar:Array Keyed) (bs n hn:Nat):gal' lf ky ar bs n hn=(do
 let mut la:=0
 let mut of:=1
 let some rt <-bey lf ky ar bs hn | return none
 if rt then
  for _ in [0:n] do
   if of ≥ n - hn then break
   let some mo <-bey lf ky ar bs (hn + of) | return none
   if !mo then break
   la:=of
   of:=2 * of + 1
  sE lf ky ar bs n (hn + la + 1) (hn + min of (n - hn))
 else
  for _ in [0:n] do
   if of ≥ hn + 1 then break
   let some fd <-bey lf ky ar bs (hn - of) | return none
   if fd then break
   la:=of
   of:=2 * of + 1
  sE lf ky ar bs n (hn + 1 - min of (hn + 1)) (hn - la)):=rfl
section
variable {prog:Program} {w:World} {A:Around} {E:Value->Shared->Prop} {s:Shared} {le:Keyed->Keyed->Bool} {κ:SortKind} {S:Keyed->Prop}
noncomputable def dc (prog:Program) (w:World) (A:Around) (E:Value->Shared->Prop) (s:Shared) (le:Keyed->Keyed->Bool) (κ:SortKind) (S:Keyed->Prop):Prop:=
 ∀ x y,S x->S y->∀ (Q:Option Bool->SortSt->Prop) (st:SortSt),kindOf st=κ->Q (some (!le y x)) st->wpS (model prog w) A E s (lt' x y) Q st
theorem aX {ar:Array Keyed} {i:Nat} {x:Keyed} {Q:Keyed->SortSt->Prop} {st:SortSt} (h:ar[i]? = some x) (q:Q x st):wpS (model prog w) A E s (elem' ar i) Q st:=by
 rw [elem'_eq,h]; exact Qag q
noncomputable def cU (le:Keyed->Keyed->Bool) (lf:Bool) (ky x:Keyed):Bool:=if lf then !le ky x else le x ky
theorem kv (hL:dc prog w A E s le κ S) {lf:Bool} {ky x:Keyed} {ar:Array Keyed} {bs i:Nat} {Q:Option Bool->SortSt->Prop} {st:SortSt} (hk:kindOf st=κ) (hx:ar[bs + i]? = some x) (sx:S x) (sk:S ky)
  (q:Q (some (cU le lf ky x)) st):wpS (model prog w) A E s (bey lf ky ar bs i) Q st:=by
 unfold bey
 refine Qaf (aX hx ?_)
 cases lf with
 | true=>exact hL x ky sx sk Q st hk q
 | false=>exact Qaf (hL ky x sk sx _ st hk (Qag (by simpa [cU] using q)))
variable {p:Nat->Bool} {lf:Bool} {ky:Keyed} {ar:Array Keyed} {bs n:Nat} {Q:Option Nat->SortSt->Prop} {st:SortSt}
theorem pI (hL:dc prog w A E s le κ S) (hk:kindOf st=κ) (sk:S ky) (hin:∀ i,i < n->∃ x,ar[bs + i]? = some x/\S x/\cU le lf ky x=p i) (mono:∀ i j,i<=j->j < n->p j=true->p i=true)
  (h:∀ k,k<=n->(∀ i,i < k->p i=true)->(∀ i,k<=i->i < n->p i=false)->Q (some k) st) {l0 h0:Nat} (hlh:l0<=h0) (hn:h0<=n) (h1:∀ i,i < l0->p i=true) (h2:∀ i,h0<=i->i < n->p i=false) :
  wpS (model prog w) A E s (sE lf ky ar bs n l0 h0) Q st:=by
 unfold sE
 dsimp only
 refine Qaf (wpS_mono (wpS_forRange (I:=fun x c st'=>st' = st/\∃ lo hi,c=(none,lo,hi)/\lo<=hi/\hi<=n/\hi - lo<=n - x/\(∀ i,i < lo->p i=true)/\(∀ i,hi<=i->i < n->p i=false))
  (Q:=fun c st'=>st' = st/\∃ k,c=(none,k,k)/\k<=n/\(∀ i,i < k->p i=true)/\(∀ i,k<=i->i < n->p i=false)) ?_ ?_ ⟨rfl,l0,h0,rfl,hlh,hn,by omega,h1,h2⟩) ?_)
 ·rintro x c st' _ hx ⟨rfl,lo,hi,rfl,a1,a2,a3,a4,a5⟩
  dsimp only
  by_cases hge:lo ≥ hi
  ·rw [if_pos hge]
   have:lo=hi:=by omega
   subst this
   exact Qag ⟨rfl,lo,rfl,a2,a4,a5⟩
  ·rw [if_neg hge]
   obtain ⟨x,e1,e2,e3⟩:=hin (lo + (hi - lo) / 2) (by omega)
   refine Qaf (kv hL hk e1 e2 sk ?_)
   rw [e3]
   cases e:p (lo + (hi - lo) / 2) with
   | true=>exact Qag ⟨rfl,_,_,rfl,by omega,a2,by omega,fun i hi'=>mono i _ (by omega) (by omega) e,a5⟩
   | false=>
    refine Qag ⟨rfl,_,_,rfl,by omega,by omega,by omega,a4,fun i h3 h4=>?_⟩
    cases e':p i with
    | false=>rfl
    | true=>rw [mono _ i h3 h4 e'] at e; cases e
 ·rintro c st' ⟨rfl,lo,hi,rfl,a1,a2,a3,a4,a5⟩
  have:lo=hi:=by omega
  subst this
  exact ⟨rfl,lo,rfl,a2,a4,a5⟩
 ·rintro c st' ⟨rfl,k,rfl,a2,a4,a5⟩
  exact Qag (h k a2 a4 a5)
theorem yl (hL:dc prog w A E s le κ S) (hk:kindOf st=κ) (sk:S ky) (hin:∀ i,i < n->∃ x,ar[bs + i]? = some x/\S x/\cU le lf ky x=p i) (mono:∀ i j,i<=j->j < n->p j=true->p i=true)
  (h:∀ k,k<=n->(∀ i,i < k->p i=true)->(∀ i,k<=i->i < n->p i=false)->Q (some k) st) {hn:Nat} (hh:hn < n) :
  wpS (model prog w) A E s (gal' lf ky ar bs n hn) Q st:=by
 rw [gal'_eq]
 have anti:∀ i j,i<=j->j < n->p i=false->p j=false:=fun i j h3 h4 e=>by
  cases e':p j with
  | false=>rfl
  | true=>rw [mono i j h3 h4 e'] at e; cases e
 obtain ⟨x,e1,e2,e3⟩:=hin hn hh
 refine Qaf (kv hL hk e1 e2 sk ?_)
 rw [e3]
 dsimp only
 cases e:p hn with
 | true=>
  rw [if_pos rfl]
  refine Qaf (wpS_mono (wpS_forRange (I:=fun x c st'=>st' = st/\∃ la of,c=(none,la,of)/\la < of/\x + 1<=of/\hn + la < n/\p (hn + la)=true)
   (Q:=fun c st'=>st' = st/\∃ la of,c=(none,la,of)/\la < of/\hn + la < n/\p (hn + la)=true/\(n - hn<=of\/(hn + of < n/\p (hn + of)=false))) ?_ ?_ ⟨rfl,0,1,rfl,by omega,by omega,by omega,e⟩) ?_)
  ·rintro x c st' _ hx ⟨rfl,la,of,rfl,a1,a2,a3,a4⟩
   dsimp only
   by_cases hge:of ≥ n - hn
   ·rw [if_pos hge]
    exact Qag ⟨rfl,la,of,rfl,a1,a3,a4,.inl hge⟩
   ·rw [if_neg hge]
    obtain ⟨x,e1,e2,e3⟩:=hin (hn + of) (by omega)
    refine Qaf (kv hL hk e1 e2 sk ?_)
    rw [e3]
    cases e:p (hn + of) with
    | true=>exact Qag ⟨rfl,of,_,rfl,by omega,by omega,by omega,e⟩
    | false=>exact Qag ⟨rfl,la,of,rfl,a1,a3,a4,.inr ⟨by omega,e⟩⟩
  ·rintro c st' ⟨rfl,la,of,rfl,a1,a2,a3,a4⟩
   exact ⟨rfl,la,of,rfl,a1,a3,a4,.inl (by omega)⟩
  ·rintro c st' ⟨rfl,la,of,rfl,a1,a3,a4,a5⟩
   dsimp only
   refine pI hL hk sk hin mono h (by omega) (by omega) (fun i hi=>mono i _ (by omega) a3 a4) (fun i h3 h4=>?_)
   rcases a5 with a5 | ⟨a5,a6⟩
   ·omega
   ·exact anti _ i (by omega) h4 a6
 | false=>
  rw [if_neg Bool.false_ne_true]
  refine Qaf (wpS_mono (wpS_forRange (I:=fun x c st'=>st' = st/\∃ la of,c=(none,la,of)/\la < of/\x + 1<=of/\la<=hn/\p (hn - la)=false)
   (Q:=fun c st'=>st' = st/\∃ la of,c=(none,la,of)/\la < of/\la<=hn/\p (hn - la)=false/\(hn + 1<=of\/(of<=hn/\p (hn - of)=true))) ?_ ?_ ⟨rfl,0,1,rfl,by omega,by omega,by omega,e⟩) ?_)
  ·rintro x c st' _ hx ⟨rfl,la,of,rfl,a1,a2,a3,a4⟩
   dsimp only
   by_cases hge:of ≥ hn + 1
   ·rw [if_pos hge]
    exact Qag ⟨rfl,la,of,rfl,a1,a3,a4,.inl hge⟩
   ·rw [if_neg hge]
    obtain ⟨x,e1,e2,e3⟩:=hin (hn - of) (by omega)
    refine Qaf (kv hL hk e1 e2 sk ?_)
    rw [e3]
    cases e:p (hn - of) with
    | false=>exact Qag ⟨rfl,of,_,rfl,by omega,by omega,by omega,e⟩
    | true=>exact Qag ⟨rfl,la,of,rfl,a1,a3,a4,.inr ⟨by omega,e⟩⟩
  ·rintro c st' ⟨rfl,la,of,rfl,a1,a2,a3,a4⟩
   exact ⟨rfl,la,of,rfl,a1,a3,a4,.inl (by omega)⟩
  ·rintro c st' ⟨rfl,la,of,rfl,a1,a3,a4,a5⟩
   dsimp only
   refine pI hL hk sk hin mono h (by omega) (by omega) (fun i hi=>?_) (fun i h3 h4=>anti _ i h3 h4 a4)
   rcases a5 with a5 | ⟨a5,a6⟩
   ·omega
   ·exact mono i _ (by omega) (by omega) a6
theorem gB (hL:dc prog w A E s le κ S) (tr:∀ x y z,le x y=true->le y z=true->le x z=true) (hk:kindOf st=κ) (sk:S ky) (hS:∀ (i:Nat) (x:Keyed),ar[i]? = some x->S x) (hsz:bs + n<=ar.size)
  (so:∀ (i j:Nat) (x y:Keyed),bs<=i->i<=j->j < bs + n->ar[i]? = some x->ar[j]? = some y->le x y=true)
  (h:∀ k,k<=n->(∀ (i:Nat),i < k->∀ x:Keyed,ar[bs + i]? = some x->cU le lf ky x=true)->(∀ (i:Nat),k<=i->i < n->∀ x:Keyed,ar[bs + i]? = some x->cU le lf ky x=false)->Q (some k) st) {hn:Nat} (hh:hn < n) :
  wpS (model prog w) A E s (gal' lf ky ar bs n hn) Q st:=by
 refine yl (p:=fun i=>match ar[bs + i]? with | some x=>cU le lf ky x | none=>false) hL hk sk (fun i hi=>?_) (fun i j hij hj e=>?_) (fun k hk1 h1 h2=>h k hk1 (fun i hi x e=>?_) (fun i h3 h4 x e=>?_)) hh
 ·have e:ar[bs + i]? = some (ar[bs + i]'(by omega)):=getElem?_pos _ _ (by omega)
  exact ⟨_,e,hS _ _ e,by simp only [e]⟩
 ·have e1:ar[bs + i]? = some (ar[bs + i]'(by omega)):=getElem?_pos _ _ (by omega)
  have e2:ar[bs + j]? = some (ar[bs + j]'(by omega)):=getElem?_pos _ _ (by omega)
  have q:=so _ _ _ _ (by omega) (by omega) (by omega) e1 e2
  simp only [e1,e2] at e ⊢
  cases lf with
  | false=>exact tr _ _ _ q e
  | true=>
   simp only [cU,if_true,Bool.not_eq_true'] at e ⊢
   cases e':le ky (ar[bs + i]'(by omega)) with
   | false=>rfl
   | true=>rw [tr _ _ _ e' q] at e; cases e
 ·have:=h1 i hi
  simp only [e] at this
  exact this
 ·have:=h2 i h3 h4
  simp only [e] at this
  exact this
end
noncomputable def jx:Nat->StateT SortSt Sem Unit:=sortPriv% PySem.Builtin.setMinGallop
theorem smg'_eq (g:Nat):jx g=modify fun s=>SortSt.mk' (kindOf s) (arrOf s) (pendingOf s) g (failedOf s):=rfl
noncomputable def sF:Array Keyed->Array Keyed->StateT SortSt Sem (Array Keyed):=sortPriv% PySem.Builtin.mergeLo
noncomputable abbrev LoG:=Option (Array Keyed) × Array Keyed × Nat × Nat × Nat × Nat × Nat
noncomputable abbrev LoF:=Option (Array Keyed) × Array Keyed × Nat × Nat × Nat × Nat
noncomputable def dn (a b o:Array Keyed) (ia ib:Nat):Array Keyed:=o ++ a.extract ia a.size ++ b.extract ib b.size
noncomputable def la (a b o:Array Keyed) (ia ib:Nat):Array Keyed:=o ++ b.extract ib b.size ++ a.extract ia a.size
noncomputable def pJ (a b:Array Keyed) (mg ac bc:Nat) (o:Array Keyed) (ia ib:Nat):StateT SortSt Sem (ForInStep LoG):=do
 let x <-elem' a ia
 if ia + 1 + 1 == a.size then pure (.done (some (la a b (o.push x) (ia + 1) ib),o.push x,ia + 1,ib,mg,ac,bc))
 else if ac < 7 && bc < 7 then pure (.done (none,o.push x,ia + 1,ib,mg,ac,bc)) else pure (.yield (none,o.push x,ia + 1,ib,mg,ac,bc))
noncomputable def pK (a b:Array Keyed) (mg ac bc:Nat) (o:Array Keyed) (ia ib:Nat):StateT SortSt Sem (ForInStep LoG):=do
 let y <-elem' b ib
 if ib + 1 == b.size then pure (.done (some (dn a b (o.push y) ia (ib + 1)),o.push y,ia,ib + 1,mg,ac,bc))
 else
  let x <-elem' a ia
  match <-gal' true x b (ib + 1) (b.size - (ib + 1)) 0 with
  | some k=>
   if k > 0 then
    if ib + 1 + k == b.size then pure (.done (some (dn a b (o.push y ++ b.extract (ib + 1) (ib + 1 + k)) ia (ib + 1 + k)),o.push y ++ b.extract (ib + 1) (ib + 1 + k),ia,ib + 1 + k,mg,ac,k))
    else pJ a b mg ac k (o.push y ++ b.extract (ib + 1) (ib + 1 + k)) ia (ib + 1 + k)
   else pJ a b mg ac k (o.push y) ia (ib + 1)
  | _=>pure (.done (some (dn a b (o.push y) ia (ib + 1)),o.push y,ia,ib + 1,mg,ac,bc))
noncomputable def pL (a b:Array Keyed) (ac bc:Nat) (o:Array Keyed) (ia ib mg:Nat):StateT SortSt Sem (ForInStep LoG):=do
 jx mg
 let y <-elem' b ib
 match <-gal' false y a ia (a.size - ia) 0 with
 | some k=>
  if k > 0 then
   if ia + k + 1 == a.size then pure (.done (some (la a b (o ++ a.extract ia (ia + k)) (ia + k) ib),o ++ a.extract ia (ia + k),ia + k,ib,mg,k,bc))
   else if ia + k == a.size then pure (.done (some (dn a b (o ++ a.extract ia (ia + k)) (ia + k) ib),o ++ a.extract ia (ia + k),ia + k,ib,mg,k,bc))
   else pK a b mg k bc (o ++ a.extract ia (ia + k)) (ia + k) ib
  else pK a b mg k bc o ia ib
 | _=>pure (.done (some (dn a b o ia ib),o,ia,ib,mg,ac,bc))
noncomputable def loG (a b:Array Keyed) (c:LoG):StateT SortSt Sem (ForInStep LoG):=
 if c.2.2.2.2.1 > 1 then pL a b c.2.2.2.2.2.1 c.2.2.2.2.2.2 c.2.1 c.2.2.1 c.2.2.2.1 (c.2.2.2.2.1 - 1) else pL a b c.2.2.2.2.2.1 c.2.2.2.2.2.2 c.2.1 c.2.2.1 c.2.2.2.1 c.2.2.2.2.1
noncomputable def loF (a b:Array Keyed) (mg:Nat) (c:LoF):StateT SortSt Sem (ForInStep LoF):=do
 let y <-elem' b c.2.2.2.1
 let x <-elem' a c.2.2.1
 match <-lt' y x with
 | some bw=>
  if bw then do
   let y <-elem' b c.2.2.2.1
   if c.2.2.2.1 + 1 == b.size then pure (.done (some (dn a b (c.2.1.push y) c.2.2.1 (c.2.2.2.1 + 1)),c.2.1.push y,c.2.2.1,c.2.2.2.1 + 1,0,c.2.2.2.2.2 + 1))
   else if c.2.2.2.2.2 + 1 ≥ mg then pure (.done (none,c.2.1.push y,c.2.2.1,c.2.2.2.1 + 1,0,c.2.2.2.2.2 + 1)) else pure (.yield (none,c.2.1.push y,c.2.2.1,c.2.2.2.1 + 1,0,c.2.2.2.2.2 + 1))
  else do
   let x <-elem' a c.2.2.1
   if c.2.2.1 + 1 + 1 == a.size then pure (.done (some (la a b (c.2.1.push x) (c.2.2.1 + 1) c.2.2.2.1),c.2.1.push x,c.2.2.1 + 1,c.2.2.2.1,c.2.2.2.2.1 + 1,0))
   else if c.2.2.2.2.1 + 1 ≥ mg then pure (.done (none,c.2.1.push x,c.2.2.1 + 1,c.2.2.2.1,c.2.2.2.2.1 + 1,0)) else pure (.yield (none,c.2.1.push x,c.2.2.1 + 1,c.2.2.2.1,c.2.2.2.2.1 + 1,0))
 | _=>pure (.done (some (dn a b c.2.1 c.2.2.1 c.2.2.2.1),c.2.1,c.2.2.1,c.2.2.2.1,c.2.2.2.2.1,c.2.2.2.2.2))
noncomputable abbrev LoO:=Option (Array Keyed) × Array Keyed × Nat × Nat × Nat
noncomputable def loO (a b:Array Keyed) (c:LoO):StateT SortSt Sem (ForInStep LoO):=do
 let d <-forIn [:a.size + b.size] ((none,c.2.1,c.2.2.1,c.2.2.2.1,0,0):LoF) fun _ d=>loF a b c.2.2.2.2 d
 match d.1 with
 | some r=>pure (.done (some r,d.2.1,d.2.2.1,d.2.2.2.1,c.2.2.2.2))
 | none=>
  rule "list.sort.gallop"
  let e <-forIn [:a.size + b.size] ((none,d.2.1,d.2.2.1,d.2.2.2.1,c.2.2.2.2 + 1,d.2.2.2.2.1,d.2.2.2.2.2):LoG) fun _ e=>loG a b e
  match e.1 with
  | some r=>pure (.done (some r,e.2.1,e.2.2.1,e.2.2.2.1,e.2.2.2.2.1))
  | none=>
   jx (e.2.2.2.2.1 + 1)
   pure (.yield (none,e.2.1,e.2.2.1,e.2.2.2.1,e.2.2.2.2.1 + 1))
theorem fb {β γ:Type} {r:Std.Legacy.Range} {x:β} {f g:Nat->β->StateT SortSt Sem (ForInStep β)} {k k':β->StateT SortSt Sem γ} (h:∀ i c,f i c=g i c) (h':∀ c,k c=k' c):(forIn r x f >>= k)=(forIn r x g >>= k'):=by
 have e:f=g:=funext fun i=>funext fun c=>h i c
 have e':k=k':=funext h'
 rw [e,e']
theorem gf {p:Prop} [Decidable p] {α:Type} {x x' y y':α} (h1:x=x') (h2:y=y'):(if p then x else y)=if p then x' else y':=by rw [h1,h2]
theorem mlo'_eq0 (a b:Array Keyed):sF a b=(do
 rule "list.sort.merge-lo"
 let tt:=a.size + b.size
 let dn (o:Array Keyed) (ia ib:Nat):=o ++ a.extract ia a.size ++ b.extract ib b.size
 let la (o:Array Keyed) (ia ib:Nat):=o ++ b.extract ib b.size ++ a.extract ia a.size
 let mut o:Array Keyed:=#[<-elem' b 0]
 let mut ia:=0
 let mut ib:=1
 if ib == b.size then return dn o ia ib
 if ia + 1 == a.size then return la o ia ib
 let mut mg:=gallopOf (<-get)
 for _ in [0:tt] do
  let mut ac:=0
  let mut bc:=0
  for _ in [0:tt] do
   let some bw <-lt' (<-elem' b ib) (<-elem' a ia) | return dn o ia ib
   if bw then
    o:=o.push (<-elem' b ib); ib:=ib + 1; bc:=bc + 1; ac:=0
    if ib == b.size then return dn o ia ib
    if bc ≥ mg then break
   else
    o:=o.push (<-elem' a ia); ia:=ia + 1; ac:=ac + 1; bc:=0
    if ia + 1 == a.size then return la o ia ib
    if ac ≥ mg then break
  rule "list.sort.gallop"
  mg:=mg + 1
  for _ in [0:tt] do
   if mg > 1 then mg:=mg - 1
   jx mg
   let some k <-gal' false (<-elem' b ib) a ia (a.size - ia) 0 | return dn o ia ib
   ac:=k
   if k > 0 then
    o:=o ++ a.extract ia (ia + k); ia:=ia + k
    if ia + 1 == a.size then return la o ia ib
    if ia == a.size then return dn o ia ib
   o:=o.push (<-elem' b ib); ib:=ib + 1
   if ib == b.size then return dn o ia ib
   let some k <-gal' true (<-elem' a ia) b ib (b.size - ib) 0 | return dn o ia ib
   bc:=k
   if k > 0 then
    o:=o ++ b.extract ib (ib + k); ib:=ib + k
    if ib == b.size then return dn o ia ib
   o:=o.push (<-elem' a ia); ia:=ia + 1
   if ia + 1 == a.size then return la o ia ib
   if ac < 7 && bc < 7 then break
  mg:=mg + 1
  jx mg
 unsupported "internal:list.sort.merge-bound"):=rfl
theorem mlo'_eq (a b:Array Keyed):sF a b=(do
 rule "list.sort.merge-lo"
 let y <-elem' b 0
 if 1 == b.size then return dn a b #[y] 0 1
 if 0 + 1 == a.size then return la a b #[y] 0 1
 let g <-get
 let c <-forIn [:a.size + b.size] ((none,#[y],0,1,gallopOf g):LoO) fun _ c=>loO a b c
 match c.1 with
 | some r=>pure r
 | none=>unsupported "internal:list.sort.merge-bound"):=by
 rw [mlo'_eq0]
 refine Qah fun _=>?_
 dsimp only
 refine Qah fun y=>?_
 unfold dn la
 refine congrArg _ (congrArg _ (Qah fun g=>?_))
 refine fb (fun _ c=>?_) fun c=>?_
 ·unfold loO
  refine fb (fun _ d=>?_) fun d=>?_
  ·unfold loF dn la
   refine Qah fun _=>Qah fun _=>Qah fun q=>?_
   cases q <;> rfl
  ·obtain ⟨r,d⟩:=d
   cases r with
   | some r=>rfl
   | none=>
    dsimp only
    refine Qah fun _=>fb (fun _ e=>?_) fun e=>?_
    ·unfold loG pL dn la
     refine gf ?_ ?_ <;>
     ·refine Qah fun _=>Qah fun _=>Qah fun q=>?_
      cases q with
      | none=>rfl
      | some k=>
       refine gf (gf rfl (gf rfl ?_)) ?_ <;>
       ·unfold pK pJ dn la
        refine Qah fun _=>gf rfl (Qah fun _=>Qah fun q=>?_)
        cases q <;> rfl
    ·obtain ⟨r,e⟩:=e
     cases r <;> rfl
 ·obtain ⟨r,c⟩:=c
  cases r <;> rfl
theorem eR {α:Type} {l:List α} {i:Nat} {x:α} (h:l[i]? = some x):l.drop i=x :: l.drop (i + 1):=by
 obtain ⟨h1,h2⟩:=List.getElem?_eq_some_iff.mp h
 rw [List.drop_eq_getElem_cons h1,h2]
theorem drop_take {α:Type} (l:List α) (i k:Nat):l.drop i=(l.drop i).take k ++ l.drop (i + k):=by
 rw [<-List.drop_drop]; exact (List.take_append_drop k (l.drop i)).symm
theorem cx {α:Type} (a:Array α) (i j:Nat):(a.extract i j).toList=(a.toList.drop i).take (j - i):=by simp [List.extract_eq_take_drop]
theorem aN {α:Type} {a:Array α} {i:Nat}:a[i]? = a.toList[i]?:=by simp
noncomputable def JJ (le:Keyed->Keyed->Bool) (a b:Array Keyed) (o:Array Keyed) (ia ib:Nat):Prop:=o.toList ++ List.merge (a.toList.drop ia) (b.toList.drop ib) le=List.merge a.toList b.toList le
section
variable {le:Keyed->Keyed->Bool} {a b o:Array Keyed} {ia ib k:Nat} {x y:Keyed}
theorem JJ.pb (h:JJ le a b o ia ib) (hx:a[ia]? = some x) (hy:b[ib]? = some y) (e:le x y=false):JJ le a b (o.push y) ia (ib + 1):=by
 unfold JJ at h ⊢
 rw [aN] at hx hy
 rw [<-h,eR hx,eR hy,List.cons_merge_cons,if_neg (by rw [e]; exact Bool.false_ne_true)]
 simp
theorem JJ.pa (h:JJ le a b o ia ib) (hx:a[ia]? = some x) (hy:b[ib]? = some y) (e:le x y=true):JJ le a b (o.push x) (ia + 1) ib:=by
 unfold JJ at h ⊢
 rw [aN] at hx hy
 rw [<-h,eR hx,eR hy,List.cons_merge_cons,if_pos e]
 simp
theorem iA {l:List Keyed} {i k:Nat} {x:Keyed} (h:x ∈ (l.drop i).take k):∃ j,j < k/\l[i + j]? = some x:=by
 obtain ⟨j,hj⟩:=List.getElem?_of_mem h
 rw [List.getElem?_take] at hj
 split at hj
 ·rename_i q; rw [List.getElem?_drop] at hj; exact ⟨j,q,hj⟩
 ·cases hj
theorem JJ.ga (h:JJ le a b o ia ib) (hy:b[ib]? = some y) (e:∀ (i:Nat),i < k->∀ x:Keyed,a[ia + i]? = some x->le x y=true):JJ le a b (o ++ a.extract ia (ia + k)) (ia + k) ib:=by
 unfold JJ at h ⊢
 rw [aN] at hy
 rw [<-h,drop_take a.toList ia k,eR hy,jv (fun x hx=>by obtain ⟨j,hj,q⟩:=iA hx; exact e j hj x (by rw [aN]; exact q))]
 simp only [Array.toList_append,cx,List.append_assoc,Nat.add_sub_cancel_left]
theorem JJ.gb (h:JJ le a b o ia ib) (hx:a[ia]? = some x) (e:∀ (i:Nat),i < k->∀ y:Keyed,b[ib + i]? = some y->le x y=false):JJ le a b (o ++ b.extract ib (ib + k)) ia (ib + k):=by
 unfold JJ at h ⊢
 rw [aN] at hx
 rw [<-h,drop_take b.toList ib k,eR hx,j9 (fun y hy=>by obtain ⟨j,hj,q⟩:=iA hy; exact e j hj y (by rw [aN]; exact q))]
 simp only [Array.toList_append,cx,List.append_assoc,Nat.add_sub_cancel_left]
theorem JJ.dn (h:JJ le a b o ia ib) (hb:b.size<=ib):(dn a b o ia ib).toList=List.merge a.toList b.toList le:=by
 unfold JJ at h
 unfold TS.dn
 rw [<-h,show b.toList.drop ib=[] from List.drop_eq_nil_of_le (by simpa using hb),List.merge_right]
 have e1:(b.extract ib b.size).toList=[]:=by rw [cx,show b.size - ib=0 by omega,List.take_zero]
 have e2:(a.extract ia a.size).toList=a.toList.drop ia:=by rw [cx,List.take_of_length_le (by simp)]
 simp only [Array.toList_append,e1,e2,List.append_nil]
theorem JJ.la (h:JJ le a b o ia ib) (hl:∀ (i:Nat) (x y:Keyed),i + 1=a.size->a[i]? = some x->y ∈ b.toList->le x y=false) (ha:ia + 1=a.size):(la a b o ia ib).toList=List.merge a.toList b.toList le:=by
 unfold JJ at h
 unfold TS.la
 have e1:a[ia]? = some (a[ia]'(by omega)):=getElem?_pos _ _ (by omega)
 have hx:=e1
 rw [aN] at hx
 rw [<-h,eR hx,List.drop_eq_nil_of_le (by simp; omega),pH (fun y hy z hz=>by obtain rfl:=List.mem_singleton.mp hz; exact hl ia _ y ha e1 (List.mem_of_mem_drop hy))]
 have e3:(b.extract ib b.size).toList=b.toList.drop ib:=by rw [cx,List.take_of_length_le (by simp)]
 have e2:(a.extract ia a.size).toList=[a[ia]'(by omega)]:=by rw [cx,eR hx,show a.size - ia=1 by omega]; rfl
 simp only [Array.toList_append,e3,e2,List.append_assoc]
end
structure Sm (st st':SortSt):Prop where
 kind:kindOf st' = kindOf st
 arr:arrOf st' = arrOf st
 pend:pendingOf st' = pendingOf st
 failed:failedOf st' = failedOf st
theorem Sm.refl {st:SortSt}:Sm st st:=⟨rfl,rfl,rfl,rfl⟩
theorem Sm.mg {st st':SortSt} (h:Sm st st') (g:Nat):Sm st (SortSt.mk' (kindOf st') (arrOf st') (pendingOf st') g (failedOf st')):=⟨h.kind,h.arr,h.pend,h.failed⟩
section
variable {prog:Program} {w:World} {A:Around} {E:Value->Shared->Prop} {s:Shared} {le:Keyed->Keyed->Bool} {κ:SortKind} {S:Keyed->Prop} {a b:Array Keyed} {st0:SortSt}
structure MH (le:Keyed->Keyed->Bool) (S:Keyed->Prop) (a b:Array Keyed):Prop where
 tr:∀ x y z,le x y=true->le y z=true->le x z=true
 sa:∀ (i j:Nat) (x y:Keyed),i<=j->a[i]? = some x->a[j]? = some y->le x y=true
 sb:∀ (i j:Nat) (x y:Keyed),i<=j->b[i]? = some x->b[j]? = some y->le x y=true
 Sa:∀ (i:Nat) (x:Keyed),a[i]? = some x->S x
 Sb:∀ (i:Nat) (x:Keyed),b[i]? = some x->S x
 a0:0 < a.size
 b0:0 < b.size
 first:∀ x y:Keyed,a[0]? = some x->b[0]? = some y->le x y=false
 last:∀ (i:Nat) (x y:Keyed),i + 1=a.size->a[i]? = some x->y ∈ b.toList->le x y=false
theorem at_ {α:Type} {c:Array α} {i:Nat} (h:i < c.size):∃ x,c[i]? = some x:=⟨c[i],Array.getElem?_eq_getElem h⟩
noncomputable def Gd (le:Keyed->Keyed->Bool) (a b o:Array Keyed) (ia ib:Nat):Prop:=JJ le a b o ia ib/\ia + 1 < a.size/\ib < b.size
noncomputable def GR (le:Keyed->Keyed->Bool) (a b:Array Keyed) (m:Nat):ForInStep LoG->Prop
 | .done (some r,_)=>r.toList=List.merge a.toList b.toList le
 | .done (none,o,ia,ib,_)=>Gd le a b o ia ib/\m<=ia + ib
 | .yield (none,o,ia,ib,_)=>Gd le a b o ia ib/\m<=ia + ib
 | .yield (some _,_)=>False
variable (M:MH le S a b)
include M
theorem ux {mg ac bc:Nat} {o:Array Keyed} {ia ib m:Nat} {st:SortSt} {x y:Keyed} {Q:ForInStep LoG->SortSt->Prop} (h:JJ le a b o ia ib) (ha:ia + 1 < a.size) (hb:ib < b.size) (hm:m<=ia + ib)
  (hx:a[ia]? = some x) (hy:b[ib]? = some y) (e:le x y=true) (hQ:∀ r,GR le a b m r->Q r st):wpS (model prog w) A E s (pJ a b mg ac bc o ia ib) Q st:=by
 unfold pJ
 refine Qaf (aX hx ?_)
 have h1:=h.pa hx hy e
 by_cases e1:ia + 1 + 1=a.size
 ·rw [if_pos (by simpa using e1)]
  exact Qag (hQ _ (h1.la M.last e1))
 ·rw [if_neg (by simpa using e1)]
  have g:Gd le a b (o.push x) (ia + 1) ib/\m<=ia + 1 + ib:=⟨⟨h1,by omega,hb⟩,by omega⟩
  split
  ·exact Qag (hQ _ g)
  ·exact Qag (hQ _ g)
theorem uy (hL:dc prog w A E s le κ S) {mg ac bc:Nat} {o:Array Keyed} {ia ib m:Nat} {st:SortSt} {x y:Keyed} {Q:ForInStep LoG->SortSt->Prop} (hk:kindOf st=κ) (h:JJ le a b o ia ib) (ha:ia + 1 < a.size) (hb:ib < b.size) (hm:m<=ia + ib)
  (hx:a[ia]? = some x) (hy:b[ib]? = some y) (e:le x y=false) (hQ:∀ r,GR le a b m r->Q r st):wpS (model prog w) A E s (pK a b mg ac bc o ia ib) Q st:=by
 unfold pK
 refine Qaf (aX hy ?_)
 have h1:=h.pb hx hy e
 by_cases e1:ib + 1=b.size
 ·rw [if_pos (by simpa using e1)]
  exact Qag (hQ _ (h1.dn (by omega)))
 ·rw [if_neg (by simpa using e1)]
  refine Qaf (aX hx (Qaf (gB hL M.tr hk (M.Sa _ _ hx) M.Sb (by omega) (fun i j u v _ hij _=>M.sb i j u v hij) (fun k hk1 g1 g2=>?_) (by omega))))
  dsimp only
  have h2:=h1.gb (k:=k) hx fun i hi z hz=>by have:=g1 i hi z hz; simpa [cU] using this
  have h3:∀ z:Keyed,k < b.size - (ib + 1)->b[ib + 1 + k]? = some z->le x z=true:=fun z q hz=>by have:=g2 k (Qae _) q z hz; simpa [cU] using this
  by_cases k0:k > 0
  ·rw [if_pos k0]
   by_cases e2:ib + 1 + k=b.size
   ·rw [if_pos (by simpa using e2)]
    exact Qag (hQ _ (h2.dn (by omega)))
   ·rw [if_neg (by simpa using e2)]
    obtain ⟨z,hz⟩:=at_ (c:=b) (i:=ib + 1 + k) (by omega)
    exact ux M h2 ha (by omega) (by omega) hx hz (h3 z (by omega) hz) hQ
  ·rw [if_neg k0]
   have:k=0:=by omega
   subst this
   obtain ⟨z,hz⟩:=at_ (c:=b) (i:=ib + 1) (by omega)
   exact ux M h1 ha (by omega) (by omega) hx hz (h3 z (by omega) hz) hQ
theorem uz (hL:dc prog w A E s le κ S) {mg ac bc:Nat} {o:Array Keyed} {ia ib m:Nat} {st:SortSt} {Q:ForInStep LoG->SortSt->Prop} (hs:Sm st0 st) (hk:kindOf st0=κ) (h:JJ le a b o ia ib) (ha:ia + 1 < a.size) (hb:ib < b.size) (hm:m<=ia + ib)
  (hQ:∀ r st',Sm st0 st'->GR le a b m r->Q r st'):wpS (model prog w) A E s (pL a b ac bc o ia ib mg) Q st:=by
 unfold pL
 rw [smg'_eq]
 obtain ⟨y,hy⟩:=at_ hb
 refine Qaf (wpS_modify (Qaf (aX hy ?_)))
 have hs1:=hs.mg mg
 generalize SortSt.mk' (kindOf st) (arrOf st) (pendingOf st) mg (failedOf st)=st1 at hs1 ⊢
 have hk1:kindOf st1=κ:=hs1.kind.trans hk
 refine Qaf (gB hL M.tr hk1 (M.Sb _ _ hy) M.Sa (by omega) (fun i j u v _ hij _=>M.sa i j u v hij) (fun k hk2 g1 g2=>?_) (by omega))
 dsimp only
 have h2:=h.ga (k:=k) hy fun i hi z hz=>by have:=g1 i hi z hz; simpa [cU] using this
 have h3:∀ z:Keyed,k < a.size - ia->a[ia + k]? = some z->le z y=false:=fun z q hz=>by have:=g2 k (Qae _) q z hz; simpa [cU] using this
 have hkl:ia + k < a.size:=by
  rcases Nat.lt_or_ge (ia + k) a.size with q | q
  ·exact q
  ·obtain ⟨z,hz⟩:=at_ (c:=a) (i:=a.size - 1) (by omega)
   have e1:=M.last (a.size - 1) z y (by omega) hz (by rw [aN] at hy; exact List.mem_of_getElem? hy)
   have e2:=g1 (a.size - 1 - ia) (by omega) z (by rw [show ia + (a.size - 1 - ia)=a.size - 1 by omega]; exact hz)
   simp [cU,e1] at e2
 by_cases k0:k > 0
 ·rw [if_pos k0]
  by_cases e2:ia + k + 1=a.size
  ·rw [if_pos (by simpa using e2)]
   exact Qag (hQ _ _ hs1 (h2.la M.last e2))
  ·rw [if_neg (by simpa using e2),if_neg (by simp; omega)]
   obtain ⟨z,hz⟩:=at_ (c:=a) (i:=ia + k) (by omega)
   exact uy M hL hk1 h2 (by omega) hb (by omega) hz hy (h3 z (by omega) hz) fun r g=>hQ r _ hs1 g
 ·rw [if_neg k0]
  have:k=0:=by omega
  subst this
  obtain ⟨z,hz⟩:=at_ (c:=a) (i:=ia) (by omega)
  exact uy M hL hk1 h ha hb hm hz hy (h3 z (by omega) hz) fun r g=>hQ r _ hs1 g
theorem ym (hL:dc prog w A E s le κ S) {mg ac bc:Nat} {o:Array Keyed} {ia ib m:Nat} {st:SortSt} {Q:ForInStep LoG->SortSt->Prop} (hs:Sm st0 st) (hk:kindOf st0=κ) (h:Gd le a b o ia ib/\m<=ia + ib)
  (hQ:∀ r st',Sm st0 st'->GR le a b m r->Q r st'):wpS (model prog w) A E s (loG a b (none,o,ia,ib,mg,ac,bc)) Q st:=by
 unfold loG
 dsimp only
 split
 ·exact uz M hL hs hk h.1.1 h.1.2.1 h.1.2.2 h.2 hQ
 ·exact uz M hL hs hk h.1.1 h.1.2.1 h.1.2.2 h.2 hQ
noncomputable def FR (le:Keyed->Keyed->Bool) (a b:Array Keyed) (m:Nat):LoF->Prop
 | (some r,_)=>r.toList=List.merge a.toList b.toList le
 | (none,o,ia,ib,_)=>Gd le a b o ia ib/\m<=ia + ib
theorem yn (hL:dc prog w A E s le κ S) {mg ac bc:Nat} {o:Array Keyed} {ia ib m:Nat} {st:SortSt} {Q:ForInStep LoF->SortSt->Prop} (hk:kindOf st=κ) (h:Gd le a b o ia ib) (hm:m<=ia + ib + 1)
  (hd:∀ c,FR le a b m c->Q (.done c) st) (hy:∀ o' ia' ib' ac' bc',Gd le a b o' ia' ib'->m<=ia' + ib'->Q (.yield (none,o',ia',ib',ac',bc')) st):wpS (model prog w) A E s (loF a b mg (none,o,ia,ib,ac,bc)) Q st:=by
 unfold loF
 dsimp only
 obtain ⟨h,ha,hb⟩:=h
 obtain ⟨y,ey⟩:=at_ hb
 obtain ⟨x,ex⟩:=at_ (c:=a) (i:=ia) (by omega)
 refine Qaf (aX ey (Qaf (aX ex (Qaf (hL y x (M.Sb _ _ ey) (M.Sa _ _ ex) _ st hk ?_)))))
 dsimp only
 cases e:le x y with
 | false=>
  simp only [Bool.not_false,if_true]
  have h1:=h.pb ex ey e
  refine Qaf (aX ey ?_)
  by_cases e1:ib + 1=b.size
  ·rw [if_pos (by simpa using e1)]
   exact Qag (hd _ (h1.dn (by omega)))
  ·rw [if_neg (by simpa using e1)]
   split
   ·exact Qag (hd _ ⟨⟨h1,ha,by omega⟩,by omega⟩)
   ·exact Qag (hy _ _ _ _ _ ⟨h1,ha,by omega⟩ (by omega))
 | true=>
  simp only [Bool.not_true,Bool.false_eq_true,if_false]
  have h1:=h.pa ex ey e
  refine Qaf (aX ex ?_)
  by_cases e1:ia + 1 + 1=a.size
  ·rw [if_pos (by simpa using e1)]
   exact Qag (hd _ (h1.la M.last e1))
  ·rw [if_neg (by simpa using e1)]
   split
   ·exact Qag (hd _ ⟨⟨h1,by omega,hb⟩,by omega⟩)
   ·exact Qag (hy _ _ _ _ _ ⟨h1,by omega,hb⟩ (by omega))
theorem yo (hL:dc prog w A E s le κ S) {mg:Nat} {o:Array Keyed} {ia ib m:Nat} {st:SortSt} {Q:ForInStep LoO->SortSt->Prop} (hs:Sm st0 st) (hk:kindOf st0=κ) (h:Gd le a b o ia ib) (hm:m<=ia + ib)
  (hd:∀ r c st',Sm st0 st'->r.toList=List.merge a.toList b.toList le->Q (.done (some r,c)) st') (hy:∀ o' ia' ib' mg' st',Sm st0 st'->Gd le a b o' ia' ib'->m + 1<=ia' + ib'->Q (.yield (none,o',ia',ib',mg')) st') :
  wpS (model prog w) A E s (loO a b (none,o,ia,ib,mg)) Q st:=by
 unfold loO
 dsimp only
 have hk1:kindOf st=κ:=hs.kind.trans hk
 refine Qaf (wpS_mono (wpS_forRange (I:=fun x c st'=>st' = st/\∃ o ia ib ac bc,c=(none,o,ia,ib,ac,bc)/\Gd le a b o ia ib/\m + x<=ia + ib)
  (Q:=fun c st'=>st' = st/\FR le a b (m + 1) c) ?_ ?_ ⟨rfl,o,ia,ib,0,0,rfl,h,by omega⟩) ?_)
 ·rintro x c st' _ hx ⟨rfl,o,ia,ib,ac,bc,rfl,g,q⟩
  refine yn M hL (m:=m + x + 1) hk1 g (by omega) (fun c hc=>⟨rfl,?_⟩) (fun o' ia' ib' ac' bc' g' q'=>⟨rfl,o',ia',ib',ac',bc',rfl,g',by omega⟩)
  obtain ⟨_ | r,c⟩:=c
  ·exact ⟨hc.1,by have:=hc.2; omega⟩
  ·exact hc
 ·rintro c st' ⟨rfl,o,ia,ib,ac,bc,rfl,g,q⟩
  have:=g.2
  omega
 ·rintro ⟨_ | r,c⟩ st' ⟨rfl,hc⟩
  ·obtain ⟨o,ia,ib,ac,bc⟩:=c
   dsimp only
   refine Qaf (wpS_lift (wpAny_rule ⟨rfl,?_⟩))
   refine Qaf (wpS_mono (wpS_forRange (I:=fun _ c st'=>Sm st0 st'/\∃ o ia ib mg ac bc,c=(none,o,ia,ib,mg,ac,bc)/\Gd le a b o ia ib/\m + 1<=ia + ib)
    (Q:=fun c st'=>Sm st0 st'/\GR le a b (m + 1) (.done c)) ?_ ?_ ⟨hs,o,ia,ib,_,ac,bc,rfl,hc⟩) ?_)
   ·rintro x c st' _ hx ⟨hs',o,ia,ib,mg,ac,bc,rfl,g⟩
    refine ym M hL hs' hk g fun r st'' hs'' gr=>?_
    match r,gr with
    | .done c,gr=>exact ⟨hs'',gr⟩
    | .yield (none,o,ia,ib,mg,ac,bc),gr=>exact ⟨hs'',o,ia,ib,mg,ac,bc,rfl,gr⟩
    | .yield (some _,_),gr=>exact gr.elim
   ·rintro c st' ⟨hs',o,ia,ib,mg,ac,bc,rfl,g⟩
    exact ⟨hs',g⟩
   ·rintro ⟨_ | r,c⟩ st' ⟨hs',hc⟩
    ·obtain ⟨o,ia,ib,mg,ac,bc⟩:=c
     dsimp only
     rw [smg'_eq]
     exact Qaf (wpS_modify (Qag (hy _ _ _ _ _ (hs'.mg _) hc.1 hc.2)))
    ·exact Qag (hd _ _ _ hs' hc)
  ·exact Qag (hd _ _ _ hs hc)
theorem yp (hL:dc prog w A E s le κ S) {Q:Array Keyed->SortSt->Prop} (hk:kindOf st0=κ) (h:∀ r st',Sm st0 st'->r.toList=List.merge a.toList b.toList le->Q r st'):wpS (model prog w) A E s (sF a b) Q st0:=by
 rw [mlo'_eq]
 refine Qaf (wpS_lift (wpAny_rule ⟨rfl,?_⟩))
 obtain ⟨y,hy⟩:=at_ M.b0
 obtain ⟨x,hx⟩:=at_ M.a0
 refine Qaf (aX hy ?_)
 have j0:JJ le a b #[] 0 0:=by simp [JJ]
 have j1:JJ le a b #[y] 0 1:=j0.pb hx hy (M.first x y hx hy)
 have b0:=M.b0
 have a0:=M.a0
 by_cases e1:1=b.size
 ·rw [if_pos (by simpa using e1)]
  exact Qag (h _ _ .refl (j1.dn (by omega)))
 ·rw [if_neg (by simpa using e1)]
  by_cases e2:0 + 1=a.size
  ·rw [if_pos (by simpa using e2)]
   exact Qag (h _ _ .refl (j1.la M.last e2))
  ·rw [if_neg (by simpa using e2)]
   refine Qaf (wpS_get ?_)
   refine Qaf (wpS_mono (wpS_forRange (I:=fun x c st'=>Sm st0 st'/\∃ o ia ib mg,c=(none,o,ia,ib,mg)/\Gd le a b o ia ib/\x + 1<=ia + ib)
    (Q:=fun c st'=>Sm st0 st'/\∃ r c',c=(some r,c')/\r.toList=List.merge a.toList b.toList le) ?_ ?_ ⟨.refl,#[y],0,1,_,rfl,⟨j1,by omega,by omega⟩,by omega⟩) ?_)
   ·rintro x c st' _ hx ⟨hs',o,ia,ib,mg,rfl,g,q⟩
    exact yo M hL hs' hk g q (fun r c st'' hs'' e=>⟨hs'',r,c,rfl,e⟩) fun o' ia' ib' mg' st'' hs'' g' q'=>⟨hs'',o',ia',ib',mg',rfl,g',q'⟩
   ·rintro c st' ⟨hs',o,ia,ib,mg,rfl,g,q⟩
    have:=g.2
    omega
   ·rintro c st' ⟨hs',r,c,rfl,e⟩
    exact Qag (h _ _ hs' e)
end
noncomputable def sG:Array Keyed->Array Keyed->StateT SortSt Sem (Array Keyed):=sortPriv% PySem.Builtin.mergeHi
noncomputable def dh (a b o:Array Keyed) (na nb:Nat):Array Keyed:=a.extract 0 na ++ b.extract 0 nb ++ o.reverse
noncomputable def fh (a b o:Array Keyed) (na nb:Nat):Array Keyed:=b.extract 0 nb ++ a.extract 0 na ++ o.reverse
noncomputable abbrev HiG:=Option (Array Keyed) × Nat × Nat × Array Keyed × Nat × Nat × Nat
noncomputable abbrev HiF:=Option (Array Keyed) × Nat × Nat × Array Keyed × Nat × Nat
noncomputable abbrev HiO:=Option (Array Keyed) × Nat × Nat × Array Keyed × Nat
noncomputable def pM (a b:Array Keyed) (mg ac bc:Nat) (na:Nat) (nb:Nat) (o:Array Keyed):StateT SortSt Sem (ForInStep HiG):=do
 let x <-elem' a (na - 1)
 if na - 1 == 0 then pure (.done (some (dh a b (o.push x) (na - 1) nb),na - 1,nb,o.push x,mg,ac,bc))
 else if ac < 7 && bc < 7 then pure (.done (none,na - 1,nb,o.push x,mg,ac,bc)) else pure (.yield (none,na - 1,nb,o.push x,mg,ac,bc))
noncomputable def pN (a b:Array Keyed) (mg ac bc:Nat) (nb na:Nat) (o:Array Keyed):StateT SortSt Sem (ForInStep HiG):=do
 let y <-elem' b (nb - 1)
 if nb - 1 == 1 then pure (.done (some (fh a b (o.push y) na (nb - 1)),na,nb - 1,o.push y,mg,ac,bc))
 else
  let x <-elem' a (na - 1)
  match <-gal' true x b 0 (nb - 1) (nb - 1 - 1) with
  | some p=>
   if nb - 1 - p > 0 then
    if p == 1 then pure (.done (some (fh a b (o.push y ++ (b.extract p (nb - 1)).reverse) na p),na,p,o.push y ++ (b.extract p (nb - 1)).reverse,mg,ac,nb - 1 - p))
    else if p == 0 then pure (.done (some (dh a b (o.push y ++ (b.extract p (nb - 1)).reverse) na p),na,p,o.push y ++ (b.extract p (nb - 1)).reverse,mg,ac,nb - 1 - p))
    else pM a b mg ac (nb - 1 - p) na p (o.push y ++ (b.extract p (nb - 1)).reverse)
   else pM a b mg ac (nb - 1 - p) na (nb - 1) (o.push y)
  | _=>pure (.done (some (dh a b (o.push y) na (nb - 1)),na,nb - 1,o.push y,mg,ac,bc))
noncomputable def pO (a b:Array Keyed) (ac bc:Nat) (na nb:Nat) (o:Array Keyed) (mg:Nat):StateT SortSt Sem (ForInStep HiG):=do
 jx mg
 let y <-elem' b (nb - 1)
 match <-gal' false y a 0 na (na - 1) with
 | some p=>
  if na - p > 0 then
   if p == 0 then pure (.done (some (dh a b (o ++ (a.extract p na).reverse) p nb),p,nb,o ++ (a.extract p na).reverse,mg,na - p,bc))
   else pN a b mg (na - p) bc nb p (o ++ (a.extract p na).reverse)
  else pN a b mg (na - p) bc nb na o
 | _=>pure (.done (some (dh a b o na nb),na,nb,o,mg,ac,bc))
noncomputable def hiG (a b:Array Keyed) (c:HiG):StateT SortSt Sem (ForInStep HiG):=
 if c.2.2.2.2.1 > 1 then pO a b c.2.2.2.2.2.1 c.2.2.2.2.2.2 c.2.1 c.2.2.1 c.2.2.2.1 (c.2.2.2.2.1 - 1) else pO a b c.2.2.2.2.2.1 c.2.2.2.2.2.2 c.2.1 c.2.2.1 c.2.2.2.1 c.2.2.2.2.1
noncomputable def hiF (a b:Array Keyed) (mg:Nat) (c:HiF):StateT SortSt Sem (ForInStep HiF):=do
 let y <-elem' b (c.2.2.1 - 1)
 let x <-elem' a (c.2.1 - 1)
 match <-lt' y x with
 | some aw=>
  if aw then do
   let x <-elem' a (c.2.1 - 1)
   if c.2.1 - 1 == 0 then pure (.done (some (dh a b (c.2.2.2.1.push x) (c.2.1 - 1) c.2.2.1),c.2.1 - 1,c.2.2.1,c.2.2.2.1.push x,c.2.2.2.2.1 + 1,0))
   else if c.2.2.2.2.1 + 1 ≥ mg then pure (.done (none,c.2.1 - 1,c.2.2.1,c.2.2.2.1.push x,c.2.2.2.2.1 + 1,0)) else pure (.yield (none,c.2.1 - 1,c.2.2.1,c.2.2.2.1.push x,c.2.2.2.2.1 + 1,0))
  else do
   let y <-elem' b (c.2.2.1 - 1)
   if c.2.2.1 - 1 == 1 then pure (.done (some (fh a b (c.2.2.2.1.push y) c.2.1 (c.2.2.1 - 1)),c.2.1,c.2.2.1 - 1,c.2.2.2.1.push y,0,c.2.2.2.2.2 + 1))
   else if c.2.2.2.2.2 + 1 ≥ mg then pure (.done (none,c.2.1,c.2.2.1 - 1,c.2.2.2.1.push y,0,c.2.2.2.2.2 + 1)) else pure (.yield (none,c.2.1,c.2.2.1 - 1,c.2.2.2.1.push y,0,c.2.2.2.2.2 + 1))
 | _=>pure (.done (some (dh a b c.2.2.2.1 c.2.1 c.2.2.1),c.2.1,c.2.2.1,c.2.2.2.1,c.2.2.2.2.1,c.2.2.2.2.2))
noncomputable def hiO (a b:Array Keyed) (c:HiO):StateT SortSt Sem (ForInStep HiO):=do
 let d <-forIn [:a.size + b.size] ((none,c.2.1,c.2.2.1,c.2.2.2.1,0,0):HiF) fun _ d=>hiF a b c.2.2.2.2 d
 match d.1 with
 | some r=>pure (.done (some r,d.2.1,d.2.2.1,d.2.2.2.1,c.2.2.2.2))
 | none=>
  rule "list.sort.gallop"
  let e <-forIn [:a.size + b.size] ((none,d.2.1,d.2.2.1,d.2.2.2.1,c.2.2.2.2 + 1,d.2.2.2.2.1,d.2.2.2.2.2):HiG) fun _ e=>hiG a b e
  match e.1 with
  | some r=>pure (.done (some r,e.2.1,e.2.2.1,e.2.2.2.1,e.2.2.2.2.1))
  | none=>
   jx (e.2.2.2.2.1 + 1)
   pure (.yield (none,e.2.1,e.2.2.1,e.2.2.2.1,e.2.2.2.2.1 + 1))
theorem mhi'_eq0 (a b:Array Keyed):sG a b=(do
 rule "list.sort.merge-hi"
 let tt:=a.size + b.size
 let dn (o:Array Keyed) (na nb:Nat):=a.extract 0 na ++ b.extract 0 nb ++ o.reverse
 let la (o:Array Keyed) (na nb:Nat):=b.extract 0 nb ++ a.extract 0 na ++ o.reverse
 let mut na:=a.size - 1
 let mut nb:=b.size
 let mut o:Array Keyed:=#[<-elem' a na]
 if na == 0 then return dn o na nb
 if nb == 1 then return la o na nb
 let mut mg:=gallopOf (<-get)
 for _ in [0:tt] do
  let mut ac:=0
  let mut bc:=0
  for _ in [0:tt] do
   let some aw <-lt' (<-elem' b (nb - 1)) (<-elem' a (na - 1)) | return dn o na nb
   if aw then
    na:=na - 1; o:=o.push (<-elem' a na); ac:=ac + 1; bc:=0
    if na == 0 then return dn o na nb
    if ac ≥ mg then break
   else
    nb:=nb - 1; o:=o.push (<-elem' b nb); bc:=bc + 1; ac:=0
    if nb == 1 then return la o na nb
    if bc ≥ mg then break
  rule "list.sort.gallop"
  mg:=mg + 1
  for _ in [0:tt] do
   if mg > 1 then mg:=mg - 1
   jx mg
   let some p <-gal' false (<-elem' b (nb - 1)) a 0 na (na - 1) | return dn o na nb
   let k:=na - p
   ac:=k
   if k > 0 then
    o:=o ++ (a.extract p na).reverse; na:=p
    if na == 0 then return dn o na nb
   nb:=nb - 1; o:=o.push (<-elem' b nb)
   if nb == 1 then return la o na nb
   let some p <-gal' true (<-elem' a (na - 1)) b 0 nb (nb - 1) | return dn o na nb
   let k:=nb - p
   bc:=k
   if k > 0 then
    o:=o ++ (b.extract p nb).reverse; nb:=p
    if nb == 1 then return la o na nb
    if nb == 0 then return dn o na nb
   na:=na - 1; o:=o.push (<-elem' a na)
   if na == 0 then return dn o na nb
   if ac < 7 && bc < 7 then break
  mg:=mg + 1
  jx mg
 unsupported "internal:list.sort.merge-bound"):=rfl
theorem mhi'_eq (a b:Array Keyed):sG a b=(do
 rule "list.sort.merge-hi"
 let x <-elem' a (a.size - 1)
 if a.size - 1 == 0 then return dh a b #[x] (a.size - 1) b.size
 if b.size == 1 then return fh a b #[x] (a.size - 1) b.size
 let g <-get
 let c <-forIn [:a.size + b.size] ((none,a.size - 1,b.size,#[x],gallopOf g):HiO) fun _ c=>hiO a b c
 match c.1 with
 | some r=>pure r
 | none=>unsupported "internal:list.sort.merge-bound"):=by
 rw [mhi'_eq0]
 refine Qah fun _=>?_
 dsimp only
 refine Qah fun y=>?_
 unfold dh fh
 refine congrArg _ (congrArg _ (Qah fun g=>?_))
 refine fb (fun _ c=>?_) fun c=>?_
 ·unfold hiO
  refine fb (fun _ d=>?_) fun d=>?_
  ·unfold hiF dh fh
   refine Qah fun _=>Qah fun _=>Qah fun q=>?_
   cases q <;> rfl
  ·obtain ⟨r,d⟩:=d
   cases r with
   | some r=>rfl
   | none=>
    dsimp only
    refine Qah fun _=>fb (fun _ e=>?_) fun e=>?_
    ·unfold hiG pO dh
     refine gf ?_ ?_ <;>
     ·refine Qah fun _=>Qah fun _=>Qah fun q=>?_
      cases q with
      | none=>rfl
      | some k=>
       refine gf (gf rfl ?_) ?_ <;>
       ·unfold pN pM dh fh
        refine Qah fun _=>gf rfl (Qah fun _=>Qah fun q=>?_)
        cases q <;> rfl
    ·obtain ⟨r,e⟩:=e
     cases r <;> rfl
 ·obtain ⟨r,c⟩:=c
  cases r <;> rfl
noncomputable def HH (le:Keyed->Keyed->Bool) (a b:Array Keyed) (o:Array Keyed) (na nb:Nat):Prop:=List.merge (a.toList.take na) (b.toList.take nb) le ++ o.toList.reverse=List.merge a.toList b.toList le
theorem yq {α:Type} {l:List α} {i:Nat} {x:α} (h:l[i]? = some x):l.take (i + 1)=l.take i ++ [x]:=by
 obtain ⟨h1,h2⟩:=List.getElem?_eq_some_iff.mp h
 rw [List.take_succ,List.getElem?_eq_getElem h1,h2]; rfl
theorem take_take {α:Type} (l:List α) {p n:Nat} (h:p<=n):l.take n=l.take p ++ (l.drop p).take (n - p):=by
 have:l.take n=(l.take n).take p ++ (l.take n).drop p:=(List.take_append_drop p (l.take n)).symm
 rw [List.take_take,Nat.min_eq_left h,List.drop_take] at this
 exact this
theorem gC {l:List Keyed} {n:Nat} {x:Keyed} (h:x ∈ l.take n):∃ j,j < n/\l[j]? = some x:=by
 have:=iA (l:=l) (i:=0) (k:=n) (x:=x) (by simpa using h)
 simpa using this
section
variable {le:Keyed->Keyed->Bool} {S:Keyed->Prop} {a b o:Array Keyed} {na nb p:Nat} {x y:Keyed}
theorem HH.ga (M:MH le S a b) (h:HH le a b o na (nb + 1)) (hp:p<=na) (hy:b[nb]? = some y) (e:∀ (i:Nat),p<=i->i < na->∀ x:Keyed,a[i]? = some x->le x y=false):HH le a b (o ++ (a.extract p na).reverse) p (nb + 1):=by
 unfold HH at h ⊢
 rw [take_take a.toList hp,kZ _ _ (fun z hz x hx=>?_)] at h
 ·rw [<-h]; simp [cx]
 ·obtain ⟨j,hj,q⟩:=iA hx
  obtain ⟨i,hi,r⟩:=gC hz
  have e1:=e (p + j) (by omega) (by omega) x (by rw [aN]; exact q)
  have e2:=M.sb i nb z y (by omega) (by rw [aN]; exact r) hy
  cases e3:le x z with
  | false=>rfl
  | true=>rw [M.tr _ _ _ e3 e2] at e1; cases e1
theorem HH.gb (M:MH le S a b) (h:HH le a b o (na + 1) nb) (hp:p<=nb) (hx:a[na]? = some x) (e:∀ (i:Nat),p<=i->i < nb->∀ y:Keyed,b[i]? = some y->le x y=true):HH le a b (o ++ (b.extract p nb).reverse) (na + 1) p:=by
 unfold HH at h ⊢
 rw [take_take b.toList hp,jw _ _ (fun z hz y hy=>?_)] at h
 ·rw [<-h]; simp [cx]
 ·obtain ⟨j,hj,q⟩:=iA hy
  obtain ⟨i,hi,r⟩:=gC hz
  have e1:=e (p + j) (by omega) (by omega) y (by rw [aN]; exact q)
  have e2:=M.sa i na z x (by omega) (by rw [aN]; exact r) hx
  exact M.tr _ _ _ e2 e1
theorem rb {α:Type} {a:Array α} {i:Nat} {x:α} (h:a[i]? = some x) (o:Array α):o ++ (a.extract i (i + 1)).reverse=o.push x:=by
 apply Array.toList_inj.mp
 rw [aN] at h
 simp only [Array.toList_append,Array.toList_reverse,cx,Nat.add_sub_cancel_left,eR h,Array.toList_push]
 rfl
theorem HH.pa (M:MH le S a b) (h:HH le a b o (na + 1) (nb + 1)) (hx:a[na]? = some x) (hy:b[nb]? = some y) (e:le x y=false):HH le a b (o.push x) na (nb + 1):=by
 have k0:∀ (i:Nat),na<=i->i < na + 1->∀ z,a[i]? = some z->le z y=false:=fun i h1 h2 z hz=>by
  obtain rfl:i=na:=by omega
  rw [hx] at hz
  cases hz
  exact e
 have:=h.ga M (p:=na) (by omega) hy k0
 rwa [rb hx] at this
theorem HH.pb (M:MH le S a b) (h:HH le a b o (na + 1) (nb + 1)) (hx:a[na]? = some x) (hy:b[nb]? = some y) (e:le x y=true):HH le a b (o.push y) (na + 1) nb:=by
 have k0:∀ (i:Nat),nb<=i->i < nb + 1->∀ z,b[i]? = some z->le x z=true:=fun i h1 h2 z hz=>by
  obtain rfl:i=nb:=by omega
  rw [hy] at hz
  cases hz
  exact e
 have:=h.gb M (p:=nb) (by omega) hx k0
 rwa [rb hy] at this
theorem ext0 {α:Type} (a:Array α) (n:Nat):(a.extract 0 n).toList=a.toList.take n:=by rw [cx]; simp
theorem HH.dh (h:HH le a b o 0 nb):(dh a b o 0 nb).toList=List.merge a.toList b.toList le:=by
 unfold HH at h
 unfold TS.dh
 rw [<-h]; simp only [Array.toList_append,ext0,Array.toList_reverse,List.take_zero,List.nil_append,List.nil_merge]
theorem HH.fh (M:MH le S a b) (h:HH le a b o na 1):(fh a b o na 1).toList=List.merge a.toList b.toList le:=by
 unfold HH at h
 unfold TS.fh
 rw [<-h,pH (fun y hy x hx=>?_)]
 ·simp only [Array.toList_append,ext0,Array.toList_reverse]
 ·obtain ⟨j,hj,q⟩:=gC hx
  obtain ⟨i,hi,r⟩:=gC hy
  obtain rfl:i=0:=by omega
  obtain ⟨x0,hx0⟩:=at_ M.a0
  have e1:=M.first x0 y hx0 (by rw [aN]; exact r)
  have e2:=M.sa 0 j x0 x (by omega) hx0 (by rw [aN]; exact q)
  cases e3:le x y with
  | false=>rfl
  | true=>rw [M.tr _ _ _ e2 e3] at e1; cases e1
end
section
variable {prog:Program} {w:World} {A:Around} {E:Value->Shared->Prop} {s:Shared} {le:Keyed->Keyed->Bool} {κ:SortKind} {S:Keyed->Prop} {a b:Array Keyed} {st0:SortSt}
noncomputable def Hd (le:Keyed->Keyed->Bool) (a b o:Array Keyed) (na nb:Nat):Prop:=HH le a b o na nb/\0 < na/\na<=a.size/\1 < nb/\nb<=b.size
noncomputable def HR (le:Keyed->Keyed->Bool) (a b:Array Keyed) (m:Nat):ForInStep HiG->Prop
 | .done (some r,_)=>r.toList=List.merge a.toList b.toList le
 | .done (none,na,nb,o,_)=>Hd le a b o na nb/\na + nb<=m
 | .yield (none,na,nb,o,_)=>Hd le a b o na nb/\na + nb<=m
 | .yield (some _,_)=>False
variable (M:MH le S a b)
include M
theorem uA {mg ac bc:Nat} {o:Array Keyed} {na nb m:Nat} {st:SortSt} {x y:Keyed} {Q:ForInStep HiG->SortSt->Prop} (h:HH le a b o (na + 1) (nb + 1)) (ha:na + 1<=a.size) (hb0:0 < nb) (hb:nb + 1<=b.size) (hm:na + 1 + (nb + 1)<=m)
  (hx:a[na]? = some x) (hy:b[nb]? = some y) (e:le x y=false) (hQ:∀ r,HR le a b m r->Q r st):wpS (model prog w) A E s (pM a b mg ac bc (na + 1) (nb + 1) o) Q st:=by
 unfold pM
 simp only [Nat.add_sub_cancel]
 refine Qaf (aX hx ?_)
 have h1:=h.pa M hx hy e
 by_cases e1:na=0
 ·subst e1
  rw [if_pos (by rfl)]
  exact Qag (hQ _ h1.dh)
 ·rw [if_neg (by simpa using e1)]
  have g:Hd le a b (o.push x) na (nb + 1)/\na + (nb + 1)<=m:=⟨⟨h1,by omega,by omega,by omega,by omega⟩,by omega⟩
  split
  ·exact Qag (hQ _ g)
  ·exact Qag (hQ _ g)
theorem uC (hL:dc prog w A E s le κ S) {mg ac bc:Nat} {o:Array Keyed} {na nb m:Nat} {st:SortSt} {x y:Keyed} {Q:ForInStep HiG->SortSt->Prop} (hk:kindOf st=κ) (h:HH le a b o (na + 1) (nb + 1)) (ha:na + 1<=a.size) (hb0:0 < nb) (hb:nb + 1<=b.size) (hm:na + 1 + (nb + 1)<=m)
  (hx:a[na]? = some x) (hy:b[nb]? = some y) (e:le x y=true) (hQ:∀ r,HR le a b m r->Q r st):wpS (model prog w) A E s (pN a b mg ac bc (nb + 1) (na + 1) o) Q st:=by
 unfold pN
 simp only [Nat.add_sub_cancel]
 refine Qaf (aX hy ?_)
 have h1:=h.pb M hx hy e
 by_cases e1:nb=1
 ·subst e1
  rw [if_pos (by rfl)]
  exact Qag (hQ _ (h1.fh M))
 ·rw [if_neg (by simpa using e1)]
  refine Qaf (aX hx (Qaf (gB hL M.tr hk (M.Sa _ _ hx) M.Sb (by omega) (fun i j u v _ hij _=>M.sb i j u v hij) (fun p hp g1 g2=>?_) (by omega))))
  simp only [Nat.zero_add] at g1 g2
  dsimp only
  have h2:=h1.gb M hp hx fun i q1 q2 z hz=>by have:=g2 i q1 q2 z hz; simpa [cU] using this
  have h3:∀ (i:Nat) (z:Keyed),i < p->b[i]? = some z->le x z=false:=fun i z q hz=>by have:=g1 i q z hz; simpa [cU] using this
  have hp0:0 < p:=by
   rcases Nat.eq_zero_or_pos p with q | q
   ·subst q
    obtain ⟨x0,hx0⟩:=at_ M.a0
    obtain ⟨y0,hy0⟩:=at_ M.b0
    have e2:=M.first x0 y0 hx0 hy0
    have e3:=g2 0 (Qae _) (by omega) y0 hy0
    have e4:le x y0=true:=by simpa [cU] using e3
    have e5:=M.tr _ _ _ (M.sa 0 na x0 x (by omega) hx0 hx) e4
    rw [e5] at e2; cases e2
   ·exact q
  obtain ⟨q,rfl⟩:∃ q,p=q + 1:=⟨p - 1,by omega⟩
  obtain ⟨z,hz⟩:=at_ (c:=b) (i:=q) (by omega)
  by_cases k0:nb - (q + 1) > 0
  ·rw [if_pos k0]
   by_cases e2:q + 1=1
   ·rw [if_pos (by simpa using e2)]
    obtain rfl:q=0:=by omega
    exact Qag (hQ _ (h2.fh M))
   ·rw [if_neg (by simpa using e2),if_neg (by simp)]
    exact uA M h2 ha (by omega) (by omega) (by omega) hx hz (h3 q z (by omega) hz) hQ
  ·rw [if_neg k0]
   obtain rfl:nb=q + 1:=by omega
   exact uA M h1 ha (by omega) (by omega) (by omega) hx hz (h3 q z (by omega) hz) hQ
theorem uD (hL:dc prog w A E s le κ S) {mg ac bc:Nat} {o:Array Keyed} {na nb m:Nat} {st:SortSt} {Q:ForInStep HiG->SortSt->Prop} (hs:Sm st0 st) (hk:kindOf st0=κ) (h:Hd le a b o na nb/\na + nb<=m)
  (hQ:∀ r st',Sm st0 st'->HR le a b m r->Q r st'):wpS (model prog w) A E s (pO a b ac bc na nb o mg) Q st:=by
 obtain ⟨⟨h,ha0,ha,hb0,hb⟩,hm⟩:=h
 obtain ⟨nb,rfl⟩:∃ q,nb=q + 1:=⟨nb - 1,by omega⟩
 unfold pO
 rw [smg'_eq]
 obtain ⟨y,hy⟩:=at_ (c:=b) (i:=nb) (by omega)
 refine Qaf (wpS_modify (Qaf (aX hy ?_)))
 have hs1:=hs.mg mg
 generalize SortSt.mk' (kindOf st) (arrOf st) (pendingOf st) mg (failedOf st)=st1 at hs1 ⊢
 have hk1:kindOf st1=κ:=hs1.kind.trans hk
 refine Qaf (gB hL M.tr hk1 (M.Sb _ _ hy) M.Sa (by omega) (fun i j u v _ hij _=>M.sa i j u v hij) (fun p hp g1 g2=>?_) (by omega))
 simp only [Nat.zero_add] at g1 g2
 dsimp only
 have h2:=h.ga M hp hy fun i q1 q2 z hz=>by have:=g2 i q1 q2 z hz; simpa [cU] using this
 have h3:∀ (i:Nat) (z:Keyed),i < p->a[i]? = some z->le z y=true:=fun i z q hz=>by have:=g1 i q z hz; simpa [cU] using this
 by_cases k0:na - p > 0
 ·rw [if_pos k0]
  by_cases e2:p=0
  ·subst e2
   rw [if_pos (by rfl)]
   exact Qag (hQ _ _ hs1 h2.dh)
  ·rw [if_neg (by simpa using e2)]
   obtain ⟨q,rfl⟩:∃ q,p=q + 1:=⟨p - 1,by omega⟩
   obtain ⟨z,hz⟩:=at_ (c:=a) (i:=q) (by omega)
   exact uC M hL hk1 h2 (by omega) (by omega) hb (by omega) hz hy (h3 q z (by omega) hz) fun r g=>hQ r _ hs1 g
 ·rw [if_neg k0]
  obtain rfl:na=p:=by omega
  obtain ⟨q,rfl⟩:∃ q,na=q + 1:=⟨na - 1,by omega⟩
  obtain ⟨z,hz⟩:=at_ (c:=a) (i:=q) (by omega)
  exact uC M hL hk1 h (by omega) (by omega) hb (by omega) hz hy (h3 q z (by omega) hz) fun r g=>hQ r _ hs1 g
theorem yr (hL:dc prog w A E s le κ S) {mg ac bc:Nat} {o:Array Keyed} {na nb m:Nat} {st:SortSt} {Q:ForInStep HiG->SortSt->Prop} (hs:Sm st0 st) (hk:kindOf st0=κ) (h:Hd le a b o na nb/\na + nb<=m)
  (hQ:∀ r st',Sm st0 st'->HR le a b m r->Q r st'):wpS (model prog w) A E s (hiG a b (none,na,nb,o,mg,ac,bc)) Q st:=by
 unfold hiG
 dsimp only
 split
 ·exact uD M hL hs hk h hQ
 ·exact uD M hL hs hk h hQ
noncomputable def HFR (le:Keyed->Keyed->Bool) (a b:Array Keyed) (m:Nat):HiF->Prop
 | (some r,_)=>r.toList=List.merge a.toList b.toList le
 | (none,na,nb,o,_)=>Hd le a b o na nb/\na + nb<=m
theorem yt (hL:dc prog w A E s le κ S) {mg ac bc:Nat} {o:Array Keyed} {na nb m:Nat} {st:SortSt} {Q:ForInStep HiF->SortSt->Prop} (hk:kindOf st=κ) (h:Hd le a b o na nb) (hm:na + nb<=m + 1)
  (hd:∀ c,HFR le a b m c->Q (.done c) st) (hy:∀ o' na' nb' ac' bc',Hd le a b o' na' nb'->na' + nb'<=m->Q (.yield (none,na',nb',o',ac',bc')) st):wpS (model prog w) A E s (hiF a b mg (none,na,nb,o,ac,bc)) Q st:=by
 unfold hiF
 obtain ⟨h,ha0,ha,hb0,hb⟩:=h
 obtain ⟨nb,rfl⟩:∃ q,nb=q + 1:=⟨nb - 1,by omega⟩
 obtain ⟨na,rfl⟩:∃ q,na=q + 1:=⟨na - 1,by omega⟩
 simp only [Nat.add_sub_cancel]
 obtain ⟨y,ey⟩:=at_ (c:=b) (i:=nb) (by omega)
 obtain ⟨x,ex⟩:=at_ (c:=a) (i:=na) (by omega)
 refine Qaf (aX ey (Qaf (aX ex (Qaf (hL y x (M.Sb _ _ ey) (M.Sa _ _ ex) _ st hk ?_)))))
 dsimp only
 cases e:le x y with
 | false=>
  simp only [Bool.not_false,if_true]
  have h1:=h.pa M ex ey e
  refine Qaf (aX ex ?_)
  by_cases e1:na=0
  ·subst e1
   rw [if_pos (by rfl)]
   exact Qag (hd _ h1.dh)
  ·rw [if_neg (by simpa using e1)]
   split
   ·exact Qag (hd _ ⟨⟨h1,by omega,by omega,by omega,by omega⟩,by omega⟩)
   ·exact Qag (hy _ _ _ _ _ ⟨h1,by omega,by omega,by omega,by omega⟩ (by omega))
 | true=>
  simp only [Bool.not_true,Bool.false_eq_true,if_false]
  have h1:=h.pb M ex ey e
  refine Qaf (aX ey ?_)
  by_cases e1:nb=1
  ·subst e1
   rw [if_pos (by rfl)]
   exact Qag (hd _ (h1.fh M))
  ·rw [if_neg (by simpa using e1)]
   split
   ·exact Qag (hd _ ⟨⟨h1,by omega,by omega,by omega,by omega⟩,by omega⟩)
   ·exact Qag (hy _ _ _ _ _ ⟨h1,by omega,by omega,by omega,by omega⟩ (by omega))
theorem yu (hL:dc prog w A E s le κ S) {mg:Nat} {o:Array Keyed} {na nb m:Nat} {st:SortSt} {Q:ForInStep HiO->SortSt->Prop} (hs:Sm st0 st) (hk:kindOf st0=κ) (h:Hd le a b o na nb) (hm:na + nb<=m)
  (hd:∀ r c st',Sm st0 st'->r.toList=List.merge a.toList b.toList le->Q (.done (some r,c)) st') (hy:∀ o' na' nb' mg' st',Sm st0 st'->Hd le a b o' na' nb'->na' + nb' + 1<=m->Q (.yield (none,na',nb',o',mg')) st') :
  wpS (model prog w) A E s (hiO a b (none,na,nb,o,mg)) Q st:=by
 unfold hiO
 dsimp only
 have hk1:kindOf st=κ:=hs.kind.trans hk
 have b0:=M.b0
 have hm0:1<=m:=by have:=h.2.1; omega
 refine Qaf (wpS_mono (wpS_forRange (I:=fun x c st'=>st' = st/\∃ o na nb ac bc,c=(none,na,nb,o,ac,bc)/\Hd le a b o na nb/\na + nb + x<=m)
  (Q:=fun c st'=>st' = st/\HFR le a b (m - 1) c) ?_ ?_ ⟨rfl,o,na,nb,0,0,rfl,h,by omega⟩) ?_)
 ·rintro x c st' _ hx ⟨rfl,o,na,nb,ac,bc,rfl,g,q⟩
  have g0:=g.2
  refine yt M hL (m:=m - x - 1) hk1 g (by omega) (fun c hc=>⟨rfl,?_⟩) (fun o' ia' ib' ac' bc' g' q'=>⟨rfl,o',ia',ib',ac',bc',rfl,g',by have:=g'.2; omega⟩)
  obtain ⟨_ | r,c⟩:=c
  ·exact ⟨hc.1,by have:=hc.2; omega⟩
  ·exact hc
 ·rintro c st' ⟨rfl,o,na,nb,ac,bc,rfl,g,q⟩
  exact ⟨rfl,g,by omega⟩
 ·rintro ⟨_ | r,c⟩ st' ⟨rfl,hc⟩
  ·obtain ⟨na,nb,o,ac,bc⟩:=c
   dsimp only
   refine Qaf (wpS_lift (wpAny_rule ⟨rfl,?_⟩))
   refine Qaf (wpS_mono (wpS_forRange (I:=fun _ c st'=>Sm st0 st'/\∃ o na nb mg ac bc,c=(none,na,nb,o,mg,ac,bc)/\Hd le a b o na nb/\na + nb<=m - 1)
    (Q:=fun c st'=>Sm st0 st'/\HR le a b (m - 1) (.done c)) ?_ ?_ ⟨hs,o,na,nb,_,ac,bc,rfl,hc⟩) ?_)
   ·rintro x c st' _ hx ⟨hs',o,na,nb,mg,ac,bc,rfl,g⟩
    refine yr M hL hs' hk g fun r st'' hs'' gr=>?_
    match r,gr with
    | .done c,gr=>exact ⟨hs'',gr⟩
    | .yield (none,na,nb,o,mg,ac,bc),gr=>exact ⟨hs'',o,na,nb,mg,ac,bc,rfl,gr⟩
    | .yield (some _,_),gr=>exact gr.elim
   ·rintro c st' ⟨hs',o,na,nb,mg,ac,bc,rfl,g⟩
    exact ⟨hs',g⟩
   ·rintro ⟨_ | r,c⟩ st' ⟨hs',hc⟩
    ·obtain ⟨na,nb,o,mg,ac,bc⟩:=c
     dsimp only
     rw [smg'_eq]
     exact Qaf (wpS_modify (Qag (hy _ _ _ _ _ (hs'.mg _) hc.1 (by have:=hc.2; omega))))
    ·exact Qag (hd _ _ _ hs' hc)
  ·exact Qag (hd _ _ _ hs hc)
theorem yv (hL:dc prog w A E s le κ S) {Q:Array Keyed->SortSt->Prop} (hk:kindOf st0=κ) (h:∀ r st',Sm st0 st'->r.toList=List.merge a.toList b.toList le->Q r st'):wpS (model prog w) A E s (sG a b) Q st0:=by
 rw [mhi'_eq]
 refine Qaf (wpS_lift (wpAny_rule ⟨rfl,?_⟩))
 have b0:=M.b0
 have a0:=M.a0
 obtain ⟨na,ena⟩:∃ na,a.size=na + 1:=⟨a.size - 1,by omega⟩
 obtain ⟨nb,enb⟩:∃ nb,b.size=nb + 1:=⟨b.size - 1,by omega⟩
 obtain ⟨x,hx⟩:=at_ (c:=a) (i:=na) (by omega)
 obtain ⟨y,hy⟩:=at_ (c:=b) (i:=nb) (by omega)
 rw [ena,enb]
 simp only [Nat.add_sub_cancel]
 refine Qaf (aX hx ?_)
 have j0:HH le a b #[] (na + 1) (nb + 1):=by
  unfold HH
  rw [List.take_of_length_le (by simp; omega),List.take_of_length_le (by simp; omega)]
  simp
 have j1:HH le a b #[x] na (nb + 1):=j0.pa M hx hy (M.last na x y (by omega) hx (by rw [aN] at hy; exact List.mem_of_getElem? hy))
 by_cases e1:na=0
 ·subst e1
  rw [if_pos (by rfl)]
  exact Qag (h _ _ .refl j1.dh)
 ·rw [if_neg (by simpa using e1)]
  by_cases e2:nb=0
  ·subst e2
   rw [if_pos (by rfl)]
   exact Qag (h _ _ .refl (j1.fh M))
  ·rw [if_neg (by simpa using e2)]
   refine Qaf (wpS_get ?_)
   refine Qaf (wpS_mono (wpS_forRange (I:=fun x c st'=>Sm st0 st'/\∃ o ia ib mg,c=(none,ia,ib,o,mg)/\Hd le a b o ia ib/\ia + ib + x + 1<=a.size + b.size)
    (Q:=fun c st'=>Sm st0 st'/\∃ r c',c=(some r,c')/\r.toList=List.merge a.toList b.toList le) ?_ ?_ ⟨.refl,#[x],na,nb + 1,_,rfl,⟨j1,by omega,by omega,by omega,by omega⟩,by omega⟩) ?_)
   ·rintro x c st' _ hx ⟨hs',o,ia,ib,mg,rfl,g,q⟩
    refine yu M hL (m:=a.size + b.size - x - 1) hs' hk g (by omega) (fun r c st'' hs'' e=>⟨hs'',r,c,rfl,e⟩) fun o' ia' ib' mg' st'' hs'' g' q'=>⟨hs'',o',ia',ib',mg',rfl,g',by omega⟩
   ·rintro c st' ⟨hs',o,ia,ib,mg,rfl,g,q⟩
    have:=g.2
    omega
   ·rintro c st' ⟨hs',r,c,rfl,e⟩
    exact Qag (h _ _ hs' e)
end
noncomputable abbrev CA:=Option (Option Nat) × Nat
noncomputable abbrev CD:=Option (Option Nat) × Nat × Nat
noncomputable def cAsc (lo a nr:Nat):StateT SortSt Sem CA:=forIn [a:nr] ((none,a):CA) fun _ c=>do
 let q <-ltAt' (lo + c.2) (lo + c.2 - 1)
 match q with
 | some sm=>if sm=true then pure (.done (none,c.2)) else pure (.yield (none,c.2 + 1))
 | _=>pure (.done (some none,c.2))
noncomputable def cTail (lo n nr:Nat):StateT SortSt Sem (Option Nat):=do
 reverseSlice' lo (lo + n)
 let c <-cAsc lo n nr
 match c.1 with
 | some r=>pure r
 | none=>pure (some c.2)
noncomputable def cDesc (lo n nr:Nat):StateT SortSt Sem CD:=forIn [n:nr] ((none,n,0):CD) fun _ c=>do
 let q <-ltAt' (lo + c.2.1) (lo + c.2.1 - 1)
 match q with
 | some sm=>
  if sm=true then
   if c.2.2 > 0 then do
    reverseSlice' (lo + c.2.1 - (c.2.2 + 1)) (lo + c.2.1)
    pure (.yield (none,c.2.1 + 1,0))
   else pure (.yield (none,c.2.1 + 1,0))
  else do
   let q <-ltAt' (lo + c.2.1 - 1) (lo + c.2.1)
   match q with
   | some lg=>if lg=true then pure (.done (none,c.2.1,c.2.2)) else pure (.yield (none,c.2.1 + 1,c.2.2 + 1))
   | _=>pure (.done (some none,c.2.1,c.2.2))
 | _=>pure (.done (some none,c.2.1,c.2.2))
noncomputable def cDP (lo n nr:Nat):StateT SortSt Sem (Option Nat):=do
 liftM (rule "list.sort.descending-run")
 let c <-cDesc lo (n + 1) nr
 match c.1 with
 | some r=>pure r
 | none=>
  if c.2.2 > 0 then do
   reverseSlice' (lo + c.2.1 - (c.2.2 + 1)) (lo + c.2.1)
   cTail lo c.2.1 nr
  else cTail lo c.2.1 nr
theorem yw (lo nr:Nat):countRun' lo nr=(do
  let c <-cAsc lo 1 nr
  match c.1 with
  | some r=>pure r
  | none=>
   if (c.2 == nr)=true then pure (some c.2)
   else if c.2 > 1 then do
    let q <-ltAt' lo (lo + c.2 - 1)
    match q with
    | some ro=>if ro=true then pure (some c.2) else do
      reverseSlice' lo (lo + c.2)
      cDP lo c.2 nr
    | _=>pure none
   else cDP lo c.2 nr):=by
 rw [countRun'_eq]
 have hT:∀ n:Nat,cTail lo n nr=(do
   reverseSlice' lo (lo + n)
   let c <-cAsc lo n nr
   match c.1 with
   | some r=>pure r
   | none=>pure (some c.2)):=fun _=>rfl
 refine Qah fun c=>?_
 obtain ⟨_ | r,n⟩:=c
 ·dsimp only
  refine gf rfl (gf (Qah fun q=>?_) ?_)
  ·cases q with
   | none=>rfl
   | some ro=>
    refine gf rfl (Qah fun _=>?_)
    unfold cDP
    refine Qah fun _=>Qah fun d=>?_
    obtain ⟨_ | r,m,nq⟩:=d
    ·dsimp only
     unfold cTail
     refine gf (Qah fun _=>Qah fun _=>Qah fun e=>?_) (Qah fun _=>Qah fun e=>?_) <;> (obtain ⟨_ | r,e⟩:=e <;> rfl)
    ·rfl
  ·unfold cDP
   refine Qah fun _=>Qah fun d=>?_
   obtain ⟨_ | r,m,nq⟩:=d
   ·dsimp only
    unfold cTail
    refine gf (Qah fun _=>Qah fun _=>Qah fun e=>?_) (Qah fun _=>Qah fun e=>?_) <;> (obtain ⟨_ | r,e⟩:=e <;> rfl)
   ·rfl
 ·rfl
structure Bs (κ:SortKind) (S:Keyed->Prop) (lo:Nat) (st0 st:SortSt):Prop where
 perm:(arrOf st).Perm (arrOf st0)
 kind:kindOf st=κ
 failed:failedOf st=none
 pend:pendingOf st=pendingOf st0
 keep:∀ k,k < lo->(arrOf st)[k]? = (arrOf st0)[k]?
 mem:∀ x ∈ (arrOf st0).toList,S x
section
variable {prog:Program} {w:World} {A:Around} {E:Value->Shared->Prop} {s:Shared} {le:Keyed->Keyed->Bool} {κ:SortKind} {S:Keyed->Prop} {lo:Nat} {st0 st:SortSt}
theorem Bs.size (h:Bs κ S lo st0 st):(arrOf st).size=(arrOf st0).size:=h.perm.size_eq
theorem Bs.at (h:Bs κ S lo st0 st) {i:Nat} (hi:i < (arrOf st0).size):∃ x,(arrOf st)[i]? = some x/\S x:=by
 obtain ⟨x,hx⟩:=at_ (c:=arrOf st) (i:=i) (by rw [h.size]; exact hi)
 refine ⟨x,hx,h.mem x ((Array.perm_iff_toList_perm.mp h.perm).mem_iff.mp ?_)⟩
 rw [aN] at hx
 exact List.mem_of_getElem? hx
theorem Bs.setArr (h:Bs κ S lo st0 st) {xs:Array Keyed} (hp:xs.Perm (arrOf st)) (hk:∀ k,k < lo->xs[k]? = (arrOf st)[k]?):Bs κ S lo st0 (setArr st xs):=
 ⟨hp.trans h.perm,h.kind,h.failed,h.pend,fun k q=>(hk k q).trans (h.keep k q),h.mem⟩
theorem jk (hL:dc prog w A E s le κ S) (hB:Bs κ S lo st0 st) {i j:Nat} {Q:Option Bool->SortSt->Prop} (hi:i < (arrOf st0).size) (hj:j < (arrOf st0).size)
  (h:∀ x y,(arrOf st)[i]? = some x->(arrOf st)[j]? = some y->Q (some (!le y x)) st):wpS (model prog w) A E s (ltAt' i j) Q st:=by
 obtain ⟨x,hx,sx⟩:=hB.at hi
 obtain ⟨y,hy,sy⟩:=hB.at hj
 rw [ltAt'_eq]
 refine Qaf (wpS_get ?_)
 exact Qaf (aX hx (Qaf (aX hy (hL x y sx sy Q st hB.kind (h x y hx hy)))))
theorem kz {i j:Nat} {Q:Unit->SortSt->Prop} (h:Q () (setArr st (mirror (arrOf st) i j ((j - i) / 2)))):wpS (model prog w) A E s (reverseSlice' i j) Q st:=by
 rw [reverseSlice'_eq]; exact wpS_modify h
noncomputable def Asc (le:Keyed->Keyed->Bool) (xs:Array Keyed) (lo n:Nat):Prop:=∀ (i j:Nat) (x y:Keyed),i<=j->j < n->xs[lo + i]? = some x->xs[lo + j]? = some y->le x y=true
noncomputable def Dsc (le:Keyed->Keyed->Bool) (xs:Array Keyed) (lo n:Nat):Prop:=∀ (i j:Nat) (x y:Keyed),i<=j->j < n->xs[lo + i]? = some x->xs[lo + j]? = some y->le y x=true
theorem gO {xs:Array Keyed} {i j k:Nat} (hj:j<=xs.size) (hk:k < i):(mirror xs i j ((j - i) / 2))[k]? = xs[k]?:=by rw [getElem?_mirror_all hj,if_neg (by omega)]
theorem more {R:Keyed->Keyed->Prop} (tr:∀ x y z,R x y->R y z->R x z) (rf:∀ x,R x x) {xs:Array Keyed} {lo n:Nat} (hn:0 < n)
  (h:∀ (i j:Nat) (x y:Keyed),i<=j->j < n->xs[lo + i]? = some x->xs[lo + j]? = some y->R x y) (h1:∀ x y,xs[lo + (n - 1)]? = some x->xs[lo + n]? = some y->R x y) :
  ∀ (i j:Nat) (x y:Keyed),i<=j->j < n + 1->xs[lo + i]? = some x->xs[lo + j]? = some y->R x y:=fun i j x y hij hj hx hy=>by
 by_cases hjn:j < n
 ·exact h i j x y hij hjn hx hy
 ·obtain rfl:j=n:=by omega
  by_cases hi:i=j
  ·subst hi; rw [hx] at hy; cases hy; exact rf x
  ·have hlt:lo + j < xs.size:=by
    rcases Nat.lt_or_ge (lo + j) xs.size with q | q
    ·exact q
    ·rw [Array.getElem?_eq_none q] at hy; cases hy
   obtain ⟨z,hz⟩:=at_ (c:=xs) (i:=lo + (j - 1)) (by omega)
   exact tr _ _ _ (h i (j - 1) x z (by omega) (by omega) hx hz) (h1 z y hz hy)
variable (hL:dc prog w A E s le κ S) (tr:∀ x y z,le x y=true->le y z=true->le x z=true) (tt:∀ x y,(le x y || le y x)=true)
include tt in
theorem le_rf (x:Keyed):le x x=true:=by simpa using tt x x
include tt in
theorem iZ {x y:Keyed} (h:le x y=false):le y x=true:=by have:=tt x y; rw [h] at this; simpa using this
include hL tr tt
theorem pP {a nr:Nat} {Q:CA->SortSt->Prop} (hn:lo + nr<=(arrOf st0).size) (ha:1<=a) (han:a<=nr) (hB:Bs κ S lo st0 st) (hs:Asc le (arrOf st) lo a)
  (h:∀ n,a<=n->n<=nr->Asc le (arrOf st) lo n->(n=nr\/∀ x y,(arrOf st)[lo + (n - 1)]? = some x->(arrOf st)[lo + n]? = some y->le x y=false)->Q (none,n) st) :
  wpS (model prog w) A E s (cAsc lo a nr) Q st:=by
 unfold cAsc
 refine wpS_forRange (I:=fun x c st'=>st' = st/\c=(none,x)/\Asc le (arrOf st) lo x) ?_ ?_ ⟨rfl,rfl,hs⟩
 ·rintro x c st' hax hxn ⟨rfl,rfl,hs'⟩
  dsimp only
  refine Qaf (jk hL hB (by omega) (by omega) fun u v hu hv=>?_)
  rw [show lo + x - 1=lo + (x - 1) by omega] at hv
  cases e:le v u with
  | false=>
   simp only [Bool.not_false,if_true]
   exact Qag (h x hax (by omega) hs' (.inr fun p q hp hq=>by rw [hp] at hv; rw [hq] at hu; cases hv; cases hu; exact e))
  | true=>
   simp only [Bool.not_true,Bool.false_eq_true,if_false]
   exact Qag ⟨rfl,rfl,more tr (le_rf tt) (by omega) hs' fun p q hp hq=>by rw [hp] at hv; rw [hq] at hu; cases hv; cases hu; exact e⟩
 ·rintro c st' ⟨rfl,rfl,hs'⟩
  rw [show max a nr=nr by omega] at hs' ⊢
  exact h nr han (Qae _) hs' (.inl rfl)
theorem nL {n nr:Nat} {Q:Option Nat->SortSt->Prop} (hn:lo + nr<=(arrOf st0).size) (h1:1<=n) (hnn:n<=nr) (hB:Bs κ S lo st0 st) (hs:Dsc le (arrOf st) lo n)
  (h:∀ m st',Bs κ S lo st0 st'->1<=m->m<=nr->Asc le (arrOf st') lo m->Q (some m) st'):wpS (model prog w) A E s (cTail lo n nr) Q st:=by
 unfold cTail
 have hsz:lo + n<=(arrOf st).size:=by rw [hB.size]; omega
 refine Qaf (kz ?_)
 have hB':=hB.setArr (mirror_perm (arrOf st) lo (lo + n) ((lo + n - lo) / 2)) fun k hk=>gO hsz hk
 refine Qaf (pP hL tr tt hn h1 hnn hB' (fun i j x y hij hj hx hy=>?_) fun m hm1 hm2 hsm _=>Qag (h m _ hB' (by omega) hm2 hsm))
 have hx':(mirror (arrOf st) lo (lo + n) ((lo + n - lo) / 2))[lo + i]? = some x:=hx
 have hy':(mirror (arrOf st) lo (lo + n) ((lo + n - lo) / 2))[lo + j]? = some y:=hy
 rw [getElem?_mirror_all hsz,if_pos (by omega)] at hx' hy'
 rw [show lo + (lo + n) - 1 - (lo + i)=lo + (n - 1 - i) by omega] at hx'
 rw [show lo + (lo + n) - 1 - (lo + j)=lo + (n - 1 - j) by omega] at hy'
 exact hs (n - 1 - j) (n - 1 - i) y x (by omega) (by omega) hy' hx'
noncomputable def Eqs (le:Keyed->Keyed->Bool) (xs:Array Keyed) (lo m q:Nat):Prop:=∀ (i j:Nat) (x y:Keyed),m - (q + 1)<=i->i < m->m - (q + 1)<=j->j < m->xs[lo + i]? = some x->xs[lo + j]? = some y->le x y=true
omit hL tr tt in
theorem Dsc.mir {xs:Array Keyed} {m q:Nat} (hq:q + 1<=m) (hsz:lo + m<=xs.size) (hs:Dsc le xs lo m) (he:Eqs le xs lo m q):Dsc le (mirror xs (lo + m - (q + 1)) (lo + m) ((lo + m - (lo + m - (q + 1))) / 2)) lo m:=fun i j x y hij hj hx hy=>by
 rw [getElem?_mirror_all hsz] at hx hy
 by_cases hi:m - (q + 1)<=i
 ·rw [if_pos (by omega)] at hx
  rw [if_pos (by omega)] at hy
  rw [show lo + m - (q + 1) + (lo + m) - 1 - (lo + i)=lo + (m - (q + 1) + m - 1 - i) by omega] at hx
  rw [show lo + m - (q + 1) + (lo + m) - 1 - (lo + j)=lo + (m - (q + 1) + m - 1 - j) by omega] at hy
  exact he _ _ y x (by omega) (by omega) (by omega) (by omega) hy hx
 ·rw [if_neg (by omega)] at hx
  by_cases hj2:m - (q + 1)<=j
  ·rw [if_pos (by omega)] at hy
   rw [show lo + m - (q + 1) + (lo + m) - 1 - (lo + j)=lo + (m - (q + 1) + m - 1 - j) by omega] at hy
   exact hs i _ x y (by omega) (by omega) hx hy
  ·rw [if_neg (by omega)] at hy
   exact hs i j x y hij hj hx hy
theorem uE {n nr:Nat} {Q:CD->SortSt->Prop} (hn:lo + nr<=(arrOf st0).size) (h1:1<=n) (hnn:n<=nr) (hB:Bs κ S lo st0 st) (hs:Dsc le (arrOf st) lo n)
  (h:∀ m q st',Bs κ S lo st0 st'->n<=m->m<=nr->Dsc le (arrOf st') lo m->q + 1<=m->Eqs le (arrOf st') lo m q->Q (none,m,q) st'):wpS (model prog w) A E s (cDesc lo n nr) Q st:=by
 unfold cDesc
 have one:∀ (xs:Array Keyed) (m:Nat),Eqs le xs lo m 0:=fun xs m i j x y a1 a2 a3 a4 hx hy=>by
  obtain rfl:i=j:=by omega
  rw [hx] at hy; cases hy; exact le_rf tt x
 refine wpS_forRange (I:=fun x c st'=>∃ q,c=(none,x,q)/\Bs κ S lo st0 st'/\Dsc le (arrOf st') lo x/\q + 1<=x/\Eqs le (arrOf st') lo x q) ?_ ?_ ⟨0,rfl,hB,hs,by omega,one _ _⟩
 ·rintro x c st' hax hxn ⟨q,rfl,hB',hs',hq,he⟩
  dsimp only
  have hsz:lo + x<=(arrOf st').size:=by rw [hB'.size]; omega
  refine Qaf (jk hL hB' (by omega) (by omega) fun u v hu hv=>?_)
  rw [show lo + x - 1=lo + (x - 1) by omega] at hv
  cases e:le v u with
  | false=>
   simp only [Bool.not_false,if_true]
   have hx1:∀ xs:Array Keyed,Dsc le xs lo x->(∀ y,xs[lo + (x - 1)]? = some y->le u y=true)->xs[lo + x]? = some u->Dsc le xs lo (x + 1):=fun xs hd h1 h2=>
    more (R:=fun a b=>le b a=true) (fun a b c h1 h2=>tr _ _ _ h2 h1) (le_rf tt) (by omega) hd fun p r hp hr=>by rw [h2] at hr; cases hr; exact h1 p hp
   have hvu:le u v=true:=iZ tt e
   by_cases hq0:q > 0
   ·rw [if_pos hq0]
    refine Qaf (kz (Qag ⟨0,rfl,hB'.setArr (mirror_perm _ _ _ _) fun k hk=>gO (by omega) (by omega),?_,by omega,one _ _⟩))
    refine hx1 _ (hs'.mir hq hsz he) (fun y hy=>?_) ?_
    ·have hy':(mirror (arrOf st') (lo + x - (q + 1)) (lo + x) ((lo + x - (lo + x - (q + 1))) / 2))[lo + (x - 1)]? = some y:=hy
     rw [getElem?_mirror_all hsz,if_pos (by omega),show lo + x - (q + 1) + (lo + x) - 1 - (lo + (x - 1))=lo + (x - (q + 1)) by omega] at hy'
     exact tr _ _ _ hvu (he (x - 1) (x - (q + 1)) v y (by omega) (by omega) (by omega) (by omega) hv hy')
    ·show (mirror (arrOf st') (lo + x - (q + 1)) (lo + x) ((lo + x - (lo + x - (q + 1))) / 2))[lo + x]? = some u
     rw [getElem?_mirror_all hsz,if_neg (by omega)]; exact hu
   ·rw [if_neg hq0]
    exact Qag ⟨0,rfl,hB',hx1 _ hs' (fun y hy=>by rw [hv] at hy; cases hy; exact hvu) hu,by omega,one _ _⟩
  | true=>
   simp only [Bool.not_true,Bool.false_eq_true,if_false]
   refine Qaf (jk hL hB' (by omega) (by omega) fun v' u' hv' hu'=>?_)
   rw [show lo + x - 1=lo + (x - 1) by omega] at hv'
   rw [hv] at hv'; cases hv'
   rw [hu] at hu'; cases hu'
   cases e2:le u v with
   | false=>
    simp only [Bool.not_false,if_true]
    exact Qag (h x q st' hB' hax (by omega) hs' hq he)
   | true=>
    simp only [Bool.not_true,Bool.false_eq_true,if_false]
    refine Qag ⟨q + 1,rfl,hB',more (R:=fun a b=>le b a=true) (fun a b c h1 h2=>tr _ _ _ h2 h1) (le_rf tt) (by omega) hs' (fun p r hp hr=>by rw [hv] at hp; rw [hu] at hr; cases hp; cases hr; exact e2),by omega,fun i j p r a1 a2 a3 a4 hp hr=>?_⟩
    have hl:∀ (i:Nat) (p:Keyed),x + 1 - (q + 1 + 1)<=i->i < x + 1->(arrOf st')[lo + i]? = some p->le p v=true/\le v p=true:=fun i p b1 b2 hp=>by
     by_cases hi:i=x
     ·subst hi; rw [hu] at hp; cases hp; exact ⟨e2,e⟩
     ·exact ⟨he i (x - 1) p v (by omega) (by omega) (by omega) (by omega) hp hv,he (x - 1) i v p (by omega) (by omega) (by omega) (by omega) hv hp⟩
    exact tr _ _ _ (hl i p a1 a2 hp).1 (hl j r a3 a4 hr).2
 ·rintro c st' ⟨q,rfl,hB',hs',hq,he⟩
  rw [show max n nr=nr by omega] at hs' hq he ⊢
  exact h nr q st' hB' hnn (Qae _) hs' hq he
theorem rc {n nr:Nat} {Q:Option Nat->SortSt->Prop} (hn:lo + nr<=(arrOf st0).size) (hnn:n + 1<=nr) (hB:Bs κ S lo st0 st) (hs:Dsc le (arrOf st) lo (n + 1))
  (h:∀ m st',Bs κ S lo st0 st'->1<=m->m<=nr->Asc le (arrOf st') lo m->Q (some m) st'):wpS (model prog w) A E s (cDP lo n nr) Q st:=by
 unfold cDP
 refine Qaf (wpS_lift (wpAny_rule ⟨rfl,?_⟩))
 refine Qaf (uE hL tr tt hn (by omega) hnn hB hs fun m q st' hB' hm1 hm2 hs' hq he=>?_)
 dsimp only
 have hsz:lo + m<=(arrOf st').size:=by rw [hB'.size]; omega
 by_cases hq0:q > 0
 ·rw [if_pos hq0]
  exact Qaf (kz (nL hL tr tt hn (by omega) hm2 (hB'.setArr (mirror_perm _ _ _ _) fun k hk=>gO hsz (by omega)) (hs'.mir hq hsz he) h))
 ·rw [if_neg hq0]
  exact nL hL tr tt hn (by omega) hm2 hB' hs' h
theorem vT {nr:Nat} {Q:Option Nat->SortSt->Prop} (hn:lo + nr<=(arrOf st0).size) (h1:1<=nr) (hB:Bs κ S lo st0 st)
  (h:∀ m st',Bs κ S lo st0 st'->1<=m->m<=nr->Asc le (arrOf st') lo m->Q (some m) st'):wpS (model prog w) A E s (countRun' lo nr) Q st:=by
 rw [yw]
 refine Qaf (pP hL tr tt hn (Qae 1) h1 hB (fun i j x y hij hj hx hy=>by
  obtain rfl:i=j:=by omega
  rw [hx] at hy; cases hy; exact le_rf tt x) fun n hn1 hn2 hsn hor=>?_)
 dsimp only
 by_cases hnn:n=nr
 ·rw [if_pos (by simpa using hnn)]
  exact Qag (h n st hB hn1 hn2 hsn)
 ·rw [if_neg (by simpa using hnn)]
  have hlt:=hor.resolve_left hnn
  by_cases hgt:n > 1
  ·rw [if_pos hgt]
   refine Qaf (jk hL hB (by omega) (by omega) fun u v hu hv=>?_)
   rw [show lo + n - 1=lo + (n - 1) by omega] at hv
   cases e:le v u with
   | false=>
    simp only [Bool.not_false,if_true]
    exact Qag (h n st hB hn1 hn2 hsn)
   | true=>
    simp only [Bool.not_true,Bool.false_eq_true,if_false]
    have hsz:lo + n<=(arrOf st).size:=by rw [hB.size]; omega
    have hall:∀ (i j:Nat) (x y:Keyed),i < n->j < n->(arrOf st)[lo + i]? = some x->(arrOf st)[lo + j]? = some y->le x y=true:=fun i j x y hi hj hx hy=>
     tr _ _ _ (hsn i (n - 1) x v (by omega) (by omega) hx hv) (tr _ _ _ e (hsn 0 j u y (by omega) hj (by simpa using hu) hy))
    refine Qaf (kz (rc hL tr tt hn (by omega) (hB.setArr (mirror_perm _ _ _ _) fun k hk=>gO hsz hk) ?_ h))
    have hin:∀ (i:Nat) (x:Keyed),i < n->(mirror (arrOf st) lo (lo + n) ((lo + n - lo) / 2))[lo + i]? = some x->∃ j,j < n/\(arrOf st)[lo + j]? = some x:=fun i x hi hx=>by
     rw [getElem?_mirror_all hsz,if_pos (by omega),show lo + (lo + n) - 1 - (lo + i)=lo + (n - 1 - i) by omega] at hx
     exact ⟨_,by omega,hx⟩
    refine more (R:=fun a b=>le b a=true) (fun a b c h1 h2=>tr _ _ _ h2 h1) (le_rf tt) (by omega) (fun i j x y hij hj hx hy=>?_) fun x y hx hy=>?_
    ·obtain ⟨i',hi',q1⟩:=hin i x (by omega) hx
     obtain ⟨j',hj',q2⟩:=hin j y hj hy
     exact hall j' i' y x hj' hi' q2 q1
    ·obtain ⟨i',hi',q1⟩:=hin (n - 1) x (by omega) hx
     have hy':(mirror (arrOf st) lo (lo + n) ((lo + n - lo) / 2))[lo + n]? = some y:=hy
     rw [getElem?_mirror_all hsz,if_neg (by omega)] at hy'
     exact tr _ _ _ (iZ tt (hlt v y hv hy')) (hall (n - 1) i' v x (by omega) hi' hv q1)
  ·rw [if_neg hgt]
   obtain rfl:n=1:=by omega
   refine rc hL tr tt hn (by omega) hB ?_ h
   refine more (R:=fun a b=>le b a=true) (fun a b c h1 h2=>tr _ _ _ h2 h1) (le_rf tt) (by omega) (fun i j x y hij hj hx hy=>?_) fun x y hx hy=>iZ tt (hlt x y hx hy)
   obtain rfl:i=j:=by omega
   rw [hx] at hy; cases hy; exact le_rf tt x
theorem yx {n ok:Nat} {Q:Bool->SortSt->Prop} (hn:lo + n<=(arrOf st0).size) (hok:ok<=n) (hB:Bs κ S lo st0 st) (hs:Asc le (arrOf st) lo ok)
  (h:∀ st',Bs κ S lo st0 st'->Asc le (arrOf st') lo n->Q true st'):wpS (model prog w) A E s (binarySort' lo n ok) Q st:=by
 rw [binarySort'_eq]
 refine Qaf (wpS_mono (wpS_forRange (I:=fun k c st'=>c=(none,())/\Bs κ S lo st0 st'/\Asc le (arrOf st') lo (min k n))
  (Q:=fun c st'=>c=(none,())/\Bs κ S lo st0 st'/\Asc le (arrOf st') lo n) ?_ ?_ ?_) ?_)
 ·rintro k c st' hak hkn ⟨rfl,hB',hs'⟩
  rw [show min k n=k by omega] at hs'
  obtain ⟨u,hu,su⟩:=hB'.at (i:=lo + k) (by omega)
  dsimp only
  refine Qaf (wpS_mono (wpS_forRange (I:=fun x c st''=>st'' = st'/\∃ l r,c=(none,l,r)/\l<=r/\r<=k/\r - l<=k - x/\
    (∀ (i:Nat) (y:Keyed),i < l->(arrOf st')[lo + i]? = some y->le y u=true)/\(∀ (i:Nat) (y:Keyed),r<=i->i < k->(arrOf st')[lo + i]? = some y->le y u=false))
   (Q:=fun c st''=>st'' = st'/\∃ l r,c=(none,l,r)/\l<=k/\
    (∀ (i:Nat) (y:Keyed),i < l->(arrOf st')[lo + i]? = some y->le y u=true)/\(∀ (i:Nat) (y:Keyed),l<=i->i < k->(arrOf st')[lo + i]? = some y->le y u=false)) ?_ ?_ ?_) ?_)
  ·rintro x c st'' _ hxk ⟨rfl,l,r,rfl,hlr,hrk,hm,hlo,hhi⟩
   dsimp only
   by_cases hge:l ≥ r
   ·rw [if_pos hge]
    obtain rfl:l=r:=by omega
    exact Qag ⟨rfl,l,l,rfl,hrk,hlo,hhi⟩
   ·rw [if_neg hge]
    refine Qaf (jk hL hB' (by omega) (by omega) fun u' v hu' hv=>?_)
    rw [hu] at hu'; cases hu'
    cases e:le v u with
    | false=>
     simp only [Bool.not_false,if_true]
     refine Qag ⟨rfl,l,(l + r) / 2,rfl,by omega,by omega,by omega,hlo,fun i y h1 h2 hy=>?_⟩
     cases e2:le y u with
     | false=>rfl
     | true=>rw [tr _ _ _ (hs' _ _ v y h1 h2 hv hy) e2] at e; cases e
    | true=>
     simp only [Bool.not_true,Bool.false_eq_true,if_false]
     exact Qag ⟨rfl,(l + r) / 2 + 1,r,rfl,by omega,by omega,by omega,fun i y h1 hy=>tr _ _ _ (hs' i ((l + r) / 2) y v (by omega) (by omega) hy hv) e,hhi⟩
  ·rintro c st'' ⟨rfl,l,r,rfl,hlr,hrk,hm,hlo,hhi⟩
   obtain rfl:l=r:=by omega
   exact ⟨rfl,l,l,rfl,hrk,hlo,hhi⟩
  ·exact ⟨rfl,0,k,rfl,by omega,by omega,by omega,fun i y hi=>by omega,fun i y h1 h2=>by omega⟩
  ·rintro c st'' ⟨rfl,l,r,rfl,hlk,hlo,hhi⟩
   show wpS _ _ _ _ (do moveDown' (lo + k) (lo + l); pure (ForInStep.yield (none,()))) _ _
   rw [moveDown'_eq]
   have hks:lo + k < (arrOf st'').size:=by rw [hB'.size]; omega
   have gb:=fun j=>getElem?_bubble (xs:=arrOf st'') hks (lo + k - (lo + l)) (by omega) j
   refine Qaf (wpS_modify (Qag ⟨rfl,hB'.setArr (bubble_perm _ _ _) (fun j hj=>by rw [gb,if_neg (by omega),if_neg (by omega)]),?_⟩))
   rw [show min (k + 1) n=k + 1 by omega]
   intro i j x y hij hj hx hy
   have hx':(bubble (arrOf st'') (lo + k) (lo + k - (lo + l)))[lo + i]? = some x:=hx
   have hy':(bubble (arrOf st'') (lo + k) (lo + k - (lo + l)))[lo + j]? = some y:=hy
   rw [gb] at hx' hy'
   have cs:∀ (i:Nat) (x:Keyed),i < k + 1->(if lo + i=lo + k - (lo + k - (lo + l)) then (arrOf st'')[lo + k]? else if lo + k - (lo + k - (lo + l)) < lo + i/\lo + i<=lo + k then (arrOf st'')[lo + i - 1]? else (arrOf st'')[lo + i]?)=some x->
     (i=l/\x=u)\/(l < i/\(arrOf st'')[lo + (i - 1)]? = some x)\/(i < l/\(arrOf st'')[lo + i]? = some x):=fun i x hi h=>by
    split at h
    ·rw [hu] at h; cases h; exact .inl ⟨by omega,rfl⟩
    ·split at h
     ·rw [show lo + i - 1=lo + (i - 1) by omega] at h; exact .inr (.inl ⟨by omega,h⟩)
     ·exact .inr (.inr ⟨by omega,h⟩)
   rcases cs i x (by omega) hx' with ⟨e1,rfl⟩ | ⟨e1,q1⟩ | ⟨e1,q1⟩ <;> rcases cs j y (by omega) hy' with ⟨e2,rfl⟩ | ⟨e2,q2⟩ | ⟨e2,q2⟩
   ·exact le_rf tt _
   ·exact iZ tt (hhi (j - 1) y (by omega) (by omega) q2)
   ·omega
   ·omega
   ·exact hs' (i - 1) (j - 1) x y (by omega) (by omega) q1 q2
   ·omega
   ·exact hlo i x e1 q1
   ·exact hs' i (j - 1) x y (by omega) (by omega) q1 q2
   ·exact hs' i j x y hij (by omega) q1 q2
 ·rintro c st' ⟨hc,hB',hs'⟩
  refine ⟨hc,hB',?_⟩
  rwa [show min (max (max ok 1) n) n=n by omega] at hs'
 ·refine ⟨rfl,hB,fun i j x y hij hj hx hy=>?_⟩
  by_cases h1:ok=0
  ·obtain rfl:i=j:=by omega
   rw [hx] at hy; cases hy; exact le_rf tt x
  ·exact hs i j x y hij (by omega) hx hy
 ·rintro c st' ⟨rfl,hB',hs'⟩
  exact Qag (h st' hB' hs')
end
theorem re (c:Nat):∀ (m:List Keyed) (t:Nat) (arr:Array Keyed),c + t + m.length<=arr.size->((m.zipIdx t).foldl (fun (a:Array Keyed) (q:Keyed × Nat)=>a.setIfInBounds (c + q.2) q.1) arr).toList=arr.toList.take (c + t) ++ (m ++ arr.toList.drop (c + t + m.length))
 | [],t,arr,h=>by simp
 | x :: m,t,arr,h=>by
  rw [List.zipIdx_cons,List.foldl_cons,re c m (t + 1) _ (by rw [Array.size_setIfInBounds]; simp at h; omega)]
  simp only [Array.toList_setIfInBounds]
  have hl:c + t < arr.toList.length:=by simp at h ⊢; omega
  rw [show c + (t + 1)=c + t + 1 by omega,yq (l:=arr.toList.set (c + t) x) (x:=x) (by rw [List.getElem?_set_self hl]),List.take_set_of_le (Qae _),List.drop_set_of_lt (by omega)]
  rw [show c + t + (x :: m).length=c + t + 1 + m.length by simp; omega]
  simp
theorem mAt'_eq (i:Nat):mergeAt' i=(do
 let t <-get
 let (some (sa,na,pw),some (sb,nb,_)):=((pendingOf t)[i]?,(pendingOf t)[i + 1]?) | unsupported "internal:list.sort.pending"
 set (setPending t (((pendingOf t).setIfInBounds i (sa,na + nb,pw)).eraseIdxIfInBounds (i + 1)))
 let some k <-gal' false (<-elem' (arrOf t) sb) (arrOf t) sa na 0 | return false
 let (sa,na):=(sa + k,na - k)
 if na == 0 then return true
 let some nb <-gal' true (<-elem' (arrOf t) (sa + na - 1)) (arrOf t) sb nb (nb - 1) | return false
 if nb == 0 then return true
 let x:=(arrOf t).extract sa sb
 let y:=(arrOf t).extract sb (sb + nb)
 let r <-if na<=nb then sF x y else sG x y
 modify fun u=>setArr u (r.toList.zipIdx.foldl (fun a (p,j)=>a.setIfInBounds (sa + j) p) (arrOf u))
 return (failedOf (<-get)).isNone):=rfl
theorem yy {prog:Program} {w:World} {A:Around} {E:Value->Shared->Prop} {s:Shared} {st st1:SortSt} {Q:PUnit->SortSt->Prop} (h:Q ⟨⟩ st1):wpS (model prog w) A E s (set st1:StateT SortSt Sem PUnit) Q st:=by
 unfold wpS
 have e:(set st1:StateT SortSt Sem PUnit).run st=pure (⟨⟩,st1):=rfl
 rw [e]
 exact Qab ⟨rfl,h⟩
theorem lT {le:Keyed->Keyed->Bool} (rf:∀ x,le x x=true) {l:List Keyed} (h:l.Pairwise (fun x y=>le x y=true)) {i j:Nat} {x y:Keyed} (hij:i<=j) (hx:l[i]? = some x) (hy:l[j]? = some y):le x y=true:=by
 obtain ⟨i1,rfl⟩:=List.getElem?_eq_some_iff.mp hx
 obtain ⟨j1,rfl⟩:=List.getElem?_eq_some_iff.mp hy
 rcases Nat.lt_or_ge i j with q | q
 ·exact List.pairwise_iff_getElem.mp h i j i1 j1 q
 ·obtain rfl:i=j:=by omega
  exact rf _
section
variable {prog:Program} {w:World} {A:Around} {E:Value->Shared->Prop} {s:Shared} {le:Keyed->Keyed->Bool} {κ:SortKind} {S:Keyed->Prop} {st:SortSt}
variable (hL:dc prog w A E s le κ S) (tr:∀ x y z,le x y=true->le y z=true->le x z=true) (tt:∀ x y,(le x y || le y x)=true)
include hL tr tt
theorem yz {Q:Bool->SortSt->Prop} {i pw pv:Nat} {L RA RB R:List Keyed} (hk:kindOf st=κ) (hf:failedOf st=none) (hS:∀ x ∈ (arrOf st).toList,S x)
  (h1:(pendingOf st)[i]? = some (L.length,RA.length,pw)) (h2:(pendingOf st)[i + 1]? = some (L.length + RA.length,RB.length,pv)) (ha:(arrOf st).toList=L ++ (RA ++ (RB ++ R)))
  (a0:0 < RA.length) (b0:0 < RB.length) (sa:RA.Pairwise fun x y=>le x y=true) (sb:RB.Pairwise fun x y=>le x y=true)
  (h:∀ st',kindOf st' = κ->failedOf st' = none->pendingOf st' = ((pendingOf st).setIfInBounds i (L.length,RA.length + RB.length,pw)).eraseIdxIfInBounds (i + 1)->(arrOf st').toList=L ++ (List.merge RA RB le ++ R)->Q true st') :
  wpS (model prog w) A E s (mergeAt' i) Q st:=by
 rw [mAt'_eq]
 refine Qaf (wpS_get ?_)
 rw [h1,h2]
 dsimp only
 have rf:=le_rf (le:=le) tt
 have ixA:∀ j,j < RA.length->(arrOf st)[L.length + j]? = RA[j]?:=fun j hj=>by
  rw [aN,ha,List.getElem?_append_right (by omega),Nat.add_sub_cancel_left,List.getElem?_append_left hj]
 have ixB:∀ j,j < RB.length->(arrOf st)[L.length + RA.length + j]? = RB[j]?:=fun j hj=>by
  rw [aN,ha,List.getElem?_append_right (by omega),List.getElem?_append_right (by omega),show L.length + RA.length + j - L.length - RA.length=j by omega,List.getElem?_append_left hj]
 have Sx:∀ (j:Nat) (x:Keyed),(arrOf st)[j]? = some x->S x:=fun j x hx=>hS x (by rw [aN] at hx; exact List.mem_of_getElem? hx)
 have sz:(arrOf st).size=L.length + (RA.length + (RB.length + R.length)):=by rw [<-Array.length_toList,ha]; simp
 generalize hst:setPending st (((pendingOf st).setIfInBounds i (L.length,RA.length + RB.length,pw)).eraseIdxIfInBounds (i + 1))=st1
 have k1:kindOf st1=κ:=by rw [<-hst]; exact hk
 have f1:failedOf st1=none:=by rw [<-hst]; exact hf
 have p1:pendingOf st1=((pendingOf st).setIfInBounds i (L.length,RA.length + RB.length,pw)).eraseIdxIfInBounds (i + 1):=by rw [<-hst]
 have ar1:arrOf st1=arrOf st:=by rw [<-hst]
 refine Qaf (yy ?_)
 obtain ⟨y0,RB',eB⟩:∃ y t,RB=y :: t:=by cases RB with
  | nil=>simp at b0
  | cons y t=>exact ⟨y,t,rfl⟩
 have hy0:(arrOf st)[L.length + RA.length]? = some y0:=by have:=ixB 0 b0; rw [eB] at this; simpa using this
 refine Qaf (aX hy0 (Qaf (gB hL tr k1 (Sx _ _ hy0) Sx (by omega) (fun i j x y q1 q2 q3 hx hy=>?_) (fun k hk2 g1 g2=>?_) a0)))
 ·obtain ⟨i',rfl⟩:∃ i',i=L.length + i':=⟨i - L.length,by omega⟩
  obtain ⟨j',rfl⟩:∃ j',j=L.length + j':=⟨j - L.length,by omega⟩
  rw [ixA _ (by omega)] at hx hy
  exact lT rf sa (by omega) hx hy
 have eA:RA.take k ++ RA.drop k=RA:=List.take_append_drop k RA
 have fr:List.merge RA RB le=RA.take k ++ List.merge (RA.drop k) RB le:=by
  rw [eB]
  conv=>lhs; rw [<-eA]
  refine jv fun x hx=>?_
  obtain ⟨j,hj,q⟩:=gC hx
  have:=g1 j hj x (by rw [ixA j (by omega)]; exact q)
  simpa [cU] using this
 dsimp only
 by_cases e1:RA.length - k=0
 ·rw [if_pos (by simpa using e1)]
  refine Qag (h st1 k1 f1 p1 ?_)
  rw [ar1,ha,fr,List.drop_eq_nil_of_le (by omega),List.take_of_length_le (by omega),List.nil_merge,List.append_assoc]
 rw [if_neg (by simpa using e1)]
 obtain ⟨x1,hx1⟩:∃ x,RA[RA.length - 1]? = some x:=⟨_,List.getElem?_eq_getElem (by omega)⟩
 have hx2:(arrOf st)[L.length + k + (RA.length - k) - 1]? = some x1:=by rw [show L.length + k + (RA.length - k) - 1=L.length + (RA.length - 1) by omega,ixA _ (by omega)]; exact hx1
 refine Qaf (aX hx2 (Qaf (gB hL tr k1 (Sx _ _ hx2) Sx (by omega) (fun i j x y q1 q2 q3 hx hy=>?_) (fun nc hk3 g3 g4=>?_) (by omega))))
 ·obtain ⟨i',rfl⟩:∃ i',i=L.length + RA.length + i':=⟨i - (L.length + RA.length),by omega⟩
  obtain ⟨j',rfl⟩:∃ j',j=L.length + RA.length + j':=⟨j - (L.length + RA.length),by omega⟩
  rw [ixB _ (by omega)] at hx hy
  exact lT rf sb (by omega) hx hy
 have eC:RB.take nc ++ RB.drop nc=RB:=List.take_append_drop nc RB
 have bk:List.merge (RA.drop k) RB le=List.merge (RA.drop k) (RB.take nc) le ++ RB.drop nc:=by
  conv=>lhs; rw [<-eC]
  refine jw _ _ fun x hx y hy=>?_
  obtain ⟨j,hj⟩:=List.getElem?_of_mem hx
  rw [List.getElem?_drop] at hj
  obtain ⟨l,hl⟩:=List.getElem?_of_mem hy
  rw [List.getElem?_drop] at hl
  have hlt:nc + l < RB.length:=(List.getElem?_eq_some_iff.mp hl).1
  have hjt:k + j < RA.length:=(List.getElem?_eq_some_iff.mp hj).1
  have q1:=lT rf sa (i:=k + j) (j:=RA.length - 1) (by omega) hj hx1
  have q2:=g4 (nc + l) (by omega) hlt y (by rw [ixB _ hlt]; exact hl)
  exact tr _ _ _ q1 (by simpa [cU] using q2)
 dsimp only
 by_cases e2:nc=0
 ·rw [if_pos (by simpa using e2)]
  refine Qag (h st1 k1 f1 p1 ?_)
  subst e2
  rw [ar1,ha,fr,bk]
  simp only [List.take_zero,List.drop_zero,List.merge_right]
  rw [<-List.append_assoc (RA.take k),eA,List.append_assoc]
 rw [if_neg (by simpa using e2)]
 have tX:((arrOf st).extract (L.length + k) (L.length + RA.length)).toList=RA.drop k:=by
  rw [cx,ha,<-List.drop_drop,List.drop_left,List.drop_append_of_le_length (by omega),show L.length + RA.length - (L.length + k)=(RA.drop k).length by simp; omega,List.take_left]
 have tY:((arrOf st).extract (L.length + RA.length) (L.length + RA.length + nc)).toList=RB.take nc:=by
  rw [cx,ha,<-List.drop_drop,List.drop_left,List.drop_left,Nat.add_sub_cancel_left,List.take_append_of_le_length (by omega)]
 have lX:((arrOf st).extract (L.length + k) (L.length + RA.length)).size=RA.length - k:=by rw [<-Array.length_toList,tX]; simp
 have lY:((arrOf st).extract (L.length + RA.length) (L.length + RA.length + nc)).size=nc:=by rw [<-Array.length_toList,tY]; simp; omega
 have atX:∀ (j:Nat) (x:Keyed),((arrOf st).extract (L.length + k) (L.length + RA.length))[j]? = some x->RA[k + j]? = some x:=fun j x hx=>by rw [aN,tX,List.getElem?_drop] at hx; exact hx
 have atY:∀ (j:Nat) (x:Keyed),((arrOf st).extract (L.length + RA.length) (L.length + RA.length + nc))[j]? = some x->j < nc/\RB[j]? = some x:=fun j x hx=>by
  rw [aN,tY,List.getElem?_take] at hx
  split at hx
  ·exact ⟨by assumption,hx⟩
  ·cases hx
 have M:MH le S ((arrOf st).extract (L.length + k) (L.length + RA.length)) ((arrOf st).extract (L.length + RA.length) (L.length + RA.length + nc)):={
  tr:=tr
  sa:=fun i j x y hij hx hy=>lT rf sa (by omega) (atX i x hx) (atX j y hy)
  sb:=fun i j x y hij hx hy=>lT rf sb hij (atY i x hx).2 (atY j y hy).2
  Sa:=fun i x hx=>by have q:=atX i x hx; exact Sx (L.length + (k + i)) x (by rw [ixA _ (List.getElem?_eq_some_iff.mp q).1]; exact q)
  Sb:=fun i x hx=>by have q:=(atY i x hx).2; exact Sx (L.length + RA.length + i) x (by rw [ixB _ (List.getElem?_eq_some_iff.mp q).1]; exact q)
  a0:=by omega
  b0:=by omega
  first:=fun x y hx hy=>by
   have q1:=atX 0 x hx
   have q2:=(atY 0 y hy).2
   rw [eB] at q2
   have q3:=g2 k (Qae _) (by omega) x (by rw [ixA k (by omega)]; exact q1)
   simp only [List.getElem?_cons_zero,Option.some.injEq] at q2
   rw [<-q2]
   simpa [cU] using q3
  last:=fun i x y hi hx hy=>by
   have q1:=atX i x hx
   rw [show k + i=RA.length - 1 by omega,hx1] at q1
   cases q1
   rw [tY] at hy
   obtain ⟨j,hj,q⟩:=gC hy
   have q3:=g3 j hj y (by rw [ixB j (by omega)]; exact q)
   simpa [cU] using q3 }
 have fin:∀ (r:Array Keyed) (st2:SortSt),Sm st1 st2->r.toList=List.merge ((arrOf st).extract (L.length + k) (L.length + RA.length)).toList ((arrOf st).extract (L.length + RA.length) (L.length + RA.length + nc)).toList le->
   wpS (model prog w) A E s (do
    modify fun u=>setArr u (List.foldl (fun (a:Array Keyed) (x:Keyed × Nat)=>a.setIfInBounds (L.length + k + x.snd) x.fst) (arrOf u) r.toList.zipIdx)
    let v <-get
    pure (failedOf v).isNone) Q st2:=fun r st2 hs hr=>by
  refine Qaf (wpS_modify (Qaf (wpS_get ?_)))
  rw [tX,tY] at hr
  have f2:failedOf st2=none:=hs.failed.trans f1
  show wpS _ _ _ _ (pure (failedOf st2).isNone) Q _
  rw [f2]
  refine Qag (h _ (hs.kind.trans k1) f2 (hs.pend.trans p1) ?_)
  show (List.foldl (fun (a:Array Keyed) (x:Keyed × Nat)=>a.setIfInBounds (L.length + k + x.snd) x.fst) (arrOf st2) r.toList.zipIdx).toList=_
  have hl:r.toList.length=RA.length - k + nc:=by rw [hr,List.length_merge]; simp; omega
  rw [hs.arr,ar1,re (L.length + k) r.toList 0 (arrOf st) (by omega),hl,Nat.add_zero,ha,fr,bk,hr]
  have t1:(L ++ (RA ++ (RB ++ R))).take (L.length + k)=L ++ RA.take k:=by rw [List.take_append,List.take_of_length_le (by omega),Nat.add_sub_cancel_left,List.take_append_of_le_length (by omega)]
  have t2:(L ++ (RA ++ (RB ++ R))).drop (L.length + k + (RA.length - k + nc))=RB.drop nc ++ R:=by
   rw [show L.length + k + (RA.length - k + nc)=L.length + (RA.length + nc) by omega,<-List.drop_drop,List.drop_left,<-List.drop_drop,List.drop_left,List.drop_append_of_le_length (by omega)]
  rw [t1,t2]
  simp only [List.append_assoc]
 split
 ·exact Qaf (yp M hL k1 fun r st2 hs hr=>fin r st2 hs hr)
 ·exact Qaf (yv M hL k1 fun r st2 hs hr=>fin r st2 hs hr)
end
noncomputable def Rn (le:Keyed->Keyed->Bool):Nat->List (Nat × Nat × Nat)->List (List Keyed)->Prop
 | _,[],[]=>True
 | lo,p :: ps,r :: rs=>p.1=lo/\p.2.1=r.length/\0 < r.length/\r.Pairwise (fun x y=>le x y=true)/\Rn le (lo + r.length) ps rs
 | _,_,_=>False
section
variable {le:Keyed->Keyed->Bool}
theorem Rn.len:∀ {lo:Nat} {ps:List (Nat × Nat × Nat)} {rs:List (List Keyed)},Rn le lo ps rs->ps.length=rs.length
 | _,[],[],_=>rfl
 | _,_ :: _,_ :: _,h=>by simp [Rn.len h.2.2.2.2]
 | _,[],_ :: _,h=>h.elim
 | _,_ :: _,[],h=>h.elim
theorem Rn.few:∀ {lo:Nat} {ps:List (Nat × Nat × Nat)} {rs:List (List Keyed)},Rn le lo ps rs->rs.length<=rs.flatten.length
 | _,[],[],_=>by simp
 | _,_ :: _,r :: rs,h=>by have:=Rn.few h.2.2.2.2; have:=h.2.2.1; simp; simp at *; omega
 | _,[],_ :: _,h=>h.elim
 | _,_ :: _,[],h=>h.elim
theorem Rn.split:∀ {P Q:List (Nat × Nat × Nat)} {lo:Nat} {rs:List (List Keyed)},Rn le lo (P ++ Q) rs->∃ R1 R2,rs=R1 ++ R2/\Rn le lo P R1/\Rn le (lo + R1.flatten.length) Q R2
 | [],Q,lo,rs,h=>⟨[],rs,rfl,trivial,h⟩
 | p :: P,Q,lo,r :: rs,h=>by
  obtain ⟨R1,R2,e,h1,h2⟩:=Rn.split h.2.2.2.2
  refine ⟨r :: R1,R2,by rw [e]; rfl,⟨h.1,h.2.1,h.2.2.1,h.2.2.2.1,h1⟩,?_⟩
  rw [List.flatten_cons,List.length_append,<-Nat.add_assoc]; exact h2
 | p :: P,Q,lo,[],h=>h.elim
theorem Rn.join:∀ {P Q:List (Nat × Nat × Nat)} {lo:Nat} {R1 R2:List (List Keyed)},Rn le lo P R1->Rn le (lo + R1.flatten.length) Q R2->Rn le lo (P ++ Q) (R1 ++ R2)
 | [],Q,lo,[],R2,_,h=>by simpa using h
 | p :: P,Q,lo,r :: R1,R2,h,h2=>⟨h.1,h.2.1,h.2.2.1,h.2.2.2.1,h.2.2.2.2.join (by rw [List.flatten_cons,List.length_append,<-Nat.add_assoc] at h2; exact h2)⟩
 | [],_,_,_ :: _,_,h,_=>h.elim
 | _ :: _,_,_,[],_,h,_=>h.elim
theorem Rn.pw {f:Nat × Nat × Nat->Nat × Nat × Nat} (hf:∀ p,(f p).1=p.1/\(f p).2.1=p.2.1):∀ {ps:List (Nat × Nat × Nat)} {lo i:Nat} {rs:List (List Keyed)},Rn le lo ps rs->Rn le lo (ps.modify i f) rs
 | [],_,_,[],h=>by simp [Rn]
 | p :: ps,lo,0,r :: rs,h=>by simpa [List.modify,Rn,hf] using h
 | p :: ps,lo,i + 1,r :: rs,h=>by rw [List.modify_succ_cons]; exact ⟨h.1,h.2.1,h.2.2.1,h.2.2.2.1,h.2.2.2.2.pw hf⟩
 | [],_,_,_ :: _,h=>h.elim
 | _ :: _,_,_,[],h=>h.elim
structure IV (le:Keyed->Keyed->Bool) (κ:SortKind) (a₀:List Keyed) (st:SortSt) (rs:List (List Keyed)) (rest:List Keyed):Prop where
 kind:kindOf st=κ
 failed:failedOf st=none
 perm:(arrOf st).toList.Perm a₀
 arr:(arrOf st).toList=rs.flatten ++ rest
 runs:Rn le 0 (pendingOf st).toList rs
variable {prog:Program} {w:World} {A:Around} {E:Value->Shared->Prop} {s:Shared} {κ:SortKind} {a₀:List Keyed} {st:SortSt}
variable (hL:dc prog w A E s le κ (· ∈ a₀)) (tr:∀ x y z,le x y=true->le y z=true->le x z=true) (tt:∀ x y,(le x y || le y x)=true)
include hL tr tt
theorem rg {Q:Bool->SortSt->Prop} {i:Nat} {rs:List (List Keyed)} {rest:List Keyed} (v:IV le κ a₀ st rs rest) (hi:i + 1 < (pendingOf st).size)
  (h:∀ st' rs',IV le κ a₀ st' rs' rest->rs'.flatten.length=rs.flatten.length->(pendingOf st').size + 1=(pendingOf st).size->Q true st'):wpS (model prog w) A E s (mergeAt' i) Q st:=by
 obtain ⟨P,p1,p2,P',e,hP⟩:∃ P p1 p2 P',(pendingOf st).toList=P ++ p1 :: p2 :: P'/\P.length=i:=by
  have h1:i + 1 < (pendingOf st).toList.length:=by simpa using hi
  refine ⟨(pendingOf st).toList.take i,(pendingOf st).toList[i]'(by omega),(pendingOf st).toList[i + 1],(pendingOf st).toList.drop (i + 2),?_,by rw [List.length_take]; omega⟩
  rw [<-List.drop_eq_getElem_cons h1,<-List.drop_eq_getElem_cons (by omega),List.take_append_drop]
 have hr:=v.runs
 rw [e] at hr
 obtain ⟨R1,R2,e2,r1,r2⟩:=hr.split
 match R2,r2,e2 with
 | Ra :: Rb :: R3,r2,e2=>
  obtain ⟨p1s,p1n,p1p⟩:=p1
  obtain ⟨p2s,p2n,p2p⟩:=p2
  obtain ⟨q1,q2,q3,q4,q5,q6,q7,q8,q9⟩:=r2
  dsimp only at q1 q2 q5 q6
  simp only [Nat.zero_add] at q1 q5
  subst q1 q2 q5 q6
  have ea:(arrOf st).toList=R1.flatten ++ (Ra ++ (Rb ++ (R3.flatten ++ rest))):=by rw [v.arr,e2]; simp
  have g1:(pendingOf st)[i]? = some (R1.flatten.length,Ra.length,p1p):=by rw [aN,e,<-hP]; simp
  have g2:(pendingOf st)[i + 1]? = some (R1.flatten.length + Ra.length,Rb.length,p2p):=by rw [aN,e,<-hP]; simp
  refine yz hL tr tt v.kind v.failed (fun x hx=>v.perm.mem_iff.mp hx) g1 g2 ea q3 q7 q4 q8 fun st' k' f' p' a'=>?_
  have pl:(pendingOf st').toList=P ++ (R1.flatten.length,Ra.length + Rb.length,p1p) :: P':=by
   rw [p',Array.toList_eraseIdxIfInBounds,Array.toList_setIfInBounds,e,<-hP,List.set_append_right _ _ (Qae _),List.eraseIdx_append_of_length_le (by omega)]
   simp
  have lm:(List.merge Ra Rb le).length=Ra.length + Rb.length:=List.length_merge _ _ _
  refine h st' (R1 ++ List.merge Ra Rb le :: R3) ⟨k',f',?_,?_,?_⟩ ?_ ?_
  ·refine List.Perm.trans ?_ v.perm
   rw [a',ea]
   refine List.Perm.append_left _ ?_
   rw [<-List.append_assoc Ra]
   exact List.Perm.append_right _ (List.merge_perm_append le)
  ·rw [a']; simp
  ·rw [pl]
   refine r1.join ⟨by simp,by simp [lm],by omega,List.pairwise_merge tr tt _ _ q4 q8,?_⟩
   rw [lm,<-Nat.add_assoc,Nat.zero_add]
   simpa using q9
  ·rw [e2]; simp [lm]; omega
  ·have l1:=congrArg List.length pl
   have l2:=congrArg List.length e
   simp at l1 l2
   omega
 | [],r2,e2=>exact r2.elim
 | [_],r2,e2=>exact r2.2.2.2.2.elim
theorem pQ {Q:ForInStep (Option Unit × Nat)->SortSt->Prop} {lo n:Nat} {rs:List (List Keyed)} {rest:List Keyed} (v:IV le κ a₀ st rs rest) (hlo:rs.flatten.length=lo) (hn:1<=n) (hn2:n<=rest.length) (so:(rest.take n).Pairwise fun x y=>le x y=true)
  (h:∀ st' rs',IV le κ a₀ st' rs' (rest.drop n)->rs'.flatten.length=lo + n->Q (.yield (none,lo + n)) st') :
  wpS (model prog w) A E s (do
   modify fun s=>setPending s ((pendingOf s).push (lo,n,0))
   pure (ForInStep.yield (none,lo + n))) Q st:=by
 refine Qaf (wpS_modify (Qag (h _ (rs ++ [rest.take n]) ⟨v.kind,v.failed,v.perm,?_,?_⟩ ?_)))
 ·show (arrOf st).toList=_
  rw [v.arr]; simp
 ·show Rn le 0 ((pendingOf st).push (lo,n,0)).toList _
  rw [Array.toList_push]
  refine v.runs.join ⟨by simp [hlo],by simp; omega,by simp; omega,so,trivial⟩
 ·simp [hlo]; omega
theorem rh {Q:ForInStep (Option Unit × Nat)->SortSt->Prop} {sz lo n:Nat} {rs:List (List Keyed)} {rest:List Keyed} (v:IV le κ a₀ st rs rest) (hlo:rs.flatten.length=lo) (hn:1<=n) (hn2:n<=rest.length) (so:(rest.take n).Pairwise fun x y=>le x y=true)
  (h:∀ st' rs',IV le κ a₀ st' rs' (rest.drop n)->rs'.flatten.length=lo + n->Q (.yield (none,lo + n)) st') :
  ∀ m,m=(do
   let g <-get
   match (pendingOf g).back? with
   | some (s1,n1,_)=>do
    let c <-forIn [:sz] ((none,()):Option Unit × Unit) fun _ _=>do
     let g <-get
     match if (pendingOf g).size > 1 then (pendingOf g)[(pendingOf g).size - 2]? else none with
     | some (_,_,older)=>
      if older<=power' sz (2 * s1 + n1) (2 * s1 + n1 + n1 + n) sz then pure (ForInStep.done (none,()))
      else do
       let b <-mergeAt' ((pendingOf g).size - 2)
       if (!b)=true then pure (ForInStep.done (some (),())) else pure (ForInStep.yield (none,()))
     | _=>pure (ForInStep.done (none,()))
    match c.fst with
    | some r=>pure (ForInStep.done (some r,lo))
    | none=>do
     modify fun s=>setPending s ((pendingOf s).modify ((pendingOf s).size - 1) fun x=>(x.fst,x.2.fst,power' sz (2 * s1 + n1) (2 * s1 + n1 + n1 + n) sz))
     modify fun s=>setPending s ((pendingOf s).push (lo,n,0))
     pure (ForInStep.yield (none,lo + n))
   | _=>do
    modify fun s=>setPending s ((pendingOf s).push (lo,n,0))
    pure (ForInStep.yield (none,lo + n)))->wpS (model prog w) A E s m Q st:=by
 rintro m rfl
 refine Qaf (wpS_get ?_)
 cases e:(pendingOf st).back? with
 | none=>exact pQ hL tr tt v hlo hn hn2 so h
 | some p=>
  obtain ⟨s1,n1,p1⟩:=p
  dsimp only
  refine Qaf (wpS_mono (wpS_forRange (I:=fun _ c st'=>c=(none,())/\∃ rs,IV le κ a₀ st' rs rest/\rs.flatten.length=lo)
   (Q:=fun c st'=>c=(none,())/\∃ rs,IV le κ a₀ st' rs rest/\rs.flatten.length=lo) ?_ (fun c st' q=>q) ⟨rfl,rs,v,hlo⟩) ?_)
  ·rintro x c st' _ _ ⟨rfl,rs,v,hlo⟩
   refine Qaf (wpS_get ?_)
   by_cases h1:(pendingOf st').size > 1
   ·rw [if_pos h1]
    obtain ⟨⟨q1,q2,q3⟩,hq⟩:=at_ (c:=pendingOf st') (i:=(pendingOf st').size - 2) (by omega)
    rw [hq]
    dsimp only
    split
    ·exact Qag ⟨rfl,rs,v,hlo⟩
    ·exact Qaf (rg hL tr tt v (by omega) fun st'' rs' v' e1 e2=>Qag ⟨rfl,rs',v',by omega⟩)
   ·rw [if_neg h1]
    exact Qag ⟨rfl,rs,v,hlo⟩
  ·rintro c st' ⟨rfl,rs,v,hlo⟩
   dsimp only
   refine Qaf (wpS_modify (pQ hL tr tt ⟨v.kind,v.failed,v.perm,v.arr,?_⟩ hlo hn hn2 so h))
   show Rn le 0 ((pendingOf st').modify _ _).toList _
   rw [Array.toList_modify]
   exact v.runs.pw (f:=fun x=>(x.fst,x.2.fst,power' sz (2 * s1 + n1) (2 * s1 + n1 + n1 + n) sz)) fun p=>⟨rfl,rfl⟩
theorem vU {Q:Unit->SortSt->Prop} (hk:kindOf st=κ) (hf:failedOf st=none) (hp:pendingOf st = #[]) (ha:(arrOf st).toList=a₀)
  (h:∀ st',failedOf st' = none->(arrOf st').toList.Perm a₀->(arrOf st').toList.Pairwise (fun x y=>le x y=true)->Q () st'):wpS (model prog w) A E s sortRuns' Q st:=by
 rw [sortRuns'_eq]
 refine Qaf (wpS_get ?_)
 dsimp only
 generalize hmr:minRun' (arrOf st).size (arrOf st).size 0=mr
 generalize hsz:(arrOf st).size=sz
 have hl0:a₀.length=sz:=by rw [<-ha,<-hsz]; simp
 refine Qaf (wpS_mono (wpS_forRange (I:=fun x c st'=>∃ lo rs rest,c=(none,lo)/\IV le κ a₀ st' rs rest/\rs.flatten.length=lo/\x<=lo)
  (Q:=fun c st'=>∃ lo rs rest,c=(none,lo)/\IV le κ a₀ st' rs rest/\rs.flatten.length=lo/\sz<=lo) ?_ ?_ ⟨0,[],a₀,rfl,⟨hk,hf,by rw [ha],by rw [ha]; rfl,by rw [hp]; trivial⟩,rfl,Nat.zero_le _⟩) ?_)
 ·rintro x c st1 _ hx ⟨lo,rs,rest,rfl,v,hlo,hxl⟩
  dsimp only
  by_cases hge:lo ≥ sz
  ·rw [if_pos hge]
   exact Qag ⟨lo,rs,rest,rfl,v,hlo,hge⟩
  ·rw [if_neg hge]
   have size1:(arrOf st1).size=sz:=by rw [<-Array.length_toList,v.perm.length_eq,hl0]
   have B1:Bs κ (· ∈ a₀) lo st1 st1:=⟨Array.Perm.refl _,v.kind,v.failed,rfl,fun _ _=>rfl,fun x hx=>v.perm.mem_iff.mp hx⟩
   have back:∀ (st2:SortSt) (m:Nat),Bs κ (· ∈ a₀) lo st1 st2->Asc le (arrOf st2) lo m->m<=sz - lo->∃ rest2,IV le κ a₀ st2 rs rest2/\rest2.length=sz - lo/\(rest2.take m).Pairwise fun x y=>le x y=true:=fun st2 m B2 s2 hm=>by
    have size2:(arrOf st2).size=sz:=B2.size.trans size1
    have tk:(arrOf st2).toList.take lo=rs.flatten:=by
     have:(arrOf st2).toList.take lo=(arrOf st1).toList.take lo:=by
      apply List.ext_getElem?
      intro k
      rw [List.getElem?_take,List.getElem?_take]
      split
      ·rename_i q; have:=B2.keep k q; rwa [aN,aN] at this
      ·rfl
     rw [this,v.arr,<-hlo,List.take_left]
    refine ⟨(arrOf st2).toList.drop lo,⟨B2.kind,B2.failed,(Array.perm_iff_toList_perm.mp B2.perm).trans v.perm,?_,by rw [B2.pend]; exact v.runs⟩,by simp [size2],?_⟩
    ·conv=>lhs; rw [<-List.take_append_drop lo (arrOf st2).toList,tk]
    ·rw [List.pairwise_iff_getElem]
     intro i j hi hj hij
     simp at hi hj
     refine s2 i j _ _ (by omega) (by omega) ?_ ?_
     ·rw [aN,List.getElem_take,List.getElem_drop,List.getElem?_eq_getElem]
     ·rw [aN,List.getElem_take,List.getElem_drop,List.getElem?_eq_getElem]
   refine Qaf (vT hL tr tt (by omega) (by omega) B1 fun m st2 B2 hm1 hm2 s2=>?_)
   dsimp only
   have fin:∀ (st3:SortSt) (n:Nat),Bs κ (· ∈ a₀) lo st1 st3->Asc le (arrOf st3) lo n->1<=n->n<=sz - lo->∀ st4 rs',(∃ rest2:List Keyed,rest2.length=sz - lo/\IV le κ a₀ st4 rs' (rest2.drop n))->rs'.flatten.length=lo + n->∃ lo' rs rest,((none,lo + n):Option Unit × Nat)=(none,lo')/\IV le κ a₀ st4 rs rest/\rs.flatten.length=lo'/\x + 1<=lo':=fun st3 n B3 s3 n1 n2 st4 rs' ⟨r2,_,v4⟩ e4=>⟨lo + n,rs',_,rfl,v4,e4,by omega⟩
   by_cases hlt:m < mr
   ·rw [if_pos hlt]
    refine Qaf (wpS_lift (wpAny_rule ⟨rfl,?_⟩))
    refine Qaf (yx hL tr tt (by omega) (by omega) B2 s2 fun st3 B3 s3=>?_)
    simp only [Bool.not_true,Bool.false_eq_true,if_false]
    obtain ⟨rest2,v3,l3,p3⟩:=back st3 _ B3 s3 (by omega)
    refine rh (sz:=sz) hL tr tt v3 hlo (by omega) (by omega) p3 (fun st4 rs' v4 e4=>?_) _ ?_
    rotate_left
    ·refine Qah fun g=>?_
     cases (pendingOf g).back? with
     | none=>rfl
     | some p=>
      refine fb (fun _ _=>Qah fun g=>?_) fun c=>?_
      ·cases (if (pendingOf g).size > 1 then (pendingOf g)[(pendingOf g).size - 2]? else none) <;> rfl
      ·obtain ⟨_ | r,c⟩:=c <;> rfl
    exact fin st3 _ B3 s3 (by omega) (by omega) st4 rs' ⟨rest2,l3,v4⟩ e4
   ·rw [if_neg hlt]
    obtain ⟨rest2,v3,l3,p3⟩:=back st2 _ B2 s2 (by omega)
    refine rh (sz:=sz) hL tr tt v3 hlo (by omega) (by omega) p3 (fun st4 rs' v4 e4=>?_) _ ?_
    rotate_left
    ·refine Qah fun g=>?_
     cases (pendingOf g).back? with
     | none=>rfl
     | some p=>
      refine fb (fun _ _=>Qah fun g=>?_) fun c=>?_
      ·cases (if (pendingOf g).size > 1 then (pendingOf g)[(pendingOf g).size - 2]? else none) <;> rfl
      ·obtain ⟨_ | r,c⟩:=c <;> rfl
    exact fin st2 _ B2 s2 (by omega) (by omega) st4 rs' ⟨rest2,l3,v4⟩ e4
 ·rintro c st' ⟨lo,rs,rest,rfl,v,hlo,hxl⟩
  exact ⟨lo,rs,rest,rfl,v,hlo,by omega⟩
 ·rintro c st1 ⟨lo,rs,rest,rfl,v,hlo,hge⟩
  dsimp only
  have hrest:rest=[]:=by
   have l1:=congrArg List.length v.arr
   rw [v.perm.length_eq,List.length_append] at l1
   exact List.eq_nil_of_length_eq_zero (by omega)
  subst hrest
  have pl:(pendingOf st1).size<=sz:=by
   have l1:=congrArg List.length v.arr
   rw [v.perm.length_eq,List.length_append] at l1
   have:=v.runs.few
   have l2:=v.runs.len
   rw [Array.length_toList] at l2
   simp only [List.length_nil] at l1
   omega
  refine Qaf (wpS_mono (wpS_forRange (I:=fun x c st'=>c=(none,())/\(∃ rs,IV le κ a₀ st' rs [])/\(pendingOf st').size<=max 1 (sz - x))
   (Q:=fun c st'=>c=(none,())/\(∃ rs,IV le κ a₀ st' rs [])/\(pendingOf st').size<=1) ?_ ?_ ⟨rfl,⟨rs,v⟩,by omega⟩) ?_)
  ·rintro x c st' _ hx ⟨rfl,⟨rs,v⟩,hm⟩
   refine Qaf (wpS_get ?_)
   by_cases h1:(pendingOf st').size<=1
   ·rw [if_pos h1]
    exact Qag ⟨rfl,⟨rs,v⟩,h1⟩
   ·rw [if_neg h1]
    refine Qaf (rg hL tr tt v ?_ fun st'' rs' v' e1 e2=>Qag ⟨rfl,⟨rs',v'⟩,by omega⟩)
    have pk:∀ (b:Bool) (i n:Nat),i + 1 < n->(if b=true then i - 1 else i) + 1 < n:=fun b i n h=>by cases b <;> simp <;> omega
    exact pk _ _ _ (by omega)
  ·rintro c st' ⟨rfl,v,hm⟩
   exact ⟨rfl,v,by omega⟩
  ·rintro c st' ⟨rfl,⟨rs,v⟩,hm⟩
   refine Qag (h st' v.failed v.perm ?_)
   rw [v.arr,List.append_nil]
   have l2:=v.runs.len
   rw [Array.length_toList] at l2
   match rs,v.runs,l2 with
   | [],_,_=>exact .nil
   | [r],q,l2=>
    have e:∃ p,(pendingOf st').toList=[p]:=List.length_eq_one_iff.mp (by rw [Array.length_toList]; simpa using l2)
    obtain ⟨p,e⟩:=e
    rw [e] at q
    simpa using q.2.2.2.1
   | _ :: _ :: _,_,l2=>simp at l2; omega
end
theorem rm:∀ xs:List Int,HT.lexLt xs xs=false
 | []=>rfl
 | x :: xs=>by rw [HT.lexLt_cons,if_pos rfl]; exact rm xs
theorem pR:∀ {xs ys zs:List Int},HT.lexLt xs ys=true->HT.lexLt ys zs=true->HT.lexLt xs zs=true
 | [],[],_,h,_=>by cases h
 | [],y :: ys,[],_,h=>by cases h
 | [],_ :: _,_ :: _,_,_=>rfl
 | x :: xs,[],_,h,_=>by cases h
 | x :: xs,y :: ys,[],_,h=>by cases h
 | x :: xs,y :: ys,z :: zs,h1,h2=>by
  rw [HT.lexLt_cons] at h1 h2 ⊢
  by_cases e1:x=y
  ·subst e1
   rw [if_pos rfl] at h1
   by_cases e2:x=z
   ·subst e2; rw [if_pos rfl] at h2 ⊢; exact pR h1 h2
   ·rw [if_neg e2] at h2 ⊢; exact h2
  ·rw [if_neg e1] at h1
   by_cases e2:y=z
   ·subst e2; rw [if_neg e1]; exact h1
   ·rw [if_neg e2] at h2
    have h1':=of_decide_eq_true h1
    have h2':=of_decide_eq_true h2
    rw [if_neg (by omega)]
    exact decide_eq_true (by omega)
theorem mZ:∀ {xs ys:List Int},HT.lexLt xs ys=false->HT.lexLt ys xs=false->xs=ys
 | [],[],_,_=>rfl
 | [],_ :: _,h,_=>by cases h
 | _ :: _,[],_,h=>by cases h
 | x :: xs,y :: ys,h1,h2=>by
  rw [HT.lexLt_cons] at h1 h2
  by_cases e:x=y
  ·subst e; rw [if_pos rfl] at h1 h2; rw [mZ h1 h2]
  ·rw [if_neg e] at h1
   rw [if_neg (Ne.symm e)] at h2
   have h1':=of_decide_eq_false h1
   have h2':=of_decide_eq_false h2
   omega
noncomputable def lexLe (xs ys:List Int):Bool:=!HT.lexLt ys xs
theorem lexLe_tr (xs ys zs:List Int) (h1:lexLe xs ys=true) (h2:lexLe ys zs=true):lexLe xs zs=true:=by
 unfold lexLe at *
 simp only [Bool.not_eq_true'] at *
 cases e:HT.lexLt zs xs with
 | false=>rfl
 | true=>
  cases e2:HT.lexLt xs ys with
  | true=>rw [pR e e2] at h2; cases h2
  | false=>rw [mZ e2 h1] at e; rw [e] at h2; cases h2
theorem lexLe_tt (xs ys:List Int):(lexLe xs ys || lexLe ys xs)=true:=by
 unfold lexLe
 cases e:HT.lexLt ys xs with
 | false=>rfl
 | true=>
  cases e2:HT.lexLt xs ys with
  | false=>rfl
  | true=>have:=pR e e2; rw [rm] at this; cases this
theorem lexLe_as {xs ys:List Int} (h1:lexLe xs ys=true) (h2:lexLe ys xs=true):xs=ys:=by
 unfold lexLe at *
 simp only [Bool.not_eq_true'] at *
 exact mZ h2 h1
noncomputable def sortR (rows:List (List Int)):List (List Int):=rows.mergeSort lexLe
theorem vV {rows out:List (List Int)} (h1:out.Perm rows) (h2:out.Pairwise fun x y=>lexLe x y=true):out=sortR rows:=
 List.Perm.eq_of_pairwise (fun a b _ _ p q=>lexLe_as p q) h2 (List.pairwise_mergeSort lexLe_tr lexLe_tt rows) (h1.trans (List.mergeSort_perm rows lexLe).symm)
theorem sortR_perm (rows:List (List Int)):(sortR rows).Perm rows:=List.mergeSort_perm rows lexLe
section
variable {prog:Program} {w:World} {A:Around} {E:Value->Shared->Prop} {s:Shared} {rk:Value->List Int} {κ:SortKind}
noncomputable abbrev leV (rk:Value->List Int):Keyed->Keyed->Bool:=fun x y=>lexLe (rk x.1) (rk y.1)
structure KOk (prog:Program) (w:World) (h0:Heap) (vs:List Value) (rk:Value->List Int) (κ:SortKind):Prop where
 kind:∀ (A:Around) (E:Value->Shared->Prop) (s:Shared) (Q:SortKind->Shared->Prop),(∀ b o,h0.get? b=some o->s.heap.get? b=some o)->2<=vs.length->Q κ s->wpAny (model prog w) A (keyKind' vs.toArray) Q E s
 lt:∀ (A:Around) (E:Value->Shared->Prop) (s:Shared) (Q:Bool->Shared->Prop) (x y:Value),(∀ b o,h0.get? b=some o->s.heap.get? b=some o)->x ∈ vs->y ∈ vs->Q (HT.lexLt (rk x) (rk y)) s->wpAny (model prog w) A (keyLt' κ x y) Q E s
theorem KOk.ltok {h0:Heap} {vs:List Value} (k:KOk prog w h0 vs rk κ) (hs:∀ b o,h0.get? b=some o->s.heap.get? b=some o):dc prog w A E s (leV rk) κ (· ∈ (pairsOf vs).toList):=fun x y hx hy Q st hk q=>by
 rw [pairsOf_toList] at hx hy
 rw [lt'_eq]
 refine Qaf (wpS_get ?_)
 rw [hk]
 refine Qaf (wpS_lift (wpAny_attempt (k.lt A _ s _ x.1 y.1 hs (mem_zip_self hx).2 (mem_zip_self hy).2 ⟨rfl,?_⟩)))
 refine Qag ?_
 have e:(!leV rk y x)=HT.lexLt (rk x.1) (rk y.1):=by unfold leV lexLe; simp
 rw [e] at q; exact q
theorem vW {a:Addr} {vs:List Value} {n:Nat} {h0:Heap} {P:PySem.Fin->Shared->Prop} (at0:s.heap.get? a=some (seqObj "list" vs.toArray n)) (hz:vs.length<=sizeLine) (k:KOk prog w h0 vs rk κ) (hb:∀ b o,h0.get? b=some o->b ≠ a/\s.heap.get? b=some o)
  (h:∀ out:List Value,out.Perm vs->out.Pairwise (fun x y=>lexLe (rk x) (rk y)=true)->P (.done (.ret .none)) { s with heap:=sortedHeap s.heap a vs out.toArray }) :
  wpAny (model prog w) A (Builtin.«list.sort» ⟨[.ref a],[]⟩) P E s:=by
 rw [list_sort_plain]
 have la:a < s.heap.objs.size:=Qad at0
 refine Qaa (listItems_at at0 rfl (Qaa (listUpdate_at at0 rfl ?_ (by simpa using hz) (Nat.zero_le _))))
 obtain ⟨e1,at1⟩:∃ e1,(s.heap.update a (Obj.mapSeq fun _=>#[])).get? a=some (seqObj "list" #[] e1):=⟨_,get?_update_seq at0 fun _=>#[]⟩
 refine Qaa (seqEpoch_at at1 rfl (Qaa (wpAny_newTuple ?_ (by simpa using hz))))
 refine Qaa (wpAny_newList ?_ (Nat.zero_le _))
 refine wpAny_holding ?_
 have up:∀ {b:Addr} {o:Obj},(s.heap.update a (Obj.mapSeq fun _=>#[])).get? b=some o->(((s.heap.update a (Obj.mapSeq fun _=>#[])).push (seqObj "tuple" vs.toArray 0)).push (seqObj "list" #[] 0)).get? b=some o:=fun e=>Qac _ (Qac _ e)
 have at6:=up at1
 have kp:∀ b o,h0.get? b=some o->(((s.heap.update a (Obj.mapSeq fun _=>#[])).push (seqObj "tuple" vs.toArray 0)).push (seqObj "list" #[] 0)).get? b=some o:=fun b o e=>
  up (by rw [Heap.get?_update_ne _ _ _ _ (hb b o e).1]; exact (hb b o e).2)
 show wpAny (model prog w) A _ P E { s with heap:=((s.heap.update a (Obj.mapSeq fun _=>#[])).push (seqObj "tuple" vs.toArray 0)).push (seqObj "list" #[] 0) }
 dsimp only
 have sz:vs.toArray.size=vs.length:=by simp
 have fin:∀ st':SortSt,(arrOf st').toList.Perm (pairsOf vs).toList->(arrOf st').toList.Pairwise (fun x y=>leV rk x y=true)->P (.done (.ret .none)) { s with heap:=sortedHeap s.heap a vs ((arrOf st').map (·.2)) }:=fun st' p1 p2=>by
  have hm:∀ p ∈ (arrOf st').toList,p.1=p.2:=fun p hp=>by have:=p1.mem_iff.mp hp; rw [pairsOf_toList] at this; exact (mem_zip_self this).1
  have e:(arrOf st').map (·.2)=((arrOf st').toList.map (·.2)).toArray:=by apply Array.toList_inj.mp; simp
  rw [e]
  refine h _ ?_ ?_
  ·have:=p1.map (·.2)
   rwa [pairsOf_toList,List.map_snd_zip (Qae _)] at this
  ·rw [List.pairwise_map]
   refine List.Pairwise.imp_of_mem (fun {x y} hx hy q=>?_) p2
   rw [<-hm x hx,<-hm y hy]; exact q
 by_cases h2:vs.toArray.size < 2
 ·rw [if_pos h2,if_pos h2]
  refine Qaa (Qab ?_)
  rw [StateT.run_pure]
  refine Qaa (Qab ?_)
  dsimp only
  refine Qaa (seqEpoch_at at6 rfl (Qaa (listUpdate_at at6 rfl ?_ (Nat.zero_le _) (by
   have:((pairsOf vs).map (·.2)).size<=sizeLine + 1:=by rw [Array.size_map,pairsOf_size]; omega
   exact this))))
  simp only [bne_self_eq_false,Bool.false_eq_true,if_false]
  refine Qab (fin (SortSt.mk' general' (vs.toArray.zip vs.toArray) #[] 7 none) (List.Perm.refl _) ?_)
  show (pairsOf vs).toList.Pairwise _
  rw [pairsOf_toList]
  match vs,sz,h2 with
  | [],_,_=>exact .nil
  | [_],_,_=>exact List.pairwise_singleton _ _
  | _ :: _ :: _,_,h2=>simp at h2; omega
 ·rw [if_neg h2,if_neg h2]
  refine Qaa (k.kind _ _ _ _ kp (by omega) ?_)
  refine Qaa (wpAny_mono (vU (a₀:=(pairsOf vs).toList) (le:=leV rk) (κ:=κ) (st:=SortSt.mk' κ (vs.toArray.zip vs.toArray) #[] 7 none)
   (Q:=fun _ st'=>failedOf st' = none/\(arrOf st').toList.Perm (pairsOf vs).toList/\(arrOf st').toList.Pairwise (fun x y=>leV rk x y=true))
   (k.ltok kp) (fun x y z p q=>lexLe_tr _ _ _ p q) (fun x y=>lexLe_tt _ _) rfl rfl rfl rfl fun st' a1 a2 a3=>⟨a1,a2,a3⟩) ?_ fun _ _ e=>e)
  rintro ⟨⟨⟩,st'⟩ s' ⟨rfl,hf,p1,p2⟩
  dsimp only
  refine Qaa (seqEpoch_at at6 rfl (Qaa (listUpdate_at at6 rfl ?_ (Nat.zero_le _) (by
   have l1:=p1.length_eq
   simp only [Array.length_toList,pairsOf_size] at l1
   have:((arrOf st').map (·.2)).size<=sizeLine + 1:=by rw [Array.size_map]; omega
   exact this))))
  rw [hf]
  simp only [bne_self_eq_false,Bool.false_eq_true,if_false]
  exact Qab (fin st' p1 p2)
theorem sH {l:Addr} {vs:List Value} {Q:Value->Shared->Prop} (hl:s.heap.IsList l vs.toArray) (hz:vs.length<=sizeLine) (k:KOk prog w s.heap vs rk κ)
  (h:∀ (out:List Value) (h':Heap) (n:Nat),out.Perm vs->out.Pairwise (fun x y=>lexLe (rk x) (rk y)=true)->(∀ b o,s.heap.get? b=some o->h'.get? b=some o)->h'.get? (s.heap.objs.size + 1)=some (seqObj "list" out.toArray n)->Q (.ref (s.heap.objs.size + 1)) { s with heap:=h' }) :
  wpAny (model prog w) A (call (.builtin "sorted") [.ref l]) Q E s:=by
 refine Calls.call_function_entry kind_sorted plain_sorted entry_sorted (args_sorted1 _) ?_
 unfold Builtin.«sorted»
 refine Qaa (m:=checkCount "sorted" 1 1 _) (Qab ?_)
 refine Qaa (collect_list hl (Qaa (wpAny_newList ?_ hz)) hz)
 generalize hg:(s.heap.push (seqObj "list" #[] 0)).update s.heap.objs.size (Obj.mapSeq (· ++ vs.toArray))=g
 have gz:g.objs.size=s.heap.objs.size + 1:=by rw [<-hg,Heap.size_update,size_push']
 have gk:∀ b o,s.heap.get? b=some o->g.get? b=some o:=fun b o e=>by
  have hlt:b < s.heap.objs.size:=Qad e
  rw [<-hg,Heap.get?_update_ne _ _ _ _ (Nat.ne_of_lt hlt),Heap.get?_push_ne _ _ _ (Nat.ne_of_lt hlt)]; exact e
 have atL:(g.push (seqObj "list" vs.toArray 0)).get? (s.heap.objs.size + 1)=some (seqObj "list" vs.toArray 0):=by rw [<-gz]; exact Heap.get?_push_size _ rfl
 show wpAny _ _ _ _ _ { s with heap:=g.push (seqObj "list" vs.toArray 0) }
 rw [gz]
 have hb:∀ b o,s.heap.get? b=some o->b ≠ s.heap.objs.size + 1/\(g.push (seqObj "list" vs.toArray 0)).get? b=some o:=fun b o e=>
  ⟨Nat.ne_of_lt (Nat.lt_succ_of_lt (Qad e)),Qac _ (gk b o e)⟩
 refine Qaa (wpAny_holding (wpAny_call_entry slot_list_sort ⟨_,atL,rfl⟩ entry_list_sort (vW atL hz k hb fun out p1 p2=>⟨_,rfl,?_⟩) (args_list_sort _)))
 refine Qab ⟨_,rfl,?_⟩
 obtain ⟨e1,at1⟩:∃ e1,((g.push (seqObj "list" vs.toArray 0)).update (s.heap.objs.size + 1) (Obj.mapSeq fun _=>#[])).get? (s.heap.objs.size + 1)=some (seqObj "list" #[] e1):=⟨_,get?_update_seq atL fun _=>#[]⟩
 have at2:(((((g.push (seqObj "list" vs.toArray 0)).update (s.heap.objs.size + 1) (Obj.mapSeq fun _=>#[])).push (seqObj "tuple" vs.toArray 0)).push (seqObj "list" #[] 0))).get? (s.heap.objs.size + 1)=some (seqObj "list" #[] e1):=Qac _ (Qac _ at1)
 refine h out _ _ p1 p2 (fun b o e=>?_) (get?_update_seq at2 fun _=>out.toArray)
 have q:=hb b o e
 unfold sortedHeap
 rw [Heap.get?_update_ne _ _ _ _ q.1]
 refine Qac _ (Qac _ ?_)
 rw [Heap.get?_update_ne _ _ _ _ q.1]
 exact q.2
noncomputable def rkH (h:Heap):Value->List Int
 | .int n _=>[n]
 | .ref a=>(match h.get? a with
  | some o=>(match o.data with
   | .seq xs _=>xs.toList.map numOf
   | _=>[])
  | none=>[])
 | _=>[]
theorem vX {h0:Heap} {vs:List Value} (hv:∀ v ∈ vs,∃ n t,v=.int n t):KOk prog w h0 vs (rkH h0) oneType' where
 kind:=fun A E s Q _ h2 q=>by
  have hI:=intsAre_map vs hv
  match vs,hI,h2 with
  | v1 :: v2 :: r,hI,_=>rw [keyKind_ints hI]; exact Qab q
  | [_],_,h2=>simp at h2
  | [],_,h2=>simp at h2
 lt:=fun A E s Q x y _ hx hy q=>by
  obtain ⟨a,t,rfl⟩:=hv x hx
  obtain ⟨b,u,rfl⟩:=hv y hy
  rw [keyLt'_oneType]
  refine oneLt_int ?_
  have e:HT.lexLt (rkH h0 (.int a t)) (rkH h0 (.int b u))=decide (a < b):=by
   show HT.lexLt [a] [b]=_
   rw [HT.lexLt_cons]
   split
   ·rename_i z; subst z; rw [HT.lexLt_nil_nil]; symm; exact decide_eq_false (by omega)
   ·rfl
  rw [e] at q; exact q
noncomputable def TupI (h:Heap) (v:Value):Prop:=∃ (a:Addr) (its:Array Value) (ns:List Int),v=.ref a/\IsTup h a its/\IntsAre its.toList ns/\ns ≠ []
theorem TupI.rnk {h:Heap} {v:Value} (t:TupI h v):∃ (a:Addr) (its:Array Value) (ns:List Int),v=.ref a/\IsTup h a its/\IntsAre its.toList ns/\ns ≠ []/\rkH h v=ns:=by
 obtain ⟨a,its,ns,rfl,t1,t2,t3⟩:=t
 refine ⟨a,its,ns,rfl,t1,t2,t3,?_⟩
 obtain ⟨o,e1,e2,n,e3⟩:=t1
 unfold rkH
 simp only [e1,e3]
 exact t2.nums
theorem uF {b:Bool} {Q:Bool->Shared->Prop}:∀ {xs ys:List Value} {ns ms:List Int} (i:Nat),IntsAre xs ns->IntsAre ys ms->Q (HT.lexLt ns ms) s->W.KatLex prog w A b (decide (xs.length < ys.length)) Q (xs.zip ys) i s
 | _,_,_,_,i,.nil,.nil,q=>W.kat_nil q
 | _,_,_,_,i,.nil,.cons m t h,q=>W.kat_nil (by exact q)
 | _,_,_,_,i,.cons n t h,.nil,q=>W.kat_nil (by exact q)
 | _,_,_,_,i,.cons (vs:=vs) n t h,.cons (vs:=ws) m u h',q=>by
  rw [List.zip_cons_cons]
  refine W.kat_cons (wpAny_eqBool_int ?_)
  rw [HT.lexLt_cons] at q
  have el:decide ((Value.int n t :: vs).length < (Value.int m u :: ws).length)=decide (vs.length < ws.length):=by simp
  rw [el]
  refine W.kat_go (fun e=>W.kat_yes ?_) fun e=>W.kat_no ?_
  ·rw [if_pos (by simpa using e)] at q
   exact uF (i + 1) h h' q
  ·rw [if_neg (by simpa using e)] at q
   cases b && i == 0 with
   | true=>exact oneLt_int q
   | false=>exact W.kat_one _ _ (lt_int q)
theorem pS {h:Heap}:∀ {vs:List Value},(∀ v ∈ vs,TupI h v)->∃ fs,W.KatTups h vs fs/\fs.length=vs.length/\∀ f ∈ fs,∃ n t,f=Value.int n t
 | [],_=>⟨[],.nil,rfl,fun _ h=>by cases h⟩
 | v :: vs,hv=>by
  obtain ⟨fs,h1,h2,h3⟩:=pS (vs:=vs) fun u hu=>hv u (Qak _ hu)
  obtain ⟨a,its,ns,rfl,⟨o,e1,e2,n,e3⟩,t2,t3⟩:=hv v List.mem_cons_self
  obtain ⟨m,t,r,er⟩:∃ m t r,its.toList=Value.int m t :: r:=by
   generalize its.toList=l at t2
   cases t2 with
   | nil=>exact absurd rfl t3
   | cons n t h=>exact ⟨n,t,_,rfl⟩
  refine ⟨.int m t :: fs,.cons e1 e2 e3 (f:=.int m t) (by rw [aN,er]; rfl) h1,by simp [h2],fun f hf=>?_⟩
  rcases List.mem_cons.mp hf with rfl | hf
  ·exact ⟨m,t,rfl⟩
  ·exact h3 f hf
theorem TupI.mono {h h':Heap} (k:∀ b o,h.get? b=some o->h'.get? b=some o) {v:Value} (t:TupI h v):TupI h' v:=
 let ⟨a,its,ns,e,⟨o,e1,e2⟩,t2,t3⟩:=t; ⟨a,its,ns,e,⟨o,k _ _ e1,e2⟩,t2,t3⟩
theorem vY {h0:Heap} {vs:List Value} (hv:∀ v ∈ vs,TupI h0 v):KOk prog w h0 vs (rkH h0) (tuples' true) where
 kind:=fun A E s Q kp h2 q=>by
  obtain ⟨fs,h1,h3,h4⟩:=pS (h:=s.heap) (vs:=vs) fun v hv'=>(hv v hv').mono kp
  refine W.kat_kind (T:=.type "int") h1 (by omega) (fun f hf=>?_) (by decide) q
  obtain ⟨n,t,rfl⟩:=h4 f hf
  exact .now
 lt:=fun A E s Q x y kp hx hy q=>by
  obtain ⟨a,its,ns,rfl,⟨o,e1,e2,k,e3⟩,t2,t3,r1⟩:=(hv x hx).rnk
  obtain ⟨b,jts,ms,rfl,⟨o',e1',e2',k',e3'⟩,t2',t3',r2⟩:=(hv y hy).rnk
  rw [r1,r2] at q
  refine W.kat_lt (kp _ _ e1) e3 (kp _ _ e1') e3' ?_
  have:=uF (prog:=prog) (w:=w) (A:=A) (s:=s) (b:=true) (Q:=Q) 0 t2 t2' q
  simpa using this
end
theorem uG {α β:Type} {f:α->β} {l m:List β} (h:l.Perm m):∀ {ts:List α},m=ts.map f->∃ ts':List α,ts'.Perm ts/\ts'.map f=l:=by
 induction h with
 | nil=>
  intro ts e
  cases ts with
  | nil=>exact ⟨[],.nil,rfl⟩
  | cons _ _=>cases e
 | cons x _ ih=>
  intro ts e
  cases ts with
  | nil=>cases e
  | cons t ts=>
   simp only [List.map_cons,List.cons.injEq] at e
   obtain ⟨ts',h1,h2⟩:=ih e.2
   exact ⟨t :: ts',h1.cons t,by rw [List.map_cons,h2,e.1]⟩
 | swap x y l=>
  intro ts e
  match ts,e with
  | [],e=>cases e
  | [_],e=>cases e
  | t :: u :: ts,e=>
   simp only [List.map_cons,List.cons.injEq] at e
   exact ⟨u :: t :: ts,.swap t u ts,by simp [e.1,e.2.1,e.2.2]⟩
 | trans _ _ ih1 ih2=>
  intro ts e
  obtain ⟨t1,h1,h2⟩:=ih2 e
  obtain ⟨t2,h3,h4⟩:=ih1 h2.symm
  exact ⟨t2,h3.trans h1,h4⟩
theorem Paired.zipAll {α β:Type} {R:α->β->Prop}:∀ {xs:List α} {ys:List β},Paired R xs ys->∀ p ∈ xs.zip ys,R p.1 p.2
 | _,_,.nil,p,h=>by cases h
 | _,_,.cons r t,p,h=>by
  rw [List.zip_cons_cons] at h
  rcases List.mem_cons.mp h with rfl | h
  ·exact r
  ·exact Paired.zipAll t p h
theorem Paired.ofZip {α β:Type} {R:α->β->Prop}:∀ {zs:List (α × β)},(∀ p ∈ zs,R p.1 p.2)->Paired R (zs.map (·.1)) (zs.map (·.2))
 | [],_=>.nil
 | z :: zs,h=>.cons (h z List.mem_cons_self) (Paired.ofZip fun p hp=>h p (Qak _ hp))
section
variable {X:Cx}
noncomputable def RowV (K:PySem.W.Frag) (H:Hp):Bool->V->List Int->Prop
 | false,v,r=>∃ i,v=.int i/\r=[i]
 | true,v,r=>∃ a,v=.ref a/\SqT K H a (r.map V.int)/\r ≠ []
noncomputable def rSorted (K:PySem.W.Frag):List V->Hp->VK->Prop:=fun xs H Q=>∃ p ys rows b,xs=[.ref p]/\SqL K H p ys/\Paired (RowV K H b) ys rows/\
 ∀ (l:Addr) (zs:List (V × List Int)),H l=none->zs.Perm (ys.zip rows)->zs.map (·.2)=sortR rows->Q (.ref l) (upd H l (.lst (zs.map (·.1))))
theorem call_sorted:iQ X (.builtin "sorted") (rSorted X.K):=by
 intro pins s σ H xs us Q I r h
 obtain ⟨p,ys,rows,b,rfl,hq,hr,q⟩:=h
 obtain ⟨u,rfl,rx⟩:=iR r
 cases rx
 obtain ⟨its,r',pl,hz⟩:=I.list hq
 have hlen:=r'.length
 have key:∀ (y:V) (v:Value) (row:List Int),RelV y v->RowV X.K H b y row->rkH s.heap v=row/\(b=true->TupI s.heap v)/\(b=false->∃ n t,v=.int n t):=fun y v row rel rv=>by
  cases b with
  | false=>
   obtain ⟨i,rfl,rfl⟩:=rv
   obtain ⟨t,rfl⟩:=rel
   exact ⟨rfl,(fun z=>by cases z),fun _=>⟨i,t,rfl⟩⟩
  | true=>
   obtain ⟨a,rfl,sq,ne⟩:=rv
   cases rel
   obtain ⟨jts,rj,tj,_⟩:=I.tuple sq
   have ia:IntsAre jts row:=L3.ints_are rj
   have T:TupI s.heap (.ref a):=⟨a,jts.toArray,row,rfl,tj,by simpa using ia,ne⟩
   obtain ⟨a',its',ns',e1,⟨o,q1,q2,n,q3⟩,e3,e4,e5⟩:=T.rnk
   refine ⟨?_,fun _=>T,fun z=>by cases z⟩
   obtain ⟨o',p1,p2,n',p3⟩:=tj
   unfold rkH
   simp only [p1,p3]
   exact ia.nums
 have all:∀ {ys:List V} {vs:List Value} {rows:List (List Int)},Vals ys vs->Paired (RowV X.K H b) ys rows->vs.map (rkH s.heap)=rows/\∀ v ∈ vs,(b=true->TupI s.heap v)/\(b=false->∃ n t,v=.int n t):=by
  intro ys vs rows h1
  induction h1 generalizing rows with
  | nil=>intro h2; cases h2; exact ⟨rfl,fun _ h=>by cases h⟩
  | cons a _ ih=>
   intro h2
   cases h2 with
   | cons c d=>
    obtain ⟨e1,e2⟩:=ih d
    have k:=key _ _ _ a c
    refine ⟨by rw [List.map_cons,e1,k.1],fun v hv=>?_⟩
    rcases List.mem_cons.mp hv with rfl | hv
    ·exact k.2
    ·exact e2 v hv
 obtain ⟨erk,hall⟩:=all r' hr
 have kok:∃ κ,KOk X.prog X.w s.heap its (rkH s.heap) κ:=by
  cases b with
  | false=>exact ⟨_,vX fun v hv=>(hall v hv).2 rfl⟩
  | true=>exact ⟨_,vY fun v hv=>(hall v hv).1 rfl⟩
 obtain ⟨κ,kok⟩:=kok
 refine sH (rk:=rkH s.heap) pl.isList (by omega) kok fun out h' n p1 p2 kp e=>?_
 obtain ⟨ts,t1,t2⟩:=uG (f:=fun t:V × Value=>t.2) p1 (ts:=ys.zip its) (by rw [List.map_snd_zip (by omega)])
 have rel:∀ t ∈ ts,RelV t.1 t.2:=fun t ht=>Paired.zipAll r' t (t1.mem_iff.mp ht)
 have vals:Vals (ts.map (·.1)) out:=by
  have:=Paired.ofZip (R:=RelV) rel
  rwa [t2] at this
 have lz:(ts.map (·.1)).length<=sizeLine:=by rw [vals.length,p1.length_eq]; omega
 have zs1:(ts.map fun t=>(t.1,rkH s.heap t.2)).Perm (ys.zip rows):=by
  have:=t1.map fun t:V × Value=>(t.1,rkH s.heap t.2)
  refine this.trans (.of_eq ?_)
  rw [<-erk,List.zip_map_right]
  rfl
 have zs2:(ts.map fun t=>(t.1,rkH s.heap t.2)).map (·.2)=sortR rows:=by
  have e1:(ts.map fun t=>(t.1,rkH s.heap t.2)).map (·.2)=out.map (rkH s.heap):=by rw [<-t2]; simp
  rw [e1]
  refine vV ?_ ?_
  ·rw [<-erk]; exact p1.map _
  ·rw [List.pairwise_map]; exact p2
 have fin:=q (s.heap.objs.size + 1) _ (I.hok.fresh (Nat.le_succ _)) zs1 zs2
 have e3:(ts.map fun t=>(t.1,rkH s.heap t.2)).map (·.1)=ts.map (·.1):=by simp
 rw [e3] at fin
 exact ⟨.ref (s.heap.objs.size + 1),_,I.laid (t':=s.toks) kp (Nat.le_succ _) (show ObjOk X.prog X.w _ h' _ (.lst (ts.map (·.1))) from ⟨lz,out,n,vals,e⟩),rfl,fin⟩
end
end L2.TS
namespace L2.L3
open PySem PySem.Spec PyProof.Rows
noncomputable def sI (ns:List Int):List Int:=ns.mergeSort fun a b=>decide (a<=b)
noncomputable def sortD (ds:List PyData):Option (List PyData):=match eI ds with
 | some ns=>some ((sI ns).map PyData.int)
 | none=>(match ft ds with
  | some rows=>if rows.all (fun r=>!r.isEmpty)=true then some ((TS.sortR rows).map fun r=>.tuple (r.map PyData.int)) else none
  | none=>none)
noncomputable def jy:List PyData->Option PyData:=fun xs=>match xs with
 | [.list ds]=>(sortD ds).map PyData.list
 | _=>none
noncomputable def rp:DN:=fun xs Q=>∃ d,jy xs=some d/\Q d
theorem vZ (ns:List Int):(TS.sortR (ns.map fun n=>[n])).map (fun r=>r.headD 0)=sI ns:=by
 have p:=(TS.sortR_perm (ns.map fun n=>[n])).map (fun r=>r.headD 0)
 have e:(ns.map fun n=>[n]).map (fun r=>r.headD 0)=ns:=by rw [List.map_map]; exact (List.map_congr_left fun n _=>rfl).trans (List.map_id ns)
 rw [e] at p
 refine List.Perm.eq_of_pairwise (le:=fun a b=>decide (a<=b)=true) (fun a b _ _ h1 h2=>by simp at h1 h2; omega) ?_ (List.pairwise_mergeSort (fun a b c h1 h2=>by simp at *; omega) (fun a b=>by simp; omega) ns) (p.trans (List.mergeSort_perm _ _).symm)
 rw [List.pairwise_map]
 have q:(TS.sortR (ns.map fun n=>[n])).Pairwise (fun x y=>TS.lexLe x y=true):=List.pairwise_mergeSort TS.lexLe_tr TS.lexLe_tt _
 refine List.Pairwise.imp_of_mem (fun {x y} hx hy h=>?_) q
 obtain ⟨a,_,rfl⟩:=List.mem_map.mp ((TS.sortR_perm _).mem_iff.mp hx)
 obtain ⟨b,_,rfl⟩:=List.mem_map.mp ((TS.sortR_perm _).mem_iff.mp hy)
 refine decide_eq_true (show a<=b from ?_)
 unfold TS.lexLe at h
 rw [HT.lexLt_cons] at h
 by_cases e:b=a
 ·exact Int.le_of_eq e.symm
 ·rw [if_neg e] at h
  by_cases e2:b < a
  ·simp [e2] at h
  ·omega
theorem lU {G:Hp} {mk:List Int->PyData}:∀ {ys:List V} {rows:List (List Int)},DVs G ys (rows.map mk)->Paired (fun y r=>DV G y (mk r)) ys rows
 | _,[],.nil=>.nil
 | _,_ :: _,.cons a b=>.cons a (lU b)
theorem lV {G:Hp} {mk:List Int->PyData}:∀ {ys:List V} {rows:List (List Int)},Paired (fun y r=>DV G y (mk r)) ys rows->DVs G ys (rows.map mk)
 | _,_,.nil=>.nil
 | _,_,.cons a b=>.cons a (lV b)
theorem pT {K:PySem.W.Frag}:OpN (TS.rSorted K) rp where
 mn:=fun _ _ _ k ⟨d,e,q⟩=>⟨d,e,k _ q⟩
 ok:=fun O H vs xs Q hO hd q=>by
  obtain ⟨d,e,q⟩:=q
  obtain ⟨ds,rfl⟩:∃ ds,xs=[.list ds]:=by
   unfold jy at e
   split at e
   ·exact ⟨_,rfl⟩
   ·cases e
  obtain ⟨x,rfl,h1⟩:=vF hd
  obtain ⟨a,ys,rfl,ha,hy⟩:=h1.lst_inv
  have sq:SqL K H a ys:=.of (aO ha).1
  have go:∀ (b:Bool) (mk:List Int->PyData) (rows:List (List Int)),ds=rows.map mk->(∀ y r,r ∈ rows->DV (hide O H) y (mk r)->TS.RowV K H b y r)->d=.list ((TS.sortR rows).map mk)->TS.rSorted K [.ref a] H Q:=fun b mk rows e1 e2 e3=>by
   subst e1
   have pr:=lU hy
   have pr2:Paired (TS.RowV K H b) ys rows:=by
    clear sq ha h1 hd e
    have:∀ {ys:List V} {rs:List (List Int)},(∀ r ∈ rs,r ∈ rows)->Paired (fun y r=>DV (hide O H) y (mk r)) ys rs->Paired (TS.RowV K H b) ys rs:=by
     intro ys rs hs p
     induction p with
     | nil=>exact .nil
     | cons c _ ih=>exact .cons (e2 _ _ (hs _ List.mem_cons_self) c) (ih fun r hr=>hs r (Qak _ hr))
    exact this (fun _ h=>h) pr
   refine ⟨a,ys,rows,b,rfl,sq,pr2,fun l zs hl z1 z2=>?_⟩
   subst e3
   refine q _ _ (aC hl) (dP hl (hO l hl) ?_)
   have z3:∀ z ∈ zs,DV (hide O H) z.1 (mk z.2):=fun z hz=>TS.Paired.zipAll pr z (z1.mem_iff.mp hz)
   have:=lV (TS.Paired.ofZip (R:=fun y r=>DV (hide O H) y (mk r)) z3)
   rwa [z2] at this
  have e':(sortD ds).map PyData.list=some d:=e
  unfold sortD at e'
  cases h2:eI ds with
  | some ns=>
   rw [h2] at e'
   simp only [Option.map_some,Option.some.injEq] at e'
   refine go false (fun r=>.int (r.headD 0)) (ns.map fun n=>[n]) (by rw [j7 h2]; simp) (fun y r hr hv=>?_) ?_
   ·obtain ⟨n,_,rfl⟩:=List.mem_map.mp hr
    exact ⟨n,hv.int_inv,rfl⟩
   ·rw [<-e',<-vZ,List.map_map]; rfl
  | none=>
   rw [h2] at e'
   cases h3:ft ds with
   | none=>rw [h3] at e'; cases e'
   | some rows=>
    rw [h3] at e'
    dsimp only at e'
    split at e'
    ·rename_i hall
     simp only [Option.map_some,Option.some.injEq] at e'
     refine go true (fun r=>.tuple (r.map PyData.int)) rows (j8 h3) (fun y r hr hv=>?_) e'.symm
     obtain ⟨b,ws,rfl,hb,hw⟩:=hv.tup_inv
     rw [kY hw] at hb
     refine ⟨b,rfl,.of (aO hb).1,fun z=>?_⟩
     have:=List.all_eq_true.mp hall r hr
     rw [z] at this; cases this
    ·cases e'
theorem nM:FN rp jy:=fun xs d Q e q=>⟨d,e,q⟩
end L2.L3
namespace L2
open PySem PySem.Spec PyProof.Rows
open AutoSeq1 (wpAny_loadPart')
theorem qx (l:Addr) (its:Array Value) (n:Nat) (dct:Option Addr) (sl:Array (Option Value)) :
  Meets (Builtin.«enumerate.__new__» ⟨[.type "enumerate",.ref l],[]⟩) (fun _ R s=>s.heap.get? l=some { cls:=.type "tuple",dict:=dct,data:=.seq its n,slots:=sl }/\
   R (.ok (.ret (.ref (s.heap.push { cls:=.type "tuple_iterator",data:=.fields #[.ref l,.int 0 0] }).objs.size)))
    { s with heap:=(s.heap.push { cls:=.type "tuple_iterator",data:=.fields #[.ref l,.int 0 0] }).push { cls:=.type "enumerate",data:=.fields #[.none,.bool false,.ref s.heap.objs.size,rawInt 0,.none,.none] } }):=
 .of_wp fun prog w A R s h=>by
  obtain ⟨hp,g,d,tk,os⟩:=s; obtain ⟨hl,h⟩:=h
  have hsub:=sub_enumerate
  have tL:Heap.IsTuple (Shared.heap ⟨hp,g,d,tk,os⟩) l its:=⟨_,hl,rfl,n,rfl⟩
  wp_walk using wpAny_loadPart' hl
  refine wpAny_stack_any fun st=>Qab ?_
  split
  ·rename_i c _ _ _ _ _
   cases (c == Value.type "enumerate")
   ·wp_walk using wpAny_loadPart' hl,wpAny_pyIter_tuple tL
    exact ⟨_,rfl,h⟩
   ·wp_walk using wpAny_loadPart' hl,wpAny_pyIter_tuple tL
    exact ⟨_,rfl,h⟩
  ·wp_walk using wpAny_loadPart' hl,wpAny_pyIter_tuple tL
   exact ⟨_,rfl,h⟩
theorem sJ {prog:Program} {w:World} {A:Around} {E:Value->Shared->Prop} {s:Shared} {l:Addr} {its:Array Value} {Q:Value->Shared->Prop} (tL:s.heap.IsTuple l its)
  (h:∀ h',IsEnum h' (s.heap.objs.size + 1) s.heap.objs.size 0 .none->h'.IsTupleIter s.heap.objs.size l 0->(∀ b o,s.heap.get? b=some o->h'.get? b=some o)->Q (.ref (s.heap.objs.size + 1)) { s with heap:=h' }) :
  wpAny (model prog w) A (call (.type "enumerate") [.ref l]) Q E s:=by
 obtain ⟨⟨c,dct,dt,sl⟩,hl,hc,n,hd⟩:=tL
 replace hc:c=.type "tuple":=hc
 replace hd:dt=.seq its n:=hd
 subst hc hd
 refine callType_new F.called_enumerate (by decide) (F.typeCall_enumerate_1 _) (F.newCall_enumerate_1 _) (fun obj=>F.args_object_init_2 obj _) F.entry_enumerate_new
  (qx l its n dct sl) ⟨hl,?_⟩
 generalize hg:s.heap.push { cls:=.type "tuple_iterator",data:=.fields #[.ref l,.int 0 0] } = g
 have gz:g.objs.size=s.heap.objs.size + 1:=by rw [<-hg]; exact Heap.size_push ..
 have gi:g.get? s.heap.objs.size=some { cls:=.type "tuple_iterator",data:=.fields #[.ref l,.int 0 0] }:=by rw [<-hg]; exact Heap.get?_push_size _ rfl
 have gk:∀ b o,s.heap.get? b=some o->g.get? b=some o:=fun b o e=>by rw [<-hg]; exact Qac _ e
 show _/\_
 rw [gz]
 have he:IsEnum (g.push { cls:=.type "enumerate",data:=.fields #[.none,.bool false,.ref s.heap.objs.size,rawInt 0,.none,.none] }) (s.heap.objs.size + 1) s.heap.objs.size 0 .none:=by
  have:=Heap.get?_push_size g (o:={ cls:=.type "enumerate",data:=.fields #[.none,.bool false,.ref s.heap.objs.size,rawInt 0,.none,.none] }) rfl
  rw [gz] at this; exact this
 exact ⟨⟨_,he,rfl⟩,h _ he ⟨_,Qac _ gi,rfl,rfl⟩ fun b o x=>Qac _ (gk b o x)⟩
noncomputable def ItT (K:PySem.W.Frag) (a:Addr):It:=
 ⟨fun i H=>∃ xs x,SqT K H a xs/\xs[i]? = some x,fun i H v H'=>∃ T x,v=.ref T/\H T=none/\H' = upd H T (.tup [.int i,x])/\∀ xs,SqT K H a xs->xs[i]? = some x,fun i H=>∃ xs,SqT K H a xs/\xs.length=i⟩
theorem sK {P:Program} {w:World} {K:PySem.W.Frag} {elts:List Expr} {kk:Nat} {tpos:Pos} (a e it:Addr) (hne:e ≠ it):Turn P w K (.Tuple elts kk tpos) (ItT K a) [e,it] e (fun i h=>(∃ old,IsEnum h e it i old)/\h.IsTupleIter it a i) where
 mem:=by simp
 obj:=fun i h st b hb=>by
  obtain ⟨⟨old,he⟩,o,e1,c,d⟩:=st
  rcases List.mem_cons.mp hb with rfl | hb
  ·exact ⟨_,he,fun v z=>by cases z⟩
  ·obtain rfl:=List.mem_singleton.mp hb
   exact ⟨o,e1,fun v z=>by rw [d] at z; cases z⟩
 keep:=fun i h h' st k=>⟨st.1.elim fun old he=>⟨old,k e (by simp) _ he⟩,(let ⟨o,e',r⟩:=st.2; ⟨o,k it (by simp) o e',r⟩)⟩
 item:=by
  intro X hP hw hK hc i pins s σ H E I hf st hg
  subst hP hw hK
  obtain ⟨⟨old,he⟩,hit⟩:=st
  obtain ⟨xs,x,hq,hx⟩:=hg
  obtain ⟨its,rv,p,hz⟩:=I.tuple hq
  obtain ⟨u,hu,ru⟩:=rv.get hx
  have hh:X.A.in1.handled=none:=I.ok.hd hc
  have hae:a ≠ e:=fun q=>by
   obtain ⟨o,e1,e2,_⟩:=p
   rw [q] at e1; rw [he] at e1; cases e1; exact absurd (show Value.type "enumerate" = Value.type "tuple" from e2) (by decide)
  have hai:a ≠ it:=fun q=>by
   obtain ⟨o,e1,e2,_⟩:=p
   obtain ⟨o',e1',c',_⟩:=hit
   rw [q] at e1; rw [e1'] at e1; cases e1; rw [c'] at e2; exact absurd e2 (by decide)
  refine wpAny_pyNext_enum_itemD (uu hh it a hai its.toArray) he ⟨hit,p⟩ (by simpa using (List.getElem?_eq_some_iff.mp hu).1) hne (by simp only [List.mem_cons,List.not_mem_nil,or_false,not_or]; exact ⟨hne,Ne.symm hae⟩) fun x' h' tk ex ho hi' hT hsz hk=>⟨_,rfl,?_⟩
  obtain rfl:x' = u:=by
   have:its.toArray[i]? = some x':=ex
   rw [List.getElem?_toArray,hu] at this
   exact (Option.some.inj this).symm
  refine wpAny_letOwnedTupleGo_enum (s:={ s with heap:=h',toks:=tk + 1 }) ho fun h2 he2 hs2=>?_
  have hel:s.heap.objs.size ≠ e:=Nat.ne_of_gt (Qad he)
  have k2:∀ b ob,b ∉ [e,it]->s.heap.get? b=some ob->h2.get? b=some ob:=fun b ob hb q=>by
   simp only [List.mem_cons,List.not_mem_nil,or_false,not_or] at hb
   exact (hs2.2 b hb.1).trans (hk b ob hb.1 hb.2 q)
  have it2:h2.IsTupleIter it a (i + 1):=let ⟨o,e1,r⟩:=hi'.1; ⟨o,(hs2.2 it (Ne.symm hne)).trans e1,r⟩
  have I1:Inv X pins σ (upd H s.heap.objs.size (.tup [.int i,x])) { s with heap:=h2,toks:=tk + 1 }:=by
   refine I.turnedNew (ch:=[e,it]) hf k2 (Qae _) (fun b hb ob q=>?_) ?_
   ·rcases List.mem_cons.mp hb with rfl | hb
    ·exact ⟨_,he2⟩
    ·obtain rfl:=List.mem_singleton.mp hb
     obtain ⟨o,e1,_⟩:=it2
     exact ⟨o,e1⟩
   ·exact ⟨by show 2<=sizeLine; decide,[.int i tk,x'],.cons ⟨_,rfl⟩ (.cons ru .nil),⟨_,(hs2.2 _ hel).trans hT,rfl,_,rfl⟩⟩
  refine ⟨.ref s.heap.objs.size,_,I1,rfl,⟨_,x,rfl,I.hok.fresh (Qae _),rfl,fun ys hy=>by rw [I.tuple_inj hy hq]; exact hx⟩,⟨⟨_,by simpa using he2⟩,it2⟩,fun b hb=>?_⟩
  have hb':b < s.heap.objs.size:=by
   rcases List.mem_cons.mp hb with rfl | hb
   ·exact Qad he
   ·obtain rfl:=List.mem_singleton.mp hb
    obtain ⟨o,e1,_⟩:=hit
    exact Qad e1
  rw [aU (Nat.ne_of_lt hb')]
  exact (hf b hb).1
 done:=by
  intro X hP hw hK hc i pins s σ H E I hf st hg
  subst hP hw hK
  obtain ⟨⟨old,he⟩,hit⟩:=st
  obtain ⟨xs,hq,rfl⟩:=hg
  obtain ⟨its,rv,p,hz⟩:=I.tuple hq
  obtain ⟨f0,f1,f2,f3,f4,f5⟩:=hf it (by simp)
  have hh:X.A.in1.handled=none:=I.ok.hd hc
  have hai:a ≠ it:=fun q=>by
   obtain ⟨o,e1,e2,_⟩:=p
   obtain ⟨o',e1',c',_⟩:=hit
   rw [q] at e1; rw [e1'] at e1; cases e1; rw [c'] at e2; exact absurd e2 (by decide)
  refine wpAny_pyNext_enum_endD (uu hh it a hai its.toArray) he ⟨?_,p⟩ fun h' eb=>⟨rfl,I.turned (t':=s.toks) (fun b o hb e=>eb b o hb e) f0 f1 f3 f4 f5⟩
  have:its.toArray.size=xs.length:=by rw [List.size_toArray,rv.length]
  rw [this]; exact hit
 self:=fun _ _ _ _ _ st h=>st.1.elim fun _ he=>wpAny_pyIter_enum he h
section
variable {X:Cx} {elts:List Expr} {kk:Nat} {tpos:Pos}
noncomputable def AH (K:PySem.W.Frag) (ta:TA):TI:=fun σ H R=>ta σ H fun vs H1=>∃ a xs,vs=[.ref a]/\SqT K H1 a xs/\R (ItT K a) H1
theorem v0 {a:Expr} {ta:TA} {p pos:Pos} (hg:Gl X "enumerate") (hm:X.mg "enumerate" = none) (ha:PA X [a] ta) (hs:starEach [a] X.env=[(false,eval a X.env)]:=by rfl):PI X (.Tuple elts kk tpos) (.Call (.Name "enumerate" p) [a] [] pos) (AH X.K ta):=by
 intro pins s σ H R I h
 refine Call_ (eG I hg hm (show bootBuiltins "enumerate" = some (.type "enumerate") by decide +kernel) (PyProof.Rows.callWith_type1 (thn (ha pos pins s σ H _ I h) fun us s1 ⟨vs,H1,I1,r1,q1⟩=>?_) hs rfl))
 obtain ⟨l,xs,rfl,hq,q⟩:=q1
 obtain ⟨u,rfl,ru⟩:=iR r1
 cases ru
 obtain ⟨its,rv,p,hz⟩:=I1.tuple hq
 refine sJ p fun h' he hi hk=>?_
 refine wpAny_pyIter_enum (s:={ s1 with heap:=h' }) he ?_
 refine ⟨s1.heap.objs.size + 1,[s1.heap.objs.size + 1,s1.heap.objs.size],_,_,H1,rfl,I1.kept (t':=s1.toks) hk,sK l _ _ (Nat.succ_ne_self _),⟨⟨_,he⟩,hi⟩,fun b hb=>?_,q⟩
 have hb':s1.heap.objs.size<=b:=by
  rcases List.mem_cons.mp hb with rfl | hb
  ·exact Nat.le_succ _
  ·obtain rfl:=List.mem_singleton.mp hb
   exact Qae _
 exact I1.fpOk hb' (I1.hok.fresh hb')
end
end L2
namespace L2.L3
open PySem PySem.Spec PyProof.Rows
section
variable {X:Cx} {F:Fx} {E:Str->DEnv->Prop} {a e:Expr} {tA:DTA} {p pos:Pos}
noncomputable def iET (t:DTA):DTI:=fun ρ Q=>t ρ fun ds ρ'=>∃ es,ds=[.tuple es]/\Q (numbered es) ρ'
theorem k7 {elts:List Expr} {kk:Nat} {tpos:Pos} (hg:Gl X "enumerate") (hm:X.mg "enumerate" = none) (ha:DA X F [a] tA) (hs:starEach [a] X.env=[(false,eval a X.env)]:=by rfl):DI X F (.Tuple elts kk tpos) (.Call (.Name "enumerate" p) [a] [] pos) (iET tA):=
 ⟨fun _ _ _ k q=>ha.mn _ _ _ (fun _ _ ⟨j,e,q⟩=>⟨j,e,k _ _ q⟩) q,(v0 hg hm ha.pa hs).imp fun σ H R ⟨ρ,O,st,q⟩=>
  ⟨ρ,O,st,ha.mn _ _ _ (fun ds ρ1 ⟨es,e,q1⟩ vs H1 O1 st1 s1 d1=>by
   subst e
   cases d1 with
   | cons d r=>
    cases r
    obtain ⟨a,xs,rfl,hx,hd⟩:=d.tup_inv
    obtain ⟨hx1,hn1⟩:=aO hx
    refine ⟨a,xs,rfl,.of hx1,q1 _ H1 O1 st1 s1 fun O' H' s ok=>?_⟩
    have h2:=s.keep a _ hn1 hx1
    have hd':=DVs.mono s.hid hd
    refine ⟨fun i d e=>?_,⟨xs,.of h2,by unfold numbered; rw [List.length_mapIdx,hd.length]⟩⟩
    unfold numbered at e
    rw [List.getElem?_mapIdx] at e
    obtain ⟨d0,e1,e2⟩:=Option.map_eq_some_iff.mp e
    subst e2
    obtain ⟨v,hv,dv⟩:=hd'.get e1
    refine ⟨⟨xs,v,.of h2,hv⟩,fun x H'' ⟨T,y,q1,q2,q3,q4⟩=>?_⟩
    subst q1 q3
    have:=q4 xs (.of h2)
    rw [hv] at this
    cases this
    exact ⟨aC q2,fY q2 (ok.nofree T q2) (.cons (.int _) (.cons dv .nil))⟩) q⟩⟩
@[simp] noncomputable def pU:List PyData->Option (List PyData):=fun xs=>match xs with
 | [.tuple ds]=>some (numbered ds)
 | _=>none
theorem k8 {tg:Expr} {ma:XM (List PyData)} (h:DI X F tg e (iET (wp E ma))):FI X F E tg e (iLf pU ma):=h.imp aj fun ρ Q q=>aj _ _ _ (fun ds ρ1 q1=>by
 obtain ⟨y,e1,q2⟩:=aY q1
 unfold pU at e1
 split at e1
 ·cases e1; exact ⟨_,rfl,q2⟩
 ·cases e1) (aD q)
end
end L2.L3
namespace L2
open PySem PySem.Spec PyProof.Rows
section
variable {prog:Program} {w:World} {A:Around} {E:Value->Shared->Prop} {s:Shared}
theorem uH {e it l T:Addr} {i:Nat} {items:Array Value} {x f1 old:Value} {Q:Value->Shared->Prop}
  (he:IsEnF s.heap e it i (rawInt T) f1 old) (hT:s.heap.get? T=none) (hit:s.heap.IsListIter it l i) (hl:s.heap.IsList l items) (hx:items[i]? = some x) (hne:e ≠ it)
  (hQ:∀ h' (T':Addr) f1' old',(T' = T\/T' = s.heap.objs.size)->(f1' = .bool false\/f1' = .bool true)->IsEnF h' e it ((i:Int) + 1) (rawInt T') f1' old'->h'.IsListIter it l (i + 1)->
   pE h' s.heap.objs.size (.int i s.toks) x->(∀ b o,b ≠ e->b ≠ it->s.heap.get? b=some o->h'.get? b=some o)->Q (.ref s.heap.objs.size) { s with heap:=h',toks:=s.toks + 1 })
  (hf1:f1=.bool false\/f1=.bool true) :
  wpAny (model prog w) A (Builtin.«enumerate.__next__» ⟨[.ref e],[]⟩) (fun fin s'=>∃ v,fin=.done (.ret v)/\Q v s') E s:=by
 obtain ⟨hp,g,d,tk,os⟩:=s
 show wpAny _ _ (field (.ref e) 2 >>= _) _ _ _
 refine Qaa (wpAny_field he rfl (x:=.ref it) rfl ?_)
 refine Qaa (wpAny_nextOf_list_item hit hl hx fun g1 it1 s1=>?_)
 replace s1:Heap.SameBut it hp g1:=s1
 have e1:IsEnF g1 e it i (rawInt T) f1 old:=(s1.2 e hne).trans he
 show wpAny _ _ (field (.ref e) 3 >>= _) _ _ ⟨g1,g,d,tk,os⟩
 refine Qaa (wpAny_field e1 rfl (x:=rawInt i) rfl ?_)
 show wpAny _ _ (field (.ref e) 4 >>= _) _ _ ⟨g1,g,d,tk,os⟩
 refine Qaa (wpAny_field e1 rfl (x:=.none) rfl ?_)
 show wpAny _ _ (mkInt i >>= _) _ _ ⟨g1,g,d,tk,os⟩
 refine Qaa (wpAny_mkInt ?_)
 show wpAny _ _ (setField (.ref e) 3 (rawInt ((i:Int) + 1)) >>= _) _ _ ⟨g1,g,d,tk + 1,os⟩
 refine Qaa (wpAny_setField_rec e1 (by simp) fun g2 e2 s2=>?_)
 replace s2:Heap.SameBut e g1 g2:=s2
 replace e2:IsEnF g2 e it ((i:Int) + 1) (rawInt T) f1 old:=e2
 show wpAny _ _ (setField (.ref e) 4 .none >>= _) _ _ ⟨g2,g,d,tk + 1,os⟩
 refine Qaa (wpAny_setField_rec e2 (by simp) fun g3 e3 s3=>?_)
 replace s3:Heap.SameBut e g2 g3:=s3
 replace e3:IsEnF g3 e it ((i:Int) + 1) (rawInt T) f1 old:=e3
 show wpAny _ _ (newTuple [.int i tk,x] >>= _) _ _ ⟨g3,g,d,tk + 1,os⟩
 refine Qaa (wpAny_newTuple ?_)
 have e4:IsEnF (g3.push { cls:=.type "tuple",data:=.seq #[.int i tk,x] }) e it ((i:Int) + 1) (rawInt T) f1 old:=Qac _ e3
 have hsz:g3.objs.size=hp.objs.size:=by rw [s3.1,s2.1,s1.1]
 generalize hh:g3.push { cls:=.type "tuple",data:=.seq #[.int i tk,x] } = g4 at e4
 have hel:e < hp.objs.size:=Qad he
 have t4:g4.get? hp.objs.size=some { cls:=.type "tuple",data:=.seq #[.int i tk,x] }:=by rw [<-hh,<-hsz]; exact Heap.get?_push_size _ rfl
 have k4:∀ b o,b ≠ e->b ≠ it->hp.get? b=some o->g4.get? b=some o:=fun b o hbe hbi hb=>by
  rw [<-hh]; exact Qac _ (s3.extBut b o hbe (s2.extBut b o hbe (s1.extBut b o hbi hb)))
 have it4:g4.IsListIter it l (i + 1):=by
  rw [<-hh]; obtain ⟨o,ho,r⟩:=(it1.extBut s2.extBut (Ne.symm hne)).extBut s3.extBut (Ne.symm hne); exact ⟨o,Qac _ ho,r⟩
 show wpAny _ _ (Builtin.SmallTypes.ownedTupleIsFree (.ref e) >>= _) _ _ ⟨g4,g,d,tk + 1,os⟩
 rw [hsz]
 unfold Builtin.SmallTypes.ownedTupleIsFree
 refine Qaa (Qaa (wpAny_field e4 rfl (x:=rawInt T) rfl ?_))
 show wpAny _ _ (loadIfAlive (Int.toNat T) >>= _) _ _ _
 refine Qaa (fj ?_)
 rw [Int.toNat_natCast]
 cases hg:g4.get? T with
 | some oT=>
  show wpAny _ _ (field (.ref e) 1 >>= _) _ _ _
  refine Qaa (wpAny_field e4 rfl (x:=f1) rfl ?_)
  rcases hf1 with rfl | rfl
  ·show wpAny _ _ (setField (.ref e) 1 (.bool true) >>= _) _ _ _
   refine Qaa (wpAny_setField_rec e4 (by simp) fun g5 e5 s5=>Qab ?_)
   replace s5:Heap.SameBut e g4 g5:=s5
   exact Qab ⟨_,rfl,hQ g5 T _ _ (.inl rfl) (.inr rfl) e5 (it4.extBut s5.extBut (Ne.symm hne)) (s5.extBut _ _ (Nat.ne_of_gt hel) t4) fun b o hbe hbi hb=>s5.extBut b o hbe (k4 b o hbe hbi hb)⟩
  ·refine Qab ?_
   exact Qab ⟨_,rfl,hQ g4 T _ _ (.inl rfl) (.inr rfl) e4 it4 t4 k4⟩
 | none=>
  refine Qab ?_
  simp only [if_true]
  refine Qaa (wpAny_rule ?_)
  refine Qaa (wpAny_field e4 rfl (x:=old) rfl ?_)
  refine Qaa (wpAny_setField_rec e4 (by simp) fun g5 e5 s5=>?_)
  replace s5:Heap.SameBut e g4 g5:=s5
  replace e5:IsEnF g5 e it ((i:Int) + 1) (rawInt T) f1 x:=e5
  show wpAny _ _ (Builtin.SmallTypes.ownedTupleHandOut (.ref e) (.ref hp.objs.size) >>= _) _ _ ⟨g5,g,d,tk + 1,os⟩
  refine Qaa ?_
  unfold Builtin.SmallTypes.ownedTupleHandOut
  refine Qaa (wpAny_setField_rec e5 (by simp) fun g6 e6 s6=>?_)
  replace s6:Heap.SameBut e g5 g6:=s6
  replace e6:IsEnF g6 e it ((i:Int) + 1) (rawInt hp.objs.size) f1 x:=e6
  refine wpAny_setField_rec e6 (by simp) fun g7 e7 s7=>?_
  replace s7:Heap.SameBut e g6 g7:=s7
  replace e7:IsEnF g7 e it ((i:Int) + 1) (rawInt hp.objs.size) (.bool false) x:=e7
  have up:∀ b o,b ≠ e->g4.get? b=some o->g7.get? b=some o:=fun b o hb q=>s7.extBut b o hb (s6.extBut b o hb (s5.extBut b o hb q))
  refine Qaa (wpAny_letGo (Qab ⟨_,rfl,hQ g7 _ _ _ (.inr rfl) (.inl rfl) e7 ?_ (up _ _ (Nat.ne_of_gt hel) t4) fun b o hbe hbi hb=>up b o hbe (k4 b o hbe hbi hb)⟩))
  obtain ⟨o,ho,r⟩:=it4
  exact ⟨o,up _ _ (Ne.symm hne) ho,r⟩
end
noncomputable def EnN (h:Heap) (e it:Addr) (i:Nat):Prop:=∃ (f0 f1 old:Value),IsEnF h e it i f0 f1 old/\((f0=.none/\f1=.bool false)\/∃ T:Addr,f0=rawInt T/\T ≠ e/\T ≠ it/\(f1=.bool false\/f1=.bool true))
theorem v5 {prog:Program} {w:World} {A:Around} {E:Value->Shared->Prop} {s:Shared} {e it l:Addr} {i:Nat} {items:Array Value} {x:Value} {Q:Option Value->Shared->Prop} (hne:e ≠ it) (st:EnN s.heap e it i) (hit:s.heap.IsListIter it l i) (hl:s.heap.IsList l items) (hx:items[i]? = some x)
  (hQ:∀ h' (t:Tok),EnN h' e it (i + 1)->h'.IsListIter it l (i + 1)->pE h' s.heap.objs.size (.int i t) x->(∀ b o,b ≠ e->b ≠ it->s.heap.get? b=some o->h'.get? b=some o)->Q (some (.ref s.heap.objs.size)) { s with heap:=h',toks:=s.toks + 1 }) :
  wpAny (model prog w) A (pyNext (.ref e)) Q E s:=by
 obtain ⟨f0,f1,old,he,hf⟩:=st
 have hT:s.TypeIs (.ref e) "enumerate":=⟨_,he,rfl⟩
 have hel:e < s.heap.objs.size:=Qad he
 have hil:it < s.heap.objs.size:=by obtain ⟨_,q,_⟩:=hit; exact Qad q
 unfold pyNext
 refine Qaa (wpAny_attempt (wpAny_callSpecial?_slot (name:=Str.ofString "__next__") hT F.slot_enumerate_next (wpAny_call_entry F.slot_enumerate_next hT F.entry_enumerate_next ?_ (F.args_enumerate_next_1 _))))
 rcases hf with ⟨rfl,rfl⟩ | ⟨T,rfl,nTe,nTi,hf1⟩
 ·refine enumerate_next_item he hit hl hx hne fun h' a b c d k=>Qab ?_
  exact hQ h' s.toks ⟨_,_,_,a,.inr ⟨_,rfl,Nat.ne_of_gt hel,Nat.ne_of_gt hil,.inl rfl⟩⟩ b c k
 ·cases hg:s.heap.get? T with
  | some oT=>
   refine vQ hf1 he hg nTe nTi hit hl hx hne fun h' a b c d k=>Qab ?_
   exact hQ h' s.toks ⟨_,_,_,a,.inr ⟨T,rfl,nTe,nTi,.inr rfl⟩⟩ b c k
  | none=>
   refine uH he hg hit hl hx hne (fun h' T' f1' old' hT' hf' a b c k=>Qab ?_) hf1
   refine hQ h' s.toks ⟨_,_,_,a,.inr ⟨T',rfl,?_,?_,hf'⟩⟩ b c k
   ·rcases hT' with rfl | rfl
    ·exact nTe
    ·exact Nat.ne_of_gt hel
   ·rcases hT' with rfl | rfl
    ·exact nTi
    ·exact Nat.ne_of_gt hil
theorem sL {P:Program} {w:World} {K:PySem.W.Frag} {y:Str} {tpos:Pos} (a e it:Addr) (hne:e ≠ it):Turn P w K (.Name y tpos) (Ite K a) [e,it] e (fun i h=>EnN h e it i/\h.IsListIter it a i) where
 mem:=by simp
 obj:=fun i h st b hb=>by
  obtain ⟨⟨f0,f1,old,he,_⟩,o,e1,c,d⟩:=st
  rcases List.mem_cons.mp hb with rfl | hb
  ·exact ⟨_,he,fun v z=>by cases z⟩
  ·obtain rfl:=List.mem_singleton.mp hb
   exact ⟨o,e1,fun v z=>by rw [d] at z; cases z⟩
 keep:=fun i h h' st k=>⟨(let ⟨f0,f1,old,he,r⟩:=st.1; ⟨f0,f1,old,k e (by simp) _ he,r⟩),st.2.at fun o e'=>k it (by simp) o e'⟩
 item:=by
  intro X hP hw hK hc i pins s σ H E I hf st hg
  subst hP hw hK
  obtain ⟨hen,hit⟩:=st
  obtain ⟨xs,x,hq,hx⟩:=hg
  obtain ⟨its,rv,p,hz⟩:=I.list hq
  obtain ⟨u,hu,ru⟩:=rv.get hx
  refine v5 hne hen hit p.isList (x:=u) (by simpa using hu) fun h' t ho hi' hT hk=>⟨_,rfl,?_⟩
  have k2:∀ b ob,b ∉ [e,it]->s.heap.get? b=some ob->h'.get? b=some ob:=fun b ob hb q=>by
   simp only [List.mem_cons,List.not_mem_nil,or_false,not_or] at hb
   exact hk b ob hb.1 hb.2 q
  have I1:Inv X pins σ (upd H s.heap.objs.size (.tup [.int i,x])) { s with heap:=h',toks:=s.toks + 1 }:=by
   refine I.turnedNew (ch:=[e,it]) hf k2 (Qae _) (fun b hb ob q=>?_) ?_
   ·rcases List.mem_cons.mp hb with rfl | hb
    ·obtain ⟨_,_,_,he2,_⟩:=ho
     exact ⟨_,he2⟩
    ·obtain rfl:=List.mem_singleton.mp hb
     obtain ⟨o,e1,_⟩:=hi'
     exact ⟨o,e1⟩
   ·exact ⟨by show 2<=sizeLine; decide,[.int i t,u],.cons ⟨_,rfl⟩ (.cons ru .nil),⟨_,hT,rfl,_,rfl⟩⟩
  refine Qab ⟨.ref s.heap.objs.size,_,I1,rfl,⟨_,x,rfl,I.hok.fresh (Qae _),rfl,fun ys hy=>by rw [I.list_inj hy hq]; exact hx⟩,⟨ho,hi'⟩,fun b hb=>?_⟩
  have hb':b < s.heap.objs.size:=by
   rcases List.mem_cons.mp hb with rfl | hb
   ·obtain ⟨_,_,_,he,_⟩:=hen
    exact Qad he
   ·obtain rfl:=List.mem_singleton.mp hb
    obtain ⟨o,e1,_⟩:=hit
    exact Qad e1
  rw [aU (Nat.ne_of_lt hb')]
  exact (hf b hb).1
 done:=by
  intro X hP hw hK hc i pins s σ H E I hf st hg
  subst hP hw hK
  obtain ⟨⟨f0,f1,old,he,_⟩,hit⟩:=st
  obtain ⟨xs,hq,hx⟩:=hg
  obtain ⟨its,rv,p,hz⟩:=I.list hq
  obtain ⟨n0,n1,n2,n3,n4,n5⟩:=hf it (by simp)
  have hl:=rv.length
  have hT:s.TypeIs (.ref e) "enumerate":=⟨_,he,rfl⟩
  unfold pyNext
  refine Qaa (wpAny_attempt (wpAny_callSpecial?_slot (name:=Str.ofString "__next__") hT F.slot_enumerate_next
   (wpAny_call_entry F.slot_enumerate_next hT F.entry_enumerate_next ?_ (F.args_enumerate_next_1 _))))
  show wpAny _ _ (field (.ref e) 2 >>= _) _ _ _
  refine Qaa (wpAny_field he rfl (x:=.ref it) rfl ?_)
  refine Qaa (wpAny_nextOf_list_end (I.ok.hd hc) hit p.isList (by simp; omega) fun h' x he' hx'=>?_)
  obtain ⟨o,ho,hc'⟩:=hx'
  refine Qaa (wpAny_isInstance (T:="StopIteration") (b:=true) ⟨o,ho,hc'⟩ isSubtype_stop ?_)
  exact Qab ⟨rfl,I.turned (t':=s.toks) (fun b o hb e=>he' b o hb e) n0 n1 n3 n4 n5⟩
 self:=fun _ _ _ _ _ st h=>by
  obtain ⟨⟨f0,f1,old,he,_⟩,_⟩:=st
  have hT:Shared.TypeIs _ (.ref e) "enumerate":=⟨_,he,rfl⟩
  refine wpAny_pyIter_slot hT F.slot_enumerate_iter (wpAny_call_entry F.slot_enumerate_iter hT F.entry_enumerate_iter ?_ (F.args_enumerate_iter_1 _))
  show wpAny _ _ (ret (.ref e)) _ _ _
  exact Qab ⟨_,rfl,"enumerate",_,hT,F.slot_enumerate_next.lookup,h⟩
section
variable {X:Cx} {y:Str} {tpos:Pos}
theorem v6 {a:Expr} {ta:TA} {p pos:Pos} (hg:Gl X "enumerate") (hm:X.mg "enumerate" = none) (ha:PA X [a] ta) (hs:starEach [a] X.env=[(false,eval a X.env)]:=by rfl):PI X (.Name y tpos) (.Call (.Name "enumerate" p) [a] [] pos) (Bh X.K ta):=by
 intro pins s σ H R I h
 refine Call_ (eG I hg hm (show bootBuiltins "enumerate" = some (.type "enumerate") by decide +kernel) (PyProof.Rows.callWith_type1 (thn (ha pos pins s σ H _ I h) fun us s1 ⟨vs,H1,I1,r1,q1⟩=>?_) hs rfl))
 obtain ⟨l,xs,rfl,hq,q⟩:=q1
 obtain ⟨u,rfl,ru⟩:=iR r1
 cases ru
 obtain ⟨its,rv,p,hz⟩:=I1.list hq
 refine call_enumerate_list p.isList fun h' he hi hsz hk=>?_
 refine wpAny_pyIter_enum (s:={ s1 with heap:=h' }) he ?_
 refine ⟨s1.heap.objs.size + 1,[s1.heap.objs.size + 1,s1.heap.objs.size],_,_,H1,rfl,I1.kept (t':=s1.toks) hk,sL l _ _ (Nat.succ_ne_self _),⟨⟨_,_,_,he,.inl ⟨rfl,rfl⟩⟩,hi⟩,fun b hb=>?_,q⟩
 have hb':s1.heap.objs.size<=b:=by
  rcases List.mem_cons.mp hb with rfl | hb
  ·exact Nat.le_succ _
  ·obtain rfl:=List.mem_singleton.mp hb
   exact Qae _
 exact I1.fpOk hb' (I1.hok.fresh hb')
end
end L2
namespace L2.L3
open PySem PySem.Spec PyProof.Rows
section
variable {X:Cx} {F:Fx} {E:Str->DEnv->Prop} {a e:Expr} {tA:DTA} {p pos tpos:Pos} {y:Str}
theorem v7 (hg:Gl X "enumerate") (hm:X.mg "enumerate" = none) (ha:DA X F [a] tA) (hs:starEach [a] X.env=[(false,eval a X.env)]:=by rfl):DI X F (.Name y tpos) (.Call (.Name "enumerate" p) [a] [] pos) (iE tA):=
 ⟨fun _ _ _ k q=>ha.mn _ _ _ (fun _ _ ⟨j,e,q⟩=>⟨j,e,k _ _ q⟩) q,(v6 hg hm ha.pa hs).imp fun σ H R ⟨ρ,O,st,q⟩=>
  ⟨ρ,O,st,ha.mn _ _ _ (fun ds ρ1 ⟨es,e,q1⟩ vs H1 O1 st1 s1 d1=>by
   subst e
   cases d1 with
   | cons d r=>
    cases r
    obtain ⟨a,xs,rfl,hx,hd⟩:=d.lst_inv
    obtain ⟨hx1,hn1⟩:=aO hx
    refine ⟨a,xs,rfl,.of hx1,q1 _ H1 O1 st1 s1 fun O' H' s ok=>?_⟩
    have h2:=s.keep a _ hn1 hx1
    have hd':=DVs.mono s.hid hd
    refine ⟨fun i d e=>?_,⟨xs,.of h2,by unfold numbered; rw [List.length_mapIdx,hd.length]; exact Qae _⟩⟩
    unfold numbered at e
    rw [List.getElem?_mapIdx] at e
    obtain ⟨d0,e1,e2⟩:=Option.map_eq_some_iff.mp e
    subst e2
    obtain ⟨v,hv,dv⟩:=hd'.get e1
    refine ⟨⟨xs,v,.of h2,hv⟩,fun x H'' ⟨T,y,q1,q2,q3,q4⟩=>?_⟩
    subst q1 q3
    have:=q4 xs (.of h2)
    rw [hv] at this
    cases this
    exact ⟨aC q2,fY q2 (ok.nofree T q2) (.cons (.int _) (.cons dv .nil))⟩) q⟩⟩
end
end L2.L3
namespace Due
noncomputable abbrev Sh:=List (Int × Int)
noncomputable def bI (a:Int):Sh->Int->Int
 | [],_=>a
 | (b,c) :: r,m=>bI (if b<=m then c else a) r m
noncomputable def aK (a:Int) (ss:Sh) (m:Int):Int:=m + bI a ss m
noncomputable def cE:Int->Sh->Prop
 | _,[]=>True
 | lo,(b,_) :: r=>lo < b/\cE b r
theorem iB {a m:Int}:∀ {ss:Sh} {lo:Int},cE lo ss->m<=lo->bI a ss m=a
 | [],_,_,_=>rfl
 | (b,c) :: r,lo,⟨h1,h2⟩,hm=>by
  unfold bI
  rw [if_neg (by omega)]
  exact iB h2 (by omega)
noncomputable def ca (g:Int):Int->Int->Sh->Int
 | s,a,[]=>max s (g - a)
 | s,a,(b,c) :: r=>if max s (g - a) < b then max s (g - a) else ca g b c r
theorem b8 {g:Int}:∀ {ss:Sh} {s a:Int},cE s ss->s<=ca g s a ss/\g<=aK a ss (ca g s a ss)/\∀ m,s<=m->m < ca g s a ss->aK a ss m < g
 | [],s,a,_=>by
  unfold ca aK bI
  refine ⟨by omega,by omega,fun m h1 h2=>?_⟩
  omega
 | (b,c) :: r,s,a,⟨h1,h2⟩=>by
  unfold ca
  have bef:∀ m,m < b->aK a ((b,c) :: r) m=m + a:=fun m hm=>by
   unfold aK bI
   rw [if_neg (by omega),iB h2 (by omega)]
  have aft:∀ m,b<=m->aK a ((b,c) :: r) m=aK c r m:=fun m hm=>by
   unfold aK
   rw [bI,if_pos hm]
  by_cases hlt:max s (g - a) < b
  ·rw [if_pos hlt]
   refine ⟨by omega,?_,fun m h1 h2=>?_⟩
   ·rw [bef _ hlt]; omega
   ·rw [bef _ (by omega)]; omega
  ·rw [if_neg hlt]
   obtain ⟨q1,q2,q3⟩:=b8 (g:=g) (a:=c) h2
   refine ⟨by omega,?_,fun m h3 h4=>?_⟩
   ·rw [aft _ q1]; exact q2
   ·by_cases hm:m < b
    ·rw [bef _ hm]; omega
    ·rw [aft _ (by omega)]; exact q3 m (by omega) h4
theorem qy {g g':Int} (h:g<=g') {ss:Sh} {s a:Int} (hr:cE s ss):ca g s a ss<=ca g' s a ss:=by
 obtain ⟨q1,q2,q3⟩:=b8 (g:=g) (a:=a) hr
 obtain ⟨p1,p2,p3⟩:=b8 (g:=g') (a:=a) hr
 refine Int.not_lt.mp fun hlt=>?_
 have:=q3 _ p1 hlt
 omega
noncomputable def kA (a:Int) (ss:Sh):Prop:=(-12<=a/\a<=14)/\∀ p ∈ ss,-12<=p.2/\p.2<=14
theorem fL {m:Int}:∀ {ss:Sh} {a:Int},kA a ss->-12<=bI a ss m/\bI a ss m<=14
 | [],a,h=>h.1
 | (b,c) :: r,a,h=>by
  unfold bI
  refine fL ⟨?_,fun p hp=>h.2 p (Qak _ hp)⟩
  split
  ·exact h.2 (b,c) List.mem_cons_self
  ·exact h.1
noncomputable def stret (s a:Int):Sh->List (Int × Option Int × Int)
 | []=>[(s,none,a)]
 | (b,c) :: r=>(s,some b,a) :: stret b c r
noncomputable def bA (m:Int):Option Int->Bool
 | none=>true
 | some e=>decide (m < e)
noncomputable def gD (g:Int) (l:List (Int × Option Int × Int)):List Int:=(l.filter fun p=>bA (max p.1 (g - p.2.2)) p.2.1).map fun p=>max p.1 (g - p.2.2)
theorem ka (g:Int):∀ (ss:Sh) (s a:Int),∃ t,gD g (stret s a ss)=ca g s a ss :: t
 | [],s,a=>⟨[],rfl⟩
 | (b,c) :: r,s,a=>by
  obtain ⟨t,ih⟩:=ka g r b c
  unfold stret ca gD
  rw [List.filter_cons]
  by_cases h:max s (g - a) < b
  ·rw [if_pos (by show decide (max s (g - a) < b)=true; exact decide_eq_true h),if_pos h]
   exact ⟨_,rfl⟩
  ·rw [if_neg (by show ¬ decide (max s (g - a) < b)=true; simpa using h),if_neg h]
   exact ⟨t,ih⟩
noncomputable def aZ (a:Int) (ss:Sh) (h:Int):Int:=-((h - aK a ss 0) / 24)
theorem fE {a h:Int} {ss:Sh}:aK a ss 0<=24 * aZ a ss h + h/\24 * aZ a ss h + h < aK a ss 0 + 24:=by
 unfold aZ
 omega
noncomputable def bj (a:Int) (ss:Sh) (h:Int) (c:Nat):Int:=ca ((aZ a ss h + c) * 24 + h) 0 a ss
inductive Plan where
 | once (m:Int) | every (f s:Int) | daily (h:Int)
noncomputable def timeM (a:Int) (ss:Sh):Plan->Nat->Option Int
 | .once m,c=>if c=0 then some m else none
 | .every f s,c=>some (f + c * s)
 | .daily h,c=>some (bj a ss h c)
theorem v8 {a h:Int} {ss:Sh} {c:Nat} (hr:cE 0 ss):0<=bj a ss h c:=(b8 hr).1
theorem sM {a h:Int} {ss:Sh} {c d:Nat} (hr:cE 0 ss) (hcd:c<=d):bj a ss h c<=bj a ss h d:=qy (by omega) hr
theorem v9 {a h:Int} {ss:Sh} {c:Nat} (hr:cE 0 ss) (ho:kA a ss):24 * (c:Int) - 26<=bj a ss h c:=by
 obtain ⟨q1,q2,_⟩:=b8 (g:=(aZ a ss h + c) * 24 + h) (a:=a) hr
 have:=fE (a:=a) (h:=h) (ss:=ss)
 have b1:=fL (m:=0) ho
 have b2:=fL (m:=ca ((aZ a ss h + c) * 24 + h) 0 a ss) ho
 unfold aK at *
 unfold bj
 omega
structure ZOk (a:Int) (ss:Sh):Prop where
 len:ss.length<=6
 rise:cE 0 ss
 ah:kA a ss
 top:∀ p ∈ ss,p.1<=9999
noncomputable def aH:Plan->Prop
 | .once m=>0<=m/\m<=9999
 | .every f s=>(0<=f/\f<=9999)/\1<=s/\s<=999
 | .daily h=>0<=h/\h<=23
noncomputable def timeV (a:Int) (ss:Sh) (p:Plan) (c:Nat):Int:=(timeM a ss p c).getD 0
noncomputable def rowsM (a:Int) (ss:Sh) (p:Plan) (first:Int) (n:Nat):List Nat:=(List.range n).filter fun c=>decide (first<=timeV a ss p c)
structure Upto (a:Int) (ss:Sh) (p:Plan) (last:Int) (n:Nat):Prop where
 le:n<=20000
 in_:∀ c,c < n->∃ v,timeM a ss p c=some v/\v<=last
 out:timeM a ss p n=none\/∃ v,timeM a ss p n=some v/\last < v
noncomputable def wa (a b c:Int):Nat:=(if a < b then (b - a - 1) / c + 1 else 0).toNat
theorem least {P:Nat->Prop}:∀ N,P N->∃ n,n<=N/\P n/\∀ m,m < n->¬ P m
 | 0,h=>⟨0,Qae _,h,fun m hm=>absurd hm (Nat.not_lt_zero m)⟩
 | N + 1,h=>by
  by_cases e:∃ m,m<=N/\P m
  ·obtain ⟨m,hm,pm⟩:=e
   obtain ⟨n,h1,h2,h3⟩:=least m pm
   exact ⟨n,by omega,h2,h3⟩
  ·exact ⟨N + 1,Qae _,h,fun m hm pm=>e ⟨m,by omega,pm⟩⟩
theorem lW {a h last:Int} {ss:Sh} (z:ZOk a ss) (hl:last<=9999):∃ n,Upto a ss (.daily h) last n:=by
 obtain ⟨n,h1,h2,h3⟩:=least (P:=fun c=>last < bj a ss h c) 1000 (by
  have:=v9 (h:=h) (c:=1000) z.rise z.ah
  show last < bj a ss h 1000
  omega)
 refine ⟨n,by omega,fun c hc=>⟨_,rfl,?_⟩,.inr ⟨_,rfl,h2⟩⟩
 have:=h3 c hc
 omega
theorem uI {a:Int} {ss:Sh} {p:Plan} (z:ZOk a ss) (ok:aH p) {c d:Nat} {v w:Int} (h:c<=d) (hv:timeM a ss p c=some v) (hw:timeM a ss p d=some w):v<=w:=by
 cases p with
 | once m=>
  rw [timeM] at hv hw
  by_cases e:c=0
  ·by_cases e2:d=0
   ·rw [if_pos e] at hv; rw [if_pos e2] at hw; cases hv; cases hw; exact Int.le_refl _
   ·rw [if_neg e2] at hw; cases hw
  ·rw [if_neg e] at hv; cases hv
 | every f s=>
  rw [timeM] at hv hw
  cases hv; cases hw
  have:=Int.mul_le_mul_of_nonneg_right (show (c:Int)<=d by omega) (show (0:Int)<=s by have:=ok.2.1; omega)
  omega
 | daily h'=>
  rw [timeM] at hv hw
  cases hv; cases hw
  exact sM z.rise h
theorem rq {a:Int} {ss:Sh} {p:Plan} (z:ZOk a ss) (ok:aH p) {c:Nat} {v:Int} (hv:timeM a ss p c=some v):0<=v:=by
 cases p with
 | once m=>
  rw [timeM] at hv
  by_cases e:c=0
  ·rw [if_pos e] at hv; cases hv; exact ok.1
  ·rw [if_neg e] at hv; cases hv
 | every f s=>
  rw [timeM] at hv
  cases hv
  have:=Int.mul_nonneg (show (0:Int)<=c by omega) (show (0:Int)<=s by have:=ok.2.1; omega)
  have:=ok.1.1
  omega
 | daily h'=>
  rw [timeM] at hv
  cases hv
  exact v8 z.rise
theorem wb {a last:Int} {ss:Sh} {p:Plan} (z:ZOk a ss) (ok:aH p) (hl:last<=9999):∃ n,Upto a ss p last n:=by
 cases p with
 | once m=>
  by_cases e:m<=last
  ·refine ⟨1,by omega,fun c hc=>⟨m,by rw [timeM,if_pos (by omega)],e⟩,.inl (by rw [timeM,if_neg (by omega)])⟩
  ·exact ⟨0,by omega,fun c hc=>absurd hc (Nat.not_lt_zero c),.inr ⟨m,by rw [timeM,if_pos rfl],by omega⟩⟩
 | every f s=>
  obtain ⟨n,h1,h2,h3⟩:=least (P:=fun (c:Nat)=>last < f + c * s) 10000 (by
   have:=ok.1.1
   have:=Int.mul_le_mul_of_nonneg_left (show (1:Int)<=s from ok.2.1) (show (0:Int)<=((10000:Nat):Int) by omega)
   show last < f + ((10000:Nat):Int) * s
   omega)
  exact ⟨n,by omega,fun c hc=>⟨_,rfl,Int.not_lt.mp (h3 c hc)⟩,.inr ⟨_,rfl,h2⟩⟩
 | daily h=>exact lW z hl
theorem iC {a last:Int} {ss:Sh} {p:Plan} {n:Nat} (z:ZOk a ss) (ok:aH p) (u:Upto a ss p last n) {c:Nat} {v:Int} (h:n<=c) (hv:timeM a ss p c=some v):last < v:=by
 rcases u.out with e | ⟨w,e,hw⟩
 ·cases p with
  | once m=>
   rw [timeM] at e hv
   by_cases e1:n=0
   ·rw [if_pos e1] at e; cases e
   ·rw [if_neg (by omega)] at hv; cases hv
  | every f s=>cases e
  | daily h'=>cases e
 ·have:=uI z ok h e hv
  omega
theorem yA {a a' last:Int} {ss ss':Sh} {p p':Plan} {n n':Nat} (u:Upto a ss p last n) (u':Upto a' ss' p' last n') (h:∀ c v,v<=last->(timeM a ss p c=some v ↔ timeM a' ss' p' c=some v)):n=n':=by
 rcases Nat.lt_trichotomy n n' with hlt | e | hlt
 ·obtain ⟨v,hv,hle⟩:=u'.in_ n hlt
  have hv':=(h n v hle).mpr hv
  rcases u.out with e | ⟨w,e,hw⟩
  ·rw [e] at hv'; cases hv'
  ·rw [e] at hv'; cases hv'; omega
 ·exact e
 ·obtain ⟨v,hv,hle⟩:=u.in_ n' hlt
  have hv':=(h n' v hle).mp hv
  rcases u'.out with e | ⟨w,e,hw⟩
  ·rw [e] at hv'; cases hv'
  ·rw [e] at hv'; cases hv'; omega
theorem wc {a b s last:Int} {ss:Sh} {n:Nat} (u:Upto a ss (.every b s) last n):(∀ c:Nat,c < n->b + c * s<=last)/\last < b + n * s:=by
 refine ⟨fun c hc=>?_,?_⟩
 ·obtain ⟨v,hv,h⟩:=u.in_ c hc
  cases hv
  exact h
 ·rcases u.out with e | ⟨v,e,h⟩
  ·cases e
  ·cases e
   exact h
theorem nN {a b s last:Int} {ss:Sh} {n:Nat} (hs:0 < s) (u:Upto a ss (.every b s) last n):n=wa b (last + 1) s:=by
 obtain ⟨h1,h2⟩:=wc u
 unfold wa
 by_cases h:b < last + 1
 ·rw [if_pos h]
  have n0:0 < n:=by
   refine Nat.pos_of_ne_zero fun e=>?_
   subst e
   simp at h2
   omega
  have h3:=h1 (n - 1) (by omega)
  have e1:((n - 1:Nat):Int)=(n:Int) - 1:=by omega
  rw [e1] at h3
  have e:(last + 1 - b - 1) / s=(n:Int) - 1:=by
   refine Int.le_antisymm ?_ ?_
   ·have:(last + 1 - b - 1) / s < n:=Int.ediv_lt_of_lt_mul hs (by omega)
    omega
   ·exact Int.le_ediv_of_mul_le hs (by omega)
  rw [e]
  omega
 ·rw [if_neg h]
  have:n=0:=by
   refine Nat.eq_zero_of_not_pos fun hp=>?_
   have:=h1 0 hp
   simp at this
   omega
  rw [this]; rfl
theorem k9 {a f:Int} {ss:Sh} {p:Plan} {n:Nat}:(rowsM a ss p f n).length<=n:=by
 unfold rowsM
 exact Nat.le_trans (List.length_filter_le _ _) (by rw [List.length_range]; omega)
theorem uJ {a:Int} {ss:Sh} {p:Plan} (z:ZOk a ss) (ok:aH p):Upto a ss p (0 - 1) 0:=by
 refine ⟨by omega,fun c hc=>absurd hc (Nat.not_lt_zero c),?_⟩
 cases h:timeM a ss p 0 with
 | none=>exact .inl rfl
 | some v=>exact .inr ⟨v,rfl,by have:=rq z ok h; omega⟩
noncomputable def farM (m:Int) (l:List (Int × Option Int × Int)):List Int:=(l.filter fun p=>decide (p.1<=m)).map fun p=>(if bA m p.2.1=true then m else p.2.1.getD 0 - 1) + p.2.2
theorem pV {m:Int}:∀ (ss:Sh) (s a:Int),cE s ss->(∀ x,x ∈ farM m (stret s a ss)->∃ t,s<=t/\t<=m/\aK a ss t=x)/\(∀ t,s<=t->t<=m->∃ x,x ∈ farM m (stret s a ss)/\aK a ss t<=x)
 | [],s,a,_=>by
  unfold stret farM
  by_cases h:s<=m
  ·rw [List.filter_cons,if_pos (decide_eq_true h),List.filter_nil,List.map_cons,List.map_nil]
   simp only [bA,if_true,List.mem_singleton]
   refine ⟨fun x hx=>⟨m,h,Int.le_refl _,by subst hx; rfl⟩,fun t h1 h2=>⟨_,rfl,by show t + a<=m + a; omega⟩⟩
  ·rw [List.filter_cons,if_neg (by simpa using h),List.filter_nil,List.map_nil]
   exact ⟨fun x hx=>(by cases hx),fun t h1 h2=>(by omega)⟩
 | (b,c) :: r,s,a,⟨h1,h2⟩=>by
  obtain ⟨ih1,ih2⟩:=pV (m:=m) r b c h2
  have bef:∀ t,t < b->aK a ((b,c) :: r) t=t + a:=fun t ht=>by
   unfold aK bI
   rw [if_neg (by omega),iB h2 (by omega)]
  have aft:∀ t,b<=t->aK a ((b,c) :: r) t=aK c r t:=fun t ht=>by
   unfold aK
   rw [bI,if_pos ht]
  have e:farM m (stret s a ((b,c) :: r))=(if s<=m then [(if m < b then m else b - 1) + a] else []) ++ farM m (stret b c r):=by
   rw [show stret s a ((b,c) :: r)=(s,some b,a) :: stret b c r from rfl]
   unfold farM
   rw [List.filter_cons]
   by_cases h:s<=m
   ·rw [if_pos (decide_eq_true h),if_pos h,List.map_cons]
    show ((if decide (m < b)=true then m else b - 1) + a) :: _=[(if m < b then m else b - 1) + a] ++ _
    by_cases h':m < b
    ·rw [if_pos (decide_eq_true h'),if_pos h']; rfl
    ·rw [if_neg (by simpa using h'),if_neg h']; rfl
   ·rw [if_neg (by simpa using h),if_neg h]; rfl
  rw [e]
  constructor
  ·intro x hx
   rcases List.mem_append.mp hx with hx | hx
   ·by_cases h:s<=m
    ·rw [if_pos h,List.mem_singleton] at hx
     by_cases h':m < b
     ·rw [if_pos h'] at hx
      exact ⟨m,h,Int.le_refl _,by rw [bef m h',hx]⟩
     ·rw [if_neg h'] at hx
      exact ⟨b - 1,by omega,by omega,by rw [bef _ (by omega),hx]⟩
    ·rw [if_neg h] at hx; cases hx
   ·obtain ⟨t,t1,t2,t3⟩:=ih1 x hx
    exact ⟨t,by omega,t2,by rw [aft _ t1]; exact t3⟩
  ·intro t t1 t2
   by_cases ht:t < b
   ·refine ⟨(if m < b then m else b - 1) + a,List.mem_append.mpr (.inl ?_),?_⟩
    ·rw [if_pos (by omega)]; exact List.mem_singleton.mpr rfl
    ·rw [bef t ht]
     by_cases h':m < b
     ·rw [if_pos h']; omega
     ·rw [if_neg h']; omega
   ·obtain ⟨x,x1,x2⟩:=ih2 t (by omega) t2
    exact ⟨x,List.mem_append.mpr (.inr x1),by rw [aft t (by omega)]; exact x2⟩
noncomputable def goalM (a:Int) (ss:Sh) (h:Int) (k:Nat):Int:=(aZ a ss h + k) * 24 + h
theorem kI {a h m:Int} {ss:Sh} {k:Nat} (hr:cE 0 ss) (h0:0<=m) (h1:m<=bj a ss h k):goalM a ss h k<=aK a ss m ↔ bj a ss h k=m:=by
 obtain ⟨q1,q2,q3⟩:=b8 (g:=goalM a ss h k) (a:=a) hr
 have e:bj a ss h k=ca (goalM a ss h k) 0 a ss:=rfl
 rw [e] at h1 ⊢
 constructor
 ·intro h2
  refine Int.le_antisymm (Int.not_lt.mp fun hlt=>?_) h1
  have:=q3 m h0 hlt
  omega
 ·intro h2
  rw [h2] at q2
  exact q2
noncomputable def cb (a:Int) (ss:Sh) (p:Plan) (n:Nat):List Int:=(List.range n).map fun c=>timeV a ss p c
end Due
namespace K3
open PySem PySem.Spec L2 L2.L3 PyProof.Rows
noncomputable abbrev exL:List Str:=["NoZone","NoPlan","NoMoment","NoDeeds"]
noncomputable def gg:SM:=(aP (f7 (xIs "int" (xV 0)) (f7 (xNot (xIs "bool" (xV 0))) (pp (fun i j=>decide (i<=j)) (fun i j=>decide (i<=j)) (xV 1) (xV 0) (xV 2)))))
noncomputable def bU:FM:=fnM 3 3 gg
noncomputable def fF:SM:=(aP (f7 (xIs "tuple" (xV 0)) (xOp (gEq false) (xCB mP (am (xV 0) aQ)) (xV 1))))
noncomputable def bV:FM:=fnM 2 2 fF
noncomputable def i4:SM:=(bF (aM (xOp gLe (xOp gIxA (xV 3) (xC (.int 0))) (xV 1))) (aT (xOp gIxA (xV 3) (xC (.int 1))) (gNm 2)) sNx)
noncomputable def m3:SM:=(al (aT (xOp gIxA (xV 0) (xC (.int 0))) (gNm 2))
  (al (sForF (iTs (xOp gIxA (xV 0) (xC (.int 1)))) (gNm 3) i4)
  (aP (xOp bZ (xV 1) (xV 2)))))
noncomputable def kB:FM:=fnM 2 4 m3
noncomputable def gY:XM PyData:=(xOp gIxA (xV 0) (xC (.int 0)))
noncomputable def gZ:XM PyData:=(xOp gIxA (xV 0) (xC (.int 1)))
noncomputable def i8:SM:=(al (aT (xOp gK (gA (am (xC (.int 0)) aQ)) (xComp 1 [] (iTs (xOp gIxA (xV 0) (xC (.int 1)))) (gNm 0) bTrue gY)) (gNm 1))
  (al (aT (xOp gK (xU (wO 1) (xV 1)) (gA (am (xC .none) aQ))) (gNm 2))
  (al (aT (xOp gK (gA (am (xOp gIxA (xV 0) (xC (.int 0))) aQ)) (xComp 1 [] (iTs (xOp gIxA (xV 0) (xC (.int 1)))) (gNm 0) bTrue gZ)) (gNm 3))
  (aP (xCB nLZ (am (xV 1) (am (xV 2) (am (xV 3) aQ))))))))
noncomputable def fu:FM:=fnM 1 4 i8
noncomputable def g8:SM:=(aP (xOr (xOp gIs (xV 1) (xC .none)) (xOp gLt (xV 0) (xV 1))))
noncomputable def dZ:FM:=fnM 2 2 g8
noncomputable def dm:SM:=(al (bF (aM (xOp gLt (xV 1) (oK 0))) (aP (sv 0 (xV 1))) sNx)
  (al (bF (vJ 0) (aP (xC (.int 0))) sNx)
  (aP (xOp bZ (xOp mT (sv 0 (xOp mU (xV 1) (oK 0))) (xC (.int 31))) (xV 1)))))
noncomputable def cO:FM:=fnM 2 2 dm
noncomputable def eS:SM:=(aT (xIf (aM (xOp gLe (xV 3) (xV 1))) (xV 4) (xV 2)) (gNm 2))
noncomputable def iD:SM:=(al (aT (xOp gIxA (xV 0) (xC (.int 0))) (gNm 2))
  (al (sForF (iTs (xOp gIxA (xV 0) (xC (.int 1)))) (bT 2 (aI (gNm 3) (aI (gNm 4) bS))) eS)
  (aP (xOp bZ (xV 1) (xV 2)))))
noncomputable def dq:FM:=fnM 2 5 iD
noncomputable def jz:SM:=(jt (ao bU (ag (xV 0) (ag (xC (.int (-12))) (ag (xC (.int (14))) ay)))))
noncomputable def gj:FM:=fnM 1 1 jz
noncomputable def i9:SM:=(jt (ao bU (ag (xV 0) (ag (xC (.int 0)) (ag (xC (.int (9999))) ay)))))
noncomputable def eh:FM:=fnM 1 1 i9
noncomputable def h8:SM:=(aP (f7 (aJ (ao bV (ag (xV 0) (ag (xV 2) ay)))) (f7 (xIs "str" (xOp gIxA (xV 0) (xC (.int 0)))) (xOp (gEq false) (xOp gIxA (xV 0) (xC (.int 0))) (xV 1)))))
noncomputable def cY:FM:=fnM 3 3 h8
noncomputable def fk:XM Bool:=(aM (aJ (ao dZ (ag (xCB pq (am (xV 0) (am (xOp eH (xV 3) (xV 2)) aQ))) (ag (xV 1) ay)))))
noncomputable def fm:XM PyData:=(xCB pq (am (xV 0) (am (xOp eH (xV 3) (xV 2)) aQ)))
noncomputable def gl:SM:=(al (aT (xComp 3 [1] (iLs (aJ (ao fu (ag (xV 0) ay)))) (bT 3 (aI (gNm 0) (aI (gNm 1) (aI (gNm 2) bS)))) fk fm) (gNm 2))
  (aP (xOp gIxA (xV 2) (xC (.int 0)))))
noncomputable def eE:FM:=fnM 2 3 gl
noncomputable def eJ:XM Bool:=(aM (xOp gLe (xV 0) (xV 3)))
noncomputable def ce:XM PyData:=(xOp bZ (xIf (aM (aJ (ao dZ (ag (xV 3) (ag (xV 1) ay))))) (xV 3) (xOp eH (xV 1) (xC (.int 1)))) (xV 2))
noncomputable def fM:SM:=(aP (xCB kq (am (xComp 3 [1] (iLs (aJ (ao fu (ag (xV 0) ay)))) (bT 3 (aI (gNm 0) (aI (gNm 1) (aI (gNm 2) bS)))) eJ ce) aQ)))
noncomputable def dR:FM:=fnM 2 2 fM
noncomputable def jb:SM:=(aP (mM (xOp sD (xOp eH (xV 1) (aJ (ao kB (ag (xV 0) (ag (xC (.int 0)) ay))))) (xC (.int (24))))))
noncomputable def fw:FM:=fnM 2 2 jb
noncomputable def iF:SM:=(al (aT (xOp mU (xOp bZ (xOp bZ (xOp mT (aJ (ao cO (aV 0 (ag (xV 1) ay)))) (xC (.int 1103515245))) (xOp mT (xC (.int 7919)) (xV 1))) (xC (.int 12345))) (xC (.int 2147483647))) (gNm 3))
  (aP (xOp mU (xOp mU (xOp mU (xOp gPow (xV 3) (xC (.int 5))) (xC (.int 2147483647))) (xC (.int 999983))) (xV 2))))
noncomputable def gm:FM:=fnM 3 4 iF
noncomputable def eU:SM:=(aT (xOp bZ (xV 3) (xC (.int 24))) (gNm 3))
noncomputable def eV:XM Bool:=(aM (xOp gLt (xV 3) (aJ (ao dq (ag (xV 0) (ag (xC (.int 0)) ay))))))
noncomputable def eW:SM:=(aT (xOp eH (xV 3) (xC (.int 24))) (gNm 3))
noncomputable def eX:XM Bool:=(aM (xOp gGe (xOp eH (xV 3) (xC (.int 24))) (aJ (ao dq (ag (xV 0) (ag (xC (.int 0)) ay))))))
noncomputable def du:SM:=(al (kX 4 (xV 5))
  (aT (xOp bZ (xV 3) (xC (.int 24))) (gNm 3)))
noncomputable def dw:XM Bool:=(aM (xOp gLe (xV 3) (aJ (ao dq (ag (xV 0) (ag (xV 5) ay))))))
noncomputable def dA:SM:=(be dw du 100000)
noncomputable def dB:SM:=(al (bF (aM (xOp (gEq false) (xOp gIxA (xV 1) (xC (.int 0))) (xC (.str "once")))) (aP (xIf (aM (xOp gLe (xOp gIxA (xV 1) (xC (.int 1))) (xV 2))) (gA (am (xOp gIxA (xV 1) (xC (.int 1))) aQ)) (gA aQ))) sNx)
  (al (bF (aM (xOp (gEq false) (xOp gIxA (xV 1) (xC (.int 0))) (xC (.str "every")))) (aP (xCB sC (am (xOp gIxA (xV 1) (xC (.int 1))) (am (xOp bZ (xV 2) (xC (.int 1))) (am (xOp gIxA (xV 1) (xC (.int 2))) aQ))))) sNx)
  (al (aT (xOp gIxA (xV 1) (xC (.int 1))) (gNm 3))
  (al (be eV eU 100000)
  (al (be eX eW 100000)
  (al (kr 4 (ku aQ))
  (al (sForF (iLf rng1 (am (xOp bZ (xV 2) (xC (.int 1))) aQ)) (gNm 5) dA)
  (sMv 4))))))))
noncomputable def cf:FM:=fnM 3 6 dB
noncomputable def dD:SM:=(al (bF (mO (gL (aM (aJ (ao bV (ag (xV 2) (ag (xC (.int 2)) ay)))))) (gL (aM (aJ (ao gj (ag (xOp gIxA (xV 2) (xC (.int 1))) ay)))))) (aP (xC (.bool false))) sNx)
  (al (bF (gL (aM (aJ (ao bU (ag (xOp gIxA (xV 2) (xC (.int 0))) (ag (xV 1) (ag (xC (.int (9999))) ay))))))) (aP (xC (.bool false))) sNx)
  (aT (xOp bZ (xOp gIxA (xV 2) (xC (.int 0))) (xC (.int 1))) (gNm 1))))
noncomputable def iG:SM:=(al (bF (mO (gL (aM (xIs "tuple" (xV 0)))) (aM (xOp gGt (xCB mP (am (xV 0) aQ)) (xC (.int (6)))))) (aP (xC (.bool false))) sNx)
  (al (aT (xC (.int 1)) (gNm 1))
  (al (sForF (iTs (xV 0)) (gNm 2) dD)
  (aP (xC (.bool true))))))
noncomputable def gn:FM:=fnM 1 3 iG
noncomputable def gS:SM:=(al (bF (aM (aJ (ao cY (ag (xV 0) (ag (xC (.str "once")) (ag (xC (.int 2)) ay)))))) (jt (ao eh (ag (xOp gIxA (xV 0) (xC (.int 1))) ay))) sNx)
  (al (bF (aM (aJ (ao cY (ag (xV 0) (ag (xC (.str "every")) (ag (xC (.int 3)) ay)))))) (aP (f7 (aJ (ao eh (ag (xOp gIxA (xV 0) (xC (.int 1))) ay))) (aJ (ao bU (ag (xOp gIxA (xV 0) (xC (.int 2))) (ag (xC (.int 1)) (ag (xC (.int (999))) ay))))))) sNx)
  (aP (f7 (aJ (ao cY (ag (xV 0) (ag (xC (.str "daily")) (ag (xC (.int 2)) ay))))) (aJ (ao bU (ag (xOp gIxA (xV 0) (xC (.int 1))) (ag (xC (.int 0)) (ag (xC (.int (23))) ay)))))))))
noncomputable def eK:FM:=fnM 1 1 gS
noncomputable def gT:SM:=(al (bF (aM (xIs "str" (xV 0))) (aP (xOr (xOp (gEq false) (xV 0) (xC (.str "all"))) (xOp (gEq false) (xV 0) (xC (.str "last"))))) sNx)
  (aP (f7 (aJ (ao cY (ag (xV 0) (ag (xC (.str "within")) (ag (xC (.int 2)) ay))))) (aJ (ao bU (ag (xOp gIxA (xV 0) (xC (.int 1))) (ag (xC (.int 0)) (ag (xC (.int (999))) ay))))))))
noncomputable def fS:FM:=fnM 1 1 gT
noncomputable def gE:SM:=(bF (gL (aM (aJ (ao eh (ag (xV 0) ay))))) (ij "NoMoment") sNx)
noncomputable def bJ:FM:=fnM 1 1 gE
noncomputable def iH:SM:=(al (aT (xOp bZ (aJ (ao fw (ag (xV 0) (ag (xV 1) ay)))) (xV 2)) (gNm 3))
  (jt (ao eE (ag (xV 0) (ag (xOp bZ (xOp mT (xV 3) (xC (.int (24)))) (xV 1)) ay)))))
noncomputable def gp:FM:=fnM 3 4 iH
noncomputable def dS:SM:=(al (bF (aM (xOp gLt (xV 2) (xC (.int 0)))) (aP (xC (.int 0))) sNx)
  (al (bF (aM (xOp (gEq false) (xOp gIxA (xV 1) (xC (.int 0))) (xC (.str "once")))) (aP (xIf (aM (xOp gLe (xOp gIxA (xV 1) (xC (.int 1))) (xV 2))) (xC (.int 1)) (xC (.int 0)))) sNx)
  (al (bF (aM (xOp (gEq false) (xOp gIxA (xV 1) (xC (.int 0))) (xC (.str "every")))) (aP (xCB pq (am (xC (.int 0)) (am (xOp bZ (xOp sD (xOp eH (xV 2) (xOp gIxA (xV 1) (xC (.int 1)))) (xOp gIxA (xV 1) (xC (.int 2)))) (xC (.int 1))) aQ)))) sNx)
  (al (aT (xOp sD (xOp eH (aJ (ao dR (ag (xV 0) (ag (xV 2) ay)))) (xOp gIxA (xV 1) (xC (.int 1)))) (xC (.int (24)))) (gNm 3))
  (aP (xOp bZ (xOp eH (xV 3) (aJ (ao fw (ag (xV 0) (ag (xOp gIxA (xV 1) (xC (.int 1))) ay))))) (xC (.int 1))))))))
noncomputable def cZ:FM:=fnM 3 4 dS
noncomputable def jc:SM:=(al (kX 1 (xC (.int 0)))
  (jt (ao gm (aV 0 (ag (sB 1) (ag (xV 2) ay))))))
noncomputable def bg:FM:=fnM 3 3 jc
noncomputable def kb:SM:=(aP (f7 (aJ (ao bV (ag (xV 0) (ag (xC (.int 2)) ay)))) (f7 (aJ (ao gj (ag (xOp gIxA (xV 0) (xC (.int 0))) ay))) (aJ (ao gn (ag (xOp gIxA (xV 0) (xC (.int 1))) ay))))))
noncomputable def i5:FM:=fnM 1 1 kb
noncomputable def kc:SM:=(aP (f7 (aJ (ao bV (ag (xV 0) (ag (xC (.int 3)) ay)))) (f7 (aJ (ao eK (ag (xOp gIxA (xV 0) (xC (.int 0))) ay))) (f7 (aJ (ao fS (ag (xOp gIxA (xV 0) (xC (.int 1))) ay))) (xIs "bool" (xOp gIxA (xV 0) (xC (.int 2))))))))
noncomputable def i6:FM:=fnM 1 1 kc
noncomputable def iI:SM:=(bF (gL (aM (aJ (ao eK (ag (xV 0) ay))))) (ij "NoPlan") sNx)
noncomputable def gq:FM:=fnM 1 1 iI
noncomputable def gt:SM:=(al (gd (ao bJ (ag (xV 0) ay)))
  (al (gd (ao bJ (ag (xV 1) ay)))
  (bF (aM (xOp gLt (xV 1) (xV 0))) (ij "NoMoment") sNx)))
noncomputable def eF:FM:=fnM 2 2 gt
noncomputable def fT:SM:=(al (bF (aM (xOp (gEq false) (xOp gIxA (xV 1) (xC (.int 0))) (xC (.str "once")))) (aP (xIf (aM (xOp (gEq false) (xV 2) (xC (.int 0)))) (xOp gIxA (xV 1) (xC (.int 1))) (xC .none))) sNx)
  (al (bF (aM (xOp (gEq false) (xOp gIxA (xV 1) (xC (.int 0))) (xC (.str "every")))) (aP (xOp bZ (xOp gIxA (xV 1) (xC (.int 1))) (xOp mT (xV 2) (xOp gIxA (xV 1) (xC (.int 2)))))) sNx)
  (jt (ao gp (ag (xV 0) (ag (xOp gIxA (xV 1) (xC (.int 1))) (ag (xV 2) ay)))))))
noncomputable def cF:FM:=fnM 3 3 fT
noncomputable def jd:SM:=(aP (xOp gIxA (xV 2) (aJ (ao bg (aV 0 (aV 1 (ag (xCB mP (am (xV 2) aQ)) ay)))))))
noncomputable def ei:FM:=fnM 3 3 jd
noncomputable def fG:XM PyData:=(aJ (ao i6 (ag (xV 0) ay)))
noncomputable def je:SM:=(al (bF (mO (gL (aM (xIs "tuple" (xV 0)))) (aM (xOp gGt (xCB mP (am (xV 0) aQ)) (xC (.int (6)))))) (aP (xC (.bool false))) sNx)
  (aP (xCB nAll (am (xComp 1 [] (iTs (xV 0)) (gNm 0) bTrue fG) aQ))))
noncomputable def jf:FM:=fnM 1 1 je
noncomputable def iJ:SM:=(bF (gL (aM (aJ (ao i5 (ag (xV 0) ay))))) (ij "NoZone") sNx)
noncomputable def dE:FM:=fnM 1 1 iJ
noncomputable def d7:SM:=(al (aT (xOp bZ (xOp bZ (xV 4) (xC (.int 1))) (aJ (ao bg (aV 0 (aV 1 (ag (xV 2) ay)))))) (gNm 4))
  (aT (xOp lK (xV 3) (et (am (et (am (xV 4) (am (aJ (ao ei (aV 0 (aV 1 (ag (gA (am (xC (.int 0)) (am (xC (.int 1)) (am (xC (.int 2)) (am (mM (xC (.int 1))) (am (xC (.int 14)) (am (mM (xC (.int 12))) (am (xC (.int 3)) aQ)))))))) ay))))) aQ))) aQ))) (gNm 3)))
noncomputable def jg:SM:=(al (aT (et (am (et aQ) (am (xC (.int 0)) aQ))) (bT 2 (aI (gNm 3) (aI (gNm 4) bS))))
  (al (sForF (iLf rng1 (am (aJ (ao bg (aV 0 (aV 1 (ag (xC (.int 5)) ay))))) aQ)) (gNm 5) d7)
  (aP (et (am (aJ (ao ei (aV 0 (aV 1 (ag (gA (am (xC (.int 0)) (am (xC (.int 1)) (am (xC (.int 2)) (am (mM (xC (.int 1))) (am (xC (.int 14)) (am (mM (xC (.int 12))) aQ))))))) ay))))) (am (xV 3) aQ))))))
noncomputable def gP:FM:=fnM 3 6 jg
noncomputable def fz:SM:=(al (aT (aJ (ao bg (aV 0 (aV 1 (ag (xC (.int 3)) ay))))) (gNm 3))
  (al (bF (aM (xOp (gEq false) (xV 3) (xC (.int 0)))) (aP (et (am (xC (.str "once")) (am (aJ (ao bg (aV 0 (aV 1 (ag (xV 2) ay))))) aQ)))) sNx)
  (al (bF (aM (xOp (gEq false) (xV 3) (xC (.int 1)))) (al (aT (xOp bZ (xC (.int 1)) (aJ (ao bg (aV 0 (aV 1 (ag (aJ (ao ei (aV 0 (aV 1 (ag (gA (am (xC (.int 3)) (am (xC (.int 30)) (am (xC (.int 200)) aQ)))) ay))))) ay)))))) (gNm 4))
  (aP (et (am (xC (.str "every")) (am (aJ (ao bg (aV 0 (aV 1 (ag (xV 2) ay))))) (am (xV 4) aQ)))))) sNx)
  (aP (et (am (xC (.str "daily")) (am (aJ (ao bg (aV 0 (aV 1 (ag (xC (.int 24)) ay))))) aQ)))))))
noncomputable def ek:FM:=fnM 3 5 fz
noncomputable def g9:SM:=(bF (gL (aM (aJ (ao jf (ag (xV 0) ay))))) (ij "NoDeeds") sNx)
noncomputable def d8:FM:=fnM 1 1 g9
noncomputable def fN:SM:=(al (bF (aM (xOp gLe (xV 2) (xV 6))) (kX 4 (et (am (xV 5) (am (xV 6) aQ)))) sNx)
  (al (sA 5 (xC (.int 1)) (fun i j=>i + j))
  (aT (aJ (ao cF (ag (xV 0) (ag (xV 1) (ag (xV 5) ay))))) (gNm 6))))
noncomputable def gF:XM Bool:=(sr (aM (xOp fo (xV 6) (xC .none))) (aM (xOp gLe (xV 6) (xV 3))))
noncomputable def pW:SM:=(al (gd (ao dE (ag (xV 0) ay)))
  (al (gd (ao gq (ag (xV 1) ay)))
  (al (gd (ao bJ (ag (xV 2) ay)))
  (al (gd (ao bJ (ag (xV 3) ay)))
  (al (kr 4 (ku aQ))
  (al (aT (xC (.int 0)) (gNm 5))
  (al (aT (aJ (ao cF (ag (xV 0) (ag (xV 1) (ag (xV 5) ay))))) (gNm 6))
  (al (be gF fN 100000)
  (sMv 4)))))))))
noncomputable def lZ:FM:=fnM 4 7 pW
noncomputable def dF:SM:=(aT (xOp lK (xV 4) (et (am (et (am (aJ (ao ek (aV 0 (aV 1 (ag (xV 3) ay))))) (am (xC (.str "all")) (am (xC (.bool true)) aQ)))) aQ))) (gNm 4))
noncomputable def iK:SM:=(al (aT (et aQ) (gNm 4))
  (al (sForF (iLf rng1 (am (aJ (ao bg (aV 0 (aV 1 (ag (xOp bZ (xV 2) (xC (.int 1))) ay))))) aQ)) (gNm 5) dF)
  (aP (xV 4))))
noncomputable def gu:FM:=fnM 4 6 iK
noncomputable def cR:SM:=(kX 4 (et (am (xV 8) (am (xV 5) (am (xV 7) aQ)))))
noncomputable def cS:SM:=(sForF (iLs (aJ (ao lZ (ag (xV 0) (ag (xOp gIxA (xV 6) (xC (.int 0))) (ag (xV 2) (ag (xV 3) ay))))))) (bT 2 (aI (gNm 7) (aI (gNm 8) bS))) cR)
noncomputable def gG:SM:=(al (kr 4 (ku aQ))
  (al (sForF (iLf pU (am (xV 1) aQ)) (bT 2 (aI (gNm 5) (aI (gNm 6) bS))) cS)
  (aP (xCB jy (am (xV 4) aQ)))))
noncomputable def eY:FM:=fnM 4 9 gG
noncomputable def fO:SM:=(al (gd (ao dE (ag (xV 0) ay)))
  (al (gd (ao d8 (ag (xV 1) ay)))
  (gd (ao eF (ag (xV 2) (ag (xV 3) ay))))))
noncomputable def dU:FM:=fnM 4 4 fO
noncomputable def cT:SM:=(al (aT (aJ (ao cZ (ag (xV 0) (ag (xOp gIxA (xV 5) (xC (.int 0))) (ag (xOp eH (xV 2) (xC (.int 1))) ay))))) (gNm 6))
  (al (aT (aJ (ao cF (ag (xV 0) (ag (xOp gIxA (xV 5) (xC (.int 0))) (ag (xV 6) ay))))) (gNm 7))
  (bF (aM (xOp fo (xV 7) (xC .none))) (kX 3 (et (am (xV 7) (am (xV 4) (am (xV 6) aQ))))) sNx)))
noncomputable def jA:SM:=(al (gd (ao dE (ag (xV 0) ay)))
  (al (gd (ao d8 (ag (xV 1) ay)))
  (al (gd (ao bJ (ag (xV 2) ay)))
  (al (kr 3 (ku aQ))
  (al (sForF (iLf pU (am (xV 1) aQ)) (bT 2 (aI (gNm 4) (aI (gNm 5) bS))) cT)
  (aP (lS 3)))))))
noncomputable def h9:FM:=fnM 3 8 jA
noncomputable def fP:XM PyData:=(xOp gIxA (xV 0) (xC (.int 0)))
noncomputable def b6:SM:=(al (bF (aM (xOp gGt (xOp eH (xV 8) (xV 6)) (xV 4))) (al (aT (xOp eH (xV 8) (xV 6)) (gNm 4))
  (aT (et (am (xV 6) (am (xOp eH (xV 8) (xC (.int 1))) aQ))) (gNm 5))) sNx)
  (aT (xOp bZ (xV 8) (xC (.int 1))) (gNm 6)))
noncomputable def gH:SM:=(al (gd (ao dU (ag (xV 0) (ag (xV 1) (ag (xV 2) (ag (xV 3) ay))))))
  (al (aT (xC (.int 0)) (gNm 4))
  (al (aT (xC .none) (gNm 5))
  (al (aT (xV 2) (gNm 6))
  (al (aT (xOp gK (xComp 1 [] (iLs (aJ (ao eY (ag (xV 0) (ag (xV 1) (ag (xV 2) (ag (xV 3) ay))))))) (gNm 0) bTrue fP) (gA (am (xOp bZ (xV 3) (xC (.int 1))) aQ))) (gNm 7))
  (al (sForF (iLs (xV 7)) (gNm 8) b6)
  (aP (xV 5))))))))
noncomputable def eZ:FM:=fnM 4 9 gH
noncomputable def m4:SM:=(kr 1 (ku aQ))
noncomputable def m5:SM:=(aT (aJ (ao gP (aV 0 (aV 1 (ag (xC (.int 60)) ay))))) (gNm 2))
noncomputable def m6:SM:=(aT (aJ (ao gu (aV 0 (aV 1 (ag (xC (.int 4)) (ag (xC (.int 150)) ay)))))) (gNm 3))
noncomputable def m7:SM:=(aT (aJ (ao bg (aV 0 (aV 1 (ag (xC (.int 160)) ay))))) (gNm 4))
noncomputable def m8:SM:=(aT (gA aQ) (gNm 5))
noncomputable def m9:XM Bool:=(aM (xOp gGe (xOp gIxA (xV 0) (xC (.int 1))) (xV 1)))
noncomputable def ng:XM PyData:=(xV 0)
noncomputable def rz:XM PyData:=(et (am (xV 1) (am (xV 2) (am (xV 0) aQ))))
noncomputable def ik:SM:=(al (aT (xComp 1 [4] (iLf vM (am (aJ (ao cf (ag (xV 2) (ag (xOp gIxA (xV 7) (xC (.int 0))) (ag (xC (.int 500)) ay))))) aQ)) (gNm 0) m9 ng) (gNm 8))
  (aT (xOp gK (xV 5) (xComp 2 [6] (iLs (xSl (xV 8) pNo (pIs (xC (.int 1))))) (bT 2 (aI (gNm 0) (aI (gNm 1) bS))) bTrue rz)) (gNm 5)))
noncomputable def jB:SM:=(sForF (iLf pU (am (xV 3) aQ)) (bT 2 (aI (gNm 6) (aI (gNm 7) bS))) ik)
noncomputable def lb:SM:=(bF (aM (xOp (gEq true) (aJ (ao h9 (ag (xV 2) (ag (xV 3) (ag (xV 4) ay))))) (xOp gIxA (xOp gK (xCB jy (am (xV 5) aQ)) (gA (am (xC .none) aQ))) (xC (.int 0))))) (aP (xC (.bool false))) sNx)
noncomputable def lc:SM:=(aT (xOp bZ (xV 4) (aJ (ao bg (aV 0 (aV 1 (ag (xC (.int 80)) ay)))))) (gNm 9))
noncomputable def ld:SM:=(aT (gA aQ) (gNm 10))
noncomputable def iM:SM:=(aT (xOp gK (xV 10) (aJ (ao cf (ag (xV 2) (ag (xOp gIxA (xV 7) (xC (.int 0))) (ag (xV 9) ay)))))) (gNm 10))
noncomputable def jC:SM:=(sForF (iTs (xV 3)) (gNm 7) iM)
noncomputable def lh:SM:=(wP 11 12 (am (xC .none) (am (xV 4) aQ)))
noncomputable def bG:SM:=(bF (mO (aM (xOp (gIn false) (xV 13) (xV 10))) (aM (xOp (gEq false) (xV 13) (xOp bZ (xV 9) (xC (.int 1)))))) (al (bF (sr (aM (xOp gGt (xV 13) (xV 12))) (mO (aM (xOp gIs (xV 11) (xC .none))) (aM (xOp gGt (xOp eH (xV 13) (xV 12)) (xOp bZ (xOp eH (xOp gIxA (xV 11) (xC (.int 1))) (xOp gIxA (xV 11) (xC (.int 0)))) (xC (.int 1))))))) (aT (et (am (xV 12) (am (xOp eH (xV 13) (xC (.int 1))) aQ))) (gNm 11)) sNx)
  (aT (xOp bZ (xV 13) (xC (.int 1))) (gNm 12))) sNx)
noncomputable def li:SM:=(sForF (iLf mW (am (xV 4) (am (xOp bZ (xV 9) (xC (.int 2))) aQ))) (gNm 13) bG)
noncomputable def ls:SM:=(aP (xOp (gEq false) (aJ (ao eZ (ag (xV 2) (ag (xV 3) (ag (xV 4) (ag (xV 9) ay)))))) (xV 11)))
noncomputable def sN:SM:=(al m4
  (al m5
  (al m6
  (al m7
  (al m8
  (al jB
  (al lb
  (al lc
  (al ld
  (al jC
  (al lh
  (al li
  ls))))))))))))
noncomputable def wR:FM:=fnM 1 14 sN
noncomputable def top (i:Nat):Stmt:=PySem.Challenge.pw_duehall_k20_whole_next_and_idle.main.body.getD i (.Pass ⟨0,0,0,0⟩)
noncomputable abbrev c6:Stmt:=top 15
noncomputable abbrev bW:Stmt:=top 16
noncomputable abbrev c7:Stmt:=top 17
noncomputable abbrev cG:Stmt:=top 18
noncomputable abbrev cg:Stmt:=top 19
noncomputable abbrev dJ:Stmt:=top 20
noncomputable abbrev c8:Stmt:=top 21
noncomputable abbrev dL:Stmt:=top 22
noncomputable abbrev dM:Stmt:=top 23
noncomputable abbrev dN:Stmt:=top 24
noncomputable abbrev cH:Stmt:=top 25
noncomputable abbrev ci:Stmt:=top 26
noncomputable abbrev cj:Stmt:=top 27
noncomputable abbrev bK:Stmt:=top 28
noncomputable abbrev bC:Stmt:=top 29
noncomputable abbrev bX:Stmt:=top 30
noncomputable abbrev fU:Stmt:=top 33
noncomputable abbrev cI:Stmt:=top 34
noncomputable abbrev bY:Stmt:=top 35
noncomputable abbrev bD:Stmt:=top 36
noncomputable abbrev bu:Stmt:=top 37
noncomputable abbrev cJ:Stmt:=top 39
noncomputable abbrev cn:Stmt:=top 40
noncomputable abbrev dO:Stmt:=top 41
noncomputable abbrev c9:Stmt:=top 42
noncomputable abbrev gU:Stmt:=top 43
noncomputable abbrev bL:Stmt:=top 45
noncomputable abbrev bv:Stmt:=top 46
noncomputable abbrev bM:Stmt:=top 47
noncomputable abbrev da:Stmt:=top 48
noncomputable abbrev bN:Stmt:=top 50
noncomputable abbrev cp:Stmt:=top 51
noncomputable abbrev cK:Stmt:=top 52
noncomputable abbrev cL:Stmt:=top 53
noncomputable abbrev cM:Stmt:=top 54
noncomputable abbrev cq:Stmt:=top 55
noncomputable abbrev cN:Stmt:=top 56
noncomputable abbrev cr:Stmt:=top 57
noncomputable abbrev cu:Stmt:=top 58
noncomputable abbrev s_law:Stmt:=top 59
theorem qz:FnScope ["thing","least","most"] ["thing","least","most"] (ae c6):=scm
theorem nh:FnScope ["thing","length"] ["thing","length"] (ae bW):=scm
theorem qA:FnScope ["thing"] ["thing"] (ae c7):=scm
theorem pX:FnScope ["thing"] ["thing"] (ae cG):=scm
theorem fH:FnScope ["thing","earliest","shift"] ["thing"] (ae cg):=scm
theorem sO:FnScope ["thing"] ["thing"] (ae dJ):=scm
theorem qC:FnScope ["thing","word","length"] ["thing","word","length"] (ae c8):=scm
theorem sP:FnScope ["thing"] ["thing"] (ae dL):=scm
theorem sQ:FnScope ["thing"] ["thing"] (ae dM):=scm
theorem sR:FnScope ["thing"] ["thing"] (ae dN):=scm
theorem pY:FnScope ["thing"] ["thing"] (ae cH):=scm
theorem ov:FnScope ["thing"] ["thing"] (ae ci):=scm
theorem ow:FnScope ["thing"] ["thing"] (ae cj):=scm
theorem l5:FnScope ["thing"] ["thing"] (ae bK):=scm
theorem lu:FnScope ["first","last"] ["first","last"] (ae bC):=scm
theorem ni:FnScope ["thing"] ["thing"] (ae bX):=scm
theorem jD:FnScope ["zone","moment","ahead","shift"] ["zone","moment"] (ae fU):=scm
theorem gv:FnScope ["zone","starts","ends","aheads"] ["zone"] (ae cI):=scm
theorem nj:FnScope ["moment","end"] ["moment","end"] (ae bY):=scm
theorem iN:FnScope ["zone","hours","reached"] ["zone","hours"] (ae bD):=scm
theorem kC:FnScope ["zone","moment"] ["zone","moment"] (ae bu):=scm
theorem pZ:FnScope ["zone","hour"] ["zone","hour"] (ae cJ):=scm
theorem jK:FnScope ["zone","hour","count","day"] ["zone","hour","count"] (ae cn):=scm
theorem sS:FnScope ["zone","plan","count"] ["zone","plan","count"] (ae dO):=scm
theorem kJ:FnScope ["zone","plan","moment","last_day"] ["zone","plan","moment"] (ae c9):=scm
theorem il:FnScope ["zone","plan","first","last","found","count","moment"] ["zone","plan","first","last"] (ae gU):=scm
theorem cw:FnScope ["zone","deeds","first","last","found","number","deed","count","moment"] ["zone","deeds","first","last"] (ae bL):=scm
theorem kD:FnScope ["zone","deeds","first","last"] ["zone","deeds","first","last"] (ae bv):=scm
theorem bq:FnScope ["zone","deeds","first","last","longest","found","start","ends","end"] ["zone","deeds","first","last"] (ae bM):=scm
theorem em:FnScope ["zone","deeds","moment","found","number","deed","count","later"] ["zone","deeds","moment"] (ae da):=scm
theorem l6:FnScope ["_law_script","_law_k"] ["_law_script","_law_k"] (ae bN):=scm
theorem jL:FnScope ["_law_script","_law_k","_law_many","_law_drawn"] ["_law_script","_law_k","_law_many"] (ae cp):=scm
theorem p0:FnScope ["_law_script","_law_town","_law_many"] ["_law_script","_law_town","_law_many"] (ae cK):=scm
theorem p4:FnScope ["_law_script","_law_town","_law_some"] ["_law_script","_law_town","_law_some"] (ae cL):=scm
theorem dG:FnScope ["_law_script","_law_town","_law_wide","_law_made","_law_at","_law_k"] ["_law_script","_law_town","_law_wide"] (ae cM):=scm
theorem d9:FnScope ["_law_zone_here","_law_moment","_law_ahead","_law_begin","_law_more"] ["_law_zone_here","_law_moment"] (ae cq):=scm
theorem iO:FnScope ["_law_script","_law_town","_law_wide","_law_kind","_law_step"] ["_law_script","_law_town","_law_wide"] (ae cN):=scm
theorem cy:FnScope ["_law_zone_here","_law_plan_here","_law_last","_law_goal","_law_made","_law_moment"] ["_law_zone_here","_law_plan_here","_law_last"] (ae cr):=scm
theorem fJ:FnScope ["_law_script","_law_town","_law_most","_law_wide","_law_made","_law_k"] ["_law_script","_law_town","_law_most","_law_wide"] (ae cu):=scm
theorem b3:FnScope ["_law_script","_law_town","_law_zone_here","_law_deeds_here","_law_moment","_law_some","_law_number","_law_deed","_law_rows","_law_last","_law_busy","_law_best","_law_begin","_law_here"] ["_law_script"] (ae s_law):=scm
structure Tx (K:PySem.W.Frag) (mg:Str->Option Value):Prop where
 d_is_whole:∃ g fd,FD K mg "is_whole" c6 ["thing","least","most"] g fd
 d_is_tuple_of:∃ g fd,FD K mg "is_tuple_of" bW ["thing","length"] g fd
 d_is_ahead:∃ g fd,FD K mg "is_ahead" c7 ["thing"] g fd
 d_is_moment:∃ g fd,FD K mg "is_moment" cG ["thing"] g fd
 d_are_shifts:∃ g fd,FD K mg "are_shifts" cg ["thing"] g fd
 d_is_zone:∃ g fd,FD K mg "is_zone" dJ ["thing"] g fd
 d_has_word:∃ g fd,FD K mg "has_word" c8 ["thing","word","length"] g fd
 d_is_plan:∃ g fd,FD K mg "is_plan" dL ["thing"] g fd
 d_is_late:∃ g fd,FD K mg "is_late" dM ["thing"] g fd
 d_is_deed:∃ g fd,FD K mg "is_deed" dN ["thing"] g fd
 d_are_deeds:∃ g fd,FD K mg "are_deeds" cH ["thing"] g fd
 d_check_zone:∃ g fd,FD K mg "check_zone" ci ["thing"] g fd
 d_check_plan:∃ g fd,FD K mg "check_plan" cj ["thing"] g fd
 d_check_moment:∃ g fd,FD K mg "check_moment" bK ["thing"] g fd
 d_check_stretch:∃ g fd,FD K mg "check_stretch" bC ["first","last"] g fd
 d_check_deeds:∃ g fd,FD K mg "check_deeds" bX ["thing"] g fd
 d_shown:∃ g fd,FD K mg "shown" fU ["zone","moment"] g fd
 d_stretches:∃ g fd,FD K mg "stretches" cI ["zone"] g fd
 d_is_ahead_of:∃ g fd,FD K mg "is_ahead_of" bY ["moment","end"] g fd
 d_first_showing:∃ g fd,FD K mg "first_showing" bD ["zone","hours"] g fd
 d_furthest_shown:∃ g fd,FD K mg "furthest_shown" bu ["zone","moment"] g fd
 d_first_day:∃ g fd,FD K mg "first_day" cJ ["zone","hour"] g fd
 d_daily_time:∃ g fd,FD K mg "daily_time" cn ["zone","hour","count"] g fd
 d_time_of:∃ g fd,FD K mg "time_of" dO ["zone","plan","count"] g fd
 d_times_by:∃ g fd,FD K mg "times_by" c9 ["zone","plan","moment"] g fd
 d_dues:∃ g fd,FD K mg "dues" gU ["zone","plan","first","last"] g fd
 d_rows_between:∃ g fd,FD K mg "rows_between" bL ["zone","deeds","first","last"] g fd
 d_check_calendar:∃ g fd,FD K mg "check_calendar" bv ["zone","deeds","first","last"] g fd
 d_idle_stretch:∃ g fd,FD K mg "idle_stretch" bM ["zone","deeds","first","last"] g fd
 d_next_due:∃ g fd,FD K mg "next_due" da ["zone","deeds","moment"] g fd
 d__law_cell_at:∃ g fd,FD K mg "_law_cell_at" bN ["_law_script","_law_k"] g fd
 d__law_mixed:∃ g fd,FD K mg "_law_mixed" cp ["_law_script","_law_k","_law_many"] g fd
 d__law_draw:∃ g fd,FD K mg "_law_draw" cK ["_law_script","_law_town","_law_many"] g fd
 d__law_pick:∃ g fd,FD K mg "_law_pick" cL ["_law_script","_law_town","_law_some"] g fd
 d__law_zone:∃ g fd,FD K mg "_law_zone" cM ["_law_script","_law_town","_law_wide"] g fd
 d__law_shown:∃ g fd,FD K mg "_law_shown" cq ["_law_zone_here","_law_moment"] g fd
 d__law_plan:∃ g fd,FD K mg "_law_plan" cN ["_law_script","_law_town","_law_wide"] g fd
 d__law_times:∃ g fd,FD K mg "_law_times" cr ["_law_zone_here","_law_plan_here","_law_last"] g fd
 d__law_deeds:∃ g fd,FD K mg "_law_deeds" cu ["_law_script","_law_town","_law_most","_law_wide"] g fd
 c_LAST_MOMENT:∃ t,mg "LAST_MOMENT" = some (.int (9999) t)
 c_LAST_HOUR:∃ t,mg "LAST_HOUR" = some (.int (23) t)
 c_LEAST_AHEAD:∃ t,mg "LEAST_AHEAD" = some (.int (-12) t)
 c_MOST_AHEAD:∃ t,mg "MOST_AHEAD" = some (.int (14) t)
 c_MOST_SHIFTS:∃ t,mg "MOST_SHIFTS" = some (.int (6) t)
 c_MOST_STEP:∃ t,mg "MOST_STEP" = some (.int (999) t)
 c_MOST_DEEDS:∃ t,mg "MOST_DEEDS" = some (.int (6) t)
 c_MOST_WITHIN:∃ t,mg "MOST_WITHIN" = some (.int (999) t)
 c_DAY_HOURS:∃ t,mg "DAY_HOURS" = some (.int (24) t)
 b_all:mg "all" = none
 b_bool:mg "bool" = none
 b_enumerate:mg "enumerate" = none
 b_int:mg "int" = none
 b_isinstance:mg "isinstance" = none
 b_len:mg "len" = none
 b_list:mg "list" = none
 b_max:mg "max" = none
 b_min:mg "min" = none
 b_range:mg "range" = none
 b_sorted:mg "sorted" = none
 b_str:mg "str" = none
 b_tuple:mg "tuple" = none
 b_zip:mg "zip" = none
 xt0:∃ D,XT K mg exL D
theorem AI:bootBuiltins "int" = some (.type "int"):=by decide +kernel
theorem rA:bootBuiltins "bool" = some (.type "bool"):=by decide +kernel
theorem uK:bootBuiltins "str" = some (.type "str"):=by decide +kernel
theorem lx:bootBuiltins "tuple" = some (.type "tuple"):=by decide +kernel
theorem BP:bootBuiltins "list" = some (.type "list"):=by decide +kernel
theorem l7:bootBuiltins "max" = some (.builtin "max"):=by decide +kernel
theorem BO:bootBuiltins "divmod" = some (.builtin "divmod"):=by decide +kernel
theorem AJ:bootBuiltins "all" = some (.builtin "all"):=by decide +kernel
theorem bt_sum:bootBuiltins "sum" = some (.builtin "sum"):=by decide +kernel
theorem bt_min:bootBuiltins "min" = some (.builtin "min"):=by decide +kernel
theorem nP:bootBuiltins "sorted" = some (.builtin "sorted"):=by decide +kernel
theorem we {X:Cx} {F:Fx}:XOk X F E0':=fun _ _ _ _ _ _ _ _ _ _ z=>z.elim
section
variable (P:Program) (w:World) {K:PySem.W.Frag} {mg:Str->Option Value} (base:Heap)
theorem fA {g:Addr} {fd:FuncData} (T:Tx K mg) (D:FD K mg "is_whole" c6 ["thing","least","most"] g fd):FnOk P w K mg base (CXM P w) 1 g fd ["thing","least","most"] (spF K mg bU):=by
 refine bi D.fn qz (by decide) ?_
 intro cdv A outer s H E F E' hr hx
 unfold gg
 refine af ?_
 refine aF ?_
 ·exact (di (iX (dI rfl T.b_isinstance (fv 0) (fQ rfl T.b_int AI rfl))) (di (As (iX (dI rfl T.b_isinstance (fv 0) (fQ rfl T.b_bool rA rfl)))) (fq (yh (fv 1) (fv 0) (fv 2)))))
theorem fe {g:Addr} {fd:FuncData} (T:Tx K mg) (D:FD K mg "is_tuple_of" bW ["thing","length"] g fd):FnOk P w K mg base (CXM P w) 1 g fd ["thing","length"] (spF K mg bV):=by
 refine bi D.fn nh (by decide) ?_
 intro cdv A outer s H E F E' hr hx
 unfold fF
 refine af ?_
 refine aF ?_
 ·exact (di (iX (dI rfl T.b_isinstance (fv 0) (fQ rfl T.b_tuple lx rfl))) (fq (lQ hr.units (f9 lN (cP dg oI rfl T.b_len PySem.boot_len (au (fv 0) av))) (fv 1))))
theorem wg {g:Addr} {fd:FuncData} (T:Tx K mg) (D:FD K mg "shown" fU ["zone","moment"] g fd):FnOk P w K mg base (CXM P w) 1 g fd ["zone","moment"] (spF K mg kB):=by
 refine bi D.fn jD (by decide) ?_
 intro cdv A outer s H E F E' hr hx
 unfold m3
 refine ad ?_ ?_
 ·refine aG (i:=2) ?_ ?_ ?_ ?_ ?_ ?_ <;> try first|rfl|exact .inl rfl|exact .inr rfl|assumption|exact fun _=>rfl
  ·exact jD.nd
  ·exact (aE (fv 0) (fe_c aa))
 refine ad ?_ ?_
 ·refine dl ?_ ?_ ?_ ?_ ?_ ?_ <;> try first|rfl|exact .inl rfl|exact .inr rfl|assumption|exact fun _=>rfl
  ·exact PassesOwn.leaving
  ·exact (ix (aE (fv 0) (fe_c aa)))
  ·exact (fgn 3 jD.nd)
  ·unfold i4
   refine af ?_
   refine bp ?_ ?_ ?_
   ·exact (iY (aE (fv 3) (fe_c aa)) (fv 1))
   ·refine af ?_
    refine aG (i:=2) ?_ ?_ ?_ ?_ ?_ ?_ <;> try first|rfl|exact .inl rfl|exact .inr rfl|assumption|exact fun _=>rfl
    ·exact jD.nd
    ·exact (aE (fv 3) (fe_c aa))
   ·exact aS
 refine af ?_
 refine aF ?_
 ·exact (bf (fv 1) (fv 2))
theorem kd {g:Addr} {fd:FuncData} (T:Tx K mg) (D:FD K mg "stretches" cI ["zone"] g fd):FnOk P w K mg base (CXM P w) 1 g fd ["zone"] (spF K mg fu):=by
 refine bi D.fn gv (by decide) ?_
 intro cdv A outer s H E F E' hr hx
 unfold i8
 refine ad ?_ ?_
 ·refine aG (i:=1) ?_ ?_ ?_ ?_ ?_ ?_ <;> try first|rfl|exact .inl rfl|exact .inr rfl|assumption|exact fun _=>rfl
  ·exact gv.nd
  ·exact (iz (dY (au (fe_c aa) av)) (ii (CompScope.of (own:=["shift"]) (capN:=[]) (caps:=[])) rfl rfl (ix (aE (fv 0) (fe_c aa))) (fun _ _ _ _ _ _=>⟨(fgn 0 (show ((["shift"]:List Str) ++ ([]:List Str)).Nodup from by decide +kernel)),jj,(aE (fv 0) (fe_c aa))⟩)))
 refine ad ?_ ?_
 ·refine aG (i:=2) ?_ ?_ ?_ ?_ ?_ ?_ <;> try first|rfl|exact .inl rfl|exact .inr rfl|assumption|exact fun _=>rfl
  ·exact gv.nd
  ·exact (iz (yg (xK (k:=1) (fv 1))) (dY (au (fe_c fX) av)))
 refine ad ?_ ?_
 ·refine aG (i:=3) ?_ ?_ ?_ ?_ ?_ ?_ <;> try first|rfl|exact .inl rfl|exact .inr rfl|assumption|exact fun _=>rfl
  ·exact gv.nd
  ·exact (iz (dY (au (aE (fv 0) (fe_c aa)) av)) (ii (CompScope.of (own:=["shift"]) (capN:=[]) (caps:=[])) rfl rfl (ix (aE (fv 0) (fe_c aa))) (fun _ _ _ _ _ _=>⟨(fgn 0 (show ((["shift"]:List Str) ++ ([]:List Str)).Nodup from by decide +kernel)),jj,(aE (fv 0) (fe_c aa))⟩)))
 refine af ?_
 refine aF ?_
 ·exact (BG (qv rfl rfl T.b_list rfl T.b_zip (au (fv 1) (au (fv 2) (au (fv 3) av)))))
theorem jl {g:Addr} {fd:FuncData} (T:Tx K mg) (D:FD K mg "is_ahead_of" bY ["moment","end"] g fd):FnOk P w K mg base (CXM P w) 1 g fd ["moment","end"] (spF K mg dZ):=by
 refine bi D.fn nj (by decide) ?_
 intro cdv A outer s H E F E' hr hx
 unfold g8
 refine af ?_
 refine aF ?_
 ·exact (wL (AD (fv 1) (fe_c fX)) (fq (BI (fv 0) (fv 1))))
theorem l8 {g:Addr} {fd:FuncData} (T:Tx K mg) (D:FD K mg "_law_cell_at" bN ["_law_script","_law_k"] g fd):FnOk P w K mg base (CXM P w) 1 g fd ["_law_script","_law_k"] (spF K mg cO):=by
 refine bi D.fn l6 (by decide) ?_
 intro cdv A outer s H E F E' hr hx
 unfold dm
 refine ad ?_ ?_
 ·refine bp ?_ ?_ ?_
  ·exact (oN (fv 1) (qU (qS rfl T.b_len (pv 0))))
  ·refine af ?_
   refine aF ?_
   ·exact (uk (uf (pv 0) (fv 1) (by intro _ _; rfl)))
  ·exact aS
 refine ad ?_ ?_
 ·refine bp ?_ ?_ ?_
  ·exact (Au (Ae hr.units (pv 0)))
  ·refine af ?_
   refine aF ?_
   ·exact (fe_c aa)
  ·exact aS
 refine af ?_
 refine aF ?_
 ·exact (bf (j4 (uk (uf (pv 0) (j5 (fv 1) (qU (qS rfl T.b_len (pv 0)))) (by intro _ _; rfl))) (fe_c aa)) (fv 1))
theorem ox {g:Addr} {fd:FuncData} (T:Tx K mg) (D:FD K mg "_law_shown" cq ["_law_zone_here","_law_moment"] g fd):FnOk P w K mg base (CXM P w) 1 g fd ["_law_zone_here","_law_moment"] (spF K mg dq):=by
 refine bi D.fn d9 (by decide) ?_
 intro cdv A outer s H E F E' hr hx
 unfold iD
 refine ad ?_ ?_
 ·refine aG (i:=2) ?_ ?_ ?_ ?_ ?_ ?_ <;> try first|rfl|exact .inl rfl|exact .inr rfl|assumption|exact fun _=>rfl
  ·exact d9.nd
  ·exact (aE (fv 0) (fe_c aa))
 refine ad ?_ ?_
 ·refine dl ?_ ?_ ?_ ?_ ?_ ?_ <;> try first|rfl|exact .inl rfl|exact .inr rfl|assumption|exact fun _=>rfl
  ·exact PassesOwn.leaving
  ·exact (ix (aE (fv 0) (fe_c aa)))
  ·exact (gc (n:=2) rfl (bd (fgn 3 d9.nd) (bd (fgn 4 d9.nd) eQ)))
  ·unfold eS
   refine af ?_
   refine aG (i:=2) ?_ ?_ ?_ ?_ ?_ ?_ <;> try first|rfl|exact .inl rfl|exact .inr rfl|assumption|exact fun _=>rfl
   ·exact d9.nd
   ·exact (lM (iY (fv 3) (fv 1)) (fv 4) (fv 2))
 refine af ?_
 refine aF ?_
 ·exact (bf (fv 1) (fv 2))
theorem kK {g:Addr} {fd:FuncData} (T:Tx K mg) (D:FD K mg "is_ahead" c7 ["thing"] g fd):FnOk P w K mg base (CXM P w) 2 g fd ["thing"] (spF K mg gj):=by
 obtain ⟨g_is_whole,fd_is_whole,D_is_whole⟩:=T.d_is_whole
 have G_is_whole:=fA P w base T D_is_whole
 obtain ⟨t_LEAST_AHEAD,g_LEAST_AHEAD⟩:=T.c_LEAST_AHEAD
 obtain ⟨t_MOST_AHEAD,g_MOST_AHEAD⟩:=T.c_MOST_AHEAD
 refine bi D.fn qA (by decide) ?_
 intro cdv A outer s H E F E' hr hx
 unfold jz
 refine af ?_
 refine ic ?_
 ·exact (fcd hx G_is_whole D_is_whole hr (ai (fv 0) (ai (fe_c (cV rfl g_LEAST_AHEAD)) (ai (fe_c (cV rfl g_MOST_AHEAD)) ak))))
theorem ke {g:Addr} {fd:FuncData} (T:Tx K mg) (D:FD K mg "is_moment" cG ["thing"] g fd):FnOk P w K mg base (CXM P w) 2 g fd ["thing"] (spF K mg eh):=by
 obtain ⟨g_is_whole,fd_is_whole,D_is_whole⟩:=T.d_is_whole
 have G_is_whole:=fA P w base T D_is_whole
 obtain ⟨t_LAST_MOMENT,g_LAST_MOMENT⟩:=T.c_LAST_MOMENT
 refine bi D.fn pX (by decide) ?_
 intro cdv A outer s H E F E' hr hx
 unfold i9
 refine af ?_
 refine ic ?_
 ·exact (fcd hx G_is_whole D_is_whole hr (ai (fv 0) (ai (fe_c aa) (ai (fe_c (cV rfl g_LAST_MOMENT)) ak))))
theorem kL {g:Addr} {fd:FuncData} (T:Tx K mg) (D:FD K mg "has_word" c8 ["thing","word","length"] g fd):FnOk P w K mg base (CXM P w) 2 g fd ["thing","word","length"] (spF K mg cY):=by
 obtain ⟨g_is_tuple_of,fd_is_tuple_of,D_is_tuple_of⟩:=T.d_is_tuple_of
 have G_is_tuple_of:=fe P w base T D_is_tuple_of
 refine bi D.fn qC (by decide) ?_
 intro cdv A outer s H E F E' hr hx
 unfold h8
 refine af ?_
 refine aF ?_
 ·exact (di (aq (fcd hx G_is_tuple_of D_is_tuple_of hr (ai (fv 0) (ai (fv 2) ak)))) (di (iX (dI rfl T.b_isinstance (aE (fv 0) (fe_c aa)) (fQ rfl T.b_str uK rfl))) (fq (lQ hr.units (aE (fv 0) (fe_c aa)) (fv 1)))))
theorem ly {g:Addr} {fd:FuncData} (T:Tx K mg) (D:FD K mg "first_showing" bD ["zone","hours"] g fd):FnOk P w K mg base (CXM P w) 2 g fd ["zone","hours"] (spF K mg eE):=by
 obtain ⟨g_stretches,fd_stretches,D_stretches⟩:=T.d_stretches
 have G_stretches:=kd P w base T D_stretches
 obtain ⟨g_is_ahead_of,fd_is_ahead_of,D_is_ahead_of⟩:=T.d_is_ahead_of
 have G_is_ahead_of:=jl P w base T D_is_ahead_of
 refine bi D.fn iN (by decide) ?_
 intro cdv A outer s H E F E' hr hx
 unfold gl
 refine ad ?_ ?_
 ·refine lO (i:=2) (own:=["start","end","ahead"]) (capN:=["hours"]) (caps:=[1]) ?_ ?_ ?_ ?_ ?_ ?_ ?_ ?_ ?_ ?_ ?_ <;> try first|rfl|exact .inl rfl|exact .inr rfl|assumption|exact fun _=>rfl
  ·exact iN.nd
  ·exact (CompScope.of (own:=["start","end","ahead"]) (capN:=["hours"]) (caps:=[1]))
  ·exact (ie (aq (fcd hx G_stretches D_stretches hr (ai (fv 0) ak))))
  ·exact (fun _ _ _ _ _ _=>⟨(gc (n:=3) rfl (bd (fgn 0 (show ((["start","end","ahead"]:List Str) ++ (["hours"]:List Str)).Nodup from by decide +kernel)) (bd (fgn 1 (show ((["start","end","ahead"]:List Str) ++ (["hours"]:List Str)).Nodup from by decide +kernel)) (bd (fgn 2 (show ((["start","end","ahead"]:List Str) ++ (["hours"]:List Str)).Nodup from by decide +kernel)) eQ)))),(mS (cX (cW (aq (fcd we G_is_ahead_of D_is_ahead_of hr (ai (f9 pz (cP (jO rfl) sf rfl T.b_max l7 (au (fv 0) (au (cC (fv 3) (fv 2)) av)))) (ai (fv 1) ak))))))),(f9 pz (cP (jO rfl) sf rfl T.b_max l7 (au (fv 0) (au (cC (fv 3) (fv 2)) av))))⟩)
 refine af ?_
 refine aF ?_
 ·exact (aE (fv 2) (fe_c aa))
theorem kE {g:Addr} {fd:FuncData} (T:Tx K mg) (D:FD K mg "furthest_shown" bu ["zone","moment"] g fd):FnOk P w K mg base (CXM P w) 2 g fd ["zone","moment"] (spF K mg dR):=by
 obtain ⟨g_stretches,fd_stretches,D_stretches⟩:=T.d_stretches
 have G_stretches:=kd P w base T D_stretches
 obtain ⟨g_is_ahead_of,fd_is_ahead_of,D_is_ahead_of⟩:=T.d_is_ahead_of
 have G_is_ahead_of:=jl P w base T D_is_ahead_of
 refine bi D.fn kC (by decide) ?_
 intro cdv A outer s H E F E' hr hx
 unfold fM
 refine af ?_
 refine aF ?_
 ·exact (f9 x9 (cP (uh rfl) Aq rfl T.b_max l7 (au (ii (CompScope.of (own:=["start","end","ahead"]) (capN:=["moment"]) (caps:=[1])) rfl rfl (ie (aq (fcd hx G_stretches D_stretches hr (ai (fv 0) ak)))) (fun _ _ _ _ _ _=>⟨(gc (n:=3) rfl (bd (fgn 0 (show ((["start","end","ahead"]:List Str) ++ (["moment"]:List Str)).Nodup from by decide +kernel)) (bd (fgn 1 (show ((["start","end","ahead"]:List Str) ++ (["moment"]:List Str)).Nodup from by decide +kernel)) (bd (fgn 2 (show ((["start","end","ahead"]:List Str) ++ (["moment"]:List Str)).Nodup from by decide +kernel)) eQ)))),(mS (iY (fv 0) (fv 3))),(bf (lM (cX (cW (aq (fcd we G_is_ahead_of D_is_ahead_of hr (ai (fv 3) (ai (fv 1) ak)))))) (fv 3) (cC (fv 1) (fe_c aa))) (fv 2))⟩)) av)))
theorem kf {g:Addr} {fd:FuncData} (T:Tx K mg) (D:FD K mg "first_day" cJ ["zone","hour"] g fd):FnOk P w K mg base (CXM P w) 2 g fd ["zone","hour"] (spF K mg fw):=by
 obtain ⟨g_shown,fd_shown,D_shown⟩:=T.d_shown
 have G_shown:=wg P w base T D_shown
 obtain ⟨t_DAY_HOURS,g_DAY_HOURS⟩:=T.c_DAY_HOURS
 refine bi D.fn pZ (by decide) ?_
 intro cdv A outer s H E F E' hr hx
 unfold jb
 refine af ?_
 refine aF ?_
 ·exact (jX (pC (cC (fv 1) (aq (fcd hx G_shown D_shown hr (ai (fv 0) (ai (fe_c aa) ak))))) (fe_c (cV rfl g_DAY_HOURS))))
theorem oy {g:Addr} {fd:FuncData} (T:Tx K mg) (D:FD K mg "_law_mixed" cp ["_law_script","_law_k","_law_many"] g fd):FnOk P w K mg base (CXM P w) 2 g fd ["_law_script","_law_k","_law_many"] (spF K mg gm):=by
 obtain ⟨g__law_cell_at,fd__law_cell_at,D__law_cell_at⟩:=T.d__law_cell_at
 have G__law_cell_at:=l8 P w base T D__law_cell_at
 refine bi D.fn jL (by decide) ?_
 intro cdv A outer s H E F E' hr hx
 unfold iF
 refine ad ?_ ?_
 ·refine aG (i:=3) ?_ ?_ ?_ ?_ ?_ ?_ <;> try first|rfl|exact .inl rfl|exact .inr rfl|assumption|exact fun _=>rfl
  ·exact jL.nd
  ·exact (j5 (bf (bf (j4 (aq (fcd hx G__law_cell_at D__law_cell_at hr (br (pv 0) (ai (fv 1) ak)))) (fe_c aa)) (j4 (fe_c aa) (fv 1))) (fe_c aa)) (fe_c aa))
 refine af ?_
 refine aF ?_
 ·exact (j5 (j5 (j5 (AG (fv 3) (fe_c aa)) (fe_c aa)) (fe_c aa)) (fv 2))
theorem oz {g:Addr} {fd:FuncData} (T:Tx K mg) (D:FD K mg "_law_times" cr ["_law_zone_here","_law_plan_here","_law_last"] g fd):FnOk P w K mg base (CXM P w) 2 g fd ["_law_zone_here","_law_plan_here","_law_last"] (spF K mg cf):=by
 obtain ⟨g__law_shown,fd__law_shown,D__law_shown⟩:=T.d__law_shown
 have G__law_shown:=ox P w base T D__law_shown
 refine bi D.fn cy (by decide) ?_
 intro cdv A outer s H E F E' hr hx
 unfold dB
 refine ad ?_ ?_
 ·refine bp ?_ ?_ ?_
  ·exact (gM hr.units (aE (fv 1) (fe_c aa)) (fe_c cB))
  ·refine af ?_
   refine aF ?_
   ·exact (lM (iY (aE (fv 1) (fe_c aa)) (fv 2)) (dY (au (aE (fv 1) (fe_c aa)) av)) (dY av))
  ·exact aS
 refine ad ?_ ?_
 ·refine bp ?_ ?_ ?_
  ·exact (gM hr.units (aE (fv 1) (fe_c aa)) (fe_c cB))
  ·refine af ?_
   refine aF ?_
   ·exact (AA (oq rfl rfl T.b_list rfl T.b_range (au (aE (fv 1) (fe_c aa)) (au (bf (fv 2) (fe_c aa)) (au (aE (fv 1) (fe_c aa)) av)))))
  ·exact aS
 refine ad ?_ ?_
 ·refine aG (i:=3) ?_ ?_ ?_ ?_ ?_ ?_ <;> try first|rfl|exact .inl rfl|exact .inr rfl|assumption|exact fun _=>rfl
  ·exact cy.nd
  ·exact (aE (fv 1) (fe_c aa))
 refine ad ?_ ?_
 ·refine ju (n:=100000) ?_ ?_ ?_
  ·exact PassesOwn.leaving
  ·exact (oN (fv 3) (aq (fcd hx G__law_shown D__law_shown hr (ai (fv 0) (ai (fe_c aa) ak)))))
  ·unfold eU
   refine af ?_
   refine aG (i:=3) ?_ ?_ ?_ ?_ ?_ ?_ <;> try first|rfl|exact .inl rfl|exact .inr rfl|assumption|exact fun _=>rfl
   ·exact cy.nd
   ·exact (bf (fv 3) (fe_c aa))
 refine ad ?_ ?_
 ·refine ju (n:=100000) ?_ ?_ ?_
  ·exact PassesOwn.leaving
  ·exact (wQ (cC (fv 3) (fe_c aa)) (aq (fcd hx G__law_shown D__law_shown hr (ai (fv 0) (ai (fe_c aa) ak)))))
  ·unfold eW
   refine af ?_
   refine aG (i:=3) ?_ ?_ ?_ ?_ ?_ ?_ <;> try first|rfl|exact .inl rfl|exact .inr rfl|assumption|exact fun _=>rfl
   ·exact cy.nd
   ·exact (cC (fv 3) (fe_c aa))
 refine ad ?_ ?_
 ·refine ji (i:=4) ?_ ?_ ?_ ?_ ?_ ?_ <;> try first|rfl|exact .inl rfl|exact .inr rfl|assumption|exact fun _=>rfl
  ·exact cy.nd
  ·exact (j2 av)
 refine ad ?_ ?_
 ·refine dl ?_ ?_ ?_ ?_ ?_ ?_ <;> try first|rfl|exact .inl rfl|exact .inr rfl|assumption|exact fun _=>rfl
  ·exact PassesOwn.leaving
  ·exact (jZ (jU rfl T.b_range (au (bf (fv 2) (fe_c aa)) av)))
  ·exact (fgn 5 cy.nd)
  ·unfold dA
   refine af ?_
   refine ju (n:=100000) ?_ ?_ ?_
   ·exact PassesOwn.leaving
   ·exact (iY (fv 3) (aq (fcd hx G__law_shown D__law_shown hr (ai (fv 0) (ai (fv 5) ak)))))
   ·unfold du
    refine ad ?_ ?_
    ·refine j3 ?_ ?_ ?_ ?_ ?_ ?_ ?_ ?_ <;> try first|rfl|exact .inl rfl|exact .inr rfl|assumption|exact fun _=>rfl
     ·exact (pv 4)
     ·exact (fv 5)
    refine af ?_
    refine aG (i:=3) ?_ ?_ ?_ ?_ ?_ ?_ <;> try first|rfl|exact .inl rfl|exact .inr rfl|assumption|exact fun _=>rfl
    ·exact cy.nd
    ·exact (bf (fv 3) (fe_c aa))
 refine af ?_
 refine wM ?_
 ·exact (pv 4)
theorem oA {g:Addr} {fd:FuncData} (T:Tx K mg) (D:FD K mg "are_shifts" cg ["thing"] g fd):FnOk P w K mg base (CXM P w) 3 g fd ["thing"] (spF K mg gn):=by
 obtain ⟨g_is_whole,fd_is_whole,D_is_whole⟩:=T.d_is_whole
 have G_is_whole:=fA P w base T D_is_whole
 obtain ⟨g_is_tuple_of,fd_is_tuple_of,D_is_tuple_of⟩:=T.d_is_tuple_of
 have G_is_tuple_of:=fe P w base T D_is_tuple_of
 obtain ⟨g_is_ahead,fd_is_ahead,D_is_ahead⟩:=T.d_is_ahead
 have G_is_ahead:=kK P w base T D_is_ahead
 obtain ⟨t_LAST_MOMENT,g_LAST_MOMENT⟩:=T.c_LAST_MOMENT
 obtain ⟨t_MOST_SHIFTS,g_MOST_SHIFTS⟩:=T.c_MOST_SHIFTS
 refine bi D.fn fH (by decide) ?_
 intro cdv A outer s H E F E' hr hx
 unfold iG
 refine ad ?_ ?_
 ·refine bp ?_ ?_ ?_
  ·exact (kW (lL (f8 (cX (cW (iX (dI rfl T.b_isinstance (fv 0) (fQ rfl T.b_tuple lx rfl)))))) (jY (lP (f9 lN (cP dg oI rfl T.b_len PySem.boot_len (au (fv 0) av))) (fe_c (cV rfl g_MOST_SHIFTS))))))
  ·refine af ?_
   refine aF ?_
   ·exact (fe_c jq)
  ·exact aS
 refine ad ?_ ?_
 ·refine aG (i:=1) ?_ ?_ ?_ ?_ ?_ ?_ <;> try first|rfl|exact .inl rfl|exact .inr rfl|assumption|exact fun _=>rfl
  ·exact fH.nd
  ·exact (fe_c aa)
 refine ad ?_ ?_
 ·refine dl ?_ ?_ ?_ ?_ ?_ ?_ <;> try first|rfl|exact .inl rfl|exact .inr rfl|assumption|exact fun _=>rfl
  ·exact PassesOwn.leaving
  ·exact (ix (fv 0))
  ·exact (fgn 2 fH.nd)
  ·unfold dD
   refine ad ?_ ?_
   ·refine bp ?_ ?_ ?_
    ·exact (kW (lL (f8 (cX (cW (aq (fcd hx G_is_tuple_of D_is_tuple_of hr (ai (fv 2) (ai (fe_c aa) ak))))))) (jY (f8 (cX (cW (aq (fcd hx G_is_ahead D_is_ahead hr (ai (aE (fv 2) (fe_c aa)) ak)))))))))
    ·refine af ?_
     refine aF ?_
     ·exact (fe_c jq)
    ·exact aS
   refine ad ?_ ?_
   ·refine bp ?_ ?_ ?_
    ·exact (f8 (cX (cW (aq (fcd hx G_is_whole D_is_whole hr (ai (aE (fv 2) (fe_c aa)) (ai (fv 1) (ai (fe_c (cV rfl g_LAST_MOMENT)) ak))))))))
    ·refine af ?_
     refine aF ?_
     ·exact (fe_c jq)
    ·exact aS
   refine af ?_
   refine aG (i:=1) ?_ ?_ ?_ ?_ ?_ ?_ <;> try first|rfl|exact .inl rfl|exact .inr rfl|assumption|exact fun _=>rfl
   ·exact fH.nd
   ·exact (bf (aE (fv 2) (fe_c aa)) (fe_c aa))
 refine af ?_
 refine aF ?_
 ·exact (fe_c jq)
theorem l9 {g:Addr} {fd:FuncData} (T:Tx K mg) (D:FD K mg "is_plan" dL ["thing"] g fd):FnOk P w K mg base (CXM P w) 3 g fd ["thing"] (spF K mg eK):=by
 obtain ⟨g_has_word,fd_has_word,D_has_word⟩:=T.d_has_word
 have G_has_word:=kL P w base T D_has_word
 obtain ⟨g_is_moment,fd_is_moment,D_is_moment⟩:=T.d_is_moment
 have G_is_moment:=ke P w base T D_is_moment
 obtain ⟨g_is_whole,fd_is_whole,D_is_whole⟩:=T.d_is_whole
 have G_is_whole:=fA P w base T D_is_whole
 obtain ⟨t_LAST_HOUR,g_LAST_HOUR⟩:=T.c_LAST_HOUR
 obtain ⟨t_MOST_STEP,g_MOST_STEP⟩:=T.c_MOST_STEP
 refine bi D.fn sP (by decide) ?_
 intro cdv A outer s H E F E' hr hx
 unfold gS
 refine ad ?_ ?_
 ·refine bp ?_ ?_ ?_
  ·exact (cX (cW (aq (fcd hx G_has_word D_has_word hr (ai (fv 0) (ai (fe_c cB) (ai (fe_c aa) ak)))))))
  ·refine af ?_
   refine ic ?_
   ·exact (fcd hx G_is_moment D_is_moment hr (ai (aE (fv 0) (fe_c aa)) ak))
  ·exact aS
 refine ad ?_ ?_
 ·refine bp ?_ ?_ ?_
  ·exact (cX (cW (aq (fcd hx G_has_word D_has_word hr (ai (fv 0) (ai (fe_c cB) (ai (fe_c aa) ak)))))))
  ·refine af ?_
   refine aF ?_
   ·exact (di (aq (fcd hx G_is_moment D_is_moment hr (ai (aE (fv 0) (fe_c aa)) ak))) (fq (aq (fcd hx G_is_whole D_is_whole hr (ai (aE (fv 0) (fe_c aa)) (ai (fe_c aa) (ai (fe_c (cV rfl g_MOST_STEP)) ak)))))))
  ·exact aS
 refine af ?_
 refine aF ?_
 ·exact (di (aq (fcd hx G_has_word D_has_word hr (ai (fv 0) (ai (fe_c cB) (ai (fe_c aa) ak))))) (fq (aq (fcd hx G_is_whole D_is_whole hr (ai (aE (fv 0) (fe_c aa)) (ai (fe_c aa) (ai (fe_c (cV rfl g_LAST_HOUR)) ak)))))))
theorem sT {g:Addr} {fd:FuncData} (T:Tx K mg) (D:FD K mg "is_late" dM ["thing"] g fd):FnOk P w K mg base (CXM P w) 3 g fd ["thing"] (spF K mg fS):=by
 obtain ⟨g_has_word,fd_has_word,D_has_word⟩:=T.d_has_word
 have G_has_word:=kL P w base T D_has_word
 obtain ⟨g_is_whole,fd_is_whole,D_is_whole⟩:=T.d_is_whole
 have G_is_whole:=fA P w base T D_is_whole
 obtain ⟨t_MOST_WITHIN,g_MOST_WITHIN⟩:=T.c_MOST_WITHIN
 refine bi D.fn sQ (by decide) ?_
 intro cdv A outer s H E F E' hr hx
 unfold gT
 refine ad ?_ ?_
 ·refine bp ?_ ?_ ?_
  ·exact (cX (cW (iX (dI rfl T.b_isinstance (fv 0) (fQ rfl T.b_str uK rfl)))))
  ·refine af ?_
   refine aF ?_
   ·exact (wL (lQ hr.units (fv 0) (fe_c cB)) (fq (lQ hr.units (fv 0) (fe_c cB))))
  ·exact aS
 refine af ?_
 refine aF ?_
 ·exact (di (aq (fcd hx G_has_word D_has_word hr (ai (fv 0) (ai (fe_c cB) (ai (fe_c aa) ak))))) (fq (aq (fcd hx G_is_whole D_is_whole hr (ai (aE (fv 0) (fe_c aa)) (ai (fe_c aa) (ai (fe_c (cV rfl g_MOST_WITHIN)) ak)))))))
theorem gw {g:Addr} {fd:FuncData} (T:Tx K mg) (D:FD K mg "check_moment" bK ["thing"] g fd):FnOk P w K mg base (CXM P w) 3 g fd ["thing"] (spF K mg bJ):=by
 obtain ⟨g_is_moment,fd_is_moment,D_is_moment⟩:=T.d_is_moment
 have G_is_moment:=ke P w base T D_is_moment
 obtain ⟨DE_,xt⟩:=T.xt0
 obtain ⟨C_NoMoment,E_NoMoment,_⟩:=xt.at_ (c:="NoMoment") (by decide +kernel)
 refine bi D.fn l5 (by decide) ?_
 intro cdv A outer s H E F E' hr hx
 unfold gE
 refine af ?_
 refine bp ?_ ?_ ?_
 ·exact (f8 (cX (cW (aq (fcd hx G_is_moment D_is_moment hr (ai (fv 0) ak))))))
 ·refine af ?_
  exact (iy hx hr.hd rfl E_NoMoment)
 ·exact aS
theorem oB {g:Addr} {fd:FuncData} (T:Tx K mg) (D:FD K mg "daily_time" cn ["zone","hour","count"] g fd):FnOk P w K mg base (CXM P w) 3 g fd ["zone","hour","count"] (spF K mg gp):=by
 obtain ⟨g_first_showing,fd_first_showing,D_first_showing⟩:=T.d_first_showing
 have G_first_showing:=ly P w base T D_first_showing
 obtain ⟨g_first_day,fd_first_day,D_first_day⟩:=T.d_first_day
 have G_first_day:=kf P w base T D_first_day
 obtain ⟨t_DAY_HOURS,g_DAY_HOURS⟩:=T.c_DAY_HOURS
 refine bi D.fn jK (by decide) ?_
 intro cdv A outer s H E F E' hr hx
 unfold iH
 refine ad ?_ ?_
 ·refine aG (i:=3) ?_ ?_ ?_ ?_ ?_ ?_ <;> try first|rfl|exact .inl rfl|exact .inr rfl|assumption|exact fun _=>rfl
  ·exact jK.nd
  ·exact (bf (aq (fcd hx G_first_day D_first_day hr (ai (fv 0) (ai (fv 1) ak)))) (fv 2))
 refine af ?_
 refine ic ?_
 ·exact (fcd hx G_first_showing D_first_showing hr (ai (fv 0) (ai (bf (j4 (fv 3) (fe_c (cV rfl g_DAY_HOURS))) (fv 1)) ak)))
theorem qD {g:Addr} {fd:FuncData} (T:Tx K mg) (D:FD K mg "times_by" c9 ["zone","plan","moment"] g fd):FnOk P w K mg base (CXM P w) 3 g fd ["zone","plan","moment"] (spF K mg cZ):=by
 obtain ⟨g_furthest_shown,fd_furthest_shown,D_furthest_shown⟩:=T.d_furthest_shown
 have G_furthest_shown:=kE P w base T D_furthest_shown
 obtain ⟨g_first_day,fd_first_day,D_first_day⟩:=T.d_first_day
 have G_first_day:=kf P w base T D_first_day
 obtain ⟨t_DAY_HOURS,g_DAY_HOURS⟩:=T.c_DAY_HOURS
 refine bi D.fn kJ (by decide) ?_
 intro cdv A outer s H E F E' hr hx
 unfold dS
 refine ad ?_ ?_
 ·refine bp ?_ ?_ ?_
  ·exact (oN (fv 2) (fe_c aa))
  ·refine af ?_
   refine aF ?_
   ·exact (fe_c aa)
  ·exact aS
 refine ad ?_ ?_
 ·refine bp ?_ ?_ ?_
  ·exact (gM hr.units (aE (fv 1) (fe_c aa)) (fe_c cB))
  ·refine af ?_
   refine aF ?_
   ·exact (lM (iY (aE (fv 1) (fe_c aa)) (fv 2)) (fe_c aa) (fe_c aa))
  ·exact aS
 refine ad ?_ ?_
 ·refine bp ?_ ?_ ?_
  ·exact (gM hr.units (aE (fv 1) (fe_c aa)) (fe_c cB))
  ·refine af ?_
   refine aF ?_
   ·exact (f9 pz (cP (jO rfl) sf rfl T.b_max l7 (au (fe_c aa) (au (bf (pC (cC (fv 2) (aE (fv 1) (fe_c aa))) (aE (fv 1) (fe_c aa))) (fe_c aa)) av))))
  ·exact aS
 refine ad ?_ ?_
 ·refine aG (i:=3) ?_ ?_ ?_ ?_ ?_ ?_ <;> try first|rfl|exact .inl rfl|exact .inr rfl|assumption|exact fun _=>rfl
  ·exact kJ.nd
  ·exact (pC (cC (aq (fcd hx G_furthest_shown D_furthest_shown hr (ai (fv 0) (ai (fv 2) ak)))) (aE (fv 1) (fe_c aa))) (fe_c (cV rfl g_DAY_HOURS)))
 refine af ?_
 refine aF ?_
 ·exact (bf (cC (fv 3) (aq (fcd hx G_first_day D_first_day hr (ai (fv 0) (ai (aE (fv 1) (fe_c aa)) ak))))) (fe_c aa))
theorem eM {g:Addr} {fd:FuncData} (T:Tx K mg) (D:FD K mg "_law_draw" cK ["_law_script","_law_town","_law_many"] g fd):FnOk P w K mg base (CXM P w) 3 g fd ["_law_script","_law_town","_law_many"] (spF K mg bg):=by
 obtain ⟨g__law_mixed,fd__law_mixed,D__law_mixed⟩:=T.d__law_mixed
 have G__law_mixed:=oy P w base T D__law_mixed
 refine bi D.fn p0 (by decide) ?_
 intro cdv A outer s H E F E' hr hx
 unfold jc
 refine ad ?_ ?_
 ·refine j3 ?_ ?_ ?_ ?_ ?_ ?_ ?_ ?_ <;> try first|rfl|exact .inl rfl|exact .inr rfl|assumption|exact fun _=>rfl
  ·exact (pv 1)
  ·exact (fe_c aa)
 refine af ?_
 refine ic ?_
 ·exact (fcd hx G__law_mixed D__law_mixed hr (br (pv 0) (ai (yf rfl T.b_len (pv 1)) (ai (fv 2) ak))))
theorem sU {g:Addr} {fd:FuncData} (T:Tx K mg) (D:FD K mg "is_zone" dJ ["thing"] g fd):FnOk P w K mg base (CXM P w) 4 g fd ["thing"] (spF K mg i5):=by
 obtain ⟨g_is_tuple_of,fd_is_tuple_of,D_is_tuple_of⟩:=T.d_is_tuple_of
 have G_is_tuple_of:=fe P w base T D_is_tuple_of
 obtain ⟨g_is_ahead,fd_is_ahead,D_is_ahead⟩:=T.d_is_ahead
 have G_is_ahead:=kK P w base T D_is_ahead
 obtain ⟨g_are_shifts,fd_are_shifts,D_are_shifts⟩:=T.d_are_shifts
 have G_are_shifts:=oA P w base T D_are_shifts
 refine bi D.fn sO (by decide) ?_
 intro cdv A outer s H E F E' hr hx
 unfold kb
 refine af ?_
 refine aF ?_
 ·exact (di (aq (fcd hx G_is_tuple_of D_is_tuple_of hr (ai (fv 0) (ai (fe_c aa) ak)))) (di (aq (fcd hx G_is_ahead D_is_ahead hr (ai (aE (fv 0) (fe_c aa)) ak))) (fq (aq (fcd hx G_are_shifts D_are_shifts hr (ai (aE (fv 0) (fe_c aa)) ak))))))
theorem sV {g:Addr} {fd:FuncData} (T:Tx K mg) (D:FD K mg "is_deed" dN ["thing"] g fd):FnOk P w K mg base (CXM P w) 4 g fd ["thing"] (spF K mg i6):=by
 obtain ⟨g_is_tuple_of,fd_is_tuple_of,D_is_tuple_of⟩:=T.d_is_tuple_of
 have G_is_tuple_of:=fe P w base T D_is_tuple_of
 obtain ⟨g_is_plan,fd_is_plan,D_is_plan⟩:=T.d_is_plan
 have G_is_plan:=l9 P w base T D_is_plan
 obtain ⟨g_is_late,fd_is_late,D_is_late⟩:=T.d_is_late
 have G_is_late:=sT P w base T D_is_late
 refine bi D.fn sR (by decide) ?_
 intro cdv A outer s H E F E' hr hx
 unfold kc
 refine af ?_
 refine aF ?_
 ·exact (di (aq (fcd hx G_is_tuple_of D_is_tuple_of hr (ai (fv 0) (ai (fe_c aa) ak)))) (di (aq (fcd hx G_is_plan D_is_plan hr (ai (aE (fv 0) (fe_c aa)) ak))) (di (aq (fcd hx G_is_late D_is_late hr (ai (aE (fv 0) (fe_c aa)) ak))) (fq (iX (dI rfl T.b_isinstance (aE (fv 0) (fe_c aa)) (fQ rfl T.b_bool rA rfl)))))))
theorem oC {g:Addr} {fd:FuncData} (T:Tx K mg) (D:FD K mg "check_plan" cj ["thing"] g fd):FnOk P w K mg base (CXM P w) 4 g fd ["thing"] (spF K mg gq):=by
 obtain ⟨g_is_plan,fd_is_plan,D_is_plan⟩:=T.d_is_plan
 have G_is_plan:=l9 P w base T D_is_plan
 obtain ⟨DE_,xt⟩:=T.xt0
 obtain ⟨C_NoPlan,E_NoPlan,_⟩:=xt.at_ (c:="NoPlan") (by decide +kernel)
 refine bi D.fn ow (by decide) ?_
 intro cdv A outer s H E F E' hr hx
 unfold iI
 refine af ?_
 refine bp ?_ ?_ ?_
 ·exact (f8 (cX (cW (aq (fcd hx G_is_plan D_is_plan hr (ai (fv 0) ak))))))
 ·refine af ?_
  exact (iy hx hr.hd rfl E_NoPlan)
 ·exact aS
theorem lA {g:Addr} {fd:FuncData} (T:Tx K mg) (D:FD K mg "check_stretch" bC ["first","last"] g fd):FnOk P w K mg base (CXM P w) 4 g fd ["first","last"] (spF K mg eF):=by
 obtain ⟨g_check_moment,fd_check_moment,D_check_moment⟩:=T.d_check_moment
 have G_check_moment:=gw P w base T D_check_moment
 obtain ⟨DE_,xt⟩:=T.xt0
 obtain ⟨C_NoMoment,E_NoMoment,_⟩:=xt.at_ (c:="NoMoment") (by decide +kernel)
 refine bi D.fn lu (by decide) ?_
 intro cdv A outer s H E F E' hr hx
 unfold gt
 refine ad ?_ ?_
 ·refine b4 ?_ ?_
  ·exact (fcd hx G_check_moment D_check_moment hr (ai (fv 0) ak))
  ·rfl
 refine ad ?_ ?_
 ·refine b4 ?_ ?_
  ·exact (fcd hx G_check_moment D_check_moment hr (ai (fv 1) ak))
  ·rfl
 refine af ?_
 refine bp ?_ ?_ ?_
 ·exact (oN (fv 1) (fv 0))
 ·refine af ?_
  exact (iy hx hr.hd rfl E_NoMoment)
 ·exact aS
theorem md {g:Addr} {fd:FuncData} (T:Tx K mg) (D:FD K mg "time_of" dO ["zone","plan","count"] g fd):FnOk P w K mg base (CXM P w) 4 g fd ["zone","plan","count"] (spF K mg cF):=by
 obtain ⟨g_daily_time,fd_daily_time,D_daily_time⟩:=T.d_daily_time
 have G_daily_time:=oB P w base T D_daily_time
 refine bi D.fn sS (by decide) ?_
 intro cdv A outer s H E F E' hr hx
 unfold fT
 refine ad ?_ ?_
 ·refine bp ?_ ?_ ?_
  ·exact (gM hr.units (aE (fv 1) (fe_c aa)) (fe_c cB))
  ·refine af ?_
   refine aF ?_
   ·exact (lM (gM hr.units (fv 2) (fe_c aa)) (aE (fv 1) (fe_c aa)) (fe_c fX))
  ·exact aS
 refine ad ?_ ?_
 ·refine bp ?_ ?_ ?_
  ·exact (gM hr.units (aE (fv 1) (fe_c aa)) (fe_c cB))
  ·refine af ?_
   refine aF ?_
   ·exact (bf (aE (fv 1) (fe_c aa)) (j4 (fv 2) (aE (fv 1) (fe_c aa))))
  ·exact aS
 refine af ?_
 refine ic ?_
 ·exact (fcd hx G_daily_time D_daily_time hr (ai (fv 0) (ai (aE (fv 1) (fe_c aa)) (ai (fv 2) ak))))
theorem kg {g:Addr} {fd:FuncData} (T:Tx K mg) (D:FD K mg "_law_pick" cL ["_law_script","_law_town","_law_some"] g fd):FnOk P w K mg base (CXM P w) 4 g fd ["_law_script","_law_town","_law_some"] (spF K mg ei):=by
 obtain ⟨g__law_draw,fd__law_draw,D__law_draw⟩:=T.d__law_draw
 have G__law_draw:=eM P w base T D__law_draw
 refine bi D.fn p4 (by decide) ?_
 intro cdv A outer s H E F E' hr hx
 unfold jd
 refine af ?_
 refine aF ?_
 ·exact (aE (fv 2) (aq (fcd hx G__law_draw D__law_draw hr (br (pv 0) (br (pv 1) (ai (f9 lN (cP dg oI rfl T.b_len PySem.boot_len (au (fv 2) av))) ak))))))
theorem p5 {g:Addr} {fd:FuncData} (T:Tx K mg) (D:FD K mg "are_deeds" cH ["thing"] g fd):FnOk P w K mg base (CXM P w) 5 g fd ["thing"] (spF K mg jf):=by
 obtain ⟨g_is_deed,fd_is_deed,D_is_deed⟩:=T.d_is_deed
 have G_is_deed:=sV P w base T D_is_deed
 obtain ⟨t_MOST_DEEDS,g_MOST_DEEDS⟩:=T.c_MOST_DEEDS
 refine bi D.fn pY (by decide) ?_
 intro cdv A outer s H E F E' hr hx
 unfold je
 refine ad ?_ ?_
 ·refine bp ?_ ?_ ?_
  ·exact (kW (lL (f8 (cX (cW (iX (dI rfl T.b_isinstance (fv 0) (fQ rfl T.b_tuple lx rfl)))))) (jY (lP (f9 lN (cP dg oI rfl T.b_len PySem.boot_len (au (fv 0) av))) (fe_c (cV rfl g_MOST_DEEDS))))))
  ·refine af ?_
   refine aF ?_
   ·exact (fe_c jq)
  ·exact aS
 refine af ?_
 refine aF ?_
 ·exact (f9 At (cP (ue rfl) Bt rfl T.b_all AJ (au (ii (CompScope.of (own:=["deed"]) (capN:=[]) (caps:=[])) rfl rfl (ix (fv 0)) (fun _ _ _ _ _ _=>⟨(fgn 0 (show ((["deed"]:List Str) ++ ([]:List Str)).Nodup from by decide +kernel)),jj,(aq (fcd we G_is_deed D_is_deed hr (ai (fv 0) ak)))⟩)) av)))
theorem hJ {g:Addr} {fd:FuncData} (T:Tx K mg) (D:FD K mg "check_zone" ci ["thing"] g fd):FnOk P w K mg base (CXM P w) 5 g fd ["thing"] (spF K mg dE):=by
 obtain ⟨g_is_zone,fd_is_zone,D_is_zone⟩:=T.d_is_zone
 have G_is_zone:=sU P w base T D_is_zone
 obtain ⟨DE_,xt⟩:=T.xt0
 obtain ⟨C_NoZone,E_NoZone,_⟩:=xt.at_ (c:="NoZone") (by decide +kernel)
 refine bi D.fn ov (by decide) ?_
 intro cdv A outer s H E F E' hr hx
 unfold iJ
 refine af ?_
 refine bp ?_ ?_ ?_
 ·exact (f8 (cX (cW (aq (fcd hx G_is_zone D_is_zone hr (ai (fv 0) ak))))))
 ·refine af ?_
  exact (iy hx hr.hd rfl E_NoZone)
 ·exact aS
theorem p6 {g:Addr} {fd:FuncData} (T:Tx K mg) (D:FD K mg "_law_zone" cM ["_law_script","_law_town","_law_wide"] g fd):FnOk P w K mg base (CXM P w) 5 g fd ["_law_script","_law_town","_law_wide"] (spF K mg gP):=by
 obtain ⟨g__law_draw,fd__law_draw,D__law_draw⟩:=T.d__law_draw
 have G__law_draw:=eM P w base T D__law_draw
 obtain ⟨g__law_pick,fd__law_pick,D__law_pick⟩:=T.d__law_pick
 have G__law_pick:=kg P w base T D__law_pick
 refine bi D.fn dG (by decide) ?_
 intro cdv A outer s H E F E' hr hx
 unfold jg
 refine ad ?_ ?_
 ·refine Ax ?_ ?_ ?_ ?_ ?_ <;> try first|rfl|exact .inl rfl|exact .inr rfl|assumption|exact fun _=>rfl
  ·exact (b9 (au (b9 av) (au (fe_c aa) av)))
  ·exact (gc (n:=2) rfl (bd (fgn 3 dG.nd) (bd (fgn 4 dG.nd) eQ)))
 refine ad ?_ ?_
 ·refine dl ?_ ?_ ?_ ?_ ?_ ?_ <;> try first|rfl|exact .inl rfl|exact .inr rfl|assumption|exact fun _=>rfl
  ·exact PassesOwn.leaving
  ·exact (jZ (jU rfl T.b_range (au (aq (fcd hx G__law_draw D__law_draw hr (br (pv 0) (br (pv 1) (ai (fe_c aa) ak))))) av)))
  ·exact (fgn 5 dG.nd)
  ·unfold d7
   refine ad ?_ ?_
   ·refine aG (i:=4) ?_ ?_ ?_ ?_ ?_ ?_ <;> try first|rfl|exact .inl rfl|exact .inr rfl|assumption|exact fun _=>rfl
    ·exact dG.nd
    ·exact (bf (bf (fv 4) (fe_c aa)) (aq (fcd hx G__law_draw D__law_draw hr (br (pv 0) (br (pv 1) (ai (fv 2) ak))))))
   refine af ?_
   refine aG (i:=3) ?_ ?_ ?_ ?_ ?_ ?_ <;> try first|rfl|exact .inl rfl|exact .inr rfl|assumption|exact fun _=>rfl
   ·exact dG.nd
   ·exact (qY (fv 3) (b9 (au (b9 (au (fv 4) (au (aq (fcd hx G__law_pick D__law_pick hr (br (pv 0) (br (pv 1) (ai (dY (au (fe_c aa) (au (fe_c aa) (au (fe_c aa) (au (jX (fe_c aa)) (au (fe_c aa) (au (jX (fe_c aa)) (au (fe_c aa) av)))))))) ak))))) av))) av)))
 refine af ?_
 refine aF ?_
 ·exact (b9 (au (aq (fcd hx G__law_pick D__law_pick hr (br (pv 0) (br (pv 1) (ai (dY (au (fe_c aa) (au (fe_c aa) (au (fe_c aa) (au (jX (fe_c aa)) (au (fe_c aa) (au (jX (fe_c aa)) av))))))) ak))))) (au (fv 3) av)))
theorem p7 {g:Addr} {fd:FuncData} (T:Tx K mg) (D:FD K mg "_law_plan" cN ["_law_script","_law_town","_law_wide"] g fd):FnOk P w K mg base (CXM P w) 5 g fd ["_law_script","_law_town","_law_wide"] (spF K mg ek):=by
 obtain ⟨g__law_draw,fd__law_draw,D__law_draw⟩:=T.d__law_draw
 have G__law_draw:=eM P w base T D__law_draw
 obtain ⟨g__law_pick,fd__law_pick,D__law_pick⟩:=T.d__law_pick
 have G__law_pick:=kg P w base T D__law_pick
 refine bi D.fn iO (by decide) ?_
 intro cdv A outer s H E F E' hr hx
 unfold fz
 refine ad ?_ ?_
 ·refine aG (i:=3) ?_ ?_ ?_ ?_ ?_ ?_ <;> try first|rfl|exact .inl rfl|exact .inr rfl|assumption|exact fun _=>rfl
  ·exact iO.nd
  ·exact (aq (fcd hx G__law_draw D__law_draw hr (br (pv 0) (br (pv 1) (ai (fe_c aa) ak)))))
 refine ad ?_ ?_
 ·refine bp ?_ ?_ ?_
  ·exact (gM hr.units (fv 3) (fe_c aa))
  ·refine af ?_
   refine aF ?_
   ·exact (b9 (au (fe_c cB) (au (aq (fcd hx G__law_draw D__law_draw hr (br (pv 0) (br (pv 1) (ai (fv 2) ak))))) av)))
  ·exact aS
 refine ad ?_ ?_
 ·refine bp ?_ ?_ ?_
  ·exact (gM hr.units (fv 3) (fe_c aa))
  ·refine ad ?_ ?_
   ·refine aG (i:=4) ?_ ?_ ?_ ?_ ?_ ?_ <;> try first|rfl|exact .inl rfl|exact .inr rfl|assumption|exact fun _=>rfl
    ·exact iO.nd
    ·exact (bf (fe_c aa) (aq (fcd hx G__law_draw D__law_draw hr (br (pv 0) (br (pv 1) (ai (aq (fcd hx G__law_pick D__law_pick hr (br (pv 0) (br (pv 1) (ai (dY (au (fe_c aa) (au (fe_c aa) (au (fe_c aa) av)))) ak))))) ak))))))
   refine af ?_
   refine aF ?_
   ·exact (b9 (au (fe_c cB) (au (aq (fcd hx G__law_draw D__law_draw hr (br (pv 0) (br (pv 1) (ai (fv 2) ak))))) (au (fv 4) av))))
  ·exact aS
 refine af ?_
 refine aF ?_
 ·exact (b9 (au (fe_c cB) (au (aq (fcd hx G__law_draw D__law_draw hr (br (pv 0) (br (pv 1) (ai (fe_c aa) ak))))) av)))
theorem jm {g:Addr} {fd:FuncData} (T:Tx K mg) (D:FD K mg "check_deeds" bX ["thing"] g fd):FnOk P w K mg base (CXM P w) 6 g fd ["thing"] (spF K mg d8):=by
 obtain ⟨g_are_deeds,fd_are_deeds,D_are_deeds⟩:=T.d_are_deeds
 have G_are_deeds:=p5 P w base T D_are_deeds
 obtain ⟨DE_,xt⟩:=T.xt0
 obtain ⟨C_NoDeeds,E_NoDeeds,_⟩:=xt.at_ (c:="NoDeeds") (by decide +kernel)
 refine bi D.fn ni (by decide) ?_
 intro cdv A outer s H E F E' hr hx
 unfold g9
 refine af ?_
 refine bp ?_ ?_ ?_
 ·exact (f8 (cX (cW (aq (fcd hx G_are_deeds D_are_deeds hr (ai (fv 0) ak))))))
 ·refine af ?_
  exact (iy hx hr.hd rfl E_NoDeeds)
 ·exact aS
theorem yB {g:Addr} {fd:FuncData} (T:Tx K mg) (D:FD K mg "dues" gU ["zone","plan","first","last"] g fd):FnOk P w K mg base (CXM P w) 6 g fd ["zone","plan","first","last"] (spF K mg lZ):=by
 obtain ⟨g_check_zone,fd_check_zone,D_check_zone⟩:=T.d_check_zone
 have G_check_zone:=hJ P w base T D_check_zone
 obtain ⟨g_check_plan,fd_check_plan,D_check_plan⟩:=T.d_check_plan
 have G_check_plan:=oC P w base T D_check_plan
 obtain ⟨g_check_moment,fd_check_moment,D_check_moment⟩:=T.d_check_moment
 have G_check_moment:=gw P w base T D_check_moment
 obtain ⟨g_time_of,fd_time_of,D_time_of⟩:=T.d_time_of
 have G_time_of:=md P w base T D_time_of
 refine bi D.fn il (by decide) ?_
 intro cdv A outer s H E F E' hr hx
 unfold pW
 refine ad ?_ ?_
 ·refine b4 ?_ ?_
  ·exact (fcd hx G_check_zone D_check_zone hr (ai (fv 0) ak))
  ·rfl
 refine ad ?_ ?_
 ·refine b4 ?_ ?_
  ·exact (fcd hx G_check_plan D_check_plan hr (ai (fv 1) ak))
  ·rfl
 refine ad ?_ ?_
 ·refine b4 ?_ ?_
  ·exact (fcd hx G_check_moment D_check_moment hr (ai (fv 2) ak))
  ·rfl
 refine ad ?_ ?_
 ·refine b4 ?_ ?_
  ·exact (fcd hx G_check_moment D_check_moment hr (ai (fv 3) ak))
  ·rfl
 refine ad ?_ ?_
 ·refine ji (i:=4) ?_ ?_ ?_ ?_ ?_ ?_ <;> try first|rfl|exact .inl rfl|exact .inr rfl|assumption|exact fun _=>rfl
  ·exact il.nd
  ·exact (j2 av)
 refine ad ?_ ?_
 ·refine aG (i:=5) ?_ ?_ ?_ ?_ ?_ ?_ <;> try first|rfl|exact .inl rfl|exact .inr rfl|assumption|exact fun _=>rfl
  ·exact il.nd
  ·exact (fe_c aa)
 refine ad ?_ ?_
 ·refine aG (i:=6) ?_ ?_ ?_ ?_ ?_ ?_ <;> try first|rfl|exact .inl rfl|exact .inr rfl|assumption|exact fun _=>rfl
  ·exact il.nd
  ·exact (aq (fcd hx G_time_of D_time_of hr (ai (fv 0) (ai (fv 1) (ai (fv 5) ak)))))
 refine ad ?_ ?_
 ·refine ju (n:=100000) ?_ ?_ ?_
  ·exact PassesOwn.leaving
  ·exact (kW (uj (qZ (fv 6) (fe_c fX)) (qT (iY (fv 6) (fv 3)))))
  ·unfold fN
   refine ad ?_ ?_
   ·refine bp ?_ ?_ ?_
    ·exact (iY (fv 2) (fv 6))
    ·refine af ?_
     refine j3 ?_ ?_ ?_ ?_ ?_ ?_ ?_ ?_ <;> try first|rfl|exact .inl rfl|exact .inr rfl|assumption|exact fun _=>rfl
     ·exact (pv 4)
     ·exact (b9 (au (fv 5) (au (fv 6) av)))
    ·exact aS
   refine ad ?_ ?_
   ·refine Ay (op:=.Add) (pos':=⟨0,0,0,0⟩) ?_
    ·exact (zZ (i:=5) il.nd rfl (by first | exact Or.inl rfl | exact Or.inr rfl) (fe_c aa) y9)
   refine af ?_
   refine aG (i:=6) ?_ ?_ ?_ ?_ ?_ ?_ <;> try first|rfl|exact .inl rfl|exact .inr rfl|assumption|exact fun _=>rfl
   ·exact il.nd
   ·exact (aq (fcd hx G_time_of D_time_of hr (ai (fv 0) (ai (fv 1) (ai (fv 5) ak)))))
 refine af ?_
 refine wM ?_
 ·exact (pv 4)
theorem oD {g:Addr} {fd:FuncData} (T:Tx K mg) (D:FD K mg "_law_deeds" cu ["_law_script","_law_town","_law_most","_law_wide"] g fd):FnOk P w K mg base (CXM P w) 6 g fd ["_law_script","_law_town","_law_most","_law_wide"] (spF K mg gu):=by
 obtain ⟨g__law_draw,fd__law_draw,D__law_draw⟩:=T.d__law_draw
 have G__law_draw:=eM P w base T D__law_draw
 obtain ⟨g__law_plan,fd__law_plan,D__law_plan⟩:=T.d__law_plan
 have G__law_plan:=p7 P w base T D__law_plan
 refine bi D.fn fJ (by decide) ?_
 intro cdv A outer s H E F E' hr hx
 unfold iK
 refine ad ?_ ?_
 ·refine aG (i:=4) ?_ ?_ ?_ ?_ ?_ ?_ <;> try first|rfl|exact .inl rfl|exact .inr rfl|assumption|exact fun _=>rfl
  ·exact fJ.nd
  ·exact (b9 av)
 refine ad ?_ ?_
 ·refine dl ?_ ?_ ?_ ?_ ?_ ?_ <;> try first|rfl|exact .inl rfl|exact .inr rfl|assumption|exact fun _=>rfl
  ·exact PassesOwn.leaving
  ·exact (jZ (jU rfl T.b_range (au (aq (fcd hx G__law_draw D__law_draw hr (br (pv 0) (br (pv 1) (ai (bf (fv 2) (fe_c aa)) ak))))) av)))
  ·exact (fgn 5 fJ.nd)
  ·unfold dF
   refine af ?_
   refine aG (i:=4) ?_ ?_ ?_ ?_ ?_ ?_ <;> try first|rfl|exact .inl rfl|exact .inr rfl|assumption|exact fun _=>rfl
   ·exact fJ.nd
   ·exact (qY (fv 4) (b9 (au (b9 (au (aq (fcd hx G__law_plan D__law_plan hr (br (pv 0) (br (pv 1) (ai (fv 3) ak))))) (au (fe_c cB) (au (fe_c jq) av)))) av)))
 refine af ?_
 refine aF ?_
 ·exact (fv 4)
theorem me {g:Addr} {fd:FuncData} (T:Tx K mg) (D:FD K mg "rows_between" bL ["zone","deeds","first","last"] g fd):FnOk P w K mg base (CXM P w) 7 g fd ["zone","deeds","first","last"] (spF K mg eY):=by
 obtain ⟨g_dues,fd_dues,D_dues⟩:=T.d_dues
 have G_dues:=yB P w base T D_dues
 refine bi D.fn cw (by decide) ?_
 intro cdv A outer s H E F E' hr hx
 unfold gG
 refine ad ?_ ?_
 ·refine ji (i:=4) ?_ ?_ ?_ ?_ ?_ ?_ <;> try first|rfl|exact .inl rfl|exact .inr rfl|assumption|exact fun _=>rfl
  ·exact cw.nd
  ·exact (j2 av)
 refine ad ?_ ?_
 ·refine dl ?_ ?_ ?_ ?_ ?_ ?_ <;> try first|rfl|exact .inl rfl|exact .inr rfl|assumption|exact fun _=>rfl
  ·exact PassesOwn.leaving
  ·exact (k8 (k7 rfl T.b_enumerate (au (fv 1) av)))
  ·exact (gc (n:=2) rfl (bd (fgn 5 cw.nd) (bd (fgn 6 cw.nd) eQ)))
  ·unfold cS
   refine af ?_
   refine dl ?_ ?_ ?_ ?_ ?_ ?_ <;> try first|rfl|exact .inl rfl|exact .inr rfl|assumption|exact fun _=>rfl
   ·exact PassesOwn.leaving
   ·exact (ie (aq (fcd hx G_dues D_dues hr (ai (fv 0) (ai (aE (fv 6) (fe_c aa)) (ai (fv 2) (ai (fv 3) ak)))))))
   ·exact (gc (n:=2) rfl (bd (fgn 7 cw.nd) (bd (fgn 8 cw.nd) eQ)))
   ·unfold cR
    refine af ?_
    refine j3 ?_ ?_ ?_ ?_ ?_ ?_ ?_ ?_ <;> try first|rfl|exact .inl rfl|exact .inr rfl|assumption|exact fun _=>rfl
    ·exact (pv 4)
    ·exact (b9 (au (fv 8) (au (fv 5) (au (fv 7) av))))
 refine af ?_
 refine aF ?_
 ·exact (f9 nM (cP TS.call_sorted pT rfl T.b_sorted nP (au (fv 4) av)))
theorem kF {g:Addr} {fd:FuncData} (T:Tx K mg) (D:FD K mg "check_calendar" bv ["zone","deeds","first","last"] g fd):FnOk P w K mg base (CXM P w) 7 g fd ["zone","deeds","first","last"] (spF K mg dU):=by
 obtain ⟨g_check_zone,fd_check_zone,D_check_zone⟩:=T.d_check_zone
 have G_check_zone:=hJ P w base T D_check_zone
 obtain ⟨g_check_deeds,fd_check_deeds,D_check_deeds⟩:=T.d_check_deeds
 have G_check_deeds:=jm P w base T D_check_deeds
 obtain ⟨g_check_stretch,fd_check_stretch,D_check_stretch⟩:=T.d_check_stretch
 have G_check_stretch:=lA P w base T D_check_stretch
 refine bi D.fn kD (by decide) ?_
 intro cdv A outer s H E F E' hr hx
 unfold fO
 refine ad ?_ ?_
 ·refine b4 ?_ ?_
  ·exact (fcd hx G_check_zone D_check_zone hr (ai (fv 0) ak))
  ·rfl
 refine ad ?_ ?_
 ·refine b4 ?_ ?_
  ·exact (fcd hx G_check_deeds D_check_deeds hr (ai (fv 1) ak))
  ·rfl
 refine af ?_
 refine b4 ?_ ?_
 ·exact (fcd hx G_check_stretch D_check_stretch hr (ai (fv 2) (ai (fv 3) ak)))
 ·rfl
theorem qE {g:Addr} {fd:FuncData} (T:Tx K mg) (D:FD K mg "next_due" da ["zone","deeds","moment"] g fd):FnOk P w K mg base (CXM P w) 7 g fd ["zone","deeds","moment"] (spF K mg h9):=by
 obtain ⟨g_check_zone,fd_check_zone,D_check_zone⟩:=T.d_check_zone
 have G_check_zone:=hJ P w base T D_check_zone
 obtain ⟨g_check_deeds,fd_check_deeds,D_check_deeds⟩:=T.d_check_deeds
 have G_check_deeds:=jm P w base T D_check_deeds
 obtain ⟨g_check_moment,fd_check_moment,D_check_moment⟩:=T.d_check_moment
 have G_check_moment:=gw P w base T D_check_moment
 obtain ⟨g_times_by,fd_times_by,D_times_by⟩:=T.d_times_by
 have G_times_by:=qD P w base T D_times_by
 obtain ⟨g_time_of,fd_time_of,D_time_of⟩:=T.d_time_of
 have G_time_of:=md P w base T D_time_of
 obtain ⟨DE_,xt⟩:=T.xt0
 refine bi D.fn em (by decide) ?_
 intro cdv A outer s H E F E' hr hx
 unfold jA
 refine ad ?_ ?_
 ·refine b4 ?_ ?_
  ·exact (fcd hx G_check_zone D_check_zone hr (ai (fv 0) ak))
  ·rfl
 refine ad ?_ ?_
 ·refine b4 ?_ ?_
  ·exact (fcd hx G_check_deeds D_check_deeds hr (ai (fv 1) ak))
  ·rfl
 refine ad ?_ ?_
 ·refine b4 ?_ ?_
  ·exact (fcd hx G_check_moment D_check_moment hr (ai (fv 2) ak))
  ·rfl
 refine ad ?_ ?_
 ·refine ji (i:=3) ?_ ?_ ?_ ?_ ?_ ?_ <;> try first|rfl|exact .inl rfl|exact .inr rfl|assumption|exact fun _=>rfl
  ·exact em.nd
  ·exact (j2 av)
 refine ad ?_ ?_
 ·refine dl ?_ ?_ ?_ ?_ ?_ ?_ <;> try first|rfl|exact .inl rfl|exact .inr rfl|assumption|exact fun _=>rfl
  ·exact PassesOwn.leaving
  ·exact (k8 (k7 rfl T.b_enumerate (au (fv 1) av)))
  ·exact (gc (n:=2) rfl (bd (fgn 4 em.nd) (bd (fgn 5 em.nd) eQ)))
  ·unfold cT
   refine ad ?_ ?_
   ·refine aG (i:=6) ?_ ?_ ?_ ?_ ?_ ?_ <;> try first|rfl|exact .inl rfl|exact .inr rfl|assumption|exact fun _=>rfl
    ·exact em.nd
    ·exact (aq (fcd hx G_times_by D_times_by hr (ai (fv 0) (ai (aE (fv 5) (fe_c aa)) (ai (cC (fv 2) (fe_c aa)) ak)))))
   refine ad ?_ ?_
   ·refine aG (i:=7) ?_ ?_ ?_ ?_ ?_ ?_ <;> try first|rfl|exact .inl rfl|exact .inr rfl|assumption|exact fun _=>rfl
    ·exact em.nd
    ·exact (aq (fcd hx G_time_of D_time_of hr (ai (fv 0) (ai (aE (fv 5) (fe_c aa)) (ai (fv 6) ak)))))
   refine af ?_
   refine bp ?_ ?_ ?_
   ·exact (qZ (fv 7) (fe_c fX))
   ·refine af ?_
    refine j3 ?_ ?_ ?_ ?_ ?_ ?_ ?_ ?_ <;> try first|rfl|exact .inl rfl|exact .inr rfl|assumption|exact fun _=>rfl
    ·exact (pv 3)
    ·exact (b9 (au (fv 7) (au (fv 4) (au (fv 6) av))))
   ·exact aS
 refine af ?_
 refine aF ?_
 ·exact (yi (Bg hr) rfl rfl T.b_min (pv 3))
theorem mf {g:Addr} {fd:FuncData} (T:Tx K mg) (D:FD K mg "idle_stretch" bM ["zone","deeds","first","last"] g fd):FnOk P w K mg base (CXM P w) 8 g fd ["zone","deeds","first","last"] (spF K mg eZ):=by
 obtain ⟨g_check_calendar,fd_check_calendar,D_check_calendar⟩:=T.d_check_calendar
 have G_check_calendar:=kF P w base T D_check_calendar
 obtain ⟨g_rows_between,fd_rows_between,D_rows_between⟩:=T.d_rows_between
 have G_rows_between:=me P w base T D_rows_between
 refine bi D.fn bq (by decide) ?_
 intro cdv A outer s H E F E' hr hx
 unfold gH
 refine ad ?_ ?_
 ·refine b4 ?_ ?_
  ·exact (fcd hx G_check_calendar D_check_calendar hr (ai (fv 0) (ai (fv 1) (ai (fv 2) (ai (fv 3) ak)))))
  ·rfl
 refine ad ?_ ?_
 ·refine aG (i:=4) ?_ ?_ ?_ ?_ ?_ ?_ <;> try first|rfl|exact .inl rfl|exact .inr rfl|assumption|exact fun _=>rfl
  ·exact bq.nd
  ·exact (fe_c aa)
 refine ad ?_ ?_
 ·refine aG (i:=5) ?_ ?_ ?_ ?_ ?_ ?_ <;> try first|rfl|exact .inl rfl|exact .inr rfl|assumption|exact fun _=>rfl
  ·exact bq.nd
  ·exact (fe_c fX)
 refine ad ?_ ?_
 ·refine aG (i:=6) ?_ ?_ ?_ ?_ ?_ ?_ <;> try first|rfl|exact .inl rfl|exact .inr rfl|assumption|exact fun _=>rfl
  ·exact bq.nd
  ·exact (fv 2)
 refine ad ?_ ?_
 ·refine aG (i:=7) ?_ ?_ ?_ ?_ ?_ ?_ <;> try first|rfl|exact .inl rfl|exact .inr rfl|assumption|exact fun _=>rfl
  ·exact bq.nd
  ·exact (iz (ii (CompScope.of (own:=["row"]) (capN:=[]) (caps:=[])) rfl rfl (ie (aq (fcd hx G_rows_between D_rows_between hr (ai (fv 0) (ai (fv 1) (ai (fv 2) (ai (fv 3) ak))))))) (fun _ _ _ _ _ _=>⟨(fgn 0 (show ((["row"]:List Str) ++ ([]:List Str)).Nodup from by decide +kernel)),jj,(aE (fv 0) (fe_c aa))⟩)) (dY (au (bf (fv 3) (fe_c aa)) av)))
 refine ad ?_ ?_
 ·refine dl ?_ ?_ ?_ ?_ ?_ ?_ <;> try first|rfl|exact .inl rfl|exact .inr rfl|assumption|exact fun _=>rfl
  ·exact PassesOwn.leaving
  ·exact (ie (fv 7))
  ·exact (fgn 8 bq.nd)
  ·unfold b6
   refine ad ?_ ?_
   ·refine bp ?_ ?_ ?_
    ·exact (lP (cC (fv 8) (fv 6)) (fv 4))
    ·refine ad ?_ ?_
     ·refine aG (i:=4) ?_ ?_ ?_ ?_ ?_ ?_ <;> try first|rfl|exact .inl rfl|exact .inr rfl|assumption|exact fun _=>rfl
      ·exact bq.nd
      ·exact (cC (fv 8) (fv 6))
     refine af ?_
     refine aG (i:=5) ?_ ?_ ?_ ?_ ?_ ?_ <;> try first|rfl|exact .inl rfl|exact .inr rfl|assumption|exact fun _=>rfl
     ·exact bq.nd
     ·exact (b9 (au (fv 6) (au (cC (fv 8) (fe_c aa)) av)))
    ·exact aS
   refine af ?_
   refine aG (i:=6) ?_ ?_ ?_ ?_ ?_ ?_ <;> try first|rfl|exact .inl rfl|exact .inr rfl|assumption|exact fun _=>rfl
   ·exact bq.nd
   ·exact (bf (fv 8) (fe_c aa))
 refine af ?_
 refine aF ?_
 ·exact (fv 5)
theorem AK {g:Addr} {fd:FuncData} (T:Tx K mg) (D:FD K mg "law" s_law ["_law_script"] g fd):FnOk P w K mg base (CXM P w) 9 g fd ["_law_script"] (spF K mg wR):=by
 obtain ⟨g__law_zone,fd__law_zone,D__law_zone⟩:=T.d__law_zone
 have G__law_zone:=p6 P w base T D__law_zone
 obtain ⟨g__law_deeds,fd__law_deeds,D__law_deeds⟩:=T.d__law_deeds
 have G__law_deeds:=oD P w base T D__law_deeds
 obtain ⟨g__law_draw,fd__law_draw,D__law_draw⟩:=T.d__law_draw
 have G__law_draw:=eM P w base T D__law_draw
 obtain ⟨g_next_due,fd_next_due,D_next_due⟩:=T.d_next_due
 have G_next_due:=qE P w base T D_next_due
 obtain ⟨g_idle_stretch,fd_idle_stretch,D_idle_stretch⟩:=T.d_idle_stretch
 have G_idle_stretch:=mf P w base T D_idle_stretch
 obtain ⟨g__law_times,fd__law_times,D__law_times⟩:=T.d__law_times
 have G__law_times:=oz P w base T D__law_times
 obtain ⟨DE_,xt⟩:=T.xt0
 refine bi D.fn b3 (by decide) ?_
 intro cdv A outer s H E F E' hr hx
 unfold sN
 refine ad ?_ ?_
 ·unfold m4
  refine ji (i:=1) ?_ ?_ ?_ ?_ ?_ ?_ <;> try first|rfl|exact .inl rfl|exact .inr rfl|assumption|exact fun _=>rfl
  ·exact b3.nd
  ·exact (j2 av)
 refine ad ?_ ?_
 ·unfold m5
  refine aG (i:=2) ?_ ?_ ?_ ?_ ?_ ?_ <;> try first|rfl|exact .inl rfl|exact .inr rfl|assumption|exact fun _=>rfl
  ·exact b3.nd
  ·exact (aq (fcd hx G__law_zone D__law_zone hr (br (pv 0) (br (pv 1) (ai (fe_c aa) ak)))))
 refine ad ?_ ?_
 ·unfold m6
  refine aG (i:=3) ?_ ?_ ?_ ?_ ?_ ?_ <;> try first|rfl|exact .inl rfl|exact .inr rfl|assumption|exact fun _=>rfl
  ·exact b3.nd
  ·exact (aq (fcd hx G__law_deeds D__law_deeds hr (br (pv 0) (br (pv 1) (ai (fe_c aa) (ai (fe_c aa) ak))))))
 refine ad ?_ ?_
 ·unfold m7
  refine aG (i:=4) ?_ ?_ ?_ ?_ ?_ ?_ <;> try first|rfl|exact .inl rfl|exact .inr rfl|assumption|exact fun _=>rfl
  ·exact b3.nd
  ·exact (aq (fcd hx G__law_draw D__law_draw hr (br (pv 0) (br (pv 1) (ai (fe_c aa) ak)))))
 refine ad ?_ ?_
 ·unfold m8
  refine aG (i:=5) ?_ ?_ ?_ ?_ ?_ ?_ <;> try first|rfl|exact .inl rfl|exact .inr rfl|assumption|exact fun _=>rfl
  ·exact b3.nd
  ·exact (dY av)
 refine ad ?_ ?_
 ·unfold jB
  refine dl ?_ ?_ ?_ ?_ ?_ ?_ <;> try first|rfl|exact .inl rfl|exact .inr rfl|assumption|exact fun _=>rfl
  ·exact PassesOwn.leaving
  ·exact (k8 (k7 rfl T.b_enumerate (au (fv 3) av)))
  ·exact (gc (n:=2) rfl (bd (fgn 6 b3.nd) (bd (fgn 7 b3.nd) eQ)))
  ·unfold ik
   refine ad ?_ ?_
   ·refine lO (i:=8) (own:=["_law_row"]) (capN:=["_law_moment"]) (caps:=[4]) ?_ ?_ ?_ ?_ ?_ ?_ ?_ ?_ ?_ ?_ ?_ <;> try first|rfl|exact .inl rfl|exact .inr rfl|assumption|exact fun _=>rfl
    ·exact b3.nd
    ·exact (CompScope.of (own:=["_law_row"]) (capN:=["_law_moment"]) (caps:=[4]))
    ·exact (ye (v7 rfl T.b_enumerate (au (aq (fcd hx G__law_times D__law_times hr (ai (fv 2) (ai (aE (fv 7) (fe_c aa)) (ai (fe_c aa) ak))))) av)))
    ·exact (fun _ _ _ _ _ _=>⟨(fgn 0 (show ((["_law_row"]:List Str) ++ (["_law_moment"]:List Str)).Nodup from by decide +kernel)),(mS (wQ (aE (fv 0) (fe_c aa)) (fv 1))),(fv 0)⟩)
   refine af ?_
   refine aG (i:=5) ?_ ?_ ?_ ?_ ?_ ?_ <;> try first|rfl|exact .inl rfl|exact .inr rfl|assumption|exact fun _=>rfl
   ·exact b3.nd
   ·exact (iz (fv 5) (ii (CompScope.of (own:=["_law_count","_law_here"]) (capN:=["_law_number"]) (caps:=[6])) rfl rfl (ie (vS (fv 8) BL (BM (fe_c aa)))) (fun _ _ _ _ _ _=>⟨(gc (n:=2) rfl (bd (fgn 0 (show ((["_law_count","_law_here"]:List Str) ++ (["_law_number"]:List Str)).Nodup from by decide +kernel)) (bd (fgn 1 (show ((["_law_count","_law_here"]:List Str) ++ (["_law_number"]:List Str)).Nodup from by decide +kernel)) eQ))),jj,(b9 (au (fv 1) (au (fv 2) (au (fv 0) av))))⟩)))
 refine ad ?_ ?_
 ·unfold lb
  refine bp ?_ ?_ ?_
  ·exact (BJ hr.units (aq (fcd hx G_next_due D_next_due hr (ai (fv 2) (ai (fv 3) (ai (fv 4) ak))))) (aE (iz (f9 nM (cP TS.call_sorted pT rfl T.b_sorted nP (au (fv 5) av))) (dY (au (fe_c fX) av))) (fe_c aa)))
  ·refine af ?_
   refine aF ?_
   ·exact (fe_c jq)
  ·exact aS
 refine ad ?_ ?_
 ·unfold lc
  refine aG (i:=9) ?_ ?_ ?_ ?_ ?_ ?_ <;> try first|rfl|exact .inl rfl|exact .inr rfl|assumption|exact fun _=>rfl
  ·exact b3.nd
  ·exact (bf (fv 4) (aq (fcd hx G__law_draw D__law_draw hr (br (pv 0) (br (pv 1) (ai (fe_c aa) ak))))))
 refine ad ?_ ?_
 ·unfold ld
  refine aG (i:=10) ?_ ?_ ?_ ?_ ?_ ?_ <;> try first|rfl|exact .inl rfl|exact .inr rfl|assumption|exact fun _=>rfl
  ·exact b3.nd
  ·exact (dY av)
 refine ad ?_ ?_
 ·unfold jC
  refine dl ?_ ?_ ?_ ?_ ?_ ?_ <;> try first|rfl|exact .inl rfl|exact .inr rfl|assumption|exact fun _=>rfl
  ·exact PassesOwn.leaving
  ·exact (ix (fv 3))
  ·exact (fgn 7 b3.nd)
  ·unfold iM
   refine af ?_
   refine aG (i:=10) ?_ ?_ ?_ ?_ ?_ ?_ <;> try first|rfl|exact .inl rfl|exact .inr rfl|assumption|exact fun _=>rfl
   ·exact b3.nd
   ·exact (iz (fv 10) (aq (fcd hx G__law_times D__law_times hr (ai (fv 2) (ai (aE (fv 7) (fe_c aa)) (ai (fv 9) ak))))))
 refine ad ?_ ?_
 ·unfold lh
  refine AB ?_
  ·exact (Ar (i:=11) (j:=12) rfl b3.nd rfl rfl (by decide) rfl rfl (au (fe_c fX) (au (fv 4) av)))
 refine ad ?_ ?_
 ·unfold li
  refine dl ?_ ?_ ?_ ?_ ?_ ?_ <;> try first|rfl|exact .inl rfl|exact .inr rfl|assumption|exact fun _=>rfl
  ·exact PassesOwn.leaving
  ·exact (ut (ur rfl T.b_range (au (fv 4) (au (bf (fv 9) (fe_c aa)) av))))
  ·exact (fgn 13 b3.nd)
  ·unfold bG
   refine af ?_
   refine bp ?_ ?_ ?_
   ·exact (kW (lL (hZ BE (BD (fv 13) (fv 10))) (jY (gM hr.units (fv 13) (bf (fv 9) (fe_c aa))))))
   ·refine ad ?_ ?_
    ·refine bp ?_ ?_ ?_
     ·exact (kW (uj (lP (fv 13) (fv 12)) (qT (kW (lL (AE (fv 11) (fe_c fX)) (jY (lP (cC (fv 13) (fv 12)) (bf (cC (aE (fv 11) (fe_c aa)) (aE (fv 11) (fe_c aa))) (fe_c aa)))))))))
     ·refine af ?_
      refine aG (i:=11) ?_ ?_ ?_ ?_ ?_ ?_ <;> try first|rfl|exact .inl rfl|exact .inr rfl|assumption|exact fun _=>rfl
      ·exact b3.nd
      ·exact (b9 (au (fv 12) (au (cC (fv 13) (fe_c aa)) av)))
     ·exact aS
    refine af ?_
    refine aG (i:=12) ?_ ?_ ?_ ?_ ?_ ?_ <;> try first|rfl|exact .inl rfl|exact .inr rfl|assumption|exact fun _=>rfl
    ·exact b3.nd
    ·exact (bf (fv 13) (fe_c aa))
   ·exact aS
 refine af ?_
 unfold ls
 refine aF ?_
 ·exact (lQ hr.units (aq (fcd hx G_idle_stretch D_idle_stretch hr (ai (fv 2) (ai (fv 3) (ai (fv 4) (ai (fv 9) ak)))))) (fv 11))
end
open PySem L2 L2.L3 Due
noncomputable def isW (d:PyData) (lo hi:Int):Bool:=match d with
 | .int i=>decide (lo<=i) && decide (i<=hi)
 | _=>false
noncomputable def noD:PyData->Bool
 | .dict _=>false
 | _=>true
@[simp] theorem tab_ii:ba "int" "int" = some true:=by decide
@[simp] theorem tab_ib:ba "int" "bool" = some false:=by decide
@[simp] theorem tab_bi:ba "bool" "int" = some true:=by decide
@[simp] theorem tab_bb:ba "bool" "bool" = some true:=by decide
@[simp] theorem tab_ni:ba "NoneType" "int" = some false:=by decide
@[simp] theorem tab_si:ba "str" "int" = some false:=by decide
@[simp] theorem tab_li:ba "list" "int" = some false:=by decide
@[simp] theorem tab_ti:ba "tuple" "int" = some false:=by decide
@[simp] theorem tab_it:ba "int" "tuple" = some false:=by decide
@[simp] theorem tab_bt:ba "bool" "tuple" = some false:=by decide
@[simp] theorem tab_nt:ba "NoneType" "tuple" = some false:=by decide
@[simp] theorem tab_st:ba "str" "tuple" = some false:=by decide
@[simp] theorem tab_lt:ba "list" "tuple" = some false:=by decide
@[simp] theorem tab_tt:ba "tuple" "tuple" = some true:=by decide
theorem rB (i j:Int):PyData.eqv (.int i) (.int j)=(i == j):=by rw [PyData.eqv]
theorem jE (i:Int):SeqAt.shaped (.int i)=true:=by rfl
theorem ff {d:PyData} {lo hi:Int} (h:noD d=true):bU [.dat d,.dat (.int lo),.dat (.int hi)]=.rt (.dat (.bool (isW d lo hi))) []:=by
 cases d with
 | dict _=>cases h
 | int i=>
  by_cases h1:lo<=i
  ·simp [gEq,bU,gg,isW,h1]
  ·simp [gEq,bU,gg,isW,h1]
 | _=>simp [gEq,bU,gg,isW]
noncomputable def isT (d:PyData) (n:Int):Bool:=match d with
 | .tuple ds=>decide ((ds.length:Int)=n)
 | _=>false
theorem ed {d:PyData} {n:Int} (h:noD d=true):bV [.dat d,.dat (.int n)]=.rt (.dat (.bool (isT d n))) []:=by
 cases d with
 | dict _=>cases h
 | tuple ds=>simp [gEq,bV,fF,isT,jE,rB]; rfl
 | _=>simp [gEq,bV,fF,isT]
theorem mi {d:PyData} (h:noD d=true):gj [.dat d]=.rt (.dat (.bool (isW d (-12) 14))) []:=by simp [gEq,gj,jz,ff h]
theorem jh {d:PyData} (h:noD d=true):eh [.dat d]=.rt (.dat (.bool (isW d 0 9999))) []:=by simp [gEq,eh,i9,ff h]
theorem dH {d:PyData} (h:noD d=true):bJ [.dat d]=if isW d 0 9999=true then .rt (.dat .none) [] else .ex "NoMoment" []:=by
 simp only [bJ,gE]
 cases hw:isW d 0 9999 <;> simp [gEq,jh h,hw]
noncomputable abbrev shD (p:Int × Int):PyData:=.tuple [.int p.1,.int p.2]
noncomputable abbrev zoneD (a:Int) (ss:Sh):PyData:=.tuple [.int a,.tuple (ss.map shD)]
@[simp] theorem at0 {x:PyData} {l:List PyData}:atI (x :: l) 0=some x:=by
 unfold atI ixN
 rw [if_pos (by omega),if_pos (by simp <;> omega)]
 rfl
@[simp] theorem at1 {x y:PyData} {l:List PyData}:atI (x :: y :: l) 1=some y:=by
 unfold atI ixN
 rw [if_pos (by omega),if_pos (by simp <;> omega)]
 rfl
@[simp] theorem atL {x:PyData} {l:List PyData}:atI (l ++ [x]) (-1)=some x:=by
 unfold atI ixN
 rw [if_neg (by omega),if_pos (by simp; omega)]
 simp
 rw [show (-1 + ((l.length:Int) + 1)).toNat=l.length by omega]
 simp
theorem nQ {c:Option Cell}:∀ {ss:Sh} {lo:Int} {x:Option Cell},cE lo ss->(∀ p ∈ ss,p.1<=9999/\-12<=p.2/\p.2<=14)->∃ e y,aR (gNm 2) dD (ss.map shD) [c,some (.dat (.int (lo + 1))),x]=.nx [c,e,y]
 | [],_,_,_,_=>⟨_,_,rfl⟩
 | (b,k) :: r,lo,x,⟨h1,h2⟩,ho=>by
  obtain ⟨e,y,ih⟩:=nQ (lo:=b) (c:=c) (x:=some (.dat (shD (b,k)))) h2 fun p hp=>ho p (Qak _ hp)
  have hb:=ho (b,k) List.mem_cons_self
  refine ⟨e,y,?_⟩
  rw [List.map_cons,aR,<-ih]
  have:dD [c,some (.dat (.int (lo + 1))),some (.dat (shD (b,k)))]=.nx [c,some (.dat (.int (b + 1))),some (.dat (shD (b,k)))]:=by
   simp [gEq,dD,ed (d:=.tuple [.int b,.int k]) rfl,isT,mi (d:=.int k) rfl,ff (d:=.int b) rfl,isW,hb.2.1,hb.2.2,hb.1,show lo + 1<=b by omega]
  simp [gEq,this]
theorem p8 {ss:Sh} (hl:ss.length<=6) (hr:cE 0 ss) (ho:∀ p ∈ ss,p.1<=9999/\-12<=p.2/\p.2<=14):gn [.dat (.tuple (ss.map shD))]=.rt (.dat (.bool true)) []:=by
 obtain ⟨e,y,h⟩:=nQ (lo:=0) (c:=some (.dat (.tuple (ss.map shD)))) (x:=none) hr ho
 simp [gEq,gn,iG,show ¬ (6:Int) < ss.length by omega] at h ⊢
 rw [h]
 simp
theorem uL {a:Int} {ss:Sh} (z:ZOk a ss):i5 [.dat (zoneD a ss)]=.rt (.dat (.bool true)) []:=by
 have h1:=z.ah.1
 simp [gEq,i5,kb,ed (d:=zoneD a ss) rfl,isT,mi (d:=.int a) rfl,isW,h1.1,h1.2,p8 z.len z.rise fun p hp=>⟨z.top p hp,z.ah.2 p hp⟩]
theorem iP {a:Int} {ss:Sh} (z:ZOk a ss):dE [.dat (zoneD a ss)]=.rt (.dat .none) []:=by
 simp [gEq,dE,iJ,uL z]
theorem p9 {m:Int} {z:Option Cell}:∀ {ss:Sh} {a:Int} {x:Option Cell},∃ y,aR (gNm 3) i4 (ss.map shD) [z,some (.dat (.int m)),some (.dat (.int a)),x]=.nx [z,some (.dat (.int m)),some (.dat (.int (bI a ss m))),y]
 | [],_,_=>⟨_,rfl⟩
 | (b,c) :: r,a,x=>by
  obtain ⟨y,ih⟩:=p9 (m:=m) (z:=z) (ss:=r) (a:=if b<=m then c else a) (x:=some (.dat (shD (b,c))))
  refine ⟨y,?_⟩
  rw [List.map_cons,aR]
  unfold bI
  rw [<-ih]
  by_cases h:b<=m <;> simp [gEq,i4,h]
theorem yC {a m:Int} {ss:Sh}:kB [.dat (zoneD a ss),.dat (.int m)]=.rt (.dat (.int (aK a ss m))) []:=by
 obtain ⟨y,h⟩:=p9 (m:=m) (z:=some (.dat (zoneD a ss))) (ss:=ss) (a:=a) (x:=none)
 simp [gEq,kB,m3] at h ⊢
 rw [h]
 simp [gEq,aK]
theorem jF {e:XM PyData} {g:GM} {f:PyData->PyData} {P:DEnv->Prop}:∀ {its ys:List PyData} {ρ:DEnv},P ρ->(∀ d ∈ its,∀ ρ,P ρ->∃ ρ1 ρ2,g d ρ=some ρ1/\e ρ1=.ok (f d) ρ2/\P ρ2)->ys.length + its.length<=sizeLine->bE g bTrue e its ys ρ=some (ys ++ its.map f)
 | [],ys,ρ,_,_,_=>by simp [gEq,bE]
 | d :: r,ys,ρ,hP,h,hl=>by
  obtain ⟨ρ1,ρ2,h1,h2,h3⟩:=h d List.mem_cons_self ρ hP
  simp only [List.length_cons] at hl
  unfold bE
  rw [h1]
  simp only [bTrue,h2]
  rw [if_pos (by omega),jF h3 (fun d hd=>h d (Qak _ hd)) (by simp; omega)]
  simp
theorem fB {t:XM Bool} {e:XM PyData} {g:GM} {p:PyData->Bool} {f:PyData->PyData} {P:DEnv->Prop}:∀ {its ys:List PyData} {ρ:DEnv},P ρ->(∀ d ∈ its,∀ ρ,P ρ->∃ ρ1 ρ2 ρ3,g d ρ=some ρ1/\t ρ1=.ok (p d) ρ2/\P ρ2/\(p d=true->e ρ2=.ok (f d) ρ3/\P ρ3))->ys.length + its.length<=sizeLine->bE g t e its ys ρ=some (ys ++ (its.filter p).map f)
 | [],ys,ρ,_,_,_=>by simp [gEq,bE]
 | d :: r,ys,ρ,hP,h,hl=>by
  obtain ⟨ρ1,ρ2,ρ3,h1,h2,h3,h4⟩:=h d List.mem_cons_self ρ hP
  simp only [List.length_cons] at hl
  unfold bE
  rw [h1]
  simp only [h2]
  cases hp:p d with
  | true=>
   obtain ⟨h5,h6⟩:=h4 hp
   simp only [h5]
   rw [if_pos (by omega),fB h6 (fun d hd=>h d (Qak _ hd)) (by simp; omega)]
   simp [gEq,hp]
  | false=>
   simp only
   rw [fB h3 (fun d hd=>h d (Qak _ hd)) (by omega)]
   simp [gEq,hp]
@[simp] theorem sz0:(0:Nat)<=sizeLine:=by decide
@[simp] theorem sz1:(1:Nat)<=sizeLine:=by decide
@[simp] theorem sz2:(2:Nat)<=sizeLine:=by decide
@[simp] theorem sz3:(3:Nat)<=sizeLine:=by decide
@[simp] theorem sz4:(4:Nat)<=sizeLine:=by decide
@[simp] theorem sz5:(5:Nat)<=sizeLine:=by decide
@[simp] theorem sz6:(6:Nat)<=sizeLine:=by decide
@[simp] theorem sz7:(7:Nat)<=sizeLine:=by decide
@[simp] theorem sz8:(8:Nat)<=sizeLine:=by decide
@[simp] theorem sz9:(9:Nat)<=sizeLine:=by decide
@[simp] theorem sz10:(10:Nat)<=sizeLine:=by decide
@[simp] theorem sz11:(11:Nat)<=sizeLine:=by decide
@[simp] theorem sz12:(12:Nat)<=sizeLine:=by decide
@[simp] theorem sz13:(13:Nat)<=sizeLine:=by decide
@[simp] theorem sz14:(14:Nat)<=sizeLine:=by decide
noncomputable def optD:Option Int->PyData
 | none=>.none
 | some e=>.int e
noncomputable def stD (p:Int × Option Int × Int):PyData:=.tuple [.int p.1,optD p.2.1,.int p.2.2]
theorem uM:∀ (ss:Sh) (s a:Int),lH (.int s :: ss.map fun p=>.int p.1) ((ss.map fun p=>PyData.int p.1) ++ [.none]) (.int a :: ss.map fun p=>.int p.2)=(stret s a ss).map stD
 | [],s,a=>rfl
 | (b,c) :: r,s,a=>by
  have ih:=uM r b c
  simp only [List.map_cons,List.cons_append,stret]
  rw [<-ih]
  rfl
theorem kM {a:Int} {ss:Sh} (hl:ss.length<=6):fu [.dat (zoneD a ss)]=.rt (.dat (.list ((stret 0 a ss).map stD))) []:=by
 have sz:1000 < sizeLine:=by decide
 have c1:=jF (e:=gY) (g:=gNm 0) (f:=fun d=>match d with | .tuple (x :: _)=>x | _=>.none) (P:=fun ρ=>ρ.length=1) (its:=ss.map shD) (ys:=[]) (ρ:=[none]) rfl (fun d hd ρ hρ=>by
  obtain ⟨p,_,rfl⟩:=List.mem_map.mp hd
  match ρ,hρ with
  | [y],_=>exact ⟨_,_,rfl,by simp [gEq,gY]; rfl,rfl⟩) (by simp; omega)
 have c2:=jF (e:=gZ) (g:=gNm 0) (f:=fun d=>match d with | .tuple (_ :: x :: _)=>x | _=>.none) (P:=fun ρ=>ρ.length=1) (its:=ss.map shD) (ys:=[]) (ρ:=[none]) rfl (fun d hd ρ hρ=>by
  obtain ⟨p,_,rfl⟩:=List.mem_map.mp hd
  match ρ,hρ with
  | [y],_=>exact ⟨_,_,rfl,by simp [gEq,gZ]; rfl,rfl⟩) (by simp; omega)
 simp only [List.nil_append,List.map_map] at c1 c2
 have d1:List.map ((fun d=>match d with | .tuple (x :: _)=>x | _=>PyData.none) ∘ shD) ss=ss.map fun p=>PyData.int p.1:=by apply List.map_congr_left; intro p _; rfl
 have d2:List.map ((fun d=>match d with | .tuple (_ :: x :: _)=>x | _=>PyData.none) ∘ shD) ss=ss.map fun p=>PyData.int p.2:=by apply List.map_congr_left; intro p _; rfl
 rw [d1] at c1
 rw [d2] at c2
 have z:=uM ss 0 a
 simp [gEq,fu,i8,c1,c2,show ss.length<=sizeLine by omega,show ss.length + 1<=sizeLine by omega,show 1 + ss.length<=sizeLine by omega,z]
theorem fK {m:Int} {e:Option Int}:dZ [.dat (.int m),.dat (optD e)]=.rt (.dat (.bool (bA m e))) []:=by
 cases e <;> simp [gEq,dZ,g8,optD,bA]
theorem gW:∀ (ss:Sh) (s a:Int),(stret s a ss).length=ss.length + 1
 | [],s,a=>rfl
 | (b,c) :: r,s,a=>by simp [gEq,stret,gW r b c]
theorem AL {ns:List Int} {k:Int} (hn:ns.length<=63) (hk:0<=k):∃ v,cO [.scr ns,.dat (.int k)]=.rt (.dat (.int v)) []:=by
 by_cases h:k < ns.length
 ·have:∃ v,atI ns k=some v:=by
   unfold atI ixN
   rw [if_pos hk,if_pos h]
   exact ⟨ns[k.toNat]'(by omega),by simp⟩
  obtain ⟨v,hv⟩:=this
  exact ⟨v,by simp [gEq,cO,dm,hn,h,hv]⟩
 ·by_cases h0:ns=[]
  ·subst h0
   exact ⟨0,by simp [gEq,cO,dm] at h ⊢; simp [gEq,show ¬ k < 0 by omega]⟩
  ·have hp:0 < (ns.length:Int):=by
    have:=List.length_pos_iff.mpr h0
    omega
   have:∃ v,atI ns (k % ns.length)=some v:=by
    have h1:=Int.emod_nonneg k (show (ns.length:Int) ≠ 0 by omega)
    have h2:=Int.emod_lt_of_pos k hp
    unfold atI ixN
    rw [if_pos h1,if_pos h2]
    exact ⟨ns[(k % ns.length).toNat]'(by omega),by simp⟩
   obtain ⟨v,hv⟩:=this
   exact ⟨v * 31 + k,by simp [gEq,cO,dm,hn,h,h0,hv,ph,jW,List.length_pos_iff.mpr h0]⟩
theorem yD {ns:List Int} {k many:Int} (hn:ns.length<=63) (hk:0<=k) (hm:0 < many):∃ v,0<=v/\v < many/\gm [.scr ns,.dat (.int k),.dat (.int many)]=.rt (.dat (.int v)) []:=by
 obtain ⟨v,hv⟩:=AL (k:=k) hn hk
 generalize hd:(v * 1103515245 + 7919 * k + 12345) % 2147483647=dr
 have d1:0<=dr:=by omega
 have d2:dr < 2147483647:=by omega
 refine ⟨dr ^ 5 % 2147483647 % 999983 % many,Int.emod_nonneg _ (by omega),Int.emod_lt_of_pos _ hm,?_⟩
 simp [gEq,gm,iF,hv,jW,ph,si,hd,hm,show dr.natAbs < 18446744073709551616 by omega]
theorem eN {ns:List Int} {many:Int} {t:List PyData} (hn:ns.length<=63) (ht:t.length < 1000) (hm:0 < many):∃ v,0<=v/\v < many/\bg [.scr ns,.own true (.l t),.dat (.int many)]=.rt (.dat (.int v)) [.l (t ++ [.int 0])]:=by
 have sz:1000 < sizeLine:=by decide
 obtain ⟨v,h1,h2,h3⟩:=yD (k:=((t ++ [PyData.int 0]).length:Int)) hn (by omega) hm
 refine ⟨v,h1,h2,?_⟩
 simp at h3
 simp [gEq,bg,jc,show t.length < sizeLine by omega,h3]
theorem qa {ns:List Int} {ds t:List PyData} (hn:ns.length<=63) (ht:t.length < 1000) (hd:ds ≠ []) (hl:ds.length<=1000):∃ d ∈ ds,ei [.scr ns,.own true (.l t),.dat (.list ds)]=.rt (.dat d) [.l (t ++ [.int 0])]:=by
 have hp:=List.length_pos_iff.mpr hd
 obtain ⟨v,h1,h2,h3⟩:=eN (many:=ds.length) hn ht (by omega)
 have:atI ds v=some (ds[v.toNat]'(by omega)):=by
  unfold atI ixN
  rw [if_pos h1,if_pos h2]
  simp
 refine ⟨ds[v.toNat]'(by omega),List.getElem_mem _,?_⟩
 simp [gEq,ei,jd,h3,this]
theorem uO {ns:List Int} {t:List PyData} {ss:Sh} {m wd:Int} {k:Option Cell} (hn:ns.length<=63) (ht:t.length < 900) (hs:ss.length<=100) (hw:0 < wd):∃ d c,0<=d/\d < wd/\-12<=c/\c<=14/\
  d7 [some (.scr ns),some (.own true (.l t)),some (.dat (.int wd)),some (.dat (.tuple (ss.map shD))),some (.dat (.int m)),k]=.nx [some (.scr ns),some (.own true (.l (t ++ [.int 0] ++ [.int 0]))),some (.dat (.int wd)),some (.dat (.tuple ((ss ++ [(m + 1 + d,c)]).map shD))),some (.dat (.int (m + 1 + d))),k]:=by
 have sz:1000 < sizeLine:=by decide
 obtain ⟨d,d1,d2,h2⟩:=eN (ns:=ns) (t:=t) (many:=wd) hn (by omega) hw
 obtain ⟨w,hw,h1⟩:=qa (ns:=ns) (t:=t ++ [.int 0]) (ds:=[.int 0,.int 1,.int 2,.int (-1),.int 14,.int (-12),.int 3]) hn (by simp; omega) (by simp) (by simp)
 have:∃ i:Int,w=.int i/\-12<=i/\i<=14:=by
  simp only [List.mem_cons,List.not_mem_nil,or_false] at hw
  rcases hw with rfl | rfl | rfl | rfl | rfl | rfl | rfl <;> exact ⟨_,rfl,by omega,by omega⟩
 obtain ⟨i,rfl,i1,i2⟩:=this
 refine ⟨d,i,d1,by omega,i1,i2,?_⟩
 simp only [List.append_assoc,List.cons_append,List.nil_append] at h1 h2
 simp [gEq,d7,h1,h2,show ss.length + 1<=sizeLine by omega]
theorem rC {ns:List Int} {wd:Int} (hn:ns.length<=63) (hw:0 < wd):∀ {its t:List PyData} {ss:Sh} {m:Int} {k:Option Cell},t.length + 2 * its.length < 900->ss.length + its.length<=100->∃ new t' m' k',aR (gNm 5) d7 its [some (.scr ns),some (.own true (.l t)),some (.dat (.int wd)),some (.dat (.tuple (ss.map shD))),some (.dat (.int m)),k]=.nx [some (.scr ns),some (.own true (.l t')),some (.dat (.int wd)),some (.dat (.tuple ((ss ++ new).map shD))),some (.dat (.int m')),k']/\
  cE m new/\(∀ p ∈ new,p.1<=m + wd * its.length/\-12<=p.2/\p.2<=14)/\new.length=its.length/\t'.length=t.length + 2 * its.length
 | [],t,ss,m,k,_,_=>⟨[],t,m,k,by simp [gEq,aR],trivial,fun p hp=>(by cases hp),rfl,rfl⟩
 | x :: r,t,ss,m,k,h1,h2=>by
  simp only [List.length_cons] at h1 h2
  obtain ⟨d,c,d1,d2,c1,c2,e⟩:=uO (ns:=ns) (t:=t) (ss:=ss) (m:=m) (wd:=wd) (k:=some (.dat x)) hn (by omega) (by omega) hw
  obtain ⟨new,t',m',k',g1,g2,g3,g4,g5⟩:=rC hn hw (its:=r) (t:=t ++ [.int 0] ++ [.int 0]) (ss:=ss ++ [(m + 1 + d,c)]) (m:=m + 1 + d) (k:=some (.dat x)) (by simp; omega) (by simp; omega)
  have e3:wd * ((r.length + 1:Nat):Int)=wd * r.length + wd:=by rw [Int.natCast_add,Int.mul_add]; simp
  have e4:0<=wd * (r.length:Int):=Int.mul_nonneg (by omega) (by omega)
  refine ⟨(m + 1 + d,c) :: new,t',m',k',?_,⟨by omega,g2⟩,fun p hp=>?_,by simp [gEq,g4],by rw [g5]; simp; omega⟩
  ·rw [aR]
   simp only [gNm,List.set_cons_succ,List.set_cons_zero,e]
   rw [g1]
   simp
  ·rw [List.length_cons,e3]
   rcases List.mem_cons.mp hp with rfl | hp
   ·exact ⟨by simp; omega,c1,c2⟩
   ·have:=g3 p hp
    exact ⟨by omega,this.2⟩
theorem AM {ns:List Int} {t:List PyData} {wd:Int} (hn:ns.length<=63) (ht:t.length<=100) (hw:0 < wd):∃ a ss t',gP [.scr ns,.own true (.l t),.dat (.int wd)]=.rt (.dat (zoneD a ss)) [.l t']/\ss.length<=4/\cE 0 ss/\kA a ss/\(∀ p ∈ ss,p.1<=4 * wd)/\t'.length<=t.length + 12:=by
 have sz:1000 < sizeLine:=by decide
 obtain ⟨n,n1,n2,h1⟩:=eN (ns:=ns) (t:=t) (many:=5) hn (by omega) (by omega)
 obtain ⟨new,t1,m1,k1,g1,g2,g3,g4,g5⟩:=rC (ns:=ns) (wd:=wd) hn hw (its:=intsFrom 0 n.toNat) (t:=t ++ [.int 0]) (ss:=[]) (m:=0) (k:=none) (by simp [gEq,ez]; omega) (by simp [gEq,ez]; omega)
 rw [ez] at g3 g4 g5
 simp only [List.length_append,List.length_cons,List.length_nil] at g5
 obtain ⟨w,hw',h2⟩:=qa (ns:=ns) (t:=t1) (ds:=[.int 0,.int 1,.int 2,.int (-1),.int 14,.int (-12)]) hn (by omega) (by simp) (by simp)
 have:∃ i:Int,w=.int i/\-12<=i/\i<=14:=by
  simp only [List.mem_cons,List.not_mem_nil,or_false] at hw'
  rcases hw' with rfl | rfl | rfl | rfl | rfl | rfl <;> exact ⟨_,rfl,by omega,by omega⟩
 obtain ⟨i,rfl,i1,i2⟩:=this
 simp only [List.map_nil,List.nil_append] at g1
 have e3:wd * ((n.toNat:Nat):Int)<=4 * wd:=by
  rw [Int.mul_comm 4]
  exact Int.mul_le_mul_of_nonneg_left (by omega) (by omega)
 refine ⟨i,new,t1 ++ [.int 0],?_,by omega,g2,⟨⟨i1,i2⟩,fun p hp=>(g3 p hp).2⟩,fun p hp=>by have:=(g3 p hp).1; omega,by simp; omega⟩
 simp [gEq,gP,jg,h1,n1,show n < 4611686018427387904 by omega,show -4611686018427387904<=n by omega,g1,h2]
theorem rD {d:PyData} (h:SeqAt.shaped d=true):gEq false d d=some (.bool true):=by simp [gEq,h,lJ h]
theorem yE {d:PyData} (h:SeqAt.shaped d=true):gEq true d d=some (.bool false):=by simp [gEq,h,lJ h]
theorem eO (i j:Int):gEq false (.int i) (.int j)=some (.bool (decide (i=j))):=by
 by_cases h:i=j
 ·subst h; simp [rD (jE i)]
 ·simp [gEq,jE,rB,h]
theorem yF {m k:SM} {ρ ρ':DEnv} (h:m ρ=.nx ρ'):al m k ρ=k ρ':=by simp [h]
theorem yG (i j:Str):PyData.eqv (.str i) (.str j)=(i == j):=by rw [PyData.eqv]
theorem mj {x:Str} (h:PyData.strOk x=true):SeqAt.shaped (.str x)=true:=by
 unfold SeqAt.shaped
 simp [PyData.canLay0,PyData.depth,h]
theorem bz {x y:Str} (hx:PyData.strOk x=true) (hy:PyData.strOk y=true):gEq false (.str x) (.str y)=some (.bool (x == y)):=by simp [gEq,mj hx,mj hy,yG]
theorem bn:PyData.strOk "once" = true:=by decide +kernel
theorem bB:PyData.strOk "every" = true:=by decide +kernel
theorem df:PyData.strOk "daily" = true:=by decide +kernel
@[simp] theorem q_eo:(("every":Str) == ("once":Str))=false:=by decide +kernel
@[simp] theorem q_do:(("daily":Str) == ("once":Str))=false:=by decide +kernel
@[simp] theorem q_de:(("daily":Str) == ("every":Str))=false:=by decide +kernel
@[simp] theorem tab_ss:ba "str" "str" = some true:=by decide
noncomputable abbrev planD:Plan->PyData
 | .once m=>.tuple [.str "once",.int m]
 | .every f s=>.tuple [.str "every",.int f,.int s]
 | .daily h=>.tuple [.str "daily",.int h]
noncomputable abbrev qb (a:Int) (ss:Sh) (p:Plan) (c:Nat):PyData:=.tuple [.int c,.int (timeV a ss p c)]
@[simp] theorem at2 {x y w:PyData} {l:List PyData}:atI (x :: y :: w :: l) 2=some w:=by
 unfold atI ixN
 rw [if_pos (by omega),if_pos (by simp <;> omega)]
 rfl
theorem dW {x w:Str} {rest:List PyData} {n:Int} (hx:PyData.strOk x=true) (hw:PyData.strOk w=true):cY [.dat (.tuple (.str x :: rest)),.dat (.str w),.dat (.int n)]=.rt (.dat (.bool (decide (((rest.length + 1:Nat):Int)=n) && (x == w)))) []:=by
 by_cases h:(((rest.length + 1:Nat):Int)=n)
 ·simp [cY,h8,ed (d:=.tuple (.str x :: rest)) rfl,isT,bz hx hw]
  simp at h
  simp [h]
 ·simp [cY,h8,ed (d:=.tuple (.str x :: rest)) rfl,isT,bz hx hw]
  simp at h
  simp [h]
theorem nR {p:Plan} (ok:aH p):eK [.dat (planD p)]=.rt (.dat (.bool true)) []:=by
 cases p with
 | once m=>simp [eK,gS,dW bn bn,jh (d:=.int m) rfl,isW,ok.1,ok.2]
 | every f s=>simp [eK,gS,dW bB bn,dW bB bB,jh (d:=.int f) rfl,ff (d:=.int s) rfl,isW,ok.1.1,ok.1.2,ok.2.1,ok.2.2]
 | daily h=>simp [eK,gS,dW df bn,dW df bB,dW df df,ff (d:=.int h) rfl,isW,ok.1,ok.2]
theorem qc {p:Plan} (ok:aH p):gq [.dat (planD p)]=.rt (.dat .none) []:=by
 simp [gq,iI,nR ok]
noncomputable def stOk (g:Int) (d:PyData):Bool:=match d with
 | .tuple [.int s,.none,.int a]=>bA (max s (g - a)) none
 | .tuple [.int s,.int e,.int a]=>bA (max s (g - a)) (some e)
 | _=>false
noncomputable def stFi (g:Int) (d:PyData):PyData:=match d with
 | .tuple [.int s,_,.int a]=>.int (max s (g - a))
 | _=>.none
theorem rE (g:Int) (p:Int × Option Int × Int):stOk g (stD p)=bA (max p.1 (g - p.2.2)) p.2.1:=by
 obtain ⟨s,e,a⟩:=p
 cases e <;> rfl
theorem rF (g:Int) (p:Int × Option Int × Int):stFi g (stD p)=.int (max p.1 (g - p.2.2)):=by
 obtain ⟨s,e,a⟩:=p
 cases e <;> rfl
theorem mm {a g:Int} {ss:Sh} (hl:ss.length<=6):eE [.dat (zoneD a ss),.dat (.int g)]=.rt (.dat (.int (ca g 0 a ss))) []:=by
 have sz:1000 < sizeLine:=by decide
 have c:=fB (t:=fk) (e:=fm) (g:=bT 3 (aI (gNm 0) (aI (gNm 1) (aI (gNm 2) bS)))) (p:=stOk g) (f:=stFi g) (P:=fun ρ=>∃ x y z,ρ=[x,y,z,some (.dat (.int g))]) (its:=(stret 0 a ss).map stD) (ys:=[]) (ρ:=[none,none,none,some (.dat (.int g))]) ⟨_,_,_,rfl⟩ (fun d hd ρ hρ=>by
  obtain ⟨p,_,rfl⟩:=List.mem_map.mp hd
  obtain ⟨x,y,z,rfl⟩:=hρ
  refine ⟨[some (.dat (.int p.1)),some (.dat (optD p.2.1)),some (.dat (.int p.2.2)),some (.dat (.int g))],[some (.dat (.int p.1)),some (.dat (optD p.2.1)),some (.dat (.int p.2.2)),some (.dat (.int g))],[some (.dat (.int p.1)),some (.dat (optD p.2.1)),some (.dat (.int p.2.2)),some (.dat (.int g))],by simp [stD],by simp [fk,fK,rE],⟨_,_,_,rfl⟩,fun _=>⟨by simp [fm,rF],⟨_,_,_,rfl⟩⟩⟩) (by simp [gW]; omega)
 have f1:(((stret 0 a ss).map stD).filter (stOk g)).map (stFi g)=(gD g (stret 0 a ss)).map PyData.int:=by
  unfold gD
  have e1:stFi g ∘ stD=fun p=>.int (max p.1 (g - p.2.2)):=funext (rF g)
  have e2:stOk g ∘ stD=fun p=>bA (max p.1 (g - p.2.2)) p.2.1:=funext (rE g)
  rw [List.filter_map,List.map_map,List.map_map,e1,e2]
  rfl
 have lr:(gD g (stret 0 a ss)).length<=7:=by
  unfold gD
  rw [List.length_map]
  exact Nat.le_trans (List.length_filter_le _ _) (by rw [gW]; omega)
 obtain ⟨t,e⟩:=ka g ss 0 a
 rw [f1,e] at c
 rw [e,List.length_cons] at lr
 simp only [List.nil_append,List.map_cons] at c
 simp [eE,gl,kM hl,c,show t.length + 1<=sizeLine by omega]
theorem kN {a h:Int} {ss:Sh}:fw [.dat (zoneD a ss),.dat (.int h)]=.rt (.dat (.int (aZ a ss h))) []:=by
 simp [fw,jb,yC,aZ,mL]
theorem qd {a h:Int} {ss:Sh} {c:Nat} (hl:ss.length<=6):gp [.dat (zoneD a ss),.dat (.int h),.dat (.int c)]=.rt (.dat (.int (bj a ss h c))) []:=by
 simp [gp,iH,kN,mm hl,bj,jW]
theorem AN {i j:Int} (h1:-1000000<=j) (h2:j<=1000000):jW i j=true:=by
 unfold jW
 rw [decide_eq_true (show -(2 ^ 64) < j by omega),decide_eq_true (show j < 2 ^ 64 by omega)]
 simp
theorem sW {z:PyData} {f s c:Int} (h1:1<=s) (h2:s<=999):cF [.dat z,.dat (planD (.every f s)),.dat (.int c)]=.rt (.dat (.int (f + c * s))) []:=by
 simp [cF,fT,bz bB bn,bz bB bB,AN (i:=c) (show -1000000<=s by omega) (show s<=1000000 by omega)]
theorem kh {a:Int} {ss:Sh} {p:Plan} {c:Nat} (hl:ss.length<=6) (ok:aH p):cF [.dat (zoneD a ss),.dat (planD p),.dat (.int c)]=.rt (.dat (optD (timeM a ss p c))) []:=by
 cases p with
 | once m=>
  by_cases e:c=0
  ·subst e; simp [cF,fT,bz bn bn,eO,timeM,optD]
  ·simp [cF,fT,bz bn bn,eO,timeM,optD,e]
 | every f s=>
  exact sW ok.2.1 ok.2.2
 | daily h=>simp [cF,fT,bz df bn,bz df bB,timeM,optD,qd hl]
theorem nk {a first last:Int} {ss:Sh} {p:Plan} {n:Nat} (hl:ss.length<=6) (ok:aH p) (u:Upto a ss p last n):∀ (k c:Nat) (ds:List PyData) (fuel:Nat),c + k=n->k < fuel->ds.length + k<=50000->∃ y y',be gF fN fuel [some (.dat (zoneD a ss)),some (.dat (planD p)),some (.dat (.int first)),some (.dat (.int last)),some (.own false (.l ds)),some (.dat (.int c)),some (.dat (optD (timeM a ss p c)))]=.nx [some (.dat (zoneD a ss)),some (.dat (planD p)),some (.dat (.int first)),some (.dat (.int last)),some (.own false (.l (ds ++ ((List.range' c k).filter fun c=>decide (first<=timeV a ss p c)).map (qb a ss p)))),y,y']
 | 0,c,ds,fuel + 1,hc,hf,hd=>by
  obtain rfl:c=n:=by omega
  refine ⟨some (.dat (.int c)),some (.dat (optD (timeM a ss p c))),?_⟩
  unfold be
  rcases u.out with e | ⟨v,e,hv⟩
  ·rw [e]; simp [gF,optD,fo,isNone]
  ·rw [e]; simp [gF,optD,fo,isNone,show ¬ v<=last by omega]
 | k + 1,c,ds,fuel + 1,hc,hf,hd=>by
  have sz:1000000 < sizeLine:=by decide
  obtain ⟨v,e,hv⟩:=u.in_ c (by omega)
  have ev:timeV a ss p c=v:=by unfold timeV; rw [e]; rfl
  have t1:∀ x,gF [some (.dat (zoneD a ss)),some (.dat (planD p)),some (.dat (.int first)),some (.dat (.int last)),x,some (.dat (.int c)),some (.dat (.int v))]=.ok true [some (.dat (zoneD a ss)),some (.dat (planD p)),some (.dat (.int first)),some (.dat (.int last)),x,some (.dat (.int c)),some (.dat (.int v))]:=fun x=>by simp [gF,fo,isNone,hv]
  have rt:=kh (a:=a) (ss:=ss) (p:=p) (c:=c + 1) hl ok
  simp only [Int.natCast_add,Int.natCast_one] at rt
  by_cases h:first<=v
  ·obtain ⟨y,y',ih⟩:=nk (first:=first) hl ok u k (c + 1) (ds ++ [qb a ss p c]) fuel (by omega) (by omega) (by simp; omega)
   refine ⟨y,y',?_⟩
   unfold be
   rw [e,optD,t1]
   have b1:fN [some (.dat (zoneD a ss)),some (.dat (planD p)),some (.dat (.int first)),some (.dat (.int last)),some (.own false (.l ds)),some (.dat (.int c)),some (.dat (.int v))]=.nx [some (.dat (zoneD a ss)),some (.dat (planD p)),some (.dat (.int first)),some (.dat (.int last)),some (.own false (.l (ds ++ [qb a ss p c]))),some (.dat (.int ((c + 1:Nat):Int))),some (.dat (optD (timeM a ss p (c + 1))))]:=by
    simp [fN,h,rt,show ds.length < sizeLine by omega,ev]
   simp only [ofX,if_true,b1]
   rw [ih,List.range'_succ,List.filter_cons,if_pos (by rw [ev]; exact decide_eq_true h)]
   simp
  ·obtain ⟨y,y',ih⟩:=nk (first:=first) hl ok u k (c + 1) ds fuel (by omega) (by omega) (by omega)
   refine ⟨y,y',?_⟩
   unfold be
   rw [e,optD,t1]
   have b1:fN [some (.dat (zoneD a ss)),some (.dat (planD p)),some (.dat (.int first)),some (.dat (.int last)),some (.own false (.l ds)),some (.dat (.int c)),some (.dat (.int v))]=.nx [some (.dat (zoneD a ss)),some (.dat (planD p)),some (.dat (.int first)),some (.dat (.int last)),some (.own false (.l ds)),some (.dat (.int ((c + 1:Nat):Int))),some (.dat (optD (timeM a ss p (c + 1))))]:=by
    simp [fN,h,rt]
   simp only [ofX,if_true,b1]
   rw [ih,List.range'_succ,List.filter_cons,if_neg (by rw [ev]; simpa using h)]
theorem AO {a first last:Int} {ss:Sh} {p:Plan} {n:Nat} (z:ZOk a ss) (ok:aH p) (hf:0<=first/\first<=9999) (hl:0<=last/\last<=9999) (u:Upto a ss p last n):lZ [.dat (zoneD a ss),.dat (planD p),.dat (.int first),.dat (.int last)]=.rt (.own false (.l ((rowsM a ss p first n).map (qb a ss p)))) []:=by
 have b:=u.le
 obtain ⟨y,y',g⟩:=nk (first:=first) z.len ok u n 0 [] 100000 (by omega) (by omega) (by simp; omega)
 rw [List.nil_append,<-List.range_eq_range'] at g
 have rt:=kh (a:=a) (ss:=ss) (p:=p) (c:=0) z.len ok
 simp only [Int.natCast_zero] at rt g
 simp [lZ,pW,iP z,qc ok,dH (d:=.int first) rfl,dH (d:=.int last) rfl,isW,hf.1,hf.2,hl.1,hl.2,rt,g,rowsM]
theorem wj {l:List Int} (h:l ≠ []):∃ M,M ∈ l/\(∀ x ∈ l,x<=M)/\kq [.list (l.map PyData.int)]=some (.int M):=by
 have key:∀ (r:List Int) (i:Int),(∀ x ∈ i :: r,x<=r.foldl max i)/\r.foldl max i ∈ i :: r:=fun r=>by
  induction r with
  | nil=>intro i; simp
  | cons j r ih=>
   intro i
   obtain ⟨h1,h2⟩:=ih (max i j)
   have h3:=h1 (max i j) List.mem_cons_self
   refine ⟨fun x hx=>?_,?_⟩
   ·simp only [List.foldl_cons]
    rcases List.mem_cons.mp hx with rfl | hx
    ·omega
    ·rcases List.mem_cons.mp hx with rfl | hx
     ·omega
     ·exact h1 x (Qak _ hx)
   ·simp only [List.foldl_cons]
    rcases List.mem_cons.mp h2 with e | e
    ·rw [e]
     rcases Int.le_total i j with q | q
     ·rw [Int.max_eq_right q]; simp
     ·rw [Int.max_eq_left q]; simp
    ·exact Qak _ (Qak _ e)
 cases l with
 | nil=>exact absurd rfl h
 | cons i r=>
  obtain ⟨h1,h2⟩:=key r i
  exact ⟨_,h2,h1,by unfold kq; simp only [jr]; rfl⟩
noncomputable def farOk (m:Int) (d:PyData):Bool:=match d with
 | .tuple (.int s :: _)=>decide (s<=m)
 | _=>false
noncomputable def farFi (m:Int) (d:PyData):PyData:=match d with
 | .tuple [.int _,.none,.int a]=>.int (m + a)
 | .tuple [.int _,.int e,.int a]=>.int ((if decide (m < e)=true then m else e - 1) + a)
 | _=>.none
theorem qe (m:Int) (p:Int × Option Int × Int):farOk m (stD p)=decide (p.1<=m):=rfl
theorem qf (m:Int) (p:Int × Option Int × Int):farFi m (stD p)=.int ((if bA m p.2.1=true then m else p.2.1.getD 0 - 1) + p.2.2):=by
 obtain ⟨s,e,a⟩:=p
 cases e <;> simp [farFi,stD,optD,bA]
theorem sX {a m:Int} {ss:Sh} (hl:ss.length<=6) (hr:cE 0 ss) (hm:0<=m):∃ f,dR [.dat (zoneD a ss),.dat (.int m)]=.rt (.dat (.int f)) []/\(∃ t,0<=t/\t<=m/\aK a ss t=f)/\∀ t,0<=t->t<=m->aK a ss t<=f:=by
 have sz:1000 < sizeLine:=by decide
 have c:=fB (t:=eJ) (e:=ce) (g:=bT 3 (aI (gNm 0) (aI (gNm 1) (aI (gNm 2) bS)))) (p:=farOk m) (f:=farFi m) (P:=fun ρ=>∃ x y z,ρ=[x,y,z,some (.dat (.int m))]) (its:=(stret 0 a ss).map stD) (ys:=[]) (ρ:=[none,none,none,some (.dat (.int m))]) ⟨_,_,_,rfl⟩ (fun d hd ρ hρ=>by
  obtain ⟨p,_,rfl⟩:=List.mem_map.mp hd
  obtain ⟨x,y,z,rfl⟩:=hρ
  refine ⟨[some (.dat (.int p.1)),some (.dat (optD p.2.1)),some (.dat (.int p.2.2)),some (.dat (.int m))],[some (.dat (.int p.1)),some (.dat (optD p.2.1)),some (.dat (.int p.2.2)),some (.dat (.int m))],[some (.dat (.int p.1)),some (.dat (optD p.2.1)),some (.dat (.int p.2.2)),some (.dat (.int m))],by simp [stD],by simp [eJ,qe],⟨_,_,_,rfl⟩,fun _=>⟨?_,⟨_,_,_,rfl⟩⟩⟩
  rw [qf]
  obtain ⟨s,e,b⟩:=p
  cases e with
  | none=>simp [ce,fK,bA]
  | some e=>
   by_cases h:m < e
   ·simp [ce,fK,bA,h]
   ·have h1:=fK (m:=m) (e:=some e)
    simp only [optD,bA] at h1
    simp [ce,h1,bA,h,optD]) (by simp [gW]; omega)
 have f1:(((stret 0 a ss).map stD).filter (farOk m)).map (farFi m)=(farM m (stret 0 a ss)).map PyData.int:=by
  unfold farM
  have e1:farFi m ∘ stD=fun p=>.int ((if bA m p.2.1=true then m else p.2.1.getD 0 - 1) + p.2.2):=funext (qf m)
  have e2:farOk m ∘ stD=fun p=>decide (p.1<=m):=funext (qe m)
  rw [List.filter_map,List.map_map,List.map_map,e1,e2]
  rfl
 obtain ⟨g1,g2⟩:=pV (m:=m) ss 0 a hr
 obtain ⟨x0,x1,_⟩:=g2 0 (Int.le_refl _) hm
 obtain ⟨M,h1,h2,h3⟩:=wj (List.ne_nil_of_mem x1)
 rw [f1] at c
 simp only [List.nil_append] at c
 have lr:(farM m (stret 0 a ss)).length<=7:=by
  unfold farM
  rw [List.length_map]
  exact Nat.le_trans (List.length_filter_le _ _) (by rw [gW]; omega)
 refine ⟨M,by simp [dR,fM,kM hl,c,h3,show (farM m (stret 0 a ss)).length<=sizeLine by omega],g1 M h1,fun t t1 t2=>?_⟩
 obtain ⟨x,y1,y2⟩:=g2 t t1 t2
 exact Int.le_trans y2 (h2 x y1)
theorem sY {a m:Int} {ss:Sh} {p:Plan} {n:Nat} (z:ZOk a ss) (ok:aH p) (u:Upto a ss p m n):cZ [.dat (zoneD a ss),.dat (planD p),.dat (.int m)]=.rt (.dat (.int n)) []:=by
 by_cases e0:m < 0
 ·have hn:n=0:=by
   refine Nat.eq_zero_of_not_pos fun h=>?_
   obtain ⟨v,hv,h'⟩:=u.in_ 0 h
   have:=rq z ok hv
   omega
  subst hn
  simp [cZ,dS,e0]
 cases p with
 | once x=>
  by_cases e:x<=m
  ·have hn:n=1:=by
    rcases Nat.lt_trichotomy n 1 with h | h | h
    ·have h0:n=0:=by omega
     subst h0
     rcases u.out with h | ⟨v,h,hv⟩
     ·rw [timeM,if_pos rfl] at h; cases h
     ·rw [timeM,if_pos rfl] at h; cases h; omega
    ·exact h
    ·obtain ⟨v,hv,_⟩:=u.in_ 1 h
     rw [timeM,if_neg (by decide)] at hv; cases hv
   subst hn
   simp [cZ,dS,e0,bz bn bn,e]
  ·have hn:n=0:=by
    refine Nat.eq_zero_of_not_pos fun h=>?_
    obtain ⟨v,hv,h'⟩:=u.in_ 0 h
    rw [timeM,if_pos rfl] at hv; cases hv; omega
   subst hn
   simp [cZ,dS,e0,bz bn bn,e]
 | every f s=>
  obtain ⟨o0,o1,o2⟩:=id ok
  have ec:=nN (by omega) u
  have en:max 0 ((m - f) / s + 1)=(n:Int):=by
   rw [ec]
   unfold wa
   rw [show m + 1 - f - 1=m - f by omega]
   by_cases h:f < m + 1
   ·rw [if_pos h]
    have:=Int.ediv_nonneg (show 0<=m - f by omega) (show 0<=s by omega)
    omega
   ·rw [if_neg h]
    have:(m - f) / s < 0:=Int.ediv_neg_of_neg_of_pos (by omega) (by omega)
    omega
  simp [cZ,dS,e0,bz bB bn,bz bB bB,mL,show 0 < s by omega,show s < 1073741824 by omega,en]
 | daily hh=>
  obtain ⟨f,hf,⟨t,t0,t1,t2⟩,f2⟩:=sX (a:=a) z.len z.rise (show 0<=m by omega)
  have key:∀ c:Nat,bj a ss hh c<=m ↔ (aZ a ss hh + c) * 24 + hh<=f:=fun c=>by
   obtain ⟨g1,g2,g3⟩:=b8 (g:=(aZ a ss hh + c) * 24 + hh) (a:=a) z.rise
   have e:bj a ss hh c=ca ((aZ a ss hh + c) * 24 + hh) 0 a ss:=rfl
   rw [e]
   constructor
   ·intro h
    exact Int.le_trans g2 (f2 _ g1 h)
   ·intro h
    refine Int.le_trans (Int.not_lt.mp fun hlt=>?_) t1
    have:=g3 t t0 hlt
    omega
  have fd:=fE (a:=a) (h:=hh) (ss:=ss)
  have f0:=f2 0 (Int.le_refl _) (by omega)
  have hn:(f - hh) / 24 - aZ a ss hh + 1=((n:Nat):Int):=by
   have h1:¬ (aZ a ss hh + n) * 24 + hh<=f:=fun h=>by
    have h':=(key n).mpr h
    have:=iC (p:=.daily hh) (v:=bj a ss hh n) z ok u (Qae _) rfl
    omega
   by_cases hp:0 < n
   ·obtain ⟨v,hv,hle⟩:=u.in_ (n - 1) (by omega)
    cases hv
    have h2:=(key (n - 1)).mp hle
    omega
   ·omega
  simp [cZ,dS,e0,bz df bn,bz df bB,hf,mL,kN,hn]
noncomputable def IsT (o:OutS):Prop:=∃ x r,o=.rt (.dat (.bool true)) (x :: r)
theorem cz {m k:SM} {ρ ρ':DEnv} (h:m ρ=.nx ρ') (q:IsT (k ρ')):IsT (al m k ρ):=by rw [yF h]; exact q
theorem yH {m:SM} {n:Nat} {ns:List Int} (h:IsT (m (some (.scr ns) :: List.replicate n none))):fnM 1 (n + 1) m [.scr ns]=.rt (.dat (.bool true)) []:=by
 obtain ⟨x,r,e⟩:=h
 simp [e]
theorem hU (i:Int) (r:Nat):L3.intsFrom i (r + 1)=.int i :: L3.intsFrom (i + 1) r:=by
 unfold L3.intsFrom
 rw [List.range_succ_eq_map,List.map_cons,List.map_map]
 congr 1
 ·simp
 ·apply List.map_congr_left
  intro k _
  simp
  omega
theorem lB {t:XM Bool} {b:SM} {fuel:Nat} {ρ ρ1 ρ2:DEnv} (h1:t ρ=.ok true ρ1) (h2:b ρ1=.nx ρ2):be t b (fuel + 1) ρ=be t b fuel ρ2:=by
 rw [be,h1]
 simp only [ofX,if_true,h2]
theorem ki {t:XM Bool} {b:SM} {fuel:Nat} {ρ ρ1:DEnv} (h1:t ρ=.ok false ρ1):be t b (fuel + 1) ρ=.nx ρ1:=by
 rw [be,h1]
 simp [ofX]
theorem sZ {a:Int} {ss:Sh} {p:Plan} {n:Nat}:(cb a ss p n).length=n:=by unfold cb; simp
theorem nU {m:Int} {z:Option Cell}:∀ {ss:Sh} {a:Int} {x y:Option Cell},∃ x' y',aR (bT 2 (aI (gNm 3) (aI (gNm 4) bS))) eS (ss.map shD) [z,some (.dat (.int m)),some (.dat (.int a)),x,y]=.nx [z,some (.dat (.int m)),some (.dat (.int (bI a ss m))),x',y']
 | [],_,x,y=>⟨x,y,rfl⟩
 | (b,c) :: r,a,x,y=>by
  obtain ⟨x',y',ih⟩:=nU (m:=m) (z:=z) (ss:=r) (a:=if b<=m then c else a) (x:=some (.dat (.int b))) (y:=some (.dat (.int c)))
  refine ⟨x',y',?_⟩
  rw [List.map_cons,aR]
  unfold bI
  rw [<-ih]
  by_cases h:b<=m <;> simp [eS,h]
theorem gJ {a m:Int} {ss:Sh}:dq [.dat (zoneD a ss),.dat (.int m)]=.rt (.dat (.int (aK a ss m))) []:=by
 obtain ⟨x',y',h⟩:=nU (m:=m) (z:=some (.dat (zoneD a ss))) (ss:=ss) (a:=a) (x:=none) (y:=none)
 simp [dq,iD] at h ⊢
 rw [h]
 simp [aK]
theorem AQ {ns:List Int} {t:List PyData} {wd:Int} (hn:ns.length<=63) (ht:t.length<=900) (hw:0 < wd/\wd<=10000):∃ p t',aH p/\(match p with | .once m=>m < wd | .every f s=>f < wd/\s<=200 | .daily _=>True)/\t'.length<=t.length + 4/\ek [.scr ns,.own true (.l t),.dat (.int wd)]=.rt (.dat (planD p)) [.l t']:=by
 obtain ⟨k,k1,k2,h1⟩:=eN (ns:=ns) (t:=t) (many:=3) hn (by omega) (by omega)
 by_cases e:k=0
 ·obtain ⟨m,m1,m2,h2⟩:=eN (ns:=ns) (t:=t ++ [.int 0]) (many:=wd) hn (by simp; omega) hw.1
  exact ⟨.once m,t ++ [.int 0] ++ [.int 0],⟨m1,by omega⟩,m2,by simp,by simp only [List.append_assoc,List.cons_append,List.nil_append] at h1 h2; simp [ek,fz,h1,h2,eO,e]⟩
 ·by_cases e1:k=1
  ·obtain ⟨w,hw',h2⟩:=qa (ns:=ns) (t:=t ++ [.int 0]) (ds:=[.int 3,.int 30,.int 200]) hn (by simp; omega) (by simp) (by simp)
   have:∃ i:Int,w=.int i/\0 < i/\i<=200:=by
    simp only [List.mem_cons,List.not_mem_nil,or_false] at hw'
    rcases hw' with rfl | rfl | rfl <;> exact ⟨_,rfl,by omega,by omega⟩
   obtain ⟨i,rfl,i1,i2⟩:=this
   obtain ⟨s,s1,s2,h3⟩:=eN (ns:=ns) (t:=t ++ [.int 0] ++ [.int 0]) (many:=i) hn (by simp; omega) i1
   obtain ⟨f,f1,f2,h4⟩:=eN (ns:=ns) (t:=t ++ [.int 0] ++ [.int 0] ++ [.int 0]) (many:=wd) hn (by simp; omega) hw.1
   refine ⟨.every f (1 + s),t ++ [.int 0] ++ [.int 0] ++ [.int 0] ++ [.int 0],⟨⟨f1,by omega⟩,by omega,by omega⟩,⟨f2,by omega⟩,by simp,?_⟩
   simp only [List.append_assoc,List.cons_append,List.nil_append] at h1 h2 h3 h4
   simp [ek,fz,h1,h2,h3,h4,eO,e,e1]
  ·obtain ⟨m,m1,m2,h2⟩:=eN (ns:=ns) (t:=t ++ [.int 0]) (many:=24) hn (by simp; omega) (by omega)
   refine ⟨.daily m,t ++ [.int 0] ++ [.int 0],⟨m1,by omega⟩,trivial,by simp,?_⟩
   simp only [List.append_assoc,List.cons_append,List.nil_append] at h1 h2
   simp [ek,fz,h1,h2,eO,e,e1]
theorem qg {a:Int} {ss:Sh} {x1 x2 x4 x5:Option Cell}:∀ (fuel N:Nat) (g:Int),aK a ss 0 - g<=24 * N->N < fuel->∃ j:Int,be eV eU fuel [some (.dat (zoneD a ss)),x1,x2,some (.dat (.int g)),x4,x5]=.nx [some (.dat (zoneD a ss)),x1,x2,some (.dat (.int (g + 24 * j))),x4,x5]/\aK a ss 0<=g + 24 * j/\(j=0\/g + 24 * j < aK a ss 0 + 24)
 | fuel + 1,N,g,h1,h2=>by
  by_cases e:g < aK a ss 0
  ·obtain ⟨j,q1,q2,q3⟩:=qg (x1:=x1) (x2:=x2) (x4:=x4) (x5:=x5) (a:=a) (ss:=ss) fuel (N - 1) (g + 24) (by omega) (by omega)
   refine ⟨j + 1,?_,by omega,.inr (by omega)⟩
   rw [lB (by simp [eV,gJ,e] <;> rfl) (by simp [eU] <;> rfl),q1,show g + 24 + 24 * j=g + 24 * (j + 1) by omega]
  ·refine ⟨0,?_,by omega,.inl rfl⟩
   rw [ki (by simp [eV,gJ,e] <;> rfl)]
   simp
theorem mq {a:Int} {ss:Sh} {x1 x2 x4 x5:Option Cell}:∀ (fuel N:Nat) (g:Int),aK a ss 0<=g->g - aK a ss 0 < 24 * N + 24->N < fuel->∃ j:Int,be eX eW fuel [some (.dat (zoneD a ss)),x1,x2,some (.dat (.int g)),x4,x5]=.nx [some (.dat (zoneD a ss)),x1,x2,some (.dat (.int (g + 24 * j))),x4,x5]/\aK a ss 0<=g + 24 * j/\g + 24 * j < aK a ss 0 + 24
 | fuel + 1,N,g,h0,h1,h2=>by
  by_cases e:aK a ss 0<=g - 24
  ·obtain ⟨j,q1,q2,q3⟩:=mq (x1:=x1) (x2:=x2) (x4:=x4) (x5:=x5) (a:=a) (ss:=ss) fuel (N - 1) (g - 24) e (by omega) (by omega)
   refine ⟨j - 1,?_,by omega,by omega⟩
   rw [lB (by simp [eX,gJ,e] <;> rfl) (by simp [eW] <;> rfl),q1,show g - 24 + 24 * j=g + 24 * (j - 1) by omega]
  ·refine ⟨0,?_,by omega,by omega⟩
   rw [ki (by simp [eX,gJ,e] <;> rfl)]
   simp
theorem qh {a m h:Int} {ss:Sh} {n:Nat} {x1 x2:Option Cell} (hr:cE 0 ss) (h0:0<=m) (u:Upto a ss (.daily h) m n):∀ (j k:Nat) (ds:List PyData) (fuel:Nat),k + j=n->ds.length=k->(∀ c,k<=c->c < n->bj a ss h c=m)->j < fuel->be dw du fuel [some (.dat (zoneD a ss)),x1,x2,some (.dat (.int (goalM a ss h k))),some (.own false (.l ds)),some (.dat (.int m))]=.nx [some (.dat (zoneD a ss)),x1,x2,some (.dat (.int (goalM a ss h n))),some (.own false (.l (ds ++ (List.range' k j).map fun c=>.int (bj a ss h c)))),some (.dat (.int m))]
 | 0,k,ds,fuel + 1,hk,hd,hc,hf=>by
  obtain rfl:k=n:=by omega
  have hlt:m < bj a ss h k:=by
   rcases u.out with e | ⟨v,e,hv⟩
   ·cases e
   ·cases e; exact hv
  have e:¬ goalM a ss h k<=aK a ss m:=fun z=>by
   have:=(kI (k:=k) hr h0 (by omega)).mp z
   omega
  rw [ki (by simp [dw,gJ,e] <;> rfl)]
  simp
 | j + 1,k,ds,fuel + 1,hk,hd,hc,hf=>by
  have sz:1000000 < sizeLine:=by decide
  have b:=u.le
  have dk:=hc k (by omega) (by omega)
  have e:goalM a ss h k<=aK a ss m:=(kI hr h0 (by omega)).mpr dk
  have ih:=qh (x1:=x1) (x2:=x2) hr h0 u j (k + 1) (ds ++ [.int m]) fuel (by omega) (by simp; omega) (fun c h1 h2=>hc c (by omega) h2) (by omega)
  have eg:goalM a ss h k + 24=goalM a ss h (k + 1):=by unfold goalM; omega
  rw [lB (by simp [dw,gJ,e] <;> rfl) (by simp [du,show ds.length < sizeLine by omega] <;> rfl),eg,ih,List.range'_succ]
  simp [dk]
theorem qi {a h:Int} {ss:Sh} {x1 x2:Option Cell} (z:ZOk a ss) (ok:aH (.daily h)):∀ (r:Nat) (i:Int) (k n:Nat) (ds:List PyData) (x5:Option Cell),0<=i->i + r<=10000->ds.length=k->Upto a ss (.daily h) (i - 1) k->Upto a ss (.daily h) (i + r - 1) n->∃ y5,k<=n/\aR (gNm 5) dA (L3.intsFrom i r) [some (.dat (zoneD a ss)),x1,x2,some (.dat (.int (goalM a ss h k))),some (.own false (.l ds)),x5]=.nx [some (.dat (zoneD a ss)),x1,x2,some (.dat (.int (goalM a ss h n))),some (.own false (.l (ds ++ (List.range' k (n - k)).map fun c=>.int (bj a ss h c)))),y5]
 | 0,i,k,n,ds,x5,h0,h1,hd,u,u'=>by
  have e:k=n:=yA u (by rw [show i - 1=i + ((0:Nat):Int) - 1 by omega]; exact u') fun _ _ _=>Iff.rfl
  subst e
  exact ⟨x5,Qae _,by simp [L3.intsFrom,aR]⟩
 | r + 1,i,k,n,ds,x5,h0,h1,hd,u,u'=>by
  obtain ⟨m,um⟩:=lW (h:=h) (last:=i) z (by omega)
  have km:k<=m:=Nat.le_of_not_lt fun hlt=>by
   obtain ⟨v,hv,hle⟩:=u.in_ m hlt
   have:=iC z ok um (Qae _) hv
   omega
  have hc:∀ c,k<=c->c < m->bj a ss h c=i:=fun c c1 c2=>by
   obtain ⟨v,hv,hle⟩:=um.in_ c c2
   have:=iC z ok u c1 hv
   cases hv
   omega
  have mb:=um.le
  have w:=qh (x1:=x1) (x2:=x2) z.rise h0 um (m - k) k ds 100000 (by omega) hd hc (by omega)
  obtain ⟨y5,mn,g⟩:=qi (x1:=x1) (x2:=x2) z ok r (i + 1) m n (ds ++ (List.range' k (m - k)).map fun c=>.int (bj a ss h c)) (some (.dat (.int i))) (by omega) (by omega) (by simp; omega) (by rw [show i + 1 - 1=i by omega]; exact um) (by rw [show i + 1 + (r:Int) - 1=i + ((r + 1:Nat):Int) - 1 by omega]; exact u')
  refine ⟨y5,by omega,?_⟩
  rw [hU,aR]
  simp only [gNm,List.set_cons_succ,List.set_cons_zero,dA,w]
  rw [show be dw du 100000=dA from rfl,g]
  rw [List.append_assoc,<-List.map_append]
  congr 6
  have:List.range' k (m - k) ++ List.range' m (n - m)=List.range' k (n - k):=by
   have:=List.range'_append (s:=k) (m:=m - k) (n:=n - m) (step:=1)
   rw [show k + 1 * (m - k)=m by omega,show m - k + (n - m)=n - k by omega] at this
   exact this
  rw [this]
theorem rG {a last:Int} {ss:Sh} {p:Plan} {n:Nat} (z:ZOk a ss) (ok:aH p) (hl:0<=last/\last<=9999) (u:Upto a ss p last n):∃ c,frz c=some (.list ((cb a ss p n).map PyData.int))/\cf [.dat (zoneD a ss),.dat (planD p),.dat (.int last)]=.rt c []:=by
 cases p with
 | once m=>
  by_cases e:m<=last
  ·have hn:n=1:=by
    rcases Nat.lt_trichotomy n 1 with h | h | h
    ·have h0:n=0:=by omega
     subst h0
     rcases u.out with h | ⟨v,h,hv⟩
     ·rw [timeM,if_pos rfl] at h; cases h
     ·rw [timeM,if_pos rfl] at h; cases h; omega
    ·exact h
    ·obtain ⟨v,hv,_⟩:=u.in_ 1 h
     rw [timeM,if_neg (by decide)] at hv; cases hv
   subst hn
   exact ⟨.dat (.list [.int m]),by simp [cb,List.range,List.range.loop,timeV,timeM],by simp [cf,dB,bz bn bn,e]⟩
  ·have hn:n=0:=by
    refine Nat.eq_zero_of_not_pos fun h=>?_
    obtain ⟨v,hv,h'⟩:=u.in_ 0 h
    rw [timeM,if_pos rfl] at hv; cases hv; omega
   subst hn
   exact ⟨.dat (.list []),by simp [cb],by simp [cf,dB,bz bn bn,e]⟩
 | every f s=>
  obtain ⟨o0,o1,o2⟩:=id ok
  have ec:=nN (by omega) u
  refine ⟨.dat (.list ((cb a ss (.every f s) n).map PyData.int)),by simp,?_⟩
  have e1:(List.range (cnt3 f (last + 1) s)).map (fun (m:Nat)=>PyData.int (f + m * s))=(cb a ss (.every f s) n).map PyData.int:=by
   rw [show cnt3 f (last + 1) s=n from ec.symm]
   unfold cb
   rw [List.map_map]
   rfl
  simp [cf,dB,bz bB bn,bz bB bB,sC,e1,show 0<=f by omega,show f<=1048576 by omega,show 0<=last + 1 by omega,show last + 1<=1048576 by omega,show 0 < s by omega,show s<=1048576 by omega]
 | daily h=>
  obtain ⟨o1,o2⟩:=id ok
  have s0:=fL (m:=0) z.ah
  have sh:aK a ss 0=0 + bI a ss 0:=rfl
  obtain ⟨j,q1,q2,q3⟩:=qg (a:=a) (ss:=ss) (x1:=some (.dat (planD (.daily h)))) (x2:=some (.dat (.int last))) (x4:=none) (x5:=none) 100000 2 h (by omega) (by omega)
  obtain ⟨i,w1,w2,w3⟩:=mq (a:=a) (ss:=ss) (x1:=some (.dat (planD (.daily h)))) (x2:=some (.dat (.int last))) (x4:=none) (x5:=none) 100000 4 (h + 24 * j) q2 (by omega) (by omega)
  have fd:=fE (a:=a) (h:=h) (ss:=ss)
  have eg:h + 24 * j + 24 * i=goalM a ss h 0:=by unfold goalM; omega
  rw [eg] at w1
  obtain ⟨y5,_,g⟩:=qi (x1:=some (.dat (planD (.daily h)))) (x2:=some (.dat (.int last))) z ok (last + 1).toNat 0 0 n [] none (by omega) (by omega) rfl (uJ z ok) (by rw [show (0:Int) + ((last + 1).toNat:Nat) - 1=last by omega]; exact u)
  rw [List.nil_append,Nat.sub_zero,<-List.range_eq_range'] at g
  have e1:(List.range n).map (fun c=>PyData.int (bj a ss h c))=(cb a ss (.daily h) n).map PyData.int:=by
   unfold cb
   rw [List.map_map]
   rfl
  rw [e1] at g
  refine ⟨.own false (.l ((cb a ss (.daily h) n).map PyData.int)),by simp,?_⟩
  simp [cf,dB,bz df bn,bz df bB,q1,w1,g,show -4611686018427387904<=last + 1 by omega,show last + 1 < 4611686018427387904 by omega]
@[simp] theorem noD0:noD .none=true:=by simp only [noD]
@[simp] theorem noD1 (i:Int):noD (.int i)=true:=by simp only [noD]
@[simp] theorem noD2 (b:Bool):noD (.bool b)=true:=by simp only [noD]
@[simp] theorem noD3 (x:Str):noD (.str x)=true:=by simp only [noD]
@[simp] theorem noD4 (l:List PyData):noD (.tuple l)=true:=by simp only [noD]
@[simp] theorem noD5 (l:List PyData):noD (.list l)=true:=by simp only [noD]
inductive Late where
 | all | last | within (n:Int)
structure Deed where
 plan:Plan
 late:Late
 again:Bool
noncomputable abbrev wS:Late->PyData
 | .all=>.str "all"
 | .last=>.str "last"
 | .within n=>.tuple [.str "within",.int n]
noncomputable abbrev deedD (d:Deed):PyData:=.tuple [planD d.plan,wS d.late,.bool d.again]
@[irreducible] noncomputable def bO (ds:List Deed):PyData:=.tuple (ds.map deedD)
noncomputable def oInt:Option Int->PyData
 | none=>.none
 | some i=>.int i
noncomputable def oBeg:Option (Nat × Nat × Int)->PyData
 | none=>.none
 | some (d,c,h)=>.tuple [.int d,.int c,.int h]
section
variable {C:Addr} {io:Bool} {S:Hl} {ρ:DEnv}
@[simp] theorem isN0:isNone .none=true:=by simp only [isNone]
@[simp] theorem isN1 (i:Int):isNone (.int i)=false:=by simp only [isNone]
@[simp] theorem isN2 (b:Bool):isNone (.bool b)=false:=by simp only [isNone]
@[simp] theorem isN3 (x:Str):isNone (.str x)=false:=by simp only [isNone]
@[simp] theorem isN4 (l:List PyData):isNone (.tuple l)=false:=by simp only [isNone]
@[simp] theorem isN5 (l:List PyData):isNone (.list l)=false:=by simp only [isNone]
@[simp] theorem AU (x:Option Int):isNone (oInt x)=x.isNone:=by cases x <;> simp [oInt]
@[simp] theorem AV (x:Option (Nat × Nat × Int)):isNone (oBeg x)=x.isNone:=by rcases x with _ | ⟨_,_,_⟩ <;> simp [oBeg]
end
theorem no:PyData.strOk "all" = true:=by decide +kernel
theorem lC:PyData.strOk "last" = true:=by decide +kernel
theorem nV:PyData.strOk "within" = true:=by decide +kernel
theorem BN:(("all":Str) == ("all":Str))=true:=by decide +kernel
theorem q_la:(("last":Str) == ("all":Str))=false:=by decide +kernel
theorem q_ll:(("last":Str) == ("last":Str))=true:=by decide +kernel
section
variable {C:Addr} {S:Hl}
noncomputable abbrev irow (r:List Int):PyData:=.tuple (r.map PyData.int)
theorem mv:∀ ns:List Int,eI (ns.map PyData.int)=some ns
 | []=>rfl
 | n :: ns=>by rw [List.map_cons,eI,mv ns]; rfl
theorem jG:∀ rs:List (List Int),ft (rs.map irow)=some rs
 | []=>rfl
 | r :: rs=>by rw [List.map_cons,ft,mv,jG rs]
noncomputable def minD:List (List Int)->PyData
 | []=>.none
 | r :: rs=>irow (cD rs r)
end
@[simp] theorem tab_ts:ba "tuple" "str" = some false:=by decide
@[simp] theorem tab_tb:ba "tuple" "bool" = some false:=by decide
@[simp] theorem tab_tl:ba "tuple" "list" = some false:=by decide
@[simp] theorem tab_ls:ba "list" "str" = some false:=by decide
@[simp] theorem tab_lb:ba "list" "bool" = some false:=by decide
@[simp] theorem tab_ll:ba "list" "list" = some true:=by decide
@[simp] theorem tab_ns:ba "NoneType" "str" = some false:=by decide
@[simp] theorem tab_nb:ba "NoneType" "bool" = some false:=by decide
@[simp] theorem tab_nl:ba "NoneType" "list" = some false:=by decide
@[simp] theorem tab_is:ba "int" "str" = some false:=by decide
@[simp] theorem tab_il:ba "int" "list" = some false:=by decide
@[simp] theorem tab_bs:ba "bool" "str" = some false:=by decide
@[simp] theorem tab_bl:ba "bool" "list" = some false:=by decide
@[simp] theorem tab_sb:ba "str" "bool" = some false:=by decide
@[simp] theorem tab_sl:ba "str" "list" = some false:=by decide
noncomputable def fC:Late->Prop
 | .within n=>0<=n/\n<=999
 | _=>True
theorem uP {x:Late} (ok:fC x):fS [.dat (wS x)]=.rt (.dat (.bool true)) []:=by
 cases x with
 | all=>simp [fS,gT,bz no no,BN]
 | last=>simp [fS,gT,bz lC no,bz lC lC,q_la,q_ll]
 | within n=>
  have qw:(("within":Str) == ("within":Str))=true:=by decide +kernel
  simp [fS,gT,dW nV nV,qw,ff (d:=.int n) rfl,isW,ok.1,ok.2]
theorem uQ {d:Deed} (hp:aH d.plan) (hl:fC d.late):i6 [.dat (deedD d)]=.rt (.dat (.bool true)) []:=by
 have h1:=nR hp
 have h2:=uP hl
 simp [i6,kc,ed,isT,h1,h2]
theorem qj:∀ (ds:List Deed) (ys:List PyData) (ρ:DEnv),(∃ x,ρ=[x])->(∀ d ∈ ds,aH d.plan/\fC d.late)->ys.length + ds.length<=sizeLine->bE (gNm 0) bTrue fG (ds.map deedD) ys ρ=some (ys ++ (ds.map fun _=>PyData.bool true))
 | [],ys,ρ,_,_,_=>by simp [bE]
 | d :: ds,ys,ρ,⟨x,hx⟩,h,hl=>by
  subst hx
  simp only [List.length_cons] at hl
  have hd:=h d List.mem_cons_self
  have ih:=qj ds (ys ++ [.bool true]) [some (.dat (deedD d))] ⟨_,rfl⟩ (fun x hx=>h x (Qak _ hx)) (by simp; omega)
  have he:fG [some (.dat (deedD d))]=.ok (.bool true) [some (.dat (deedD d))]:=by simp [fG,uQ hd.1 hd.2]
  rw [List.map_cons,bE]
  simp [bTrue,he,show ys.length < sizeLine by omega,ih]
theorem mw:∀ n:Nat,bools? (List.replicate n (PyData.bool true))=some (List.replicate n true)
 | 0=>rfl
 | n + 1=>by rw [List.replicate_succ,bools?,mw n]; rfl
theorem jM {ds:List Deed} (hl:ds.length<=6) (h:∀ d ∈ ds,aH d.plan/\fC d.late):d8 [.dat (bO ds)]=.rt (.dat .none) []:=by
 have sz:1000 < sizeLine:=by decide
 have g:=qj ds [] [none] ⟨_,rfl⟩ h (by simp; omega)
 rw [List.nil_append,List.map_const'] at g
 have ha:nAll [.list (List.replicate ds.length (PyData.bool true))]=some (.bool true):=by
  simp [nAll,mw]
 unfold bO
 simp [-nAll,d8,g9,jf,je,g,ha,show ¬ (6:Int) < ds.length by omega,show ds.length<=sizeLine by omega]
noncomputable def gx:Nat->List PyData->List PyData
 | _,[]=>[]
 | k,d :: ds=>.tuple [.int k,d] :: gx (k + 1) ds
theorem qk:∀ (ds:List PyData) (k:Nat),(ds.mapIdx fun i d=>PyData.tuple [.int ((i + k:Nat):Int),d])=gx k ds
 | [],_=>rfl
 | d :: ds,k=>by
  rw [List.mapIdx_cons,gx,<-qk ds (k + 1),Nat.zero_add]
  congr 1
  apply List.ext_getElem?
  intro i
  simp only [List.getElem?_mapIdx]
  congr 1
  funext x
  rw [show i + 1 + k=i + (k + 1) by omega]
theorem jH (ds:List PyData):numbered ds=gx 0 ds:=by rw [<-qk]; rfl
noncomputable def calG (a:Int) (ss:Sh) (first:Int) (un:Plan->Nat):Nat->List Deed->List (List Int)
 | _,[]=>[]
 | i,d :: ds=>((rowsM a ss d.plan first (un d.plan)).map fun c=>[timeV a ss d.plan c,(i:Int),(c:Int)]) ++ calG a ss first un (i + 1) ds
theorem ups {a last:Int} {ss:Sh} (z:ZOk a ss) (hl:last<=9999):∃ un:Plan->Nat,∀ p,aH p->Upto a ss p last (un p):=by
 refine ⟨fun p=>Classical.epsilon fun n=>Upto a ss p last n,fun p ok=>?_⟩
 exact Classical.epsilon_spec (wb z ok hl)
theorem nt {a first:Int} {ss:Sh} {un:Plan->Nat}:∀ (ds:List Deed) (i:Nat),∀ r ∈ calG a ss first un i ds,∃ x y w,r=[x,y,w]
 | [],_,r,h=>by cases h
 | d :: ds,i,r,h=>by
  rw [calG] at h
  rcases List.mem_append.mp h with h | h
  ·obtain ⟨c,_,rfl⟩:=List.mem_map.mp h
   exact ⟨_,_,_,rfl⟩
  ·exact nt ds (i + 1) r h
theorem ql {a first last:Int} {ss:Sh} {un:Plan->Nat} (hu:∀ p,aH p->Upto a ss p last (un p)):∀ (ds:List Deed) (i:Nat),(∀ d ∈ ds,aH d.plan)->(calG a ss first un i ds).length<=20000 * ds.length
 | [],_,_=>by simp [calG]
 | d :: ds,i,h=>by
  have ih:=ql (first:=first) hu ds (i + 1) fun x hx=>h x (Qak _ hx)
  have l1:=k9 (a:=a) (f:=first) (ss:=ss) (p:=d.plan) (n:=un d.plan)
  have l2:=(hu d.plan (h d List.mem_cons_self)).le
  rw [calG,List.length_append,List.length_map,List.length_cons]
  omega
theorem nW {a first last:Int} {ss:Sh} {un:Plan->Nat} (hu:∀ p,aH p->Upto a ss p last (un p)):∀ (ds:List Deed) (i:Nat),(∀ d ∈ ds,aH d.plan)->∀ r ∈ calG a ss first un i ds,∃ x y w,r=[x,y,w]/\first<=x/\x<=last
 | [],_,_,r,h=>by cases h
 | d :: ds,i,h,r,hr=>by
  rw [calG] at hr
  rcases List.mem_append.mp hr with hr | hr
  ·obtain ⟨c,hc,rfl⟩:=List.mem_map.mp hr
   unfold rowsM at hc
   obtain ⟨h1,h2⟩:=List.mem_filter.mp hc
   obtain ⟨v,hv,hl⟩:=(hu d.plan (h d List.mem_cons_self)).in_ c (List.mem_range.mp h1)
   have ev:timeV a ss d.plan c=v:=by unfold timeV; rw [hv]; rfl
   exact ⟨_,_,_,rfl,by simpa using h2,by rw [ev]; exact hl⟩
  ·exact nW hu ds (i + 1) (fun x hx=>h x (Qak _ hx)) r hr
theorem mx {L:List (List Int)} (h:∀ r ∈ L,r ≠ []):jy [.list (L.map irow)]=some (.list ((TS.sortR L).map irow)):=by
 unfold jy
 dsimp only
 cases L with
 | nil=>unfold sortD; simp [eI,sI,TS.sortR]
 | cons r L=>
  have e:eI ((r :: L).map irow)=none:=by rw [List.map_cons]; rfl
  have e2:((r :: L).all fun r=>!r.isEmpty)=true:=by
   rw [List.all_eq_true]
   intro x hx
   have:=h x hx
   cases x with
   | nil=>exact absurd rfl this
   | cons _ _=>rfl
  unfold sortD
  rw [e,jG]
  simp only [e2,if_true,Option.map_some]
theorem wm (l:List Int):PyData.canLayAll0 (l.map PyData.int)=true:=by induction l with | nil=>rfl | cons x r ih=>simpa [PyData.canLayAll0,PyData.canLay0] using ih
theorem wn (l:List Int):PyData.depthAll (l.map PyData.int)=0:=by induction l with | nil=>rfl | cons x r ih=>simpa [PyData.depthAll,PyData.depth] using ih
theorem s9 (r:List Int):SeqAt.shaped (irow r)=true:=by
 unfold SeqAt.shaped
 simp [PyData.canLay0,PyData.depth,wm,wn]
theorem wT {z0 z1 z2 z3 z6:Option Cell} {a:Int} {ss:Sh} {p:Plan} {i:Int}:∀ (l:List Nat) (acc:List PyData) (x7 x8:Option Cell),acc.length + l.length<=500000->∃ y7 y8,aR (bT 2 (aI (gNm 7) (aI (gNm 8) bS))) cR (l.map (qb a ss p)) [z0,z1,z2,z3,some (.own false (.l acc)),some (.dat (.int i)),z6,x7,x8]=.nx [z0,z1,z2,z3,some (.own false (.l (acc ++ (l.map fun c=>irow [timeV a ss p c,i,(c:Int)])))),some (.dat (.int i)),z6,y7,y8]
 | [],acc,x7,x8,_=>⟨x7,x8,by simp [aR]⟩
 | c :: l,acc,x7,x8,h=>by
  have sz:1000000 < sizeLine:=by decide
  simp only [List.length_cons] at h
  obtain ⟨y7,y8,ih⟩:=wT (z0:=z0) (z1:=z1) (z2:=z2) (z3:=z3) (z6:=z6) (a:=a) (ss:=ss) (p:=p) (i:=i) l (acc ++ [irow [timeV a ss p c,i,(c:Int)]]) (some (.dat (.int c))) (some (.dat (.int (timeV a ss p c)))) (by simp; omega)
  refine ⟨y7,y8,?_⟩
  rw [List.map_cons,aR]
  rw [List.append_assoc,List.singleton_append] at ih
  rw [List.map_cons,<-ih]
  have b:cR [z0,z1,z2,z3,some (.own false (.l acc)),some (.dat (.int i)),z6,some (.dat (.int c)),some (.dat (.int (timeV a ss p c)))]=.nx [z0,z1,z2,z3,some (.own false (.l (acc ++ [irow [timeV a ss p c,i,(c:Int)]]))),some (.dat (.int i)),z6,some (.dat (.int c)),some (.dat (.int (timeV a ss p c)))]:=by
   simp [cR,show acc.length < sizeLine by omega]
  simp only [bT,aI,gNm,bS,List.length_cons,List.length_nil,if_true,Option.bind,List.set_cons_succ,List.set_cons_zero,b]
theorem uR {z1:Option Cell} {a first last:Int} {ss:Sh} {un:Plan->Nat} (z:ZOk a ss) (hf:0<=first/\first<=9999) (hl:0<=last/\last<=9999) (hu:∀ p,aH p->Upto a ss p last (un p)):∀ (ds:List Deed) (i:Nat) (acc:List PyData) (x5 x6 x7 x8:Option Cell),(∀ d ∈ ds,aH d.plan)->acc.length + 20000 * ds.length<=500000->∃ y5 y6 y7 y8,aR (bT 2 (aI (gNm 5) (aI (gNm 6) bS))) cS (gx i (ds.map deedD)) [some (.dat (zoneD a ss)),z1,some (.dat (.int first)),some (.dat (.int last)),some (.own false (.l acc)),x5,x6,x7,x8]=.nx [some (.dat (zoneD a ss)),z1,some (.dat (.int first)),some (.dat (.int last)),some (.own false (.l (acc ++ (calG a ss first un i ds).map irow))),y5,y6,y7,y8]
 | [],i,acc,x5,x6,x7,x8,_,_=>⟨x5,x6,x7,x8,by simp [aR,gx,calG]⟩
 | d :: ds,i,acc,x5,x6,x7,x8,h,hn=>by
  simp only [List.length_cons] at hn
  have hp:=h d List.mem_cons_self
  have u:=hu d.plan hp
  have rd:=AO z hp hf hl u
  have l1:=k9 (a:=a) (f:=first) (ss:=ss) (p:=d.plan) (n:=un d.plan)
  have l2:=u.le
  obtain ⟨w7,w8,e1⟩:=wT (z0:=some (.dat (zoneD a ss))) (z1:=z1) (z2:=some (.dat (.int first))) (z3:=some (.dat (.int last))) (z6:=some (.dat (deedD d))) (a:=a) (ss:=ss) (p:=d.plan) (i:=(i:Int)) (rowsM a ss d.plan first (un d.plan)) acc x7 x8 (by omega)
  obtain ⟨y5,y6,y7,y8,ih⟩:=uR (z1:=z1) z hf hl hu ds (i + 1) (acc ++ ((rowsM a ss d.plan first (un d.plan)).map fun c=>irow [timeV a ss d.plan c,(i:Int),(c:Int)])) (some (.dat (.int i))) (some (.dat (deedD d))) w7 w8 (fun x hx=>h x (Qak _ hx)) (by simp; omega)
  refine ⟨y5,y6,y7,y8,?_⟩
  rw [List.map_cons,gx,aR,calG,List.map_append,List.map_map,<-List.append_assoc]
  have e2:(irow ∘ fun c:Nat=>[timeV a ss d.plan c,(i:Int),(c:Int)])=fun c:Nat=>irow [timeV a ss d.plan c,(i:Int),(c:Int)]:=rfl
  rw [e2,<-ih]
  have b:cS [some (.dat (zoneD a ss)),z1,some (.dat (.int first)),some (.dat (.int last)),some (.own false (.l acc)),some (.dat (.int i)),some (.dat (deedD d)),x7,x8]=.nx [some (.dat (zoneD a ss)),z1,some (.dat (.int first)),some (.dat (.int last)),some (.own false (.l (acc ++ ((rowsM a ss d.plan first (un d.plan)).map fun c=>irow [timeV a ss d.plan c,(i:Int),(c:Int)])))),some (.dat (.int i)),some (.dat (deedD d)),w7,w8]:=by
   rw [<-e1]
   simp [cS,rd]
  simp only [bT,aI,gNm,bS,List.length_cons,List.length_nil,if_true,Option.bind,List.set_cons_succ,List.set_cons_zero,b]
theorem nu {a first last:Int} {ss:Sh} {un:Plan->Nat} {ds:List Deed} (z:ZOk a ss) (hf:0<=first/\first<=9999) (hl:0<=last/\last<=9999) (hu:∀ p,aH p->Upto a ss p last (un p)) (hd:∀ d ∈ ds,aH d.plan) (h6:ds.length<=6) :
  eY [.dat (zoneD a ss),.dat (bO ds),.dat (.int first),.dat (.int last)]=.rt (.dat (.list ((TS.sortR (calG a ss first un 0 ds)).map irow))) []:=by
 obtain ⟨y5,y6,y7,y8,e⟩:=uR (z1:=some (.dat (.tuple (ds.map deedD)))) z hf hl hu ds 0 [] none none none none hd (by simp; omega)
 have ns:=mx (L:=calG a ss first un 0 ds) fun r hr=>by obtain ⟨_,_,_,rfl⟩:=nt ds 0 r hr; simp
 rw [List.nil_append] at e
 unfold bO
 simp [eY,gG,jH,e,ns]
theorem my {first last:Int} (hf:0<=first/\first<=last) (hl:last<=9999):eF [.dat (.int first),.dat (.int last)]=.rt (.dat .none) []:=by
 simp [eF,gt,dH (d:=.int first) rfl,dH (d:=.int last) rfl,isW,hf.1,show first<=9999 by omega,show 0<=last by omega,hl,show ¬ last < first by omega]
theorem lD {a first last:Int} {ss:Sh} {ds:List Deed} (z:ZOk a ss) (hf:0<=first/\first<=last) (hl:last<=9999) (hd:∀ d ∈ ds,aH d.plan/\fC d.late) (h6:ds.length<=6):dU [.dat (zoneD a ss),.dat (bO ds),.dat (.int first),.dat (.int last)]=.rt (.dat .none) []:=by
 simp [dU,fO,iP z,jM h6 hd,my hf hl]
noncomputable def hd0 (r:List Int):Int:=r.headD 0
theorem jr:∀ ns:List Int,ints? (ns.map PyData.int)=some ns
 | []=>rfl
 | n :: ns=>by rw [List.map_cons,ints?,jr ns]; rfl
theorem yI {i j:Int} (h1:-1000000<=i) (h2:i<=1000000) (h3:-1000000<=j) (h4:j<=1000000):mW [.int i,.int j]=some (L3.intsFrom i (j - i).toNat):=by
 simp only [mW]
 rw [if_pos (by simp; omega)]
noncomputable def mz (wd:Int):Plan->Prop
 | .once m=>m < wd
 | .every f s=>f < wd/\s<=200
 | .daily _=>True
theorem td {a m v:Int} {ss:Sh} {p:Plan} {n:Nat} (z:ZOk a ss) (ok:aH p) (near:mz 150 p) (h0:0<=m) (hm:m<=159) (u:Upto a ss p (m - 1) n) (hv:timeM a ss p n=some v):v<=500:=by
 cases p with
 | once b=>
  rw [timeM] at hv
  split at hv
  ·have e:=Option.some.inj hv
   change b < 150 at near
   omega
  ·cases hv
 | every f s=>
  rw [timeM] at hv
  cases hv
  obtain ⟨n1,n2⟩:f < 150/\s<=200:=near
  cases n with
  | zero=>simp; omega
  | succ n=>
   obtain ⟨w,hw,hl⟩:=u.in_ n (by omega)
   rw [timeM] at hw
   cases hw
   rw [Int.natCast_add,Int.add_mul]
   omega
 | daily h=>
  rw [timeM] at hv
  cases hv
  have fd:=fE (a:=a) (h:=h) (ss:=ss)
  have b0:=fL (m:=0) z.ah
  have b5:=fL (m:=500) z.ah
  have key:(aZ a ss h + n) * 24 + h<=480:=by
   cases n with
   | zero=>unfold aK at fd; simp; omega
   | succ n=>
    obtain ⟨w,hw,hl⟩:=u.in_ n (by omega)
    rw [timeM] at hw
    have hw':bj a ss h n=w:=Option.some.inj hw
    obtain ⟨q1,q2,_⟩:=b8 (g:=(aZ a ss h + n) * 24 + h) (a:=a) z.rise
    have b2:=fL (m:=ca ((aZ a ss h + n) * 24 + h) 0 a ss) z.ah
    unfold bj at hw'
    rw [hw'] at q2 b2
    unfold aK at q2
    omega
  obtain ⟨q1,q2,q3⟩:=b8 (g:=(aZ a ss h + n) * 24 + h) (a:=a) z.rise
  unfold bj
  by_cases q:500 < ca ((aZ a ss h + n) * 24 + h) 0 a ss
  ·have:=q3 500 (by omega) q
   unfold aK at this
   omega
  ·omega
theorem uS {a m last:Int} {ss:Sh} {p:Plan} {n N:Nat} (z:ZOk a ss) (ok:aH p) (u:Upto a ss p (m - 1) n) (uN:Upto a ss p last N) (hb:∀ v,timeM a ss p n=some v->v<=last):(rowsM a ss p m N).take 1=match timeM a ss p n with | some _=>[n] | none=>[]:=by
 have low:∀ c,c < n->decide (m<=timeV a ss p c)=false:=fun c hc=>by
  obtain ⟨v,hv,hl⟩:=u.in_ c hc
  unfold timeV
  rw [hv,decide_eq_false]
  simp
  omega
 unfold rowsM
 by_cases q:n < N
 ·obtain ⟨v,hv,_⟩:=uN.in_ n q
  rw [hv]
  have hm:m - 1 < v:=iC z ok u (Qae n) hv
  obtain ⟨k,rfl⟩:∃ k,N=n + (k + 1):=⟨N - n - 1,by omega⟩
  rw [List.range_add,List.filter_append,List.filter_eq_nil_iff.mpr (fun c hc=>by rw [low c (List.mem_range.mp hc)]; simp),List.nil_append,List.range_succ_eq_map,List.map_cons,List.filter_cons,if_pos]
  ·simp
  ·unfold timeV
   rw [Nat.add_zero,hv,decide_eq_true]
   simp
   omega
 ·have e:timeM a ss p n=none:=by
   cases h:timeM a ss p n with
   | none=>rfl
   | some v=>
    have:=iC z ok uN (show N<=n by omega) h
    have:=hb v h
    omega
  rw [e,List.filter_eq_nil_iff.mpr]
  ·rfl
  ·intro c hc
   rw [low c (by have:=List.mem_range.mp hc; omega)]
   simp
noncomputable def oneR (i c:Int):Option Int->List (List Int)
 | some v=>[[v,i,c]]
 | none=>[]
noncomputable def nextG (a:Int) (ss:Sh) (un:Plan->Nat):Nat->List Deed->List (List Int)
 | _,[]=>[]
 | i,d :: ds=>oneR i (un d.plan) (timeM a ss d.plan (un d.plan)) ++ nextG a ss un (i + 1) ds
theorem nX {a:Int} {ss:Sh} {un:Plan->Nat}:∀ (ds:List Deed) (i:Nat),(nextG a ss un i ds).length<=ds.length
 | [],_=>by simp [nextG]
 | d :: ds,i=>by
  have:=nX (a:=a) (ss:=ss) (un:=un) ds (i + 1)
  rw [nextG,List.length_append,List.length_cons]
  cases timeM a ss d.plan (un d.plan) <;> simp [oneR] <;> omega
theorem qm {a:Int} {ss:Sh} {un:Plan->Nat}:∀ (ds:List Deed) (i:Nat),∀ r ∈ nextG a ss un i ds,r ≠ []
 | [],_,r,h=>by cases h
 | d :: ds,i,r,h=>by
  rw [nextG] at h
  rcases List.mem_append.mp h with h | h
  ·cases e:timeM a ss d.plan (un d.plan) with
   | some v=>
    rw [e] at h
    simp only [oneR,List.mem_cons,List.not_mem_nil,or_false] at h
    rw [h]; simp
   | none=>rw [e] at h; cases h
  ·exact qm ds (i + 1) r h
theorem nY:∀ (rs:List (List Int)) (b:List Int),cD rs b ∈ b :: rs
 | [],b=>List.mem_cons_self
 | r :: rs,b=>by
  rw [cD]
  have:=nY rs (if HT.lexLt r b=true then r else b)
  rcases List.mem_cons.mp this with e | e
  ·rw [e]
   split
   ·exact Qak _ List.mem_cons_self
   ·exact List.mem_cons_self
  ·exact Qak _ (Qak _ e)
theorem nZ:∀ (rs:List (List Int)) (b:List Int),∀ r ∈ b :: rs,TS.lexLe (cD rs b) r=true
 | [],b,r,h=>by
  simp only [List.mem_cons,List.not_mem_nil,or_false] at h
  subst h
  have:=TS.lexLe_tt r r
  simpa [cD] using this
 | x :: rs,b,r,h=>by
  rw [cD]
  have ih:=nZ rs (if HT.lexLt x b=true then x else b)
  have hb:=ih _ List.mem_cons_self
  have two:TS.lexLe (if HT.lexLt x b=true then x else b) b=true/\TS.lexLe (if HT.lexLt x b=true then x else b) x=true:=by
   by_cases q:HT.lexLt x b=true
   ·rw [if_pos q]
    have t:=TS.lexLe_tt x b
    have f:TS.lexLe b x=false:=by unfold TS.lexLe; rw [q]; rfl
    rw [f,Bool.or_false] at t
    have t2:=TS.lexLe_tt x x
    exact ⟨t,by simpa using t2⟩
   ·rw [if_neg q]
    have t2:=TS.lexLe_tt b b
    exact ⟨by simpa using t2,by unfold TS.lexLe; simpa using q⟩
  rcases List.mem_cons.mp h with rfl | h
  ·exact TS.lexLe_tr _ _ _ hb two.1
  ·rcases List.mem_cons.mp h with rfl | h
   ·exact TS.lexLe_tr _ _ _ hb two.2
   ·exact ih r (Qak _ h)
theorem rH (L:List (List Int)):(TS.sortR L).Pairwise fun x y=>TS.lexLe x y=true:=List.pairwise_mergeSort TS.lexLe_tr TS.lexLe_tt L
theorem wo (L:List (List Int)):atI ((TS.sortR L).map irow ++ [PyData.none]) 0=some (minD L):=by
 have pm:=TS.sortR_perm L
 have so:=rH L
 cases e:TS.sortR L with
 | nil=>
  rw [e] at pm
  have:L=[]:=pm.symm.eq_nil
  subst this
  rfl
 | cons r rs=>
  rw [e] at pm so
  cases L with
  | nil=>exact absurd pm.eq_nil (by simp)
  | cons x xs=>
   have h1:TS.lexLe (cD xs x) r=true:=nZ xs x r (pm.mem_iff.mp List.mem_cons_self)
   have h2:TS.lexLe r (cD xs x)=true:=by
    rcases List.mem_cons.mp (pm.mem_iff.mpr (nY xs x)) with q | q
    ·rw [q]; have t:=TS.lexLe_tt r r; simpa using t
    ·exact (List.pairwise_cons.mp so).1 _ q
   have:r=cD xs x:=TS.lexLe_as h2 h1
   subst this
   simp only [atI,ixN,minD,List.map_cons,List.cons_append]
   rw [if_pos (by omega),if_pos (by simp; omega)]
   rfl
noncomputable def lg:Option (Int × Int)->Int
 | none=>0
 | some (x,y)=>y - x + 1
noncomputable def foD:Option (Int × Int)->PyData
 | none=>.none
 | some (x,y)=>.tuple [.int x,.int y]
theorem uT:∀ o,SeqAt.shaped (foD o)=true
 | none=>rfl
 | some (x,y)=>rfl
noncomputable def stp (s:Option (Int × Int) × Int) (e:Int):Option (Int × Int) × Int:=if e - s.2 > lg s.1 then (some (s.2,e - 1),e + 1) else (s.1,e + 1)
theorem mB {s:Option (Int × Int) × Int} {e:Int} (h:0<=lg s.1):0<=lg (stp s e).1:=by
 unfold stp
 split
 ·rename_i q
  show 0<=e - 1 - s.2 + 1
  omega
 ·exact h
theorem yJ {s:Option (Int × Int) × Int} {e:Int} (h:0<=lg s.1):stp (stp s e) e=stp s e:=by
 have h1:=mB (e:=e) h
 have h2:(stp s e).2=e + 1:=by unfold stp; split <;> rfl
 generalize stp s e=t at *
 unfold stp
 rw [if_neg (by rw [h2]; omega),<-h2]
theorem qo {e:Int}:∀ (k:Nat) {s:Option (Int × Int) × Int},0<=lg s.1->(List.replicate (k + 1) e).foldl stp s=stp s e
 | 0,s,h=>rfl
 | k + 1,s,h=>by
  rw [List.replicate_succ,List.foldl_cons,qo k (mB h),yJ h]
noncomputable def walk (S:List Int) (last:Int):Nat->Int->Option (Int × Int) × Int->Option (Int × Int) × Int
 | 0,_,s=>s
 | n + 1,b,s=>walk S last n (b + 1) (if b ∈ S\/b=last + 1 then stp s b else s)
theorem kl (b:Int):∀ T:List Int,T.Pairwise (·<=·)->(∀ t ∈ T,b<=t)->∃ k T',T=List.replicate k b ++ T'/\T'.Pairwise (·<=·)/\∀ t ∈ T',b + 1<=t
 | [],_,_=>⟨0,[],rfl,.nil,by simp⟩
 | t :: T,h,hb=>by
  obtain ⟨h1,h2⟩:=List.pairwise_cons.mp h
  by_cases e:t=b
  ·obtain ⟨k,T',e1,e2,e3⟩:=kl b T h2 fun x hx=>hb x (Qak _ hx)
   exact ⟨k + 1,T',by rw [List.replicate_succ,List.cons_append,<-e1,e],e2,e3⟩
  ·have:=hb t List.mem_cons_self
   refine ⟨0,t :: T,rfl,h,fun x hx=>?_⟩
   rcases List.mem_cons.mp hx with rfl | hx
   ·omega
   ·have:=h1 x hx; omega
theorem kn {S:List Int} {last:Int}:∀ (n:Nat) (b:Int) (s:Option (Int × Int) × Int) (T:List Int),T.Pairwise (·<=·)->(∀ t ∈ T,b<=t/\t < b + n)->0<=lg s.1->(∀ t,b<=t->t < b + n->(t ∈ S ↔ t ∈ T))->b + n=last + 1->walk S last (n + 1) b s=(T ++ [last + 1]).foldl stp s
 | 0,b,s,T,hs,hT,hl,hi,he=>by
  have:T=[]:=by
   cases T with
   | nil=>rfl
   | cons t T=>have:=hT t List.mem_cons_self; omega
  subst this
  rw [walk,walk,if_pos (.inr (by omega)),show b=last + 1 by omega]
  rfl
 | n + 1,b,s,T,hs,hT,hl,hi,he=>by
  obtain ⟨k,T',rfl,e2,e3⟩:=kl b T hs fun t ht=>(hT t ht).1
  have hT':∀ t ∈ T',b + 1<=t/\t < b + 1 + n:=fun t ht=>⟨e3 t ht,by have:=(hT t (Qai _ ht)).2; omega⟩
  have hi':∀ t,b + 1<=t->t < b + 1 + n->(t ∈ S ↔ t ∈ T'):=fun t h1 h2=>by
   rw [hi t (by omega) (by omega),List.mem_append,List.mem_replicate]
   constructor
   ·rintro (h | h)
    ·omega
    ·exact h
   ·exact .inr
  have hb:=hi b (by omega) (by omega)
  rw [walk]
  cases k with
  | zero=>
   have nb:¬ b ∈ S:=fun h=>by
    rcases List.mem_append.mp (hb.mp h) with h | h
    ·simp at h
    ·have:=e3 b h; omega
   rw [if_neg (by rintro (h | h); exact nb h; omega),kn n (b + 1) s T' e2 hT' hl hi' (by omega)]
   rfl
  | succ k=>
   have ib:b ∈ S:=hb.mpr (by simp)
   rw [if_pos (.inl ib),kn n (b + 1) (stp s b) T' e2 hT' (mB hl) hi' (by omega),List.append_assoc,List.foldl_append (l:=List.replicate (k + 1) b),qo k hl]
theorem qF {ns:List Int} {t:List PyData} {ds:List Deed} {wd:Int} {x2 x5:Option Cell} (hn:ns.length<=63) (ht:t.length<=700) (hw:0 < wd/\wd<=10000) (hm:ds.length < 100) :
  ∃ d t',((aH d.plan/\fC d.late)/\mz wd d.plan)/\t'.length<=t.length + 6/\dF [some (.scr ns),some (.own true (.l t)),x2,some (.dat (.int wd)),some (.dat (.tuple (ds.map deedD))),x5]=.nx [some (.scr ns),some (.own true (.l t')),x2,some (.dat (.int wd)),some (.dat (.tuple ((ds ++ [d]).map deedD))),x5]:=by
 have sz:1000 < sizeLine:=by decide
 obtain ⟨p,t4,hp,nr,l4,h4⟩:=AQ (ns:=ns) (t:=t) (wd:=wd) hn (by omega) hw
 refine ⟨⟨p,.all,true⟩,t4,⟨⟨hp,trivial⟩,by cases p <;> exact nr⟩,by omega,?_⟩
 generalize hP:planD p=P at *
 have e:deedD ⟨p,.all,true⟩=.tuple [P,.str "all",.bool true]:=by unfold deedD; rw [hP]
 rw [List.map_append,List.map_singleton,e]
 simp [dF,h4,show ds.length + 1<=sizeLine by omega]
theorem kP {ns:List Int} {wd:Int} {x2:Option Cell} (hn:ns.length<=63) (hw:0 < wd/\wd<=10000):∀ (n:Nat) (i:Int) {t:List PyData} {es:List Deed} {x5:Option Cell},t.length + 6 * n<=700->es.length + n < 100->∃ (ds:List Deed) (t':List PyData) (y5:Option Cell),(∀ d ∈ ds,(aH d.plan/\fC d.late)/\mz wd d.plan)/\ds.length=n/\t'.length<=t.length + 6 * n/\
   aR (gNm 5) dF (L3.intsFrom i n) [some (.scr ns),some (.own true (.l t)),x2,some (.dat (.int wd)),some (.dat (.tuple (es.map deedD))),x5]=.nx [some (.scr ns),some (.own true (.l t')),x2,some (.dat (.int wd)),some (.dat (.tuple ((es ++ ds).map deedD))),y5]
 | 0,i,t,es,x5,_,_=>⟨[],t,x5,by simp,rfl,by omega,by simp [L3.intsFrom,aR]⟩
 | n + 1,i,t,es,x5,ht,hm=>by
  obtain ⟨d,t1,hp,l1,e⟩:=qF (ns:=ns) (t:=t) (ds:=es) (wd:=wd) (x2:=x2) (x5:=some (.dat (.int i))) hn (by omega) hw (by omega)
  obtain ⟨ds,t2,z5,h2,n2,l2,e2⟩:=kP (x2:=x2) hn hw n (i + 1) (t:=t1) (es:=es ++ [d]) (x5:=some (.dat (.int i))) (by omega) (by simp; omega)
  refine ⟨d :: ds,t2,z5,fun x hx=>?_,by simp [n2],by omega,?_⟩
  ·rcases List.mem_cons.mp hx with rfl | hx
   ·exact hp
   ·exact h2 x hx
  ·rw [show es ++ d :: ds=es ++ [d] ++ ds by simp,<-e2,hU,aR]
   simp only [gNm,List.length_cons,List.set_cons_succ,List.set_cons_zero,e]
theorem wq {ns:List Int} {t:List PyData} {most wd:Int} (hn:ns.length<=63) (ht:t.length<=600) (hm:0<=most/\most<=6) (hw:0 < wd/\wd<=10000):∃ (ds:List Deed) (t':List PyData),(∀ d ∈ ds,(aH d.plan/\fC d.late)/\mz wd d.plan)/\(ds.length:Int)<=most/\t'.length<=t.length + 40/\gu [.scr ns,.own true (.l t),.dat (.int most),.dat (.int wd)]=.rt (.dat (bO ds)) [.l t']:=by
 have sz:1000 < sizeLine:=by decide
 obtain ⟨k,k1,k2,h2⟩:=eN (ns:=ns) (t:=t) (many:=most + 1) hn (by omega) (by omega)
 obtain ⟨ds,t2,y5,hd,nd,l2,e⟩:=kP (ns:=ns) (wd:=wd) (x2:=some (.dat (.int most))) hn hw k.toNat 0 (t:=t ++ [.int 0]) (es:=[]) (x5:=none) (by simp; omega) (by simp; omega)
 have hr:rng1 [.int k]=some (L3.intsFrom 0 k.toNat):=by simp only [rng1]; rw [if_pos (by simp; omega)]
 unfold bO
 simp only [List.length_append,List.length_cons,List.length_nil] at l2
 refine ⟨ds,t2,hd,by omega,by omega,?_⟩
 rw [List.nil_append,List.map_nil] at e
 simp [-rng1,gu,iK,h2,hr,e]
theorem AR {i:Nat} {ρ:DEnv} {rs:List (List Int)} (h:ρ[i]? = some (some (.own false (.l (rs.map irow))))):lS i ρ=.ok (minD rs) ρ:=by
 unfold lS asO
 rw [h]
 simp only [jG]
 cases rs <;> rfl
theorem tf {z1:Option Cell} {a m:Int} {ss:Sh} {un:Plan->Nat} (z:ZOk a ss) (hu:∀ p,aH p->Upto a ss p (m - 1) (un p)):∀ (ds:List Deed) (i:Nat) (acc:List PyData) (x4 x5 x6 x7:Option Cell),(∀ d ∈ ds,aH d.plan)->acc.length + ds.length<=5000->∃ y4 y5 y6 y7,aR (bT 2 (aI (gNm 4) (aI (gNm 5) bS))) cT (gx i (ds.map deedD)) [some (.dat (zoneD a ss)),z1,some (.dat (.int m)),some (.own false (.l acc)),x4,x5,x6,x7]=.nx [some (.dat (zoneD a ss)),z1,some (.dat (.int m)),some (.own false (.l (acc ++ (nextG a ss un i ds).map irow))),y4,y5,y6,y7]
 | [],i,acc,x4,x5,x6,x7,_,_=>⟨x4,x5,x6,x7,by simp [aR,gx,nextG]⟩
 | d :: ds,i,acc,x4,x5,x6,x7,h,hn=>by
  have sz:1000000 < sizeLine:=by decide
  simp only [List.length_cons] at hn
  have hp:=h d List.mem_cons_self
  have u:=hu d.plan hp
  have tb:=sY z hp u
  have to:=kh (a:=a) (ss:=ss) (p:=d.plan) (c:=un d.plan) z.len hp
  generalize hT:timeM a ss d.plan (un d.plan)=T at *
  cases T with
  | none=>
   obtain ⟨y4,y5,y6,y7,ih⟩:=tf (z1:=z1) z hu ds (i + 1) acc (some (.dat (.int i))) (some (.dat (deedD d))) (some (.dat (.int (un d.plan)))) (some (.dat .none)) (fun x hx=>h x (Qak _ hx)) (by omega)
   refine ⟨y4,y5,y6,y7,?_⟩
   have b:cT [some (.dat (zoneD a ss)),z1,some (.dat (.int m)),some (.own false (.l acc)),some (.dat (.int i)),some (.dat (deedD d)),x6,x7]=.nx [some (.dat (zoneD a ss)),z1,some (.dat (.int m)),some (.own false (.l acc)),some (.dat (.int i)),some (.dat (deedD d)),some (.dat (.int (un d.plan))),some (.dat .none)]:=by
    simp [cT,tb,to,optD,fo,isNone]
   rw [List.map_cons,gx,aR,nextG,hT]
   simp only [oneR,List.nil_append]
   rw [<-ih]
   simp only [bT,aI,gNm,bS,List.length_cons,List.length_nil,if_true,Option.bind,List.set_cons_succ,List.set_cons_zero,b]
  | some v=>
   obtain ⟨y4,y5,y6,y7,ih⟩:=tf (z1:=z1) z hu ds (i + 1) (acc ++ [irow [v,(i:Int),(un d.plan:Int)]]) (some (.dat (.int i))) (some (.dat (deedD d))) (some (.dat (.int (un d.plan)))) (some (.dat (.int v))) (fun x hx=>h x (Qak _ hx)) (by simp; omega)
   refine ⟨y4,y5,y6,y7,?_⟩
   have b:cT [some (.dat (zoneD a ss)),z1,some (.dat (.int m)),some (.own false (.l acc)),some (.dat (.int i)),some (.dat (deedD d)),x6,x7]=.nx [some (.dat (zoneD a ss)),z1,some (.dat (.int m)),some (.own false (.l (acc ++ [irow [v,(i:Int),(un d.plan:Int)]]))),some (.dat (.int i)),some (.dat (deedD d)),some (.dat (.int (un d.plan))),some (.dat (.int v))]:=by
    simp [cT,tb,to,optD,fo,isNone,show acc.length < sizeLine by omega]
   rw [List.append_assoc,List.singleton_append] at ih
   rw [List.map_cons,gx,aR,nextG,hT]
   simp only [oneR,List.cons_append,List.nil_append,List.map_cons]
   rw [<-ih]
   simp only [bT,aI,gNm,bS,List.length_cons,List.length_nil,if_true,Option.bind,List.set_cons_succ,List.set_cons_zero,b]
theorem tm {a m:Int} {ss:Sh} {un:Plan->Nat} {ds:List Deed} (z:ZOk a ss) (hm:0<=m/\m<=9999) (hu:∀ p,aH p->Upto a ss p (m - 1) (un p)) (hd:∀ d ∈ ds,aH d.plan/\fC d.late) (h6:ds.length<=6) :
  h9 [.dat (zoneD a ss),.dat (bO ds),.dat (.int m)]=.rt (.dat (minD (nextG a ss un 0 ds))) []:=by
 obtain ⟨y4,y5,y6,y7,e⟩:=tf (z1:=some (.dat (.tuple (ds.map deedD)))) z hu ds 0 [] none none none none (fun d h=>(hd d h).1) (by simp; omega)
 rw [List.nil_append] at e
 have cd:=jM h6 hd
 unfold bO at *
 have mn:=AR (i:=3) (ρ:=[some (.dat (zoneD a ss)),some (.dat (.tuple (ds.map deedD))),some (.dat (.int m)),some (.own false (.l ((nextG a ss un 0 ds).map irow))),y4,y5,y6,y7]) (rs:=nextG a ss un 0 ds) rfl
 simp [h9,jA,iP z,cd,dH (d:=.int m) rfl,isW,hm,jH,e,mn]
theorem nv (f:Nat->PyData) (N:Nat):L3.numbered ((List.range N).map f)=(List.range N).map fun c:Nat=>.tuple [.int (c:Int),f c]:=by
 unfold L3.numbered
 apply List.ext_getElem?
 intro i
 rw [List.getElem?_mapIdx,List.getElem?_map,List.getElem?_map]
 by_cases h:i < N
 ·rw [List.getElem?_range h]; rfl
 ·rw [List.getElem?_eq_none (by simpa using h)]; rfl
theorem yK (ds:List PyData):cutD ds none (some 1)=ds.take 1:=by
 unfold L3.cutD HT.sIx
 cases ds with
 | nil=>rfl
 | cons d ds=>simp
noncomputable def geD (m:Int):PyData->Bool
 | .tuple [_,.int t]=>decide (m<=t)
 | _=>false
theorem og {a m:Int} {ss:Sh} {p:Plan}:∀ l:List Nat,(l.map fun c:Nat=>PyData.tuple [.int (c:Int),.int (timeV a ss p c)]).filter (geD m)=(l.filter fun c=>decide (m<=timeV a ss p c)).map fun c:Nat=>PyData.tuple [.int (c:Int),.int (timeV a ss p c)]
 | []=>rfl
 | c :: l=>by
  rw [List.map_cons,List.filter_cons,List.filter_cons,og l]
  by_cases h:m<=timeV a ss p c
  ·rw [if_pos (by simpa [geD] using h),if_pos (by simpa using h)]; rfl
  ·rw [if_neg (by simpa [geD] using h),if_neg (by simpa using h)]
theorem wU {e0 e1 e3 e9 e10 e11 e12 e13:Option Cell} {a m:Int} {ss:Sh} {un uN:Plan->Nat} (z:ZOk a ss) (hm:0<=m/\m<=159) (hu:∀ p,aH p->Upto a ss p (m - 1) (un p)) (hN:∀ p,aH p->Upto a ss p 500 (uN p)):∀ (ds:List Deed) (i:Nat) (acc:List PyData) (x6 x7 x8:Option Cell),(∀ d ∈ ds,aH d.plan/\mz 150 d.plan)->acc.length + ds.length<=5000->∃ y6 y7 y8,aR (bT 2 (aI (gNm 6) (aI (gNm 7) bS))) ik (gx i (ds.map deedD)) [e0,e1,some (.dat (zoneD a ss)),e3,some (.dat (.int m)),some (.dat (.list acc)),x6,x7,x8,e9,e10,e11,e12,e13]=.nx [e0,e1,some (.dat (zoneD a ss)),e3,some (.dat (.int m)),some (.dat (.list (acc ++ (nextG a ss un i ds).map irow))),y6,y7,y8,e9,e10,e11,e12,e13]
 | [],i,acc,x6,x7,x8,_,_=>⟨x6,x7,x8,by simp [aR,gx,nextG]⟩
 | d :: ds,i,acc,x6,x7,x8,h,hn=>by
  have sz:1000000 < sizeLine:=by decide
  simp only [List.length_cons] at hn
  obtain ⟨hp,near⟩:=h d List.mem_cons_self
  have u:=hu d.plan hp
  have uB:=hN d.plan hp
  have hd':=uS z hp u uB (fun v hv=>td z hp near hm.1 hm.2 u hv)
  obtain ⟨c,fc,rt⟩:=rG z hp (by omega:(0:Int)<=500/\(500:Int)<=9999) uB
  have le:=uB.le
  have nr:L3.numbered ((cb a ss d.plan (uN d.plan)).map PyData.int)=(List.range (uN d.plan)).map fun c:Nat=>.tuple [.int (c:Int),.int (timeV a ss d.plan c)]:=by
   unfold cb
   rw [List.map_map]
   exact nv _ _
  have cm:bE (gNm 0) m9 ng ((List.range (uN d.plan)).map fun c:Nat=>.tuple [.int (c:Int),.int (timeV a ss d.plan c)]) [] [none,some (.dat (.int m))]=some ([] ++ (((List.range (uN d.plan)).map fun c:Nat=>PyData.tuple [.int (c:Int),.int (timeV a ss d.plan c)]).filter (geD m)).map id):=by
   refine fB (P:=fun ρ=>∃ x,ρ=[x,some (.dat (.int m))]) ⟨none,rfl⟩ (fun d hd' ρ hρ=>?_) (by simp; omega)
   obtain ⟨x,rfl⟩:=hρ
   obtain ⟨t,_,rfl⟩:=List.mem_map.mp hd'
   exact ⟨_,_,_,rfl,by simp [m9,geD] <;> rfl,⟨_,rfl⟩,fun _=>⟨by simp [ng] <;> rfl,⟨_,rfl⟩⟩⟩
  rw [List.nil_append,List.map_id,og] at cm
  change bE _ _ _ _ _ _=some ((rowsM a ss d.plan m (uN d.plan)).map _) at cm
  have tk:cutD ((rowsM a ss d.plan m (uN d.plan)).map fun c:Nat=>PyData.tuple [.int (c:Int),.int (timeV a ss d.plan c)]) none (some 1)=(match timeM a ss d.plan (un d.plan) with | some _=>[un d.plan] | none=>[]).map fun c:Nat=>PyData.tuple [.int (c:Int),.int (timeV a ss d.plan c)]:=by
   rw [yK,<-List.map_take,hd'] <;>
    (cases timeM a ss d.plan (un d.plan) <;> rfl)
  have rl:((rowsM a ss d.plan m (uN d.plan)).map fun c:Nat=>PyData.tuple [.int (c:Int),.int (timeV a ss d.plan c)]).length<=sizeLine:=by
   have:=k9 (a:=a) (f:=m) (ss:=ss) (p:=d.plan) (n:=uN d.plan)
   rw [List.length_map]
   omega
  have ev:∀ v,timeM a ss d.plan (un d.plan)=some v->timeV a ss d.plan (un d.plan)=v:=fun v hv=>by unfold timeV; rw [hv]; rfl
  generalize hR:((rowsM a ss d.plan m (uN d.plan)).map fun c:Nat=>PyData.tuple [.int (c:Int),.int (timeV a ss d.plan c)])=R at *
  obtain ⟨y6,y7,y8,ih⟩:=wU (e0:=e0) (e1:=e1) (e3:=e3) (e9:=e9) (e10:=e10) (e11:=e11) (e12:=e12) (e13:=e13) z hm hu hN ds (i + 1) (acc ++ (oneR i (un d.plan) (timeM a ss d.plan (un d.plan))).map irow) (some (.dat (.int i))) (some (.dat (deedD d))) (some (.dat (.list R))) (fun x hx=>h x (Qak _ hx)) (by cases timeM a ss d.plan (un d.plan) <;> simp [oneR] <;> omega)
  refine ⟨y6,y7,y8,?_⟩
  have b:ik [e0,e1,some (.dat (zoneD a ss)),e3,some (.dat (.int m)),some (.dat (.list acc)),some (.dat (.int i)),some (.dat (deedD d)),x8,e9,e10,e11,e12,e13]=.nx [e0,e1,some (.dat (zoneD a ss)),e3,some (.dat (.int m)),some (.dat (.list (acc ++ (oneR i (un d.plan) (timeM a ss d.plan (un d.plan))).map irow))),some (.dat (.int i)),some (.dat (deedD d)),some (.dat (.list R)),e9,e10,e11,e12,e13]:=by
   cases hT:timeM a ss d.plan (un d.plan) with
   | none=>
    rw [hT] at tk
    simp [ik,rt,fc,-frz,nr,cm,rl,slK,tk,bE,oneR,bTrue,show acc.length<=sizeLine by omega]
   | some v=>
    rw [hT] at tk
    simp [ik,rt,fc,-frz,nr,cm,rl,slK,tk,bE,oneR,bTrue,show 0 < sizeLine by omega,show 1<=sizeLine by omega,rz,ev v hT,show acc.length + 1<=sizeLine by omega]
  rw [List.map_cons,gx,aR,nextG,List.map_append,<-List.append_assoc,<-ih]
  simp only [bT,aI,gNm,bS,List.length_cons,List.length_nil,if_true,Option.bind,List.set_cons_succ,List.set_cons_zero,b]
noncomputable def allT (a:Int) (ss:Sh) (un:Plan->Nat):List Deed->List Int
 | []=>[]
 | d :: ds=>cb a ss d.plan (un d.plan) ++ allT a ss un ds
theorem oh {a first:Int} {ss:Sh} {un:Plan->Nat}:∀ (ds:List Deed) (i:Nat),(calG a ss first un i ds).map hd0=(allT a ss un ds).filter fun t=>decide (first<=t)
 | [],_=>rfl
 | d :: ds,i=>by
  rw [calG,allT,List.map_append,List.filter_append,oh ds (i + 1)]
  congr 1
  unfold rowsM cb
  rw [List.map_map,List.filter_map]
  rfl
theorem rJ {e0 e1 e3 e4 e5 e6 e8 e11 e12 e13:Option Cell} {a last:Int} {ss:Sh} {un:Plan->Nat} (z:ZOk a ss) (hl:0<=last/\last<=9999) (hu:∀ p,aH p->Upto a ss p last (un p)):∀ (ds:List Deed) (acc:List Int) (x7:Option Cell),(∀ d ∈ ds,aH d.plan)->acc.length + 20000 * ds.length<=500000->∃ y7,aR (gNm 7) iM (ds.map deedD) [e0,e1,some (.dat (zoneD a ss)),e3,e4,e5,e6,x7,e8,some (.dat (.int last)),some (.dat (.list (acc.map PyData.int))),e11,e12,e13]=.nx [e0,e1,some (.dat (zoneD a ss)),e3,e4,e5,e6,y7,e8,some (.dat (.int last)),some (.dat (.list ((acc ++ allT a ss un ds).map PyData.int))),e11,e12,e13]
 | [],acc,x7,_,_=>⟨x7,by simp [aR,allT]⟩
 | d :: ds,acc,x7,h,hn=>by
  have sz:1000000 < sizeLine:=by decide
  simp only [List.length_cons] at hn
  have hp:=h d List.mem_cons_self
  have u:=hu d.plan hp
  obtain ⟨c,fc,rt⟩:=rG z hp hl u
  have l2:=u.le
  have tl:=sZ (a:=a) (ss:=ss) (p:=d.plan) (n:=un d.plan)
  obtain ⟨y7,ih⟩:=rJ (e0:=e0) (e1:=e1) (e3:=e3) (e4:=e4) (e5:=e5) (e6:=e6) (e8:=e8) (e11:=e11) (e12:=e12) (e13:=e13) z hl hu ds (acc ++ cb a ss d.plan (un d.plan)) (some (.dat (deedD d))) (fun x hx=>h x (Qak _ hx)) (by simp [tl]; omega)
  refine ⟨y7,?_⟩
  have b:iM [e0,e1,some (.dat (zoneD a ss)),e3,e4,e5,e6,some (.dat (deedD d)),e8,some (.dat (.int last)),some (.dat (.list (acc.map PyData.int))),e11,e12,e13]=.nx [e0,e1,some (.dat (zoneD a ss)),e3,e4,e5,e6,some (.dat (deedD d)),e8,some (.dat (.int last)),some (.dat (.list ((acc ++ cb a ss d.plan (un d.plan)).map PyData.int))),e11,e12,e13]:=by
   simp [iM,rt,fc,-frz,tl,show acc.length + un d.plan<=sizeLine by omega]
  rw [List.map_cons,aR,allT,<-List.append_assoc,<-ih]
  simp only [gNm,List.length_cons,List.set_cons_succ,List.set_cons_zero,b]
theorem rK {z0 z1 z2 z3 x7:Option Cell}:∀ (T:List Int) (s:Option (Int × Int) × Int) (x8:Option Cell),∃ y8,aR (gNm 8) b6 (T.map PyData.int) [z0,z1,z2,z3,some (.dat (.int (lg s.1))),some (.dat (foD s.1)),some (.dat (.int s.2)),x7,x8]=.nx [z0,z1,z2,z3,some (.dat (.int (lg (T.foldl stp s).1))),some (.dat (foD (T.foldl stp s).1)),some (.dat (.int (T.foldl stp s).2)),x7,y8]
 | [],s,x8=>⟨x8,by simp [aR]⟩
 | e :: T,s,x8=>by
  obtain ⟨y8,ih⟩:=rK (z0:=z0) (z1:=z1) (z2:=z2) (z3:=z3) (x7:=x7) T (stp s e) (some (.dat (.int e)))
  refine ⟨y8,?_⟩
  have b:b6 [z0,z1,z2,z3,some (.dat (.int (lg s.1))),some (.dat (foD s.1)),some (.dat (.int s.2)),x7,some (.dat (.int e))]=.nx [z0,z1,z2,z3,some (.dat (.int (lg (stp s e).1))),some (.dat (foD (stp s e).1)),some (.dat (.int (stp s e).2)),x7,some (.dat (.int e))]:=by
   unfold stp
   by_cases q:e - s.2 > lg s.1
   ·have lq:lg (some (s.2,e - 1))=e - s.2:=by show e - 1 - s.2 + 1=_; omega
    rw [if_pos q]
    simp only [lq]
    simp [b6,q,foD]
   ·rw [if_neg q]
    simp [b6,q]
  rw [List.map_cons,aR,List.foldl_cons,<-ih]
  simp only [gNm,List.length_cons,List.set_cons_succ,List.set_cons_zero,b]
noncomputable def hdD:PyData->PyData
 | .tuple (x :: _)=>x
 | _=>.none
theorem AS {a first last:Int} {ss:Sh} {un:Plan->Nat} {ds:List Deed} (z:ZOk a ss) (hf:0<=first/\first<=last) (hl:last<=9999) (hu:∀ p,aH p->Upto a ss p last (un p)) (hd:∀ d ∈ ds,aH d.plan/\fC d.late) (h6:ds.length<=6) :
  eZ [.dat (zoneD a ss),.dat (bO ds),.dat (.int first),.dat (.int last)]=.rt (.dat (foD (((TS.sortR (calG a ss first un 0 ds)).map hd0 ++ [last + 1]).foldl stp (none,first)).1)) []:=by
 have sz:1000000 < sizeLine:=by decide
 have cc:=lD z hf hl hd h6
 have rr:=nu z ⟨hf.1,by omega⟩ ⟨by omega,hl⟩ hu (fun d hd'=>(hd d hd').1) h6
 have cl:=ql (first:=first) hu ds 0 fun d hd'=>(hd d hd').1
 have pm:=TS.sortR_perm (calG a ss first un 0 ds)
 have ne:∀ r ∈ TS.sortR (calG a ss first un 0 ds),∃ x y w,r=[x,y,w]:=fun r hr=>nt ds 0 r (pm.mem_iff.mp hr)
 have ln:(TS.sortR (calG a ss first un 0 ds)).length<=120000:=by rw [pm.length_eq]; omega
 generalize TS.sortR (calG a ss first un 0 ds)=R at *
 have cm:bE (gNm 0) bTrue fP (R.map irow) [] [none]=some ([] ++ (R.map irow).map hdD):=by
  refine jF (P:=fun ρ=>∃ x,ρ=[x]) ⟨none,rfl⟩ (fun d hd' ρ hρ=>?_) (by simp; omega)
  obtain ⟨x,rfl⟩:=hρ
  obtain ⟨r,hr,rfl⟩:=List.mem_map.mp hd'
  obtain ⟨x,y,w,rfl⟩:=ne r hr
  refine ⟨[some (.dat (irow [x,y,w]))],[some (.dat (irow [x,y,w]))],rfl,?_,⟨_,rfl⟩⟩
  show _=Out.ok (PyData.int x) _
  simp [fP,atI,ixN]
 have e2:(R.map irow).map hdD=(R.map hd0).map PyData.int:=by
  rw [List.map_map,List.map_map]
  apply List.map_congr_left
  intro r hr
  obtain ⟨x,y,w,rfl⟩:=ne r hr
  rfl
 rw [List.nil_append,e2] at cm
 have ln2:((R.map hd0).map PyData.int).length + 1<=sizeLine:=by simp; omega
 obtain ⟨y8,ig⟩:=rK (z0:=some (.dat (zoneD a ss))) (z1:=some (.dat (bO ds))) (z2:=some (.dat (.int first))) (z3:=some (.dat (.int last))) (x7:=some (.dat (.list ((R.map hd0).map PyData.int ++ [.int (last + 1)])))) (R.map hd0 ++ [last + 1]) (none,first) none
 rw [List.map_append,List.map_singleton] at ig
 generalize (R.map hd0).map PyData.int=Q at *
 change aR _ _ _ [_,_,_,_,some (.dat (.int 0)),some (.dat .none),some (.dat (.int first)),_,_]=_ at ig
 simp [eZ,gH,cc,rr,cm,ln2,show Q.length<=sizeLine by omega,ig]
theorem uU {e0 e1 e2 e3 e4 e5 e6 e7 e8:Option Cell} {S:List Int} {last:Int}:∀ (n:Nat) (b:Int) (s:Option (Int × Int) × Int) (x13:Option Cell),0<=lg s.1->∃ y13,aR (gNm 13) bG (L3.intsFrom b n) [e0,e1,e2,e3,e4,e5,e6,e7,e8,some (.dat (.int last)),some (.dat (.list (S.map PyData.int))),some (.dat (foD s.1)),some (.dat (.int s.2)),x13]=.nx [e0,e1,e2,e3,e4,e5,e6,e7,e8,some (.dat (.int last)),some (.dat (.list (S.map PyData.int))),some (.dat (foD (walk S last n b s).1)),some (.dat (.int (walk S last n b s).2)),y13]
 | 0,b,s,x13,_=>⟨x13,by simp [aR,L3.intsFrom,walk]⟩
 | n + 1,b,s,x13,h=>by
  have im:=jr S
  obtain ⟨y13,ih⟩:=uU (e0:=e0) (e1:=e1) (e2:=e2) (e3:=e3) (e4:=e4) (e5:=e5) (e6:=e6) (e7:=e7) (e8:=e8) (S:=S) (last:=last) n (b + 1) (if b ∈ S\/b=last + 1 then stp s b else s) (some (.dat (.int b))) (by split; exact mB h; exact h)
  refine ⟨y13,?_⟩
  have bb:bG [e0,e1,e2,e3,e4,e5,e6,e7,e8,some (.dat (.int last)),some (.dat (.list (S.map PyData.int))),some (.dat (foD s.1)),some (.dat (.int s.2)),some (.dat (.int b))]=.nx [e0,e1,e2,e3,e4,e5,e6,e7,e8,some (.dat (.int last)),some (.dat (.list (S.map PyData.int))),some (.dat (foD (if b ∈ S\/b=last + 1 then stp s b else s).1)),some (.dat (.int (if b ∈ S\/b=last + 1 then stp s b else s).2)),some (.dat (.int b))]:=by
   generalize S.map PyData.int=Q at *
   by_cases q1:b ∈ S\/b=last + 1
   ·rw [if_pos q1]
    obtain ⟨o,g⟩:=s
    cases o with
    | none=>
     rw [show stp (none,g) b=if b - g > 0 then (some (g,b - 1),b + 1) else (none,b + 1) from rfl]
     by_cases q2:b - g > 0
     ·rw [if_pos q2]
      by_cases q3:b ∈ S
      ·simp [bG,gIn,im,q3,foD,show g < b by omega,gIs,isNone]
      ·have q4:=q1.resolve_left q3
       simp [bG,gIn,im,q3,q4,eO,foD,show g < b by omega,show g < last + 1 by omega,gIs,isNone]
     ·rw [if_neg q2]
      by_cases q3:b ∈ S
      ·simp [bG,gIn,im,q3,foD,show ¬ g < b by omega,gIs,isNone]
      ·have q4:=q1.resolve_left q3
       simp [bG,gIn,im,q3,q4,eO,foD,show ¬ g < b by omega,show ¬ g < last + 1 by omega,gIs,isNone]
    | some xy=>
     obtain ⟨x,y⟩:=xy
     change 0<=y - x + 1 at h
     rw [show stp (some (x,y),g) b=if b - g > y - x + 1 then (some (g,b - 1),b + 1) else (some (x,y),b + 1) from rfl]
     by_cases q2:b - g > y - x + 1
     ·rw [if_pos q2]
      by_cases q3:b ∈ S
      ·simp [bG,gIn,im,q3,foD,show g < b by omega,gIs,isNone,atI,ixN,show y - x + 1 < b - g by omega]
      ·have q4:=q1.resolve_left q3
       simp [bG,gIn,im,q3,eO,q4,foD,show g < b by omega,show g < last + 1 by omega,gIs,isNone,atI,ixN,show y - x + 1 < b - g by omega,show y - x + 1 < last + 1 - g by omega]
     ·rw [if_neg q2]
      by_cases q5:g < b
      ·by_cases q3:b ∈ S
       ·simp [bG,gIn,im,q3,foD,q5,gIs,isNone,atI,ixN,show ¬ y - x + 1 < b - g by omega]
       ·have q4:=q1.resolve_left q3
        simp [bG,gIn,im,q3,eO,q4,foD,q5,show g < last + 1 by omega,gIs,isNone,atI,ixN,show ¬ y - x + 1 < b - g by omega,show ¬ y - x + 1 < last + 1 - g by omega]
      ·by_cases q3:b ∈ S
       ·simp [bG,gIn,im,q3,foD,q5]
       ·have q4:=q1.resolve_left q3
        simp [bG,gIn,im,q3,eO,q4,foD,q5,show ¬ g < last + 1 by omega]
   ·rw [if_neg q1]
    simp only [not_or] at q1
    simp [bG,gIn,im,eO,q1.1,q1.2]
  rw [hU,aR,walk,<-ih]
  simp only [gNm,List.length_cons,List.set_cons_succ,List.set_cons_zero,bb]
theorem wt {x y w x' y' w':Int} (h:TS.lexLe [x,y,w] [x',y',w']=true):x<=x':=by
 unfold TS.lexLe at h
 rw [HT.lexLt] at h
 by_cases e:x' = x
 ·omega
 ·rw [if_neg e] at h
  have:decide (x' < x)=false:=by simpa using h
  have:=of_decide_eq_false this
  omega
theorem wu {ns:List Int} (hn:ns.length<=63):wR [.scr ns]=.rt (.dat (.bool true)) []:=by
 have sz:1000000 < sizeLine:=by decide
 obtain ⟨a,ss,t1,h2,zl,zr,zo,zt,l1⟩:=AM (ns:=ns) (t:=[]) (wd:=60) hn (by simp) (by omega)
 have z:ZOk a ss:=⟨by omega,zr,zo,fun p hp=>by have:=zt p hp; omega⟩
 simp only [List.length_nil] at l1
 obtain ⟨ds,t2,hd,d5,l2,h3⟩:=wq (ns:=ns) (t:=t1) (most:=4) (wd:=150) hn (by omega) (by omega) (by omega)
 obtain ⟨m,m1,m2,h4⟩:=eN (ns:=ns) (t:=t2) (many:=160) hn (by omega) (by omega)
 obtain ⟨k,k1,k2,h5⟩:=eN (ns:=ns) (t:=t2 ++ [.int 0]) (many:=80) hn (by simp; omega) (by omega)
 simp only [List.append_assoc,List.cons_append,List.nil_append] at h5
 have hdp:∀ d ∈ ds,aH d.plan:=fun d h=>(hd d h).1.1
 have d6:ds.length<=6:=by omega
 obtain ⟨un,hu⟩:=ups (last:=m - 1) z (by omega)
 obtain ⟨uN,hN⟩:=ups (last:=500) z (by omega)
 obtain ⟨ul,hL⟩:=ups (last:=m + k) z (by omega)
 have rn:=tm (m:=m) z ⟨m1,by omega⟩ hu (fun d h=>(hd d h).1) d6
 obtain ⟨y6,y7,y8,lo⟩:=wU (e0:=some (.scr ns)) (e1:=some (.own false (.l (t2 ++ [.int 0])))) (e3:=some (.dat (bO ds))) (e9:=none) (e10:=none) (e11:=none) (e12:=none) (e13:=none) z ⟨m1,by omega⟩ hu hN ds 0 [] none none none (fun d h=>⟨(hd d h).1.1,(hd d h).2⟩) (by simp; omega)
 rw [List.nil_append] at lo
 have nl:=nX (a:=a) (ss:=ss) (un:=un) ds 0
 have srt:=mx (L:=nextG a ss un 0 ds) (qm ds 0)
 have hm:=wo (nextG a ss un 0 ds)
 have sl:((TS.sortR (nextG a ss un 0 ds)).map irow).length + 1<=sizeLine:=by rw [List.length_map,(TS.sortR_perm _).length_eq]; omega
 have sh:SeqAt.shaped (minD (nextG a ss un 0 ds))=true:=by
  cases nextG a ss un 0 ds with
  | nil=>rfl
  | cons r rs=>exact s9 _
 have ne1:=yE sh
 generalize hG:nextG a ss un 0 ds=G at *
 generalize hM:minD G=M at *
 generalize hQ:(TS.sortR G).map irow=Q at *
 obtain ⟨y7',sg⟩:=rJ (e0:=some (.scr ns)) (e1:=some (.own false (.l (t2 ++ [.int 0,.int 0])))) (e3:=some (.dat (bO ds))) (e4:=some (.dat (.int m))) (e5:=some (.dat (.list (G.map irow)))) (e6:=y6) (e8:=y8) (e11:=none) (e12:=none) (e13:=none) (last:=m + k) z ⟨by omega,by omega⟩ hL ds [] y7 hdp (by simp; omega)
 rw [List.nil_append,List.map_nil] at sg
 have ri:=AS (first:=m) (last:=m + k) z ⟨m1,by omega⟩ (by omega) hL (fun d h=>(hd d h).1) d6
 have pm:=TS.sortR_perm (calG a ss m ul 0 ds)
 have so:=rH (calG a ss m ul 0 ds)
 have ne:∀ r ∈ TS.sortR (calG a ss m ul 0 ds),∃ x y w,r=[x,y,w]/\m<=x/\x<=m + k:=fun r hr=>nW hL ds 0 hdp r (pm.mem_iff.mp hr)
 have hs:((TS.sortR (calG a ss m ul 0 ds)).map hd0).Pairwise (·<=·):=by
  rw [List.pairwise_map]
  refine so.imp_of_mem fun {r r'} hr hr' h=>?_
  obtain ⟨x,y,w,rfl,_⟩:=ne r hr
  obtain ⟨x',y',w',rfl,_⟩:=ne r' hr'
  exact wt h
 have ht:∀ t ∈ (TS.sortR (calG a ss m ul 0 ds)).map hd0,m<=t/\t < m + ((k + 1).toNat:Nat):=fun t ht=>by
  obtain ⟨r,hr,rfl⟩:=List.mem_map.mp ht
  obtain ⟨x,y,w,rfl,b1,b2⟩:=ne r hr
  exact ⟨b1,by show x < _; omega⟩
 have hi:∀ t,m<=t->t < m + ((k + 1).toNat:Nat)->(t ∈ allT a ss ul ds ↔ t ∈ (TS.sortR (calG a ss m ul 0 ds)).map hd0):=fun t t1 _=>by
  rw [(pm.map hd0).mem_iff,oh,List.mem_filter]
  simp [t1]
 have wf:=kn (S:=allT a ss ul ds) (last:=m + k) (k + 1).toNat m (none,m) _ hs ht (Int.le_refl 0) hi (by omega)
 rw [<-wf] at ri
 generalize hS:allT a ss ul ds=S at *
 obtain ⟨y13,lw⟩:=uU (e0:=some (.scr ns)) (e1:=some (.own false (.l (t2 ++ [.int 0,.int 0])))) (e2:=some (.dat (zoneD a ss))) (e3:=some (.dat (bO ds))) (e4:=some (.dat (.int m))) (e5:=some (.dat (.list (G.map irow)))) (e6:=y6) (e7:=y7') (e8:=y8) (S:=S) (last:=m + k) ((k + 1).toNat + 1) m (none,m) none (Int.le_refl 0)
 have rr:=yI (i:=m) (j:=m + k + 2) (by omega) (by omega) (by omega) (by omega)
 rw [show (m + k + 2 - m).toNat=(k + 1).toNat + 1 by omega] at rr
 change aR _ _ _ [_,_,_,_,_,_,_,_,_,_,_,some (.dat .none),some (.dat (.int m)),_]=_ at lw
 generalize walk S (m + k) ((k + 1).toNat + 1) m (none,m)=R at *
 have eq1:=rD (uT R.1)
 generalize foD R.1=D at *
 have dsE:bO ds=.tuple (ds.map deedD):=by unfold bO; rfl
 have c10:jB [some (.scr ns),some (.own false (.l (t2 ++ [.int 0]))),some (.dat (zoneD a ss)),some (.dat (bO ds)),some (.dat (.int m)),some (.dat (.list [])),none,none,none,none,none,none,none,none]=.nx [some (.scr ns),some (.own false (.l (t2 ++ [.int 0]))),some (.dat (zoneD a ss)),some (.dat (bO ds)),some (.dat (.int m)),some (.dat (.list (G.map irow))),y6,y7,y8,none,none,none,none,none]:=by
  rw [<-lo,dsE]
  simp [jB,jH]
 have c15:jC [some (.scr ns),some (.own false (.l (t2 ++ [.int 0,.int 0]))),some (.dat (zoneD a ss)),some (.dat (bO ds)),some (.dat (.int m)),some (.dat (.list (G.map irow))),y6,y7,y8,some (.dat (.int (m + k))),some (.dat (.list [])),none,none,none]=.nx [some (.scr ns),some (.own false (.l (t2 ++ [.int 0,.int 0]))),some (.dat (zoneD a ss)),some (.dat (bO ds)),some (.dat (.int m)),some (.dat (.list (G.map irow))),y6,y7',y8,some (.dat (.int (m + k))),some (.dat (.list (S.map PyData.int))),none,none,none]:=by
  rw [<-sg]
  simp only [jC,sForF,iTs,xV,List.getElem?_cons_succ,List.getElem?_cons_zero,Out.bind,bR,dsE,ofX]
 refine yH (n:=13) ?_
 unfold sN
 simp only [List.replicate]
 refine cz (by simp [m4] <;> rfl) ?_
 refine cz (by simp [m5,h2] <;> rfl) ?_
 refine cz (by simp [m6,h3] <;> rfl) ?_
 refine cz (by simp [m7,h4] <;> rfl) ?_
 refine cz (by simp [m8] <;> rfl) ?_
 refine cz c10 ?_
 refine cz (by simp [lb,rn,srt,sl,hm,ne1] <;> rfl) ?_
 refine cz (by simp [lc,h5] <;> rfl) ?_
 refine cz (by simp [ld] <;> rfl) ?_
 refine cz c15 ?_
 refine cz (by simp [lh] <;> rfl) ?_
 refine cz (by simp [-mW,li,rr,lw] <;> rfl) ?_
 exact ⟨_,_,by simp [ls,ri,eq1] <;> exact ⟨rfl,rfl⟩⟩
theorem AT {K:PySem.W.Frag} {mg:Str->Option Value} {f:FM} {vs:List V} {H:Hp} {Q:VK} {E:XK} (hf:∀ ns:List Int,ns.length<=63->f [.scr ns]=.rt (.dat (.bool true)) []) (h:∃ a ns,vs=[.ref a]/\Scr K H a ns/\∀ H',Q (.bl true) H'):spF K mg f vs H Q E:=by
 obtain ⟨a,ns,rfl,hs,q⟩:=h
 refine ⟨[.scr ns],[[]],[],.oth (fun _ z=>by cases z) (fun _ _ z=>by cases z) ⟨a,rfl,hs⟩ .nil,List.nodup_nil,fun b hb=>by simp at hb,?_⟩
 rw [hf ns hs.1]
 intro v H' fp fps' hv _ _
 rw [show v=.bl true from DV.bl_inv hv]
 exact q H'
noncomputable def spL (K:PySem.W.Frag):Sp:=fun vs H Q _=>∃ a ns,vs=[.ref a]/\Scr K H a ns/\∀ H',Q (.bl true) H'
theorem all_mk {l:PySem.W.OpenLaw} {w:World} {K:PySem.W.Frag} {h:Heap} {mg:Str->Option Value} {fa:Addr} (X:K.In h) (G:h.Ns mainGlobals mg) (hfa:mg "law" = some (.ref fa))
  {f_is_whole_:Addr} {od_is_whole an_is_whole:Option Addr} {sl_is_whole:Array (Option Value)} {oc_is_whole kV_is_whole dc_is_whole pm_is_whole cd_is_whole ct_is_whole:Value}
  {f_is_tuple_of_:Addr} {od_is_tuple_of an_is_tuple_of:Option Addr} {sl_is_tuple_of:Array (Option Value)} {oc_is_tuple_of kV_is_tuple_of dc_is_tuple_of pm_is_tuple_of cd_is_tuple_of ct_is_tuple_of:Value}
  {f_is_ahead_:Addr} {od_is_ahead an_is_ahead:Option Addr} {sl_is_ahead:Array (Option Value)} {oc_is_ahead kV_is_ahead dc_is_ahead pm_is_ahead cd_is_ahead ct_is_ahead:Value}
  {f_is_moment_:Addr} {od_is_moment an_is_moment:Option Addr} {sl_is_moment:Array (Option Value)} {oc_is_moment kV_is_moment dc_is_moment pm_is_moment cd_is_moment ct_is_moment:Value}
  {f_are_shifts_:Addr} {od_are_shifts an_are_shifts:Option Addr} {sl_are_shifts:Array (Option Value)} {oc_are_shifts kV_are_shifts dc_are_shifts pm_are_shifts cd_are_shifts ct_are_shifts:Value}
  {f_is_zone_:Addr} {od_is_zone an_is_zone:Option Addr} {sl_is_zone:Array (Option Value)} {oc_is_zone kV_is_zone dc_is_zone pm_is_zone cd_is_zone ct_is_zone:Value}
  {f_has_word_:Addr} {od_has_word an_has_word:Option Addr} {sl_has_word:Array (Option Value)} {oc_has_word kV_has_word dc_has_word pm_has_word cd_has_word ct_has_word:Value}
  {f_is_plan_:Addr} {od_is_plan an_is_plan:Option Addr} {sl_is_plan:Array (Option Value)} {oc_is_plan kV_is_plan dc_is_plan pm_is_plan cd_is_plan ct_is_plan:Value}
  {f_is_late_:Addr} {od_is_late an_is_late:Option Addr} {sl_is_late:Array (Option Value)} {oc_is_late kV_is_late dc_is_late pm_is_late cd_is_late ct_is_late:Value}
  {f_is_deed_:Addr} {od_is_deed an_is_deed:Option Addr} {sl_is_deed:Array (Option Value)} {oc_is_deed kV_is_deed dc_is_deed pm_is_deed cd_is_deed ct_is_deed:Value}
  {f_are_deeds_:Addr} {od_are_deeds an_are_deeds:Option Addr} {sl_are_deeds:Array (Option Value)} {oc_are_deeds kV_are_deeds dc_are_deeds pm_are_deeds cd_are_deeds ct_are_deeds:Value}
  {f_check_zone_:Addr} {od_check_zone an_check_zone:Option Addr} {sl_check_zone:Array (Option Value)} {oc_check_zone kV_check_zone dc_check_zone pm_check_zone cd_check_zone ct_check_zone:Value}
  {f_check_plan_:Addr} {od_check_plan an_check_plan:Option Addr} {sl_check_plan:Array (Option Value)} {oc_check_plan kV_check_plan dc_check_plan pm_check_plan cd_check_plan ct_check_plan:Value}
  {f_check_moment_:Addr} {od_check_moment an_check_moment:Option Addr} {sl_check_moment:Array (Option Value)} {oc_check_moment kV_check_moment dc_check_moment pm_check_moment cd_check_moment ct_check_moment:Value}
  {f_check_stretch_:Addr} {od_check_stretch an_check_stretch:Option Addr} {sl_check_stretch:Array (Option Value)} {oc_check_stretch kV_check_stretch dc_check_stretch pm_check_stretch cd_check_stretch ct_check_stretch:Value}
  {f_check_deeds_:Addr} {od_check_deeds an_check_deeds:Option Addr} {sl_check_deeds:Array (Option Value)} {oc_check_deeds kV_check_deeds dc_check_deeds pm_check_deeds cd_check_deeds ct_check_deeds:Value}
  {f_shown_:Addr} {od_shown an_shown:Option Addr} {sl_shown:Array (Option Value)} {oc_shown kV_shown dc_shown pm_shown cd_shown ct_shown:Value}
  {f_stretches_:Addr} {od_stretches an_stretches:Option Addr} {sl_stretches:Array (Option Value)} {oc_stretches kV_stretches dc_stretches pm_stretches cd_stretches ct_stretches:Value}
  {f_is_ahead_of_:Addr} {od_is_ahead_of an_is_ahead_of:Option Addr} {sl_is_ahead_of:Array (Option Value)} {oc_is_ahead_of kV_is_ahead_of dc_is_ahead_of pm_is_ahead_of cd_is_ahead_of ct_is_ahead_of:Value}
  {f_first_showing_:Addr} {od_first_showing an_first_showing:Option Addr} {sl_first_showing:Array (Option Value)} {oc_first_showing kV_first_showing dc_first_showing pm_first_showing cd_first_showing ct_first_showing:Value}
  {f_furthest_shown_:Addr} {od_furthest_shown an_furthest_shown:Option Addr} {sl_furthest_shown:Array (Option Value)} {oc_furthest_shown kV_furthest_shown dc_furthest_shown pm_furthest_shown cd_furthest_shown ct_furthest_shown:Value}
  {f_first_day_:Addr} {od_first_day an_first_day:Option Addr} {sl_first_day:Array (Option Value)} {oc_first_day kV_first_day dc_first_day pm_first_day cd_first_day ct_first_day:Value}
  {f_daily_time_:Addr} {od_daily_time an_daily_time:Option Addr} {sl_daily_time:Array (Option Value)} {oc_daily_time kV_daily_time dc_daily_time pm_daily_time cd_daily_time ct_daily_time:Value}
  {f_time_of_:Addr} {od_time_of an_time_of:Option Addr} {sl_time_of:Array (Option Value)} {oc_time_of kV_time_of dc_time_of pm_time_of cd_time_of ct_time_of:Value}
  {f_times_by_:Addr} {od_times_by an_times_by:Option Addr} {sl_times_by:Array (Option Value)} {oc_times_by kV_times_by dc_times_by pm_times_by cd_times_by ct_times_by:Value}
  {f_dues_:Addr} {od_dues an_dues:Option Addr} {sl_dues:Array (Option Value)} {oc_dues kV_dues dc_dues pm_dues cd_dues ct_dues:Value}
  {f_rows_between_:Addr} {od_rows_between an_rows_between:Option Addr} {sl_rows_between:Array (Option Value)} {oc_rows_between kV_rows_between dc_rows_between pm_rows_between cd_rows_between ct_rows_between:Value}
  {f_check_calendar_:Addr} {od_check_calendar an_check_calendar:Option Addr} {sl_check_calendar:Array (Option Value)} {oc_check_calendar kV_check_calendar dc_check_calendar pm_check_calendar cd_check_calendar ct_check_calendar:Value}
  {f_idle_stretch_:Addr} {od_idle_stretch an_idle_stretch:Option Addr} {sl_idle_stretch:Array (Option Value)} {oc_idle_stretch kV_idle_stretch dc_idle_stretch pm_idle_stretch cd_idle_stretch ct_idle_stretch:Value}
  {f_next_due_:Addr} {od_next_due an_next_due:Option Addr} {sl_next_due:Array (Option Value)} {oc_next_due kV_next_due dc_next_due pm_next_due cd_next_due ct_next_due:Value}
  {f__law_cell_at_:Addr} {od__law_cell_at an__law_cell_at:Option Addr} {sl__law_cell_at:Array (Option Value)} {oc__law_cell_at kV__law_cell_at dc__law_cell_at pm__law_cell_at cd__law_cell_at ct__law_cell_at:Value}
  {f__law_mixed_:Addr} {od__law_mixed an__law_mixed:Option Addr} {sl__law_mixed:Array (Option Value)} {oc__law_mixed kV__law_mixed dc__law_mixed pm__law_mixed cd__law_mixed ct__law_mixed:Value}
  {f__law_draw_:Addr} {od__law_draw an__law_draw:Option Addr} {sl__law_draw:Array (Option Value)} {oc__law_draw kV__law_draw dc__law_draw pm__law_draw cd__law_draw ct__law_draw:Value}
  {f__law_pick_:Addr} {od__law_pick an__law_pick:Option Addr} {sl__law_pick:Array (Option Value)} {oc__law_pick kV__law_pick dc__law_pick pm__law_pick cd__law_pick ct__law_pick:Value}
  {f__law_zone_:Addr} {od__law_zone an__law_zone:Option Addr} {sl__law_zone:Array (Option Value)} {oc__law_zone kV__law_zone dc__law_zone pm__law_zone cd__law_zone ct__law_zone:Value}
  {f__law_shown_:Addr} {od__law_shown an__law_shown:Option Addr} {sl__law_shown:Array (Option Value)} {oc__law_shown kV__law_shown dc__law_shown pm__law_shown cd__law_shown ct__law_shown:Value}
  {f__law_plan_:Addr} {od__law_plan an__law_plan:Option Addr} {sl__law_plan:Array (Option Value)} {oc__law_plan kV__law_plan dc__law_plan pm__law_plan cd__law_plan ct__law_plan:Value}
  {f__law_times_:Addr} {od__law_times an__law_times:Option Addr} {sl__law_times:Array (Option Value)} {oc__law_times kV__law_times dc__law_times pm__law_times cd__law_times ct__law_times:Value}
  {f__law_deeds_:Addr} {od__law_deeds an__law_deeds:Option Addr} {sl__law_deeds:Array (Option Value)} {oc__law_deeds kV__law_deeds dc__law_deeds pm__law_deeds cd__law_deeds ct__law_deeds:Value}
  {f_law_:Addr} {od_law an_law:Option Addr} {sl_law:Array (Option Value)} {oc_law kV_law dc_law pm_law cd_law ct_law:Value}
  {t_LAST_MOMENT:Tok}
  {t_LAST_HOUR:Tok}
  {t_LEAST_AHEAD:Tok}
  {t_MOST_AHEAD:Tok}
  {t_MOST_SHIFTS:Tok}
  {t_MOST_STEP:Tok}
  {t_MOST_DEEDS:Tok}
  {t_MOST_WITHIN:Tok}
  {t_DAY_HOURS:Tok}
  {D_:Addr}
  (a_is_whole:PySem.W.nsIn K mainGlobals "is_whole" = some (some (.ref f_is_whole_)))
  (l_is_whole:K.lookup f_is_whole_=some ⟨oc_is_whole,od_is_whole,.func (PySem.W.fnOf "is_whole" "is_whole" (aA c6) (az c6) (ae c6) .none kV_is_whole dc_is_whole pm_is_whole an_is_whole cd_is_whole ct_is_whole),sl_is_whole⟩)
  (c_is_whole:PySem.W.codeIn K cd_is_whole "is_whole" = true)
  (k_is_whole:PySem.W.keepIn K (.ref f_is_whole_)=true)
  (a_is_tuple_of:PySem.W.nsIn K mainGlobals "is_tuple_of" = some (some (.ref f_is_tuple_of_)))
  (l_is_tuple_of:K.lookup f_is_tuple_of_=some ⟨oc_is_tuple_of,od_is_tuple_of,.func (PySem.W.fnOf "is_tuple_of" "is_tuple_of" (aA bW) (az bW) (ae bW) .none kV_is_tuple_of dc_is_tuple_of pm_is_tuple_of an_is_tuple_of cd_is_tuple_of ct_is_tuple_of),sl_is_tuple_of⟩)
  (c_is_tuple_of:PySem.W.codeIn K cd_is_tuple_of "is_tuple_of" = true)
  (k_is_tuple_of:PySem.W.keepIn K (.ref f_is_tuple_of_)=true)
  (a_is_ahead:PySem.W.nsIn K mainGlobals "is_ahead" = some (some (.ref f_is_ahead_)))
  (l_is_ahead:K.lookup f_is_ahead_=some ⟨oc_is_ahead,od_is_ahead,.func (PySem.W.fnOf "is_ahead" "is_ahead" (aA c7) (az c7) (ae c7) .none kV_is_ahead dc_is_ahead pm_is_ahead an_is_ahead cd_is_ahead ct_is_ahead),sl_is_ahead⟩)
  (c_is_ahead:PySem.W.codeIn K cd_is_ahead "is_ahead" = true)
  (k_is_ahead:PySem.W.keepIn K (.ref f_is_ahead_)=true)
  (a_is_moment:PySem.W.nsIn K mainGlobals "is_moment" = some (some (.ref f_is_moment_)))
  (l_is_moment:K.lookup f_is_moment_=some ⟨oc_is_moment,od_is_moment,.func (PySem.W.fnOf "is_moment" "is_moment" (aA cG) (az cG) (ae cG) .none kV_is_moment dc_is_moment pm_is_moment an_is_moment cd_is_moment ct_is_moment),sl_is_moment⟩)
  (c_is_moment:PySem.W.codeIn K cd_is_moment "is_moment" = true)
  (k_is_moment:PySem.W.keepIn K (.ref f_is_moment_)=true)
  (a_are_shifts:PySem.W.nsIn K mainGlobals "are_shifts" = some (some (.ref f_are_shifts_)))
  (l_are_shifts:K.lookup f_are_shifts_=some ⟨oc_are_shifts,od_are_shifts,.func (PySem.W.fnOf "are_shifts" "are_shifts" (aA cg) (az cg) (ae cg) .none kV_are_shifts dc_are_shifts pm_are_shifts an_are_shifts cd_are_shifts ct_are_shifts),sl_are_shifts⟩)
  (c_are_shifts:PySem.W.codeIn K cd_are_shifts "are_shifts" = true)
  (k_are_shifts:PySem.W.keepIn K (.ref f_are_shifts_)=true)
  (a_is_zone:PySem.W.nsIn K mainGlobals "is_zone" = some (some (.ref f_is_zone_)))
  (l_is_zone:K.lookup f_is_zone_=some ⟨oc_is_zone,od_is_zone,.func (PySem.W.fnOf "is_zone" "is_zone" (aA dJ) (az dJ) (ae dJ) .none kV_is_zone dc_is_zone pm_is_zone an_is_zone cd_is_zone ct_is_zone),sl_is_zone⟩)
  (c_is_zone:PySem.W.codeIn K cd_is_zone "is_zone" = true)
  (k_is_zone:PySem.W.keepIn K (.ref f_is_zone_)=true)
  (a_has_word:PySem.W.nsIn K mainGlobals "has_word" = some (some (.ref f_has_word_)))
  (l_has_word:K.lookup f_has_word_=some ⟨oc_has_word,od_has_word,.func (PySem.W.fnOf "has_word" "has_word" (aA c8) (az c8) (ae c8) .none kV_has_word dc_has_word pm_has_word an_has_word cd_has_word ct_has_word),sl_has_word⟩)
  (c_has_word:PySem.W.codeIn K cd_has_word "has_word" = true)
  (k_has_word:PySem.W.keepIn K (.ref f_has_word_)=true)
  (a_is_plan:PySem.W.nsIn K mainGlobals "is_plan" = some (some (.ref f_is_plan_)))
  (l_is_plan:K.lookup f_is_plan_=some ⟨oc_is_plan,od_is_plan,.func (PySem.W.fnOf "is_plan" "is_plan" (aA dL) (az dL) (ae dL) .none kV_is_plan dc_is_plan pm_is_plan an_is_plan cd_is_plan ct_is_plan),sl_is_plan⟩)
  (c_is_plan:PySem.W.codeIn K cd_is_plan "is_plan" = true)
  (k_is_plan:PySem.W.keepIn K (.ref f_is_plan_)=true)
  (a_is_late:PySem.W.nsIn K mainGlobals "is_late" = some (some (.ref f_is_late_)))
  (l_is_late:K.lookup f_is_late_=some ⟨oc_is_late,od_is_late,.func (PySem.W.fnOf "is_late" "is_late" (aA dM) (az dM) (ae dM) .none kV_is_late dc_is_late pm_is_late an_is_late cd_is_late ct_is_late),sl_is_late⟩)
  (c_is_late:PySem.W.codeIn K cd_is_late "is_late" = true)
  (k_is_late:PySem.W.keepIn K (.ref f_is_late_)=true)
  (a_is_deed:PySem.W.nsIn K mainGlobals "is_deed" = some (some (.ref f_is_deed_)))
  (l_is_deed:K.lookup f_is_deed_=some ⟨oc_is_deed,od_is_deed,.func (PySem.W.fnOf "is_deed" "is_deed" (aA dN) (az dN) (ae dN) .none kV_is_deed dc_is_deed pm_is_deed an_is_deed cd_is_deed ct_is_deed),sl_is_deed⟩)
  (c_is_deed:PySem.W.codeIn K cd_is_deed "is_deed" = true)
  (k_is_deed:PySem.W.keepIn K (.ref f_is_deed_)=true)
  (a_are_deeds:PySem.W.nsIn K mainGlobals "are_deeds" = some (some (.ref f_are_deeds_)))
  (l_are_deeds:K.lookup f_are_deeds_=some ⟨oc_are_deeds,od_are_deeds,.func (PySem.W.fnOf "are_deeds" "are_deeds" (aA cH) (az cH) (ae cH) .none kV_are_deeds dc_are_deeds pm_are_deeds an_are_deeds cd_are_deeds ct_are_deeds),sl_are_deeds⟩)
  (c_are_deeds:PySem.W.codeIn K cd_are_deeds "are_deeds" = true)
  (k_are_deeds:PySem.W.keepIn K (.ref f_are_deeds_)=true)
  (a_check_zone:PySem.W.nsIn K mainGlobals "check_zone" = some (some (.ref f_check_zone_)))
  (l_check_zone:K.lookup f_check_zone_=some ⟨oc_check_zone,od_check_zone,.func (PySem.W.fnOf "check_zone" "check_zone" (aA ci) (az ci) (ae ci) .none kV_check_zone dc_check_zone pm_check_zone an_check_zone cd_check_zone ct_check_zone),sl_check_zone⟩)
  (c_check_zone:PySem.W.codeIn K cd_check_zone "check_zone" = true)
  (k_check_zone:PySem.W.keepIn K (.ref f_check_zone_)=true)
  (a_check_plan:PySem.W.nsIn K mainGlobals "check_plan" = some (some (.ref f_check_plan_)))
  (l_check_plan:K.lookup f_check_plan_=some ⟨oc_check_plan,od_check_plan,.func (PySem.W.fnOf "check_plan" "check_plan" (aA cj) (az cj) (ae cj) .none kV_check_plan dc_check_plan pm_check_plan an_check_plan cd_check_plan ct_check_plan),sl_check_plan⟩)
  (c_check_plan:PySem.W.codeIn K cd_check_plan "check_plan" = true)
  (k_check_plan:PySem.W.keepIn K (.ref f_check_plan_)=true)
  (a_check_moment:PySem.W.nsIn K mainGlobals "check_moment" = some (some (.ref f_check_moment_)))
  (l_check_moment:K.lookup f_check_moment_=some ⟨oc_check_moment,od_check_moment,.func (PySem.W.fnOf "check_moment" "check_moment" (aA bK) (az bK) (ae bK) .none kV_check_moment dc_check_moment pm_check_moment an_check_moment cd_check_moment ct_check_moment),sl_check_moment⟩)
  (c_check_moment:PySem.W.codeIn K cd_check_moment "check_moment" = true)
  (k_check_moment:PySem.W.keepIn K (.ref f_check_moment_)=true)
  (a_check_stretch:PySem.W.nsIn K mainGlobals "check_stretch" = some (some (.ref f_check_stretch_)))
  (l_check_stretch:K.lookup f_check_stretch_=some ⟨oc_check_stretch,od_check_stretch,.func (PySem.W.fnOf "check_stretch" "check_stretch" (aA bC) (az bC) (ae bC) .none kV_check_stretch dc_check_stretch pm_check_stretch an_check_stretch cd_check_stretch ct_check_stretch),sl_check_stretch⟩)
  (c_check_stretch:PySem.W.codeIn K cd_check_stretch "check_stretch" = true)
  (k_check_stretch:PySem.W.keepIn K (.ref f_check_stretch_)=true)
  (a_check_deeds:PySem.W.nsIn K mainGlobals "check_deeds" = some (some (.ref f_check_deeds_)))
  (l_check_deeds:K.lookup f_check_deeds_=some ⟨oc_check_deeds,od_check_deeds,.func (PySem.W.fnOf "check_deeds" "check_deeds" (aA bX) (az bX) (ae bX) .none kV_check_deeds dc_check_deeds pm_check_deeds an_check_deeds cd_check_deeds ct_check_deeds),sl_check_deeds⟩)
  (c_check_deeds:PySem.W.codeIn K cd_check_deeds "check_deeds" = true)
  (k_check_deeds:PySem.W.keepIn K (.ref f_check_deeds_)=true)
  (a_shown:PySem.W.nsIn K mainGlobals "shown" = some (some (.ref f_shown_)))
  (l_shown:K.lookup f_shown_=some ⟨oc_shown,od_shown,.func (PySem.W.fnOf "shown" "shown" (aA fU) (az fU) (ae fU) .none kV_shown dc_shown pm_shown an_shown cd_shown ct_shown),sl_shown⟩)
  (c_shown:PySem.W.codeIn K cd_shown "shown" = true)
  (k_shown:PySem.W.keepIn K (.ref f_shown_)=true)
  (a_stretches:PySem.W.nsIn K mainGlobals "stretches" = some (some (.ref f_stretches_)))
  (l_stretches:K.lookup f_stretches_=some ⟨oc_stretches,od_stretches,.func (PySem.W.fnOf "stretches" "stretches" (aA cI) (az cI) (ae cI) .none kV_stretches dc_stretches pm_stretches an_stretches cd_stretches ct_stretches),sl_stretches⟩)
  (c_stretches:PySem.W.codeIn K cd_stretches "stretches" = true)
  (k_stretches:PySem.W.keepIn K (.ref f_stretches_)=true)
  (a_is_ahead_of:PySem.W.nsIn K mainGlobals "is_ahead_of" = some (some (.ref f_is_ahead_of_)))
  (l_is_ahead_of:K.lookup f_is_ahead_of_=some ⟨oc_is_ahead_of,od_is_ahead_of,.func (PySem.W.fnOf "is_ahead_of" "is_ahead_of" (aA bY) (az bY) (ae bY) .none kV_is_ahead_of dc_is_ahead_of pm_is_ahead_of an_is_ahead_of cd_is_ahead_of ct_is_ahead_of),sl_is_ahead_of⟩)
  (c_is_ahead_of:PySem.W.codeIn K cd_is_ahead_of "is_ahead_of" = true)
  (k_is_ahead_of:PySem.W.keepIn K (.ref f_is_ahead_of_)=true)
  (a_first_showing:PySem.W.nsIn K mainGlobals "first_showing" = some (some (.ref f_first_showing_)))
  (l_first_showing:K.lookup f_first_showing_=some ⟨oc_first_showing,od_first_showing,.func (PySem.W.fnOf "first_showing" "first_showing" (aA bD) (az bD) (ae bD) .none kV_first_showing dc_first_showing pm_first_showing an_first_showing cd_first_showing ct_first_showing),sl_first_showing⟩)
  (c_first_showing:PySem.W.codeIn K cd_first_showing "first_showing" = true)
  (k_first_showing:PySem.W.keepIn K (.ref f_first_showing_)=true)
  (a_furthest_shown:PySem.W.nsIn K mainGlobals "furthest_shown" = some (some (.ref f_furthest_shown_)))
  (l_furthest_shown:K.lookup f_furthest_shown_=some ⟨oc_furthest_shown,od_furthest_shown,.func (PySem.W.fnOf "furthest_shown" "furthest_shown" (aA bu) (az bu) (ae bu) .none kV_furthest_shown dc_furthest_shown pm_furthest_shown an_furthest_shown cd_furthest_shown ct_furthest_shown),sl_furthest_shown⟩)
  (c_furthest_shown:PySem.W.codeIn K cd_furthest_shown "furthest_shown" = true)
  (k_furthest_shown:PySem.W.keepIn K (.ref f_furthest_shown_)=true)
  (a_first_day:PySem.W.nsIn K mainGlobals "first_day" = some (some (.ref f_first_day_)))
  (l_first_day:K.lookup f_first_day_=some ⟨oc_first_day,od_first_day,.func (PySem.W.fnOf "first_day" "first_day" (aA cJ) (az cJ) (ae cJ) .none kV_first_day dc_first_day pm_first_day an_first_day cd_first_day ct_first_day),sl_first_day⟩)
  (c_first_day:PySem.W.codeIn K cd_first_day "first_day" = true)
  (k_first_day:PySem.W.keepIn K (.ref f_first_day_)=true)
  (a_daily_time:PySem.W.nsIn K mainGlobals "daily_time" = some (some (.ref f_daily_time_)))
  (l_daily_time:K.lookup f_daily_time_=some ⟨oc_daily_time,od_daily_time,.func (PySem.W.fnOf "daily_time" "daily_time" (aA cn) (az cn) (ae cn) .none kV_daily_time dc_daily_time pm_daily_time an_daily_time cd_daily_time ct_daily_time),sl_daily_time⟩)
  (c_daily_time:PySem.W.codeIn K cd_daily_time "daily_time" = true)
  (k_daily_time:PySem.W.keepIn K (.ref f_daily_time_)=true)
  (a_time_of:PySem.W.nsIn K mainGlobals "time_of" = some (some (.ref f_time_of_)))
  (l_time_of:K.lookup f_time_of_=some ⟨oc_time_of,od_time_of,.func (PySem.W.fnOf "time_of" "time_of" (aA dO) (az dO) (ae dO) .none kV_time_of dc_time_of pm_time_of an_time_of cd_time_of ct_time_of),sl_time_of⟩)
  (c_time_of:PySem.W.codeIn K cd_time_of "time_of" = true)
  (k_time_of:PySem.W.keepIn K (.ref f_time_of_)=true)
  (a_times_by:PySem.W.nsIn K mainGlobals "times_by" = some (some (.ref f_times_by_)))
  (l_times_by:K.lookup f_times_by_=some ⟨oc_times_by,od_times_by,.func (PySem.W.fnOf "times_by" "times_by" (aA c9) (az c9) (ae c9) .none kV_times_by dc_times_by pm_times_by an_times_by cd_times_by ct_times_by),sl_times_by⟩)
  (c_times_by:PySem.W.codeIn K cd_times_by "times_by" = true)
  (k_times_by:PySem.W.keepIn K (.ref f_times_by_)=true)
  (a_dues:PySem.W.nsIn K mainGlobals "dues" = some (some (.ref f_dues_)))
  (l_dues:K.lookup f_dues_=some ⟨oc_dues,od_dues,.func (PySem.W.fnOf "dues" "dues" (aA gU) (az gU) (ae gU) .none kV_dues dc_dues pm_dues an_dues cd_dues ct_dues),sl_dues⟩)
  (c_dues:PySem.W.codeIn K cd_dues "dues" = true)
  (k_dues:PySem.W.keepIn K (.ref f_dues_)=true)
  (a_rows_between:PySem.W.nsIn K mainGlobals "rows_between" = some (some (.ref f_rows_between_)))
  (l_rows_between:K.lookup f_rows_between_=some ⟨oc_rows_between,od_rows_between,.func (PySem.W.fnOf "rows_between" "rows_between" (aA bL) (az bL) (ae bL) .none kV_rows_between dc_rows_between pm_rows_between an_rows_between cd_rows_between ct_rows_between),sl_rows_between⟩)
  (c_rows_between:PySem.W.codeIn K cd_rows_between "rows_between" = true)
  (k_rows_between:PySem.W.keepIn K (.ref f_rows_between_)=true)
  (a_check_calendar:PySem.W.nsIn K mainGlobals "check_calendar" = some (some (.ref f_check_calendar_)))
  (l_check_calendar:K.lookup f_check_calendar_=some ⟨oc_check_calendar,od_check_calendar,.func (PySem.W.fnOf "check_calendar" "check_calendar" (aA bv) (az bv) (ae bv) .none kV_check_calendar dc_check_calendar pm_check_calendar an_check_calendar cd_check_calendar ct_check_calendar),sl_check_calendar⟩)
  (c_check_calendar:PySem.W.codeIn K cd_check_calendar "check_calendar" = true)
  (k_check_calendar:PySem.W.keepIn K (.ref f_check_calendar_)=true)
  (a_idle_stretch:PySem.W.nsIn K mainGlobals "idle_stretch" = some (some (.ref f_idle_stretch_)))
  (l_idle_stretch:K.lookup f_idle_stretch_=some ⟨oc_idle_stretch,od_idle_stretch,.func (PySem.W.fnOf "idle_stretch" "idle_stretch" (aA bM) (az bM) (ae bM) .none kV_idle_stretch dc_idle_stretch pm_idle_stretch an_idle_stretch cd_idle_stretch ct_idle_stretch),sl_idle_stretch⟩)
  (c_idle_stretch:PySem.W.codeIn K cd_idle_stretch "idle_stretch" = true)
  (k_idle_stretch:PySem.W.keepIn K (.ref f_idle_stretch_)=true)
  (a_next_due:PySem.W.nsIn K mainGlobals "next_due" = some (some (.ref f_next_due_)))
  (l_next_due:K.lookup f_next_due_=some ⟨oc_next_due,od_next_due,.func (PySem.W.fnOf "next_due" "next_due" (aA da) (az da) (ae da) .none kV_next_due dc_next_due pm_next_due an_next_due cd_next_due ct_next_due),sl_next_due⟩)
  (c_next_due:PySem.W.codeIn K cd_next_due "next_due" = true)
  (k_next_due:PySem.W.keepIn K (.ref f_next_due_)=true)
  (a__law_cell_at:PySem.W.nsIn K mainGlobals "_law_cell_at" = some (some (.ref f__law_cell_at_)))
  (l__law_cell_at:K.lookup f__law_cell_at_=some ⟨oc__law_cell_at,od__law_cell_at,.func (PySem.W.fnOf "_law_cell_at" "_law_cell_at" (aA bN) (az bN) (ae bN) .none kV__law_cell_at dc__law_cell_at pm__law_cell_at an__law_cell_at cd__law_cell_at ct__law_cell_at),sl__law_cell_at⟩)
  (c__law_cell_at:PySem.W.codeIn K cd__law_cell_at "_law_cell_at" = true)
  (k__law_cell_at:PySem.W.keepIn K (.ref f__law_cell_at_)=true)
  (a__law_mixed:PySem.W.nsIn K mainGlobals "_law_mixed" = some (some (.ref f__law_mixed_)))
  (l__law_mixed:K.lookup f__law_mixed_=some ⟨oc__law_mixed,od__law_mixed,.func (PySem.W.fnOf "_law_mixed" "_law_mixed" (aA cp) (az cp) (ae cp) .none kV__law_mixed dc__law_mixed pm__law_mixed an__law_mixed cd__law_mixed ct__law_mixed),sl__law_mixed⟩)
  (c__law_mixed:PySem.W.codeIn K cd__law_mixed "_law_mixed" = true)
  (k__law_mixed:PySem.W.keepIn K (.ref f__law_mixed_)=true)
  (a__law_draw:PySem.W.nsIn K mainGlobals "_law_draw" = some (some (.ref f__law_draw_)))
  (l__law_draw:K.lookup f__law_draw_=some ⟨oc__law_draw,od__law_draw,.func (PySem.W.fnOf "_law_draw" "_law_draw" (aA cK) (az cK) (ae cK) .none kV__law_draw dc__law_draw pm__law_draw an__law_draw cd__law_draw ct__law_draw),sl__law_draw⟩)
  (c__law_draw:PySem.W.codeIn K cd__law_draw "_law_draw" = true)
  (k__law_draw:PySem.W.keepIn K (.ref f__law_draw_)=true)
  (a__law_pick:PySem.W.nsIn K mainGlobals "_law_pick" = some (some (.ref f__law_pick_)))
  (l__law_pick:K.lookup f__law_pick_=some ⟨oc__law_pick,od__law_pick,.func (PySem.W.fnOf "_law_pick" "_law_pick" (aA cL) (az cL) (ae cL) .none kV__law_pick dc__law_pick pm__law_pick an__law_pick cd__law_pick ct__law_pick),sl__law_pick⟩)
  (c__law_pick:PySem.W.codeIn K cd__law_pick "_law_pick" = true)
  (k__law_pick:PySem.W.keepIn K (.ref f__law_pick_)=true)
  (a__law_zone:PySem.W.nsIn K mainGlobals "_law_zone" = some (some (.ref f__law_zone_)))
  (l__law_zone:K.lookup f__law_zone_=some ⟨oc__law_zone,od__law_zone,.func (PySem.W.fnOf "_law_zone" "_law_zone" (aA cM) (az cM) (ae cM) .none kV__law_zone dc__law_zone pm__law_zone an__law_zone cd__law_zone ct__law_zone),sl__law_zone⟩)
  (c__law_zone:PySem.W.codeIn K cd__law_zone "_law_zone" = true)
  (k__law_zone:PySem.W.keepIn K (.ref f__law_zone_)=true)
  (a__law_shown:PySem.W.nsIn K mainGlobals "_law_shown" = some (some (.ref f__law_shown_)))
  (l__law_shown:K.lookup f__law_shown_=some ⟨oc__law_shown,od__law_shown,.func (PySem.W.fnOf "_law_shown" "_law_shown" (aA cq) (az cq) (ae cq) .none kV__law_shown dc__law_shown pm__law_shown an__law_shown cd__law_shown ct__law_shown),sl__law_shown⟩)
  (c__law_shown:PySem.W.codeIn K cd__law_shown "_law_shown" = true)
  (k__law_shown:PySem.W.keepIn K (.ref f__law_shown_)=true)
  (a__law_plan:PySem.W.nsIn K mainGlobals "_law_plan" = some (some (.ref f__law_plan_)))
  (l__law_plan:K.lookup f__law_plan_=some ⟨oc__law_plan,od__law_plan,.func (PySem.W.fnOf "_law_plan" "_law_plan" (aA cN) (az cN) (ae cN) .none kV__law_plan dc__law_plan pm__law_plan an__law_plan cd__law_plan ct__law_plan),sl__law_plan⟩)
  (c__law_plan:PySem.W.codeIn K cd__law_plan "_law_plan" = true)
  (k__law_plan:PySem.W.keepIn K (.ref f__law_plan_)=true)
  (a__law_times:PySem.W.nsIn K mainGlobals "_law_times" = some (some (.ref f__law_times_)))
  (l__law_times:K.lookup f__law_times_=some ⟨oc__law_times,od__law_times,.func (PySem.W.fnOf "_law_times" "_law_times" (aA cr) (az cr) (ae cr) .none kV__law_times dc__law_times pm__law_times an__law_times cd__law_times ct__law_times),sl__law_times⟩)
  (c__law_times:PySem.W.codeIn K cd__law_times "_law_times" = true)
  (k__law_times:PySem.W.keepIn K (.ref f__law_times_)=true)
  (a__law_deeds:PySem.W.nsIn K mainGlobals "_law_deeds" = some (some (.ref f__law_deeds_)))
  (l__law_deeds:K.lookup f__law_deeds_=some ⟨oc__law_deeds,od__law_deeds,.func (PySem.W.fnOf "_law_deeds" "_law_deeds" (aA cu) (az cu) (ae cu) .none kV__law_deeds dc__law_deeds pm__law_deeds an__law_deeds cd__law_deeds ct__law_deeds),sl__law_deeds⟩)
  (c__law_deeds:PySem.W.codeIn K cd__law_deeds "_law_deeds" = true)
  (k__law_deeds:PySem.W.keepIn K (.ref f__law_deeds_)=true)
  (a_law:PySem.W.nsIn K mainGlobals "law" = some (some (.ref f_law_)))
  (l_law:K.lookup f_law_=some ⟨oc_law,od_law,.func (PySem.W.fnOf "law" "law" (aA s_law) (az s_law) (ae s_law) .none kV_law dc_law pm_law an_law cd_law ct_law),sl_law⟩)
  (c_law:PySem.W.codeIn K cd_law "law" = true)
  (k_law:PySem.W.keepIn K (.ref f_law_)=true)
  (v_LAST_MOMENT:PySem.W.nsIn K mainGlobals "LAST_MOMENT" = some (some (.int (9999) t_LAST_MOMENT)))
  (v_LAST_HOUR:PySem.W.nsIn K mainGlobals "LAST_HOUR" = some (some (.int (23) t_LAST_HOUR)))
  (v_LEAST_AHEAD:PySem.W.nsIn K mainGlobals "LEAST_AHEAD" = some (some (.int (-12) t_LEAST_AHEAD)))
  (v_MOST_AHEAD:PySem.W.nsIn K mainGlobals "MOST_AHEAD" = some (some (.int (14) t_MOST_AHEAD)))
  (v_MOST_SHIFTS:PySem.W.nsIn K mainGlobals "MOST_SHIFTS" = some (some (.int (6) t_MOST_SHIFTS)))
  (v_MOST_STEP:PySem.W.nsIn K mainGlobals "MOST_STEP" = some (some (.int (999) t_MOST_STEP)))
  (v_MOST_DEEDS:PySem.W.nsIn K mainGlobals "MOST_DEEDS" = some (some (.int (6) t_MOST_DEEDS)))
  (v_MOST_WITHIN:PySem.W.nsIn K mainGlobals "MOST_WITHIN" = some (some (.int (999) t_MOST_WITHIN)))
  (v_DAY_HOURS:PySem.W.nsIn K mainGlobals "DAY_HOURS" = some (some (.int (24) t_DAY_HOURS)))
  (z_all:PySem.W.nsIn K mainGlobals "all" = some none)
  (z_bool:PySem.W.nsIn K mainGlobals "bool" = some none)
  (z_enumerate:PySem.W.nsIn K mainGlobals "enumerate" = some none)
  (z_int:PySem.W.nsIn K mainGlobals "int" = some none)
  (z_isinstance:PySem.W.nsIn K mainGlobals "isinstance" = some none)
  (z_len:PySem.W.nsIn K mainGlobals "len" = some none)
  (z_list:PySem.W.nsIn K mainGlobals "list" = some none)
  (z_max:PySem.W.nsIn K mainGlobals "max" = some none)
  (z_min:PySem.W.nsIn K mainGlobals "min" = some none)
  (z_range:PySem.W.nsIn K mainGlobals "range" = some none)
  (z_sorted:PySem.W.nsIn K mainGlobals "sorted" = some none)
  (z_str:PySem.W.nsIn K mainGlobals "str" = some none)
  (z_tuple:PySem.W.nsIn K mainGlobals "tuple" = some none)
  (z_zip:PySem.W.nsIn K mainGlobals "zip" = some none)
  (a_Due:PySem.W.nsIn K mainGlobals "DueError" = some (some (.ref D_)))
  (x_Due:PySem.W.excIn K D_ bmV "ValueError.__new__" = true)
  (x_tab:uq K D_ exL=true) :
  ∃ fd:FuncData,(∀ (s:Shared) (v:Value),BindsTo s fd ⟨[v],[]⟩ [("_law_script",v)])/\∀ base:Heap,K.In base->base.Ns mainGlobals mg->FnOk l.prog w K mg base (CXM l.prog w) 9 fa fd ["_law_script"] (spL K):=by
 have e:=hfa.symm.trans (PySem.W.mg_of X G a_law)
 cases e
 have F_is_whole:=aL (st:=c6) l_is_whole c_is_whole k_is_whole
 have D_is_whole:FD K mg "is_whole" c6 ["thing","least","most"] _ _:=⟨F_is_whole,PySem.W.mg_of X G a_is_whole,F_is_whole.binds fun _ _ _ _ _ _ us hl=>match us,hl with | [_,_,_],_=>rfl⟩
 have F_is_tuple_of:=aL (st:=bW) l_is_tuple_of c_is_tuple_of k_is_tuple_of
 have D_is_tuple_of:FD K mg "is_tuple_of" bW ["thing","length"] _ _:=⟨F_is_tuple_of,PySem.W.mg_of X G a_is_tuple_of,F_is_tuple_of.binds fun _ _ _ _ _ _ us hl=>match us,hl with | [_,_],_=>rfl⟩
 have F_is_ahead:=aL (st:=c7) l_is_ahead c_is_ahead k_is_ahead
 have D_is_ahead:FD K mg "is_ahead" c7 ["thing"] _ _:=⟨F_is_ahead,PySem.W.mg_of X G a_is_ahead,F_is_ahead.binds fun _ _ _ _ _ _ us hl=>match us,hl with | [_],_=>rfl⟩
 have F_is_moment:=aL (st:=cG) l_is_moment c_is_moment k_is_moment
 have D_is_moment:FD K mg "is_moment" cG ["thing"] _ _:=⟨F_is_moment,PySem.W.mg_of X G a_is_moment,F_is_moment.binds fun _ _ _ _ _ _ us hl=>match us,hl with | [_],_=>rfl⟩
 have F_are_shifts:=aL (st:=cg) l_are_shifts c_are_shifts k_are_shifts
 have D_are_shifts:FD K mg "are_shifts" cg ["thing"] _ _:=⟨F_are_shifts,PySem.W.mg_of X G a_are_shifts,F_are_shifts.binds fun _ _ _ _ _ _ us hl=>match us,hl with | [_],_=>rfl⟩
 have F_is_zone:=aL (st:=dJ) l_is_zone c_is_zone k_is_zone
 have D_is_zone:FD K mg "is_zone" dJ ["thing"] _ _:=⟨F_is_zone,PySem.W.mg_of X G a_is_zone,F_is_zone.binds fun _ _ _ _ _ _ us hl=>match us,hl with | [_],_=>rfl⟩
 have F_has_word:=aL (st:=c8) l_has_word c_has_word k_has_word
 have D_has_word:FD K mg "has_word" c8 ["thing","word","length"] _ _:=⟨F_has_word,PySem.W.mg_of X G a_has_word,F_has_word.binds fun _ _ _ _ _ _ us hl=>match us,hl with | [_,_,_],_=>rfl⟩
 have F_is_plan:=aL (st:=dL) l_is_plan c_is_plan k_is_plan
 have D_is_plan:FD K mg "is_plan" dL ["thing"] _ _:=⟨F_is_plan,PySem.W.mg_of X G a_is_plan,F_is_plan.binds fun _ _ _ _ _ _ us hl=>match us,hl with | [_],_=>rfl⟩
 have F_is_late:=aL (st:=dM) l_is_late c_is_late k_is_late
 have D_is_late:FD K mg "is_late" dM ["thing"] _ _:=⟨F_is_late,PySem.W.mg_of X G a_is_late,F_is_late.binds fun _ _ _ _ _ _ us hl=>match us,hl with | [_],_=>rfl⟩
 have F_is_deed:=aL (st:=dN) l_is_deed c_is_deed k_is_deed
 have D_is_deed:FD K mg "is_deed" dN ["thing"] _ _:=⟨F_is_deed,PySem.W.mg_of X G a_is_deed,F_is_deed.binds fun _ _ _ _ _ _ us hl=>match us,hl with | [_],_=>rfl⟩
 have F_are_deeds:=aL (st:=cH) l_are_deeds c_are_deeds k_are_deeds
 have D_are_deeds:FD K mg "are_deeds" cH ["thing"] _ _:=⟨F_are_deeds,PySem.W.mg_of X G a_are_deeds,F_are_deeds.binds fun _ _ _ _ _ _ us hl=>match us,hl with | [_],_=>rfl⟩
 have F_check_zone:=aL (st:=ci) l_check_zone c_check_zone k_check_zone
 have D_check_zone:FD K mg "check_zone" ci ["thing"] _ _:=⟨F_check_zone,PySem.W.mg_of X G a_check_zone,F_check_zone.binds fun _ _ _ _ _ _ us hl=>match us,hl with | [_],_=>rfl⟩
 have F_check_plan:=aL (st:=cj) l_check_plan c_check_plan k_check_plan
 have D_check_plan:FD K mg "check_plan" cj ["thing"] _ _:=⟨F_check_plan,PySem.W.mg_of X G a_check_plan,F_check_plan.binds fun _ _ _ _ _ _ us hl=>match us,hl with | [_],_=>rfl⟩
 have F_check_moment:=aL (st:=bK) l_check_moment c_check_moment k_check_moment
 have D_check_moment:FD K mg "check_moment" bK ["thing"] _ _:=⟨F_check_moment,PySem.W.mg_of X G a_check_moment,F_check_moment.binds fun _ _ _ _ _ _ us hl=>match us,hl with | [_],_=>rfl⟩
 have F_check_stretch:=aL (st:=bC) l_check_stretch c_check_stretch k_check_stretch
 have D_check_stretch:FD K mg "check_stretch" bC ["first","last"] _ _:=⟨F_check_stretch,PySem.W.mg_of X G a_check_stretch,F_check_stretch.binds fun _ _ _ _ _ _ us hl=>match us,hl with | [_,_],_=>rfl⟩
 have F_check_deeds:=aL (st:=bX) l_check_deeds c_check_deeds k_check_deeds
 have D_check_deeds:FD K mg "check_deeds" bX ["thing"] _ _:=⟨F_check_deeds,PySem.W.mg_of X G a_check_deeds,F_check_deeds.binds fun _ _ _ _ _ _ us hl=>match us,hl with | [_],_=>rfl⟩
 have F_shown:=aL (st:=fU) l_shown c_shown k_shown
 have D_shown:FD K mg "shown" fU ["zone","moment"] _ _:=⟨F_shown,PySem.W.mg_of X G a_shown,F_shown.binds fun _ _ _ _ _ _ us hl=>match us,hl with | [_,_],_=>rfl⟩
 have F_stretches:=aL (st:=cI) l_stretches c_stretches k_stretches
 have D_stretches:FD K mg "stretches" cI ["zone"] _ _:=⟨F_stretches,PySem.W.mg_of X G a_stretches,F_stretches.binds fun _ _ _ _ _ _ us hl=>match us,hl with | [_],_=>rfl⟩
 have F_is_ahead_of:=aL (st:=bY) l_is_ahead_of c_is_ahead_of k_is_ahead_of
 have D_is_ahead_of:FD K mg "is_ahead_of" bY ["moment","end"] _ _:=⟨F_is_ahead_of,PySem.W.mg_of X G a_is_ahead_of,F_is_ahead_of.binds fun _ _ _ _ _ _ us hl=>match us,hl with | [_,_],_=>rfl⟩
 have F_first_showing:=aL (st:=bD) l_first_showing c_first_showing k_first_showing
 have D_first_showing:FD K mg "first_showing" bD ["zone","hours"] _ _:=⟨F_first_showing,PySem.W.mg_of X G a_first_showing,F_first_showing.binds fun _ _ _ _ _ _ us hl=>match us,hl with | [_,_],_=>rfl⟩
 have F_furthest_shown:=aL (st:=bu) l_furthest_shown c_furthest_shown k_furthest_shown
 have D_furthest_shown:FD K mg "furthest_shown" bu ["zone","moment"] _ _:=⟨F_furthest_shown,PySem.W.mg_of X G a_furthest_shown,F_furthest_shown.binds fun _ _ _ _ _ _ us hl=>match us,hl with | [_,_],_=>rfl⟩
 have F_first_day:=aL (st:=cJ) l_first_day c_first_day k_first_day
 have D_first_day:FD K mg "first_day" cJ ["zone","hour"] _ _:=⟨F_first_day,PySem.W.mg_of X G a_first_day,F_first_day.binds fun _ _ _ _ _ _ us hl=>match us,hl with | [_,_],_=>rfl⟩
 have F_daily_time:=aL (st:=cn) l_daily_time c_daily_time k_daily_time
 have D_daily_time:FD K mg "daily_time" cn ["zone","hour","count"] _ _:=⟨F_daily_time,PySem.W.mg_of X G a_daily_time,F_daily_time.binds fun _ _ _ _ _ _ us hl=>match us,hl with | [_,_,_],_=>rfl⟩
 have F_time_of:=aL (st:=dO) l_time_of c_time_of k_time_of
 have D_time_of:FD K mg "time_of" dO ["zone","plan","count"] _ _:=⟨F_time_of,PySem.W.mg_of X G a_time_of,F_time_of.binds fun _ _ _ _ _ _ us hl=>match us,hl with | [_,_,_],_=>rfl⟩
 have F_times_by:=aL (st:=c9) l_times_by c_times_by k_times_by
 have D_times_by:FD K mg "times_by" c9 ["zone","plan","moment"] _ _:=⟨F_times_by,PySem.W.mg_of X G a_times_by,F_times_by.binds fun _ _ _ _ _ _ us hl=>match us,hl with | [_,_,_],_=>rfl⟩
 have F_dues:=aL (st:=gU) l_dues c_dues k_dues
 have D_dues:FD K mg "dues" gU ["zone","plan","first","last"] _ _:=⟨F_dues,PySem.W.mg_of X G a_dues,F_dues.binds fun _ _ _ _ _ _ us hl=>match us,hl with | [_,_,_,_],_=>rfl⟩
 have F_rows_between:=aL (st:=bL) l_rows_between c_rows_between k_rows_between
 have D_rows_between:FD K mg "rows_between" bL ["zone","deeds","first","last"] _ _:=⟨F_rows_between,PySem.W.mg_of X G a_rows_between,F_rows_between.binds fun _ _ _ _ _ _ us hl=>match us,hl with | [_,_,_,_],_=>rfl⟩
 have F_check_calendar:=aL (st:=bv) l_check_calendar c_check_calendar k_check_calendar
 have D_check_calendar:FD K mg "check_calendar" bv ["zone","deeds","first","last"] _ _:=⟨F_check_calendar,PySem.W.mg_of X G a_check_calendar,F_check_calendar.binds fun _ _ _ _ _ _ us hl=>match us,hl with | [_,_,_,_],_=>rfl⟩
 have F_idle_stretch:=aL (st:=bM) l_idle_stretch c_idle_stretch k_idle_stretch
 have D_idle_stretch:FD K mg "idle_stretch" bM ["zone","deeds","first","last"] _ _:=⟨F_idle_stretch,PySem.W.mg_of X G a_idle_stretch,F_idle_stretch.binds fun _ _ _ _ _ _ us hl=>match us,hl with | [_,_,_,_],_=>rfl⟩
 have F_next_due:=aL (st:=da) l_next_due c_next_due k_next_due
 have D_next_due:FD K mg "next_due" da ["zone","deeds","moment"] _ _:=⟨F_next_due,PySem.W.mg_of X G a_next_due,F_next_due.binds fun _ _ _ _ _ _ us hl=>match us,hl with | [_,_,_],_=>rfl⟩
 have F__law_cell_at:=aL (st:=bN) l__law_cell_at c__law_cell_at k__law_cell_at
 have D__law_cell_at:FD K mg "_law_cell_at" bN ["_law_script","_law_k"] _ _:=⟨F__law_cell_at,PySem.W.mg_of X G a__law_cell_at,F__law_cell_at.binds fun _ _ _ _ _ _ us hl=>match us,hl with | [_,_],_=>rfl⟩
 have F__law_mixed:=aL (st:=cp) l__law_mixed c__law_mixed k__law_mixed
 have D__law_mixed:FD K mg "_law_mixed" cp ["_law_script","_law_k","_law_many"] _ _:=⟨F__law_mixed,PySem.W.mg_of X G a__law_mixed,F__law_mixed.binds fun _ _ _ _ _ _ us hl=>match us,hl with | [_,_,_],_=>rfl⟩
 have F__law_draw:=aL (st:=cK) l__law_draw c__law_draw k__law_draw
 have D__law_draw:FD K mg "_law_draw" cK ["_law_script","_law_town","_law_many"] _ _:=⟨F__law_draw,PySem.W.mg_of X G a__law_draw,F__law_draw.binds fun _ _ _ _ _ _ us hl=>match us,hl with | [_,_,_],_=>rfl⟩
 have F__law_pick:=aL (st:=cL) l__law_pick c__law_pick k__law_pick
 have D__law_pick:FD K mg "_law_pick" cL ["_law_script","_law_town","_law_some"] _ _:=⟨F__law_pick,PySem.W.mg_of X G a__law_pick,F__law_pick.binds fun _ _ _ _ _ _ us hl=>match us,hl with | [_,_,_],_=>rfl⟩
 have F__law_zone:=aL (st:=cM) l__law_zone c__law_zone k__law_zone
 have D__law_zone:FD K mg "_law_zone" cM ["_law_script","_law_town","_law_wide"] _ _:=⟨F__law_zone,PySem.W.mg_of X G a__law_zone,F__law_zone.binds fun _ _ _ _ _ _ us hl=>match us,hl with | [_,_,_],_=>rfl⟩
 have F__law_shown:=aL (st:=cq) l__law_shown c__law_shown k__law_shown
 have D__law_shown:FD K mg "_law_shown" cq ["_law_zone_here","_law_moment"] _ _:=⟨F__law_shown,PySem.W.mg_of X G a__law_shown,F__law_shown.binds fun _ _ _ _ _ _ us hl=>match us,hl with | [_,_],_=>rfl⟩
 have F__law_plan:=aL (st:=cN) l__law_plan c__law_plan k__law_plan
 have D__law_plan:FD K mg "_law_plan" cN ["_law_script","_law_town","_law_wide"] _ _:=⟨F__law_plan,PySem.W.mg_of X G a__law_plan,F__law_plan.binds fun _ _ _ _ _ _ us hl=>match us,hl with | [_,_,_],_=>rfl⟩
 have F__law_times:=aL (st:=cr) l__law_times c__law_times k__law_times
 have D__law_times:FD K mg "_law_times" cr ["_law_zone_here","_law_plan_here","_law_last"] _ _:=⟨F__law_times,PySem.W.mg_of X G a__law_times,F__law_times.binds fun _ _ _ _ _ _ us hl=>match us,hl with | [_,_,_],_=>rfl⟩
 have F__law_deeds:=aL (st:=cu) l__law_deeds c__law_deeds k__law_deeds
 have D__law_deeds:FD K mg "_law_deeds" cu ["_law_script","_law_town","_law_most","_law_wide"] _ _:=⟨F__law_deeds,PySem.W.mg_of X G a__law_deeds,F__law_deeds.binds fun _ _ _ _ _ _ us hl=>match us,hl with | [_,_,_,_],_=>rfl⟩
 have F_law:=aL (st:=s_law) l_law c_law k_law
 have D_law:FD K mg "law" s_law ["_law_script"] _ _:=⟨F_law,PySem.W.mg_of X G a_law,F_law.binds fun _ _ _ _ _ _ us hl=>match us,hl with | [_],_=>rfl⟩
 have T:Tx K mg:={
  d_is_whole:=⟨_,_,D_is_whole⟩
  d_is_tuple_of:=⟨_,_,D_is_tuple_of⟩
  d_is_ahead:=⟨_,_,D_is_ahead⟩
  d_is_moment:=⟨_,_,D_is_moment⟩
  d_are_shifts:=⟨_,_,D_are_shifts⟩
  d_is_zone:=⟨_,_,D_is_zone⟩
  d_has_word:=⟨_,_,D_has_word⟩
  d_is_plan:=⟨_,_,D_is_plan⟩
  d_is_late:=⟨_,_,D_is_late⟩
  d_is_deed:=⟨_,_,D_is_deed⟩
  d_are_deeds:=⟨_,_,D_are_deeds⟩
  d_check_zone:=⟨_,_,D_check_zone⟩
  d_check_plan:=⟨_,_,D_check_plan⟩
  d_check_moment:=⟨_,_,D_check_moment⟩
  d_check_stretch:=⟨_,_,D_check_stretch⟩
  d_check_deeds:=⟨_,_,D_check_deeds⟩
  d_shown:=⟨_,_,D_shown⟩
  d_stretches:=⟨_,_,D_stretches⟩
  d_is_ahead_of:=⟨_,_,D_is_ahead_of⟩
  d_first_showing:=⟨_,_,D_first_showing⟩
  d_furthest_shown:=⟨_,_,D_furthest_shown⟩
  d_first_day:=⟨_,_,D_first_day⟩
  d_daily_time:=⟨_,_,D_daily_time⟩
  d_time_of:=⟨_,_,D_time_of⟩
  d_times_by:=⟨_,_,D_times_by⟩
  d_dues:=⟨_,_,D_dues⟩
  d_rows_between:=⟨_,_,D_rows_between⟩
  d_check_calendar:=⟨_,_,D_check_calendar⟩
  d_idle_stretch:=⟨_,_,D_idle_stretch⟩
  d_next_due:=⟨_,_,D_next_due⟩
  d__law_cell_at:=⟨_,_,D__law_cell_at⟩
  d__law_mixed:=⟨_,_,D__law_mixed⟩
  d__law_draw:=⟨_,_,D__law_draw⟩
  d__law_pick:=⟨_,_,D__law_pick⟩
  d__law_zone:=⟨_,_,D__law_zone⟩
  d__law_shown:=⟨_,_,D__law_shown⟩
  d__law_plan:=⟨_,_,D__law_plan⟩
  d__law_times:=⟨_,_,D__law_times⟩
  d__law_deeds:=⟨_,_,D__law_deeds⟩
  c_LAST_MOMENT:=⟨_,PySem.W.mg_of X G v_LAST_MOMENT⟩
  c_LAST_HOUR:=⟨_,PySem.W.mg_of X G v_LAST_HOUR⟩
  c_LEAST_AHEAD:=⟨_,PySem.W.mg_of X G v_LEAST_AHEAD⟩
  c_MOST_AHEAD:=⟨_,PySem.W.mg_of X G v_MOST_AHEAD⟩
  c_MOST_SHIFTS:=⟨_,PySem.W.mg_of X G v_MOST_SHIFTS⟩
  c_MOST_STEP:=⟨_,PySem.W.mg_of X G v_MOST_STEP⟩
  c_MOST_DEEDS:=⟨_,PySem.W.mg_of X G v_MOST_DEEDS⟩
  c_MOST_WITHIN:=⟨_,PySem.W.mg_of X G v_MOST_WITHIN⟩
  c_DAY_HOURS:=⟨_,PySem.W.mg_of X G v_DAY_HOURS⟩
  b_all:=PySem.W.mg_none_of X G z_all
  b_bool:=PySem.W.mg_none_of X G z_bool
  b_enumerate:=PySem.W.mg_none_of X G z_enumerate
  b_int:=PySem.W.mg_none_of X G z_int
  b_isinstance:=PySem.W.mg_none_of X G z_isinstance
  b_len:=PySem.W.mg_none_of X G z_len
  b_list:=PySem.W.mg_none_of X G z_list
  b_max:=PySem.W.mg_none_of X G z_max
  b_min:=PySem.W.mg_none_of X G z_min
  b_range:=PySem.W.mg_none_of X G z_range
  b_sorted:=PySem.W.mg_none_of X G z_sorted
  b_str:=PySem.W.mg_none_of X G z_str
  b_tuple:=PySem.W.mg_none_of X G z_tuple
  b_zip:=PySem.W.mg_none_of X G z_zip
  xt0:=⟨D_,⟨⟨PySem.W.mg_of X G a_Due,a_Due,x_Due⟩,x_tab,fun c C e=>PySem.W.mg_of X G e⟩⟩
 }
 exact ⟨PySem.W.fnOf "law" "law" (aA s_law) (az s_law) (ae s_law) .none kV_law dc_law pm_law an_law cd_law ct_law,fun s v=>.of_eq rfl,fun base _ _=>(AK _ _ _ T D_law).imp fun vs H Q E h=>AT (fun ns hn=>wu hn) h⟩
theorem law_walk {l:PySem.W.OpenLaw} {q:Program} {loose:List Str} {XP:(Str->Option Value)->Heap->Prop} {YP:World->Heap->Prop} {d:DefRec} {K:Params->PySem.W.Frag} (hn:l.most=some 63) (hdf:d.params.defaults=[])
  (hY:∀ (w:World) (h:Heap),YP w h->(K w.params).In h)
  (F:∀ (w:World) (mg:Str->Option Value) (fa:Addr) (h:Heap),(K w.params).In h->h.Ns mainGlobals mg->mg d.name=some (.ref fa)->
   ∃ fd:FuncData,(∀ (s:Shared) (u:Value),BindsTo s fd ⟨[u],[]⟩ [("_law_script",u)])/\∀ base:Heap,(K w.params).In base->base.Ns mainGlobals mg->FnOk l.prog w (K w.params) mg base (CXM l.prog w) 9 fa fd ["_law_script"] (spL (K w.params))) :
  PySem.W.WalkO q loose XP YP l.row.toRowW d [] (fun f vs=>PySem.call f vs):=by
 refine L2.walk_of (n:=63) (k:=9) (x:="_law_script") (CX:=fun w=>CXM l.prog w) (sp:=fun w=>spL (K w.params)) hn (by decide) hdf ⟨rfl,by decide,by decide⟩ hY F (fun w H a ns hl hO hS=>?hsp) fun _ _ _ _ _ ⟨_,_,_,_,_,_,_,_,_,z⟩=>z
 refine ⟨a,ns,rfl,⟨hl,?_⟩,fun _=>rfl⟩
 rcases hS with (h1 | h1) | h1
 ·rcases hO a with h2 | ⟨o,xs,h2⟩
  ·rw [h2] at h1; cases h1
  ·rw [h2] at h1; cases h1
 ·exact .inl h1
 ·exact .inr h1
end K3
def PySem.W.Fast.tw10176930552442612067 : Unit := ()
def PySem.W.Fast.tw10735930801211033834 : Unit := ()
def PySem.W.Fast.tw13890445591650295017 : Unit := ()
def PySem.W.Fast.tw13955552057483421015 : Unit := ()
def PySem.W.Fast.tw16035892138015476982 : Unit := ()
def PySem.W.Fast.tw17836654465318218154 : Unit := ()
def PySem.W.Fast.tw3351302157857254326 : Unit := ()
def PySem.W.Fast.tw4076172100151986676 : Unit := ()
def PySem.W.Fast.tw655046283673318974 : Unit := ()
def PySem.W.Fast.tw7024398803711121983 : Unit := ()
def PySem.W.Fast.tw7218051280137882799 : Unit := ()
def PySem.W.Fast.tw8065955139229250501 : Unit := ()
def PySem.W.Fast.tw8828650247194506157 : Unit := ()
def PySem.W.Fast.tw9589504096082425027 : Unit := ()
open PySem PySem.W PyProof.Rows
set_option maxRecDepth 100000 in
set_option maxHeartbeats 0 in
theorem PySem.Challenge.cw_duehall_k20_whole_next_and_idle_holds : PySem.Challenge.rw_duehall_k20_whole_next_and_idle.Holds := by
  w_on; o_law; k_head; (case hw => w_witness2)
  k_fill
  refine K3.law_walk (l := PySem.Challenge.rw_duehall_k20_whole_next_and_idle) rfl rfl (fun w h Y => PySem.W.kIn_of Y) ?F
  case F =>
    intro w mg fa h KX G hmg
    refine' K3.all_mk KX G hmg ?a_is_whole ?l_is_whole ?c_is_whole ?k_is_whole ?a_is_tuple_of ?l_is_tuple_of ?c_is_tuple_of ?k_is_tuple_of ?a_is_ahead ?l_is_ahead ?c_is_ahead ?k_is_ahead ?a_is_moment ?l_is_moment ?c_is_moment ?k_is_moment ?a_are_shifts ?l_are_shifts ?c_are_shifts ?k_are_shifts ?a_is_zone ?l_is_zone ?c_is_zone ?k_is_zone ?a_has_word ?l_has_word ?c_has_word ?k_has_word ?a_is_plan ?l_is_plan ?c_is_plan ?k_is_plan ?a_is_late ?l_is_late ?c_is_late ?k_is_late ?a_is_deed ?l_is_deed ?c_is_deed ?k_is_deed ?a_are_deeds ?l_are_deeds ?c_are_deeds ?k_are_deeds ?a_check_zone ?l_check_zone ?c_check_zone ?k_check_zone ?a_check_plan ?l_check_plan ?c_check_plan ?k_check_plan ?a_check_moment ?l_check_moment ?c_check_moment ?k_check_moment ?a_check_stretch ?l_check_stretch ?c_check_stretch ?k_check_stretch ?a_check_deeds ?l_check_deeds ?c_check_deeds ?k_check_deeds ?a_shown ?l_shown ?c_shown ?k_shown ?a_stretches ?l_stretches ?c_stretches ?k_stretches ?a_is_ahead_of ?l_is_ahead_of ?c_is_ahead_of ?k_is_ahead_of ?a_first_showing ?l_first_showing ?c_first_showing ?k_first_showing ?a_furthest_shown ?l_furthest_shown ?c_furthest_shown ?k_furthest_shown ?a_first_day ?l_first_day ?c_first_day ?k_first_day ?a_daily_time ?l_daily_time ?c_daily_time ?k_daily_time ?a_time_of ?l_time_of ?c_time_of ?k_time_of ?a_times_by ?l_times_by ?c_times_by ?k_times_by ?a_dues ?l_dues ?c_dues ?k_dues ?a_rows_between ?l_rows_between ?c_rows_between ?k_rows_between ?a_check_calendar ?l_check_calendar ?c_check_calendar ?k_check_calendar ?a_idle_stretch ?l_idle_stretch ?c_idle_stretch ?k_idle_stretch ?a_next_due ?l_next_due ?c_next_due ?k_next_due ?a__law_cell_at ?l__law_cell_at ?c__law_cell_at ?k__law_cell_at ?a__law_mixed ?l__law_mixed ?c__law_mixed ?k__law_mixed ?a__law_draw ?l__law_draw ?c__law_draw ?k__law_draw ?a__law_pick ?l__law_pick ?c__law_pick ?k__law_pick ?a__law_zone ?l__law_zone ?c__law_zone ?k__law_zone ?a__law_shown ?l__law_shown ?c__law_shown ?k__law_shown ?a__law_plan ?l__law_plan ?c__law_plan ?k__law_plan ?a__law_times ?l__law_times ?c__law_times ?k__law_times ?a__law_deeds ?l__law_deeds ?c__law_deeds ?k__law_deeds ?a_law ?l_law ?c_law ?k_law ?v_LAST_MOMENT ?v_LAST_HOUR ?v_LEAST_AHEAD ?v_MOST_AHEAD ?v_MOST_SHIFTS ?v_MOST_STEP ?v_MOST_DEEDS ?v_MOST_WITHIN ?v_DAY_HOURS ?z_all ?z_bool ?z_enumerate ?z_int ?z_isinstance ?z_len ?z_list ?z_max ?z_min ?z_range ?z_sorted ?z_str ?z_tuple ?z_zip ?a_Due ?x_Due ?x_tab
    (case a_is_whole => k_is)
    (case l_is_whole => k_is)
    (case c_is_whole => k_is)
    (case k_is_whole => k_is)
    (case a_is_tuple_of => k_is)
    (case l_is_tuple_of => k_is)
    (case c_is_tuple_of => k_is)
    (case k_is_tuple_of => k_is)
    (case a_is_ahead => k_is)
    (case l_is_ahead => k_is)
    (case c_is_ahead => k_is)
    (case k_is_ahead => k_is)
    (case a_is_moment => k_is)
    (case l_is_moment => k_is)
    (case c_is_moment => k_is)
    (case k_is_moment => k_is)
    (case a_are_shifts => k_is)
    (case l_are_shifts => k_is)
    (case c_are_shifts => k_is)
    (case k_are_shifts => k_is)
    (case a_is_zone => k_is)
    (case l_is_zone => k_is)
    (case c_is_zone => k_is)
    (case k_is_zone => k_is)
    (case a_has_word => k_is)
    (case l_has_word => k_is)
    (case c_has_word => k_is)
    (case k_has_word => k_is)
    (case a_is_plan => k_is)
    (case l_is_plan => k_is)
    (case c_is_plan => k_is)
    (case k_is_plan => k_is)
    (case a_is_late => k_is)
    (case l_is_late => k_is)
    (case c_is_late => k_is)
    (case k_is_late => k_is)
    (case a_is_deed => k_is)
    (case l_is_deed => k_is)
    (case c_is_deed => k_is)
    (case k_is_deed => k_is)
    (case a_are_deeds => k_is)
    (case l_are_deeds => k_is)
    (case c_are_deeds => k_is)
    (case k_are_deeds => k_is)
    (case a_check_zone => k_is)
    (case l_check_zone => k_is)
    (case c_check_zone => k_is)
    (case k_check_zone => k_is)
    (case a_check_plan => k_is)
    (case l_check_plan => k_is)
    (case c_check_plan => k_is)
    (case k_check_plan => k_is)
    (case a_check_moment => k_is)
    (case l_check_moment => k_is)
    (case c_check_moment => k_is)
    (case k_check_moment => k_is)
    (case a_check_stretch => k_is)
    (case l_check_stretch => k_is)
    (case c_check_stretch => k_is)
    (case k_check_stretch => k_is)
    (case a_check_deeds => k_is)
    (case l_check_deeds => k_is)
    (case c_check_deeds => k_is)
    (case k_check_deeds => k_is)
    (case a_shown => k_is)
    (case l_shown => k_is)
    (case c_shown => k_is)
    (case k_shown => k_is)
    (case a_stretches => k_is)
    (case l_stretches => k_is)
    (case c_stretches => k_is)
    (case k_stretches => k_is)
    (case a_is_ahead_of => k_is)
    (case l_is_ahead_of => k_is)
    (case c_is_ahead_of => k_is)
    (case k_is_ahead_of => k_is)
    (case a_first_showing => k_is)
    (case l_first_showing => k_is)
    (case c_first_showing => k_is)
    (case k_first_showing => k_is)
    (case a_furthest_shown => k_is)
    (case l_furthest_shown => k_is)
    (case c_furthest_shown => k_is)
    (case k_furthest_shown => k_is)
    (case a_first_day => k_is)
    (case l_first_day => k_is)
    (case c_first_day => k_is)
    (case k_first_day => k_is)
    (case a_daily_time => k_is)
    (case l_daily_time => k_is)
    (case c_daily_time => k_is)
    (case k_daily_time => k_is)
    (case a_time_of => k_is)
    (case l_time_of => k_is)
    (case c_time_of => k_is)
    (case k_time_of => k_is)
    (case a_times_by => k_is)
    (case l_times_by => k_is)
    (case c_times_by => k_is)
    (case k_times_by => k_is)
    (case a_dues => k_is)
    (case l_dues => k_is)
    (case c_dues => k_is)
    (case k_dues => k_is)
    (case a_rows_between => k_is)
    (case l_rows_between => k_is)
    (case c_rows_between => k_is)
    (case k_rows_between => k_is)
    (case a_check_calendar => k_is)
    (case l_check_calendar => k_is)
    (case c_check_calendar => k_is)
    (case k_check_calendar => k_is)
    (case a_idle_stretch => k_is)
    (case l_idle_stretch => k_is)
    (case c_idle_stretch => k_is)
    (case k_idle_stretch => k_is)
    (case a_next_due => k_is)
    (case l_next_due => k_is)
    (case c_next_due => k_is)
    (case k_next_due => k_is)
    (case a__law_cell_at => k_is)
    (case l__law_cell_at => k_is)
    (case c__law_cell_at => k_is)
    (case k__law_cell_at => k_is)
    (case a__law_mixed => k_is)
    (case l__law_mixed => k_is)
    (case c__law_mixed => k_is)
    (case k__law_mixed => k_is)
    (case a__law_draw => k_is)
    (case l__law_draw => k_is)
    (case c__law_draw => k_is)
    (case k__law_draw => k_is)
    (case a__law_pick => k_is)
    (case l__law_pick => k_is)
    (case c__law_pick => k_is)
    (case k__law_pick => k_is)
    (case a__law_zone => k_is)
    (case l__law_zone => k_is)
    (case c__law_zone => k_is)
    (case k__law_zone => k_is)
    (case a__law_shown => k_is)
    (case l__law_shown => k_is)
    (case c__law_shown => k_is)
    (case k__law_shown => k_is)
    (case a__law_plan => k_is)
    (case l__law_plan => k_is)
    (case c__law_plan => k_is)
    (case k__law_plan => k_is)
    (case a__law_times => k_is)
    (case l__law_times => k_is)
    (case c__law_times => k_is)
    (case k__law_times => k_is)
    (case a__law_deeds => k_is)
    (case l__law_deeds => k_is)
    (case c__law_deeds => k_is)
    (case k__law_deeds => k_is)
    (case a_law => k_is)
    (case l_law => k_is)
    (case c_law => k_is)
    (case k_law => k_is)
    (case v_LAST_MOMENT => k_is)
    (case v_LAST_HOUR => k_is)
    (case v_LEAST_AHEAD => k_is)
    (case v_MOST_AHEAD => k_is)
    (case v_MOST_SHIFTS => k_is)
    (case v_MOST_STEP => k_is)
    (case v_MOST_DEEDS => k_is)
    (case v_MOST_WITHIN => k_is)
    (case v_DAY_HOURS => k_is)
    (case z_all => k_is)
    (case z_bool => k_is)
    (case z_enumerate => k_is)
    (case z_int => k_is)
    (case z_isinstance => k_is)
    (case z_len => k_is)
    (case z_list => k_is)
    (case z_max => k_is)
    (case z_min => k_is)
    (case z_range => k_is)
    (case z_sorted => k_is)
    (case z_str => k_is)
    (case z_tuple => k_is)
    (case z_zip => k_is)
    (case a_Due => k_is)
    (case x_Due => first | kernel_rfl | rfl)
    (case x_tab => first | kernel_rfl | rfl)
